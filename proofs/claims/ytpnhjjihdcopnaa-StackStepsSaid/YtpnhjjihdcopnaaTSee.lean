/- Both stack machines are held against one another. -/
import Derived.Test.YtpnhjjihdcopnaaTRun
import Derived.Test.YtpnhjjihdcopnaaGWait
import Derived.Test.YtpnhjjihdcopnaaSNew
set_option linter.unusedSimpArgs false
set_option linter.unusedVariables false
namespace Go.Proofs.Ytpnhjjihdcopnaa
open Go.RowKit M
variable {Q : Nat → Prop}

theorem helpResult9_same (b1 b2 : Nat) (r1 r2 : Value) (B : List Nat) (f t : Int) (w : World) (h1 : Src w b1 r1 (U8s B)) (h2 : Src w b2 r2 (U8s B)) :
    Calls Try.prog 15 #[.agg #[r1, .int .i64 f, .int .i64 t], .agg #[r2, .int .i64 f, .int .i64 t]] w fun e w' => e = .returned (.bool true) ∧ Only Nil w w' := by
  have e1 : ∃ ao n cap, r1 = .slice ao n cap := by obtain ⟨ao, cap, off, h, _⟩ := h1; exact ⟨_, _, _, h⟩
  have e2 : ∃ ao n cap, r2 = .slice ao n cap := by obtain ⟨ao, cap, off, h, _⟩ := h2; exact ⟨_, _, _, h⟩
  obtain ⟨a1, n1, c1, rfl⟩ := e1
  obtain ⟨a2, n2, c2, rfl⟩ := e2
  have ho : Only Nil w ((w.alloc (.cells #[Value.slice a1 n1 c1, .int .i64 f, .int .i64 t] 34)).alloc (.cells #[Value.slice a2 n2 c2, .int .i64 f, .int .i64 t] 34)) := ((Only.refl Nil w).alloc _).alloc _
  have v1 := conv_src _ _ _ B (h1.kept ho (fun _ h => h))
  have v2 := conv_src _ _ _ B (h2.kept ho (fun _ h => h))
  obtain ⟨T, hT⟩ : ∃ T, strOf B = T := ⟨_, rfl⟩
  rw [hT] at v1 v2
  have HO := Lib.hid ho
  clear h1 h2 hT ho
  go_enter Try.func15, Try.ntmps15
  go_wp2_with fail
  go_ret
  exact ⟨by simp, HO.out⟩

structure SSpot where
  mb : Nat
  wb : Nat
  cv : Value
  sv : Value
  kv : Value
  iv : Value
  ov : Value
def SSpot.own (p : SSpot) : Nat → Prop := OwnS p.mb p.wb p.sv.ownBlock p.kv.ownBlock p.ov.ownBlock
structure TSpot where
  db : Nat
  vb : Nat
  lv : Value
  pv : Value
  kv : Value
  iv : Value
  ov : Value
def TSpot.own (d : TSpot) : Nat → Prop := OwnT d.db d.vb d.ov.ownBlock
theorem SAt.ownLt {w : World} {mb wb : Nat} {code : List Cod} {s : SS} {cv sv kv iv ov : Value} (h : SAt Q w mb wb code s cv sv kv iv ov) {k : Nat} (hk : OwnS mb wb sv.ownBlock kv.ownBlock ov.ownBlock k) : k < w.heap.size := by
  rcases hk with e | e | e | e | e
  · rw [e]; exact h.blk.lt
  · rw [e]; exact h.wrd.lt
  · exact (h.ops.lt _ e.symm).2
  · exact (h.cls.lt _ e.symm).2
  · exact (h.out.lt _ e.symm).2
theorem TAt.ownLt {w : World} {db vb : Nat} {code : List Cod} {s : SS} {lv pv kv iv ov : Value} (h : TAt Q w db vb code s lv pv kv iv ov) {k : Nat} (hk : OwnT db vb ov.ownBlock k) : k < w.heap.size := by
  rcases hk with e | e | e
  · rw [e]; exact h.blk.lt
  · rw [e]; exact h.wrd.lt
  · exact (h.out.lt _ e.symm).2
theorem Gone.own {w w' : World} {mb wb : Nat} {sv kv ov sv' kv' ov' : Value} (h : Gone w w' mb wb sv kv ov sv' kv' ov') {k : Nat} (hk : OwnS mb wb sv'.ownBlock kv'.ownBlock ov'.ownBlock k) : OwnS mb wb sv.ownBlock kv.ownBlock ov.ownBlock k ∨ w.heap.size ≤ k := by
  have f : ∀ {x y : Option Nat}, (y = x ∨ ∃ k, y = some k ∧ w.heap.size ≤ k) → some k = y → some k = x ∨ w.heap.size ≤ k := by
    intro x y h1 h2
    rcases h1 with h1 | ⟨j, h1, h3⟩
    · exact Or.inl (by rw [← h1]; exact h2)
    · rw [h1] at h2; injection h2 with h2; exact Or.inr (by omega)
  rcases hk with e | e | e | e | e
  · exact Or.inl (Or.inl e)
  · exact Or.inl (Or.inr (Or.inl e))
  · exact (f h.s e).imp (fun h => Or.inr (Or.inr (Or.inl h))) id
  · exact (f h.k e).imp (fun h => Or.inr (Or.inr (Or.inr (Or.inl h)))) id
  · exact (f h.o e).imp (fun h => Or.inr (Or.inr (Or.inr (Or.inr h)))) id
theorem TGone.own {w w' : World} {db vb : Nat} {ov ov' : Value} (h : TGone w w' db vb ov ov') {k : Nat} (hk : OwnT db vb ov'.ownBlock k) : OwnT db vb ov.ownBlock k ∨ w.heap.size ≤ k := by
  rcases hk with e | e | e
  · exact Or.inl (Or.inl e)
  · exact Or.inl (Or.inr (Or.inl e))
  · rcases h.o with h1 | ⟨j, h1, h3⟩
    · exact Or.inl (Or.inr (Or.inr (by rw [← h1]; exact e)))
    · rw [h1] at e; injection e with e; exact Or.inr (by omega)
/-- The program's machine and the document's, beside each other. -/
structure PairS (w : World) (p : SSpot) (d : TSpot) (code : List Cod) (s t : SS) : Prop where
  pm : SAt d.own w p.mb p.wb code s p.cv p.sv p.kv p.iv p.ov
  pd : TAt p.own w d.db d.vb code t d.lv d.pv d.kv d.iv d.ov
  ne : ∀ k, p.own k → ¬ d.own k
theorem PairS.quiet {w w' : World} {p : SSpot} {d : TSpot} {code : List Cod} {s t : SS} (h : PairS w p d code s t) (ho : Only Nil w w') : PairS w' p d code s t := ⟨h.pm.quiet ho, h.pd.quiet ho, h.ne⟩
theorem PairS.wentM {w w' : World} {p : SSpot} {d : TSpot} {code : List Cod} {s s' t : SS} (h : PairS w p d code s t) {sv' kv' iv' ov' : Value} (hw : Gone w w' p.mb p.wb p.sv p.kv p.ov sv' kv' ov') (hM : SAt d.own w' p.mb p.wb code s' p.cv sv' kv' iv' ov') : PairS w' ⟨p.mb, p.wb, p.cv, sv', kv', iv', ov'⟩ d code s' t := by
  have hlt : ∀ k, d.own k → k < w.heap.size := fun k hk => h.pd.ownLt hk
  have hD : TAt (fun k => p.own k ∨ OwnS p.mb p.wb sv'.ownBlock kv'.ownBlock ov'.ownBlock k) w d.db d.vb code t d.lv d.pv d.kv d.iv d.ov := h.pd.less (fun k hk hh => hh.elim id (fun hh => (hw.own hh).elim id (fun hh => absurd hh (Nat.not_le.2 hk))))
  have hD' := hD.apart hw.only (fun k hk hd => h.ne k hk hd) (fun k hk => Or.inl hk)
  refine ⟨hM, hD'.less (fun k _ hk => Or.inr hk), fun k hk hd => ?_⟩
  rcases hw.own hk with h1 | h1
  · exact h.ne k h1 hd
  · exact absurd (hlt k hd) (by omega)
theorem PairS.wentD {w w' : World} {p : SSpot} {d : TSpot} {code : List Cod} {s t t' : SS} (h : PairS w p d code s t) {pv' kv' iv' ov' : Value} (hw : TGone w w' d.db d.vb d.ov ov') (hM : TAt p.own w' d.db d.vb code t' d.lv pv' kv' iv' ov') : PairS w' p ⟨d.db, d.vb, d.lv, pv', kv', iv', ov'⟩ code s t' := by
  have hlt : ∀ k, p.own k → k < w.heap.size := fun k hk => h.pm.ownLt hk
  have hD : SAt (fun k => d.own k ∨ OwnT d.db d.vb ov'.ownBlock k) w p.mb p.wb code s p.cv p.sv p.kv p.iv p.ov := h.pm.less (fun k hk hh => hh.elim id (fun hh => (hw.own hh).elim id (fun hh => absurd hh (Nat.not_le.2 hk))))
  have hD' := hD.apart hw.only (fun k hk hp => h.ne k hp hk) (fun k hk => Or.inl hk)
  refine ⟨hD'.less (fun k _ hk => Or.inr hk), hM, fun k hk hd => ?_⟩
  rcases hw.own hd with h1 | h1
  · exact h.ne k hk h1
  · exact absurd (hlt k hk) (by omega)
/-- What both write to lies behind b. -/
def PairS.Behind (p : SSpot) (d : TSpot) (b : Nat) : Prop := (∀ k, p.own k → b ≤ k) ∧ ∀ k, d.own k → b ≤ k
theorem PairS.behindM {w w' : World} {p : SSpot} {d : TSpot} {b : Nat} (h : PairS.Behind p d b) {sv' kv' iv' ov' : Value} (hw : Gone w w' p.mb p.wb p.sv p.kv p.ov sv' kv' ov') (hb : b ≤ w.heap.size) : PairS.Behind ⟨p.mb, p.wb, p.cv, sv', kv', iv', ov'⟩ d b :=
  ⟨fun k hk => (hw.own hk).elim (fun h1 => h.1 k h1) (fun h1 => by omega), h.2⟩
theorem PairS.behindD {w w' : World} {p : SSpot} {d : TSpot} {b : Nat} (h : PairS.Behind p d b) {pv' kv' iv' ov' : Value} (hw : TGone w w' d.db d.vb d.ov ov') (hb : b ≤ w.heap.size) : PairS.Behind p ⟨d.db, d.vb, d.lv, pv', kv', iv', ov'⟩ b :=
  ⟨h.1, fun k hk => (hw.own hk).elim (fun h1 => h.2 k h1) (fun h1 => by omega)⟩
theorem only_goneS {w w1 w2 : World} {mb wb : Nat} {sv kv ov sv' kv' ov' : Value} (h : Only Nil w w1) (hw : Gone w1 w2 mb wb sv kv ov sv' kv' ov') (hb : ∀ k, OwnS mb wb sv.ownBlock kv.ownBlock ov.ownBlock k → w.heap.size ≤ k) : Only Nil w w2 :=
  h.trans hw.only (fun i hi hS => absurd hi (by have := hb i hS; omega))
theorem only_goneT {w w1 w2 : World} {db vb : Nat} {ov ov' : Value} (h : Only Nil w w1) (hw : TGone w1 w2 db vb ov ov') (hb : ∀ k, OwnT db vb ov.ownBlock k → w.heap.size ≤ k) : Only Nil w w2 :=
  h.trans hw.only (fun i hi hS => absurd hi (by have := hb i hS; omega))
theorem rd_src {S : Nat → Prop} {w : World} {v : Value} {n : Nat} {xs : List Value} (h : RdRow S w v n xs) (hl : xs.length = n) : ∃ b, Src w b v xs := by
  obtain ⟨b, ao, cap, off, rfl, h2, h3, h4, h5, h6⟩ := h
  refine ⟨b, ao, cap, off, by rw [hl], fun h0 => ?_, fun h0 => ?_, h5⟩
  · rcases h4 with h4 | ⟨_, h4⟩
    · exact h4
    · omega
  · rcases h4 with h4 | h4
    · rw [h4] at h0; cases h0
    · exact h4.2

set_option maxRecDepth 20000 in
set_option maxHeartbeats 3200000 in
/-- Machines that hold the same are told to be the same. -/
theorem same9_any (p : SSpot) (d : TSpot) (code : List Cod) (s : SS) (w : World) (h : PairS w p d code s s) (hs : s.Ok) (hol : s.out.length ≤ 1099511627776) :
    Calls Try.prog 13 #[.pointer (some ⟨p.mb, 0, none⟩), .pointer (some ⟨d.db, 0, none⟩)] w fun e w' => e = .returned (.bool true) ∧ Only Nil w w' := by
  obtain ⟨mb, wb, cv, sv, kv, iv, ov⟩ := p
  obtain ⟨db, vb, lv, dpv, dkv, div, dov⟩ := d
  have cF := frameS_any mb wb code s cv sv kv iv ov w h.pm
  go_enter Try.func13, Try.ntmps13
  go_wp2_with fail
  refine cF.mono ?_
  rintro e w8 ⟨rfl, ho8⟩
  clear cF
  have hP8 := h.quiet ho8
  have d3 : w8.cell? ⟨db, 3, none⟩ = some (.int .i64 (s.fp : Nat)) := hP8.pd.blk.cell 3
  have d4 : w8.cell? ⟨db, 4, none⟩ = some (.int .i64 (s.top : Nat)) := hP8.pd.blk.cell 4
  have d5 : w8.cell? ⟨db, 5, none⟩ = some (.int .i64 s.pc) := hP8.pd.blk.cell 5
  have d2 : w8.cell? ⟨db, 2, none⟩ = some dpv := hP8.pd.blk.cell 2
  have hltd := hP8.pd.blk.lt
  obtain ⟨ob, hob⟩ := rd_src hP8.pd.ops (I32s_len _)
  have HSRC := Lib.hid (show ∀ w', Only Nil w8 w' → Src w' ob dpv (I32s s.ops) from fun w' ho => hob.kept ho (fun _ h => h))
  have HO8 := Lib.hid ho8
  clear h ho8 hob
  go_wp2_with fail
  have hS : Only Nil w8 w8.drew := (Only.refl Nil w8).drew
  refine wp_region_T (fun w' => Only Nil w8 w') [] (by kernel_rfl) ?_
  refine wpAnyT_take 0 (v := ?_) rfl (by kernel_rfl) (by kernel_rfl) (by kernel_rfl) (fun _ _ _ h => h) (by kernel_rfl) (by kernel_rfl) (Or.inl ⟨by kernel_rfl, ?_⟩) hS ?_
  rotate_left
  · (intro w' hw'; have d2' := M.Only.cell hw' d2 (fun h => h); have d3' := M.Only.cell hw' d3 (fun h => h); have d4' := M.Only.cell hw' d4 (fun h => h); have d5' := M.Only.cell hw' d5 (fun h => h); have hl' := Nat.lt_of_lt_of_le hltd hw'.size; go_simp; (try with_reducible rfl))
  refine wpAnyT_take 1 (v := ?_) rfl (by kernel_rfl) (by kernel_rfl) (by kernel_rfl) (fun _ _ _ h => h) (by kernel_rfl) (by kernel_rfl) (Or.inl ⟨by kernel_rfl, ?_⟩) hS ?_
  rotate_left
  · (intro w' hw'; have d2' := M.Only.cell hw' d2 (fun h => h); have d3' := M.Only.cell hw' d3 (fun h => h); have d4' := M.Only.cell hw' d4 (fun h => h); have d5' := M.Only.cell hw' d5 (fun h => h); have hl' := Nat.lt_of_lt_of_le hltd hw'.size; go_simp; (try with_reducible rfl))
  refine wpAnyT_take 2 (v := ?_) rfl (by kernel_rfl) (by kernel_rfl) (by kernel_rfl) (fun _ _ _ h => h) (by kernel_rfl) (by kernel_rfl) (Or.inl ⟨by kernel_rfl, ?_⟩) hS ?_
  rotate_left
  · (intro w' hw'; have d2' := M.Only.cell hw' d2 (fun h => h); have d3' := M.Only.cell hw' d3 (fun h => h); have d4' := M.Only.cell hw' d4 (fun h => h); have d5' := M.Only.cell hw' d5 (fun h => h); have hl' := Nat.lt_of_lt_of_le hltd hw'.size; go_simp; (try with_reducible rfl))
  refine wpAnyT_take 3 (v := ?_) rfl (by kernel_rfl) (by kernel_rfl) (by kernel_rfl) (fun _ _ _ h => h) (by kernel_rfl) (by kernel_rfl) (Or.inl ⟨by kernel_rfl, ?_⟩) hS ?_
  rotate_left
  · (intro w' hw'; have d2' := M.Only.cell hw' d2 (fun h => h); have d3' := M.Only.cell hw' d3 (fun h => h); have d4' := M.Only.cell hw' d4 (fun h => h); have d5' := M.Only.cell hw' d5 (fun h => h); have hl' := Nat.lt_of_lt_of_le hltd hw'.size; go_simp; (try with_reducible rfl))
  refine wpAnyT_take 4 (v := ?_) rfl (by kernel_rfl) (by kernel_rfl) (by kernel_rfl) (fun _ _ _ h => h) (by kernel_rfl) (by kernel_rfl) (Or.inl ⟨by kernel_rfl, ?_⟩) hS ?_
  rotate_left
  · (intro w' hw'; have d2' := M.Only.cell hw' d2 (fun h => h); have d3' := M.Only.cell hw' d3 (fun h => h); have d4' := M.Only.cell hw' d4 (fun h => h); have d5' := M.Only.cell hw' d5 (fun h => h); have hl' := Nat.lt_of_lt_of_le hltd hw'.size; go_simp; (try with_reducible rfl))
  refine wpAnyT_take 5 (v := ?_) rfl (by kernel_rfl) (by kernel_rfl) (by kernel_rfl) (fun _ _ _ h => h) (by kernel_rfl) (by kernel_rfl) (Or.inl ⟨by kernel_rfl, ?_⟩) hS ?_
  rotate_left
  · (intro w' hw'; have d2' := M.Only.cell hw' d2 (fun h => h); have d3' := M.Only.cell hw' d3 (fun h => h); have d4' := M.Only.cell hw' d4 (fun h => h); have d5' := M.Only.cell hw' d5 (fun h => h); have hl' := Nat.lt_of_lt_of_le hltd hw'.size; go_simp; (try with_reducible rfl))
  refine wpAnyT_take 6 (v := ?_) rfl (by kernel_rfl) (by kernel_rfl) (by kernel_rfl) (fun _ _ _ h => h) (by kernel_rfl) (by kernel_rfl) (Or.inl ⟨by kernel_rfl, ?_⟩) hS ?_
  rotate_left
  · (intro w' hw'; have d2' := M.Only.cell hw' d2 (fun h => h); have d3' := M.Only.cell hw' d3 (fun h => h); have d4' := M.Only.cell hw' d4 (fun h => h); have d5' := M.Only.cell hw' d5 (fun h => h); have hl' := Nat.lt_of_lt_of_le hltd hw'.size; go_simp; (try with_reducible rfl))
  refine wpAnyT_take 7 (v := ?_) rfl (by kernel_rfl) (by kernel_rfl) (by kernel_rfl) (fun _ _ _ h => h) (by kernel_rfl) (by kernel_rfl) (Or.inl ⟨by kernel_rfl, ?_⟩) hS ?_
  rotate_left
  · (intro w' hw'; have d2' := M.Only.cell hw' d2 (fun h => h); have d3' := M.Only.cell hw' d3 (fun h => h); have d4' := M.Only.cell hw' d4 (fun h => h); have d5' := M.Only.cell hw' d5 (fun h => h); have hl' := Nat.lt_of_lt_of_le hltd hw'.size; go_simp; (try with_reducible rfl))
  refine wpAnyT_take 8 (v := ?_) rfl (by kernel_rfl) (by kernel_rfl) (by kernel_rfl) (fun _ _ _ h => h) (by kernel_rfl) (by kernel_rfl) (Or.inl ⟨by kernel_rfl, ?_⟩) hS ?_
  rotate_left
  · (intro w' hw'; have d2' := M.Only.cell hw' d2 (fun h => h); have d3' := M.Only.cell hw' d3 (fun h => h); have d4' := M.Only.cell hw' d4 (fun h => h); have d5' := M.Only.cell hw' d5 (fun h => h); have hl' := Nat.lt_of_lt_of_le hltd hw'.size; go_simp; (try with_reducible rfl))
  refine wpAnyT_take 9 (v := ?_) rfl (by kernel_rfl) (by kernel_rfl) (by kernel_rfl) (fun _ _ _ h => h) (by kernel_rfl) (by kernel_rfl) (Or.inl ⟨by kernel_rfl, ?_⟩) hS ?_
  rotate_left
  · (intro w' hw'; have d2' := M.Only.cell hw' d2 (fun h => h); have d3' := M.Only.cell hw' d3 (fun h => h); have d4' := M.Only.cell hw' d4 (fun h => h); have d5' := M.Only.cell hw' d5 (fun h => h); have hl' := Nat.lt_of_lt_of_le hltd hw'.size; go_simp; (try with_reducible rfl))
  refine wpAnyT_take 10 (v := ?_) rfl (by kernel_rfl) (by kernel_rfl) (by kernel_rfl) (fun _ _ _ h => h) (by kernel_rfl) (by kernel_rfl) (Or.inl ⟨by kernel_rfl, ?_⟩) hS ?_
  rotate_left
  · (intro w' hw'; have d2' := M.Only.cell hw' d2 (fun h => h); have d3' := M.Only.cell hw' d3 (fun h => h); have d4' := M.Only.cell hw' d4 (fun h => h); have d5' := M.Only.cell hw' d5 (fun h => h); have hl' := Nat.lt_of_lt_of_le hltd hw'.size; go_simp; (try with_reducible rfl))
  refine wpAnyT_take 11 (v := ?_) rfl (by kernel_rfl) (by kernel_rfl) (by kernel_rfl) (fun _ _ _ h => h) (by kernel_rfl) (by kernel_rfl) (Or.inl ⟨by kernel_rfl, ?_⟩) hS ?_
  rotate_left
  · (intro w' hw'; have d2' := M.Only.cell hw' d2 (fun h => h); have d3' := M.Only.cell hw' d3 (fun h => h); have d4' := M.Only.cell hw' d4 (fun h => h); have d5' := M.Only.cell hw' d5 (fun h => h); have hl' := Nat.lt_of_lt_of_le hltd hw'.size; go_simp; (try with_reducible rfl))
  refine wpAnyT_take 12 (v := ?_) rfl (by kernel_rfl) (by kernel_rfl) (by kernel_rfl) (fun _ _ _ h => h) (by kernel_rfl) (by kernel_rfl) (Or.inl ⟨by kernel_rfl, ?_⟩) hS ?_
  rotate_left
  · (intro w' hw'; have d2' := M.Only.cell hw' d2 (fun h => h); have d3' := M.Only.cell hw' d3 (fun h => h); have d4' := M.Only.cell hw' d4 (fun h => h); have d5' := M.Only.cell hw' d5 (fun h => h); have hl' := Nat.lt_of_lt_of_le hltd hw'.size; go_simp; (try with_reducible rfl))
  refine wpAnyT_take 13 (v := ?_) rfl (by kernel_rfl) (by kernel_rfl) (by kernel_rfl) (fun _ _ _ h => h) (by kernel_rfl) (by kernel_rfl) (Or.inl ⟨by kernel_rfl, ?_⟩) hS ?_
  rotate_left
  · (intro w' hw'; have d2' := M.Only.cell hw' d2 (fun h => h); have d3' := M.Only.cell hw' d3 (fun h => h); have d4' := M.Only.cell hw' d4 (fun h => h); have d5' := M.Only.cell hw' d5 (fun h => h); have hl' := Nat.lt_of_lt_of_le hltd hw'.size; go_simp; (try with_reducible rfl))
  refine wpAnyT_take 14 (v := ?_) rfl (by kernel_rfl) (by kernel_rfl) (by kernel_rfl) (fun _ _ _ h => h) (by kernel_rfl) (by kernel_rfl) (Or.inl ⟨by kernel_rfl, ?_⟩) hS ?_
  rotate_left
  · (intro w' hw'; have d2' := M.Only.cell hw' d2 (fun h => h); have d3' := M.Only.cell hw' d3 (fun h => h); have d4' := M.Only.cell hw' d4 (fun h => h); have d5' := M.Only.cell hw' d5 (fun h => h); have hl' := Nat.lt_of_lt_of_le hltd hw'.size; go_simp; (try with_reducible rfl))
  refine wpAnyT_take 15 (v := ?_) rfl (by kernel_rfl) (by kernel_rfl) (by kernel_rfl) (fun _ _ _ h => h) (by kernel_rfl) (by kernel_rfl) (Or.inl ⟨by kernel_rfl, ?_⟩) hS ?_
  rotate_left
  · (intro w' hw'; have d2' := M.Only.cell hw' d2 (fun h => h); have d3' := M.Only.cell hw' d3 (fun h => h); have d4' := M.Only.cell hw' d4 (fun h => h); have d5' := M.Only.cell hw' d5 (fun h => h); have hl' := Nat.lt_of_lt_of_le hltd hw'.size; go_simp; (try with_reducible rfl))
  refine wpAnyT_take 17 (v := ?_) rfl (by kernel_rfl) (by kernel_rfl) (by kernel_rfl) (fun _ _ _ h => h) (by kernel_rfl) (by kernel_rfl) (Or.inl ⟨by kernel_rfl, ?_⟩) hS ?_
  rotate_left
  · (intro w' hw'; have d2' := M.Only.cell hw' d2 (fun h => h); have d3' := M.Only.cell hw' d3 (fun h => h); have d4' := M.Only.cell hw' d4 (fun h => h); have d5' := M.Only.cell hw' d5 (fun h => h); have hl' := Nat.lt_of_lt_of_le hltd hw'.size; go_simp; (try with_reducible rfl))
  refine wpAnyT_take 18 (v := ?_) rfl (by kernel_rfl) (by kernel_rfl) (by kernel_rfl) (fun _ _ _ h => h) (by kernel_rfl) (by kernel_rfl) (Or.inl ⟨by kernel_rfl, ?_⟩) hS ?_
  rotate_left
  · (intro w' hw'; have d2' := M.Only.cell hw' d2 (fun h => h); have d3' := M.Only.cell hw' d3 (fun h => h); have d4' := M.Only.cell hw' d4 (fun h => h); have d5' := M.Only.cell hw' d5 (fun h => h); have hl' := Nat.lt_of_lt_of_le hltd hw'.size; go_simp; (try with_reducible rfl))
  refine wpAnyT_take 19 (v := ?_) rfl (by kernel_rfl) (by kernel_rfl) (by kernel_rfl) (fun _ _ _ h => h) (by kernel_rfl) (by kernel_rfl) (Or.inl ⟨by kernel_rfl, ?_⟩) hS ?_
  rotate_left
  · (intro w' hw'; have d2' := M.Only.cell hw' d2 (fun h => h); have d3' := M.Only.cell hw' d3 (fun h => h); have d4' := M.Only.cell hw' d4 (fun h => h); have d5' := M.Only.cell hw' d5 (fun h => h); have hl' := Nat.lt_of_lt_of_le hltd hw'.size; go_simp; (try with_reducible rfl))
  refine wpAnyT_take 20 (v := ?_) rfl (by kernel_rfl) (by kernel_rfl) (by kernel_rfl) (fun _ _ _ h => h) (by kernel_rfl) (by kernel_rfl) (Or.inl ⟨by kernel_rfl, ?_⟩) hS ?_
  rotate_left
  · (intro w' hw'; have d2' := M.Only.cell hw' d2 (fun h => h); have d3' := M.Only.cell hw' d3 (fun h => h); have d4' := M.Only.cell hw' d4 (fun h => h); have d5' := M.Only.cell hw' d5 (fun h => h); have hl' := Nat.lt_of_lt_of_le hltd hw'.size; go_simp; (try with_reducible rfl))
  refine wpAnyT_one (i := 16) rfl (by kernel_rfl) (fun K hK => ?_)
  go_simp
  go_wp2_with (first | (go_at_call 28; refine (pcS_any mb wb code s cv sv kv iv ov _ (hP8.pm.quiet hS)).mono ?_; rintro e w9 ⟨rfl, rfl⟩))
  refine hK.out _ _ (fun _ => hS) ?_
  clear hK K
  refine wpAnyT_take 21 (v := ?_) rfl (by kernel_rfl) (by kernel_rfl) (by kernel_rfl) (fun _ _ _ h => h) (by kernel_rfl) (by kernel_rfl) (Or.inl ⟨by kernel_rfl, ?_⟩) hS ?_
  rotate_left
  · (intro w' hw'; have d2' := M.Only.cell hw' d2 (fun h => h); have d3' := M.Only.cell hw' d3 (fun h => h); have d4' := M.Only.cell hw' d4 (fun h => h); have d5' := M.Only.cell hw' d5 (fun h => h); have hl' := Nat.lt_of_lt_of_le hltd hw'.size; go_simp; (try with_reducible rfl))
  refine wpAnyT_take 22 (v := ?_) rfl (by kernel_rfl) (by kernel_rfl) (by kernel_rfl) (fun _ _ _ h => h) (by kernel_rfl) (by kernel_rfl) (Or.inl ⟨by kernel_rfl, ?_⟩) hS ?_
  rotate_left
  · (intro w' hw'; have d2' := M.Only.cell hw' d2 (fun h => h); have d3' := M.Only.cell hw' d3 (fun h => h); have d4' := M.Only.cell hw' d4 (fun h => h); have d5' := M.Only.cell hw' d5 (fun h => h); have hl' := Nat.lt_of_lt_of_le hltd hw'.size; go_simp; (try with_reducible rfl))
  refine wpAnyT_take 23 (v := ?_) rfl (by kernel_rfl) (by kernel_rfl) (by kernel_rfl) (fun _ _ _ h => h) (by kernel_rfl) (by kernel_rfl) (Or.inl ⟨by kernel_rfl, ?_⟩) hS ?_
  rotate_left
  · (intro w' hw'; have d2' := M.Only.cell hw' d2 (fun h => h); have d3' := M.Only.cell hw' d3 (fun h => h); have d4' := M.Only.cell hw' d4 (fun h => h); have d5' := M.Only.cell hw' d5 (fun h => h); have hl' := Nat.lt_of_lt_of_le hltd hw'.size; go_simp; (try with_reducible rfl))
  refine wpAnyT_take 24 (v := ?_) rfl (by kernel_rfl) (by kernel_rfl) (by kernel_rfl) (fun _ _ _ h => h) (by kernel_rfl) (by kernel_rfl) (Or.inl ⟨by kernel_rfl, ?_⟩) hS ?_
  rotate_left
  · (intro w' hw'; have d2' := M.Only.cell hw' d2 (fun h => h); have d3' := M.Only.cell hw' d3 (fun h => h); have d4' := M.Only.cell hw' d4 (fun h => h); have d5' := M.Only.cell hw' d5 (fun h => h); have hl' := Nat.lt_of_lt_of_le hltd hw'.size; go_simp; (try with_reducible rfl))
  refine wpAnyT_take 26 (v := ?_) rfl (by kernel_rfl) (by kernel_rfl) (by kernel_rfl) (fun _ _ _ h => h) (by kernel_rfl) (by kernel_rfl) (Or.inl ⟨by kernel_rfl, ?_⟩) hS ?_
  rotate_left
  · (intro w' hw'; have d2' := M.Only.cell hw' d2 (fun h => h); have d3' := M.Only.cell hw' d3 (fun h => h); have d4' := M.Only.cell hw' d4 (fun h => h); have d5' := M.Only.cell hw' d5 (fun h => h); have hl' := Nat.lt_of_lt_of_le hltd hw'.size; go_simp; (try with_reducible rfl))
  refine wpAnyT_take 27 (v := ?_) rfl (by kernel_rfl) (by kernel_rfl) (by kernel_rfl) (fun _ _ _ h => h) (by kernel_rfl) (by kernel_rfl) (Or.inl ⟨by kernel_rfl, ?_⟩) hS ?_
  rotate_left
  · (intro w' hw'; have d2' := M.Only.cell hw' d2 (fun h => h); have d3' := M.Only.cell hw' d3 (fun h => h); have d4' := M.Only.cell hw' d4 (fun h => h); have d5' := M.Only.cell hw' d5 (fun h => h); have hl' := Nat.lt_of_lt_of_le hltd hw'.size; go_simp; (try with_reducible rfl))
  refine wpAnyT_take 28 (v := ?_) rfl (by kernel_rfl) (by kernel_rfl) (by kernel_rfl) (fun _ _ _ h => h) (by kernel_rfl) (by kernel_rfl) (Or.inl ⟨by kernel_rfl, ?_⟩) hS ?_
  rotate_left
  · (intro w' hw'; have d2' := M.Only.cell hw' d2 (fun h => h); have d3' := M.Only.cell hw' d3 (fun h => h); have d4' := M.Only.cell hw' d4 (fun h => h); have d5' := M.Only.cell hw' d5 (fun h => h); have hl' := Nat.lt_of_lt_of_le hltd hw'.size; go_simp; (try with_reducible rfl))
  refine wpAnyT_take 29 (v := ?_) rfl (by kernel_rfl) (by kernel_rfl) (by kernel_rfl) (fun _ _ _ h => h) (by kernel_rfl) (by kernel_rfl) (Or.inl ⟨by kernel_rfl, ?_⟩) hS ?_
  rotate_left
  · (intro w' hw'; have d2' := M.Only.cell hw' d2 (fun h => h); have d3' := M.Only.cell hw' d3 (fun h => h); have d4' := M.Only.cell hw' d4 (fun h => h); have d5' := M.Only.cell hw' d5 (fun h => h); have hl' := Nat.lt_of_lt_of_le hltd hw'.size; go_simp; (try with_reducible rfl))
  refine wpAnyT_one (i := 25) rfl (by kernel_rfl) (fun K hK => ?_)
  go_simp
  go_wp2_with (first | (go_at_call 29; refine (operandsS_any mb wb code s cv sv kv iv ov _ (hP8.pm.quiet hS) hs.nops).mono ?_; rintro e w10 ⟨v1, rfl, hown1, ho1⟩; have hS1 := hS.trans ho1 (fun _ _ h => h)))
  refine hK.out _ _ (fun _ => hS1) ?_
  clear hK K
  refine wpAnyT_one (i := 30) rfl (by kernel_rfl) (fun K hK => ?_)
  go_simp
  go_wp2_with (first | (go_at_call 37; refine (i32s_same _ _ _ _ s.ops _ (Src.of_own hown1) (HSRC.out _ hS1) hs.nops).mono ?_; rintro e w11 ⟨rfl, ho2⟩; have hS2 := hS1.trans ho2 (fun _ _ h => h)))
  refine hK.out _ _ (fun _ => hS2) ?_
  clear hK K
  refine wpAnyT_take 31 (v := ?_) rfl (by kernel_rfl) (by kernel_rfl) (by kernel_rfl) (fun _ _ _ h => h) (by kernel_rfl) (by kernel_rfl) (Or.inl ⟨by kernel_rfl, ?_⟩) hS2 ?_
  rotate_left
  · (intro w' hw'; have d2' := M.Only.cell hw' d2 (fun h => h); have d3' := M.Only.cell hw' d3 (fun h => h); have d4' := M.Only.cell hw' d4 (fun h => h); have d5' := M.Only.cell hw' d5 (fun h => h); have hl' := Nat.lt_of_lt_of_le hltd hw'.size; go_simp; (try with_reducible rfl))
  refine wpAnyT_take 32 (v := ?_) rfl (by kernel_rfl) (by kernel_rfl) (by kernel_rfl) (fun _ _ _ h => h) (by kernel_rfl) (by kernel_rfl) (Or.inl ⟨by kernel_rfl, ?_⟩) hS2 ?_
  rotate_left
  · (intro w' hw'; have d2' := M.Only.cell hw' d2 (fun h => h); have d3' := M.Only.cell hw' d3 (fun h => h); have d4' := M.Only.cell hw' d4 (fun h => h); have d5' := M.Only.cell hw' d5 (fun h => h); have hl' := Nat.lt_of_lt_of_le hltd hw'.size; go_simp; (try with_reducible rfl))
  refine wpAnyT_take 33 (v := ?_) rfl (by kernel_rfl) (by kernel_rfl) (by kernel_rfl) (fun _ _ _ h => h) (by kernel_rfl) (by kernel_rfl) (Or.inl ⟨by kernel_rfl, ?_⟩) hS2 ?_
  rotate_left
  · (intro w' hw'; have d2' := M.Only.cell hw' d2 (fun h => h); have d3' := M.Only.cell hw' d3 (fun h => h); have d4' := M.Only.cell hw' d4 (fun h => h); have d5' := M.Only.cell hw' d5 (fun h => h); have hl' := Nat.lt_of_lt_of_le hltd hw'.size; go_simp; (try with_reducible rfl))
  refine wpAnyT_take 35 (v := ?_) rfl (by kernel_rfl) (by kernel_rfl) (by kernel_rfl) (fun _ _ _ h => h) (by kernel_rfl) (by kernel_rfl) (Or.inl ⟨by kernel_rfl, ?_⟩) hS2 ?_
  rotate_left
  · (intro w' hw'; have d2' := M.Only.cell hw' d2 (fun h => h); have d3' := M.Only.cell hw' d3 (fun h => h); have d4' := M.Only.cell hw' d4 (fun h => h); have d5' := M.Only.cell hw' d5 (fun h => h); have hl' := Nat.lt_of_lt_of_le hltd hw'.size; go_simp; (try with_reducible rfl))
  refine wpAnyT_one (i := 34) rfl (by kernel_rfl) (fun K hK => ?_)
  go_simp
  go_wp2_with (first | (go_at_call 38; refine (resultS_any mb wb code s cv sv kv iv ov _ (hP8.pm.quiet hS2) hol).mono ?_; rintro e w12 ⟨rv1, rfl, hown3, ho3⟩; have hS3 := hS2.trans ho3 (fun _ _ h => h)))
  refine hK.out _ _ (fun _ => hS3) ?_
  clear hK K
  refine wpAnyT_one (i := 36) rfl (by kernel_rfl) (fun K hK => ?_)
  go_simp
  go_wp2_with (first | (go_at_call 39; refine (tresult_any db vb code s lv dpv dkv div dov _ (hP8.pd.quiet hS3) hol).mono ?_; rintro e w13 ⟨rv2, rfl, hown4, ho4⟩; have hS4 := hS3.trans ho4 (fun _ _ h => h)))
  refine hK.out _ _ (fun _ => hS4) ?_
  clear hK K
  refine wpAnyT_one (i := 37) rfl (by kernel_rfl) (fun K hK => ?_)
  go_simp
  go_wp2_with (first | (go_at_call 15; refine (helpResult9_same _ _ _ _ s.out s.fin s.trap _ ((Src.of_own hown3).kept ho4 (fun _ h => h)) (Src.of_own hown4)).mono ?_; rintro e w14 ⟨rfl, ho5⟩; have hS5 := hS4.trans ho5 (fun _ _ h => h)))
  refine hK.out _ _ (fun _ => hS5) ?_
  clear hK K
  refine wpAnyT_one (i := 38) rfl (by kernel_rfl) (fun K hK => ?_)
  go_simp
  refine hK.out _ _ (fun _ => hS5) ?_
  clear hK K
  refine wpAnyT_one (i := 39) rfl (by kernel_rfl) (fun K hK => ?_)
  go_simp
  refine hK.out _ _ (fun _ => hS5) ?_
  clear hK K
  refine wpAnyT_done (by kernel_rfl) ?_
  go_wp2_with fail
  go_ret
  exact ⟨by simp, HO8.out.trans hS5 (fun _ _ h => h)⟩

set_option maxRecDepth 20000 in
set_option maxHeartbeats 3200000 in
/-- Their words, too. -/
theorem words9_any (p : SSpot) (d : TSpot) (code : List Cod) (s : SS) (w : World) (h : PairS w p d code s s) (hs : s.Ok) :
    Calls Try.prog 14 #[.pointer (some ⟨p.mb, 0, none⟩), .pointer (some ⟨d.db, 0, none⟩)] w fun e w' => e = .returned (.bool true) ∧ Only Nil w w' := by
  obtain ⟨mb, wb, cv, sv, kv, iv, ov⟩ := p
  obtain ⟨db, vb, lv, dpv, dkv, div, dov⟩ := d
  have hml := hs.len
  obtain ⟨n, hn⟩ : ∃ n, s.mem.length = n := ⟨_, rfl⟩
  have HP := Lib.hid h
  have HN := Lib.hid hn
  rw [hn] at hml
  clear h hn hs
  go_enter Try.func14, Try.ntmps14
  go_wp2_with fail
  go_loopg [5] n (fun g i wr => ∃ (k : Nat), i = .int .i64 (k : Int) ∧ k ≤ n ∧ g = n - k ∧ Only Nil w wr)
  case atStart => exact ⟨0, rfl, Nat.zero_le _, rfl, Only.refl _ _⟩
  case round =>
    obtain ⟨k, rfl, hk, hg, ho⟩ := hrel
    have HG := Lib.hid hg
    clear hg
    have hP := HP.out.quiet ho
    have c1 : wr.cell? ⟨db, 1, none⟩ = some (.slice (some ⟨vb, 0, none⟩) s.mem.length s.mem.length) := hP.pd.blk.cell 1
    rw [HN.out] at c1
    have hltd := hP.pd.blk.lt
    have k0 : (0 : Int) ≤ (k : Int) := Int.natCast_nonneg _
    by_cases hkn : k < n
    · have cW := wordS_in mb wb k code s cv sv kv iv ov wr hP.pm (by rw [HN.out]; exact hml) (by rw [HN.out]; exact hkn)
      obtain ⟨x, hx⟩ : ∃ x, s.mem.getD k 0 = x := ⟨_, rfl⟩
      rw [hx] at cW
      have cL : wr.cell? ⟨vb, k, none⟩ = some (.int .i32 x) := by
        rw [hP.pd.wrd.cell k, List.getElem?_toArray, ← hx]
        exact I32s_get (by rw [HN.out]; exact hkn)
      have hltv := hP.pd.wrd.lt
      have k1 : (k : Int) < (n : Int) := by omega
      have hxx : (x != x) = false := by simp
      clear hx hP
      go_wp2_with fail
      refine cW.mono ?_
      rintro e w1 ⟨rfl, rfl⟩
      clear cW
      go_wp2_with fail
      go_roundg (n - (k + 1))
      case measure => have := HG.out; omega
      case rel => exact ⟨k + 1, by go_num, by omega, rfl, ho⟩
    · have hk2 : k = n := by omega
      subst hk2
      have cN := wordS_out mb wb (-1) code s cv sv kv iv ov wr hP.pm (by rw [HN.out]; exact hml) (by omega)
      have k1 : (k : Int) ≤ (k : Int) := Int.le_refl _
      clear hP
      go_wp2_with fail
      refine cN.mono ?_
      rintro e w1 ⟨rfl, rfl⟩
      clear cN
      go_wp2_with fail
      go_ret
      exact ⟨rfl, ho⟩
end Go.Proofs.Ytpnhjjihdcopnaa

/- The walk of the law StackRaw. -/
set_option linter.unusedSimpArgs false
set_option linter.unusedVariables false
namespace Go.Proofs.Ytpnhjjihdcopnaa
open Go.RowKit M

/-- Both are made. -/
theorem pairS_made {w5 w6 : World} {mb wb db vb : Nat} {code : List Cod} {s : SS} {cv iv dv div : Value} (hM : SAt Nil w5 mb wb code s cv (.slice none 0 0) (.slice none 0 0) iv (.slice none 0 0)) (ho : Only Nil w5 w6) (hdb : w5.heap.size ≤ db) (hvb : w5.heap.size ≤ vb)
    (hD : TAt (OwnS mb wb none none none) w6 db vb code s dv (.slice none 0 0) (.slice none 0 0) div (.slice none 0 0)) : PairS w6 ⟨mb, wb, cv, .slice none 0 0, .slice none 0 0, iv, .slice none 0 0⟩ ⟨db, vb, dv, .slice none 0 0, .slice none 0 0, div, .slice none 0 0⟩ code s s := by
  refine ⟨(hM.less (T := OwnT db vb none) (fun k hk h => ?_)).quiet ho, hD, fun k hp hd => ?_⟩
  · rcases h with h | h | h
    · omega
    · omega
    · cases h
  · have h1 := hM.ownLt hp
    rcases hd with h | h | h
    · have h : k = db := h
      omega
    · have h : k = vb := h
      omega
    · cases h
theorem behindS_new {b mb wb db vb : Nat} {cv iv dv div : Value} (h1 : b ≤ mb) (h2 : b ≤ wb) (h3 : b ≤ db) (h4 : b ≤ vb) : PairS.Behind ⟨mb, wb, cv, .slice none 0 0, .slice none 0 0, iv, .slice none 0 0⟩ ⟨db, vb, dv, .slice none 0 0, .slice none 0 0, div, .slice none 0 0⟩ b := by
  refine ⟨fun k h => ?_, fun k h => ?_⟩
  · rcases h with h | h | h | h | h
    · have h : k = mb := h
      omega
    · have h : k = wb := h
      omega
    · cases h
    · cases h
    · cases h
  · rcases h with h | h | h
    · have h : k = db := h
      omega
    · have h : k = vb := h
      omega
    · cases h

set_option maxRecDepth 20000 in
set_option maxHeartbeats 3200000 in
theorem raw9_any (cb ib : Nat) (a0 : Option Addr) (n0 c0 : Nat) (a1 : Option Addr) (n1 c1 : Nat) (code : List Cod) (inp : List Nat) (N B F : Int) (w : World) (hF1 : -9223372036854775808 ≤ F) (hl0 : code.length = n0) (hl1 : inp.length = n1) (hc : ∀ c ∈ code, I32 c.k) (hi : ∀ x ∈ inp, x < 256)
    (s0' : CSrc w cb (.slice a0 n0 c0) code) (hcn : a0 = none → c0 = 0) (r0 : CodRow (fun k => w.heap.size ≤ k) w (.slice a0 n0 c0) code) (s1' : Src w ib (.slice a1 n1 c1) (U8s inp)) (r1 : BytRow (fun k => w.heap.size ≤ k) w (.slice a1 n1 c1) inp) :
    Calls Try.prog 4 #[.slice a0 n0 c0, .int .i64 N, .int .i64 B, .slice a1 n1 c1, .int .i64 F] w fun e w' => e = .returned (.bool true) ∧ Only Nil w w' := by
  have cK := known9_any w
  by_cases h60 : 60 < n0
  · have h60' : (60 : Int) < (n0 : Int) := by omega
    clear hl0 hl1 hc hi s0' r0 s1' r1 h60 hcn
    go_enter Try.func4, Try.ntmps4
    go_wp2_with fail
    refine cK.mono ?_
    rintro e w1 ⟨rfl, ho1⟩
    clear cK
    go_wp2_with fail
    go_ret
    exact ⟨rfl, ho1⟩
  · have h60' : decide ((60 : Int) < (n0 : Int)) = false := by simp; omega
    by_cases h40 : 20 < n1
    · have h40' : (20 : Int) < (n1 : Int) := by omega
      clear hl0 hl1 hc hi s0' r0 s1' r1 h60 h40 hcn
      go_enter Try.func4, Try.ntmps4
      go_wp2_with fail
      refine cK.mono ?_
      rintro e w1 ⟨rfl, ho1⟩
      clear cK
      go_wp2_with fail
      go_ret
      exact ⟨rfl, ho1⟩
    · have h40' : decide ((20 : Int) < (n1 : Int)) = false := by simp; omega
      obtain ⟨N', hN'⟩ : ∃ x, min N 3000 = x := ⟨_, rfl⟩
      obtain ⟨F', hF'⟩ : ∃ x, min F 2000 = x := ⟨_, rfl⟩
      have hFb : F' ≤ 2000 := by omega
      have hFc : -9223372036854775808 ≤ F' := by omega
      obtain ⟨n, hnn⟩ : ∃ n : Nat, min (max N' 0) 1048576 = (n : Int) := ⟨(min (max N' 0) 1048576).toNat, by omega⟩
      obtain ⟨q, hqq⟩ : ∃ q : Nat, min (max B 0) (n : Int) = (q : Int) := ⟨(min (max B 0) (n : Int)).toNat, by omega⟩
      have hn : n ≤ 1048576 := by omega
      have hq : q ≤ n := by omega
      have e1 : (if 1048576 < (if N' < 0 then 0 else N') then 1048576 else (if N' < 0 then 0 else N')) = (n : Int) := by
        split <;> split at * <;> omega
      have e2 : (if (n : Int) < (if B < 0 then 0 else B) then (n : Int) else (if B < 0 then 0 else B)) = (q : Int) := by
        split <;> split at * <;> omega
      have hcl : code.length ≤ 1048576 := by omega
      have hil : inp.length ≤ 1048576 := by omega
      obtain ⟨s, hs⟩ : ∃ s, ss0 n q inp = s := ⟨_, rfl⟩
      have hsok : s.Ok := by rw [← hs]; exact ss0_ok n q inp hn hq hi
      have hsfr : Free s := by rw [← hs]; exact ss0_free n q inp
      have hsout : s.out.length = 0 := by rw [← hs]; rfl
      have HS0 := Lib.hid s0'
      have HR0 := Lib.hid r0
      have HS1 := Lib.hid s1'
      have HR1 := Lib.hid r1
      have HC := Lib.hid hc
      have HSE := Lib.hid hs
      have HOK := Lib.hid hsok
      have HFR := Lib.hid hsfr
      have HSO := Lib.hid hsout
      have HE1 := Lib.hid e1
      have HE2 := Lib.hid e2
      have HN1 := Lib.hid hnn
      have HQ1 := Lib.hid hqq
      have HNB := Lib.hid hn
      have HCL := Lib.hid hcl
      have HIL := Lib.hid hil
      have HFB := Lib.hid hFb
      have HFC := Lib.hid hFc
      have HCN := Lib.hid hcn
      clear hl0 hl1 hc hi s0' r0 s1' r1 h60 h40 hFb hFc e1 e2 hnn hqq hn hq hcl hil hs hsok hsfr hsout hF1 hcn
      go_enter Try.func4, Try.ntmps4
      go_wp2_with fail
      refine cK.mono ?_
      rintro e w1 ⟨rfl, ho1⟩
      clear cK
      go_wp2_with fail
      have cN := newS_any (Q := Nil) code inp N' B n q _ _ rfl HE1.out rfl HE2.out cb ib _ _ w1 (HS0.out.kept ho1) (fun n cap h => by injection h with h1 h2 h3; rw [← h3]; exact HCN.out h1) (HS1.out.kept ho1 (fun _ h => h)) HCL.out HIL.out HNB.out (fun _ h => h.elim)
      refine cN.mono ?_
      rintro e w5 ⟨mb, wb, cv, iv, rfl, hmb, hwb, ho5, hM5⟩
      clear cN
      rw [HSE.out] at hM5
      have ho5' : Only Nil w w5 := ho1.trans ho5 (fun _ _ h => h)
      have hm5 : w.heap.size ≤ mb := Nat.le_trans ho1.size hmb
      have hw5 : w.heap.size ≤ wb := Nat.le_trans ho1.size hwb
      have hq : ∀ k, k < w.heap.size → OwnS mb wb none none none k → w.heap.size ≤ k := by
        intro k hk h
        rcases h with h | h | h | h | h
        · omega
        · omega
        · cases h
        · cases h
        · cases h
      have cD := tnew_any (Q := OwnS mb wb none none none) code inp N' B n q HN1.out HQ1.out HNB.out _ _ w5 ((HR0.out.less hq).kept ho5' (fun _ h => h.elim)) ((HR1.out.less hq).kept ho5' (fun _ h => h.elim))
      clear ho1 ho5 hmb hwb
      have HO5 := Lib.hid ho5'
      clear hq
      go_wp2_with fail
      refine cD.mono ?_
      rintro e w6 ⟨db, vb, rfl, hdb, hvb, ho6, hD6⟩
      clear cD
      rw [HSE.out] at hD6
      have hP6 := pairS_made hM5 ho6 hdb hvb hD6
      have hB6 := behindS_new (cv := cv) (iv := iv) (dv := .slice a0 n0 c0) (div := .slice a1 n1 c1) hm5 hw5 (Nat.le_trans ho5'.size hdb) (Nat.le_trans ho5'.size hvb)
      have ho6' : Only Nil w w6 := ho5'.trans ho6 (fun _ _ h => h)
      clear hM5 hD6 ho6 ho5' hdb hvb hm5 hw5
      obtain ⟨t, ht⟩ : ∃ t, sRun code F'.toNat s = t := ⟨_, rfl⟩
      have htk := sRun_ok HOK.out HC.out (by have := HCL.out; omega) F'.toNat
      rw [ht] at htk
      have hFn : F'.toNat ≤ 2000 := by have := HFB.out; omega
      have hto : t.out.length ≤ 1099511627776 := by have h1 := htk.2.2; have h2 := HSO.out; omega
      have HT := Lib.hid ht
      have HTK := Lib.hid htk
      have HTO := Lib.hid hto
      have HP6 := Lib.hid hP6
      have HB6 := Lib.hid hB6
      have cR := runS_any mb wb code HC.out (by have := HCL.out; omega) s cv (.slice none 0 0) (.slice none 0 0) iv (.slice none 0 0) w6 hP6.pm HOK.out F' HFC.out (by have := HFB.out; omega) (by rw [HSO.out]; omega) (t := t) HT.out
      have HFN := Lib.hid hFn
      have HO6 := Lib.hid ho6'
      clear hP6 hB6 ht htk hto hFn ho6'
      go_wp2_with fail
      refine cR.mono ?_
      rintro e w7 ⟨sv7, kv7, iv7, ov7, rv1, rfl, hw7, hown7, hM7⟩
      clear cR
      have hP7 := HP6.out.wentM hw7 hM7
      have hB7 := PairS.behindM HB6.out hw7 HO6.out.size (iv' := iv7)
      have ho7 := only_goneS HO6.out hw7 HB6.out.1
      have cE := trun_any db vb code HC.out (by have := HCL.out; omega) s _ (.slice none 0 0) (.slice none 0 0) _ (.slice none 0 0) w7 (fun j hj => hP7.pm.ownLt hj) HFR.out hP7.pd HOK.out F' HFC.out (by have := HFB.out; omega) (by rw [HSO.out]; have := HFN.out; omega) (t := t) HT.out
      have hlow : ∀ k, OwnT db vb none k → k < w6.heap.size := fun k hk => HP6.out.pd.ownLt hk
      have HL := Lib.hid hlow
      have HP7 := Lib.hid hP7
      have HB7 := Lib.hid hB7
      have HO7 := Lib.hid ho7
      clear hP7 hB7 hw7 hM7 hlow ho7
      go_wp2_with fail
      refine cE.mono ?_
      rintro e w8 ⟨pv8, kv8, iv8, ov8, rv2, rfl, hw8, hown8, hM8⟩
      clear cE
      have hP8 := HP7.out.wentD hw8 hM8
      have ho8 := only_goneT HO7.out hw8 HB7.out.2
      have hown78 := ownsRow_only hown7 hw8.only (fun k hk h => by
        obtain ⟨q1, q2⟩ := own_lt hown7 hk
        have := HL.out k h
        omega)
      have cH := helpResult9_same _ _ rv1 rv2 t.out t.fin t.trap w8 (Src.of_own hown78) (Src.of_own hown8)
      have HP8 := Lib.hid hP8
      have HO8 := Lib.hid ho8
      clear hown7 hown78 hown8 hw8 hM8 hP8 ho8
      go_wp2_with fail
      refine cH.mono ?_
      rintro e w9 ⟨rfl, ho9⟩
      clear cH
      have cS := same9_any _ _ code t w9 (HP8.out.quiet ho9) HTK.out.1 HTO.out
      go_wp2_with fail
      refine cS.mono ?_
      rintro e w10 ⟨rfl, ho10⟩
      clear cS
      have ho10' := ho9.trans ho10 (fun _ _ h => h)
      have cW := words9_any _ _ code t w10 (HP8.out.quiet ho10') HTK.out.1
      go_wp2_with fail
      refine cW.mono ?_
      rintro e w11 ⟨rfl, ho11⟩
      clear cW
      go_wp2_with fail
      go_ret
      exact ⟨by simp, (HO8.out.trans ho10' (fun _ _ h => h)).trans ho11 (fun _ _ h => h)⟩
end Go.Proofs.Ytpnhjjihdcopnaa

