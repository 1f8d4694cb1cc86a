/- The program's Encode. -/
import Derived.Test.YthimhbfglgnohaaDoorREncR
namespace Go.Proofs.YthimhbfglgnohaaDoor
open Go.RowKit M

/-- Some lowest bits of a number, moved to their place. -/
def fieldN (v a k : Nat) : Nat := v % 2 ^ k * 2 ^ a % 4294967296
theorem field_eq (v a k : Nat) (hv : v < 4294967296) (hk : k < 32) :
    bits BinOp.and IntKind.u32 (v : Int) ((2 ^ k - 1) % 4294967296) * 2 ^ a % 4294967296 = ((fieldN v a k : Nat) : Int) := by
  have h1 : 2 ^ k < 4294967296 := by
    have := Nat.pow_lt_pow_right (a := 2) (by omega) hk; simpa using this
  have h0 : 0 < 2 ^ k := Nat.two_pow_pos k
  have h2 : ((2 : Int) ^ k - 1) % 4294967296 = ((2 ^ k - 1 : Nat) : Int) := by rw [pow_cast]; omega
  rw [h2, u32_and_nat _ _ hv (by omega), Nat.and_two_pow_sub_one_eq_mod, pow_cast]
  unfold fieldN
  rw [← Int.natCast_mul]; rfl
theorem field_any (v : Nat) (a k : Int) (w : World) (hv : v < 4294967296) (ha : 0 ≤ a) (ha2 : a < 32) (hk : 0 ≤ k) (hk2 : k < 32) :
    Calls Tryd.prog 15 #[.int .u32 v, .int .i64 a, .int .i64 k] w fun e w' => e = .returned (.int .u32 ((fieldN v a.toNat k.toNat : Nat) : Int)) ∧ w' = w := by
  have HE := Lib.hid (field_eq v a.toNat k.toNat hv (by omega))
  go_enter Tryd.func15, Tryd.ntmps15
  go_wp2_with fail
  go_ret
  exact ⟨congrArg (fun x => Ending.returned (.int .u32 x)) HE.out, rfl⟩
theorem flag_any (u : Bool) (a : Int) (w : World) (ha : 0 ≤ a) (ha2 : a < 32) :
    Calls Tryd.prog 16 #[.bool u, .int .i64 a] w fun e w' => e = .returned (.int .u32 ((b2 u * 2 ^ a.toNat : Nat) : Int)) ∧ w' = w := by
  cases u
  · go_enter Tryd.func16, Tryd.ntmps16
    go_wp2_with fail
    go_ret
    exact ⟨by simp [b2], rfl⟩
  · have h1 : 2 ^ a.toNat < 4294967296 := by
      have := Nat.pow_lt_pow_right (a := 2) (by omega) (show a.toNat < 32 by omega); simpa using this
    have HE : Hid ((2 : Int) ^ a.toNat % 4294967296 = ((b2 true * 2 ^ a.toNat : Nat) : Int)) := Lib.hid (by
      rw [show b2 true = 1 from rfl, Nat.one_mul, pow_cast]; exact congrArg _ (Nat.mod_eq_of_lt h1))
    clear h1
    go_enter Tryd.func16, Tryd.ntmps16
    go_wp2_with fail
    go_ret
    exact ⟨congrArg (fun x => Ending.returned (.int .u32 x)) HE.out, rfl⟩

theorem fieldN_eq (v a k A K : Nat) (hA : 2 ^ a = A) (hK : 2 ^ k = K) (h : K * A ≤ 4294967296) : fieldN v a k = v % K * A := by
  unfold fieldN
  rw [hA, hK]
  have h0 : 0 < A := by rw [← hA]; exact Nat.two_pow_pos a
  have h1 : 0 < K := by rw [← hK]; exact Nat.two_pow_pos k
  have h2 : v % K < K := Nat.mod_lt _ h1
  have h3 : v % K * A < K * A := Nat.mul_lt_mul_of_pos_right h2 h0
  exact Nat.mod_eq_of_lt (by omega)
theorem head_eq (F A : Int) (u v : Bool) : (bits BinOp.or IntKind.u32 (bits BinOp.or IntKind.u32 (bits BinOp.or IntKind.u32 (fieldN (U F) 30 2 : Int) ((b2 u : Int) * 536870912)) ((b2 v : Int) * 268435456)) (fieldN (U A) 24 4 : Int)) =
    ((put (U F % 4) u v (U A % 16) 0 : Nat) : Int) := by
  have h1 := b2_le u
  have h2 := b2_le v
  rw [fieldN_eq (U F) 30 2 1073741824 4 rfl rfl (by omega), fieldN_eq (U A) 24 4 16777216 16 rfl rfl (by omega)]
  obtain ⟨f, hf⟩ : ∃ f, U F % 4 = f := ⟨_, rfl⟩
  obtain ⟨a, ha⟩ : ∃ a, U A % 16 = a := ⟨_, rfl⟩
  have hf4 : f < 4 := by omega
  have ha4 : a < 16 := by omega
  rw [hf, ha]
  obtain ⟨p, hp⟩ : ∃ p, f * 1073741824 = p := ⟨_, rfl⟩
  have hp1 : p % 1073741824 = 0 := by omega
  have hp2 : p ≤ 3221225472 := by omega
  have e1 := or_sum (x := p) (y := b2 u * 536870912) (Y := ((b2 u : Int) * 536870912)) 30 (by omega) (by omega) (by omega) rfl (by omega)
  have e2 := or_sum (x := p + b2 u * 536870912) (y := b2 v * 268435456) (Y := ((b2 v : Int) * 268435456)) 29 (by omega) (by omega) (by omega) rfl (by omega)
  have e3 := or_sum (x := p + b2 u * 536870912 + b2 v * 268435456) (y := a * 16777216) (Y := ((a * 16777216 : Nat) : Int)) 28 (by omega) (by omega) rfl rfl (by omega)
  rw [hp, e1, e2, e3]
  unfold put
  rw [hp, Nat.add_zero]
theorem rest_eq (B Op : Int) (z k K : Nat) (hK : 2 ^ k = K) (hk : K ≤ 65536) : (bits BinOp.or IntKind.u32 (bits BinOp.or IntKind.u32 (fieldN (U B) 20 4 : Int) (fieldN (U Op) 16 4 : Int)) (fieldN z 0 k : Int)) =
    ((U B % 16 * 1048576 + U Op % 16 * 65536 + z % K : Nat) : Int) := by
  have h0 : 0 < K := by rw [← hK]; exact Nat.two_pow_pos k
  have h1 : z % K < K := Nat.mod_lt _ h0
  rw [fieldN_eq (U B) 20 4 1048576 16 rfl rfl (by omega), fieldN_eq (U Op) 16 4 65536 16 rfl rfl (by omega), fieldN_eq z 0 k 1 K rfl hK (by omega), Nat.mul_one]
  obtain ⟨b, hb⟩ : ∃ b, U B % 16 = b := ⟨_, rfl⟩
  obtain ⟨o, ho⟩ : ∃ o, U Op % 16 = o := ⟨_, rfl⟩
  obtain ⟨y, hy⟩ : ∃ y, z % K = y := ⟨_, rfl⟩
  have hb4 : b < 16 := by omega
  have ho4 : o < 16 := by omega
  rw [hy] at h1
  rw [hb, ho, hy]
  have e1 := or_sum (x := b * 1048576) (y := o * 65536) (Y := ((o * 65536 : Nat) : Int)) 20 (by omega) (by omega) rfl rfl (by omega)
  have e2 := or_sum (x := b * 1048576 + o * 65536) (y := y) (Y := (y : Int)) 16 (by omega) (by omega) rfl rfl (by omega)
  rw [e1, e2]
theorem rest_2 (B : Int) (z : Nat) : (bits BinOp.or IntKind.u32 (fieldN (U B) 20 4 : Int) (fieldN z 0 20 : Int)) = ((U B % 16 * 1048576 + z % 1048576 : Nat) : Int) := by
  rw [fieldN_eq (U B) 20 4 1048576 16 rfl rfl (by omega), fieldN_eq z 0 20 1 1048576 rfl rfl (by omega), Nat.mul_one]
  exact or_sum (x := U B % 16 * 1048576) (y := z % 1048576) 20 (by omega) (by omega) rfl rfl (by omega)
theorem rest_4 (m c : Nat) : (bits BinOp.or IntKind.u32 (fieldN m 4 4 : Int) (fieldN c 0 4 : Int)) = ((m % 16 * 16 + c % 16 : Nat) : Int) := by
  rw [fieldN_eq m 4 4 16 16 rfl rfl (by omega), fieldN_eq c 0 4 1 16 rfl rfl (by omega), Nat.mul_one]
  exact or_sum (x := m % 16 * 16) (y := c % 16) 4 (by omega) (by omega) rfl rfl (by omega)
theorem rest_3 (m : Nat) : (fieldN m 0 24 : Int) = ((m % 16777216 : Nat) : Int) := by
  rw [fieldN_eq m 0 24 1 16777216 rfl rfl (by omega), Nat.mul_one]
theorem whole_eq (f a r : Nat) (u v : Bool) (hf : f < 4) (ha : a < 16) (hr : r < 16777216) : bits BinOp.or IntKind.u32 ((put f u v a 0 : Nat) : Int) (r : Int) = ((put f u v a r : Nat) : Int) := by
  have h1 := b2_le u
  have h2 := b2_le v
  refine or_sum (y := r) 24 ?_ (by omega) rfl ?_ (put_lt _ _ _ _ _ (by omega) ha hr)
  · unfold put; omega
  · unfold put; omega
/-- What is put together is the instruction's word, if there is one. -/
theorem put_good {i : Ins} {f a r : Nat} (h : i.Good) (hf : f = U i.F % 4) (ha : a = U i.A % 16) (hr : r = tail i) : put f i.U i.V a r = enc i := by
  obtain ⟨h1, h2, h3, h4, _⟩ := h
  unfold enc
  refine put_congr ?_ ?_ hr
  · rw [hf]; unfold U; omega
  · rw [ha]; unfold U; omega

/-- How Encode ends. -/
def EncEnd (i : Ins) (w : World) (e : Ending) (w' : World) : Prop :=
  (i.Good ∧ e = .returned (.tuple #[.int .u32 ((enc i : Nat) : Int), .int .i64 0]) ∨ ¬ i.Good ∧ e = .returned (.tuple #[.int .u32 0, .int .i64 23])) ∧ Only Nil w w'
theorem end_yes {i d : Ins} {x : Nat} {w w' : World} (hl : x < 4294967296) (hk : isOk x = true) (hd : decI x = d) (h : d = i) (ho : Only Nil w w') :
    EncEnd i w (.returned (.tuple #[.int .u32 (x : Int), .int .i64 0])) w' := by
  obtain ⟨h1, h2⟩ := dec_good x hl hk
  rw [decI_yes hk, h] at hd
  rw [hd] at h1 h2
  exact ⟨Or.inl ⟨h1, by rw [h2]⟩, ho⟩
theorem end_no {i d : Ins} {x : Nat} {w w' : World} (hk : isOk x = true) (hd : decI x = d) (hg : i.Good → x = enc i) (h : d ≠ i) (ho : Only Nil w w') :
    EncEnd i w (.returned (.tuple #[.int .u32 0, .int .i64 23])) w' := by
  refine ⟨Or.inr ⟨fun h1 => ?_, rfl⟩, ho⟩
  rw [decI_yes hk, hg h1, (dec_enc i h1).1] at hd
  exact h hd.symm
theorem end_not {i : Ins} {x : Nat} {w w' : World} (hk : isOk x = false) (hg : i.Good → x = enc i) (ho : Only Nil w w') :
    EncEnd i w (.returned (.tuple #[.int .u32 0, .int .i64 23])) w' := by
  refine ⟨Or.inr ⟨fun h1 => ?_, rfl⟩, ho⟩
  rw [hg h1, (dec_enc i h1).2] at hk
  cases hk

theorem word_0 (F : Int) (u v : Bool) (A B C Op Imm : Int) (hF : F = 0) :
    ∃ x : Nat, bits BinOp.or IntKind.u32 (bits BinOp.or IntKind.u32 (bits BinOp.or IntKind.u32 (bits BinOp.or IntKind.u32 (fieldN (U F) 30 2 : Int) ((b2 u : Int) * 536870912)) ((b2 v : Int) * 268435456)) (fieldN (U A) 24 4 : Int)) (bits BinOp.or IntKind.u32 (bits BinOp.or IntKind.u32 (fieldN (U B) 20 4 : Int) (fieldN (U Op) 16 4 : Int)) (fieldN (U C) 0 4 : Int)) = (x : Int) ∧ x < 4294967296 ∧ ((Ins.mk F u v A B C Op Imm).Good → x = enc (Ins.mk F u v A B C Op Imm)) := by
  have hr : U B % 16 * 1048576 + U Op % 16 * 65536 + U C % 16 < 16777216 := by omega
  refine ⟨put (U F % 4) u v (U A % 16) (U B % 16 * 1048576 + U Op % 16 * 65536 + U C % 16), ?_, ?_, ?_⟩
  · rw [head_eq, rest_eq B Op (U C) 4 16 rfl (by omega), whole_eq (U F % 4) (U A % 16) _ u v (by omega) (by omega) hr]
  · exact put_lt _ _ _ _ _ (by omega) (by omega) hr
  · intro hg
    refine @put_good (Ins.mk F u v A B C Op Imm) (U F % 4) (U A % 16) (U B % 16 * 1048576 + U Op % 16 * 65536 + U C % 16) hg rfl rfl ?_
    rw [tail_0 hF]
    obtain ⟨_, _, _, _, h5⟩ := hg
    simp only at h5 ⊢
    simp only [hF] at h5
    unfold U
    omega
theorem word_1 (F : Int) (u v : Bool) (A B C Op Imm : Int) (hF : F = 1) :
    ∃ x : Nat, bits BinOp.or IntKind.u32 (bits BinOp.or IntKind.u32 (bits BinOp.or IntKind.u32 (bits BinOp.or IntKind.u32 (fieldN (U F) 30 2 : Int) ((b2 u : Int) * 536870912)) ((b2 v : Int) * 268435456)) (fieldN (U A) 24 4 : Int)) (bits BinOp.or IntKind.u32 (bits BinOp.or IntKind.u32 (fieldN (U B) 20 4 : Int) (fieldN (U Op) 16 4 : Int)) (fieldN (U Imm) 0 16 : Int)) = (x : Int) ∧ x < 4294967296 ∧ ((Ins.mk F u v A B C Op Imm).Good → x = enc (Ins.mk F u v A B C Op Imm)) := by
  have hr : U B % 16 * 1048576 + U Op % 16 * 65536 + U Imm % 65536 < 16777216 := by omega
  refine ⟨put (U F % 4) u v (U A % 16) (U B % 16 * 1048576 + U Op % 16 * 65536 + U Imm % 65536), ?_, ?_, ?_⟩
  · rw [head_eq, rest_eq B Op (U Imm) 16 65536 rfl (by omega), whole_eq (U F % 4) (U A % 16) _ u v (by omega) (by omega) hr]
  · exact put_lt _ _ _ _ _ (by omega) (by omega) hr
  · intro hg
    refine @put_good (Ins.mk F u v A B C Op Imm) (U F % 4) (U A % 16) (U B % 16 * 1048576 + U Op % 16 * 65536 + U Imm % 65536) hg rfl rfl ?_
    rw [tail_1 hF]
    obtain ⟨_, _, _, _, h5⟩ := hg
    simp only at h5 ⊢
    simp only [hF] at h5
    unfold U
    omega
theorem word_2 (F : Int) (u v : Bool) (A B C Op Imm : Int) (hF : F = 2) :
    ∃ x : Nat, bits BinOp.or IntKind.u32 (bits BinOp.or IntKind.u32 (bits BinOp.or IntKind.u32 (bits BinOp.or IntKind.u32 (fieldN (U F) 30 2 : Int) ((b2 u : Int) * 536870912)) ((b2 v : Int) * 268435456)) (fieldN (U A) 24 4 : Int)) (bits BinOp.or IntKind.u32 (fieldN (U B) 20 4 : Int) (fieldN (U Imm) 0 20 : Int)) = (x : Int) ∧ x < 4294967296 ∧ ((Ins.mk F u v A B C Op Imm).Good → x = enc (Ins.mk F u v A B C Op Imm)) := by
  have hr : U B % 16 * 1048576 + U Imm % 1048576 < 16777216 := by omega
  refine ⟨put (U F % 4) u v (U A % 16) (U B % 16 * 1048576 + U Imm % 1048576), ?_, ?_, ?_⟩
  · rw [head_eq, rest_2, whole_eq (U F % 4) (U A % 16) _ u v (by omega) (by omega) hr]
  · exact put_lt _ _ _ _ _ (by omega) (by omega) hr
  · intro hg
    refine @put_good (Ins.mk F u v A B C Op Imm) (U F % 4) (U A % 16) (U B % 16 * 1048576 + U Imm % 1048576) hg rfl rfl ?_
    rw [tail_2 hF]
    obtain ⟨_, _, _, _, h5⟩ := hg
    simp only at h5 ⊢
    simp only [hF] at h5
    unfold U
    omega
theorem word_3 (F : Int) (u v : Bool) (A B C Op Imm : Int) (h0 : F ≠ 0) (h1 : F ≠ 1) (h2 : F ≠ 2) (hu : u = true) :
    ∃ x : Nat, bits BinOp.or IntKind.u32 (bits BinOp.or IntKind.u32 (bits BinOp.or IntKind.u32 (bits BinOp.or IntKind.u32 (fieldN (U F) 30 2 : Int) ((b2 u : Int) * 536870912)) ((b2 v : Int) * 268435456)) (fieldN (U A) 24 4 : Int)) (fieldN (U Imm) 0 24 : Int) = (x : Int) ∧ x < 4294967296 ∧ ((Ins.mk F u v A B C Op Imm).Good → x = enc (Ins.mk F u v A B C Op Imm)) := by
  have hr : U Imm % 16777216 < 16777216 := by omega
  refine ⟨put (U F % 4) u v (U A % 16) (U Imm % 16777216), ?_, ?_, ?_⟩
  · rw [head_eq, rest_3, whole_eq (U F % 4) (U A % 16) _ u v (by omega) (by omega) hr]
  · exact put_lt _ _ _ _ _ (by omega) (by omega) hr
  · intro hg
    refine @put_good (Ins.mk F u v A B C Op Imm) (U F % 4) (U A % 16) (U Imm % 16777216) hg rfl rfl ?_
    have hF : F = 3 := by obtain ⟨a1, a2, _⟩ := hg; simp only at a1 a2; omega
    rw [tail_3 hF hu]
    obtain ⟨_, _, _, _, h5⟩ := hg
    simp only at h5 ⊢
    simp only [hF] at h5
    unfold U
    omega
theorem word_4 (F : Int) (u v : Bool) (A B C Op Imm : Int) (h0 : F ≠ 0) (h1 : F ≠ 1) (h2 : F ≠ 2) (hu : u = false) :
    ∃ x : Nat, bits BinOp.or IntKind.u32 (bits BinOp.or IntKind.u32 (bits BinOp.or IntKind.u32 (bits BinOp.or IntKind.u32 (fieldN (U F) 30 2 : Int) ((b2 u : Int) * 536870912)) ((b2 v : Int) * 268435456)) (fieldN (U A) 24 4 : Int)) (bits BinOp.or IntKind.u32 (fieldN (U Imm) 4 4 : Int) (fieldN (U C) 0 4 : Int)) = (x : Int) ∧ x < 4294967296 ∧ ((Ins.mk F u v A B C Op Imm).Good → x = enc (Ins.mk F u v A B C Op Imm)) := by
  have hr : U Imm % 16 * 16 + U C % 16 < 16777216 := by omega
  refine ⟨put (U F % 4) u v (U A % 16) (U Imm % 16 * 16 + U C % 16), ?_, ?_, ?_⟩
  · rw [head_eq, rest_4, whole_eq (U F % 4) (U A % 16) _ u v (by omega) (by omega) hr]
  · exact put_lt _ _ _ _ _ (by omega) (by omega) hr
  · intro hg
    refine @put_good (Ins.mk F u v A B C Op Imm) (U F % 4) (U A % 16) (U Imm % 16 * 16 + U C % 16) hg rfl rfl ?_
    have hF : F = 3 := by obtain ⟨a1, a2, _⟩ := hg; simp only at a1 a2; omega
    rw [tail_4 hF hu]
    obtain ⟨_, _, _, _, h5⟩ := hg
    simp only at h5 ⊢
    simp [hF, hu] at h5
    unfold U
    omega
set_option maxRecDepth 100000 in
set_option maxHeartbeats 6400000 in
theorem encI_any (F : Int) (u v : Bool) (A B C Op Imm : Int) (w : World) :
    Calls Tryd.prog 8 #[(Ins.mk F u v A B C Op Imm).val] w (EncEnd (Ins.mk F u v A B C Op Imm) w) := by
  unfold Ins.val Ins.cells
  have l1 := U_lt F
  have l2 := U_lt A
  have l3 := U_lt B
  have l4 := U_lt C
  have l5 := U_lt Op
  have l6 := U_lt Imm
  have e1 : IntKind.u32.wrap F = (U F : Int) := wu F
  have e2 : IntKind.u32.wrap A = (U A : Int) := wu A
  have e3 : IntKind.u32.wrap B = (U B : Int) := wu B
  have e4 : IntKind.u32.wrap C = (U C : Int) := wu C
  have e5 : IntKind.u32.wrap Op = (U Op : Int) := wu Op
  have e6 : Imm % 4294967296 = (U Imm : Int) := by unfold U; omega
  go_enter Tryd.func8, Tryd.ntmps8
  go_wp2_with fail
  go_quiet ((first | (go_at_call 15; exact Calls.quiet_of_same (field_any _ _ _ _ (by omega) (by omega) (by omega) (by omega) (by omega))) | (go_at_call 16; exact Calls.quiet_of_same (flag_any _ _ _ (by omega) (by omega)))))
  go_wp2_with fail
  go_quiet ((go_at_call 15; exact quiet_add_same (field_any _ _ _ _ (by omega) (by omega) (by omega) (by omega) (by omega))))
  go_wp2_with (go_at_call 15; refine (field_any _ _ _ _ (by omega) (by omega) (by omega) (by omega) (by omega)).mono ?_; rintro e w1 ⟨rfl, rfl⟩)
  · obtain ⟨x, hx, hl, hg⟩ := word_0 F u v A B C Op Imm (by simp_all)
    rw [hx]
    have HG := Lib.hid hg
    clear hx hg e1 e2 e3 e4 e5 e6 l1 l2 l3 l4 l5 l6
    obtain ⟨k, hk⟩ : ∃ k, isOk x = k := ⟨_, rfl⟩
    obtain ⟨d, hd⟩ : ∃ d, decI x = d := ⟨_, rfl⟩
    have hc := fun w => decI_any x w hl
    rw [hk, hd] at hc
    have HD := Lib.hid hd
    have HK := Lib.hid hk
    obtain ⟨F', u', v', A', B', C', O', I'⟩ := d
    unfold Ins.val Ins.cells at hc
    simp only at hc
    refine (hc _).mono ?_
    rintro e w1 ⟨rfl, ho⟩
    have ho1 := Only.trans (Only.drewN (Only.alloc (Only.refl Nil w) (.cells #[Value.int .i64 F, .bool u, .bool v, .int .i64 A, .int .i64 B, .int .i64 C, .int .i64 Op, .int .i32 Imm] 26)) _) ho (fun _ _ h => h)
    have hb := (Blk.new w #[Value.int .i64 F, .bool u, .bool v, .int .i64 A, .int .i64 B, .int .i64 C, .int .i64 Op, .int .i32 Imm] 26).kept ((Only.drewN (Only.refl Nil _) _).trans ho (fun _ _ h => h)) (fun h => h)
    have hlt := hb.lt
    have b0 := hb.cell 0
    have b1 := hb.cell 1
    have b2 := hb.cell 2
    have b3 := hb.cell 3
    have b4 := hb.cell 4
    have b5 := hb.cell 5
    have b6 := hb.cell 6
    have b7 := hb.cell 7
    simp only [List.getElem?_toArray, List.getElem?_cons_zero, List.getElem?_cons_succ] at b0 b1 b2 b3 b4 b5 b6 b7
    clear hc hk hd hb ho
    cases k
    · go_wp2_with fail
      go_ret2
      exact end_not HK.out HG.out (ho1.alloc _)
    · go_wp2_with fail
      all_goals go_ret2
      all_goals first
        | exact end_no HK.out HD.out HG.out (by intro h; injection h; contradiction) (ho1.alloc _)
        | exact end_yes hl HK.out HD.out (by simp_all) (ho1.alloc _)
  · obtain ⟨x, hx, hl, hg⟩ := word_1 F u v A B C Op Imm (by simp_all)
    rw [hx]
    have HG := Lib.hid hg
    clear hx hg e1 e2 e3 e4 e5 e6 l1 l2 l3 l4 l5 l6
    obtain ⟨k, hk⟩ : ∃ k, isOk x = k := ⟨_, rfl⟩
    obtain ⟨d, hd⟩ : ∃ d, decI x = d := ⟨_, rfl⟩
    have hc := fun w => decI_any x w hl
    rw [hk, hd] at hc
    have HD := Lib.hid hd
    have HK := Lib.hid hk
    obtain ⟨F', u', v', A', B', C', O', I'⟩ := d
    unfold Ins.val Ins.cells at hc
    simp only at hc
    refine (hc _).mono ?_
    rintro e w1 ⟨rfl, ho⟩
    have ho1 := Only.trans (Only.drewN (Only.alloc (Only.refl Nil w) (.cells #[Value.int .i64 F, .bool u, .bool v, .int .i64 A, .int .i64 B, .int .i64 C, .int .i64 Op, .int .i32 Imm] 26)) _) ho (fun _ _ h => h)
    have hb := (Blk.new w #[Value.int .i64 F, .bool u, .bool v, .int .i64 A, .int .i64 B, .int .i64 C, .int .i64 Op, .int .i32 Imm] 26).kept ((Only.drewN (Only.refl Nil _) _).trans ho (fun _ _ h => h)) (fun h => h)
    have hlt := hb.lt
    have b0 := hb.cell 0
    have b1 := hb.cell 1
    have b2 := hb.cell 2
    have b3 := hb.cell 3
    have b4 := hb.cell 4
    have b5 := hb.cell 5
    have b6 := hb.cell 6
    have b7 := hb.cell 7
    simp only [List.getElem?_toArray, List.getElem?_cons_zero, List.getElem?_cons_succ] at b0 b1 b2 b3 b4 b5 b6 b7
    clear hc hk hd hb ho
    cases k
    · go_wp2_with fail
      go_ret2
      exact end_not HK.out HG.out (ho1.alloc _)
    · go_wp2_with fail
      all_goals go_ret2
      all_goals first
        | exact end_no HK.out HD.out HG.out (by intro h; injection h; contradiction) (ho1.alloc _)
        | exact end_yes hl HK.out HD.out (by simp_all) (ho1.alloc _)
  · obtain ⟨x, hx, hl, hg⟩ := word_2 F u v A B C Op Imm (by simp_all)
    rw [hx]
    have HG := Lib.hid hg
    clear hx hg e1 e2 e3 e4 e5 e6 l1 l2 l3 l4 l5 l6
    obtain ⟨k, hk⟩ : ∃ k, isOk x = k := ⟨_, rfl⟩
    obtain ⟨d, hd⟩ : ∃ d, decI x = d := ⟨_, rfl⟩
    have hc := fun w => decI_any x w hl
    rw [hk, hd] at hc
    have HD := Lib.hid hd
    have HK := Lib.hid hk
    obtain ⟨F', u', v', A', B', C', O', I'⟩ := d
    unfold Ins.val Ins.cells at hc
    simp only at hc
    refine (hc _).mono ?_
    rintro e w1 ⟨rfl, ho⟩
    have ho1 := Only.trans (Only.drewN (Only.alloc (Only.refl Nil w) (.cells #[Value.int .i64 F, .bool u, .bool v, .int .i64 A, .int .i64 B, .int .i64 C, .int .i64 Op, .int .i32 Imm] 26)) _) ho (fun _ _ h => h)
    have hb := (Blk.new w #[Value.int .i64 F, .bool u, .bool v, .int .i64 A, .int .i64 B, .int .i64 C, .int .i64 Op, .int .i32 Imm] 26).kept ((Only.drewN (Only.refl Nil _) _).trans ho (fun _ _ h => h)) (fun h => h)
    have hlt := hb.lt
    have b0 := hb.cell 0
    have b1 := hb.cell 1
    have b2 := hb.cell 2
    have b3 := hb.cell 3
    have b4 := hb.cell 4
    have b5 := hb.cell 5
    have b6 := hb.cell 6
    have b7 := hb.cell 7
    simp only [List.getElem?_toArray, List.getElem?_cons_zero, List.getElem?_cons_succ] at b0 b1 b2 b3 b4 b5 b6 b7
    clear hc hk hd hb ho
    cases k
    · go_wp2_with fail
      go_ret2
      exact end_not HK.out HG.out (ho1.alloc _)
    · go_wp2_with fail
      all_goals go_ret2
      all_goals first
        | exact end_no HK.out HD.out HG.out (by intro h; injection h; contradiction) (ho1.alloc _)
        | exact end_yes hl HK.out HD.out (by simp_all) (ho1.alloc _)
  · obtain rfl : u = true := by simp_all
    obtain ⟨x, hx, hl, hg⟩ := word_3 F true v A B C Op Imm (by simp_all) (by simp_all) (by simp_all) rfl
    rw [hx]
    have HG := Lib.hid hg
    clear hx hg e1 e2 e3 e4 e5 e6 l1 l2 l3 l4 l5 l6
    obtain ⟨k, hk⟩ : ∃ k, isOk x = k := ⟨_, rfl⟩
    obtain ⟨d, hd⟩ : ∃ d, decI x = d := ⟨_, rfl⟩
    have hc := fun w => decI_any x w hl
    rw [hk, hd] at hc
    have HD := Lib.hid hd
    have HK := Lib.hid hk
    obtain ⟨F', u', v', A', B', C', O', I'⟩ := d
    unfold Ins.val Ins.cells at hc
    simp only at hc
    refine (hc _).mono ?_
    rintro e w1 ⟨rfl, ho⟩
    have ho1 := Only.trans (Only.drewN (Only.alloc (Only.refl Nil w) (.cells #[Value.int .i64 F, .bool true, .bool v, .int .i64 A, .int .i64 B, .int .i64 C, .int .i64 Op, .int .i32 Imm] 26)) _) ho (fun _ _ h => h)
    have hb := (Blk.new w #[Value.int .i64 F, .bool true, .bool v, .int .i64 A, .int .i64 B, .int .i64 C, .int .i64 Op, .int .i32 Imm] 26).kept ((Only.drewN (Only.refl Nil _) _).trans ho (fun _ _ h => h)) (fun h => h)
    have hlt := hb.lt
    have b0 := hb.cell 0
    have b1 := hb.cell 1
    have b2 := hb.cell 2
    have b3 := hb.cell 3
    have b4 := hb.cell 4
    have b5 := hb.cell 5
    have b6 := hb.cell 6
    have b7 := hb.cell 7
    simp only [List.getElem?_toArray, List.getElem?_cons_zero, List.getElem?_cons_succ] at b0 b1 b2 b3 b4 b5 b6 b7
    clear hc hk hd hb ho
    cases k
    · go_wp2_with fail
      go_ret2
      exact end_not HK.out HG.out (ho1.alloc _)
    · go_wp2_with fail
      all_goals go_ret2
      all_goals first
        | exact end_no HK.out HD.out HG.out (by intro h; injection h; first | contradiction | simp_all) (ho1.alloc _)
        | exact end_yes hl HK.out HD.out (by simp_all) (ho1.alloc _)
  · obtain rfl : u = false := by simp_all
    obtain ⟨x, hx, hl, hg⟩ := word_4 F false v A B C Op Imm (by simp_all) (by simp_all) (by simp_all) rfl
    rw [hx]
    have HG := Lib.hid hg
    clear hx hg e1 e2 e3 e4 e5 e6 l1 l2 l3 l4 l5 l6
    obtain ⟨k, hk⟩ : ∃ k, isOk x = k := ⟨_, rfl⟩
    obtain ⟨d, hd⟩ : ∃ d, decI x = d := ⟨_, rfl⟩
    have hc := fun w => decI_any x w hl
    rw [hk, hd] at hc
    have HD := Lib.hid hd
    have HK := Lib.hid hk
    obtain ⟨F', u', v', A', B', C', O', I'⟩ := d
    unfold Ins.val Ins.cells at hc
    simp only at hc
    refine (hc _).mono ?_
    rintro e w1 ⟨rfl, ho⟩
    have ho1 := Only.trans (Only.drewN (Only.alloc (Only.refl Nil w) (.cells #[Value.int .i64 F, .bool false, .bool v, .int .i64 A, .int .i64 B, .int .i64 C, .int .i64 Op, .int .i32 Imm] 26)) _) ho (fun _ _ h => h)
    have hb := (Blk.new w #[Value.int .i64 F, .bool false, .bool v, .int .i64 A, .int .i64 B, .int .i64 C, .int .i64 Op, .int .i32 Imm] 26).kept ((Only.drewN (Only.refl Nil _) _).trans ho (fun _ _ h => h)) (fun h => h)
    have hlt := hb.lt
    have b0 := hb.cell 0
    have b1 := hb.cell 1
    have b2 := hb.cell 2
    have b3 := hb.cell 3
    have b4 := hb.cell 4
    have b5 := hb.cell 5
    have b6 := hb.cell 6
    have b7 := hb.cell 7
    simp only [List.getElem?_toArray, List.getElem?_cons_zero, List.getElem?_cons_succ] at b0 b1 b2 b3 b4 b5 b6 b7
    clear hc hk hd hb ho
    cases k
    · go_wp2_with fail
      go_ret2
      exact end_not HK.out HG.out (ho1.alloc _)
    · go_wp2_with fail
      all_goals go_ret2
      all_goals first
        | exact end_no HK.out HD.out HG.out (by intro h; injection h; first | contradiction | simp_all) (ho1.alloc _)
        | exact end_yes hl HK.out HD.out (by simp_all) (ho1.alloc _)
end Go.Proofs.YthimhbfglgnohaaDoor
