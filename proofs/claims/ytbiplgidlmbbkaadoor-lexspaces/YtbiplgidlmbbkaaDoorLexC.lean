/- lex's reader, on: the walks of its methods skip, choose, end and sign. -/
import Derived.Test.YtbiplgidlmbbkaaDoorLexB
import Derived.Lib.Hide
namespace Go.Proofs.YtbiplgidlmbbkaaDoor
open Go.RowKit

/-- a token's cells, but for its text and its place -/
def tkv (kd n t : Int) : Value := .agg #[.int .i64 kd, .string ⟨#[]⟩, .int .i64 n, .int .i64 t, .int .i64 0, .int .i64 0]

/-- what a token's reader answers, and where it stands then -/
def rdPost (b : Nat) (s : ByteArray) (i m : Nat) (w : World) (x : Lex.Tok) (e : Ending) (w' : World) : Prop :=
  (match x with
    | .bad er => e = .returned (.tuple #[tkv 0 0 0, .int .i64 er]) ∧ (¬ er = 0) ∧ (∃ j, j ≤ s.size ∧ Rd w' b s j m)
    | .tok kd n t len => e = .returned (.tuple #[tkv kd n t, .int .i64 0]) ∧ i + len ≤ s.size ∧ Rd w' b s (i + len) m) ∧ w.grownBy w' (some b)

/-- which method reads the token that begins a text -/
def chF (l : List UInt8) : FuncId :=
  match l with
  | [] => 39
  | c :: _ => if Lex.digit c then 41 else if Lex.word c then 43 else 44

theorem enterEnd : ∀ args w, (callFunc 39 args).run Tryd.prog w = .ok (.enter 39 args) w := fun _ _ => by kernel_rfl

theorem enterDigit : ∀ args w, (callFunc 40 args).run Tryd.prog w = .ok (.enter 40 args) w := fun _ _ => by kernel_rfl

theorem enterWord : ∀ args w, (callFunc 42 args).run Tryd.prog w = .ok (.enter 42 args) w := fun _ _ => by kernel_rfl

theorem enterInLine : ∀ args w, (callFunc 38 args).run Tryd.prog w = .ok (.enter 38 args) w := fun _ _ => by kernel_rfl

set_option maxHeartbeats 400000 in
theorem end_any (b : Nat) (s : ByteArray) (i m : Nat) (w : World) (hi : i ≤ s.size) (h : Rd w b s i m) :
    Calls Tryd.prog 39 #[.pointer (some ⟨b, 0, none⟩)] w fun e w' => rdPost b s i m w (.tok 5 0 0 0) e w' := by
  go_enter Tryd.func39, Tryd.ntmps39
  go_wp2
  (try simp only [Exit.inBlock, Exit.then])
  refine bodyPost_ret (v := .tuple #[tkv 5 0 0, .int .i64 0]) ?_ rfl ⟨⟨rfl, hi, h.alloc _⟩, World.grownBy_alloc w _ _⟩
  rw [results_cell_tmp rfl]
  unfold tkv
  go_simp

set_option maxHeartbeats 400000 in
theorem choose_any (b : Nat) (s : ByteArray) (i m : Nat) (hi : i ≤ s.size) (w : World) (h : Rd w b s i m) :
    Calls Tryd.prog 27 #[.pointer (some ⟨b, 0, none⟩)] w fun e w' => e = .returned (.func (.func (chF (s.data.toList.drop i))) #[.pointer (some ⟨b, 0, none⟩)] #[]) ∧ ∃ k, w' = w.drewN k := by
  have c0 := h.c0
  have c1 := h.c1
  by_cases hlt : i < s.size
  · have hd : ((i : Int) == (s.size : Int)) = false := by rw [beq_eq_false_iff_ne]; omega
    have hx := fun wx => idx_str s i hlt (i : Int) rfl wx
    obtain ⟨c, hc⟩ : ∃ c : UInt8, c = s.data.toList[i]'(by simpa using hlt) := ⟨_, rfl⟩
    have hp : Lex.pk s.data.toList i = c.toNat := by rw [Lex.pk_eq (by simpa using hlt), hc]
    simp only [hp] at hx
    have hl : s.data.toList.drop i = c :: s.data.toList.drop (i + 1) := by rw [List.drop_eq_getElem_cons (by simpa using hlt), hc]
    rw [hl]
    clear hl hc hp
    rcases Bool.eq_false_or_eq_true (Lex.digit c) with h1 | h1
    · rw [show chF (c :: s.data.toList.drop (i + 1)) = 41 by simp [chF, h1]]
      go_enter Tryd.func27, Tryd.ntmps27
      go_wp2
      go_quiet (fail)
      go_wp2
      go_quiet (fail)
      go_wp2_with (first | (go_at_call 40; refine (lexDigit_any _ _).mono ?_; rintro e w' ⟨rfl, rfl⟩) | (go_at_call 42; refine (lexWord_any _ _).mono ?_; rintro e w' ⟨rfl, rfl⟩))
      go_ret
      exact ⟨rfl, _, rfl⟩
    · rcases Bool.eq_false_or_eq_true (Lex.word c) with h2 | h2
      · rw [show chF (c :: s.data.toList.drop (i + 1)) = 43 by simp [chF, h1, h2]]
        go_enter Tryd.func27, Tryd.ntmps27
        go_wp2
        go_quiet (fail)
        go_wp2
        go_quiet (fail)
        go_wp2_with (first | (go_at_call 40; refine (lexDigit_any _ _).mono ?_; rintro e w' ⟨rfl, rfl⟩) | (go_at_call 42; refine (lexWord_any _ _).mono ?_; rintro e w' ⟨rfl, rfl⟩))
        go_ret
        exact ⟨rfl, _, rfl⟩
      · rw [show chF (c :: s.data.toList.drop (i + 1)) = 44 by simp [chF, h1, h2]]
        go_enter Tryd.func27, Tryd.ntmps27
        go_wp2
        go_quiet (fail)
        go_wp2
        go_quiet (fail)
        go_wp2_with (first | (go_at_call 40; refine (lexDigit_any _ _).mono ?_; rintro e w' ⟨rfl, rfl⟩) | (go_at_call 42; refine (lexWord_any _ _).mono ?_; rintro e w' ⟨rfl, rfl⟩))
        go_ret
        exact ⟨rfl, _, rfl⟩
  · have hd : ((i : Int) == (s.size : Int)) = true := by rw [beq_iff_eq]; omega
    have hl : s.data.toList.drop i = [] := List.drop_eq_nil_of_le (by simpa using hlt)
    rw [hl]
    clear hl
    go_enter Tryd.func27, Tryd.ntmps27
    go_wp2
    go_quiet (fail)
    go_wp2
    go_ret
    exact ⟨rfl, _, rfl⟩

theorem signW_le (c d : Nat) : Lex.signW c d ≤ 2 := by unfold Lex.signW; repeat' split
                                                       all_goals omega
theorem signW_two (c d : Nat) (h : Lex.signW c d = 2) : ¬ d = 0 := by
  unfold Lex.signW at h
  split at h
  · omega
  · split at h <;> omega

set_option maxHeartbeats 800000 in
theorem sign_any (b : Nat) (s : ByteArray) (i m : Nat) (hs : s.size ≤ 65536) (hi : i < s.size) (w : World) (h : Rd w b s i m) :
    Calls Tryd.prog 44 #[.pointer (some ⟨b, 0, none⟩)] w fun e w' => rdPost b s i m w (Lex.signTok (s.data.toList.drop i)) e w' := by
  obtain ⟨k, hk⟩ : ∃ k : Nat, k = Lex.signW (Lex.pk s.data.toList (i + 0)) (Lex.pk s.data.toList (i + 1)) := ⟨_, rfl⟩
  have hw := fun wx => lexSignWidth_any (Lex.pk s.data.toList (i + 0)) (Lex.pk s.data.toList (i + 1)) wx
  rw [← hk] at hw
  have hk2 : k ≤ 2 := by rw [hk]; exact signW_le _ _
  have hle : i + k ≤ s.size := by
    by_cases h2 : k = 2
    · have h3 := signW_two _ _ (hk.symm.trans h2)
      by_cases h4 : i + 1 < s.size
      · omega
      · exact absurd (Lex.pk_ge (by simp; omega)) h3
    · omega
  have ht : Lex.signTok (s.data.toList.drop i) = if k = 0 then .bad 10 else .tok 4 0 0 k := by
    simp only [Lex.signTok, Lex.pk_drop, hk]
  rw [ht]
  clear ht hk
  have p0 : ∀ wx, Rd wx b s i m → Calls Tryd.prog 36 #[.pointer (some ⟨b, 0, none⟩), .int .i64 0] wx fun e w' => e = .returned (.int .u8 (Lex.pk s.data.toList (i + 0) : Int)) ∧ ∃ k, w' = wx.drewN k :=
    fun wx hx => peek_any b s i 0 m hs (by omega) (by omega) wx hx
  have p1 : ∀ wx, Rd wx b s i m → Calls Tryd.prog 36 #[.pointer (some ⟨b, 0, none⟩), .int .i64 1] wx fun e w' => e = .returned (.int .u8 (Lex.pk s.data.toList (i + 1) : Int)) ∧ ∃ k, w' = wx.drewN k :=
    fun wx hx => peek_any b s i 1 m hs (by omega) (by omega) wx hx
  generalize Lex.pk s.data.toList (i + 0) = q0 at p0 hw
  generalize Lex.pk s.data.toList (i + 1) = q1 at p1 hw
  have hR1 : Rd (w.alloc (.cells #[.int .i64 0, .string ⟨#[]⟩, .int .i64 0, .int .i64 0, .int .i64 0, .int .i64 0] 30)) b s i m := h.alloc _
  have hb := h.lt
  have c1 := h.c1
  have f1 := h.fr 1
  have hh := h
  by_cases h0 : k = 0
  · subst h0
    go_enter Tryd.func44, Tryd.ntmps44
    go_wp2_with (go_at_call 36; refine (p0 _ hR1).mono ?_; rintro e w' ⟨rfl, k1, rfl⟩; refine Hid.out ?_)
    refine Lib.hid ?_
    go_wp2_with (go_at_call 36; refine (p1 _ (hR1.drewN _)).mono ?_; rintro e w' ⟨rfl, k2, rfl⟩; refine Hid.out ?_)
    refine Lib.hid ?_
    go_wp2_with (go_at_call 48; refine (hw _).mono ?_; rintro e w' ⟨rfl, rfl⟩)
    (try simp only [Exit.inBlock, Exit.then])
    refine bodyPost_ret (v := .tuple #[tkv 0 0 0, .int .i64 10]) ?_ rfl ?_
    · rw [results_cell_tmp rfl]
      unfold tkv
      go_simp
    · go_light
      refine ⟨⟨rfl, by decide, i, by omega, ?_⟩, ?_⟩
      · repeat (first | with_reducible exact hh | with_reducible refine Rd.drewN ?_ _ | with_reducible refine Rd.alloc ?_ _ | with_reducible refine Rd.other ?_ (by show ¬ b = w.heap.size; omega) _)
      · repeat (first | with_reducible exact World.grownBy.refl _ _ | with_reducible refine gdrewN ?_ _ | with_reducible refine galloc ?_ _ | with_reducible refine gset ?_ (.inl (Nat.le_refl _)) _ | with_reducible refine gset ?_ (.inr rfl) _)
  · rw [if_neg h0]
    have hk0 : ((k : Int) == 0) = false := by rw [beq_eq_false_iff_ne]; omega
    go_enter Tryd.func44, Tryd.ntmps44
    go_wp2_with (go_at_call 36; refine (p0 _ hR1).mono ?_; rintro e w' ⟨rfl, k1, rfl⟩; refine Hid.out ?_)
    refine Lib.hid ?_
    go_wp2_with (go_at_call 36; refine (p1 _ (hR1.drewN _)).mono ?_; rintro e w' ⟨rfl, k2, rfl⟩; refine Hid.out ?_)
    refine Lib.hid ?_
    go_wp2_with (go_at_call 48; refine (hw _).mono ?_; rintro e w' ⟨rfl, rfl⟩)
    (try simp only [Exit.inBlock, Exit.then])
    refine bodyPost_ret (v := .tuple #[tkv 4 0 0, .int .i64 0]) ?_ rfl ?_
    · rw [results_cell_tmp rfl]
      unfold tkv
      go_simp
    · go_light
      refine ⟨⟨rfl, hle, ?_⟩, ?_⟩
      · repeat (first | with_reducible exact h | with_reducible refine Rd.drewN ?_ _ | with_reducible refine Rd.alloc ?_ _ | with_reducible refine Rd.other ?_ (by show ¬ b = w.heap.size; omega) _ | with_reducible refine Rd.add ?_ k)
      · repeat (first | with_reducible exact World.grownBy.refl _ _ | with_reducible refine gdrewN ?_ _ | with_reducible refine galloc ?_ _ | with_reducible refine gset ?_ (.inl (Nat.le_refl _)) _ | with_reducible refine gset ?_ (.inr rfl) _)

end Go.Proofs.YtbiplgidlmbbkaaDoor
