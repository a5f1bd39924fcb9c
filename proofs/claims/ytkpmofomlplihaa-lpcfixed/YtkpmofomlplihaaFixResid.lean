/- Package fixed: Residual. -/
import Derived.Test.YtkpmofomlplihaaNear
namespace Go.Proofs.Ytkpmofomlplihaa
open Go.RowKit Bx

/-- What is wrong. -/
def resE (n : Nat) (order : Int) : Int := if order < 0 ∨ 4 < order then 1 else if (n : Int) < order then 2 else 0
/-- What is left. -/
def resL (zs : List Int) (order : Int) : List Int := if resE zs.length order = 0 then dn order.toNat zs else []

def ResPost (zs : List Int) (order : Int) (w : World) (e : Ending) (w' : World) : Prop :=
  ∃ u, e = .returned (.tuple #[u, .int .i64 (resE zs.length order)]) ∧ w'.ownsRow w.heap.size 3 1 u (resL zs order).length (ivs (resL zs order)) ∧ Kept Nix w w'

theorem resE_arg (n : Nat) {order : Int} (h : order < 0 ∨ 4 < order) : resE n order = 1 := by unfold resE; rw [if_pos h]
theorem resE_short {n : Nat} {order : Int} (h : ¬ (order < 0 ∨ 4 < order)) (h2 : (n : Int) < order) : resE n order = 2 := by unfold resE; rw [if_neg h, if_pos h2]
theorem resE_ok {n k : Nat} (h : k ≤ 4) (h2 : k ≤ n) : resE n (k : Int) = 0 := by unfold resE; rw [if_neg (by omega), if_neg (by omega)]
theorem resL_bad {zs : List Int} {order : Int} (h : ¬ resE zs.length order = 0) : resL zs order = [] := by unfold resL; rw [if_neg h]
theorem resL_ok {zs : List Int} {k : Nat} (h : k ≤ 4) (h2 : k ≤ zs.length) : resL zs (k : Int) = dn k zs := by unfold resL; rw [if_pos (resE_ok h h2)]; rfl

def ResInv (k : Nat) (zs : List Int) (w : World) (a : Act) (w' : World) : Prop :=
  a.defers = [] ∧ a.tmps.size = 26 ∧ ∃ r j : Nat, r + j = k ∧ a.tmps[1]? = some (.int .i64 (r : Int)) ∧ ∃ u, a.tmps[6]? = some u ∧ w'.ownsRow w.heap.size 3 1 u (dn j zs).length (ivs (dn j zs)) ∧ Kept Nix w w'

def resMeasure (a : Act) : Nat := (intOf (a.tmps.getD 1 undef)).toNat

noncomputable def resRest : Code := behindLabel (Try.f20.body.getD .skip) 0

theorem res_next (r r' : Nat) (h : r' + 1 = r) (h4 : r ≤ 4) : ((r : Int) == 0) = false ∧ wrap64 ((r : Int) - 1) = (r' : Int) := by
  subst h
  exact ⟨by simp; omega, by unfold wrap64; omega⟩

set_option maxHeartbeats 1000000 in
theorem res_pass (k : Nat) (zs : List Int) (w : World) (hk : k ≤ 4) (hkl : k ≤ zs.length) (hb : Bd 1099511627776 zs)
    (R : Ending → World → Prop) (hR : ∀ u w', w'.ownsRow w.heap.size 3 1 u (dn k zs).length (ivs (dn k zs)) → Kept Nix w w' → R (.returned (.tuple #[u, .int .i64 0])) w')
    (a : Act) (w' : World) (hi : ResInv k zs w a w') :
    resRest.wp Try.prog (Exit.jump 0 (fun a' w'' => ResInv k zs w a' w'' ∧ resMeasure a' < resMeasure a) (bodyPost Try.prog Try.f20 R)) a w' := by
  obtain ⟨tm, df⟩ := a
  obtain ⟨rfl, hs, r, j, hrj, h1, u, h6, ho, hkp⟩ := hi
  simp only at hs h1 h6
  obtain ⟨f, hf, hg⟩ := fr_open hs
  have e1 := hg _ _ h1
  have e6 := hg _ _ h6
  simp only [List.range, List.range.loop, List.map] at hf
  rw [e1, e6] at hf
  clear e1 e6 hg hs h1 h6
  subst hf
  have HO := Lib.hid ho
  have HK := Lib.hid hkp
  have HB := Lib.hid hb
  have HR := Lib.hid hR
  have HRJ := Lib.hid hrj
  have HKK := Lib.hid hk
  have HKL := Lib.hid hkl
  clear ho hkp hb hR
  conv => arg 2; whnf
  by_cases hr : r = 0
  · subst hr
    have hjk : j = k := by omega
    subst hjk
    clear hrj hk hkl
    go_wp2
    exact HR.out _ _ HO.out HK.out
  · obtain ⟨r', hr'⟩ : ∃ r', r' + 1 = r := ⟨r - 1, by omega⟩
    obtain ⟨hr0, hrw⟩ := res_next r r' hr' (by omega)
    have hlen : (dn j zs).length = (dn (j + 1) zs).length + 1 := by rw [dn_length, dn_length]; omega
    obtain ⟨g, cap, rfl, _, _, hgb, _⟩ := owns_pos HO.out (by omega)
    have HD := Lib.hid (diff_any w.heap.size g cap _ (dn j zs) w' hlen HO.out ((HB.out.dn (by decide) j (by omega)).mono (by decide)))
    have HGB := Lib.hid hgb
    have HR' := Lib.hid hr'
    clear hr' hrj hk hkl hlen hgb hr
    go_wp2_with (go_at_call 27; refine HD.out.mono ?_; rintro e w2 ⟨rfl, ho2, hk2⟩; have HO2 := Lib.hid ho2; have HK2 := Lib.hid hk2; clear ho2 hk2 HD)
    rw [hrw]
    refine wp_goto ⟨rfl, ⟨rfl, rfl, r', j + 1, ?_, rfl, _, rfl, HO2.out, ?_⟩, ?_⟩
    · have := HRJ.out; have := HR'.out; omega
    · exact nix_put HK.out HK2.out (fun i hi => by rw [show i = g from hi]; exact HGB.out)
    · have := HR'.out
      simp only [resMeasure, intOf]
      simp
      omega

theorem res_sizes (n k : Nat) (h : k ≤ 4) (h2 : k ≤ n) : decide ((k : Int) < 0) = false ∧ decide ((4 : Int) < (k : Int)) = false ∧ decide (n < k) = false :=
  ⟨decide_eq_false (by omega), decide_eq_false (by omega), decide_eq_false (by omega)⟩

set_option maxHeartbeats 1000000 in
theorem res_any (u : Value) (zs : List Int) (order : Int) (w : World) (hs : Sl w u (ivs zs)) (hl : zs.length < 1099511627776) (hb : Bd 1099511627776 zs) :
    Calls Try.prog 20 #[u, .int .i64 order] w (ResPost zs order w) := by
  obtain ⟨ao, cap, rfl, _⟩ := hs.ints
  have HN := Lib.hid (World.ownsRow_nil w w.heap.size 3 1)
  by_cases h1 : order < 0 ∨ 4 < order
  · have HP : Hid (ResPost zs order w (.returned (.tuple #[.slice none 0 0, .int .i64 1])) w) := Lib.hid (by
      have h0 : ¬ resE zs.length order = 0 := by rw [resE_arg _ h1]; decide
      refine ⟨_, by rw [resE_arg _ h1], ?_, Kept.refl _ _⟩
      rw [resL_bad h0]
      exact HN.out)
    clear hs hl hb
    by_cases h2 : order < 0
    · have hd : decide (order < 0) = true := decide_eq_true h2
      clear h1 h2
      go_enter Try.func20, Try.ntmps20
      go_wp2
      refine wp_scope_jumps 0 (fun _ _ => False) (fun _ _ => 0) rfl ?_ ?_
      · go_wp2
        simp only [Exit.jump]
        go_ret2
        exact HP.out
      · intro a' w' hi
        exact hi.elim
    · have hd : decide (order < 0) = false := decide_eq_false h2
      have hd2 : decide (4 < order) = true := decide_eq_true (by omega)
      clear h1 h2
      go_enter Try.func20, Try.ntmps20
      go_wp2
      refine wp_scope_jumps 0 (fun _ _ => False) (fun _ _ => 0) rfl ?_ ?_
      · go_wp2
        simp only [Exit.jump]
        go_ret2
        exact HP.out
      · intro a' w' hi
        exact hi.elim
  · obtain ⟨k, rfl⟩ := Int.eq_ofNat_of_zero_le (show 0 ≤ order by omega)
    by_cases h2 : (zs.length : Int) < (k : Int)
    · have HP : Hid (ResPost zs (k : Int) w (.returned (.tuple #[.slice none 0 0, .int .i64 2])) w) := Lib.hid (by
        have h0 : ¬ resE zs.length (k : Int) = 0 := by rw [resE_short h1 h2]; decide
        refine ⟨_, by rw [resE_short h1 h2], ?_, Kept.refl _ _⟩
        rw [resL_bad h0]
        exact HN.out)
      have hd1 : decide ((k : Int) < 0) = false := decide_eq_false (by omega)
      have hd2 : decide ((4 : Int) < (k : Int)) = false := decide_eq_false (by omega)
      have hd3 : decide (zs.length < k) = true := decide_eq_true (by omega)
      clear hs hl hb h1 h2
      go_enter Try.func20, Try.ntmps20
      go_wp2
      refine wp_scope_jumps 0 (fun _ _ => False) (fun _ _ => 0) rfl ?_ ?_
      · go_wp2
        simp only [Exit.jump]
        go_ret2
        exact HP.out
      · intro a' w' hi
        exact hi.elim
    · have hk4 : k ≤ 4 := by omega
      have hkl : k ≤ zs.length := by omega
      obtain ⟨hd1, hd2, hd3⟩ := res_sizes zs.length k hk4 hkl
      have HPASS := Lib.hid (res_pass k zs w hk4 hkl hb (ResPost zs (k : Int) w) (fun u w' ho hk => ⟨u, by rw [resE_ok hk4 hkl], by rw [resL_ok hk4 hkl]; exact ho, hk⟩))
      have HCL := Lib.hid (clone_any _ zs w hs hl)
      clear hs hl hb h1 h2 hk4 hkl HN
      go_enter Try.func20, Try.ntmps20
      go_wp2
      refine wp_scope_jumps 0 (ResInv k zs w) (fun a' _ => resMeasure a') rfl ?_ ?_
      · go_wp2_with (go_at_call 26; refine HCL.out.mono ?_; rintro e w2 ⟨u2, rfl, ho2, hk2⟩; have HO2 := Lib.hid ho2; have HK2 := Lib.hid hk2; clear ho2 hk2)
        go_step3
        rename_i K hK
        refine hK _ _ ?_
        refine wp_mono (HPASS.out _ _ ⟨rfl, rfl, k, 0, rfl, rfl, u2, rfl, HO2.out, HK2.out⟩) ?_
        intro e a' w' h
        cases e with
        | goto l => exact ⟨h.1, h.2.1⟩
        | normal => exact h
        | exit id => exact h
        | ret => exact h
        | panic ch => exact h
        | outgrown => exact h
      · intro a' w' hi
        refine wp_seq (wp_skip ?_)
        exact HPASS.out a' w' hi

end Go.Proofs.Ytkpmofomlplihaa
