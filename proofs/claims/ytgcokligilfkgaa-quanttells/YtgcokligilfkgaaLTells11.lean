/- The walk of QuantTells. -/
import Derived.Test.YtgcokligilfkgaaQuArg
import Derived.Test.YtgcokligilfkgaaRQuant
import Derived.Test.YtgcokligilfkgaaRLSame
namespace Go.Proofs.Ytgcokligilfkgaa
open Go.RowKit Bx

theorem wpList_load_row_w {P : Program} {ops : Array Oper} {rest : List Oper} {o : Oper} {a : Act} {w : World} {Q : Exit → Act → World → Prop} (hgd : Region.wanted o (yielded ops a.tmps) = true) (ty : TypeId) (x : Operand) (ho : o.op = .load ty x)
    (g : Nat) (hx : a.eval x = .pointer (some ⟨g, 0, none⟩)) (t : TypeId) (cs : Array Value) (fr : Nat × Nat) (d : TypeDesc) (hg : w.heap[g]? = some (.cells cs t fr))
    (hu : P.underlying ty = some d) (hd : (match d with | .struct _ | .array _ _ => true | _ => false) = true) (hi : (P.info? ty).map (·.size) = some cs.size)
    (h : wpList P ops Q rest (a.put o.dst (.agg cs)) w) : wpList P ops Q (o :: rest) a w := by
  refine wpList_step fun K hK => ?_
  rw [if_pos hgd]
  exact wp_load_row ty x ho g hx t cs fr d hg hu hd hi (hK _ _ h)

theorem qz_many (zs : List Int) (p : Int) : (qz zs p).2.2.1.length < 1099511627776 := by
  unfold qz
  split
  · decide
  · unfold qgood
    split
    · decide
    · split
      · decide
      · rename_i h _ _ _ _
        simp only [tolds_length]
        omega

set_option maxRecDepth 10000 in
set_option maxHeartbeats 2000000 in
theorem walk_QuantTells (w : World) (v : Value) (zs : List Int) (hz : Sl w v (zs.map (Value.int .i64))) (hw : ∀ n ∈ zs, (Lit.int .i64 n).wf = true) (p : Int) (_ : (Lit.int .i64 p).wf = true) :
    Calls Try.prog 3 #[v, .int .i64 p] w fun e w' => e = .returned (.bool true) ∧ Kept Nix w w' := by
  have HA := awake_any w
  have HZ := Lib.hid (sl_ivs hz)
  obtain ⟨ao, ca, rfl, hc, -⟩ := hz.ints
  have HW := Lib.hid hw
  clear hz hc hw
  go_enter Try.func3, Try.ntmps3
  go_upto_region 3 with (first
    | (go_at_call 8; refine HA.mono ?_; rintro e w1 ⟨rfl, k1⟩; have K1 := Lib.hid k1; clear k1 HA; have NR := Lib.hid (rnear_any _ zs w1 (HZ.out.nix K1.out)))
    | (go_at_call 9; refine NR.out.mono ?_; rintro e w2 ⟨rfl, rfl⟩; clear NR))
  by_cases hlen : 40 < zs.length
  · have hd : decide ((40 : Int) < (zs.length : Int)) = true := decide_eq_true (by omega)
    clear hlen
    go_wp2
    go_ret
    exact ⟨rfl, K1.out⟩
  have hd : decide ((40 : Int) < (zs.length : Int)) = false := decide_eq_false (by omega)
  clear hlen
  cases hn : near zs with
  | false =>
    go_wp2
    go_ret
    exact ⟨rfl, K1.out⟩
  | true =>
    have HB := Lib.hid (near_bd hn)
    have QU1 := Lib.hid (quant_any _ zs p w2 (HZ.out.nix K1.out) HW.out)
    have QU2 := Lib.hid (fun w' (k : Kept Nix w2 w') => rquant_any _ zs p w' (HZ.out.nix (nix_trans K1.out k)) HB.out)
    have HM := Lib.hid (qz_many zs p)
    unfold QPost QPostR at QU1 QU2
    clear hn
    generalize qz zs p = R at *
    obtain ⟨s, P, L, E⟩ := R
    simp only at QU1 QU2 HM
    have hee : (E == E) = true := beq_self_eq_true _
    generalize zs.length = l at *
    go_upto_region 6 with (first
      | (go_at_call 10; refine QU1.out.mono ?_; rintro e w3 ⟨u3, rfl, o3, k3⟩; clear QU1
         obtain ⟨uo, uc, rfl, -, -⟩ := owns_shape o3
         have K3 := Lib.hid k3; have S3 := Lib.hid (sl_of_owns o3); clear o3 k3)
      | (refine wpList_store_row rfl 26 _ _ rfl _ _ rfl rfl 26 _ (heap_alloc_new w3 _) size_lpc rfl (one_lpc _ _ _ _ _) ?_))
    obtain ⟨k4, hc4⟩ := put_lpc w3 s P (.slice uo L.length uc) _ rfl
    generalize World.setRow _ _ _ = w4 at *
    generalize w3.heap.size = g at *
    have K4 := Lib.hid (nix_trans K3.out k4)
    have S4 := Lib.hid (S3.out.nix k4)
    have C4 := Lib.hid (fun w' k => (hc4 w' k).1)
    clear hc4 k4 hd
    go_upto_region 7 with (first
      | (go_at_call 11; refine (QU2.out _ K4.out).mono ?_; rintro e w5 ⟨u5, rfl, o5, k5⟩; clear QU2
         obtain ⟨uo5, uc5, rfl, -, -⟩ := owns_shape o5
         have K5 := Lib.hid k5; have S5 := Lib.hid (sl_of_owns o5); clear o5 k5)
      | (refine wpList_store_row rfl 26 _ _ rfl _ _ rfl rfl 26 _ (heap_alloc_new w5 _) size_lpc rfl (one_lpc _ _ _ _ _) ?_))
    obtain ⟨k6, hc6⟩ := put_lpc w5 s P (.slice uo5 L.length uc5) _ rfl
    generalize World.setRow _ _ _ = w6 at *
    generalize w5.heap.size = g2 at *
    have K46 := Lib.hid (nix_trans K5.out k6)
    have KW := Lib.hid (nix_trans K1.out (nix_trans K4.out K46.out))
    have H6 := Lib.hid (hc6 w6 (Kept.refl _ _)).1
    have H4 := Lib.hid (C4.out w6 K46.out)
    have SM := Lib.hid (rlsame_eq s P _ _ L w6 (S4.out.nix K46.out) (S5.out.nix k6) HM.out)
    clear hc6 k6
    go_wp2_with (first
      | (refine wpList_load_row_w rfl 26 _ rfl g rfl 26 _ (0, 0) _ H4.out Try.underlying26 rfl size_lpc ?_)
      | (refine wpList_load_row_w rfl 26 _ rfl g2 rfl 26 _ (0, 0) _ H6.out Try.underlying26 rfl size_lpc ?_)
      | (go_at_call 12; refine SM.out.mono ?_; rintro e w7 ⟨rfl, k7⟩; have K7 := Lib.hid k7; clear k7 SM))
    go_ret
    exact ⟨rfl, nix_trans KW.out K7.out⟩

end Go.Proofs.Ytgcokligilfkgaa
