/- The walk of the statement NumberTakes. -/
import Derived.Test.YtipbldajpdacdaaLNum
namespace Go.Proofs.Ytipbldajpdacdaa
open Go.RowKit Bx Nm

theorem Sl.drop {w : World} {ao : Option Addr} {len cap : Nat} {xs : List Value} (h : Sl w (.slice ao len cap) xs) (k : Nat) (hk : k ≤ len) : Sl w (.slice (if cap = k then ao else ao.map (fun x => x.add k)) (len - k) (cap - k)) (xs.drop k) := by
  obtain ⟨ao', c, e, hc, hm, hno, hp⟩ := h
  simp only [Value.slice.injEq] at e
  obtain ⟨rfl, rfl, rfl⟩ := e
  have hl : (xs.drop k).length = xs.length - k := by simp
  refine ⟨_, cap - k, by rw [hl], by omega, by omega, fun h => ?_, fun h0 => ?_⟩
  · split at h
    · omega
    · cases ao with
      | none => have := hno rfl; omega
      | some a => simp at h
  · obtain ⟨b, off, rfl, hb, hh⟩ := hp (by omega)
    rw [if_neg (by omega)]
    refine ⟨b, off + k, by simp [Addr.add_lit], hb, fun j u hu => ?_⟩
    rw [List.getElem?_drop] at hu
    have := hh (k + j) u hu
    rwa [Nat.add_assoc]

theorem elem_bytes : Try.prog.elem 22 = 5 := by kernel_rfl
theorem size_u8 (w : World) : (sizeOf 5).run Try.prog w = .ok 1 w := by
  obtain ⟨i, hi, hz, hsize, hby⟩ := info_parts info_u8
  simp [sizeOf, typeInfo, hi, hsize]

/-- A slice of bytes from k on. -/
theorem run_from (w : World) (ao : Option Addr) (len cap k : Nat) (h : k ≤ len) : (Instr.slice 22 (.slice ao len cap) (some (.int .i64 (k : Int))) none none).run Try.prog w = .ok (.slice (if cap = k then ao else ao.map (fun x => x.add k)) (len - k) (cap - k)) w := by
  have ht : Try.prog.underlying 22 = some (.slice (Try.prog.elem 22)) := by rw [elem_bytes]; exact Try.underlying22
  rw [run_slice_l w 22 ao len cap ht .i64 (k : Int) (by omega) (by omega), elem_bytes, size_u8]
  simp [sliced]
theorem run_from_at (w : World) (ao : Option Addr) (len cap k : Nat) (h : k ≤ len) : (Instr.sliceAt 22 (.slice ao len cap) (some (.int .i64 (k : Int))) none none).run Try.prog w = .ok (.slice (if cap = k then ao else ao.map (fun x => x.add k)) (len - k) (cap - k)) w := by
  have ht : Try.prog.underlying 22 = some (.slice (Try.prog.elem 22)) := by rw [elem_bytes]; exact Try.underlying22
  rw [run_sliceAt_slice w 22 _ _ _ _ ht, run_from w ao len cap k h]

/-- Numbers' bytes, one behind the other. -/
def cat (l : List Nat) : List Nat := (l.map enc).flatten

theorem cat_snoc (l : List Nat) (x : Nat) : cat (l ++ [x]) = cat l ++ enc x := by simp [cat]
theorem cat_cons (l : List Nat) (x : Nat) : cat (x :: l) = enc x ++ cat l := by simp [cat]
theorem cat_length (l : List Nat) (h : ∀ x ∈ l, x < 68719476736) : (cat l).length ≤ 7 * l.length := by
  induction l with
  | nil => simp [cat]
  | cons x l ih =>
    have h1 := ih (fun y hy => h y (by simp [hy]))
    have h2 := enc_length x (h x (by simp))
    have h3 := szn_le x
    rw [cat_cons]
    simp only [List.length_append, List.length_cons]
    omega
theorem cat_lt (l : List Nat) (h : ∀ x ∈ l, x < 68719476736) : ∀ b ∈ cat l, b < 256 := by
  induction l with
  | nil => simp [cat]
  | cons x l ih =>
    intro b hb
    rw [cat_cons] at hb
    rcases List.mem_append.1 hb with hb | hb
    · exact enc_lt x (h x (by simp)) b hb
    · exact ih (fun y hy => h y (by simp [hy])) b hb

def low36 (zs : List Int) : List Nat := zs.map fun z => (z % 68719476736).toNat

theorem low36_lt (zs : List Int) : ∀ x ∈ low36 zs, x < 68719476736 := by
  intro x hx
  simp only [low36, List.mem_map] at hx
  obtain ⟨z, _, rfl⟩ := hx
  have := Int.emod_lt_of_pos z (show (0 : Int) < 68719476736 by decide)
  have := Int.emod_nonneg z (show (68719476736 : Int) ≠ 0 by decide)
  omega
theorem low36_get (zs : List Int) (i : Nat) (h : i < zs.length) : zs.getD i 0 % 68719476736 = (((low36 zs).getD i 0 : Nat) : Int) := by
  have h2 : (low36 zs)[i]? = some ((zs[i] % 68719476736).toNat) := by simp [low36, h]
  have := Int.emod_nonneg zs[i] (show (68719476736 : Int) ≠ 0 by decide)
  simp only [List.getD, h2, List.getElem?_eq_getElem h, Option.getD_some]
  omega

def PutsInv (v : Value) (l : List Nat) (w : World) (a : Act) (w' : World) : Prop :=
  a.defers = [] ∧ a.tmps.size = 94 ∧ a.tmps[0]? = some v ∧ a.tmps[3]? = some (.bool true) ∧ ∃ i vb, i ≤ l.length ∧ a.tmps[5]? = some (.int .i64 ((i : Nat) : Int)) ∧ a.tmps[4]? = some vb ∧
    w'.ownsRow w.heap.size 5 1 vb (cat (l.take i)).length (u8s (cat (l.take i))) ∧ Kept Nix w w'

def TakesInv (v : Value) (l : List Nat) (w : World) (a : Act) (w' : World) : Prop :=
  a.defers = [] ∧ a.tmps.size = 94 ∧ a.tmps[0]? = some v ∧ a.tmps[3]? = some (.bool true) ∧ ∃ i vb, i ≤ l.length ∧ a.tmps[8]? = some (.int .i64 ((i : Nat) : Int)) ∧ a.tmps[4]? = some vb ∧
    Sl w' vb (u8s (cat (l.drop i))) ∧ Kept Nix w w'

set_option maxHeartbeats 2000000 in
theorem walk_NumberTakes (w : World) (v : Value) (zs : List Int) (s : Sl w v (zs.map (Value.int .u64))) (hz : ∀ n ∈ zs, (Lit.int .u64 n).wf = true) :
    Calls Try.prog 8 #[v] w fun e w' => e = .returned (.bool true) ∧ Kept Nix w w' := by
  have HA := Lib.hid (awake_any w)
  obtain ⟨ao, cap, rfl, hc, hm, hp⟩ := s.ints
  have HSZ := Lib.hid s
  have HP := Lib.hid hp
  have HW := Lib.hid (fun n hn => bounds_u64 (hz n hn))
  clear s hz hp
  by_cases hlen : 30 < (zs.length : Int)
  · go_enter Try.func8, Try.ntmps8
    go_wp2_with fail
    refine HA.out.mono ?_
    rintro e w1 ⟨rfl, k1⟩
    go_wp2_with fail
    go_ret
    exact ⟨rfl, k1⟩
  · have hlen2 : decide (30 < (zs.length : Int)) = false := by simpa using hlen
    have HLEN := Lib.hid hlen
    have hll : (low36 zs).length = zs.length := by simp [low36]
    have hlt := low36_lt zs
    have HLT := Lib.hid hlt
    have HGET := Lib.hid (low36_get zs)
    have HLL := Lib.hid hll
    clear hlen hlt hll
    generalize low36 zs = l at *
    go_enter Try.func8, Try.ntmps8
    go_wp2_with fail
    refine HA.out.mono ?_
    rintro e w1 ⟨rfl, k1⟩
    go_wp2_with fail
    refine wp_loop (PutsInv (.slice ao zs.length cap) l w) (fun a _ => zs.length - (intOf (a.tmps.getD 5 undef)).toNat) ?_ ?_
    · exact ⟨rfl, rfl, rfl, rfl, 0, _, Nat.zero_le _, rfl, rfl, World.ownsRow_nil _ _ _ _, k1⟩
    · rintro ⟨tm, df⟩ w2 ⟨rfl, hs, h0, h3, i, vb, hi, h5, h4, ho, k2⟩
      simp only at hs h0 h3 h4 h5
      obtain ⟨f, hf, hg⟩ := fr_open hs
      have e0 := hg _ _ h0
      have e3 := hg _ _ h3
      have e4 := hg _ _ h4
      have e5 := hg _ _ h5
      simp only [List.range, List.range.loop, List.map] at hf
      rw [e0, e3, e4, e5] at hf
      clear e0 e3 e4 e5 hg hs h0 h3 h4 h5
      subst hf
      by_cases hlt : i < zs.length
      · have hi1 : (i : Int) < (zs.length : Int) := by omega
        obtain ⟨b0, off0, rfl, hb0, hcell⟩ := HP.out (by omega)
        have hci := ((HSZ.out.nix k2).cellInt hlt)
        have hgi := HGET.out i hlt
        have hzb : 0 ≤ zs.getD i 0 ∧ zs.getD i 0 ≤ 18446744073709551615 := by
          refine HW.out _ ?_
          rw [List.getD_eq_getElem?_getD, List.getElem?_eq_getElem hlt]
          exact List.getElem_mem _
        have hxl : l.getD i 0 < 68719476736 := by
          refine HLT.out _ ?_
          have : i < l.length := by rw [HLL.out]; exact hlt
          rw [List.getD_eq_getElem?_getD, List.getElem?_eq_getElem this]
          exact List.getElem_mem _
        have htake : cat (l.take (i + 1)) = cat (l.take i) ++ enc (l.getD i 0) := by
          have : i < l.length := by rw [HLL.out]; exact hlt
          rw [List.take_succ_eq_append_getElem this, cat_snoc]
          simp [List.getD, this]
        have HTAKE := Lib.hid htake
        generalize l.getD i 0 = x at *
        generalize zs.getD i 0 = z at *
        have hx1 : (x : Int) < 68719476736 := by omega
        have hi30 : (i : Int) < 30 := by have := HLEN.out; omega
        have HE := Lib.hid (encode_ok 0 x w2 hxl (Nat.zero_le _))
        clear hcell htake hxl
        obtain ⟨ab, cb, rfl, _, _⟩ := owns_shape ho
        have hA : (cat (l.take i)).length ≤ 210 := by
          have h1 := cat_length (l.take i) (fun x hx => HLT.out x (List.mem_of_mem_take hx))
          have h2 := HLEN.out
          have h3 : (l.take i).length ≤ i := by simp; omega
          omega
        generalize cat (l.take i) = A at *
        have HHA := Lib.hid hA
        clear hA
        go_wp2_with fail
        refine HE.out.mono ?_
        rintro e w3 ⟨a3, c3, rfl, o3, k3, _, _, _⟩
        have ho3 := k3.owns ho (fun _ _ h => h)
        obtain ⟨ao4, cap4, es, src4⟩ := src_of_sl (sl_of_owns o3) (u8s_one (enc x))
        simp only [Value.slice.injEq, u8s_length] at es
        obtain ⟨rfl, _, rfl⟩ := es
        rw [u8s_length] at src4
        have HS4 := Lib.hid src4
        have HEL := Lib.hid (show (enc x).length ≤ 7 by rw [enc_length x (by omega)]; exact szn_le x)
        clear src4 HE ho
        generalize enc x = E at *
        go_wp2_with (at_builtin; refine wpList_app _ rfl (.tmp 38) (.tmp 39) 22 rfl w.heap.size 5 (.int .u8 0) 1 1 Try.underlying22 info_u8 rfl (by decide) (.slice ab A.length cb) A.length (u8s A) rfl ho3 _ E.length _ (u8s E) rfl HS4.out ?_ ?_ ?_ ?_)
        · have := HHA.out
          have := HEL.out
          simp only [maxLen]; omega
        · have := HHA.out
          have := HEL.out
          omega
        · exact (nix_trans k2 k3).size
        · intro v4 w4 o4 g4 _
          have k4 : Kept Nix w w4 := (nix_trans k2 k3).grown g4 (fun k hk => .inr (ho3.lt k hk).1)
          rw [← u8s_append, ← List.length_append] at o4
          rw [← HTAKE.out] at o4
          have HO4 := Lib.hid o4
          clear o4 g4 HS4 ho3 o3 HTAKE
          go_wp2_with fail
          refine ⟨⟨rfl, rfl, rfl, rfl, i + 1, v4, ?_, rfl, rfl, HO4.out, k4⟩, ?_⟩
          · rw [HLL.out]; omega
          · simp [intOf]; omega
      · have hi2 : i = l.length := by have := HLL.out; omega
        have hi1 : decide (i < zs.length) = false := by simp; omega
        rw [hi2, List.take_length] at ho
        have HSL := Lib.hid (sl_of_owns ho)
        obtain ⟨ab, cb, rfl, _, _⟩ := owns_shape ho
        clear ho hlt hi2
        go_wp2_with fail
        refine wp_loop (TakesInv (.slice ao zs.length cap) l w) (fun a _ => zs.length - (intOf (a.tmps.getD 8 undef)).toNat) ?_ ?_
        · exact ⟨rfl, rfl, rfl, rfl, 0, _, Nat.zero_le _, rfl, rfl, HSL.out, k2⟩
        · clear hi hi1 HSL k2
          rintro ⟨tm, df⟩ w3 ⟨rfl, hs, h0, h3, i, vb, hi, h5, h4, hsl, k3⟩
          simp only at hs h0 h3 h4 h5
          obtain ⟨f, hf, hg⟩ := fr_open hs
          have e0 := hg _ _ h0
          have e3 := hg _ _ h3
          have e4 := hg _ _ h4
          have e5 := hg _ _ h5
          simp only [List.range, List.range.loop, List.map] at hf
          rw [e0, e3, e4, e5] at hf
          clear e0 e3 e4 e5 hg hs h0 h3 h4 h5
          subst hf
          by_cases hlt : i < zs.length
          · have hi1 : (i : Int) < (zs.length : Int) := by omega
            obtain ⟨b0, off0, rfl, hb0, hcell⟩ := HP.out (by omega)
            have hgi := HGET.out i hlt
            have hil : i < l.length := by rw [HLL.out]; exact hlt
            have hzb : 0 ≤ zs.getD i 0 ∧ zs.getD i 0 ≤ 18446744073709551615 := by
              refine HW.out _ ?_
              rw [List.getD_eq_getElem?_getD, List.getElem?_eq_getElem hlt]
              exact List.getElem_mem _
            have hxl : l.getD i 0 < 68719476736 := by
              refine HLT.out _ ?_
              rw [List.getD_eq_getElem?_getD, List.getElem?_eq_getElem hil]
              exact List.getElem_mem _
            have hdrop : cat (l.drop i) = enc (l.getD i 0) ++ cat (l.drop (i + 1)) := by
              rw [List.drop_eq_getElem_cons hil, cat_cons]
              simp [List.getD, hil]
            have hlc : (cat (l.drop i)).length < 1099511627776 := by
              have h1 := cat_length (l.drop i) (fun x hx => HLT.out x (List.mem_of_mem_drop hx))
              have h2 := HLEN.out
              have h3 : (l.drop i).length ≤ l.length := by simp
              have := HLL.out
              omega
            have HD := decode_any vb _ w3 hsl (cat_lt _ (fun x hx => HLT.out x (List.mem_of_mem_drop hx))) hlc
            have hdd : dec (cat (l.drop i)) = (l.getD i 0, szn (l.getD i 0), 0) := by rw [hdrop]; exact dec_enc _ hxl _
            rw [hdd] at HD
            have HD := Lib.hid HD
            have hel := enc_length _ hxl
            have hp := szn_pos _ hxl
            have hcl : (cat (l.drop i)).length = szn (l.getD i 0) + (cat (l.drop (i + 1))).length := by rw [hdrop, List.length_append, hel]
            have hrest : (cat (l.drop i)).drop (szn (l.getD i 0)) = cat (l.drop (i + 1)) := by rw [hdrop, ← hel, List.drop_left]
            generalize cat (l.drop i) = A at *
            generalize hR : cat (l.drop (i + 1)) = R at *
            have HR := Lib.hid hR
            clear hR
            obtain ⟨av, cv, rfl⟩ := hsl.shape
            have hcap := hsl.cap
            have HSLN := fun w' (hk : Kept Nix w3 w') => (hsl.nix hk).drop (szn (l.getD i 0)) (by omega)
            rw [u8s_drop, hrest] at HSLN
            have HSLN := Lib.hid HSLN
            generalize hsx : szn (l.getD i 0) = sx at *
            generalize l.getD i 0 = x at *
            have hcc := fun w' (hk : Kept Nix w3 w') => ((HSZ.out.nix (nix_trans k3 hk)).cellInt hlt)
            have HCC := Lib.hid hcc
            generalize zs.getD i 0 = z at *
            have hx1 : (x : Int) < 68719476736 := by omega
            have hi30 : (i : Int) < 30 := by have := HLEN.out; omega
            have HCL := Lib.hid hcl
            have j2 : decide ((A.length : Int) < (sx : Int)) = false := by simp; omega
            have j3 : (sx : Int) ≤ (A.length : Int) := by omega
            have j4 : (sx : Int) ≤ (cv : Int) := by omega
            clear hcell hdrop hxl hlc hdd hel hrest hcc hsl hsx hcl
            go_wp2_with fail
            refine HD.out.mono ?_
            rintro e w4 ⟨rfl, n4, hw4⟩
            have k4 : Kept Nix w3 w4 := by rw [hw4]; exact (Kept.refl _ _).drewN n4
            have hci := HCC.out w4 k4
            have HSL4 := Lib.hid (HSLN.out w4 k4)
            have j1 : ¬ (sx : Int) < 1 := by omega
            clear hw4 HD HCC HSLN
            go_upto_if 74 with fail
            have j1' : decide ((sx : Int) < 1) = false := by simp; omega
            have j5 : decide (A.length < sx) = false := by simp; omega
            simp only [j1', j5, Bool.or_false]
            clear j1' j5 j1 j2
            go_upto_region 18 with fail
            have HI : Hid (i + 1 ≤ l.length) := Lib.hid (by have := HLL.out; omega)
            have HRL : Hid (A.length - sx = R.length) := Lib.hid (by have := HCL.out; omega)
            clear hgi hci hil hp
            have hf1 := fun wx => run_from wx av A.length cv sx (by omega)
            have hf2 := fun wx => run_from_at wx av A.length cv sx (by omega)
            rw [← HR.out] at HSL4
            generalize Value.slice (if cv = sx then av else av.map (fun x => x.add sx)) (A.length - sx) (cv - sx) = V at *
            clear j3 j4 hcap HRL HCL
            go_wp2_with fail
            refine ⟨⟨rfl, rfl, rfl, rfl, i + 1, _, HI.out, rfl, rfl, HSL4.out, nix_trans k3 k4⟩, ?_⟩
            simp [intOf]; omega
          · have hi2 : i = l.length := by have := HLL.out; omega
            have hi1 : decide (i < zs.length) = false := by simp; omega
            rw [hi2, List.drop_length] at hsl
            have D := decode_any vb _ w3 hsl (by simp [cat]) (by simp [cat])
            have D := Lib.hid D
            obtain ⟨av, cv, rfl⟩ := hsl.shape
            have hc0 : (cat ([] : List Nat)).length = 0 := rfl
            rw [hc0] at D ⊢
            clear hsl hi2 hlt
            go_wp2_with fail
            refine D.out.mono ?_
            rintro e w4 ⟨rfl, n4, rfl⟩
            go_wp2_with fail
            go_ret
            exact ⟨rfl, k3.drewN n4⟩

end Go.Proofs.Ytipbldajpdacdaa
