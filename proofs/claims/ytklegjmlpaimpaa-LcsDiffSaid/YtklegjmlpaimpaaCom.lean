/-
  The contract of the reference's Common.
-/
import Derived.Test.YtklegjmlpaimpaaPrs
namespace Go.Proofs.Ytklegjmlpaimpaa
open Go.RowKit (wrap32 wrap64 intOf Hid Below)
open Lcs

theorem FlatW.grown {w w' : World} {g n M : Nat} {V : Nat → Nat → Nat} {row : Option Nat} (h : FlatW w g n M V) (hg : w.grownBy w' row) (hne : row ≠ some g) : FlatW w' g n M V := by
  have hb : w'.heap[g]? = w.heap[g]? := hg.block g h.lt (Ne.symm hne)
  exact ⟨Nat.lt_of_lt_of_le h.lt hg.size, fun i j hi hj => (World.cell?_of_block (a := ⟨g, i * M + j, none⟩) hb).trans (h.cell i j hi hj), fun o => (World.frozen?_of_block (a := ⟨g, o, none⟩) hb).trans (h.free o)⟩
/-- What has been found so far, where the search goes on at two indices. -/
def Fnd (La Lb : List Str) (w : World) (g n M : Nat) (i k : Nat) (v : Value) (wr : World) : Prop :=
  ∃ (q cc : Nat) (Av : Option Addr) (K : List (Nat × Nat)), v = .slice Av q cc ∧ q = K.length ∧ pairs La Lb 0 0 = K ++ pairs La Lb i k ∧ wr.ownsRow w.heap.size 29 2 (.slice Av q cc) q (pv K) ∧ (Value.slice Av q cc).ownBlock ≠ some g ∧ FlatW wr g n M (T La Lb) ∧ Below w.heap.size w wr
theorem Fnd.drawn {La Lb : List Str} {w wr : World} {g n M i k : Nat} {v : Value} (h : Fnd La Lb w g n M i k v wr) (q : Nat) : Fnd La Lb w g n M i k v (wr.drewN q) := by
  obtain ⟨q', cc, Av, K, h1, h2, h3, h4, h5, h6, h7⟩ := h
  exact ⟨q', cc, Av, K, h1, h2, h3, own_below h4 (below_drawn (Below.refl _ _) _), h5, h6.drawn ⟨q, rfl⟩, below_drawn h7 _⟩
theorem Fnd.step {La Lb : List Str} {w wr : World} {g n M i k i' k' : Nat} {v : Value} (h : Fnd La Lb w g n M i k v wr) (e : pairs La Lb i k = pairs La Lb i' k') : Fnd La Lb w g n M i' k' v wr := by
  obtain ⟨q', cc, Av, K, h1, h2, h3, h4, h5⟩ := h
  exact ⟨q', cc, Av, K, h1, h2, by rw [h3, e], h4, h5⟩
theorem Fnd.flat {La Lb : List Str} {w wr : World} {g n M i k : Nat} {v : Value} (h : Fnd La Lb w g n M i k v wr) : FlatW wr g n M (T La Lb) ∧ Below w.heap.size w wr := by
  obtain ⟨_, _, _, _, _, _, _, _, _, h6, h7⟩ := h
  exact ⟨h6, h7⟩
/-- The search for a second index: none yet, or one has been found. -/
def Sec (La Lb : List Str) (w : World) (g n m M x k i : Nat) (v iv_ kv f y : Value) (wr : World) : Prop :=
  ∃ yy : Nat, yy ≤ m ∧ y = .int .i64 (yy : Int) ∧
    ((f = .bool false ∧ iv_ = .int .i64 (i : Int) ∧ kv = .int .i64 (k : Int) ∧ k ≤ yy ∧ Fnd La Lb w g n M x k v wr ∧ ∀ j, k ≤ j → j < yy → ¬ (st La x = st Lb j ∧ T La Lb (x + 1) (j + 1) + 1 = T La Lb x k)) ∨
     (f = .bool true ∧ ∃ y' : Nat, y' < m ∧ iv_ = .int .i64 ((x : Int) + 1) ∧ kv = .int .i64 ((y' : Int) + 1) ∧ Fnd La Lb w g n M (x + 1) (y' + 1) v wr))
/-- The search for a first index. -/
def Fst (La Lb : List Str) (w : World) (g n m M i k : Nat) (v iv_ kv f x : Value) (wr : World) : Prop :=
  ∃ xx : Nat, xx ≤ n ∧ x = .int .i64 (xx : Int) ∧
    ((f = .bool false ∧ iv_ = .int .i64 (i : Int) ∧ kv = .int .i64 (k : Int) ∧ i ≤ xx ∧ Fnd La Lb w g n M xx k v wr ∧ T La Lb xx k = T La Lb i k) ∨
     (f = .bool true ∧ ∃ i' k' : Nat, i < i' ∧ i' ≤ n ∧ k' ≤ m ∧ iv_ = .int .i64 (i' : Int) ∧ kv = .int .i64 (k' : Int) ∧ Fnd La Lb w g n M i' k' v wr))
/-- The search as a whole. -/
def Whole (La Lb : List Str) (w : World) (g n m M : Nat) (v iv_ kv : Value) (wr : World) : Prop :=
  ∃ i k : Nat, i ≤ n ∧ k ≤ m ∧ iv_ = .int .i64 (i : Int) ∧ kv = .int .i64 (k : Int) ∧ Fnd La Lb w g n M i k v wr

set_option maxHeartbeats 8000000 in
set_option maxRecDepth 100000 in
theorem common_any (La Lb : List Str) (n m c d : Nat) (A D : Option Addr) (w : World) (ha : Sq w A n c La) (hb : Sq w D m d Lb) (hn : n ≤ 256) (hm : m ≤ 256) :
    Calls Try.prog 13 #[.slice A n c, .slice D m d] w fun e w' => PairsRet w.heap.size (prl La Lb) e w' ∧ Below w.heap.size w w' := by
  have hLa := ha.len
  have hLb := hb.len
  have HP : Hid (prl La Lb = pairs La Lb 0 0) := Lib.hid (by unfold prl; rw [if_neg (by omega)])
  obtain ⟨i0, hi, hz0, hz1, hz2⟩ := info_parts info_pair
  have HLa := Lib.hid hLa
  have HLb := Lib.hid hLb
  have HA := Lib.hid ha
  have HB := Lib.hid hb
  have HI := Lib.hid hi
  have HZ0 := Lib.hid hz0
  have HZ1 := Lib.hid hz1
  have HZ2 := Lib.hid hz2
  obtain ⟨M, hM⟩ : ∃ M, M = m + 1 := ⟨_, rfl⟩
  obtain ⟨P, hP⟩ : ∃ P, P = (n + 1) * M := ⟨_, rfl⟩
  have hPb : P ≤ 100000 := by rw [hP, hM]; exact Nat.le_trans (Nat.mul_le_mul (by omega : n + 1 ≤ 257) (by omega : m + 1 ≤ 257)) (by omega)
  have HLn : Hid (∀ W, Below w.heap.size w W → Calls Try.prog 29 #[.slice A n c, .slice D m d] W fun e w' => e = .returned (.slice (some ⟨W.heap.size, 0, none⟩) P P) ∧ FlatW w' W.heap.size n M (T La Lb) ∧ Below W.heap.size W w') := Lib.hid fun W hW => by
    have h := rlengths_any La Lb n m c d A D W (HA.out.below hW).1.1 (HB.out.below hW).1.1 (by omega) (by omega)
    rw [← hM, ← hP] at h
    exact h
  have HM := Lib.hid hM
  have HPe := Lib.hid hP
  have idx : ∀ i k : Nat, i ≤ n → k ≤ m → i * M + k < P := fun i k h1 h2 => by
    have h3 := Nat.mul_le_mul_right M (show i + 1 ≤ n + 1 by omega)
    rw [← hP, Nat.add_mul, Nat.one_mul] at h3
    omega
  have wr_ : ∀ i : Nat, i ≤ n → IntKind.i64.wrap ((i : Int) * ((m : Int) + 1)) = ((i * M : Nat) : Int) := fun i h1 => by
    have e : (i : Int) * ((m : Int) + 1) = ((i * M : Nat) : Int) := by rw [hM]; push_cast; rfl
    have := idx i 0 h1 (by omega)
    rw [e, IntKind.wrap_i64]; omega
  have HIdx := Lib.hid idx
  have HWr := Lib.hid wr_
  have hA0 := alloc_below w (.cells #[] 29)
  have HO0 := Lib.hid (own_empty w 29 2)
  clear ha hb hLa hLb hi hz0 hz1 hz2 hM hP idx wr_
  go_enter Try.func13, Try.ntmps13
  go_wp2_with (go_at_call 29; ((with_reducible refine (HLn.out _ hA0).mono ?_); rintro e w1 ⟨rfl, hF, hb1⟩))
  obtain ⟨g, hg⟩ : ∃ g, g = w.heap.size + 1 := ⟨_, rfl⟩
  have hF' : FlatW w1 g n M (T La Lb) := by rw [hg]; simpa using hF
  have hS : Hid (Whole La Lb w g n m M (.slice (some ⟨w.heap.size, 0, none⟩) 0 0) (.int .i64 0) (.int .i64 0) w1) := Lib.hid
    ⟨0, 0, Nat.zero_le _, Nat.zero_le _, rfl, rfl, 0, 0, _, [], rfl, rfl, rfl, own_below HO0.out hb1, by simp [Value.ownBlock, hg], hF', hA0.trans (hb1.mono (by simp))⟩
  rw [← hg]
  clear hF hF' hg hb1 hA0 HO0
  go_loopw [5, 8, 9] (fun v iv_ kv wr => Whole La Lb w g n m M v iv_ kv wr) (fun _ iv_ _ _ => n - (intOf iv_).toNat)
  case atStart => exact hS.out
  case round =>
    rename World => wo
    obtain ⟨i, k, hin, hkm, rfl, rfl, hFn⟩ := hrel
    have HFn := Lib.hid hFn
    have HFl := Lib.hid hFn.flat.1
    clear hFn hS
    have hw0 := HWr.out i hin
    have hp0 := HIdx.out i k hin hkm
    have hc0 := HFl.out.cell i k hin (by have := HM.out; omega)
    obtain ⟨K0, hK0⟩ : ∃ K0, K0 = i * M := ⟨_, rfl⟩
    rw [← hK0] at hw0 hp0 hc0
    have t0 : ((K0 : Int) + (k : Int)).toNat = K0 + k := by omega
    obtain ⟨z, hz⟩ : ∃ z, z = T La Lb i k := ⟨_, rfl⟩
    have hzb : z ≤ 256 := by rw [hz]; have := T_le La Lb i k; have := HLa.out; omega
    rw [← hz] at hc0
    have HZ := Lib.hid hz
    clear hK0 hz
    by_cases hz0 : 0 < z
    · go_wp2
      go_loopw [5, 8, 9, 11, 12] (fun v iv_ kv f x wr => Fst La Lb w g n m M i k v iv_ kv f x wr) (fun _ _ _ _ x _ => n - (intOf x).toNat)
      case atStart => exact ⟨i, hin, rfl, Or.inl ⟨rfl, rfl, rfl, Nat.le_refl _, HFn.out, rfl⟩⟩
      case round =>
        rename World => wx
        obtain ⟨xx, hxn, rfl, hcase⟩ := hrel
        clear hc0 HFn HFl
        rcases hcase with ⟨rfl, rfl, rfl, hix, hF, hT⟩ | ⟨rfl, i', k', h1, h2, h3, rfl, rfl, hF⟩
        · have HF := Lib.hid hF
          have HT := Lib.hid (hT.trans HZ.out.symm)
          clear hF hT
          by_cases hlt : xx < n
          · have hw1 := HWr.out (xx + 1) hlt
            rw [show (((xx + 1 : Nat)) : Int) = (xx : Int) + 1 from rfl] at hw1
            have hp1 := HIdx.out (xx + 1) m hlt (Nat.le_refl _)
            obtain ⟨K1, hK1⟩ : ∃ K1, K1 = (xx + 1) * M := ⟨_, rfl⟩
            rw [← hK1] at hw1 hp1
            have HK1 := Lib.hid hK1
            have g1 : IntKind.i64.wrap ((xx : Int) + 1) = (xx : Int) + 1 := by rw [IntKind.wrap_i64]; omega
            clear hK1
            go_wp2
            go_loopw [5, 8, 9, 11, 13] (fun v iv_ kv f y wr => Sec La Lb w g n m M xx k i v iv_ kv f y wr) (fun _ _ _ _ y _ => m - (intOf y).toNat)
            case atStart => exact ⟨k, hkm, rfl, Or.inl ⟨rfl, rfl, rfl, Nat.le_refl _, HF.out, fun j a b => absurd a (by omega)⟩⟩
            case round =>
              rename World => wy
              obtain ⟨yy, hym, rfl, hcase⟩ := hrel
              clear HF
              rcases hcase with ⟨rfl, rfl, rfl, hky, hF, hno⟩ | ⟨rfl, y', h2, rfl, rfl, hF⟩
              · have HF := Lib.hid hF
                have HNo := Lib.hid hno
                clear hF hno
                by_cases hylt : yy < m
                · obtain ⟨b, off, rfl, _, s1⟩ := HA.out.1.1.str HF.out.flat.2 (k := xx) hlt
                  obtain ⟨b', off', rfl, _, s2⟩ := HB.out.1.1.str HF.out.flat.2 (k := yy) hylt
                  have c1 := HF.out.flat.1.cell (xx + 1) (yy + 1) hlt (by have := HM.out; omega)
                  rw [← HK1.out, ← Nat.add_assoc] at c1
                  have hs := str_eq (st La xx) (st Lb yy)
                  have t1 : ((K1 : Int) + (yy : Int) + 1).toNat = K1 + yy + 1 := by omega
                  have t2 : 0 ≤ ((K1 : Int) + (yy : Int) + 1) := by omega
                  have t3 : 0 ≤ ((K1 : Int) + (yy : Int)) := by omega
                  have g2 : IntKind.i64.wrap ((K1 : Int) + (yy : Int)) = (K1 : Int) + (yy : Int) := by rw [IntKind.wrap_i64]; omega
                  have g3 : IntKind.i64.wrap ((K1 : Int) + (yy : Int) + 1) = (K1 : Int) + (yy : Int) + 1 := by rw [IntKind.wrap_i64]; omega
                  obtain ⟨x3, hx3⟩ : ∃ x3, x3 = T La Lb (xx + 1) (yy + 1) := ⟨_, rfl⟩
                  have hx3b : x3 ≤ 256 := by rw [hx3]; have := T_le La Lb (xx + 1) (yy + 1); have := HLa.out; omega
                  rw [← hx3] at c1
                  have HX3 := Lib.hid hx3
                  have g4 : IntKind.i64.wrap ((x3 : Int) + 1) = (x3 : Int) + 1 := by rw [IntKind.wrap_i64]; omega
                  clear hx3
                  by_cases he : st La xx = st Lb yy
                  · rw [decide_eq_true he] at hs
                    have HE := Lib.hid he
                    clear he
                    by_cases ht : x3 + 1 = z
                    · have e1 : ((x3 : Int) + 1 == (z : Int)) = true := by rw [beq_iff_eq]; omega
                      have HTk := Lib.hid (pairs_take (a := La) (b := Lb) (x := xx) (k := k) (y := yy) (by have := HLa.out; omega) hky (by have := HLb.out; omega) HE.out (by rw [← HX3.out, HT.out, ht]) (HNo.out))
                      have hi := HI.out
                      have hz0 := HZ0.out
                      have hz1 := HZ1.out
                      have hz2 := HZ2.out
                      obtain ⟨q, cc, Av, K, rfl, k2, k3, k4, k5, k6, k7⟩ := HF.out
                      have hqn : q ≤ 256 := by
                        have h1 := congrArg List.length k3
                        rw [pairs_len, List.length_append] at h1
                        have := T_le La Lb 0 0
                        have := HLa.out
                        omega
                      have Q2 := Lib.hid k2
                      have Q3 := Lib.hid k3
                      have Q4 := Lib.hid k4
                      have Q5 := Lib.hid k5
                      have Q6 := Lib.hid k6
                      have hbz := k7.size
                      clear ht k2 k3 k4 k5 k6
                      go_wp2
                      go_quiet (fail)
                      go_wp2_with (at_builtin; refine wpList_append_own_at _ rfl _ _ 25 rfl w.heap.size 29 i0 (.agg #[.int .i64 0, .int .i64 0]) 2 16 Try.underlying25 hi hz0 hz1 hz2 rfl (by decide) _ _ _ rfl (own_below Q4.out (bl_dr wy _ _)) ⟨wy.heap.size, 0, none⟩ 1 1 [.int .i64 (xx : Int), .int .i64 (yy : Int)] rfl rfl ?c1 ?c2 ?c3 ?c4 ?c5 ?_)
                      case c1 => exact fun j u hj => new_two wy _ _ _ _ j u hj
                      case c2 => intro u hu; simp at hu; rcases hu with rfl | rfl <;> rfl
                      case c3 => unfold maxLen; omega
                      case c4 => omega
                      case c5 => simp; omega
                      intro v' w3 hown' hgrow _ hat
                      have hbw : Below w.heap.size w w3 := Below.grown (k7.trans ((bl_dr wy _ _).mono hbz)) hgrow (by simp; omega) (fun g hg => (Q4.out.lt g hg).1)
                      have HFw := Lib.hid ((Q6.out.below (bl_dr wy _ _)).grown hgrow Q5.out)
                      have hat' : v'.ownBlock ≠ some g := by
                        rcases hat with h | h
                        · rw [h]; exact Q5.out
                        · rw [h]
                          intro e
                          injection e with e
                          have := Q6.out.lt
                          omega
                      obtain ⟨A2, c2, rfl, _⟩ := own_slice hown'
                      have HV := Lib.hid hown'
                      have HAt := Lib.hid hat'
                      clear hown' hgrow hi hz0 hz1 hz2 hat hat'
                      go_wp2
                      go_roundw
                      case rel => exact ⟨yy + 1, by omega, by go_num, Or.inr ⟨rfl, yy, hylt, rfl, rfl, q + 1, c2, A2, K ++ [(xx, yy)], rfl, by rw [List.length_append, ← Q2.out]; rfl, by rw [Q3.out, HTk.out, List.append_assoc]; rfl, by rw [pv_app]; exact HV.out, HAt.out, HFw.out, hbw⟩⟩
                      case measure => simp [intOf]; omega
                    · have e1 : ((x3 : Int) + 1 == (z : Int)) = false := by rw [beq_eq_false_iff_ne]; omega
                      have HNo2 : Hid (∀ j, k ≤ j → j < yy + 1 → ¬ (st La xx = st Lb j ∧ T La Lb (xx + 1) (j + 1) + 1 = T La Lb xx k)) := Lib.hid fun j a b => by
                        by_cases hj : j = yy
                        · subst hj
                          intro ⟨_, h⟩
                          rw [← HX3.out, HT.out] at h
                          exact ht h
                        · exact HNo.out j a (by omega)
                      clear ht
                      go_wp2
                      go_quiet (fail)
                      go_wp2
                      go_roundw
                      case rel => exact ⟨yy + 1, by omega, by go_num, Or.inl ⟨rfl, rfl, rfl, by omega, HF.out.drawn _, HNo2.out⟩⟩
                      case measure => simp [intOf]; omega
                  · rw [decide_eq_false he] at hs
                    have HNo2 : Hid (∀ j, k ≤ j → j < yy + 1 → ¬ (st La xx = st Lb j ∧ T La Lb (xx + 1) (j + 1) + 1 = T La Lb xx k)) := Lib.hid fun j a b => by
                      by_cases hj : j = yy
                      · subst hj
                        exact fun h => he h.1
                      · exact HNo.out j a (by omega)
                    clear he
                    go_wp2
                    go_quiet (fail)
                    go_wp2
                    go_roundw
                    case rel => exact ⟨yy + 1, by omega, by go_num, Or.inl ⟨rfl, rfl, rfl, by omega, HF.out.drawn _, HNo2.out⟩⟩
                    case measure => simp [intOf]; omega
                · obtain rfl : yy = m := by omega
                  have HSk := Lib.hid (pairs_skip (a := La) (b := Lb) (x := xx) (k := k) (by have := HLa.out; omega) (fun y a b => HNo.out y a (by have := HLb.out; omega)))
                  go_wp2
                  go_roundw
                  case rel => exact ⟨xx + 1, by omega, by go_num, Or.inl ⟨rfl, rfl, rfl, by omega, HF.out.step HSk.out.1, by rw [← HSk.out.2, HT.out, HZ.out]⟩⟩
                  case measure => simp [intOf]; omega
              · have HF := Lib.hid hF
                clear hF
                by_cases hylt : yy < m
                · go_wp2
                  go_roundw
                  case rel => exact ⟨xx + 1, by omega, by go_num, Or.inr ⟨rfl, xx + 1, y' + 1, by omega, by omega, by omega, by go_num, by go_num, HF.out⟩⟩
                  case measure => simp [intOf]; omega
                · go_wp2
                  go_roundw
                  case rel => exact ⟨xx + 1, by omega, by go_num, Or.inr ⟨rfl, xx + 1, y' + 1, by omega, by omega, by omega, by go_num, by go_num, HF.out⟩⟩
                  case measure => simp [intOf]; omega
          · exfalso
            have h1 := HT.out
            rw [T_end La Lb xx k (by have := HLa.out; omega)] at h1
            omega
        · have HF := Lib.hid hF
          clear hF
          by_cases hlt : xx < n
          · go_wp2
            go_roundw
            case rel => exact ⟨i', k', h2, h3, rfl, rfl, HF.out⟩
            case measure => simp [intOf]; omega
          · go_wp2
            go_roundw
            case rel => exact ⟨i', k', h2, h3, rfl, rfl, HF.out⟩
            case measure => simp [intOf]; omega
    · obtain rfl : z = 0 := by omega
      go_wp2
      go_ret
      obtain ⟨q, cc, Av, K, h1, h2, h3, h4, _, _, h7⟩ := HFn.out
      rw [pairs_zero La Lb i k HZ.out.symm, List.append_nil] at h3
      exact ⟨⟨Av, q, cc, by rw [h1]; rfl, by rw [HP.out, h3]; exact h2, by rw [HP.out, h3]; exact h4⟩, h7⟩
end Go.Proofs.Ytklegjmlpaimpaa
