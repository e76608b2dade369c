/-
  The contract of the reference's Rising.
-/
import Derived.Test.YtklegjmlpaimpaaLis
namespace Go.Proofs.Ytklegjmlpaimpaa
open Go.RowKit (wrap32 wrap64 intOf Hid Below)
open Lcs Rise

theorem bl_drw (w : World) (n : Nat) (o : Obj) : Below w.heap.size w ((w.drewN n).alloc o) := (below_drawn (Below.refl _ _) n).alloc (Nat.le_refl _) o
theorem new_oned (w : World) (n : Nat) (x : Value) (t : TypeId) (j : Nat) (u : Value) (h : [x][j]? = some u) : ((w.drewN n).alloc (.cells #[x] t)).cell? ((⟨w.heap.size, 0, none⟩ : Addr).add j) = some u := by
  match j, h with
  | 0, h =>
    rw [show ((⟨w.heap.size, 0, none⟩ : Addr).add 0) = ⟨w.heap.size, 0, none⟩ from rfl, World.cell?_alloc_at _ _ _ _ (by simp)]
    exact h
/-- What has been found last. -/
def Last (L : List Int) (K : List Nat) (j l : Nat) : Prop := K = [] ∨ ∃ (p : Nat) (K' : List Nat), K = K' ++ [p] ∧ p < j ∧ R L p = l + 1 ∧ ∀ a, p < a → a < j → R L a ≠ l
theorem Last.skip {L : List Int} {K : List Nat} {j l : Nat} (h : Last L K j l) (hn : R L j ≠ l) : Last L K (j + 1) l := by
  rcases h with h | ⟨p, K', h1, h2, h3, h4⟩
  · exact Or.inl h
  · refine Or.inr ⟨p, K', h1, by omega, h3, fun a a1 a2 => ?_⟩
    by_cases e : a = j
    · rw [e]; exact hn
    · exact h4 a a1 (by omega)
theorem Last.took {L : List Int} {K : List Nat} {j l : Nat} (hl : 0 < l) (h : R L j = l) : Last L (K ++ [j]) (j + 1) (l - 1) :=
  Or.inr ⟨j, K, rfl, by omega, by omega, fun a a1 a2 => absurd a1 (by omega)⟩

theorem grown_set (w : World) (p : Addr) (v : Value) : w.grownBy (w.setCell p v) (some p.block) :=
  ⟨rfl, rfl, rfl, by simp, fun k _ hne => by
    have : p.block ≠ k := fun e => hne (by rw [e])
    simp [World.setCell, Array.getElem?_modify, this]⟩
theorem ob_ne {a b n c : Nat} (h : a ≠ b) : (Value.slice (some ⟨a, 0, none⟩) n c).ownBlock ≠ some b := by
  intro e
  injection e with e
  exact h e
theorem own_far {w : World} {base n size g o : Nat} {e : TypeId} {v u : Value} {xs : List Value} (h : w.ownsRow base e size v n xs) (hne : v.ownBlock ≠ some g) : (w.setCell ⟨g, o, none⟩ u).ownsRow base e size v n xs :=
  h.kept (grown_set w ⟨g, o, none⟩ u) (Or.inr hne)

set_option maxHeartbeats 8000000 in
set_option maxRecDepth 100000 in
theorem ris_any (L : List Int) (n c : Nat) (A : Option Addr) (w : World) (ha : ValsAt w.heap.size w A n (zi L)) (hn : n ≤ 256) :
    Calls Try.prog 26 #[.slice A n c] w fun e w' => NumsRet w.heap.size (ris L) e w' ∧ Below w.heap.size w w' := by
  obtain ⟨Z, hZs, hZ, hmk⟩ := make_ints n (by omega)
  obtain ⟨i0, hi, hz0, hz1, hz2⟩ := info_parts info_int
  have hL := ha.1
  rw [zi_len] at hL
  have HL := Lib.hid hL
  have HA := Lib.hid ha
  have HZ := Lib.hid hZ
  have HP : Hid (ris L = sel L 0 (mx L n)) := Lib.hid (by unfold ris; rw [hL])
  have hA0 := alloc_below w (.cells #[] 3)
  have HO0 := Lib.hid (own_empty w 3 1)
  have hW0 : RowW ((w.alloc (.cells #[] 3)).alloc (.cells Z 3)) (w.heap.size + 1) n (fun _ => 0) := by
    have h := RowW.made (w := w.alloc (.cells #[] 3)) HZ.out 3
    simpa using h
  have HW0 := Lib.hid hW0
  obtain ⟨g, hg⟩ : ∃ g, g = w.heap.size + 1 := ⟨_, rfl⟩
  have HG := Lib.hid hg
  clear hL ha hZ hZs hW0 hg
  go_enter Try.func26, Try.ntmps26
  go_wp2
  rw [← HG.out] at HW0 ⊢
  have hb0 : Below w.heap.size w ((w.alloc (.cells #[] 3)).alloc (.cells Z 3)) := hA0.alloc (by simp) _
  have ho0 : ((w.alloc (.cells #[] 3)).alloc (.cells Z 3)).ownsRow w.heap.size 3 1 (.slice (some ⟨w.heap.size, 0, none⟩) 0 0) 0 [] := own_below HO0.out (alloc_below _ _)
  have HOw := Lib.hid ho0
  have hg1 : w.heap.size < g := by have := HG.out; omega
  clear hA0 HO0 ho0
  go_loopw [5, 6] (fun z _ wr => ∃ (k : Nat) (x : Int) (V : Nat → Nat), k ≤ n ∧ x = (k : Int) - 1 ∧ z = .int .i64 x ∧ RowW wr g n V ∧ Below w.heap.size w wr ∧ wr.ownsRow w.heap.size 3 1 (.slice (some ⟨w.heap.size, 0, none⟩) 0 0) 0 [] ∧ (∀ a, k ≤ a → a < n → V a = R L a)) (fun z _ _ => (intOf z + 1).toNat)
  case atStart => exact ⟨n, _, _, Nat.le_refl _, rfl, rfl, HW0.out, hb0, HOw.out, fun a h1 h2 => absurd h1 (by omega)⟩
  case round =>
    rename World => wo
    obtain ⟨k, x, V, hk, hx, rfl, hW, hb, ho, hr⟩ := hrel
    have HW := Lib.hid hW
    have HR := Lib.hid hr
    have HO := Lib.hid ho
    clear hW hr ho hb0 HOw HW0
    by_cases h0 : 0 < k
    · obtain ⟨i, rfl⟩ : ∃ i : Nat, x = i := ⟨k - 1, by omega⟩
      obtain rfl : k = i + 1 := by omega
      have c0 := HW.out.cell i (by omega)
      have f0 := HW.out.free i
      have HS := Lib.hid (HW.out.store i 1 (by omega))
      have HOs := Lib.hid (own_far (g := g) (o := i) (u := .int .i64 1) HO.out (ob_ne (by omega)))
      have hbs : Below w.heap.size w (wo.setCell ⟨g, i, none⟩ (.int .i64 1)) := hb.setCell (by simp only []; omega) _
      clear hx h0
      go_wp2
      go_loopw [6] (fun z wr => ∃ (k : Nat) (V : Nat → Nat), i + 1 ≤ k ∧ k ≤ n ∧ z = .int .i64 k ∧ RowW wr g n V ∧ Below w.heap.size w wr ∧ wr.ownsRow w.heap.size 3 1 (.slice (some ⟨w.heap.size, 0, none⟩) 0 0) 0 [] ∧ (∀ a, i + 1 ≤ a → a < n → V a = R L a) ∧ 1 ≤ V i ∧ B L i (i + 1) + 1 = max (V i) (B L i k + 1)) (fun z _ => n - (intOf z).toNat)
      case atStart => exact ⟨i + 1, put1 V i 1, Nat.le_refl _, hk, by go_num, HS.out, hbs, HOs.out, fun a h1 h2 => by unfold put1; rw [if_neg (by omega)]; exact HR.out a h1 h2, by unfold put1; rw [if_pos rfl]; exact Nat.le_refl _, by unfold put1; rw [if_pos rfl]; omega⟩
      case round =>
        rename World => wi
        obtain ⟨k, V, hk1, hk2, rfl, hW, hb, ho, hr, hv1, hB⟩ := hrel
        clear HS HOs hbs c0 f0
        have HW := Lib.hid hW
        have HR := Lib.hid hr
        have HB := Lib.hid hB
        have HO := Lib.hid ho
        have hB0 := B_le L i _ (i + 1) (Nat.le_refl _)
        have hvi : V i ≤ 1000000 := by have := HL.out; omega
        clear hW hr hB hB0 ho
        have c0 := HW.out.cell i (by omega)
        have f0 := HW.out.free i
        by_cases hlt : k < n
        · obtain ⟨b, off, rfl, _, s1⟩ := HA.out.zat hb hlt
          have s2 : wi.cell? ⟨b, off + i, none⟩ = some (.int .i64 (at_ L i)) := by
            obtain ⟨b', off', he, _, h⟩ := HA.out.zat hb (k := i) (by omega)
            obtain ⟨rfl, rfl⟩ : b = b' ∧ off = off' := by simpa using he
            exact h
          have c1 := HW.out.cell k hlt
          have HRk := Lib.hid (HR.out k (by omega) hlt)
          have hrk : V k ≤ 1000000 := by have := R_le L k (by have := HL.out; omega); have := HL.out; have := HRk.out; omega
          have g4 : IntKind.i64.wrap ((V k : Int) + 1) = (V k : Int) + 1 := by rw [IntKind.wrap_i64]; omega
          by_cases hgt : at_ L i < at_ L k
          · have HBu := Lib.hid (B_up (by have := HL.out; omega) hgt)
            by_cases hm : V i < V k + 1
            · have hm' : (V i : Int) < (V k : Int) + 1 := by omega
              have HSt : Hid (∀ q, RowW ((wi.drewN q).setCell ⟨g, i, none⟩ (.int .i64 ((V k + 1 : Nat) : Int))) g n (put1 V i (V k + 1)) ∧ ((wi.drewN q).setCell ⟨g, i, none⟩ (.int .i64 ((V k + 1 : Nat) : Int))).ownsRow w.heap.size 3 1 (.slice (some ⟨w.heap.size, 0, none⟩) 0 0) 0 []) := Lib.hid fun q =>
                ⟨(HW.out.drawn ⟨q, rfl⟩).store i (V k + 1) (by omega), own_far (own_below HO.out (below_drawn (Below.refl _ _) _)) (ob_ne (by omega))⟩
              go_wp2
              go_quiet (fail)
              go_wp2
              go_roundw
              case rel => exact ⟨k + 1, put1 V i (V k + 1), by omega, by omega, by go_num, (HSt.out _).1, (below_drawn hb _).setCell (by simp only []; omega) _, (HSt.out _).2, fun a h1 h2 => by unfold put1; rw [if_neg (by omega)]; exact HR.out a h1 h2, by unfold put1; rw [if_pos rfl]; omega, by unfold put1; rw [if_pos rfl, HB.out, HBu.out, HRk.out]; have := HRk.out; omega⟩
              case measure => simp [intOf]; omega
            · have hm' : ¬ ((V i : Int) < (V k : Int) + 1) := by omega
              have hmd : decide ((V i : Int) < (V k : Int) + 1) = false := decide_eq_false hm'
              go_wp2
              go_quiet (fail)
              go_wp2
              go_roundw
              case rel => exact ⟨k + 1, V, by omega, by omega, by go_num, HW.out.drawn ⟨_, rfl⟩, below_drawn hb _, own_below HO.out (below_drawn (Below.refl _ _) _), HR.out, hv1, by rw [HB.out, HBu.out]; have := HRk.out; omega⟩
              case measure => simp [intOf]; omega
          · have HBu := Lib.hid (B_no (l := L) (i := i) (k := k) (by have := HL.out; omega) (by omega))
            have hgd : decide (at_ L i < at_ L k) = false := decide_eq_false hgt
            go_wp2
            go_quiet (fail)
            go_wp2
            go_roundw
            case rel => exact ⟨k + 1, V, by omega, by omega, by go_num, HW.out.drawn ⟨_, rfl⟩, below_drawn hb _, own_below HO.out (below_drawn (Below.refl _ _) _), HR.out, hv1, by rw [HB.out, HBu.out]⟩
            case measure => simp [intOf]; omega
        · obtain rfl : k = n := by omega
          have hE : V i = R L i := by
            have h1 := HB.out
            rw [B_end L i k (by have := HL.out; omega)] at h1
            unfold R
            omega
          have HE := Lib.hid hE
          clear hE
          go_wp2
          go_roundw
          case rel => exact ⟨i, _, V, by omega, rfl, rfl, HW.out, hb, HO.out, fun a h1 h2 => by
            by_cases e : a = i
            · rw [e, HE.out]
            · exact HR.out a (by omega) h2⟩
          case measure => simp [intOf]
    · obtain rfl : k = 0 := by omega
      obtain rfl : x = -1 := by omega
      have HW2 : Hid (RowW wo g n (R L)) := Lib.hid ⟨HW.out.lt, fun i hi => by rw [HW.out.cell i hi, HR.out i (by omega) hi], HW.out.free⟩
      clear hx h0 HW HR
      go_wp2
      go_loop [7, 8] (fun v i => ∃ k : Nat, k ≤ n ∧ i = .int .i64 k ∧ v = .int .i64 (mx L k : Nat)) (fun _ i => n - (intOf i).toNat)
      case atStart => exact ⟨0, Nat.zero_le _, rfl, rfl⟩
      case round =>
        obtain ⟨k, hk, rfl, rfl⟩ := hrel
        by_cases hlt : k < n
        · have c0 := HW2.out.cell k hlt
          have HM := Lib.hid (show mx L (k + 1) = max (mx L k) (R L k) from rfl)
          by_cases hm : mx L k < R L k
          · go_wp2
            go_round
            case rel => exact ⟨k + 1, by omega, by go_num, by rw [HM.out, Nat.max_eq_right (by omega)]⟩
            case measure => simp [intOf]; omega
          · go_wp2
            go_round
            case rel => exact ⟨k + 1, by omega, by go_num, by rw [HM.out, Nat.max_eq_left (by omega)]⟩
            case measure => simp [intOf]; omega
        · obtain rfl : k = n := by omega
          have hmb := mx_le L k (by have := HL.out; omega)
          have hmb2 : mx L k ≤ 256 := by have := HL.out; omega
          clear hmb hlt
          go_wp2
          go_loopw [3, 7, 9] (fun v z i wr => ∃ (j l q cc : Nat) (Av : Option Addr) (K : List Nat), j ≤ k ∧ l ≤ 256 ∧ i = .int .i64 j ∧ z = .int .i64 l ∧ v = .slice Av q cc ∧ q = K.length ∧ q ≤ j ∧ sel L 0 (mx L k) = K ++ sel L j l ∧ wr.ownsRow w.heap.size 3 1 (.slice Av q cc) q (iv K) ∧ (Value.slice Av q cc).ownBlock ≠ some g ∧ RowW wr g k (R L) ∧ Below w.heap.size w wr ∧ Last L K j l) (fun _ _ i _ => k - (intOf i).toNat)
          case atStart => exact ⟨0, mx L k, 0, 0, _, [], Nat.zero_le _, hmb2, rfl, rfl, rfl, rfl, Nat.zero_le _, rfl, HO.out, ob_ne (by omega), HW2.out, hb, Or.inl rfl⟩
          case round =>
            rename World => wv
            obtain ⟨j, l, q, cc, Av, K, hj, hl, rfl, rfl, rfl, hq, hqj, hs, hown, hat, hW, hbv, hlast⟩ := hrel
            have HQ := Lib.hid hq
            have HS := Lib.hid hs
            have HOv := Lib.hid hown
            have HAt := Lib.hid hat
            have HWv := Lib.hid hW
            have HLa := Lib.hid hlast
            have hbz := hbv.size
            clear hq hs hown hat hW hlast HW2 HO hb
            by_cases hlt : j < k
            · by_cases hl0 : 0 < l
              · have c0 := HWv.out.cell j hlt
                obtain ⟨r, hr⟩ : ∃ r, r = R L j := ⟨_, rfl⟩
                rw [← hr] at c0
                have HR := Lib.hid hr
                clear hr
                obtain ⟨b, off, rfl, _, s1⟩ := HA.out.zat hbv hlt
                by_cases he : r = l
                · subst he
                  have HY := Lib.hid (sel_yes (l := L) (i := j) (n := r) (by have := HL.out; omega) HR.out.symm)
                  have e1 : ((r : Int) == (r : Int)) = true := by simp
                  have HTk := Lib.hid (Last.took (K := K) hl0 HR.out.symm)
                  have fin : ∀ (wq : World) (A2 : Option Addr) (c2 : Nat), wq.ownsRow w.heap.size 3 1 (.slice A2 (q + 1) c2) (q + 1) (iv K ++ [.int .i64 (j : Int)]) → (Value.slice A2 (q + 1) c2).ownBlock ≠ some g → RowW wq g k (R L) → Below w.heap.size w wq →
                      ∃ (j' l q' cc : Nat) (Av : Option Addr) (K : List Nat), j' ≤ k ∧ l ≤ 256 ∧ (Value.int .i64 ((j : Int) + 1)) = .int .i64 j' ∧ (Value.int .i64 ((r : Int) - 1)) = .int .i64 l ∧ (Value.slice A2 (q + 1) c2) = .slice Av q' cc ∧ q' = K.length ∧ q' ≤ j' ∧ sel L 0 (mx L k) = K ++ sel L j' l ∧ wq.ownsRow w.heap.size 3 1 (.slice Av q' cc) q' (iv K) ∧ (Value.slice Av q' cc).ownBlock ≠ some g ∧ RowW wq g k (R L) ∧ Below w.heap.size w wq ∧ Last L K j' l :=
                    fun wq A2 c2 x1 x2 x3 x4 => ⟨j + 1, r - 1, q + 1, c2, A2, K ++ [j], by omega, by omega, by go_num, by rw [show ((r : Int) - 1) = ((r - 1 : Nat) : Int) by omega], rfl, by rw [List.length_append, ← HQ.out]; rfl, by omega, by rw [HS.out, HY.out, List.append_assoc]; rfl, by rw [iv_app]; exact x1, x2, x3, x4, HTk.out⟩
                  have FN := Lib.hid fin
                  clear fin
                  rcases HLa.out with hK | ⟨p, K', hK, hp1, hp2, hp3⟩
                  · have hq0 : q = 0 := by rw [HQ.out, hK]; rfl
                    subst hq0
                    clear hK
                    go_wp2
                    go_quiet (fail)
                    go_wp2_with (at_builtin; refine wpList_append_own_at _ rfl _ _ 44 rfl w.heap.size 3 i0 (.int .i64 0) 1 8 Try.underlying44 hi hz0 hz1 hz2 rfl (by decide) _ _ _ rfl (own_below HOv.out (bl_drw wv _ _)) ⟨wv.heap.size, 0, none⟩ 1 1 [.int .i64 (j : Int)] rfl rfl ?c1 ?c2 ?c3 ?c4 ?c5 ?_)
                    case c1 => exact fun a u ha => new_oned wv _ _ _ a u ha
                    case c2 => intro u hu; simp at hu; subst hu; rfl
                    case c3 => unfold maxLen; omega
                    case c4 => omega
                    case c5 => simp; omega
                    intro v' w2 hown' hgrow _ hat
                    have hbw : Below w.heap.size w w2 := Below.grown (hbv.trans ((bl_drw wv _ _).mono hbz)) hgrow (by simp; omega) (fun g hg => (HOv.out.lt g hg).1)
                    have HFw := Lib.hid ((HWv.out.below (bl_drw wv _ _)).grown hgrow HAt.out)
                    have hat' : v'.ownBlock ≠ some g := by
                      rcases hat with h | h
                      · rw [h]; exact HAt.out
                      · rw [h]
                        intro e
                        injection e with e
                        have := HWv.out.lt
                        omega
                    obtain ⟨A2, c2, rfl, _⟩ := own_slice hown'
                    have HV := Lib.hid hown'
                    have HAt2 := Lib.hid hat'
                    clear hown' hgrow hat hat'
                    go_wp2
                    go_roundw
                    case rel => exact FN.out _ _ _ HV.out HAt2.out HFw.out hbw
                    case measure => simp [intOf]; omega
                  · obtain ⟨q', rfl⟩ : ∃ q', q = q' + 1 := ⟨K'.length, by rw [HQ.out, hK]; simp⟩
                    obtain ⟨b2, off2, hAv, _, s3⟩ := (ValsAt.of_own HOv.out).num (Below.refl _ _) (k := q') (by omega)
                    subst hAv
                    have hnt : nt K q' = p := by
                      have h1 := HQ.out
                      rw [hK] at h1 ⊢
                      simp at h1
                      subst h1
                      simp [nt]
                    rw [hnt] at s3
                    have s4 : wv.cell? ⟨b, off + p, none⟩ = some (.int .i64 (at_ L p)) := by
                      obtain ⟨b', off', he, _, h⟩ := HA.out.zat hbv (k := p) (by omega)
                      obtain ⟨rfl, rfl⟩ : b = b' ∧ off = off' := by simpa using he
                      exact h
                    have hri := rise hl0 hp2 HR.out.symm hp3
                    have e2 : (((q' : Int) + 1) == 0) = false := by rw [beq_eq_false_iff_ne]; omega
                    have e3 : ¬ ((q' : Int) + 1 = 0) := by omega
                    clear hK hnt hp2 hp3
                    go_wp2
                    go_quiet (fail)
                    go_wp2_with (at_builtin; refine wpList_append_own_at _ rfl _ _ 44 rfl w.heap.size 3 i0 (.int .i64 0) 1 8 Try.underlying44 hi hz0 hz1 hz2 rfl (by decide) _ _ _ rfl (own_below HOv.out (bl_drw wv _ _)) ⟨wv.heap.size, 0, none⟩ 1 1 [.int .i64 (j : Int)] rfl rfl ?c1 ?c2 ?c3 ?c4 ?c5 ?_)
                    case c1 => exact fun a u ha => new_oned wv _ _ _ a u ha
                    case c2 => intro u hu; simp at hu; subst hu; rfl
                    case c3 => unfold maxLen; omega
                    case c4 => omega
                    case c5 => simp; omega
                    intro v' w2 hown' hgrow _ hat
                    have hbw : Below w.heap.size w w2 := Below.grown (hbv.trans ((bl_drw wv _ _).mono hbz)) hgrow (by simp; omega) (fun g hg => (HOv.out.lt g hg).1)
                    have HFw := Lib.hid ((HWv.out.below (bl_drw wv _ _)).grown hgrow HAt.out)
                    have hat' : v'.ownBlock ≠ some g := by
                      rcases hat with h | h
                      · rw [h]; exact HAt.out
                      · rw [h]
                        intro e
                        injection e with e
                        have := HWv.out.lt
                        omega
                    obtain ⟨A2, c2, rfl, _⟩ := own_slice hown'
                    have HV := Lib.hid hown'
                    have HAt2 := Lib.hid hat'
                    clear hown' hgrow hat hat'
                    go_wp2
                    go_roundw
                    case rel => exact FN.out _ _ _ HV.out HAt2.out HFw.out hbw
                    case measure => simp [intOf]; omega
                · have HN := Lib.hid (sel_no (l := L) (i := j) (n := l) (by have := HL.out; omega) (by rw [← HR.out]; exact he))
                  have HSk := Lib.hid (HLa.out.skip (by rw [← HR.out]; exact he))
                  have e1 : ((r : Int) == (l : Int)) = false := by rw [beq_eq_false_iff_ne]; omega
                  have e2 : ¬ ((r : Int) = (l : Int)) := by omega
                  go_wp2
                  go_quiet (fail)
                  go_wp2
                  go_roundw
                  case rel => exact ⟨j + 1, l, q, cc, Av, K, by omega, hl, by go_num, rfl, rfl, HQ.out, by omega, by rw [HS.out, HN.out], own_below HOv.out (below_drawn (Below.refl _ _) _), HAt.out, HWv.out.drawn ⟨_, rfl⟩, below_drawn hbv _, HSk.out⟩
                  case measure => simp [intOf]; omega
              · obtain rfl : l = 0 := by omega
                have HE : Hid (ris L = K) := Lib.hid (by rw [HP.out, HS.out, sel_zero L _ j rfl, List.append_nil])
                go_wp2
                go_ret
                exact ⟨⟨Av, q, cc, rfl, by rw [HE.out]; exact HQ.out, by rw [HE.out]; exact HOv.out⟩, hbv⟩
            · obtain rfl : j = k := by omega
              have HE : Hid (ris L = K) := Lib.hid (by rw [HP.out, HS.out, sel_end L j l (by have := HL.out; omega), List.append_nil])
              by_cases hl0 : 0 < l
              · go_wp2
                go_ret
                exact ⟨⟨Av, q, cc, rfl, by rw [HE.out]; exact HQ.out, by rw [HE.out]; exact HOv.out⟩, hbv⟩
              · go_wp2
                go_ret
                exact ⟨⟨Av, q, cc, rfl, by rw [HE.out]; exact HQ.out, by rw [HE.out]; exact HOv.out⟩, hbv⟩
end Go.Proofs.Ytklegjmlpaimpaa
