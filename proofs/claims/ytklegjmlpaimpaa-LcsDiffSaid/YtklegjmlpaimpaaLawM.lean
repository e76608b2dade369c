/-
  The walk of the law LcsMinimal.
-/
import Derived.Test.YtklegjmlpaimpaaRap
import Derived.Test.YtklegjmlpaimpaaLawL
namespace Go.Proofs.Ytklegjmlpaimpaa
open Go.RowKit (wrap32 wrap64 intOf Hid Below)
open Lcs Rise

theorem size_take_succ : ∀ (L : List Ed) (k : Nat), k < L.length → size (L.take (k + 1)) = size (L.take k) + (ed L k).old.length + (ed L k).new.length
  | [], _, h => absurd h (by simp)
  | e :: L, 0, _ => by simp [size, ed]
  | e :: L, k + 1, h => by
    have := size_take_succ L k (by simpa using h)
    rw [List.take_succ_cons, List.take_succ_cons, size, size, this, show ed (e :: L) (k + 1) = ed L k by simp [ed]]
    omega
theorem size_take_le (L : List Ed) (k : Nat) : size (L.take k) ≤ size L := by
  have := size_app (L.take k) (L.drop k)
  rw [List.take_append_drop] at this
  omega
theorem dff_size (a b : List Str) (ha : a.length ≤ 256) (hb : b.length ≤ 256) : (size (dff a b) : Int) = far a b := by
  unfold dff
  split
  · next h => rw [h, far_self]; rfl
  · exact dif_size a b ha hb

set_option maxHeartbeats 8000000 in
set_option maxRecDepth 100000 in
theorem lawMinimal (La : List Str) (L : List Ed) (n m c d : Nat) (A D : Option Addr) (w : World) (ha : Sq w A n c La) (hl : Eds w D m d L ∧ Nums L) :
    Calls Try.prog 6 #[.slice A n c, .slice D m d] w fun e w' => e = .returned (.bool true) ∧ Below w.heap.size w w' := by
  have HA := Lib.hid ha
  have HL := Lib.hid hl.1
  have HNu := Lib.hid hl.2
  have HLl := Lib.hid hl.1.1
  have HAw := Lib.hid (awake_any w)
  have hm63 : m ≤ 9223372036854775807 := by have := hl.1.2.1; have := hl.1.2.2.1; omega
  clear ha hl
  go_enter Try.func6, Try.ntmps6
  go_wp2_with fail
  with_reducible refine (HAw.out).mono ?_
  rintro e w1 ⟨rfl, hb1⟩
  have hb1z := hb1.size
  have HB1 := Lib.hid (big_c La n c 30 30 rfl A w1 (HA.out.below hb1) (by omega))
  go_wp2_with fail
  with_reducible refine (HB1.out).mono ?_
  rintro e w2 ⟨⟨b1, rfl, h30⟩, rfl⟩
  cases b1 with
  | true =>
    go_wp2
    go_ret
    exact ⟨rfl, hb1⟩
  | false =>
    have hn := h30 rfl
    clear h30
    by_cases hm : m ≤ 12
    case neg =>
      go_wp2
      go_ret
      exact ⟨rfl, hb1⟩
    go_wp2
    go_loopw [5, 6] (fun s i wr => ∃ k S : Nat, k ≤ m ∧ i = .int .i64 k ∧ s = .int .i64 S ∧ S = size (L.take k) ∧ S ≤ 60 * k ∧ (∀ j, j < k → (ed L j).old.length ≤ 30 ∧ (ed L j).new.length ≤ 30) ∧ Below w.heap.size w wr) (fun s i _ => m - (intOf i).toNat)
    case atStart => exact ⟨0, 0, Nat.zero_le _, rfl, rfl, rfl, Nat.zero_le _, fun j h => absurd h (Nat.not_lt_zero _), hb1⟩
    case round =>
      obtain ⟨k, S, hk, rfl, rfl, hS, hSb, hsh, hbr⟩ := hrel
      have hbz := hbr.size
      have HSz := Lib.hid hS
      have HSh := Lib.hid hsh
      clear hS hsh
      by_cases hlt : k < m
      · obtain ⟨b, off, Ao, An, no, co, nn, cn, rfl, hblt, e0, e1, e2, so, sn⟩ := HL.out.at_ hlt
        have e1 := (hbr.cell (p := ⟨b, off + k * 3 + 1, none⟩) hblt).trans e1
        have e2 := (hbr.cell (p := ⟨b, off + k * 3 + 2, none⟩) hblt).trans e2
        have HO := Lib.hid so.len
        have HN := Lib.hid sn.len
        have HB2 := Lib.hid (big_c _ no co 30 30 rfl Ao wr (so.below hbr) (by omega))
        have HB3 := Lib.hid (big_c _ nn cn 30 30 rfl An wr (sn.below hbr) (by omega))
        clear so sn e0
        go_wp2_with fail
        with_reducible refine (HB2.out).mono ?_
        rintro e w2 ⟨⟨b1, rfl, h30⟩, rfl⟩
        cases b1 with
        | true =>
          go_wp2
          go_ret
          exact ⟨rfl, hbr⟩
        | false =>
          have hno := h30 rfl
          clear h30
          go_wp2_with fail
          with_reducible refine (HB3.out).mono ?_
          rintro e w2 ⟨⟨b2, rfl, h30⟩, rfl⟩
          cases b2 with
          | true =>
            go_wp2
            go_ret
            exact ⟨rfl, hbr⟩
          | false =>
            have hnn := h30 rfl
            clear h30
            go_wp2
            go_region
            go_wp2
            go_roundw
            case rel => exact ⟨k + 1, S + no + nn, by omega, by go_num, by go_num, by rw [size_take_succ L k (by have := HLl.out; omega), ← HSz.out, HO.out, HN.out], by omega, fun j hj => by
              by_cases e : j < k
              · exact HSh.out j e
              · obtain rfl : j = k := by omega
                rw [HO.out, HN.out]
                exact ⟨hno, hnn⟩, below_drawn hbr _⟩
            case measure => simp [intOf]; omega
      · obtain rfl : k = m := by omega
        have hLk : L.take k = L := List.take_of_length_le (by have := HLl.out; omega)
        have HSz2 : Hid (S = size L) := Lib.hid (by rw [HSz.out, hLk])
        have HR := Lib.hid (rapply_any La L n k c d A D wr (HA.out.below hbr) (HL.out.below hbr) (by omega) (by omega) (fun j hj => by have := HSh.out j (by have := HLl.out; omega); omega) HNu.out)
        clear hLk
        go_wp2_with fail
        with_reducible refine (HR.out).mono ?_
        rintro e w2 ⟨hret, hb2⟩
        have hb02 := hbr.trans (hb2.mono hbz)
        have hb02z := hb02.size
        obtain ⟨T, hT⟩ : ∃ T, T = apl La 0 true L := ⟨_, rfl⟩
        rw [← hT] at hret
        have HT := Lib.hid hT
        clear hT
        cases T with
        | none =>
          obtain rfl : e = .returned (.tuple #[.slice none 0 0, .int .i64 2]) := hret
          go_wp2
          go_ret
          exact ⟨rfl, hb02⟩
        | some t =>
          obtain ⟨B, q, cq, rfl, hB⟩ := hret
          have HBq := Lib.hid hB
          have hq63 : q ≤ 9223372036854775807 := by have := hB.1.2.1; have := hB.1.2.2.1; omega
          have hqc := hB.1.2.1
          clear hB
          by_cases hbig : q ≤ 256
          case neg =>
            go_wp2
            go_ret
            exact ⟨rfl, hb02⟩
          have la := HA.out.len
          have lt := HBq.out.len
          obtain ⟨Z, hZ⟩ : ∃ Z, Z = size (dff La t) := ⟨_, rfl⟩
          have hf : far La t = (Z : Int) := by rw [hZ]; exact (dff_size La t (by omega) (by omega)).symm
          have hle : Z ≤ S := by
            have h1 := least HT.out.symm
            rw [hf, ← HSz2.out] at h1
            exact Int.ofNat_le.1 h1
          have hZb : Z ≤ n + q := by
            have h1 := (far_nonneg La t).2
            rw [hf, la, lt] at h1
            omega
          have hD : ∀ (L1 L2 : List Str) (n1 n2 c1 c2 : Nat) (A1 A2 : Option Addr) (W : World), L1.length ≤ 256 → L2.length ≤ 256 → Sq W A1 n1 c1 L1 → Sq W A2 n2 c2 L2 → Calls Try.prog 14 #[.slice A1 n1 c1, .slice A2 n2 c2] W fun e w' => e = .returned (.int .i64 (far L1 L2)) ∧ Below W.heap.size W w' :=
            fun L1 L2 n1 n2 c1 c2 A1 A2 W g1 g2 h1 h2 => by
              rw [← dst_far g1 g2]
              exact dist_any L1 L2 n1 n2 c1 c2 A1 A2 W h1 h2 (by have := h1.len; omega) (by have := h2.len; omega)
          have HAB : Hid (∀ W, Below w2.heap.size w2 W → Calls Try.prog 14 #[.slice A n c, .slice B q cq] W fun e w' => e = .returned (.int .i64 (Z : Int)) ∧ Below W.heap.size W w') := Lib.hid fun W h => by
            rw [← hf]
            exact hD _ _ _ _ _ _ _ _ W (by omega) (by omega) (HA.out.below (hb02.trans (h.mono hb02z))) (HBq.out.below h)
          have HBA : Hid (∀ W, Below w2.heap.size w2 W → Calls Try.prog 14 #[.slice B q cq, .slice A n c] W fun e w' => e = .returned (.int .i64 (Z : Int)) ∧ Below W.heap.size W w') := Lib.hid fun W h => by
            rw [← hf, far_comm La t]
            exact hD _ _ _ _ _ _ _ _ W (by omega) (by omega) (HBq.out.below h) (HA.out.below (hb02.trans (h.mono hb02z)))
          have HDf : Hid (∀ W, Below w2.heap.size w2 W → Calls Try.prog 16 #[.slice A n c, .slice B q cq] W fun e w' => EdsRet (dff La t) e w' ∧ Below W.heap.size W w') := Lib.hid fun W h =>
            diff_any La t n q c cq A B W (HA.out.below (hb02.trans (h.mono hb02z))) (HBq.out.below h) (by omega) (by omega)
          have HZ := Lib.hid hZ
          obtain ⟨M, hM⟩ : ∃ M, M = dff La t := ⟨_, rfl⟩
          rw [← hM] at HDf HZ
          clear hD la lt hf hZ hM
          have HD1 := Lib.hid (HAB.out w2 (Below.refl _ _))
          go_wp2_with fail
          with_reducible refine (HD1.out).mono ?_
          rintro e w3 ⟨rfl, hb3⟩
          have hb3z := hb3.size
          have HD2 := Lib.hid (HDf.out w3 hb3)
          go_wp2_with fail
          with_reducible refine (HD2.out).mono ?_
          rintro e w4 ⟨⟨O, p, cp, rfl, ho⟩, hb4⟩
          have hb34 := hb3.trans (hb4.mono hb3z)
          have hb34z := hb34.size
          have HOw := Lib.hid ho
          have HMl := Lib.hid ho.1
          have hp63 : p ≤ 9223372036854775807 := by have := ho.2.1; have := ho.2.2.1; omega
          clear ho hb3 hb4
          go_wp2
          go_loopw [10, 12] (fun s i wv => ∃ j U : Nat, j ≤ p ∧ i = .int .i64 j ∧ s = .int .i64 U ∧ U = size (M.take j) ∧ Below w4.heap.size w4 wv) (fun s i _ => p - (intOf i).toNat)
          case atStart => exact ⟨0, 0, Nat.zero_le _, rfl, rfl, rfl, Below.refl _ _⟩
          case round =>
            rename World => wv
            obtain ⟨j, U, hj, rfl, rfl, hU, hbv⟩ := hrel
            have HU := Lib.hid hU
            have hbvz := hbv.size
            clear hU
            by_cases hltj : j < p
            · obtain ⟨b, off, Ao, An, no, co, nn, cn, rfl, hblt, e0, e1, e2, so, sn⟩ := HOw.out.at_ hltj
              have e1 := (hbv.cell (p := ⟨b, off + j * 3 + 1, none⟩) hblt).trans e1
              have e2 := (hbv.cell (p := ⟨b, off + j * 3 + 2, none⟩) hblt).trans e2
              have hs := size_take_succ M j (by have := HMl.out; omega)
              rw [← HU.out, so.len, sn.len] at hs
              have hsb := size_take_le M (j + 1)
              rw [hs, ← HZ.out] at hsb
              have HU' := Lib.hid hs
              clear so sn e0 hs
              go_wp2
              go_region
              go_wp2
              go_roundw
              case rel => exact ⟨j + 1, U + no + nn, by omega, by go_num, by go_num, HU'.out.symm, below_drawn hbv _⟩
              case measure => simp [intOf]; omega
            · obtain rfl : j = p := by omega
              have hMk : M.take j = M := List.take_of_length_le (by have := HMl.out; omega)
              obtain rfl : U = Z := by rw [HU.out, hMk, HZ.out]
              have HD3 := Lib.hid (HBA.out wv (hb34.trans (hbv.mono hb34z)))
              clear hMk
              go_wp2_with fail
              with_reducible refine (HD3.out).mono ?_
              rintro e w5 ⟨rfl, hb5⟩
              go_wp2
              go_ret
              exact ⟨rfl, hb02.trans ((hb34.trans ((hbv.trans (hb5.mono hbvz)).mono hb34z)).mono hb02z)⟩
end Go.Proofs.Ytklegjmlpaimpaa
