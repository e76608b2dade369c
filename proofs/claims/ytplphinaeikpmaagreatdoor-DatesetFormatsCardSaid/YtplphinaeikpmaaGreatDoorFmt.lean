/-
  The contracts of formatSpan and Format.
-/
import Derived.Lib.ItoaNum
import Derived.Lib.ItoaMem
import Derived.Lib.LaidTab
import Derived.Lib.AppendIntMem
import Derived.Lib.SmallJoins
import Derived.Lib.Join
import Derived.Test.YtplphinaeikpmaaGreatDoorSame
namespace Go.Proofs.YtplphinaeikpmaaGreatDoor
open Go.RowKit (wrap32 wrap64 intOf Hid Below)
open Spans

theorem ret_str {a b : ByteArray} (h : a = b) : Ending.returned (.string a) = .returned (.string b) := by rw [h]
/-- The table of powers of ten of the library is as its text lays it. -/
def Tab (w : World) : Prop := Lib.TabIs Tryz.prog w "internal/strconv.uint64pow10" .u64 Lib.pow10Tab
theorem Tab.below {w w' : World} (h : Tab w) (hb : Below w.heap.size w w') : Tab w' :=
  Joins.tab_stays (show Tryz.prog.globalNamed "internal/strconv.uint64pow10" = some 3 by kernel_rfl) h hb (Nat.le_refl _)
/-- A decimal numeral as a string. -/
def num (n : Int) : ByteArray := ⟨(Lib.itoa n).toArray⟩
theorem num_size (n : Int) (h0 : 0 ≤ n) (h1 : n ≤ 9999999999) : (num n).size ≤ 20 := by
  have h : (Lib.itoa n).length ≤ 20 := by
    obtain ⟨u, rfl⟩ : ∃ u : Nat, n = u := ⟨n.toNat, by omega⟩
    unfold Lib.itoa
    rw [if_neg (by omega), Lib.decDigits_length]
    rcases Nat.eq_zero_or_pos ((u : Int).toNat) with h | h
    · rw [h, Lib.nDigits_small (by omega)]; omega
    · have := Lib.numDigits_eq ((u : Int).toNat) h (by omega)
      split at this <;> omega
  simpa [num, ByteArray.size] using h
theorem itoa_any (n : Int) (w : World) (h : Tab w) (h0 : 0 ≤ n) (h1 : n ≤ 10000000) :
    Calls Tryz.prog 31 #[.int .i64 n] w fun e w' => e = .returned (.string (num n)) ∧ Below w.heap.size w w' :=
  (Tryz.strconv_Itoa n (by omega) (by omega) w h).mono fun e w' ⟨he, k, os, hw⟩ => ⟨he, by rw [hw]; exact Lib.below_grow _ w (Nat.le_refl _) k os⟩

/-- The text of a span. -/
def spanTxt (f t : Int) : ByteArray :=
  if t - f = 1 then num f else if t = 1048577 then num f ++ ⟨#[43]⟩ else num f ++ ⟨#[45]⟩ ++ num (t - 1)
theorem spanTxt_size (f t : Int) (h0 : 0 ≤ f) (h1 : f < t) (h2 : t ≤ 1048577) : (spanTxt f t).size ≤ 50 := by
  have a := num_size f h0 (by omega)
  have b := num_size (t - 1) (by omega) (by omega)
  have c1 : (⟨#[43]⟩ : ByteArray).size = 1 := rfl
  have c2 : (⟨#[45]⟩ : ByteArray).size = 1 := rfl
  unfold spanTxt
  split
  · omega
  · split
    · rw [ByteArray.size_append]; omega
    · rw [ByteArray.size_append, ByteArray.size_append]; omega

set_option maxHeartbeats 1000000 in
theorem formatSpan_any (f t : Int) (w : World) (ht : Tab w) (h0 : 0 ≤ f) (h1 : f < t) (h2 : t ≤ 1048577) :
    Calls Tryz.prog 16 #[.agg #[.int .i64 f, .int .i64 t]] w fun e w' => e = .returned (.string (spanTxt f t)) ∧ Below w.heap.size w w' := by
  have hb0 : Below w.heap.size w (w.alloc (.cells #[.int .i64 f, .int .i64 t] 35)) := (Below.refl _ _).alloc (Nat.le_refl _) _
  have ht0 : Tab (w.alloc (.cells #[.int .i64 f, .int .i64 t] 35)) := ht.below hb0
  have HC : Hid (∀ W, Below (w.alloc (.cells #[.int .i64 f, .int .i64 t] 35)).heap.size (w.alloc (.cells #[.int .i64 f, .int .i64 t] 35)) W → W.cell? ⟨w.heap.size, 0, none⟩ = some (.int .i64 f) ∧ W.cell? ⟨w.heap.size, 1, none⟩ = some (.int .i64 t)) := Lib.hid fun W hb =>
    ⟨(hb.cell (p := ⟨w.heap.size, 0, none⟩) (by simp)).trans (by simp), (hb.cell (p := ⟨w.heap.size, 1, none⟩) (by simp)).trans (by simp)⟩
  have HB := Lib.hid hb0
  have HI : Hid (Calls Tryz.prog 31 #[.int .i64 f] (w.alloc (.cells #[.int .i64 f, .int .i64 t] 35)) fun e w' => e = .returned (.string (num f)) ∧ Below (w.alloc (.cells #[.int .i64 f, .int .i64 t] 35)).heap.size (w.alloc (.cells #[.int .i64 f, .int .i64 t] 35)) w') := Lib.hid (itoa_any f _ ht0 h0 (by omega))
  have HT0 := Lib.hid ht0
  clear hb0 ht0 ht
  have ha := num_size f h0 (by omega)
  have hbz := num_size (t - 1) (by omega) (by omega)
  by_cases x1 : t - f = 1
  · have e : spanTxt f t = num f := by unfold spanTxt; rw [if_pos x1]
    rw [e]
    clear e
    have hx : t = f + 1 := by omega
    subst hx
    clear x1
    go_enter Tryz.func16, Tryz.ntmps16
    go_wp2_with (go_at_call 31; ((with_reducible refine (HI.out).mono ?_); rintro e w1 ⟨rfl, hb1⟩; obtain ⟨k1, k2⟩ := HC.out _ hb1))
    go_ret
    exact ⟨rfl, HB.out.trans (hb1.mono HB.out.size)⟩
  · by_cases x2 : t = 1048577
    · have e : spanTxt f t = num f ++ ⟨#[43]⟩ := by unfold spanTxt; rw [if_neg x1, if_pos x2]
      rw [e]
      clear e
      subst x2
      have hx : ((1048577 - f) == 1) = false := by rw [beq_eq_false_iff_ne]; exact x1
      have hx2 : ¬ (1048577 - f) = 1 := x1
      clear x1
      go_enter Tryz.func16, Tryz.ntmps16
      go_wp2_with (go_at_call 31; ((with_reducible refine (HI.out).mono ?_); rintro e w1 ⟨rfl, hb1⟩; obtain ⟨k1, k2⟩ := HC.out _ hb1))
      go_ret
      exact ⟨rfl, HB.out.trans (hb1.mono HB.out.size)⟩
    · have e : spanTxt f t = num f ++ ⟨#[45]⟩ ++ num (t - 1) := by unfold spanTxt; rw [if_neg x1, if_neg x2]
      rw [e]
      clear e
      have hx : ((t - f) == 1) = false := by rw [beq_eq_false_iff_ne]; exact x1
      have hx3 : (t == 1048577) = false := by rw [beq_eq_false_iff_ne]; exact x2
      have HJ : Hid (∀ W, Below (w.alloc (.cells #[.int .i64 f, .int .i64 t] 35)).heap.size (w.alloc (.cells #[.int .i64 f, .int .i64 t] 35)) W → Calls Tryz.prog 31 #[.int .i64 (t - 1)] W fun e w' => e = .returned (.string (num (t - 1))) ∧ Below W.heap.size W w') := Lib.hid fun W hb => itoa_any (t - 1) W (HT0.out.below hb) (by omega) (by omega)
      go_enter Tryz.func16, Tryz.ntmps16
      go_wp2_with (first
        | (go_at_call 31; ((with_reducible refine (HI.out).mono ?_); rintro e w1 ⟨rfl, hb1⟩; obtain ⟨k1, k2⟩ := HC.out _ hb1))
        | (go_at_call 31; ((with_reducible refine (HJ.out _ hb1).mono ?_); rintro e w2 ⟨rfl, hb2⟩)))
      go_ret
      exact ⟨rfl, HB.out.trans ((hb1.trans (hb2.mono hb1.size)).mono HB.out.size)⟩

/-- The texts of the spans, joined. -/
def fmtTxt (R : List Sp) : ByteArray := if R = [] then ⟨#[110, 101, 118, 101, 114]⟩ else ⟨(Lib.join (R.map fun s => (spanTxt s.1 s.2).data.toList) [44]).toArray⟩
theorem info9 : (Tryz.prog.info? 9).map (fun i => (i.zero, i.size, i.bytes)) = some (some (.string ⟨#[]⟩), 1, 16) := by kernel_rfl
/-- The texts of the spans as cells. -/
def txts (R : List Sp) : List Value := R.map fun s => .string (spanTxt s.1 s.2)
theorem sep_ok : ∀ (L : List Sp) (lo : Int), -1 ≤ lo → SepL lo L → ∀ k, k < L.length → 0 ≤ fr L k ∧ fr L k < tu L k ∧ tu L k ≤ 1048577
  | [], _, _, _, k, hk => by simp at hk
  | s :: r, lo, hlo, h, 0, _ => by
    obtain ⟨h1, h2, h3, _⟩ := h
    exact ⟨by show 0 ≤ s.1; omega, h2, h3⟩
  | s :: r, lo, hlo, h, k + 1, hk => by
    obtain ⟨h1, h2, h3, h4⟩ := h
    exact sep_ok r s.2 (by omega) h4 k (by simpa using hk)
theorem lens_le : ∀ (R : List Sp) (lo : Int), -1 ≤ lo → SepL lo R → Lib.lens (R.map fun s => (spanTxt s.1 s.2).data.toList) ≤ 50 * R.length
  | [], _, _, _ => by simp [Lib.lens]
  | s :: r, lo, hlo, h => by
    obtain ⟨h1, h2, h3, h4⟩ := h
    have ih := lens_le r s.2 (by omega) h4
    have hs := spanTxt_size s.1 s.2 (by omega) h2 h3
    have e : (spanTxt s.1 s.2).data.toList.length = (spanTxt s.1 s.2).size := by simp
    simp only [List.map_cons, List.length_cons]
    simp only [Lib.lens, List.map_cons, List.sum_cons] at ih ⊢
    omega

set_option maxHeartbeats 1000000 in
set_option maxRecDepth 1000000 in
theorem format_any (L R0 : List Sp) (N c : Nat) (A : Option Addr) (w : World) (ht : Tab w) (hz : SpansAt w.heap.size w A N L) (hN : N ≤ 2000000) (hR0 : Is R0 (memB L)) :
    Calls Tryz.prog 6 #[.slice A N c] w fun e w' => e = .returned (.string (fmtTxt R0)) ∧ Below w.heap.size w w' := by
  obtain ⟨i0, hi, hz0, hz1, hz2⟩ := info_parts info9
  have HA : Hid (Calls Tryz.prog 12 #[.slice A N c] w fun e w' => SetRet (memB L) e w' ∧ Below w.heap.size w w') := Lib.hid (norm_any L N c A w hz hN)
  have HR := Lib.hid hR0
  have HT := Lib.hid ht
  clear hz hR0 ht
  go_enter Tryz.func6, Tryz.ntmps6
  go_wp2_with (go_at_call 12; ((with_reducible refine (HA.out).mono ?_); rintro e w1 ⟨⟨A1, n1, c1, R, rfl, ra1, ra2, ra3, ra4⟩, hb1⟩))
  obtain rfl : R = R0 := ra1.unique HR.out (fun _ _ _ => rfl)
  have HS := Lib.hid ra1.1
  have HRL := Lib.hid ra2.1
  have HT1 := Lib.hid (HT.out.below hb1)
  clear ra1
  go_loopw [3, 9] (fun v i wr => ∃ (k cc : Nat) (Av : Option Addr), k ≤ n1 ∧ i = .int .i64 k ∧ v = .slice Av k cc ∧ wr.ownsRow w1.heap.size 9 1 (.slice Av k cc) k (txts (R.take k)) ∧ Below w1.heap.size w1 wr) (fun _ i _ => n1 - (intOf i).toNat)
  case atStart => exact ⟨0, 0, none, Nat.zero_le _, rfl, rfl, World.ownsRow_nil _ _ _ _, Below.refl _ _⟩
  case round =>
    obtain ⟨k, cc, Av, hk, rfl, rfl, hown, hb⟩ := hrel
    have hbz := hb.size
    by_cases hlt : k < n1
    · obtain ⟨b, off, rfl, hB, h1, h2⟩ := ra2.cells hb hlt
      obtain ⟨s1, s2, s3⟩ := sep_ok R (-1) (by omega) HS.out k (by have := HRL.out; omega)
      have hstep : txts (R.take (k + 1)) = txts (R.take k) ++ [.string (spanTxt (fr R k) (tu R k))] := by
        rw [take_step R k (by have := HRL.out; omega)]
        simp [txts]
      have HP := Lib.hid hstep
      have HF : Hid (∀ o, Calls Tryz.prog 16 #[.agg #[.int .i64 (fr R k), .int .i64 (tu R k)]] (wr.alloc o) fun e w' => e = .returned (.string (spanTxt (fr R k) (tu R k))) ∧ Below (wr.alloc o).heap.size (wr.alloc o) w') := Lib.hid fun o => formatSpan_any _ _ _ (HT1.out.below (hb.trans (((Below.refl _ _).alloc (Nat.le_refl _) o).mono hbz))) s1 s2 s3
      have HO : Hid (∀ W, Below wr.heap.size wr W → W.ownsRow w1.heap.size 9 1 (.slice Av k cc) k (txts (R.take k))) := Lib.hid fun W h => own_below hown h
      have HLO := Lib.hid (fun g h => (hown.lt g h).1)
      clear hown hstep
      have hb4 : ∀ o, Below wr.heap.size wr (wr.alloc o) := fun o => (Below.refl _ _).alloc (Nat.le_refl _) o
      go_wp2_with (first
        | (go_at_call 16; ((with_reducible refine (HF.out _).mono ?_); rintro e w3 ⟨rfl, hb3⟩; have hb5 := (hb4 _).trans (hb3.mono (hb4 _).size); have hb6 := hb5.alloc hb5.size (.cells #[.string (spanTxt (fr R k) (tu R k))] 9)))
        | (at_builtin; refine wpList_append_own _ rfl _ _ 40 rfl w1.heap.size 9 i0 (.string ⟨#[]⟩) 1 16 Tryz.underlying40 hi hz0 hz1 hz2 rfl (by decide) _ _ _ rfl (HO.out _ hb6) ⟨w3.heap.size, 0, none⟩ 1 1 [.string (spanTxt (fr R k) (tu R k))] rfl rfl ?c1 ?c2 ?c3 ?c4 ?c5 ?_))
      case c1 =>
        intro j u hj
        match j, hj with
        | 0, hj => simp at hj; subst hj; simp [Addr.add]
      case c2 => intro u hu; simp at hu; subst hu; rfl
      case c3 => unfold maxLen; omega
      case c4 => omega
      case c5 => have := hb6.size; omega
      intro v' w4 hown' hgrow _
      have hbw : Below w1.heap.size w1 w4 := Below.grown (hb.trans (hb6.mono hbz)) hgrow (by have := hb6.size; omega) (fun k hk => HLO.out k hk)
      have hsl : ∃ A2 c2, v' = .slice A2 (k + 1) c2 := by
        rcases hown'.2 with ⟨_, h⟩ | ⟨g, cap, cur, rfl, _⟩
        · omega
        · exact ⟨_, _, rfl⟩
      obtain ⟨A2, c2, rfl⟩ := hsl
      have HV := Lib.hid hown'
      clear hgrow hown' hb3 hb5 hb6 hb4
      go_wp2
      go_roundw
      case rel => exact ⟨k + 1, c2, A2, by omega, by go_num, rfl, by rw [HP.out]; exact HV.out, hbw⟩
      case measure => simp [intOf]; omega
    · obtain rfl : k = n1 := by omega
      have eR : R.take k = R := List.take_of_length_le (by have := HRL.out; omega)
      rw [eR] at hown
      have HO := Lib.hid hown
      clear hown eR
      rcases Nat.eq_zero_or_pos k with h0 | h0
      · subst h0
        have hR : R = [] := List.eq_nil_of_length_eq_zero HRL.out
        subst hR
        go_wp2
        go_ret
        exact ⟨rfl, hb1.trans (hb.mono hb1.size)⟩
      · obtain ⟨g, rfl⟩ : ∃ g, Av = some ⟨g, 0, none⟩ := by
          rcases HO.out.2 with ⟨h, h2⟩ | ⟨g, cap, cur, h, _⟩
          · omega
          · injection h with h; exact ⟨g, h⟩
        have hne : R ≠ [] := fun h => by have := HRL.out; rw [h] at this; simp at this; omega
        have hnk : ((k : Int) == 0) = false := by rw [beq_eq_false_iff_ne]; omega
        have HJ : Hid (Calls Tryz.prog 17 #[.slice (some ⟨g, 0, none⟩) k cc, .string ⟨#[44]⟩] wr fun e w' => e = .returned (.string (fmtTxt R)) ∧ Below wr.heap.size wr w') := Lib.hid (by
          have hlen : (R.map fun s => spanTxt s.1 s.2).length = k := by rw [List.length_map]; exact HRL.out
          have hmap : (R.map fun s => spanTxt s.1 s.2).map (·.data.toList) = R.map fun s => (spanTxt s.1 s.2).data.toList := by rw [List.map_map]; rfl
          have hj := Tryz.strings_Join g 0 cc (R.map fun s => spanTxt s.1 s.2) ⟨#[44]⟩ wr (fun j x hx => by
              have hjk : j < k := by rw [← hlen]; exact (List.getElem?_eq_some_iff.1 hx).1
              have e : (txts R)[j]? = some (.string x) := by
                unfold txts
                rw [List.getElem?_map] at hx ⊢
                rw [Option.map_eq_some_iff] at hx ⊢
                obtain ⟨s, h1, rfl⟩ := hx
                exact ⟨s, h1, rfl⟩
              rw [Nat.zero_add, HO.out.cellAt j (by omega), e]) (HO.out.lt g rfl).2 (by omega) (by rw [hlen]; exact own_cap HO.out) (by
              rw [hmap]
              obtain ⟨s, r, rfl⟩ : ∃ s r, R = s :: r := by
                cases R with
                | nil => exact absurd rfl hne
                | cons s r => exact ⟨s, r, rfl⟩
              rw [List.map_cons, Lib.join_length]
              have h1 := lens_le (s :: r) (-1) (by omega) HS.out
              have h2 := HRL.out
              simp only [List.map_cons, List.length_cons, List.length_nil] at h1 h2 ⊢
              simp only [List.length_map]
              omega)
          rw [hlen, hmap] at hj
          have ef : fmtTxt R = ⟨(Lib.join (R.map fun s => (spanTxt s.1 s.2).data.toList) [44]).toArray⟩ := by unfold fmtTxt; rw [if_neg hne]
          rw [ef]
          exact hj)
        clear hne
        go_wp2_with (go_at_call 17; ((with_reducible refine (HJ.out).mono ?_); rintro e w5 ⟨rfl, hb5⟩))
        go_ret
        exact ⟨rfl, hb1.trans ((hb.trans (hb5.mono hbz)).mono hb1.size)⟩
end Go.Proofs.YtplphinaeikpmaaGreatDoor
