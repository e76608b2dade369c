/-
  The contract of Parse.
-/
import Derived.Test.YtplphinaeikpmaaGreatDoorPsa
import Derived.Test.YtplphinaeikpmaaGreatDoorNorm
namespace Go.Proofs.YtplphinaeikpmaaGreatDoor
open Go.RowKit (wrap32 wrap64 intOf Hid Below)
open Spans

theorem splitB_small (sep : ByteArray) : ∀ (k : Nat) (s x : ByteArray), x ∈ Lib.splitB sep 0 k s → x.size ≤ s.size
  | 0, s, x, h => by
    rw [Lib.splitB_zero, List.mem_singleton] at h
    rw [h]; exact Nat.le_refl _
  | k + 1, s, x, h => by
    unfold Lib.splitB at h
    split at h
    · rw [List.mem_singleton] at h
      rw [h]; exact Nat.le_refl _
    · rcases List.mem_cons.1 h with e | e
      · rw [e, ByteArray.size_extract]; omega
      · have := splitB_small sep k _ x e
        rw [ByteArray.size_extract] at this
        omega
/-- The pieces of a text between its commas. -/
def pcs (s : ByteArray) : List ByteArray := Lib.splitB ⟨#[44]⟩ 0 (Lib.countB s ⟨#[44]⟩) s
theorem pcs_len (s : ByteArray) : (pcs s).length = Lib.countB s ⟨#[44]⟩ + 1 := Lib.splitB_all ⟨#[44]⟩ (by decide) 0 _ s rfl
theorem pcs_le (s : ByteArray) : (pcs s).length ≤ s.size + 1 := by
  rw [pcs_len]
  have := Lib.countB_le ⟨#[44]⟩ (by decide) s.size s (Nat.le_refl _)
  omega
theorem pcs_list (s : ByteArray) : (pcs s).map (·.data.toList) = Lib.split s.data.toList [44] := Lib.splitB_data ⟨#[44]⟩ 0 _ s
theorem split_any (s : ByteArray) (w : World) (hE : EnvL w) (hs : s.size ≤ 1000000) :
    Calls Tryz.prog 19 #[.string s, .string ⟨#[44]⟩] w fun e w' => ∃ b, e = .returned (.slice (some ⟨b, 0, none⟩) (pcs s).length (pcs s).length) ∧ b < w'.heap.size ∧ (∀ k, (h : k < (pcs s).length) → w'.cell? ⟨b, k, none⟩ = some (.string (pcs s)[k])) ∧ Below w.heap.size w w' := by
  obtain ⟨⟨m, hm⟩, _⟩ := hE
  refine (Tryz.strings_Split s ⟨#[44]⟩ m w (by omega) hm (by decide)).mono fun e w' ⟨he, hw⟩ => ?_
  subst hw
  refine ⟨w.heap.size, by rw [he, pcs_len], by simp, fun k h => ?_, (Below.refl _ _).alloc (Nat.le_refl _) _⟩
  rw [World.cell?_alloc_at _ _ _ _ rfl]
  show (((pcs s).map Value.string).toArray)[k]? = _
  rw [List.getElem?_toArray, List.getElem?_map, List.getElem?_eq_getElem h]
  rfl

/-- The text of a list of spans. -/
def txtB (L : List Sp) : ByteArray := ⟨(txtL L).toArray⟩
theorem txtB_list (L : List Sp) : (txtB L).data.toList = txtL L := rfl
theorem str_eq (a b : ByteArray) : (a.toList == b.toList) = decide (a.data.toList = b.data.toList) := by
  rw [ByteArray.toList_eq, ByteArray.toList_eq, Bool.eq_iff_iff, beq_iff_eq, decide_eq_true_eq]
/-- What Parse hands back: the canonical list that the text stands for, or that it stands for none. -/
def ParseRet (s : ByteArray) (e : Ending) (w' : World) : Prop :=
  (∃ (A : Option Addr) (n c : Nat) (L : List Sp), e = .returned (.tuple #[.slice A n c, .int .i64 0]) ∧ SpansAt w'.heap.size w' A n L ∧ n ≤ 2000000 ∧ SepL (-1) L ∧ txtL L = s.data.toList) ∨
  (e = .returned (.tuple #[.slice none 0 0, .int .i64 2]) ∧ ∀ R, SepL (-1) R → txtL R ≠ s.data.toList)
/-- What the walk asks of Format. -/
def FmtOk (T : World → Prop) : Prop := ∀ (L : List Sp) (N c : Nat) (A : Option Addr) (w : World), T w → SpansAt w.heap.size w A N L → N ≤ 2000000 → SepL (-1) L →
  Calls Tryz.prog 6 #[.slice A N c] w fun e w' => e = .returned (.string (txtB L)) ∧ Below w.heap.size w w'

theorem never_eq (s : ByteArray) (h : s.data.toList = never) : s = ⟨#[110, 101, 118, 101, 114]⟩ := by
  have : s.data = #[110, 101, 118, 101, 114] := Array.toList_inj.1 h
  exact ByteArray.ext this
theorem no_txt {s : ByteArray} (hn : s ≠ ⟨#[110, 101, 118, 101, 114]⟩) (h : Nope s.data.toList) : ∀ R, SepL (-1) R → txtL R ≠ s.data.toList := fun R hR e => by
  unfold txtL at e
  split at e
  · exact hn (never_eq s e.symm)
  · exact h R hR (by assumption) e
theorem no_sole {s : ByteArray} {L : List Sp} (hn : s ≠ ⟨#[110, 101, 118, 101, 114]⟩) (h : Sole s.data.toList L) (hL : SepL (-1) L → txtL L ≠ s.data.toList) : ∀ R, SepL (-1) R → txtL R ≠ s.data.toList := fun R hR e => by
  have e0 := e
  unfold txtL at e
  split at e
  · exact hn (never_eq s e.symm)
  · have := h R hR (by assumption) e
    subst this
    exact hL hR e0

theorem new2' (w : World) (o1 : Obj) (f t : Int) (ty : TypeId) (j : Nat) (u : Value) (h : [Value.int .i64 f, .int .i64 t][j]? = some u) :
    ((w.alloc o1).alloc (.cells #[.int .i64 f, .int .i64 t] ty)).cell? ((⟨w.heap.size + 1, 0, none⟩ : Addr).add j) = some u := by
  match j, h with
  | 0, h =>
    rw [show ((⟨w.heap.size + 1, 0, none⟩ : Addr).add 0) = ⟨w.heap.size + 1, 0, none⟩ from rfl, World.cell?_alloc_at _ _ _ _ (by simp)]
    exact h
  | 1, h =>
    rw [show ((⟨w.heap.size + 1, 0, none⟩ : Addr).add 1) = ⟨w.heap.size + 1, 1, none⟩ from rfl, World.cell?_alloc_at _ _ _ _ (by simp)]
    exact h
theorem own_slice' {w : World} {base e size n : Nat} {v : Value} {xs : List Value} (h : w.ownsRow base e size v (n + 1) xs) : ∃ A2 c2, v = .slice A2 (n + 1) c2 := by
  rcases h.2 with ⟨_, h⟩ | ⟨g, cap, cur, rfl, _⟩
  · omega
  · exact ⟨_, _, rfl⟩
theorem bl2' (w : World) (o1 o2 : Obj) : Below w.heap.size w ((w.alloc o1).alloc o2) := ((Below.refl _ _).alloc (Nat.le_refl _) o1).alloc (by simp) o2
set_option maxHeartbeats 2000000 in
set_option maxRecDepth 1000000 in
theorem parse_any (T : World → Prop) (hT : ∀ w w', T w → Below w.heap.size w w' → T w') (hF : FmtOk T) (s : ByteArray) (w : World) (h0 : T w) (hE : EnvL w) (hs : s.size ≤ 4000) :
    Calls Tryz.prog 7 #[.string s] w fun e w' => ParseRet s e w' ∧ Below w.heap.size w w' := by
  obtain ⟨i0, hi, hz0, hz1, hz2⟩ := info_parts info42
  have hcb : Lib.countByte s.data.toList 44 ≤ 4000 := by
    have h1 : Lib.countByte s.data.toList 44 ≤ s.data.toList.length := List.count_le_length
    have e : s.data.toList.length = s.size := by simp
    omega
  by_cases hn : s = ⟨#[110, 101, 118, 101, 114]⟩
  · subst hn
    go_enter Tryz.func7, Tryz.ntmps7
    go_wp2
    go_ret2
    exact ⟨Or.inl ⟨none, 0, 0, [], rfl, ⟨rfl, fun h => absurd h (by omega)⟩, by omega, trivial, rfl⟩, Below.refl _ _⟩
  · have hne : (s.toList == [110, 101, 118, 101, 114]) = false := by
      rw [ByteArray.toList_eq, beq_eq_false_iff_ne]
      exact fun h => hn (never_eq s h)
    have HNo := Lib.hid (fun h => no_txt hn h)
    have HSo := Lib.hid (fun L => @no_sole s L hn)
    have HCo := Lib.hid (Tryz.strings_Count_one s 44 w)
    have HSp := Lib.hid (split_any s w hE (by omega))
    have HE := Lib.hid hE
    have HPL := Lib.hid (pcs_le s)
    have HT := Lib.hid hT
    have HFm := Lib.hid hF
    have H0 := Lib.hid h0
    have HPS : Hid (∀ k, (h : k < (pcs s).length) → (pcs s)[k].size ≤ 1000000) := Lib.hid fun k h => by have := splitB_small ⟨#[44]⟩ _ s (pcs s)[k] (List.getElem_mem h); omega
    clear hE hT hF h0
    generalize hcc : Lib.countByte s.data.toList 44 = cc at HCo hcb
    clear hcc
    go_enter Tryz.func7, Tryz.ntmps7
    go_wp2_with (first
      | (go_at_call 18; ((with_reducible refine (HCo.out).mono ?_); rintro e w' ⟨rfl, hw⟩; have hw := hw.symm; subst hw))
      | (go_at_call 19; ((with_reducible refine (HSp.out).mono ?_); rintro e w1 ⟨b, rfl, hbl, hcell, hb1⟩)))
    have HCell := Lib.hid hcell
    clear hcell
    go_loopw [4, 17] (fun v i wr => ∃ (k cc : Nat) (Av : Option Addr) (L : List Sp), k ≤ (pcs s).length ∧ i = .int .i64 k ∧ v = .slice Av k cc ∧ L.length = k ∧ ((Lib.split s.data.toList [44]).take k).map pspan = L.map some ∧ wr.ownsRow w1.heap.size 35 2 (.slice Av k cc) k (cells L) ∧ Below w1.heap.size w1 wr) (fun _ i _ => (pcs s).length - (intOf i).toNat)
    case atStart => exact ⟨0, 0, none, [], Nat.zero_le _, rfl, rfl, rfl, rfl, World.ownsRow_nil _ _ _ _, Below.refl _ _⟩
    case round =>
      obtain ⟨k, cc, Av, L, hk, rfl, rfl, hL, hmap, hown, hb⟩ := hrel
      have hbz := hb.size
      have hpl := HPL.out
      have HL := Lib.hid hL
      have HMap := Lib.hid hmap
      clear hmap
      by_cases hlt : k < (pcs s).length
      · have hcell : wr.cell? ⟨b, k, none⟩ = some (.string (pcs s)[k]) := (hb.cell (p := ⟨b, k, none⟩) hbl).trans (HCell.out k hlt)
        have hpk : (Lib.split s.data.toList [44])[k]? = some (pcs s)[k].data.toList := by rw [← pcs_list, List.getElem?_map, List.getElem?_eq_getElem hlt]; rfl
        have HPk := Lib.hid hpk
        have HPa := Lib.hid (parseSpan_any (pcs s)[k] wr (HE.out.below (hb1.trans (hb.mono hb1.size))) (HPS.out k hlt))
        clear hpk hL
        generalize (pcs s)[k] = q at hcell HPk HPa
        cases hq : pspan q.data.toList with
        | none =>
          have HPn : Hid (Calls Tryz.prog 20 #[.string q] wr fun e w' => e = .returned (.tuple #[.agg #[.int .i64 0, .int .i64 0], .bool false]) ∧ Below wr.heap.size wr w') := Lib.hid (by have := HPa.out; rw [hq] at this; exact this)
          clear HPa
          have HR := Lib.hid (HNo.out (nope_piece _ k _ HPk.out hq))
          clear hown hq
          go_wp2_with (go_at_call 20; ((with_reducible refine (HPn.out).mono ?_); rintro e w3 ⟨rfl, hb3⟩))
          go_ret2
          exact ⟨Or.inr ⟨rfl, HR.out⟩, (hb1.trans ((hb.trans (hb3.mono hbz)).mono hb1.size)).alloc (Nat.le_trans hb1.size (Nat.le_trans hbz hb3.size)) _⟩
        | some x =>
          obtain ⟨f, t⟩ := x
          have HPy : Hid (Calls Tryz.prog 20 #[.string q] wr fun e w' => e = .returned (.tuple #[.agg #[.int .i64 f, .int .i64 t], .bool true]) ∧ Below wr.heap.size wr w') := Lib.hid (by have := HPa.out; rw [hq] at this; exact this)
          clear HPa
          have HO : Hid (∀ W, Below wr.heap.size wr W → W.ownsRow w1.heap.size 35 2 (.slice Av k cc) k (cells L)) := Lib.hid fun W h => own_below hown h
          have HLO := Lib.hid (fun g h => (hown.lt g h).1)
          have HMn : Hid (((Lib.split s.data.toList [44]).take (k + 1)).map pspan = (L ++ [(f, t)]).map some) := Lib.hid (by
            rw [List.take_add_one, HPk.out, List.map_append, List.map_append, HMap.out]
            simp [hq])
          clear hown hq
          go_wp2_with (first
            | (go_at_call 20; ((with_reducible refine (HPy.out).mono ?_); rintro e w3 ⟨rfl, hb3⟩))
            | (at_builtin; refine wpList_append_own _ rfl _ _ 22 rfl w1.heap.size 35 i0 (.agg #[.int .i64 0, .int .i64 0]) 2 16 Tryz.underlying22 hi hz0 hz1 hz2 rfl (by decide) _ _ _ rfl (HO.out _ (hb3.trans ((bl2' w3 _ _).mono hb3.size))) ⟨w3.heap.size + 1, 0, none⟩ 1 1 [.int .i64 f, .int .i64 t] rfl rfl ?c1 ?c2 ?c3 ?c4 ?c5 ?_))
          case c1 => exact fun j u hj => new2' w3 _ f t _ j u hj
          case c2 => intro u hu; simp at hu; rcases hu with rfl | rfl <;> rfl
          case c3 => unfold maxLen; omega
          case c4 => omega
          case c5 => have := hb3.size; simp; omega
          intro v' w4 hown' hgrow _
          have hbw : Below w1.heap.size w1 w4 := Below.grown (hb.trans ((hb3.trans ((bl2' w3 _ _).mono hb3.size)).mono hbz)) hgrow (by have := hb3.size; simp; omega) (fun k hk => HLO.out k hk)
          obtain ⟨A2, c2, rfl⟩ := own_slice' hown'
          have HV : Hid (w4.ownsRow w1.heap.size 35 2 (.slice A2 (k + 1) c2) (k + 1) (cells (L ++ [(f, t)]))) := Lib.hid (by rw [cells_app]; exact hown')
          clear hgrow hown'
          go_wp2
          go_roundw
          case rel => exact ⟨k + 1, c2, A2, L ++ [(f, t)], by omega, by go_num, rfl, by rw [List.length_append, HL.out]; rfl, HMn.out, HV.out, hbw⟩
          case measure => simp [intOf]; omega
      · obtain rfl : k = (pcs s).length := by omega
        have hlen : (Lib.split s.data.toList [44]).length = (pcs s).length := by rw [← pcs_list, List.length_map]
        have HSole : Hid (Sole s.data.toList L) := Lib.hid (sole_pieces _ L (by have := HMap.out; rw [List.take_of_length_le (by omega)] at this; exact this))
        have hsp := spans_of_own hown
        have HSA := Lib.hid hsp
        have HVa := Lib.hid (valid_any L (pcs s).length cc Av wr hsp (by unfold maxLen; omega))
        have hvl : validB L = sepB (-1) L := by unfold validB; rw [decide_eq_true (by have := HL.out; omega), Bool.true_and]
        rw [hvl] at HVa
        have HBw : Hid (Below w.heap.size w wr) := Lib.hid (hb1.trans (hb.mono hb1.size))
        have HK : Hid ((pcs s).length ≤ 2000000) := Lib.hid (by omega)
        clear hown hsp hvl hL
        cases hv : sepB (-1) L with
        | false =>
          rw [hv] at HVa
          have HR := Lib.hid (HSo.out L HSole.out fun h => by rw [(sepB_iff L (-1)).2 h] at hv; cases hv)
          clear hv
          go_wp2_with (go_at_call 15; ((with_reducible refine (HVa.out).mono ?_); rintro e w5 ⟨rfl, hb5⟩))
          go_ret2
          exact ⟨Or.inr ⟨rfl, HR.out⟩, HBw.out.trans (hb5.mono HBw.out.size)⟩
        | true =>
          rw [hv] at HVa
          have HSep := Lib.hid ((sepB_iff L (-1)).1 hv)
          clear hv
          have HFc : Hid (∀ W, Below wr.heap.size wr W → Calls Tryz.prog 6 #[.slice Av (pcs s).length cc] W fun e w' => e = .returned (.string (txtB L)) ∧ Below W.heap.size W w') := Lib.hid fun W hW =>
            HFm.out L _ cc Av W (HT.out _ _ H0.out (HBw.out.trans (hW.mono HBw.out.size))) ((HSA.out.below hW).mono hW.size) HK.out HSep.out
          by_cases hx : txtL L = s.data.toList
          · have hxx : ((txtB L).toList == s.toList) = true := by rw [str_eq, txtB_list, hx]; simp
            go_wp2_with (first
              | (go_at_call 15; ((with_reducible refine (HVa.out).mono ?_); rintro e w5 ⟨rfl, hb5⟩))
              | (go_at_call 6; ((with_reducible refine (HFc.out _ hb5).mono ?_); rintro e w6 ⟨rfl, hb6⟩)))
            go_ret2
            have hb56 := hb5.trans (hb6.mono hb5.size)
            exact ⟨Or.inl ⟨Av, _, cc, L, rfl, (HSA.out.below hb56).mono hb56.size, HK.out, HSep.out, hx⟩, HBw.out.trans (hb56.mono HBw.out.size)⟩
          · have hxx : ((txtB L).toList == s.toList) = false := by rw [str_eq, txtB_list]; simp [hx]
            have HR := Lib.hid (HSo.out L HSole.out fun _ => hx)
            go_wp2_with (first
              | (go_at_call 15; ((with_reducible refine (HVa.out).mono ?_); rintro e w5 ⟨rfl, hb5⟩))
              | (go_at_call 6; ((with_reducible refine (HFc.out _ hb5).mono ?_); rintro e w6 ⟨rfl, hb6⟩)))
            go_ret2
            have hb56 := hb5.trans (hb6.mono hb5.size)
            exact ⟨Or.inr ⟨rfl, HR.out⟩, HBw.out.trans (hb56.mono HBw.out.size)⟩
end Go.Proofs.YtplphinaeikpmaaGreatDoor
