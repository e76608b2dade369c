/-
  The walk of the law DatesetFormats.
-/
import Derived.Test.YtplphinaeikpmaaGreatDoorRps
namespace Go.Proofs.YtplphinaeikpmaaGreatDoor
open Go.RowKit (wrap32 wrap64 intOf Hid Below)
open Spans

/-- The canonical list is no longer than the list. -/
theorem canon_len (L : List Sp) : (canon (memB L)).length ≤ L.length := by
  have hp := List.mergeSort_perm (partsOf L) (fun a b : Sp => decide (a.1 ≤ b.1))
  have hs := List.pairwise_mergeSort (le := fun a b : Sp => decide (a.1 ≤ b.1)) (by intro a b c h1 h2; simp at *; omega) (by intro a b; simp; omega) (partsOf L)
  have ho : Ord ((partsOf L).mergeSort fun a b : Sp => decide (a.1 ≤ b.1)) := by
    intro i j hij hj
    have := List.pairwise_iff_getElem.1 hs i j (by omega) hj hij
    unfold fr
    simpa [List.getD, List.getElem?_eq_getElem hj, List.getElem?_eq_getElem (Nat.lt_trans hij hj)] using this
  have h := norm_is L _ hp ho
  rw [← canon_is h]
  have h1 := foldS_len ((partsOf L).mergeSort fun a b : Sp => decide (a.1 ≤ b.1))
  have h2 := hp.length_eq
  have h3 := parts_len L
  omega
theorem spanTxt_list (f t : Int) : (spanTxt f t).data.toList = spanL (f, t) := by
  unfold spanTxt spanL
  split
  · rfl
  · split
    · simp [num, ByteArray.data_append]
    · simp [num, ByteArray.data_append]
theorem fmtTxt_eq (R : List Sp) : fmtTxt R = txtB R := by
  unfold fmtTxt txtB txtL
  split
  · rfl
  · unfold joinL
    congr 3
    exact List.map_congr_left fun s _ => spanTxt_list s.1 s.2
theorem is_mem {R : List Sp} (h : SepL (-1) R) : Is R (memB R) := ⟨h, fun _ _ _ => rfl⟩
theorem fmt_ok : FmtOk Tab := fun L N c A w ht hz hN hL => by
  have h := format_any L L N c A w ht hz hN (is_mem hL)
  rw [fmtTxt_eq] at h
  exact h
theorem txtB_size (R : List Sp) (h : SepL (-1) R) (hl : R.length ≤ 100) : (txtB R).size ≤ 4000 := by
  have e : (txtB R).size = (txtL R).length := by simp [txtB, ByteArray.size]
  rw [e]
  unfold txtL
  split
  · decide
  · have := join_len R h R.length (Nat.le_refl _)
    rw [List.take_length] at this
    omega

/-- A canonical list is handed back. -/
def Got (R : List Sp) (A : Option Addr) (n : Nat) (w' : World) : Prop := SpansAt w'.heap.size w' A n R ∧ n ≤ 2000000
theorem Got.later {R : List Sp} {A : Option Addr} {n : Nat} {w w' : World} (h : Got R A n w) (hb : Below w.heap.size w w') : Got R A n w' := ⟨(h.1.below hb).mono hb.size, h.2⟩
theorem parse_yes (w : World) (ht : Tab w) (hE : EnvL w) (R : List Sp) (hR : SepL (-1) R) (s : ByteArray) (hs : txtL R = s.data.toList) (h4 : s.size ≤ 4000) :
    Calls Tryz.prog 7 #[.string s] w fun e w' => ∃ A n c, e = .returned (.tuple #[.slice A n c, .int .i64 0]) ∧ Got R A n w' ∧ Below w.heap.size w w' :=
  (parse_any Tab (fun _ _ h hb => h.below hb) fmt_ok s w ht hE h4).mono fun e w' ⟨he, hb⟩ => by
    rcases he with ⟨A, n, c, L, rfl, h1, h2, h3, h5⟩ | ⟨_, h⟩
    · obtain rfl : L = R := txt_inj L R h3 hR (h5.trans hs.symm)
      exact ⟨A, n, c, rfl, ⟨h1, h2⟩, hb⟩
    · exact absurd hs (h R hR)
theorem parse_none (w : World) (ht : Tab w) (hE : EnvL w) (s : ByteArray) (hs : ∀ R, SepL (-1) R → txtL R ≠ s.data.toList) (h4 : s.size ≤ 4000) :
    Calls Tryz.prog 7 #[.string s] w fun e w' => e = .returned (.tuple #[.slice none 0 0, .int .i64 2]) ∧ Below w.heap.size w w' :=
  (parse_any Tab (fun _ _ h hb => h.below hb) fmt_ok s w ht hE h4).mono fun e w' ⟨he, hb⟩ => by
    rcases he with ⟨A, n, c, L, _, _, _, h3, h5⟩ | ⟨h, _⟩
    · exact absurd h5 (hs L h3)
    · exact ⟨h, hb⟩
theorem ref_yes (w : World) (R : List Sp) (hR : SepL (-1) R) (s : ByteArray) (hs : txtL R = s.data.toList) (h4 : s.size ≤ 4000) :
    Calls Tryz.prog 11 #[.string s] w fun e w' => ∃ A n c, e = .returned (.tuple #[.slice A n c, .bool true]) ∧ Got R A n w' ∧ Below w.heap.size w w' :=
  (refParse_any s w h4).mono fun e w' ⟨he, hb⟩ => by
    rcases he with ⟨A, n, c, L, rfl, h1, h2, h3, h5⟩ | ⟨_, h⟩
    · obtain rfl : L = R := txt_inj L R h3 hR (h5.trans hs.symm)
      exact ⟨A, n, c, rfl, ⟨h1, h2⟩, hb⟩
    · exact absurd hs (h R hR)
theorem ref_none (w : World) (s : ByteArray) (hs : ∀ R, SepL (-1) R → txtL R ≠ s.data.toList) (h4 : s.size ≤ 4000) :
    Calls Tryz.prog 11 #[.string s] w fun e w' => e = .returned (.tuple #[.slice none 0 0, .bool false]) ∧ Below w.heap.size w w' :=
  (refParse_any s w h4).mono fun e w' ⟨he, hb⟩ => by
    rcases he with ⟨A, n, c, L, _, _, _, h3, h5⟩ | ⟨h, _⟩
    · exact absurd h5 (hs L h3)
    · exact ⟨h, hb⟩
theorem same_got (w : World) (R : List Sp) (n m ca cb : Nat) (A B : Option Addr) (ha : Got R A n w) (hb : Got R B m w) :
    Calls Tryz.prog 9 #[.slice A n ca, .slice B m cb] w fun e w' => e = .returned (.bool true) ∧ Below w.heap.size w w' :=
  same_c R R n m ca cb A B w rfl ha.1 hb.1 ha.2 hb.2

set_option maxHeartbeats 4000000 in
set_option maxRecDepth 100000 in
theorem lawFormats (La : List Sp) (Aa : Option Addr) (N ca : Nat) (S : ByteArray) (w : World) (ht : Tab w) (hE : EnvL w)
    (za : SpansAt w.heap.size w Aa N La) (ka : N ≤ 8796093022207) (xa : Aa = none → ca = 0) (ws : S.size ≤ maxLen) :
    Calls Tryz.prog 3 #[.slice Aa N ca, .string S] w fun e w' => e = .returned (.bool true) ∧ Below w.heap.size w w' := by
  unfold maxLen at ws
  have HAw := Lib.hid (awake_c w ht)
  by_cases h60 : (N : Int) ≤ 60
  · have HFew : Hid (∀ W, Calls Tryz.prog 5 #[.slice (some ⟨W.heap.size, 0, none⟩) 1 1] (W.alloc (.cells #[.slice Aa N ca] 22)) fun e w' => e = .returned (.bool true) ∧ Below W.heap.size W w') := Lib.hid fun W => by
      have h := few1 N ca Aa W (by omega)
      rw [decide_eq_true h60] at h
      exact h
    by_cases h400 : (S.size : Int) ≤ 400
    · obtain ⟨R, hR⟩ : ∃ R, R = canon (memB La) := ⟨_, rfl⟩
      have hIs : Is R (memB La) := by rw [hR]; exact canon_list La
      have hlen : R.length ≤ 60 := by rw [hR]; have := canon_len La; have := za.1; omega
      have hsz := txtB_size R hIs.1 (by omega)
      have HFmt : Hid (∀ W, Below w.heap.size w W → Calls Tryz.prog 6 #[.slice Aa N ca] W fun e w' => e = .returned (.string (txtB R)) ∧ Below W.heap.size W w') := Lib.hid fun W hW => by
        have h := format_any La R N ca Aa W (ht.below hW) ((za.below hW).mono hW.size) (by omega) hIs
        rw [fmtTxt_eq] at h
        exact h
      have HPa : Hid (∀ W, Below w.heap.size w W → Calls Tryz.prog 7 #[.string (txtB R)] W fun e w' => ∃ A n c, e = .returned (.tuple #[.slice A n c, .int .i64 0]) ∧ Got R A n w' ∧ Below W.heap.size W w') := Lib.hid fun W hW =>
        parse_yes W (ht.below hW) (hE.below hW) R hIs.1 (txtB R) rfl hsz
      have HTx : Hid (∀ W, Below w.heap.size w W → Calls Tryz.prog 8 #[.slice Aa N ca] W fun e w' => e = .returned (.string (txtB R)) ∧ Below W.heap.size W w') := Lib.hid fun W hW => by
        rw [hR]
        exact text_any La N ca Aa W ((za.below hW).mono hW.size) (by omega) xa
      have HOf : Hid (∀ W, Below w.heap.size w W → Calls Tryz.prog 10 #[.slice Aa N ca] W fun e w' => ∃ A n c, e = .returned (.slice A n c) ∧ Got R A n w' ∧ Below W.heap.size W w') := Lib.hid fun W hW => by
        refine (of_c La N ca Aa W ((za.below hW).mono hW.size) (by omega) xa).mono fun e w' ⟨⟨A, n, c, he, h1, _, h3, _⟩, hb⟩ => ?_
        rw [← hR] at h1
        exact ⟨A, n, c, he, ⟨h1, by omega⟩, hb⟩
      have HT := Lib.hid (show ∀ W, Below w.heap.size w W → Tab W from fun W h => ht.below h)
      have HEn := Lib.hid (show ∀ W, Below w.heap.size w W → EnvL W from fun W h => hE.below h)
      have hbb : ((txtB R).toList == (txtB R).toList) = true := by rw [str_eq]; simp
      clear za hIs hlen hsz hR ht hE ka
      by_cases hS : ∃ R2, SepL (-1) R2 ∧ txtL R2 = S.data.toList
      · obtain ⟨R2, hR2, hS⟩ := hS
        have HP2 : Hid (∀ W, Below w.heap.size w W → Calls Tryz.prog 7 #[.string S] W fun e w' => ∃ A n c, e = .returned (.tuple #[.slice A n c, .int .i64 0]) ∧ Got R2 A n w' ∧ Below W.heap.size W w') := Lib.hid fun W hW =>
          parse_yes W (HT.out W hW) (HEn.out W hW) R2 hR2 S hS (by omega)
        have HRf : Hid (∀ W, Calls Tryz.prog 11 #[.string S] W fun e w' => ∃ A n c, e = .returned (.tuple #[.slice A n c, .bool true]) ∧ Got R2 A n w' ∧ Below W.heap.size W w') := Lib.hid fun W => ref_yes W R2 hR2 S hS (by omega)
        have HF2 : Hid (∀ W A n c, Below w.heap.size w W → Got R2 A n W → Calls Tryz.prog 6 #[.slice A n c] W fun e w' => e = .returned (.string (txtB R2)) ∧ Below W.heap.size W w') := Lib.hid fun W A n c hW hg =>
          fmt_ok R2 n c A W (HT.out W hW) hg.1 hg.2 hR2
        have hb2 : ((txtB R2).toList == S.toList) = true := by rw [str_eq, txtB_list, hS]; simp
        clear hS hR2
        go_enter Tryz.func3, Tryz.ntmps3
        go_wp2_with (first
          | (go_at_call 4; ((with_reducible refine (HAw.out).mono ?_); rintro e w1 ⟨rfl, b1⟩))
          | (go_at_call 5; ((with_reducible refine (HFew.out _).mono ?_); rintro e w2 ⟨rfl, h2⟩; have b2 := b1.trans (h2.mono b1.size)))
          | (go_at_call 6; ((with_reducible refine (HFmt.out _ b2).mono ?_); rintro e w3 ⟨rfl, h3⟩; have b3 := b2.trans (h3.mono b2.size)))
          | (go_at_call 7; ((with_reducible refine (HPa.out _ b3).mono ?_); rintro e w4 ⟨A4, n4, c4, rfl, g4, h4⟩; have b4 := b3.trans (h4.mono b3.size); have G4 := Lib.hid g4; clear g4))
          | (go_at_call 8; ((with_reducible refine (HTx.out _ b4).mono ?_); rintro e w5 ⟨rfl, h5⟩; have b5 := b4.trans (h5.mono b4.size)))
          | (go_at_call 10; ((with_reducible refine (HOf.out _ b5).mono ?_); rintro e w6 ⟨A6, n6, c6, rfl, g6, h6⟩; have b6 := b5.trans (h6.mono b5.size); have G6 := Lib.hid g6; clear g6; have G46 := Lib.hid ((G4.out.later h5).later h6)))
          | (go_at_call 9; ((with_reducible refine (same_got _ R _ _ _ _ _ _ G46.out G6.out).mono ?_); rintro e w7 ⟨rfl, h7⟩; have b7 := b6.trans (h7.mono b6.size)))
          | (go_at_call 7; ((with_reducible refine (HP2.out _ b7).mono ?_); rintro e w8 ⟨A8, n8, c8, rfl, g8, h8⟩; have b8 := b7.trans (h8.mono b7.size); have G8 := Lib.hid g8; clear g8))
          | (go_at_call 11; ((with_reducible refine (HRf.out _).mono ?_); rintro e w9 ⟨A9, n9, c9, rfl, g9, h9⟩; have b9 := b8.trans (h9.mono b8.size); have G9 := Lib.hid g9; clear g9; have G89 := Lib.hid (G8.out.later h9)))
          | (go_at_call 9; ((with_reducible refine (same_got _ R2 _ _ _ _ _ _ G89.out G9.out).mono ?_); rintro e w10 ⟨rfl, h10⟩; have b10 := b9.trans (h10.mono b9.size); have GA := Lib.hid (G89.out.later h10)))
          | (go_at_call 6; ((with_reducible refine (HF2.out _ _ _ _ b10 GA.out).mono ?_); rintro e w11 ⟨rfl, h11⟩; have b11 := b10.trans (h11.mono b10.size))))
        go_ret
        exact ⟨ret_bool (by first | rfl | simp [hb2]), b11⟩
      · have hS' : ∀ R2, SepL (-1) R2 → txtL R2 ≠ S.data.toList := fun R2 h1 h2 => hS ⟨R2, h1, h2⟩
        have HP2 : Hid (∀ W, Below w.heap.size w W → Calls Tryz.prog 7 #[.string S] W fun e w' => e = .returned (.tuple #[.slice none 0 0, .int .i64 2]) ∧ Below W.heap.size W w') := Lib.hid fun W hW =>
          parse_none W (HT.out W hW) (HEn.out W hW) S hS' (by omega)
        have HRf : Hid (∀ W, Calls Tryz.prog 11 #[.string S] W fun e w' => e = .returned (.tuple #[.slice none 0 0, .bool false]) ∧ Below W.heap.size W w') := Lib.hid fun W => ref_none W S hS' (by omega)
        clear hS hS'
        go_enter Tryz.func3, Tryz.ntmps3
        go_wp2_with (first
          | (go_at_call 4; ((with_reducible refine (HAw.out).mono ?_); rintro e w1 ⟨rfl, b1⟩))
          | (go_at_call 5; ((with_reducible refine (HFew.out _).mono ?_); rintro e w2 ⟨rfl, h2⟩; have b2 := b1.trans (h2.mono b1.size)))
          | (go_at_call 6; ((with_reducible refine (HFmt.out _ b2).mono ?_); rintro e w3 ⟨rfl, h3⟩; have b3 := b2.trans (h3.mono b2.size)))
          | (go_at_call 7; ((with_reducible refine (HPa.out _ b3).mono ?_); rintro e w4 ⟨A4, n4, c4, rfl, g4, h4⟩; have b4 := b3.trans (h4.mono b3.size); have G4 := Lib.hid g4; clear g4))
          | (go_at_call 8; ((with_reducible refine (HTx.out _ b4).mono ?_); rintro e w5 ⟨rfl, h5⟩; have b5 := b4.trans (h5.mono b4.size)))
          | (go_at_call 10; ((with_reducible refine (HOf.out _ b5).mono ?_); rintro e w6 ⟨A6, n6, c6, rfl, g6, h6⟩; have b6 := b5.trans (h6.mono b5.size); have G6 := Lib.hid g6; clear g6; have G46 := Lib.hid ((G4.out.later h5).later h6)))
          | (go_at_call 9; ((with_reducible refine (same_got _ R _ _ _ _ _ _ G46.out G6.out).mono ?_); rintro e w7 ⟨rfl, h7⟩; have b7 := b6.trans (h7.mono b6.size)))
          | (go_at_call 7; ((with_reducible refine (HP2.out _ b7).mono ?_); rintro e w8 ⟨rfl, h8⟩; have b8 := b7.trans (h8.mono b7.size)))
          | (go_at_call 11; ((with_reducible refine (HRf.out _).mono ?_); rintro e w9 ⟨rfl, h9⟩; have b9 := b8.trans (h9.mono b8.size))))
        go_ret
        exact ⟨ret_bool (by first | rfl | simp), b9⟩
    · clear za ht hE
      go_enter Tryz.func3, Tryz.ntmps3
      go_wp2_with (first
        | (go_at_call 4; ((with_reducible refine (HAw.out).mono ?_); rintro e w1 ⟨rfl, b1⟩))
        | (go_at_call 5; ((with_reducible refine (HFew.out _).mono ?_); rintro e w2 ⟨rfl, h2⟩; have b2 := b1.trans (h2.mono b1.size))))
      go_ret
      exact ⟨rfl, b2⟩
  · have HFew : Hid (∀ W, Calls Tryz.prog 5 #[.slice (some ⟨W.heap.size, 0, none⟩) 1 1] (W.alloc (.cells #[.slice Aa N ca] 22)) fun e w' => e = .returned (.bool false) ∧ Below W.heap.size W w') := Lib.hid fun W => by
      have h := few1 N ca Aa W (by omega)
      rw [decide_eq_false h60] at h
      exact h
    clear za ht hE
    go_enter Tryz.func3, Tryz.ntmps3
    go_wp2_with (first
      | (go_at_call 4; ((with_reducible refine (HAw.out).mono ?_); rintro e w1 ⟨rfl, b1⟩))
      | (go_at_call 5; ((with_reducible refine (HFew.out _).mono ?_); rintro e w2 ⟨rfl, h2⟩; have b2 := b1.trans (h2.mono b1.size))))
    go_ret
    exact ⟨rfl, b2⟩
end Go.Proofs.YtplphinaeikpmaaGreatDoor
