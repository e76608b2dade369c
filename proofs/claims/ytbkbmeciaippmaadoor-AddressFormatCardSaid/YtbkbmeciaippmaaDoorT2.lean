/-
  strings.Fields of any text; Parse.
-/
import Derived.Shelf.Strings.FieldsAny
import Derived.Test.YtbkbmeciaippmaaDoorT1
import Derived.Test.YtbkbmeciaippmaaDoorShelf
namespace Go.Proofs.YtbkbmeciaippmaaDoor.Pa
open Go Go.Pv Go.Proofs.YtbkbmeciaippmaaDoor.Pu
set_option linter.unusedSimpArgs false
open Lab Lcs Go.Proofs.YtbkbmeciaippmaaDoor Go.RowKit Go.Lib Go.Shelf
set_option maxRecDepth 10000
set_option maxHeartbeats 16000000
theorem spans_len (s : Str) : ∀ (f pos : Nat) (st : Option Nat) (acc : List (Nat × Nat)), (spansFrom s f pos st acc).1.length ≤ acc.length + f
  | 0, _, _, acc => by simp [spansFrom]
  | f + 1, pos, st, acc => by
    unfold spansFrom
    split
    · split
      · cases st with
        | none => have := spans_len s f (pos + (Utf8.decode s pos).2) none acc; simp only; omega
        | some a => have := spans_len s f (pos + (Utf8.decode s pos).2) none (acc ++ [(a, pos)]); simp only [List.length_append, List.length_cons, List.length_nil] at this ⊢; omega
      · cases st with
        | none => have := spans_len s f (pos + (Utf8.decode s pos).2) (some pos) acc; simp only; omega
        | some a => have := spans_len s f (pos + (Utf8.decode s pos).2) (some a) acc; simp only; omega
    · simp
theorem go_len (s : Str) : (goFields s).length ≤ s.size + 1 := by
  unfold goFields spansOf closeSpans
  have := spans_len s s.size 0 none []
  rw [List.length_map]
  split
  · simp only [List.length_append, List.length_cons, List.length_nil] at this ⊢; omega
  · simp only [List.length_nil] at this; omega
theorem go_small {s w : Str} (h : w ∈ goFields s) : w.size ≤ s.size := by
  unfold goFields at h
  obtain ⟨p, _, rfl⟩ := List.mem_map.1 h
  rw [ByteArray.size_extract]
  omega
theorem go_words {s : Str} {q : List Stp} (h : mayA q = true) (e : s = mkB (joinB (wordsA q))) : goFields s = wordsA q := by
  apply map_inj
  rw [goFields_eq, e, mkB_list, fieldsD_ascii _ (ascii_words h)]
  conv => rhs; rw [← fields_words h]
  rw [List.map_map]
  exact (List.map_id' _).symm
theorem strs_repE {k : K} {n : Nat} {w : World} : ∀ {L : List ByteArray}, RepE k n w 1 ((sv L).map .imm) (L.map .string)
  | [] => by simp [sv, RepE]
  | a :: L => by
    simp only [sv, List.map_cons]
    unfold RepE
    exact ⟨.string a, _, rfl, rfl, fun u hu => by simp [Value.cells] at hu; subst hu; rfl, by rw [Rep_imm]; unfold RepI; rfl, by simpa [sv] using strs_repE (L := L)⟩
theorem gAs : Tryd.prog.globalNamed "strings.asciiSpace" = some (Tryd.lays157_ren.g 0) := by kernel_rfl
theorem tabS_below {w w' : World} (h : Lib.TabIs Tryd.prog w "strings.asciiSpace" .u8 Lib.asciiSpaceTab) (hb : Below w.heap.size w w') : Lib.TabIs Tryd.prog w' "strings.asciiSpace" .u8 Lib.asciiSpaceTab := by
  unfold Lib.TabIs World.var? at h ⊢
  rw [gAs] at h ⊢
  simp only [Option.bind_some] at h ⊢
  have hlt : Tryd.lays157_ren.g 0 < w.heap.size := by
    rcases Nat.lt_or_ge (Tryd.lays157_ren.g 0) w.heap.size with h' | h'
    · exact h'
    · rw [Array.getElem?_eq_none h'] at h; cases h
  rw [hb.block _ hlt]
  exact h
def envP : Env := ⟨fun _ => none, fun w => (Tab w ∧ TabK w) ∧ (Lib.TabIs Tryd.prog w "strings.asciiSpace" .u8 Lib.asciiSpaceTab ∧ Lib.WhiteTab (Tryd.lays157_ren.g 6) w), fun _ _ h hb => ⟨⟨h.1.1.below hb, h.1.2.below hb⟩, tabS_below h.2.1 hb, WhiteTab_below h.2.2 hb⟩⟩
theorem upP {f : FuncId} {args res : List IV} (h : PC Tryd.prog envU f args res) : PC Tryd.prog envP f args res := PC.up (X := envU) (Y := envP) (fun _ => rfl) (fun _ h => h.1) h
theorem fields_pcr (s : Str) (hs : s.size ≤ 1000000) : PCR Tryd.prog envP 92 [.str s] 9 1 (sv (goFields s)) := by
  refine ⟨enters_of Tryd.func92 rfl rfl, fun Q w vs hQ _ hR hvs => ?_⟩
  rw [one_str hvs]
  refine (Any.strings_Fields_any Tryd.lays157 (by kernel_rfl) (by kernel_rfl) gAs s w (by omega) hR.2.1 hR.2.2).mono ?_
  rintro e w' ⟨A, rfl, hA, hown, hb⟩
  have hv := goFields_values s
  have hc := goFields_count s
  rw [goFieldsP_space] at hv hc
  rw [← hv, ← hc] at hown
  have hlt : A < w'.heap.size := (hown.lt A rfl).2
  refine ⟨_, Q, _, rfl, hb, fun b h => h, fun b h => ⟨Or.inl h, Nat.lt_of_lt_of_le (hQ b h) hb.size⟩, ?_, strs_repE, fun b hb' => ?_⟩
  · rw [show (sv (goFields s)).length = (goFields s).length by simp [sv], ← hc]
    exact hown
  · have e : A = b := by
      have : some A = some b := hb'
      exact Option.some.inj this
    subst e
    exact ⟨fun h => absurd (hQ _ h) (by omega), hlt⟩
theorem readA_short : ∀ (n : Nat) {W : List Str}, W.length ≤ n → (∀ w ∈ W, w.size ≤ 1000000) → ∀ t ∈ readA W, shortS t
  | _, [], _, _, t, ht => by simp [readA] at ht
  | 0, w :: r, hn, _, _, _ => by simp at hn
  | n + 1, w :: r, hn, h, t, ht => by
    have hr := fun t ht => readA_short n (W := r) (by simp at hn; omega) (fun x hx => h x (List.mem_cons_of_mem _ hx)) t ht
    by_cases hz : kindN w = 0
    · rw [readA_zero hz] at ht
      rcases List.mem_cons.1 ht with rfl | ht
      · exact sh3
      · exact hr t ht
    · cases r with
      | nil =>
        rw [readA_last hz, List.mem_singleton] at ht
        subst ht
        exact sh3
      | cons x r =>
        rw [readA_two hz] at ht
        rcases List.mem_cons.1 ht with rfl | ht
        · exact h x (by simp)
        · exact readA_short n (W := r) (by simp at hn; omega) (fun y hy => h y (by simp [hy])) t ht
theorem parse_pc (s : Str) (hs : s.size ≤ 1000000) : PC Tryd.prog envP 47 [.str s] [.sl 2 (((refQ s).getD []).map spv), .int .i64 (if (refQ s).isSome = true then 0 else 2)] := by
  have hF := (fields_pcr s hs).pc
  have hgl := go_len s
  have hRs := upP (readSteps_pc (goFields s) (by omega))
  have hT := upP (format_pc (readA (goFields s)) (readA_short _ (Nat.le_refl _) fun w hw => Nat.le_trans (go_small hw) hs))
  cases hq : refQ s with
  | some p =>
    obtain ⟨h1, h2⟩ := refQ_read (W := goFields s) (fun q hm e => go_words hm e) hq
    rw [h2] at hT
    rw [h1] at hRs hT
    generalize goFields s = W at hF hRs
    show PC _ _ _ _ [.sl 2 (p.map spv), .int .i64 0]
    refine PC.of_va (T := tb0) eqs2_ok tb_ok rfl mixed Tryd.func47 rfl rfl (Nat.le_of_ble_eq_true rfl) ?_; intro Γ C WK LP fin h0 hW hC hB hR hLP hfin
    (try (conv => whnf)); (repeat ((first | (with_reducible refine Fork.T (fun hc => ?_) ?_); (exfalso; first | omega | (simp [eqC, cellsI, idv, idl] at hc; first | done | omega) | contradiction) | (with_reducible refine Fork.F (fun hc => ?_) ?_); (exfalso; first | omega | (simp [eqC, cellsI, idv, idl] at hc; first | done | omega) | contradiction) | (with_reducible refine Owe.mk ?_ ?_); (first | omega | (unfold most; omega) | decide +kernel | exact Nat.le_of_ble_eq_true rfl | assumption | (simp [most]; omega)) | (with_reducible intro z hz); (first | (replace hz := hz (by omega); subst hz) | subst hz)); (try (conv => whnf))))
    refine CallV.mk _ (hC _ _ _ (PCw.of (hF))) (fun js hjs => ?_); subst hjs
    (try (conv => whnf)); (repeat ((first | (with_reducible refine Fork.T (fun hc => ?_) ?_); (exfalso; first | omega | (simp [eqC, cellsI, idv, idl] at hc; first | done | omega) | contradiction) | (with_reducible refine Fork.F (fun hc => ?_) ?_); (exfalso; first | omega | (simp [eqC, cellsI, idv, idl] at hc; first | done | omega) | contradiction) | (with_reducible refine Owe.mk ?_ ?_); (first | omega | (unfold most; omega) | decide +kernel | exact Nat.le_of_ble_eq_true rfl | assumption | (simp [most]; omega)) | (with_reducible intro z hz); (first | (replace hz := hz (by omega); subst hz) | subst hz)); (try (conv => whnf))))
    refine CallV.mk _ (hC _ _ _ (PCw.of (hRs))) (fun js hjs => ?_); subst hjs
    (try (conv => whnf)); (repeat ((first | (with_reducible refine Fork.T (fun hc => ?_) ?_); (exfalso; first | omega | (simp [eqC, cellsI, idv, idl] at hc; first | done | omega) | contradiction) | (with_reducible refine Fork.F (fun hc => ?_) ?_); (exfalso; first | omega | (simp [eqC, cellsI, idv, idl] at hc; first | done | omega) | contradiction) | (with_reducible refine Owe.mk ?_ ?_); (first | omega | (unfold most; omega) | decide +kernel | exact Nat.le_of_ble_eq_true rfl | assumption | (simp [most]; omega)) | (with_reducible intro z hz); (first | (replace hz := hz (by omega); subst hz) | subst hz)); (try (conv => whnf))))
    refine CallV.mk _ (hC _ _ _ (PCw.of (hT))) (fun js hjs => ?_); subst hjs
    (try (conv => whnf)); (repeat ((first | (with_reducible refine Fork.T (fun hc => ?_) ?_); (exfalso; first | omega | (simp [eqC, cellsI, idv, idl] at hc; first | done | omega) | contradiction) | (with_reducible refine Fork.F (fun hc => ?_) ?_); (exfalso; first | omega | (simp [eqC, cellsI, idv, idl] at hc; first | done | omega) | contradiction) | (with_reducible refine Owe.mk ?_ ?_); (first | omega | (unfold most; omega) | decide +kernel | exact Nat.le_of_ble_eq_true rfl | assumption | (simp [most]; omega)) | (with_reducible intro z hz); (first | (replace hz := hz (by omega); subst hz) | subst hz)); (try (conv => whnf))))
    exact hfin _ (ILes.refl _)
  | none =>
    have h2 := refQ_none hq (p := readA (goFields s))
    generalize goFields s = W at hF hRs hT h2
    show PC _ _ _ _ [.sl 2 [], .int .i64 2]
    refine PC.of_va (T := tb0) eqs2_ok tb_ok rfl mixed Tryd.func47 rfl rfl (Nat.le_of_ble_eq_true rfl) ?_; intro Γ C WK LP fin h0 hW hC hB hR hLP hfin
    (try (conv => whnf)); (repeat ((first | (with_reducible refine Fork.T (fun hc => ?_) ?_); (exfalso; first | omega | (simp [eqC, cellsI, idv, idl] at hc; first | done | omega) | contradiction) | (with_reducible refine Fork.F (fun hc => ?_) ?_); (exfalso; first | omega | (simp [eqC, cellsI, idv, idl] at hc; first | done | omega) | contradiction) | (with_reducible refine Owe.mk ?_ ?_); (first | omega | (unfold most; omega) | decide +kernel | exact Nat.le_of_ble_eq_true rfl | assumption | (simp [most]; omega)) | (with_reducible intro z hz); (first | (replace hz := hz (by omega); subst hz) | subst hz)); (try (conv => whnf))))
    refine CallV.mk _ (hC _ _ _ (PCw.of (hF))) (fun js hjs => ?_); subst hjs
    (try (conv => whnf)); (repeat ((first | (with_reducible refine Fork.T (fun hc => ?_) ?_); (exfalso; first | omega | (simp [eqC, cellsI, idv, idl] at hc; first | done | omega) | contradiction) | (with_reducible refine Fork.F (fun hc => ?_) ?_); (exfalso; first | omega | (simp [eqC, cellsI, idv, idl] at hc; first | done | omega) | contradiction) | (with_reducible refine Owe.mk ?_ ?_); (first | omega | (unfold most; omega) | decide +kernel | exact Nat.le_of_ble_eq_true rfl | assumption | (simp [most]; omega)) | (with_reducible intro z hz); (first | (replace hz := hz (by omega); subst hz) | subst hz)); (try (conv => whnf))))
    refine CallV.mk _ (hC _ _ _ (PCw.of (hRs))) (fun js hjs => ?_); subst hjs
    (try (conv => whnf)); (repeat ((first | (with_reducible refine Fork.T (fun hc => ?_) ?_); (exfalso; first | omega | (simp [eqC, cellsI, idv, idl] at hc; first | done | omega) | contradiction) | (with_reducible refine Fork.F (fun hc => ?_) ?_); (exfalso; first | omega | (simp [eqC, cellsI, idv, idl] at hc; first | done | omega) | contradiction) | (with_reducible refine Owe.mk ?_ ?_); (first | omega | (unfold most; omega) | decide +kernel | exact Nat.le_of_ble_eq_true rfl | assumption | (simp [most]; omega)) | (with_reducible intro z hz); (first | (replace hz := hz (by omega); subst hz) | subst hz)); (try (conv => whnf))))
    refine CallV.mk _ (hC _ _ _ (PCw.of (hT))) (fun js hjs => ?_); subst hjs
    (try (conv => whnf)); (repeat ((first | (with_reducible refine Fork.T (fun hc => ?_) ?_); (exfalso; first | omega | (simp [eqC, cellsI, idv, idl] at hc; first | done | omega) | contradiction) | (with_reducible refine Fork.F (fun hc => ?_) ?_); (exfalso; first | omega | (simp [eqC, cellsI, idv, idl] at hc; first | done | omega) | contradiction) | (with_reducible refine Owe.mk ?_ ?_); (first | omega | (unfold most; omega) | decide +kernel | exact Nat.le_of_ble_eq_true rfl | assumption | (simp [most]; omega)) | (with_reducible intro z hz); (first | (replace hz := hz (by omega); subst hz) | subst hz)); (try (conv => whnf))))
    exact hfin _ ⟨_, _, rfl, ILe.nil _, ILes.refl _⟩
end Go.Proofs.YtbkbmeciaippmaaDoor.Pa
