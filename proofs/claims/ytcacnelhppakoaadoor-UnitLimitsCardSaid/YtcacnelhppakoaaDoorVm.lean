/-
  UnitLimits returns true: which of the trees are valid; from plain values to the law's walk.
-/
import Derived.Test.YtcacnelhppakoaaDoorVl
namespace Go.Proofs.YtcacnelhppakoaaDoor.Pu
open Go Go.Pv
open Lab Lcs Go.Proofs.YtcacnelhppakoaaDoor
theorem alls_one (u : Ut) : Ut.alls [u] = u.all := by simp [Ut.alls]
theorem chain_all {f : Ut → Bool} (h : ∀ m, f (chain m) = true) : ∀ n, (chain n).all.all f = true
  | 0 => by
    show (Ut.mk .zero 3 ⟨#[49]⟩ [] [] []).all.all f = true
    rw [all_mk]
    simp only [Ut.alls, List.all_cons, List.all_nil, Bool.and_true]
    exact h 0
  | n + 1 => by
    show (Ut.mk .zero 3 ⟨#[49]⟩ [] [] [chain n]).all.all f = true
    rw [all_mk, alls_one]
    simp only [List.all_cons, chain_all h n, Bool.and_true]
    exact h (n + 1)
theorem chain_count : ∀ n, (chain n).count = n + 1
  | 0 => by show (Ut.mk .zero 3 ⟨#[49]⟩ [] [] []).count = _; rw [count_mk]; simp [Ut.counts]
  | n + 1 => by show (Ut.mk .zero 3 ⟨#[49]⟩ [] [] [chain n]).count = _; rw [count_mk, counts_one, chain_count n]; omega
theorem chain_depth : ∀ n, (chain n).depth = n
  | 0 => by show (Ut.mk .zero 3 ⟨#[49]⟩ [] [] []).depth = _; rw [depth_mk]; simp [Ut.depths]
  | n + 1 => by show (Ut.mk .zero 3 ⟨#[49]⟩ [] [] [chain n]).depth = _; rw [depth_mk, depths_one, chain_depth n]; omega
theorem alone_mk (id : Trip) (kind : Int) (label : Str) (head words : List Wd) (kids : List Ut) (hk : kind ≠ 0) : aloneB (.mk id kind label head words kids) = (decide (kids.length ≤ 64) && (decide (1 ≤ kind ∧ kind ≤ 7) && mayL label.data.toList && rowB head && rowB words)) := by
  show (decide (kids.length ≤ 64) && (if kind = 0 then _ else _)) = _
  rw [if_neg hk]
theorem lab1 : mayL (⟨#[49]⟩ : ByteArray).data.toList = true := by decide +kernel
theorem row0 : rowB [] = true := by decide +kernel
theorem chain_alone : ∀ m, aloneB (chain m) = true
  | 0 => by show aloneB (.mk .zero 3 ⟨#[49]⟩ [] [] []) = true; decide +kernel
  | m + 1 => by
    show aloneB (.mk .zero 3 ⟨#[49]⟩ [] [] [chain m]) = true
    rw [alone_mk _ _ _ _ _ _ (by decide), lab1, row0, List.length_singleton]
    rfl
theorem chain_kind : ∀ m, (chain m).kind = 3
  | 0 => rfl
  | _ + 1 => rfl
theorem chain_kids : ∀ m, kidsB (chain m) = true
  | 0 => by show kidsB (.mk .zero 3 ⟨#[49]⟩ [] [] []) = true; decide +kernel
  | m + 1 => by
    show kidsB (.mk .zero 3 ⟨#[49]⟩ [] [] [chain m]) = true
    unfold kidsB
    simp only [List.all_cons, List.all_nil, chain_kind, Bool.and_true, List.map_cons, List.map_nil]
    simp [nestsB]
theorem chain_id : ∀ m, (chain m).id = .zero
  | 0 => rfl
  | _ + 1 => rfl
theorem chain_valid (n : Nat) (hn : n ≤ 12) : validB (chain n) = decide (n ≤ 8) := by
  unfold validB idsB zeroIds
  rw [chain_count, chain_depth, chain_all chain_alone, chain_all chain_kids, chain_all (f := fun x => decide (x.id = .zero)) (fun m => by rw [chain_id]; exact decide_eq_true rfl), decide_eq_true (by omega : n + 1 ≤ 1024)]
  simp
theorem leaf_alls : ∀ {l : List Ut}, (∀ x ∈ l, x.kids = []) → Ut.alls l = l
  | [], _ => by simp [Ut.alls]
  | u :: l, h => by
    have h1 := h u List.mem_cons_self
    simp only [Ut.alls]
    rw [leaf_alls (fun x hx => h x (List.mem_cons_of_mem _ hx)), Ut.all_eq, h1]
    simp [Ut.alls]
theorem leaf_counts : ∀ {l : List Ut}, (∀ x ∈ l, x.kids = []) → Ut.counts l = l.length
  | [], _ => by simp [Ut.counts]
  | u :: l, h => by
    have h1 := h u List.mem_cons_self
    simp only [Ut.counts, List.length_cons]
    rw [leaf_counts (fun x hx => h x (List.mem_cons_of_mem _ hx)), Ut.count_eq, h1]
    simp [Ut.counts]
    omega
theorem leaf_depths : ∀ {l : List Ut}, (∀ x ∈ l, x.kids = []) → Ut.depths l ≤ 1
  | [], _ => by simp [Ut.depths]
  | u :: l, h => by
    have h1 := h u List.mem_cons_self
    have h2 := leaf_depths (l := l) (fun x hx => h x (List.mem_cons_of_mem _ hx))
    have h3 : u.depth = 0 := by
      cases u with
      | mk id kind label head words kids =>
        have : kids = [] := h1
        subst this
        rw [depth_mk]
        simp [Ut.depths]
    simp only [Ut.depths]
    omega
theorem notes_leaf (n : Nat) : ∀ x ∈ (List.range n).map note, x.kids = [] := fun x hx => by
  obtain ⟨i, _, rfl⟩ := List.mem_map.1 hx
  rfl
theorem lab_inj {i j : Nat} (hi : i < 80) (hj : j < 80) (h : lab i = lab j) : i = j := by
  unfold lab at h
  simp only [ByteArray.mk.injEq] at h
  have h' := congrArg Array.toList h
  simp only [List.cons.injEq, and_true] at h'
  have h1 := congrArg UInt8.toNat h'.1
  have h2 := congrArg UInt8.toNat h'.2
  rw [UInt8.toNat_ofNat', UInt8.toNat_ofNat'] at h1 h2
  have e : (2 : Nat) ^ 8 = 256 := rfl
  rw [e] at h1 h2
  omega
theorem note_alone : ∀ i, i < 80 → aloneB (note i) = true := by decide +kernel
theorem note_kids (i : Nat) : kidsB (note i) = true := by
  show kidsB (.mk .zero 7 (lab i) [] [] []) = true
  unfold kidsB
  simp
theorem wide_all (n : Nat) : (wide n).all = wide n :: (List.range n).map note := by
  show (Ut.mk .zero 2 ⟨#[49]⟩ [] [] ((List.range n).map note)).all = _
  rw [all_mk, leaf_alls (notes_leaf n)]
  rfl
theorem wide_alone (n : Nat) : aloneB (wide n) = decide (n ≤ 64) := by
  show aloneB (.mk .zero 2 ⟨#[49]⟩ [] [] ((List.range n).map note)) = _
  rw [alone_mk _ _ _ _ _ _ (by decide), lab1, row0, List.length_map, List.length_range]
  simp
theorem wide_kids (n : Nat) (hn : n ≤ 80) : kidsB (wide n) = true := by
  show kidsB (.mk .zero 2 ⟨#[49]⟩ [] [] ((List.range n).map note)) = true
  unfold kidsB
  rw [Bool.and_eq_true]
  constructor
  · refine List.all_eq_true.2 fun x hx => ?_
    obtain ⟨i, _, rfl⟩ := List.mem_map.1 hx
    show nestsB 2 7 = true
    decide +kernel
  · rw [decide_eq_true_eq, List.map_map]
    unfold List.Nodup
    rw [List.pairwise_map]
    refine List.Pairwise.imp_of_mem ?_ (List.pairwise_lt_range (n := n))
    intro a b ha hb hlt he
    have ha := List.mem_range.1 ha
    have hb := List.mem_range.1 hb
    have : lab a = lab b := congrArg Prod.snd he
    have := lab_inj (by omega) (by omega) this
    omega
theorem wide_valid (n : Nat) (hn : n ≤ 80) : validB (wide n) = decide (n ≤ 64) := by
  have hc : (wide n).count = 1 + n := by
    show (Ut.mk .zero 2 ⟨#[49]⟩ [] [] ((List.range n).map note)).count = _
    rw [count_mk, leaf_counts (notes_leaf n), List.length_map, List.length_range]
  have hd : (wide n).depth ≤ 1 := by
    show (Ut.mk .zero 2 ⟨#[49]⟩ [] [] ((List.range n).map note)).depth ≤ 1
    rw [depth_mk]
    exact leaf_depths (notes_leaf n)
  have h1 : (wide n).all.all aloneB = decide (n ≤ 64) := by
    rw [wide_all, List.all_cons, wide_alone]
    have : ((List.range n).map note).all aloneB = true := List.all_eq_true.2 fun x hx => by
      obtain ⟨i, hi, rfl⟩ := List.mem_map.1 hx
      exact note_alone i (by have := List.mem_range.1 hi; omega)
    rw [this, Bool.and_true]
  have h2 : (wide n).all.all kidsB = true := by
    rw [wide_all, List.all_cons, wide_kids n hn, Bool.true_and]
    exact List.all_eq_true.2 fun x hx => by
      obtain ⟨i, hi, rfl⟩ := List.mem_map.1 hx
      exact note_kids i
  have h3 : zeroIds (wide n) = true := by
    unfold zeroIds
    rw [wide_all]
    refine List.all_eq_true.2 fun x hx => ?_
    rcases List.mem_cons.1 hx with rfl | hx
    · exact decide_eq_true rfl
    · obtain ⟨i, hi, rfl⟩ := List.mem_map.1 hx
      exact decide_eq_true rfl
  unfold validB idsB
  rw [h1, h2, h3, decide_eq_true (by omega : (wide n).count ≤ 1024), decide_eq_true (by omega : (wide n).depth ≤ 8)]
  simp
theorem long_all (n : Nat) : (long n).all = [long n] := by
  show (Ut.mk .zero 7 ⟨#[49]⟩ [] (List.replicate n wx) []).all = _
  rw [all_mk]
  simp [Ut.alls, long]
theorem long_alone (n : Nat) : aloneB (long n) = decide (n ≤ 256) := by
  show aloneB (.mk .zero 7 ⟨#[49]⟩ [] (List.replicate n wx) []) = _
  have h1 : rowB (List.replicate n wx) = decide (n ≤ 256) := by
    unfold rowB mayB textsOf
    rw [List.map_replicate, List.length_replicate]
    have : (List.replicate n wx.text).all wordB = true := List.all_eq_true.2 fun x hx => by
      rw [List.eq_of_mem_replicate hx]
      decide +kernel
    rw [this, Bool.and_true]
  rw [alone_mk _ _ _ _ _ _ (by decide), lab1, row0, h1]
  simp
theorem long_valid (n : Nat) : validB (long n) = decide (n ≤ 256) := by
  have hc : (long n).count = 1 := by
    show (Ut.mk .zero 7 ⟨#[49]⟩ [] (List.replicate n wx) []).count = _
    rw [count_mk]
    simp [Ut.counts]
  have hd : (long n).depth = 0 := by
    show (Ut.mk .zero 7 ⟨#[49]⟩ [] (List.replicate n wx) []).depth = _
    rw [depth_mk]
    simp [Ut.depths]
  unfold validB idsB zeroIds
  rw [hc, hd, long_all]
  simp only [List.all_cons, List.all_nil, Bool.and_true, long_alone]
  have h1 : kidsB (long n) = true := by
    show kidsB (.mk .zero 7 ⟨#[49]⟩ [] (List.replicate n wx) []) = true
    unfold kidsB
    simp
  have h2 : decide ((long n).id = .zero) = true := decide_eq_true rfl
  rw [h1, h2]
  simp
theorem ok_zero {k : Int} (h : 0 ≤ k ∧ k ≤ 7) : (Trip.zero).ok ∧ inI k := by
  refine ⟨⟨?_, ?_, ?_⟩, ?_⟩ <;> (unfold inI; first | omega | (simp only [Trip.zero]; omega))
theorem all_ok {f : Ut → Prop} {u : Ut} (l : List Ut) (h : u.all = l) (hl : ∀ x ∈ l, f x) : ∀ x ∈ u.all, f x := h ▸ hl
def fineU (x : Ut) : Bool := decide (x.id = .zero) && decide (0 ≤ x.kind ∧ x.kind ≤ 7) && decide (x.label.size ≤ 100) && decide (x.head.length ≤ 1000) && decide (x.words.length ≤ 1000)
theorem fine_mk (kind : Int) (label : Str) (head words : List Wd) (kids : List Ut) (hk : 0 ≤ kind ∧ kind ≤ 7) (hl : label.size ≤ 100) (hh : head.length ≤ 1000) (hw : words.length ≤ 1000) : fineU (.mk .zero kind label head words kids) = true := by
  show (decide (Trip.zero = .zero) && decide (0 ≤ kind ∧ kind ≤ 7) && decide (label.size ≤ 100) && decide (head.length ≤ 1000) && decide (words.length ≤ 1000)) = true
  rw [decide_eq_true rfl, decide_eq_true hk, decide_eq_true hl, decide_eq_true hh, decide_eq_true hw]
  rfl
theorem size1 : (⟨#[49]⟩ : ByteArray).size ≤ 100 := by decide
theorem fine_ok {u : Ut} (h : u.all.all fineU = true) : okU u := fun x hx => by
  have := List.all_eq_true.1 h x hx
  simp only [fineU, Bool.and_eq_true, decide_eq_true_eq] at this
  rw [this.1.1.1.1]
  exact ok_zero this.1.1.1.2
theorem fine_tame {u : Ut} (h : u.all.all fineU = true) (hc : u.count ≤ 1000) : Tame u := ⟨by omega, fun x hx => by
  have := List.all_eq_true.1 h x hx
  simp only [fineU, Bool.and_eq_true, decide_eq_true_eq] at this
  unfold TameU
  omega⟩
theorem fine_note (i : Nat) : fineU (note i) = true := fine_mk 7 (lab i) [] [] [] (by omega) (by show (2 : Nat) ≤ 100; omega) (by simp) (by simp)
theorem fine_chain : ∀ m, fineU (chain m) = true
  | 0 => fine_mk 3 ⟨#[49]⟩ [] [] [] (by omega) size1 (by simp) (by simp)
  | m + 1 => fine_mk 3 ⟨#[49]⟩ [] [] [chain m] (by omega) size1 (by simp) (by simp)
theorem chain_pc (n : Nat) (hn : n ≤ 12) : PC Tryd.prog envU 19 [uv (chain n)] [.bool (decide (n ≤ 8))] := by
  have h := chain_all fine_chain n
  have := valid_pc (chain n) (fine_ok h) (fine_tame h (by rw [chain_count]; omega))
  rw [chain_valid n hn] at this
  exact this
theorem chain_depth_pc (n : Nat) (hn : n ≤ 12) : PC Tryd.prog envU 33 [uv (chain n)] [.int .i64 n] := by
  have := depth_pc envU rfl (n + 1) (chain n) (by rw [chain_count]; exact Nat.le_refl _) (by rw [chain_depth]; omega) (by omega)
  rw [chain_depth] at this
  exact this
theorem wide_pc (n : Nat) (hn : n ≤ 80) : PC Tryd.prog envU 19 [uv (wide n)] [.bool (decide (n ≤ 64))] := by
  have h : (wide n).all.all fineU = true := by
    rw [wide_all]
    refine List.all_eq_true.2 fun x hx => ?_
    rcases List.mem_cons.1 hx with rfl | hx
    · exact fine_mk 2 ⟨#[49]⟩ [] [] _ (by omega) size1 (by simp) (by simp)
    · obtain ⟨i, hi, rfl⟩ := List.mem_map.1 hx
      exact fine_note i
  have := valid_pc (wide n) (fine_ok h) (fine_tame h (by
    show (Ut.mk .zero 2 ⟨#[49]⟩ [] [] ((List.range n).map note)).count ≤ _
    rw [count_mk, leaf_counts (notes_leaf n), List.length_map, List.length_range]
    omega))
  rw [wide_valid n hn] at this
  exact this
theorem long_pc (n : Nat) (hn : n ≤ 300) : PC Tryd.prog envU 19 [uv (long n)] [.bool (decide (n ≤ 256))] := by
  have h : (long n).all.all fineU = true := by
    rw [long_all]
    simp only [List.all_cons, List.all_nil, Bool.and_true]
    exact fine_mk 7 ⟨#[49]⟩ [] _ [] (by omega) size1 (by simp) (by rw [List.length_replicate]; omega)
  have := valid_pc (long n) (fine_ok h) (fine_tame h (by
    show (Ut.mk .zero 7 ⟨#[49]⟩ [] (List.replicate n wx) []).count ≤ _
    rw [count_mk]
    simp [Ut.counts]))
  rw [long_valid n] at this
  exact this
end Go.Proofs.YtcacnelhppakoaaDoor.Pu
namespace Go.Proofs.YtcacnelhppakoaaDoor
open Go Go.Pv Go.RowKit
theorem lawLimits {w : World} (a b c : Int) (hTab : Tab w ∧ TabN w ∧ TabK w) :
    Calls Tryd.prog 8 #[.int .i64 a, .int .i64 b, .int .i64 c] w fun e w' => e = .returned (.bool true) ∧ Below w.heap.size w w' := by
  have h := (Pu.limits_pc Pu.envU rfl a b c Pu.chain_pc Pu.chain_depth_pc Pu.wide_pc Pu.long_pc).2 (fun b => b < w.heap.size) w [.int .i64 a, .int .i64 b, .int .i64 c] (fun _ h => h) (fun _ _ h => by cases h) hTab ?_
  · refine h.mono ?_
    rintro e w' ⟨x, Q', rfl, hb, _, _, hr⟩
    refine ⟨?_, hb⟩
    unfold RepRes RepI at hr
    rw [hr]
  · exact ⟨_, _, rfl, by unfold RepI; rfl, _, _, rfl, by unfold RepI; rfl, _, _, rfl, by unfold RepI; rfl, rfl⟩
end Go.Proofs.YtcacnelhppakoaaDoor
