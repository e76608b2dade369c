/-
  The contract of parseSpan at every text.
-/
import Derived.Lib.AtoiErrMem
import Derived.Lib.SmallJoins
import Derived.Test.YtplphinaeikpmaaGreatDoorPsp
namespace Go.Proofs.YtplphinaeikpmaaGreatDoor
open Go.RowKit (wrap32 wrap64 intOf Hid Below)
open Spans

/-- What the library's own variables hold: some number, and two errors. -/
def EnvL (w : World) : Prop := (∃ m, w.cell? ⟨0, 0, none⟩ = some (.int .i64 m)) ∧ (∃ t p, w.cell? ⟨1, 0, none⟩ = some (.iface t p)) ∧ (∃ t p, w.cell? ⟨2, 0, none⟩ = some (.iface t p))
theorem EnvL.below {w w' : World} (h : EnvL w) (hb : Below w.heap.size w w') : EnvL w' := by
  obtain ⟨⟨m, hm⟩, ⟨t, p, hp⟩, ⟨u, q, hq⟩⟩ := h
  exact ⟨⟨m, (hb.cell (World.block_lt_of_cell? _ _ hm)).trans hm⟩, ⟨t, p, (hb.cell (World.block_lt_of_cell? _ _ hp)).trans hp⟩, ⟨u, q, (hb.cell (World.block_lt_of_cell? _ _ hq)).trans hq⟩⟩
/-- What Atoi finds. -/
def atoiO (l : Bs) : Option Int := match Lib.atoiAll l with
  | .ok v => some v
  | _ => none
theorem atoi_any (s : ByteArray) (w : World) (hE : EnvL w) (hs : s.size ≤ 1000000) :
    Calls Tryz.prog 41 #[.string s] w fun e w' => AtR (atoiO s.data.toList) e ∧ Below w.heap.size w w' := by
  unfold atoiO
  cases h : Lib.atoiAll s.data.toList with
  | ok v =>
    refine (Tryz.strconv_Atoi_ok s (by omega) v h w).mono fun e w' ⟨he, hw⟩ => ⟨he, ?_⟩
    rcases hw with rfl | ⟨t, rfl⟩
    · exact Below.refl _ _
    · exact Lib.bytesWorld_below _ _ _
  | range =>
    obtain ⟨_, _, ⟨t, p, hp⟩⟩ := hE
    exact (Tryz.strconv_Atoi_range s (by omega) h _ w hp (Or.inr ⟨_, _, rfl⟩)).mono fun e w' ⟨N, he, _, _, hb⟩ => ⟨⟨_, N, he⟩, hb⟩
  | _ =>
    obtain ⟨_, ⟨t, p, hp⟩, _⟩ := hE
    exact (Any.strconv_Atoi_syntax Tryz.laysC172 s (by omega) h _ w hp (Or.inr ⟨_, _, rfl⟩)).mono fun e w' ⟨N, he, _, _, hb⟩ => ⟨⟨_, N, he⟩, hb⟩
theorem pspan_eq (p : Bs) : pspan p = psR (Lib.hasSuffix p [43]) (Lib.cut (Lib.trimSuffix p [43]) [45]).2.2 (atoiO (Lib.cut (Lib.trimSuffix p [43]) [45]).1) (atoiO (Lib.cut (Lib.trimSuffix p [43]) [45]).2.1) := by
  unfold pspan psR atoiO
  dsimp only
  cases Lib.atoiAll (Lib.cut (Lib.trimSuffix p [43]) [45]).1 <;> cases Lib.atoiAll (Lib.cut (Lib.trimSuffix p [43]) [45]).2.1 <;> rfl
theorem arr_list (l : Bs) : (⟨l.toArray⟩ : ByteArray).data.toList = l := rfl
theorem arr_size (l : Bs) : (⟨l.toArray⟩ : ByteArray).size = l.length := by simp [ByteArray.size]
theorem cut_len (l p : Bs) : (Lib.cut l p).1.length ≤ l.length ∧ (Lib.cut l p).2.1.length ≤ l.length := by
  unfold Lib.cut
  split
  · simp only [List.length_take, List.length_drop]; omega
  · simp
/-- parseSpan. -/
theorem parseSpan_any (s : ByteArray) (w : World) (hE : EnvL w) (hs : s.size ≤ 1000000) :
    Calls Tryz.prog 20 #[.string s] w fun e w' => e = .returned (psV (pspan s.data.toList)) ∧ Below w.heap.size w w' := by
  rw [pspan_eq]
  have hl : (Lib.trimSuffix s.data.toList [43]).length ≤ 1000000 := by
    have := Lib.trimSuffix_le s.data.toList [43]
    have e : s.data.toList.length = s.size := by simp
    omega
  have hc := cut_len (Lib.trimSuffix s.data.toList [43]) [45]
  obtain ⟨p, hp⟩ : ∃ p, p = Lib.trimSuffix s.data.toList [43] := ⟨_, rfl⟩
  have h1 : ∀ W, Below w.heap.size w W → Calls Tryz.prog 39 #[.string s, .string ⟨#[43]⟩] W fun e w' => e = .returned (.tuple #[.string ⟨p.toArray⟩, .bool (Lib.hasSuffix s.data.toList [43])]) ∧ Below W.heap.size W w' := fun W _ => by
    rw [hp]
    exact (Tryz.strings_CutSuffix s ⟨#[43]⟩ W (by omega)).mono fun e w' ⟨he, hw⟩ => ⟨he, by rw [hw]; exact Below.refl _ _⟩
  have h2 : ∀ W, Below w.heap.size w W → Calls Tryz.prog 40 #[.string ⟨p.toArray⟩, .string ⟨#[45]⟩] W fun e w' => e = .returned (.tuple #[.string ⟨(Lib.cut p [45]).1.toArray⟩, .string ⟨(Lib.cut p [45]).2.1.toArray⟩, .bool (Lib.cut p [45]).2.2]) ∧ Below W.heap.size W w' := fun W hb => by
    obtain ⟨⟨m, hm⟩, _⟩ := hE.below hb
    exact (Tryz.strings_Cut ⟨p.toArray⟩ ⟨#[45]⟩ m W (by rw [arr_size, hp]; omega) hm).mono fun e w' ⟨he, n, hw⟩ => ⟨he, by rw [hw]; exact Joins.below_draws _ _ _⟩
  rw [← hp] at hl hc ⊢
  have h3 : ∀ (q : Bs), q.length ≤ p.length → ∀ W, Below w.heap.size w W → Calls Tryz.prog 41 #[.string ⟨q.toArray⟩] W fun e w' => AtR (atoiO q) e ∧ Below W.heap.size W w' := fun q hq W hb =>
    atoi_any ⟨q.toArray⟩ W (hE.below hb) (by rw [arr_size]; omega)
  have h4 := h3 _ hc.1
  have h5 := h3 _ hc.2
  clear h3
  generalize Lib.hasSuffix s.data.toList [43] = o at *
  generalize (Lib.cut p [45]).2.2 = r at *
  cases hx : atoiO (Lib.cut p [45]).1 with
  | none =>
    rw [hx] at h4
    exact ps_no s _ _ _ w o r h1 h2 h4
  | some v =>
    rw [hx] at h4
    cases o with
    | true => exact ps_open s _ _ _ w r v h1 h2 h4
    | false =>
      cases r with
      | false => exact ps_one s _ _ _ w v h1 h2 h4
      | true =>
        cases hy : atoiO (Lib.cut p [45]).2.1 with
        | none =>
          rw [hy] at h5
          exact ps_half s _ _ _ w v h1 h2 h4 h5
        | some u =>
          rw [hy] at h5
          exact ps_two s _ _ _ w v u h1 h2 h4 h5
end Go.Proofs.YtplphinaeikpmaaGreatDoor
