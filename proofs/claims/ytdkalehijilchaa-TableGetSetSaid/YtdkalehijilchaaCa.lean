/-
  Texts: joined, padded; what cells say.
-/
import Derived.Lib.Join
import Derived.Lib.Repeat
import Derived.Test.YtdkalehijilchaaAqb
namespace Go.Proofs.Ytdkalehijilchaa.Pb
open Go Go.Pv Go.RowKit Lab Lcs Go.Proofs.Ytdkalehijilchaa Go.Proofs.Ytdkalehijilchaa.Pu
set_option linter.unusedSimpArgs false
def env0 : Env := ⟨fun _ => none, fun _ => True, fun _ _ _ _ => trivial⟩
def sp : Str := ⟨#[32]⟩
def bar : Str := ⟨#[32, 124, 32]⟩
def mkB (l : List UInt8) : Str := ⟨l.toArray⟩
theorem mkB_list (l : List UInt8) : (mkB l).data.toList = l := rfl
theorem app_list (a b : Str) : (a ++ b).data.toList = a.data.toList ++ b.data.toList := by rw [ByteArray.data_append, Array.toList_append]
theorem size_list (a : Str) : a.size = a.data.toList.length := by rw [Array.length_toList]; rfl
def joinS (sep : Str) (L : List Str) : Str := mkB (Lib.join (L.map (·.data.toList)) sep.data.toList)
theorem joinS_nil (sep : Str) : joinS sep [] = ⟨#[]⟩ := rfl
theorem joinS_size (sep : Str) (B : Nat) : ∀ L : List Str, (∀ x ∈ L, x.size ≤ B) → (joinS sep L).size ≤ (B + sep.size) * L.length := by
 intro L h
 unfold joinS
 rw [size_list, mkB_list]
 cases L with
 | nil => simp [Lib.join_nil]
 | cons y r =>
   rw [List.map_cons, Lib.join_length]
   have hl : ∀ M : List Str, (∀ x ∈ M, x.size ≤ B) → Lib.lens (M.map (·.data.toList)) ≤ B * M.length := by
     intro M hM
     induction M with
     | nil => simp [Lib.lens]
     | cons a M ih =>
       have h1 := hM a List.mem_cons_self
       have h2 := ih fun x hx => hM x (List.mem_cons_of_mem _ hx)
       rw [size_list] at h1
       unfold Lib.lens at h2 ⊢
       simp only [List.map_cons, List.sum_cons, List.length_cons] at h2 ⊢
       rw [Nat.mul_succ]
       omega
   have h3 := hl (y :: r) h
   rw [List.map_cons] at h3
   rw [List.length_map, ← size_list, Nat.add_mul]
   have h4 : sep.size * r.length ≤ sep.size * (y :: r).length := Nat.mul_le_mul_left _ (by simp)
   omega
def pad (s : Str) (n : Nat) : Str := s ++ mkB (List.replicate n 32)
theorem pad_size (s : Str) (n : Nat) : (pad s n).size = s.size + n := by
 unfold pad
 rw [size_list, app_list, mkB_list, List.length_append, List.length_replicate, ← size_list]
theorem repeat_sp (n : Nat) : (⟨(Lib.repeatL sp.data.toList n).toArray⟩ : Str) = mkB (List.replicate n 32) := by
 have : sp.data.toList = List.replicate 1 32 := rfl
 rw [this, Lib.repeatL_replicate, Nat.mul_one]
 rfl
def say (l : List Wd) : Str := joinS sp (l.map Wd.text)
theorem say_size {l : List Wd} (h : ∀ a ∈ l, a.text.size ≤ 100) : (say l).size ≤ 101 * l.length := by
 have := joinS_size sp 100 (l.map Wd.text) (fun x hx => by
   obtain ⟨a, ha, rfl⟩ := List.mem_map.1 hx
   exact h a ha)
 rw [List.length_map] at this
 exact this
def sv (L : List Str) : List IV := L.map .str
def zv (L : List Nat) : List IV := L.map fun n => .int .i64 (n : Nat)
def cellW (r : Ut) (c : Nat) : List Wd := ((r.kids[c]?).map Ut.words).getD []
def colL (t : Ut) (c : Nat) : List Str := t.kids.map fun r => say (cellW r c)
def maxL (L : List Str) : Nat := L.foldl (fun b s => max b s.size) 0
theorem maxL_snoc (L : List Str) (s : Str) : maxL (L ++ [s]) = max (maxL L) s.size := by unfold maxL; rw [List.foldl_append]; rfl
theorem le_foldl (L : List Str) : ∀ b, b ≤ L.foldl (fun b s => max b s.size) b := by
 induction L with
 | nil => exact fun b => Nat.le_refl b
 | cons a L ih => exact fun b => Nat.le_trans (Nat.le_max_left b a.size) (ih _)
theorem mem_maxL {L : List Str} {s : Str} (h : s ∈ L) : s.size ≤ maxL L := by
 have : ∀ b, s.size ≤ L.foldl (fun b s => max b s.size) b := by
   induction L with
   | nil => cases h
   | cons a L ih =>
     intro b
     rcases List.mem_cons.1 h with rfl | h
     · exact Nat.le_trans (Nat.le_max_right b s.size) (le_foldl L _)
     · exact ih h _
 exact this 0
theorem maxL_le {L : List Str} {B : Nat} (h : ∀ s ∈ L, s.size ≤ B) : maxL L ≤ B := by
 have : ∀ b, b ≤ B → L.foldl (fun b s => max b s.size) b ≤ B := by
   induction L with
   | nil => exact fun b hb => hb
   | cons a L ih => exact fun b hb => ih (fun s hs => h s (List.mem_cons_of_mem _ hs)) _ (Nat.max_le.2 ⟨hb, h a List.mem_cons_self⟩)
 exact this 0 (Nat.zero_le _)
def colsN (t : Ut) : Nat := ((t.kids[0]?).map fun r => r.kids.length).getD 0
def wides (t : Ut) : List Nat := (List.range (colsN t)).map fun c => maxL (colL t c)
def cellS (ws : List Nat) (r : Ut) (k : Nat) : Str := if k + 1 < r.kids.length then pad (say (cellW r k)) (ws.getD k 0 - (say (cellW r k)).size) else say (cellW r k)
def lineS (ws : List Nat) (r : Ut) : Str := joinS bar ((List.range r.kids.length).map (cellS ws r))
def linesS (t : Ut) : List Str := t.kids.map (lineS (wides t))
def numB (l : List Ut) : Bool := decide (0 < l.length) && decide (l.length ≤ 64)
def cellB (u : Ut) : Bool := decide (u.kind = 6) && decide (u.kids.length = 0)
def rowB (u : Ut) : Bool := decide (u.kind = 5) && (numB u.kids && !u.kids.any fun c => !cellB c)
def badR (n : Nat) (r : Ut) : Bool := decide (r.kids.length ≠ n) || !rowB r
def validT (t : Ut) : Bool := decide (t.kind = 4) && (numB t.kids && !t.kids.any (badR (colsN t)))
def rowsV (t : Ut) : Nat := if validT t = true then t.kids.length else 0
def colsV (t : Ut) : Nat := if validT t = true then colsN t else 0
def hasB (t : Ut) (r c : Int) : Bool := decide (0 ≤ r) && (decide (r < (rowsV t : Int)) && (decide (0 ≤ c) && decide (c < (colsV t : Int))))
end Go.Proofs.Ytdkalehijilchaa.Pb
