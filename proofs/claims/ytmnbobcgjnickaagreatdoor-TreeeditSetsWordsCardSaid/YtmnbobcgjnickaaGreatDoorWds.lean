/-
  Words in memory; validWords; the reference's Texts, row and short.
-/
import Derived.Test.YtmnbobcgjnickaaGreatDoorEvr
namespace Go.Proofs.YtmnbobcgjnickaaGreatDoor
open Go.RowKit (wrap32 wrap64 intOf Hid Below)
open Lab Lcs
theorem info_parts {P : Program} {e : TypeId} {z : Value} {n b : Nat} (h : (P.info? e).map (fun i => (i.zero, i.size, i.bytes)) = some (some z, n, b)) : ∃ i, P.info? e = some i ∧ i.zero = some z ∧ i.size = n ∧ i.bytes = b := by
 cases hi : P.info? e with
 | none => rw [hi] at h; cases h
 | some i =>
   rw [hi] at h
   simp only [Option.map_some, Option.some.injEq, Prod.mk.injEq] at h
   exact ⟨i, rfl, h.1, h.2.1, h.2.2⟩
theorem info_id : (Tryz.prog.info? 23).map (fun i => (i.zero, i.size, i.bytes)) = some (some (.agg #[.int .i64 0, .int .i64 0, .int .i64 0]), 3, 24) := by kernel_rfl
theorem below2 (w : World) (o o' : Obj) : Below w.heap.size w ((w.alloc o).alloc o') := (alloc_below w o).trans ((alloc_below _ o').mono (Nat.le_of_lt (alloc_lt w o)))
theorem new_row (W : World) (N : Nat) (hN : N = W.heap.size) (news : List Value) (ty : TypeId) (j : Nat) (u : Value) (h : news[j]? = some u) : (W.alloc (.cells news.toArray ty)).cell? ((⟨N, 0, none⟩ : Addr).add j) = some u := by
 subst hN
 rw [Go.WideShapes.add_plain, Nat.zero_add, World.cell?_alloc_at _ _ _ _ rfl]
 simpa using h
theorem wv_at : ∀ {L : List Wd} {k : Nat} {a : Wd}, L[k]? = some a → (wv L)[k * 4]? = some (.string a.text) ∧ (wv L)[k * 4 + 1]? = some (.int .i64 a.mark.x) ∧ (wv L)[k * 4 + 2]? = some (.int .i64 a.mark.y) ∧ (wv L)[k * 4 + 3]? = some (.int .i64 a.mark.z)
 | [], _, _, h => by simp at h
 | c :: r, 0, a, h => by
   simp only [List.getElem?_cons_zero, Option.some.injEq] at h
   subst h
   exact ⟨rfl, rfl, rfl, rfl⟩
 | c :: r, k + 1, a, h => by
   simp only [List.getElem?_cons_succ] at h
   obtain ⟨h1, h2, h3, h4⟩ := wv_at h
   rw [show (k + 1) * 4 = k * 4 + 4 by omega]
   exact ⟨h1, by rw [show k * 4 + 4 + 1 = (k * 4 + 1) + 4 by omega]; exact h2, by rw [show k * 4 + 4 + 2 = (k * 4 + 2) + 4 by omega]; exact h3, by rw [show k * 4 + 4 + 3 = (k * 4 + 3) + 4 by omega]; exact h4⟩
theorem Wds.len {w : World} {A : Option Addr} {n c : Nat} {L : List Wd} (h : Wds w A n c L) : L.length = n := h.1
theorem Wds.at_ {w wr : World} {A : Option Addr} {n c : Nat} {L : List Wd} (h : Wds w A n c L) (hb : Below w.heap.size w wr) {k : Nat} (hk : k < n) :
   ∃ (b off : Nat) (a : Wd), A = some ⟨b, off, none⟩ ∧ b < w.heap.size ∧ L[k]? = some a ∧ wr.cell? ⟨b, off + k * 4, none⟩ = some (.string a.text) ∧ wr.cell? ⟨b, off + k * 4 + 1, none⟩ = some (.int .i64 a.mark.x) ∧ wr.cell? ⟨b, off + k * 4 + 2, none⟩ = some (.int .i64 a.mark.y) ∧ wr.cell? ⟨b, off + k * 4 + 3, none⟩ = some (.int .i64 a.mark.z) := by
 obtain ⟨h1, h2, h3, h4⟩ := h
 obtain ⟨b, off, e, hlt, hc⟩ := h4 (by omega)
 have ha : L[k]? = some L[k] := List.getElem?_eq_getElem (by omega)
 obtain ⟨g0, g1, g2, g3⟩ := wv_at ha
 refine ⟨b, off, _, e, hlt, ha, (hb.cell (p := ⟨b, off + k * 4, none⟩) hlt).trans (hc _ _ g0), ?_, ?_, ?_⟩
 · rw [Nat.add_assoc]; exact (hb.cell (p := ⟨b, off + (k * 4 + 1), none⟩) hlt).trans (hc _ _ g1)
 · rw [Nat.add_assoc]; exact (hb.cell (p := ⟨b, off + (k * 4 + 2), none⟩) hlt).trans (hc _ _ g2)
 · rw [Nat.add_assoc]; exact (hb.cell (p := ⟨b, off + (k * 4 + 3), none⟩) hlt).trans (hc _ _ g3)
theorem texts_take {L : List Wd} {k : Nat} {a : Wd} (h : L[k]? = some a) : textsOf (L.take (k + 1)) = textsOf (L.take k) ++ [a.text] := by
 obtain ⟨hk, he⟩ := List.getElem?_eq_some_iff.1 h
 unfold textsOf
 rw [List.take_succ_eq_append_getElem hk, List.map_append, he]
 rfl
theorem sv_snoc (L : List Str) (s : Str) : sv (L ++ [s]) = sv L ++ [.string s] := by simp [sv]
theorem grown_below {base n size : Nat} {e : TypeId} {v : Value} {xs : List Value} {w W w' : World} (hown : W.ownsRow base e size v n xs) (hb : Below base w W) (hW : base ≤ W.heap.size) (hg : W.grownBy w' v.ownBlock) : Below base w w' := below_own hown hb hW hg
set_option maxHeartbeats 4000000 in
set_option maxRecDepth 100000 in
theorem validwords_any (L : List Wd) (n c : Nat) (A : Option Addr) (w : World) (hl : Wds w A n c L) (hn : n ≤ 1000000) :
   Calls Tryz.prog 108 #[.slice A n c] w fun e w' => e = .returned (.bool (rowB L)) ∧ Below w.heap.size w w' := by
 have HL := Lib.hid hl
 have HLn := Lib.hid hl.1
 obtain ⟨i0, hi, hz0, hz1, hz2⟩ := info_parts info_str
 clear hl
 go_enter Tryz.func108, Tryz.ntmps108
 go_wp2
 go_loopw [3, 8] (fun v i wr => ∃ (k cc : Nat) (Av : Option Addr), k ≤ n ∧ i = .int .i64 k ∧ v = .slice Av k cc ∧ wr.ownsRow w.heap.size 9 1 (.slice Av k cc) k (sv (textsOf (L.take k))) ∧ Below w.heap.size w wr) (fun _ i _ => n - (intOf i).toNat)
 case atStart => exact ⟨0, 0, none, Nat.zero_le _, rfl, rfl, World.ownsRow_nil _ _ _ _, Below.refl _ _⟩
 case round =>
   rename World => wr
   obtain ⟨k, cc, Av, hk, rfl, rfl, hown, hbr⟩ := hrel
   have hbz := hbr.size
   have HO := Lib.hid hown
   have HB := Lib.hid hbr
   clear hown
   by_cases hlt : k < n
   · obtain ⟨b, off, a, rfl, hblt, ha, c0, c1, c2, c3⟩ := HL.out.at_ hbr hlt
     have HT := Lib.hid (texts_take ha)
     have hb2 := below2 wr (.cells #[.string a.text, .int .i64 a.mark.x, .int .i64 a.mark.y, .int .i64 a.mark.z] 48) (.cells #[.string a.text] 9)
     have HB2 := Lib.hid hb2
     clear ha hbr hb2
     go_wp2_with (at_builtin; refine wpList_append_own_at _ rfl _ _ 123 rfl w.heap.size 9 i0 (.string ⟨#[]⟩) 1 16 Tryz.underlying123 hi hz0 hz1 hz2 rfl (by decide) _ _ _ rfl (own_below HO.out HB2.out) ⟨wr.heap.size + 1, 0, none⟩ 1 1 [.string a.text] rfl rfl ?c1 ?c2 ?c3 ?c4 ?c5 ?_)
     case c1 => exact fun j u hj => new_row _ _ (by simp) [.string a.text] _ j u hj
     case c2 => intro u hu; simp at hu; subst hu; rfl
     case c3 => unfold maxLen; omega
     case c4 => omega
     case c5 => simp; omega
     intro v' w3 hown' hgrow _ _
     obtain ⟨A', c', rfl, _⟩ := own_slice hown'
     have HO' := Lib.hid hown'
     have HB3 := Lib.hid (grown_below (own_below HO.out HB2.out) (HB.out.trans (HB2.out.mono hbz)) (Nat.le_trans hbz HB2.out.size) hgrow)
     clear hown' hgrow
     go_wp2
     go_roundw
     case rel => exact ⟨k + 1, c', A', by omega, by go_num, rfl, by rw [HT.out, sv_snoc]; exact HO'.out, HB3.out⟩
     case measure => simp [intOf]; omega
   · obtain rfl : k = n := by omega
     have hown := HO.out
     rw [List.take_of_length_le (by rw [HLn.out]; exact Nat.le_refl _)] at hown
     have HV := Lib.hid (wvalid_any (textsOf L) k cc Av wr (Sq.of_own hown (by omega)))
     clear hown
     go_wp2_with (go_at_call 106; ((with_reducible refine (HV.out).mono ?_); rintro e w1 ⟨rfl, rfl⟩))
     go_ret
     exact ⟨rfl, HB.out⟩
end Go.Proofs.YtmnbobcgjnickaaGreatDoor
