/-
  The contract of Normalize.
-/
import Derived.Test.YtmgjpmjmondplaaFold
namespace Go.Proofs.Ytmgjpmjmondplaa
open Go.RowKit (wrap32 wrap64 intOf Hid Below)
open Spans
theorem new_two (w : World) (o1 : Obj) (f t : Int) (ty : TypeId) (j : Nat) (u : Value) (h : [Value.int .i64 f, .int .i64 t][j]? = some u) :
   ((w.alloc o1).alloc (.cells #[.int .i64 f, .int .i64 t] ty)).cell? ((⟨w.heap.size + 1, 0, none⟩ : Addr).add j) = some u := new2 w o1 0 f t ty j u h
theorem bl_two (w : World) (o1 o2 : Obj) : Below w.heap.size w ((w.alloc o1).alloc o2) := bl2 w o1 o2 0
theorem own_cap {w : World} {base e size n c : Nat} {A : Option Addr} {xs : List Value} (h : w.ownsRow base e size (.slice A n c) n xs) : n ≤ c := by
 rcases h.2 with ⟨h1, h2⟩ | ⟨g, cap, cur, h1, _, _, h4, _⟩
 · omega
 · injection h1 with _ _ h5
   omega
theorem own_max {w : World} {base e size n c : Nat} {A : Option Addr} {xs : List Value} (h : w.ownsRow base e size (.slice A n c) n xs) : c ≤ maxLen := by
 rcases h.2 with ⟨h1, h2⟩ | ⟨g, cap, cur, h1, _, _, _, h4, _⟩
 · injection h1 with _ _ h5
   rw [h5]; exact Nat.zero_le _
 · injection h1 with _ _ h5
   rw [h5]; exact h4
def FreshA (B : Nat) (A : Option Addr) : Prop := ∀ ad, A = some ad → B ≤ ad.block
theorem FreshA.mono {B B' : Nat} {A : Option Addr} (h : FreshA B A) (hB : B' ≤ B) : FreshA B' A := fun ad e => Nat.le_trans hB (h ad e)
theorem own_fresh {w : World} {base e size n c : Nat} {A : Option Addr} {xs : List Value} (h : w.ownsRow base e size (.slice A n c) n xs) : FreshA base A := fun ad e0 => by
 subst e0
 exact (h.lt ad.block rfl).1
def SetRet (B : Nat) (P : Int → Bool) (e : Ending) (w' : World) : Prop := ∃ (A' : Option Addr) (n' c' : Nat) (R : List Sp), e = .returned (.slice A' n' c') ∧ Is R P ∧ SpansAt w'.heap.size w' A' n' R ∧ (n' ≤ c' ∧ c' ≤ maxLen ∧ FreshA B A') ∧ n' ≤ 2000000
theorem sort_any (base n c : Nat) (A : Option Addr) (P : List Sp) (w : World) (hP : P.length = n) (hn : n ≤ 10000000) (hown : w.ownsRow base 61 2 (.slice A n c) n (cells P)) :
   Calls Try.prog 52 #[.slice A n c, .func (.func 53) #[] #[]] w fun e w' => e = .returned (.tuple #[]) ∧ (∃ P' : List Sp, P'.Perm P ∧ Ord P' ∧ SpansAt w'.heap.size w' A n P') ∧ Below base w w' := by
 rcases Nat.eq_zero_or_pos n with h0 | h0
 · subst h0
   refine (sort_none A c w).mono fun e w' ⟨he, hw⟩ => ⟨he, ⟨P, List.Perm.refl _, fun i j _ hj => absurd hj (by omega), hP, fun h => absurd h (by omega)⟩, by rw [hw]; exact Below.refl _ _⟩
 · have hA : ∃ g, A = some ⟨g, 0, none⟩ := by
     rcases hown.2 with ⟨h, h2⟩ | ⟨g, cap, cur, h, _⟩
     · omega
     · injection h with h; exact ⟨g, h⟩
   obtain ⟨g, rfl⟩ := hA
   subst hP
   exact sort_some base g c P w hn hown
set_option maxHeartbeats 2000000 in
set_option maxRecDepth 1000000 in
theorem norm_any (L : List Sp) (N c : Nat) (A : Option Addr) (w : World) (hz : SpansAt w.heap.size w A N L) (hN : N ≤ 2000000) :
   Calls Try.prog 46 #[.slice A N c] w fun e w' => SetRet w.heap.size (memB L) e w' ∧ Below w.heap.size w w' := by
 obtain ⟨i0, hi, hz0, hz1, hz2⟩ := info_parts info42
 have HL := Lib.hid hz.1
 go_enter Try.func46, Try.ntmps46
 go_wp2
 go_loopw [3, 11] (fun v i wr => ∃ (k n cc : Nat) (Av : Option Addr), k ≤ N ∧ i = .int .i64 k ∧ v = .slice Av n cc ∧ n = (partsOf (L.take k)).length ∧ wr.ownsRow w.heap.size 61 2 (.slice Av n cc) n (cells (partsOf (L.take k))) ∧ Below w.heap.size w wr) (fun _ i _ => N - (intOf i).toNat)
 case atStart => exact ⟨0, 0, 0, none, Nat.zero_le _, rfl, rfl, rfl, World.ownsRow_nil _ _ _ _, Below.refl _ _⟩
 case round =>
   obtain ⟨k, n, cc, Av, hk, rfl, rfl, hn, hown, hb⟩ := hrel
   have HN := Lib.hid hn
   have hn1 : n ≤ 2000000 := by
     have h1 := parts_len (L.take k)
     rw [List.length_take] at h1
     omega
   have hbz := hb.size
   clear hn
   by_cases hlt : k < N
   · obtain ⟨b, off, rfl, hB, h1, h2⟩ := hz.cells hb hlt
     by_cases hv : max (fr L k) 0 < min (to L k) 1048577
     · have HP := Lib.hid (parts_keep L k (by have := HL.out; omega) hv)
       have HO : Hid (∀ W, Below wr.heap.size wr W → W.ownsRow w.heap.size 61 2 (.slice Av n cc) n (cells (partsOf (L.take k)))) := Lib.hid fun W h => own_below hown h
       have hlo := fun g h => (hown.lt g h).1
       have HLO := Lib.hid hlo
       clear hown hz hlo
       go_wp2_with (at_builtin; refine wpList_append_own _ rfl _ _ 32 rfl w.heap.size 61 i0 (.agg #[.int .i64 0, .int .i64 0]) 2 16 Try.underlying32 hi hz0 hz1 hz2 rfl (by decide) _ _ _ rfl (HO.out _ (bl_two wr _ _)) ⟨wr.heap.size + 1, 0, none⟩ 1 1 [.int .i64 (max (fr L k) 0), .int .i64 (min (to L k) 1048577)] rfl rfl ?c1 ?c2 ?c3 ?c4 ?c5 ?_)
       case c1 => exact fun j u hj => new_two wr _ _ _ _ j u hj
       case c2 => intro u hu; simp at hu; rcases hu with rfl | rfl <;> rfl
       case c3 => unfold maxLen; omega
       case c4 => omega
       case c5 => simp; omega
       intro v' w1 hown' hgrow _
       have hbw : Below w.heap.size w w1 := Below.grown (hb.trans ((bl_two wr _ _).mono hbz)) hgrow (by simp; omega) (fun k hk => HLO.out k hk)
       have hsl : ∃ A2 c2, v' = .slice A2 (n + 1) c2 := by
         rcases hown'.2 with ⟨_, h⟩ | ⟨g, cap, cur, rfl, _⟩
         · omega
         · exact ⟨_, _, rfl⟩
       obtain ⟨A2, c2, rfl⟩ := hsl
       have HV := Lib.hid hown'
       clear hgrow hown'
       go_wp2
       go_roundw
       case rel => exact ⟨k + 1, n + 1, c2, A2, by omega, by go_num, rfl, by rw [HP.out, List.length_append, ← HN.out]; rfl, by rw [HP.out, cells_app]; exact HV.out, hbw⟩
       case measure => simp [intOf]; omega
     · have HP := Lib.hid (parts_drop L k (by have := HL.out; omega) hv)
       have HO := Lib.hid (own_below hown ((Below.refl wr.heap.size wr).alloc (Nat.le_refl _) (.cells #[.int .i64 (max (fr L k) 0), .int .i64 (min (to L k) 1048577)] 61)))
       clear hown hz
       go_wp2
       go_roundw
       case rel => exact ⟨k + 1, n, cc, Av, by omega, by go_num, rfl, by rw [HP.out]; exact HN.out, by rw [HP.out]; exact HO.out, hb.alloc hbz _⟩
       case measure => simp [intOf]; omega
   · obtain rfl : k = N := by omega
     have eL : L.take k = L := List.take_of_length_le (by have := HL.out; omega)
     rw [eL] at hown HN
     have HSO : Hid (Calls Try.prog 52 #[.slice Av n cc, .func (.func 53) #[] #[]] wr fun e w' => e = .returned (.tuple #[]) ∧ (∃ P' : List Sp, P'.Perm (partsOf L) ∧ Ord P' ∧ SpansAt w'.heap.size w' Av n P') ∧ Below w.heap.size wr w') := Lib.hid (sort_any w.heap.size n cc Av (partsOf L) wr HN.out.symm (by omega) hown)
     clear eL hown hz
     go_wp2_with (go_at_call 52; refine (HSO.out).mono ?_; rintro e w2 ⟨rfl, ⟨P', hp, ho, hz2⟩, hb2⟩)
     have HP := Lib.hid hp
     have HOD := Lib.hid ho
     have HPL := Lib.hid hz2.1
     have hbw2 : Below w.heap.size w w2 := hb.trans hb2
     clear hp ho HSO
     go_wp2
     go_loopw [6, 36] (fun v i wr => ∃ (j m c3 : Nat) (Ao : Option Addr), j ≤ n ∧ i = .int .i64 j ∧ v = .slice Ao m c3 ∧ m = (foldS (P'.take j)).length ∧ wr.ownsRow w2.heap.size 61 2 (.slice Ao m c3) m (cells (foldS (P'.take j))) ∧ Below w2.heap.size w2 wr) (fun _ i _ => n - (intOf i).toNat)
     case atStart => exact ⟨0, 0, 0, none, Nat.zero_le _, rfl, rfl, rfl, World.ownsRow_nil _ _ _ _, Below.refl _ _⟩
     case round =>
       obtain ⟨j, m, c3, Ao, hj, rfl, rfl, hm, hown, hb3⟩ := hrel
       have HM := Lib.hid hm
       have hm1 : m ≤ 2000000 := by
         have h1 := foldS_len (P'.take j)
         rw [List.length_take] at h1
         have := HPL.out
         omega
       have hbz3 := hb3.size
       clear hm
       by_cases hlt : j < n
       · obtain ⟨b, off, rfl, hB, h1, h2⟩ := hz2.cells hb3 hlt
         have HT := Lib.hid (take_step P' j (by have := HPL.out; omega))
         have HA : Hid (∀ W, Below wr.heap.size wr W → Calls Try.prog 48 #[.slice Ao m c3, .agg #[.int .i64 (fr P' j), .int .i64 (to P' j)]] W fun e w' => (∃ A' n' c', e = .returned (.slice A' n' c') ∧ n' = (foldS (P'.take (j + 1))).length ∧ w'.ownsRow w2.heap.size 61 2 (.slice A' n' c') n' (cells (foldS (P'.take (j + 1))))) ∧ Below w2.heap.size W w') := Lib.hid fun W h => by
           rw [HT.out, foldS_snoc]
           exact append_any w2.heap.size m c3 Ao (foldS (P'.take j)) (fr P' j, to P' j) W HM.out.symm (by omega) (own_below hown h) (Nat.le_trans hbz3 h.size)
         have hb4 : ∀ o, Below wr.heap.size wr (wr.alloc o) := fun o => (Below.refl _ _).alloc (Nat.le_refl _) o
         clear hown hz2
         go_wp2_with (go_at_call 48; refine (HA.out _ (hb4 _)).mono ?_; rintro e w3 ⟨⟨A', n', c', rfl, hn', hown'⟩, hb5⟩; have HV := Lib.hid hown'; have HV2 := Lib.hid hn'; have hb6 := hb3.trans (((hb4 _).mono hbz3).trans hb5); clear hown' hn' hb5)
         go_roundw
         case rel => exact ⟨j + 1, n', c', A', by omega, by go_num, rfl, HV2.out, HV.out, hb6⟩
         case measure => simp [intOf]; omega
       · obtain rfl : j = n := by omega
         have eP : P'.take j = P' := List.take_of_length_le (by have := HPL.out; omega)
         rw [eP] at hown HM
         have HF : Hid (SpansAt wr.heap.size wr Ao m (foldS P')) := Lib.hid (spans_of_own hown)
         have hcap := And.intro (own_cap hown) (And.intro (own_max hown) ((own_fresh hown).mono hbw2.size))
         clear hown eP
         go_wp2
         go_ret
         exact ⟨⟨Ao, m, c3, foldS P', rfl, norm_is L P' HP.out HOD.out, HF.out, hcap, hm1⟩, hbw2.trans (hb3.mono hbw2.size)⟩
end Go.Proofs.Ytmgjpmjmondplaa
