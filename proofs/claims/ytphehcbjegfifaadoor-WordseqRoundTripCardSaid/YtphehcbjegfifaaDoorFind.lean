/-
  The contracts of Stands, FindAll, Find, Count and Equal.
-/
import Derived.Test.YtphehcbjegfifaaDoorMem
namespace Go.Proofs.YtphehcbjegfifaaDoor
open Go.RowKit (wrap32 wrap64 intOf Hid Below)
open Occ

theorem info_int : (Tryd.prog.info? 3).map (fun i => (i.zero, i.size, i.bytes)) = some (some (.int .i64 0), 1, 8) := by kernel_rfl
theorem info_str : (Tryd.prog.info? 9).map (fun i => (i.zero, i.size, i.bytes)) = some (some (.string ⟨#[]⟩), 1, 16) := by kernel_rfl
theorem own_empty (w : World) (e : TypeId) (size : Nat) : (w.alloc (.cells #[] e)).ownsRow w.heap.size e size (.slice (some ⟨w.heap.size, 0, none⟩) 0 0) 0 [] :=
  ⟨by simp, Or.inr ⟨w.heap.size, 0, #[], rfl, Nat.le_refl _, (show (w.heap.push _)[w.heap.size]? = _ by simp), Nat.le_refl _, by unfold maxLen; omega, by simp, by simp⟩⟩
theorem own_below {w w' : World} {base n size : Nat} {e : TypeId} {v : Value} {xs : List Value} (h : w.ownsRow base e size v n xs) (hb : Below w.heap.size w w') : w'.ownsRow base e size v n xs :=
  h.kept (row := none) ⟨hb.os, hb.tape, hb.output, hb.size, fun k hk _ => hb.block k hk⟩ (by
    cases hv : v.ownBlock
    · exact Or.inl rfl
    · exact Or.inr (by simp))
theorem new_one (w : World) (x : Value) (t : TypeId) (j : Nat) (u : Value) (h : [x][j]? = some u) : (w.alloc (.cells #[x] t)).cell? ((⟨w.heap.size, 0, none⟩ : Addr).add j) = some u := by
  match j, h with
  | 0, h =>
    rw [show ((⟨w.heap.size, 0, none⟩ : Addr).add 0) = ⟨w.heap.size, 0, none⟩ from rfl, World.cell?_alloc_at _ _ _ _ rfl]
    exact h
theorem alloc_below (w : World) (o : Obj) : Below w.heap.size w (w.alloc o) := (Below.refl _ _).alloc (Nat.le_refl _) o
theorem own_slice {w : World} {base size n : Nat} {e : TypeId} {v : Value} {xs : List Value} (h : w.ownsRow base e size v n xs) : ∃ A c, v = .slice A n c ∧ n ≤ c ∧ c ≤ 9223372036854775807 := by
  rcases h.2 with ⟨rfl, rfl⟩ | ⟨g, cap, cur, rfl, _, _, h1, h2, _⟩
  · exact ⟨_, _, rfl, by omega, by omega⟩
  · exact ⟨_, _, rfl, h1, by unfold maxLen at h2; omega⟩
theorem stands_def (L P : List Str) (i : Nat) (h : i + P.length ≤ L.length) : stands L P i = decide ((L.drop i).take P.length = P) := by
  unfold stands
  simp [h]
/-- A slice that came in, or was made: its length is at most its capacity. -/
def Slc (B : Nat) (w : World) (A : Option Addr) (n c : Nat) (L : List Value) : Prop := ValsAt B w A n L ∧ n ≤ c ∧ c ≤ 9223372036854775807 ∧ n ≤ 8796093022207 ∧ B ≤ w.heap.size
theorem Slc.below {B : Nat} {w w' : World} {A : Option Addr} {n c : Nat} {L : List Value} (h : Slc B w A n c L) (hb : Below w.heap.size w w') : Slc B w' A n c L :=
  ⟨h.1.below (hb.mono h.2.2.2.2), h.2.1, h.2.2.1, h.2.2.2.1, Nat.le_trans h.2.2.2.2 hb.size⟩

/-- The numbers that a search hands back. -/
def NumsRet (base : Nat) (K : List Nat) (e : Ending) (w' : World) : Prop := ∃ A n c, e = .returned (.slice A n c) ∧ n = K.length ∧ n ≤ c ∧ c ≤ 9223372036854775807 ∧ w'.ownsRow base 3 1 (.slice A n c) n (iv K)

set_option maxHeartbeats 2000000 in
theorem findall_any (L P : List Str) (B n m c d : Nat) (A D : Option Addr) (w : World) (hl : Slc B w A n c (sv L)) (hp : Slc B w D m d (sv P)) :
    Calls Tryd.prog 14 #[.slice A n c, .slice D m d] w fun e w' => NumsRet w.heap.size (occ L P 0) e w' ∧ Below w.heap.size w w' := by
  obtain ⟨i0, hi, hz0, hz1, hz2⟩ := info_parts info_int
  have hL := hl.1.1
  have hP := hp.1.1
  rw [sv_len] at hL hP
  by_cases hm0 : 0 < m
  · have HNE : Hid (P ≠ []) := Lib.hid (by rintro rfl; simp at hP; omega)
    have hm' : ((m : Int) == 0) = false := by rw [beq_eq_false_iff_ne]; omega
    have HE : Hid (∀ W (i : Nat), Below w.heap.size w W → i + m ≤ n → ∃ b off, A = some ⟨b, off, none⟩ ∧ Calls Tryd.prog 22 #[.slice (some ⟨b, off + i, none⟩) m (c - i), .slice D m d] W fun e w' => e = .returned (.bool (stands L P i)) ∧ ∃ q, w' = W.drewN q) := Lib.hid fun W i hW h => by
      obtain ⟨hl, hnc, hc, hn, hB⟩ := hl
      obtain ⟨hp, _, _, hm, _⟩ := hp
      obtain ⟨b, off, rfl, _⟩ := hl.addr (by omega)
      refine ⟨b, off, rfl, ?_⟩
      have hcut := hl.cut i m h
      rw [sv_cut] at hcut
      rw [stands_def L P i (by omega), hP]
      exact equal_any _ _ B m m _ _ _ _ W (hcut.below (hW.mono hB)) (hp.below (hW.mono hB)) (by omega) (by omega) (Nat.le_trans hB hW.size)
    have HLen := Lib.hid (show (occ L P 0).length ≤ n by rw [← hL]; exact occ_len L P)
    have HLn := Lib.hid hL
    have HPn := Lib.hid hP
    have hnc := hl.2.1
    have hc := hl.2.2.1
    have hn := hl.2.2.2.1
    have hm := hp.2.2.2.1
    clear hl hp hL hP
    go_enter Tryd.func14, Tryd.ntmps14
    go_wp2
    go_loopw [5, 6] (fun v i wr => ∃ (k cc q : Nat) (Av : Option Addr) (K : List Nat), k ≤ n ∧ i = .int .i64 k ∧ v = .slice Av q cc ∧ q = K.length ∧ occ L P 0 = K ++ occ L P k ∧ wr.ownsRow w.heap.size 3 1 (.slice Av q cc) q (iv K) ∧ Below w.heap.size w wr) (fun _ i _ => n - (intOf i).toNat)
    case atStart => exact ⟨0, 0, 0, none, [], Nat.zero_le _, rfl, rfl, rfl, rfl, ⟨by simp [iv], Or.inl ⟨rfl, rfl⟩⟩, Below.refl _ _⟩
    case round =>
      obtain ⟨k, cc, q, Av, K, hk, rfl, rfl, hq, ho, hown, hb⟩ := hrel
      have HO := Lib.hid ho
      have HQ := Lib.hid hq
      have hqn : q ≤ n := by have h1 := congrArg List.length ho; rw [List.length_append] at h1; have := HLen.out; omega
      have hbz := hb.size
      clear ho hq
      by_cases hlt : k + m ≤ n
      · obtain ⟨b, off, rfl, hcall⟩ := HE.out wr k hb hlt
        cases hs : stands L P k with
        | true =>
          have HS := Lib.hid hs
          rw [hs] at hcall
          have HOc := Lib.hid (occ_yes HNE.out hs)
          have HC := Lib.hid hcall
          have HW := Lib.hid (show ∀ W, Below wr.heap.size wr W → W.ownsRow w.heap.size 3 1 (.slice Av q cc) q (iv K) from fun W h => own_below hown h)
          have HLt := Lib.hid hown.lt
          clear hs hcall hown
          go_wp2_with fail
          with_reducible refine (HC.out).mono ?_
          rintro e w1 ⟨rfl, hq1⟩
          have hb1 := drew_below hq1
          have hb1z := hb1.size
          have HW1 := Lib.hid (HW.out _ (hb1.trans ((alloc_below w1 (.cells #[.int .i64 (k : Int)] 3)).mono hb1.size)))
          clear hq1
          go_wp2_with (at_builtin; refine wpList_append_own _ rfl _ _ 35 rfl w.heap.size 3 i0 (.int .i64 0) 1 8 Tryd.underlying35 hi hz0 hz1 hz2 rfl (by decide) _ _ _ rfl HW1.out ⟨w1.heap.size, 0, none⟩ 1 1 [.int .i64 (k : Int)] rfl rfl ?c1 ?c2 ?c3 ?c4 ?c5 ?_)
          case c1 => exact fun j u hj => new_one w1 _ _ j u hj
          case c2 => intro u hu; simp at hu; subst hu; rfl
          case c3 => unfold maxLen; omega
          case c4 => omega
          case c5 => simp; omega
          intro v' w2 hown' hgrow _
          have hbw : Below w.heap.size w w2 := Below.grown (hb.trans ((hb1.trans ((alloc_below w1 (.cells #[.int .i64 (k : Int)] 3)).mono hb1.size)).mono hbz)) hgrow (by simp; omega) (fun k hk => (HLt.out k hk).1)
          obtain ⟨A2, c2, rfl, _⟩ := own_slice hown'
          have HV := Lib.hid hown'
          clear hown' hgrow
          go_wp2
          go_roundw
          case rel => exact ⟨k + m, c2, q + 1, A2, K ++ [k], by omega, by go_num, rfl, by rw [List.length_append, ← HQ.out]; rfl, by rw [HO.out, HOc.out, HPn.out]; simp, by rw [iv_app]; exact HV.out, hbw⟩
          case measure => simp [intOf]; omega
        | false =>
          rw [hs] at hcall
          have HOc := Lib.hid (occ_no HNE.out hs)
          have HC := Lib.hid hcall
          have HW := Lib.hid (show ∀ W, Below wr.heap.size wr W → W.ownsRow w.heap.size 3 1 (.slice Av q cc) q (iv K) from fun W h => own_below hown h)
          clear hs hcall hown
          go_wp2_with (go_at_call 22; ((with_reducible refine (HC.out).mono ?_); rintro e w1 ⟨rfl, hq1⟩))
          have hb1 := drew_below hq1
          have HW1 := Lib.hid (HW.out _ hb1)
          clear hq1
          go_wp2
          go_roundw
          case rel => exact ⟨k + 1, cc, q, Av, K, by omega, by go_num, rfl, HQ.out, by rw [HO.out, HOc.out], HW1.out, hb.trans (hb1.mono hbz)⟩
          case measure => simp [intOf]; omega
      · have HOc := Lib.hid (occ_far (l := L) HNE.out (i := k) (by have := HLn.out; have := HPn.out; omega))
        have HW := Lib.hid hown
        obtain ⟨_, _, he, h1, h2⟩ := own_slice hown
        have h3 : q ≤ cc ∧ cc ≤ 9223372036854775807 := by injection he with _ _ h3; subst h3; exact ⟨h1, h2⟩
        clear hown he h1 h2
        go_wp2
        go_ret
        have e1 : occ L P 0 = K := by rw [HO.out, HOc.out, List.append_nil]
        exact ⟨⟨Av, q, cc, rfl, by rw [e1]; exact HQ.out, h3.1, h3.2, by rw [e1]; exact HW.out⟩, hb⟩
  · obtain rfl : m = 0 := by omega
    have HP : Hid (P = []) := Lib.hid (List.eq_nil_of_length_eq_zero hP)
    clear hl hp hL hP
    go_enter Tryd.func14, Tryd.ntmps14
    go_wp2
    go_ret
    have e1 : occ L P 0 = [] := by rw [HP.out, occ_nil]
    exact ⟨⟨none, 0, 0, rfl, by rw [e1]; rfl, by omega, by omega, by rw [e1]; exact ⟨by simp [iv], Or.inl ⟨rfl, rfl⟩⟩⟩, Below.refl _ _⟩
end Go.Proofs.YtphehcbjegfifaaDoor
