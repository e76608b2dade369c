/-
  The contract of the reference's Edits.
-/
import Derived.Test.YtklegjmlpaimpaaDif
import Derived.Test.YtklegjmlpaimpaaVat
namespace Go.Proofs.Ytklegjmlpaimpaa
open Go.RowKit (wrap32 wrap64 intOf Hid Below)
open Lcs Rise

/-- A sequence of a fresh block. -/
theorem sqo_fresh {ob : Option Nat} {w : World} {A : Option Addr} {n c R : Nat} {L : List Str} (h : Sq w A n c L) (hf : 0 < n → ∀ b off, A = some ⟨b, off, none⟩ → R ≤ b) (hob : ∀ k, ob = some k → k < R) : SqO ob w A n c L :=
  ⟨h, fun hn b off e e' => by
    have h1 := hf hn b off e
    have h2 := hob b e'.symm
    omega⟩
theorem grown_none {w w' : World} (h : w.grownBy w' none) : Below w.heap.size w w' := ⟨h.os, h.tape, h.output, h.size, fun k hk => h.block k hk (by simp)⟩
theorem run_append_lit {P : Program} (w : World) (t ty : TypeId) (i : TypeInfo) (ht : P.underlying t = some (.slice 9)) (hi : P.info? 9 = some i) (hz : i.zero = some (.string ⟨#[]⟩)) (hsize : i.size = 1) (hby : i.bytes = 16)
    (g B : Nat) (A : Option Addr) (m c : Nat) (L : List Str) (hr : ValsAt B w A m (sv L)) (hm : m ≤ 1000000) :
    ∃ A' c' w', (Builtin.append_ #[t, t] ty #[.slice (some ⟨g, 0, none⟩) 0 0, .slice A m c]).run P w = .ok (.slice A' m c') w' ∧ Sq w' A' m c' L ∧ Below w.heap.size w w' ∧ (0 < m → ∀ b off, A' = some ⟨b, off, none⟩ → w.heap.size ≤ b) := by
  rcases Nat.eq_zero_or_pos m with h0 | h0
  · subst h0
    obtain rfl : L = [] := by
      have h1 := hr.1
      rw [sv_len] at h1
      exact List.eq_nil_of_length_eq_zero h1
    refine ⟨some ⟨g, 0, none⟩, 0, w, ?_, ⟨⟨ValsAt.nil _ _ _, by omega, by omega, by omega, Nat.le_refl _⟩, fun h => absurd h (by omega)⟩, Below.refl _ _, fun h => absurd h (by omega)⟩
    rcases A with _ | ad
    · simp [Builtin.append_, run_underlying ht, sizeOf, typeInfo, hi, Builtin.lenOf, Builtin.firstCells, storeCells]
    · have h2 := run_append_room_cells (P := P) w t ty 9 i ht hi g 0 0 0 ad 0 c [] (by simp) (by simp) (by simp) (by omega) (by simp) (by simp)
      rw [h2]
      simp [World.setCells]
  · obtain ⟨b, off, rfl, _, hc⟩ := hr.2 h0
    obtain ⟨v', w', h1, h2, h3⟩ := run_append_arg_grows (P := P) w t ty 9 i (.string ⟨#[]⟩) 1 16 ht hi hz hsize hby rfl (by omega) ⟨g, 0, none⟩ 0 0 [] rfl (by simp) ⟨b, off, none⟩ m c (sv L) (by rw [hr.1]; omega) (fun j u hu => by rw [Go.WideShapes.add_plain]; exact hc j u hu) (by omega) (by unfold maxLen; omega) (by omega)
    rw [Nat.zero_add, List.nil_append] at h2
    obtain ⟨A', c', rfl, _⟩ := own_slice h2
    exact ⟨A', c', w', h1, Sq.of_own h2 (by omega), grown_none h3, fun _ b' off' e => (h2.lt b' (by rw [e]; rfl)).1⟩
theorem step_append_lit {P : Program} {w : World} {ops : Array Oper} {o : Oper} {a : Act} {K : Act → World → Prop} {Q : Exit → Act → World → Prop} {E : Prop} (hgd : o.guard = none) (s x : Operand) (t : TypeId)
    (ho : o.op = .call { callee := .builtin .append, args := #[s, x], argTypes := #[t, t] })
    (i : TypeInfo) (ht : P.underlying t = some (.slice 9)) (hi : P.info? 9 = some i) (hz : i.zero = some (.string ⟨#[]⟩)) (hsize : i.size = 1) (hby : i.bytes = 16)
    (g : Nat) (hs : a.eval s = .slice (some ⟨g, 0, none⟩) 0 0)
    (B : Nat) (A : Option Addr) (m c : Nat) (L : List Str) (hx : a.eval x = .slice A m c) (R : Nat) (W0 : World) (hW : Below R W0 w) (hR : R ≤ W0.heap.size) (hr : ValsAt B w A m (sv L)) (hm : m ≤ 1000000)
    (h : ∀ A' c' w', Sq w' A' m c' L → Below R W0 w' → (0 < m → ∀ b off, A' = some ⟨b, off, none⟩ → R ≤ b) → K (a.put o.dst (.slice A' m c')) w') :
    if Region.wanted o (yielded ops a.tmps) = true then Oper.wp P o a w K Q else E := by
  have hw : Region.wanted o (yielded ops a.tmps) = true := by simp [Region.wanted, hgd]
  rw [if_pos hw]
  obtain ⟨A', c', w', hrun, h2, h3, h4⟩ := run_append_lit (P := P) w t o.type i ht hi hz hsize hby g B A m c L hr hm
  have hRw : R ≤ w.heap.size := Nat.le_trans hR hW.size
  unfold Oper.wp execOp
  simp only [ho, resolve, invoke, builtin, Sem.run_bind, Sem.run_pure, Result.andThen_ok, List.map_toArray, List.map_cons, List.map_nil, hs, hx, hrun]
  exact h A' c' w' h2 (hW.trans (h3.mono hRw)) fun h0 b off e => Nat.le_trans hRw (h4 h0 b off e)

set_option maxHeartbeats 8000000 in
set_option maxRecDepth 100000 in
theorem redits_any (La Lb : List Str) (n m c d : Nat) (A D : Option Addr) (w : World) (ha : Sq w A n c La) (hb : Sq w D m d Lb) (hn : n ≤ 256) (hm : m ≤ 256) :
    Calls Try.prog 18 #[.slice A n c, .slice D m d] w fun e w' => EdsRet (dif La Lb) e w' ∧ Below w.heap.size w w' := by
  have HA := Lib.hid ha
  have HB := Lib.hid hb
  have HD0 : Hid (dif La Lb = eds2 La Lb 0 0 (prl La Lb ++ [(n, m)])) := Lib.hid (by
    unfold dif
    rw [eds_two, HA.out.len, HB.out.len])
  have HGp0 : Hid (GapOk n m 0 0 (prl La Lb ++ [(n, m)])) := Lib.hid (by
    have h := gap_ok La Lb (prl La Lb) 0 0 (prl_chain La Lb) (Nat.zero_le _) (Nat.zero_le _)
    rwa [HA.out.len, HB.out.len] at h)
  obtain ⟨S0, hS0⟩ : ∃ S0, S0 = w.heap.size := ⟨_, rfl⟩
  obtain ⟨X0, hX0⟩ : ∃ X0, X0 = w.alloc (.cells #[] 39) := ⟨_, rfl⟩
  have hbX : Below S0 w X0 := by rw [hX0, hS0]; exact alloc_below w _
  have hoX : X0.ownsRow S0 39 3 (.slice (some ⟨S0, 0, none⟩) 0 0) 0 [] := by rw [hX0, hS0]; exact own_empty w _ 3
  have hXs : X0.heap.size = S0 + 1 := by rw [hX0, hS0]; simp
  have HC := Lib.hid (common_any La Lb n m c d A D X0 (HA.out.below (by rw [← hS0]; exact hbX)) (HB.out.below (by rw [← hS0]; exact hbX)) hn hm)
  have hpl : (prl La Lb).length ≤ 256 := by have := prl_le La Lb; have := HA.out.len; omega
  have HX0 := Lib.hid hX0
  have HS0 := Lib.hid hS0
  have HBX := Lib.hid hbX
  have HOX := Lib.hid hoX
  have HXs := Lib.hid hXs
  clear ha hb hX0 hS0 hbX hoX hXs
  go_enter Try.func18, Try.ntmps18
  go_wp2_with fail
  rw [← HX0.out, ← HS0.out]
  with_reducible refine (HC.out).mono ?_
  rintro e w2 ⟨⟨A2, q, c2, rfl, hq, hown⟩, hb2⟩
  have hq1 : q ≤ 256 := by omega
  obtain ⟨i0, hi, hz0, hz1, hz2⟩ := info_parts info_pair
  have HO2 := Lib.hid hown
  have HQ := Lib.hid hq
  have HB2 := Lib.hid hb2
  have hb2z := hb2.size
  clear hq hown hb2 hpl
  go_wp2_with (at_builtin; refine wpList_append_own_at _ rfl _ _ 25 rfl X0.heap.size 29 i0 (.agg #[.int .i64 0, .int .i64 0]) 2 16 Try.underlying25 hi hz0 hz1 hz2 rfl (by decide) _ _ _ rfl (own_below HO2.out (alloc_below w2 _)) ⟨w2.heap.size, 0, none⟩ 1 1 [.int .i64 (n : Int), .int .i64 (m : Int)] rfl rfl (fun j u hj => new_cells w2 _ _ j u hj) (by intro u hu; simp at hu; rcases hu with rfl | rfl <;> rfl) (by unfold maxLen; omega) (by omega) (by simp; omega) ?_)
  intro v3 w3 hown3 hg3 _ hat3
  obtain ⟨A3, c3, rfl, _⟩ := own_slice hown3
  have hoe : (Value.slice (some ⟨S0, 0, none⟩) 0 0).ownBlock ≠ (Value.slice A2 q c2).ownBlock := fun e => by
    have := (HO2.out.lt S0 (by rw [← e]; rfl)).1
    have := HXs.out
    omega
  have HOE : Hid (w3.ownsRow S0 39 3 (.slice (some ⟨S0, 0, none⟩) 0 0) 0 []) := Lib.hid ((own_below (own_below HOX.out HB2.out) (alloc_below w2 _)).kept hg3 (Or.inr hoe))
  have hb3 : Below S0 w w3 := by
    have h1 : Below X0.heap.size X0 w3 := Below.grown (HB2.out.trans ((alloc_below w2 (.cells #[.int .i64 (n : Int), .int .i64 (m : Int)] 29)).mono hb2z)) hg3 (by simp; omega) (fun g hg => (HO2.out.lt g hg).1)
    exact HBX.out.trans (h1.mono (by have := HXs.out; omega))
  rw [show pv (prl La Lb) ++ [Value.int .i64 (n : Int), .int .i64 (m : Int)] = pv (prl La Lb ++ [(n, m)]) by rw [pv_app]; rfl] at hown3
  obtain ⟨PL, hPL⟩ : ∃ PL, PL = prl La Lb ++ [(n, m)] := ⟨_, rfl⟩
  have hPLl : q + 1 = PL.length := by rw [hPL, List.length_append, ← HQ.out]; rfl
  rw [← hPL] at hown3 HD0 HGp0
  obtain ⟨g3, rfl, hpc⟩ := pv_cells hown3 (Below.refl _ _) hPLl (by omega)
  have hg3b := hown3.lt g3 rfl
  have hg3S : S0 < g3 ∧ g3 < w3.heap.size := by have := HXs.out; omega
  have HPc := Lib.hid hpc
  have HPLl := Lib.hid hPLl
  have HB3 := Lib.hid hb3
  have hSz : S0 ≤ w.heap.size ∧ w.heap.size ≤ w3.heap.size := ⟨by rw [HS0.out]; exact Nat.le_refl _, hb3.size⟩
  obtain ⟨hS1, hS2⟩ := hg3S
  have hob0 : (Value.slice (some ⟨S0, 0, none⟩) 0 0).ownBlock ≠ some g3 := by
    intro e
    have : some S0 = some g3 := e
    injection this with this
    omega
  have HOb0 := Lib.hid hob0
  clear hown3 hPL hpc hPLl hg3 hat3 hoe hg3b hb3 hob0 hi hz0 hz1 hz2
  go_wp2
  go_loopw [5, 7, 8, 9] (fun v zx zy i wr => ∃ (k x y qq cc : Nat) (Av : Option Addr) (K : List Ed) (vs : List Value), k ≤ q + 1 ∧ i = .int .i64 k ∧ v = .slice Av qq cc ∧ zx = .int .i64 x ∧ zy = .int .i64 y ∧ qq = K.length ∧ qq ≤ k ∧ x ≤ 2000 ∧ y ≤ 2000 ∧ dif La Lb = K ++ eds2 La Lb x y (PL.drop k) ∧ GapOk n m x y (PL.drop k) ∧ OSt S0 Av qq cc K vs wr ∧ Below S0 w wr ∧ (Value.slice Av qq cc).ownBlock ≠ some g3 ∧ g3 < wr.heap.size ∧ (∀ j u, (pv PL)[j]? = some u → wr.cell? ⟨g3, j, none⟩ = some u)) (fun _ _ _ i _ => q + 1 - (intOf i).toNat)
  case atStart => exact ⟨0, 0, 0, 0, 0, _, [], [], Nat.zero_le _, rfl, rfl, rfl, rfl, rfl, Nat.zero_le _, by omega, by omega, by rw [List.drop_zero, List.nil_append]; exact HD0.out, by rw [List.drop_zero]; exact HGp0.out, ⟨HOE.out, rfl⟩, HB3.out, HOb0.out, hS2, HPc.out⟩
  case round =>
    obtain ⟨k, x, y, qq, cc, Av, K, vs, hk, rfl, rfl, rfl, rfl, hqq, hqk, hx, hy, hd, hgo, hst, hbr, hob, hgz, hpc⟩ := hrel
    have HQq := Lib.hid hqq
    have HDd := Lib.hid hd
    have HSt := Lib.hid hst
    have HBr := Lib.hid hbr
    have HOb := Lib.hid hob
    have HPcr := Lib.hid hpc
    have hrz : S0 ≤ wr.heap.size := by have := hbr.size; omega
    clear hqq hd hst hob hpc hbr
    by_cases hlt : k < q + 1
    · obtain ⟨⟨x', y'⟩, hp⟩ : ∃ p, p = PL.getD k (0, 0) := ⟨_, rfl⟩
      have hdr : PL.drop k = (x', y') :: PL.drop (k + 1) := by
        rw [List.drop_eq_getElem_cons (by have := HPLl.out; omega)]
        congr 1
        rw [hp, List.getD, List.getElem?_eq_getElem (by have := HPLl.out; omega)]
        rfl
      obtain ⟨p1, p2⟩ := pv_at PL k (by have := HPLl.out; omega)
      rw [← hp] at p1 p2
      have q1 := HPcr.out _ _ p1
      have q2 := HPcr.out _ _ p2
      rw [hdr] at hgo
      obtain ⟨o1, o2, o3, o4, o5⟩ := hgo
      simp only [] at o1 o2 o3 o4 q1 q2
      have HDr := Lib.hid hdr
      have HGo := Lib.hid o5
      clear hp hdr p1 p2 o5
      by_cases hne : x = x' ∧ y = y'
      · obtain ⟨rfl, rfl⟩ := hne
        have HGe : Hid (gap La Lb x y x y = []) := Lib.hid (by unfold gap; rw [if_neg (by omega)])
        go_wp2
        go_region
        go_wp2
        go_roundw
        case rel => exact ⟨k + 1, x + 1, y + 1, qq, cc, Av, K, vs, by omega, by go_num, rfl, by go_num, by go_num, HQq.out, by omega, by omega, by omega, by rw [HDd.out, HDr.out, eds2, HGe.out, List.nil_append], HGo.out, HSt.out.below (below_drawn (Below.refl _ _) _), below_drawn HBr.out _, HOb.out, by simpa using hgz, HPcr.out⟩
        case measure => simp [intOf]; omega
      · have HGe : Hid (gap La Lb x y x' y' = [⟨x, (La.drop x).take (x' - x), (Lb.drop y).take (y' - y)⟩]) := Lib.hid (by unfold gap; rw [if_pos (by omega)])
        obtain ⟨i0, hi, hz0, hz1, hz2⟩ := info_parts info_str
        obtain ⟨k0, hk0, hk1, hk2, hk3⟩ := info_parts info_edit
        have hsa := fun W => run_part (P := Try.prog) (t := 22) Try.underlying22 hi hz1 A n c x x' o1 (by have := HA.out.1.2.1; omega) W
        have hsb := fun W => run_part (P := Try.prog) (t := 22) Try.underlying22 hi hz1 D m d y y' o2 (by have := HB.out.1.2.1; omega) W
        have HVa : Hid (∀ W, Below wr.heap.size wr W → ValsAt W.heap.size W (tl A c x 1) (x' - x) (sv ((La.drop x).take (x' - x)))) := Lib.hid fun W h => by
          have h1 := ((HA.out.below (by rw [← HS0.out]; exact HBr.out.trans (h.mono hrz))).1.1).part c x x' o1 o3 HA.out.1.2.1
          rwa [sv_cut] at h1
        have HVb : Hid (∀ W, Below wr.heap.size wr W → ValsAt W.heap.size W (tl D d y 1) (y' - y) (sv ((Lb.drop y).take (y' - y)))) := Lib.hid fun W h => by
          have h1 := ((HB.out.below (by rw [← HS0.out]; exact HBr.out.trans (h.mono hrz))).1.1).part d y y' o2 o4 HB.out.1.2.1
          rwa [sv_cut] at h1
        have HS4 : Hid (∀ w', Below wr.heap.size wr w' → w'.cell? ⟨g3, k * 2, none⟩ = some (.int .i64 (x' : Int)) ∧ w'.cell? ⟨g3, k * 2 + 1, none⟩ = some (.int .i64 (y' : Int))) := Lib.hid fun w' h =>
          ⟨(h.cell (p := ⟨g3, k * 2, none⟩) hgz).trans q1, (h.cell (p := ⟨g3, k * 2 + 1, none⟩) hgz).trans q2⟩
        have HS5 : Hid (∀ Z w5, Below wr.heap.size wr Z → Z.grownBy w5 (Value.slice Av qq cc).ownBlock → w5.cell? ⟨g3, k * 2, none⟩ = some (.int .i64 (x' : Int)) ∧ w5.cell? ⟨g3, k * 2 + 1, none⟩ = some (.int .i64 (y' : Int))) := Lib.hid fun Z w5 h hg => by
          obtain ⟨s1, s2⟩ := HS4.out Z h
          exact ⟨hg.cell s1 (Ne.symm HOb.out), hg.cell s2 (Ne.symm HOb.out)⟩
        have HOw : Hid (∀ w', Below wr.heap.size wr w' → w'.ownsRow S0 39 3 (.slice Av qq cc) qq vs) := Lib.hid fun w' h => own_below HSt.out.own h
        have hobz : ∀ k, (Value.slice Av qq cc).ownBlock = some k → k < wr.heap.size := fun k e => (HSt.out.own.lt k e).2
        obtain ⟨lx, hlx⟩ : ∃ lx, lx = x' - x := ⟨_, rfl⟩
        obtain ⟨ly, hly⟩ : ∃ ly, ly = y' - y := ⟨_, rfl⟩
        rw [← hlx] at HVa hsa HGe
        rw [← hly] at HVb hsb HGe
        have hlx1 : lx ≤ 256 := by omega
        have hly1 : ly ≤ 256 := by omega
        clear hlx hly
        by_cases hxx : x = x'
        · have hyy : y < y' := by omega
          subst hxx
          clear hne
          go_wp2
          go_region_held3 (fun w' => w'.cell? ⟨g3, k * 2, none⟩ = some (.int .i64 (x : Int)) ∧ w'.cell? ⟨g3, k * 2 + 1, none⟩ = some (.int .i64 (y' : Int))) (with_reducible (first | exact HS5.out _ _ (hbB.alloc hbB.size _) hgrow5 | exact HS5.out _ _ (hbB.alloc hbB.size _).drew hgrow5 | exact HS5.out _ _ (hbB.drew.alloc hbB.size _) hgrow5 | exact HS4.out _ (by (repeat (first | exact Below.refl _ _ | exact hbA | exact hbB | refine Below.drew ?_ | refine Below.alloc ?_ (by first | exact Nat.le_refl _ | exact hbA.size | exact hbB.size | (simp; done) | (simp; omega)) _)); first | done | fail))) (first
            | ((refine step_append_lit (by rfl) _ _ _ (by rfl) i0 Try.underlying22 hi hz0 hz1 hz2 _ (by rfl) _ (tl A c x 1) lx (c - x) ((La.drop x).take lx) (by rfl) wr.heap.size wr (by (repeat (first | exact Below.refl _ _ | refine Below.drew ?_ | refine Below.alloc ?_ (by first | exact Nat.le_refl _ | (simp; done) | (simp; omega)) _)); first | done | fail) (Nat.le_refl _) (HVa.out _ (by (repeat (first | exact Below.refl _ _ | refine Below.drew ?_ | refine Below.alloc ?_ (by first | exact Nat.le_refl _ | (simp; done) | (simp; omega)) _)); first | done | fail)) (by omega) ?_); intro A4 c4 wA hsA hbA hfA)
            | ((refine step_append_lit (by rfl) _ _ _ (by rfl) i0 Try.underlying22 hi hz0 hz1 hz2 _ (by rfl) _ (tl D d y 1) ly (d - y) ((Lb.drop y).take ly) (by rfl) wA.heap.size wA (by (repeat (first | exact Below.refl _ _ | refine Below.drew ?_ | refine Below.alloc ?_ (by first | exact Nat.le_refl _ | (simp; done) | (simp; omega)) _)); first | done | fail) (Nat.le_refl _) (HVb.out _ (by (repeat (first | exact Below.refl _ _ | exact hbA | exact hbB | refine Below.drew ?_ | refine Below.alloc ?_ (by first | exact Nat.le_refl _ | exact hbA.size | exact hbB.size | (simp; done) | (simp; omega)) _)); first | done | fail)) (by omega) ?_); intro A5 c5 wB hsB hbAB hfB; have hbB : Below wr.heap.size wr wB := hbA.trans (hbAB.mono hbA.size))
            | ((refine step_append_at (by rfl) _ _ _ (by rfl) S0 39 k0 (.agg #[.int .i64 0, .slice none 0 0, .slice none 0 0]) 3 56 Try.underlying31 hk0 hk1 hk2 hk3 rfl (by omega) (.slice Av qq cc) qq vs (by rfl) (HOw.out _ (by first | exact hbB.alloc hbB.size _ | exact (hbB.alloc hbB.size _).drew | exact hbB.drew.alloc hbB.size _)) ⟨wB.heap.size, 0, none⟩ 1 1 [.int .i64 (x : Int), .slice A4 lx c4, .slice A5 ly c5] (by rfl) rfl (by exact fun j u hj => new_cells _ _ _ j u hj) (by intro u hu; simp at hu; rcases hu with rfl | rfl | rfl <;> rfl) (by unfold maxLen; omega) (by omega) (by have := hbB.size; simp; omega) ?_; intro v5 w5 hown5 hgrow5 hat5; (obtain ⟨A6, c6, rfl, _⟩ := own_slice hown5)))
            | fail)
          all_goals
            obtain ⟨Z, hZ, hgr, hat⟩ : ∃ Z, Below wB.heap.size wB Z ∧ Z.grownBy w5 (Value.slice Av qq cc).ownBlock ∧ ((Value.slice A6 (qq + 1) c6).ownBlock = (Value.slice Av qq cc).ownBlock ∨ (Value.slice A6 (qq + 1) c6).ownBlock = some Z.heap.size) := ⟨_, by first | exact alloc_below _ _ | exact (alloc_below _ _).drew | exact (Below.refl _ _).drew.alloc (Nat.le_refl _) _, hgrow5, hat5⟩
            have hZX : Below wr.heap.size wr Z := hbB.trans (hZ.mono hbB.size)
            have HG6 := Lib.hid ((HSt.out.below hZX).more (e := ⟨(x : Int), (La.drop x).take lx, (Lb.drop y).take ly⟩) (sqo_fresh ((hsA.below hbAB).below hZ) hfA hobz) (sqo_fresh (hsB.below hZ) (fun h b off e => Nat.le_trans hbA.size (hfB h b off e)) hobz) rfl hown5 hgr hat)
            obtain ⟨s1, s2⟩ := HS5.out Z w5 hZX hgr
            have HB5 := Lib.hid (Below.grown (HBr.out.trans (hZX.mono hrz)) hgr (Nat.le_trans hrz hZX.size) (fun g hg => (HSt.out.own.lt g hg).1))
            have hg5 : g3 < w5.heap.size := Nat.lt_of_lt_of_le (Nat.lt_of_lt_of_le hgz hZX.size) hgr.size
            have HOb5 : Hid ((Value.slice A6 (qq + 1) c6).ownBlock ≠ some g3) := Lib.hid (by
              rcases hat with h | h
              · rw [h]; exact HOb.out
              · rw [h]
                intro e
                injection e with e
                have := hZX.size
                omega)
            have HPc5 : Hid (∀ j u, (pv PL)[j]? = some u → w5.cell? ⟨g3, j, none⟩ = some u) := Lib.hid fun j u hj => hgr.cell ((hZX.cell (p := ⟨g3, j, none⟩) hgz).trans (HPcr.out j u hj)) (Ne.symm HOb.out)
            clear hgrow5 hat5 hown5 hsA hsB hbA hbB hbAB hfA hfB hZ hgr hat hZX
            go_wp2
            go_region
            go_wp2
            go_roundw
            case rel => exact ⟨k + 1, x + 1, y' + 1, qq + 1, c6, A6, _, _, by omega, by go_num, rfl, by go_num, by go_num, by rw [List.length_append, ← HQq.out]; rfl, by omega, by omega, by omega, by rw [HDd.out, HDr.out, eds2, HGe.out, List.append_assoc], HGo.out, HG6.out.below (below_drawn (Below.refl _ _) _), below_drawn HB5.out _, HOb5.out, by simpa using hg5, HPc5.out⟩
            case measure => simp [intOf]; omega
        · have hxx' : x < x' := by omega
          clear hne
          go_wp2
          go_region_held3 (fun w' => w'.cell? ⟨g3, k * 2, none⟩ = some (.int .i64 (x' : Int)) ∧ w'.cell? ⟨g3, k * 2 + 1, none⟩ = some (.int .i64 (y' : Int))) (with_reducible (first | exact HS5.out _ _ (hbB.alloc hbB.size _) hgrow5 | exact HS5.out _ _ (hbB.alloc hbB.size _).drew hgrow5 | exact HS5.out _ _ (hbB.drew.alloc hbB.size _) hgrow5 | exact HS4.out _ (by (repeat (first | exact Below.refl _ _ | exact hbA | exact hbB | refine Below.drew ?_ | refine Below.alloc ?_ (by first | exact Nat.le_refl _ | exact hbA.size | exact hbB.size | (simp; done) | (simp; omega)) _)); first | done | fail))) (first
            | ((refine step_append_lit (by rfl) _ _ _ (by rfl) i0 Try.underlying22 hi hz0 hz1 hz2 _ (by rfl) _ (tl A c x 1) lx (c - x) ((La.drop x).take lx) (by rfl) wr.heap.size wr (by (repeat (first | exact Below.refl _ _ | refine Below.drew ?_ | refine Below.alloc ?_ (by first | exact Nat.le_refl _ | (simp; done) | (simp; omega)) _)); first | done | fail) (Nat.le_refl _) (HVa.out _ (by (repeat (first | exact Below.refl _ _ | refine Below.drew ?_ | refine Below.alloc ?_ (by first | exact Nat.le_refl _ | (simp; done) | (simp; omega)) _)); first | done | fail)) (by omega) ?_); intro A4 c4 wA hsA hbA hfA)
            | ((refine step_append_lit (by rfl) _ _ _ (by rfl) i0 Try.underlying22 hi hz0 hz1 hz2 _ (by rfl) _ (tl D d y 1) ly (d - y) ((Lb.drop y).take ly) (by rfl) wA.heap.size wA (by (repeat (first | exact Below.refl _ _ | refine Below.drew ?_ | refine Below.alloc ?_ (by first | exact Nat.le_refl _ | (simp; done) | (simp; omega)) _)); first | done | fail) (Nat.le_refl _) (HVb.out _ (by (repeat (first | exact Below.refl _ _ | exact hbA | exact hbB | refine Below.drew ?_ | refine Below.alloc ?_ (by first | exact Nat.le_refl _ | exact hbA.size | exact hbB.size | (simp; done) | (simp; omega)) _)); first | done | fail)) (by omega) ?_); intro A5 c5 wB hsB hbAB hfB; have hbB : Below wr.heap.size wr wB := hbA.trans (hbAB.mono hbA.size))
            | ((refine step_append_at (by rfl) _ _ _ (by rfl) S0 39 k0 (.agg #[.int .i64 0, .slice none 0 0, .slice none 0 0]) 3 56 Try.underlying31 hk0 hk1 hk2 hk3 rfl (by omega) (.slice Av qq cc) qq vs (by rfl) (HOw.out _ (by first | exact hbB.alloc hbB.size _ | exact (hbB.alloc hbB.size _).drew | exact hbB.drew.alloc hbB.size _)) ⟨wB.heap.size, 0, none⟩ 1 1 [.int .i64 (x : Int), .slice A4 lx c4, .slice A5 ly c5] (by rfl) rfl (by exact fun j u hj => new_cells _ _ _ j u hj) (by intro u hu; simp at hu; rcases hu with rfl | rfl | rfl <;> rfl) (by unfold maxLen; omega) (by omega) (by have := hbB.size; simp; omega) ?_; intro v5 w5 hown5 hgrow5 hat5; (obtain ⟨A6, c6, rfl, _⟩ := own_slice hown5)))
            | fail)
          all_goals
            obtain ⟨Z, hZ, hgr, hat⟩ : ∃ Z, Below wB.heap.size wB Z ∧ Z.grownBy w5 (Value.slice Av qq cc).ownBlock ∧ ((Value.slice A6 (qq + 1) c6).ownBlock = (Value.slice Av qq cc).ownBlock ∨ (Value.slice A6 (qq + 1) c6).ownBlock = some Z.heap.size) := ⟨_, by first | exact alloc_below _ _ | exact (alloc_below _ _).drew | exact (Below.refl _ _).drew.alloc (Nat.le_refl _) _, hgrow5, hat5⟩
            have hZX : Below wr.heap.size wr Z := hbB.trans (hZ.mono hbB.size)
            have HG6 := Lib.hid ((HSt.out.below hZX).more (e := ⟨(x : Int), (La.drop x).take lx, (Lb.drop y).take ly⟩) (sqo_fresh ((hsA.below hbAB).below hZ) hfA hobz) (sqo_fresh (hsB.below hZ) (fun h b off e => Nat.le_trans hbA.size (hfB h b off e)) hobz) rfl hown5 hgr hat)
            obtain ⟨s1, s2⟩ := HS5.out Z w5 hZX hgr
            have HB5 := Lib.hid (Below.grown (HBr.out.trans (hZX.mono hrz)) hgr (Nat.le_trans hrz hZX.size) (fun g hg => (HSt.out.own.lt g hg).1))
            have hg5 : g3 < w5.heap.size := Nat.lt_of_lt_of_le (Nat.lt_of_lt_of_le hgz hZX.size) hgr.size
            have HOb5 : Hid ((Value.slice A6 (qq + 1) c6).ownBlock ≠ some g3) := Lib.hid (by
              rcases hat with h | h
              · rw [h]; exact HOb.out
              · rw [h]
                intro e
                injection e with e
                have := hZX.size
                omega)
            have HPc5 : Hid (∀ j u, (pv PL)[j]? = some u → w5.cell? ⟨g3, j, none⟩ = some u) := Lib.hid fun j u hj => hgr.cell ((hZX.cell (p := ⟨g3, j, none⟩) hgz).trans (HPcr.out j u hj)) (Ne.symm HOb.out)
            clear hgrow5 hat5 hown5 hsA hsB hbA hbB hbAB hfA hfB hZ hgr hat hZX
            go_wp2
            go_region
            go_wp2
            go_roundw
            case rel => exact ⟨k + 1, x' + 1, y' + 1, qq + 1, c6, A6, _, _, by omega, by go_num, rfl, by go_num, by go_num, by rw [List.length_append, ← HQq.out]; rfl, by omega, by omega, by omega, by rw [HDd.out, HDr.out, eds2, HGe.out, List.append_assoc], HGo.out, HG6.out.below (below_drawn (Below.refl _ _) _), below_drawn HB5.out _, HOb5.out, by simpa using hg5, HPc5.out⟩
            case measure => simp [intOf]; omega
    · have hkq : k = q + 1 := by omega
      have HFin : Hid (dif La Lb = K) := Lib.hid (by rw [HDd.out, List.drop_of_length_le (by have := HPLl.out; omega), eds2, List.append_nil])
      go_wp2
      go_ret
      exact ⟨⟨Av, qq, cc, rfl, by rw [HFin.out]; exact HSt.out.eds' HQq.out⟩, by rw [← HS0.out]; exact HBr.out⟩
end Go.Proofs.Ytklegjmlpaimpaa
