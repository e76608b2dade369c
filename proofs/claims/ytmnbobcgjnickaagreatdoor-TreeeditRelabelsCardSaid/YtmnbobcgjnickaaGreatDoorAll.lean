/-
  The reference's All, Alike; equality of lists of IDs.
-/
import Derived.Test.YtmnbobcgjnickaaGreatDoorIdt
namespace Go.Proofs.YtmnbobcgjnickaaGreatDoor
open Go.RowKit (wrap32 wrap64 intOf Hid Below)
open Lab Lcs
theorem ids_mk (id : Trip) (kind : Int) (label : Str) (head words : List Wd) (kids : List Ut) : (Ut.mk id kind label head words kids).ids = id :: (Ut.alls kids).map Ut.id := by
 unfold Ut.ids
 rw [all_mk]
 rfl
theorem lit_own (w : World) (base : Nat) (hb : base ≤ w.heap.size) (t : Trip) : (w.alloc (.cells #[.int .i64 t.x, .int .i64 t.y, .int .i64 t.z] 23)).ownsRow base 23 3 (.slice (some ⟨w.heap.size, 0, none⟩) 1 1) 1 (fl idc [t]) :=
 World.ownsRow_lit w #[.int .i64 t.x, .int .i64 t.y, .int .i64 t.z] 1 hb (by decide) rfl
theorem own_mono {w : World} {base base' : Nat} {e : TypeId} {size : Nat} {v : Value} {n : Nat} {xs : List Value} (h : w.ownsRow base e size v n xs) (hb : base' ≤ base) : w.ownsRow base' e size v n xs := by
 refine ⟨h.1, ?_⟩
 rcases h.2 with h2 | ⟨g, cap, cur, h1, h2, h3⟩
 · exact Or.inl h2
 · exact Or.inr ⟨g, cap, cur, h1, Nat.le_trans hb h2, h3⟩
set_option maxHeartbeats 4000000 in
set_option maxRecDepth 100000 in
theorem rall_any (N : Nat) : ∀ (u : Ut) (v : Value) (w : World), u.count ≤ N → u.count ≤ 1000000000 → UtV w u v →
   Calls Tryz.prog 24 #[v] w fun e w' => (∃ A n c, e = .returned (.slice A n c) ∧ w'.ownsRow w.heap.size 23 3 (.slice A n c) n (fl idc u.ids)) ∧ Below w.heap.size w w' := by
 induction N with
 | zero => intro u v w hN _ _; have := count_pos u; omega
 | succ N ih =>
   intro u v w hN hM hV
   cases u with
   | mk id kind label head words kids =>
     obtain ⟨Ah, Aw, Ak, nh, ch, nw, cw, nk, ck, rfl, hok, hWh, hWw, hR⟩ := hV.open_
     have HR := Lib.hid hR
     have hnk := hR.2.1
     have hck := hR.2.2.1
     have HKl := Lib.hid hR.1
     rw [count_mk] at hN hM
     have HN := Lib.hid hN
     have HM := Lib.hid hM
     have HI := Lib.hid ih
     obtain ⟨i0, hi, hz0, hz1, hz2⟩ := info_parts info_id
     have HBx := Lib.hid (Box8.new w 27 (.int .i64 id.x) (.int .i64 id.y) (.int .i64 id.z) (.int .i64 kind) (.string label) (.slice Ah nh ch) (.slice Aw nw cw) (.slice Ak nk ck))
     obtain ⟨n0, n1, n2, n3, n4, n5, n6, n7⟩ := HBx.out
     have HOw := Lib.hid (lit_own (w.alloc (.cells #[.int .i64 id.x, .int .i64 id.y, .int .i64 id.z, .int .i64 kind, .string label, .slice Ah nh ch, .slice Aw nw cw, .slice Ak nk ck] 27)) w.heap.size (Nat.le_of_lt (alloc_lt w _)) id)
     have hEs : (w.alloc (.cells #[.int .i64 id.x, .int .i64 id.y, .int .i64 id.z, .int .i64 kind, .string label, .slice Ah nh ch, .slice Aw nw cw, .slice Ak nk ck] 27)).heap.size = w.heap.size + 1 := by simp
     have HBs : Hid (Below (w.heap.size + 1) (w.alloc (.cells #[.int .i64 id.x, .int .i64 id.y, .int .i64 id.z, .int .i64 kind, .string label, .slice Ah nh ch, .slice Aw nw cw, .slice Ak nk ck] 27)) ((w.alloc (.cells #[.int .i64 id.x, .int .i64 id.y, .int .i64 id.z, .int .i64 kind, .string label, .slice Ah nh ch, .slice Aw nw cw, .slice Ak nk ck] 27)).alloc (.cells #[.int .i64 id.x, .int .i64 id.y, .int .i64 id.z] 23))) := Lib.hid (by have h := alloc_below (w.alloc (.cells #[.int .i64 id.x, .int .i64 id.y, .int .i64 id.z, .int .i64 kind, .string label, .slice Ah nh ch, .slice Aw nw cw, .slice Ak nk ck] 27)) (.cells #[.int .i64 id.x, .int .i64 id.y, .int .i64 id.z] 23); rwa [hEs] at h)
     have HOw2 : Hid (((w.alloc (.cells #[.int .i64 id.x, .int .i64 id.y, .int .i64 id.z, .int .i64 kind, .string label, .slice Ah nh ch, .slice Aw nw cw, .slice Ak nk ck] 27)).alloc (.cells #[.int .i64 id.x, .int .i64 id.y, .int .i64 id.z] 23)).ownsRow (w.heap.size + 1) 23 3 (.slice (some ⟨w.heap.size + 1, 0, none⟩) 1 1) 1 (fl idc [id])) := Lib.hid (by
       have h := lit_own (w.alloc (.cells #[.int .i64 id.x, .int .i64 id.y, .int .i64 id.z, .int .i64 kind, .string label, .slice Ah nh ch, .slice Aw nw cw, .slice Ak nk ck] 27)) (w.heap.size + 1) (by rw [hEs]; exact Nat.le_refl _) id
       rwa [hEs] at h)
     clear hR hV ih hN hM hok hWh hWw HOw hEs
     go_enter Tryz.func24, Tryz.ntmps24
     go_wp2_with fail
     go_loopw [3, 4] (fun v i wr => ∃ (k n cc : Nat) (Av : Option Addr), k ≤ nk ∧ i = .int .i64 k ∧ v = .slice Av n cc ∧ n = 1 + Ut.counts (kids.take k) ∧ wr.ownsRow (w.heap.size + 1) 23 3 (.slice Av n cc) n (fl idc (id :: (Ut.alls (kids.take k)).map Ut.id)) ∧ Below (w.heap.size + 1) (w.alloc (.cells #[.int .i64 id.x, .int .i64 id.y, .int .i64 id.z, .int .i64 kind, .string label, .slice Ah nh ch, .slice Aw nw cw, .slice Ak nk ck] 27)) wr) (fun _ i _ => nk - (intOf i).toNat)
     case atStart => exact ⟨0, 1, 1, _, Nat.zero_le _, rfl, rfl, rfl, HOw2.out, HBs.out⟩
     case round =>
       rename World => wr
       obtain ⟨k, n, cc, Av, hk, rfl, rfl, hn, hown, hbr⟩ := hrel
       have HO := Lib.hid hown
       have HBr := Lib.hid hbr
       obtain ⟨hbw, hsz⟩ := in_box hbr
       have HSz := Lib.hid hbr.size
       obtain ⟨p0, p1, p2, p3, p4, p5, p6, p7⟩ := HBx.out.below hbr (Nat.lt_succ_self _)
       have HNn := Lib.hid hn
       clear hown hbr hn
       by_cases hlt : k < nk
       · obtain ⟨b, off, u, i1, i2, i3, kd, lb, Bh, Bw, Bk, mh, dh, mw, dw, mk, dk, rfl, hblt, hu, hUV, c0, c1, c2, c3, c4, c5, c6, c7⟩ := HR.out.at_ hbw hlt
         have hcm := counts_mem hu
         have hct := counts_take hu
         have hN := HN.out
         have hM := HM.out
         have HC := Lib.hid (HI.out u _ _ (by omega) (by omega) hUV)
         have HT := Lib.hid (idsuf_take hu)
         have HCt := Lib.hid hct
         have HCm := Lib.hid hcm
         clear hu hUV hcm hct hN hM
         go_wp2_with fail
         with_reducible refine (HC.out).mono ?_
         rintro e w2 ⟨⟨A2, n2, c2, rfl, hown2⟩, hb2⟩
         have hfq := Fq.of_own idc_len (by decide) hown2
         have HL2 : Hid (n2 = u.count) := Lib.hid (by rw [← ids_length]; exact hfq.1.symm)
         have HO2 := Lib.hid (own_below HO.out hb2)
         have HB2 := Lib.hid (HBr.out.trans (hb2.mono hsz))
         have hcells : n2 ≠ 0 := by have := count_pos u; have := HL2.out; omega
         obtain ⟨g, hA2⟩ : ∃ g, A2 = some ⟨g, 0, none⟩ := by
           obtain ⟨g, cap, hv, _⟩ := hown2.form (by omega)
           injection hv with a b c
           exact ⟨g, a⟩
         subst hA2
         have HF := Lib.hid (fun j u hj => (hown2.cellAt (g := g) j (by have h1 := (List.getElem?_eq_some_iff.1 hj).1; have h2 := hown2.1; omega)).trans hj : ∀ (j : Nat) (u_1 : Value), (fl idc u.ids)[j]? = some u_1 → w2.cell? ⟨g, j, none⟩ = some u_1)
         have HLn := Lib.hid hown2.1
         have HSz2 := Lib.hid hb2.size
         have h9 : n + n2 ≤ 1000000000 := by have := HNn.out; have := HCm.out; have := HM.out; have := HL2.out; omega
         clear hown2 hb2 hfq hcells
         go_wp2_with (at_builtin; refine wpList_append_own_at _ rfl _ _ 56 rfl (w.heap.size + 1) 23 i0 (.agg #[.int .i64 0, .int .i64 0, .int .i64 0]) 3 24 Tryz.underlying56 hi hz0 hz1 hz2 rfl (by decide) _ _ _ rfl HO2.out ⟨g, 0, none⟩ n2 c2 (fl idc u.ids) rfl HLn.out ?c1 ?c2 ?c3 ?c4 ?c5 ?_)
         case c1 => exact fun j u hj => by rw [Go.WideShapes.add_plain, Nat.zero_add]; exact HF.out j u hj
         case c2 => exact idc_one _
         case c3 => unfold maxLen; omega
         case c4 => omega
         case c5 => have h1 := HSz.out; have h2 := HSz2.out; simp at h1; omega
         intro v' w3 hown' hgrow _ _
         obtain ⟨A', c', rfl, _⟩ := own_slice hown'
         have HO' := Lib.hid hown'
         have HB3 := Lib.hid (HB2.out.grown hgrow (by have h1 := HSz.out; have h2 := HSz2.out; simp at h1; omega) (fun k hk => (HO2.out.lt k hk).1))
         clear hown' hgrow
         go_wp2_with fail
         go_roundw
         case rel => exact ⟨k + 1, n + n2, c', A', by omega, by go_num, rfl, by have := HNn.out; have := HCt.out; have := HL2.out; omega, by
           have h := HO'.out
           rw [← fl_app, List.cons_append, ← HT.out] at h
           exact h, HB3.out⟩
         case measure => simp [intOf]; omega
       · obtain rfl : k = nk := by omega
         have HT : Hid (kids.take k = kids) := Lib.hid (List.take_of_length_le (by rw [← HKl.out]; exact Nat.le_refl _))
         go_wp2_with fail
         go_ret
         exact ⟨⟨_, _, _, rfl, by
           have h := HO.out
           rw [HT.out] at h
           rw [ids_mk]
           exact own_mono h (Nat.le_succ _)⟩, hbw⟩
end Go.Proofs.YtmnbobcgjnickaaGreatDoor
