/-
  The contract of IDs.
-/
import Derived.Test.YtmnbobcgjnickaaGreatDoorIds
namespace Go.Proofs.YtmnbobcgjnickaaGreatDoor
open Go.RowKit (wrap32 wrap64 intOf Hid Below)
open Lab Lcs
theorem idsuf_take {l : List Ut} {k : Nat} {u : Ut} (h : l[k]? = some u) : (Ut.alls (l.take (k + 1))).map Ut.id = (Ut.alls (l.take k)).map Ut.id ++ u.ids := by
 rw [alls_take h, List.map_append]
 rfl
theorem ids_length (u : Ut) : u.ids.length = u.count := by
 unfold Ut.ids
 rw [List.length_map, all_length]
theorem mapids_len (l : List Ut) : ((Ut.alls l).map Ut.id).length = Ut.counts l := by rw [List.length_map, alls_length]
theorem IdK.cell {g : Nat} {r : Option Nat} {W w' : World} (h : IdK g r W w') {p : Addr} (hp : p.block < W.heap.size) (hg : p.block ≠ g) (hr : some p.block ≠ r) : w'.cell? p = W.cell? p := World.cell?_of_block (h.2 p.block hp hg hr)
set_option maxHeartbeats 4000000 in
set_option maxRecDepth 100000 in
theorem everyids_any (w0 : World) (g : Nat) (N : Nat) : ∀ (u : Ut) (v : Value) (W : World) (L : List Trip) (A : Option Addr) (n c : Nat), u.count ≤ N → UtV w0 u v → IdSt w0 g W L A n c → n + u.count ≤ 1000000000 →
   Calls Tryz.prog 86 #[v, .func (.func 87) #[] #[.pointer (some ⟨g, 0, none⟩)]] W fun e w' => e = .returned (.bool true) ∧ ∃ A' n' c', IdSt w0 g w' (L ++ u.ids) A' n' c' ∧ IdK g (Value.slice A n c).ownBlock W w' ∧ IdR (Value.slice A n c).ownBlock (Value.slice A' n' c').ownBlock W := by
 induction N with
 | zero => intro u v W L A n c hN _ _ _; have := count_pos u; omega
 | succ N ih =>
   intro u v W L A n c hN hV hS hM
   have hV0 := hV
   cases u with
   | mk id kind label head words kids =>
     obtain ⟨Ah, Aw, Ak, nh, ch, nw, cw, nk, ck, rfl, hok, hWh, hWw, hR⟩ := hV.open_
     have HR := Lib.hid hR
     have hnk := hR.2.1
     have hck := hR.2.2.1
     have HKl := Lib.hid hR.1
     have HS := Lib.hid hS
     have HI := Lib.hid ih
     rw [count_mk] at hN hM
     have HN := Lib.hid hN
     have HM := Lib.hid hM
     have hSa := hS.alloc (.cells #[.int .i64 id.x, .int .i64 id.y, .int .i64 id.z, .int .i64 kind, .string label, .slice Ah nh ch, .slice Aw nw cw, .slice Ak nk ck] 27)
     have HBx := Lib.hid (Box8.new W 27 (.int .i64 id.x) (.int .i64 id.y) (.int .i64 id.z) (.int .i64 kind) (.string label) (.slice Ah nh ch) (.slice Aw nw cw) (.slice Ak nk ck))
     have HC := Lib.hid (idclo_any w0 g _ _ _ L A n c hV0 hSa (by omega))
     have HG := Lib.hid hS.2.2.1
     have HOb := Lib.hid hS.slot
     have HK0 := Lib.hid (IdK.alloc g (Value.slice A n c).ownBlock W (.cells #[.int .i64 id.x, .int .i64 id.y, .int .i64 id.z, .int .i64 kind, .string label, .slice Ah nh ch, .slice Aw nw cw, .slice Ak nk ck] 27))
     have HL0 := Lib.hid (alloc_lt W (.cells #[.int .i64 id.x, .int .i64 id.y, .int .i64 id.z, .int .i64 kind, .string label, .slice Ah nh ch, .slice Aw nw cw, .slice Ak nk ck] 27))
     have HNL := Lib.hid hS.2.2.2.2.2.1
     have HId : Hid ((Ut.mk id kind label head words kids).ids = id :: (Ut.alls kids).map Ut.id) := Lib.hid (by unfold Ut.ids; rw [all_mk]; rfl)
     obtain ⟨n0, n1, n2, n3, n4, n5, n6, n7⟩ := HBx.out
     clear hV hV0 hR hS hSa ih hN hM hok hWh hWw
     go_enter Tryz.func86, Tryz.ntmps86
     go_wp2_with (go_at_call 87; ((with_reducible refine (HC.out).mono ?_); rintro e w1 ⟨rfl, A1, c1, hS1, hK1, hR1⟩; have m7 := (hK1.cell (p := ⟨W.heap.size, 7, none⟩) HL0.out (by have := HG.out; show W.heap.size ≠ g; omega) (by intro h; have := (HOb.out _ h.symm).2; exact absurd this (Nat.lt_irrefl _))).trans HBx.out.2.2.2.2.2.2.2; have HS1 := Lib.hid hS1; have HK1 := Lib.hid (HK0.out.trans (Or.inl rfl) hK1); have HR1 := Lib.hid hR1; clear hS1 hK1 hR1))
     have HR1 : Hid (IdR (Value.slice A n c).ownBlock (Value.slice A1 (n + 1) c1).ownBlock W) := Lib.hid (by
       rcases HR1.out with h | ⟨j, h, hj⟩
       · exact Or.inl h
       · exact Or.inr ⟨j, h, Nat.le_trans (Nat.le_of_lt HL0.out) hj⟩)
     go_loopw [14] (fun i wr => ∃ (k : Nat) (A' : Option Addr) (n' c' : Nat), k ≤ nk ∧ i = .int .i64 k ∧ IdSt w0 g wr (L ++ (id :: (Ut.alls (kids.take k)).map Ut.id)) A' n' c' ∧ IdK g (Value.slice A n c).ownBlock W wr ∧ IdR (Value.slice A n c).ownBlock (Value.slice A' n' c').ownBlock W) (fun i _ => nk - (intOf i).toNat)
     case atStart => exact ⟨0, A1, n + 1, c1, Nat.zero_le _, rfl, HS1.out, HK1.out, HR1.out⟩
     case round =>
       rename World => wr
       obtain ⟨k, A', n', c', hk, rfl, hS', hK', hR'⟩ := hrel
       have HS' := Lib.hid hS'
       have HK' := Lib.hid hK'
       have HR' := Lib.hid hR'
       have hbr := hS'.1
       clear hS' hK' hR'
       by_cases hlt : k < nk
       · obtain ⟨b, off, u, i1, i2, i3, kd, lb, Bh, Bw, Bk, mh, dh, mw, dw, mk, dk, rfl, hblt, hu, hUV, c0, c1, c2, c3, c4, c5, c6, c7⟩ := HR.out.at0 hbr hlt
         have hcm := counts_mem hu
         have hit := idsuf_take hu
         have hn' := HS'.out.2.2.2.2.2.1
         rw [List.length_append, List.length_cons, mapids_len, ← HNL.out] at hn'
         have hN := HN.out
         have hM := HM.out
         obtain ⟨n0, n1, n2, n3, n4, n5, n6, n7⟩ := Box8.new wr 27 (.int .i64 i1) (.int .i64 i2) (.int .i64 i3) (.int .i64 kd) (.string lb) (.slice Bh mh dh) (.slice Bw mw dw) (.slice Bk mk dk)
         have HC := Lib.hid (HI.out u _ _ _ _ _ _ (by omega) hUV (HS'.out.alloc (.cells #[.int .i64 i1, .int .i64 i2, .int .i64 i3, .int .i64 kd, .string lb, .slice Bh mh dh, .slice Bw mw dw, .slice Bk mk dk] 27)) (by omega))
         have HKX := Lib.hid (HK'.out.trans HR'.out (IdK.alloc g (Value.slice A' n' c').ownBlock wr (.cells #[.int .i64 i1, .int .i64 i2, .int .i64 i3, .int .i64 kd, .string lb, .slice Bh mh dh, .slice Bw mw dw, .slice Bk mk dk] 27)))
         have HLX := Lib.hid (Nat.le_trans HK'.out.1 (Nat.le_of_lt (alloc_lt wr (.cells #[.int .i64 i1, .int .i64 i2, .int .i64 i3, .int .i64 kd, .string lb, .slice Bh mh dh, .slice Bw mw dw, .slice Bk mk dk] 27))))
         have HT := Lib.hid hit
         clear hcm hit hn' hN hM hu hUV hbr
         go_wp2_with (go_at_call 86; ((with_reducible refine (HC.out).mono ?_); rintro e w2 ⟨rfl, A2, n2, c2, hS2, hK2, hR2⟩; have HS2 := Lib.hid hS2; have HK2 := Lib.hid (HKX.out.trans HR'.out hK2); have HR2 := Lib.hid (HR'.out.trans hR2 HLX.out); clear hS2 hK2 hR2))
         go_roundw
         case rel => exact ⟨k + 1, A2, n2, c2, by omega, by go_num, by
           have h := HS2.out
           rw [List.append_assoc, List.cons_append, ← HT.out] at h
           exact h, HK2.out, HR2.out⟩
         case measure => simp [intOf]; omega
       · obtain rfl : k = nk := by omega
         have HT : Hid (kids.take k = kids) := Lib.hid (List.take_of_length_le (by rw [← HKl.out]; exact Nat.le_refl _))
         go_wp2_with fail
         go_ret
         exact ⟨rfl, A', n', c', by have h := HS'.out; rw [HT.out, ← HId.out] at h; exact h, HK'.out, HR'.out⟩
mutual
theorem UtC.ok {w : World} : ∀ (u : Ut) (vs : List Value), UtC w u vs → ∀ x ∈ u.all, x.id.ok ∧ inI x.kind
 | .mk id kind label head words kids, vs, h => by
   unfold UtC at h
   obtain ⟨_, _, _, _, _, _, _, _, _, _, _, _, ho, _, _, _, _, _, _, h7⟩ := h
   intro x hx
   rw [all_mk] at hx
   rcases List.mem_cons.1 hx with rfl | hx
   · exact ho
   · exact UtR.ok _ _ kids h7 x hx
theorem UtR.ok {w : World} : ∀ (b off : Nat) (l : List Ut), UtR w b off l → ∀ x ∈ Ut.alls l, x.id.ok ∧ inI x.kind
 | _, _, [], _ => by intro x hx; simp [Ut.alls] at hx
 | b, off, u :: r, h => by
   unfold UtR at h
   obtain ⟨_, ⟨vs, h1, _⟩, h3⟩ := h
   intro x hx
   simp only [Ut.alls, List.mem_append] at hx
   rcases hx with hx | hx
   · exact UtC.ok u vs h1 x hx
   · exact UtR.ok b (off + 8) r h3 x hx
end
theorem UtV.oks {w : World} {u : Ut} {v : Value} (h : UtV w u v) : ∀ x ∈ u.all, x.id.ok ∧ inI x.kind := by
 obtain ⟨vs, _, h⟩ := h
 exact UtC.ok u vs h
theorem UtV.ids_ok {w : World} {u : Ut} {v : Value} (h : UtV w u v) : ∀ t ∈ u.ids, t.ok := by
 intro t ht
 obtain ⟨x, hx, rfl⟩ := List.mem_map.1 ht
 exact (h.oks x hx).1
theorem box_st (w : World) (o : Obj) (ty : TypeId) : IdSt w (w.heap.size + 1) ((w.alloc o).alloc (.cells #[.slice none 0 0] ty)) [] none 0 0 := by
 have hb := below2 w o (.cells #[.slice none 0 0] ty)
 refine ⟨hb, by omega, by simp, ?_, ?_, rfl, World.ownsRow_nil _ _ _ _, ?_⟩
 · rw [World.cell?_alloc_at _ _ _ _ (by simp)]; rfl
 · rw [World.frozen?_alloc_at _ _ _ _ (by simp)]
 · intro h; cases h
set_option maxHeartbeats 4000000 in
set_option maxRecDepth 100000 in
theorem ids_any (u : Ut) (v : Value) (w : World) (hV : UtV w u v) (hM : u.count ≤ 1000000000) :
   Calls Tryz.prog 60 #[v] w fun e w' => (∃ A n c, e = .returned (.slice A n c) ∧ w'.ownsRow w.heap.size 23 3 (.slice A n c) n (fl idc u.ids)) ∧ Below w.heap.size w w' := by
 have hV0 := hV
 cases u with
 | mk id kind label head words kids =>
   obtain ⟨Ah, Aw, Ak, nh, ch, nw, cw, nk, ck, rfl, hok, hWh, hWw, hR⟩ := hV.open_
   obtain ⟨n0, n1, n2, n3, n4, n5, n6, n7⟩ := Box8.new w 27 (.int .i64 id.x) (.int .i64 id.y) (.int .i64 id.z) (.int .i64 kind) (.string label) (.slice Ah nh ch) (.slice Aw nw cw) (.slice Ak nk ck)
   have hb2 := below2 w (.cells #[.int .i64 id.x, .int .i64 id.y, .int .i64 id.z, .int .i64 kind, .string label, .slice Ah nh ch, .slice Aw nw cw, .slice Ak nk ck] 27) (.cells #[.slice none 0 0] 56)
   have HS := Lib.hid (box_st w (.cells #[.int .i64 id.x, .int .i64 id.y, .int .i64 id.z, .int .i64 kind, .string label, .slice Ah nh ch, .slice Aw nw cw, .slice Ak nk ck] 27) 56)
   have HC := Lib.hid (everyids_any w (w.heap.size + 1) _ _ _ _ [] none 0 0 (Nat.le_refl _) hV0 HS.out (by omega))
   clear hR hV hV0 hok hWh hWw hb2
   go_enter Tryz.func60, Tryz.ntmps60
   go_wp2_with fail
   with_reducible refine (HC.out).mono ?_
   rintro e w1 ⟨rfl, A', n', c', hS', _, _⟩
   have m0 := hS'.2.2.2.1
   have HS' := Lib.hid hS'
   clear hS'
   go_wp2_with fail
   go_ret
   exact ⟨⟨A', n', c', rfl, HS'.out.2.2.2.2.2.2.1⟩, HS'.out.1⟩
end Go.Proofs.YtmnbobcgjnickaaGreatDoor
