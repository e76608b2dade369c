/-
  The contract of validIDs.
-/
import Derived.Test.YtmnbobcgjnickaaGreatDoorChi
import Derived.Test.YtmnbobcgjnickaaGreatDoorNum
namespace Go.Proofs.YtmnbobcgjnickaaGreatDoor
open Go.RowKit (wrap32 wrap64 intOf Hid Below)
open Lab Lcs
open Go.Maps Go.WideMaps
theorem ids_snoc {l : List Trip} {k : Nat} {t : Trip} (h : l[k]? = some t) : l.take (k + 1) = l.take k ++ [t] := by
 obtain ⟨hk, he⟩ := List.getElem?_eq_some_iff.1 h
 rw [List.take_succ_eq_append_getElem hk, he]
theorem ids_dup {l : List Trip} {k : Nat} {t : Trip} (h : l[k]? = some t) (hm : inL (l.take k) t = true) : decide l.Nodup = false := by
 rw [decide_eq_false_iff_not]
 intro hn
 rw [← List.take_append_drop (k + 1) l, List.nodup_append, ids_snoc h, nodup_snoc] at hn
 exact hn.1.2 (inL_iff.1 hm)
theorem own_kept {w w' : World} {base mb : Nat} {e : TypeId} {size : Nat} {v : Value} {n : Nat} {xs : List Value} (h : w.ownsRow base e size v n xs) (hg : w.grownBy w' (some mb)) (hlt : mb < base) : w'.ownsRow base e size v n xs :=
 h.kept hg (by
   cases hv : v.ownBlock with
   | none => exact Or.inl rfl
   | some j =>
     refine Or.inr ?_
     intro e
     injection e with e
     have := (h.lt j hv).1
     omega)
set_option maxHeartbeats 4000000 in
set_option maxRecDepth 100000 in
theorem validids_any (u : Ut) (v : Value) (w : World) (hV : UtV w u v) (hM : u.count ≤ 1000000000) :
   Calls Tryz.prog 93 #[v] w fun e w' => e = .returned (.bool (idsB u)) ∧ Below w.heap.size w w' := by
 have hV0 := hV
 have hok := hV.ids_ok
 have hidk : ∃ ix iy iz kd, u.id = ⟨ix, iy, iz⟩ ∧ u.kind = kd := ⟨_, _, _, _, rfl, rfl⟩
 have hpos := count_pos u
 cases u with
 | mk id kind label head words kids =>
   obtain ⟨Ah, Aw, Ak, nh, ch, nw, cw, nk, ck, rfl, _, _, _, _⟩ := hV.open_
   obtain ⟨ix, iy, iz⟩ := id
   obtain ⟨U, hU⟩ : ∃ U, U = Ut.mk ⟨ix, iy, iz⟩ kind label head words kids := ⟨_, rfl⟩
   have HUid : Hid (U.id = ⟨ix, iy, iz⟩) := Lib.hid (by rw [hU]; rfl)
   have HUk : Hid (U.kind = kind) := Lib.hid (by rw [hU]; rfl)
   rw [← hU] at hV0 hok hM ⊢
   have HOk := Lib.hid hok
   have hb0 := alloc_below w (.cells #[.int .i64 ix, .int .i64 iy, .int .i64 iz, .int .i64 kind, .string label, .slice Ah nh ch, .slice Aw nw cw, .slice Ak nk ck] 27)
   have HB0 := Lib.hid hb0
   have HBx := Lib.hid (Box8.new w 27 (.int .i64 ix) (.int .i64 iy) (.int .i64 iz) (.int .i64 kind) (.string label) (.slice Ah nh ch) (.slice Aw nw cw) (.slice Ak nk ck))
   have HL0 := Lib.hid (alloc_lt w (.cells #[.int .i64 ix, .int .i64 iy, .int .i64 iz, .int .i64 kind, .string label, .slice Ah nh ch, .slice Aw nw cw, .slice Ak nk ck] 27))
   have hEs : (w.alloc (.cells #[.int .i64 ix, .int .i64 iy, .int .i64 iz, .int .i64 kind, .string label, .slice Ah nh ch, .slice Aw nw cw, .slice Ak nk ck] 27)).heap.size = w.heap.size + 1 := by simp
   have HEs := Lib.hid hEs
   have HUn := Lib.hid (unnumbered_any U _ _ (hV0.below hb0))
   have HV0 := Lib.hid hV0
   have hmm : ∀ (t : TypeId) (w : World), (Instr.makeMap t none).run Tryz.prog w = .ok (.map (some w.heap.size)) (w.alloc (.map #[] 0)) := fun _ _ => rfl
   have HE0 : Hid (idsB U = (zeroIds U || (decide U.ids.Nodup && (decide (U.id = .zero) == decide (U.kind = 0))))) := Lib.hid rfl
   have hlen : U.ids.length ≤ 1000000000 := by rw [ids_length]; exact hM
   obtain ⟨n0, n1, n2, n3, n4, n5, n6, n7⟩ := HBx.out
   clear hV hV0 hok hU hidk hb0 hpos hEs
   cases hz : zeroIds U with
   | true =>
     rw [hz] at HUn HE0
     clear hz
     go_enter Tryz.func93, Tryz.ntmps93
     go_wp2_with fail
     with_reducible refine (HUn.out).mono ?_
     rintro e w1 ⟨rfl, hb1⟩
     go_wp2_with fail
     go_ret
     exact ⟨ret_bool (by rw [HE0.out]; rfl), HB0.out.trans (hb1.mono HB0.out.size)⟩
   | false =>
     rw [hz] at HUn HE0
     clear hz
     go_enter Tryz.func93, Tryz.ntmps93
     go_wp2_with fail
     with_reducible refine (HUn.out).mono ?_
     rintro e w1 ⟨rfl, hb1⟩
     have HX1 := Lib.hid (HB0.out.trans (hb1.mono HB0.out.size))
     have hx1 := HBx.out.below hb1 HL0.out
     have hl1 := Nat.lt_of_lt_of_le HL0.out hb1.size
     have hbm := alloc_below w1 (.map #[] 0)
     have HXm := Lib.hid (HX1.out.trans (hbm.mono HX1.out.size))
     have HBxm := Lib.hid (hx1.below hbm hl1)
     obtain ⟨p0, p1, p2, p3, p4, p5, p6, p7⟩ := HBxm.out
     have HB1m : Hid (Below (w.heap.size + 1) (w.alloc (.cells #[.int .i64 ix, .int .i64 iy, .int .i64 iz, .int .i64 kind, .string label, .slice Ah nh ch, .slice Aw nw cw, .slice Ak nk ck] 27)) (w1.alloc (.map #[] 0))) := Lib.hid ((hb1.mono (by have := HEs.out; omega)).trans (hbm.mono (by have := hb1.size; have := HEs.out; omega)))
     have HMp := Lib.hid (World.ownsMap_made w1 Tryz.prog 23 (plainElem (H := Unit) Tryz.prog 4))
     have HI := Lib.hid (ids_any U _ _ (HV0.out.below HXm.out) hM)
     have HEm : Hid ((w1.alloc (.map #[] 0)).heap.size = w1.heap.size + 1) := Lib.hid (by simp)
     clear hx1 hbm hb1
     go_wp2_with fail
     with_reducible refine (HI.out).mono ?_
     rintro e w2 ⟨⟨A, n, c, rfl, hown⟩, hb2⟩
     rw [HEm.out] at hown hb2
     have hnL : U.ids.length = n := (Fq.of_own idc_len (by decide) hown).1
     have HNL := Lib.hid hnL
     have hnc := (Fq.of_own idc_len (by decide) hown).2.1
     have hcc := (Fq.of_own idc_len (by decide) hown).2.2.1
     have HO := Lib.hid hown
     have HMp2 := Lib.hid (map_below HMp.out (hb2.mono (by have := HEm.out; omega)))
     have HB2 := Lib.hid (HB1m.out.trans (hb2.mono (by omega)))
     have hn9 : n ≤ 1000000000 := by omega
     clear hown hb2 hnL hlen
     go_wp2_with fail
     go_loopw [12] (fun i wr => ∃ (k : Nat) (D : DataW Unit), k ≤ n ∧ i = .int .i64 k ∧ wr.ownsMap Tryz.prog 23 (plainElem (H := Unit) Tryz.prog 4) w1.heap.size k D ∧ SetA kid Trip.ok D (U.ids.take k) ∧ (U.ids.take k).Nodup ∧ wr.ownsRow (w1.heap.size + 1) 23 3 (.slice A n c) n (fl idc U.ids) ∧ Below (w.heap.size + 1) (w.alloc (.cells #[.int .i64 ix, .int .i64 iy, .int .i64 iz, .int .i64 kind, .string label, .slice Ah nh ch, .slice Aw nw cw, .slice Ak nk ck] 27)) wr) (fun i _ => n - (intOf i).toNat)
     case atStart => exact ⟨0, .map [], Nat.zero_le _, rfl, HMp2.out, SetA.start _ _, by simp, HO.out, HB2.out⟩
     case round =>
       rename World => wr
       obtain ⟨k, D, hk, rfl, hmap, hset, hnd, hrow, hbr⟩ := hrel
       have HMa := Lib.hid hmap
       have HSe := Lib.hid hset
       have HNd := Lib.hid hnd
       have HRo := Lib.hid hrow
       have HBr := Lib.hid hbr
       have HBw := Lib.hid (in_box hbr).1
       have HMl := Lib.hid hmap.lt
       obtain ⟨b0, b1, b2, b3, b4, b5, b6, b7⟩ := HBx.out.below hbr (Nat.lt_succ_self _)
       have hFq := Fq.of_own idc_len (by decide) hrow
       clear hmap hset hnd hrow hbr
       by_cases hlt : k < n
       · obtain ⟨b, off, t, rfl, hblt, ht, c0, c1, c2⟩ := Ids_at hFq (Below.refl _ _) hlt
         have hbX := alloc_below wr (.cells #[.int .i64 t.x, .int .i64 t.y, .int .i64 t.z] 23)
         have HX := Lib.hid hbX
         have htk := HOk.out t (List.mem_of_getElem? ht)
         have hlook := look_id (map_below HMa.out hbX) HSe.out t htk
         have HKy := Lib.hid (keyOf_id t htk)
         have HTk := Lib.hid htk
         have HTt := Lib.hid ht
         have k0 : (wr.alloc (.cells #[.int .i64 t.x, .int .i64 t.y, .int .i64 t.z] 23)).cell? ⟨wr.heap.size, 0, none⟩ = some (.int .i64 t.x) := by rw [World.cell?_alloc_at _ _ _ _ rfl]; rfl
         have k1 : (wr.alloc (.cells #[.int .i64 t.x, .int .i64 t.y, .int .i64 t.z] 23)).cell? ⟨wr.heap.size, 1, none⟩ = some (.int .i64 t.y) := by rw [World.cell?_alloc_at _ _ _ _ rfl]; rfl
         have k2 : (wr.alloc (.cells #[.int .i64 t.x, .int .i64 t.y, .int .i64 t.z] 23)).cell? ⟨wr.heap.size, 2, none⟩ = some (.int .i64 t.z) := by rw [World.cell?_alloc_at _ _ _ _ rfl]; rfl
         clear hbX htk ht hFq
         cases hin : inL (U.ids.take k) t with
         | true =>
           have HE := Lib.hid (ids_dup HTt.out hin)
           rw [hin] at hlook
           clear hin
           go_wp2
           go_ret
           exact ⟨ret_bool (by rw [HE0.out, HE.out]; rfl), HBw.out.trans (HX.out.mono HBw.out.size)⟩
         | false =>
           have HIn := Lib.hid hin
           rw [hin] at hlook
           clear hin
           go_wp2_with (first
             | (at_mapUpdate; refine wpList_mapUpdate_own _ rfl _ _ _ 53 rfl 23 4 idLaw Tryz.underlying53 (plainElem (H := Unit) Tryz.prog 4) w1.heap.size k _ rfl (map_below HMa.out HX.out) (by unfold maxLen; omega) _ _ _ rfl rfl HKy.out _ [] (plainElem_bool Tryz.underlying4 true) ?_; intro w3 hown3 hgrow3)
             | go_in)
           go_roundw
           case rel => exact ⟨k + 1, _, by omega, by go_num, hown3, by
             rw [ids_snoc HTt.out]
             exact HSe.out.put (fun _ _ => kid_inj) kid_lit _ HTk.out, by
             rw [ids_snoc HTt.out, nodup_snoc]
             exact ⟨HNd.out, fun hm => by have := HIn.out; rw [inL_iff.2 hm] at this; cases this⟩, own_kept (own_below HRo.out HX.out) hgrow3 (Nat.lt_succ_self _), (HBr.out.trans (HX.out.mono (by have := HBr.out.size; have := HEs.out; omega))).grown hgrow3 (by have := HBr.out.size; have := HEs.out; have := HX.out.size; omega) (fun j hj => by cases hj; omega)⟩
           case measure => simp [intOf]; omega
       · obtain rfl : k = n := by omega
         have HE : Hid (decide U.ids.Nodup = true) := Lib.hid (decide_eq_true (by
           have h := HNd.out
           rwa [List.take_of_length_le (by rw [HNL.out]; exact Nat.le_refl _)] at h))
         rw [HE.out, HUid.out, HUk.out] at HE0
         clear hFq
         by_cases hk0 : kind = 0
         · subst hk0
           by_cases hzz : (⟨ix, iy, iz⟩ : Trip) = .zero
           · rw [decide_eq_true hzz] at HE0
             unfold Trip.zero at hzz
             obtain ⟨rfl, rfl, rfl⟩ : ix = 0 ∧ iy = 0 ∧ iz = 0 := by simpa using hzz
             clear hzz
             go_wp2_with fail
             go_quiet (fail)
             go_wp2
             go_ret
             exact ⟨ret_bool (by rw [HE0.out]; rfl), below_drawn HBw.out _⟩
           · rw [decide_eq_false hzz] at HE0
             rcases trip_part hzz with h | ⟨rfl, h⟩ | ⟨rfl, rfl, h⟩
             all_goals
               clear hzz
               go_wp2_with fail
               go_quiet (fail)
               go_wp2
               go_ret
               exact ⟨ret_bool (by rw [HE0.out]; rfl), below_drawn HBw.out _⟩
         · rw [decide_eq_false hk0] at HE0
           have f0 : (kind == 0) = false := by rw [beq_eq_false_iff_ne]; exact hk0
           by_cases hzz : (⟨ix, iy, iz⟩ : Trip) = .zero
           · rw [decide_eq_true hzz] at HE0
             unfold Trip.zero at hzz
             obtain ⟨rfl, rfl, rfl⟩ : ix = 0 ∧ iy = 0 ∧ iz = 0 := by simpa using hzz
             clear hzz hk0
             go_wp2_with fail
             go_quiet (fail)
             go_wp2
             go_ret
             exact ⟨ret_bool (by rw [HE0.out]; rfl), below_drawn HBw.out _⟩
           · rw [decide_eq_false hzz] at HE0
             rcases trip_part hzz with h | ⟨rfl, h⟩ | ⟨rfl, rfl, h⟩
             all_goals
               clear hzz hk0
               go_wp2_with fail
               go_quiet (fail)
               go_wp2
               go_ret
               exact ⟨ret_bool (by rw [HE0.out]; rfl), below_drawn HBw.out _⟩
end Go.Proofs.YtmnbobcgjnickaaGreatDoor
