/-
  The contract of validChildren.
-/
import Derived.Test.YtmnbobcgjnickaaGreatDoorKey
import Derived.Test.YtmnbobcgjnickaaGreatDoorIdt
namespace Go.Proofs.YtmnbobcgjnickaaGreatDoor
open Go.RowKit (wrap32 wrap64 intOf Hid Below)
open Lab Lcs
open Go.Maps Go.WideMaps
theorem UtV.parts {w : World} {u : Ut} {i1 i2 i3 kd : Int} {lb : Str} {a b c : Value} (h : UtV w u (.agg #[.int .i64 i1, .int .i64 i2, .int .i64 i3, .int .i64 kd, .string lb, a, b, c])) : u.id = ⟨i1, i2, i3⟩ ∧ u.kind = kd ∧ u.label = lb ∧ u.id.ok ∧ inI u.kind := by
 cases u with
 | mk id kind label head words kids =>
   obtain ⟨_, _, _, _, _, _, _, _, _, he, ho, _⟩ := h.open_
   injection he with he
   have e0 := congrArg (fun a => a[0]?) he
   have e1 := congrArg (fun a => a[1]?) he
   have e2 := congrArg (fun a => a[2]?) he
   have e3 := congrArg (fun a => a[3]?) he
   have e4 := congrArg (fun a => a[4]?) he
   simp at e0 e1 e2 e3 e4
   refine ⟨?_, e3.symm, e4.symm, ho⟩
   cases id
   simp only [Ut.id, Trip.mk.injEq]
   exact ⟨e0.symm, e1.symm, e2.symm⟩
theorem keys_take {l : List Ut} {k : Nat} {u : Ut} (h : l[k]? = some u) : (l.take (k + 1)).map keyK = (l.take k).map keyK ++ [keyK u] := by
 rw [take_one h, List.map_append]
 rfl
theorem nodup_snoc {α : Type} {l : List α} {a : α} : (l ++ [a]).Nodup ↔ l.Nodup ∧ a ∉ l := by
 rw [List.nodup_append]
 constructor
 · rintro ⟨h1, _, h3⟩
   exact ⟨h1, fun hm => h3 a hm a (by simp) rfl⟩
 · rintro ⟨h1, h2⟩
   refine ⟨h1, by simp, fun x hx y hy => ?_⟩
   rw [List.mem_singleton] at hy
   subst hy
   rintro rfl
   exact h2 hx
theorem kids_dup {id : Trip} {kind : Int} {label : Str} {head words : List Wd} {kids : List Ut} {k : Nat} {u : Ut} (hu : kids[k]? = some u) (h : inL ((kids.take k).map keyK) (keyK u) = true) : kidsB (.mk id kind label head words kids) = false := by
 unfold kidsB
 rw [Bool.and_eq_false_iff]
 right
 rw [decide_eq_false_iff_not]
 intro hn
 have h1 : kids.map keyK = (kids.take (k + 1)).map keyK ++ (kids.drop (k + 1)).map keyK := by rw [← List.map_append, List.take_append_drop]
 rw [h1, List.nodup_append, keys_take hu, nodup_snoc] at hn
 exact hn.1.2 (inL_iff.1 h)
theorem kids_kind {id : Trip} {kind : Int} {label : Str} {head words : List Wd} {kids : List Ut} {k : Nat} {u : Ut} (hu : kids[k]? = some u) (h : nestsB kind u.kind = false) : kidsB (.mk id kind label head words kids) = false := by
 unfold kidsB
 rw [Bool.and_eq_false_iff]
 left
 rw [List.all_eq_false]
 exact ⟨u, List.mem_of_getElem? hu, by rw [h]; decide⟩
def kidsTo (kind : Int) (l : List Ut) : Prop := (∀ x ∈ l, nestsB kind x.kind = true) ∧ (l.map keyK).Nodup
theorem kids_step {kind : Int} {kids : List Ut} {k : Nat} {u : Ut} (hu : kids[k]? = some u) (h : kidsTo kind (kids.take k)) (h1 : inL ((kids.take k).map keyK) (keyK u) = false) (h2 : nestsB kind u.kind = true) : kidsTo kind (kids.take (k + 1)) := by
 refine ⟨fun x hx => ?_, ?_⟩
 · rw [take_one hu] at hx
   rcases List.mem_append.1 hx with hx | hx
   · exact h.1 x hx
   · rw [List.mem_singleton.1 hx]; exact h2
 · rw [keys_take hu, nodup_snoc]
   exact ⟨h.2, fun hm => by rw [inL_iff.2 hm] at h1; cases h1⟩
theorem kids_done {id : Trip} {kind : Int} {label : Str} {head words : List Wd} {kids : List Ut} (h : kidsTo kind kids) : kidsB (.mk id kind label head words kids) = true := by
 unfold kidsB
 rw [Bool.and_eq_true]
 exact ⟨List.all_eq_true.2 h.1, decide_eq_true h.2⟩
set_option maxHeartbeats 4000000 in
set_option maxRecDepth 100000 in
theorem children_any (u : Ut) (v : Value) (w : World) (hT : TabN w) (hV : UtV w u v) (hS : ∀ x ∈ u.kids, x.label.size ≤ 1000000) (hM : u.kids.length ≤ 1000000000) :
   Calls Tryz.prog 92 #[v] w fun e w' => e = .returned (.bool (kidsB u)) ∧ Below w.heap.size w w' := by
 cases u with
 | mk id kind label head words kids =>
   obtain ⟨Ah, Aw, Ak, nh, ch, nw, cw, nk, ck, rfl, hok, hWh, hWw, hR⟩ := hV.open_
   have HR := Lib.hid hR
   have hnk := hR.2.1
   have hck := hR.2.2.1
   have hM : kids.length ≤ 1000000000 := hM
   have hn9 : nk ≤ 1000000000 := by have := hR.1; omega
   have HKl := Lib.hid hR.1
   have HSm : Hid (∀ x ∈ kids, x.label.size ≤ 1000000) := Lib.hid hS
   have HTn := Lib.hid hT
   have HBx := Lib.hid (Box8.new w 27 (.int .i64 id.x) (.int .i64 id.y) (.int .i64 id.z) (.int .i64 kind) (.string label) (.slice Ah nh ch) (.slice Aw nw cw) (.slice Ak nk ck))
   obtain ⟨n0, n1, n2, n3, n4, n5, n6, n7⟩ := HBx.out
   have hmm : ∀ (t : TypeId) (w : World), (Instr.makeMap t none).run Tryz.prog w = .ok (.map (some w.heap.size)) (w.alloc (.map #[] 0)) := fun _ _ => rfl
   have HM0 := Lib.hid (alloc_below (w.alloc (.cells #[.int .i64 id.x, .int .i64 id.y, .int .i64 id.z, .int .i64 kind, .string label, .slice Ah nh ch, .slice Aw nw cw, .slice Ak nk ck] 27)) (.map #[] 0))
   have HMp := Lib.hid (World.ownsMap_made (w.alloc (.cells #[.int .i64 id.x, .int .i64 id.y, .int .i64 id.z, .int .i64 kind, .string label, .slice Ah nh ch, .slice Aw nw cw, .slice Ak nk ck] 27)) Tryz.prog 115 (plainElem (H := Unit) Tryz.prog 4))
   have HEs : Hid ((w.alloc (.cells #[.int .i64 id.x, .int .i64 id.y, .int .i64 id.z, .int .i64 kind, .string label, .slice Ah nh ch, .slice Aw nw cw, .slice Ak nk ck] 27)).heap.size = w.heap.size + 1) := Lib.hid (by simp)
   rw [HEs.out] at HM0 HMp
   clear hR hT hok hWh hWw hS hM
   go_enter Tryz.func92, Tryz.ntmps92
   go_wp2
   go_loopw [11] (fun i wr => ∃ (k : Nat) (D : DataW Unit), k ≤ nk ∧ i = .int .i64 k ∧ wr.ownsMap Tryz.prog 115 (plainElem (H := Unit) Tryz.prog 4) (w.heap.size + 1) k D ∧ SetA kst okst D ((kids.take k).map keyK) ∧ kidsTo kind (kids.take k) ∧ Below (w.heap.size + 1) (w.alloc (.cells #[.int .i64 id.x, .int .i64 id.y, .int .i64 id.z, .int .i64 kind, .string label, .slice Ah nh ch, .slice Aw nw cw, .slice Ak nk ck] 27)) wr) (fun i _ => nk - (intOf i).toNat)
   case atStart => exact ⟨0, .map [], Nat.zero_le _, rfl, HMp.out, SetA.start _ _, ⟨fun _ h => by simp at h, by simp⟩, HM0.out⟩
   case round =>
     rename World => wr
     obtain ⟨k, D, hk, rfl, hown, hset, hto, hbr⟩ := hrel
     have HO := Lib.hid hown
     have HSt := Lib.hid hset
     have HTo := Lib.hid hto
     have HBr := Lib.hid hbr
     obtain ⟨hbw, hszw⟩ := in_box hbr
     have HBw := Lib.hid hbw
     obtain ⟨b0, b1, b2, b3, b4, b5, b6, b7⟩ := HBx.out.below hbr (Nat.lt_succ_self _)
     have hbz := hbr.size
     rw [HEs.out] at hbz
     clear hown hset hto
     by_cases hlt : k < nk
     · obtain ⟨b, off, u, i1, i2, i3, kd, lb, Bh, Bw, Bk, mh, dh, mw, dw, mk, dk, rfl, hblt, hu, hUV, c0, c1, c2, c3, c4, c5, c6, c7⟩ := HR.out.at_ hbw hlt
       obtain ⟨_, hk1, hk2, _, hk4⟩ := hUV.parts
       have hls := HSm.out u (List.mem_of_getElem? hu)
       have HX := Lib.hid (below2 wr (.cells #[.int .i64 i1, .int .i64 i2, .int .i64 i3, .int .i64 kd, .string lb, .slice Bh mh dh, .slice Bw mw dw, .slice Bk mk dk] 27) (.cells #[.int .i64 kd, .string lb] 115))
       have hXb := HX.out
       obtain ⟨n0, n1, n2, n3, n4, n5, n6, n7⟩ := (Box8.new wr 27 (.int .i64 i1) (.int .i64 i2) (.int .i64 i3) (.int .i64 kd) (.string lb) (.slice Bh mh dh) (.slice Bw mw dw) (.slice Bk mk dk))
       have s3 : ((wr.alloc (.cells #[.int .i64 i1, .int .i64 i2, .int .i64 i3, .int .i64 kd, .string lb, .slice Bh mh dh, .slice Bw mw dw, .slice Bk mk dk] 27)).alloc (.cells #[.int .i64 kd, .string lb] 115)).cell? ⟨wr.heap.size, 3, none⟩ = some (.int .i64 kd) := ((alloc_below (wr.alloc (.cells #[.int .i64 i1, .int .i64 i2, .int .i64 i3, .int .i64 kd, .string lb, .slice Bh mh dh, .slice Bw mw dw, .slice Bk mk dk] 27)) _).cell (p := ⟨wr.heap.size, 3, none⟩) (alloc_lt _ _)).trans n3
       have t0 : ((wr.alloc (.cells #[.int .i64 i1, .int .i64 i2, .int .i64 i3, .int .i64 kd, .string lb, .slice Bh mh dh, .slice Bw mw dw, .slice Bk mk dk] 27)).alloc (.cells #[.int .i64 kd, .string lb] 115)).cell? ⟨wr.heap.size + 1, 0, none⟩ = some (.int .i64 kd) := by rw [World.cell?_alloc_at _ _ _ _ (by simp)]; rfl
       have t1 : ((wr.alloc (.cells #[.int .i64 i1, .int .i64 i2, .int .i64 i3, .int .i64 kd, .string lb, .slice Bh mh dh, .slice Bw mw dw, .slice Bk mk dk] 27)).alloc (.cells #[.int .i64 kd, .string lb] 115)).cell? ⟨wr.heap.size + 1, 1, none⟩ = some (.string lb) := by rw [World.cell?_alloc_at _ _ _ _ (by simp)]; rfl
       have u3 : ((wr.alloc (.cells #[.int .i64 i1, .int .i64 i2, .int .i64 i3, .int .i64 kd, .string lb, .slice Bh mh dh, .slice Bw mw dw, .slice Bk mk dk] 27)).alloc (.cells #[.int .i64 kd, .string lb] 115)).cell? ⟨w.heap.size, 3, none⟩ = some (.int .i64 kind) := (hXb.cell (p := ⟨w.heap.size, 3, none⟩) hszw).trans b3
       have hok : okst (kd, lb) := ⟨by rw [← hk1]; exact hk4, by show lb.size ≤ maxLen; rw [← hk2]; unfold maxLen; omega⟩
       have HOk := Lib.hid hok
       have hlook := look_step (map_below HO.out hXb) HSt.out (kd, lb) hok
       have HC := Lib.hid (contain_any kind kd ((wr.alloc (.cells #[.int .i64 i1, .int .i64 i2, .int .i64 i3, .int .i64 kd, .string lb, .slice Bh mh dh, .slice Bw mw dw, .slice Bk mk dk] 27)).alloc (.cells #[.int .i64 kd, .string lb] 115)) (HTn.out.below (hbw.trans (hXb.mono hbw.size))))
       have HKK : Hid (keyK u = (kd, lb)) := Lib.hid (by unfold keyK; rw [hk1, hk2])
       have HKd : Hid (u.kind = kd) := Lib.hid hk1
       have HU := Lib.hid hu
       have HKy := Lib.hid (keyOf_step (kd, lb) hok)
       have HX' := Lib.hid (hbw.trans (hXb.mono hbw.size))
       cases hin : inL ((kids.take k).map keyK) (kd, lb) with
       | true =>
         have HE := Lib.hid (kids_dup (id := id) (kind := kind) (label := label) (head := head) (words := words) HU.out (by rw [HKK.out]; exact hin))
         rw [hin] at hlook
         clear hin hu hUV hk1 hk2 hk4 hls hXb hok hbr hbw
         go_wp2
         go_ret
         exact ⟨ret_bool HE.out.symm, HX'.out⟩
       | false =>
         have HIn := Lib.hid hin
         rw [hin] at hlook
         clear hin hu hUV hk1 hk2 hk4 hls hXb hok hbr hbw
         cases hn : nestsB kind kd with
         | false =>
           have HE := Lib.hid (kids_kind (id := id) (kind := kind) (label := label) (head := head) (words := words) HU.out (by rw [HKd.out]; exact hn))
           rw [hn] at HC
           clear hn
           go_wp2_with (go_at_call 72; ((with_reducible refine (HC.out).mono ?_); rintro e w2 ⟨rfl, rfl⟩))
           go_ret
           exact ⟨ret_bool HE.out.symm, HX'.out⟩
         | true =>
           have HE := Lib.hid (kids_step HU.out HTo.out (by rw [HKK.out]; exact HIn.out) (by rw [HKd.out]; exact hn))
           rw [hn] at HC
           clear hn
           go_wp2_with (first
             | (go_at_call 72; ((with_reducible refine (HC.out).mono ?_); rintro e w2 ⟨rfl, rfl⟩))
             | (at_mapUpdate; refine wpList_mapUpdate_own _ rfl _ _ _ 113 rfl 115 4 stepLaw Tryz.underlying113 (plainElem (H := Unit) Tryz.prog 4) (w.heap.size + 1) k _ rfl (map_below HO.out HX.out) (by unfold maxLen; omega) _ _ _ rfl rfl HKy.out _ [] (plainElem_bool Tryz.underlying4 true) ?_; intro w3 hown3 hgrow3)
             | go_in)
           go_roundw
           case rel => exact ⟨k + 1, _, by omega, by go_num, hown3, by
             rw [keys_take HU.out, HKK.out]
             exact HSt.out.put (fun _ _ => kst_inj) kst_lit _ HOk.out, HE.out, (HBr.out.trans (HX.out.mono (by omega))).grown hgrow3 (by have := HX.out.size; simp at this; simp; omega) (fun j hj => by cases hj; exact Nat.le_refl _)⟩
           case measure => simp [intOf]; omega
     · obtain rfl : k = nk := by omega
       have HE : Hid (kidsB (.mk id kind label head words kids) = true) := Lib.hid (kids_done (by
         have h := HTo.out
         rwa [List.take_of_length_le (by rw [← HKl.out]; exact Nat.le_refl _)] at h))
       go_wp2
       go_ret
       exact ⟨ret_bool HE.out.symm, HBw.out⟩
end Go.Proofs.YtmnbobcgjnickaaGreatDoor
