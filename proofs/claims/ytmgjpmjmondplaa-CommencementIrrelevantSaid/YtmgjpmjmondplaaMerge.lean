/-
  The contract of the merge loop, and of Union, Intersect and Subtract.
-/
import Derived.Test.YtmgjpmjmondplaaAdv
namespace Go.Proofs.Ytmgjpmjmondplaa
open Go.RowKit (wrap32 wrap64 intOf Hid Below)
open Spans
def Left (B : Nat) (w : World) (R : List Sp) (d : Int) (v : Value) : Prop := ∃ (A : Option Addr) (n c : Nat) (L : List Sp) (lo : Int), v = .slice A n c ∧ SpansAt B w A n L ∧ n ≤ c ∧ n ≤ 10000000 ∧ SepL lo L ∧ ∀ x, d ≤ x → memB L x = memB R x
theorem Left.below {B : Nat} {w w' : World} {R : List Sp} {d : Int} {v : Value} (h : Left B w R d v) (hb : Below B w w') : Left B w' R d v := by
 obtain ⟨A, n, c, L, lo, rfl, h1, h2⟩ := h
 exact ⟨A, n, c, L, lo, rfl, h1.below hb, h2⟩
theorem Left.start {B : Nat} {w : World} {R : List Sp} {A : Option Addr} {n c : Nat} (h : SpansAt B w A n R) (hs : SepL (-1) R) (hc : n ≤ c) (hn : n ≤ 10000000) : Left B w R 0 (.slice A n c) :=
 ⟨A, n, c, R, -1, rfl, h, hc, hn, hs, fun _ _ => rfl⟩
def Done (op : Bool → Bool → Bool) (RA RB : List Sp) (B : Nat) (w : World) (d : Int) (v : Value) : Prop :=
 ∃ (A : Option Addr) (n c : Nat) (O : List Sp), v = .slice A n c ∧ O.length = n ∧ w.ownsRow B 61 2 (.slice A n c) n (cells O) ∧ SepL (-1) O ∧ LastLe O d ∧ (n : Int) ≤ d ∧ ∀ x, 0 ≤ x → memB O x = (decide (x < d) && op (memB RA x) (memB RB x))
def MRel (op : Bool → Bool → Bool) (RA RB : List Sp) (B : Nat) (w0 : World) (v0 v1 v7 v8 : Value) (w : World) : Prop :=
 ∃ d : Int, v8 = .int .i64 d ∧ 0 ≤ d ∧ d ≤ 1048577 ∧ Left B w RA d v0 ∧ Left B w RB d v1 ∧ Done op RA RB B w d v7 ∧ Below B w0 w ∧ B ≤ w.heap.size
def AdvLeft (B : Nat) (R : List Sp) (d : Int) (w : World) (ee : Ending) : Prop := ∃ (v : Value) (b : Bool) (e : Int), ee = .returned (.tuple #[v, .bool b, .int .i64 e]) ∧ Left B w R e v ∧ d < e ∧ e ≤ 1048577 ∧ (∀ x, d ≤ x → x < e → memB R x = b) ∧ ∀ e', d ≤ e' → Left B w R e' v
theorem adv_left (B : Nat) (R : List Sp) (d : Int) (v : Value) (w : World) (h : Left B w R d v) (hd : d < 1048577) :
   Calls Try.prog 47 #[v, .int .i64 d] w fun ee w' => AdvLeft B R d w ee ∧ ∃ q, w' = w.drewN q := by
 obtain ⟨A, n, c, L, lo, rfl, h1, h2, h3, h4, h5⟩ := h
 refine (adv_any L B n c A d lo w h1 h4 h3 h2 hd).mono fun ee w' ⟨⟨A', n', c', R', b, e, he, ⟨⟨lo', a1⟩, a2, a3, a4, a5⟩, a6, a7, a8⟩, hw⟩ => ⟨⟨_, b, e, he, ?_, a3, a4, ?_, ?_⟩, hw⟩
 · exact ⟨A', n', c', R', lo', rfl, a6, a7, by omega, a1, fun x hx => by rw [a2 x (by omega), h5 x (by omega)]⟩
 · intro x hx hx2
   rw [← h5 x hx]
   exact a5 x hx hx2
 · exact fun e' he' => ⟨A', n', c', R', lo', rfl, a6, a7, by omega, a1, fun x hx => by rw [a2 x (by omega), h5 x (by omega)]⟩
theorem done_keep (op : Bool → Bool → Bool) (RA RB : List Sp) (B : Nat) (w W : World) (d e : Int) (v : Value) (h : Done op RA RB B w d v) (hb : Below w.heap.size w W) (hB : B ≤ w.heap.size) (h0 : 0 ≤ d) (hde : d < e) (he : e ≤ 1048577) (hk : ∀ x, d ≤ x → x < e → op (memB RA x) (memB RB x) = true) :
   Calls Try.prog 48 #[v, .agg #[.int .i64 d, .int .i64 e]] W fun ee w' => (∃ v', ee = .returned v' ∧ Done op RA RB B w' e v') ∧ Below B W w' := by
 obtain ⟨A, n, c, O, rfl, hO, hown, hs, hl, hn, hm⟩ := h
 have hown' := own_below hown hb
 refine (append_any B n c A O (d, e) W hO (by omega) hown' (Nat.le_trans hB hb.size)).mono fun ee w' ⟨⟨A', n', c', he1, hn', ho'⟩, hbw⟩ => ⟨⟨_, he1, A', n', c', apS O (d, e), rfl, hn'.symm, ho', ?_⟩, hbw⟩
 obtain ⟨a1, a2, a3⟩ := apS_ok O (d, e) hs hl h0 hde he
 have hlen := apS_len O (d, e)
 refine ⟨a1, fun y hy => by have := a3 y hy; simp only at this; omega, by omega, fun x hx => ?_⟩
 rw [a2, hm x hx]
 simp only [memB, Bool.or_false]
 by_cases h1 : x < d
 · have e1 : decide (x < d) = true := by simpa using h1
   have e2 : decide (x < e) = true := by simp; omega
   have e3 : decide (d ≤ x ∧ x < e) = false := by simp; omega
   rw [e1, e2, e3, Bool.or_false]
 · have e1 : decide (x < d) = false := by simpa using h1
   rw [e1, Bool.false_and, Bool.false_or]
   by_cases h2 : x < e
   · have e2 : decide (x < e) = true := by simpa using h2
     have e3 : decide (d ≤ x ∧ x < e) = true := by simp; omega
     rw [e2, e3, hk x (by omega) h2, Bool.true_and]
   · have e2 : decide (x < e) = false := by simpa using h2
     have e3 : decide (d ≤ x ∧ x < e) = false := by simp; omega
     rw [e2, e3, Bool.false_and]
theorem done_drop (op : Bool → Bool → Bool) (RA RB : List Sp) (B : Nat) (w W : World) (d e : Int) (v : Value) (h : Done op RA RB B w d v) (hb : Below w.heap.size w W) (hde : d < e) (hk : ∀ x, d ≤ x → x < e → op (memB RA x) (memB RB x) = false) : Done op RA RB B W e v := by
 obtain ⟨A, n, c, O, rfl, hO, hown, hs, hl, hn, hm⟩ := h
 refine ⟨A, n, c, O, rfl, hO, own_below hown hb, hs, fun y hy => by have := hl y hy; omega, by omega, fun x hx => ?_⟩
 rw [hm x hx]
 by_cases h1 : x < d
 · have e1 : decide (x < d) = true := by simpa using h1
   have e2 : decide (x < e) = true := by simp; omega
   rw [e1, e2]
 · have e1 : decide (x < d) = false := by simpa using h1
   rw [e1, Bool.false_and]
   by_cases h2 : x < e
   · rw [hk x (by omega) h2, Bool.and_false]
   · have e2 : decide (x < e) = false := by simpa using h2
     rw [e2, Bool.false_and]
theorem done_end (op : Bool → Bool → Bool) (RA RB : List Sp) (B : Nat) (w : World) (v : Value) (h : Done op RA RB B w 1048577 v) :
   ∃ (A : Option Addr) (n c : Nat) (O : List Sp), v = .slice A n c ∧ Is O (fun x => op (memB RA x) (memB RB x)) ∧ SpansAt w.heap.size w A n O ∧ (n ≤ c ∧ c ≤ maxLen ∧ FreshA B A) ∧ n ≤ 2000000 := by
 obtain ⟨A, n, c, O, rfl, hO, hown, hs, hl, hn, hm⟩ := h
 refine ⟨A, n, c, O, rfl, ⟨hs, fun x h0 h1 => ?_⟩, spans_of_own hown, ⟨own_cap hown, own_max hown, own_fresh hown⟩, by omega⟩
 rw [hm x h0]
 have : decide (x < 1048577) = true := by simp; omega
 rw [this, Bool.true_and]
set_option maxHeartbeats 1000000 in
set_option maxRecDepth 1000000 in
theorem merge_any (g : Nat) (op : Bool → Bool → Bool) (La Lb : List Sp) (N M ca cb : Nat) (Aa Ab : Option Addr) (w : World) (hza : SpansAt w.heap.size w Aa N La) (hzb : SpansAt w.heap.size w Ab M Lb) (hN : N ≤ 2000000) (hM : M ≤ 2000000)
   (eg : ∀ args w, (callFunc g args).run Try.prog w = .ok (.enter g args) w) (hk : ∀ x y W, Calls Try.prog g #[.bool x, .bool y] W fun e w' => e = .returned (.bool (op x y)) ∧ w' = W) :
   Calls Try.prog 41 #[.slice Aa N ca, .slice Ab M cb, .func (.func g) #[] #[]] w fun e w' => SetRet w.heap.size (fun x => op (memB La x) (memB Lb x)) e w' ∧ Below w.heap.size w w' := by
 have HK := Lib.hid hk
 have HA : Hid (∀ W, Below w.heap.size w W → Calls Try.prog 46 #[.slice Aa N ca] W fun e w' => SetRet W.heap.size (memB La) e w' ∧ Below W.heap.size W w') := Lib.hid fun W h => norm_any La N ca Aa W ((hza.below h).mono h.size) hN
 have HB : Hid (∀ W, Below w.heap.size w W → Calls Try.prog 46 #[.slice Ab M cb] W fun e w' => SetRet W.heap.size (memB Lb) e w' ∧ Below W.heap.size W w') := Lib.hid fun W h => norm_any Lb M cb Ab W ((hzb.below h).mono h.size) hM
 clear hk hza hzb
 go_enter Try.func41, Try.ntmps41
 go_wp2_with (first
   | (go_at_call 46; ((with_reducible refine (HA.out _ (Below.refl _ _)).mono ?_); rintro e w1 ⟨⟨A1, n1, c1, RA, rfl, ra1, ra2, ra3, ra4⟩, hb1⟩; have RA1 := Lib.hid ra1; have RA2 := Lib.hid ra2; clear ra1 ra2))
   | (go_at_call 46; ((with_reducible refine (HB.out _ hb1).mono ?_); rintro e w2 ⟨⟨A2, n2, c2, RB, rfl, rb1, rb2, rb3, rb4⟩, hb2⟩; have RB1 := Lib.hid rb1; have RB2 := Lib.hid rb2; clear rb1 rb2)))
 have hs0 : MRel op RA RB w2.heap.size w2 (.slice A1 n1 c1) (.slice A2 n2 c2) (.slice none 0 0) (.int .i64 0) w2 :=
   ⟨0, rfl, by omega, by omega, Left.start ((RA2.out.below hb2).mono hb2.size) RA1.out.1 ra3.1 (by omega), Left.start RB2.out RB1.out.1 rb3.1 (by omega),
     ⟨none, 0, 0, [], rfl, rfl, World.ownsRow_nil _ _ _ _, trivial, fun x hx => by simp at hx, by omega, fun x hx => by
       have : decide (x < 0) = false := by simp; omega
       rw [this]; rfl⟩, Below.refl _ _, Nat.le_refl _⟩
 go_loopw [0, 1, 7, 8] (fun v0 v1 v7 v8 wr => MRel op RA RB w2.heap.size w2 v0 v1 v7 v8 wr) (fun _ _ _ v8 _ => (1048577 - intOf v8).toNat)
 case atStart => exact hs0
 case round =>
   obtain ⟨d, rfl, d0, d1, hla, hlb, hdo, hbw, hbz⟩ := hrel
   have HLA := Lib.hid hla
   have HLB := Lib.hid hlb
   have HDO := Lib.hid hdo
   clear hs0 hla hlb hdo
   by_cases hd : d < 1048577
   · clear HA HB
     go_wp2_with (first
       | (go_at_call 47; ((with_reducible refine (adv_left w2.heap.size RA d u0 wr HLA.out hd).mono ?_); rintro e wa ⟨⟨va, ba, ea, rfl, xa1, xa2, xa3, xa4, xa5⟩, hqa⟩; have XA4 := Lib.hid xa4; have XA5 := Lib.hid xa5; have HLB2 : Hid (Left w2.heap.size wa RB d u1) := Lib.hid (by obtain ⟨q, rfl⟩ := hqa; exact HLB.out); have HQA := Lib.hid hqa; clear xa1 xa4 xa5 hqa))
       | (go_at_call 47; ((with_reducible refine (adv_left w2.heap.size RB d u1 wa HLB2.out hd).mono ?_); rintro e wb ⟨⟨vb, bb, eb, rfl, xb1, xb2, xb3, xb4, xb5⟩, hqb⟩; have XB4 := Lib.hid xb4; have XB5 := Lib.hid xb5; have HQB := Lib.hid hqb; clear xb1 xb4 xb5 hqb)))
     refine (HK.out ba bb _).mono ?_
     have hbb : Below wr.heap.size wr wb := by
       obtain ⟨q, rfl⟩ := HQA.out
       obtain ⟨r, rfl⟩ := HQB.out
       exact below_drawn (below_drawn (Below.refl _ _) q) r
     have hE : d < min ea eb ∧ min ea eb ≤ 1048577 := by omega
     have hst : ∀ x, d ≤ x → x < min ea eb → op (memB RA x) (memB RB x) = op ba bb := fun x h1 h2 => by rw [XA4.out x h1 (by omega), XB4.out x h1 (by omega)]
     have HST := Lib.hid hst
     have hLA : Left w2.heap.size wr RA (min ea eb) va := XA5.out _ (by omega)
     have hLB : Left w2.heap.size wr RB (min ea eb) vb := by
       have := XB5.out (min ea eb) (by omega)
       obtain ⟨q, rfl⟩ := HQA.out
       exact this
     have HLA3 := Lib.hid hLA
     have HLB3 := Lib.hid hLB
     obtain ⟨hE1, hE2⟩ := hE
     clear hst hLA hLB
     cases hop : op ba bb
     · have HDD : Hid (Done op RA RB w2.heap.size wb (min ea eb) u7) := Lib.hid (done_drop op RA RB _ wr wb d (min ea eb) u7 HDO.out hbb hE1 (fun x h1 h2 => by rw [HST.out x h1 h2, hop]))
       have hsz := hbb.size
       have hbw3 : Below w2.heap.size w2 wb := hbw.trans (hbb.mono hbz)
       have HH : Hid (Left w2.heap.size wb RA (min ea eb) va ∧ Left w2.heap.size wb RB (min ea eb) vb) := Lib.hid ⟨HLA3.out.below (hbb.mono hbz), HLB3.out.below (hbb.mono hbz)⟩
       clear hop
       rintro e wc ⟨rfl, rfl⟩
       go_wp2
       go_roundw
       case rel => exact ⟨_, rfl, by omega, hE2, HH.out.1, HH.out.2, HDD.out, hbw3, by omega⟩
       case measure => simp [intOf]; omega
     · have HAP : Hid (Calls Try.prog 48 #[u7, .agg #[.int .i64 d, .int .i64 (min ea eb)]] wb fun ee w' => (∃ v', ee = .returned v' ∧ Done op RA RB w2.heap.size w' (min ea eb) v') ∧ Below w2.heap.size wb w') := Lib.hid (done_keep op RA RB _ wr wb d (min ea eb) u7 HDO.out hbb hbz d0 hE1 hE2 (fun x h1 h2 => by rw [HST.out x h1 h2, hop]))
       have hsz := hbb.size
       clear hop
       rintro e wc ⟨rfl, rfl⟩
       go_wp2_with (go_at_call 48; ((with_reducible refine (HAP.out).mono ?_); rintro e wd ⟨⟨v', rfl, hdone⟩, hbd⟩; have HDN := Lib.hid hdone; have hbd2 := (hbb.mono hbz).trans hbd; clear hdone))
       go_roundw
       case rel => exact ⟨_, rfl, by omega, hE2, HLA3.out.below hbd2, HLB3.out.below hbd2, HDN.out, hbw.trans hbd2, by have := hbd2.size; omega⟩
       case measure => simp [intOf]; omega
   · obtain rfl : d = 1048577 := by omega
     obtain ⟨A9, n9, c9, O9, rfl, q1, q2, q3, q4⟩ := done_end op RA RB _ wr u7 HDO.out
     have HQ1 := Lib.hid q1
     have HQ2 := Lib.hid q2
     clear q1 q2 HA HB
     go_wp2
     go_ret
     exact ⟨⟨A9, n9, c9, O9, rfl, HQ1.out.congr fun x h0 h1 => by rw [RA1.out.2 x h0 h1, RB1.out.2 x h0 h1], HQ2.out, ⟨q3.1, q3.2.1, q3.2.2.mono (by have h1 := hb1.size; have h2 := hb2.size; omega)⟩, q4⟩, hb1.trans ((hb2.trans (hbw.mono hb2.size)).mono hb1.size)⟩
end Go.Proofs.Ytmgjpmjmondplaa
