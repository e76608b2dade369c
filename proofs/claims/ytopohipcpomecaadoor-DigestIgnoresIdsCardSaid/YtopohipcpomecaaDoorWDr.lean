/-
  The library's Repeat and Itoa.
-/
import Derived.Test.YtopohipcpomecaaDoorWDb
import Derived.Lib.AppendIntMem
namespace Go.Proofs.YtopohipcpomecaaDoor.Pd
open Go Go.Pv Go.RowKit Go.Proofs.YtopohipcpomecaaDoor.Pu Go.Proofs.YtopohipcpomecaaDoor.Pb
set_option linter.unusedSimpArgs false
open Lab Lcs Go.Proofs.YtopohipcpomecaaDoor
theorem lift_strD {f : FuncId} {args : List IV} {b : ByteArray} (he : ∀ xs w, (callFunc f xs).run Tryd.prog w = .ok (.enter f xs) w)
   (h : ∀ (Q : Nat → Prop) (w : World) (vs : List Value), (∀ b, Q b → b < w.heap.size) → TabD w → RepIs Q w args vs → Calls Tryd.prog f vs.toArray w fun e w' => e = .returned (.string b) ∧ Below w.heap.size w w') : PC Tryd.prog envH f args [.str b] := by
 refine ⟨he, fun Q w vs hQ _ hR hvs => (h Q w vs hQ hR hvs).mono ?_⟩
 rintro e w' ⟨rfl, hb⟩
 exact ⟨_, Q, rfl, hb, fun b h => h, fun b h => ⟨Or.inl h, Nat.lt_of_lt_of_le (hQ b h) hb.size⟩, by unfold RepRes RepI; rfl⟩
theorem rep0_pc (n : Nat) (hn : n ≤ 1000000) : PC Tryd.prog envH 26 [.str ⟨#[48]⟩, .int .i64 (n : Nat)] [.str ⟨(List.replicate n 48).toArray⟩] :=
 lift_strD (enters_of Tryd.func26 rfl rfl) fun Q w vs hQ _ hvs => by
   unfold RepIs at hvs
   obtain ⟨v, r, rfl, h2, h3⟩ := hvs
   unfold RepIs at h3
   obtain ⟨v2, r2, rfl, h4, h5⟩ := h3
   unfold RepIs at h5
   subst h5
   unfold RepI at h2 h4
   subst h2
   subst h4
   have hs1 : (⟨#[48]⟩ : Str).size = 1 := rfl
   refine (Tryd.strings_Repeat ⟨#[48]⟩ n w (by omega) (by rw [hs1]; omega)).mono ?_
   rintro e w' ⟨rfl, h⟩
   refine ⟨?_, h⟩
   have hr : Lib.repeatL (⟨#[48]⟩ : Str).data.toList n = List.replicate n 48 := by
     show Lib.repeatL (List.replicate 1 48) n = _
     rw [Lib.repeatL_replicate, Nat.mul_one]
   rw [hr]
def numS (z : Int) : Str := ⟨(Lib.itoa z).toArray⟩
theorem itoa_pc (z : Int) (h0 : -9223372036854775808 ≤ z) (h1 : z ≤ 9223372036854775807) : PC Tryd.prog envH 68 [.int .i64 z] [.str (numS z)] :=
 lift_strD (enters_of Tryd.func68 rfl rfl) fun Q w vs hQ hT hvs => by
   unfold RepIs at hvs
   obtain ⟨v, r, rfl, h2, h3⟩ := hvs
   unfold RepIs at h3
   subst h3
   unfold RepI at h2
   subst h2
   refine (Tryd.strconv_Itoa z h0 h1 w hT).mono ?_
   rintro e w' ⟨rfl, k, os, hw⟩
   exact ⟨rfl, by rw [hw]; exact Lib.below_grow _ w (Nat.le_refl _) k os⟩
end Go.Proofs.YtopohipcpomecaaDoor.Pd
