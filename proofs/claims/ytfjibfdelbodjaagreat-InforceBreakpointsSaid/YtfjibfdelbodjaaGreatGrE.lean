/-
  slices.Grow of a nil row of enacted items: a fresh row without elements.
-/
import Derived.Lib.AppendZeros
import Derived.Test.YtfjibfdelbodjaaGreatClo
namespace Go.Proofs.YtfjibfdelbodjaaGreat.Po
open Go Go.Pv Go.RowKit
theorem iE:(Tryz.prog.info? 47).map (fun i=>(i.zero,i.size,i.bytes))=some (some (.agg #[.int .i64 0,.int .i64 0,.int .i64 0,.int .i64 0,.slice none 0 0,.slice none 0 0,.int .i64 0,.int .i64 0,.int .i64 0,.int .i64 0,.int .i64 0,.int .i64 0,.string ⟨#[]⟩,.slice none 0 0,.slice none 0 0,.slice none 0 0,.slice none 0 0,.slice none 0 0,.string ⟨#[]⟩,.string ⟨#[]⟩,.int .i64 0,.int .i64 0,.string ⟨#[]⟩,.int .i64 0,.int .i64 0,.int .i64 0,.string ⟨#[]⟩,.slice none 0 0]),28,392):=by kernel_rfl
set_option maxHeartbeats 4000000 in
set_option maxRecDepth 100000 in
theorem LD {X:Env} (n:Nat) (hn:n≤1000000000):PCR Tryz.prog X 132 [.nil,.int .i64 (n:Nat)] 47 28 []:=by
 refine⟨enters_of Tryz.func132 rfl rfl,fun Q w vs hQ _ _ hvs=>?_⟩
 unfold aV at hvs
 obtain⟨v,r,rfl,h1,h2⟩:=hvs
 unfold aV at h2
 obtain⟨v2,r2,rfl,h3,h4⟩:=h2
 unfold aV at h4
 unfold aF at h1 h3
 subst h1
 subst h3
 subst h4
 obtain⟨i0,hi,hz0,hz1,hz2⟩:=info_parts iE
 by_cases h0:n=0
 ·subst h0
  go_enter Tryz.func132,Tryz.ntmps132
  go_wp2
  go_ret
  exact⟨_,Q,[],rfl,Below.refl _ _,fun b h=>h,fun b h=>⟨Or.inl h,hQ b h⟩,⟨rfl,Or.inl ⟨rfl,rfl⟩⟩,by simp[aL],fun b h=>by cases h⟩
 ·go_enter Tryz.func132,Tryz.ntmps132
  go_wp2_with (at_builtin;refine Lib.wpList_append_run _ rfl _ _ 30 3 rfl _ _ rfl rfl _ _ (Lib.run_append_nil_zeros w 30 3 _ 47 i0 _ .i64 .i64 Tryz.underlying30 Tryz.underlying3 hi hz0 n (by omega) (by omega) (by omega) (by rw[hz2];omega)) ?_)
  go_wp2
  go_ret
  have hcap:=grownCap_ge w n 0 47
  have hcm:=grownCap_le_maxLen w n 0 47 (by unfold maxLen;omega)
  generalize grownCap w n 0 47=cap at hcap hcm ⊢
  have hb:∀x,Below w.heap.size w (w.drew.alloc x):=fun x=>((Below.refl _ w).drew).alloc (Nat.le_refl _) _
  have hown:∀(cur:Array Value),cur.size=cap*28→(w.drew.alloc (.cells cur 47)).ownsRow w.heap.size 47 28 (.slice (some ⟨w.heap.size,0,none⟩) 0 cap) 0 []:=fun cur hs=>World.ownsRow_made w.drew cur cap (Nat.le_refl _) hcm hs
  exact⟨_,Q,[],rfl,hb _,fun b h=>h,fun b h=>⟨Or.inl h,Nat.lt_of_lt_of_le (hQ b h) (hb _).size⟩,hown _ (by rw[Array.size_append,size_zeroCells,size_zeroCells];simp;omega),by simp[aL],fun b h=>gV hQ (hown _ (by rw[Array.size_append,size_zeroCells,size_zeroCells];simp;omega)) h⟩
end Go.Proofs.YtfjibfdelbodjaaGreat.Po
