/-
  Plain values: a call all of whose arguments are known, reckoned by itself: through loops and calls, without a contract. Plain values: a call all of whose arguments are known: regions, code, the end of a call, the whole. Plain values: a call all of whose arguments are known: code, loops, the end of a call; the whole. Plain values: a call all of whose arguments are known: ranges over maps, in every order; the whole. Plain values: how structs of plain cells are compared, whatever the program.
-/
import Derived.Test.YtglkpmhamekpmaaGreatP7
import Derived.Laws.StructEq
namespace Go.Pv
open Go.RowKit (Below)
set_option linter.unusedSimpArgs false
set_option linter.unusedSectionVars false
noncomputable section
def fN (n : Nat) (K : Nat → Bool) : Bool := match n with
 | 0 => K 0
 | m + 1 => K (m + 1)
theorem fN_eq (n : Nat) (K : Nat → Bool) : fN n K = K n := by cases n <;> rfl
def fZ (z : Int) (K : Int → Bool) : Bool := match z with
 | .ofNat n => fN n fun n => K (.ofNat n)
 | .negSucc n => fN n fun n => K (.negSucc n)
theorem fZ_eq (z : Int) (K : Int → Bool) : fZ z K = K z := by cases z <;> simp [fZ, fN_eq]
def fNs (l : List Nat) : (List Nat → Bool) → Bool := List.rec (motive := fun _ => (List Nat → Bool) → Bool) (fun K => K []) (fun x _ ih K => fN x fun x => ih fun l => K (x :: l)) l
theorem fNs_eq : ∀ (l : List Nat) (K : List Nat → Bool), fNs l K = K l
 | [], K => rfl
 | x :: l, K => by show (fN x fun x => fNs l fun l => K (x :: l)) = _; rw [fN_eq, fNs_eq l]
def fU (l : List UInt8) : (List UInt8 → Bool) → Bool := List.rec (motive := fun _ => (List UInt8 → Bool) → Bool) (fun K => K []) (fun x _ ih K => fN x.toNat fun n => ih fun l => K (UInt8.ofNat n :: l)) l
theorem fU_eq : ∀ (l : List UInt8) (K : List UInt8 → Bool), fU l K = K l
 | [], K => rfl
 | x :: l, K => by show (fN x.toNat fun n => fU l fun l => K (UInt8.ofNat n :: l)) = _; rw [fN_eq, fU_eq l]; simp
def fStr (s : ByteArray) (K : ByteArray → Bool) : Bool := fU s.data.toList fun l => K ⟨⟨l⟩⟩
theorem fStr_eq (s : ByteArray) (K : ByteArray → Bool) : fStr s K = K s := by unfold fStr; rw [fU_eq]
def fI (i : IV) : (IV → Bool) → Bool := IV.rec (motive_1 := fun _ => (IV → Bool) → Bool) (motive_2 := fun _ => (List IV → Bool) → Bool)
 (fun b K => Bool.casesOn b (K (.bool false)) (K (.bool true))) (fun k z K => fZ z fun z => K (.int k z)) (fun s K => fStr s fun s => K (.str s)) (fun f K => fN f fun f => K (.fn f))
 (fun K => K .nil) (fun K => K .np) (fun K => K .nm) (fun K => K .nf) (fun _ ih K => ih fun cs => K (.agg cs)) (fun sz _ ih K => ih fun es => K (.sl sz es)) (fun f _ ih K => ih fun cs => K (.clo f cs)) (fun _ ih K => ih fun cs => K (.ip cs))
 (fun K => K []) (fun _ _ ih ihs K => ih fun c => ihs fun cs => K (c :: cs)) i
def fIs (l : List IV) : (List IV → Bool) → Bool := List.rec (motive := fun _ => (List IV → Bool) → Bool) (fun K => K []) (fun c _ ih K => fI c fun c => ih fun cs => K (c :: cs)) l
theorem fI_eq (i : IV) : ∀ K : IV → Bool, fI i K = K i := by
 refine IV.rec (motive_1 := fun i => ∀ K : IV → Bool, fI i K = K i) (motive_2 := fun l => ∀ K : List IV → Bool, IV.rec_1 (motive_1 := fun _ => (IV → Bool) → Bool) (motive_2 := fun _ => (List IV → Bool) → Bool)
   (fun b K => Bool.casesOn b (K (.bool false)) (K (.bool true))) (fun k z K => fZ z fun z => K (.int k z)) (fun s K => fStr s fun s => K (.str s)) (fun f K => fN f fun f => K (.fn f))
   (fun K => K .nil) (fun K => K .np) (fun K => K .nm) (fun K => K .nf) (fun _ ih K => ih fun cs => K (.agg cs)) (fun sz _ ih K => ih fun es => K (.sl sz es)) (fun f _ ih K => ih fun cs => K (.clo f cs)) (fun _ ih K => ih fun cs => K (.ip cs))
   (fun K => K []) (fun _ _ ih ihs K => ih fun c => ihs fun cs => K (c :: cs)) l K = K l) ?_ ?_ ?_ ?_ ?_ ?_ ?_ ?_ ?_ ?_ ?_ ?_ ?_ ?_ i
 · intro b K; cases b <;> rfl
 · intro k z K; exact fZ_eq z fun z => K (.int k z)
 · intro s K; exact fStr_eq s fun s => K (.str s)
 · intro f K; exact fN_eq f fun f => K (.fn f)
 · intro K; rfl
 · intro K; rfl
 · intro K; rfl
 · intro K; rfl
 · intro cs ih K; exact ih fun cs => K (.agg cs)
 · intro sz cs ih K; exact ih fun es => K (.sl sz es)
 · intro f cs ih K; exact ih fun cs => K (.clo f cs)
 · intro cs ih K; exact ih fun cs => K (.ip cs)
 · intro K; rfl
 · intro c cs ih ihs K; exact (ih _).trans (ihs fun cs => K (c :: cs))
theorem fIs_eq : ∀ (l : List IV) (K : List IV → Bool), fIs l K = K l
 | [], K => rfl
 | c :: cs, K => by show (fI c fun c => fIs cs fun cs => K (c :: cs)) = _; rw [fI_eq, fIs_eq cs]
def fP (p : PV) : (PV → Bool) → Bool := PV.rec (motive_1 := fun _ => (PV → Bool) → Bool) (motive_2 := fun _ => (List PV → Bool) → Bool)
 (fun K => K .any) (fun i K => fI i fun i => K (.imm i)) (fun _ ih K => ih fun cs => K (.agg cs)) (fun _ ih K => ih fun cs => K (.tup cs))
 (fun r g o K => fN r fun r => fN g fun g => fN o fun o => K (.ptr r g o)) (fun r g K => fN r fun r => fN g fun g => K (.row r g))
 (fun r g a b c K => fN r fun r => fN g fun g => fN a fun a => fN b fun b => fN c fun c => K (.eptr r g a b c)) (fun r g a b c K => fN r fun r => fN g fun g => fN a fun a => fN b fun b => fN c fun c => K (.sub r g a b c))
 (fun cs K => fIs cs fun cs => K (.iptr cs)) (fun a b K => fIs b fun b => K (.ful a b)) (fun f _ ih K => fN f fun f => ih fun cs => K (.clo f cs))
 (fun K => K []) (fun _ _ ih ihs K => ih fun c => ihs fun cs => K (c :: cs)) p
def fL (l : List PV) : (List PV → Bool) → Bool := List.rec (motive := fun _ => (List PV → Bool) → Bool) (fun K => K []) (fun c _ ih K => fP c fun c => ih fun cs => K (c :: cs)) l
theorem fP_eq (p : PV) : ∀ K : PV → Bool, fP p K = K p := by
 refine PV.rec (motive_1 := fun i => ∀ K : PV → Bool, fP i K = K i) (motive_2 := fun l => ∀ K : List PV → Bool, PV.rec_1 (motive_1 := fun _ => (PV → Bool) → Bool) (motive_2 := fun _ => (List PV → Bool) → Bool)
 (fun K => K .any) (fun i K => fI i fun i => K (.imm i)) (fun _ ih K => ih fun cs => K (.agg cs)) (fun _ ih K => ih fun cs => K (.tup cs))
 (fun r g o K => fN r fun r => fN g fun g => fN o fun o => K (.ptr r g o)) (fun r g K => fN r fun r => fN g fun g => K (.row r g))
 (fun r g a b c K => fN r fun r => fN g fun g => fN a fun a => fN b fun b => fN c fun c => K (.eptr r g a b c)) (fun r g a b c K => fN r fun r => fN g fun g => fN a fun a => fN b fun b => fN c fun c => K (.sub r g a b c))
 (fun cs K => fIs cs fun cs => K (.iptr cs)) (fun a b K => fIs b fun b => K (.ful a b)) (fun f _ ih K => fN f fun f => ih fun cs => K (.clo f cs))
 (fun K => K []) (fun _ _ ih ihs K => ih fun c => ihs fun cs => K (c :: cs)) l K = K l) ?_ ?_ ?_ ?_ ?_ ?_ ?_ ?_ ?_ ?_ ?_ ?_ ?_ p
 · intro K; rfl
 · intro i K; exact fI_eq i fun i => K (.imm i)
 · intro cs ih K; exact ih fun cs => K (.agg cs)
 · intro cs ih K; exact ih fun cs => K (.tup cs)
 · intro r g o K; show (fN r fun r => fN g fun g => fN o fun o => K (.ptr r g o)) = _; simp only [fN_eq]
 · intro r g K; show (fN r fun r => fN g fun g => K (.row r g)) = _; simp only [fN_eq]
 · intro r g a b c K; show (fN r fun r => fN g fun g => fN a fun a => fN b fun b => fN c fun c => K (.eptr r g a b c)) = _; simp only [fN_eq]
 · intro r g a b c K; show (fN r fun r => fN g fun g => fN a fun a => fN b fun b => fN c fun c => K (.sub r g a b c)) = _; simp only [fN_eq]
 · intro cs K; exact fIs_eq cs fun cs => K (.iptr cs)
 · intro a b K; exact fIs_eq b fun b => K (.ful a b)
 · intro f cs ih K; cases f with
   | zero => exact ih fun cs => K (.clo 0 cs)
   | succ n => exact ih fun cs => K (.clo (n + 1) cs)
 · intro K; rfl
 · intro c cs ih ihs K; exact (ih _).trans (ihs fun cs => K (c :: cs))
theorem fL_eq : ∀ (l : List PV) (K : List PV → Bool), fL l K = K l
 | [], K => rfl
 | c :: cs, K => by show (fP c fun c => fL cs fun cs => K (c :: cs)) = _; rw [fP_eq, fL_eq cs]
def fM : List (IV × IV) → (List (IV × IV) → Bool) → Bool
 | [], K => K []
 | (a, b) :: l, K => fI a fun a => fI b fun b => fM l fun l => K ((a, b) :: l)
theorem fM_eq : ∀ (l : List (IV × IV)) (K : List (IV × IV) → Bool), fM l K = K l
 | [], K => rfl
 | (a, b) :: l, K => by unfold fM; rw [fI_eq, fI_eq, fM_eq l]
def fB : Blk → (Blk → Bool) → Bool
 | .dead g, K => fN g fun g => K (.dead g)
 | .box g cs t, K => fN g fun g => fL cs fun cs => K (.box g cs t)
 | .row e sz g es, K => fN g fun g => fL es fun es => K (.row e sz g es)
 | .map kk g ps, K => fN g fun g => fM ps fun ps => K (.map kk g ps)
theorem fB_eq (b : Blk) (K : Blk → Bool) : fB b K = K b := by
 cases b <;> simp only [fB, fN_eq, fL_eq, fM_eq]
def fBs : List Blk → (List Blk → Bool) → Bool
 | [], K => K []
 | b :: l, K => fB b fun b => fBs l fun l => K (b :: l)
theorem fBs_eq : ∀ (l : List Blk) (K : List Blk → Bool), fBs l K = K l
 | [], K => rfl
 | b :: l, K => by unfold fBs; rw [fB_eq, fBs_eq l]
def fW : List (Nat × Blk) → (List (Nat × Blk) → Bool) → Bool
 | [], K => K []
 | (r, b) :: l, K => fN r fun r => fB b fun b => fW l fun l => K ((r, b) :: l)
theorem fW_eq : ∀ (l : List (Nat × Blk)) (K : List (Nat × Blk) → Bool), fW l K = K l
 | [], K => rfl
 | (r, b) :: l, K => by unfold fW; rw [fN_eq, fB_eq, fW_eq l]
def fSp {α : Type} (l : List α) : (List α → Bool) → Bool := List.rec (motive := fun _ => (List α → Bool) → Bool) (fun K => K []) (fun x _ ih K => ih fun l => K (x :: l)) l
theorem fSp_eq {α : Type} : ∀ (l : List α) (K : List α → Bool), fSp l K = K l
 | [], K => rfl
 | x :: l, K => by show (fSp l fun l => K (x :: l)) = _; rw [fSp_eq l]
def fSet {α : Type} (l : List α) (n : Nat) (v : α) (K : List α → Bool) : Bool :=
 List.rec (motive := fun _ => Nat → (List α → Bool) → Bool) (fun _ K => K []) (fun x l ih n => Nat.casesOn (motive := fun _ => (List α → Bool) → Bool) n (fun K => K (v :: l)) (fun n K => ih n fun l => K (x :: l))) l n K
theorem fSet_eq {α : Type} : ∀ (l : List α) (n : Nat) (v : α) (K : List α → Bool), fSet l n v K = K (l.set n v)
 | [], _, _, K => rfl
 | _ :: l, 0, v, K => rfl
 | x :: l, n + 1, v, K => by show (fSet l n v fun l => K (x :: l)) = _; rw [fSet_eq l]; rfl
def fSetE (E : List PV) (d : Option Nat) (v : PV) (K : List PV → Bool) : Bool := match d with
 | some d => fSet E d v K
 | none => K E
theorem fSetE_eq (E : List PV) (d : Option Nat) (v : PV) (K : List PV → Bool) : fSetE E d v K = K (setE E d v) := by
 cases d <;> simp [fSetE, setE, fSet_eq]
def fSetB : List Blk → List (Nat × Blk) → (List Blk → Bool) → Bool
 | B, [], K => K B
 | B, (r, b) :: ws, K => fSet B r b fun B => fSetB B ws K
theorem fSetB_eq : ∀ (ws : List (Nat × Blk)) (B : List Blk) (K : List Blk → Bool), fSetB B ws K = K (setB B ws)
 | [], B, K => rfl
 | (r, b) :: ws, B, K => by unfold fSetB; rw [fSet_eq, fSetB_eq ws]; rfl
end
section dn
variable (F : Nat → Nat)
mutual
def dn : PV → PV
 | .any => .any
 | .imm i => .imm i
 | .agg cs => .agg (dnL cs)
 | .tup cs => .tup (dnL cs)
 | .ptr r g o => .ptr (F r) g o
 | .row r g => .row (F r) g
 | .eptr r g sz i o => .eptr (F r) g sz i o
 | .sub r g sz i o => .sub (F r) g sz i o
 | .iptr cs => .iptr cs
 | .ful a b => .ful a b
 | .clo f cs => .clo f (dnL cs)
def dnL : List PV → List PV
 | [] => []
 | c :: cs => dn c :: dnL cs
end
def dnB : Blk → Blk
 | .dead g => .dead g
 | .box g cs t => .box g (dnL F cs) t
 | .row e sz g es => .row e sz g (dnL F es)
 | .map kk g ps => .map kk g ps
end dn
section okP
variable (rs : List Nat) (G : Nat → Nat)
mutual
def okP : PV → Bool
 | .any => true
 | .imm _ => true
 | .agg cs => okL cs
 | .tup cs => okL cs
 | .ptr r g _ => rs.contains r && g == G r
 | .row r g => rs.contains r && g == G r
 | .eptr r g _ _ _ => rs.contains r && g == G r
 | .sub r g _ _ _ => rs.contains r && g == G r
 | .iptr _ => true
 | .ful _ _ => true
 | .clo _ cs => okL cs
def okL : List PV → Bool
 | [] => true
 | c :: cs => okP c && okL cs
end
def okB : Blk → Bool
 | .dead _ => true
 | .box _ cs _ => okL rs G cs
 | .row _ _ _ es => okL rs G es
 | .map _ _ _ => true
end okP
def ixOf (rs : List Nat) (r : Nat) : Nat := (idxOf r rs 0).getD 0
theorem idxOf_mem {r : Nat} : ∀ {l : List Nat} {i : Nat}, r ∈ l → ∃ q, idxOf r l i = some (i + q) ∧ l[q]? = some r
 | [], _, h => by cases h
 | x :: l, i, h => by
   unfold idxOf
   by_cases e : x = r
   · exact ⟨0, by rw [if_pos e]; rfl, by simp [e]⟩
   · rw [if_neg e]
     obtain ⟨q, h1, h2⟩ := idxOf_mem (l := l) (i := i + 1) (by rcases List.mem_cons.1 h with h | h; exact absurd h.symm e; exact h)
     exact ⟨q + 1, by rw [h1]; congr 1; omega, by simpa using h2⟩
theorem ix_at {rs : List Nat} {r : Nat} (h : r ∈ rs) : rs[ixOf rs r]? = some r := by
 obtain ⟨q, h1, h2⟩ := idxOf_mem (i := 0) h
 unfold ixOf
 rw [h1]
 simpa using h2
section updn
variable {rs : List Nat} {G g : Nat → Nat} (hg : ∀ r, r ∈ rs → g (ixOf rs r) = G r)
include hg
theorem ix_up {r q : Nat} (h : (rs.contains r && q == G r) = true) : rs.getD (ixOf rs r) 0 = r ∧ g (ixOf rs r) = q := by
 rw [Bool.and_eq_true, beq_iff_eq] at h
 have hm : r ∈ rs := by simpa using h.1
 exact ⟨by rw [List.getD_eq_getElem?_getD, ix_at hm]; rfl, (hg r hm).trans h.2.symm⟩
mutual
theorem up_dn : ∀ p : PV, okP rs G p = true → up (fun i => rs.getD i 0) g (dn (ixOf rs) p) = p
 | .any, _ => by unfold dn up; rfl
 | .imm i, _ => by unfold dn up; rfl
 | .agg cs, h => by unfold okP at h; unfold dn up; rw [up_dnL cs h]
 | .tup cs, h => by unfold okP at h; unfold dn up; rw [up_dnL cs h]
 | .ptr r q o, h => by unfold okP at h; unfold dn up; obtain ⟨h1, h2⟩ := ix_up hg h; simp only [h1, h2]
 | .row r q, h => by unfold okP at h; unfold dn up; obtain ⟨h1, h2⟩ := ix_up hg h; simp only [h1, h2]
 | .eptr r q a b c, h => by unfold okP at h; unfold dn up; obtain ⟨h1, h2⟩ := ix_up hg h; simp only [h1, h2]
 | .sub r q a b c, h => by unfold okP at h; unfold dn up; obtain ⟨h1, h2⟩ := ix_up hg h; simp only [h1, h2]
 | .iptr cs, _ => by unfold dn up; rfl
 | .ful a b, _ => by unfold dn up; rfl
 | .clo f cs, h => by unfold okP at h; unfold dn up; rw [up_dnL cs h]
theorem up_dnL : ∀ l : List PV, okL rs G l = true → upL (fun i => rs.getD i 0) g (dnL (ixOf rs) l) = l
 | [], _ => by unfold dnL upL; rfl
 | c :: cs, h => by
   unfold okL at h
   rw [Bool.and_eq_true] at h
   unfold dnL upL
   rw [up_dn c h.1, up_dnL cs h.2]
end
theorem up_dnB (b : Blk) (h : okB rs G b = true) : upB (fun i => rs.getD i 0) g (gen b) (dnB (ixOf rs) b) = b := by
 cases b with
 | dead q => rfl
 | box q cs t => show Blk.box q (upL _ g (dnL (ixOf rs) cs)) t = _; rw [up_dnL hg cs h]
 | row e sz q es => show Blk.row e sz q (upL _ g (dnL (ixOf rs) es)) = _; rw [up_dnL hg es h]
 | map kk q ps => rfl
end updn
theorem gen_dn (F : Nat → Nat) (b : Blk) : gen (dnB F b) = gen b := by cases b <;> rfl
def blkAt (B : List Blk) (r : Nat) : Blk := B.getD r (.dead 0)
def dnBs (rs : List Nat) (B : List Blk) : List Blk := rs.map fun r => dnB (ixOf rs) (blkAt B r)
theorem dnBs_at {rs : List Nat} {B : List Blk} {i : Nat} {x : Blk} (h : (dnBs rs B)[i]? = some x) : ∃ r, rs[i]? = some r ∧ x = dnB (ixOf rs) (blkAt B r) := by
 unfold dnBs at h
 rw [List.getElem?_map] at h
 cases hr : rs[i]? with
 | none => rw [hr] at h; cases h
 | some r => rw [hr] at h; exact ⟨r, rfl, (Option.some.inj h).symm⟩
theorem gens_dn {rs : List Nat} {B : List Blk} {i r : Nat} (h : rs[i]? = some r) : gens (dnBs rs B) i = gen (blkAt B r) := by
 unfold gens dnBs
 rw [List.getElem?_map, h]
 exact gen_dn _ _
def okCall (rs : List Nat) (B : List Blk) (args : List PV) : Bool :=
 nodupB rs && (rs.all fun r => decide (r < B.length) && okB rs (fun r => gen (blkAt B r)) (blkAt B r)) && okL rs (fun r => gen (blkAt B r)) args
def gensL (n : Nat) (B0 B1 : List Blk) : Bool := (List.range n).all fun i => decide (gens B0 i ≤ gens B1 i)
def okBack (args0 res0 : List PV) (B0 B1 : List Blk) : Bool :=
 curL B0.length (gens B0) args0 && (B0.all (curB B0.length (gens B0)) && (cur B0.length (gens B1) (resQ res0) && (B1.all (curB B0.length (gens B1)) && gensL B0.length B0 B1)))
theorem call_ok {P : Program} {Γ : Ctx} {f : FuncId} {args res0 : List PV} {B B1 : List Blk} {rs : List Nat} (h : PCB P Γ.X f (dnL (ixOf rs) args) (dnBs rs B) res0 B1) (hc : okCall rs B args = true) (hb : okBack (dnL (ixOf rs) args) res0 (dnBs rs B) B1 = true)
   {get : Nat → Option Blk} (hget : ∀ r, r ∈ rs → get r = B[r]?) :
   FCalls P Γ ⟨f, args, rs.filterMap fun r => (get r).map fun b => (r, b), up (fun i => rs.getD i 0) (gens B1) (resQ res0), zipU rs (fun i => rs.getD i 0) (gens B1) B1⟩ := by
 unfold okCall at hc
 simp only [Bool.and_eq_true, List.all_eq_true, decide_eq_true_eq] at hc
 obtain ⟨⟨hn, hr⟩, ha⟩ := hc
 unfold okBack at hb
 simp only [Bool.and_eq_true] at hb
 obtain ⟨h1, h2, h3, h4, h5⟩ := hb
 have hlen : (dnBs rs B).length = rs.length := by unfold dnBs; simp
 have hg : ∀ r, r ∈ rs → gens (dnBs rs B) (ixOf rs r) = gen (blkAt B r) := fun r hm => gens_dn (ix_at hm)
 have e := PCB.fcalls h rs (gens (dnBs rs B)) (gens B1) (nodup_of hn) hlen.symm h1 h2 h3 h4 (fun i hi => ?_) (ors := rs.filterMap fun r => (get r).map fun b => (r, b)) (fun i x hx => ?_)
 · rw [up_dnL hg args ha] at e
   exact e
 · unfold gensL at h5
   have := List.all_eq_true.1 h5 i (List.mem_range.2 hi)
   exact ⟨by simpa using this, fun e => e.symm⟩
 · obtain ⟨r, h6, h7⟩ := dnBs_at hx
   have hm : r ∈ rs := List.mem_of_getElem? h6
   obtain ⟨h8, h9⟩ := hr r hm
   have h10 : B[r]? = some (blkAt B r) := by unfold blkAt; rw [List.getD_eq_getElem?_getD, List.getElem?_eq_getElem h8]; rfl
   have h11 : gens (dnBs rs B) i = gen (blkAt B r) := gens_dn h6
   rw [h11, h7, up_dnB hg _ h9, List.getD_eq_getElem?_getD, h6]
   refine List.mem_filterMap.2 ⟨r, hm, ?_⟩
   rw [hget r hm, h10]
   rfl
end Go.Pv
namespace Go.Pv
open Go.RowKit (Below)
noncomputable section
set_option linter.unusedSimpArgs false
set_option linter.unusedSectionVars false
def ev0 (gl : Nat → Option (List IV)) (E : List PV) : Operand → PV
 | .tmp t => E.getD t .any
 | .const v => pconst v
 | .global g => match gl g with
   | some cs => .iptr cs
   | none => .any
 | .func f => .imm (.fn f)
def evr0 (gl : Nat → Option (List IV)) (E : List PV) (tr : List Nat) : Operand → PV
 | .tmp t => if tr.contains t then E.getD t .any else .any
 | x => ev0 gl [] x
theorem ev0_eq {Γ : Ctx} {gl : Nat → Option (List IV)} (h : Γ.X.gl = gl) (E : List PV) : ev0 gl E = pev Γ E := by
 funext x
 cases x with
 | global g => simp only [ev0, pev, h]; cases gl g <;> rfl
 | _ => rfl
theorem evr0_eq {Γ : Ctx} {gl : Nat → Option (List IV)} (h : Γ.X.gl = gl) (E : List PV) (tr : List Nat) : evr0 gl E tr = evr Γ E tr := by
 funext x
 cases x with
 | tmp t => rfl
 | _ => simp only [evr0, evr, ev0_eq h]
set_option linter.unusedVariables false in
section
def xo1 (P : Program) (T : TypeId → Option (List CK)) (id : Nat) (ev : Operand → PV) (get : Nat → Option Blk) (c : Operand) (a : Operand) (b : Operand) : Option Out :=
 match ev c with
   | .imm (.bool t) => val (if t then ev a else ev b)
   | _ => none
def xo2 (P : Program) (T : TypeId → Option (List CK)) (id : Nat) (ev : Operand → PV) (get : Nat → Option Blk) (t : TypeId) : Option Out :=
 match tdOf P t, get id with
   | some d, some (.dead g) => match arrOf d.kind with
     | some n => if n = d.zero.length ∧ 0 < n ∧ n ≤ most then some ⟨.eptr id (g + 1) 1 0 0, [(id, .row t 1 (g + 1) (d.zero.map .imm))], none⟩ else none
     | none => some ⟨.ptr id (g + 1) 0, [(id, .box (g + 1) (d.zero.map .imm) (boxT t d))], none⟩
   | _, _ => none
def xo3 (P : Program) (T : TypeId → Option (List CK)) (id : Nat) (ev : Operand → PV) (get : Nat → Option Blk) (x : Operand) : Option Out :=
 match cellsP (ev x), get id with
   | some cs, some (.dead g) => some ⟨.ptr id (g + 1) 0, [(id, .box (g + 1) cs)], none⟩
   | _, _ => none
def xo4 (P : Program) (T : TypeId → Option (List CK)) (id : Nat) (ev : Operand → PV) (get : Nat → Option Blk) (t : TypeId) (x : Operand) : Option Out :=
 match tdOf P t, ev x with
   | some d, .ptr r g off => match get r with
     | some (.box g' cs _) => if g = g' then (partP cs off d.size d.agg).bind val else none
     | _ => none
   | some d, .eptr r g sz i off => match get r with
     | some (.row _ sz' g' es) => if g = g' ∧ sz = sz' then (match es[i]? with
       | some p => (match cellsP p with
         | some cs => (partP cs off d.size d.agg).bind val
         | none => none)
       | none => none) else none
     | _ => none
   | some d, .iptr cs => (partI cs 0 d.size d.agg).bind fun i => val (.imm i)
   | _, _ => none
def xo5 (P : Program) (T : TypeId → Option (List CK)) (id : Nat) (ev : Operand → PV) (get : Nat → Option Blk) (t : TypeId) (x : Operand) (y : Operand) : Option Out :=
 match tdOf P t, ev x, cellsP (ev y) with
   | some d, .ptr r g off, some ys => match get r with
     | some (.box g' cs t') => if g = g' ∧ ys.length = d.size ∧ off + d.size ≤ cs.length then some ⟨.any, [(r, .box g (cs.take off ++ ys ++ cs.drop (off + d.size)) t')], none⟩ else none
     | _ => none
   | some d, .eptr r g sz i off, some ys => match get r with
     | some (.row e sz' g' es) => if g = g' ∧ sz = sz' ∧ ys.length = d.size then (match es[i]? with
       | some p => (match cellsP p with
         | some cs => if off + d.size ≤ cs.length then some ⟨.any, [(r, .row e sz g (es.set i (joinP p (cs.take off ++ ys ++ cs.drop (off + d.size)))))], none⟩ else none
         | none => none)
       | none => none) else none
     | _ => none
   | _, _, _ => none
def xo6 (P : Program) (T : TypeId → Option (List CK)) (id : Nat) (ev : Operand → PV) (get : Nat → Option Blk) (x : Operand) : Option Out :=
 match ev x with
   | .ptr r g off => match get r with
     | some (.box g' _ _) => if g = g' then val (.ptr r g off) else none
     | _ => none
   | .iptr cs => val (.iptr cs)
   | .clo f cs => val (.clo f cs)
   | .imm (.fn f) => val (.imm (.fn f))
   | .imm (.clo f cs) => val (.imm (.clo f cs))
   | _ => none
def xo7 (P : Program) (T : TypeId → Option (List CK)) (id : Nat) (ev : Operand → PV) (get : Nat → Option Blk) (op : BinOp) (t : TypeId) (x : Operand) (y : Operand) : Option Out :=
 match ev x, ev y, T t with
   | .imm (.agg is), .imm (.agg js), some ks => if shapeB is ks ∧ shapeB js ks then (match op with
     | .eql => val (.imm (.bool (eqC is js)))
     | .neq => val (.imm (.bool (!eqC is js)))
     | _ => none) else none
   | .imm (.bool a), .imm (.bool b), _ => (match tdOf P t with
     | some ⟨_, _, _, .bool⟩ => (match op with
       | .eql => val (.imm (.bool (a == b)))
       | .neq => val (.imm (.bool (!(a == b))))
       | _ => none)
     | _ => none)
   | .ptr r g _, .imm .np, _ => (match tdOf P t, get r with
     | some ⟨_, _, _, .ptr _⟩, some (.box g' _ _) => if g = g' then (match op with
       | .eql => val (.imm (.bool false))
       | .neq => val (.imm (.bool true))
       | _ => none) else none
     | _, _ => none)
   | .imm .np, .imm .np, _ => (match tdOf P t with
     | some ⟨_, _, _, .ptr _⟩ => (match op with
       | .eql => val (.imm (.bool true))
       | .neq => val (.imm (.bool false))
       | _ => none)
     | _ => none)
   | .clo _ _, .imm .nf, _ => (match tdOf P t with
     | some ⟨_, _, _, .fn⟩ => (match op with
       | .eql => val (.imm (.bool false))
       | .neq => val (.imm (.bool true))
       | _ => none)
     | _ => none)
   | .imm (.fn _), .imm .nf, _ => (match tdOf P t with
     | some ⟨_, _, _, .fn⟩ => (match op with
       | .eql => val (.imm (.bool false))
       | .neq => val (.imm (.bool true))
       | _ => none)
     | _ => none)
   | .imm .nf, .imm .nf, _ => (match tdOf P t with
     | some ⟨_, _, _, .fn⟩ => (match op with
       | .eql => val (.imm (.bool true))
       | .neq => val (.imm (.bool false))
       | _ => none)
     | _ => none)
   | .imm .nil, .imm .nil, _ => (match tdOf P t with
     | some ⟨_, _, _, .slice _ _ _⟩ => (match op with
       | .eql => val (.imm (.bool true))
       | .neq => val (.imm (.bool false))
       | _ => none)
     | _ => none)
   | .imm (.sl _ (_ :: _)), .imm .nil, _ => (match tdOf P t with
     | some ⟨_, _, _, .slice _ _ _⟩ => (match op with
       | .eql => val (.imm (.bool false))
       | .neq => val (.imm (.bool true))
       | _ => none)
     | _ => none)
   | .row r g, .imm .nil, _ => (match tdOf P t, get r with
     | some ⟨_, _, _, .slice _ _ _⟩, some (.row _ _ g' (_ :: _)) => if g = g' then (match op with
       | .eql => val (.imm (.bool false))
       | .neq => val (.imm (.bool true))
       | _ => none) else none
     | _, _ => none)
   | p, q, _ => (binP op p q).bind fun i => val (.imm i)
def xo8 (P : Program) (T : TypeId → Option (List CK)) (id : Nat) (ev : Operand → PV) (get : Nat → Option Blk) (op : UnOp) (x : Operand) : Option Out :=
 match op, ev x with
   | .not, .imm (.bool b) => val (.imm (.bool (!b)))
   | .neg, .imm (.int k a) => val (.imm (.int k (k.wrap (0 - a))))
   | _, _ => none
def xo9 (P : Program) (T : TypeId → Option (List CK)) (id : Nat) (ev : Operand → PV) (get : Nat → Option Blk) (s : TypeId) (x : Operand) (f : Nat) : Option Out :=
 match tdOf P s, ev x with
   | some ⟨_, _, _, .struct fs⟩, .ptr r g off => match fs[f]? with
     | some (fo, fz, _) => match get r with
       | some (.box g' _ _) => if fz ≠ 0 ∧ g = g' then val (.ptr r g (off + fo)) else none
       | _ => none
     | none => none
   | some ⟨_, _, _, .struct fs⟩, .eptr r g sz i off => match fs[f]? with
     | some (fo, fz, _) => match get r with
       | some (.row _ _ g' _) => if fz ≠ 0 ∧ g = g' then val (.eptr r g sz i (off + fo)) else none
       | _ => none
     | none => none
   | some ⟨_, _, _, .struct fs⟩, .iptr cs => match fs[f]? with
     | some (fo, fz, _) => if fz = 0 then none else val (.iptr (cs.drop fo))
     | none => none
   | _, _ => none
def xo10 (P : Program) (T : TypeId → Option (List CK)) (id : Nat) (ev : Operand → PV) (get : Nat → Option Blk) (t : TypeId) (x : Operand) (f : Nat) : Option Out :=
 match tdOf P t, ev x with
   | some ⟨_, _, _, .struct fs⟩, .imm (.agg cs) => match fs[f]? with
     | some (fo, fz, fa) => (partI cs fo fz fa).bind fun i => val (.imm i)
     | none => none
   | some ⟨_, _, _, .struct fs⟩, .agg ps => match fs[f]? with
     | some (fo, _, false) => (ps[fo]?).bind val
     | _ => none
   | _, _ => none
def xo11 (P : Program) (T : TypeId → Option (List CK)) (id : Nat) (ev : Operand → PV) (get : Nat → Option Blk) (t : TypeId) (x : Operand) (ix : Operand) : Option Out :=
 match tdOf P t, ev x, ev ix with
   | some ⟨_, _, _, .slice _ sz _⟩, .imm (.sl sz' es), .imm (.int _ i) => if sz = sz' ∧ 0 ≤ i then (es[i.toNat]?).bind fun e => val (.iptr (cellsI e)) else none
   | some ⟨_, _, _, .slice _ sz _⟩, .row r g, .imm (.int _ i) => match get r with
     | some (.row _ sz' g' es) => if g = g' ∧ sz = sz' ∧ 0 ≤ i ∧ i.toNat < es.length then val (.eptr r g sz i.toNat 0) else none
     | _ => none
   | some ⟨_, _, _, .slice _ sz _⟩, .sub r g sz' q m, .imm (.int _ i) => match get r with
     | some (.row _ sz2 g' _) => if g = g' ∧ sz = sz' ∧ sz = sz2 ∧ 0 ≤ i ∧ i.toNat < m then val (.eptr r g sz (q + i.toNat) 0) else none
     | _ => none
   | some ⟨_, _, _, .arr n _ sz⟩, .eptr r g sz' i0 o, .imm (.int _ i) => match get r with
     | some (.row _ sz2 g' es) => if g = g' ∧ sz = sz' ∧ sz = sz2 ∧ i0 = 0 ∧ o = 0 ∧ n = es.length ∧ 0 ≤ i ∧ i.toNat < es.length then val (.eptr r g sz i.toNat 0) else none
     | _ => none
   | some ⟨_, _, _, .arr n _ sz⟩, .iptr cs, .imm (.int _ i) => if 0 ≤ i ∧ i.toNat < n then val (.iptr (cs.drop (i.toNat * sz))) else none
   | _, _, _ => none
def xo12 (P : Program) (T : TypeId → Option (List CK)) (id : Nat) (ev : Operand → PV) (get : Nat → Option Blk) (t : TypeId) (x : Operand) (ix : Operand) : Option Out :=
 match tdOf P t, ev x, ev ix with
   | some ⟨_, _, _, .str⟩, .imm (.str s), .imm (.int _ i) => if 0 ≤ i then (s.data[i.toNat]?).bind fun b => val (.imm (.int .u8 b.toNat)) else none
   | _, _, _ => none
def xo13 (P : Program) (T : TypeId → Option (List CK)) (id : Nat) (ev : Operand → PV) (get : Nat → Option Blk) (t : TypeId) (parts : Array (Nat × Operand)) : Option Out :=
 match tdOf P t with
   | some ⟨_, _, zs, .struct fs⟩ => (fillP fs (zs.map .imm) (parts.toList.map fun x => (x.1, ev x.2))).bind fun cs => val (norm (.agg cs))
   | _ => none
def xo14 (P : Program) (T : TypeId → Option (List CK)) (id : Nat) (ev : Operand → PV) (get : Nat → Option Blk) (t : TypeId) (n : Nat) (parts : Array (Nat × Operand)) : Option Out :=
 match tdOf P t, get id, slotsP 0 (parts.toList.map fun x => (x.1, ev x.2)) with
   | some ⟨_, _, _, .slice e sz _⟩, some (.dead g), some ps => if n = ps.length ∧ (tdOf P e).isSome = true ∧ 0 < sz ∧ n * sz ≤ 16000000 ∧ sizesB sz ps then some ⟨.row id (g + 1), [(id, .row e sz (g + 1) ps)], none⟩ else none
   | _, _, _ => none
def xo15 (P : Program) (T : TypeId → Option (List CK)) (id : Nat) (ev : Operand → PV) (get : Nat → Option Blk) (t : TypeId) (x : Operand) (lo : Option Operand) (hi : Option Operand) : Option Out :=
 match tdOf P t, ev x, bound ev lo 0 with
   | some ⟨_, _, _, .str⟩, .imm (.str s), some l => match bound ev hi s.size with
     | some h => if 0 ≤ l ∧ l ≤ h ∧ h ≤ s.size then val (.imm (.str (s.extract l.toNat h.toNat))) else none
     | none => none
   | some ⟨_, _, _, .slice _ sz _⟩, .imm (.sl sz' es), some l => match bound ev hi es.length with
     | some h => if sz = sz' ∧ 0 ≤ l ∧ l ≤ h ∧ h ≤ es.length then val (.imm (.sl sz ((es.drop l.toNat).take (h.toNat - l.toNat)))) else none
     | none => none
   | some ⟨_, _, _, .slice _ sz _⟩, .row r g, some l => match get r with
     | some (.row e sz' g' es) => (match lo with
       | some _ => (match bound ev hi es.length with
         | some h => if g = g' ∧ sz = sz' ∧ 0 ≤ l ∧ l ≤ h ∧ h ≤ es.length then val (.sub r g sz l.toNat (h.toNat - l.toNat)) else none
         | none => none)
       | none => (match bound ev hi es.length with
         | some h => if g = g' ∧ sz = sz' ∧ l = 0 ∧ 0 ≤ h ∧ h ≤ es.length then some ⟨.row r (g + 1), [(r, .row e sz (g + 1) (es.take h.toNat))], none⟩ else none
         | none => none))
     | _ => none
   | some ⟨_, _, _, .slice _ sz _⟩, .sub r g sz' q m, some l => match get r with
     | some (.row _ sz2 g' _) => (match bound ev hi (m : Nat) with
       | some h => if g = g' ∧ sz = sz' ∧ sz = sz2 ∧ 0 ≤ l ∧ l ≤ h ∧ h ≤ m then val (.sub r g sz (q + l.toNat) (h.toNat - l.toNat)) else none
       | none => none)
     | _ => none
   | some ⟨_, _, _, .arr n _ sz⟩, .eptr r g sz' i0 o, some l => match get r with
     | some (.row _ sz2 g' es) => (match hi with
       | none => if g = g' ∧ sz = sz' ∧ sz = sz2 ∧ i0 = 0 ∧ o = 0 ∧ n = es.length ∧ 0 ≤ l ∧ l ≤ es.length then val (.sub r g sz l.toNat (es.length - l.toNat)) else none
       | some _ => none)
     | _ => none
   | _, _, _ => none
def xo16 (P : Program) (T : TypeId → Option (List CK)) (id : Nat) (ev : Operand → PV) (get : Nat → Option Blk) (t : TypeId) (x : Operand) (lo : Option Operand) (y : Operand) (mx : Operand) : Option Out :=
 match tdOf P t, ev x, bound ev lo 0, ev y, ev mx with
   | some ⟨_, _, _, .slice _ sz _⟩, .imm (.sl sz' es), some l, .imm (.int _ h), .imm (.int _ m) => if sz = sz' ∧ 0 ≤ l ∧ l ≤ h ∧ h = m ∧ m ≤ es.length then val (.ful sz ((es.drop l.toNat).take (h.toNat - l.toNat))) else none
   | _, _, _, _, _ => none
def xo17 (P : Program) (T : TypeId → Option (List CK)) (id : Nat) (ev : Operand → PV) (get : Nat → Option Blk) (args : Array Operand) (ts : Array TypeId) : Option Out :=
 match tdOf P (ts.getD 0 0), args.toList.map ev with
   | some ⟨_, _, _, .slice e sz bytes⟩, [s, x] => if (tdOf P e).isSome = true ∧ 0 < sz ∧ bytes ≤ 100000 ∧ ts.size = 2 ∧ ts.getD 1 0 = ts.getD 0 0 then (match srcP get sz x with
     | some xs => match s with
       | .imm .nil => match get id with
         | some (.dead g) => if xs.length ≤ most then some ⟨.row id (g + 1), [(id, .row e sz (g + 1) xs)], none⟩ else none
         | _ => none
       | .row r g => match get r with
         | some (.row e' sz' g' es) => if g = g' ∧ e = e' ∧ sz = sz' ∧ Room bytes (es.length + xs.length) ∧ notRef r x then some ⟨.row r (g + 1), [(r, .row e sz (g + 1) (es ++ xs))], none⟩ else none
         | _ => none
       | .ful sz' es => match get id with
         | some (.dead g) => if sz = sz' ∧ es.length + xs.length ≤ most then (if xs.length = 0 then val (.imm (.sl sz es)) else some ⟨.row id (g + 1), [(id, .row e sz (g + 1) (es.map .imm ++ xs))], none⟩) else none
         | _ => none
       | _ => none
     | none => none) else appS P id get e sz bytes ts s x
   | _, _ => none
def xo18 (P : Program) (T : TypeId → Option (List CK)) (id : Nat) (ev : Operand → PV) (get : Nat → Option Blk) (args : Array Operand) (ts : Array TypeId) : Option Out :=
 match tdOf P (ts.getD 0 0), args.toList.map ev with
   | some ⟨_, _, _, .slice e sz _⟩, [.row r g, x] => match get r, srcP get sz x with
     | some (.row e' sz' g' es), some xs => if g = g' ∧ e = e' ∧ sz = sz' ∧ 0 < sz ∧ ts.size = 2 ∧ xs.length ≤ most ∧ es.length ≤ most then some ⟨.imm (.int .i64 (min xs.length es.length : Nat)), [(r, .row e sz g (xs.take es.length ++ es.drop xs.length))], none⟩ else none
     | _, _ => none
   | some ⟨_, _, _, .slice e sz _⟩, [.sub r g sz2 q m, x] => match get r, srcP get sz x with
     | some (.row e' sz' g' es), some xs => if g = g' ∧ e = e' ∧ sz = sz' ∧ sz = sz2 ∧ 0 < sz ∧ ts.size = 2 ∧ xs.length ≤ m ∧ m ≤ most then some ⟨.imm (.int .i64 xs.length), [(r, .row e sz g (es.take q ++ xs ++ es.drop (q + xs.length)))], none⟩ else none
     | _, _ => none
   | _, _ => none
def xo19 (P : Program) (T : TypeId → Option (List CK)) (id : Nat) (ev : Operand → PV) (get : Nat → Option Blk) (x : Operand) (i : Nat) : Option Out :=
 match ev x with
   | .tup cs => (cs[i]?).bind val
   | _ => none
def xo20 (P : Program) (T : TypeId → Option (List CK)) (id : Nat) (ev : Operand → PV) (get : Nat → Option Blk) (t : TypeId) (l : Operand) (c : Operand) : Option Out :=
 match tdOf P t, get id, ev l, ev c with
   | some ⟨_, _, _, .slice e sz bytes⟩, some (.dead g), .imm (.int _ z), .imm (.int _ y) => match tdOf P e with
     | some d => if 0 < sz ∧ bytes ≤ 100000 ∧ 0 ≤ z ∧ z ≤ y ∧ y ≤ (most : Int) then some ⟨.row id (g + 1), [(id, .row e sz (g + 1) (List.replicate z.toNat (.imm (zeroI d))))], none⟩ else none
     | none => none
   | _, _, _, _ => none
def xo21 (P : Program) (T : TypeId → Option (List CK)) (id : Nat) (ev : Operand → PV) (get : Nat → Option Blk) (t : TypeId) : Option Out :=
 match tdOf P t, get id with
   | some ⟨_, _, _, .map k _⟩, some (.dead g) => match (tdOf P k).bind (ckOf T k) with
     | some kk => some ⟨.row id (g + 1), [(id, .map kk (g + 1) [])], none⟩
     | none => none
   | _, _ => none
def xo22 (P : Program) (T : TypeId → Option (List CK)) (id : Nat) (ev : Operand → PV) (get : Nat → Option Blk) (t : TypeId) (m : Operand) (x : Operand) (ok : Bool) : Option Out :=
 match tdOf P t, ev m, ev x with
   | some ⟨_, _, _, .map k e⟩, .row r g, .imm a => match get r, (tdOf P k).bind (ckOf T k), tdOf P e with
     | some (.map kk' g' ps), some kk, some d => if g = g' ∧ kk = kk' ∧ keyB kk a = true then val (lookO ok (zeroI d) (lookM ps a)) else none
     | _, _, _ => none
   | some ⟨_, _, _, .map k e⟩, .imm .nm, .imm a => match (tdOf P k).bind (ckOf T k), tdOf P e with
     | some kk, some d => if keyB kk a = true then val (lookO ok (zeroI d) none) else none
     | _, _ => none
   | _, _, _ => none
def xo23 (P : Program) (T : TypeId → Option (List CK)) (id : Nat) (ev : Operand → PV) (get : Nat → Option Blk) (t : TypeId) (m : Operand) (x : Operand) (y : Operand) : Option Out :=
 match tdOf P t, ev m, ev x, toI (ev y) with
   | some ⟨_, _, _, .map k _⟩, .row r g, .imm a, some b => match get r, (tdOf P k).bind (ckOf T k) with
     | some (.map kk' g' ps), some kk => if g = g' ∧ kk = kk' ∧ keyB kk a = true then some ⟨.any, [(r, .map kk g (putM ps a b))], none⟩ else none
     | _, _ => none
   | _, _, _, _ => none
def xo24 (P : Program) (T : TypeId → Option (List CK)) (id : Nat) (ev : Operand → PV) (get : Nat → Option Blk) (t : TypeId) (x : Operand) : Option Out :=
 match tdOf P t, ev x, get id with
   | some ⟨_, _, _, .map _ _⟩, .row r g, some (.dead gd) => match get r with
     | some (.map kk g' ps) => if g = g' ∧ isIter kk = false ∧ r ≠ id then some ⟨.ptr id (gd + 1) 0, [(r, .dead g), (id, .map (.iter false) (gd + 1) ps)], none⟩ else none
     | _ => none
   | _, _, _ => none
def xo25 (P : Program) (T : TypeId → Option (List CK)) (id : Nat) (ev : Operand → PV) (get : Nat → Option Blk) (x : Operand) : Option Out :=
 match ev x with
   | .ptr r g 0 => match get r with
     | some (.map (.iter true) g' ((a, b) :: _)) => if g = g' then val (.tup [.imm a, .imm b]) else none
     | _ => none
   | _ => none
def xo26 (P : Program) (T : TypeId → Option (List CK)) (id : Nat) (ev : Operand → PV) (get : Nat → Option Blk) (args : Array Operand) (ts : Array TypeId) : Option Out :=
 match tdOf P (ts.getD 0 0), args.toList.map ev with
   | some ⟨_, _, _, .map k _⟩, [.row r g, .imm a] => match get r, (tdOf P k).bind (ckOf T k) with
     | some (.map kk' g' ps), some kk => if g = g' ∧ kk = kk' ∧ keyB kk a = true ∧ ts.size = 2 ∧ ts.getD 1 0 = k then some ⟨.any, [(r, .map kk g (delM ps a))], none⟩ else none
     | _, _ => none
   | _, _ => none
def xo27 (P : Program) (T : TypeId → Option (List CK)) (id : Nat) (ev : Operand → PV) (get : Nat → Option Blk) (args : Array Operand) (ts : Array TypeId) : Option Out :=
 match tdOf P (ts.getD 0 0), args.toList.map ev with
   | some ⟨_, _, _, .slice e sz _⟩, [.sub r g sz2 q m] => match get r, tdOf P e with
     | some (.row e' sz' g' es), some d => if g = g' ∧ e = e' ∧ sz = sz' ∧ sz = sz2 ∧ 0 < sz ∧ ts.size = 1 then some ⟨.any, [(r, .row e sz g (es.take q ++ List.replicate m (.imm (zeroI d)) ++ es.drop (q + m)))], none⟩ else none
     | _, _ => none
   | _, _ => none
def xo28 (P : Program) (T : TypeId → Option (List CK)) (id : Nat) (ev : Operand → PV) (get : Nat → Option Blk) (args : Array Operand) : Option Out :=
 match args.toList.map ev with
   | [.row r g] => match get r with
     | some (.row _ sz g' es) => if g = g' ∧ sz = 1 ∧ 0 < es.length then val (.eptr r g 1 0 0) else none
     | _ => none
   | _ => none
def xo29 (P : Program) (T : TypeId → Option (List CK)) (id : Nat) (ev : Operand → PV) (get : Nat → Option Blk) (args : Array Operand) (ts : Array TypeId) : Option Out :=
 match tdOf P (ts.getD 0 0), args.toList.map ev with
   | some ⟨_, _, _, .ptr e⟩, [.eptr r g sz i oo, .imm (.int .i64 n)] => match get r, tdOf P e with
     | some (.row e' sz' g' es), some d => if (g = g' ∧ e = e' ∧ sz = 1 ∧ sz' = 1 ∧ i = 0 ∧ oo = 0 ∧ d.size = 1 ∧ ts.size = 2) ∧ n = es.length ∧ 0 < es.length then (bytesP es).bind fun bs => some ⟨.imm (.str ⟨bs.toArray⟩), [(r, .dead (g + 1))], none⟩ else none
     | _, _ => none
   | _, _ => none
def xo30 (P : Program) (T : TypeId → Option (List CK)) (id : Nat) (ev : Operand → PV) (get : Nat → Option Blk) (f : FuncId) (first : Array Operand) (caps : Array Operand) : Option Out :=
 if first.size = 0 then val (if caps.size = 0 then .imm (.fn f) else .clo f (caps.toList.map ev)) else none
def xo31 (P : Program) (T : TypeId → Option (List CK)) (id : Nat) (ev : Operand → PV) (get : Nat → Option Blk) (s : TypeId) (t : TypeId) (x : Operand) : Option Out :=
 match tdOf P s, tdOf P t, ev x with
   | some ⟨_, _, _, .int _⟩, some ⟨_, _, _, .int k⟩, .imm (.int _ z) => val (.imm (.int k (k.wrap z)))
   | some ⟨_, _, _, .str⟩, some ⟨_, _, _, .str⟩, .imm (.str z) => val (.imm (.str z))
   | some ⟨_, _, _, .slice e 1 _⟩, some ⟨_, _, _, .str⟩, .row r g => match tdOf P e, get r with
     | some ⟨_, _, _, .int .u8⟩, some (.row _ 1 g' es) => if g = g' then (bytesP es).bind fun bs => val (.imm (.str ⟨bs.toArray⟩)) else none
     | _, _ => none
   | some ⟨_, _, _, .slice e 1 _⟩, some ⟨_, _, _, .str⟩, .imm (.sl 1 es) => match tdOf P e with
     | some ⟨_, _, _, .int .u8⟩ => (bytesP (es.map .imm)).bind fun bs => val (.imm (.str ⟨bs.toArray⟩))
     | _ => none
   | some ⟨_, _, _, .slice e 1 _⟩, some ⟨_, _, _, .str⟩, .sub r g 1 q m => match tdOf P e, get r with
     | some ⟨_, _, _, .int .u8⟩, some (.row _ 1 g' es) => if g = g' then (bytesP ((es.drop q).take m)).bind fun bs => val (.imm (.str ⟨bs.toArray⟩)) else none
     | _, _ => none
   | _, _, _ => none
def xo32 (P : Program) (T : TypeId → Option (List CK)) (id : Nat) (ev : Operand → PV) (get : Nat → Option Blk) (args : Array Operand) (ts : Array TypeId) : Option Out :=
 match tdOf P (ts.getD 0 0), args.toList.map ev with
   | some ⟨_, _, _, .slice _ _ _⟩, [.imm .nil] => if ts.size = 1 then val (.imm (.int .i64 0)) else none
   | some ⟨_, _, _, .slice _ _ _⟩, [.imm (.sl _ es)] => if ts.size = 1 then val (.imm (.int .i64 es.length)) else none
   | some ⟨_, _, _, .str⟩, [.imm (.str s)] => if ts.size = 1 then val (.imm (.int .i64 s.size)) else none
   | some ⟨_, _, _, .slice _ _ _⟩, [.row r g] => match get r with
     | some (.row _ _ g' es) => if ts.size = 1 ∧ g = g' then val (.imm (.int .i64 es.length)) else none
     | _ => none
   | some ⟨_, _, _, .slice _ _ _⟩, [.sub r g _ _ m] => match get r with
     | some (.row _ _ g' _) => if ts.size = 1 ∧ g = g' then val (.imm (.int .i64 m)) else none
     | _ => none
   | some ⟨_, _, _, .map _ _⟩, [.row r g] => match get r with
     | some (.map kk g' ps) => if ts.size = 1 ∧ g = g' ∧ isIter kk = false then val (.imm (.int .i64 ps.length)) else none
     | _ => none
   | _, _ => none
def xo33 (P : Program) (T : TypeId → Option (List CK)) (id : Nat) (ev : Operand → PV) (get : Nat → Option Blk) (args : Array Operand) : Option Out :=
 match args.toList.map ev with
   | [.imm (.int k a), .imm (.int _ b)] => val (.imm (.int k (if b > a then b else a)))
   | _ => none
def xo34 (P : Program) (T : TypeId → Option (List CK)) (id : Nat) (ev : Operand → PV) (get : Nat → Option Blk) (args : Array Operand) : Option Out :=
 match args.toList.map ev with
   | [.imm (.int k a), .imm (.int _ b)] => val (.imm (.int k (if b < a then b else a)))
   | _ => none
end
def xOp (P : Program) (T : TypeId → Option (List CK)) (op : Op) (id : Nat) (ev : Operand → PV) (get : Nat → Option Blk) : Option Out := match op with
 | .move x => val (ev x)
 | .assign x => val (ev x)
 | .pick c a b => xo1 P T id ev get c a b
 | .alloc t => xo2 P T id ev get t
 | .box _ x => xo3 P T id ev get x
 | .load t x => xo4 P T id ev get t x
 | .store t x y => xo5 P T id ev get t x y
 | .nilCheck x => xo6 P T id ev get x
 | .binOp op t x y _ => xo7 P T id ev get op t x y
 | .unOp op _ x => xo8 P T id ev get op x
 | .fieldAddr s x f => xo9 P T id ev get s x f
 | .field t x f => xo10 P T id ev get t x f
 | .indexAddr t x ix => xo11 P T id ev get t x ix
 | .index t x ix => xo12 P T id ev get t x ix
 | .build t parts => xo13 P T id ev get t parts
 | .buildSlice t n parts => xo14 P T id ev get t n parts
 | .slice t x lo hi none => xo15 P T id ev get t x lo hi
 | .slice t x lo (some y) (some mx) => xo16 P T id ev get t x lo y mx
 | .call ⟨.builtin .append, args, ts⟩ => xo17 P T id ev get args ts
 | .call ⟨.builtin .copy, args, ts⟩ => xo18 P T id ev get args ts
 | .extract x i => xo19 P T id ev get x i
 | .makeSlice t l c => xo20 P T id ev get t l c
 | .makeMap t none => xo21 P T id ev get t
 | .lookup t m x ok => xo22 P T id ev get t m x ok
 | .mapUpdate t m x y | .insert t m x y => xo23 P T id ev get t m x y
 | .range t x => xo24 P T id ev get t x
 | .entry x => xo25 P T id ev get x
 | .call ⟨.builtin .delete, args, ts⟩ => xo26 P T id ev get args ts
 | .call ⟨.builtin .clear, args, ts⟩ => xo27 P T id ev get args ts
 | .call ⟨.builtin .unsafeSliceData, args, _⟩ => xo28 P T id ev get args
 | .call ⟨.builtin .unsafeString, args, ts⟩ => xo29 P T id ev get args ts
 | .makeFunc (.func f) first caps => xo30 P T id ev get f first caps
 | .convert s t x => xo31 P T id ev get s t x
 | .call ⟨.builtin .len, args, ts⟩ => xo32 P T id ev get args ts
 | .call ⟨.builtin .max, args, _⟩ => xo33 P T id ev get args
 | .call ⟨.builtin .min, args, _⟩ => xo34 P T id ev get args
 | _ => none
theorem absOp_x {P : Program} {T : TypeId → Option (List CK)} {o : Oper} {id : Nat} {ev : Operand → PV} {get : Nat → Option Blk} (h : isCall o.op = false) (cr : List Orc) : absOp P T o id ev get cr = xOp P T o.op id ev get := by
 cases ho : o.op with
 | call c =>
   obtain ⟨f, args, ts⟩ := c
   rw [ho] at h
   cases f with
   | value x => cases h
   | builtin b => cases b <;> (unfold absOp xOp; simp only [ho]; try rfl)
   | _ => unfold absOp xOp; simp only [ho]
 | makeFunc f a b => cases f <;> (unfold absOp xOp; simp only [ho]; try rfl)
 | makeMap t h => cases h <;> (unfold absOp xOp; simp only [ho]; try rfl)
 | slice t x lo hi mx => cases mx <;> cases hi <;> (unfold absOp xOp; simp only [ho]; try rfl)
 | _ => unfold absOp xOp; simp only [ho]; try rfl
def callX (o : Op) (ev : Operand → PV) : Option (FuncId × List PV) := match o with
 | .call ⟨.value f, args, _⟩ => match ev f with
   | .imm (.fn f) => some (f, args.toList.map ev)
   | .imm (.clo f cs) => some (f, args.toList.map ev ++ cs.map ofC)
   | .clo f cs => some (f, args.toList.map ev ++ cs)
   | _ => none
 | _ => none
theorem absOp_call {P : Program} {T : TypeId → Option (List CK)} {o : Oper} {id : Nat} {ev : Operand → PV} {get : Nat → Option Blk} {f : FuncId} {args : List PV} (h : callX o.op ev = some (f, args)) (c : Orc) (cr : List Orc) :
   isCall o.op = true ∧ absOp P T o id ev get (c :: cr) = some ⟨c.res, c.ws, some ⟨f, args, c.reads.filterMap fun r => (get r).map fun b => (r, b), c.res, c.ws⟩⟩ := by
 unfold callX at h
 split at h
 · rename_i f' as ts ho
   refine ⟨by rw [ho]; rfl, ?_⟩
   unfold absOp
   simp only [ho]
   split at h
   · rename_i hf
     simp only [Option.some.injEq, Prod.mk.injEq] at h
     obtain ⟨rfl, rfl⟩ := h
     simp only [hf]
   · rename_i hf
     simp only [Option.some.injEq, Prod.mk.injEq] at h
     obtain ⟨rfl, rfl⟩ := h
     simp only [hf]
   · rename_i hf
     simp only [Option.some.injEq, Prod.mk.injEq] at h
     obtain ⟨rfl, rfl⟩ := h
     simp only [hf]
   · cases h
 · cases h
abbrev CF := FuncId → List PV → List Blk → (List PV → List Blk → Bool) → Bool
abbrev KR := List PV → List Blk → List Sh → Bool
def brX (o : Oper) (ev : Operand → PV) (id : Nat) (rs : List Nat) : List Nat := refsO o ev ++ (rs ++ newId o id)
def shX (draw : Bool) (sh : List Sh) (x : Sh) : List Sh := match draw with
 | true => sh ++ [x]
 | false => sh
def goX (ops : Array Oper) (draw : Bool) (o : Oper) (ev : Operand → PV) (id : Nat) (rs : List Nat) (E : List PV) (B : List Blk) (sh : List Sh) (v : PV) (ws : List (Nat × Blk)) (K : Nat → KR) : Bool :=
 fP v fun v => fW ws fun ws => fSetE E o.dst v fun E' => fSetB B ws fun B' => fN (nextId o id) fun id' =>
   match draw with
   | true => fNs (ws.map (·.1)) fun ks => fNs (gtr ops o ++ trOf o) fun tr => fNs (brX o ev id rs) fun br => K id' E' B' (sh ++ [⟨o.dst, ks, tr, br⟩])
   | false => K id' E' B' sh
def lessN (q sp : List Nat) : List Nat := sp.filter fun i => !(q.any fun j => Nat.beq i j)
def exR (P : Program) (eq : TypeId → Option (List CK)) (gl : Nat → Option (List IV)) (S : Nat) (cf : CF) (ops : Array Oper) (draw : Bool) : List Oper → Nat → List PV → List Blk → List Sh → List Nat → KR → Bool
 | [], _, E, B, sh, _, K => K E B sh
 | o :: l, id, E, B, sh, sp, K => match wantE ops E o with
   | none => false
   | some false => fSetE E o.dst (.tup []) fun E' => fN (nextId o id) fun id' => exR P eq gl S cf ops draw l id' E' B (shX draw sh ⟨o.dst, [], gtr ops o, []⟩) sp K
   | some true => match isCall o.op with
     | true => match callX o.op (evr0 gl E (trOf o)) with
       | some (f, args) => fL args fun args => fNs (reach B 400 (refDs args) []) fun q => fNs (q ++ (lessN q sp).take S) fun rs =>
           okCall rs B args && (fL (dnL (ixOf rs) args) fun args0 => fBs (dnBs rs B) fun B0 => cf f args0 B0 fun res0 B1 => okBack args0 res0 B0 B1 &&
             goX ops draw o (evr0 gl E (trOf o)) id rs E B sh (up (fun i => rs.getD i 0) (gens B1) (resQ res0)) (zipU rs (fun i => rs.getD i 0) (gens B1) B1) fun id' E' B' sh' => exR P eq gl S cf ops draw l id' E' B' sh' (lessN rs sp) K)
       | none => false
     | false => match xOp P eq o.op id (evr0 gl E (trOf o)) (getB (brX o (evr0 gl E (trOf o)) id []) B) with
       | some ⟨v, ws, none⟩ => goX ops draw o (evr0 gl E (trOf o)) id [] E B sh v ws fun id' E' B' sh' => exR P eq gl S cf ops draw l id' E' B' sh' sp K
       | _ => false
structure Good (X : Env) (eq : TypeId → Option (List CK)) (n0 : Nat) (G0 : Nat → Nat) (Γ : Ctx) : Prop where
 x : Γ.X = X
 e : Γ.eqT = eq
 n : Γ.n0 = n0
 g : ∀ r, r < n0 → Γ.k0.G r = G0 r
def CFok (P : Program) (X : Env) (cf : CF) : Prop := ∀ f args B K, cf f args B K = true → ∃ res B', PCB P X f args B res B' ∧ K res B' = true
section
variable {P : Program} {X : Env} {eq : TypeId → Option (List CK)} {n0 : Nat} {G0 : Nat → Nat} {S : Nat} {cf : CF} (hcf : CFok P X cf)
include hcf
theorem goX_eq (ops : Array Oper) (draw : Bool) (o : Oper) (ev : Operand → PV) (id : Nat) (rs : List Nat) (E : List PV) (B : List Blk) (sh : List Sh) (v : PV) (ws : List (Nat × Blk)) (K : Nat → KR) :
   goX ops draw o ev id rs E B sh v ws K = K (nextId o id) (setE E o.dst v) (setB B ws) (if draw then sh ++ [⟨o.dst, ws.map (·.1), gtr ops o ++ trOf o, brX o ev id rs⟩] else sh) := by
 unfold goX
 simp only [fP_eq, fW_eq, fSetE_eq, fSetB_eq, fN_eq, fNs_eq]
 cases draw <;> rfl
theorem exR_sound {ops : Array Oper} {draw : Bool} : ∀ {l : List Oper} {id : Nat} {E : List PV} {B : List Blk} {sh : List Sh} {sp : List Nat} {K : KR}, exR P eq X.gl S cf ops draw l id E B sh sp K = true →
   ∃ cr es, (∀ Γ, Good X eq n0 G0 Γ → runO P Γ ops l id cr ⟨E, B⟩ = some es ∧ ∀ e ∈ es, ∀ ob, e.ob = some ob → FCalls P Γ ob) ∧ K (es.foldl applyE ⟨E, B⟩).E (es.foldl applyE ⟨E, B⟩).B (if draw then sh ++ es.map shOf else sh) = true
 | [], id, E, B, sh, sp, K, h => ⟨[], [], fun Γ _ => ⟨rfl, fun e he => by cases he⟩, by unfold exR at h; simpa using h⟩
 | o :: l, id, E, B, sh, sp, K, h => by
   have next : ∀ (c : List Orc) (e : Eff) (sp' : List Nat), (∀ rest, nextCr o (c ++ rest) = rest) → (∀ Γ, Good X eq n0 G0 Γ → (∀ rest, effO P Γ ops ⟨E, B⟩ o id (c ++ rest) = some e) ∧ ∀ ob, e.ob = some ob → FCalls P Γ ob) → e.dst = o.dst →
       exR P eq X.gl S cf ops draw l (nextId o id) (setE E o.dst e.v) (setB B e.ws) (if draw then sh ++ [shOf e] else sh) sp' K = true →
       ∃ cr es, (∀ Γ, Good X eq n0 G0 Γ → runO P Γ ops (o :: l) id cr ⟨E, B⟩ = some es ∧ ∀ e ∈ es, ∀ ob, e.ob = some ob → FCalls P Γ ob) ∧ K (es.foldl applyE ⟨E, B⟩).E (es.foldl applyE ⟨E, B⟩).B (if draw then sh ++ es.map shOf else sh) = true := by
     intro c e sp' h1 h2 h4 h7
     obtain ⟨cr, es, g1, g3⟩ := exR_sound h7
     have happ : applyE ⟨E, B⟩ e = ⟨setE E o.dst e.v, setB B e.ws⟩ := by unfold applyE; rw [h4]
     refine ⟨c ++ cr, e :: es, fun Γ hΓ => ⟨?_, fun e' he' => ?_⟩, ?_⟩
     · unfold runO
       rw [(h2 Γ hΓ).1 cr]
       simp only []
       rw [h1 cr, happ, (g1 Γ hΓ).1]
     · rcases List.mem_cons.1 he' with rfl | he'
       · exact (h2 Γ hΓ).2
       · exact (g1 Γ hΓ).2 e' he'
     · simp only [List.foldl_cons, List.map_cons]
       rw [happ]
       cases draw
       · exact g3
       · simp only [if_true] at g3 ⊢
         rw [List.append_assoc] at g3
         exact g3
   unfold exR at h
   split at h
   · cases h
   · rename_i hw
     simp only [fSetE_eq, fN_eq] at h
     refine next (if isCall o.op then [⟨[], .any, []⟩] else []) ⟨o.dst, .tup [], [], none, gtr ops o, []⟩ sp (fun rest => ?_) (fun Γ hΓ => ⟨fun rest => ?_, fun ob hob => by cases hob⟩) rfl ?_
     · unfold nextCr; split <;> rfl
     · unfold effO; rw [hw]
     · cases draw
       · exact h
       · exact h
   · rename_i hw
     split at h
     · rename_i hc
       split at h
       · rename_i f args hcall
         simp only [fL_eq, fNs_eq, fBs_eq] at h
         generalize hrs : reach B 400 (refDs args) [] ++ (lessN (reach B 400 (refDs args) []) sp).take S = rs at h
         rw [Bool.and_eq_true] at h
         obtain ⟨hok, h⟩ := h
         obtain ⟨res0, B1, hp, h⟩ := hcf _ _ _ _ h
         rw [Bool.and_eq_true] at h
         obtain ⟨hbk, h⟩ := h
         rw [goX_eq hcf] at h
         refine next [⟨rs, up (fun i => rs.getD i 0) (gens B1) (resQ res0), zipU rs (fun i => rs.getD i 0) (gens B1) B1⟩]
           ⟨o.dst, up (fun i => rs.getD i 0) (gens B1) (resQ res0), zipU rs (fun i => rs.getD i 0) (gens B1) B1,
             some ⟨f, args, rs.filterMap fun r => ((getB (brX o (evr0 X.gl E (trOf o)) id rs) B) r).map fun b => (r, b), up (fun i => rs.getD i 0) (gens B1) (resQ res0), zipU rs (fun i => rs.getD i 0) (gens B1) B1⟩,
             gtr ops o ++ trOf o, brX o (evr0 X.gl E (trOf o)) id rs⟩ (lessN rs sp) (fun rest => ?_) (fun Γ hΓ => ⟨fun rest => ?_, fun ob hob => ?_⟩) rfl h
         · unfold nextCr; rw [hc]; rfl
         · unfold effO
           rw [hw]
           simp only []
           have hbr : brOf o (evr Γ E (trOf o)) ([⟨rs, up (fun i => rs.getD i 0) (gens B1) (resQ res0), zipU rs (fun i => rs.getD i 0) (gens B1) B1⟩] ++ rest) id = brX o (evr0 X.gl E (trOf o)) id rs := by
             rw [evr0_eq (by rw [hΓ.x])]
             unfold brOf brX refsO newId
             rw [hc]
             rfl
           rw [hbr, ← evr0_eq (gl := X.gl) (by rw [hΓ.x])]
           have e1 := (absOp_call (P := P) (T := Γ.eqT) (id := id) (get := getB (brX o (evr0 X.gl E (trOf o)) id rs) B) hcall ⟨rs, up (fun i => rs.getD i 0) (gens B1) (resQ res0), zipU rs (fun i => rs.getD i 0) (gens B1) B1⟩ rest).2
           show (match absOp P Γ.eqT o id (evr0 X.gl E (trOf o)) (getB (brX o (evr0 X.gl E (trOf o)) id rs) B) (⟨rs, up (fun i => rs.getD i 0) (gens B1) (resQ res0), zipU rs (fun i => rs.getD i 0) (gens B1) B1⟩ :: rest) with
             | some out => _
             | none => none) = _
           rw [e1]
         · simp only [Option.some.injEq] at hob
           subst hob
           refine call_ok (by rw [hΓ.x]; exact hp) hok hbk fun r hr => ?_
           unfold getB brX
           rw [if_pos (by simp [hr])]
       · cases h
     · rename_i hc
       split at h
       · rename_i v ws hop
         rw [goX_eq hcf] at h
         refine next [] ⟨o.dst, v, ws, none, gtr ops o ++ trOf o, brX o (evr0 X.gl E (trOf o)) id []⟩ sp (fun rest => ?_) (fun Γ hΓ => ⟨fun rest => ?_, fun ob hob => by cases hob⟩) rfl h
         · unfold nextCr; rw [hc]; rfl
         · unfold effO
           rw [hw]
           simp only []
           have hbr : brOf o (evr Γ E (trOf o)) ([] ++ rest) id = brX o (evr0 X.gl E (trOf o)) id [] := by
             rw [evr0_eq (by rw [hΓ.x])]
             unfold brOf brX refsO newId
             rw [hc]
             rfl
           rw [hbr, ← evr0_eq (gl := X.gl) (by rw [hΓ.x]), List.nil_append]
           show (match absOp P Γ.eqT o id (evr0 X.gl E (trOf o)) (getB (brX o (evr0 X.gl E (trOf o)) id []) B) rest with
             | some out => _
             | none => none) = _
           rw [absOp_x hc, hΓ.e, hop]
       · cases h
end
end
end Go.Pv
namespace Go.Pv
open Go.RowKit (Below)
noncomputable section
set_option linter.unusedSimpArgs false
set_option linter.unusedSectionVars false
theorem AWp.mono {P : Program} {Γ : Ctx} {c : Code} {s : St} {Q Q' : Exit → St → Prop} (h : AWp P Γ c s Q) (hq : ∀ e s', Q e s' → Q' e s') : AWp P Γ c s Q' := fun hX a w hg =>
 wp_mono (h hX a w hg) fun e _ _ ⟨s', h2, h3⟩ => ⟨s', hq e s' h2, h3⟩
def LWp (P : Program) (Γ : Ctx) (c : Code) (s : St) (Q : Exit → St → Prop) : Prop := EqsOK P Γ.eqT → ∀ a w, γ Γ s a w → ∀ (b : Frame) (k : List Item) (cs : List Frame),
 ∃ e a' w', (∃ s', Q e s' ∧ γ Γ s' a' w') ∧ Arrives P (lone (b.at a (.code c :: .inLoop c :: k)) cs w) b k cs e a' w'
theorem LWp.loop {P : Program} {Γ : Ctx} {c : Code} {s : St} {Q : Exit → St → Prop} (h : LWp P Γ c s Q) : AWp P Γ (.loop c) s Q := fun hX a w hg b k cs => by
 obtain ⟨e, a', w', hq, harr⟩ := h hX a w hg b k cs
 exact ⟨e, a', w', hq, .of_steps (.one step_loop) harr⟩
theorem LWp.step {P : Program} {Γ : Ctx} {c : Code} {s : St} {Q Q1 : Exit → St → Prop} (h : AWp P Γ c s Q1) (h1 : ∀ s', Q1 .normal s' → LWp P Γ c s' Q) (h2 : ∀ e s', e ≠ .normal → Q1 e s' → Q e s') : LWp P Γ c s Q := fun hX a w hg b k cs => by
 obtain ⟨e, a₁, w₁, ⟨s', hq, hg'⟩, harr⟩ := h hX a w hg b (.inLoop c :: k) cs
 cases e with
 | normal =>
   obtain ⟨e₂, a₂, w₂, hq₂, harr₂⟩ := h1 s' hq hX a₁ w₁ hg' b k cs
   exact ⟨e₂, a₂, w₂, hq₂, .of_steps (Steps.trans harr (.one step_inLoop)) harr₂⟩
 | exit id => exact ⟨_, a₁, w₁, ⟨s', h2 _ _ (by simp) hq, hg'⟩, .pass (x := .inLoop c) rfl (fun _ _ => .inl (by simp)) harr⟩
 | goto l => exact ⟨_, a₁, w₁, ⟨s', h2 _ _ (by simp) hq, hg'⟩, .pass (x := .inLoop c) rfl (fun _ _ => .inl (by simp)) harr⟩
 | ret => exact ⟨_, a₁, w₁, ⟨s', h2 _ _ (by simp) hq, hg'⟩, .pass (x := .inLoop c) rfl (fun _ _ => .inl (by simp)) harr⟩
 | panic ch => exact ⟨_, a₁, w₁, ⟨s', h2 _ _ (by simp) hq, hg'⟩, .pass (x := .inLoop c) rfl (fun _ _ => .inl (by simp)) harr⟩
 | outgrown => exact ⟨_, a₁, w₁, ⟨s', h2 _ _ (by simp) hq, hg'⟩, .pass (x := .inLoop c) rfl (fun _ _ => .inl (by simp)) harr⟩
section
variable (r g : Nat) (is : List IV)
mutual
def fb : PV → PV
 | .any => .any
 | .imm j => .imm j
 | .agg cs => .agg (fbL cs)
 | .tup cs => .tup (fbL cs)
 | .ptr q h o => if q = r ∧ h = g then .iptr (is.drop o) else .ptr q h o
 | .row a b => .row a b
 | .eptr a b c d e => .eptr a b c d e
 | .sub a b c d e => .sub a b c d e
 | .iptr cs => .iptr cs
 | .ful a b => .ful a b
 | .clo f cs => .clo f (fbL cs)
def fbL : List PV → List PV
 | [] => []
 | c :: cs => fb c :: fbL cs
end
def fbB : Blk → Blk
 | .dead g' => .dead g'
 | .box g' cs t => .box g' (fbL r g is cs) t
 | .row e sz g' es => .row e sz g' (fbL r g is es)
 | .map kk g' ps => .map kk g' ps
end
section
variable {k k' : K} {n : Nat} {w : World} {r g : Nat} {is : List IV} (he : Ext k n w k' n w) (hr : ∀ o v, Rep k n w (.ptr r g o) v → Rep k' n w (.iptr (is.drop o)) v)
include he hr
mutual
theorem fb_rep : ∀ (p : PV) (v : Value), Rep k n w p v → Rep k' n w (fb r g is p) v
 | .any, v, _ => by unfold fb; exact Rep_any _ _ _ _
 | .imm j, v, h => by unfold fb; exact Rep_mono he _ _ h
 | .agg cs, v, h => by
   unfold fb
   obtain ⟨vs, e, hl⟩ := Rep_agg.1 h
   exact Rep_agg.2 ⟨vs, e, fbL_rep cs vs hl⟩
 | .tup cs, v, h => by
   unfold fb
   unfold Rep at h ⊢
   obtain ⟨vs, e, hl⟩ := h
   exact ⟨vs, e, fbT_rep cs vs hl⟩
 | .ptr q m o, v, h => by
   unfold fb
   by_cases hc : q = r ∧ m = g
   · rw [if_pos hc]
     obtain ⟨rfl, rfl⟩ := hc
     exact hr o v h
   · rw [if_neg hc]
     exact Rep_mono he _ _ h
 | .row a b, v, h => by unfold fb; exact Rep_mono he _ _ h
 | .eptr a b c d e, v, h => by unfold fb; exact Rep_mono he _ _ h
 | .sub a b c d e, v, h => by unfold fb; exact Rep_mono he _ _ h
 | .iptr cs, v, h => by unfold fb; exact Rep_mono he _ _ h
 | .ful _ _, v, h => by unfold fb; exact Rep_mono he _ _ h
 | .clo f cs, v, h => by
   unfold fb
   unfold Rep at h ⊢
   obtain ⟨vs, e, hl⟩ := h
   exact ⟨vs, e, fbT_rep cs vs hl⟩
theorem fbL_rep : ∀ (cs : List PV) (vs : List Value), RepL k n w cs vs → RepL k' n w (fbL r g is cs) vs
 | [], vs, h => by unfold fbL; unfold RepL at h ⊢; exact h
 | c :: cs, vs, h => by
   unfold fbL
   unfold RepL at h ⊢
   obtain ⟨v, q, e, h0, h1, h2⟩ := h
   exact ⟨v, q, e, h0, fb_rep c v h1, fbL_rep cs q h2⟩
theorem fbT_rep : ∀ (cs : List PV) (vs : List Value), RepT k n w cs vs → RepT k' n w (fbL r g is cs) vs
 | [], vs, h => by unfold fbL; unfold RepT at h ⊢; exact h
 | c :: cs, vs, h => by
   unfold fbL
   unfold RepT at h ⊢
   obtain ⟨v, q, e, h1, h2⟩ := h
   exact ⟨v, q, e, fb_rep c v h1, fbT_rep cs q h2⟩
end
theorem fbE_rep {sz : Nat} : ∀ (cs : List PV) (xs : List Value), RepE k n w sz cs xs → RepE k' n w sz (fbL r g is cs) xs
 | [], xs, h => by unfold fbL; unfold RepE at h ⊢; exact h
 | c :: cs, xs, h => by
   unfold fbL
   unfold RepE at h ⊢
   obtain ⟨v, q, e, h0, h1, h2, h3⟩ := h
   exact ⟨v, q, e, h0, h1, fb_rep he hr c v h2, fbE_rep cs q h3⟩
end
theorem fbL_len (r g : Nat) (is : List IV) : ∀ l : List PV, (fbL r g is l).length = l.length
 | [] => by simp [fbL]
 | a :: l => by simp [fbL, fbL_len r g is l]
theorem repL_cells {k : K} {n : Nat} {w : World} : ∀ {is : List IV} {vs : List Value}, RepL k n w (is.map .imm) vs → RepC k.Q w is vs
 | [], vs, h => by simp only [List.map_nil] at h; unfold RepL at h; unfold RepC; exact h
 | i :: is, vs, h => by
   simp only [List.map_cons] at h
   unfold RepL at h
   obtain ⟨v, r, e, h0, h1, h2⟩ := h
   unfold RepC
   exact ⟨v, r, e, h0, Rep_imm.1 h1, repL_cells h2⟩
theorem repC_drop {Q : Nat → Prop} {w : World} : ∀ {is : List IV} {vs : List Value} (o : Nat), RepC Q w is vs → RepC Q w (is.drop o) (vs.drop o)
 | is, vs, 0, h => by simpa using h
 | [], vs, o + 1, h => by unfold RepC at h; subst h; simp [RepC]
 | i :: is, vs, o + 1, h => by
   unfold RepC at h
   obtain ⟨v, r, e, _, _, h2⟩ := h
   subst e
   simpa using repC_drop o h2
theorem Weak.frb {Γ : Ctx} {E : List PV} {B : List Blk} (r : Nat) {g : Nat} {cs : List PV} {t : Option TypeId} {is : List IV} (hb : B[r]? = some (.box g cs t)) (hes : imms cs = some is) :
   Weak Γ ⟨E, B⟩ ⟨fbL r g is E, (B.map (fbB r g is)).set r (.dead g)⟩ := by
 rintro a w ⟨hd, k, hI, hT⟩
 have hrl : r < B.length := (List.getElem?_eq_some_iff.1 hb).1
 generalize hB : (B.map (fbB r g is)).set r (.dead g) = B'
 let k' : K := ⟨k.ρ, k.G, fun b => k.Q b ∨ base (k.ρ r) = some b⟩
 have hbase : ∀ b, base (k.ρ r) = some b → Γ.N ≤ b ∧ b < w.heap.size := fun b hb' => (hI.sep r _ b hb hb').2
 have he : Ext k B.length w k' B.length w := ⟨Nat.le_refl _, fun b hb => ⟨Or.inl hb, rfl⟩, fun _ _ => ⟨Nat.le_refl _, fun _ => rfl⟩⟩
 have hr : ∀ o v, Rep k B.length w (.ptr r g o) v → Rep k' B.length w (.iptr (is.drop o)) v := by
   intro o v hv
   obtain ⟨b, c, ty, ev, hρ, _, _, hh, hL⟩ := ref_box hI hv hb
   rw [imms_eq hes] at hL
   have hC : RepC k'.Q w is c.toList := RepC_mono he.q is _ (repL_cells hL)
   unfold Rep
   refine ⟨b, o, c.toList.drop o, ev, Or.inr (by rw [hρ]; rfl), repC_drop o hC, fun j u hj => ?_⟩
   rw [List.getElem?_drop] at hj
   rw [World.cell?, hh]
   simpa using hj
 have hlen : B'.length = B.length := by rw [← hB]; simp
 have hat : ∀ q x, B'[q]? = some x → (q = r ∧ x = .dead g) ∨ (q ≠ r ∧ ∃ y, B[q]? = some y ∧ x = fbB r g is y) := by
   intro q x hx
   rw [← hB] at hx
   by_cases hq : q = r
   · subst hq
     rw [List.getElem?_set_self (by simpa using hrl)] at hx
     exact Or.inl ⟨rfl, (Option.some.inj hx).symm⟩
   · rw [List.getElem?_set_ne (Ne.symm hq), List.getElem?_map] at hx
     cases hy : B[q]? with
     | none => rw [hy] at hx; cases hx
     | some y => rw [hy] at hx; exact Or.inr ⟨hq, y, rfl, (Option.some.inj hx).symm⟩
 have hown : ∀ q x b, B'[q]? = some x → own k' q x = some b → ∃ y, B[q]? = some y ∧ own k q y = some b ∧ q ≠ r := by
   intro q x b hx hb'
   rcases hat q x hx with ⟨_, h2⟩ | ⟨h1, y, h2, h3⟩
   · subst h2; cases hb'
   · refine ⟨y, h2, ?_, h1⟩
     subst h3
     cases y <;> exact hb'
 refine ⟨hd, k', ⟨hI.below, fun b hb' => hb'.elim (hI.lt b) (fun h => (hbase b h).2), hI.le, fun b hb' => hb'.elim (hI.qs b) (fun h => Or.inr (hbase b h).1), hI.rr, fun gg cs hc => ?_, fun q x hx => ?_, fun q x b hx hb' => ?_, fun q q' x x' b hx hx' h1 h2 => ?_, ⟨fun b hb' => ?_, by rw [hlen]; exact hI.kp.ext.trans he⟩, fun q x b hx hb' => ?_⟩, ?_⟩
 · show Rep k' B'.length w _ _
   rw [hlen]; exact Rep_mono he _ _ (hI.gl gg cs hc)
 · show BlkRep Γ k' B'.length w q x
   rw [hlen]
   rcases hat q x hx with ⟨h1, h2⟩ | ⟨h1, y, h2, h3⟩
   · subst h1; subst h2
     obtain ⟨g1, _⟩ := hI.blk q _ hb
     exact g1
   · have hbk := hI.blk q y h2
     subst h3
     cases y with
     | dead g' => exact hbk
     | box g' cs t =>
       obtain ⟨h4, b, c, ty, h5, h6, h7, h8⟩ := hbk
       exact ⟨h4, b, c, ty, h5, h6, h7, fbL_rep he hr cs _ h8⟩
     | row e' sz' g' es' =>
       obtain ⟨h4, xs, h5, h6⟩ := hbk
       refine ⟨h4, xs, ?_, fbE_rep he hr es' xs h6⟩
       rw [fbL_len]
       exact h5
     | map kk g' ps => exact ⟨hbk.1, hbk.2.same (fun b hb => (he.q b hb).1)⟩
 · obtain ⟨y, h2, h3, h4⟩ := hown q x b hx hb'
   obtain ⟨g1, g2, g3⟩ := hI.sep q y b h2 h3
   refine ⟨fun hq => hq.elim g1 (fun h => ?_), g2, g3⟩
   exact h4 (hI.inj q r y _ b h2 hb h3 h)
 · obtain ⟨y, h3, h4, _⟩ := hown q x b hx h1
   obtain ⟨y', h5, h6, _⟩ := hown q' x' b hx' h2
   exact hI.inj q q' y y' b h3 h5 h4 h6
 · obtain ⟨g1, g2, g3⟩ := hI.kp.fr b hb'
   exact ⟨g1, g2, fun hq => hq.elim g3 (fun h => hI.nf r _ b hb h hb')⟩
 · obtain ⟨y, h2, h3, _⟩ := hown q x b hx hb'
   exact hI.nf q y b h2 h3
 · show RepT k' B'.length w _ _
   rw [hlen]
   exact fbT_rep he hr E _ hT
def capsO : List Oper → List Operand
 | [] => []
 | o :: l => (match o.op with
   | .makeFunc _ _ caps => caps.toList
   | _ => []) ++ capsO l
def hasIns : List Oper → Bool
 | [] => false
 | o :: l => (match o.op with
   | .insert _ _ _ _ => true
   | _ => false) || hasIns l
def frbX (gl : Nat → Option (List IV)) : List Operand → List PV → List Blk → (List PV → List Blk → Bool) → Bool
 | [], E, B, K => K E B
 | c :: l, E, B, K => match ev0 gl E c with
   | .ptr r g _ => match B[r]? with
     | some (.box g' cs _) => match imms cs with
       | some is => fL (fbL r g' is E) fun E' => fBs ((B.map (fbB r g' is)).set r (.dead g')) fun B' => match decide (g = g') with
         | true => frbX gl l E' B' K
         | false => false
       | none => frbX gl l E B K
     | _ => frbX gl l E B K
   | _ => frbX gl l E B K
theorem frbX_sound {gl : Nat → Option (List IV)} : ∀ {l : List Operand} {E : List PV} {B : List Blk} {K : List PV → List Blk → Bool}, frbX gl l E B K = true → ∃ E' B', K E' B' = true ∧ ∀ Γ, Weak Γ ⟨E, B⟩ ⟨E', B'⟩
 | [], E, B, K, h => ⟨E, B, h, fun Γ => Weak.refl _⟩
 | c :: l, E, B, K, h => by
   unfold frbX at h
   split at h
   · split at h
     · rename_i hb
       split at h
       · rename_i is hes
         rw [fL_eq, fBs_eq] at h
         split at h
         · obtain ⟨E2, B2, h1, h2⟩ := frbX_sound h
           exact ⟨E2, B2, h1, fun Γ => (Weak.frb _ hb hes).trans (h2 Γ)⟩
         · cases h
       · exact frbX_sound h
     · exact frbX_sound h
   · exact frbX_sound h
def frzA : List Nat → List PV → List Blk → (List PV → List Blk → Bool) → Bool
 | [], E, B, K => K E B
 | j :: l, E, B, K => match B[j]? with
   | some (.row _ sz g (x :: es)) => match imms (x :: es) with
     | some is => fL (fzL j g (.sl sz is) E) fun E' => fBs ((B.map (fzB j g (.sl sz is))).set j (.dead g)) fun B' => frzA l E' B' K
     | none => frzA l E B K
   | _ => frzA l E B K
theorem frzA_sound : ∀ {l : List Nat} {E : List PV} {B : List Blk} {K : List PV → List Blk → Bool}, frzA l E B K = true → ∃ E' B', K E' B' = true ∧ ∀ Γ, Weak Γ ⟨E, B⟩ ⟨E', B'⟩
 | [], E, B, K, h => ⟨E, B, h, fun Γ => Weak.refl _⟩
 | j :: l, E, B, K, h => by
   unfold frzA at h
   split at h
   · rename_i hb
     split at h
     · rename_i is hes
       rw [fL_eq, fBs_eq] at h
       obtain ⟨E2, B2, h1, h2⟩ := frzA_sound h
       exact ⟨E2, B2, h1, fun Γ => Weak.trans (fun a w hg => γ_frz j hb hes (ILe.refl _) rfl rfl hg) (h2 Γ)⟩
     · exact frzA_sound h
   · exact frzA_sound h
def prX (gl : Nat → Option (List IV)) (fz : Bool) (ops : List Oper) (E : List PV) (B : List Blk) (K : List PV → List Blk → Bool) : Bool :=
 frzA (match fz with
   | true => List.range B.length
   | false => []) E B fun E B => frbX gl (match hasIns ops with
   | true => capsO ops
   | false => []) E B K
theorem prX_sound {gl : Nat → Option (List IV)} {fz : Bool} {ops : List Oper} {E : List PV} {B : List Blk} {K : List PV → List Blk → Bool} (h : prX gl fz ops E B K = true) : ∃ E' B', K E' B' = true ∧ ∀ Γ, Weak Γ ⟨E, B⟩ ⟨E', B'⟩ := by
 unfold prX at h
 obtain ⟨E1, B1, h1, h2⟩ := frzA_sound h
 obtain ⟨E2, B2, h3, h4⟩ := frbX_sound h1
 exact ⟨E2, B2, h3, fun Γ => (h2 Γ).trans (h4 Γ)⟩
def clP (m : Nat) (G : Nat → Nat) (p : PV) : PV := match cur m G p && belowB m p with
 | true => p
 | false => .any
def clX (m : Nat) (G : Nat → Nat) : List Blk → Nat → List Blk → (List Blk → Bool) → Bool
 | [], _, B, K => K B
 | .box _ _ _ :: l, i, B, K => match B[i]? with
   | some (.box g cs t) => match curL m G cs with
     | true => clX m G l (i + 1) B K
     | false => match decide (B.length = m) with
       | true => fL (cs.map (clP m G)) fun cs => fSet B i (.box g cs t) fun B => clX m G l (i + 1) B K
       | false => false
   | _ => false
 | _ :: l, i, B, K => clX m G l (i + 1) B K
theorem clP_wk {m : Nat} {G : Nat → Nat} : ∀ cs : List PV, Wk m cs (cs.map (clP m G))
 | [] => .nil
 | c :: cs => by
   rw [List.map_cons]
   unfold clP
   split
   · rename_i h
     rw [Bool.and_eq_true] at h
     exact .keep h.2 (clP_wk cs)
   · exact .drop (clP_wk cs)
theorem clX_sound {m : Nat} {G : Nat → Nat} : ∀ {l : List Blk} {i : Nat} {B : List Blk} {K : List Blk → Bool}, clX m G l i B K = true → ∃ B', K B' = true ∧ B'.length = B.length ∧ ∀ Γ E, Weak Γ ⟨E, B⟩ ⟨E, B'⟩
 | [], _, B, K, h => ⟨B, h, rfl, fun Γ E => Weak.refl _⟩
 | .box _ _ _ :: l, i, B, K, h => by
   unfold clX at h
   split at h
   · rename_i g cs t hb
     split at h
     · exact clX_sound h
     · split at h
       · rename_i hd
         have hd' : B.length = m := by simpa using hd
         rw [fL_eq, fSet_eq] at h
         obtain ⟨B', h1, h2, h3⟩ := clX_sound h
         refine ⟨B', h1, by simpa using h2, fun Γ E => (Weak.cells i hb (cs' := cs.map (clP m G)) ?_).trans (h3 Γ E)⟩
         rw [hd']
         exact clP_wk cs
       · cases h
   · cases h
 | .dead _ :: l, i, B, K, h => by unfold clX at h; exact clX_sound h
 | .row _ _ _ _ :: l, i, B, K, h => by unfold clX at h; exact clX_sound h
 | .map _ _ _ :: l, i, B, K, h => by unfold clX at h; exact clX_sound h
def deads : List Blk → Nat → List Nat
 | [], _ => []
 | .dead _ :: B, i => i :: deads B (i + 1)
 | _ :: B, i => deads B (i + 1)
def ncalls : List Oper → Nat
 | [] => 0
 | o :: l => match isCall o.op with
   | true => ncalls l + 1
   | false => ncalls l
def moreD (S n : Nat) (B : List Blk) : Nat := match n with
 | 0 => 0
 | n + 1 => S * (n + 1) - (deads B 0).length
abbrev KC := Exit → List PV → List Blk → Bool
def nextX (gl : Nat → Option (List IV)) (md : Nat) (x : Operand) (d : Option Nat) (E : List PV) (B : List Blk) (K : List PV → List Blk → Bool) : Bool := match ev0 gl E x with
 | .ptr r g 0 => match B[r]? with
   | some (.map (.iter b) g' ps) => match decide (g = g') with
     | true => match leftI b ps with
       | [] => fSetE E d (.tup [.imm (.bool false)]) fun E => K E B
       | p :: l => match md with
         | 0 => false
         | 1 => fSetE E d (.tup [.imm (.bool true), .imm p.1, .imm p.2]) fun E => fSetB B [(r, .map (.iter true) g (p :: l))] fun B => K E B
         | _ + 2 => (List.range (l.length + 1)).all fun i => match (p :: l)[i]? with
           | some q => fSetE E d (.tup [.imm (.bool true), .imm q.1, .imm q.2]) fun E => fM ((p :: l).eraseIdx i) fun l' => fSetB B [(r, .map (.iter true) g (q :: l'))] fun B => K E B
           | none => true
     | false => false
   | _ => false
 | _ => false
def exC (P : Program) (eq : TypeId → Option (List CK)) (gl : Nat → Option (List IV)) (S : Nat) (cf : CF) (md : Nat) (fz : Bool) : Nat → Bool → Code → List PV → List Blk → KC → Bool
 | 0, _, _, _, _, _ => false
 | m + 1, true, c, E, B, K => exC P eq gl S cf md fz m false c E B fun e E B => match e with
   | .normal => exC P eq gl S cf md fz m true c E B K
   | e => K e E B
 | m + 1, false, c, E, B, K => match c with
   | .skip => K .normal E B
   | .label _ => K .normal E B
   | .exit id => K (.exit id) E B
   | .ret => K .ret E B
   | .seq x y => exC P eq gl S cf md fz m false x E B fun e E B => match e with
     | .normal => exC P eq gl S cf md fz m false y E B K
     | e => K e E B
   | .cond c x y => match ev0 gl E c with
     | .imm (.bool true) => exC P eq gl S cf md fz m false x E B K
     | .imm (.bool false) => exC P eq gl S cf md fz m false y E B K
     | _ => false
   | .block id c => exC P eq gl S cf md fz m false c E B fun e E B => match e with
     | .exit id' => match decide (id' = id) with
       | true => K .normal E B
       | false => K (.exit id') E B
     | e => K e E B
   | .region _ ops draw => match nextOf ops draw with
    | some (x, d) => match md with
     | 0 => false
     | _ + 1 => nextX gl md x d E B fun E B => fSp (B ++ dead (nal ops.toList.tail)) fun B2 => fN B.length fun id => exR P eq gl S cf ops false ops.toList.tail id E B2 [] [] fun E' B' _ => K .normal E' B'
    | none => prX gl fz ops.toList E B fun E B => clX B.length (gens B) (match ncalls ops.toList with
       | 0 => []
       | _ + 1 => B) 0 B fun B => fSp (B ++ dead (moreD S (ncalls ops.toList) B)) fun B1 => fSp (B1 ++ dead (nal ops.toList)) fun B2 => fN B1.length fun id =>
       exR P eq gl S cf ops draw ops.toList id E B2 [] (deads B1 0) fun E' B' sh => regS ops.toList E.length B2.length sh draw && K .normal E' B'
   | .loop c => exC P eq gl S cf md fz m true c E B K
   | _ => false
section
variable {P : Program} {X : Env} {eq : TypeId → Option (List CK)} {n0 : Nat} {G0 : Nat → Nat} {S : Nat} {cf : CF} (hm : P.follows .mixedOrders = true) (hcf : CFok P X cf)
include hm hcf
theorem exC_sound {fz : Bool} : ∀ {m : Nat} {fl : Bool} {c : Code} {E : List PV} {B : List Blk} {K : KC}, exC P eq X.gl S cf 0 fz m fl c E B K = true →
   ∃ e E' B', K e E' B' = true ∧ ∀ Γ, Good X eq n0 G0 Γ → match fl with
     | true => LWp P Γ c ⟨E, B⟩ fun e1 s1 => e1 = e ∧ s1 = ⟨E', B'⟩
     | false => AWp P Γ c ⟨E, B⟩ fun e1 s1 => e1 = e ∧ s1 = ⟨E', B'⟩
 | 0, _, _, _, _, _, h => by unfold exC at h; cases h
 | m + 1, true, c, E, B, K, h => by
   unfold exC at h
   obtain ⟨e, E', B', h1, h2⟩ := exC_sound h
   cases e with
   | normal =>
     obtain ⟨e2, E2, B2, h3, h4⟩ := exC_sound h1
     refine ⟨e2, E2, B2, h3, fun Γ hΓ => LWp.step (h2 Γ hΓ) (fun s' hs => ?_) (fun e s' he hs => absurd hs.1 he)⟩
     rw [hs.2]
     exact h4 Γ hΓ
   | _ => exact ⟨_, E', B', h1, fun Γ hΓ => LWp.step (h2 Γ hΓ) (fun s' hs => by cases hs.1) (fun e s' he hs => hs)⟩
 | m + 1, false, c, E, B, K, h => by
   unfold exC at h
   split at h
   · exact ⟨_, _, _, h, fun Γ _ => awp_skip ⟨rfl, rfl⟩⟩
   · exact ⟨_, _, _, h, fun Γ _ => awp_label ⟨rfl, rfl⟩⟩
   · exact ⟨_, _, _, h, fun Γ _ => awp_exit ⟨rfl, rfl⟩⟩
   · exact ⟨_, _, _, h, fun Γ _ => awp_ret ⟨rfl, rfl⟩⟩
   · obtain ⟨e, E', B', h1, h2⟩ := exC_sound h
     cases e with
     | normal =>
       obtain ⟨e2, E2, B2, h3, h4⟩ := exC_sound h1
       refine ⟨e2, E2, B2, h3, fun Γ hΓ => awp_seq fun K' hK => (h2 Γ hΓ).mono ?_⟩
       rintro e s' ⟨rfl, rfl⟩
       exact hK _ (h4 Γ hΓ)
     | _ =>
       refine ⟨_, E', B', h1, fun Γ hΓ => awp_seq fun K' hK => (h2 Γ hΓ).mono ?_⟩
       rintro e s' ⟨rfl, rfl⟩
       exact ⟨rfl, rfl⟩
   · split at h
     · rename_i hc
       obtain ⟨e, E', B', h1, h2⟩ := exC_sound h
       refine ⟨e, E', B', h1, fun Γ hΓ => awp_cond (b := true) (by rw [← ev0_eq (gl := X.gl) (by rw [hΓ.x])]; exact hc) (fun _ => h2 Γ hΓ) (fun h => by cases h)⟩
     · rename_i hc
       obtain ⟨e, E', B', h1, h2⟩ := exC_sound h
       refine ⟨e, E', B', h1, fun Γ hΓ => awp_cond (b := false) (by rw [← ev0_eq (gl := X.gl) (by rw [hΓ.x])]; exact hc) (fun h => by cases h) (fun _ => h2 Γ hΓ)⟩
     · cases h
   · rename_i id c
     obtain ⟨e, E', B', h1, h2⟩ := exC_sound h
     cases e with
     | exit id' =>
       simp only at h1
       split at h1
       · rename_i hd
         have hd' : id' = id := by simpa using hd
         refine ⟨_, E', B', h1, fun Γ hΓ => awp_block ((h2 Γ hΓ).mono ?_)⟩
         rintro e s' ⟨rfl, rfl⟩
         unfold blockS
         simp [hd']
       · rename_i hd
         have hd' : ¬ id' = id := by simpa using hd
         refine ⟨_, E', B', h1, fun Γ hΓ => awp_block ((h2 Γ hΓ).mono ?_)⟩
         rintro e s' ⟨rfl, rfl⟩
         unfold blockS
         simp [hd']
     | _ =>
       refine ⟨_, E', B', h1, fun Γ hΓ => awp_block ((h2 Γ hΓ).mono ?_)⟩
       rintro e s' ⟨rfl, rfl⟩
       exact ⟨rfl, rfl⟩
   · rename_i rid ops draw
     split at h
     · cases h
     obtain ⟨Ep, Bp, h, hwp⟩ := prX_sound h
     obtain ⟨Bc, h, _, hwc⟩ := clX_sound h
     simp only [fSp_eq, fN_eq] at h
     obtain ⟨cr, es, h1, h2⟩ := exR_sound (n0 := n0) (G0 := G0) hcf h
     rw [Bool.and_eq_true] at h2
     refine ⟨_, _, _, h2.2, fun Γ hΓ => ?_⟩
     obtain ⟨h3, h4⟩ := h1 Γ hΓ
     have hr : AWp P Γ (.region rid ops draw) ⟨Ep, Bc ++ dead (moreD S (ncalls ops.toList) Bc)⟩ fun e1 s1 => e1 = .normal ∧ s1 = es.foldl applyE ⟨Ep, (Bc ++ dead (moreD S (ncalls ops.toList) Bc)) ++ List.replicate (nal ops.toList) (Blk.dead 0)⟩ := by
       refine awp_region (nal ops.toList) cr hm h3 ?_ h4 ⟨rfl, rfl⟩
       cases draw
       · unfold regB; rfl
       · refine reg_sh ?_
         simpa [dead] using h2.1
     exact fun hX a w hg => hr hX a w (γ_more _ (hwc Γ Ep a w (hwp Γ a w hg)))
   · obtain ⟨e, E', B', h1, h2⟩ := exC_sound h
     exact ⟨e, E', B', h1, fun Γ hΓ => LWp.loop (h2 Γ hΓ)⟩
   · cases h
end
def valsX (P : Program) (E : List PV) (B : List Blk) : List ResultVar → (List PV → Bool) → Bool
 | [], K => K []
 | .tmp t :: rs, K => valsX P E B rs fun ps => K (E.getD t .any :: ps)
 | .cell t ty :: rs, K => match tdOf P ty, E.getD t .any with
   | some d, .ptr r g off => match B[r]? with
     | some (.box g' cs _) => match decide (g = g') with
       | true => match partP cs off d.size d.agg with
         | some p => valsX P E B rs fun ps => K (p :: ps)
         | none => false
       | false => false
     | _ => false
   | _, _ => false
theorem valsX_sound {P : Program} {T : Tb} (hT : T.td = tdOf P) {E : List PV} {B : List Blk} : ∀ {rs : List ResultVar} {K : List PV → Bool}, valsX P E B rs K = true → ∃ ps, K ps = true ∧ ∀ fin : List PV → Prop, fin ps → valsQ T ⟨E, B⟩ rs fin
 | [], K, h => ⟨[], h, fun fin hf => by unfold valsQ; exact hf⟩
 | .tmp t :: rs, K, h => by
   unfold valsX at h
   obtain ⟨ps, h1, h2⟩ := valsX_sound hT h
   refine ⟨_, h1, fun fin hf => ?_⟩
   unfold valsQ valQ
   exact h2 _ hf
 | .cell t ty :: rs, K, h => by
   unfold valsX at h
   split at h
   · rename_i d r g off hd hx
     split at h
     · rename_i g' cs bt hb
       split at h
       · rename_i hg
         split at h
         · rename_i p hp
           obtain ⟨ps, h1, h2⟩ := valsX_sound hT h
           refine ⟨_, h1, fun fin hf => ?_⟩
           have hg' : g = g' := by simpa using hg
           unfold valsQ valQ
           simp only [hT, hd, hx, hb, hp]
           rw [if_pos hg']
           exact h2 (fun ps => fin (p :: ps)) hf
         · cases h
       · cases h
     · cases h
   · cases h
def firstR (n0 : Nat) : List Nat → Option Nat
 | [] => none
 | r :: l => match decide (n0 ≤ r) with
   | true => some r
   | false => firstR n0 l
def refsB : List Blk → List Nat
 | [] => []
 | .box _ cs _ :: B => refDs cs ++ refsB B
 | .row _ _ _ es :: B => refDs es ++ refsB B
 | _ :: B => refsB B
def innR (n0 : Nat) (G0 : Nat → Nat) (B : List Blk) : List Nat → Option Nat
 | [] => none
 | r :: l => match B[r]? with
   | some (.row _ _ g fs) => match (decide (n0 ≤ r) || decide (G0 r < g)) && (imms fs).isSome with
     | true => some r
     | false => innR n0 G0 B l
   | _ => innR n0 G0 B l
def innerR (n0 : Nat) (G0 : Nat → Nat) (B : List Blk) : List Blk → Option Nat
 | [] => none
 | .row _ _ _ es :: l => match innR n0 G0 B (refDs es) with
   | some r => some r
   | none => innerR n0 G0 B l
 | _ :: l => innerR n0 G0 B l
def placeX (n0 : Nat) (G0 : Nat → Nat) : List Blk → Nat → Option (Nat × Nat)
 | [], _ => none
 | .dead g :: B, i => match decide (i < n0 ∧ G0 i < g + 1) with
   | true => some (i, g + 1)
   | false => placeX n0 G0 B (i + 1)
 | _ :: B, i => placeX n0 G0 B (i + 1)
section
variable (i j : Nat)
mutual
def freeP : PV → Bool
 | .any => true
 | .imm _ => true
 | .agg cs => freeL cs
 | .tup cs => freeL cs
 | .ptr r _ _ => r != i && r != j
 | .row r _ => r != i && r != j
 | .eptr r _ _ _ _ => r != i && r != j
 | .sub r _ _ _ _ => r != i && r != j
 | .iptr _ => true
 | .ful _ _ => true
 | .clo _ cs => freeL cs
def freeL : List PV → Bool
 | [] => true
 | c :: cs => freeP c && freeL cs
end
def rowsFree : List Blk → Bool
 | [] => true
 | .row _ _ _ es :: B => freeL i j es && rowsFree B
 | _ :: B => rowsFree B
variable (h g' : Nat)
theorem ne_of {r : Nat} (hf : (r != i && r != j) = true) : r ≠ i ∧ r ≠ j := by
 rw [Bool.and_eq_true] at hf
 exact ⟨by simpa using hf.1, by simpa using hf.2⟩
mutual
theorem mv_free : ∀ p : PV, freeP i j p = true → mv i j h g' p = p
 | .any, _ => by unfold mv; rfl
 | .imm _, _ => by unfold mv; rfl
 | .agg cs, hf => by unfold freeP at hf; unfold mv; rw [mvL_free cs hf]
 | .tup cs, hf => by unfold freeP at hf; unfold mv; rw [mvL_free cs hf]
 | .ptr r _ _, hf => by unfold freeP at hf; obtain ⟨h1, h2⟩ := ne_of i j hf; unfold mv; rw [if_neg h2, if_neg h1]
 | .row r _, hf => by unfold freeP at hf; obtain ⟨h1, h2⟩ := ne_of i j hf; unfold mv; rw [if_neg h2, if_neg h1]
 | .eptr r _ _ _ _, hf => by unfold freeP at hf; obtain ⟨h1, h2⟩ := ne_of i j hf; unfold mv; rw [if_neg h2, if_neg h1]
 | .sub r _ _ _ _, hf => by unfold freeP at hf; obtain ⟨h1, h2⟩ := ne_of i j hf; unfold mv; rw [if_neg h2, if_neg h1]
 | .iptr _, _ => by unfold mv; rfl
 | .ful _ _, _ => by unfold mv; rfl
 | .clo f cs, hf => by unfold freeP at hf; unfold mv; rw [mvL_free cs hf]
theorem mvL_free : ∀ l : List PV, freeL i j l = true → mvL i j h g' l = l
 | [], _ => by unfold mvL; rfl
 | c :: cs, hf => by
   unfold freeL at hf
   rw [Bool.and_eq_true] at hf
   unfold mvL
   rw [mv_free c hf.1, mvL_free cs hf.2]
end
theorem rowsAre_free : ∀ {B : List Blk}, rowsFree i j B = true → RowsAre (mvL i j h g') B
 | [], _ => trivial
 | .row _ _ _ es :: B, hf => by
   unfold rowsFree at hf
   rw [Bool.and_eq_true] at hf
   exact ⟨mvL_free i j h g' es hf.1, rowsAre_free hf.2⟩
 | .dead _ :: B, hf => by unfold rowsFree at hf; exact rowsAre_free (B := B) hf
 | .box _ _ _ :: B, hf => by unfold rowsFree at hf; exact rowsAre_free (B := B) hf
 | .map _ _ _ :: B, hf => by unfold rowsFree at hf; exact rowsAre_free (B := B) hf
end
def frzX (j : Nat) (E : List PV) (B : List Blk) (K : List PV → List Blk → Bool) : Bool := match B[j]? with
 | some (.row _ sz g es) => match imms es with
   | some is => fL (fzL j g (.sl sz is) E) fun E' => fBs ((B.map (fzB j g (.sl sz is))).set j (.dead g)) fun B' => K E' B'
   | none => false
 | _ => false
def mvX (i j g' : Nat) (E : List PV) (B : List Blk) (K : List PV → List Blk → Bool) : Bool := match B[j]? with
 | some x => rowsFree i j B && (fL (mvL i j (gen x) g' E) fun E' => fBs (((B.map (mvB i j (gen x) g')).set i (Pv.regen g' (mvB i j (gen x) g' x))).set j (.dead (gen x + 1))) fun B' => K E' B')
 | none => false
def frbO (j : Nat) (E : List PV) (B : List Blk) (K : List PV → List Blk → Bool) : Bool := match B[j]? with
 | some (.box g cs _) => match imms cs with
   | some is => fL (fbL j g is E) fun E' => fBs ((B.map (fbB j g is)).set j (.dead g)) fun B' => K E' B'
   | none => false
 | _ => false
def boxI (fz : Bool) (B : List Blk) (j : Nat) : Bool := match fz with
 | true => match B[j]? with
   | some (.box _ cs _) => (imms cs).isSome
   | _ => false
 | false => false
def nmP : PV → PV
 | .clo f cs => match capsI cs with
   | some is => .imm (.clo f is)
   | none => .clo f cs
 | p => p
def tidyX (n0 : Nat) (G0 : Nat → Nat) (fz : Bool) : Nat → List PV → List Blk → (List PV → List Blk → Bool) → Bool
 | 0, _, _, _ => false
 | m + 1, E, B, K => match innerR n0 G0 B B with
   | some j => frzX j E B fun E B => tidyX n0 G0 fz m E B K
   | none => match firstR n0 (refDs E ++ refsB (B.take n0)) with
     | some j => match boxI fz B j with
      | true => frbO j E B fun E B => fL (E.map nmP) fun E => tidyX n0 G0 fz m E B K
      | false => match placeX n0 G0 B 0 with
       | some (i, g') => (decide (i ≠ j) && decide (n0 ≤ j) && decide (i < n0 ∧ G0 i < g') && (match B[i]? with
           | some (.dead _) => true
           | _ => false)) && mvX i j g' E B fun E B => tidyX n0 G0 fz m E B K
       | none => frzX j E B fun E B => tidyX n0 G0 fz m E B K
     | none => fL (E.map nmP) fun E => fSp (B.take n0) fun B' => ((decide (B'.length = n0) && B'.all (blkBelow n0)) && belowL n0 E) && clX n0 (gens B') B' 0 B' fun B' => K E B'
theorem keepsWk {m : Nat} : ∀ {E : List PV}, belowL m E = true → Wk m E E
 | [], _ => .nil
 | c :: cs, h => by
   unfold belowL at h
   rw [Bool.and_eq_true] at h
   exact .keep h.1 (keepsWk h.2)
section
variable {X : Env} {eq : TypeId → Option (List CK)} {n0 : Nat} {G0 : Nat → Nat}
theorem frzX_sound {j : Nat} {E : List PV} {B : List Blk} {K : List PV → List Blk → Bool} (h : frzX j E B K = true) : ∃ E' B', K E' B' = true ∧ ∀ Γ, Weak Γ ⟨E, B⟩ ⟨E', B'⟩ := by
 unfold frzX at h
 split at h
 · rename_i e sz g es hb
   split at h
   · rename_i is hes
     rw [fL_eq, fBs_eq] at h
     exact ⟨_, _, h, fun Γ a w hg => γ_frz j hb hes (ILe.refl _) rfl rfl hg⟩
   · cases h
 · cases h
theorem frbO_sound {j : Nat} {E : List PV} {B : List Blk} {K : List PV → List Blk → Bool} (h : frbO j E B K = true) : ∃ E' B', K E' B' = true ∧ ∀ Γ, Weak Γ ⟨E, B⟩ ⟨E', B'⟩ := by
 unfold frbO at h
 split at h
 · rename_i hb
   split at h
   · rename_i is hes
     rw [fL_eq, fBs_eq] at h
     exact ⟨_, _, h, fun Γ => Weak.frb j hb hes⟩
   · cases h
 · cases h
theorem nmP_rep {k : K} {n : Nat} {w : World} {p : PV} {v : Value} (h : Rep k n w p v) : Rep k n w (nmP p) v := by
 unfold nmP
 split
 · rename_i f cs
   split
   · rename_i is hc
     exact Rep_imm.2 (toI_rep (p := .clo f cs) (show (capsI cs).map (fun is => IV.clo f is) = some (.clo f is) by rw [hc]; rfl) h)
   · exact h
 · exact h
theorem nmT_rep {k : K} {n : Nat} {w : World} : ∀ {E : List PV} {vs : List Value}, RepT k n w E vs → RepT k n w (E.map nmP) vs
 | [], vs, h => by simpa using h
 | p :: E, vs, h => by
   rw [List.map_cons]
   unfold RepT at h ⊢
   obtain ⟨v, r, e, h1, h2⟩ := h
   exact ⟨v, r, e, nmP_rep h1, nmT_rep h2⟩
theorem Weak.nm {Γ : Ctx} (E : List PV) (B : List Blk) : Weak Γ ⟨E, B⟩ ⟨E.map nmP, B⟩ := by
 rintro a w ⟨hd, k, hI, hT⟩
 exact ⟨hd, k, hI, nmT_rep hT⟩
theorem tidyX_sound {fz : Bool} : ∀ {m : Nat} {E : List PV} {B : List Blk} {K : List PV → List Blk → Bool}, tidyX n0 G0 fz m E B K = true → ∃ E' B', K E' B' = true ∧ B'.length = n0 ∧ ∀ Γ, Good X eq n0 G0 Γ → Weak Γ ⟨E, B⟩ ⟨E', B'⟩
 | 0, _, _, _, h => by unfold tidyX at h; cases h
 | m + 1, E, B, K, h => by
   unfold tidyX at h
   split at h
   · obtain ⟨E1, B1, h1, h2⟩ := frzX_sound h
     obtain ⟨E2, B2, h3, h4, h5⟩ := tidyX_sound h1
     exact ⟨E2, B2, h3, h4, fun Γ hΓ => (h2 Γ).trans (h5 Γ hΓ)⟩
   · split at h
     · rename_i j _
       split at h
       · obtain ⟨E1, B1, h1, h2⟩ := frbO_sound h
         rw [fL_eq] at h1
         obtain ⟨E2, B2, h3, h4, h5⟩ := tidyX_sound h1
         exact ⟨E2, B2, h3, h4, fun Γ hΓ => ((h2 Γ).trans (Weak.nm _ _)).trans (h5 Γ hΓ)⟩
       split at h
       · rename_i i g' _
         simp only [Bool.and_eq_true, decide_eq_true_eq] at h
         obtain ⟨⟨⟨⟨hij, hn⟩, hi⟩, hd⟩, h⟩ := h
         split at hd
         · rename_i gi hbi
           unfold mvX at h
           split at h
           · rename_i x hbj
             rw [Bool.and_eq_true, fL_eq, fBs_eq] at h
             obtain ⟨E2, B2, h3, h4, h5⟩ := tidyX_sound h.2
             refine ⟨E2, B2, h3, h4, fun Γ hΓ => (Weak.adopt i j g' hij hbi hbj (by rw [hΓ.n]; exact hn) (fun _ => ?_) (rowsAre_free i j _ _ h.1)).trans (h5 Γ hΓ)⟩
             rw [hΓ.g i hi.1]
             exact hi.2
           · cases h
         · cases hd
       · obtain ⟨E1, B1, h1, h2⟩ := frzX_sound h
         obtain ⟨E2, B2, h3, h4, h5⟩ := tidyX_sound h1
         exact ⟨E2, B2, h3, h4, fun Γ hΓ => (h2 Γ).trans (h5 Γ hΓ)⟩
     · rw [fL_eq, fSp_eq] at h
       simp only [Bool.and_eq_true, decide_eq_true_eq] at h
       obtain ⟨⟨⟨h1, h2⟩, h3⟩, h4⟩ := h
       obtain ⟨B', h5, h6, h7⟩ := clX_sound h4
       exact ⟨E.map nmP, B', h5, h6.trans h1, fun Γ hΓ => ((Weak.nm E B).trans (Weak.slots n0 (by rw [hΓ.n]; exact Nat.le_refl _) rfl h1 h2 (keepsWk h3))).trans (h7 Γ _)⟩
end
end
end Go.Pv
namespace Go.Pv
open Go.RowKit (Below)
noncomputable section
set_option linter.unusedSimpArgs false
set_option linter.unusedSectionVars false
mutual
def xqI : IV → IV → Bool
 | .bool a, .bool b => decide (a = b)
 | .int k z, .int k' z' => decide (k = k' ∧ z = z')
 | .str a, .str b => decide (a = b)
 | .fn a, .fn b => decide (a = b)
 | .nil, .nil => true
 | .np, .np => true
 | .nm, .nm => true
 | .nf, .nf => true
 | .agg a, .agg b => xqIs a b
 | .sl s a, .sl s' b => decide (s = s') && xqIs a b
 | .clo f a, .clo f' b => decide (f = f') && xqIs a b
 | .ip a, .ip b => xqIs a b
 | _, _ => false
def xqIs : List IV → List IV → Bool
 | [], [] => true
 | a :: l, b :: m => xqI a b && xqIs l m
 | _, _ => false
end
mutual
theorem xqI_ok : ∀ a b : IV, xqI a b = true → a = b
 | .bool a, b, h => by cases b <;> unfold xqI at h <;> simp_all
 | .int k z, b, h => by cases b <;> unfold xqI at h <;> simp_all
 | .str a, b, h => by cases b <;> unfold xqI at h <;> simp_all
 | .fn a, b, h => by cases b <;> unfold xqI at h <;> simp_all
 | .nil, b, h => by cases b <;> unfold xqI at h <;> simp_all
 | .np, b, h => by cases b <;> unfold xqI at h <;> simp_all
 | .nm, b, h => by cases b <;> unfold xqI at h <;> simp_all
 | .nf, b, h => by cases b <;> unfold xqI at h <;> simp_all
 | .agg a, b, h => by cases b <;> unfold xqI at h <;> first | cases h | rw [xqIs_ok _ _ h]
 | .sl s a, b, h => by
   cases b <;> unfold xqI at h <;> first
     | cases h
     | (rw [Bool.and_eq_true, decide_eq_true_eq] at h; rw [h.1, xqIs_ok _ _ h.2])
 | .clo s a, b, h => by
   cases b <;> unfold xqI at h <;> first
     | cases h
     | (rw [Bool.and_eq_true, decide_eq_true_eq] at h; rw [h.1, xqIs_ok _ _ h.2])
 | .ip a, b, h => by cases b <;> unfold xqI at h <;> first | cases h | rw [xqIs_ok _ _ h]
theorem xqIs_ok : ∀ a b : List IV, xqIs a b = true → a = b
 | [], b, h => by cases b <;> unfold xqIs at h <;> first | rfl | cases h
 | a :: l, b, h => by
   cases b <;> unfold xqIs at h <;> first
     | cases h
     | (rw [Bool.and_eq_true] at h; rw [xqI_ok _ _ h.1, xqIs_ok _ _ h.2])
end
mutual
def xqP : PV → PV → Bool
 | .any, .any => true
 | .imm a, .imm b => xqI a b
 | .agg a, .agg b => xqPs a b
 | .tup a, .tup b => xqPs a b
 | .ptr r g o, .ptr r' g' o' => decide (r = r' ∧ g = g' ∧ o = o')
 | .row r g, .row r' g' => decide (r = r' ∧ g = g')
 | .eptr r g a b c, .eptr r' g' a' b' c' => decide (r = r' ∧ g = g' ∧ a = a' ∧ b = b' ∧ c = c')
 | .sub r g a b c, .sub r' g' a' b' c' => decide (r = r' ∧ g = g' ∧ a = a' ∧ b = b' ∧ c = c')
 | .iptr a, .iptr b => xqIs a b
 | .ful s a, .ful s' b => decide (s = s') && xqIs a b
 | .clo f a, .clo f' b => decide (f = f') && xqPs a b
 | _, _ => false
def xqPs : List PV → List PV → Bool
 | [], [] => true
 | a :: l, b :: m => xqP a b && xqPs l m
 | _, _ => false
end
mutual
theorem xqP_ok : ∀ a b : PV, xqP a b = true → a = b
 | .any, b, h => by cases b <;> unfold xqP at h <;> simp_all
 | .imm a, b, h => by cases b <;> unfold xqP at h <;> first | cases h | rw [xqI_ok _ _ h]
 | .agg a, b, h => by cases b <;> unfold xqP at h <;> first | cases h | rw [xqPs_ok _ _ h]
 | .tup a, b, h => by cases b <;> unfold xqP at h <;> first | cases h | rw [xqPs_ok _ _ h]
 | .ptr r g o, b, h => by cases b <;> unfold xqP at h <;> simp_all
 | .row r g, b, h => by cases b <;> unfold xqP at h <;> simp_all
 | .eptr r g _ _ _, b, h => by cases b <;> unfold xqP at h <;> simp_all
 | .sub r g _ _ _, b, h => by cases b <;> unfold xqP at h <;> simp_all
 | .iptr a, b, h => by cases b <;> unfold xqP at h <;> first | cases h | rw [xqIs_ok _ _ h]
 | .ful s a, b, h => by
   cases b <;> unfold xqP at h <;> first
     | cases h
     | (rw [Bool.and_eq_true, decide_eq_true_eq] at h; rw [h.1, xqIs_ok _ _ h.2])
 | .clo s a, b, h => by
   cases b <;> unfold xqP at h <;> first
     | cases h
     | (rw [Bool.and_eq_true, decide_eq_true_eq] at h; rw [h.1, xqPs_ok _ _ h.2])
theorem xqPs_ok : ∀ a b : List PV, xqPs a b = true → a = b
 | [], b, h => by cases b <;> unfold xqPs at h <;> first | rfl | cases h
 | a :: l, b, h => by
   cases b <;> unfold xqPs at h <;> first
     | cases h
     | (rw [Bool.and_eq_true] at h; rw [xqP_ok _ _ h.1, xqPs_ok _ _ h.2])
end
def xqM : List (IV × IV) → List (IV × IV) → Bool
 | [], [] => true
 | (a, b) :: l, (c, d) :: m => xqI a c && xqI b d && xqM l m
 | _, _ => false
theorem xqM_ok : ∀ a b : List (IV × IV), xqM a b = true → a = b
 | [], b, h => by cases b <;> unfold xqM at h <;> first | rfl | cases h
 | (a, c) :: l, b, h => by
   cases b <;> unfold xqM at h <;> first
     | cases h
     | (simp only [Bool.and_eq_true] at h; rw [xqI_ok _ _ h.1.1, xqI_ok _ _ h.1.2, xqM_ok _ _ h.2])
def xqBk : Blk → Blk → Bool
 | .dead g, .dead g' => decide (g = g')
 | .box g cs t, .box g' cs' t' => decide (g = g' ∧ t = t') && xqPs cs cs'
 | .row e sz g es, .row e' sz' g' es' => decide (e = e' ∧ sz = sz' ∧ g = g') && xqPs es es'
 | .map k g ps, .map k' g' ps' => decide (k = k' ∧ g = g') && xqM ps ps'
 | _, _ => false
theorem xqBk_ok (a b : Blk) (h : xqBk a b = true) : a = b := by
 cases a <;> cases b <;> unfold xqBk at h <;> first
   | cases h
   | (simp only [Bool.and_eq_true, decide_eq_true_eq] at h; obtain ⟨⟨rfl, rfl, rfl⟩, h⟩ := h; rw [xqPs_ok _ _ h])
   | (simp only [Bool.and_eq_true, decide_eq_true_eq] at h; obtain ⟨⟨rfl, rfl⟩, h⟩ := h; first | rw [xqPs_ok _ _ h] | rw [xqM_ok _ _ h])
   | (simp only [decide_eq_true_eq] at h; rw [h])
def xqBs : List Blk → List Blk → Bool
 | [], [] => true
 | a :: l, b :: m => xqBk a b && xqBs l m
 | _, _ => false
theorem xqBs_ok : ∀ a b : List Blk, xqBs a b = true → a = b
 | [], b, h => by cases b <;> unfold xqBs at h <;> first | rfl | cases h
 | a :: l, b, h => by
   cases b <;> unfold xqBs at h <;> first
     | cases h
     | (rw [Bool.and_eq_true] at h; rw [xqBk_ok _ _ h.1, xqBs_ok _ _ h.2])
theorem LWp.mono {P : Program} {Γ : Ctx} {c : Code} {s : St} {Q Q' : Exit → St → Prop} (h : LWp P Γ c s Q) (hq : ∀ e s', Q e s' → Q' e s') : LWp P Γ c s Q' := fun hX a w hg b k cs => by
 obtain ⟨e, a', w', ⟨s', h2, h3⟩, harr⟩ := h hX a w hg b k cs
 exact ⟨e, a', w', ⟨s', hq e s' h2, h3⟩, harr⟩
def KT (K : KC) : Exit → St → Prop := fun e s => K e s.E s.B = true
section
variable {P : Program} {X : Env} {eq : TypeId → Option (List CK)} {n0 : Nat} {G0 : Nat → Nat} {S : Nat} {cf : CF} (hm : P.follows .mixedOrders = true) (hcf : CFok P X cf)
include hcf
theorem nextX_first {x : Operand} {d : Option Nat} {E : List PV} {B : List Blk} {K : List PV → List Blk → Bool} (h : nextX X.gl 1 x d E B K = true) : ∃ E B, K E B = true := by
 unfold nextX at h
 split at h
 · split at h
   · split at h
     · split at h
       · rw [fSetE_eq] at h; exact ⟨_, _, h⟩
       · simp only [fSetE_eq, fSetB_eq] at h; exact ⟨_, _, h⟩
     · cases h
   · cases h
 · cases h
theorem exC_first {fz : Bool} : ∀ {m : Nat} {fl : Bool} {c : Code} {E : List PV} {B : List Blk} {K : KC}, exC P eq X.gl S cf 1 fz m fl c E B K = true → ∃ e E' B', K e E' B' = true
 | 0, _, _, _, _, _, h => by unfold exC at h; cases h
 | m + 1, true, c, E, B, K, h => by
   unfold exC at h
   obtain ⟨e, E', B', h1⟩ := exC_first h
   cases e with
   | normal => exact exC_first h1
   | _ => exact ⟨_, _, _, h1⟩
 | m + 1, false, c, E, B, K, h => by
   unfold exC at h
   split at h
   · exact ⟨_, _, _, h⟩
   · exact ⟨_, _, _, h⟩
   · exact ⟨_, _, _, h⟩
   · exact ⟨_, _, _, h⟩
   · obtain ⟨e, E', B', h1⟩ := exC_first h
     cases e with
     | normal => exact exC_first h1
     | _ => exact ⟨_, _, _, h1⟩
   · split at h
     · exact exC_first h
     · exact exC_first h
     · cases h
   · obtain ⟨e, E', B', h1⟩ := exC_first h
     cases e with
     | exit id' =>
       simp only at h1
       split at h1 <;> exact ⟨_, _, _, h1⟩
     | _ => exact ⟨_, _, _, h1⟩
   · split at h
     · obtain ⟨E', B', h1⟩ := nextX_first hcf h
       simp only [fSp_eq, fN_eq] at h1
       obtain ⟨_, _, _, h2⟩ := exR_sound (n0 := 0) (G0 := fun _ => 0) hcf h1
       exact ⟨_, _, _, h2⟩
     · obtain ⟨Ep, Bp, h, _⟩ := prX_sound h
       obtain ⟨Bc, h, _, _⟩ := clX_sound h
       simp only [fSp_eq, fN_eq] at h
       obtain ⟨_, _, _, h2⟩ := exR_sound (n0 := 0) (G0 := fun _ => 0) hcf h
       rw [Bool.and_eq_true] at h2
       exact ⟨_, _, _, h2.2⟩
   · exact exC_first h
   · cases h
include hm
theorem next_wp {rid : Nat} {ops : Array Oper} {draw : Bool} {x : Operand} {d : Option Nat} {E : List PV} {B : List Blk} {K : KC} (hno : nextOf ops draw = some (x, d))
   (h : (nextX X.gl 2 x d E B fun E B => fSp (B ++ dead (nal ops.toList.tail)) fun B2 => fN B.length fun id => exR P eq X.gl S cf ops false ops.toList.tail id E B2 [] [] fun E' B' _ => K .normal E' B') = true) {Γ : Ctx} (hΓ : Good X eq n0 G0 Γ) :
   AWp P Γ (.region rid ops draw) ⟨E, B⟩ (KT K) := by
 unfold nextOf at hno
 split at hno
 · rename_i o rest hops
   split at hno
   · rename_i y hg hop
     simp only [Option.some.injEq, Prod.mk.injEq] at hno
     obtain ⟨rfl, rfl⟩ := hno
     unfold nextX at h
     rw [ev0_eq (Γ := Γ) (by rw [hΓ.x])] at h
     split at h
     · rename_i r g hx
       split at h
       · rename_i b g' ps hb
         split at h
         · rename_i hgg
           have hgg' : g = g' := by simpa using hgg
           subst hgg'
           have go : ∀ (E : List PV) (B : List Blk), (fSp (B ++ dead (nal ops.toList.tail)) fun B2 => fN B.length fun id => exR P eq X.gl S cf ops false ops.toList.tail id E B2 [] [] fun E' B' _ => K .normal E' B') = true → EqsOK P Γ.eqT →
               ∀ a w, γ Γ ⟨E, B⟩ a w → wpOps P ops (fun e a w => ∃ s', KT K e s' ∧ γ Γ s' a w) (List.range' 1 rest.length) a w := by
             intro E B hK hX a w hγ
             rw [fSp_eq, fN_eq, hops, List.tail_cons] at hK
             obtain ⟨cr, es, g1, g2⟩ := exR_sound (n0 := n0) (G0 := G0) hcf hK
             obtain ⟨g3, g4⟩ := g1 Γ hΓ
             refine run_sound hX rest 1 _ cr _ es (fun j => ?_) g3 g4 a w (γ_more (nal rest) hγ) fun a' w' hg' => ⟨_, g2, hg'⟩
             rw [← Array.getElem?_toList, hops, Nat.add_comm]; rfl
           intro hX a w hγ
           refine next_sound hops hg hop hx hb (fun hl a' w' hg' => ?_) (fun i p hp a' w' hg' => ?_) hγ
           · split at h
             · rw [fSetE_eq] at h
               exact go _ _ h hX a' w' hg'
             · rename_i q l hq
               rw [hl] at hq
               cases hq
           · split at h
             · rename_i hq
               rw [hq] at hp
               simp at hp
             · rename_i q l hq
               rw [hq] at hp hg'
               have hi : i < l.length + 1 := by
                 have := (List.getElem?_eq_some_iff.1 hp).1
                 simpa using this
               have h1 := List.all_eq_true.1 h i (List.mem_range.2 hi)
               rw [hp] at h1
               simp only [fSetE_eq, fM_eq, fSetB_eq] at h1
               exact go _ _ h1 hX a' w' hg'
         · cases h
       · cases h
     · cases h
   · cases hno
 · cases hno
theorem exC_wp {fz : Bool} {Γ : Ctx} (hΓ : Good X eq n0 G0 Γ) : ∀ {m : Nat} {fl : Bool} {c : Code} {E : List PV} {B : List Blk} {K : KC}, exC P eq X.gl S cf 2 fz m fl c E B K = true → match fl with
     | true => LWp P Γ c ⟨E, B⟩ (KT K)
     | false => AWp P Γ c ⟨E, B⟩ (KT K)
 | 0, _, _, _, _, _, h => by unfold exC at h; cases h
 | m + 1, true, c, E, B, K, h => by
   unfold exC at h
   refine LWp.step (exC_wp hΓ h) (fun s' hs => exC_wp (fl := true) hΓ hs) (fun e s' he hs => ?_)
   cases e with
   | normal => exact absurd rfl he
   | _ => exact hs
 | m + 1, false, c, E, B, K, h => by
   unfold exC at h
   split at h
   · exact awp_skip h
   · exact awp_label h
   · exact awp_exit h
   · exact awp_ret h
   · refine awp_seq fun K' hK => (exC_wp (fl := false) hΓ h).mono fun e s' hs => ?_
     cases e with
     | normal => exact hK _ (exC_wp (fl := false) hΓ hs)
     | _ => exact hs
   · split at h
     · rename_i hc
       exact awp_cond (b := true) (by rw [← ev0_eq (gl := X.gl) (by rw [hΓ.x])]; exact hc) (fun _ => exC_wp (fl := false) hΓ h) (fun h => by cases h)
     · rename_i hc
       exact awp_cond (b := false) (by rw [← ev0_eq (gl := X.gl) (by rw [hΓ.x])]; exact hc) (fun h => by cases h) (fun _ => exC_wp (fl := false) hΓ h)
     · cases h
   · rename_i id c
     refine awp_block ((exC_wp (fl := false) hΓ h).mono fun e s' hs => ?_)
     cases e with
     | exit id' =>
       unfold KT at hs
       simp only at hs
       unfold blockS
       simp only
       split at hs
       · rename_i hd
         rw [if_pos (by simpa using hd)]
         exact hs
       · rename_i hd
         rw [if_neg (by simpa using hd)]
         exact hs
     | _ => exact hs
   · rename_i rid ops draw
     split at h
     · rename_i x d hno
       exact next_wp hm hcf hno h hΓ
     obtain ⟨Ep, Bp, h, hwp⟩ := prX_sound h
     obtain ⟨Bc, h, _, hwc⟩ := clX_sound h
     simp only [fSp_eq, fN_eq] at h
     obtain ⟨cr, es, h1, h2⟩ := exR_sound (n0 := n0) (G0 := G0) hcf h
     rw [Bool.and_eq_true] at h2
     obtain ⟨h3, h4⟩ := h1 Γ hΓ
     have hr : AWp P Γ (.region rid ops draw) ⟨Ep, Bc ++ dead (moreD S (ncalls ops.toList) Bc)⟩ (KT K) := by
       refine awp_region (nal ops.toList) cr hm h3 ?_ h4 h2.2
       cases draw
       · unfold regB; rfl
       · refine reg_sh ?_
         simpa [dead] using h2.1
     exact fun hX a w hg => hr hX a w (γ_more _ (hwc Γ Ep a w (hwp Γ a w hg)))
   · exact LWp.loop (exC_wp (fl := true) hΓ h)
   · cases h
end
end
noncomputable section
def hasNext : Code → Bool
 | .seq x y => hasNext x || hasNext y
 | .cond _ x y => hasNext x || hasNext y
 | .block _ c => hasNext c
 | .loop c => hasNext c
 | .region _ ops draw => (nextOf ops draw).isSome
 | _ => false
def nrmX (G0 : Nat → Nat) : List Nat → List PV → List Blk → (List PV → List Blk → Bool) → Bool
 | [], E, B, K => K E B
 | i :: l, E, B, K => match B[i]? with
   | some x => match decide (gen x = G0 i) with
     | true => nrmX G0 l E B K
     | false => fN (G0 i + 1000) fun g' => match decide (G0 i < g') with
       | true => fL (rgL i (gen x) g' E) fun E' => fBs ((B.map (rgB i (gen x) g')).set i (Pv.regen g' (rgB i (gen x) g' x))) fun B' => nrmX G0 l E' B' K
       | false => false
   | none => nrmX G0 l E B K
theorem nrmX_sound {X : Env} {eq : TypeId → Option (List CK)} {n0 : Nat} {G0 : Nat → Nat} : ∀ {l : List Nat} {E : List PV} {B : List Blk} {K : List PV → List Blk → Bool}, nrmX G0 l E B K = true → ∃ E' B', K E' B' = true ∧ B'.length = B.length ∧ ∀ Γ, Good X eq n0 G0 Γ → Weak Γ ⟨E, B⟩ ⟨E', B'⟩
 | [], E, B, K, h => ⟨E, B, h, rfl, fun Γ _ => Weak.refl _⟩
 | i :: l, E, B, K, h => by
   unfold nrmX at h
   split at h
   · rename_i x hb
     split at h
     · exact nrmX_sound h
     · rw [fN_eq] at h
       split at h
       · rename_i hg
         have hg := of_decide_eq_true hg
         rw [fL_eq, fBs_eq] at h
         obtain ⟨E2, B2, h1, h2, h3⟩ := nrmX_sound h
         exact ⟨E2, B2, h1, by simpa using h2, fun Γ hΓ => (Weak.regen i _ hb (fun hn => by rw [hΓ.g i (hΓ.n ▸ hn)]; exact hg) rfl rfl).trans (h3 Γ hΓ)⟩
       · cases h
   · exact nrmX_sound h
def gcQ (G0 : Nat → Nat) (i : Nat) (E : List PV) (B : List Blk) : Nat := match B[i]? with
 | some (.row _ _ g es) => match decide (G0 i < g) && (imms es).isSome && !((refDs E ++ refsB B).any (Nat.beq i)) with
   | true => 1
   | false => 0
 | some (.box g cs _) => match decide (G0 i < g) && (imms cs).isSome && !((refDs E ++ refsB B).any (Nat.beq i)) with
   | true => 2
   | false => 0
 | _ => 0
def gcX (G0 : Nat → Nat) : List Nat → List PV → List Blk → (List PV → List Blk → Bool) → Bool
 | [], E, B, K => K E B
 | i :: l, E, B, K => match gcQ G0 i E B with
   | 0 => gcX G0 l E B K
   | 1 => frzX i E B fun E B => gcX G0 l E B K
   | _ + 2 => frbO i E B fun E B => gcX G0 l E B K
theorem gcX_sound {G0 : Nat → Nat} : ∀ {l : List Nat} {E : List PV} {B : List Blk} {K : List PV → List Blk → Bool}, gcX G0 l E B K = true → ∃ E' B', K E' B' = true ∧ ∀ Γ, Weak Γ ⟨E, B⟩ ⟨E', B'⟩
 | [], E, B, K, h => ⟨E, B, h, fun Γ => Weak.refl _⟩
 | i :: l, E, B, K, h => by
   unfold gcX at h
   split at h
   · exact gcX_sound h
   · obtain ⟨E1, B1, h1, h2⟩ := frzX_sound h
     obtain ⟨E2, B2, h3, h4⟩ := gcX_sound h1
     exact ⟨E2, B2, h3, fun Γ => (h2 Γ).trans (h4 Γ)⟩
   · obtain ⟨E1, B1, h1, h2⟩ := frbO_sound h
     obtain ⟨E2, B2, h3, h4⟩ := gcX_sound h1
     exact ⟨E2, B2, h3, fun Γ => (h2 Γ).trans (h4 Γ)⟩
def nzX (nz : Bool) (G0 : Nat → Nat) (l : List Nat) (K : List PV → List Blk → Bool) (E : List PV) (B : List Blk) : Bool := match nz with
 | true => gcX G0 (l ++ l) E B fun E' B' => match decide (B'.length = B.length) with
   | true => nrmX G0 l E' B' K
   | false => false
 | false => K E B
theorem nzX_sound {X : Env} {eq : TypeId → Option (List CK)} {n0 : Nat} {G0 : Nat → Nat} {nz : Bool} {l : List Nat} {E : List PV} {B : List Blk} {K : List PV → List Blk → Bool} (h : nzX nz G0 l K E B = true) : ∃ E' B', K E' B' = true ∧ B'.length = B.length ∧ ∀ Γ, Good X eq n0 G0 Γ → Weak Γ ⟨E, B⟩ ⟨E', B'⟩ := by
 cases nz with
 | false => exact ⟨E, B, h, rfl, fun Γ _ => Weak.refl _⟩
 | true =>
   obtain ⟨E1, B1, h1, h2⟩ := gcX_sound (l := l ++ l) (G0 := G0) h
   split at h1
   · rename_i hl
     obtain ⟨E2, B2, h3, h4, h5⟩ := nrmX_sound (X := X) (eq := eq) (n0 := n0) h1
     exact ⟨E2, B2, h3, h4.trans (of_decide_eq_true hl), fun Γ hΓ => (h2 Γ).trans (h5 Γ hΓ)⟩
   · cases h1
def finX (P : Program) (nz : Bool) (fz : Bool) (B : List Blk) (rs : List ResultVar) (K : List PV → List Blk → Bool) : KC := fun e E' B' => match e with
 | .normal | .ret => valsX P E' B' rs fun ps => fL ps fun ps => tidyX B.length (gens B) fz 60 ps B' (nzX nz (gens B) (List.range B.length) K)
 | _ => false
abbrev CTX := FuncId → List PV → List Blk → Option (List PV × List Blk)
def exF (P : Program) (eq : TypeId → Option (List CK)) (gl : Nat → Option (List IV)) (ct : CTX) (fz : FuncId → Bool) (S M : Nat) : Nat → CF
 | 0, _, _, _, _ => false
 | n + 1, f, args, B, K => match ct f args B with
  | some (res, B') => fL res fun res => fBs B' fun B' => K res B'
  | none => match P.funcs[f]? with
   | some fn => match fn.body with
     | some c => !(fn.name == "runtime.NumGoroutine") && fL (args ++ List.replicate (fn.ntmps - args.length) .any) fun E => match hasNext c with
       | false => exC P eq gl S (exF P eq gl ct fz S M n) 0 (fz f) M false c E B (finX P false (fz f) B fn.results.toList K)
       | true => exC P eq gl S (exF P eq gl ct fz S M n) 1 (fz f) M false c E B (finX P true (fz f) B fn.results.toList fun res B1 =>
           exC P eq gl S (exF P eq gl ct fz S M n) 2 (fz f) M false c E B (finX P true (fz f) B fn.results.toList fun res' B2 => xqPs res' res && xqBs B2 B1) && K res B1)
     | none => false
   | none => false
theorem finX_sound {P : Program} {nz fz : Bool} {X : Env} {eq : TypeId → Option (List CK)} {B : List Blk} {rs : List ResultVar} {K : List PV → List Blk → Bool} {e : Exit} {E' : List PV} {B' : List Blk} (h : finX P nz fz B rs K e E' B' = true) :
   ∃ res B2, K res B2 = true ∧ B2.length = B.length ∧ ∀ Γ, Good X eq B.length (gens B) Γ → retB ⟨tdOf P, eq, X.gl, fun _ => [], fun _ => false, fun _ => 0⟩ rs (fun s => Weak Γ s ⟨res, B2⟩) e ⟨E', B'⟩ := by
 have go : (valsX P E' B' rs fun ps => fL ps fun ps => tidyX B.length (gens B) fz 60 ps B' (nzX nz (gens B) (List.range B.length) K)) = true → ∃ res B2, K res B2 = true ∧ B2.length = B.length ∧ ∀ Γ, Good X eq B.length (gens B) Γ →
     valsQ ⟨tdOf P, eq, X.gl, fun _ => [], fun _ => false, fun _ => 0⟩ ⟨E', B'⟩ rs fun ps => forceL ps fun ps => Weak Γ ⟨ps, B'⟩ ⟨res, B2⟩ := by
   generalize hK : nzX nz (gens B) (List.range B.length) K = K2
   intro h
   obtain ⟨ps, h4, h5⟩ := valsX_sound (T := ⟨tdOf P, eq, X.gl, fun _ => [], fun _ => false, fun _ => 0⟩) rfl h
   rw [fL_eq] at h4
   obtain ⟨res, B2, h6, h7, h8⟩ := tidyX_sound (X := X) (eq := eq) h4
   rw [← hK] at h6
   obtain ⟨r3, B3, k1, k2, k3⟩ := nzX_sound (X := X) (eq := eq) (n0 := B.length) h6
   exact ⟨r3, B3, k1, k2.trans h7, fun Γ hΓ => h5 _ (by rw [forceL_eq]; exact (h8 Γ hΓ).trans (k3 Γ hΓ))⟩
 cases e with
 | normal => exact go h
 | ret => exact go h
 | _ => cases h
theorem exF_sound {P : Program} {X : Env} {eq : TypeId → Option (List CK)} {ct : CTX} {fz : FuncId → Bool} {S M : Nat} (hX : EqsOK P eq) (hm : P.follows .mixedOrders = true) (hct : ∀ f args B res B', ct f args B = some (res, B') → PCB P X f args B res B') : ∀ n, CFok P X (exF P eq X.gl ct fz S M n)
 | 0, f, args, B, K, h => by unfold exF at h; cases h
 | n + 1, f, args, B, K, h => by
   unfold exF at h
   split at h
   · rename_i res B' hc
     rw [fL_eq, fBs_eq] at h
     exact ⟨res, B', hct _ _ _ _ _ hc, h⟩
   split at h
   · rename_i fn hf
     split at h
     · rename_i c hb
       rw [Bool.and_eq_true, fL_eq] at h
       obtain ⟨hn, h⟩ := h
       have good : ∀ Γ : Ctx, Γ.X = X → Γ.eqT = eq → Γ.n0 = B.length → (∀ r x, B[r]? = some x → Γ.k0.G r = gen x) → Good X eq B.length (gens B) Γ := fun Γ g1 g2 g3 g4 => ⟨g1, g2, g3, fun r hr => by
         have := g4 r B[r] (List.getElem?_eq_getElem hr)
         rw [this, gens_at (List.getElem?_eq_getElem hr)]⟩
       split at h
       · obtain ⟨e, E', B', h1, h2⟩ := exC_sound (n0 := B.length) (G0 := gens B) hm (exF_sound hX hm hct n) h
         obtain ⟨res, B2, h3, h4, h5⟩ := finX_sound (X := X) (eq := eq) h1
         refine ⟨res, B2, PCB.of_awp (T := ⟨tdOf P, eq, X.gl, fun _ => [], fun _ => false, fun _ => 0⟩) hX (fun t d h => h) hf hb (by simpa using hn) h4 fun Γ g1 g2 g3 g4 => ?_, h3⟩
         have hΓ := good Γ g1 g2 g3 g4
         refine (h2 Γ hΓ).mono ?_
         rintro e1 s1 ⟨rfl, rfl⟩
         exact h5 Γ hΓ
       · obtain ⟨e, E', B', h1⟩ := exC_first (exF_sound hX hm hct n) h
         obtain ⟨res, B2, h3, h4, h5⟩ := finX_sound (X := X) (eq := eq) h1
         rw [Bool.and_eq_true] at h3
         refine ⟨res, B2, PCB.of_awp (T := ⟨tdOf P, eq, X.gl, fun _ => [], fun _ => false, fun _ => 0⟩) hX (fun t d h => h) hf hb (by simpa using hn) h4 fun Γ g1 g2 g3 g4 => ?_, h3.2⟩
         have hΓ := good Γ g1 g2 g3 g4
         refine (exC_wp (fl := false) hm (exF_sound hX hm hct n) hΓ h3.1).mono fun e1 s1 hs => ?_
         obtain ⟨res', B3, h6, h7, h8⟩ := finX_sound (X := X) (eq := eq) hs
         rw [Bool.and_eq_true] at h6
         have e1 := xqPs_ok _ _ h6.1
         have e2 := xqBs_ok _ _ h6.2
         subst e1; subst e2
         exact h8 Γ hΓ
     · cases h
   · cases h
theorem PCB.pc {P : Program} {X : Env} {f : FuncId} {args res : List IV} (h : PCB P X f (args.map .imm) [] (res.map .imm) []) : PC P X f args res := by
 refine ⟨h.1, fun Q w vs hQ hgl hR hvs => ?_⟩
 let k : K := ⟨fun _ => undef, fun _ => 0, Q⟩
 let Γ : Ctx := ⟨w.heap.size, w, X, Q, fun _ => none, fun _ => False, w, k, 0⟩
 have hI : Inv Γ k [] w := ⟨Below.refl _ _, hQ, Nat.le_refl _, fun b hb => Or.inl hb, ⟨w, hR, Nat.le_refl _, Below.refl _ _⟩, fun g cs hc => iptr_any (k := ⟨fun _ => undef, fun _ => 0, Q⟩) (n := 0) rfl (hgl g cs hc), fun r x hx => by simp at hx, fun r x b hx => by simp at hx, fun r r' x x' b hx => by simp at hx, ⟨fun b hb => hb.elim, Ext.refl _ _ _⟩, fun r x b hx => by simp at hx⟩
 refine (h.2.2 Γ k w vs rfl hI (imms_reps hvs)).mono ?_
 rintro e w' ⟨v, k', rfl, he, hI', hv⟩
 refine ⟨v, fun b => Q b ∨ (w.heap.size ≤ b ∧ b < w'.heap.size), rfl, hI'.below, fun b hb => Or.inl hb, fun b hb => ?_, ?_⟩
 · rcases hb with hb | ⟨h6, h7⟩
   · exact ⟨Or.inl hb, Nat.lt_of_lt_of_le (hQ b hb) hI'.below.size⟩
   · exact ⟨Or.inr h6, h7⟩
 · have h5 : RepRes k'.Q w' res v := by
     match res, hv with
     | [], hv => unfold resQ Rep at hv; obtain ⟨vs, e, hl⟩ := hv; exact ⟨vs, e, reps_imms (is := []) hl⟩
     | [i], hv => exact Rep_imm.1 hv
     | i :: j :: is, hv => unfold resQ Rep at hv; obtain ⟨vs, e, hl⟩ := hv; exact ⟨vs, e, reps_imms (is := i :: j :: is) hl⟩
   refine RepRes_mono (fun b hb => ⟨?_, rfl⟩) h5
   rcases hI'.qs b hb with hc | hc
   · exact Or.inl hc
   · exact Or.inr ⟨hc, hI'.lt b hb⟩
def runTo (want : List IV) (res : List PV) (B : List Blk) : Bool := xqPs res (want.map .imm) && B.isEmpty
theorem exF_pc {P : Program} {X : Env} {eq : TypeId → Option (List CK)} {ct : CTX} {fz : FuncId → Bool} {S M n : Nat} (hX : EqsOK P eq) (hm : P.follows .mixedOrders = true) (hct : ∀ f args B res B', ct f args B = some (res, B') → PCB P X f args B res B')
   {f : FuncId} {args want : List IV} (h : exF P eq X.gl ct fz S M n f (args.map .imm) [] (runTo want) = true) : PC P X f args want := by
 obtain ⟨res, B', h1, h2⟩ := exF_sound hX hm hct n _ _ _ _ h
 unfold runTo at h2
 rw [Bool.and_eq_true] at h2
 have e1 := xqPs_ok _ _ h2.1
 have e2 : B' = [] := by simpa using h2.2
 subst e1; subst e2
 exact h1.pc
end
end Go.Pv
namespace Go.Pv
open Go.RowKit (Below)
set_option linter.unusedSimpArgs false
set_option linter.unusedSectionVars false
def flatF (P : Program) (G : TypeId → Option (List CK)) : Nat → List Field → Option (List CK)
 | _, [] => some []
 | off, f :: fs => match G f.type, P.info? f.type, P.underlying f.type with
   | some ks, some i, some u => match decide (f.offset = off ∧ f.name ≠ "_" ∧ i.size = ks.length ∧ (aggD u = false → ks.length = 1)) with
     | true => match flatF P G (off + ks.length) fs with
       | some ls => some (ks ++ ls)
       | none => none
     | false => none
   | _, _, _ => none
def flatT (P : Program) : Nat → TypeId → Option (List CK)
 | 0, _ => none
 | d + 1, t => match P.underlying t with
   | some (.int k) => some [.int k]
   | some .string => some [.str]
   | some .bool => some [.bool]
   | some (.struct fs) => match P.stoodInHeld t with
     | true => none
     | false => flatF P (flatT P d) 0 fs.toList
   | _ => none
def eqsP (P : Program) (t : TypeId) : Option (List CK) := match P.underlying t with
 | some (.struct _) => match P.eqGuardType P.depth t with
   | true => none
   | false => flatT P 9 t
 | _ => none
section
variable {P : Program} {w : World} {Q : Nat → Prop}
theorem und_fields {t : TypeId} {fs : Array Field} (h : P.underlying t = some (.struct fs)) : P.underlying t = some (.struct (P.fieldsOf t)) ∧ P.fieldsOf t = fs := by
 have e : P.fieldsOf t = fs := by unfold Program.fieldsOf; rw [h]
 exact ⟨by rw [e]; exact h, e⟩
def valT (u : TypeDesc) (xs : List Value) : Value := if aggD u then .agg xs.toArray else xs.headD undef
theorem shape_split : ∀ {k1 k2 : List CK} {is : List IV}, shapeB is (k1 ++ k2) = true → ∃ i1 i2, is = i1 ++ i2 ∧ shapeB i1 k1 = true ∧ shapeB i2 k2 = true ∧ i1.length = k1.length
 | [], k2, is, h => ⟨[], is, rfl, by unfold shapeB; rfl, h, rfl⟩
 | .int k :: k1, k2, is, h => by
   cases is with
   | nil => simp [shapeB] at h
   | cons i is =>
     cases i <;> simp only [List.cons_append, shapeB, Bool.and_eq_true] at h <;> first | (cases h; done) | skip
     obtain ⟨h1, h2⟩ := h
     obtain ⟨i1, i2, rfl, e1, e2, e3⟩ := shape_split h2
     exact ⟨_ :: i1, i2, rfl, by unfold shapeB; rw [h1, e1]; rfl, e2, by simp [e3]⟩
 | .str :: k1, k2, is, h => by
   cases is with
   | nil => simp [shapeB] at h
   | cons i is =>
     cases i <;> simp only [List.cons_append, shapeB] at h <;> first | (cases h; done) | skip
     obtain ⟨i1, i2, rfl, e1, e2, e3⟩ := shape_split h
     exact ⟨_ :: i1, i2, rfl, by unfold shapeB; rw [e1], e2, by simp [e3]⟩
 | .bool :: k1, k2, is, h => by
   cases is with
   | nil => simp [shapeB] at h
   | cons i is =>
     cases i <;> simp only [List.cons_append, shapeB] at h <;> first | (cases h; done) | skip
     obtain ⟨i1, i2, rfl, e1, e2, e3⟩ := shape_split h
     exact ⟨_ :: i1, i2, rfl, by unfold shapeB; rw [e1], e2, by simp [e3]⟩
theorem repC_split : ∀ {i1 i2 : List IV} {xs : List Value}, RepC Q w (i1 ++ i2) xs → ∃ s1 s2, xs = s1 ++ s2 ∧ RepC Q w i1 s1 ∧ RepC Q w i2 s2 ∧ s1.length = i1.length
 | [], i2, xs, h => ⟨[], xs, rfl, by unfold RepC; rfl, h, rfl⟩
 | i :: i1, i2, xs, h => by
   rw [List.cons_append] at h
   unfold RepC at h
   obtain ⟨v, r, rfl, h1, h2, h3⟩ := h
   obtain ⟨s1, s2, rfl, e1, e2, e3⟩ := repC_split h3
   exact ⟨v :: s1, s2, rfl, by unfold RepC; exact ⟨v, s1, rfl, h1, h2, e1⟩, e2, by simp [e3]⟩
theorem eqC_app : ∀ {k1 : List CK} {i1 j1 i2 j2 : List IV}, shapeB i1 k1 = true → shapeB j1 k1 = true → eqC (i1 ++ i2) (j1 ++ j2) = (eqC i1 j1 && eqC i2 j2)
 | [], i1, j1, i2, j2, h1, h2 => by
   cases i1 with
   | cons a l => cases a <;> simp [shapeB] at h1
   | nil =>
     cases j1 with
     | cons a l => cases a <;> simp [shapeB] at h2
     | nil => simp [eqC]
 | .int k :: k1, i1, j1, i2, j2, h1, h2 => by
   cases i1 with
   | nil => simp [shapeB] at h1
   | cons a l =>
     cases j1 with
     | nil => simp [shapeB] at h2
     | cons b m =>
       cases a <;> simp only [shapeB, Bool.and_eq_true] at h1 <;> first | (cases h1; done) | skip
       cases b <;> simp only [shapeB, Bool.and_eq_true] at h2 <;> first | (cases h2; done) | skip
       simp only [List.cons_append, eqC]
       rw [eqC_app h1.2 h2.2, Bool.and_assoc]
 | .str :: k1, i1, j1, i2, j2, h1, h2 => by
   cases i1 with
   | nil => simp [shapeB] at h1
   | cons a l =>
     cases j1 with
     | nil => simp [shapeB] at h2
     | cons b m =>
       cases a <;> simp only [shapeB] at h1 <;> first | (cases h1; done) | skip
       cases b <;> simp only [shapeB] at h2 <;> first | (cases h2; done) | skip
       simp only [List.cons_append, eqC]
       rw [eqC_app h1 h2, Bool.and_assoc]
 | .bool :: k1, i1, j1, i2, j2, h1, h2 => by
   cases i1 with
   | nil => simp [shapeB] at h1
   | cons a l =>
     cases j1 with
     | nil => simp [shapeB] at h2
     | cons b m =>
       cases a <;> simp only [shapeB] at h1 <;> first | (cases h1; done) | skip
       cases b <;> simp only [shapeB] at h2 <;> first | (cases h2; done) | skip
       simp only [List.cons_append, eqC]
       rw [eqC_app h1 h2, Bool.and_assoc]
theorem run_partF {ty : TypeId} {off : Nat} {u : TypeDesc} {i : TypeInfo} {pre seg post : List Value} (hu : P.underlying ty = some u) (hi : P.info? ty = some i) (hsz : i.size = seg.length) (h1 : aggD u = false → seg.length = 1) (ho : off = pre.length) :
   (part ty (pre ++ (seg ++ post)).toArray off).run P w = .ok (valT u seg) w := by
 unfold part
 rw [Sem.run_bind, run_isAgg hu, Result.andThen_ok]
 unfold valT
 cases ha : aggD u with
 | true =>
   simp only [if_true]
   rw [Sem.run_bind, run_sizeOf hi, Result.andThen_ok, hsz, ho]
   simp only [Sem.run_pure]
   congr 2
   apply Array.ext'
   simp [List.extract]
 | false =>
   simp only [Bool.false_eq_true, if_false]
   have hl := h1 ha
   match seg, hl with
   | [v], _ =>
     rw [ho]
     simp
theorem eqFieldsT {G : TypeId → Option (List CK)} {D : Nat} (hG : ∀ t ks, G t = some ks → ∀ u, P.underlying t = some u → ∀ is js xs ys, shapeB is ks = true → shapeB js ks = true → RepC Q w is xs → RepC Q w js ys → (Op.equalIn D t (valT u xs) (valT u ys)).run P w = .ok (eqC is js) w) :
   ∀ (fs : List Field) (off : Nat) (ks : List CK), flatF P G off fs = some ks → ∀ (pre pre' : List Value) (is js : List IV) (xs ys : List Value), pre.length = off → pre'.length = off → shapeB is ks = true → shapeB js ks = true → RepC Q w is xs → RepC Q w js ys →
     (Op.eqFields D (pre ++ xs).toArray (pre' ++ ys).toArray fs).run P w = .ok (eqC is js) w
 | [], off, ks, h, pre, pre', is, js, xs, ys, _, _, h1, h2, _, _ => by
   unfold flatF at h
   simp only [Option.some.injEq] at h
   subst h
   have e1 : is = [] := by cases is with
     | nil => rfl
     | cons a l => cases a <;> simp [shapeB] at h1
   have e2 : js = [] := by cases js with
     | nil => rfl
     | cons a l => cases a <;> simp [shapeB] at h2
   subst e1; subst e2
   simp [Op.eqFields, eqC]
 | f :: fs, off, ks, h, pre, pre', is, js, xs, ys, hp, hp', h1, h2, h3, h4 => by
   unfold flatF at h
   split at h
   · rename_i k1 i u hg hi hu
     split at h
     · rename_i hc
       simp only [decide_eq_true_eq] at hc
       obtain ⟨c1, c2, c3, c4⟩ := hc
       split at h
       · rename_i k2 hf
         simp only [Option.some.injEq] at h
         subst h
         obtain ⟨i1, i2, rfl, a1, a2, a3⟩ := shape_split h1
         obtain ⟨j1, j2, rfl, b1, b2, b3⟩ := shape_split h2
         obtain ⟨s1, s2, rfl, g1, g2, g3⟩ := repC_split h3
         obtain ⟨t1, t2, rfl, r1, r2, r3⟩ := repC_split h4
         have ls : s1.length = k1.length := g3.trans a3
         have lt : t1.length = k1.length := r3.trans b3
         simp only [Op.eqFields]
         rw [if_pos c2, Sem.run_bind, run_partF hu hi (by rw [c3, ls]) (fun h => by rw [ls]; exact c4 h) (by rw [c1, hp]), Result.andThen_ok, Sem.run_bind, run_partF hu hi (by rw [c3, lt]) (fun h => by rw [lt]; exact c4 h) (by rw [c1, hp']), Result.andThen_ok, Sem.run_bind, hG _ _ hg u hu i1 j1 s1 t1 a1 b1 g1 r1, Result.andThen_ok, eqC_app a1 b1]
         cases he : eqC i1 j1 with
         | false => simp
         | true =>
           simp only [Bool.not_true, Bool.false_eq_true, if_false, Bool.true_and]
           have := eqFieldsT hG fs (off + k1.length) k2 hf (pre ++ s1) (pre' ++ t1) i2 j2 s2 t2 (by simp [hp, ls]) (by simp [hp', lt]) a2 b2 g2 r2
           rw [List.append_assoc, List.append_assoc] at this
           exact this
       · cases h
     · cases h
   · cases h
theorem str_beq (s t : ByteArray) : (s.toList == t.toList) = decide (s = t) := by
 rw [← beq_toListBytes]
 by_cases h : s = t
 · subst h; simp [beq_toListBytes]
 · simp only [h, decide_false]
   rw [beq_toListBytes, Go.ByteArray.toList_eq, Go.ByteArray.toList_eq]
   simp only [beq_eq_false_iff_ne]
   intro e
   apply h
   cases s; cases t
   simp_all
theorem one_cell {k : CK} {is : List IV} (h : shapeB is [k] = true) : ∃ i, is = [i] := by
 cases is with
 | nil => simp [shapeB] at h
 | cons a l =>
   refine ⟨a, ?_⟩
   cases l with
   | nil => rfl
   | cons b l => cases a <;> cases k <;> simp [shapeB] at h
theorem equalT : ∀ (d : Nat) (t : TypeId) (ks : List CK), flatT P d t = some ks → ∀ D, d ≤ D → ∀ u, P.underlying t = some u → ∀ (is js : List IV) (xs ys : List Value), shapeB is ks = true → shapeB js ks = true → RepC Q w is xs → RepC Q w js ys →
   (Op.equalIn D t (valT u xs) (valT u ys)).run P w = .ok (eqC is js) w
 | 0, t, ks, h, D, _, u, _, is, js, xs, ys, _, _, _, _ => by unfold flatT at h; cases h
 | d + 1, t, ks, h, D, hD, u, hu, is, js, xs, ys, h1, h2, h3, h4 => by
   obtain ⟨D, rfl⟩ : ∃ E, D = E + 1 := ⟨D - 1, by omega⟩
   unfold flatT at h
   rw [hu] at h
   split at h
   · rename_i k heq
     injection heq with heq
     simp only [Option.some.injEq] at h
     subst h; subst heq
     obtain ⟨i, rfl⟩ := one_cell h1
     obtain ⟨j, rfl⟩ := one_cell h2
     cases i <;> simp only [shapeB, Bool.and_eq_true, decide_eq_true_eq] at h1 <;> first | (cases h1; done) | skip
     cases j <;> simp only [shapeB, Bool.and_eq_true, decide_eq_true_eq] at h2 <;> first | (cases h2; done) | skip
     rename_i k1 a k2 b
     obtain ⟨rfl, _⟩ := h1
     obtain ⟨rfl, _⟩ := h2
     simp only [RepC, RepI] at h3 h4
     obtain ⟨_, _, rfl, _, rfl, rfl⟩ := h3
     obtain ⟨_, _, rfl, _, rfl, rfl⟩ := h4
     show (Op.equalIn (D + 1) t (.int _ a) (.int _ b)).run P w = _
     rw [run_equalIn_int w D t _ _ a b hu]
     simp [eqC]
     by_cases e : a = b <;> simp [e]
   · rename_i heq
     injection heq with heq
     simp only [Option.some.injEq] at h
     subst h; subst heq
     obtain ⟨i, rfl⟩ := one_cell h1
     obtain ⟨j, rfl⟩ := one_cell h2
     cases i <;> simp only [shapeB] at h1 <;> first | (cases h1; done) | skip
     cases j <;> simp only [shapeB] at h2 <;> first | (cases h2; done) | skip
     rename_i a b
     simp only [RepC, RepI] at h3 h4
     obtain ⟨_, _, rfl, _, rfl, rfl⟩ := h3
     obtain ⟨_, _, rfl, _, rfl, rfl⟩ := h4
     show (Op.equalIn (D + 1) t (.string a) (.string b)).run P w = _
     rw [run_equalIn_string w D t a b hu, str_beq]
     simp [eqC]
   · rename_i heq
     injection heq with heq
     simp only [Option.some.injEq] at h
     subst h; subst heq
     obtain ⟨i, rfl⟩ := one_cell h1
     obtain ⟨j, rfl⟩ := one_cell h2
     cases i <;> simp only [shapeB] at h1 <;> first | (cases h1; done) | skip
     cases j <;> simp only [shapeB] at h2 <;> first | (cases h2; done) | skip
     rename_i a b
     simp only [RepC, RepI] at h3 h4
     obtain ⟨_, _, rfl, _, rfl, rfl⟩ := h3
     obtain ⟨_, _, rfl, _, rfl, rfl⟩ := h4
     show (Op.equalIn (D + 1) t (.bool a) (.bool b)).run P w = _
     rw [run_equalIn_bool' w D t a b hu]
     simp [eqC]
   · rename_i fs heq
     injection heq with heq
     subst heq
     split at h
     · cases h
     · rename_i hs
       obtain ⟨e1, e2⟩ := und_fields hu
       show (Op.equalIn (D + 1) t (.agg xs.toArray) (.agg ys.toArray)).run P w = _
       rw [run_equalIn_struct w D t _ _ e1 hs, e2]
       exact eqFieldsT (fun t ks hk u hu is js xs ys q1 q2 q3 q4 => equalT d t ks hk D (by omega) u hu is js xs ys q1 q2 q3 q4) fs.toList 0 ks h [] [] is js xs ys rfl rfl h1 h2 h3 h4
   · cases h
theorem keyFieldsT {em : Bool} {G : TypeId → Option (List CK)} {D : Nat} (hG : ∀ t ks, G t = some ks → ∀ u, P.underlying t = some u → ∀ is xs, shapeB is ks = true → RepC Q w is xs → (Instr.checkKey em D t (valT u xs)).run P w = .ok () w) :
   ∀ (fs : List Field) (off : Nat) (ks : List CK), flatF P G off fs = some ks → ∀ (pre : List Value) (is : List IV) (xs : List Value), pre.length = off → shapeB is ks = true → RepC Q w is xs →
     (forIn (m := Sem) fs PUnit.unit fun (f : Field) (_ : PUnit) => if f.name ≠ "_" then (do
         let v ← part f.type (pre ++ xs).toArray f.offset
         Instr.checkKey em D f.type v
         pure (ForInStep.yield PUnit.unit)) else pure (ForInStep.yield PUnit.unit)).run P w = .ok PUnit.unit w
 | [], off, ks, h, pre, is, xs, _, _, _ => by simp
 | f :: fs, off, ks, h, pre, is, xs, hp, h1, h3 => by
   unfold flatF at h
   split at h
   · rename_i k1 i u hg hi hu
     split at h
     · rename_i hc
       simp only [decide_eq_true_eq] at hc
       obtain ⟨c1, c2, c3, c4⟩ := hc
       split at h
       · rename_i k2 hf
         simp only [Option.some.injEq] at h
         subst h
         obtain ⟨i1, i2, rfl, a1, a2, a3⟩ := shape_split h1
         obtain ⟨s1, s2, rfl, g1, g2, g3⟩ := repC_split h3
         have ls : s1.length = k1.length := g3.trans a3
         have := keyFieldsT hG fs (off + k1.length) k2 hf (pre ++ s1) i2 s2 (by simp [hp, ls]) a2 g2
         rw [List.append_assoc] at this
         simp only [List.forIn_cons, Sem.run_bind]
         rw [if_pos c2]
         simp only [Sem.run_bind]
         rw [run_partF hu hi (by rw [c3, ls]) (fun h => by rw [ls]; exact c4 h) (by rw [c1, hp]), Result.andThen_ok, hG _ _ hg u hu i1 s1 a1 g1, Result.andThen_ok]
         simp only [Sem.run_pure, Result.andThen_ok]
         exact this
       · cases h
     · cases h
   · cases h
theorem keyT {em : Bool} : ∀ (d : Nat) (t : TypeId) (ks : List CK), flatT P d t = some ks → ∀ D, d ≤ D → ∀ u, P.underlying t = some u → ∀ (is : List IV) (xs : List Value), shapeB is ks = true → RepC Q w is xs →
   (Instr.checkKey em D t (valT u xs)).run P w = .ok () w
 | 0, t, ks, h, D, _, u, _, is, xs, _, _ => by unfold flatT at h; cases h
 | d + 1, t, ks, h, D, hD, u, hu, is, xs, h1, h3 => by
   obtain ⟨D, rfl⟩ : ∃ E, D = E + 1 := ⟨D - 1, by omega⟩
   unfold flatT at h
   rw [hu] at h
   split at h
   · rename_i k heq
     injection heq with heq
     subst heq
     simp [Instr.checkKey, run_underlying hu]
   · rename_i heq
     injection heq with heq
     subst heq
     simp [Instr.checkKey, run_underlying hu]
   · rename_i heq
     injection heq with heq
     subst heq
     simp [Instr.checkKey, run_underlying hu]
   · rename_i fs heq
     injection heq with heq
     subst heq
     split at h
     · cases h
     · show (Instr.checkKey em (D + 1) t (.agg xs.toArray)).run P w = _
       rw [Instr.checkKey, Sem.run_bind, run_underlying hu, Result.andThen_ok]
       simp only []
       have := keyFieldsT (em := em) (G := flatT P d) (D := D) (fun t ks hk u hu is xs q1 q3 => keyT d t ks hk D (by omega) u hu is xs q1 q3) fs.toList 0 ks h [] is xs rfl h1 h3
       rw [← Array.forIn_toList]
       simpa using this
   · cases h
theorem eqsP_ok : EqsOK P (eqsP P) := by
 intro t ks h w x y is js xs ys Q h1 h2 h3 h4
 unfold eqsP at h
 split at h
 · rename_i fs hu
   split at h
   · cases h
   · rename_i hg
     have e1 := equalT 9 t ks h Op.maxDepth (by decide) _ hu is js xs ys h1 h2 h3 h4
     exact ⟨run_eqGuard_agg w _ _ _ _ _ _ hg, run_eqGuard_agg w _ _ _ _ _ _ hg, e1, fun em => keyT 9 t ks h 10000 (by decide) _ hu is xs h1 h3⟩
 · cases h
end
end Go.Pv
