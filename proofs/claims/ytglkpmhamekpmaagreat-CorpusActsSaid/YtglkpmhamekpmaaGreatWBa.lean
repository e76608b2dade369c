/-
  Corpus: short steps; the tables of types; the law's example, by reckoning.
-/
import Derived.Test.YtglkpmhamekpmaaGreatProg
import Derived.Test.YtglkpmhamekpmaaGreatP8
namespace Go.Proofs.YtglkpmhamekpmaaGreat.Po
open Go Go.Pv Go.RowKit
set_option linter.unusedSimpArgs false
set_option maxRecDepth 10000
set_option maxHeartbeats 16000000
theorem qT {c A B : Prop} (k : A) (h : ¬ c → False := by intro hc; first | omega | (simp [eqC, cellsI] at hc; first | done | omega) | contradiction) : Fork c (fun _ => A) (fun _ => B) := .mk (fun _ => k) (fun hc => (h hc).elim)
theorem qF {c A B : Prop} (k : B) (h : c → False := by intro hc; first | omega | (simp [eqC, cellsI] at hc; first | done | omega) | contradiction) : Fork c (fun _ => A) (fun _ => B) := .mk (fun hc => (h hc).elim) (fun _ => k)
theorem qO {P X : Prop} (k : X) (h : P := by first | omega | exact Or.inl (by first | omega | (unfold most; omega) | decide +kernel | exact Nat.le_of_ble_eq_true rfl | assumption) | assumption | (unfold most; omega) | decide +kernel | exact Nat.le_of_ble_eq_true rfl | assumption | (simp [most]; omega)) : Owe P X := .mk h k
theorem qSL {Γ : Ctx} {n : Nat} {A A' : List (Nat × PV)} {B B' : List Blk} (m : Nat) (hB : B.take m = B') (hm : B'.length = m)
   (hn0 : Γ.n0 ≤ m := by first | omega | (rw [h0]; exact Nat.le_of_ble_eq_true rfl))
   (hbl : B'.all (blkBelow m) = true := by first | (simp only [List.all_cons, List.all_nil, blkBelow, belowL_imm, belowL, belowB, Bool.and_true, Bool.true_and]; first | done | decide) | rfl | simp [blkBelow, belowB, belowL, belowL_imm])
   (hE : wkV m A A' := by (repeat ((conv => whnf); first | exact trivial | refine And.intro (by first | exact WkOne.any | exact WkOne.eq (by with_reducible rfl) rfl | exact WkOne.int (by first | omega | (simp; first | done | omega)) | exact WkOne.eq rfl rfl | exact WkOne.le rfl (ILe.nil _)) ?_))) : WeakA Γ n ⟨A, B⟩ ⟨A', B'⟩ := WeakA.slots m hn0 hB hm hbl hE
theorem tq_int : tdOf Tryz.prog 3 = some ⟨false, 1, [.int .i64 0], .int .i64⟩ := by kernel_rfl
theorem tq_string : tdOf Tryz.prog 9 = some ⟨false, 1, [.str ⟨#[]⟩], .str⟩ := by kernel_rfl
theorem tq_bool : tdOf Tryz.prog 4 = some ⟨false, 1, [.bool false], .bool⟩ := by kernel_rfl
theorem tq_s_int : tdOf Tryz.prog 44 = some ⟨false, 1, [.nil], .slice 3 1 8⟩ := by kernel_rfl
theorem tq_apiId : tdOf Tryz.prog 36 = some ⟨true, 3, [.int .i64 0, .int .i64 0, .int .i64 0], .struct [(0, 1, false), (1, 1, false), (2, 1, false)]⟩ := by kernel_rfl
theorem tq_apiMark : tdOf Tryz.prog 164 = some ⟨true, 3, [.int .i64 0, .int .i64 0, .int .i64 0], .struct [(0, 1, false), (1, 1, false), (2, 1, false)]⟩ := by kernel_rfl
theorem tq_apiWord : tdOf Tryz.prog 166 = some ⟨true, 4, [.str ⟨#[]⟩, .int .i64 0, .int .i64 0, .int .i64 0], .struct [(0, 1, false), (1, 3, true)]⟩ := by kernel_rfl
theorem tq_s_apiWord : tdOf Tryz.prog 37 = some ⟨false, 1, [.nil], .slice 166 4 40⟩ := by kernel_rfl
theorem tq_apiUnit : tdOf Tryz.prog 40 = some ⟨true, 8, [.int .i64 0, .int .i64 0, .int .i64 0, .int .i64 0, .str ⟨#[]⟩, .nil, .nil, .nil], .struct [(0, 3, true), (3, 1, false), (4, 1, false), (5, 1, false), (6, 1, false), (7, 1, false)]⟩ := by kernel_rfl
theorem tq_s_apiUnit : tdOf Tryz.prog 38 = some ⟨false, 1, [.nil], .slice 40 8 120⟩ := by kernel_rfl
theorem tq_apiStep : tdOf Tryz.prog 81 = some ⟨true, 2, [.int .i64 0, .str ⟨#[]⟩], .struct [(0, 1, false), (1, 1, false)]⟩ := by kernel_rfl
theorem tq_s_apiStep : tdOf Tryz.prog 34 = some ⟨false, 1, [.nil], .slice 81 2 24⟩ := by kernel_rfl
theorem tq_s_string : tdOf Tryz.prog 41 = some ⟨false, 1, [.nil], .slice 9 1 16⟩ := by kernel_rfl
theorem tq_apiStart : tdOf Tryz.prog 29 = some ⟨true, 3, [.int .i64 0, .int .i64 0, .str ⟨#[]⟩], .struct [(0, 1, false), (1, 1, false), (2, 1, false)]⟩ := by kernel_rfl
theorem tq_apiItem : tdOf Tryz.prog 43 = some ⟨true, 25, [.int .i64 0, .nil, .nil, .int .i64 0, .int .i64 0, .int .i64 0, .int .i64 0, .int .i64 0, .int .i64 0, .str ⟨#[]⟩, .nil, .nil, .nil, .nil, .nil, .str ⟨#[]⟩, .str ⟨#[]⟩, .int .i64 0, .int .i64 0, .str ⟨#[]⟩, .int .i64 0, .int .i64 0, .int .i64 0, .str ⟨#[]⟩, .nil], .struct [(0, 1, false), (1, 1, false), (2, 1, false), (3, 1, false), (4, 1, false), (5, 8, true), (13, 1, false), (14, 1, false), (15, 1, false), (16, 1, false), (17, 3, true), (20, 1, false), (21, 1, false), (22, 1, false), (23, 1, false), (24, 1, false)]⟩ := by kernel_rfl
theorem tq_s_apiItem : tdOf Tryz.prog 30 = some ⟨false, 1, [.nil], .slice 43 25 368⟩ := by kernel_rfl
theorem tq_apiEnactedItem : tdOf Tryz.prog 57 = some ⟨true, 28, [.int .i64 0, .int .i64 0, .int .i64 0, .int .i64 0, .nil, .nil, .int .i64 0, .int .i64 0, .int .i64 0, .int .i64 0, .int .i64 0, .int .i64 0, .str ⟨#[]⟩, .nil, .nil, .nil, .nil, .nil, .str ⟨#[]⟩, .str ⟨#[]⟩, .int .i64 0, .int .i64 0, .str ⟨#[]⟩, .int .i64 0, .int .i64 0, .int .i64 0, .str ⟨#[]⟩, .nil], .struct [(0, 1, false), (1, 1, false), (2, 1, false), (3, 25, true)]⟩ := by kernel_rfl
theorem tq_s_apiEnactedItem : tdOf Tryz.prog 53 = some ⟨false, 1, [.nil], .slice 57 28 392⟩ := by kernel_rfl
theorem tq_apiItemRef : tdOf Tryz.prog 74 = some ⟨true, 2, [.int .i64 0, .int .i64 0], .struct [(0, 1, false), (1, 1, false)]⟩ := by kernel_rfl
theorem tq_apiAct : tdOf Tryz.prog 32 = some ⟨true, 7, [.int .i64 0, .str ⟨#[]⟩, .int .i64 0, .int .i64 0, .int .i64 0, .str ⟨#[]⟩, .nil], .struct [(0, 1, false), (1, 1, false), (2, 1, false), (3, 3, true), (6, 1, false)]⟩ := by kernel_rfl
theorem tq_s_apiAct : tdOf Tryz.prog 25 = some ⟨false, 1, [.nil], .slice 32 7 88⟩ := by kernel_rfl
theorem tq_apiGazette : tdOf Tryz.prog 76 = some ⟨true, 4, [.int .i64 0, .int .i64 0, .str ⟨#[]⟩, .nil], .struct [(0, 1, false), (1, 1, false), (2, 1, false), (3, 1, false)]⟩ := by kernel_rfl
theorem tq_s_apiGazette : tdOf Tryz.prog 22 = some ⟨false, 1, [.nil], .slice 76 4 56⟩ := by kernel_rfl
theorem tq_m_int_apiAct : tdOf Tryz.prog 84 = some ⟨false, 1, [.nm], .map 3 32⟩ := by kernel_rfl
theorem tq_m_int_bool : tdOf Tryz.prog 85 = some ⟨false, 1, [.nm], .map 3 4⟩ := by kernel_rfl
theorem tq_m_apiItemRef_apiEnactedItem : tdOf Tryz.prog 86 = some ⟨false, 1, [.nm], .map 74 57⟩ := by kernel_rfl
theorem tq_corpusregister : tdOf Tryz.prog 88 = some ⟨true, 3, [.nm, .nm, .nm], .struct [(0, 1, false), (1, 1, false), (2, 1, false)]⟩ := by kernel_rfl
def tdl : List (TypeId × TD) := [(3, ⟨false, 1, [.int .i64 0], .int .i64⟩), (9, ⟨false, 1, [.str ⟨#[]⟩], .str⟩), (4, ⟨false, 1, [.bool false], .bool⟩), (44, ⟨false, 1, [.nil], .slice 3 1 8⟩), (36, ⟨true, 3, [.int .i64 0, .int .i64 0, .int .i64 0], .struct [(0, 1, false), (1, 1, false), (2, 1, false)]⟩), (164, ⟨true, 3, [.int .i64 0, .int .i64 0, .int .i64 0], .struct [(0, 1, false), (1, 1, false), (2, 1, false)]⟩), (166, ⟨true, 4, [.str ⟨#[]⟩, .int .i64 0, .int .i64 0, .int .i64 0], .struct [(0, 1, false), (1, 3, true)]⟩), (37, ⟨false, 1, [.nil], .slice 166 4 40⟩), (40, ⟨true, 8, [.int .i64 0, .int .i64 0, .int .i64 0, .int .i64 0, .str ⟨#[]⟩, .nil, .nil, .nil], .struct [(0, 3, true), (3, 1, false), (4, 1, false), (5, 1, false), (6, 1, false), (7, 1, false)]⟩), (38, ⟨false, 1, [.nil], .slice 40 8 120⟩), (81, ⟨true, 2, [.int .i64 0, .str ⟨#[]⟩], .struct [(0, 1, false), (1, 1, false)]⟩), (34, ⟨false, 1, [.nil], .slice 81 2 24⟩), (41, ⟨false, 1, [.nil], .slice 9 1 16⟩), (29, ⟨true, 3, [.int .i64 0, .int .i64 0, .str ⟨#[]⟩], .struct [(0, 1, false), (1, 1, false), (2, 1, false)]⟩), (43, ⟨true, 25, [.int .i64 0, .nil, .nil, .int .i64 0, .int .i64 0, .int .i64 0, .int .i64 0, .int .i64 0, .int .i64 0, .str ⟨#[]⟩, .nil, .nil, .nil, .nil, .nil, .str ⟨#[]⟩, .str ⟨#[]⟩, .int .i64 0, .int .i64 0, .str ⟨#[]⟩, .int .i64 0, .int .i64 0, .int .i64 0, .str ⟨#[]⟩, .nil], .struct [(0, 1, false), (1, 1, false), (2, 1, false), (3, 1, false), (4, 1, false), (5, 8, true), (13, 1, false), (14, 1, false), (15, 1, false), (16, 1, false), (17, 3, true), (20, 1, false), (21, 1, false), (22, 1, false), (23, 1, false), (24, 1, false)]⟩), (30, ⟨false, 1, [.nil], .slice 43 25 368⟩), (57, ⟨true, 28, [.int .i64 0, .int .i64 0, .int .i64 0, .int .i64 0, .nil, .nil, .int .i64 0, .int .i64 0, .int .i64 0, .int .i64 0, .int .i64 0, .int .i64 0, .str ⟨#[]⟩, .nil, .nil, .nil, .nil, .nil, .str ⟨#[]⟩, .str ⟨#[]⟩, .int .i64 0, .int .i64 0, .str ⟨#[]⟩, .int .i64 0, .int .i64 0, .int .i64 0, .str ⟨#[]⟩, .nil], .struct [(0, 1, false), (1, 1, false), (2, 1, false), (3, 25, true)]⟩), (53, ⟨false, 1, [.nil], .slice 57 28 392⟩), (74, ⟨true, 2, [.int .i64 0, .int .i64 0], .struct [(0, 1, false), (1, 1, false)]⟩), (32, ⟨true, 7, [.int .i64 0, .str ⟨#[]⟩, .int .i64 0, .int .i64 0, .int .i64 0, .str ⟨#[]⟩, .nil], .struct [(0, 1, false), (1, 1, false), (2, 1, false), (3, 3, true), (6, 1, false)]⟩), (25, ⟨false, 1, [.nil], .slice 32 7 88⟩), (76, ⟨true, 4, [.int .i64 0, .int .i64 0, .str ⟨#[]⟩, .nil], .struct [(0, 1, false), (1, 1, false), (2, 1, false), (3, 1, false)]⟩), (22, ⟨false, 1, [.nil], .slice 76 4 56⟩), (84, ⟨false, 1, [.nm], .map 3 32⟩), (85, ⟨false, 1, [.nm], .map 3 4⟩), (86, ⟨false, 1, [.nm], .map 74 57⟩), (88, ⟨true, 3, [.nm, .nm, .nm], .struct [(0, 1, false), (1, 1, false), (2, 1, false)]⟩)]
theorem tdl_ok : AllTd Tryz.prog tdl := ⟨tq_int, tq_string, tq_bool, tq_s_int, tq_apiId, tq_apiMark, tq_apiWord, tq_s_apiWord, tq_apiUnit, tq_s_apiUnit, tq_apiStep, tq_s_apiStep, tq_s_string, tq_apiStart, tq_apiItem, tq_s_apiItem, tq_apiEnactedItem, tq_s_apiEnactedItem, tq_apiItemRef, tq_apiAct, tq_s_apiAct, tq_apiGazette, tq_s_apiGazette, tq_m_int_apiAct, tq_m_int_bool, tq_m_apiItemRef_apiEnactedItem, tq_corpusregister, trivial⟩
theorem mixed : Tryz.prog.follows .mixedOrders = true := by kernel_rfl
theorem eqsP2_ok : EqsOK Tryz.prog (eqsP Tryz.prog) := eqsP_ok
def eqs : TypeId → Option (List CK) := fun t => if t = 74 then some [.int .i64, .int .i64] else if t = 29 then some [.int .i64, .int .i64, .str] else if t = 81 then some [.int .i64, .str] else none
theorem eqs_ok : EqsOK Tryz.prog eqs := fun t ks h => eqsP_ok t ks (by
 unfold eqs at h
 split at h
 · rename_i e; subst e; rw [← h]; kernel_rfl
 · split at h
   · rename_i e; subst e; rw [← h]; kernel_rfl
   · split at h
     · rename_i e; subst e; rw [← h]; kernel_rfl
     · cases h)
noncomputable def tbn (fr : Nat → List Nat) (hk : Nat → Bool) : Tb := ⟨Pv.look tdl, eqs, fun _ => none, fr, hk, fun _ => 0⟩
noncomputable abbrev tbf (fr : Nat → List Nat) : Tb := tbn fr fun _ => false
noncomputable def tb0 : Tb := tbf fun _ => []
theorem tb_ok {fr : Nat → List Nat} {hk : Nat → Bool} : ∀ t d, (tbn fr hk).td t = some d → tdOf Tryz.prog t = some d := Pv.look_ok tdl_ok
def env0 : Env := ⟨fun _ => none, fun _ => True, fun _ _ _ _ => trivial⟩
theorem take_at {α : Type} {l : List α} {k : Nat} {x : α} (hx : l[k]? = some x) : l.take (k + 1) = l.take k ++ [x] := by rw [List.take_add_one, hx]; rfl
set_option maxRecDepth 100000 in
theorem awake_pc : PC Tryz.prog env0 11 [] [.bool true] :=
 exF_pc (eq := eqsP Tryz.prog) (ct := fun _ _ _ => none) (fz := fun f => f == 11) (S := 6) (M := 4000) (n := 60) eqsP2_ok mixed (fun _ _ _ _ _ h => by cases h) (by kernel_rfl)
end Go.Proofs.YtglkpmhamekpmaaGreat.Po
