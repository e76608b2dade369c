/-
  Plain values: the same reckoning over a list of the slots that hold something, the newest first. Plain values: less precise states, bodies of calls, over slots by their numbers. Plain values: shorter steps: a call that answers yes or no, an element of a mapped list, what is handed back by an equation. Plain values: the check with which every method of strings.Builder that writes begins, as a call that is given the builder's block. A run takes no draw back: of the model alone (of no program). Plain values: a map as a list of pairs, said in one's own types (of no program).
-/
import Derived.Test.YtglkpmhamekpmaaGreatP6
import Derived.Lib.Builder
import Derived.Calls
import Derived.RunT
namespace Go.Pv
open Go.RowKit (Below)
set_option linter.unusedSimpArgs false
set_option linter.unusedSectionVars false
def leftI : Bool → List (IV × IV) → List (IV × IV)
 | false, ps => ps
 | true, [] => []
 | true, _ :: ps => ps
inductive NxK (l : List (IV × IV)) (E : Prop) (F : Nat → IV × IV → Prop) : Prop
 | mk (h0 : l = [] → E) (h1 : ∀ i p, l[i]? = some p → F i p)
def nextOf (ops : Array Oper) (draw : Bool) : Option (Operand × Option Nat) := match draw, ops.toList with
 | false, o :: _ => (match o.guard, o.op with
   | none, .next x false => some (x, o.dst)
   | _, _ => none)
 | _, _ => none
theorem RepM_at {Q : Nat → Prop} {w : World} : ∀ {ps : List (IV × IV)} {es : List MapEntry}, RepM Q w ps es → ∀ (i : Nat) (e : MapEntry), es[i]? = some e → ∃ p, ps[i]? = some p ∧ RepI Q w p.1 e.key ∧ RepI Q w p.2 e.val ∧ RepM Q w (ps.eraseIdx i) (es.eraseIdx i)
 | [], es, h, i, e, he => by unfold RepM at h; subst h; simp at he
 | (a, b) :: ps, es, h, i, e, he => by
   unfold RepM at h
   obtain ⟨e0, r, h0, h1, h2, h3⟩ := h
   subst h0
   cases i with
   | zero =>
     obtain rfl : e0 = e := by simpa using he
     exact ⟨(a, b), rfl, h1, h2, h3⟩
   | succ i =>
     obtain ⟨p, g1, g2, g3, g4⟩ := RepM_at h3 i e (by simpa using he)
     refine ⟨p, by simpa using g1, g2, g3, ?_⟩
     rw [List.eraseIdx_cons_succ, List.eraseIdx_cons_succ]
     unfold RepM
     exact ⟨e0, _, rfl, h1, h2, g4⟩
theorem born_erase : ∀ {l : List MapEntry} {i : Nat} {e : MapEntry}, (l.map (·.born)).Nodup → l[i]? = some e → l.filter (fun x => x.born != e.born) = l.eraseIdx i
 | [], i, e, _, h => by simp at h
 | a :: l, 0, e, hn, h => by
   obtain rfl : a = e := by simpa using h
   rw [List.map_cons, List.nodup_cons] at hn
   rw [List.filter_cons_of_neg (by simp), List.eraseIdx_cons_zero, List.filter_eq_self]
   intro x hx
   have : x.born ≠ a.born := fun e => hn.1 (by rw [← e]; exact List.mem_map.2 ⟨x, hx, rfl⟩)
   simpa using this
 | a :: l, i + 1, e, hn, h => by
   rw [List.map_cons, List.nodup_cons] at hn
   have hl : l[i]? = some e := by simpa using h
   have : a.born ≠ e.born := fun q => hn.1 (by rw [q]; exact List.mem_map.2 ⟨e, List.mem_of_getElem? hl, rfl⟩)
   rw [List.filter_cons_of_pos (by simpa using this), List.eraseIdx_cons_succ, born_erase hn.2 hl]
theorem left_push {es : Array MapEntry} {seen : Array Nat} {i : Nat} {e : MapEntry} (hn : (es.toList.map (·.born)).Nodup) (h : (leftOf es seen).toList[i]? = some e) : (leftOf es (seen.push e.born)).toList = (leftOf es seen).toList.eraseIdx i := by
 have h1 : (leftOf es seen).toList = es.toList.filter fun x => !seen.contains x.born := by unfold leftOf; rw [Array.toList_filter]
 have h2 : ((leftOf es seen).toList.map (·.born)).Nodup := by rw [h1]; exact (List.filter_sublist.map _).nodup hn
 rw [← born_erase h2 h, h1, List.filter_filter]
 unfold leftOf
 rw [Array.toList_filter]
 congr 1
 funext x
 rw [Array.contains_push]
 cases hs : seen.contains x.born <;> cases hq : (x.born == e.born) <;> simp [bne, hq]
theorem next_sound {P : Program} {Γ : Ctx} {rid : Nat} {ops : Array Oper} {o : Oper} {rest : List Oper} {x : Operand} (hops : ops.toList = o :: rest) (hg : o.guard = none) (hop : o.op = .next x false) {E : List PV} {B : List Blk} {r g : Nat} {b : Bool} {ps : List (IV × IV)} (hx : pev Γ E x = .ptr r g 0) (hb : B[r]? = some (.map (.iter b) g ps)) {Q : Exit → Act → World → Prop}
   (h0 : leftI b ps = [] → ∀ a w, γ Γ ⟨setE E o.dst (.tup [.imm (.bool false)]), B⟩ a w → wpOps P ops Q (List.range' 1 rest.length) a w)
   (h1 : ∀ i p, (leftI b ps)[i]? = some p → ∀ a w, γ Γ ⟨setE E o.dst (.tup [.imm (.bool true), .imm p.1, .imm p.2]), B.set r (.map (.iter true) g (p :: (leftI b ps).eraseIdx i))⟩ a w → wpOps P ops Q (List.range' 1 rest.length) a w) {a : Act} {w : World} (hγ : γ Γ ⟨E, B⟩ a w) : (Code.region rid ops false).wp P Q a w := by
 refine wp_region ?_
 have hsz : ops.size = rest.length + 1 := by rw [← Array.length_toList, hops]; rfl
 have ho : ops[0]? = some o := by rw [← Array.getElem?_toList, hops]; rfl
 rw [List.range_eq_range', hsz, List.range'_succ]
 unfold wpOps
 rw [ho]
 have hwant : Region.wanted o (yielded ops a.tmps) = true := by unfold Region.wanted; rw [hg]
 simp only [hwant, if_true]
 refine Or.inl ?_
 unfold Oper.wp
 have key : ∀ v w', (Instr.next (a.eval x) false o.type).run P w = .ok v w' → (execOp a.eval o).run P w = .ok (.value v) w' := fun v w' h => by simp [execOp, hop, h]
 have hγ0 := hγ
 obtain ⟨hd, k, hI, hT⟩ := hγ
 have hR := eval_rep hI hT x
 rw [hx] at hR
 obtain ⟨hv, hGr, ib, m, es, clock, seen, e1, e2, e3, e4, e5, e6, e7⟩ := ref_iter (s := ⟨E, B⟩) hI hR hb
 have hleft : RepM k.Q w (leftI b ps) (leftOf es seen).toList := by
   cases b with
   | false => exact e7
   | true =>
     obtain ⟨p, l, e, rfl, h2, _⟩ := e7
     exact h2
 rcases run_next_at (P := P) w o.type ib m clock clock seen es clock e3 e5 e6.1 (Nat.le_refl _) with ⟨hz, hrun⟩ | ⟨e, he, w1, hw1, hrun⟩
 · rw [key _ _ (by rw [e1]; exact hrun)]
   refine h0 ?_ (a.put o.dst _) w ⟨by cases o.dst <;> exact hd, k, hI, ?_⟩
   · have := RepM_len hleft
     rw [Array.length_toList, hz] at this
     exact List.length_eq_zero_iff.1 this.symm
   · exact RepT_put (by
       unfold Rep
       exact ⟨[.bool false], rfl, by unfold RepT; exact ⟨.bool false, [], rfl, by rw [Rep_imm]; unfold RepI; rfl, by unfold RepT; rfl⟩⟩) hT
 · rw [key _ _ (by rw [e1]; exact hrun)]
   obtain ⟨i, hi⟩ : ∃ i, (leftOf es seen).toList[i]? = some e := by
     obtain ⟨i, hi, he⟩ := List.getElem_of_mem he
     exact ⟨i, by rw [List.getElem?_eq_getElem hi, he]⟩
   obtain ⟨p, hp, hk1, hk2, hk3⟩ := RepM_at hleft i e hi
   have hmem : e ∈ es.toList := by
     unfold leftOf at he
     rw [Array.toList_filter] at he
     exact (List.mem_filter.1 he).1
   refine h1 i p hp (a.put o.dst _) _ ?_
   have hγ1 : γ Γ ⟨E, B⟩ a w1 := by
     rcases hw1 with rfl | rfl
     · exact hγ0
     · exact γ_drew hγ0
   have hheap : w1.heap = w.heap := by rcases hw1 with rfl | rfl <;> rfl
   have hq1 : ∀ (kk : K), (∀ b, kk.Q b → kk.Q b ∧ w1.heap[b]? = w.heap[b]?) := fun kk b hb => ⟨hb, by rw [hheap]⟩
   have hI1 : Inv Γ k B w1 := by
     rcases hw1 with rfl | rfl
     · exact hI
     · have he : Ext k B.length w k B.length w.drew := ⟨Nat.le_refl _, fun b hb => ⟨hb, rfl⟩, fun _ _ => ⟨Nat.le_refl _, fun _ => rfl⟩⟩
       exact ⟨hI.below.drew, hI.lt, hI.le, hI.qs, hI.rr.below (Below.refl _ _).drew, fun g cs hc => Rep_mono he _ _ (hI.gl g cs hc), fun r x hx => blk_keep (hI.blk r x hx) he rfl rfl (fun _ _ => rfl), hI.sep, hI.inj, ⟨hI.kp.fr, hI.kp.ext.trans he⟩, hI.nf⟩
   have hx1 : Ext k B.length w k B.length w1 := ⟨Nat.le_refl _, fun b hb => ⟨hb, by rw [hheap]⟩, fun _ _ => ⟨Nat.le_refl _, fun _ => rfl⟩⟩
   have hT1 := RepT_mono hx1 _ _ hT
   have hbase : base (k.ρ r) = some ib := by rw [← hv, e1]; rfl
   have hsep := hI1.sep r _ ib hb hbase
   have e3' : w1.heap[ib]? = some (.mapIter (some m) clock seen clock) := by rw [hheap]; exact e3
   obtain ⟨f1, f2⟩ := MapKept.heap_set (o' := .mapIter (some m) clock (seen.push e.born) clock) e3'
   have hmi : m ≠ ib := fun h => hsep.1 (h ▸ e4)
   obtain ⟨q1, q2⟩ := inv_put (v := k.ρ r) (g := g) (y := .map (.iter true) g (p :: (leftI b ps).eraseIdx i)) (w' := ChangeMaps.setBlock w1 ib (.mapIter (some m) clock (seen.push e.born) clock)) hI1 hb (Or.inr ⟨hGr, rfl⟩)
     ⟨rfl, rfl, rfl, by simp [ChangeMaps.setBlock], fun c hc => f2 c (by omega)⟩
     (fun c _ hc => f2 c (fun h => hc (by show some c = base (k.ρ r); rw [hbase, h]))) (fun c hc => by
       rw [hbase] at hc
       cases hc
       exact ⟨Or.inr hbase, by simpa [ChangeMaps.setBlock] using hsep.2.2⟩) (fun hx' => by
       have hmono := fun c (hc : k.Q c) => hx'.q c hc
       have hm2 : ∀ c, k.Q c → k.Q c ∧ w1.heap[c]? = w.heap[c]? := fun c hc => ⟨hc, by rw [hheap]⟩
       refine ⟨K.put_G _ _ _ _, ib, m, es, clock, seen.push e.born, by rw [K.put_ρ, ← hv]; exact e1, e2, f1, e4, ?_, e6, p, _, e, rfl, ?_, hmem, ⟨seen, rfl⟩, RepI_mono hmono _ _ (RepI_mono hm2 _ _ hk1), RepI_mono hmono _ _ (RepI_mono hm2 _ _ hk2)⟩
       · exact (f2 m hmi).trans (by rw [hheap]; exact e5)
       · rw [left_push e6.2.1 hi]
         exact RepM_mono hmono _ _ (RepM_mono hm2 _ _ hk3))
   refine ⟨by cases o.dst <;> exact hd, _, q2, ?_⟩
   show RepT _ (B.set r _).length _ _ _
   rw [List.length_set]
   refine RepT_put ?_ (RepT_mono q1 _ _ hT1)
   have g1 := RepI_mono q1.q _ _ (RepI_mono (fun c (hc : k.Q c) => (⟨hc, by rw [hheap]⟩ : k.Q c ∧ w1.heap[c]? = w.heap[c]?)) _ _ hk1)
   have g2 := RepI_mono q1.q _ _ (RepI_mono (fun c (hc : k.Q c) => (⟨hc, by rw [hheap]⟩ : k.Q c ∧ w1.heap[c]? = w.heap[c]?)) _ _ hk2)
   unfold Rep
   refine ⟨[.bool true, e.key, e.val], rfl, ?_⟩
   unfold RepT
   refine ⟨.bool true, [e.key, e.val], rfl, by rw [Rep_imm]; unfold RepI; rfl, ?_⟩
   unfold RepT
   refine ⟨e.key, [e.val], rfl, Rep_imm.2 g1, ?_⟩
   unfold RepT
   exact ⟨e.val, [], rfl, Rep_imm.2 g2, by unfold RepT; rfl⟩
structure AS where
 A : List (Nat × PV)
 B : List Blk
def toL (n : Nat) (A : List (Nat × PV)) : List PV := (List.range n).map (lookV A)
def AS.st (n : Nat) (s : AS) : St := ⟨toL n s.A, s.B⟩
theorem toL_len (n : Nat) (A : List (Nat × PV)) : (toL n A).length = n := by simp [toL]
theorem toL_get (n : Nat) (A : List (Nat × PV)) (t : Nat) : (toL n A).getD t .any = if t < n then lookV A t else .any := by
 unfold toL
 rw [List.getD_eq_getElem?_getD, List.getElem?_map]
 by_cases h : t < n
 · rw [List.getElem?_range h, if_pos h]; rfl
 · rw [List.getElem?_eq_none (by simpa using h), if_neg h]; rfl
theorem lookV_cons (t s : Nat) (p : PV) (A : List (Nat × PV)) : lookV ((s, p) :: A) t = if s = t then p else lookV A t := by
 rw [lookV]
 split
 · rename_i h _; rw [if_pos h]
 · rename_i h _; rw [if_neg h]
theorem toL_set (n : Nat) (A : List (Nat × PV)) (t : Nat) (p : PV) : (toL n A).set t p = toL n ((t, p) :: A) := by
 apply List.ext_getElem?
 intro i
 unfold toL
 rw [List.getElem?_set, List.getElem?_map, List.getElem?_map]
 by_cases hi : i < n
 · rw [List.getElem?_range hi]
   simp only [Option.map_some, lookV_cons, List.length_map, List.length_range]
   by_cases h : t = i
   · subst h; simp [hi]
   · simp [h]
 · rw [List.getElem?_eq_none (by simpa using hi)]
   simp only [Option.map_none, List.length_map, List.length_range]
   by_cases h : t = i
   · subst h; simp [hi]
   · simp [h]
theorem toL_map {n : Nat} {A : List (Nat × PV)} {f : PV → PV} (hf : f .any = .any) : (toL n A).map f = toL n (A.map fun q => (q.1, f q.2)) := by
 have : ∀ t, f (lookV A t) = lookV (A.map fun q => (q.1, f q.2)) t := by
   intro t
   induction A with
   | nil => exact hf
   | cons q A ih =>
     obtain ⟨s, p⟩ := q
     simp only [List.map_cons, lookV_cons]
     split
     · rfl
     · exact ih
 unfold toL
 rw [List.map_map]
 congr 1
 funext t
 exact this t
def getA : List (Nat × PV) → Nat → (PV → Prop) → Prop
 | [], _, K => K .any
 | (s, p) :: l, t, K => match Nat.decEq s t with
   | isTrue _ => K p
   | isFalse _ => getA l t K
theorem getA_eq : ∀ (A : List (Nat × PV)) (t : Nat) (K : PV → Prop), getA A t K = K (lookV A t)
 | [], _, _ => rfl
 | (s, p) :: l, t, K => by
   rw [lookV_cons]
   unfold getA
   split
   · rename_i h _; rw [if_pos h]
   · rename_i h _; rw [if_neg h]; exact getA_eq l t K
def getN (n : Nat) (A : List (Nat × PV)) (t : Nat) (K : PV → Prop) : Prop := match Nat.decLt t n with
 | isTrue _ => getA A t K
 | isFalse _ => K .any
theorem getN_eq (n : Nat) (A : List (Nat × PV)) (t : Nat) (K : PV → Prop) : getN n A t K = K ((toL n A).getD t .any) := by
 unfold getN
 rw [toL_get]
 split
 · rename_i h _; rw [if_pos h, getA_eq]
 · rename_i h _; rw [if_neg h]
def fetchN (n : Nat) (A : List (Nat × PV)) : List Nat → (List (Nat × PV) → Prop) → Prop
 | [], K => K []
 | t :: ts, K => getN n A t fun p => fetchN n A ts fun vs => K ((t, p) :: vs)
theorem fetchN_eq (n : Nat) (A : List (Nat × PV)) : ∀ (ts : List Nat) (K : List (Nat × PV) → Prop), fetchN n A ts K = K (ts.map fun t => (t, (toL n A).getD t .any))
 | [], _ => rfl
 | t :: ts, K => by unfold fetchN; rw [getN_eq, fetchN_eq n A ts]; rfl
def setA (A : List (Nat × PV)) : Option Nat → PV → (List (Nat × PV) → Prop) → Prop
 | some d, v, K => K ((d, v) :: A)
 | none, _, K => K A
def setA' (A : List (Nat × PV)) : Option Nat → PV → List (Nat × PV)
 | some d, v => (d, v) :: A
 | none, _ => A
theorem setA_eq (A : List (Nat × PV)) (d : Option Nat) (v : PV) (K : List (Nat × PV) → Prop) : setA A d v K = K (setA' A d v) := by cases d <;> rfl
theorem setA_toL (n : Nat) (A : List (Nat × PV)) (d : Option Nat) (v : PV) : setE (toL n A) d v = toL n (setA' A d v) := by
 cases d with
 | none => rfl
 | some d => exact toL_set n A d v
def forceA : List (Nat × PV) → (List (Nat × PV) → Prop) → Prop
 | [], K => K []
 | (t, p) :: l, K => forceP p fun p => forceA l fun l => K ((t, p) :: l)
theorem forceA_eq : ∀ (A : List (Nat × PV)) (K : List (Nat × PV) → Prop), forceA A K = K A
 | [], _ => rfl
 | (t, p) :: l, K => by unfold forceA; rw [forceP_eq, forceA_eq l]
def doOneA (n : Nat) (T : Tb) (C : CT) (ops : Array Oper) (draw : Bool) (o : Oper) (id : Nat) (A : List (Nat × PV)) (B : List Blk) (sh : List Sh) (K : Nat → List (Nat × PV) → List Blk → List Sh → Prop) : Prop :=
 fetchN n A (trOf o) fun vs => forceN (rdOf T o id (evl T vs) B) fun rd => forceN (rdX o id rd) fun rx => stepV T C o.op id (evl T vs) (getB (refsO o (evl T vs) ++ (rx ++ newId o id)) B) rd fun v ws =>
   forceP v fun v => forceW ws fun ws => setA A o.dst v fun A' => setBK B ws fun B' => keysK ws fun wk => forceN (gtr ops o ++ trOf o) fun tr => forceN (refsO o (evl T vs) ++ (rx ++ newId o id)) fun br =>
     goOn o draw id sh ⟨o.dst, wk, tr, br⟩ fun id sh => K id A' B' sh
def skipOneA (ops : Array Oper) (draw : Bool) (o : Oper) (id : Nat) (A : List (Nat × PV)) (B : List Blk) (sh : List Sh) (K : Nat → List (Nat × PV) → List Blk → List Sh → Prop) : Prop :=
 setA A o.dst (.tup []) fun A' => forceN (gtr ops o) fun tr => goOn o draw id sh ⟨o.dst, [], tr, []⟩ fun id sh => K id A' B sh
def vcRA (n : Nat) (T : Tb) (C : CT) (ops : Array Oper) (draw : Bool) : List Oper → Nat → List (Nat × PV) → List Blk → List Sh → (List (Nat × PV) → List Blk → List Sh → Prop) → Prop
 | [], _, A, B, sh, K => K A B sh
 | o :: r, id, A, B, sh, K =>
   match o.guard with
   | none => doOneA n T C ops draw o id A B sh fun id A B sh => vcRA n T C ops draw r id A B sh K
   | some (j, want) => match (ops[j]?).bind (·.dst) with
     | some d => getN n A d fun p => match p with
       | .imm (.bool b) => match b, want with
         | true, true | false, false => doOneA n T C ops draw o id A B sh fun id A B sh => vcRA n T C ops draw r id A B sh K
         | true, false | false, true => skipOneA ops draw o id A B sh fun id A B sh => vcRA n T C ops draw r id A B sh K
       | .tup [] => skipOneA ops draw o id A B sh fun id A B sh => vcRA n T C ops draw r id A B sh K
       | _ => False
     | none => False
def fzA (r g : Nat) (i : IV) (A : List (Nat × PV)) : List (Nat × PV) := A.map fun q => (q.1, fz r g i q.2)
theorem fzL_mapF (r g : Nat) (i : IV) : ∀ l : List PV, fzL r g i l = l.map (fz r g i)
 | [] => by simp [fzL]
 | a :: l => by simp [fzL, fzL_mapF r g i l]
theorem fzA_toL (n r g : Nat) (i : IV) (A : List (Nat × PV)) : fzL r g i (toL n A) = toL n (fzA r g i A) := by
 rw [fzL_mapF, toL_map (f := fz r g i) (by simp [fz])]
 rfl
def frA : List Nat → AS → (AS → Prop) → Prop
 | [], s, K => K s
 | r :: rs, s, K => match s.B[r]? with
   | some (.row _ sz g es) => Imms es fun is => forceA (fzA r g (.sl sz is) s.A) fun A => frA rs ⟨A, (s.B.map (fzB r g (.sl sz is))).set r (.dead g)⟩ K
   | _ => False
def hkA (b : Bool) (WK : AS → (AS → Prop) → Prop) (s : AS) (K : AS → Prop) : Prop := match b with
 | true => WK s fun s => forceA s.A fun A => K ⟨A, s.B⟩
 | false => K s
def evA (n : Nat) (T : Tb) (A : List (Nat × PV)) (x : Operand) (K : PV → Prop) : Prop := match x with
 | .tmp t => getN n A t K
 | x => K (evT T [] x)
theorem evA_eq (n : Nat) (T : Tb) (A : List (Nat × PV)) (x : Operand) (K : PV → Prop) : evA n T A x K = K (evT T (toL n A) x) := by
 cases x with
 | tmp t => exact getN_eq n A t K
 | _ => rfl
def nextA (n : Nat) (T : Tb) (x : Operand) (d : Option Nat) (s : AS) (K : AS → Prop) : Prop := evA n T s.A x fun p => match p with
 | .ptr r g 0 => (match s.B[r]? with
   | some (.map (.iter b) g' ps) => if g = g' then NxK (leftI b ps) (setA s.A d (.tup [.imm (.bool false)]) fun A => K ⟨A, s.B⟩) (fun i p => setA s.A d (.tup [.imm (.bool true), .imm p.1, .imm p.2]) fun A => setBK s.B [(r, .map (.iter true) g (p :: (leftI b ps).eraseIdx i))] fun B => K ⟨A, B⟩) else False
   | _ => False)
 | _ => False
def vcCA (n : Nat) (T : Tb) (C : CT) (WK : AS → (AS → Prop) → Prop) (LP : Code → AS → (Exit → AS → Prop) → Prop) : Code → AS → (Exit → AS → Prop) → Prop
 | .skip, s, Q => Q .normal s
 | .label _, s, Q => Q .normal s
 | .exit id, s, Q => Q (.exit id) s
 | .ret, s, Q => Q .ret s
 | .seq x y, s, Q => vcCA n T C WK LP x s fun e s' => match e with
   | .normal => vcCA n T C WK LP y s' Q
   | e => Q e s'
 | .cond c x y, s, Q => evA n T s.A c fun p => match p with
   | .imm (.bool b) => (match b with
     | true => vcCA n T C WK LP x s Q
     | false => vcCA n T C WK LP y s Q)
   | _ => False
 | .block id c, s, Q => vcCA n T C WK LP c s fun e s' => match e with
   | .exit id' => if id' = id then Q .normal s' else Q (.exit id') s'
   | e => Q e s'
 | .region rid ops draw, s, Q => match nextOf ops draw with
   | some (x, d) => nextA n T x d s fun s => forceBs (s.B ++ dead (nal ops.toList.tail)) fun B => lenK s.B 0 fun id => vcRA n T C ops draw ops.toList.tail id s.A B [] fun A' B' _ => Q .normal ⟨A', B'⟩
   | none => hkA (T.hk rid) WK s fun s => frA (T.fr rid) s fun s => forceBs (s.B ++ dead (nal ops.toList)) fun B => lenK s.B 0 fun id => vcRA n T C ops draw ops.toList id s.A B [] fun A' B' sh =>
     match draw with
     | true => lenK B 0 fun m => Owe (regS ops.toList n m sh true = true) (Q .normal ⟨A', B'⟩)
     | false => Q .normal ⟨A', B'⟩
 | .loop c, s, Q => LP c s Q
 | _, _, _ => False
def vcS (n : Nat) (T : Tb) (C : CT) (WK : AS → (AS → Prop) → Prop) (LP : Code → AS → (Exit → AS → Prop) → Prop) (c : Code) (s : AS) (Q : Exit → AS → Prop) : Prop :=
 forceA s.A fun A => forceBs s.B fun B => vcCA n T C WK LP c ⟨A, B⟩ Q
theorem vcS_eq {n : Nat} {T : Tb} {C : CT} {WK : AS → (AS → Prop) → Prop} {LP : Code → AS → (Exit → AS → Prop) → Prop} {c : Code} {s : AS} {Q : Exit → AS → Prop} : vcS n T C WK LP c s Q = vcCA n T C WK LP c s Q := by
 unfold vcS
 rw [forceA_eq, forceBs_eq]
section
variable {P : Program} {Γ : Ctx} {T : Tb} (hT : ∀ t d, T.td t = some d → tdOf P t = some d) (hE : T.eq = Γ.eqT) (hG : T.gl = Γ.X.gl)
include hT hE hG
theorem vcRA_sound {n : Nat} {ops : Array Oper} {draw : Bool} : ∀ {l : List Oper} {id : Nat} {A : List (Nat × PV)} {B : List Blk} {sh : List Sh} {M : List (Nat × PV) → List Blk → List Sh → Prop}, vcRA n T (CTof P Γ.X) ops draw l id A B sh M →
   ∃ cr es, runO P Γ ops l id cr ⟨toL n A, B⟩ = some es ∧ (∀ e ∈ es, ∀ ob, e.ob = some ob → FCalls P Γ ob) ∧ ∃ A', (es.foldl applyE ⟨toL n A, B⟩).E = toL n A' ∧ M A' (es.foldl applyE ⟨toL n A, B⟩).B (if draw then sh ++ es.map shOf else sh)
 | [], id, A, B, sh, M, h => ⟨[], [], rfl, fun e he => (by cases he), A, rfl, by simpa [vcRA] using h⟩
 | o :: l, id, A, B, sh, M, h => by
   have key : ∀ (hw : wantE ops (toL n A) o = some true), (doOneA n T (CTof P Γ.X) ops draw o id A B sh fun id A B sh => vcRA n T (CTof P Γ.X) ops draw l id A B sh M) →
       ∃ cr es, runO P Γ ops (o :: l) id cr ⟨toL n A, B⟩ = some es ∧ (∀ e ∈ es, ∀ ob, e.ob = some ob → FCalls P Γ ob) ∧ ∃ A', (es.foldl applyE ⟨toL n A, B⟩).E = toL n A' ∧ M A' (es.foldl applyE ⟨toL n A, B⟩).B (if draw then sh ++ es.map shOf else sh) := by
     intro hw hs
     unfold doOneA at hs
     simp only [fetchN_eq, forceN_eq, keysK_eq, evl_eq, forceP_eq, forceW_eq, setA_eq, setBK_eq] at hs
     obtain ⟨c, e, h1, h2, h3, h4, h5, h6⟩ := step_run (s := ⟨toL n A, B⟩) hT hE hG hw hs
     have h7 : vcRA n T (CTof P Γ.X) ops draw l (nextId o id) (setA' A o.dst e.v) (setB B e.ws) (if draw then sh ++ [shOf e] else sh) M := by
       rw [h5]
       exact goOn_eq h6
     obtain ⟨cr, es, g1, g2, A', g3, g4⟩ := vcRA_sound h7
     have happ : applyE ⟨toL n A, B⟩ e = ⟨toL n (setA' A o.dst e.v), setB B e.ws⟩ := by unfold applyE; rw [h4, setA_toL]
     refine ⟨c ++ cr, e :: es, ?_, fun e' he' => ?_, A', ?_, ?_⟩
     · unfold runO
       rw [h2 cr]
       simp only []
       rw [h1 cr, happ, g1]
     · rcases List.mem_cons.1 he' with rfl | he'
       · exact h3
       · exact g2 e' he'
     · simp only [List.foldl_cons]
       rw [happ]
       exact g3
     · simp only [List.foldl_cons, List.map_cons]
       rw [happ]
       cases draw
       · exact g4
       · simp only [if_true] at g4 ⊢
         rw [List.append_assoc] at g4
         exact g4
   have skip : ∀ (hw : wantE ops (toL n A) o = some false), (skipOneA ops draw o id A B sh fun id A B sh => vcRA n T (CTof P Γ.X) ops draw l id A B sh M) →
       ∃ cr es, runO P Γ ops (o :: l) id cr ⟨toL n A, B⟩ = some es ∧ (∀ e ∈ es, ∀ ob, e.ob = some ob → FCalls P Γ ob) ∧ ∃ A', (es.foldl applyE ⟨toL n A, B⟩).E = toL n A' ∧ M A' (es.foldl applyE ⟨toL n A, B⟩).B (if draw then sh ++ es.map shOf else sh) := by
     intro hw hs
     unfold skipOneA at hs
     simp only [setA_eq, forceN_eq] at hs
     have h7 : vcRA n T (CTof P Γ.X) ops draw l (nextId o id) (setA' A o.dst (.tup [])) B (if draw then sh ++ [⟨o.dst, [], gtr ops o, []⟩] else sh) M := goOn_eq hs
     obtain ⟨cr, es, g1, g2, A', g3, g4⟩ := vcRA_sound h7
     refine ⟨if isCall o.op then ⟨[], .any, []⟩ :: cr else cr, ⟨o.dst, .tup [], [], none, gtr ops o, []⟩ :: es, ?_, fun e' he' => ?_, A', ?_, ?_⟩
     · unfold runO effO
       rw [hw]
       simp only []
       have : nextCr o (if isCall o.op then ⟨[], .any, []⟩ :: cr else cr) = cr := by
         unfold nextCr
         split <;> rfl
       rw [this]
       have : applyE ⟨toL n A, B⟩ ⟨o.dst, .tup [], [], none, gtr ops o, []⟩ = ⟨toL n (setA' A o.dst (.tup [])), B⟩ := by
         unfold applyE; rw [← setA_toL]; rfl
       rw [this, g1]
     · rcases List.mem_cons.1 he' with rfl | he'
       · intro ob h; cases h
       · exact g2 e' he'
     · simp only [List.foldl_cons]
       have : applyE ⟨toL n A, B⟩ ⟨o.dst, .tup [], [], none, gtr ops o, []⟩ = ⟨toL n (setA' A o.dst (.tup [])), B⟩ := by
         unfold applyE; rw [← setA_toL]; rfl
       rw [this]
       exact g3
     · simp only [List.foldl_cons, List.map_cons]
       have : applyE ⟨toL n A, B⟩ ⟨o.dst, .tup [], [], none, gtr ops o, []⟩ = ⟨toL n (setA' A o.dst (.tup [])), B⟩ := by
         unfold applyE; rw [← setA_toL]; rfl
       rw [this]
       cases draw
       · exact g4
       · simp only [if_true] at g4 ⊢
         rw [List.append_assoc] at g4
         exact g4
   unfold vcRA at h
   split at h
   · rename_i hg
     exact key (by unfold wantE; rw [hg]) h
   · rename_i j want hg
     split at h
     · rename_i d hd
       rw [getN_eq] at h
       split at h
       · rename_i p b hb
         split at h
         · exact key (by unfold wantE; simp only [hg, hd]; rw [hb]; rfl) h
         · exact key (by unfold wantE; simp only [hg, hd]; rw [hb]; rfl) h
         · exact skip (by unfold wantE; simp only [hg, hd]; rw [hb]; rfl) h
         · exact skip (by unfold wantE; simp only [hg, hd]; rw [hb]; rfl) h
       · rename_i hb
         exact skip (by unfold wantE; simp only [hg, hd]; rw [hb]) h
       · exact h.elim
     · exact h.elim
theorem frA_sound {n : Nat} {c : Code} {Q : Exit → St → Prop} : ∀ {rs : List Nat} {s : AS} {M : AS → Prop}, frA rs s M → (∀ s, M s → AWp P Γ c (s.st n) Q) → AWp P Γ c (s.st n) Q
 | [], s, M, h, hM => hM s h
 | r :: rs, s, M, h, hM => by
   unfold frA at h
   split at h
   · rename_i e sz g es hb
     obtain ⟨is, hes, h⟩ := h
     rw [forceA_eq] at h
     exact awp_frz r hb (imms_of hes) (ILe.refl _) (fzA_toL n r g _ s.A) rfl (frA_sound h hM)
   · exact h.elim
theorem vcCA_next {n rid : Nat} {ops : Array Oper} {draw : Bool} {x : Operand} {d : Option Nat} {s : AS} {Q : Exit → AS → Prop} (hno : nextOf ops draw = some (x, d))
   (h : nextA n T x d s fun s => forceBs (s.B ++ dead (nal ops.toList.tail)) fun B => lenK s.B 0 fun id => vcRA n T (CTof P Γ.X) ops draw ops.toList.tail id s.A B [] fun A' B' _ => Q .normal ⟨A', B'⟩) :
   AWp P Γ (.region rid ops draw) (s.st n) fun e s' => ∃ q : AS, s' = q.st n ∧ Q e q := by
 unfold nextOf at hno
 split at hno
 · rename_i o rest hops
   split at hno
   · rename_i y hg hop
     simp only [Option.some.injEq, Prod.mk.injEq] at hno
     obtain ⟨rfl, rfl⟩ := hno
     unfold nextA at h
     rw [evA_eq, evT_eq hT hE hG] at h
     split at h
     · rename_i r g hx
       split at h
       · rename_i b g' ps hb
         split at h
         · rename_i hgg
           subst hgg
           obtain ⟨h0, h1⟩ := h
           have go : ∀ (A : List (Nat × PV)) (B : List Blk), (forceBs (B ++ dead (nal ops.toList.tail)) fun B' => lenK B 0 fun id => vcRA n T (CTof P Γ.X) ops false ops.toList.tail id A B' [] fun A' B' _ => Q .normal ⟨A', B'⟩) → EqsOK P Γ.eqT →
               ∀ a w, γ Γ ⟨toL n A, B⟩ a w → wpOps P ops (fun e a w => ∃ s', (∃ q : AS, s' = q.st n ∧ Q e q) ∧ γ Γ s' a w) (List.range' 1 rest.length) a w := by
             intro A B hK hX a w hγ
             rw [forceBs_eq, lenK_eq, Nat.zero_add, hops, List.tail_cons] at hK
             obtain ⟨cr, es, g1, g2, A', g3, g4⟩ := vcRA_sound hT hE hG hK
             refine run_sound hX rest 1 _ cr _ es (fun j => ?_) g1 g2 a w (γ_more (nal rest) hγ) fun a' w' hg' => ?_
             · rw [← Array.getElem?_toList, hops, Nat.add_comm]; rfl
             · refine ⟨_, ⟨⟨A', (es.foldl applyE ⟨toL n A, B ++ dead (nal rest)⟩).B⟩, ?_, g4⟩, hg'⟩
               show (es.foldl applyE ⟨toL n A, B ++ dead (nal rest)⟩) = (⟨toL n A', _⟩ : St)
               rw [← g3]
           intro hX a w hγ
           refine next_sound hops hg hop hx hb (fun hl a' w' hg' => ?_) (fun i p hp a' w' hg' => ?_) hγ
           · have := h0 hl
             rw [setA_eq] at this
             rw [setA_toL] at hg'
             exact go _ _ this hX a' w' hg'
           · have := h1 i p hp
             rw [setA_eq, setBK_eq] at this
             rw [setA_toL] at hg'
             exact go _ _ this hX a' w' hg'
         · exact h.elim
       · exact h.elim
     · exact h.elim
   · cases hno
 · cases hno
theorem vcCA_sound {n : Nat} (hm : P.follows .mixedOrders = true) : ∀ {c : Code} {s : AS} {Q : Exit → AS → Prop}, vcCA n T (CTof P Γ.X) (fun s K => ∃ s' : AS, (∀ a w, γ Γ (s.st n) a w → γ Γ (s'.st n) a w) ∧ K s') (fun c s Q => AWp P Γ (.loop c) (s.st n) fun e s' => ∃ q : AS, s' = q.st n ∧ Q e q) c s Q → AWp P Γ c (s.st n) fun e s' => ∃ q : AS, s' = q.st n ∧ Q e q
 | .skip, s, Q, h => awp_skip ⟨s, rfl, h⟩
 | .label _, s, Q, h => awp_label ⟨s, rfl, h⟩
 | .exit id, s, Q, h => awp_exit ⟨s, rfl, h⟩
 | .ret, s, Q, h => awp_ret ⟨s, rfl, h⟩
 | .seq x y, s, Q, h => by
   unfold vcCA at h
   refine awp_seq fun K hK => ?_
   refine (fun hX a w hg => wp_mono (vcCA_sound hm h hX a w hg) ?_)
   rintro e a' w' ⟨s', ⟨q, rfl, h2⟩, h3⟩
   refine ⟨q.st n, ?_, h3⟩
   cases e with
   | normal => exact hK _ (vcCA_sound hm h2)
   | _ => exact ⟨q, rfl, h2⟩
 | .cond c x y, s, Q, h => by
   unfold vcCA at h
   rw [evA_eq, evT_eq hT hE hG] at h
   split at h
   · rename_i b hb
     refine awp_cond (s := s.st n) hb (fun ht => ?_) (fun hf => ?_)
     · subst ht; exact vcCA_sound hm h
     · subst hf; exact vcCA_sound hm h
   · exact h.elim
 | .block id c, s, Q, h => by
   unfold vcCA at h
   refine awp_block (fun hX a w hg => wp_mono (vcCA_sound hm h hX a w hg) ?_)
   rintro e a' w' ⟨s', ⟨q, rfl, h2⟩, h3⟩
   refine ⟨q.st n, ?_, h3⟩
   cases e with
   | exit id' =>
     simp only at h2
     unfold blockS
     split at h2
     · rename_i hid
       simp only [hid, if_true]
       exact ⟨q, rfl, h2⟩
     · rename_i hid
       simp only [hid, if_false]
       exact ⟨q, rfl, h2⟩
   | _ => exact ⟨q, rfl, h2⟩
 | .region rid ops draw, s, Q, h => by
   unfold vcCA at h
   split at h
   · rename_i x d hno
     refine vcCA_next hT hE hG hno h
   · obtain ⟨s1, hw1, h⟩ : ∃ s1 : AS, (∀ a w, γ Γ (s.st n) a w → γ Γ (s1.st n) a w) ∧ frA (T.fr rid) s1 _ := by
       unfold hkA at h
       split at h
       · obtain ⟨s1, g1, g2⟩ := h
         rw [forceA_eq] at g2
         exact ⟨s1, g1, g2⟩
       · exact ⟨s, fun _ _ h => h, h⟩
     suffices hs : AWp P Γ (.region rid ops draw) (s1.st n) (fun e s' => ∃ q : AS, s' = q.st n ∧ Q e q) from fun hX a w hg => hs hX a w (hw1 a w hg)
     refine frA_sound hT hE hG h fun s h => ?_
     rw [forceBs_eq, lenK_eq, Nat.zero_add] at h
     obtain ⟨cr, es, h1, h2, A', h3, h4⟩ := vcRA_sound hT hE hG h
     refine awp_region (nal ops.toList) cr hm h1 ?_ h2 ?_
     · cases draw
       · unfold regB; rfl
       · simp only [lenK_eq, Nat.zero_add] at h4
         obtain ⟨hck, _⟩ := h4
         refine reg_sh ?_
         simpa [dead, toL_len] using hck
     · refine ⟨⟨A', (es.foldl applyE ⟨toL n s.A, s.B ++ dead (nal ops.toList)⟩).B⟩, ?_, ?_⟩
       · show (es.foldl applyE ⟨toL n s.A, s.B ++ dead (nal ops.toList)⟩) = (⟨toL n A', _⟩ : St)
         rw [← h3]
       · cases draw
         · exact h4
         · simp only [lenK_eq] at h4
           exact h4.2
 | .loop c, s, Q, h => h
 | .rangeFunc _ _ _ _, s, Q, h => by unfold vcCA at h; exact h.elim
 | .scope _, s, Q, h => by unfold vcCA at h; exact h.elim
 | .goto _, s, Q, h => by unfold vcCA at h; exact h.elim
 | .refuse _, s, Q, h => by unfold vcCA at h; exact h.elim
end
end Go.Pv
namespace Go.Pv
open Go.RowKit (Below)
set_option linter.unusedSimpArgs false
set_option linter.unusedSectionVars false
def WeakA (Γ : Ctx) (n : Nat) (s s' : AS) : Prop := Weak Γ (s.st n) (s'.st n)
theorem WeakA.refl {Γ : Ctx} {n : Nat} (s : AS) : WeakA Γ n s s := fun _ _ h => h
theorem WeakA.trans {Γ : Ctx} {n : Nat} {s t u : AS} (h : WeakA Γ n s t) (h' : WeakA Γ n t u) : WeakA Γ n s u := fun a w hg => h' a w (h a w hg)
def enumP : Nat → List PV → List (Nat × PV)
 | _, [] => []
 | i, p :: ps => (i, p) :: enumP (i + 1) ps
theorem lookV_enum : ∀ (l : List PV) (k t : Nat), lookV (enumP k l) t = if k ≤ t then l.getD (t - k) .any else .any
 | [], k, t => by
   unfold enumP lookV
   split <;> simp
 | p :: ps, k, t => by
   unfold enumP
   rw [lookV_cons, lookV_enum ps (k + 1) t]
   by_cases h : k = t
   · subst h; simp
   · rw [if_neg h]
     by_cases h2 : k + 1 ≤ t
     · rw [if_pos h2, if_pos (by omega)]
       obtain ⟨j, rfl⟩ : ∃ j, t = k + 1 + j := ⟨t - (k + 1), by omega⟩
       rw [show k + 1 + j - (k + 1) = j by omega, show k + 1 + j - k = j + 1 by omega]
       simp
     · rw [if_neg h2, if_neg (by omega)]
theorem toL_enum {n : Nat} {l : List PV} (h : l.length ≤ n) : toL n (enumP 0 l) = l ++ List.replicate (n - l.length) .any := by
 apply List.ext_getElem?
 intro i
 unfold toL
 rw [List.getElem?_map]
 by_cases hi : i < n
 · rw [List.getElem?_range hi]
   simp only [Option.map_some, lookV_enum, Nat.zero_le, if_true, Nat.sub_zero]
   by_cases hl : i < l.length
   · rw [List.getElem?_append_left hl, List.getD_eq_getElem?_getD, List.getElem?_eq_getElem hl]; rfl
   · rw [List.getElem?_append_right (by omega), List.getD_eq_getElem?_getD, List.getElem?_eq_none (by omega), List.getElem?_replicate, if_pos (by omega)]; rfl
 · rw [List.getElem?_eq_none (by simpa using hi), List.getElem?_eq_none (by simp; omega)]
   rfl
theorem toL_enum_eq {l : List PV} {n : Nat} (h : l.length = n) : toL n (enumP 0 l) = l := by
 rw [toL_enum (by omega), h, Nat.sub_self]
 simp
inductive WkOne (m : Nat) (p : PV) : PV → Prop
 | any : WkOne m p .any
 | eq {q : PV} : p = q → belowB m q = true → WkOne m p q
 | le {i j : IV} : p = .imm i → ILe i j → WkOne m p (.imm j)
def wkV (m : Nat) (A : List (Nat × PV)) : List (Nat × PV) → Prop
 | [] => True
 | (t, q) :: A' => getA A t fun p => WkOne m p q ∧ wkV m A A'
theorem wkV_at {m : Nat} {A : List (Nat × PV)} : ∀ {A' : List (Nat × PV)}, wkV m A A' → ∀ t, WkOne m (lookV A t) (lookV A' t)
 | [], _, t => by unfold lookV; exact .any
 | (s, q) :: A', h, t => by
   unfold wkV at h
   rw [getA_eq] at h
   rw [lookV_cons]
   split
   · rename_i e; subst e; exact h.1
   · exact wkV_at h.2 t
theorem wk_range {m : Nat} {f g : Nat → PV} (h : ∀ t, WkOne m (f t) (g t)) : ∀ l : List Nat, Wk m (l.map f) (l.map g)
 | [] => .nil
 | t :: l => by
   simp only [List.map_cons]
   have ih := wk_range h l
   have h1 := h t
   generalize f t = p at h1
   generalize g t = q at h1
   cases h1 with
   | any => exact .drop ih
   | eq e hb => subst e; exact .keep hb ih
   | le e hl => subst e; exact .le hl ih
theorem WeakA.slots {Γ : Ctx} {n : Nat} {A A' : List (Nat × PV)} {B B' : List Blk} (m : Nat) (hn0 : Γ.n0 ≤ m) (hB : B.take m = B') (hm : B'.length = m) (hbl : B'.all (blkBelow m) = true) (hE : wkV m A A') : WeakA Γ n ⟨A, B⟩ ⟨A', B'⟩ :=
 Weak.slots m hn0 hB hm hbl (wk_range (wkV_at hE) _)
def rgA (r g g' : Nat) (A : List (Nat × PV)) : List (Nat × PV) := A.map fun q => (q.1, rg r g g' q.2)
theorem rgL_mapF (r g g' : Nat) : ∀ l : List PV, rgL r g g' l = l.map (rg r g g')
 | [] => by simp [rgL]
 | a :: l => by simp [rgL, rgL_mapF r g g' l]
theorem rgA_toL (n r g g' : Nat) (A : List (Nat × PV)) : rgL r g g' (toL n A) = toL n (rgA r g g' A) := by
 rw [rgL_mapF, toL_map (f := rg r g g') (by simp [rg])]
 rfl
theorem WeakA.renew {Γ : Ctx} {n : Nat} {A : List (Nat × PV)} {B : List Blk} (r g' : Nat) {e : TypeId} {sz g : Nat} {es : List PV} (hb : B[r]? = some (.row e sz g es)) (h0 : r < Γ.n0 → Γ.k0.G r < g') (hr : RowsAre (rgL r g g') B) : WeakA Γ n ⟨A, B⟩ ⟨rgA r g g' A, (B.map (rgB2 r g g')).set r (.row e sz g' es)⟩ := by
 have h := Weak.renew (Γ := Γ) (E := toL n A) r g' hb h0 hr
 rw [rgA_toL] at h
 exact h
theorem WeakA.frozen {Γ : Ctx} {n : Nat} {A : List (Nat × PV)} {B : List Blk} (r : Nat) {e : TypeId} {sz g : Nat} {es : List PV} (is : List IV) (hb : B[r]? = some (.row e sz g es)) (hes : es = is.map .imm) {i : IV} (hi : ILe (.sl sz is) i) (hr : RowsAre (fzL r g i) B) : WeakA Γ n ⟨A, B⟩ ⟨fzA r g i A, (B.map (fzB2 r g i)).set r (.dead g)⟩ := by
 have h := Weak.frozen (Γ := Γ) (E := toL n A) r is hb hes hi hr
 rw [fzA_toL] at h
 exact h
theorem WeakA.row {Γ : Ctx} {n : Nat} {A : List (Nat × PV)} {B : List Blk} (r : Nat) {e : TypeId} {sz g : Nat} {es : List PV} (es' : List PV) (hb : B[r]? = some (.row e sz g es)) (h : es = es') : WeakA Γ n ⟨A, B⟩ ⟨A, B.set r (.row e sz g es')⟩ := Weak.row r es' hb h
def mvA (i j h g' : Nat) (A : List (Nat × PV)) : List (Nat × PV) := A.map fun q => (q.1, mv i j h g' q.2)
theorem mvL_mapF (i j h g' : Nat) : ∀ l : List PV, mvL i j h g' l = l.map (mv i j h g')
 | [] => by simp [mvL]
 | a :: l => by simp [mvL, mvL_mapF i j h g' l]
theorem WeakA.adopt {Γ : Ctx} {n : Nat} {A : List (Nat × PV)} {B : List Blk} (i j g' : Nat) {gi : Nat} {x : Blk} (hij : i ≠ j) (hbi : B[i]? = some (.dead gi)) (hbj : B[j]? = some x) (hn : Γ.n0 ≤ j) (h0 : i < Γ.n0 → Γ.k0.G i < g') (hr : RowsAre (mvL i j (gen x) g') B) :
   WeakA Γ n ⟨A, B⟩ ⟨mvA i j (gen x) g' A, ((B.map (mvB i j (gen x) g')).set i (Pv.regen g' (mvB i j (gen x) g' x))).set j (.dead (gen x + 1))⟩ := by
 have h := Weak.adopt (Γ := Γ) (E := toL n A) i j g' hij hbi hbj hn h0 hr
 rw [mvL_mapF, toL_map (f := mv i j (gen x) g') (by simp [mv])] at h
 exact h
theorem WeakA.cells {Γ : Ctx} {n : Nat} {A : List (Nat × PV)} {B : List Blk} (b : Nat) {g : Nat} {cs cs' : List PV} {t : Option TypeId} (hb : B[b]? = some (.box g cs t)) (h : Wk B.length cs cs') : WeakA Γ n ⟨A, B⟩ ⟨A, B.set b (.box g cs' t)⟩ := Weak.cells b hb h
theorem WeakA.spare {Γ : Ctx} {n : Nat} {A : List (Nat × PV)} {B : List Blk} : WeakA Γ n ⟨A, B⟩ ⟨A, B ++ [.dead 77]⟩ := Weak.spare
theorem WeakA.nilSlot {Γ : Ctx} {n : Nat} {A : List (Nat × PV)} {B : List Blk} (t : Nat) (e : TypeId) (sz : Nat) (ht : t < n) (hE : lookV A t = .imm .nil) : WeakA Γ n ⟨A, B⟩ ⟨(t, .row B.length 1) :: A, B ++ [.row e sz 1 []]⟩ := by
 have h := Weak.nilSlot (Γ := Γ) (E := toL n A) (B := B) t e sz (by
   unfold toL
   rw [List.getElem?_map, List.getElem?_range ht, ← hE]; rfl)
 rw [toL_set] at h
 exact h
def loopQA {σ : Type} (Γ : Ctx) (n : Nat) (st : σ → AS) (I : σ → Prop) (μ : σ → Nat) (i : σ) (Q : Exit → AS → Prop) : Exit → AS → Prop
 | .normal, s' => ∃ i', I i' ∧ μ i' < μ i ∧ WeakA Γ n s' (st i')
 | e, s' => Q e s'
def resA (T : Tb) (n : Nat) (s : AS) : List ResultVar → (List IV → Prop) → Prop
 | [], K => K []
 | .tmp t :: rs, K => getN n s.A t fun p => retV s.B p fun i => resA T n s rs fun is => K (i :: is)
 | .cell t ty :: rs, K => getN n s.A t fun p => match T.td ty, p with
   | some d, .ptr r g off => match s.B[r]? with
     | some (.box g' cs _) => if g = g' then (match partP cs off d.size d.agg with
       | some p => retV s.B p fun i => resA T n s rs fun is => K (i :: is)
       | none => False) else False
     | _ => False
   | _, _ => False
theorem resA_eq (T : Tb) (n : Nat) (s : AS) : ∀ (rs : List ResultVar) (K : List IV → Prop), resA T n s rs K = resV T (s.st n) rs K
 | [], _ => rfl
 | .tmp t :: rs, K => by
   unfold resA resV
   rw [getN_eq]
   simp only [resA_eq T n s rs]
   rfl
 | .cell t ty :: rs, K => by
   unfold resA resV
   rw [getN_eq]
   simp only [resA_eq T n s rs]
   rfl
def retQA (T : Tb) (n : Nat) (rs : List ResultVar) (fin : List IV → Prop) : Exit → AS → Prop
 | .normal, s | .ret, s => resA T n s rs fin
 | _, _ => False
def valA (T : Tb) (n : Nat) (s : AS) (K : PV → Prop) : ResultVar → Prop
 | .tmp t => getN n s.A t K
 | .cell t ty => getN n s.A t fun p => match T.td ty, p with
   | some d, .ptr r g off => match s.B[r]? with
     | some (.box g' cs _) => if g = g' then (match partP cs off d.size d.agg with
       | some p => K p
       | none => False) else False
     | _ => False
   | _, _ => False
theorem valA_eq (T : Tb) (n : Nat) (s : AS) (K : PV → Prop) (r : ResultVar) : valA T n s K r = valQ T (s.st n) K r := by
 cases r with
 | tmp t => exact getN_eq n s.A t K
 | cell t ty => unfold valA valQ; dsimp only; rw [getN_eq]; rfl
def valsA (T : Tb) (n : Nat) (s : AS) : List ResultVar → (List PV → Prop) → Prop
 | [], K => K []
 | r :: rs, K => valA T n s (fun p => valsA T n s rs fun ps => K (p :: ps)) r
theorem valsA_eq (T : Tb) (n : Nat) (s : AS) : ∀ (rs : List ResultVar) (K : List PV → Prop), valsA T n s rs K = valsQ T (s.st n) rs K
 | [], _ => rfl
 | r :: rs, K => by
   unfold valsA valsQ
   rw [valA_eq]
   simp only [valsA_eq T n s rs]
theorem valQ_mono {T : Tb} {s : St} {r : ResultVar} {K K' : PV → Prop} (h : ∀ p, K p → K' p) (hv : valQ T s K r) : valQ T s K' r := by
 cases r with
 | tmp t => exact h _ hv
 | cell t ty =>
   unfold valQ at hv ⊢
   simp only at hv ⊢
   split at hv
   · split at hv
     · split at hv
       · rename_i hg
         rw [if_pos hg]
         split at hv
         · exact h _ hv
         · exact hv.elim
       · exact hv.elim
     · exact hv.elim
   · exact hv.elim
theorem valsQ_len {T : Tb} {s : St} : ∀ {rs : List ResultVar} {K : List PV → Prop}, valsQ T s rs K → valsQ T s rs fun ps => K ps ∧ ps.length = rs.length
 | [], K, h => ⟨h, rfl⟩
 | r :: rs, K, h => by
   unfold valsQ at h ⊢
   refine valQ_mono (fun p hp => ?_) h
   have := valsQ_len hp
   simpa using this
theorem valsQ_mono {T : Tb} {s : St} : ∀ {rs : List ResultVar} {K K' : List PV → Prop}, (∀ ps, K ps → K' ps) → valsQ T s rs K → valsQ T s rs K'
 | [], K, K', hm, h => hm _ h
 | r :: rs, K, K', hm, h => by
   unfold valsQ at h ⊢
   exact valQ_mono (fun p hp => valsQ_mono (fun ps => hm _) hp) h
def retBA (T : Tb) (n : Nat) (rs : List ResultVar) (fin : AS → Prop) : Exit → AS → Prop
 | .normal, s | .ret, s => valsA T n s rs fun ps => forceL ps fun ps => fin ⟨enumP 0 ps, s.B⟩
 | _, _ => False
section
variable {P : Program} {T : Tb}
theorem awp_loopA {Γ : Ctx} (hT : ∀ t d, T.td t = some d → tdOf P t = some d) (hE : T.eq = Γ.eqT) (hG : T.gl = Γ.X.gl) (hm : P.follows .mixedOrders = true) {n : Nat} {c : Code} {s : AS} {Q : Exit → AS → Prop} {σ : Type} (st : σ → AS) (I : σ → Prop) (μ : σ → Nat) (i0 : σ) (hI : I i0) (h0 : WeakA Γ n s (st i0))
   (round : ∀ i, I i → vcS n T (CTof P Γ.X) (fun s K => ∃ s' : AS, (∀ a w, γ Γ (s.st n) a w → γ Γ (s'.st n) a w) ∧ K s') (fun c s Q => AWp P Γ (.loop c) (s.st n) fun e s' => ∃ q : AS, s' = q.st n ∧ Q e q) c (st i) (loopQA Γ n st I μ i Q)) : AWp P Γ (.loop c) (s.st n) fun e s' => ∃ q : AS, s' = q.st n ∧ Q e q := by
 refine awp_loopV (fun i => (st i).st n) I μ i0 hI h0 fun i hi => ?_
 have h := round i hi
 rw [vcS_eq] at h
 refine (fun hX a w hg => wp_mono (vcCA_sound hT hE hG hm h hX a w hg) ?_)
 rintro e a' w' ⟨s', ⟨q, rfl, h2⟩, h3⟩
 refine ⟨q.st n, ?_, h3⟩
 cases e with
 | normal =>
   obtain ⟨i', h4, h5, h6⟩ := h2
   exact ⟨i', h4, h5, h6⟩
 | _ => exact ⟨q, rfl, h2⟩
theorem PC.of_va {X : Env} (hX : EqsOK P T.eq) (hT : ∀ t d, T.td t = some d → tdOf P t = some d) (hG : T.gl = X.gl) (hm : P.follows .mixedOrders = true) {f : FuncId} {fn : Func} {c : Code} {args res : List IV}
   (hf : P.funcs[f]? = some fn) (hb : fn.body = some c) (hn : (fn.name == "runtime.NumGoroutine") = false) (hle : args.length ≤ fn.ntmps)
   (h : ∀ (Γ : Ctx) (C : CT) (WK : AS → (AS → Prop) → Prop) (LP : Code → AS → (Exit → AS → Prop) → Prop) (fin : List IV → Prop), Γ.n0 = 0 → (∀ s s' K, WeakA Γ fn.ntmps s s' → K s' → WK s K) → (∀ f args res, PCw P X f args res → C.1 f args res) → (∀ f args Bs res Bs', PCB P X f args (Bs.map CBk.blk) res (Bs'.map CBk.blk) → C.2.1 f args Bs res Bs') → (∀ f args e sz is, PCRw P X f args e sz is → C.2.2 f args e sz is) →
     (∀ (c : Code) (s : AS) (Q : Exit → AS → Prop) (σ : Type) (st : σ → AS) (I : σ → Prop) (μ : σ → Nat) (i0 : σ), I i0 → WeakA Γ fn.ntmps s (st i0) → (∀ i, I i → vcS fn.ntmps T C WK LP c (st i) (loopQA Γ fn.ntmps st I μ i Q)) → LP c s Q) →
     (∀ is, ILes is res → fin is) → vcS fn.ntmps T C WK LP c ⟨enumP 0 (args.map .imm), []⟩ (retQA T fn.ntmps fn.results.toList fin)) : PC P X f args res := by
 refine PC.of_body hX hf hb hn fun Γ hΓ hΓ' => ?_
 have hE : T.eq = Γ.eqT := hΓ'.1.symm
 have hG' : T.gl = Γ.X.gl := by rw [hΓ]; exact hG
 have h1 := h Γ (CTof P Γ.X) (fun s K => ∃ s' : AS, (∀ a w, γ Γ (s.st fn.ntmps) a w → γ Γ (s'.st fn.ntmps) a w) ∧ K s') (fun c s Q => AWp P Γ (.loop c) (s.st fn.ntmps) fun e s' => ∃ q : AS, s' = q.st fn.ntmps ∧ Q e q) (fun is => ILes is res) hΓ'.2 (fun s s' K h h' => ⟨s', h, h'⟩) (fun f args res h => by rw [hΓ]; exact h) (fun f args Bs res Bs' h => by rw [hΓ]; exact h) (fun f args e sz is h => by rw [hΓ]; exact h)
   (fun c s Q σ st I μ i0 hI h0 hr => awp_loopA hT hE hG' hm st I μ i0 hI h0 hr) (fun is h => h)
 rw [vcS_eq] at h1
 have hst : (AS.mk (enumP 0 (args.map PV.imm)) []).st fn.ntmps = ⟨args.map .imm ++ List.replicate (fn.ntmps - args.length) .any, []⟩ := by
   unfold AS.st
   rw [toL_enum (by simpa using hle)]
   simp
 rw [← hst]
 refine (fun hX a w hg => wp_mono (vcCA_sound hT hE hG' hm h1 hX a w hg) ?_)
 rintro e a' w' ⟨s', ⟨q, rfl, h2⟩, h3⟩
 refine ⟨q.st fn.ntmps, ?_, h3⟩
 cases e with
 | normal => unfold retQA at h2; dsimp only at h2; rw [resA_eq] at h2; exact resV_sound hT h2
 | ret => unfold retQA at h2; dsimp only at h2; rw [resA_eq] at h2; exact resV_sound hT h2
 | _ => exact h2
theorem PCB.of_va {X : Env} (hX : EqsOK P T.eq) (hT : ∀ t d, T.td t = some d → tdOf P t = some d) (hG : T.gl = X.gl) (hm : P.follows .mixedOrders = true) {f : FuncId} {fn : Func} {c : Code} {args : List PV} {res : List PV} {B B' : List Blk}
   (hf : P.funcs[f]? = some fn) (hb : fn.body = some c) (hn : (fn.name == "runtime.NumGoroutine") = false) (hlen : B'.length = B.length) (hle : args.length ≤ fn.ntmps) (hr : fn.results.toList.length = res.length)
   (h : ∀ (Γ : Ctx) (C : CT) (WK : AS → (AS → Prop) → Prop) (LP : Code → AS → (Exit → AS → Prop) → Prop) (fin : AS → Prop), Γ.n0 = B.length → (∀ r x, B[r]? = some x → Γ.k0.G r = gen x) → (∀ s s' K, WeakA Γ fn.ntmps s s' → K s' → WK s K) → (∀ f args res, PCw P X f args res → C.1 f args res) → (∀ f args Bs res Bs', PCB P X f args (Bs.map CBk.blk) res (Bs'.map CBk.blk) → C.2.1 f args Bs res Bs') → (∀ f args e sz is, PCRw P X f args e sz is → C.2.2 f args e sz is) →
     (∀ (c : Code) (s : AS) (Q : Exit → AS → Prop) (σ : Type) (st : σ → AS) (I : σ → Prop) (μ : σ → Nat) (i0 : σ), I i0 → WeakA Γ fn.ntmps s (st i0) → (∀ i, I i → vcS fn.ntmps T C WK LP c (st i) (loopQA Γ fn.ntmps st I μ i Q)) → LP c s Q) →
     (∀ s, WeakA Γ res.length s ⟨enumP 0 res, B'⟩ → fin s) → vcS fn.ntmps T C WK LP c ⟨enumP 0 args, B⟩ (retBA T fn.ntmps fn.results.toList fin)) : PCB P X f args B res B' :=
 PCB.of_awp hX hT hf hb hn hlen fun Γ hΓX hE' hn0 hk0 => by
   have hG' : T.gl = Γ.X.gl := by rw [hG, ← hΓX]
   have h1 := h Γ (CTof P Γ.X) (fun s K => ∃ s' : AS, (∀ a w, γ Γ (s.st fn.ntmps) a w → γ Γ (s'.st fn.ntmps) a w) ∧ K s') (fun c s Q => AWp P Γ (.loop c) (s.st fn.ntmps) fun e s' => ∃ q : AS, s' = q.st fn.ntmps ∧ Q e q) (fun s => WeakA Γ res.length s ⟨enumP 0 res, B'⟩) hn0 hk0 (fun s s' K h h' => ⟨s', h, h'⟩) (fun f args res h => by rw [hΓX]; exact h) (fun f args Bs res Bs' h => by rw [hΓX]; exact h) (fun f args e sz is h => by rw [hΓX]; exact h)
     (fun c s Q σ st I μ i0 hI h0 hr => awp_loopA hT hE'.symm hG' hm st I μ i0 hI h0 hr) (fun s h => h)
   rw [vcS_eq] at h1
   have hst : (AS.mk (enumP 0 args) B).st fn.ntmps = ⟨args ++ List.replicate (fn.ntmps - args.length) .any, B⟩ := by
     unfold AS.st
     rw [toL_enum (by simpa using hle)]
     try simp
   rw [← hst]
   refine (fun hX a w hg => wp_mono (vcCA_sound hT hE'.symm hG' hm h1 hX a w hg) ?_)
   rintro e a' w' ⟨s', ⟨q, rfl, h2⟩, h3⟩
   refine ⟨q.st fn.ntmps, ?_, h3⟩
   cases e with
   | normal =>
     unfold retBA at h2
     dsimp only at h2
     rw [valsA_eq] at h2
     exact valsQ_mono (fun ps hps => by
       obtain ⟨h5, h6⟩ := hps
       rw [forceL_eq] at h5 ⊢
       have h7 : Weak Γ _ _ := h5
       unfold AS.st at h7
       rw [toL_enum_eq (h6.trans hr), toL_enum_eq rfl] at h7
       exact h7) (valsQ_len h2)
   | ret =>
     unfold retBA at h2
     dsimp only at h2
     rw [valsA_eq] at h2
     exact valsQ_mono (fun ps hps => by
       obtain ⟨h5, h6⟩ := hps
       rw [forceL_eq] at h5 ⊢
       have h7 : Weak Γ _ _ := h5
       unfold AS.st at h7
       rw [toL_enum_eq (h6.trans hr), toL_enum_eq rfl] at h7
       exact h7) (valsQ_len h2)
   | _ => exact h2
theorem PCR.of_va {X : Env} (hX : EqsOK P T.eq) (hT : ∀ t d, T.td t = some d → tdOf P t = some d) (hG : T.gl = X.gl) (hm : P.follows .mixedOrders = true) {f : FuncId} {fn : Func} {c : Code} {args : List IV} {e : TypeId} {sz : Nat} {is : List IV}
   (hf : P.funcs[f]? = some fn) (hb : fn.body = some c) (hn : (fn.name == "runtime.NumGoroutine") = false) (hle : args.length ≤ fn.ntmps) (hr : fn.results.toList.length = 1)
   (h : ∀ (Γ : Ctx) (C : CT) (WK : AS → (AS → Prop) → Prop) (LP : Code → AS → (Exit → AS → Prop) → Prop) (fin : AS → Prop), Γ.n0 = 0 → (∀ s s' K, WeakA Γ fn.ntmps s s' → K s' → WK s K) → (∀ f args res, PCw P X f args res → C.1 f args res) → (∀ f args Bs res Bs', PCB P X f args (Bs.map CBk.blk) res (Bs'.map CBk.blk) → C.2.1 f args Bs res Bs') → (∀ f args e sz is, PCRw P X f args e sz is → C.2.2 f args e sz is) →
     (∀ (c : Code) (s : AS) (Q : Exit → AS → Prop) (σ : Type) (st : σ → AS) (I : σ → Prop) (μ : σ → Nat) (i0 : σ), I i0 → WeakA Γ fn.ntmps s (st i0) → (∀ i, I i → vcS fn.ntmps T C WK LP c (st i) (loopQA Γ fn.ntmps st I μ i Q)) → LP c s Q) →
     (∀ s r g B', WeakA Γ 1 s ⟨enumP 0 [.row r g], B'⟩ → B'[r]? = some (.row e sz g (is.map .imm)) → fin s) → vcS fn.ntmps T C WK LP c ⟨enumP 0 (args.map .imm), []⟩ (retBA T fn.ntmps fn.results.toList fin)) : PCR P X f args e sz is :=
 PCR.of_awp hX hT hf hb hn fun Γ hΓX hE' hn0 => by
   have hG' : T.gl = Γ.X.gl := by rw [hG, ← hΓX]
   have h1 := h Γ (CTof P Γ.X) (fun s K => ∃ s' : AS, (∀ a w, γ Γ (s.st fn.ntmps) a w → γ Γ (s'.st fn.ntmps) a w) ∧ K s') (fun c s Q => AWp P Γ (.loop c) (s.st fn.ntmps) fun e s' => ∃ q : AS, s' = q.st fn.ntmps ∧ Q e q) (fun s => ∃ r g B', WeakA Γ 1 s ⟨enumP 0 [.row r g], B'⟩ ∧ B'[r]? = some (.row e sz g (is.map .imm))) hn0 (fun s s' K h h' => ⟨s', h, h'⟩) (fun f args res h => by rw [hΓX]; exact h) (fun f args Bs res Bs' h => by rw [hΓX]; exact h) (fun f args e sz is h => by rw [hΓX]; exact h)
     (fun c s Q σ st I μ i0 hI h0 hr => awp_loopA hT hE'.symm hG' hm st I μ i0 hI h0 hr) (fun s r g B' h h' => ⟨r, g, B', h, h'⟩)
   rw [vcS_eq] at h1
   have hst : (AS.mk (enumP 0 (args.map PV.imm)) []).st fn.ntmps = ⟨(args.map PV.imm) ++ List.replicate (fn.ntmps - args.length) .any, []⟩ := by
     unfold AS.st
     rw [toL_enum (by simpa using hle)]
     try simp
   rw [← hst]
   refine (fun hX a w hg => wp_mono (vcCA_sound hT hE'.symm hG' hm h1 hX a w hg) ?_)
   rintro e a' w' ⟨s', ⟨q, rfl, h2⟩, h3⟩
   refine ⟨q.st fn.ntmps, ?_, h3⟩
   cases e with
   | normal =>
     unfold retBA at h2
     dsimp only at h2
     rw [valsA_eq] at h2
     exact valsQ_mono (fun ps hps => by
       obtain ⟨h5, h6⟩ := hps
       rw [forceL_eq] at h5 ⊢
       obtain ⟨r, g, B', h7, h8⟩ := h5
       refine ⟨r, g, B', ?_, h8⟩
       have h9 : Weak Γ _ _ := h7
       unfold AS.st at h9
       rw [toL_enum_eq (h6.trans hr), toL_enum_eq (l := [PV.row r g]) (n := 1) rfl] at h9
       exact h9) (valsQ_len h2)
   | ret =>
     unfold retBA at h2
     dsimp only at h2
     rw [valsA_eq] at h2
     exact valsQ_mono (fun ps hps => by
       obtain ⟨h5, h6⟩ := hps
       rw [forceL_eq] at h5 ⊢
       obtain ⟨r, g, B', h7, h8⟩ := h5
       refine ⟨r, g, B', ?_, h8⟩
       have h9 : Weak Γ _ _ := h7
       unfold AS.st at h9
       rw [toL_enum_eq (h6.trans hr), toL_enum_eq (l := [PV.row r g]) (n := 1) rfl] at h9
       exact h9) (valsQ_len h2)
   | _ => exact h2
end
end Go.Pv
namespace Go.Pv
open Go.RowKit (Below)
theorem Idx.hyp {α : Type} {f : α → IV} {cells : α → List IV} (hc : ∀ x, cellsI (f x) = cells x) {l : List α} {k : Nat} {x : α} (hx : l[k]? = some x) {K : List IV → Prop} (h : K (cells x)) : Idx (k : Int) (l.map f) K :=
 .mk k (f x) _ rfl (by rw [List.getElem?_map, hx]; rfl) (hc _) h
theorem WeakA.frz {Γ : Ctx} {n : Nat} {A : List (Nat × PV)} {B : List Blk} (r : Nat) {e : TypeId} {sz g : Nat} {es : List PV} (is : List IV) (hb : B[r]? = some (.row e sz g es)) (hes : es = is.map .imm) {i : IV} (hi : ILe (.sl sz is) i) : WeakA Γ n ⟨A, B⟩ ⟨fzA r g i A, (B.map (fzB r g i)).set r (.dead g)⟩ := by
 have h := Weak.frz (Γ := Γ) (E := toL n A) r hb hes hi rfl rfl
 rw [fzA_toL] at h
 exact h
theorem PC.le {P : Program} {X : Env} {f : FuncId} {args res res' : List IV} (h : PC P X f args res) (hl : ILes res res') : PC P X f args res' :=
 ⟨h.1, fun Q w vs hQ hg hX hvs => (h.2 Q w vs hQ hg hX hvs).mono fun _ _ ⟨v, Q', h1, h2, h3, h4, h5⟩ => ⟨v, Q', h1, h2, h3, h4, ILes.res hl h5⟩⟩
theorem Fork.T {c A B : Prop} (h : ¬ c → False) (k : A) : Fork c (fun _ => A) (fun _ => B) := .mk (fun _ => k) (fun hc => (h hc).elim)
theorem Fork.F {c A B : Prop} (h : c → False) (k : B) : Fork c (fun _ => A) (fun _ => B) := .mk (fun hc => (h hc).elim) (fun _ => k)
theorem WkOne.int {m : Nat} {k : IntKind} {a b : Int} (h : a = b) : WkOne m (.imm (.int k a)) (.imm (.int k b)) := .eq (by rw [h]) rfl
theorem WeakA.mapTo {Γ : Ctx} {n : Nat} {A : List (Nat × PV)} {B : List Blk} (r : Nat) {kk : MK} {g : Nat} {ps : List (IV × IV)} (ps' : List (IV × IV)) (hb : B[r]? = some (.map kk g ps)) (h : ps = ps') : WeakA Γ n ⟨A, B⟩ ⟨A, B.set r (.map kk g ps')⟩ := by
 subst h
 have hr : r < B.length := (List.getElem?_eq_some_iff.1 hb).1
 have : B.set r (.map kk g ps) = B := by
   apply List.ext_getElem?
   intro i
   by_cases hi : i = r
   · subst hi; rw [List.getElem?_set_self hr, hb]
   · rw [List.getElem?_set_ne (Ne.symm hi)]
 rw [this]
 exact WeakA.refl _
end Go.Pv
namespace Go.Pv
open Go.RowKit (Below)
end Go.Pv
namespace Go.Pv
open Go
def resW {α : Type} : Result α → World
 | .ok _ w => w
 | .halt _ w => w
theorem ask_le {α : Type} : ∀ (a : Ask α) (w : World), w.drawn ≤ (w.ask a).2.drawn
 | .done a, w => by simp [World.ask]
 | .ask what range k, w => by
   unfold World.ask
   dsimp only
   split
   · exact ask_le (k 0) w
   · exact Nat.le_trans (Nat.le_succ _) (ask_le _ { w with drawn := w.drawn + 1 })
theorem sys_le (c : Sys) (w : World) : w.drawn ≤ (w.sys c).2.drawn := by
 unfold World.sys
 have h := ask_le (Kernel.perform c w.os) w
 split
 · exact Nat.le_refl _
 · rename_i e
   rw [e] at h
   exact h
theorem viewStore_le {p : Program} {w w' : World} {at_ : Addr} {u : TypeId} {k : Addr} {v : Value} {b : Bool} {l : List Addr} (h : w.viewStore p at_ u k v b = .ok (w', l)) : w'.drawn = w.drawn := by
 unfold World.viewStore at h
 simp only [bind, Except.bind, pure, Except.pure] at h
 repeat' (split at h)
 all_goals first | cases h; rfl | cases h
theorem farStore_le {p : Program} {w w' : World} {a : Addr} {v : Value} {b : Bool} {l : List Addr} (h : w.farStore p a v b = .ok (w', l)) : w'.drawn = w.drawn := by
 unfold World.farStore at h
 split at h
 · split at h
   · rename_i e
     cases h
     exact viewStore_le e
   · cases h
 · cases h
theorem run_le {α : Type} (p : Program) : ∀ (s : Sem α) (w : World), w.drawn ≤ (resW (s.run p w)).drawn
 | .pure a, w => by simp [Sem.run, resW]
 | .load m a k, w => by
   unfold Sem.run
   split
   · exact run_le p _ w
   · split
     · exact run_le p _ w
     · exact Nat.le_refl _
 | .store m a v k, w => by
   have hk := run_le p k
   cases v
   all_goals simp only [Sem.run]
   all_goals first
     | exact Nat.le_refl _
     | skip
   all_goals (
     cases w.cell? a with
     | some x =>
       dsimp only
       split
       · exact Nat.le_refl _
       · exact (show (w.setCell a _).drawn ≤ _ from hk (w.setCell a _))
     | none =>
       dsimp only
       split
       · rename_i e
         rw [← farStore_le e]
         exact hk _
       · exact Nat.le_refl _)
 | .new o k, w => by
   unfold Sem.run
   exact run_le p (k w.heap.size) { w with heap := w.heap.push o }
 | .shape r k, w => by
   unfold Sem.run
   exact run_le p _ w
 | .freeze a n k, w => by
   unfold Sem.run
   refine Nat.le_trans ?_ (run_le p k _)
   unfold World.freeze
   split <;> exact Nat.le_refl _
 | .frozen a k, w => by
   unfold Sem.run
   exact run_le p _ w
 | .getObj r k, w => by
   unfold Sem.run
   split
   · exact Nat.le_refl _
   · exact run_le p _ w
   · exact Nat.le_refl _
 | .setObj r o k, w => by
   unfold Sem.run
   split
   · exact Nat.le_refl _
   · exact run_le p k { w with heap := w.heap.setIfInBounds r o }
   · exact Nat.le_refl _
 | .choose q k, w => by
   unfold Sem.run
   split
   · exact run_le p _ w
   · exact Nat.le_trans (Nat.le_succ _) (run_le p _ { w with drawn := w.drawn + 1 })
 | .sys c k, w => by
   unfold Sem.run
   exact Nat.le_trans (sys_le c w) (run_le p _ _)
 | .program k, w => by
   unfold Sem.run
   exact run_le p _ w
 | .mark m k, w => by
   unfold Sem.run
   exact run_le p k w
 | .halt h, w => by simp [Sem.run, resW]
theorem runT_le {α : Type} (p : Program) (s : Sem α) (w : World) (es : Array Event) : w.drawn ≤ (resW (s.runT p w es).1).drawn := by
 rw [Sem.runT_fst]; exact run_le p s w
theorem run_ok {α : Type} {p : Program} {s : Sem α} {w w' : World} {a : α} (h : s.run p w = .ok a w') : w.drawn ≤ w'.drawn := by
 have := run_le p s w
 rwa [h] at this
theorem run_halt {α : Type} {p : Program} {s : Sem α} {w w' : World} {a : Halt} (h : s.run p w = .halt a w') : w.drawn ≤ w'.drawn := by
 have := run_le p s w
 rwa [h] at this
theorem runT_ok {α : Type} {p : Program} {s : Sem α} {w w' : World} {a : α} {es es' : Array Event} (h : s.runT p w es = (.ok a w', es')) : w.drawn ≤ w'.drawn := by
 have := runT_le p s w es
 rwa [h] at this
theorem runT_halt {α : Type} {p : Program} {s : Sem α} {w w' : World} {a : Halt} {es es' : Array Event} (h : s.runT p w es = (.halt a w', es')) : w.drawn ≤ w'.drawn := by
 have := runT_le p s w es
 rwa [h] at this
theorem fst_ok {α : Type} {p : Program} {s : Sem α} {w w' : World} {a : α} {es : Array Event} (h : (s.runT p w es).1 = .ok a w') : w.drawn ≤ w'.drawn := by
 have := runT_le p s w es
 rwa [h] at this
theorem fst_halt {α : Type} {p : Program} {s : Sem α} {w w' : World} {a : Halt} {es : Array Event} (h : (s.runT p w es).1 = .halt a w') : w.drawn ≤ w'.drawn := by
 have := runT_le p s w es
 rwa [h] at this
def gsW : GStep → World
 | .go _ w _ => w
 | .comm _ _ _ _ w _ => w
 | .spawn _ _ w _ => w
 | .count _ w _ => w
 | .timer _ _ w _ => w
 | .alone _ _ w _ => w
 | .newcoro _ _ _ w _ => w
 | .coroswitch _ _ _ w _ => w
 | .collect _ w _ => w
 | .watch _ w _ => w
 | .ended _ w _ => w
theorem gsW_after (es : Array Event) (s : GStep) : gsW (s.after es) = gsW s := by cases s <;> rfl
def Up (w : World) (s : GStep) : Prop := w.drawn ≤ (gsW s).drawn
theorem Up.after {w : World} {s : GStep} {es : Array Event} (h : Up w s) : Up w (s.after es) := by unfold Up; rw [gsW_after]; exact h
theorem Up.le {w w' : World} {s : GStep} (h : w.drawn ≤ w'.drawn) (hs : Up w' s) : Up w s := Nat.le_trans h hs
theorem Up.ite {w : World} {c : Prop} [Decidable c] {a b : GStep} (ha : Up w a) (hb : Up w b) : Up w (if c then a else b) := by split <;> assumption
theorem endWith_up (w : World) (fd : Nat) (text : ByteArray) (o : Outcome) : Up w (endWith w fd text o) := by
 unfold endWith
 have h := sys_le (.write fd text) w
 dsimp only
 split
 all_goals (rename_i e; rw [e] at h)
 · split <;> exact h
 · exact h
 · exact h
theorem dieOf_up (fr : Frame) (a : List ByteArray) (m : String) (b : Bool) (w : World) : Up w (dieOf fr a m b w) := Nat.le_refl _
theorem endThrow_up (fr : Frame) (m : String) (w : World) : Up w (endThrow fr m w) := Nat.le_refl _
theorem endPrinting_up (p : Program) (fr : Frame) (v : Value) (w : World) : Up w (endPrinting p fr v w) := by
 unfold endPrinting
 dsimp only
 split
 · exact endThrow_up ..
 · exact Nat.le_refl _
theorem endFatal_up (p : Program) (fr : Frame) (cs : List Frame) (d : Option Dying) (m : String) (w : World) : Up w (endFatal p fr cs d m w) := by
 unfold endFatal
 dsimp only
 split
 · rename_i e
   exact (dieOf_up ..).le (run_ok e)
 · rename_i e
   exact run_halt e
 · rename_i e
   exact run_halt e
theorem writeOn_up (p : Program) (fr : Frame) (d : Dying) (f : Fatal) (w : World) : Up w (writeOn p fr d f w) := by
 unfold writeOn
 dsimp only
 split
 · exact Nat.le_refl _
 · split
   all_goals (rename_i e; first | exact runT_ok e | exact runT_halt e)
theorem die_up (p : Program) (fr : Frame) (d : Dying) (w : World) : Up w (die p fr d w) := by
 unfold die
 split
 · exact writeOn_up ..
 · split
   · split
     · exact Nat.le_refl _
     · exact endWith_up ..
   · dsimp only
     split
     · exact Nat.le_refl _
     · split
       · rename_i e; exact run_ok e
       · rename_i e; exact run_halt e
     · refine Up.after ?_
       rename_i t recv name _
       have h := runT_le p (invoke (.fn (.method name) #[]) #[.iface t recv]) w #[]
       split
       all_goals (try (rename_i e; rw [e] at h))
       all_goals first | exact h | exact Up.le h (endPrinting_up p fr _ _) | exact Nat.le_refl _
     · exact Nat.le_refl _
theorem doReturn_up (p : Program) (main : Bool) (fr : Frame) (callers : List Frame) (dying : Option Dying) (v : Value) (w : World) : Up w (doReturn p main fr callers dying v w) := by
 unfold doReturn
 repeat' (first | exact Nat.le_refl _ | split)
theorem callDeferred_up (p : Program) (fr : Frame) (callers : List Frame) (dying : Option Dying) (d : Deferred) (w : World) : Up w (callDeferred p fr callers dying d w) := by
 unfold callDeferred
 refine Up.ite (Nat.le_refl _) ?_
 · have h := runT_le p (invoke d.target d.args) w #[]
   generalize (invoke d.target d.args).runT p w #[] = re at h
   obtain ⟨r, es⟩ := re
   dsimp only at h ⊢
   refine Up.after ?_
   split
   all_goals first
     | exact h
     | exact Up.le h (endFatal_up ..)
     | exact Up.le h (endThrow_up ..)
     | (split <;> exact h)
theorem unwind_up (p : Program) (main : Bool) (fr : Frame) (callers : List Frame) (dying : Option Dying) (w : World) : Up w (unwind p main fr callers dying w) := by
 unfold unwind
 split
 · rename_i block _ ds _
   have h := runT_le p (Instr.takeDeferred block) w #[]
   generalize (Instr.takeDeferred block).runT p w #[] = re at h
   obtain ⟨r, es⟩ := re
   dsimp only at h ⊢
   refine Up.after ?_
   split <;> exact h
 · exact callDeferred_up ..
 · split
   · exact Nat.le_refl _
   · split
     · exact Nat.le_refl _
     · split
       · exact Nat.le_refl _
       · split
         · split
           · exact Nat.le_refl _
           · split
             all_goals (rename_i e; first | exact run_ok e | exact run_halt e)
         · split
           · exact endPrinting_up ..
           · exact Nat.le_refl _
   · split
     · exact doReturn_up ..
     · rename_i fn _
       have h := runT_le p (results fn fr.tmps) w #[]
       generalize (results fn fr.tmps).runT p w #[] = re at h
       obtain ⟨r, es⟩ := re
       dsimp only at h ⊢
       refine Up.after ?_
       split
       · exact Up.le h (doReturn_up ..)
       · exact h
       · exact h
theorem early_up (p : Program) (fr : Frame) (callers : List Frame) (dying : Option Dying) (g : Nat) (w : World) : Up w (early p fr callers dying g w) := by
 unfold early
 have hn : ∀ w : World, Up w (match w.heap[g]? with
   | some (.pending c elem) => GStep.go { frame := fr, callers, status := .running, dying } { w with heap := w.heap.setIfInBounds g (.cells c elem) }
   | _ => .ended (.stuck "early: the variable does not wait" (fr.pos p)) w) := fun w => by
   split <;> exact Nat.le_refl _
 dsimp only
 split
 · exact hn w
 · split
   · exact Nat.le_refl _
   · split
     · exact hn w
     · split
       · exact hn w
       · split
         · exact Nat.le_refl _
         · exact Nat.le_refl _
         · exact Nat.le_refl _
         · exact hn w
         · split
           · exact Nat.le_refl _
           · split
             · exact hn w
             · have h := run_le p (choose (.early g)) w
               generalize (choose (.early g)).run p w = r at h
               split
               · exact Up.le h (hn _)
               · exact h
               · exact h
theorem apply_up (p : Program) (fr : Frame) (callers : List Frame) (dying : Option Dying) (s : Sem Next) (w : World) (listen : Bool) : Up w (stepG.apply p listen fr callers dying s w) := by
 unfold stepG.apply
 have h : w.drawn ≤ (resW (if listen = true then s.runT p w #[] else (s.run p w, #[])).1).drawn := by
   split
   · exact runT_le ..
   · exact run_le ..
 generalize (if listen = true then s.runT p w #[] else (s.run p w, #[])) = re at h
 obtain ⟨r, es⟩ := re
 dsimp only at h ⊢
 refine Up.after ?_
 split
 all_goals first
   | exact h
   | exact Up.le h (endFatal_up ..)
   | exact Up.le h (endThrow_up ..)
   | exact Up.le h (early_up ..)
   | exact Up.le h (Up.ite (endThrow_up ..) (Nat.le_refl _))
   | (split <;> first | exact h | exact Up.le h (endThrow_up ..))
theorem oper_up (p : Program) (fr : Frame) (callers : List Frame) (dying : Option Dying) (w : World) (listen : Bool) : Up w (stepG.oper p listen fr callers dying w) := by
 unfold stepG.oper
 split
 · exact Nat.le_refl _
 · split <;> exact apply_up ..
theorem exec_up (p : Program) (main : Bool) (fr : Frame) (callers : List Frame) (dying : Option Dying) (w : World) (listen : Bool) : Up w (stepG.exec p main listen fr callers dying w) := by
 unfold stepG.exec
 dsimp only
 have hel : ∀ (o : Option (List Item)) (x : GStep) (f : List Item → GStep), Up w x → (∀ l, Up w (f l)) → Up w (o.elim x f) := fun o x f hx hf => by
   cases o with
   | none => exact hx
   | some l => exact hf l
 split
 all_goals first
   | exact Nat.le_refl _
   | exact apply_up ..
   | exact Up.ite (oper_up ..) (Nat.le_refl _)
   | (split; exact Up.ite (Nat.le_refl _) (Nat.le_refl _); refine Up.after ?_; split; (rename_i e; exact Up.le (fst_ok e) (doReturn_up ..)); (rename_i e; exact fst_halt e))
   | (refine hel _ _ _ ?_ (fun _ => Nat.le_refl _); (split; exact Up.ite (Nat.le_refl _) (Nat.le_refl _); refine Up.after ?_; split; (rename_i e; exact Up.le (fst_ok e) (doReturn_up ..)); (rename_i e; exact fst_halt e)))
   | (refine Up.ite (Nat.le_refl _) ?_; split <;> (rename_i e; first | exact run_ok e | exact run_halt e))
   | (split <;> exact Nat.le_refl _)
   | (refine Up.after ?_; split <;> (rename_i e; first | exact Up.le (fst_ok e) (apply_up ..) | exact fst_ok e | exact fst_halt e))
   | skip
 · rename_i row _ _ _
   cases Extern.next row with
   | none => exact Nat.le_refl _
   | some e => exact apply_up ..
theorem stepG_up (p : Program) (main : Bool) (g : Goroutine) (w : World) (listen : Bool) : Up w (stepG p main g w listen) := by
 unfold stepG
 dsimp only
 split
 · exact die_up ..
 · exact exec_up ..
 · exact unwind_up ..
def UpS (w : World) : Stepped → Prop
 | .next m => w.drawn ≤ m.world.drawn
 | .ended _ _ => True
theorem UpS.le {w w' : World} {s : Stepped} (h : w.drawn ≤ w'.drawn) (hs : UpS w' s) : UpS w s := by
 cases s with
 | next m => exact Nat.le_trans h hs
 | ended o w => trivial
theorem communicate_up (p : Program) (rest : Rest) (gs : Array Goroutine) (i : Nat) (g : Goroutine) (cases : Array CommCase) (blocking : Bool) (shape : CommShape) (w : World) : UpS w (communicate p rest gs i g cases blocking shape w).1 := by
 unfold communicate
 dsimp only
 split
 · trivial
 · split
   · split
     · unfold waitingAt
       split
       · rename_i e
         split at e
         · split at e
           · cases e; exact Nat.le_refl _
           · cases e
         · cases e; exact Nat.le_refl _
       · trivial
     · exact Nat.le_refl _
   · split
     · trivial
     · rename_i e
       have h := run_ok e
       split
       · split
         · rename_i e2
           exact Nat.le_trans h (run_halt e2)
         · trivial
       · exact h
       · exact h
       · split
         · exact h
         · split
           · rename_i e2
             have h2 := run_ok e2
             exact Nat.le_trans h h2
           · trivial
       · exact h
       · exact h
       · trivial
theorem retime_up (m : Machine) (k : Nat) (t : Timer) (a b : Nat) : (retime m k t a b).2.world.drawn = m.world.drawn := by
 unfold retime
 dsimp only
 cases t.chan with
 | none => rfl
 | some c =>
   dsimp only
   unfold drain
   split <;> rfl
theorem timerOp_up {m m' : Machine} {op : TimerOp} {v : Value} (h : timerOp m op = .ok (v, m')) : m'.world.drawn = m.world.drawn := by
 unfold timerOp at h
 have hn : ∀ (m0 : Machine) (var : Addr) (f : Nat → Timer → Value × Machine), (∀ k t, (f k t).2.world.drawn = m.world.drawn) → timerOp.named m0 var f = .ok (v, m') → m'.world.drawn = m.world.drawn := fun m0 var f hf h => by
   unfold timerOp.named at h
   split at h
   · rename_i k _
     have := hf k (m0.rest.timers.getD k default)
     injection h with h
     rw [h] at this
     exact this
   · cases h
 split at h
 · split at h
   · cases h; rfl
   · split at h
     · split at h
       · cases h
       · cases h; rfl
     · cases h
 · exact hn _ _ _ (fun k t => retime_up ..) h
 · split at h
   · rename_i m1 e
     refine hn _ _ _ (fun k t => (retime_up ..).trans ?_) h
     unfold timerOp.opened at e
     split at e
     · split at e
       · cases e; rfl
       · cases e
     · cases e; rfl
   · cases h
 · cases h; rfl
theorem serve_up (p : Program) (m : Machine) (k : Nat) : UpS m.world (serve p m k) := by
 unfold serve
 split
 · trivial
 · exact Nat.le_refl _
 · dsimp only
   split
   · trivial
   · exact Nat.le_refl _
theorem look_up (p : Program) (gs : Array Goroutine) (rest : Rest) (w : World) : UpS w (Go.look p gs rest w) := by
 unfold Go.look
 split
 · dsimp only
   split
   · trivial
   · split
     · trivial
     · split
       · rename_i e
         have h2 := run_ok e
         exact h2
       · trivial
       · trivial
 · trivial
theorem step_runT_up (p : Program) (m : Machine) (i : Nat) (listen : Bool) : UpS m.world (Go.runT p m i listen).1 := by
 unfold Go.runT
 dsimp only
 generalize m.gs.swapAt! i _ = sw
 obtain ⟨g, gs⟩ := sw
 dsimp only
 have h := stepG_up p (i == 0) g m.world listen
 generalize stepG p (i == 0) g m.world listen = s at h
 unfold Up at h
 split
 · trivial
 · exact UpS.le h (communicate_up ..)
 · exact h
 · exact h
 · dsimp only
   split
   · trivial
   · exact h
 · exact h
 · exact UpS.le h (look_up ..)
 · exact h
 · exact h
 · dsimp only
   split
   · exact h
   · split
     · rename_i e
       unfold endThrow dieOf at e
       cases e
       exact h
     · trivial
   · trivial
 · dsimp only
   split
   · rename_i e
     have := timerOp_up e
     exact Nat.le_trans h (Nat.le_of_eq this.symm)
   · split
     · rename_i e
       unfold endThrow dieOf at e
       cases e
       exact h
     · trivial
   · trivial
   · trivial
def UpM (w : World) : Move → Prop
 | .goroutine m _ => w.drawn ≤ m.world.drawn
 | .machine s _ => UpS w s
theorem UpM.le {w w' : World} {s : Move} (h : w.drawn ≤ w'.drawn) (hs : UpM w' s) : UpM w s := by
 cases s with
 | goroutine m i => exact Nat.le_trans h hs
 | machine s o => exact UpS.le h hs
theorem pick_up (p : Program) (m : Machine) (rs : List Nat) : UpM m.world (match (choose (.sched rs.length)).run p m.world with
     | .halt _ w => Move.machine (.ended (.stuck "sched" "") w)
     | .ok k world =>
       if rs.length ≤ 1 then .goroutine { m with world } (rs.getD k 0) else
       match (choose (.extern "sched.slice" 65536)).run p world with
       | .halt _ w => .machine (.ended (.stuck "sched.slice" "") w)
       | .ok n world => .goroutine { m with world, rest := { m.rest with slice := if n = 0 then none else some (rs.getD k 0, n) } } (rs.getD k 0)) := by
 split
 · trivial
 · rename_i e
   have h := run_ok e
   split
   · exact h
   · split
     · trivial
     · rename_i e2
       have h2 := run_ok e2
       exact Nat.le_trans h h2
theorem askOn_up (p : Program) (m : Machine) : UpM m.world (askOn p m) := by
 unfold askOn
 dsimp only
 split
 · trivial
 · rename_i k world e
   have h := run_ok e
   split
   · refine UpS.le (w' := world) h ?_
     exact serve_up p { m with world } _
   · split
     · split
       · exact h
       · split
         · exact h
         · split <;> trivial
     · split
       · exact UpM.le (w' := world) h (pick_up p { m with world } _)
       · split
         · trivial
         · rename_i w2 e2
           have h2 := run_ok e2
           exact UpM.le (w' := w2) (Nat.le_trans h h2) (pick_up p { m with world := w2 } _)
         · rename_i w2 e2
           have h2 := run_ok e2
           exact Nat.le_trans h h2
         · rename_i w2 e2
           have h2 := run_ok e2
           exact UpM.le (w' := w2) (Nat.le_trans h h2) (pick_up p (({ m with world := w2 } : Machine).advanceTo _) _)
theorem ask_up (p : Program) (m : Machine) : UpM m.world (ask p m) := by
 unfold ask
 split
 · split
   · trivial
   · rename_i world e
     have h := run_ok e
     have hl := look_up p m.gs m.rest world
     split
     · rename_i m2 e2
       rw [e2] at hl
       exact UpM.le (Nat.le_trans h hl) (askOn_up p m2)
     · rename_i hne
       generalize Go.look p m.gs m.rest world = s at hl hne
       cases s with
       | next m2 => exact absurd rfl (hne m2)
       | ended o w => trivial
   · rename_i world _ e
     have h := run_ok e
     exact UpM.le (w' := world) h (askOn_up p { m with world })
 · exact askOn_up p m
theorem move_up (p : Program) (m : Machine) : UpM m.world (move p m) := by
 unfold move
 split
 · split
   · exact Nat.le_refl _
   · trivial
 · split
   · split
     · exact Nat.le_refl _
     · exact ask_up p { m with rest := { m.rest with slice := none } }
   · exact ask_up p m
theorem step_up (p : Program) (m : Machine) : UpS m.world (step p m) := by
 unfold step stepT
 have h := move_up p m
 generalize move p m = mv at h
 cases mv with
 | goroutine m2 i => exact UpS.le h (step_runT_up p m2 i true)
 | machine s o => exact h
theorem runN_up (p : Program) : ∀ (n : Nat) (m m' : Machine), runN p n m = .next m' → m.world.drawn ≤ m'.world.drawn
 | 0, m, m', h => by
   cases h
   exact Nat.le_refl _
 | n + 1, m, m', h => by
   unfold runN at h
   have hs := step_up p m
   generalize step p m = s at h hs
   cases s with
   | next m2 => exact Nat.le_trans hs (runN_up p n m2 m' h)
   | ended o w => cases h
theorem Calls.drawn {P : Program} {f : FuncId} {args : Array Value} {w : World} {R : Ending → World → Prop} (h : Calls P f args w R) : Calls P f args w fun e w' => R e w' ∧ ((∃ v, e = .returned v) → w.drawn ≤ w'.drawn) := by
 intro cs
 obtain ⟨e, w', fr, hR, hc, hf, hl⟩ := h cs
 refine ⟨e, w', fr, ⟨hR, ?_⟩, hc, hf, hl⟩
 rintro ⟨v, rfl⟩
 obtain ⟨n, hn⟩ := hc
 exact runN_up P n _ _ hn
end Go.Pv
namespace Go.Pv
section
variable {κ ν : Type} [DecidableEq κ] (kv : κ → IV) (vv : ν → IV)
def mkL (m : List (κ × ν)) : List (IV × IV) := m.map fun p => (kv p.1, vv p.2)
def lookL : List (κ × ν) → κ → Option ν
 | [], _ => none
 | p :: m, k => if p.1 = k then some p.2 else lookL m k
def putL : List (κ × ν) → κ → ν → List (κ × ν)
 | [], k, v => [(k, v)]
 | p :: m, k, v => if p.1 = k then (p.1, v) :: m else p :: putL m k v
variable {kv vv} (he : ∀ a b, eqI (kv a) (kv b) = decide (a = b))
include he
theorem look_mkL (k : κ) : ∀ m : List (κ × ν), lookM (mkL kv vv m) (kv k) = (lookL m k).map vv
 | [] => rfl
 | p :: m => by
   show (if eqI (kv p.1) (kv k) = true then _ else lookM (mkL kv vv m) (kv k)) = _
   rw [he, lookL]
   by_cases h : p.1 = k
   · rw [decide_eq_true h, if_pos rfl, if_pos h]; rfl
   · rw [decide_eq_false h, if_neg (by simp), if_neg h]; exact look_mkL k m
theorem put_mkL (k : κ) (v : ν) : ∀ m : List (κ × ν), putM (mkL kv vv m) (kv k) (vv v) = mkL kv vv (putL m k v)
 | [] => rfl
 | p :: m => by
   show (if eqI (kv p.1) (kv k) = true then _ else _ :: putM (mkL kv vv m) (kv k) (vv v)) = _
   rw [he, putL]
   by_cases h : p.1 = k
   · rw [decide_eq_true h, if_pos rfl, if_pos h]; rfl
   · rw [decide_eq_false h, if_neg (by simp), if_neg h, put_mkL k v m]; rfl
omit he
theorem lookL_put (k k' : κ) (v : ν) : ∀ m : List (κ × ν), lookL (putL m k v) k' = if k = k' then some v else lookL m k'
 | [] => rfl
 | p :: m => by
   rw [putL]
   by_cases h : p.1 = k
   · rw [if_pos h, lookL, lookL, ← h]
     by_cases h2 : p.1 = k'
     · rw [if_pos h2]; exact (if_pos h2).symm
     · rw [if_neg h2, if_neg h2]; exact (if_neg h2).symm
   · rw [if_neg h, lookL, lookL, lookL_put k k' v m]
     by_cases h2 : p.1 = k'
     · rw [if_pos h2, if_pos h2, if_neg (fun e => h (by rw [h2, e]))]
     · rw [if_neg h2, if_neg h2]
theorem putL_new {k : κ} {v : ν} : ∀ {m : List (κ × ν)}, lookL m k = none → putL m k v = m ++ [(k, v)]
 | [], _ => rfl
 | p :: m, h => by
   rw [lookL] at h
   split at h
   · cases h
   · rename_i hne
     rw [putL, if_neg hne, putL_new h]; rfl
theorem lookL_mem {k : κ} {v : ν} : ∀ {m : List (κ × ν)}, lookL m k = some v → (k, v) ∈ m
 | [], h => by cases h
 | p :: m, h => by
   rw [lookL] at h
   split at h
   · rename_i e
     injection h with h
     rw [← h, ← e]
     exact List.mem_cons_self
   · exact List.mem_cons_of_mem _ (lookL_mem h)
theorem lookL_none {k : κ} : ∀ {m : List (κ × ν)}, lookL m k = none ↔ k ∉ m.map Prod.fst
 | [] => by simp [lookL]
 | p :: m => by
   rw [lookL]
   by_cases h : p.1 = k
   · simp [h]
   · rw [if_neg h, lookL_none (m := m)]
     simp only [List.map_cons, List.mem_cons, not_or]
     exact ⟨fun h2 => ⟨fun e => h e.symm, h2⟩, fun h2 => h2.2⟩
def itLL (kv : κ → IV) (vv : ν → IV) (f : Bool) (q : κ × ν) (R : List (κ × ν)) : List (IV × IV) := match f with
 | false => mkL kv vv R
 | true => (kv q.1, vv q.2) :: mkL kv vv R
omit [DecidableEq κ] in
theorem left_itLL (f : Bool) (q : κ × ν) (R : List (κ × ν)) : leftI f (itLL kv vv f q R) = mkL kv vv R := by cases f <;> rfl
omit [DecidableEq κ] in
theorem mkL_erase : ∀ (R : List (κ × ν)) (i : Nat), (mkL kv vv R).eraseIdx i = mkL kv vv (R.eraseIdx i)
 | [], _ => rfl
 | _ :: _, 0 => rfl
 | p :: R, i + 1 => by
   show (kv p.1, vv p.2) :: (mkL kv vv R).eraseIdx i = _ :: mkL kv vv (R.eraseIdx i)
   rw [mkL_erase R i]
omit [DecidableEq κ] in
theorem mkL_none {R : List (κ × ν)} (h : mkL kv vv R = []) : R = [] := by
 cases R with
 | nil => rfl
 | cons _ _ => cases h
omit [DecidableEq κ] in
theorem mkL_at {R : List (κ × ν)} {i : Nat} {p : IV × IV} (h : (mkL kv vv R)[i]? = some p) : ∃ q, R[i]? = some q ∧ p = (kv q.1, vv q.2) := by
 unfold mkL at h
 rw [List.getElem?_map] at h
 cases hq : R[i]? with
 | none => rw [hq] at h; cases h
 | some q => rw [hq] at h; exact ⟨q, rfl, (Option.some.inj h).symm⟩
end
theorem erase_permL {α : Type} : ∀ {l : List α} {i : Nat} {x : α}, l[i]? = some x → (x :: l.eraseIdx i).Perm l
 | [], _, _, h => by simp at h
 | a :: l, 0, x, h => by
   obtain rfl : a = x := by simpa using h
   exact List.Perm.refl _
 | a :: l, i + 1, x, h => by
   have := erase_permL (l := l) (i := i) (by simpa using h)
   exact (List.Perm.swap a x _).trans (this.cons a)
def kv2 (k : Int × Int) : IV := .agg [.int .i64 k.1, .int .i64 k.2]
theorem eqI_kv2 (a b : Int × Int) : eqI (kv2 a) (kv2 b) = decide (a = b) := by
 obtain ⟨a1, a2⟩ := a
 obtain ⟨b1, b2⟩ := b
 show (decide (a1 = b1) && (decide (a2 = b2) && true)) = _
 rw [Bool.and_true, Bool.eq_iff_iff]
 simp
end Go.Pv
