/-
  In force: which enacted items decide on the days of an amendment (of no program but for the names). In force: the tables of types; slices.Concat; the rules of the acts and of the enacted items.
-/
import Derived.Test.YtfjibfdelbodjaaGreatGe
import Derived.Test.YtfjibfdelbodjaaGreatWAk
import Derived.Test.YtfjibfdelbodjaaGreatGrE
import Derived.Test.YtfjibfdelbodjaaGreatP7
namespace Go.Proofs.YtfjibfdelbodjaaGreat.Po
open Go Go.Pv Go.RowKit
set_option linter.unusedSimpArgs false
open Lab Lcs Go.Proofs.YtfjibfdelbodjaaGreat Go.Proofs.YtfjibfdelbodjaaGreat.Pu
set_option maxRecDepth 10000
def enP (d:Ei):Pe.En:=⟨d.act,d.item,d.day,⟨d.it.kind,(imI d.it).m,⟨d.it.sk,d.it.sd,d.it.se⟩,d.it.a,d.it.i,d.it.d,d.it.ev,(imI d.it).b⟩⟩
theorem NY (l:List Ei):l.map eiv=(l.map enP).map Pe.cu:=by rw[List.map_map];rfl
def Qh (d:Ei):Bool:=decide (d.it.kind=10)
def Bu (d:Ei):Bool:=decide (d.it.kind=7∨d.it.kind=8∨d.it.kind=9)
def uE (n:Int) (d:Ei):Bool:=Bu d&&decide (d.it.a=n)
def evs (D:List Ei):List Ei:=D.filter Qh
def Di (n:Int) (D:List Ei):List Ei:=D.filter (uE n)
theorem P8 (name:Str) (n:Int) (D:List Ei):Pe.evD name ((evs D++Di n D).map enP)=Pe.evD name (D.map enP):=by
 unfold Pe.evD
 rw[List.find?_map,List.find?_map,List.find?_append]
 have h1:(evs D).find? (Pe.dq name ∘ enP)=D.find? (Pe.dq name ∘ enP):=by
  unfold evs
  rw[List.find?_filter]
  congr 1
  funext d
  have hd:(Pe.dq name ∘ enP) d=(decide (d.it.kind=10)&&decide (d.it.ev=name)):=rfl
  rw[hd,Bool.eq_iff_iff]
  unfold Qh
  simp only[Bool.and_eq_true,decide_eq_true_eq]
  exact⟨fun h=>h.2,fun h=>⟨h.1,h⟩⟩
 have h2:(Di n D).find? (Pe.dq name ∘ enP)=none:=by
  unfold Di
  rw[List.find?_filter,List.find?_eq_none]
  intro d _
  have hd:(Pe.dq name ∘ enP) d=(decide (d.it.kind=10)&&decide (d.it.ev=name)):=rfl
  rw[hd]
  unfold uE Bu
  simp only[Bool.and_eq_true,decide_eq_true_eq]
  omega
 rw[h1,h2]
 cases D.find? (Pe.dq name ∘ enP)<;>rfl
theorem zn {α β:Type} {f:α→β→α}:∀{l:List β} {a:α},(∀b∈l,∀a,f a b=a)→l.foldl f a=a
 |[],_,_=>rfl
 |b::l,a,h=>by rw[List.foldl_cons,h b List.mem_cons_self a];exact zn fun c hc=>h c (List.mem_cons_of_mem _ hc)
theorem fold_filter {α β:Type} {f:α→β→α} {p:β→Bool}:∀{l:List β} {a:α},(∀b∈l,p b=false→∀a,f a b=a)→(l.filter p).foldl f a=l.foldl f a
 |[],_,_=>rfl
 |b::l,a,h=>by
  have ih:=fun a=>fold_filter (f:=f) (p:=p) (l:=l) (a:=a) fun c hc=>h c (List.mem_cons_of_mem _ hc)
  cases hb:p b with
  |true=>rw[List.filter_cons_of_pos hb,List.foldl_cons,List.foldl_cons,ih]
  |false=>rw[List.filter_cons_of_neg (by rw[hb];simp),List.foldl_cons,h b List.mem_cons_self hb,ih]
theorem Fw {d x:Ei} (hx:uE d.act x=false) (P:Int→Bool):Pe.jZ (enP d) P (enP x)=P:=by
 unfold Pe.jZ
 split
 ·rename_i hr
  have hr:Pe.refers (enP x).it d.act d.item=true:=hr
  unfold Pe.refers at hr
  have hk:(enP x).it.kind=x.it.kind:=rfl
  have ha:(enP x).it.a=x.it.a:=rfl
  rw[hk,ha]at hr
  rw[hk]
  unfold uE Bu at hx
  split at hr
  ·rename_i h7
   rw[Bool.and_eq_true]at hr
   rw[decide_eq_true h7,hr.1]at hx
   cases hx
  ·split at hr
   ·rename_i h11
    rw[if_neg (by omega),if_pos h11]
   ·cases hr
 ·rfl
theorem LY (d:Ei) (D:List Ei) (P:Int→Bool):Pe.jF P (enP d) ((evs D++Di d.act D).map enP)=Pe.jF P (enP d) (D.map enP):=by
 unfold Pe.jF
 rw[List.map_append,List.foldl_append,List.foldl_map,List.foldl_map,List.foldl_map]
 rw[zn (l:=evs D) (fun x hx a=>Fw (by
  have h:=(List.mem_filter.1 hx).2
  unfold Qh at h
  unfold uE Bu
  have h:=of_decide_eq_true h
  rw[h];rfl) a)]
 exact fold_filter fun x _ hx a=>Fw hx a
theorem KC (s:Pe.St) (d:Ei) (D:List Ei):Pe.bC s (enP d) ((evs D++Di d.act D).map enP)=Pe.bC s (enP d) (D.map enP):=by
 unfold Pe.bC Pe.stD
 rw[LY,P8]
theorem zT (s:Pe.St) (e:Pe.En) (l:List Pe.En):(Pe.bC s e l).length≤1+l.length:=by
 unfold Pe.bC
 split
 ·exact (Pe.kW (e:=e) (l:=l) (Pe.jL (Pe.stD (Pe.uK s e.it.st) l))).2
 ·simp
def stO (o:Option Ac):Pe.St:=match o with
 |some a=>⟨a.sk,a.sd,a.se⟩
 |none=>⟨0,0,⟨#[]⟩⟩
def stA (A:List Ac) (n:Int):Pe.St:=stO (A.find? fun a=>decide (a.num=n))
noncomputable def cK (A:List Ac) (D:List Ei) (d:Ei):List Spans.Sp:=Pe.bC (stA A d.act) (enP d) (D.map enP)
theorem o7 (A:List Ac) (D:List Ei) (d:Ei):(cK A D d).length≤1+D.length:=by
 have:=zT (stA A d.act) (enP d) (D.map enP)
 rw[List.length_map]at this
 exact this
def stM (m:AcM) (A:List Ac):AcM:=A.foldl (fun m a=>cB m a.num a) m
theorem DC (n:Int):∀(A:List Ac) (m:AcM),(A.map Ac.num).Nodup→aP (stM m A) n=(A.find? fun a=>decide (a.num=n)).or (aP m n)
 |[],m,_=>rfl
 |a::A,m,h=>by
  rw[List.map_cons,List.nodup_cons]at h
  show aP (stM (cB m a.num a) A) n=_
  rw[DC n A _ h.2,eX,List.find?_cons]
  by_cases hn:a.num=n
  ·rw[decide_eq_true hn,if_pos hn]
   have:A.find? (fun a=>decide (a.num=n))=none:=by
    rw[List.find?_eq_none]
    intro x hx hd
    exact h.1 (hn ▸ (of_decide_eq_true hd) ▸ List.mem_map_of_mem hx)
   rw[this]
   rfl
  ·rw[decide_eq_false hn,if_neg hn]
abbrev OrM:=List (Int×List Ei)
def getD' (m:OrM) (n:Int):List Ei:=(aP m n).getD []
def yI (m:OrM) (d:Ei):OrM:=if Bu d=true then cB m d.it.a (getD' m d.it.a++[d]) else m
def orM (m:OrM) (D:List Ei):OrM:=D.foldl yI m
theorem qA (n:Int):∀(D:List Ei) (m:OrM),getD' (orM m D) n=getD' m n++Di n D
 |[],m=>by show _=_++[];rw[List.append_nil];rfl
 |d::D,m=>by
  show getD' (orM (yI m d) D) n=_
  rw[qA n D]
  unfold yI Di
  cases ho:Bu d with
  |false=>
   rw[List.filter_cons_of_neg (by unfold uE;rw[ho];simp)]
   rfl
  |true=>
   rw[if_pos rfl]
   by_cases hn:d.it.a=n
   ·rw[List.filter_cons_of_pos (by unfold uE;rw[ho,decide_eq_true hn];rfl)]
    have:getD' (cB m d.it.a (getD' m d.it.a++[d])) n=getD' m n++[d]:=by
     unfold getD'
     rw[eX,if_pos hn,hn];rfl
    rw[this,List.append_assoc];rfl
   ·rw[List.filter_cons_of_neg (by unfold uE;rw[decide_eq_false hn];simp)]
    have:getD' (cB m d.it.a (getD' m d.it.a++[d])) n=getD' m n:=by
     unfold getD'
     rw[eX,if_neg hn]
    rw[this]
end Go.Proofs.YtfjibfdelbodjaaGreat.Po
namespace Go.Proofs.YtfjibfdelbodjaaGreat.Po
open Go Go.Pv Go.RowKit
set_option linter.unusedSimpArgs false
open Lab Lcs Go.Proofs.YtfjibfdelbodjaaGreat Go.Proofs.YtfjibfdelbodjaaGreat.Pu
set_option maxRecDepth 10000
set_option maxHeartbeats 32000000
namespace F
theorem wZ:aJ Tryz.prog 3=some ⟨false,1,[.int .i64 0],.int .i64⟩:=by kernel_rfl
theorem kX:aJ Tryz.prog 9=some ⟨false,1,[.str ⟨#[]⟩],.str⟩:=by kernel_rfl
theorem ql:aJ Tryz.prog 4=some ⟨false,1,[.bool false],.bool⟩:=by kernel_rfl
theorem nR:aJ Tryz.prog 53=some ⟨false,1,[.nil],.slice 3 1 8⟩:=by kernel_rfl
theorem pV:aJ Tryz.prog 119=some ⟨true,2,[.int .i64 0,.str ⟨#[]⟩],.struct [(0,1,false),(1,1,false)]⟩:=by kernel_rfl
theorem lS:aJ Tryz.prog 33=some ⟨false,1,[.nil],.slice 119 2 24⟩:=by kernel_rfl
theorem mV:aJ Tryz.prog 40=some ⟨false,1,[.nil],.slice 9 1 16⟩:=by kernel_rfl
theorem gZ:aJ Tryz.prog 42=some ⟨true,3,[.int .i64 0,.int .i64 0,.str ⟨#[]⟩],.struct [(0,1,false),(1,1,false),(2,1,false)]⟩:=by kernel_rfl
theorem jC:aJ Tryz.prog 45=some ⟨true,25,[.int .i64 0,.nil,.nil,.int .i64 0,.int .i64 0,.int .i64 0,.int .i64 0,.int .i64 0,.int .i64 0,.str ⟨#[]⟩,.nil,.nil,.nil,.nil,.nil,.str ⟨#[]⟩,.str ⟨#[]⟩,.int .i64 0,.int .i64 0,.str ⟨#[]⟩,.int .i64 0,.int .i64 0,.int .i64 0,.str ⟨#[]⟩,.nil],.struct [(0,1,false),(1,1,false),(2,1,false),(3,1,false),(4,1,false),(5,8,true),(13,1,false),(14,1,false),(15,1,false),(16,1,false),(17,3,true),(20,1,false),(21,1,false),(22,1,false),(23,1,false),(24,1,false)]⟩:=by kernel_rfl
theorem l5:aJ Tryz.prog 43=some ⟨false,1,[.nil],.slice 45 25 368⟩:=by kernel_rfl
theorem dh:aJ Tryz.prog 47=some ⟨true,28,[.int .i64 0,.int .i64 0,.int .i64 0,.int .i64 0,.nil,.nil,.int .i64 0,.int .i64 0,.int .i64 0,.int .i64 0,.int .i64 0,.int .i64 0,.str ⟨#[]⟩,.nil,.nil,.nil,.nil,.nil,.str ⟨#[]⟩,.str ⟨#[]⟩,.int .i64 0,.int .i64 0,.str ⟨#[]⟩,.int .i64 0,.int .i64 0,.int .i64 0,.str ⟨#[]⟩,.nil],.struct [(0,1,false),(1,1,false),(2,1,false),(3,25,true)]⟩:=by kernel_rfl
theorem bY:aJ Tryz.prog 30=some ⟨false,1,[.nil],.slice 47 28 392⟩:=by kernel_rfl
theorem mE:aJ Tryz.prog 176=some ⟨false,1,[.nil],.slice 30 1 24⟩:=by kernel_rfl
theorem kK:aJ Tryz.prog 67=some ⟨true,2,[.int .i64 0,.int .i64 0],.struct [(0,1,false),(1,1,false)]⟩:=by kernel_rfl
theorem uH:aJ Tryz.prog 58=some ⟨false,1,[.nil],.slice 67 2 16⟩:=by kernel_rfl
theorem rX:aJ Tryz.prog 70=some ⟨true,7,[.int .i64 0,.str ⟨#[]⟩,.int .i64 0,.int .i64 0,.int .i64 0,.str ⟨#[]⟩,.nil],.struct [(0,1,false),(1,1,false),(2,1,false),(3,3,true),(6,1,false)]⟩:=by kernel_rfl
theorem nD:aJ Tryz.prog 71=some ⟨false,1,[.nil],.slice 70 7 88⟩:=by kernel_rfl
theorem kF:aJ Tryz.prog 74=some ⟨true,4,[.int .i64 0,.int .i64 0,.str ⟨#[]⟩,.nil],.struct [(0,1,false),(1,1,false),(2,1,false),(3,1,false)]⟩:=by kernel_rfl
theorem iH:aJ Tryz.prog 22=some ⟨false,1,[.nil],.slice 74 4 56⟩:=by kernel_rfl
theorem qC:aJ Tryz.prog 98=some ⟨false,1,[.nm],.map 3 42⟩:=by kernel_rfl
theorem jW:aJ Tryz.prog 99=some ⟨false,1,[.nm],.map 3 30⟩:=by kernel_rfl
theorem uN:aJ Tryz.prog 101=some ⟨true,3,[.nm,.nil,.nm],.struct [(0,1,false),(1,1,false),(2,1,false)]⟩:=by kernel_rfl
theorem pU:aJ Tryz.prog 78=some ⟨true,2,[.int .i64 0,.int .i64 0],.struct [(0,1,false),(1,1,false)]⟩:=by kernel_rfl
theorem l7:aJ Tryz.prog 26=some ⟨false,1,[.nil],.slice 78 2 16⟩:=by kernel_rfl
def tdl:List (TypeId×TD):=[(3,⟨false,1,[.int .i64 0],.int .i64⟩),(9,⟨false,1,[.str ⟨#[]⟩],.str⟩),(4,⟨false,1,[.bool false],.bool⟩),(53,⟨false,1,[.nil],.slice 3 1 8⟩),(119,⟨true,2,[.int .i64 0,.str ⟨#[]⟩],.struct [(0,1,false),(1,1,false)]⟩),(33,⟨false,1,[.nil],.slice 119 2 24⟩),(40,⟨false,1,[.nil],.slice 9 1 16⟩),(42,⟨true,3,[.int .i64 0,.int .i64 0,.str ⟨#[]⟩],.struct [(0,1,false),(1,1,false),(2,1,false)]⟩),(45,⟨true,25,[.int .i64 0,.nil,.nil,.int .i64 0,.int .i64 0,.int .i64 0,.int .i64 0,.int .i64 0,.int .i64 0,.str ⟨#[]⟩,.nil,.nil,.nil,.nil,.nil,.str ⟨#[]⟩,.str ⟨#[]⟩,.int .i64 0,.int .i64 0,.str ⟨#[]⟩,.int .i64 0,.int .i64 0,.int .i64 0,.str ⟨#[]⟩,.nil],.struct [(0,1,false),(1,1,false),(2,1,false),(3,1,false),(4,1,false),(5,8,true),(13,1,false),(14,1,false),(15,1,false),(16,1,false),(17,3,true),(20,1,false),(21,1,false),(22,1,false),(23,1,false),(24,1,false)]⟩),(43,⟨false,1,[.nil],.slice 45 25 368⟩),(47,⟨true,28,[.int .i64 0,.int .i64 0,.int .i64 0,.int .i64 0,.nil,.nil,.int .i64 0,.int .i64 0,.int .i64 0,.int .i64 0,.int .i64 0,.int .i64 0,.str ⟨#[]⟩,.nil,.nil,.nil,.nil,.nil,.str ⟨#[]⟩,.str ⟨#[]⟩,.int .i64 0,.int .i64 0,.str ⟨#[]⟩,.int .i64 0,.int .i64 0,.int .i64 0,.str ⟨#[]⟩,.nil],.struct [(0,1,false),(1,1,false),(2,1,false),(3,25,true)]⟩),(30,⟨false,1,[.nil],.slice 47 28 392⟩),(176,⟨false,1,[.nil],.slice 30 1 24⟩),(67,⟨true,2,[.int .i64 0,.int .i64 0],.struct [(0,1,false),(1,1,false)]⟩),(58,⟨false,1,[.nil],.slice 67 2 16⟩),(70,⟨true,7,[.int .i64 0,.str ⟨#[]⟩,.int .i64 0,.int .i64 0,.int .i64 0,.str ⟨#[]⟩,.nil],.struct [(0,1,false),(1,1,false),(2,1,false),(3,3,true),(6,1,false)]⟩),(71,⟨false,1,[.nil],.slice 70 7 88⟩),(74,⟨true,4,[.int .i64 0,.int .i64 0,.str ⟨#[]⟩,.nil],.struct [(0,1,false),(1,1,false),(2,1,false),(3,1,false)]⟩),(22,⟨false,1,[.nil],.slice 74 4 56⟩),(98,⟨false,1,[.nm],.map 3 42⟩),(99,⟨false,1,[.nm],.map 3 30⟩),(101,⟨true,3,[.nm,.nil,.nm],.struct [(0,1,false),(1,1,false),(2,1,false)]⟩),(78,⟨true,2,[.int .i64 0,.int .i64 0],.struct [(0,1,false),(1,1,false)]⟩),(26,⟨false,1,[.nil],.slice 78 2 16⟩)]
theorem lY:EW Tryz.prog tdl:=⟨wZ,kX,ql,nR,pV,lS,mV,gZ,jC,l5,dh,bY,mE,kK,uH,rX,nD,kF,iH,qC,jW,uN,pU,l7,trivial⟩
def QN:TypeId→Option (List CK):=fun t=>if t=78 then some [.int .i64,.int .i64] else eqs t
theorem aS:dW Tryz.prog QN:=fun t ks h=>by
 unfold QN at h
 split at h
 ·rename_i e;subst e
  exact qL _ ks (by rw[←h];kernel_rfl)
 ·exact ay t ks h
def nwF (f:FuncId):Nat:=bif Nat.beq f 45 then 1 else bif Nat.beq f 50 then 1 else bif Nat.beq f 59 then 3 else bif Nat.beq f 34 then 2 else bif Nat.beq f 44 then 1 else bif Nat.beq f 49 then 1 else 0
noncomputable def tbF (hk:Nat→Bool):Tb:=⟨Pv.look tdl,QN,fun _=>none,fun _=>[],hk,nwF⟩
theorem bB {hk:Nat→Bool}:∀t d,(tbF hk).td t=some d→aJ Tryz.prog t=some d:=Pv.look_ok lY
noncomputable abbrev dZ:Tb:=tbF fun _=>false
def iR (l:List (List IV)):Nat:=(l.map List.length).sum
theorem wN {l:List (List IV)} {k:Nat} {x:List IV} (h:l[k]?=some x):iR (l.take (k+1))=iR (l.take k)+x.length:=by
 unfold iR;rw[take_at h];simp
theorem FC {l:List (List IV)} (k:Nat):iR (l.take k)≤iR l:=by
 have:iR (l.take k)+iR (l.drop k)=iR l:=by unfold iR;rw[←List.sum_append,←List.map_append,List.take_append_drop]
 omega
theorem Lj {l:List (List IV)} {k:Nat} {x:List IV} (h:l[k]?=some x):(l.take (k+1)).flatten=(l.take k).flatten++x:=by
 rw[take_at h];simp
theorem nE:∀l:List (List IV),l.flatten.length=iR l
 |[]=>rfl
 |a::l=>by simp[iR]
theorem Gq (Vs:List IV) (Ls:List (List IV)) (hvl:Vs.length=Ls.length) (hV:∀(k:Nat) (x:List IV),Ls[k]?=some x→Vs[k]?=some (.sl 28 x)∨(Vs[k]?=some .nil∧x=[])) (hl:Ls.length≤1000) (hn:iR Ls≤100000000):PCR Tryz.prog aM 85 [.sl 1 Vs] 47 28 Ls.flatten:=by
 refine PCR.aj (T:=dZ) aS bB rfl mixed Tryz.func85 rfl rfl (Nat.le_of_ble_eq_true rfl) rfl ?_;intro Γ C WK LP fin h0 hW hC hB hR hLP hfin
 (try (conv=>whnf));(repeat ((first|refine qT ?_|refine qF ?_|refine qO ?_|(with_reducible intro z hz);(first|(replace hz:=hz (by omega);subst hz)|subst hz));(try (conv=>whnf))))
 refine hLP _ _ _ Nat (fun k=>⟨[(0,.imm (.sl 1 Vs)),(3,.imm (.int .i64 (iR (Ls.take k):Nat))),(9,.imm (.sl 1 Vs)),(10,.imm (.int .i64 (Ls.length:Nat))),(11,.imm (.int .i64 (k:Nat)))],[]⟩) (fun k=>k≤Ls.length) (fun k=>Ls.length - k) 0 (Nat.zero_le _) ((qSL 0 rfl rfl (hE:=by (repeat ((conv=>whnf);first|exact trivial|refine And.intro (by first|exact av.any|exact av.eq (by with_reducible rfl) rfl|exact av.eq (congrArg (fun z=>PV.imm (IV.int IntKind.i64 z)) (by first|omega|(simp[hvl];done)|(simp[hvl];omega))) rfl|exact av.eq (by first|(simp[hvl];done)|fail) rfl|exact av.eq rfl rfl|exact av.le rfl (ILe.nil _)) ?_))))) ?_
 intro k hk
 have hho:=Nat.lt_or_ge k Ls.length
 cases hho with
 |inl hlt=>
  obtain⟨x,hx⟩:∃x,Ls[k]?=some x:=⟨Ls[k],List.getElem?_eq_getElem hlt⟩
  have h1:=wN hx
  have h2:=FC (l:=Ls) (k+1)
  rcases hV k x hx with hv|⟨hv,rfl⟩
  ·(try (conv=>whnf));(repeat ((first|refine qT ?_|refine qF ?_|refine qO ?_|(with_reducible intro z hz);(first|(replace hz:=hz (by omega);subst hz)|subst hz));(try (conv=>whnf))))
   refine Idx.mk k (IV.sl 28 x) _ rfl (by simp[hv]) rfl ?_
   (try (conv=>whnf));(repeat ((first|refine qT ?_|refine qF ?_|refine qO ?_|(with_reducible intro z hz);(first|(replace hz:=hz (by omega);subst hz)|subst hz));(try (conv=>whnf))))
   exact⟨k+1,by omega,by dsimp only;omega,(qSL 0 rfl rfl)⟩
  ·rw[List.length_nil]at h1
   (try (conv=>whnf));(repeat ((first|refine qT ?_|refine qF ?_|refine qO ?_|(with_reducible intro z hz);(first|(replace hz:=hz (by omega);subst hz)|subst hz));(try (conv=>whnf))))
   refine Idx.mk k IV.nil _ rfl (by simp[hv]) rfl ?_
   (try (conv=>whnf));(repeat ((first|refine qT ?_|refine qF ?_|refine qO ?_|(with_reducible intro z hz);(first|(replace hz:=hz (by omega);subst hz)|subst hz));(try (conv=>whnf))))
   exact⟨k+1,by omega,by dsimp only;omega,(qSL 0 rfl rfl)⟩
 |inr hge=>
  obtain rfl:k=Ls.length:=by omega
  rw[List.take_length]
  have hG:=LD (X:=aM) (iR Ls) (by omega)
  (try (conv=>whnf));(repeat ((first|refine qT ?_|refine qF ?_|refine qO ?_|(with_reducible intro z hz);(first|(replace hz:=hz (by omega);subst hz)|subst hz));(try (conv=>whnf))))
  refine ah.row _ _ _ (hR _ _ _ _ _ (uM.of (hG))) (fun js hjs=>?_);subst hjs
  (try (conv=>whnf));(repeat ((first|refine qT ?_|refine qF ?_|refine qO ?_|(with_reducible intro z hz);(first|(replace hz:=hz (by omega);subst hz)|subst hz));(try (conv=>whnf))))
  refine hLP _ _ _ Nat (fun k=>⟨[(0,.imm (.sl 1 Vs)),(6,.row 0 1),(25,.imm (.sl 1 Vs)),(26,.imm (.int .i64 (Ls.length:Nat))),(27,.imm (.int .i64 (k:Nat)))],[.row 47 28 1 ((Ls.take k).flatten.map .imm)]⟩) (fun k=>k≤Ls.length) (fun k=>Ls.length - k) 0 (Nat.zero_le _) ((qSL 1 rfl rfl (hE:=by (repeat ((conv=>whnf);first|exact trivial|refine And.intro (by first|exact av.any|exact av.eq (by with_reducible rfl) rfl|exact av.eq (congrArg (fun z=>PV.imm (IV.int IntKind.i64 z)) (by first|omega|(simp[hvl];done)|(simp[hvl];omega))) rfl|exact av.eq (by first|(simp[hvl];done)|fail) rfl|exact av.eq rfl rfl|exact av.le rfl (ILe.nil _)) ?_))))) ?_
  intro k hk
  have hho:=Nat.lt_or_ge k Ls.length
  cases hho with
  |inl hlt=>
   obtain⟨x,hx⟩:∃x,Ls[k]?=some x:=⟨Ls[k],List.getElem?_eq_getElem hlt⟩
   have h1:=wN hx
   have h2:=FC (l:=Ls) (k+1)
   have hfl:=Lj hx
   have hlen:((Ls.take k).flatten.map PV.imm).length=iR (Ls.take k):=by rw[List.length_map,nE]
   rcases hV k x hx with hv|⟨hv,rfl⟩
   ·(try (conv=>whnf));(repeat ((first|refine qT ?_|refine qF ?_|refine qO ?_|(with_reducible intro z hz);(first|(replace hz:=hz (by omega);subst hz)|subst hz));(try (conv=>whnf))))
    refine Idx.mk k (IV.sl 28 x) _ rfl (by simp[hv]) rfl ?_
    (try (conv=>whnf));(repeat ((first|refine qT ?_|refine qF ?_|refine qO ?_|(with_reducible intro z hz);(first|(replace hz:=hz (by omega);subst hz)|subst hz));(try (conv=>whnf))))
    exact⟨k+1,by omega,by dsimp only;omega,((aC.row 0 ((Ls.take (k+1)).flatten.map .imm) rfl (by rw[hfl];simp))).trans ((aC.renew 0 1 rfl (by first|omega|(intro _;rw[hk0 _ _ rfl];exact Nat.le_of_ble_eq_true rfl)) (by repeat (first|exact trivial|refine And.intro (bA _ _ _ _) ?_|refine And.intro rfl ?_))).trans (qSL 1 rfl rfl))⟩
   ·rw[List.length_nil]at h1
    (try (conv=>whnf));(repeat ((first|refine qT ?_|refine qF ?_|refine qO ?_|(with_reducible intro z hz);(first|(replace hz:=hz (by omega);subst hz)|subst hz));(try (conv=>whnf))))
    refine Idx.mk k IV.nil _ rfl (by simp[hv]) rfl ?_
    (try (conv=>whnf));(repeat ((first|refine qT ?_|refine qF ?_|refine qO ?_|(with_reducible intro z hz);(first|(replace hz:=hz (by omega);subst hz)|subst hz));(try (conv=>whnf))))
    exact⟨k+1,by omega,by dsimp only;omega,((aC.row 0 ((Ls.take (k+1)).flatten.map .imm) rfl (by rw[hfl];simp))).trans ((aC.renew 0 1 rfl (by first|omega|(intro _;rw[hk0 _ _ rfl];exact Nat.le_of_ble_eq_true rfl)) (by repeat (first|exact trivial|refine And.intro (bA _ _ _ _) ?_|refine And.intro rfl ?_))).trans (qSL 1 rfl rfl))⟩
  |inr hge=>
   (try (conv=>whnf));(repeat ((first|refine qT ?_|refine qF ?_|refine qO ?_|(with_reducible intro z hz);(first|(replace hz:=hz (by omega);subst hz)|subst hz));(try (conv=>whnf))))
   obtain rfl:k=Ls.length:=by omega
   exact hfin _ _ _ _ ((aC.row 0 (Ls.flatten.map .imm) rfl (by rw[List.take_length]))) rfl
def stI (a:Ac):IV:=.agg [.int .i64 a.sk,.int .i64 a.sd,.str a.se]
def gL (l:List Ei):IV:=.sl 28 (l.map eiv)
theorem QG (m:OrM) (n:Int):(aP m n=none→iK (mkL kI gL m) (.int .i64 n)=none)∧∀l,aP m n=some l→∃i,iK (mkL kI gL m) (.int .i64 n)=some i∧(mkL kI gL m)[i]?=some (kI n,gL l):=by
 induction m with
 |nil=>exact⟨fun _=>rfl,(fun l h=>by cases h)⟩
 |cons p m ih=>
  have he:eqI (kI p.1) (.int .i64 n)=decide (p.1=n):=rfl
  show (_→(if eqI (kI p.1) (.int .i64 n) then some 0 else (iK (mkL kI gL m) (.int .i64 n)).map (·+1))=none)∧∀l,_→∃i,(if eqI (kI p.1) (.int .i64 n) then some 0 else (iK (mkL kI gL m) (.int .i64 n)).map (·+1))=some i∧_
  rw[he,aP]
  by_cases h:p.1=n
  ·rw[decide_eq_true h,if_pos h]
   refine⟨(fun h2=>by cases h2),fun l h2=>⟨0,rfl,?_⟩⟩
   injection h2 with h2
   rw[←h2,←h];rfl
  ·rw[decide_eq_false h,if_neg h]
   refine⟨fun h2=>by rw[if_neg (by simp),ih.1 h2];rfl,fun l h2=>?_⟩
   obtain⟨i,h3,h4⟩:=ih.2 l h2
   exact⟨i+1,by rw[if_neg (by simp),h3];rfl,by
    show (_::mkL kI gL m)[i+1]?=_
    rw[List.getElem?_cons_succ];exact h4⟩
theorem Ov {D:List Ei} {k:Nat} {d:Ei} (h:D[k]?=some d):evs (D.take (k+1))=if d.it.kind=10 then evs (D.take k)++[d] else evs (D.take k):=by
 unfold evs Qh
 rw[take_at h,List.filter_append]
 by_cases hk:d.it.kind=10
 ·rw[if_pos hk,List.filter_cons_of_pos (by simpa using hk)];rfl
 ·rw[if_neg hk,List.filter_cons_of_neg (by simpa using hk)];simp
theorem ME {D:List Ei} {k:Nat} {d:Ei} (h:D[k]?=some d):orM [] (D.take (k+1))=yI (orM [] (D.take k)) d:=by
 unfold orM
 rw[take_at h,List.foldl_append];rfl
theorem Mr {A:List Ac} {k:Nat} {a:Ac} (h:A[k]?=some a):stM [] (A.take (k+1))=cB (stM [] (A.take k)) a.num a:=by
 unfold stM
 rw[take_at h,List.foldl_append];rfl
theorem Am (A:List Ac) (D:List Ei) (hA:A.length≤1000) (hD:D.length≤1000):PCB Tryz.prog aM 59 [.imm (.sl 7 (A.map acv)),.imm (.sl 28 (D.map eiv))] [.dead 1,.dead 1] [.agg [.row 0 2,.imm (.sl 28 ((evs D).map eiv)),.row 1 2]] [.map (.int .i64) 2 (mkL kI stI (stM [] A)),.map (.int .i64) 2 (mkL kI gL (orM [] D))]:=by
 have hma:(A.map acv).length=A.length:=List.length_map _
 have hmd:(D.map eiv).length=D.length:=List.length_map _
 refine PCB.aj (T:=(tbF fun r=>Nat.beq r 16)) aS bB rfl mixed Tryz.func59 rfl rfl rfl (Nat.le_of_ble_eq_true rfl) rfl ?_;intro Γ C WK LP fin h0 hk0 hW hC hB hR hLP hfin
 have h03:Γ.n0=2:=h0
 (try (conv=>whnf));(repeat ((first|refine qT ?_|refine qF ?_|refine qO ?_|(with_reducible intro z hz);(first|(replace hz:=hz (by omega);subst hz)|subst hz));(try (conv=>whnf))))
 refine hLP _ _ _ Nat (fun k=>⟨[(1,.imm (.sl 28 (D.map eiv))),(4,.ptr 2 1 0),(5,.ptr 5 1 0),(13,.imm (.sl 7 (A.map acv))),(14,.imm (.int .i64 (A.length:Nat))),(15,.imm (.int .i64 (k:Nat)))],[.dead 1,.dead 1,.box 1 [.imm .nm,.imm .nil,.imm .nm],.map (.int .i64) 1 (mkL kI stI (stM [] (A.take k))),.map (.int .i64) 1 [],.box 1 [.row 3 1,.imm .nil,.row 4 1]]⟩) (fun k=>k≤A.length) (fun k=>A.length - k) 0 (Nat.zero_le _) ((qSL 6 rfl rfl (hE:=by (repeat ((conv=>whnf);first|exact trivial|refine And.intro (by first|exact av.any|exact av.eq (by with_reducible rfl) rfl|exact av.eq (congrArg (fun z=>PV.imm (IV.int IntKind.i64 z)) (by first|omega|(simp[hma];done)|(simp[hma];omega))) rfl|exact av.eq (by first|(simp[hma];done)|fail) rfl|exact av.eq rfl rfl|exact av.le rfl (ILe.nil _)) ?_))))) ?_
 intro k hk
 have hho:=Nat.lt_or_ge k A.length
 cases hho with
 |inl hlt=>
  refine (?_:∀Q:Exit→AS→Prop,vcS _ _ _ _ _ _ _ (dV _ _ _ _ _ _ Q)) _;intro Q
  obtain⟨a,ha⟩:∃a,A[k]?=some a:=⟨A[k],List.getElem?_eq_getElem hlt⟩
  have hst:=Mr ha
  generalize stM [] (A.take k)=M at *
  have hpa:dS (mkL kI stI M) (.int .i64 a.num) (stI a)=mkL kI stI (cB M a.num a):=lN (vv:=stI) nu a.num a M
  (try (conv=>whnf));(repeat ((first|refine qT ?_|refine qF ?_|refine qO ?_|(with_reducible intro z hz);(first|(replace hz:=hz (by omega);subst hz)|subst hz));(try (conv=>whnf))))
  refine Idx.mk k (acv a) _ rfl (by simp[ha]) rfl ?_
  (try (conv=>whnf));(repeat ((first|refine qT ?_|refine qF ?_|refine qO ?_|(with_reducible intro z hz);(first|(replace hz:=hz (by omega);subst hz)|subst hz));(try (conv=>whnf))))
  exact⟨k+1,by omega,by dsimp only;omega,by
   dsimp only[]
   rw[hst]
   exact (aC.qD 3 ((mkL kI stI (cB M a.num a))) rfl (by exact hpa)).trans (qSL 6 rfl rfl)⟩
 |inr hge=>
  obtain rfl:k=A.length:=by omega
  rw[List.take_length]
  generalize stM [] A=S0 at *
  (try (conv=>whnf));(repeat ((first|refine qT ?_|refine qF ?_|refine qO ?_|(with_reducible intro z hz);(first|(replace hz:=hz (by omega);subst hz)|subst hz));(try (conv=>whnf))))
  refine hLP _ _ _ Nat (fun k=>⟨[(4,.ptr 2 1 0),(5,.ptr 5 1 0),(26,.imm (.sl 28 (D.map eiv))),(27,.imm (.int .i64 (D.length:Nat))),(28,.imm (.int .i64 (k:Nat)))],[.dead 1,.dead 1,.box 1 [.imm .nm,.imm .nil,.imm .nm],.map (.int .i64) 1 (mkL kI stI S0),.map (.rows (.int .i64) 47 28 none) 1 (mkL kI gL (orM [] (D.take k))),.box 1 [.row 3 1,.row 6 1,.row 4 1],.row 47 28 1 (((evs (D.take k)).map eiv).map .imm)]⟩) (fun k=>k≤D.length) (fun k=>D.length - k) 0 (Nat.zero_le _) ((aC.Ij 4 47 28 rfl rfl).trans ((aC.BU 5 1 47 28 rfl rfl).trans (qSL 7 rfl rfl (hE:=by (repeat ((conv=>whnf);first|exact trivial|refine And.intro (by first|exact av.any|exact av.eq (by with_reducible rfl) rfl|exact av.eq (congrArg (fun z=>PV.imm (IV.int IntKind.i64 z)) (by first|omega|(simp[hmd];done)|(simp[hmd];omega))) rfl|exact av.eq (by first|(simp[hmd];done)|fail) rfl|exact av.eq rfl rfl|exact av.le rfl (ILe.nil _)) ?_)))))) ?_
  intro k hk
  have hho:=Nat.lt_or_ge k D.length
  cases hho with
  |inl hlt=>
   refine (?_:∀Q:Exit→AS→Prop,vcS _ _ _ _ _ _ _ (dV _ _ _ _ _ _ Q)) _;intro Q
   obtain⟨d,hd⟩:∃d,D[k]?=some d:=⟨D[k],List.getElem?_eq_getElem hlt⟩
   have hse:=Ov hd
   have hso:=ME hd
   have hel:(evs (D.take k)).length≤k:=Nat.le_trans (List.length_filter_le _ _) (by rw[List.length_take];omega)
   have hol:∀n,(getD' (orM [] (D.take k)) n).length≤k:=fun n=>by
    rw[qA]
    show (Di n (D.take k)).length≤k
    exact Nat.le_trans (List.length_filter_le _ _) (by rw[List.length_take];omega)
   generalize evs (D.take k)=E at *
   generalize orM [] (D.take k)=M at *
   have hlE:((E.map eiv).map PV.imm).length=E.length:=by simp
   by_cases h10:d.it.kind=10
   ·rw[if_pos h10]at hse
    have hso2:yI M d=M:=by unfold yI Bu;rw[decide_eq_false (by omega)];rfl
    rw[hso2]at hso
    (try (conv=>whnf));(repeat ((first|refine qT ?_|refine qF ?_|refine qO ?_|(with_reducible intro z hz);(first|(replace hz:=hz (by omega);subst hz)|subst hz));(try (conv=>whnf))))
    refine Idx.mk k (eiv d) _ rfl (by simp[hd]) rfl ?_
    (try (conv=>whnf));(repeat ((first|refine qT ?_|refine qF ?_|refine qO ?_|(with_reducible intro z hz);(first|(replace hz:=hz (by omega);subst hz)|subst hz));(try (conv=>whnf))))
    exact⟨k+1,by omega,by dsimp only;omega,by
     dsimp only[]
     rw[hse,hso]
     exact (aC.row 6 ((((E++[d]).map eiv).map .imm)) rfl (by simp[eiv])).trans ((aC.renew 6 1 rfl (by first|omega|(intro _;rw[hk0 _ _ rfl];exact Nat.le_of_ble_eq_true rfl)) (by repeat (first|exact trivial|refine And.intro (bA _ _ _ _) ?_|refine And.intro rfl ?_))).trans (qSL 7 rfl rfl))⟩
   ·rw[if_neg h10]at hse
    by_cases h7:d.it.kind=7∨d.it.kind=8∨d.it.kind=9
    ·have hso2:yI M d=cB M d.it.a (getD' M d.it.a++[d]):=by unfold yI Bu;rw[decide_eq_true h7];rfl
     rw[hso2]at hso
     obtain⟨hi0,hi1⟩:=QG M d.it.a
     have hpu:∀l:List Ei,dS (mkL kI gL M) (.int .i64 d.it.a) (gL l)=mkL kI gL (cB M d.it.a l):=fun l=>lN (vv:=gL) nu d.it.a l M
     cases hlk:aP M d.it.a with
     |none=>
      have hix:=hi0 hlk
      have hg:getD' M d.it.a=[]:=by unfold getD';rw[hlk];rfl
      rw[hg]at hso
      clear hpu hi0 hi1 hol hlk
      have hp:dS (mkL kI gL M) (.int .i64 d.it.a) (.sl 28 [eiv d])=mkL kI gL (cB M d.it.a ([]++[d])):=lN (vv:=gL) nu d.it.a [d] M
      rcases h7 with h7|h7|h7<;>(
      (try (conv=>whnf));(repeat ((first|refine qT ?_|refine qF ?_|refine qO ?_|(with_reducible intro z hz);(first|(replace hz:=hz (by omega);subst hz)|subst hz));(try (conv=>whnf))))
      refine Idx.mk k (eiv d) _ rfl (by simp[hd]) rfl ?_
      (try (conv=>whnf));(repeat ((first|refine qT ?_|refine qF ?_|refine qO ?_|(with_reducible intro z hz);(first|(replace hz:=hz (by omega);subst hz)|subst hz));(try (conv=>whnf))))
      refine hW _ _ _ (aC.refl _) ?_
      (try (conv=>whnf));(repeat ((first|refine qT ?_|refine qF ?_|refine qO ?_|(with_reducible intro z hz);(first|(replace hz:=hz (by omega);subst hz)|subst hz));(try (conv=>whnf))))
      refine bN.mk [eiv d] rfl ?_
      refine Owe.mk ⟨Nat.zero_lt_one,hix⟩ ?_
      (try (conv=>whnf));(repeat ((first|refine qT ?_|refine qF ?_|refine qO ?_|(with_reducible intro z hz);(first|(replace hz:=hz (by omega);subst hz)|subst hz));(try (conv=>whnf))))
      exact⟨k+1,by omega,by dsimp only;omega,by
       dsimp only[]
       rw[hse,hso]
       exact (aC.qD 4 ((mkL kI gL (cB M d.it.a ([]++[d])))) rfl (by exact hp)).trans (qSL 7 rfl rfl)⟩)
     |some l=>
      obtain⟨i,hix,hat⟩:=hi1 l hlk
      have hg:getD' M d.it.a=l:=by unfold getD';rw[hlk];rfl
      have hll:=hol d.it.a
      rw[hg]at hso hll
      have hp:=hpu (l++[d])
      have hlm:((l.map eiv).map PV.imm).length=l.length:=by simp
      clear hpu hi0 hi1 hol hlk hg
      rcases h7 with h7|h7|h7<;>(
      (try (conv=>whnf));(repeat ((first|refine qT ?_|refine qF ?_|refine qO ?_|(with_reducible intro z hz);(first|(replace hz:=hz (by omega);subst hz)|subst hz));(try (conv=>whnf))))
      refine Idx.mk k (eiv d) _ rfl (by simp[hd]) rfl ?_
      (try (conv=>whnf));(repeat ((first|refine qT ?_|refine qF ?_|refine qO ?_|(with_reducible intro z hz);(first|(replace hz:=hz (by omega);subst hz)|subst hz));(try (conv=>whnf))))
      refine hW _ _ _ (aC.spare.trans (aC.Dg 4 i 8 rfl hat rfl)) ?_
      (try (conv=>whnf));(repeat ((first|refine qT ?_|refine qF ?_|refine qO ?_|(with_reducible intro z hz);(first|(replace hz:=hz (by omega);subst hz)|subst hz));(try (conv=>whnf))))
      refine bN.mk ((l++[d]).map eiv) (by simp[eiv]) ?_
      refine Owe.mk ⟨by simp,hix⟩ ?_
      (try (conv=>whnf));(repeat ((first|refine qT ?_|refine qF ?_|refine qO ?_|(with_reducible intro z hz);(first|(replace hz:=hz (by omega);subst hz)|subst hz));(try (conv=>whnf))))
      exact⟨k+1,by omega,by dsimp only;omega,by
       dsimp only[]
       rw[hse,hso]
       exact (aC.qD 4 ((mkL kI gL (cB M d.it.a (l++[d])))) rfl (by exact hp)).trans (qSL 7 rfl rfl)⟩)
    ·have hso2:yI M d=M:=by unfold yI Bu;rw[decide_eq_false (by omega)];rfl
     rw[hso2]at hso
     (try (conv=>whnf));(repeat ((first|refine qT ?_|refine qF ?_|refine qO ?_|(with_reducible intro z hz);(first|(replace hz:=hz (by omega);subst hz)|subst hz));(try (conv=>whnf))))
     refine Idx.mk k (eiv d) _ rfl (by simp[hd]) rfl ?_
     (try (conv=>whnf));(repeat ((first|refine qT ?_|refine qF ?_|refine qO ?_|(with_reducible intro z hz);(first|(replace hz:=hz (by omega);subst hz)|subst hz));(try (conv=>whnf))))
     exact⟨k+1,by omega,by dsimp only;omega,by
      dsimp only[]
      rw[hse,hso]
      exact (qSL 7 rfl rfl)⟩
  |inr hge=>
   obtain rfl:k=D.length:=by omega
   rw[List.take_length]
   (try (conv=>whnf));(repeat ((first|refine qT ?_|refine qF ?_|refine qO ?_|(with_reducible intro z hz);(first|(replace hz:=hz (by omega);subst hz)|subst hz));(try (conv=>whnf))))
   exact hfin _ ((aC.frozen 6 ((evs D).map eiv) rfl (by first|rfl|simp) (ILe.refl _) (by repeat (first|exact trivial|refine And.intro (BK _ _ _ _) ?_|refine And.intro rfl ?_))).trans ((aC.rT 4 rfl rfl).trans ((aC.adopt 0 3 2 (by decide) rfl rfl (by rw[h0];exact Nat.le_of_ble_eq_true rfl) (by first|omega|(intro _;rw[hk0 _ _ rfl];exact Nat.le_of_ble_eq_true rfl)) (by repeat (first|exact trivial|refine And.intro (eD _ _ _ _ _) ?_|refine And.intro rfl ?_))).trans ((aC.adopt 1 4 2 (by decide) rfl rfl (by rw[h0];exact Nat.le_of_ble_eq_true rfl) (by first|omega|(intro _;rw[hk0 _ _ rfl];exact Nat.le_of_ble_eq_true rfl)) (by repeat (first|exact trivial|refine And.intro (eD _ _ _ _ _) ?_|refine And.intro rfl ?_))).trans (qSL 2 rfl rfl)))))
end F
end Go.Proofs.YtfjibfdelbodjaaGreat.Po
