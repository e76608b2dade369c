/-
  Plain values: structs and slices made, slices cut, appends, structs compared. Plain values: maps of the call's own. Plain values: calls, and the operations together. Plain values: regions, in order and in any order.
-/
import Derived.Test.YtfjibfdelbodjaaGreatP1
import Derived.Maps.AppendAt
import Derived.Lib.AppendStr
import Derived.Laws.StructEq
import Derived.ChangeMaps3
import Derived.Laws.MakeOwn
import Derived.WideKeyRuns
import Derived.Laws.BytesString
import Derived.Laws.Cells
import Derived.Lib.UnsafeStr
namespace Go.Pv
open Go.RowKit (Below)
theorem addr_add (b o j:Nat):(⟨b,o,none⟩:Addr).add j=⟨b,o+j,none⟩:=by
 unfold Addr.add
 split
 ·rename_i h;rw[h,Nat.add_zero]
 ·rfl
theorem Aj {P:Program} {u:TypeDesc} {fs:List (Nat×Nat×Bool)} (hk:kindOf P u=some (.struct fs)):∃fields:Array Field,u=.struct fields∧fieldsOf P fields.toList=some fs:=by
 unfold kindOf at hk
 split at hk<;>first|(cases hk;done)|(rename_i n e';cases hq:P.info? e'<;>rw[hq]at hk<;>cases hk;done)|skip
 ·rename_i fields
  cases hq:fieldsOf P fields.toList with
  |none=>rw[hq]at hk;cases hk
  |some gs=>
   rw[hq]at hk
   simp only[Option.map_some,Option.some.injEq,TK.struct.injEq]at hk
   subst hk
   exact⟨fields,rfl,hq⟩
theorem EG:∀(l:List Value) (off i:Nat) (cs:Array Value),off+i+l.length≤cs.size→
  ((l.zipIdx i).foldl (fun cs x=>cs.setIfInBounds (off+x.2) x.1) cs).toList=cs.toList.take (off+i)++l++cs.toList.drop (off+i+l.length)
 |[],off,i,cs,_=>by simp
 |v::l,off,i,cs,h=>by
  simp only[List.length_cons]at h
  simp only[List.zipIdx_cons,List.foldl_cons]
  rw[EG l off (i+1) _ (by simp;omega)]
  have hlt:off+i < cs.toList.length:=by rw[Array.length_toList];omega
  rw[Array.toList_setIfInBounds]
  have e1:(cs.toList.set (off+i) v).take (off+(i+1))=cs.toList.take (off+i)++[v]:=by
   rw[show off+(i+1)=off+i+1 by omega,List.take_succ_eq_append_getElem (by simpa using hlt)]
   rw[List.take_set_of_le (Nat.le_refl _)]
   simp
  have e2:(cs.toList.set (off+i) v).drop (off+(i+1)+l.length)=cs.toList.drop (off+i+(l.length+1)):=by
   rw[List.drop_set_of_lt (by omega)]
   congr 1
   omega
  rw[e1,e2]
  simp[List.length_cons]
theorem Dt {place:Nat→Option (Nat×Nat)} {cells:Array Value} {i off size:Nat} {v:Value} {rest:List (Nat×Value)} (hp:place i=some (off,size)) (hv:v.cells.size=size) (hf:off+size≤cells.size) :
  ∃cs:Array Value,cs.toList=cells.toList.take off++v.cells.toList++cells.toList.drop (off+size)∧Instr.fill place cells ((i,v)::rest)=Instr.fill place cs rest:=by
 refine⟨v.cells.zipIdx.foldl (fun cs (x:Value×Nat)=>cs.setIfInBounds (off+x.2) x.1) cells,?_,?_⟩
 ·rw[←Array.foldl_toList,Array.toList_zipIdx]
  have:=EG v.cells.toList off 0 cells (by rw[Array.length_toList];omega)
  simp only[Nat.add_zero,Array.length_toList,hv]at this
  exact this
 ·rw[Instr.fill,hp]
  simp only
  rw[if_neg (by rw[hv];simp;omega)]
section
variable {P:Program} {Γ:Ctx} {k:K} {w:World} {a:Act} {s:St} (hI:Inv Γ k s.B w) {look:Operand→PV} (hT:∀x,Rep k s.B.length w (look x) (a.eval x)) {o:Oper} {id:Nat} {get:Nat→Option Blk} {cr:List Orc} {out:Out} (hget:∀r b,get r=some b→s.B[r]?=some b)
include hI hT hget
omit hI hget in
theorem Gd {fs:List (Nat×Nat×Bool)}:∀(parts:List (Nat×Operand)) (cs out:List PV) (cells:Array Value),xP fs cs (parts.map fun x=>(x.1,look x.2))=some out→aT k s.B.length w cs cells.toList→
  ∃cells':Array Value,Instr.fill (fun i=>(fs[i]?).map fun x=>(x.1,x.2.1)) cells (parts.map fun x=>(x.1,a.eval x.2))=some cells'∧aT k s.B.length w out cells'.toList
 |[],cs,out,cells,h,hr=>by
  simp only[List.map_nil,xP,Option.some.injEq]at h
  subst h
  exact⟨cells,by simp[Instr.fill],hr⟩
 |(i,x)::r,cs,out,cells,h,hr=>by
  simp only[List.map_cons]at h
  unfold xP at h
  split at h
  ·rename_i fo fz fa ps hf hc
   split at h
   ·rename_i hle
    have hY:=eO (hT x) hc
    have hYl:ps.length=(a.eval x).cells.size:=by rw[fZ hY,Array.length_toList]
    have hlc:cs.length=cells.size:=by rw[fZ hr,Array.length_toList]
    obtain⟨cs1,e1,e2⟩:=Dt (place:=fun i=>(fs[i]?).map fun x=>(x.1,x.2.1)) (cells:=cells) (i:=i) (off:=fo) (size:=fz) (v:=a.eval x) (rest:=r.map fun x=>(x.1,a.eval x.2)) (by simp[hf]) (by omega) (by omega)
    obtain⟨cells',h1,h2⟩:=Gd r _ out cs1 h (by rw[e1];exact gB (gB (jr hr fo) hY) (jl hr _))
    refine⟨cells',?_,h2⟩
    simp only[List.map_cons]
    rw[e2]
    exact h1
   ·cases h
  ·cases h
omit hI hT hget in
theorem Ae:∀{l:List Field} {fs:List (Nat×Nat×Bool)},fieldsOf P l=some fs→l.mapM (fun f=>(P.info? f.type).map fun i=>(f.offset,i.size))=some (fs.map fun x=>(x.1,x.2.1))
 |[],fs,h=>by
  simp only[fieldsOf,Option.some.injEq]at h
  subst h
  rfl
 |x::r,fs,h=>by
  unfold fieldsOf at h
  split at h
  ·rename_i i u gs h1 h2 h3
   simp only[Option.some.injEq]at h
   subst h
   rw[List.mapM_cons,h1,Ae h3]
   rfl
  ·cases h
omit hget in
theorem Iz {t:TypeId} {parts:Array (Nat×Operand)} (ho:o.op=.build t parts) (h:ak P Γ.eqT o id look get cr=some out):Does P Γ k w a s.B o out:=by
 unfold ak at h
 simp only[ho]at h
 split at h
 ·rename_i ag sz0 zs fs hd
  cases hf:xP fs (zs.map .imm) (parts.toList.map fun x=>(x.1,look x.2)) with
  |none=>rw[hf]at h;cases h
  |some cs=>
   rw[hf]at h
   simp only[Option.bind_some,val,Option.some.injEq]at h
   subst h
   obtain⟨i,z,u,h1,h2,h3,h4,h5,_⟩:=aD hd
   obtain⟨fields,hu,hfs⟩:=Aj h5
   subst hu
   obtain⟨cells',g1,g2⟩:=Gd hT parts.toList (zs.map .imm) cs z.cells hf (nG (dL h4))
   refine au hI (v:=.agg cells') ?_ (mW (dx.2 ⟨cells'.toList,by simp,g2⟩))
   have hb:P.built t (parts.map fun x=>(x.1,a.eval x.2)).toList=some cells':=by
    unfold Program.built
    rw[h1,h2]
    simp only[h3,Ae hfs]
    rw[Array.toList_map,←g1]
    congr 1
    funext i
    simp
   have:=run_build (P:=P) w t _ cells' hb
   simp[execOp,ho,this]
 ·cases h
omit hI hget in
theorem zo {sz:Nat}:∀(parts:List (Nat×Operand)) (i:Nat) (ps:List PV) (cells:Array Value),su i (parts.map fun x=>(x.1,look x.2))=some ps→vQ sz ps=true→(i+ps.length)*sz≤cells.size→
  ∃(cells':Array Value) (xs:List Value),Instr.fill (fun i=>some (i*sz,sz)) cells (parts.map fun x=>(x.1,a.eval x.2))=some cells'∧cells'.toList=cells.toList.take (i*sz)++xs++cells.toList.drop ((i+ps.length)*sz)∧aL k s.B.length w sz ps xs∧xs.length=ps.length*sz
 |[],i,ps,cells,h,_,_=>by
  simp only[List.map_nil,su,Option.some.injEq]at h
  subst h
  exact⟨cells,[],by simp[Instr.fill],by simp,by simp[aL],by simp⟩
 |(j,x)::r,i,ps,cells,h,hs,hc=>by
  simp only[List.map_cons]at h
  unfold su at h
  split at h
  ·rename_i hij
   subst hij
   split at h
   ·rename_i qs hq
    simp only[Option.some.injEq]at h
    subst h
    unfold vQ at hs
    rw[Bool.and_eq_true]at hs
    obtain⟨hs1,hs2⟩:=hs
    split at hs1
    ·rename_i cs hcs
     have hz:cs.length=sz:=by simpa using hs1
     have hY:=eO (hT x) hcs
     have hYl:cs.length=(a.eval x).cells.size:=by rw[fZ hY,Array.length_toList]
     have hv:(a.eval x).cells.size=sz:=by omega
     simp only[List.length_cons]at hc
     have h1:i*sz+sz≤cells.size:=by
      have:(i+1)*sz≤(i+(qs.length+1))*sz:=Nat.mul_le_mul_right _ (by omega)
      rw[Nat.succ_mul]at this
      omega
     obtain⟨cs1,e1,e2⟩:=Dt (place:=fun i=>some (i*sz,sz)) (cells:=cells) (i:=i) (off:=i*sz) (size:=sz) (v:=a.eval x) (rest:=r.map fun x=>(x.1,a.eval x.2)) rfl hv h1
     have hl1:cs1.size=cells.size:=by
      have:=congrArg List.length e1
      simp only[Array.length_toList,List.length_append,List.length_take,List.length_drop,hv]at this
      omega
     obtain⟨cells',xs,g1,g2,g3,g4⟩:=zo r (i+1) qs cs1 hq hs2 (by rw[hl1,show i+1+qs.length=i+(qs.length+1) by omega];exact hc)
     refine⟨cells',(a.eval x).cells.toList++xs,?_,?_,?_,?_⟩
     ·simp only[List.map_cons]
      rw[e2]
      exact g1
     ·rw[g2,e1]
      have hL:((cells.toList.take (i*sz)++(a.eval x).cells.toList++cells.toList.drop (i*sz+sz))).take ((i+1)*sz)=cells.toList.take (i*sz)++(a.eval x).cells.toList:=by
       rw[List.take_append_of_le_length (by simp[hv,Nat.succ_mul];omega)]
       rw[List.take_of_length_le (by simp[hv,Nat.succ_mul];omega)]
      have hD:((cells.toList.take (i*sz)++(a.eval x).cells.toList++cells.toList.drop (i*sz+sz))).drop ((i+1+qs.length)*sz)=cells.toList.drop ((i+(qs.length+1))*sz):=by
       have hlen:(cells.toList.take (i*sz)++(a.eval x).cells.toList).length=i*sz+sz:=by
        simp[hv]
        omega
       have hge:i*sz+sz≤(i+1+qs.length)*sz:=by
        rw[Nat.add_mul,Nat.succ_mul]
        omega
       rw[List.drop_append,List.drop_of_length_le (by rw[hlen];exact hge),hlen,List.drop_drop]
       simp only[List.nil_append]
       congr 1
       rw[show i+(qs.length+1)=i+1+qs.length by omega]
       omega
      rw[hL,hD]
      simp[List.length_cons]
     ·unfold aL
      exact⟨a.eval x,xs,rfl,hv,lq hY,hT x,g3⟩
     ·rw[List.length_append,Array.length_toList,hv,g4,List.length_cons,Nat.succ_mul]
      omega
    ·cases hs1
   ·cases h
  ·cases h
theorem uJ {t:TypeId} {n:Nat} {parts:Array (Nat×Operand)} (ho:o.op=.buildSlice t n parts) (h:ak P Γ.eqT o id look get cr=some out):Does P Γ k w a s.B o out:=by
 unfold ak at h
 simp only[ho]at h
 split at h
 ·rename_i ag sz0 zs el sz bb g ps hd hg hp
  split at h
  ·rename_i hc
   obtain⟨rfl,htd,hsz,hmax,hsizes⟩:=hc
   simp only[Option.some.injEq]at h
   subst h
   obtain⟨i,z,u,h1,h2,h3,h4,h5,_⟩:=aD hd
   obtain⟨ie,hu,hie,hies⟩:=bH h5
   subst hu
   have hd':=hget _ _ hg
   have hG:k.G id=g:=hI.blk id _ hd'
   obtain⟨d2,hd2⟩:=Option.isSome_iff_exists.1 htd
   obtain⟨i2,z2,u2,e1,e2,e3,_⟩:=aD hd2
   rw[hie]at e1
   injection e1 with e1
   subst e1
   have hsl:(Array.range (ps.length*sz)).size=ps.length*sz:=by simp
   obtain⟨cells',xs,g1,g2,g3,g4⟩:=zo hT parts.toList 0 ps ((Array.range (ps.length*sz)).map (z2.cells[· % z2.cells.size]!)) hp hsizes (by simp)
   have hcells:cells'.toList=xs:=by
    rw[g2]
    simp
   have hcs:cells'.size=ps.length*sz:=by rw[←Array.length_toList,hcells,g4]
   have e00:∀g:Nat→Value,(Array.range 0).map g=#[]:=fun _=>by simp
   have hfill:Instr.fill (fun i=>some (i*sz,sz)) ((Array.range (ps.length*sz)).map ((if ps.length*sz=0 then #[] else z2.cells)[· % (if ps.length*sz=0 then #[] else z2.cells).size]!)) (parts.toList.map fun x=>(x.1,a.eval x.2))=some cells':=by
    rw[←g1]
    by_cases hz:ps.length*sz=0
    ·simp only[hz,e00]
    ·simp[hz]
   have hrun:(execOp a.eval o).run P w=.ok (.value (.slice (some ⟨w.heap.size,0,none⟩) ps.length ps.length)) (w.alloc (.cells cells' el)):=by
    have hbig:¬ps.length*sz > 2 ^ 24:=by omega
    by_cases hz:ps.length*sz=0
    ·have hps:ps=[]:=by
      cases ps with
      |nil=>rfl
      |cons p q=>simp only[List.length_cons,Nat.succ_mul]at hz;omega
     subst hps
     simp only[List.length_nil,Nat.zero_mul,if_true,e00]at hfill
     simp[e00,execOp,ho,Instr.buildSlice,run_underlying h2,sizeOf,typeInfo,hie,hies,hfill,newRow]
    ·simp only[hz,if_false]at hfill
     simp[execOp,ho,Instr.buildSlice,run_underlying h2,sizeOf,typeInfo,zeroValue,hie,hies,e3,hz,hbig,hfill,newRow]
   have hown:(w.alloc (.cells cells' el)).ownsRow Γ.N el sz (.slice (some ⟨w.heap.size,0,none⟩) ps.length ps.length) ps.length xs:=by
    refine⟨g4,Or.inr ⟨w.heap.size,ps.length,cells',rfl,hI.le,heap_alloc_new w _,Nat.le_refl _,?_,hcs,?_⟩⟩
    ·simp only[maxLen]
     have:ps.length≤ps.length*sz:=Nat.le_mul_of_pos_right _ hsz
     omega
    ·rw[hcells,List.take_of_length_le (by rw[g4];exact Nat.le_refl _)]
   obtain⟨q1,q2⟩:=bJ (v:=.slice (some ⟨w.heap.size,0,none⟩) ps.length ps.length) (g:=g+1) (y:=.row el sz (g+1) ps) (w':=w.alloc (.cells cells' el)) hI hd' (Or.inl (by omega)) ((Below.refl _ _).alloc hI.le _)
    (fun b hb _=>Below.heap_alloc _ _ _ hb) (fun b hb=>by
     injection hb with hb
     subst hb
     exact⟨Or.inl (Nat.le_refl _),by simp⟩) (fun hx=>⟨K.bP _ _ _ _,xs,by rw[K.bL];exact hown,bf hx _ _ g3⟩)
   refine bI hrun q1 (by unfold aY;unfold aY;exact q2) ?_
   unfold Rep
   exact⟨rfl,(List.getElem?_eq_some_iff.1 hd').1,Nat.le_of_eq (K.bP _ _ _ _).symm,fun _=>by rw[K.bL]⟩
  ·cases h
 ·cases h
omit hI hget in
theorem cO {x:Option Operand} {d:Nat} {z:Int} (h:bound look x d=some z):(x=none∧z=d)∨∃y kk,x=some y∧a.eval y=.int kk z:=by
 unfold bound at h
 split at h
 ·simp only[Option.some.injEq]at h
  exact Or.inl ⟨rfl,h.symm⟩
 ·rename_i y
  split at h
  ·rename_i kk i hy
   simp only[Option.some.injEq]at h
   subst h
   have e:=hT y
   rw[hy]at e
   exact Or.inr ⟨y,kk,rfl,bS e⟩
  ·cases h
omit hI hT hget in
theorem gM {lo hi:Option Operand} {l h:Int} {len cap:Nat} {b:Bool} (hl:(lo=none∧l=0)∨∃y kk,lo=some y∧a.eval y=.int kk l) (hh:(hi=none∧h=len)∨∃y kk,hi=some y∧a.eval y=.int kk h) (h0:0≤l) (h1:l≤h) (h2:h≤cap) :
  (Instr.sliceBounds b len cap (lo.map a.eval) (hi.map a.eval) none).run P w=.ok (l.toNat,h.toNat,cap) w:=by
 unfold Instr.sliceBounds
 have hb:∀(kk:IntKind) (z:Int) (y:Nat) (c:BoundsCode),0≤z→z≤y→(Instr.sliceBound (.int kk z) y c).run P w=.ok z.toNat w:=by
  intro kk z y c g1 g2
  unfold Instr.sliceBound
  simp[asIntOf,g1,g2]
 rcases hl with ⟨rfl,rfl⟩|⟨y,kk,rfl,ey⟩<;>rcases hh with ⟨rfl,rfl⟩|⟨y',kk',rfl,ey'⟩
 ·simp
 ·simp[ey',hb kk' h cap _ (by omega) h2]
 ·simp[ey,hb kk l len _ h0 h1]
 ·simp[ey,ey',hb kk' h cap _ (by omega) h2,hb kk l h.toNat _ h0 (by omega)]
omit hI hT hget in
theorem rC {Q:Nat→Prop} {sz b:Nat}:∀{es:List IV} {off:Nat} (n:Nat),dA Q w sz b off es→dA Q w sz b (off+n*sz) (es.drop n)
 |es,off,0,h=>by simpa using h
 |[],off,n+1,_=>by simp[dA]
 |e::es,off,n+1,h=>by
  unfold dA at h
  simp only[List.drop_succ_cons]
  rw[show off+(n+1)*sz=off+sz+n*sz by rw[Nat.succ_mul];omega]
  exact rC n h.2
omit hI hT hget in
theorem qp {Q:Nat→Prop} {sz b:Nat}:∀{es:List IV} {off:Nat} (n:Nat),dA Q w sz b off es→dA Q w sz b off (es.take n)
 |es,off,0,h=>by simp[dA]
 |[],off,n+1,_=>by simp[dA]
 |e::es,off,n+1,h=>by
  unfold dA at h
  simp only[List.take_succ_cons]
  unfold dA
  exact⟨h.1,qp n h.2⟩
omit hI hT hget in
theorem gU (b o n:Nat):(⟨b,o,none⟩:Addr).add n=⟨b,o+n,none⟩:=by unfold Addr.add;split<;>simp_all
theorem Iu {t:TypeId} {x:Operand} {lo hi:Option Operand} (ho:o.op=.slice t x lo hi none) (h:ak P Γ.eqT o id look get cr=some out):Does P Γ k w a s.B o out:=by
 unfold ak at h
 simp only[ho]at h
 have e:=hT x
 split at h
 ·rename_i str l hd hx hl
  split at h
  ·rename_i hh hhi
   split at h
   ·rename_i hc
    obtain⟨h0,h1,h2⟩:=hc
    simp only[val,Option.some.injEq]at h
    subst h
    rw[hx]at e
    have ev:=lI e
    obtain⟨i,z,u,q1,q2,_,_,q5,_⟩:=aD hd
    have q6:=kM q5
    subst q6
    have hr:=gM (P:=P) (w:=w) (a:=a) (b:=false) (cO hT hl) (cO hT hhi) h0 h1 h2
    refine au hI (v:=.string (str.extract l.toNat hh.toNat)) ?_ wH
    simp[execOp,ho,ev,Instr.sliceAt,Instr.slice,run_underlying q2,hr]
   ·cases h
  ·cases h
 ·rename_i ag sz0 zs el sz bb sz' es l hd hx hl
  split at h
  ·rename_i hh hhi
   split at h
   ·rename_i hc
    obtain⟨rfl,h0,h1,h2⟩:=hc
    simp only[val,Option.some.injEq]at h
    subst h
    rw[hx]at e
    have e:=aB.1 e
    unfold aF at e
    obtain⟨ad,c,ev,g1,g2,g3⟩:=e
    obtain⟨i,z,u,q1,q2,_,_,q5,_⟩:=aD hd
    obtain⟨ie,q6,q7,q8⟩:=bH q5
    subst q6
    have hr:=gM (P:=P) (w:=w) (a:=a) (b:=true) (cO hT hl) (cO hT hhi) h0 h1 (show hh≤((c:Nat):Int) by omega)
    have hlen:((es.drop l.toNat).take (hh.toNat - l.toNat)).length=hh.toNat - l.toNat:=by rw[List.length_take,List.length_drop];omega
    refine au hI (v:=.slice (if c=l.toNat then ad else ad.map (·.add (l.toNat*sz))) (hh.toNat - l.toNat) (c - l.toNat)) ?_ ?_
    ·simp[execOp,ho,ev,Instr.sliceAt,Instr.slice,run_underlying q2,hr,sizeOf,typeInfo,q7,q8]
    ·rw[aB]
     unfold aF
     refine⟨_,_,by rw[hlen],by rw[hlen];omega,by omega,fun hp=>?_⟩
     rw[hlen]at hp
     obtain⟨b,off,ea,hq,hR⟩:=g3 (by omega)
     subst ea
     refine⟨b,off+l.toNat*sz,?_,hq,qp _ (rC _ hR)⟩
     rw[if_neg (by omega)]
     simp only[Option.map_some,Option.some.injEq]
     unfold Addr.add
     split<;>simp_all
   ·cases h
  ·cases h
 ·rename_i ag sz0 zs el sz bb r g l hd hx hl
  split at h
  ·rename_i el' sz' g' es hg
   split at h
   ·split at h
    ·rename_i hh hhi
     split at h
     ·rename_i hc
      obtain⟨rfl,rfl,h0,h1,h2⟩:=hc
      simp only[val,Option.some.injEq]at h
      subst h
      rw[hx]at e
      have hb:=hget _ _ hg
      obtain⟨xs,ev,hown,hE,hG⟩:=dD hI e hb
      obtain⟨i,z,u,q1,q2,_,_,q5,_⟩:=aD hd
      obtain⟨ie,q6,q7,q8⟩:=bH q5
      subst q6
      obtain⟨ad,c,hf⟩:=dR hown
      have hcap:es.length≤c∧c≤maxLen:=by
       rcases hown.2 with ⟨h3,h4⟩|⟨b,cap,cur,h3,_,_,h4,h5,_⟩
       ·rw[hf]at h3;injection h3 with _ _ h3
        subst h3
        exact⟨by omega,Nat.zero_le _⟩
       ·rw[hf]at h3;injection h3 with _ _ h3
        subst h3
        exact⟨h4,h5⟩
      have hrn:=gM (P:=P) (w:=w) (a:=a) (b:=true) (cO hT hl) (cO hT hhi) h0 h1 (show hh≤((c:Nat):Int) by omega)
      refine au hI (v:=.slice (if c=l.toNat then ad else ad.map (·.add (l.toNat*sz))) (hh.toNat - l.toNat) (c - l.toNat)) ?_ ?_
      ·have hev:a.eval x=.slice ad es.length c:=ev.trans hf
       rw[Option.map_some]at hrn
       simp[execOp,ho,hev,Instr.sliceAt,Instr.slice,run_underlying q2,hrn,sizeOf,typeInfo,q7,q8]
      ·unfold Rep
       refine⟨rfl,(List.getElem?_eq_some_iff.1 hb).1,Nat.le_of_eq hG.symm,fun _=>⟨_,_,ad,es.length,c,rfl,by omega,by omega,hf,by omega,fun hp=>?_⟩⟩
       rcases hown.2 with ⟨h3,h4⟩|⟨b,cap,cur,h3,_⟩
       ·omega
       ·rw[hf]at h3;injection h3 with h3 _ _
        refine⟨b,h3,?_⟩
        rw[if_neg (by omega),h3,Option.map_some,gU,Nat.zero_add]
     ·cases h
    ·cases h
   ·split at h
    ·rename_i hh hhi
     split at h
     ·rename_i hc
      obtain⟨rfl,rfl,rfl,h1,h2⟩:=hc
      simp only[Option.some.injEq]at h
      subst h
      rw[hx]at e
      have hb:=hget _ _ hg
      obtain⟨xs,ev,hown,hE,hG⟩:=dD hI e hb
      obtain⟨i,z,u,q1,q2,_,_,q5,_⟩:=aD hd
      obtain⟨ie,q6,q7,q8⟩:=bH q5
      subst q6
      obtain⟨ad,c,hf⟩:=dR hown
      have hcap:es.length≤c:=by
       rcases hown.2 with ⟨h3,h4⟩|⟨b,cap,cur,h3,_,_,h4,_⟩
       ·omega
       ·rw[hf]at h3;injection h3 with _ _ h3;omega
      have hrn:=gM (P:=P) (w:=w) (a:=a) (b:=true) (cO hT hl) (cO hT hhi) (Int.le_refl _) h1 (show hh≤((c:Nat):Int) by omega)
      have hadd:(if c=0 then ad else ad.map (·.add (0*sz)))=ad:=by
       rw[Nat.zero_mul]
       split
       ·rfl
       ·cases ad with
        |none=>rfl
        |some x=>simp[Addr.add]
      have hm:hh.toNat≤es.length:=by omega
      have hone:∀(es:List PV) (xs:List Value) (m:Nat),aL k s.B.length w sz es xs→aL k s.B.length w sz (es.take m) (xs.take (m*sz)):=by
       intro es
       induction es with
       |nil=>intro xs m h;unfold aL at h;subst h;simp[aL]
       |cons e es ih=>
        intro xs m h
        cases m with
        |zero=>simp[aL]
        |succ m=>
         unfold aL at h
         obtain⟨v,r,e1,h3,h4,h5,h6⟩:=h
         subst e1
         simp only[List.take_succ_cons]
         unfold aL
         refine⟨v,r.take (m*sz),?_,h3,h4,h5,ih r m h6⟩
         rw[List.take_append,List.take_of_length_le (by rw[Array.length_toList,h3,Nat.succ_mul];omega),Array.length_toList,h3,show (m+1)*sz - sz=m*sz by rw[Nat.succ_mul];omega]
      have hrow:w.ownsRow Γ.N el' sz (.slice ad hh.toNat c) hh.toNat (xs.take (hh.toNat*sz)):=by
       have hmul:hh.toNat*sz≤es.length*sz:=Nat.mul_le_mul_right _ hm
       refine⟨?_,?_⟩
       ·have:=hown.1
        rw[List.length_take]
        omega
       ·rcases hown.2 with ⟨h4,h3⟩|⟨b,cap,cur,h3,h4,h5,h6,h7,h8,h9⟩
        ·rw[hf]at h4
         injection h4 with h4 _ h5
         exact Or.inl ⟨by rw[h4,h5,show hh.toNat=0 by omega],by omega⟩
        ·rw[hf]at h3
         injection h3 with h3 _ h10
         refine Or.inr ⟨b,cap,cur,by rw[h3,h10],h4,h5,by omega,h7,h8,?_⟩
         rw[←h9,List.take_take,Nat.min_eq_left hmul]
      obtain⟨g1,g2⟩:=bJ (v:=.slice ad hh.toNat c) (g:=g+1) (y:=.row el' sz (g+1) (es.take hh.toNat)) (w':=w) hI hb (Or.inl (by omega)) (Below.refl _ _) (fun _ _ _=>rfl) (fun b hb'=>by
       have hbb:base (k.ρ r)=some b:=by rw[hf];cases ad<;>exact hb'
       exact⟨Or.inr hbb,(hI.sep r _ b hb hbb).2.2⟩) (fun hx=>⟨K.bP _ _ _ _,xs.take (hh.toNat*sz),by rw[K.bL,List.length_take,Nat.min_eq_left hm];exact hrow,bf hx _ _ (hone es xs _ hE)⟩)
      refine bI (v:=.slice ad hh.toNat c) (w':=w) ?_ g1 (by unfold aY;unfold aY;exact g2) ?_
      ·have hev:a.eval x=.slice ad es.length c:=ev.trans hf
       rw[Option.map_none]at hrn
       simp only[execOp,ho,hev,Instr.sliceAt,Instr.slice,run_underlying q2,Sem.run_bind,Result.andThen_ok]
       simp[hrn,sizeOf,typeInfo,q7,q8]
       simpa using hadd
      ·unfold Rep
       exact⟨rfl,(List.getElem?_eq_some_iff.1 hb).1,Nat.le_of_eq (K.bP _ _ _ _).symm,fun _=>(K.bL _ _ _ _).symm⟩
     ·cases h
    ·cases h
  ·cases h
 ·rename_i ag sz0 zs el sz bb r g sz' q m l hd hx hl
  split at h
  ·rename_i el' sz2 g' es hg
   split at h
   ·rename_i hh hhi
    split at h
    ·rename_i hc
     obtain⟨rfl,rfl,rfl,h0,h1,h2⟩:=hc
     simp only[val,Option.some.injEq]at h
     subst h
     rw[hx]at e
     have hb:=hget _ _ hg
     obtain⟨a',c,ad,cap,ev,g1,g2,g3,hG,g5,g4⟩:=oV hI e hb
     obtain⟨i,z,u,q1,q2,_,_,q5,_⟩:=aD hd
     obtain⟨ie,q6,q7,q8⟩:=bH q5
     subst q6
     have hrn:=gM (P:=P) (w:=w) (a:=a) (b:=true) (cO hT hl) (cO hT hhi) h0 h1 (show hh≤((c:Nat):Int) by omega)
     refine au hI (v:=.slice (if c=l.toNat then a' else a'.map (·.add (l.toNat*sz))) (hh.toNat - l.toNat) (c - l.toNat)) ?_ ?_
     ·simp[execOp,ho,ev,Instr.sliceAt,Instr.slice,run_underlying q2,hrn,sizeOf,typeInfo,q7,q8]
     ·unfold Rep
      refine⟨rfl,(List.getElem?_eq_some_iff.1 hb).1,Nat.le_of_eq hG.symm,fun _=>⟨_,_,ad,es.length,cap,rfl,by omega,by omega,g5,by omega,fun hp=>?_⟩⟩
      obtain⟨b,f1,f2⟩:=g4 (by omega)
      refine⟨b,f1,?_⟩
      rw[if_neg (by omega),f2,Nat.add_mul,Option.map_some,gU]
    ·cases h
   ·cases h
  ·cases h
 ·rename_i ag sz0 zs n el sz r g sz' i0 off l hd hx hl
  split at h
  ·rename_i el' sz2 g' es hg
   split at h
   ·split at h
    ·rename_i hc
     obtain⟨rfl,rfl,rfl,rfl,rfl,hn,h0,h1⟩:=hc
     simp only[val,Option.some.injEq]at h
     subst h
     rw[hx]at e
     have hb:=hget _ _ hg
     obtain⟨b,hb1,ev⟩:=jo hI e hb
     obtain⟨inf,z,u,q1,q2,_,_,q5,_⟩:=aD hd
     obtain⟨inf2,q6,q7,q8⟩:=GH q5
     rw[q6]at q2
     obtain⟨hG,xs,hown,_⟩:=hI.blk r _ hb
     rcases hown.2 with ⟨e1,e2⟩|⟨b',cap,cur,e1,_,_,e4,e5,_⟩
     ·rw[e1]at hb1;cases hb1
     rw[e1]at hb1
     obtain rfl:b'=b:=Option.some.inj hb1
     have hr:=gM (P:=P) (w:=w) (a:=a) (b:=false) (len:=n) (cap:=n) (cO hT hl) (Or.inl ⟨rfl,rfl⟩:(none=none∧(n:Int)=n)∨∃y kk,none=some y∧a.eval y=.int kk n) h0 (show l≤(n:Int) by omega) (Int.le_refl _)
     refine au hI (v:=.slice (some (if n=l.toNat then ⟨b',0,none⟩ else (⟨b',0,none⟩:Addr).add (l.toNat*sz))) (n - l.toNat) (n - l.toNat)) ?_ ?_
     ·simp only[Nat.add_zero,Nat.zero_mul]at ev
      rw[Option.map_none]at hr
      simp[execOp,ho,ev,Instr.sliceAt,Instr.sureAddr,run_underlying q2,hr,sizeOf,typeInfo,q7,q8]
     ·unfold Rep
      refine⟨rfl,(List.getElem?_eq_some_iff.1 hb).1,Nat.le_of_eq hG.symm,fun _=>⟨_,_,_,es.length,cap,by rw[←hn],Nat.le_refl _,by omega,e1,by omega,fun hp=>⟨b',rfl,?_⟩⟩⟩
      rw[if_neg (by omega),gU,Nat.zero_add]
    ·cases h
   ·cases h
  ·cases h
 ·cases h
omit hI hT hget in
theorem mD {t ty e:TypeId} {i:TypeInfo} (ht:P.underlying t=some (.slice e)) (hi:P.info? e=some i) (b ad:Option Addr) (n cap c:Nat) (hn:n≤cap) :
  (Builtin.append_ #[t,t] ty #[.slice b n cap,.slice ad 0 c]).run P w=.ok (.slice b n cap) w:=by
 cases b<;>cases ad<;>simp[Builtin.append_,run_underlying ht,sizeOf,typeInfo,hi,Builtin.lenOf,hn,Builtin.firstCells,loadCells,loadCellsFrom,storeCells]
omit hI hT hget in
theorem gH {kk:K} {n sz:Nat}:∀{es es':List PV} {xs ys:List Value},aL kk n w sz es xs→aL kk n w sz es' ys→aL kk n w sz (es++es') (xs++ys)
 |[],_,xs,_,h,h'=>by unfold aL at h;subst h;simpa using h'
 |e::es,_,xs,_,h,h'=>by
  unfold aL at h
  obtain⟨v,r,e1,h1,h2,h3,h4⟩:=h
  subst e1
  simp only[List.cons_append,List.append_assoc]
  unfold aL
  exact⟨v,_,rfl,h1,h2,h3,gH h4 h'⟩
omit hI hT hget in
theorem oN {kk:K} {n sz b:Nat}:∀{es:List IV} {off:Nat},dA kk.Q w sz b off es→∃xs,aL kk n w sz (es.map .imm) xs∧∀j u,xs[j]?=some u→w.cell? ⟨b,off+j,none⟩=some u
 |[],off,_=>⟨[],by simp[aL],fun j u h=>by simp at h⟩
 |e::es,off,h=>by
  unfold dA at h
  obtain⟨⟨v,h1,h2,h3⟩,h4⟩:=h
  obtain⟨xs,g1,g2⟩:=oN (n:=n) h4
  refine⟨v.cells.toList++xs,?_,fun j u hj=>?_⟩
  ·simp only[List.map_cons]
   unfold aL
   exact⟨v,xs,rfl,h2,lq (eO (k:=kk) (n:=n) (aB.2 h1) rfl),aB.2 h1,g1⟩
  ·by_cases hj':j < v.cells.size
   ·rw[List.getElem?_append_left (by simpa using hj')]at hj
    exact h3 j u (by simpa using hj)
   ·rw[List.getElem?_append_right (by simpa using hj'),Array.length_toList,h2]at hj
    have:=g2 _ u hj
    rw[show off+sz+(j - sz)=off+j by omega]at this
    exact this
omit hI hT hget in
theorem dK {kk:K} {n sz:Nat}:∀{es:List PV} {xs:List Value},aL kk n w sz es xs→∀m:Nat,aL kk n w sz (es.take m) (xs.take (m*sz))∧aL kk n w sz (es.drop m) (xs.drop (m*sz))
 |[],xs,h,m=>by
  unfold aL at h
  subst h
  simp[aL]
 |e::es,xs,h,0=>by
  refine⟨by simp[aL],by simpa using h⟩
 |e::es,xs,h,m+1=>by
  unfold aL at h
  obtain⟨v,r,e0,h1,h2,h3,h4⟩:=h
  subst e0
  obtain⟨g1,g2⟩:=dK h4 m
  have hl:v.cells.toList.length=sz:=by rw[Array.length_toList,h1]
  have hm:(m+1)*sz=sz+m*sz:=by rw[Nat.succ_mul,Nat.add_comm]
  rw[hm,List.take_append,List.drop_append,hl,Nat.add_sub_cancel_left,List.take_of_length_le (l:=v.cells.toList) (by rw[hl];exact Nat.le_add_right _ _),List.drop_of_length_le (l:=v.cells.toList) (by rw[hl];exact Nat.le_add_right _ _),List.nil_append]
  refine⟨?_,g2⟩
  rw[List.take_succ_cons]
  unfold aL
  exact⟨v,_,rfl,h1,h2,h3,g1⟩
omit hT in
theorem qQ {sz:Nat} {p:PV} {xs:List PV} {v:Value} (h:mG get sz p=some xs) (hr:Rep k s.B.length w p v) :
  ∃ad m c news,v=.slice ad m c∧m=xs.length∧aL k s.B.length w sz xs news∧(m=0∨∃addr,ad=some addr∧∀j u,news[j]?=some u→w.cell? (addr.add j)=some u):=by
 unfold mG at h
 split at h
 ·simp only[Option.some.injEq]at h
  subst h
  rw[aB]at hr
  unfold aF at hr
  exact⟨none,0,0,[],hr,rfl,by simp[aL],Or.inl rfl⟩
 ·rename_i sz' es
  split at h
  ·rename_i hs
   subst hs
   simp only[Option.some.injEq]at h
   subst h
   rw[aB]at hr
   unfold aF at hr
   obtain⟨ad,c,e,h1,h2,h3⟩:=hr
   by_cases hz:es.length=0
   ·have:es=[]:=List.eq_nil_of_length_eq_zero hz
    subst this
    exact⟨ad,_,c,[],e,by simp,by simp[aL],Or.inl rfl⟩
   ·obtain⟨b,off,ea,hq,hR⟩:=h3 (by omega)
    obtain⟨news,g1,g2⟩:=oN (kk:=k) (n:=s.B.length) hR
    refine⟨ad,_,c,news,e,by simp,g1,Or.inr ⟨⟨b,off,none⟩,ea,fun j u hj=>?_⟩⟩
    have hadd:(⟨b,off,none⟩:Addr).add j=⟨b,off+j,none⟩:=by unfold Addr.add;split<;>simp_all
    rw[hadd]
    exact g2 j u hj
  ·cases h
 ·rename_i r g
  split at h
  ·rename_i el sz' g' es hb
   split at h
   ·rename_i hs
    obtain⟨rfl,rfl⟩:=hs
    simp only[Option.some.injEq]at h
    subst h
    obtain⟨news,ev,hown,hE,_⟩:=dD hI hr (hget _ _ hb)
    rw[←ev]at hown
    have hf:=hown.2
    rcases hf with ⟨e1,e2⟩|⟨bb,cap,cur,e1,e2,e3,e4,_⟩
    ·exact⟨none,0,0,news,e1,e2.symm,hE,Or.inl rfl⟩
    ·exact⟨some ⟨bb,0,none⟩,_,cap,news,e1,rfl,hE,Or.inr ⟨_,rfl,fun j u hj=>hown.cells (g:=bb) (by rw[e1];rfl) j u hj⟩⟩
   ·cases h
  ·cases h
 ·rename_i r g sz' q m
  split at h
  ·rename_i el sz2 g' es hb
   split at h
   ·rename_i hs
    obtain⟨rfl,rfl,rfl,hle⟩:=hs
    simp only[Option.some.injEq]at h
    subst h
    have hB:=hget _ _ hb
    unfold Rep at hr
    obtain⟨_,_,_,h3⟩:=hr
    obtain⟨g1,news,hown,hE⟩:=hI.blk r _ hB
    obtain⟨a0,c0,ad,len,cap,e1,e2,e3,e4,e5,e6⟩:=h3 g1.symm
    have hsp:=dK (dK hE q).2 m
    have hml:m=((es.drop q).take m).length:=by rw[List.length_take,List.length_drop];omega
    refine⟨a0,m,c0,_,e1,hml,hsp.1,?_⟩
    by_cases h0:m=0
    ·exact Or.inl h0
    ·obtain⟨b,e7,e8⟩:=e6 (by omega)
     subst e7 e8
     refine Or.inr ⟨_,rfl,fun j u hj=>?_⟩
     have hadd:=addr_add b
     rw[hadd,show (⟨b,q*sz+j,none⟩:Addr)=(⟨b,0,none⟩:Addr).add (q*sz+j) by rw[hadd,Nat.zero_add]]
     refine hown.cells (g:=b) (by rw[e4];rfl) _ u ?_
     rw[List.getElem?_take]at hj
     split at hj
     ·rwa [List.getElem?_drop]at hj
     ·cases hj
   ·cases h
  ·cases h
 ·cases h
omit hT hget in
theorem yw {t ty e:TypeId} {ie:TypeInfo} {z:Value} {sz bytes:Nat} (ht:P.underlying t=some (.slice e)) (hi:P.info? e=some ie) (hz:ie.zero=some z) (hs1:ie.size=sz) (hby:ie.bytes=bytes) (hzs:z.cells.size=sz) (hsz:0 < sz) (hb:bytes≤100000)
  {v v2:Value} {n:Nat} {old:List Value} {xs:List PV} (hown:w.ownsRow Γ.N e sz v n old)
  {ad:Option Addr} {m c:Nat} {news:List Value} (e2:v2=.slice ad m c) (hm:m=xs.length) (hX:aL k s.B.length w sz xs news) (hsrc:m=0∨∃addr,ad=some addr∧∀j u,news[j]?=some u→w.cell? (addr.add j)=some u) (hle:Room bytes (n+m)) :
  ∃v' w',(Builtin.append_ #[t,t] ty #[v,v2]).run P w=.ok v' w'∧w'.ownsRow Γ.N e sz v' (n+m) (old++news)∧w.grownBy w' v.ownBlock∧(v'.ownBlock=v.ownBlock∨v'.ownBlock=some w.heap.size):=by
 subst e2
 obtain⟨hl,h1⟩:=bW hX
 rcases hsrc with h0|⟨addr,rfl,hc⟩
 ·subst h0
  have hx:xs=[]:=List.eq_nil_of_length_eq_zero hm.symm
  subst hx
  have hnews:news=[]:=List.eq_nil_of_length_eq_zero (by simpa using hl)
  subst hnews
  obtain⟨b,cap,ev⟩:=dR hown
  have hcap:n≤cap:=by
   rcases hown.2 with ⟨e1,e2⟩|⟨bb,cap',cur,e1,_,_,e4,_⟩
   ·omega
   ·rw[ev]at e1;injection e1 with _ _ e1;omega
  refine⟨v,w,?_,by simpa using hown,⟨rfl,rfl,rfl,Nat.le_refl _,fun _ _ _=>rfl⟩,Or.inl rfl⟩
  rw[ev]
  exact mD ht hi b ad n cap c hcap
 ·have hle2:n+m≤140737488355328∧(n+m)*bytes≤140737488355328:=by
   rcases hle with hle|hle
   ·unfold most at hle
    exact⟨by omega,Nat.le_trans (Nat.mul_le_mul hle hb) (by decide)⟩
   ·exact hle
  obtain⟨v',w',g1,g2,g3,_,g5⟩:=run_append_own_at (P:=P) w Γ.N t ty e ie z sz bytes ht hi hz hs1 hby hzs hsz v n old hown addr m c news (by rw[hl,hm]) hc h1 (by simp only[maxLen];omega) hle2.2 hI.le
  exact⟨v',w',g1,g2,g3,g5⟩
omit hI hT hget in
theorem Qi {e:TypeId} {d:TD} {i:TypeInfo} (hd:aJ P e=some d) (hi:P.info? e=some i) (h:u8B d=true):i.zero=some (.int .u8 0):=by
 obtain⟨i2,z,u,e1,e2,e3,e4,e5,e6,e7,_⟩:=aD hd
 rw[hi]at e1
 injection e1 with e1
 subst e1
 unfold u8B at h
 simp only[Bool.and_eq_true,Bool.not_eq_true']at h
 obtain⟨⟨h1,h2⟩,h3⟩:=h
 rw[e3]
 have ha:Qc z=false:=by rw[e6,←e7];exact h1
 have hc:z.cells.toList=[z]:=by cases z<;>first|rfl|(simp[Qc]at ha)
 rw[hc]at e4
 cases hz:oZ z with
 |none=>simp[fC,hz]at e4
 |some iv=>
  have e8:[iv]=d.zero:=by simpa[fC,hz]using e4
  rw[←e8]at h3
  split at h3
  ·rename_i zz hq
   injection hq with hq _
   subst hq
   have h0:=of_decide_eq_true h3
   subst h0
   clear hc ha e3 e4
   unfold oZ at hz
   split at hz<;>first|(cases hz;rfl)|(cases hz;done)|(split at hz<;>cases hz;done)
  ·cases h3
omit hI hT hget in
theorem wM {kk:K} {n:Nat}:∀l:List UInt8,aL kk n w 1 ((l.map fun c=>IV.int .u8 (c.toNat:Int)).map .imm) (l.map fun c=>Value.int .u8 (c.toNat:Int))
 |[]=>by unfold aL;rfl
 |c::l=>by
  rw[List.map_cons,List.map_cons,List.map_cons]
  unfold aL
  exact⟨.int .u8 (c.toNat:Int),_,rfl,rfl,fun u hu=>by have hu:u∈[Value.int .u8 (c.toNat:Int)]:=hu;rw[List.mem_singleton.1 hu];rfl,aB.2 (by unfold aF;rfl),wM l⟩
theorem uT {args:Array Operand} {ts:Array TypeId} {ag:Bool} {sz0 sz bytes:Nat} {zs:List IV} {el:TypeId} {ps px:PV} (ho:o.op=.call ⟨.builtin .append,args,ts⟩) (hd:aJ P (ts.getD 0 0)=some ⟨ag,sz0,zs,.slice el sz bytes⟩)
  (hargs:args.toList.map look=[ps,px]) (h:O8 P id get el sz bytes ts ps px=some out):Does P Γ k w a s.B o out:=by
 unfold O8 at h
 split at h
 ·rename_i d _ _ _ b hde hdu
  split at h
  ·rename_i hc
   obtain⟨hu8,rfl,rfl,hts⟩:=hc
   obtain⟨i,z,u,q1,q2,_,_,q5,_⟩:=aD hd
   obtain⟨ie,q6,q7,q8,q9⟩:=tq q5
   subst q6
   have hz:=Qi hde q7 hu8
   obtain⟨_,_,us,_,f2,_,_,f5,_⟩:=aD hdu
   have f6:=kM f5
   subst f6
   obtain⟨x1,x2,ha,hx1,hx2⟩:∃x1 x2,args=#[x1,x2]∧look x1=ps∧look x2=.imm (.str b):=by
    have hl2:=congrArg List.length hargs
    rw[List.length_map]at hl2
    obtain⟨x1,x2,hl⟩:∃x1 x2,args.toList=[x1,x2]:=by
     generalize args.toList=L at hl2
     match L,hl2 with
     |[x1,x2],_=>exact⟨x1,x2,rfl⟩
    rw[hl]at hargs
    simp only[List.map_cons,List.map_nil,List.cons.injEq,and_true]at hargs
    exact⟨x1,x2,by apply Array.ext';simpa using hl,hargs.1,hargs.2⟩
   obtain⟨t,ht⟩:∃t,t=ts.getD 0 0:=⟨_,rfl⟩
   obtain⟨t2,ht2⟩:∃t,t=ts.getD 1 0:=⟨_,rfl⟩
   have hts':ts=#[t,t2]:=by
    apply Array.ext
    ·simpa using hts
    ·intro j h1 h2
     have h2:j < 2:=by simpa using h2
     match j,h2 with
     |0,_=>simp[ht,Array.getD_eq_getD_getElem?,h1]
     |1,_=>simp[ht2,Array.getD_eq_getD_getElem?,h1]
   rw[←ht]at q2
   rw[←ht2]at f2
   have g1:=hT x1
   have g2:=hT x2
   rw[hx1]at g1
   rw[hx2]at g2
   have ev2:=lI g2
   have fin:∀(r g:Nat) (x:Blk) (es:List PV) (old:List Value),s.B[r]?=some x→k.G r=g→w.ownsRow Γ.N el 1 (a.eval x1) es.length old→aL k s.B.length w 1 es old→es.length+b.size≤most→
     (a.eval x1).ownBlock=own k r x→Does P Γ k w a s.B o ⟨.row r (g+1),[(r,.row el 1 (g+1) (es++EY b))],none⟩:=by
    intro r g x es old hb hG hown hE hle hob
    unfold most at hle
    obtain⟨v',w',r1,r2,r3,r5⟩:=Lib.run_append_own_string (P:=P) w Γ.N t t2 o.type el ie q2 f2 q7 hz q8 q9 (a.eval x1) es.length old hown b (by simp only[maxLen];omega) (by omega) hI.le
    have r4:v'.ownBlock=(a.eval x1).ownBlock∨∃c,v'.ownBlock=some c∧w.heap.size≤c:=by
     rcases hown.2 with ⟨p1,p2⟩|⟨c,cap,cur,p1,p2,p3,p4,p5,p6,p7⟩
     ·rw[p1]at r1
      obtain⟨v2,w2,s1,s2,s3,s5⟩:=Lib.run_append_own_string (P:=P) w w.heap.size t t2 o.type el ie q2 f2 q7 hz q8 q9 (.slice none 0 0) 0 [] (World.ownsRow_nil w _ el 1) b (by simp only[maxLen];omega) (by omega) (Nat.le_refl _)
      rw[r1]at s1
      injection s1 with s1 s1'
      subst s1;subst s1'
      rcases s2.2 with ⟨t1,_⟩|⟨c,_,_,t1,t3,_⟩
      ·left;rw[t1,p1]
      ·right;exact⟨c,by rw[t1];rfl,t3⟩
     ·rw[p1]at r1
      by_cases hroom:es.length+b.size≤cap
      ·have hr:=Lib.run_append_room_string (P:=P) w t t2 o.type el ie q2 f2 q7 q8 c es.length cap cur p3 b hroom (by rw[p6];omega)
       rw[r1]at hr
       injection hr with hr _
       left;rw[hr,p1];rfl
      ·have hhold:∀j u,old[j]?=some u→w.cell? ((⟨c,0,none⟩:Addr).add j)=some u:=hown.cells (g:=c) (by rw[p1];rfl)
       have hml:es.length+b.size≤maxLen:=by simp only[maxLen];omega
       have hn2:=nextslicecap_le (need:=es.length+b.size) (old:=cap) (by omega)
       have hr:=Lib.run_append_grow_string (P:=P) w t t2 o.type el ie (.int .u8 0) q2 f2 q7 hz ⟨c,0,none⟩ es.length cap old (by rw[q8];exact hown.1) hhold b (by omega) (by simp only[maxLen]at hml;omega) (by rw[q9];omega)
       rw[r1]at hr
       injection hr with hr _
       right;exact⟨w.heap.size,by rw[hr];rfl,Nat.le_refl _⟩
    have hlt:=hown.lt
    have hsl:(es++EY b).length=es.length+b.size:=by rw[List.length_append];simp[EY]
    obtain⟨p1,p2⟩:=bJ (v:=v') (g:=g+1) (y:=.row el 1 (g+1) (es++EY b)) (w':=w') hI hb (Or.inl (by omega)) ((Below.refl _ _).grown r3 hI.le (fun b hb=>(hlt b hb).1))
     (fun b hb hne=>r3.block b hb (by rw[hob];exact hne)) (fun c hc=>by
      rw[nQ r2]at hc
      refine⟨?_,(r2.lt c hc).2⟩
      rcases r4 with r4|⟨c',r4,r6⟩
      ·right;rw[←hob,←r4];exact hc
      ·left;rw[r4]at hc;injection hc with hc;omega) (fun hx=>⟨K.bP _ _ _ _,old++Lib.strCells b,by
       rw[K.bL,hsl];exact r2,bf hx _ _ (gH hE (wM b.data.toList))⟩)
    refine bI (v:=v') ?_ p1 (by unfold aY;unfold aY;exact p2) ?_
    ·rw[hts']at ho
     simp[execOp,ho,resolve,invoke,builtin,ha,ev2,r1]
    ·unfold Rep
     obtain⟨b',c',ev⟩:=dR r2
     exact⟨by rw[ev];rfl,(List.getElem?_eq_some_iff.1 hb).1,Nat.le_of_eq (K.bP _ _ _ _).symm,fun _=>by rw[K.bL]⟩
   split at h
   ·split at h
    ·rename_i g hg
     split at h
     ·rename_i hle
      simp only[Option.some.injEq]at h
      subst h
      have hdd:=hget _ _ hg
      have e1:a.eval x1=.slice none 0 0:=by rw[aB]at g1;unfold aF at g1;exact g1
      exact fin id g _ [] [] hdd (hI.blk id _ hdd) (by rw[e1];exact World.ownsRow_nil w _ el 1) (by unfold aL;rfl) (by simpa using hle) (by rw[e1];rfl)
     ·cases h
    ·cases h
   ·rename_i r g
    split at h
    ·rename_i e' sz' g' es hg
     split at h
     ·rename_i hc2
      obtain⟨rfl,rfl,rfl,hle⟩:=hc2
      simp only[Option.some.injEq]at h
      subst h
      have hb:=hget _ _ hg
      obtain⟨xs,ev,hown,hE,hG⟩:=dD hI g1 hb
      exact fin r g _ es xs hb hG (by rw[ev];exact hown) hE hle (by rw[ev];exact (nQ hown).symm)
     ·cases h
    ·cases h
   ·cases h
  ·cases h
 ·cases h
theorem Fe {args:Array Operand} {ts:Array TypeId} (ho:o.op=.call ⟨.builtin .append,args,ts⟩) (h:ak P Γ.eqT o id look get cr=some out):Does P Γ k w a s.B o out:=by
 unfold ak at h
 simp only[ho]at h
 split at h
 ·rename_i ag sz0 zs el sz bytes ps px hd hargs
  split at h
  ·rename_i hc
   obtain⟨htd,hsz,hby,hts,ht1⟩:=hc
   obtain⟨d2,hd2⟩:=Option.isSome_iff_exists.1 htd
   obtain⟨i2,z2,u2,e1,e2,e3,e4,_,_,_,e8,e9⟩:=aD hd2
   obtain⟨i,z,u,q1,q2,_,_,q5,_⟩:=aD hd
   obtain⟨ie,q6,q7,q8,q9⟩:=tq q5
   subst q6
   rw[e1]at q7
   injection q7 with q7
   subst q7
   have hz2:z2.cells.size=sz:=by
    have:=qI (Q:=fun _=>True) (w:=default) (dL e4)
    rw[Array.length_toList]at this
    omega
   obtain⟨x1,x2,ha,hx1,hx2⟩:∃x1 x2,args=#[x1,x2]∧look x1=ps∧look x2=px:=by
    match hl:args.toList,hargs with
    |[x1,x2],hargs=>
     simp only[List.map_cons,List.map_nil,List.cons.injEq,and_true]at hargs
     exact⟨x1,x2,by apply Array.ext';simpa using hl,hargs.1,hargs.2⟩
   have hts':ts=#[ts.getD 0 0,ts.getD 0 0]:=by
    apply Array.ext
    ·simpa using hts
    ·intro j h1 h2
     have h2:j < 2:=by simpa using h2
     have g0:∀q,q < ts.size→ts.getD q 0=ts[q]! := fun q hq=>by simp[Array.getD_eq_getD_getElem?,hq]
     match j,h2 with
     |0,_=>simp[Array.getD_eq_getD_getElem?,h1]
     |1,_=>
      have:ts.getD 1 0=ts[1]:=by simp[Array.getD_eq_getD_getElem?,h1]
      simp[←this,ht1]
   obtain⟨t,ht⟩:∃t,t=ts.getD 0 0:=⟨_,rfl⟩
   rw[←ht]at hts' q2
   have f1:=hT x1
   have f2:=hT x2
   rw[hx1]at f1
   rw[hx2]at f2
   have fin:∀(r g:Nat) (x:Blk) (es xs:List PV) (old:List Value),s.B[r]?=some x→k.G r=g→mG get sz px=some xs→w.ownsRow Γ.N el sz (a.eval x1) es.length old→aL k s.B.length w sz es old→Room bytes (es.length+xs.length)→
     (a.eval x1).ownBlock=own k r x→Does P Γ k w a s.B o ⟨.row r (g+1),[(r,.row el sz (g+1) (es++xs))],none⟩:=by
    intro r g x es xs old hb hG hsrc hown hE hle hob
    obtain⟨ad,m,c,news,g1,g2,g3,g4⟩:=qQ hI hget hsrc f2
    obtain⟨v',w',r1,r2,r3,r4⟩:=yw (P:=P) (ty:=o.type) hI q2 e1 e3 q8 q9 hz2 hsz hby hown g1 g2 g3 g4 (by rw[g2];exact hle)
    have hlt:=hown.lt
    obtain⟨p1,p2⟩:=bJ (v:=v') (g:=g+1) (y:=.row el sz (g+1) (es++xs)) (w':=w') hI hb (Or.inl (by omega)) ((Below.refl _ _).grown r3 hI.le (fun b hb=>(hlt b hb).1))
     (fun b hb hne=>r3.block b hb (by rw[hob];exact hne)) (fun b hb=>by
      rw[nQ r2]at hb
      refine⟨?_,(r2.lt b hb).2⟩
      rcases r4 with r4|r4
      ·right;rw[←hob,←r4];exact hb
      ·left;rw[r4]at hb;injection hb with hb;omega) (fun hx=>⟨K.bP _ _ _ _,old++news,by rw[K.bL,List.length_append,←g2];exact r2,bf hx _ _ (gH hE g3)⟩)
    refine bI (v:=v') ?_ p1 (by unfold aY;unfold aY;exact p2) ?_
    ·rw[hts']at ho
     simp[execOp,ho,resolve,invoke,builtin,ha,r1]
    ·unfold Rep
     obtain⟨b',c',ev⟩:=dR r2
     exact⟨by rw[ev];rfl,(List.getElem?_eq_some_iff.1 hb).1,Nat.le_of_eq (K.bP _ _ _ _).symm,fun _=>by rw[K.bL]⟩
   have fin2:∀(g:Nat) (es xs:List PV) (olds news:List Value) (v':Value) (w':World),s.B[id]?=some (.dead g)→(Builtin.append_ #[t,t] o.type #[a.eval x1,a.eval x2]).run P w=.ok v' w'→w'.ownsRow Γ.N el sz v' (es.length+xs.length) (olds++news)→aL k s.B.length w sz es olds→aL k s.B.length w sz xs news→
     w.grownBy w' none→v'.ownBlock=some w.heap.size→Does P Γ k w a s.B o ⟨.row id (g+1),[(id,.row el sz (g+1) (es++xs))],none⟩:=by
    intro g es xs olds news v' w' hb r1 r2 hE hE2 r3 r4
    have hG:k.G id=g:=hI.blk id _ hb
    obtain⟨p1,p2⟩:=bJ (v:=v') (g:=g+1) (y:=.row el sz (g+1) (es++xs)) (w':=w') hI hb (Or.inl (by omega)) ((Below.refl _ _).grown r3 hI.le (fun b hb=>by cases hb))
     (fun b hb hne=>r3.block b hb (by simp)) (fun b hb=>by
      rw[nQ r2]at hb
      refine⟨?_,(r2.lt b hb).2⟩
      left;rw[r4]at hb;injection hb with hb;omega) (fun hx=>⟨K.bP _ _ _ _,olds++news,by rw[K.bL,List.length_append];exact r2,bf hx _ _ (gH hE hE2)⟩)
    refine bI (v:=v') ?_ p1 (by unfold aY;unfold aY;exact p2) ?_
    ·rw[hts']at ho
     simp[execOp,ho,resolve,invoke,builtin,ha,r1]
    ·unfold Rep
     obtain⟨b',c',ev⟩:=dR r2
     exact⟨by rw[ev];rfl,(List.getElem?_eq_some_iff.1 hb).1,Nat.le_of_eq (K.bP _ _ _ _).symm,fun _=>by rw[K.bL]⟩
   split at h
   ·rename_i xs hsrc
    split at h
    ·split at h
     ·rename_i g hg
      split at h
      ·rename_i hle
       simp only[Option.some.injEq]at h
       subst h
       have hd':=hget _ _ hg
       rw[aB]at f1
       unfold aF at f1
       have:=fin id g _ [] xs [] hd' (hI.blk id _ hd') hsrc (by rw[f1];exact World.ownsRow_nil _ _ _ _) (by simp[aL]) (Or.inl (by simpa using hle)) (by rw[f1];rfl)
       simpa using this
      ·cases h
     ·cases h
    ·rename_i r g
     split at h
     ·rename_i e' sz' g' es hg
      split at h
      ·rename_i hc
       obtain⟨rfl,rfl,rfl,hle,_⟩:=hc
       simp only[Option.some.injEq]at h
       subst h
       obtain⟨old,ev,hown,hE,hG⟩:=dD hI f1 (hget _ _ hg)
       rw[←ev]at hown
       refine fin r g _ es xs old (hget _ _ hg) hG hsrc hown hE hle ?_
       rw[←nQ hown,ev]
       rfl
      ·cases h
     ·cases h
    ·rename_i sz' es
     split at h
     ·rename_i g hg
      split at h
      ·rename_i hc
       obtain⟨rfl,hle⟩:=hc
       have hdB:=hget _ _ hg
       have hfi:=f1
       unfold Rep at hfi
       obtain⟨hfi1,a0,hfi2⟩:=hfi
       obtain⟨ad,m,c,news,g1,g2,g3,g4⟩:=qQ hI hget hsrc f2
       split at h
       ·rename_i hx0
        simp only[val,Option.some.injEq]at h
        subst h
        have hm0:m=0:=by omega
        subst hm0
        refine au hI (v:=a.eval x1) ?_ (aB.2 hfi1)
        rw[hts']at ho
        have:=mD (P:=P) (w:=w) (ty:=o.type) q2 e1 a0 ad es.length es.length c (Nat.le_refl _)
        rw[←hfi2,←g1]at this
        simp[execOp,ho,resolve,invoke,builtin,ha,this]
       ·rename_i hx0
        simp only[Option.some.injEq]at h
        subst h
        obtain⟨addr,rfl,hcell⟩:∃addr,ad=some addr∧∀j u,news[j]?=some u→w.cell? (addr.add j)=some u:=g4.resolve_left (by omega)
        obtain⟨ad1,m1,c1,olds,k1,k2,k3,k4⟩:=qQ (sz:=sz) (p:=.imm (.sl sz es)) (xs:=es.map .imm) hI hget (by simp[mG]) (aB.2 hfi1)
        obtain⟨hol,ho1⟩:=bW k3
        obtain⟨hnl,hn1⟩:=bW g3
        rw[List.length_map]at hol k2
        have hby2:i2.bytes≤100000:=by omega
        have hnl2:news.length=m*i2.size:=by rw[hnl,g2,q8]
        have hle':es.length+m≤1000000000:=by unfold most at hle;omega
        have key:∀(cap:Nat),(Builtin.append_ #[t,t] o.type #[a.eval x1,a.eval x2]).run P w=.ok (.slice (some ⟨w.heap.size,0,none⟩) (es.length+m) cap) (w.drew.alloc (.cells (olds.toArray++news.toArray++Builtin.zeroCells z2.cells (cap - (es.length+m))) el))→es.length+m≤cap→cap≤maxLen→
          Does P Γ k w a s.B o ⟨.row id (g+1),[(id,.row el sz (g+1) (es.map .imm++xs))],none⟩:=by
         intro cap hrun hc1 hc2
         refine fin2 g (es.map .imm) xs olds news _ _ hdB hrun ?_ k3 g3 ⟨rfl,rfl,rfl,by simp,fun k hk _=>(MapKept.heap_alloc w.drew _).2 k hk⟩ rfl
         rw[List.length_map,←g2]
         refine⟨by rw[List.length_append,hol,hnl,←g2,Nat.add_mul],.inr ⟨w.heap.size,_,_,rfl,hI.le,heap_alloc_new w.drew _,hc1,hc2,?_,?_⟩⟩
         ·simp only[Array.size_append,List.size_toArray,size_zeroCells,hz2,hol,hnl,←g2,←Nat.add_mul]
          congr 1
          omega
         ·have hlen:(olds++news).length=(es.length+m)*sz:=by rw[List.length_append,hol,hnl,←g2,Nat.add_mul]
          simp only[Array.toList_append,List.append_assoc]
          rw[←List.append_assoc,←hlen]
          exact List.take_left
        have h63:((es.length+m:Nat):Int)≤9223372036854775807:=by omega
        have hml:es.length+m≤maxLen:=by simp only[maxLen];omega
        cases a0 with
        |none=>
         have he0:es.length=0:=by
          rcases Nat.eq_zero_or_pos es.length with h0|h0
          ·exact h0
          ·rcases k4 with k4|⟨q,k4,_⟩
           ·omega
           ·rw[hfi2]at k1
            injection k1 with k1 _ _
            rw[k4]at k1
            cases k1
         have hes:es=[]:=List.eq_nil_of_length_eq_zero he0
         subst hes
         have holds:olds=[]:=List.eq_nil_of_length_eq_zero (by rw[hol];simp)
         subst holds
         have hr:=run_append_nil (P:=P) w t o.type el i2 z2 q2 e1 e3 addr m c news hnl2 hcell (by omega) (by omega) (by
          calc m*i2.bytes≤1000000000*100000:=Nat.mul_le_mul (by omega) hby2
           _≤281474976710656:=by decide)
         refine key (grownCap w m 0 el) ?_ (by simpa using grownCap_ge w m 0 el) (grownCap_le_maxLen w m 0 el (by simpa using hml))
         rw[hfi2,g1]
         simpa using hr
        |some b0=>
         have hsl:(∀j v,olds[j]?=some v→w.cell? (b0.add j)=some v):=by
          rcases k4 with k4|⟨q,k4,kc⟩
          ·intro j v hj
           have:olds=[]:=List.eq_nil_of_length_eq_zero (by rw[hol,←k2,k4];simp)
           rw[this]at hj
           simp at hj
          ·rw[hfi2]at k1
           injection k1 with k1 _ _
           rw[k4]at k1
           injection k1 with k1
           subst k1
           exact kc
         have hr:=run_append_grow (P:=P) w t o.type el i2 z2 q2 e1 e3 b0 es.length es.length olds (by rw[hol,q8]) hsl addr m c news hnl2 hcell (by omega) h63 (by
          have hn2:=nextslicecap_le (need:=es.length+m) (old:=es.length) (by omega)
          calc Builtin.nextslicecap (es.length+m) es.length*i2.bytes≤2000000000*100000:=Nat.mul_le_mul (by omega) hby2
           _≤281474976710656:=by decide)
         refine key (grownCap w (es.length+m) es.length el) ?_ (grownCap_ge _ _ _ _) (grownCap_le_maxLen _ _ _ _ hml)
         rw[hfi2,g1]
         exact hr
      ·cases h
     ·cases h
    ·cases h
   ·cases h
  ·exact uT hI hT hget ho hd hargs h
 ·cases h
end
end Go.Pv
namespace Go.Pv
open Go.RowKit (Below)
open Go.MapKept (IsKey)
theorem QF {P:Program} {u:TypeDesc} (hk:kindOf P u=some .bool):u=.bool:=by
 unfold kindOf at hk
 split at hk<;>first|rfl|(cases hk;done)|(rename_i n e';cases hq:P.info? e'<;>rw[hq]at hk<;>cases hk;done)|skip
 ·rename_i fields
  cases hq:fieldsOf P fields.toList with
  |none=>rw[hq]at hk;cases hk
  |some gs=>rw[hq]at hk;cases hk
theorem nL {P:Program} {u:TypeDesc} {k e:TypeId} (hk:kindOf P u=some (.map k e)):u=.map k e:=by
 unfold kindOf at hk
 split at hk<;>first|(cases hk;rfl)|(cases hk;done)|(rename_i n e';cases hq:P.info? e'<;>rw[hq]at hk<;>cases hk;done)|skip
 ·rename_i fields
  cases hq:fieldsOf P fields.toList with
  |none=>rw[hq]at hk;cases hk
  |some gs=>rw[hq]at hk;cases hk
inductive DK:TypeDesc→MK→Prop
 |int (q:IntKind):DK (.int q) (.int q)
 |str:DK .string .str
 |bool:DK .bool .bool
theorem Q9 {P:Program} {T:TypeId→Option (List CK)} {k:TypeId} {kk:MK} (h:(aJ P k).bind (pF T k)=some kk):gF kk=false∧∃u,P.underlying k=some u∧(DK u kk∨∃fs ks,u=.struct fs∧T k=some ks∧kk=.cells k ks):=by
 cases hd:aJ P k with
 |none=>rw[hd]at h;cases h
 |some d=>
  rw[hd]at h
  simp only[Option.bind_some]at h
  obtain⟨_,_,u,_,g1,_,_,g2,_⟩:=aD hd
  unfold pF at h
  split at h
  ·cases h;exact⟨rfl,u,g1,Or.inl (by rw[rR g2];exact .int _)⟩
  ·cases h;exact⟨rfl,u,g1,Or.inl (by rw[kM g2];exact .str)⟩
  ·cases h;exact⟨rfl,u,g1,Or.inl (by rw[QF g2];exact .bool)⟩
  ·cases hq:T k with
   |none=>rw[hq]at h;cases h
   |some ks=>
    rw[hq]at h
    simp only[Option.map_some,Option.some.injEq]at h
    subst h
    obtain⟨fs,hfs,_⟩:=Aj g2
    exact⟨rfl,u,g1,Or.inr ⟨fs,ks,hfs,rfl,rfl⟩⟩
  ·cases h
theorem NH {Q:Nat→Prop} {w:World} {u:TypeDesc} {kk:MK} (hd:DK u kk) {a:IV} {v:Value} (hk:dH kk a=true) (ha:aF Q w a v):IsKey u v:=by
 cases hd<;>cases a<;>(try (simp[dH]at hk;done))<;>(unfold aF at ha;subst ha;simp[IsKey,dH]at hk ⊢)<;>exact hk.symm
theorem FK {Q:Nat→Prop} {w:World} {u:TypeDesc} {kk:MK} (hd:DK u kk) {a x:IV} {va vx:Value} (h1:dH kk a=true) (h2:dH kk x=true) (ha:aF Q w a va) (hx:aF Q w x vx):Instr.sameNow u va vx=some (eqI x a)∧(eqI x a=true↔vx=va):=by
 cases hd with
 |int q=>
  cases a<;>(try (simp[dH]at h1;done))
  cases x<;>(try (simp[dH]at h2;done))
  rename_i q1 z1 q2 z2
  obtain rfl:q=q1:=by simpa[dH]using h1
  obtain rfl:q=q2:=by simpa[dH]using h2
  unfold aF at ha hx
  subst ha;subst hx
  refine⟨by simp[Instr.sameNow,eqI,eq_comm,BEq.beq],by simp[eqI]⟩
 |str=>
  cases a<;>(try (simp[dH]at h1;done))
  cases x<;>(try (simp[dH]at h2;done))
  unfold aF at ha hx
  subst ha;subst hx
  rename_i s1 s2
  refine⟨?_,by simp[eqI]⟩
  show some (s1 == s2)=_
  congr 1
  have:=MapKept.bytes_beq s1 s2
  by_cases h:s1=s2
  ·rw[this.2 h];simp[eqI,h]
  ·have h3:(s1 == s2)=false:=by
    cases hb:(s1 == s2) with
    |true=>exact absurd (this.1 hb) h
    |false=>rfl
   rw[h3];simp[eqI,Ne.symm h]
 |bool=>
  cases a<;>(try (simp[dH]at h1;done))
  cases x<;>(try (simp[dH]at h2;done))
  unfold aF at ha hx
  subst ha;subst hx
  refine⟨?_,by simp[eqI]⟩
  rename_i b1 b2
  cases b1<;>cases b2<;>rfl
theorem vH {Q:Nat→Prop} {w:World}:∀{ps:List (IV×IV)} {es:List MapEntry},dB Q w ps es→es.length=ps.length
 |[],es,h=>by unfold dB at h;subst h;rfl
 |(a,b)::ps,es,h=>by
  unfold dB at h
  obtain⟨e,r,h0,_,_,h3⟩:=h
  subst h0
  rw[List.length_cons,List.length_cons,vH h3]
theorem xq {Q:Nat→Prop} {w:World} {kk:MK} {a:IV} {va:Value} (ha:aF Q w a va) (R:List MapEntry→Nat→Result (Option (Nat×Value))) (hnil:∀i,R [] i=.ok none w)
  (hcons:∀(e:MapEntry) (es:List MapEntry) (i:Nat) (x:IV),dH kk x=true→aF Q w x e.key→R (e::es) i=(if eqI x a then .ok (some (i,e.val)) w else R es (i+1))∧(eqI x a=true↔e.key=va)) :
  ∀{ps:List (IV×IV)} {es:List MapEntry} (i:Nat),dB Q w ps es→d9 kk ps=true→
  (R es i=.ok none w∧fB ps a=none∧(∀x∈es,x.key≠va)∧yJ ps a=ps∧∀b vb c,aF Q w b vb→dB Q w (dS ps a b) (es++[⟨va,vb,c⟩]))∨
  ∃j e y,R es i=.ok (some (i+j,e.val)) w∧es[j]?=some e∧e.key=va∧fB ps a=some y∧aF Q w y e.val∧dB Q w (yJ ps a) (es.eraseIdx j)∧∀b vb,aF Q w b vb→dB Q w (dS ps a b) (es.set j ⟨va,vb,e.born⟩)
 |[],es,i,h,_=>by
  unfold dB at h;subst h
  refine Or.inl ⟨hnil i,rfl,by simp,rfl,fun b vb c hb=>?_⟩
  unfold dS dB
  exact⟨_,[],rfl,ha,hb,by unfold dB;rfl⟩
 |(x,y)::ps,es,i,h,hk=>by
  unfold dB at h
  unfold d9 at hk
  rw[Bool.and_eq_true]at hk
  obtain⟨e,r,h0,hx,hy,h3⟩:=h
  subst h0
  obtain⟨hs,hiff⟩:=hcons e r i x hk.1 hx
  unfold fB yJ
  cases hq:eqI x a with
  |true=>
   refine Or.inr ⟨0,e,y,by rw[hs,hq];rfl,rfl,hiff.1 hq,rfl,hy,h3,fun b vb hb=>?_⟩
   unfold dS
   rw[hq]
   simp only[if_true,List.set_cons_zero]
   unfold dB
   exact⟨_,r,rfl,(hiff.1 hq) ▸ hx,hb,h3⟩
  |false=>
   have hne:e.key≠va:=fun hke=>by have:=hiff.2 hke;rw[hq]at this;cases this
   rw[hq]at hs
   simp only[Bool.false_eq_true,if_false]at hs ⊢
   rcases xq ha R hnil hcons (i+1) h3 hk.2 with ⟨g1,g2,g3,g4,g5⟩|⟨j,e',y',g1,g2,g3,g4,g5,g6,g7⟩
   ·refine Or.inl ⟨hs.trans g1,g2,fun z hz=>?_,by rw[g4],fun b vb c hb=>?_⟩
    ·rcases List.mem_cons.1 hz with rfl|hz
     ·exact hne
     ·exact g3 z hz
    ·unfold dS
     rw[hq]
     simp only[Bool.false_eq_true,if_false]
     rw[List.cons_append]
     unfold dB
     exact⟨e,_,rfl,hx,hy,g5 b vb c hb⟩
   ·refine Or.inr ⟨j+1,e',y',by rw[hs,g1];congr 3;omega,by simpa using g2,g3,g4,g5,?_,fun b vb hb=>?_⟩
    ·rw[List.eraseIdx_cons_succ]
     unfold dB
     exact⟨e,_,rfl,hx,hy,g6⟩
    ·unfold dS
     rw[hq]
     simp only[Bool.false_eq_true,if_false]
     rw[List.set_cons_succ]
     unfold dB
     exact⟨e,_,rfl,hx,hy,g7 b vb hb⟩
theorem Gg:∀{es:List PV} {is:List IV},kH es=some is→es=is.map .imm
 |[],is,h=>by simp only[kH,Option.some.injEq]at h;subst h;rfl
 |.imm i::es,is,h=>by
  unfold kH at h
  split at h
  ·rename_i js hj
   simp only[Option.some.injEq]at h
   subst h
   rw[List.map_cons,←Gg hj]
  ·cases h
 |.any::es,is,h=>by cases h
 |.agg _::es,is,h=>by cases h
 |.tup _::es,is,h=>by cases h
 |.ptr _ _ _::es,is,h=>by cases h
 |.row _ _::es,is,h=>by cases h
 |.eptr _ _ _ _ _::es,is,h=>by cases h
 |.sub _ _ _ _ _::es,is,h=>by cases h
 |.iptr _::es,is,h=>by cases h
 |.ful _ _::es,is,h=>by cases h
 |.clo _ _::es,is,h=>by cases h
def K4 (Q:Nat→Prop) (w:World):List (IV×IV)→List MapEntry→Prop
 |[],es=>es=[]
 |(a,_)::ps,es=>∃e r,es=e::r∧aF Q w a e.key∧K4 Q w ps r
theorem wL {Q:Nat→Prop} {w:World} {kk:MK} {a:IV} {va:Value} (R:List MapEntry→Nat→Result (Option (Nat×Value))) (hnil:∀i,R [] i=.ok none w)
  (hcons:∀(e:MapEntry) (es:List MapEntry) (i:Nat) (x:IV),dH kk x=true→aF Q w x e.key→R (e::es) i=(if eqI x a then .ok (some (i,e.val)) w else R es (i+1))∧(eqI x a=true↔e.key=va)) :
  ∀{ps:List (IV×IV)} {es:List MapEntry} (i:Nat),K4 Q w ps es→d9 kk ps=true→
  (R es i=.ok none w∧iK ps a=none∧∀x∈es,x.key≠va)∨∃j e,R es i=.ok (some (i+j,e.val)) w∧es[j]?=some e∧e.key=va∧iK ps a=some j
 |[],es,i,h,_=>by
  unfold K4 at h;subst h
  exact Or.inl ⟨hnil i,rfl,by simp⟩
 |(x,y)::ps,es,i,h,hk=>by
  unfold K4 at h
  unfold d9 at hk
  rw[Bool.and_eq_true]at hk
  obtain⟨e,r,h0,hx,h3⟩:=h
  subst h0
  obtain⟨hs,hiff⟩:=hcons e r i x hk.1 hx
  unfold iK
  cases hq:eqI x a with
  |true=>exact Or.inr ⟨0,e,by rw[hs,hq];rfl,rfl,hiff.1 hq,rfl⟩
  |false=>
   have hne:e.key≠va:=fun hke=>by have:=hiff.2 hke;rw[hq]at this;cases this
   rw[hq]at hs
   simp only[Bool.false_eq_true,if_false]at hs ⊢
   rcases wL R hnil hcons (i+1) h3 hk.2 with ⟨g1,g2,g3⟩|⟨j,e',g1,g2,g3,g4⟩
   ·refine Or.inl ⟨hs.trans g1,by rw[g2];rfl,fun z hz=>?_⟩
    rcases List.mem_cons.1 hz with rfl|hz
    ·exact hne
    ·exact g3 z hz
   ·exact Or.inr ⟨j+1,e',by rw[hs,g1];congr 3;omega,by simpa using g2,g3,by rw[g4];rfl⟩
structure Rn (P:Program) (kt:TypeId) (kk:MK):Prop where
 it:gF kk=false
 check:∀{Q:Nat→Prop} {w:World} {a:IV} {va:Value} (em:Bool),dH kk a=true→aF Q w a va→(Instr.checkKey em 10000 kt va).run P w=.ok () w
 stays:∀{Q:Nat→Prop} {w:World} {a:IV} {va:Value},dH kk a=true→aF Q w a va→(Instr.keyThatStays va va).run P w=.ok va w
 find:∀{Q:Nat→Prop} {w:World} {a:IV} {va:Value} {ps:List (IV×IV)} {es:List MapEntry},dH kk a=true→aF Q w a va→dB Q w ps es→d9 kk ps=true→
  ((Instr.findKey kt va es).run P w=.ok none w∧fB ps a=none∧(∀x∈es,x.key≠va)∧yJ ps a=ps∧∀b vb c,aF Q w b vb→dB Q w (dS ps a b) (es++[⟨va,vb,c⟩]))∨
  ∃j e y,(Instr.findKey kt va es).run P w=.ok (some (j,e.val)) w∧es[j]?=some e∧e.key=va∧fB ps a=some y∧aF Q w y e.val∧dB Q w (yJ ps a) (es.eraseIdx j)∧∀b vb,aF Q w b vb→dB Q w (dS ps a b) (es.set j ⟨va,vb,e.born⟩)
 idx:∀{Q:Nat→Prop} {w:World} {a:IV} {va:Value} {ps:List (IV×IV)} {es:List MapEntry},dH kk a=true→aF Q w a va→K4 Q w ps es→d9 kk ps=true→
  ((Instr.findKey kt va es).run P w=.ok none w∧iK ps a=none∧∀x∈es,x.key≠va)∨
  ∃j e,(Instr.findKey kt va es).run P w=.ok (some (j,e.val)) w∧es[j]?=some e∧e.key=va∧iK ps a=some j
theorem mK:∀{a b:List IV} {ks:List CK},aG a ks=true→aG b ks=true→eqC a b=eqC b a
 |[],[],_,_,_=>rfl
 |[],_::_,[],_,h=>by simp[aG]at h
 |[],_,_::_,h,_=>by simp[aG]at h
 |_::_,_,[],h,_=>by simp[aG]at h
 |_::_,[],_::_,_,h=>by simp[aG]at h
 |x::a,y::b,k::ks,h1,h2=>by
  cases x<;>cases k<;>(try (simp[aG]at h1;done))<;>cases y<;>(try (simp[aG]at h2;done))
  ·simp only[aG]at h1 h2
   simp only[eqC,mK h1 h2]
   congr 1
   rename_i u v;cases u<;>cases v<;>rfl
  ·simp only[aG,Bool.and_eq_true]at h1 h2
   simp only[eqC,mK h1.2 h2.2]
   congr 1
   exact decide_eq_decide.2 eq_comm
  ·simp only[aG]at h1 h2
   simp only[eqC,mK h1 h2]
   congr 1
   exact decide_eq_decide.2 eq_comm
theorem qE {Q:Nat→Prop} {w:World}:∀{a b:List IV} {ks:List CK} {xs ys:List Value},aG a ks=true→aG b ks=true→aO Q w a xs→aO Q w b ys→(eqC a b=true↔xs=ys)
 |[],[],_,xs,ys,_,_,h3,h4=>by unfold aO at h3 h4;subst h3;subst h4;simp[eqC]
 |[],_::_,[],_,_,_,h,_,_=>by simp[aG]at h
 |[],_,_::_,_,_,h,_,_,_=>by simp[aG]at h
 |_::_,_,[],_,_,h,_,_,_=>by simp[aG]at h
 |_::_,[],_::_,_,_,_,h,_,_=>by simp[aG]at h
 |x::a,y::b,k::ks,xs,ys,h1,h2,h3,h4=>by
  unfold aO at h3 h4
  obtain⟨v,r,rfl,_,g1,g2⟩:=h3
  obtain⟨v',r',rfl,_,g3,g4⟩:=h4
  cases x<;>cases k<;>(try (simp[aG]at h1;done))<;>cases y<;>(try (simp[aG]at h2;done))
  ·simp only[aG]at h1 h2
   unfold aF at g1 g3
   subst g1;subst g3
   simp[eqC,qE h1 h2 g2 g4]
  ·simp only[aG,Bool.and_eq_true,decide_eq_true_eq]at h1 h2
   unfold aF at g1 g3
   subst g1;subst g3
   obtain⟨rfl,h1⟩:=h1
   obtain⟨rfl,h2⟩:=h2
   simp[eqC,qE h1 h2 g2 g4]
  ·simp only[aG]at h1 h2
   unfold aF at g1 g3
   subst g1;subst g3
   simp[eqC,qE h1 h2 g2 g4]
theorem lV {Q:Nat→Prop} {w:World}:∀{a:List IV} {ks:List CK} {xs:List Value} (n:Nat),aG a ks=true→aO Q w a xs→(xs.zip xs).all (fun x=>Instr.sameBits n x.1 x.2)=true
 |[],_,xs,n,_,h=>by unfold aO at h;subst h;rfl
 |_::_,[],_,_,h,_=>by simp[aG]at h
 |x::a,k::ks,xs,n,h1,h3=>by
  unfold aO at h3
  obtain⟨v,r,rfl,_,g1,g2⟩:=h3
  cases x<;>cases k<;>(try (simp[aG]at h1;done))
  ·simp only[aG]at h1
   unfold aF at g1
   subst g1
   rw[List.zip_cons_cons,List.all_cons,lV n h1 g2,Bool.and_true]
   simp[Instr.sameBits]
  ·simp only[aG,Bool.and_eq_true,decide_eq_true_eq]at h1
   unfold aF at g1
   subst g1
   rw[List.zip_cons_cons,List.all_cons,lV n h1.2 g2,Bool.and_true]
   simp[Instr.sameBits]
  ·simp only[aG]at h1
   unfold aF at g1
   subst g1
   rw[List.zip_cons_cons,List.all_cons,lV n h1 g2,Bool.and_true]
   simp[Instr.sameBits,MapKept.bytes_beq]
theorem sK {P:Program} {T:TypeId→Option (List CK)} (hX:dW P T) {kt:TypeId} {kk:MK} (h:(aJ P kt).bind (pF T kt)=some kk):Rn P kt kk:=by
 obtain⟨hit,u,hu,hd|⟨fs,ks,rfl,hT,rfl⟩⟩:=Q9 h
 ·refine⟨hit,fun em hk ha=>MapKept.run_checkKey hu (NH hd hk ha) em 9999,fun hk ha=>MapKept.run_keyThatStays (NH hd hk ha),fun {Q w a va ps es} hk ha hm hks=>?_,fun {Q w a va ps es} hk ha hm hks=>?_⟩
  ·have hR:=xq ha (fun es i=>match Instr.findNow u va es i with
    |some r=>Result.ok r w
    | none => Result.halt (.stuck "") w) (fun i => rfl) (fun e es i x h1 h2 => by
     obtain⟨g1,g2⟩:=FK hd hk h1 ha h2
     refine⟨?_,g2⟩
     simp only[Instr.findNow,g1]
     cases eqI x a<;>simp) 0 hm hks
   have hrun:∀r,(match Instr.findNow u va es 0 with
    |some r=>Result.ok r w
    | none => Result.halt (.stuck "") w) = .ok r w → (Instr.findKey kt va es).run P w = .ok r w := by
    intro r hr
    cases hq:Instr.findNow u va es 0 with
    |none=>rw[hq]at hr;cases hr
    |some r'=>
     rw[hq]at hr
     injection hr with hr
     subst hr
     exact MapKept.run_findKey hu hq
   rcases hR with ⟨g1,g2⟩|⟨j,e,y,g1,g2⟩
   ·exact Or.inl ⟨hrun _ g1,g2⟩
   ·exact Or.inr ⟨j,e,y,by have:=hrun _ g1;rw[Nat.zero_add]at this;exact this,g2⟩
  ·have hR:=wL (va:=va) (fun es i=>match Instr.findNow u va es i with
    |some r=>Result.ok r w
    | none => Result.halt (.stuck "") w) (fun i => rfl) (fun e es i x h1 h2 => by
     obtain⟨g1,g2⟩:=FK hd hk h1 ha h2
     refine⟨?_,g2⟩
     simp only[Instr.findNow,g1]
     cases eqI x a<;>simp) 0 hm hks
   have hrun:∀r,(match Instr.findNow u va es 0 with
    |some r=>Result.ok r w
    | none => Result.halt (.stuck "") w) = .ok r w → (Instr.findKey kt va es).run P w = .ok r w := by
    intro r hr
    cases hq:Instr.findNow u va es 0 with
    |none=>rw[hq]at hr;cases hr
    |some r'=>
     rw[hq]at hr
     injection hr with hr
     subst hr
     exact MapKept.run_findKey hu hq
   rcases hR with ⟨g1,g2⟩|⟨j,e,g1,g2⟩
   ·exact Or.inl ⟨hrun _ g1,g2⟩
   ·exact Or.inr ⟨j,e,by have:=hrun _ g1;rw[Nat.zero_add]at this;exact this,g2⟩
 ·refine⟨rfl,fun {Q w a va} em hk ha=>?_,fun {Q w a va} hk ha=>?_,fun {Q w a va ps es} hk ha hm hks=>?_,fun {Q w a va ps es} hk ha hm hks=>?_⟩
  ·cases a<;>(try (simp[dH]at hk;done))
   rename_i cs
   obtain⟨xs,rfl,hc⟩:=bG.1 ha
   exact (hX kt ks hT w (.tmp 0) (.tmp 0) cs cs xs xs Q hk hk hc hc).2.2.2 em
  ·cases a<;>(try (simp[dH]at hk;done))
   rename_i cs
   obtain⟨xs,rfl,hc⟩:=bG.1 ha
   have hs:Instr.sameBits 10000 (.agg xs.toArray) (.agg xs.toArray)=true:=by
    have:=lV 9999 hk hc
    simpa[Instr.sameBits]using this
   simp[Instr.keyThatStays,hs]
  ·cases a<;>(try (simp[dH]at hk;done))
   rename_i cs
   obtain⟨xs,rfl,hc⟩:=bG.1 ha
   have hR:=xq (kk:=.cells kt ks) ha (fun es i=>(Instr.findAsking kt (.agg xs.toArray) es i).run P w) (fun i=>rfl) (fun e es i x h1 h2=>by
    cases x<;>(try (simp[dH]at h1;done))
    rename_i ds
    obtain⟨ys,hy,hd⟩:=bG.1 h2
    have he:=(hX kt ks hT w (.tmp 0) (.tmp 0) cs ds xs ys Q hk h1 hc hd).2.2.1
    have hq:eqI (.agg ds) (.agg cs)=eqC cs ds:=mK h1 hk
    rw[hq]
    refine⟨?_,(qE hk h1 hc hd).trans ⟨fun h=>by rw[hy,h],fun h=>?_⟩⟩
    ·simp only[Instr.findAsking,hy,Sem.run_bind,he,Result.andThen]
     cases eqC cs ds<;>rfl
    ·rw[hy]at h
     injection h with h
     exact (List.toArray_inj h).symm) 0 hm hks
   rw[run_findKey_eq w (by rw[hu]) (.agg xs.toArray) es]
   simpa using hR
  ·cases a<;>(try (simp[dH]at hk;done))
   rename_i cs
   obtain⟨xs,rfl,hc⟩:=bG.1 ha
   have hR:=wL (kk:=.cells kt ks) (va:=.agg xs.toArray) (fun es i=>(Instr.findAsking kt (.agg xs.toArray) es i).run P w) (fun i=>rfl) (fun e es i x h1 h2=>by
    cases x<;>(try (simp[dH]at h1;done))
    rename_i ds
    obtain⟨ys,hy,hd⟩:=bG.1 h2
    have he:=(hX kt ks hT w (.tmp 0) (.tmp 0) cs ds xs ys Q hk h1 hc hd).2.2.1
    have hq:eqI (.agg ds) (.agg cs)=eqC cs ds:=mK h1 hk
    rw[hq]
    refine⟨?_,(qE hk h1 hc hd).trans ⟨fun h=>by rw[hy,h],fun h=>?_⟩⟩
    ·simp only[Instr.findAsking,hy,Sem.run_bind,he,Result.andThen]
     cases eqC cs ds<;>rfl
    ·rw[hy]at h
     injection h with h
     exact (List.toArray_inj h).symm) 0 hm hks
   rw[run_findKey_eq w (by rw[hu]) (.agg xs.toArray) es]
   simpa using hR
theorem qh {kk:MK} {a b:IV} (h1:dH kk a=true):∀{ps:List (IV×IV)},d9 kk ps=true→d9 kk (dS ps a b)=true
 |[],_=>by simp[dS,d9,h1]
 |(x,y)::ps,hk=>by
  unfold d9 at hk
  rw[Bool.and_eq_true]at hk
  unfold dS
  split
  ·unfold d9;rw[hk.1,hk.2];rfl
  ·unfold d9;rw[hk.1,qh h1 hk.2];rfl
theorem FB {kk:MK} {a:IV}:∀{ps:List (IV×IV)},d9 kk ps=true→d9 kk (yJ ps a)=true
 |[],_=>rfl
 |(x,y)::ps,hk=>by
  unfold d9 at hk
  rw[Bool.and_eq_true]at hk
  unfold yJ
  split
  ·exact hk.2
  ·unfold d9;rw[hk.1,FB hk.2];rfl
section
variable {Γ:Ctx} {k:K} {w:World} {s:St} (hI:Inv Γ k s.B w)
include hI
theorem qx {r g:Nat} {kk:MK} {ps:List (IV×IV)} {v:Value} (h:Rep k s.B.length w (.row r g) v) (hb:s.B[r]?=some (.map kk g ps)) (hit:gF kk=false) :
  ∃b es clock,v=.map (some b)∧w.heap[b]?=some (.map es clock)∧dB k.Q w ps es.toList∧d9 kk ps=true∧MapKept.Stamped es clock∧k.ρ r=.map (some b)∧Γ.N≤b∧k.G r=g:=by
 unfold Rep at h
 obtain⟨_,_,_,h3⟩:=h
 obtain⟨g1,hmr⟩:=hI.blk r _ hb
 obtain⟨b,es,clock,e1,e2,e3,e4,e5,e6⟩:=(fJ hit).1 hmr
 exact⟨b,es,clock,(h3 g1.symm).trans e1,e3,e4,e5,e6,e1,e2,g1⟩
end
section
variable {P:Program} {Γ:Ctx} {k:K} {w:World} {a:Act} {s:St} (hI:Inv Γ k s.B w) {look:Operand→PV} (hT:∀x,Rep k s.B.length w (look x) (a.eval x)) {o:Oper} {id:Nat} {get:Nat→Option Blk} {cr:List Orc} {out:Out} (hget:∀r b,get r=some b→s.B[r]?=some b)
include hI hT hget
omit hT in
theorem BA {t:TypeId} (ho:o.op=.makeMap t none) (h:ak P Γ.eqT o id look get cr=some out):Does P Γ k w a s.B o out:=by
 unfold ak at h
 simp only[ho]at h
 split at h
 ·rename_i kt _ g hd hg
  split at h
  ·rename_i kk hk
   simp only[Option.some.injEq]at h
   subst h
   have hdd:=hget _ _ hg
   have hG:k.G id=g:=hI.blk id _ hdd
   obtain⟨h1,h2⟩:=bJ (v:=.map (some w.heap.size)) (g:=g+1) (y:=.map kk (g+1) []) (w':=w.alloc (.map #[] 0)) hI hdd (Or.inl (by omega)) ((Below.refl _ _).alloc hI.le _)
    (fun b hb _=>Below.heap_alloc _ _ _ hb) (fun b hb=>by
     injection hb with hb
     subst hb
     exact⟨Or.inl (Nat.le_refl _),by simp⟩) (fun hx=>by
     exact⟨K.bP _ _ _ _,(fJ (Q9 hk).1).2 ⟨w.heap.size,#[],0,K.bL _ _ _ _,hI.le,heap_alloc_new w _,by unfold dB;rfl,rfl,MapKept.stamped_empty 0⟩⟩)
   refine bI (v:=.map (some w.heap.size)) (w':=w.alloc (.map #[] 0)) ?_ h1 (by unfold aY;unfold aY;exact h2) ?_
   ·have:(Instr.makeMap t none).run P w=.ok (.map (some w.heap.size)) (w.alloc (.map #[] 0)):=rfl
    simp[execOp,ho,this]
   ·unfold Rep
    refine⟨rfl,(List.getElem?_eq_some_iff.1 hdd).1,Nat.le_of_eq (K.bP _ _ _ _).symm,fun _=>?_⟩
    rw[K.bL]
  ·cases h
 ·cases h
omit hI hT hget in
theorem yh {Q:Nat→Prop} {e:TypeId} {d:TD} (he:aJ P e=some d):∃z,(zeroValue e).run P w=.ok z w∧aF Q w (eu d) z:=by
 obtain⟨i,z,u,h1,h2,h3,h4,h5,h6,h7,h8,h9⟩:=aD he
 refine⟨z,EM h1 h3,?_⟩
 have hc:=dL (Q:=Q) (w:=w) h4
 unfold eu
 cases hz:z with
 |agg vs=>
  rw[hz]at h6 hc
  have:d.agg=true:=by rw[h7,←h6];rfl
  rw[this,if_pos rfl,bG]
  exact⟨vs.toList,by simp,hc⟩
 |_=>
  have ha:d.agg=false:=by rw[h7,←h6,hz];rfl
  rw[ha]
  simp only[Bool.false_eq_true,if_false]
  rw[hz]at hc
  revert hc
  cases hdz:d.zero with
  |nil=>intro hc;unfold aO at hc;cases hc
  |cons q qs=>
   intro hc
   unfold aO at hc
   obtain⟨v,r,e1,_,e2,_⟩:=hc
   simp[Value.cells]at e1
   rw[←e1.1]at e2
   exact e2
omit hI hT hget in
theorem zZ {Q:Nat→Prop}:∀{is:List IV} {vs:List Value},aO Q w is vs→∀u∈vs,one u
 |[],vs,h=>by unfold aO at h;subst h;simp
 |c::cs,vs,h=>by
  unfold aO at h
  obtain⟨v,r,e,h1,_,h3⟩:=h
  subst e
  intro u hu
  rcases List.mem_cons.1 hu with rfl|hu
  ·exact h1
  ·exact zZ h3 u hu
omit hI hT hget in
theorem Ja {Q:Nat→Prop} {e:TypeId} {d:TD} (he:aJ P e=some d):∃i z,P.info? e=some i∧i.zero=some z∧aF Q w (eu d) z∧z.cells.size=i.size∧∀u∈z.cells.toList,one u:=by
 obtain⟨i,z,u,h1,h2,h3,h4,h5,h6,h7,h8,h9⟩:=aD he
 have hc:=dL (Q:=Q) (w:=w) h4
 refine⟨i,z,h1,h3,?_,?_,zZ hc⟩
 ·unfold eu
  cases hz:z with
  |agg vs=>
   rw[hz]at h6 hc
   have:d.agg=true:=by rw[h7,←h6];rfl
   rw[this,if_pos rfl,bG]
   exact⟨vs.toList,by simp,hc⟩
  |_=>
   have ha:d.agg=false:=by rw[h7,←h6,hz];rfl
   rw[ha]
   simp only[Bool.false_eq_true,if_false]
   rw[hz]at hc
   revert hc
   cases hdz:d.zero with
   |nil=>intro hc;unfold aO at hc;cases hc
   |cons q qs=>
    intro hc
    unfold aO at hc
    obtain⟨v,r,e1,_,e2,_⟩:=hc
    simp[Value.cells]at e1
    rw[←e1.1]at e2
    exact e2
 ·have hl:∀{is:List IV} {vs:List Value},aO Q w is vs→vs.length=is.length:=by
   intro is
   induction is with
   |nil=>intro vs h;unfold aO at h;subst h;rfl
   |cons c cs ih=>
    intro vs h
    unfold aO at h
    obtain⟨v,r,e,_,_,h3⟩:=h
    subst e
    rw[List.length_cons,List.length_cons,ih h3]
  rw[←h9,←hl hc,Array.length_toList]
omit hI hT hget in
theorem sD {cs:Array Value} {sz:Nat} (h:cs.size=sz) (hp:0 < sz):∀c:Nat,(madeCells cs (c*sz)).toList=(List.replicate c cs.toList).flatten
 |0=>by simp[madeCells]
 |c+1=>by
  have ih:=sD h hp c
  have e1:(madeCells cs (c*sz)).toList=(List.range (c*sz)).map fun i=>cs[i % cs.size]! := by
   unfold madeCells;rw[Array.toList_map,Array.toList_range]
  have e2:(madeCells cs ((c+1)*sz)).toList=(List.range ((c+1)*sz)).map fun i=>cs[i % cs.size]! := by
   unfold madeCells;rw[Array.toList_map,Array.toList_range]
  rw[e2,Nat.succ_mul,List.range_add,List.map_append,←e1,ih,List.replicate_succ',List.flatten_append,List.flatten_singleton]
  congr 1
  apply List.ext_getElem
  ·simp[h]
  ·intro i h1 h2
   simp only[List.getElem_map,List.getElem_range]
   have hi:i < cs.size:=by simpa using h2
   have:(c*sz+i) % cs.size=i:=by rw[h,Nat.mul_comm,Nat.mul_add_mod];exact Nat.mod_eq_of_lt (by rw[←h];exact hi)
   rw[this,getElem!_pos cs i hi]
   simp
omit hI hT hget in
theorem pQ {kk:K} {n sz:Nat} {i:IV} {z:Value} (hr:aF kk.Q w i z) (hs:z.cells.size=sz) (h1:∀u∈z.cells.toList,one u):∀l:Nat,aL kk n w sz (List.replicate l (.imm i)) (List.replicate l z.cells.toList).flatten
 |0=>by simp[aL]
 |l+1=>by
  rw[List.replicate_succ,List.replicate_succ,List.flatten_cons]
  unfold aL
  exact⟨z,_,rfl,hs,h1,aB.2 hr,pQ hr hs h1 l⟩
theorem wK {t:TypeId} {l c:Operand} (ho:o.op=.makeSlice t l c) (h:ak P Γ.eqT o id look get cr=some out):Does P Γ k w a s.B o out:=by
 unfold ak at h
 simp only[ho]at h
 split at h
 ·rename_i ag sz0 zs el sz bytes g k1 z k2 y hd hg hl hc
  split at h
  ·rename_i d2 hd2
   split at h
   ·rename_i hcc
    obtain⟨hsz,hby,hz0,hzy,hym⟩:=hcc
    simp only[Option.some.injEq]at h
    subst h
    obtain⟨i,zz,u,g1,g2,_,_,g5,_⟩:=aD hd
    obtain⟨ie,q6,q7,q8,q9⟩:=tq g5
    subst q6
    have e1:=hT l
    rw[hl]at e1
    have e2:=hT c
    rw[hc]at e2
    have ev1:=bS e1
    have ev2:=bS e2
    have hdd:=hget _ _ hg
    have hG:k.G id=g:=hI.blk id _ hdd
    obtain⟨ie2,z0,p1,p2,p3,p4,p5⟩:=Ja (Q:=k.Q) (w:=w) hd2
    rw[q7]at p1
    injection p1 with p1
    subst p1
    rw[q8]at p4
    unfold most at hym
    have hyn:(y.toNat:Int)=y:=Int.toNat_of_nonneg (by omega)
    have hzn:(z.toNat:Int)=z:=Int.toNat_of_nonneg hz0
    have hyN:y.toNat≤1000000000:=by omega
    have hzN:z.toNat≤y.toNat:=by omega
    have hbN:ie.bytes*y.toNat≤281474976710656:=by
     rw[q9]
     calc bytes*y.toNat≤100000*1000000000:=Nat.mul_le_mul hby hyN
      _≤281474976710656:=by decide
    have hb:(ie.bytes:Int)*y≤281474976710656:=by
     have:((ie.bytes*y.toNat:Nat):Int)≤281474976710656:=by omega
     rw[Int.natCast_mul,hyn]at this
     exact this
    have hrun:=run_make (P:=P) w t el ie z0 g2 q7 p2 k1 k2 z y hz0 hzy hb (by omega)
    rw[q8]at hrun
    have hrun2:(execOp a.eval o).run P w=.ok (.value (.slice (some ⟨w.heap.size,0,none⟩) z.toNat y.toNat)) (w.alloc (.cells (madeCells z0.cells (y.toNat*sz)) el)):=by
     simp[execOp,ho,ev1,ev2,hrun]
    have hlen:((List.replicate z.toNat z0.cells.toList).flatten).length=z.toNat*sz:=by
     rw[List.length_flatten,List.map_replicate,List.sum_replicate_nat,Array.length_toList,p4]
    have hown:(w.alloc (.cells (madeCells z0.cells (y.toNat*sz)) el)).ownsRow Γ.N el sz (.slice (some ⟨w.heap.size,0,none⟩) z.toNat y.toNat) z.toNat (List.replicate z.toNat z0.cells.toList).flatten:=by
     refine⟨hlen,Or.inr ⟨w.heap.size,y.toNat,madeCells z0.cells (y.toNat*sz),rfl,hI.le,heap_alloc_new w _,hzN,?_,size_madeCells _ _,?_⟩⟩
     ·simp only[maxLen]
      omega
     ·rw[sD p4 hsz]
      have hsp:List.replicate y.toNat z0.cells.toList=List.replicate z.toNat z0.cells.toList++List.replicate (y.toNat - z.toNat) z0.cells.toList:=by
       rw[List.replicate_append_replicate];congr 1;omega
      rw[hsp,List.flatten_append,List.take_append_of_le_length (by rw[hlen];exact Nat.le_refl _),List.take_of_length_le (by rw[hlen];exact Nat.le_refl _)]
    obtain⟨r1,r2⟩:=bJ (v:=.slice (some ⟨w.heap.size,0,none⟩) z.toNat y.toNat) (g:=g+1) (y:=.row el sz (g+1) (List.replicate z.toNat (.imm (eu d2)))) (w':=w.alloc (.cells (madeCells z0.cells (y.toNat*sz)) el)) hI hdd (Or.inl (by omega)) ((Below.refl _ _).alloc hI.le _)
     (fun b hb _=>Below.heap_alloc _ _ _ hb) (fun b hb=>by
      injection hb with hb
      subst hb
      exact⟨Or.inl (Nat.le_refl _),by simp⟩) (fun hx=>⟨K.bP _ _ _ _,(List.replicate z.toNat z0.cells.toList).flatten,by rw[K.bL,List.length_replicate];exact hown,bf hx _ _ (pQ p3 p4 p5 z.toNat)⟩)
    refine bI hrun2 r1 (by unfold aY;unfold aY;exact r2) ?_
    unfold Rep
    exact⟨rfl,(List.getElem?_eq_some_iff.1 hdd).1,Nat.le_of_eq (K.bP _ _ _ _).symm,fun _=>by rw[K.bL]⟩
   ·cases h
  ·cases h
 ·cases h
omit hI hT hget in
theorem Ta {Q:Nat→Prop} {kk:K} {n:Nat} (hQ:kk.Q=Q) {i:IV} {v:Value} {b:Bool} (h:aF Q w i v):Rep kk n w (.tup [.imm i,.imm (.bool b)]) (.tuple #[v,.bool b]):=by
 unfold Rep
 refine⟨[v,.bool b],rfl,?_⟩
 unfold aI aI aI
 exact⟨_,_,rfl,aB.2 (hQ ▸ h),_,_,rfl,aB.2 (by unfold aF;rfl),rfl⟩
omit hI hT hget in
theorem xR {t kt e:TypeId} {m x z:Value} {b clock:Nat} {es:Array MapEntry} {r:Option (Nat×Value)} (g1:P.underlying t=some (.map kt e)) (hck:∀em:Bool,(Instr.checkKey em 10000 kt x).run P w=.ok () w) (hz:(zeroValue e).run P w=.ok z w) (e1:m=.map (some b)) (e2:w.heap[b]?=some (.map es clock))
  (hfk:(Instr.findKey kt x es.toList).run P w=.ok r w):(Instr.lookup t m x false).run P w=.ok (match r with
    |some (_,v)=>v
    |none=>z) w:=by
 simp only[Instr.lookup,e1,Sem.run_bind,run_underlying g1,Result.andThen]
 simp[MapKept.run_getObj_map e2,hck,hfk,Result.andThen]
 cases r with
 |none=>simp[hz]
 |some q=>simp
omit hI hT hget in
theorem om {N n m sz:Nat} {e:TypeId} {o:Option (Nat×Nat×Nat)}:∀{ps:List (IV×IV)} {i:Nat} {es:List MapEntry} {bs:List Nat},bF N k n w m e sz o i ps es bs→K4 k.Q w ps es
 |[],_,_,_,h=>h.1
 |(a,x)::ps,i,es,bs,h=>by
  unfold bF at h
  obtain⟨en,r,h1,h2,h3⟩:=h
  rcases h3 with ⟨j,g,h4,h5,h6⟩|⟨h4,b,bs',is,h5,h6,h7,h8,h9⟩
  ·exact⟨en,r,h1,h2,om h6⟩
  ·exact⟨en,r,h1,h2,om h9⟩
omit hI hT hget in
theorem F6 {N n m sz:Nat} {e:TypeId} {j g:Nat}:∀{ps:List (IV×IV)} {q i:Nat} {es:List MapEntry} {bs:List Nat} {en:MapEntry},bF N k n w m e sz (some (i+q,j,g)) i ps es bs→es[q]?=some en→Rep k n w (.row j g) en.val
 |[],q,_,_,_,_,h,he=>by rw[h.1]at he;simp at he
 |(a,x)::ps,q,i,es,bs,en,h,he=>by
  unfold bF at h
  obtain⟨en',r,h1,h2,h3⟩:=h
  subst h1
  cases q with
  |zero=>
   simp only[List.getElem?_cons_zero,Option.some.injEq]at he
   subst he
   rcases h3 with ⟨j',g',h4,h5,h6⟩|⟨h4,_⟩
   ·simp only[Nat.add_zero,Option.some.injEq,Prod.mk.injEq]at h4
    obtain⟨_,rfl,rfl⟩:=h4
    exact h5
   ·exact absurd rfl (h4 j g)
  |succ q=>
   simp only[List.getElem?_cons_succ]at he
   rcases h3 with ⟨j',g',h4,h5,h6⟩|⟨h4,b,bs',is,h5,h6,h7,h8,h9⟩
   ·simp only[Option.some.injEq,Prod.mk.injEq]at h4
    omega
   ·exact F6 (q:=q) (i:=i+1) (by rw[show i+1+q=i+(q+1) by omega];exact h9) he
omit hI hT hget in
theorem AL {N n m sz:Nat} {e:TypeId} {o:Option (Nat×Nat×Nat)}:∀{ps:List (IV×IV)} {i:Nat} {es:List MapEntry} {bs:List Nat},(∀p,i≤p→∀j g,o≠some (p,j,g))→bF N k n w m e sz o i ps es bs→bF N k n w m e sz none i ps es bs
 |[],_,_,_,_,h=>h
 |(a,x)::ps,i,es,bs,ho,h=>by
  unfold bF at h ⊢
  obtain⟨en,r,h1,h2,h3⟩:=h
  refine⟨en,r,h1,h2,?_⟩
  rcases h3 with ⟨j,g,h4,h5,h6⟩|⟨h4,b,bs',is,h5,h6,h7,h8,h9⟩
  ·exact absurd h4 (ho i (Nat.le_refl _) j g)
  ·exact Or.inr ⟨fun _ _=>by simp,b,bs',is,h5,h6,h7,h8,AL (fun p hp=>ho p (by omega)) h9⟩
omit hI hT hget in
theorem D5 {N n m sz:Nat} {e:TypeId} {j g bj:Nat} {a:IV} {is:List IV} {v:Value} (hH:BL N k n w m e sz is v bj):∀{ps:List (IV×IV)} {q i:Nat} {es:List MapEntry} {bs:List Nat} {en:MapEntry},
  bF N k n w m e sz (some (i+q,j,g)) i ps es bs→es[q]?=some en→iK ps a=some q→bj∉bs→
  ∃bs',(∀c∈bs',c=bj∨c∈bs)∧bF N k n w m e sz none i (dS ps a (.sl sz is)) (es.set q ⟨en.key,v,en.born⟩) bs'
 |[],q,_,_,_,_,h,he,_,_=>by rw[h.1]at he;simp at he
 |(x,y)::ps,q,i,es,bs,en,h,he,hi,hn=>by
  unfold bF at h
  obtain⟨en',r,h1,h2,h3⟩:=h
  subst h1
  unfold iK at hi
  unfold dS
  cases q with
  |zero=>
   simp only[List.getElem?_cons_zero,Option.some.injEq]at he
   subst he
   have hx:eqI x a=true:=by
    cases hq:eqI x a with
    |true=>rfl
    |false=>rw[hq]at hi;cases hr:iK ps a<;>rw[hr]at hi<;>simp at hi
   rw[if_pos hx]
   rcases h3 with ⟨j',g',h4,h5,h6⟩|⟨h4,_⟩
   ·refine⟨bj::bs,fun c hc=>List.mem_cons.1 hc,?_⟩
    rw[List.set_cons_zero]
    unfold bF
    exact⟨_,r,rfl,h2,Or.inr ⟨fun _ _=>by simp,bj,bs,is,rfl,hn,rfl,hH,AL (fun p hp j g hj=>by simp only[Option.some.injEq,Prod.mk.injEq]at hj;omega) h6⟩⟩
   ·exact absurd rfl (h4 j g)
  |succ q=>
   simp only[List.getElem?_cons_succ]at he
   have hx:eqI x a=false∧iK ps a=some q:=by
    cases hq:eqI x a with
    |true=>rw[hq]at hi;simp at hi
    |false=>
     rw[hq]at hi
     cases hr:iK ps a<;>rw[hr]at hi<;>simp at hi
     exact⟨rfl,by rw[hi]⟩
   rw[if_neg (by rw[hx.1];simp)]
   rcases h3 with ⟨j',g',h4,h5,h6⟩|⟨h4,b,bs',is',h5,h6,h7,h8,h9⟩
   ·simp only[Option.some.injEq,Prod.mk.injEq]at h4
    omega
   ·subst h5
    obtain⟨bs2,g1,g2⟩:=D5 hH (q:=q) (i:=i+1) (by rw[show i+1+q=i+(q+1) by omega];exact h9) he hx.2 (fun hc=>hn (List.mem_cons_of_mem _ hc))
    refine⟨b::bs2,fun c hc=>?_,?_⟩
    ·rcases List.mem_cons.1 hc with rfl|hc
     ·exact Or.inr List.mem_cons_self
     ·exact (g1 c hc).imp (fun h=>h) (fun h=>List.mem_cons_of_mem _ h)
    ·rw[List.set_cons_succ]
     unfold bF
     refine⟨_,_,rfl,h2,Or.inr ⟨fun _ _=>by simp,b,bs2,is',rfl,fun hb=>?_,h7,h8,g2⟩⟩
     rcases g1 b hb with rfl|hb
     ·exact hn List.mem_cons_self
     ·exact h6 hb
omit hI hT hget in
theorem AQ {N n m sz:Nat} {e:TypeId} {bj c:Nat} {a:IV} {va:Value} {is:List IV} {v:Value} (hH:BL N k n w m e sz is v bj) (ha:aF k.Q w a va):∀{ps:List (IV×IV)} {i:Nat} {es:List MapEntry} {bs:List Nat},
  bF N k n w m e sz none i ps es bs→iK ps a=none→bj∉bs→
  ∃bs',(∀c∈bs',c=bj∨c∈bs)∧bF N k n w m e sz none i (dS ps a (.sl sz is)) (es++[⟨va,v,c⟩]) bs'
 |[],i,es,bs,h,_,hn=>by
  obtain⟨h1,h2⟩:=h
  subst h1;subst h2
  refine⟨[bj],fun c hc=>by simpa using hc,?_⟩
  unfold dS bF
  exact⟨_,[],rfl,ha,Or.inr ⟨fun _ _=>by simp,bj,[],is,rfl,by simp,rfl,hH,by unfold bF;exact⟨rfl,rfl⟩⟩⟩
 |(x,y)::ps,i,es,bs,h,hi,hn=>by
  unfold bF at h
  obtain⟨en',r,h1,h2,h3⟩:=h
  subst h1
  unfold iK at hi
  unfold dS
  have hx:eqI x a=false∧iK ps a=none:=by
   cases hq:eqI x a with
   |true=>rw[hq]at hi;simp at hi
   |false=>
    rw[hq]at hi
    cases hr:iK ps a<;>rw[hr]at hi<;>simp at hi
    exact⟨rfl,rfl⟩
  rw[if_neg (by rw[hx.1];simp)]
  rcases h3 with ⟨j',g',h4,h5,h6⟩|⟨h4,b,bs',is',h5,h6,h7,h8,h9⟩
  ·cases h4
  ·subst h5
   obtain⟨bs2,g1,g2⟩:=AQ hH ha (i:=i+1) h9 hx.2 (fun hc=>hn (List.mem_cons_of_mem _ hc))
   refine⟨b::bs2,fun c hc=>?_,?_⟩
   ·rcases List.mem_cons.1 hc with rfl|hc
    ·exact Or.inr List.mem_cons_self
    ·exact (g1 c hc).imp (fun h=>h) (fun h=>List.mem_cons_of_mem _ h)
   ·rw[List.cons_append]
    unfold bF
    refine⟨_,_,rfl,h2,Or.inr ⟨fun _ _=>by simp,b,bs2,is',rfl,fun hb=>?_,h7,h8,g2⟩⟩
    rcases g1 b hb with rfl|hb
    ·exact hn List.mem_cons_self
    ·exact h6 hb
omit hI hT hget in
theorem MS {B:List Blk} (hI:Inv Γ k B w) {j g sz b m:Nat} {e:TypeId} {es:List PV} {ob:Obj} (hb:B[j]?=some (.row e sz g es)) (hbase:base (k.ρ j)=some b) (ho:w.heap[b]?=some ob) :
  Ext k B.length w ⟨k.ρ,k.G,k.Q,fun c=>if c=b then some (m,ob) else k.H c⟩ B.length w∧Inv Γ ⟨k.ρ,k.G,k.Q,fun c=>if c=b then some (m,ob) else k.H c⟩ (B.set j (.dead g)) w:=by
 have hjl:j < B.length:=(List.getElem?_eq_some_iff.1 hb).1
 have hob:own k j (.row e sz g es)=some b:=hbase
 obtain⟨s1,s2,s3⟩:=hI.sep j _ b hb hob
 have hnk:=hI.nf j _ b hb hob
 have hHn:∀c p,k.H c=some p→c≠b:=fun c p h e=>hnk (e ▸ fK h)
 let k':K:=⟨k.ρ,k.G,k.Q,fun c=>if c=b then some (m,ob) else k.H c⟩
 have he:Ext k B.length w k' B.length w:=⟨Nat.le_refl _,fun _ h=>⟨h,rfl⟩,fun _ _=>⟨Nat.le_refl _,fun _=>rfl⟩⟩
 have hat:∀q x,(B.set j (.dead g))[q]?=some x→(q=j∧x=.dead g)∨(q≠j∧B[q]?=some x):=by
  intro q x hx
  by_cases hq:q=j
  ·subst hq
   rw[List.getElem?_set_self hjl]at hx
   exact Or.inl ⟨rfl,(Option.some.inj hx).symm⟩
  ·rw[List.getElem?_set_ne (Ne.symm hq)]at hx
   exact Or.inr ⟨hq,hx⟩
 have hown:∀q x c,(B.set j (.dead g))[q]?=some x→own k' q x=some c→q≠j∧B[q]?=some x∧own k q x=some c:=by
  intro q x c hx hc
  rcases hat q x hx with ⟨_,h2⟩|⟨h1,h2⟩
  ·subst h2;cases hc
  ·exact⟨h1,h2,by cases x<;>exact hc⟩
 refine⟨he,hI.below,hI.lt,hI.le,hI.qs,hI.rr,fun gg cs hc=>?_,fun q x hx=>?_,fun q x c hx hc=>?_,fun q q' x x' c hx hx' h1 h2=>?_,⟨fun c hc=>?_,by rw[List.length_set];exact hI.kp.ext.trans he⟩,fun q x c hx hc=>?_,fun c p hp=>?_⟩
 ·rw[List.length_set];exact aU he _ _ (hI.gl gg cs hc)
 ·rw[List.length_set]
  rcases hat q x hx with ⟨h1,h2⟩|⟨h1,h2⟩
  ·subst h1;subst h2
   exact (hI.blk q _ hb).1
  ·exact dG (hI.blk q x h2) he rfl rfl (fun _ _=>rfl) (fun m' c o _ hc=>⟨by show (if c=b then _ else _)=_;rw[if_neg (hHn c _ hc)];exact hc,rfl⟩)
 ·obtain⟨_,h2,h3⟩:=hown q x c hx hc
  exact hI.sep q x c h2 h3
 ·obtain⟨_,h3,h4⟩:=hown q x c hx h1
  obtain⟨_,h5,h6⟩:=hown q' x' c hx' h2
  exact hI.inj q q' x x' c h3 h5 h4 h6
 ·by_cases hcb:c=b
  ·subst hcb
   refine⟨s3,?_,s1⟩
   unfold memo
   rw[if_neg (fun h=>hnk (Or.inl h))]
   show _=Option.map _ (if c=c then some (m,ob) else _)
   rw[if_pos rfl]
   exact ho
  ·have hk0:kept Γ k c:=hc.imp (fun h=>h) (fun h=>by have h:(if c=b then _ else _)≠none:=h;rwa [if_neg hcb]at h)
   obtain⟨g1,g2,g3⟩:=hI.kp.fr c hk0
   refine⟨g1,?_,g3⟩
   rw[g2]
   unfold memo
   split
   ·rfl
   ·show _=Option.map _ (if c=b then _ else _)
    rw[if_neg hcb]
 ·obtain⟨h1,h2,h3⟩:=hown q x c hx hc
  have hne:c≠b:=fun e=>h1 (hI.inj q j x _ c h2 hb h3 (e ▸ hob))
  intro hkc
  refine hI.nf q x c h2 h3 (hkc.imp (fun h=>h) (fun h=>?_))
  have h:(if c=b then _ else _)≠none:=h
  rwa [if_neg hne]at h
 ·have hp:(if c=b then some (m,ob) else k.H c)=some p:=hp
  split at hp
  ·rename_i hcb
   subst hcb
   exact⟨fun h=>hnk (Or.inl h),s2⟩
  ·exact hI.hn c p hp
theorem F8 (hX:dW P Γ.eqT) {t:TypeId} {m x:Operand} {ok:Bool} (ho:o.op=.lookup t m x ok) (h:ak P Γ.eqT o id look get cr=some out):Does P Γ k w a s.B o out:=by
 unfold ak at h
 simp only[ho]at h
 have fin:∀{kt e:TypeId} {kk:MK} {d:TD} {key:IV} {ps:List (IV×IV)} {es:Array MapEntry},P.underlying t=some (.map kt e)→Rn P kt kk→aJ P e=some d→dH kk key=true→d9 kk ps=true→look x=.imm key→dB k.Q w ps es.toList→
   (∀em:Bool,(a.eval m=.map none∧es=#[])∨∃b clock,a.eval m=.map (some b)∧w.heap[b]?=some (.map es clock))→Does P Γ k w a s.B o ⟨lookO ok (eu d) (fB ps key),[],none⟩:=by
  intro kt e kk d key ps es g1 g3 g4 g5 g6 g7 g8 g9
  have ex:=hT x
  rw[g7,aB]at ex
  obtain⟨z,hz,hzr⟩:=yh (P:=P) (w:=w) (Q:=k.Q) g4
  have hrun:∀r,(Instr.findKey kt (a.eval x) es.toList).run P w=.ok r w→(Instr.lookup t (a.eval m) (a.eval x) ok).run P w=.ok (match r with
    |some (_,v)=>if ok then .tuple #[v,.bool true] else v
    |none=>if ok then .tuple #[z,.bool false] else z) w:=by
   intro r hfk
   have hck:=fun em=>g3.check em g5 ex
   rcases g9 true with ⟨e1,e2⟩|⟨b,clock,e1,e2⟩
   ·subst e2
    simp only[Instr.lookup,e1,Sem.run_bind,run_underlying g1,Result.andThen]
    simp[hck,hfk]
    cases r with
    |none=>simp[hz,Result.andThen]
    |some q=>simp
   ·simp only[Instr.lookup,e1,Sem.run_bind,run_underlying g1,Result.andThen]
    simp[MapKept.run_getObj_map e2,hck,hfk,Result.andThen]
    cases r with
    |none=>simp[hz,Result.andThen]
    |some q=>simp
  rcases g3.find g5 ex g8 g6 with ⟨q1,q2,_⟩|⟨j,e0,y,q1,_,_,q3,q4,_⟩
  ·have:=hrun none q1
   refine au hI (by simp[execOp,ho,this];rfl) ?_
   rw[q2]
   unfold lookO
   cases ok with
   |true=>exact Ta rfl hzr
   |false=>exact aB.2 hzr
  ·have:=hrun _ q1
   refine au hI (by simp[execOp,ho,this];rfl) ?_
   rw[q3]
   unfold lookO
   cases ok with
   |true=>exact Ta rfl q4
   |false=>exact aB.2 q4
 split at h
 ·rename_i kt e r g key hd hm hx
  split at h
  ·rename_i kk' g' ps kk d hb hk he
   split at h
   ·rename_i hc
    obtain⟨rfl,rfl,hkey⟩:=hc
    simp only[val,Option.some.injEq]at h
    subst h
    obtain⟨_,_,u1,_,g1,_,_,g2,_⟩:=aD hd
    have g3:=nL g2
    subst g3
    have g5:=sK hX hk
    have em:=hT m
    rw[hm]at em
    obtain⟨b,es,clock,e1,e2,e3,e4,_⟩:=qx hI em (hget _ _ hb) g5.it
    exact fin g1 g5 he hkey e4 hx e3 (fun _=>Or.inr ⟨b,clock,e1,e2⟩)
   ·split at h
    ·rename_i hc
     obtain⟨rfl,rfl,hkey⟩:=hc
     cases kk' with
     |rows k2 e2 sz2 o2=>
      unfold JY at h
      dsimp only at h
      split at h
      ·rename_i hkk
       subst hkk
       obtain⟨_,_,u1,_,g1,_,_,g2,_⟩:=aD hd
       have g3:=nL g2
       subst g3
       have g5:=sK hX hk
       have em:=hT m
       rw[hm]at em
       unfold Rep at em
       obtain⟨_,_,_,h3⟩:=em
       obtain⟨q1,b,es,clock,bs,f1,f2,f3,f4,f5,f6⟩:=hI.blk r _ (hget _ _ hb)
       have e1:=(h3 q1.symm).trans f1
       have ex:=hT x
       rw[hx,aB]at ex
       obtain⟨z,hz,hzr⟩:=yh (P:=P) (w:=w) (Q:=k.Q) he
       have hck:=fun em=>g5.check em hkey ex
       rcases g5.idx hkey ex (om f4) f5 with ⟨p1,p2,_⟩|⟨j,en,p1,p2,_,p4⟩
       ·rw[p2]at h
        simp only[val,Option.some.injEq]at h
        subst h
        exact au hI (by simp[execOp,ho,xR g1 hck hz e1 f3 p1]) (aB.2 hzr)
       ·rw[p4]at h
        rcases o2 with _|⟨i,jj,gg⟩
        ·cases h
        ·dsimp only at h
         split at h
         ·rename_i hij
          subst hij
          simp only[val,Option.some.injEq]at h
          subst h
          exact au hI (by simp[execOp,ho,xR g1 hck hz e1 f3 p1]) (F6 (i:=0) (q:=i) (by rw[Nat.zero_add];exact f4) p2)
         ·cases h
      ·cases h
     |_=>cases h
    ·cases h
  ·cases h
 ·rename_i kt e key hd hm hx
  split at h
  ·rename_i kk d hk he
   split at h
   ·rename_i hkey
    simp only[val,Option.some.injEq]at h
    subst h
    obtain⟨_,_,u1,_,g1,_,_,g2,_⟩:=aD hd
    have g3:=nL g2
    subst g3
    have em:=hT m
    rw[hm,aB]at em
    unfold aF at em
    exact fin (ps:=[]) (es:=#[]) g1 (sK hX hk) he hkey rfl hx (by unfold dB;rfl) (fun _=>Or.inl ⟨em,rfl⟩)
   ·cases h
  ·cases h
 ·cases h
omit hI hT hget in
theorem JG (hI:Inv Γ k s.B w) {r g:Nat} {kk:MK} {ps ps':List (IV×IV)} {b clock clock':Nat} {es es':Array MapEntry} (hit:gF kk=false) (hbB:s.B[r]?=some (.map kk g ps)) (e2:w.heap[b]?=some (.map es clock)) (e6:k.ρ r=.map (some b)) (e7:Γ.N≤b) (e8:k.G r=g)
  (hM:dB k.Q w ps' es'.toList) (hks:d9 kk ps'=true) (hst:MapKept.Stamped es' clock') {v:Value} (hrun:(execOp a.eval o).run P w=.ok (.value v) { w with heap:=w.heap.setIfInBounds b (.map es' clock') }):Does P Γ k w a s.B o ⟨.any,[(r,.map kk g ps')],none⟩:=by
 have hbl:b < w.heap.size:=(Array.getElem?_eq_some_iff.1 e2).1
 obtain⟨f1,f2⟩:=MapKept.heap_set (o':=.map es' clock') e2
 have howb:own k r (.map kk g ps)=some b:=by show base (k.ρ r)=_;rw[e6];rfl
 obtain⟨h1,h2⟩:=bJ (v:=k.ρ r) (g:=g) (y:=.map kk g ps') (w':={ w with heap:=w.heap.setIfInBounds b (.map es' clock') }) hI hbB (Or.inr ⟨e8,rfl⟩)
  ⟨rfl,rfl,rfl,by simp,fun i hi=>f2 i (by omega)⟩
  (fun c _ hc=>f2 c (fun e=>hc (by rw[howb,e]))) (fun c hc=>by
   have:base (k.ρ r)=some b:=howb
   rw[this]at hc
   cases hc
   exact⟨Or.inr howb,by simpa using hbl⟩) (fun hx'=>by
   refine⟨K.bP _ _ _ _,(fJ hit).2 ⟨b,es',clock',(K.bL _ _ _ _).trans e6,e7,f1,?_,hks,hst⟩⟩
   exact eF hx'.q _ _ hM)
 exact bI hrun h1 (by unfold aY;unfold aY;exact h2) (bg _ _ _ _)
theorem nK (hX:dW P Γ.eqT) {t:TypeId} {m x y:Operand} (ho:o.op=.mapUpdate t m x y) (h:ak P Γ.eqT o id look get cr=some out):Does P Γ k w a s.B o out:=by
 unfold ak at h
 simp only[ho]at h
 split at h
 ·rename_i kt e r g key vb hd hm hx hy
  split at h
  ·rename_i kk' g' ps kk hb hk
   split at h
   ·rename_i hc
    obtain⟨rfl,rfl,hkey⟩:=hc
    simp only[Option.some.injEq]at h
    subst h
    obtain⟨_,_,u1,_,g1,_,_,g2,_⟩:=aD hd
    have g3:=nL g2
    subst g3
    have g5:=sK hX hk
    have em:=hT m
    rw[hm]at em
    have hbB:=hget _ _ hb
    obtain⟨b,es,clock,e1,e2,e3,e4,e5,e6,e7,e8⟩:=qx hI em hbB g5.it
    have ex:=hT x
    rw[hx,aB]at ex
    have ey:=JV hy (hT y)
    have hck:=fun em=>g5.check em hkey ex
    have main:∀es' clock',(Instr.mapUpdate t (a.eval m) (a.eval x) (a.eval y)).run P w=.ok () { w with heap:=w.heap.setIfInBounds b (.map es' clock') }→dB k.Q w (dS ps key vb) es'.toList→MapKept.Stamped es' clock'→Does P Γ k w a s.B o ⟨.any,[(r,.map kk g (dS ps key vb))],none⟩:=by
     intro es' clock' hrun hM hst
     obtain⟨f1,f2⟩:=MapKept.heap_set (o':=.map es' clock') e2
     have hbl:b < w.heap.size:=(Array.getElem?_eq_some_iff.1 e2).1
     have howb:own k r (.map kk g ps)=some b:=by show base (k.ρ r)=_;rw[e6];rfl
     obtain⟨h1,h2⟩:=bJ (v:=k.ρ r) (g:=g) (y:=.map kk g (dS ps key vb)) (w':={ w with heap:=w.heap.setIfInBounds b (.map es' clock') }) hI hbB (Or.inr ⟨e8,rfl⟩)
      ⟨rfl,rfl,rfl,by simp,fun i hi=>f2 i (by omega)⟩
      (fun c _ hc=>f2 c (fun e=>hc (by rw[howb,e]))) (fun c hc=>by
       have:base (k.ρ r)=some b:=howb
       rw[this]at hc
       cases hc
       exact⟨Or.inr howb,by simpa using hbl⟩) (fun hx'=>by
       refine⟨K.bP _ _ _ _,(fJ g5.it).2 ⟨b,es',clock',(K.bL _ _ _ _).trans e6,e7,f1,?_,qh hkey e4,hst⟩⟩
       exact eF hx'.q _ _ hM)
     refine ou ?_ h1 (by unfold aY;unfold aY;exact h2)
     simp[execOp,ho,hrun,Result.andThen]
    rcases g5.find hkey ex e3 e4 with ⟨q1,_,q2,_,q3⟩|⟨j,e0,y0,q1,q2,q3,_,_,_,q4⟩
    ·refine main (es.push ⟨a.eval x,a.eval y,clock⟩) (clock+1) ?_ (by simpa using q3 vb (a.eval y) clock ey) (MapKept.stamped_push e5 q2)
     simp[Instr.mapUpdate,e1,run_underlying g1,MapKept.run_getObj_map e2,hck,q1,MapKept.run_setObj_map _ e2,Result.andThen]
    ·have hj:es[j]?=some e0:=by simpa using q2
     refine main (es.modify j (fun e'=>{ e' with key:=a.eval x,val:=a.eval y })) clock ?_ ?_ (MapKept.stamped_modify e5 _ _ (fun _ _=>rfl) (fun e' _ he'=>by rw[hj]at he';cases he';exact q3.symm))
     ·simp[Instr.mapUpdate,e1,run_underlying g1,MapKept.run_getObj_map e2,hck,q1,hj,q3,g5.stays hkey ex,MapKept.run_setObj_map _ e2,Result.andThen]
     ·rw[Array.toList_modify,ChangeMaps.modify_eq_set _ _ _ _ q2]
      exact q4 vb (a.eval y) ey
   ·cases h
  ·cases h
 ·rename_i kt e r g key hd hm hx hy
  unfold KU at h
  split at h
  ·rename_i j gj hyy
   split at h
   ·rename_i k2 e2 sz2 o2 g' ps e' sz' gj' es0 kk hbr hbj hk
    split at h
    ·rename_i hc
     obtain⟨rfl,rfl,hkey,rfl,rfl,rfl,hrj⟩:=hc
     obtain⟨_,_,u1,_,g1,_,_,g2,_⟩:=aD hd
     have g3:=nL g2
     subst g3
     have g5:=sK hX hk
     have em:=hT m
     rw[hm]at em
     unfold Rep at em
     obtain⟨_,_,_,h3⟩:=em
     have hrB:=hget _ _ hbr
     have hjB:=hget _ _ hbj
     obtain⟨q1,b,es,clock,bs,f1,f2,f3,f4,f5,f6⟩:=hI.blk r _ hrB
     have e1:=(h3 q1.symm).trans f1
     have ex:=hT x
     rw[hx,aB]at ex
     have ey:=hT y
     rw[hyy]at ey
     unfold Rep at ey
     obtain⟨_,_,_,h4⟩:=ey
     obtain⟨r1,xs,r2,r3⟩:=hI.blk j _ hjB
     have ey1:a.eval y=k.ρ j:=h4 r1.symm
     have hck:=fun em=>g5.check em hkey ex
     have main:∀(i0:IV) (is:List IV) (es':Array MapEntry) (clock':Nat),kH es0=some (i0::is)→(Instr.mapUpdate t (a.eval m) (a.eval x) (a.eval y)).run P w=.ok () { w with heap:=w.heap.setIfInBounds b (.map es' clock') }→
       (∀(k1:K) (bj:Nat),k1.Q=k.Q→k1.ρ=k.ρ→k1.G=k.G→BL Γ.N k1 s.B.length w b e2 sz2 (i0::is) (a.eval y) bj→bj∉bs→bF Γ.N k1 s.B.length w b e2 sz2 o2 0 ps es.toList bs→∃bs',(∀c∈bs',c=bj∨c∈bs)∧bF Γ.N k1 s.B.length w b e2 sz2 none 0 (dS ps key (.sl sz2 (i0::is))) es'.toList bs')→MapKept.Stamped es' clock'→
       Does P Γ k w a s.B o ⟨.any,[(r,.map (.rows kk e2 sz2 none) g (dS ps key (.sl sz2 (i0::is)))),(j,.dead gj)],none⟩:=by
      intro i0 is es' clock' him hrun hM hst
      have hes0:es0=(i0::is).map .imm:=Gg him
      subst hes0
      obtain⟨bj,hbj0,obj,hobj⟩:∃bj,base (k.ρ j)=some bj∧∃obj,w.heap[bj]?=some obj:=by
       obtain⟨_,hh⟩:=r2
       rcases hh with ⟨_,hh⟩|⟨gb,cap,cur,h7,_,h8,_⟩
       ·exact absurd hh (by rw[List.length_map,List.length_cons];omega)
       ·exact⟨gb,by rw[h7];rfl,_,h8⟩
      have howb:own k r (.map (.rows kk e2 sz2 o2) g ps)=some b:=by show base (k.ρ r)=_;rw[f1];rfl
      have howj:own k j (.row e2 sz2 gj ((i0::is).map .imm))=some bj:=hbj0
      have hbb:bj≠b:=fun e=>hrj (hI.inj r j _ _ b hrB hjB howb (e ▸ howj))
      obtain⟨t1,t2⟩:=MS (m:=b) hI hjB hbj0 hobj
      have hrB1:(s.B.set j (.dead gj))[r]?=some (.map (.rows kk e2 sz2 o2) g ps):=by rw[List.getElem?_set_ne (Ne.symm hrj)];exact hrB
      generalize hk1:(⟨k.ρ,k.G,k.Q,fun c=>if c=bj then some (b,obj) else k.H c⟩:K)=k1 at t1 t2
      have hk1Q:k1.Q=k.Q:=by rw[←hk1]
      have hk1ρ:k1.ρ=k.ρ:=by rw[←hk1]
      have hk1G:k1.G=k.G:=by rw[←hk1]
      have hk1b:k1.H bj=some (b,obj):=by rw[←hk1];simp
      obtain⟨f1',b0,es1,clock1,bs1,v1,v2,v3,v4,v5,v6⟩:=t2.blk r _ hrB1
      have hmono:bF Γ.N k1 s.B.length w b e2 sz2 o2 0 ps es.toList bs:=f4.mono t1 (fun c _ oc hc=>⟨by
       rw[←hk1]
       show (if c=bj then _ else _)=_
       rw[if_neg (fun e=>by subst e;exact hI.nf j _ c hjB howj (fK hc))]
       exact hc,rfl⟩)
      have hbjn:∀{ps:List (IV×IV)} {i:Nat} {es:List MapEntry} {bs:List Nat},bF Γ.N k s.B.length w b e2 sz2 o2 i ps es bs→bj∉bs:=by
       intro ps
       induction ps with
       |nil=>intro i es bs h;rw[h.2];simp
       |cons p ps ih=>
        intro i es bs h
        obtain⟨pa,px⟩:=p
        unfold bF at h
        obtain⟨en,rr,_,_,h3⟩:=h
        rcases h3 with ⟨_,_,_,_,h6⟩|⟨_,c,bs',is',h5,_,_,⟨_,⟨oc,h8⟩,_⟩,h9⟩
        ·exact ih h6
        ·subst h5
         intro hm
         rcases List.mem_cons.1 hm with rfl|hm
         ·exact hI.nf j _ bj hjB howj (fK h8)
         ·exact ih h9 hm
      have hRH:BL Γ.N k1 s.B.length w b e2 sz2 (i0::is) (a.eval y) bj:=by
       refine⟨by rw[ey1];exact hbj0,⟨obj,hk1b⟩,xs,?_,nU hk1Q r3⟩
       rw[ey1]
       rw[List.length_map]at r2
       exact r2
      obtain⟨bs2,hsub,hM2⟩:=hM k1 bj hk1Q hk1ρ hk1G hRH (hbjn f4) hmono
      obtain⟨z1,z2⟩:=MapKept.heap_set (o':=.map es' clock') f3
      have hbl:b < w.heap.size:=(Array.getElem?_eq_some_iff.1 f3).1
      have howb1:own k1 r (.map (.rows kk e2 sz2 o2) g ps)=some b:=by show base (k1.ρ r)=_;rw[hk1ρ];exact howb
      obtain⟨h1,h2⟩:=bJ (v:=k1.ρ r) (g:=g) (y:=.map (.rows kk e2 sz2 none) g (dS ps key (.sl sz2 (i0::is)))) (w':={ w with heap:=w.heap.setIfInBounds b (.map es' clock') }) t2 hrB1 (Or.inr ⟨f1',rfl⟩)
       ⟨rfl,rfl,rfl,by simp,fun i hi=>z2 i (by omega)⟩
       (fun c _ hc=>z2 c (fun e=>hc (by rw[howb1,e]))) (fun c hc=>by
        have:base (k1.ρ r)=some b:=howb1
        rw[this]at hc
        cases hc
        exact⟨Or.inr howb1,by simpa using hbl⟩) (fun hx'=>by
        refine⟨K.bP _ _ _ _,b,es',clock',bs2,(K.bL _ _ _ _).trans (by rw[hk1ρ];exact f1),f2,z1,?_,qh hkey f5,hst⟩
        rw[List.length_set]at hx' ⊢
        refine hM2.mono hx' (fun c _ oc hc=>⟨hc,z2 c (fun e=>?_)⟩)
        subst e
        exact t2.nf r _ c hrB1 howb1 (fK hc))
      rw[List.length_set]at h1
      refine ou (k':=k1.put r (k1.ρ r) g) ?_ (t1.trans h1) ?_
      ·simp[execOp,ho,hrun,Result.andThen]
      ·unfold aY aY aY
       rw[List.set_comm _ _ hrj]
       exact h2
     rcases g5.idx hkey ex (om f4) f5 with ⟨p1,p2,p3⟩|⟨q,en,p1,p2,p3,p4⟩
     ·rw[p2]at h
      cases him:kH es0 with
      |none=>rw[him]at h;cases h
      |some iss=>
       cases iss with
       |nil=>rw[him]at h;cases h
       |cons i0 is=>
        rcases o2 with _|q
        ·rw[him]at h
         simp only[Option.some.injEq]at h
         subst h
         refine main i0 is (es.push ⟨a.eval x,a.eval y,clock⟩) (clock+1) him ?_ (fun k1 bj c1 c2 c3 hRH hbn hM=>?_) (MapKept.stamped_push f6 p3)
         ·simp[Instr.mapUpdate,e1,run_underlying g1,MapKept.run_getObj_map f3,hck,p1,MapKept.run_setObj_map _ f3,Result.andThen]
         ·rw[Array.toList_push]
          exact AQ hRH (by rw[c1];exact ex) hM p2 hbn
        ·rw[him]at h;cases h
     ·rw[p4]at h
      cases him:kH es0 with
      |none=>rw[him]at h;cases h
      |some iss=>
       cases iss with
       |nil=>rw[him]at h;cases h
       |cons i0 is=>
        rcases o2 with _|⟨i,j',gg⟩
        ·rw[him]at h;cases h
        ·rw[him]at h
         dsimp only at h
         split at h
         ·rename_i hij
          obtain⟨rfl,rfl⟩:=hij
          simp only[Option.some.injEq]at h
          subst h
          have hj:es[i]?=some en:=by simpa using p2
          refine main i0 is (es.modify i (fun e'=>{ e' with key:=a.eval x,val:=a.eval y })) clock him ?_ (fun k1 bj c1 c2 c3 hRH hbn hM=>?_) (MapKept.stamped_modify f6 _ _ (fun _ _=>rfl) (fun e' _ he'=>by rw[hj]at he';cases he';exact p3.symm))
          ·simp[Instr.mapUpdate,e1,run_underlying g1,MapKept.run_getObj_map f3,hck,p1,hj,p3,g5.stays hkey ex,MapKept.run_setObj_map _ f3,Result.andThen]
          ·rw[Array.toList_modify,ChangeMaps.modify_eq_set _ _ _ _ p2]
           have:=D5 hRH (i:=0) (q:=i) (by rw[Nat.zero_add];exact hM) p2 p4 hbn
           rw[p3]at this
           exact this
         ·cases h
    ·cases h
   ·cases h
  ·cases h
 ·cases h
theorem Fu (hX:dW P Γ.eqT) {t:TypeId} {m x y:Operand} (ho:o.op=.insert t m x y) (h:ak P Γ.eqT o id look get cr=some out):Does P Γ k w a s.B o out:=by
 have h':ak P Γ.eqT { o with op:=.mapUpdate t m x y } id look get cr=some out:=by
  unfold ak at h ⊢
  simp only[ho]at h ⊢
  exact h
 have hd:=nK hI hT hget hX (o:={ o with op:=.mapUpdate t m x y }) rfl h'
 intro next Q hn
 have:=hd next Q hn
 unfold Oper.wp at this ⊢
 simp only[execOp,ho]at this ⊢
 exact this
theorem FH (hX:dW P Γ.eqT) {args:Array Operand} {ts:Array TypeId} (ho:o.op=.call ⟨.builtin .delete,args,ts⟩) (h:ak P Γ.eqT o id look get cr=some out):Does P Γ k w a s.B o out:=by
 unfold ak at h
 simp only[ho]at h
 split at h
 ·rename_i kt e r g key hd hargs
  split at h
  ·rename_i kk' g' ps kk hb hk
   split at h
   ·rename_i hc
    obtain⟨rfl,rfl,hkey,hts,ht1⟩:=hc
    simp only[Option.some.injEq]at h
    subst h
    obtain⟨x1,x2,ha,hx1,hx2⟩:∃x1 x2,args=#[x1,x2]∧look x1=.row r g∧look x2=.imm key:=by
     cases hl:args.toList with
     |nil=>rw[hl]at hargs;cases hargs
     |cons x1 l=>
      cases l with
      |nil=>rw[hl]at hargs;simp at hargs
      |cons x2 l=>
       cases l with
       |nil=>
        rw[hl]at hargs
        simp only[List.map_cons,List.map_nil,List.cons.injEq,and_true]at hargs
        exact⟨x1,x2,by apply Array.ext';simpa using hl,hargs.1,hargs.2⟩
       |cons _ _=>rw[hl]at hargs;simp at hargs
    have hts':ts=#[ts.getD 0 0,ts.getD 1 0]:=by
     apply Array.ext
     ·simpa using hts
     ·intro j h1 h2
      have h2:j < 2:=by simpa using h2
      match j,h2 with
      |0,_=>simp[Array.getD_eq_getD_getElem?,h1]
      |1,_=>simp[Array.getD_eq_getD_getElem?,h1]
    obtain⟨t,ht⟩:∃t,t=ts.getD 0 0:=⟨_,rfl⟩
    obtain⟨_,_,u1,_,g1,_,_,g2,_⟩:=aD hd
    have g3:=nL g2
    subst g3
    rw[←ht,ht1]at hts'
    rw[←ht]at g1
    rw[hts']at ho
    have g5:=sK hX hk
    have em:=hT x1
    rw[hx1]at em
    have hbB:=hget _ _ hb
    obtain⟨b,es,clock,e1,e2,e3,e4,e5,e6,e7,e8⟩:=qx hI em hbB g5.it
    have ex:=hT x2
    rw[hx2,aB]at ex
    have hck:=fun em=>g5.check em hkey ex
    rcases g5.find hkey ex e3 e4 with ⟨q1,_,_,q2,_⟩|⟨j,e0,y0,q1,q2,q3,_,_,q4,_⟩
    ·refine JG (es':=es) (clock':=clock) hI g5.it hbB e2 e6 e7 e8 (by rw[q2];exact e3) (by rw[q2];exact e4) e5 (v:=.tuple #[]) ?_
     simp[execOp,ho,resolve,invoke,builtin,ha,e1,Builtin.delete_,run_underlying g1,MapKept.run_getObj_map e2,hck,q1,MapKept.run_setObj_map _ e2,Result.andThen]
    ·have hj:j < es.size:=by
      have:=(List.getElem?_eq_some_iff.1 q2).1
      simpa using this
     refine JG (es':=es.eraseIdxIfInBounds j) (clock':=clock) hI g5.it hbB e2 e6 e7 e8 ?_ (FB e4) (MapKept.stamped_erase e5 j) (v:=.tuple #[]) ?_
     ·unfold Array.eraseIdxIfInBounds
      rw[dif_pos hj,Array.toList_eraseIdx]
      exact q4
     ·simp[execOp,ho,resolve,invoke,builtin,ha,e1,Builtin.delete_,run_underlying g1,MapKept.run_getObj_map e2,hck,q1,MapKept.run_setObj_map _ e2,Result.andThen]
   ·cases h
  ·cases h
 ·cases h
omit hI hT hget in
theorem Oi {kk:K} {n:Nat} {i j:IV} {u v:Value} (h:aF kk.Q w i u) (h':aF kk.Q w j v):Rep kk n w (.tup [.imm i,.imm j]) (.tuple #[u,v]):=by
 unfold Rep
 refine⟨[u,v],rfl,?_⟩
 unfold aI
 refine⟨u,[v],rfl,aB.2 h,?_⟩
 unfold aI
 exact⟨v,[],rfl,aB.2 h',by unfold aI;rfl⟩
omit hI hT hget in
theorem Ko (hI:Inv Γ k s.B w) {r g b clock:Nat} {kk:MK} {ps:List (IV×IV)} {es:Array MapEntry} (hb:s.B[r]?=some (.map kk g ps)) (_he:w.heap[b]?=some (.map es clock)) (e6:k.ρ r=.map (some b)) :
  ∃k':K,k'.ρ=k.ρ∧k'.G=k.G∧k'.Q b∧Ext k s.B.length w k' s.B.length w∧Inv Γ k' (s.B.set r (.dead g)) w:=by
 have hrl:r < s.B.length:=(List.getElem?_eq_some_iff.1 hb).1
 let k':K:=⟨k.ρ,k.G,fun b'=>k.Q b'∨base (k.ρ r)=some b',k.H⟩
 have hbase:∀b,base (k.ρ r)=some b→Γ.N≤b∧b < w.heap.size:=fun b hb'=>(hI.sep r _ b hb hb').2
 have he:Ext k s.B.length w k' s.B.length w:=⟨Nat.le_refl _,fun b hb=>⟨Or.inl hb,rfl⟩,fun _ _=>⟨Nat.le_refl _,fun _=>rfl⟩⟩
 have hat:∀q x,(s.B.set r (.dead g))[q]?=some x→(q=r∧x=.dead g)∨(q≠r∧s.B[q]?=some x):=by
  intro q x hx
  by_cases hq:q=r
  ·subst hq
   rw[List.getElem?_set_self hrl]at hx
   exact Or.inl ⟨rfl,(Option.some.inj hx).symm⟩
  ·rw[List.getElem?_set_ne (Ne.symm hq)]at hx
   exact Or.inr ⟨hq,hx⟩
 have hown:∀q x b,(s.B.set r (.dead g))[q]?=some x→own k' q x=some b→q≠r∧s.B[q]?=some x∧own k q x=some b:=by
  intro q x b hx hb'
  rcases hat q x hx with ⟨_,h2⟩|⟨h1,h2⟩
  ·subst h2;cases hb'
  ·exact⟨h1,h2,by cases x<;>exact hb'⟩
 refine⟨k',rfl,rfl,Or.inr (by rw[e6];rfl),he,⟨hI.below,fun b hb'=>hb'.elim (hI.lt b) (fun h=>(hbase b h).2),hI.le,fun b hb'=>hb'.elim (hI.qs b) (fun h=>Or.inr (hbase b h).1),hI.rr,fun gg cs hc=>?_,fun q x hx=>?_,fun q x b hx hb'=>?_,fun q q' x x' b hx hx' h1 h2=>?_,⟨fun b hb'=>?_,by rw[List.length_set];exact hI.kp.ext.trans he⟩,fun q x b hx hb'=>?_,hI.hn⟩⟩
 ·rw[List.length_set];exact aU he _ _ (hI.gl gg cs hc)
 ·rw[List.length_set]
  rcases hat q x hx with ⟨h1,h2⟩|⟨h1,h2⟩
  ·subst h1;subst h2
   obtain⟨g1,_⟩:=hI.blk q _ hb
   exact g1
  ·exact dG (hI.blk q x h2) he rfl rfl (fun _ _=>rfl)
 ·obtain⟨h4,h2,h3⟩:=hown q x b hx hb'
  obtain⟨g1,g2,g3⟩:=hI.sep q x b h2 h3
  refine⟨fun hq=>hq.elim g1 (fun h=>?_),g2,g3⟩
  exact h4 (hI.inj q r x _ b h2 hb h3 h)
 ·obtain⟨_,h3,h4⟩:=hown q x b hx h1
  obtain⟨_,h5,h6⟩:=hown q' x' b hx' h2
  exact hI.inj q q' x x' b h3 h5 h4 h6
 ·obtain⟨g1,g2,g3⟩:=hI.kp.fr b hb'
  exact⟨g1,g2,fun hq=>hq.elim g3 (fun h=>hI.nf r _ b hb h hb')⟩
 ·obtain⟨_,h2,h3⟩:=hown q x b hx hb'
  exact hI.nf q x b h2 h3
theorem GI {t:TypeId} {x:Operand} (ho:o.op=.range t x) (h:ak P Γ.eqT o id look get cr=some out):Does P Γ k w a s.B o out:=by
 unfold ak at h
 simp only[ho]at h
 split at h
 ·rename_i kt e r g gd hd hx hg
  split at h
  ·rename_i kk g' ps hb
   split at h
   ·rename_i hc
    obtain⟨rfl,hit,hne⟩:=hc
    simp only[Option.some.injEq]at h
    subst h
    obtain⟨_,_,u1,_,g1,_,_,g2,_⟩:=aD hd
    have g3:=nL g2
    subst g3
    have em:=hT x
    rw[hx]at em
    have hbB:=hget _ _ hb
    have hdB:=hget _ _ hg
    obtain⟨b,es,clock,e1,e2,e3,e4,e5,e6,e7,e8⟩:=qx hI em hbB hit
    obtain⟨k',hρ,hG,hQ,hx1,hI1⟩:=Ko (s:=s) hI hbB e2 e6
    have hd1:(s.B.set r (.dead g))[id]?=some (.dead gd):=by rw[List.getElem?_set_ne hne];exact hdB
    have hGd:k'.G id=gd:=hI1.blk id _ hd1
    have hbl:b < w.heap.size:=(Array.getElem?_eq_some_iff.1 e2).1
    obtain⟨h1,h2⟩:=bJ (v:=.pointer (some ⟨w.heap.size,0,none⟩)) (g:=gd+1) (y:=.map (.iter false) (gd+1) ps) (w':=w.alloc (.mapIter (some b) clock #[] clock)) hI1 hd1 (Or.inl (by omega)) ((Below.refl _ _).alloc hI.le _)
     (fun b hb _=>Below.heap_alloc _ _ _ hb) (fun b hb=>by
      injection hb with hb
      subst hb
      exact⟨Or.inl (Nat.le_refl _),by simp⟩) (fun hx2=>by
      refine⟨K.bP _ _ _ _,w.heap.size,b,es,clock,#[],K.bL _ _ _ _,hI.le,heap_alloc_new w _,hQ,(Below.heap_alloc _ _ _ hbl).trans e2,e5,?_⟩
      have:leftOf es #[]=es:=by
       unfold leftOf
       exact Array.filter_eq_self.2 (fun _ _=>by simp)
      rw[this]
      exact eF (fun c hc=>hx2.q c ((hx1.q c hc).1)) _ _ e3)
    rw[List.length_set]at h1
    refine bI (v:=.pointer (some ⟨w.heap.size,0,none⟩)) (w':=w.alloc (.mapIter (some b) clock #[] clock)) ?_ (hx1.trans h1) (by unfold aY;unfold aY;unfold aY;exact h2) ?_
    ·simp[execOp,ho,Instr.range,e1,run_underlying g1,MapKept.run_getObj_map e2,newObj,Result.andThen]
     rfl
    ·unfold Rep
     refine⟨rfl,(List.getElem?_eq_some_iff.1 hdB).1,Nat.le_of_eq (K.bP _ _ _ _).symm,fun _=>⟨w.heap.size,?_,rfl⟩⟩
     rw[K.bL];rfl
   ·cases h
  ·cases h
 ·cases h
omit hI hT hget in
theorem Ee (hI:Inv Γ k s.B w) {r g:Nat} {b:Bool} {ps:List (IV×IV)} {v:Value} (h:Rep k s.B.length w (.ptr r g 0) v) (hb:s.B[r]?=some (.map (.iter b) g ps)) :
  v=k.ρ r∧k.G r=g∧lQ Γ.N k.Q w v b ps:=by
 unfold Rep at h
 obtain⟨_,_,_,h3⟩:=h
 obtain⟨g1,hm⟩:=hI.blk r _ hb
 obtain⟨c,h4,h5⟩:=h3 g1.symm
 have hm:lQ Γ.N k.Q w (k.ρ r) b ps:=hm
 have hv:v=k.ρ r:=by
  obtain⟨ib,_,_,_,_,q1,_⟩:=hm
  rw[q1]at h4 ⊢
  injection h4 with h4
  rw[h5,←h4]
 exact⟨hv,g1,by rw[hv];exact hm⟩
theorem Ht {x:Operand} (ho:o.op=.entry x) (h:ak P Γ.eqT o id look get cr=some out):Does P Γ k w a s.B o out:=by
 unfold ak at h
 simp only[ho]at h
 split at h
 ·rename_i r g hx
  split at h
  ·rename_i g' p q ps hb
   split at h
   ·rename_i hc
    subst hc
    simp only[val,Option.some.injEq]at h
    subst h
    have em:=hT x
    rw[hx]at em
    obtain⟨hv,_,hm⟩:=Ee hI em (hget _ _ hb)
    obtain⟨ib,m,es,clock,seen,e1,_,e3,_,e5,e6,p',l,e,hpl,_,he,⟨seen',rfl⟩,h1,h2⟩:=hm
    injection hpl with hp hl
    subst hp
    have hr:=run_entry_at (P:=P) w ib m clock seen' es clock e e3 e5 he e6.2.1
    refine au hI (v:=.tuple #[e.key,e.val]) (by simp[execOp,ho,e1,hr]) ?_
    exact Oi h1 h2
   ·cases h
  ·cases h
 ·cases h
omit hI hT hget in
theorem Dj {t t' ty e:TypeId} {ie:TypeInfo} {sz:Nat} (ht:P.underlying t=some (.slice e)) (hi:P.info? e=some ie) (hs:ie.size=sz) {b dn dc:Nat} {cur:Array Value} {el:TypeId} (hh:w.heap[b]?=some (.cells cur el (0,0)))
  {ad:Option Addr} {m c:Nat} {news:List Value} (hl:news.length=m*sz) (h1:∀u∈news,u.oneCell'=true) (hsrc:m=0∨∃addr,ad=some addr∧∀j u,news[j]?=some u→w.cell? (addr.add j)=some u) (hfit:dn*sz≤cur.size) :
  (Builtin.copy_ #[t,t'] ty #[.slice (some ⟨b,0,none⟩) dn dc,.slice ad m c]).run P w=.ok (goInt (Nat.min m dn)) (w.setRow b (news.take (Nat.min m dn*sz)++cur.toList.drop (Nat.min m dn*sz)).toArray):=by
 have hnl:(news.take (Nat.min m dn*sz)).length=Nat.min m dn*sz:=by
  rw[List.length_take,hl,Nat.min_eq_left]
  exact Nat.mul_le_mul_right _ (Nat.min_le_left _ _)
 have hfit2:Nat.min m dn*sz≤cur.size:=Nat.le_trans (Nat.mul_le_mul_right _ (Nat.min_le_right _ _)) hfit
 have hst:=run_storeCells_at P b 0 el (news.take (Nat.min m dn*sz)) 0 cur w hh (by simp only[Nat.zero_add];rw[hnl];exact hfit2) (fun u hu=>h1 u (List.mem_of_mem_take hu))
 simp only[Nat.zero_add,List.take_zero,List.nil_append,hnl]at hst
 rcases hsrc with h0|⟨addr,rfl,hc⟩
 ·subst h0
  have hn0:news=[]:=List.eq_nil_of_length_eq_zero (by simpa using hl)
  subst hn0
  simp only[List.take_nil,List.nil_append]at hst ⊢
  have hm0:Nat.min 0 dn=0:=Nat.zero_min _
  rw[hm0]at hst ⊢
  cases ad with
  |none=>simp[Builtin.copy_,run_underlying ht,Builtin.lenOf,Builtin.firstCells,sizeOf,typeInfo,hi,hm0,hst]
  |some a0=>
   have hld:=run_loadCells_list (P:=P) w a0 [] (by simp)
   simp only[List.length_nil]at hld
   simp[Builtin.copy_,run_underlying ht,Builtin.lenOf,Builtin.firstCells,sizeOf,typeInfo,hi,hm0,hst,hld]
 ·have hld:=run_loadCells_list (P:=P) w addr (news.take (Nat.min m dn*sz)) (fun j u hj=>hc j u (by
   rw[List.getElem?_take]at hj
   split at hj
   ·exact hj
   ·cases hj))
  rw[hnl]at hld
  simp[Builtin.copy_,run_underlying ht,Builtin.lenOf,Builtin.firstCells,sizeOf,typeInfo,hi,hs,hld,hst]
omit hI hT hget in
theorem FP {α:Type} {cur news:List α} {o N:Nat} (h:o+news.length≤N) (hN:N≤cur.length):(cur.take o++news++cur.drop (o+news.length)).take N=(cur.take N).take o++news++(cur.take N).drop (o+news.length):=by
 have h1:(cur.take o).length=o:=by rw[List.length_take];omega
 have h2:(cur.take o++news).length=o+news.length:=by rw[List.length_append,h1]
 rw[List.take_append,h2,List.take_of_length_le (by rw[h2];exact h),List.take_take,Nat.min_eq_left (by omega),List.drop_take]
omit hI hT hget in
theorem Bg {t t' ty e:TypeId} {ie:TypeInfo} {sz:Nat} (ht:P.underlying t=some (.slice e)) (hi:P.info? e=some ie) (hs:ie.size=sz) {b o dn dc:Nat} {cur:Array Value} {el:TypeId} (hh:w.heap[b]?=some (.cells cur el (0,0)))
  {addr:Addr} {m c:Nat} {news:List Value} (hl:news.length=m*sz) (h1:∀u∈news,u.oneCell'=true) (hc:∀j u,news[j]?=some u→w.cell? (addr.add j)=some u) (hfit:o+m*sz≤cur.size) (hmd:m≤dn) :
  (Builtin.copy_ #[t,t'] ty #[.slice (some ⟨b,o,none⟩) dn dc,.slice (some addr) m c]).run P w=.ok (goInt m) (w.setRow b (cur.toList.take o++news++cur.toList.drop (o+news.length)).toArray):=by
 have hst:=run_storeCells_at P b o el news 0 cur w hh (by rw[Nat.add_zero,hl];exact hfit) h1
 rw[Nat.add_zero]at hst
 have hld:=run_loadCells_list (P:=P) w addr news hc
 rw[hl]at hld
 have hmin:Nat.min m dn=m:=Nat.min_eq_left hmd
 simp[Builtin.copy_,run_underlying ht,Builtin.lenOf,Builtin.firstCells,sizeOf,typeInfo,hi,hs,hld,hst,hmin]
theorem Kt {args:Array Operand} {ts:Array TypeId} (ho:o.op=.call ⟨.builtin .copy,args,ts⟩) (h:ak P Γ.eqT o id look get cr=some out):Does P Γ k w a s.B o out:=by
 unfold ak at h
 simp only[ho]at h
 split at h
 ·rename_i ag sz0 zs el sz bytes r g px hd hargs
  split at h
  ·rename_i e' sz' g' es xs hg hsrc
   split at h
   ·rename_i hcc
    obtain⟨rfl,rfl,rfl,hsz,hts,hxm,hem⟩:=hcc
    simp only[Option.some.injEq]at h
    subst h
    obtain⟨i,z,u,g1,q2,_,_,g5,_⟩:=aD hd
    obtain⟨ie,q6,q7,q8⟩:=bH g5
    subst q6
    obtain⟨x1,x2,ha,hx1,hx2⟩:∃x1 x2,args=#[x1,x2]∧look x1=.row r g∧look x2=px:=by
     cases hl:args.toList with
     |nil=>rw[hl]at hargs;cases hargs
     |cons x1 l=>
      cases l with
      |nil=>rw[hl]at hargs;simp at hargs
      |cons x2 l=>
       cases l with
       |nil=>
        rw[hl]at hargs
        simp only[List.map_cons,List.map_nil,List.cons.injEq,and_true]at hargs
        exact⟨x1,x2,by apply Array.ext';simpa using hl,hargs.1,hargs.2⟩
       |cons _ _=>rw[hl]at hargs;simp at hargs
    have hts':ts=#[ts.getD 0 0,ts.getD 1 0]:=by
     apply Array.ext
     ·simpa using hts
     ·intro j h1 h2
      have h2:j < 2:=by simpa using h2
      match j,h2 with
      |0,_=>simp[Array.getD_eq_getD_getElem?,h1]
      |1,_=>simp[Array.getD_eq_getD_getElem?,h1]
    obtain⟨t,ht⟩:∃t,t=ts.getD 0 0:=⟨_,rfl⟩
    obtain⟨t',ht'⟩:∃t,t=ts.getD 1 0:=⟨_,rfl⟩
    rw[←ht,←ht']at hts'
    rw[←ht]at q2
    have f1:=hT x1
    have f2:=hT x2
    rw[hx1]at f1
    rw[hx2]at f2
    have hb:=hget _ _ hg
    obtain⟨old,ev,hown,hE,hG⟩:=dD hI f1 hb
    obtain⟨ad,m,c,news,s1,s2,s3,s4⟩:=qQ hI hget hsrc f2
    obtain⟨hnl,hn1⟩:=bW s3
    rw[hts']at ho
    have hval:Rep k s.B.length w (.imm (.int .i64 ((min xs.length es.length:Nat):Int))) (goInt (Nat.min m es.length)):=by
     rw[aB]
     unfold aF
     rw[s2]
     have hw:IntKind.i64.wrap ((min xs.length es.length:Nat):Int)=((min xs.length es.length:Nat):Int):=by
      rw[IntKind.wrap_i64]
      unfold most at hxm
      omega
     first|rfl|(unfold goInt;first|rfl|(show Value.int _ _=_;simp[hw]))
    rcases hown.2 with ⟨e1,e2⟩|⟨b,cap,cur,e1,e2,e3,e4,e5,e6,e7⟩
    ·have hes:es=[]:=List.eq_nil_of_length_eq_zero e2
     subst hes
     have hold:old=[]:=by unfold aL at hE;exact hE
     subst hold
     have hz0:Nat.min m 0=0:=Nat.min_zero _
     obtain⟨p1,p2⟩:=bJ (v:=k.ρ r) (g:=g) (y:=.row el sz g []) (w':=w) hI hb (Or.inr ⟨hG,rfl⟩) (Below.refl _ _)
      (fun b hb _=>rfl) (fun b hb=>by rw[e1]at hb;cases hb) (fun hx=>⟨K.bP _ _ _ _,[],by rw[K.bL];exact hown,by simp[aL]⟩)
     refine bI (v:=goInt (Nat.min m 0)) (w':=w) ?_ p1 (by unfold aY;unfold aY;simpa using p2) (aU p1 _ _ hval)
     rw[e1]at ev
     cases ad with
     |none=>simp[execOp,ho,resolve,invoke,builtin,ha,ev,s1,Builtin.copy_,run_underlying q2,Builtin.lenOf,Builtin.firstCells,sizeOf,typeInfo,q7]
     |some a0=>
      have hld:=run_loadCells_list (P:=P) w a0 [] (by simp)
      simp only[List.length_nil]at hld
      simp[execOp,ho,resolve,invoke,builtin,ha,ev,s1,Builtin.copy_,run_underlying q2,Builtin.lenOf,Builtin.firstCells,sizeOf,typeInfo,q7,hld]
    ·have hfit:es.length*sz≤cur.size:=by rw[e6];exact Nat.mul_le_mul_right _ e4
     have hrun:=Dj (P:=P) (t':=t') (ty:=o.type) q2 q7 q8 e3 (dn:=es.length) (dc:=cap) (c:=c) (by rw[hnl,s2]) hn1 s4 hfit
     have hlt2:b < w.heap.size:=(Array.getElem?_eq_some_iff.1 e3).1
     have hol:old.length=es.length*sz:=hown.1
     have hnd:Nat.min m es.length*sz≤es.length*sz:=Nat.mul_le_mul_right _ (Nat.min_le_right _ _)
     have hnm:Nat.min m es.length*sz≤m*sz:=Nat.mul_le_mul_right _ (Nat.min_le_left _ _)
     have hnl2:news.length=m*sz:=by rw[hnl,s2]
     have hlen:(xs.take es.length++es.drop xs.length).length=es.length:=by
      rw[List.length_append,List.length_take,List.length_drop];omega
     obtain⟨t1,_⟩:=dK s3 es.length
     obtain⟨_,t2⟩:=dK hE xs.length
     have u1:news.take (es.length*sz)=news.take (Nat.min m es.length*sz):=by
      rcases Nat.le_total m es.length with hle|hle
      ·have:Nat.min m es.length=m:=Nat.min_eq_left hle
       rw[this,List.take_of_length_le (by rw[hnl2];exact Nat.mul_le_mul_right _ hle),List.take_of_length_le (by rw[hnl2];exact Nat.le_refl _)]
      ·have:Nat.min m es.length=es.length:=Nat.min_eq_right hle
       rw[this]
     have u2:old.drop (xs.length*sz)=old.drop (Nat.min m es.length*sz):=by
      rw[←s2]
      rcases Nat.le_total m es.length with hle|hle
      ·have:Nat.min m es.length=m:=Nat.min_eq_left hle
       rw[this]
      ·have:Nat.min m es.length=es.length:=Nat.min_eq_right hle
       rw[this,List.drop_of_length_le (by rw[hol];exact Nat.mul_le_mul_right _ hle),List.drop_of_length_le (by rw[hol];exact Nat.le_refl _)]
     rw[u1]at t1
     rw[u2]at t2
     have hdr:old.drop (Nat.min m es.length*sz)=(cur.toList.drop (Nat.min m es.length*sz)).take (es.length*sz - Nat.min m es.length*sz):=by
      rw[←e7,List.drop_take]
     generalize Nat.min m es.length*sz=q at hrun hnd hnm t1 t2 hdr
     have hql:(news.take q).length=q:=by rw[List.length_take,hnl2];exact Nat.min_eq_left hnm
     obtain⟨p1,p2⟩:=bJ (v:=k.ρ r) (g:=g) (y:=.row el sz g (xs.take es.length++es.drop xs.length)) (w':=w.setRow b (news.take q++cur.toList.drop q).toArray) hI hb (Or.inr ⟨hG,rfl⟩)
      ⟨rfl,rfl,rfl,by simp,fun j hj=>setRow_other w b j _ (by omega)⟩ (fun j _ hne=>setRow_other w b j _ (by
       intro e
       apply hne
       show some j=base (k.ρ r)
       rw[e1,e];rfl)) (fun j hj=>by
       rw[e1]at hj
       injection hj with hj
       subst hj
       exact⟨Or.inr (by show base (k.ρ r)=_;rw[e1];rfl),by simpa using hlt2⟩) (fun hx=>by
       refine⟨K.bP _ _ _ _,news.take q++old.drop q,?_,bf hx _ _ (gH t1 t2)⟩
       rw[K.bL,hlen]
       refine⟨?_,Or.inr ⟨b,cap,_,e1,e2,setRow_heap w b cur _ el _ e3,e4,e5,?_,?_⟩⟩
       ·rw[List.length_append,hql,List.length_drop,hol];omega
       ·rw[List.size_toArray,List.length_append,hql,List.length_drop,Array.length_toList,←e6];omega
       ·rw[List.toList_toArray,List.take_append,hql,List.take_of_length_le (by rw[hql];exact hnd),hdr])
     refine bI (v:=goInt (Nat.min m es.length)) ?_ p1 (by unfold aY;unfold aY;exact p2) (aU p1 _ _ hval)
     rw[e1]at ev
     simp[execOp,ho,resolve,invoke,builtin,ha,ev,s1,hrun]
   ·cases h
  ·cases h
 ·rename_i ag sz0 zs el sz bytes r g sz2 q dm px hd hargs
  split at h
  ·rename_i e' sz' g' es xs hg hsrc
   split at h
   ·rename_i hcc
    obtain⟨rfl,rfl,rfl,rfl,hsz,hts,hxm,hem⟩:=hcc
    simp only[Option.some.injEq]at h
    subst h
    obtain⟨i,z,u,g1,q2,_,_,g5,_⟩:=aD hd
    obtain⟨ie,q6,q7,q8⟩:=bH g5
    subst q6
    obtain⟨x1,x2,ha,hx1,hx2⟩:∃x1 x2,args=#[x1,x2]∧look x1=.sub r g sz q dm∧look x2=px:=by
     cases hl:args.toList with
     |nil=>rw[hl]at hargs;cases hargs
     |cons x1 l=>
      cases l with
      |nil=>rw[hl]at hargs;simp at hargs
      |cons x2 l=>
       cases l with
       |nil=>
        rw[hl]at hargs
        simp only[List.map_cons,List.map_nil,List.cons.injEq,and_true]at hargs
        exact⟨x1,x2,by apply Array.ext';simpa using hl,hargs.1,hargs.2⟩
       |cons _ _=>rw[hl]at hargs;simp at hargs
    have hts':ts=#[ts.getD 0 0,ts.getD 1 0]:=by
     apply Array.ext
     ·simpa using hts
     ·intro j h1 h2
      have h2:j < 2:=by simpa using h2
      match j,h2 with
      |0,_=>simp[Array.getD_eq_getD_getElem?,h1]
      |1,_=>simp[Array.getD_eq_getD_getElem?,h1]
    obtain⟨t,ht⟩:∃t,t=ts.getD 0 0:=⟨_,rfl⟩
    obtain⟨t',ht'⟩:∃t,t=ts.getD 1 0:=⟨_,rfl⟩
    rw[←ht,←ht']at hts'
    rw[←ht]at q2
    have f1:=hT x1
    have f2:=hT x2
    rw[hx1]at f1
    rw[hx2]at f2
    have hb:=hget _ _ hg
    obtain⟨a',dc,ad',cap',ev,k1,k2,k3,hG,k5,k4⟩:=oV hI f1 hb
    obtain⟨ad,m,c,news,s1,s2,s3,s4⟩:=qQ hI hget hsrc f2
    obtain⟨hnl,hn1⟩:=bW s3
    obtain⟨_,old,hown,hE⟩:=hI.blk r _ hb
    rw[hts']at ho
    have hval:Rep k s.B.length w (.imm (.int .i64 ((xs.length:Nat):Int))) (goInt m):=by
     rw[aB]
     unfold aF
     rw[s2]
     have hw:IntKind.i64.wrap ((m:Nat):Int)=((m:Nat):Int):=by
      rw[IntKind.wrap_i64]
      unfold most at hem
      omega
     first|rfl|(unfold goInt;first|rfl|(show Value.int _ _=_;simp[hw]))
    by_cases hm0:m=0
    ·subst hm0
     have hxs:xs=[]:=List.eq_nil_of_length_eq_zero s2.symm
     subst hxs
     have hse:es.take q++[]++es.drop (q+([]:List PV).length)=es:=by simp
     rw[hse]
     obtain⟨p1,p2⟩:=bJ (v:=k.ρ r) (g:=g) (y:=.row el sz g es) (w':=w) hI hb (Or.inr ⟨hG,rfl⟩) (Below.refl _ _)
      (fun b hb _=>rfl) (fun b hb'=>⟨Or.inr hb',(hI.sep r _ b hb hb').2.2⟩) (fun hx=>⟨K.bP _ _ _ _,old,by rw[K.bL];exact hown,bf hx _ _ hE⟩)
     refine bI (v:=goInt 0) (w':=w) ?_ p1 (by unfold aY;unfold aY;exact p2) (aU p1 _ _ hval)
     have hz0:Nat.min 0 dm=0:=Nat.zero_min _
     have hnews:news=[]:=List.eq_nil_of_length_eq_zero (by rw[hnl];simp)
     cases a' with
     |none=>
      cases ad with
      |none=>simp[execOp,ho,resolve,invoke,builtin,ha,ev,s1,Builtin.copy_,run_underlying q2,Builtin.lenOf,Builtin.firstCells,sizeOf,typeInfo,q7]
      |some a0=>
       have hld:=run_loadCells_list (P:=P) w a0 [] (by simp)
       simp only[List.length_nil]at hld
       simp[execOp,ho,resolve,invoke,builtin,ha,ev,s1,Builtin.copy_,run_underlying q2,Builtin.lenOf,Builtin.firstCells,sizeOf,typeInfo,q7,hld]
     |some a1=>
      cases ad with
      |none=>simp[execOp,ho,resolve,invoke,builtin,ha,ev,s1,Builtin.copy_,run_underlying q2,Builtin.lenOf,Builtin.firstCells,sizeOf,typeInfo,q7,storeCells]
      |some a0=>
       have hld:=run_loadCells_list (P:=P) w a0 [] (by simp)
       simp only[List.length_nil]at hld
       simp[execOp,ho,resolve,invoke,builtin,ha,ev,s1,Builtin.copy_,run_underlying q2,Builtin.lenOf,Builtin.firstCells,sizeOf,typeInfo,q7,hld,storeCells]
    ·obtain⟨addr,rfl,hcell⟩:∃addr,ad=some addr∧∀j u,news[j]?=some u→w.cell? (addr.add j)=some u:=s4.resolve_left hm0
     obtain⟨b,e0,ea⟩:=k4 (by omega)
     subst ea
     have hne:0 < es.length:=by omega
     rcases hown.2 with ⟨w1,w2⟩|⟨b2,cap,cur,e1,e2,e3,e4,e5,e6,e7⟩
     ·omega
     rw[k5,e0]at e1
     injection e1 with e1 _ ecap
     injection e1 with e1
     injection e1 with e1
     subst e1
     subst ecap
     have hnl2:news.length=m*sz:=by rw[hnl,s2]
     have hq1:q*sz+news.length≤es.length*sz:=by
      rw[hnl2,←Nat.add_mul]
      exact Nat.mul_le_mul_right _ (by omega)
     have hfit:es.length*sz≤cur.size:=by rw[e6];exact Nat.mul_le_mul_right _ e4
     have hrun:=Bg (P:=P) (t':=t') (ty:=o.type) q2 q7 q8 e3 (o:=q*sz) (dn:=dm) (dc:=dc) (c:=c) hnl2 hn1 hcell (by rw[←hnl2];omega) (by omega)
     have hlt2:b < w.heap.size:=(Array.getElem?_eq_some_iff.1 e3).1
     have hol:old.length=es.length*sz:=hown.1
     obtain⟨t1,_⟩:=dK hE q
     obtain⟨_,t2⟩:=dK hE (q+xs.length)
     have hlen:(es.take q++xs++es.drop (q+xs.length)).length=es.length:=by
      rw[List.length_append,List.length_append,List.length_take,List.length_drop];omega
     have hbase:base (k.ρ r)=some b:=by rw[k5,e0];rfl
     have hmid:=FP (cur:=cur.toList) (news:=news) (o:=q*sz) (N:=es.length*sz) hq1 (by simpa using hfit)
     rw[e7]at hmid
     have hdl:(q+xs.length)*sz=q*sz+news.length:=by rw[Nat.add_mul,hnl2,s2]
     rw[hdl]at t2
     obtain⟨p1,p2⟩:=bJ (v:=k.ρ r) (g:=g) (y:=.row el sz g (es.take q++xs++es.drop (q+xs.length))) (w':=w.setRow b (cur.toList.take (q*sz)++news++cur.toList.drop (q*sz+news.length)).toArray) hI hb (Or.inr ⟨hG,rfl⟩)
      ⟨rfl,rfl,rfl,by simp,fun j hj=>setRow_other w b j _ (by omega)⟩ (fun j _ hne=>setRow_other w b j _ (by
       intro e
       apply hne
       show some j=base (k.ρ r)
       rw[hbase,e])) (fun j hj=>by
       rw[hbase]at hj
       injection hj with hj
       subst hj
       exact⟨Or.inr hbase,by simpa using hlt2⟩) (fun hx=>by
       refine⟨K.bP _ _ _ _,old.take (q*sz)++news++old.drop (q*sz+news.length),?_,bf hx _ _ (gH (gH t1 s3) t2)⟩
       rw[K.bL,hlen]
       refine⟨?_,Or.inr ⟨b,cap',_,by rw[k5,e0],e2,setRow_heap w b cur _ el _ e3,e4,e5,?_,?_⟩⟩
       ·rw[List.length_append,List.length_append,List.length_take,List.length_drop,hol];omega
       ·rw[List.size_toArray,List.length_append,List.length_append,List.length_take,List.length_drop,Array.length_toList,←e6];omega
       ·rw[List.toList_toArray,hmid])
     refine bI (v:=goInt m) ?_ p1 (by unfold aY;unfold aY;exact p2) (aU p1 _ _ hval)
     simp[execOp,ho,resolve,invoke,builtin,ha,ev,s1,hrun]
   ·cases h
  ·cases h
 ·cases h
theorem Ih {args:Array Operand} {ts:Array TypeId} (ho:o.op=.call ⟨.builtin .clear,args,ts⟩) (h:ak P Γ.eqT o id look get cr=some out):Does P Γ k w a s.B o out:=by
 unfold ak at h
 simp only[ho]at h
 split at h
 ·rename_i ag sz0 zs el sz bytes r g sz2 q m hd hargs
  split at h
  ·rename_i e' sz' g' es d hg hde
   split at h
   ·rename_i hcc
    obtain⟨rfl,rfl,rfl,rfl,hsz,hts⟩:=hcc
    simp only[Option.some.injEq]at h
    subst h
    obtain⟨i,z,u,g1,q2,_,_,g5,_⟩:=aD hd
    obtain⟨ie,q6,q7,q8⟩:=bH g5
    subst q6
    obtain⟨x1,ha,hx1⟩:∃x1,args=#[x1]∧look x1=.sub r g sz q m:=by
     cases hl:args.toList with
     |nil=>rw[hl]at hargs;cases hargs
     |cons x1 l=>
      cases l with
      |nil=>
       rw[hl]at hargs
       simp only[List.map_cons,List.map_nil,List.cons.injEq,and_true]at hargs
       exact⟨x1,by apply Array.ext';simpa using hl,hargs⟩
      |cons _ _=>rw[hl]at hargs;simp at hargs
    have hts':ts=#[ts.getD 0 0]:=by
     apply Array.ext
     ·simpa using hts
     ·intro j h1 h2
      have h2:j < 1:=by simpa using h2
      match j,h2 with
      |0,_=>simp[Array.getD_eq_getD_getElem?,h1]
    obtain⟨t,ht⟩:∃t,t=ts.getD 0 0:=⟨_,rfl⟩
    rw[←ht]at hts' q2
    have f1:=hT x1
    rw[hx1]at f1
    have hb:=hget _ _ hg
    obtain⟨a',dc,ad',cap',ev,k1,k2,k3,hG,k5,k4⟩:=oV hI f1 hb
    obtain⟨iz,zz,y1,y2,y3,y4,y5⟩:=Ja (P:=P) (w:=w) (Q:=k.Q) hde
    obtain⟨z',hz',hzr'⟩:=yh (P:=P) (w:=w) (Q:=k.Q) hde
    have hzz:(zeroValue el).run P w=.ok zz w:=EM y1 y2
    rw[q7]at y1
    injection y1 with y1
    subst y1
    rw[q8]at y4
    have hzl:(Builtin.zeroCells zz.cells m).toList=(List.replicate m zz.cells.toList).flatten:=by
     have:=sD y4 hsz m
     rw[←this]
     unfold Builtin.zeroCells madeCells
     rw[y4]
    obtain⟨_,old,hown,hE⟩:=hI.blk r _ hb
    rw[hts']at ho
    have s3:aL k s.B.length w sz (List.replicate m (.imm (eu d))) (List.replicate m zz.cells.toList).flatten:=pQ y3 y4 y5 m
    obtain⟨hnl,hn1⟩:=bW s3
    rw[List.length_replicate]at hnl
    by_cases hm0:m=0
    ·subst hm0
     have hse:es.take q++List.replicate 0 (PV.imm (eu d))++es.drop (q+0)=es:=by simp
     rw[hse]
     obtain⟨p1,p2⟩:=bJ (v:=k.ρ r) (g:=g) (y:=.row el sz g es) (w':=w) hI hb (Or.inr ⟨hG,rfl⟩) (Below.refl _ _)
      (fun b hb _=>rfl) (fun b hb'=>⟨Or.inr hb',(hI.sep r _ b hb hb').2.2⟩) (fun hx=>⟨K.bP _ _ _ _,old,by rw[K.bL];exact hown,bf hx _ _ hE⟩)
     refine bI (v:=.tuple #[]) (w':=w) ?_ p1 (by unfold aY;unfold aY;exact p2) (bg _ _ _ _)
     cases a' with
     |none=>simp[execOp,ho,resolve,invoke,builtin,ha,ev,Builtin.clear_,run_underlying q2,Result.andThen]
     |some a1=>simp[execOp,ho,resolve,invoke,builtin,ha,ev,Builtin.clear_,run_underlying q2,Result.andThen]
    ·obtain⟨b,e0,ea⟩:=k4 (by omega)
     subst ea
     rcases hown.2 with ⟨w1,w2⟩|⟨b2,cap,cur,e1,e2,e3,e4,e5,e6,e7⟩
     ·omega
     rw[k5,e0]at e1
     injection e1 with e1 _ ecap
     injection e1 with e1
     injection e1 with e1
     subst e1
     subst ecap
     generalize hnews:(List.replicate m zz.cells.toList).flatten=news at hzl s3 hnl hn1
     have hq1:q*sz+news.length≤es.length*sz:=by
      rw[hnl,←Nat.add_mul]
      exact Nat.mul_le_mul_right _ (by omega)
     have hfit:es.length*sz≤cur.size:=by rw[e6];exact Nat.mul_le_mul_right _ e4
     have hst:=run_storeCells_at P b (q*sz) el news 0 cur w e3 (by rw[Nat.add_zero];omega) hn1
     rw[Nat.add_zero]at hst
     have hlt2:b < w.heap.size:=(Array.getElem?_eq_some_iff.1 e3).1
     have hol:old.length=es.length*sz:=hown.1
     obtain⟨t1,_⟩:=dK hE q
     obtain⟨_,t2⟩:=dK hE (q+m)
     have hlen:(es.take q++List.replicate m (PV.imm (eu d))++es.drop (q+m)).length=es.length:=by
      rw[List.length_append,List.length_append,List.length_take,List.length_drop,List.length_replicate];omega
     have hbase:base (k.ρ r)=some b:=by rw[k5,e0];rfl
     have hmid:=FP (cur:=cur.toList) (news:=news) (o:=q*sz) (N:=es.length*sz) hq1 (by simpa using hfit)
     rw[e7]at hmid
     have hdl:(q+m)*sz=q*sz+news.length:=by rw[Nat.add_mul,hnl]
     rw[hdl]at t2
     obtain⟨p1,p2⟩:=bJ (v:=k.ρ r) (g:=g) (y:=.row el sz g (es.take q++List.replicate m (PV.imm (eu d))++es.drop (q+m))) (w':=w.setRow b (cur.toList.take (q*sz)++news++cur.toList.drop (q*sz+news.length)).toArray) hI hb (Or.inr ⟨hG,rfl⟩)
      ⟨rfl,rfl,rfl,by simp,fun j hj=>setRow_other w b j _ (by omega)⟩ (fun j _ hne=>setRow_other w b j _ (by
       intro e
       apply hne
       show some j=base (k.ρ r)
       rw[hbase,e])) (fun j hj=>by
       rw[hbase]at hj
       injection hj with hj
       subst hj
       exact⟨Or.inr hbase,by simpa using hlt2⟩) (fun hx=>by
       refine⟨K.bP _ _ _ _,old.take (q*sz)++news++old.drop (q*sz+news.length),?_,bf hx _ _ (gH (gH t1 s3) t2)⟩
       rw[K.bL,hlen]
       refine⟨?_,Or.inr ⟨b,cap',_,by rw[k5,e0],e2,setRow_heap w b cur _ el _ e3,e4,e5,?_,?_⟩⟩
       ·rw[List.length_append,List.length_append,List.length_take,List.length_drop,hol];omega
       ·rw[List.size_toArray,List.length_append,List.length_append,List.length_take,List.length_drop,Array.length_toList,←e6];omega
       ·rw[List.toList_toArray,hmid])
     refine bI (v:=.tuple #[]) ?_ p1 (by unfold aY;unfold aY;exact p2) (bg _ _ _ _)
     cases m with
     |zero=>exact absurd rfl hm0
     |succ m=>simp[execOp,ho,resolve,invoke,builtin,ha,ev,Builtin.clear_,run_underlying q2,hzz,hzl,hst,Result.andThen]
   ·cases h
  ·cases h
 ·cases h
omit hget in
theorem E8 {t:TypeId} {x y mx:Operand} {lo:Option Operand} (ho:o.op=.slice t x lo (some y) (some mx)) (h:ak P Γ.eqT o id look get cr=some out):Does P Γ k w a s.B o out:=by
 unfold ak at h
 simp only[ho]at h
 have e:=hT x
 split at h
 ·rename_i ag sz0 zs el sz bb sz' es l k1 hh k2 m hd hx hl hy hm
  split at h
  ·rename_i hc
   obtain⟨rfl,h0,h1,rfl,h3⟩:=hc
   simp only[val,Option.some.injEq]at h
   subst h
   rw[hx]at e
   have e:=aB.1 e
   unfold aF at e
   obtain⟨ad,c,ev,g1,g2,g3⟩:=e
   obtain⟨i,z,u,q1,q2,_,_,q5,_⟩:=aD hd
   obtain⟨ie,q6,q7,q8⟩:=bH q5
   subst q6
   have ey:=hT y
   rw[hy]at ey
   have ey:=bS ey
   have em:=hT mx
   rw[hm]at em
   have em:=bS em
   have hb:∀(kk:IntKind) (z:Int) (y:Nat) (c:BoundsCode),0≤z→z≤y→(Instr.sliceBound (.int kk z) y c).run P w=.ok z.toNat w:=by
    intro kk z y c g1 g2
    unfold Instr.sliceBound
    simp[asIntOf,g1,g2]
   have hr:(Instr.sliceBounds true es.length c (lo.map a.eval) (some (a.eval y)) (some (a.eval mx))).run P w=.ok (l.toNat,hh.toNat,hh.toNat) w:=by
    unfold Instr.sliceBounds
    rcases cO hT hl with ⟨rfl,rfl⟩|⟨y',kk',rfl,ey'⟩
    ·simp[ey,em,hb k2 hh c _ (by omega) (by omega),hb k1 hh hh.toNat _ (by omega) (by omega)]
    ·simp[ey,em,ey',hb k2 hh c _ (by omega) (by omega),hb k1 hh hh.toNat _ (by omega) (by omega),hb kk' l hh.toNat _ h0 (by omega)]
   have hlen:((es.drop l.toNat).take (hh.toNat - l.toNat)).length=hh.toNat - l.toNat:=by rw[List.length_take,List.length_drop];omega
   refine au hI (v:=.slice (if hh.toNat=l.toNat then ad else ad.map (·.add (l.toNat*sz))) (hh.toNat - l.toNat) (hh.toNat - l.toNat)) ?_ ?_
   ·simp[execOp,ho,ev,Instr.sliceAt,Instr.slice,run_underlying q2,hr,sizeOf,typeInfo,q7,q8]
   ·unfold Rep
    refine⟨?_,_,by rw[hlen]⟩
    unfold aF
    refine⟨_,_,by rw[hlen],by rw[hlen];omega,by omega,fun hp=>?_⟩
    rw[hlen]at hp
    obtain⟨b,off,ea,hq,hR⟩:=g3 (by omega)
    subst ea
    refine⟨b,off+l.toNat*sz,?_,hq,qp _ (rC _ hR)⟩
    rw[if_neg (by omega)]
    simp only[Option.map_some,Option.some.injEq]
    unfold Addr.add
    split<;>simp_all
  ·cases h
 ·cases h
end
end Go.Pv
namespace Go.Pv
open Go.RowKit (Below)
def gq (P:Program) (Γ:Ctx) (ob:Ob):Prop:=
 (∀args w,(callFunc ob.f args).run P w=.ok (.enter ob.f args) w)∧
 ∀(k:K) (B:List Blk) (w:World) (vs:List Value),Inv Γ k B w→(∀r x,(r,x)∈ob.rs→B[r]?=some x)→aI k B.length w ob.args vs→
  Calls P ob.f vs.toArray w fun e w'=>∃v k',e=.returned v∧Ext k B.length w k' B.length w'∧Inv Γ k' (aY B ob.ws) w'∧Rep k' B.length w' ob.res v
section
variable {P:Program} {Γ:Ctx} {k:K} {w:World} {a:Act} {s:St} (hI:Inv Γ k s.B w) {look:Operand→PV} (hT:∀x,Rep k s.B.length w (look x) (a.eval x)) {o:Oper} {id:Nat} {get:Nat→Option Blk} {cr:List Orc} {out:Out} (hget:∀r b,get r=some b→s.B[r]?=some b)
include hI hT hget
omit hI hget in
theorem xU:∀l:List Operand,aI k s.B.length w (l.map look) (l.map a.eval)
 |[]=>by simp[aI]
 |x::l=>by
  simp only[List.map_cons]
  unfold aI
  exact⟨_,_,rfl,hT x,xU l⟩
omit hget in
theorem yS {f:FuncId} {first caps:Array Operand} (ho:o.op=.makeFunc (.func f) first caps) (h:ak P Γ.eqT o id look get cr=some out):Does P Γ k w a s.B o out:=by
 unfold ak at h
 simp only[ho]at h
 split at h
 ·rename_i hf
  simp only[val,Option.some.injEq]at h
  subst h
  have e1:=Array.eq_empty_of_size_eq_zero hf
  refine au hI (v:=.func (.func f) #[] (caps.map a.eval)) ?_ ?_
  ·simp[execOp,ho,Instr.makeFunc,e1]
  ·split
   ·rename_i hc
    have e2:=Array.eq_empty_of_size_eq_zero hc
    rw[e2,aB]
    unfold aF
    simp
   ·unfold Rep
    exact⟨caps.toList.map a.eval,by congr 1;apply Array.ext';simp,xU hT caps.toList⟩
 ·cases h
omit hI hT hget in
theorem iy:∀{es:List PV} {bs:List UInt8} {xs:List Value},dX es=some bs→aL k s.B.length w 1 es xs→xs=bs.map fun b=>Value.int .u8 (b.toNat:Int)
 |[],bs,xs,h,hr=>by unfold dX at h;cases h;unfold aL at hr;exact hr
 |p::es,bs,xs,h,hr=>by
  unfold dX at h
  split at h
  ·rename_i b bs' hb hbs
   cases h
   unfold aL at hr
   obtain⟨v,r,e,h1,h2,h3,h4⟩:=hr
   unfold Oe at hb
   split at hb
   ·rename_i z
    split at hb
    ·rename_i hz
     cases hb
     have ev:=bS h3
     subst ev
     rw[e,iy hbs h4]
     have hlt:z.toNat < 256:=by omega
     have:((UInt8.ofNat z.toNat).toNat:Int)=z:=by
      rw[UInt8.toNat_ofNat',Nat.mod_eq_of_lt (by omega)];omega
     simp only[List.map_cons,this]
     rfl
    ·cases hb
   ·cases hb
  ·cases h
omit hI hT hget in
theorem lW:∀(bs:List UInt8) (a:ByteArray),(bs.map fun b=>(b.toNat:Int)).foldl (fun r n=>r.push (UInt8.ofNat n.toNat)) a=⟨a.data++bs.toArray⟩
 |[],a=>by simp
 |b::bs,a=>by
  simp only[List.map_cons,List.foldl_cons,lW bs]
  have:UInt8.ofNat ((b.toNat:Int)).toNat=b:=by simp
  rw[this]
  simp[ByteArray.push]
theorem BP {t u:TypeId} {x:Operand} (ho:o.op=.convert t u x) (h:ak P Γ.eqT o id look get cr=some out):Does P Γ k w a s.B o out:=by
 unfold ak at h
 simp only[ho]at h
 have e:=hT x
 split at h
 ·rename_i k1 k2 k3 z hd1 hd2 hx
  simp only[val,Option.some.injEq]at h
  subst h
  rw[hx]at e
  have ev:=bS e
  obtain⟨_,_,u1,_,g1,_,_,g2,_⟩:=aD hd1
  obtain⟨_,_,u2,_,g3,_,_,g4,_⟩:=aD hd2
  have e1:=rR g2
  have e2:=rR g4
  subst e1;subst e2
  refine au hI (v:=.int k2 (k2.wrap z)) ?_ rP
  simp[execOp,ho,ev,convert,run_underlying g1,run_underlying g3,Conv.intToInt]
 ·rename_i z hd1 hd2 hx
  simp only[val,Option.some.injEq]at h
  subst h
  rw[hx]at e
  have ev:=lI e
  obtain⟨_,_,u1,_,g1,_,_,g2,_⟩:=aD hd1
  obtain⟨_,_,u2,_,g3,_,_,g4,_⟩:=aD hd2
  have e1:=kM g2
  have e2:=kM g4
  subst e1;subst e2
  refine au hI (v:=.string z) ?_ wH
  simp[execOp,ho,ev,convert,run_underlying g1,run_underlying g3]
 ·rename_i _ _ _ el _ _ _ _ r g hd1 hd2 hx
  split at h
  ·rename_i _ _ _ el' g' es hd3 hb
   split at h
   ·rename_i hg
    subst hg
    cases hbs:dX es with
    |none=>rw[hbs]at h;cases h
    |some bs=>
     rw[hbs]at h
     simp only[Option.bind_some,val,Option.some.injEq]at h
     subst h
     rw[hx]at e
     obtain⟨xs,ev,hown,hE,_⟩:=dD hI e (hget _ _ hb)
     obtain⟨_,_,u1,_,g1,_,_,g2,_⟩:=aD hd1
     obtain⟨_,_,u2,_,g3,_,_,g4,_⟩:=aD hd2
     obtain⟨_,_,u3,_,g5,_,_,g6,_⟩:=aD hd3
     have e2:=kM g4
     have e3:=rR g6
     subst e2;subst e3
     obtain⟨i1,e1,_,_⟩:=bH g2
     subst e1
     have hxs:=iy hbs hE
     have hl:=(bW hE).1
     refine au hI (v:=.string ⟨bs.toArray⟩) ?_ wH
     obtain⟨ad,c,hf⟩:=dR hown
     rw[hf]at ev
     simp only[execOp,ho,ev,Sem.run_bind,run_convert_bytes_string w t u el ad es.length c g1 g5 g3]
     cases ad with
     |none=>
      have:es.length=0:=by
       rcases hown.2 with ⟨_,e2⟩|⟨b,cap,cur,e1,_⟩
       ·exact e2
       ·rw[hf]at e1;cases e1
      have hes:es=[]:=List.eq_nil_of_length_eq_zero this
      subst hes
      unfold dX at hbs
      cases hbs
      rfl
     |some ad=>
      have hc:=hown.cells (g:=ad.block)
      have hload:(loadCells ad es.length).run P w=.ok ((bs.map fun b=>(b.toNat:Int)).map (Value.int .u8)).toArray w:=by
       rw[show es.length=((bs.map fun b=>(b.toNat:Int)).map (Value.int .u8)).length by
        rw[List.length_map,List.length_map]
        have:=congrArg List.length hxs
        rw[List.length_map]at this
        omega]
       refine run_loadCells_list (P:=P) w ad _ (fun j v hj=>?_)
       rcases hown.2 with ⟨e2,_⟩|⟨b,cap,cur,e1,e2,e3,e4,e5,e6,e7⟩
       ·rw[hf]at e2;cases e2
       ·rw[hf]at e1
        simp only[Value.slice.injEq,Option.some.injEq]at e1
        obtain⟨e1,_,_⟩:=e1
        subst e1
        have:=hown.cells (g:=b) (by rw[hf];rfl) j v (by rw[hxs];simpa[List.map_map,Function.comp]using hj)
        exact this
      have:=run_bytesToString (P:=P) w ad es.length c _ hload
      rw[lW]at this
      rw[this]
      simp
   ·cases h
  ·cases h
 ·rename_i _ _ _ el _ _ _ _ es hd1 hd2 hx
  split at h
  ·rename_i _ _ _ hd3
   cases hbs:dX (es.map .imm) with
   |none=>rw[hbs]at h;cases h
   |some bs=>
    rw[hbs]at h
    simp only[Option.bind_some,val,Option.some.injEq]at h
    subst h
    rw[hx]at e
    rw[aB]at e
    unfold aF at e
    obtain⟨ad,c,ev,_,_,hq⟩:=e
    obtain⟨_,_,u1,_,g1,_,_,g2,_⟩:=aD hd1
    obtain⟨_,_,u2,_,g3,_,_,g4,_⟩:=aD hd2
    obtain⟨_,_,u3,_,g5,_,_,g6,_⟩:=aD hd3
    have e2:=kM g4
    have e3:=rR g6
    subst e2;subst e3
    obtain⟨i1,e1,_,_⟩:=bH g2
    subst e1
    refine au hI (v:=.string ⟨bs.toArray⟩) ?_ wH
    simp only[execOp,ho,ev,Sem.run_bind,run_convert_bytes_string w t u el ad es.length c g1 g5 g3]
    by_cases hz:0 < es.length
    ·obtain⟨b,off,ea,_,hR⟩:=hq hz
     subst ea
     obtain⟨xs,hE,hcs⟩:=oN (kk:=k) (n:=s.B.length) hR
     have hxs:=iy hbs hE
     have hload:(loadCells ⟨b,off,none⟩ es.length).run P w=.ok ((bs.map fun b=>(b.toNat:Int)).map (Value.int .u8)).toArray w:=by
      have hl:=(bW hE).1
      rw[List.length_map]at hl
      rw[show es.length=((bs.map fun b=>(b.toNat:Int)).map (Value.int .u8)).length by
       rw[List.length_map,List.length_map]
       have:=congrArg List.length hxs
       rw[List.length_map]at this
       omega]
      refine run_loadCells_list (P:=P) w ⟨b,off,none⟩ _ (fun j v hj=>?_)
      have h9:=hcs j v (by rw[hxs];simpa[List.map_map,Function.comp]using hj)
      have:(⟨b,off,none⟩:Addr).add j=⟨b,off+j,none⟩:=by unfold Addr.add;split<;>simp_all
      rw[this]
      exact h9
     have:=run_bytesToString (P:=P) w ⟨b,off,none⟩ es.length c _ hload
     rw[lW]at this
     rw[this]
     simp
    ·have hes:es=[]:=List.eq_nil_of_length_eq_zero (by omega)
     subst hes
     unfold dX at hbs
     cases hbs
     cases ad with
     |none=>rfl
     |some ad=>rfl
  ·cases h
 ·rename_i _ _ _ el _ _ _ _ r g q m hd1 hd2 hx
  split at h
  ·rename_i _ _ _ el' g' es hd3 hb
   split at h
   ·rename_i hg
    subst hg
    cases hbs:dX ((es.drop q).take m) with
    |none=>rw[hbs]at h;cases h
    |some bs=>
     rw[hbs]at h
     simp only[Option.bind_some,val,Option.some.injEq]at h
     subst h
     rw[hx]at e
     obtain⟨ad,c,ad',cap,ev,_,_,hqm,_,hρ,had⟩:=oV hI e (hget _ _ hb)
     obtain⟨_,xs,hown,hE⟩:=hI.blk r _ (hget _ _ hb)
     obtain⟨_,_,u1,_,g1,_,_,g2,_⟩:=aD hd1
     obtain⟨_,_,u2,_,g3,_,_,g4,_⟩:=aD hd2
     obtain⟨_,_,u3,_,g5,_,_,g6,_⟩:=aD hd3
     have e2:=kM g4
     have e3:=rR g6
     subst e2;subst e3
     obtain⟨i1,e1,_,_⟩:=bH g2
     subst e1
     have hE2:=sP q m hE
     have hxs:=iy hbs hE2
     have hl:=(bW hE2).1
     have hl2:((es.drop q).take m).length=m:=by rw[List.length_take,List.length_drop];omega
     refine au hI (v:=.string ⟨bs.toArray⟩) ?_ wH
     simp only[execOp,ho,ev,Sem.run_bind,run_convert_bytes_string w t u el ad m c g1 g5 g3]
     by_cases hz:0 < m
     ·obtain⟨b,f1,f2⟩:=had hz
      subst f2
      rw[f1]at hρ
      have hload:(loadCells ⟨b,q*1,none⟩ m).run P w=.ok ((bs.map fun b=>(b.toNat:Int)).map (Value.int .u8)).toArray w:=by
       rw[show m=((bs.map fun b=>(b.toNat:Int)).map (Value.int .u8)).length by
        rw[List.length_map,List.length_map]
        have:=congrArg List.length hxs
        rw[List.length_map]at this
        omega]
       refine run_loadCells_list (P:=P) w ⟨b,q*1,none⟩ _ (fun j v hj=>?_)
       have hj2:((xs.drop q).take m)[j]?=some v:=by rw[hxs];simpa[List.map_map,Function.comp]using hj
       have hj3:xs[q+j]?=some v:=by
        rw[List.getElem?_take]at hj2
        split at hj2
        ·rwa [List.getElem?_drop]at hj2
        ·cases hj2
       have h9:=hown.cells (g:=b) (by rw[hρ];rfl) (q+j) v hj3
       rw[gU,Nat.zero_add]at h9
       rw[gU,Nat.mul_one]
       exact h9
      have:=run_bytesToString (P:=P) w ⟨b,q*1,none⟩ m c _ hload
      rw[lW]at this
      rw[this]
      simp
     ·obtain rfl:m=0:=by omega
      rw[List.take_zero]at hbs
      unfold dX at hbs
      cases hbs
      cases ad with
      |none=>rfl
      |some ad=>rfl
   ·cases h
  ·cases h
 ·cases h
omit hget in
theorem Ky {f:Operand} {args:Array Operand} {ts:Array TypeId} (ho:o.op=.call ⟨.value f,args,ts⟩) (h:ak P Γ.eqT o id look get cr=some out) (hrs:∀c∈cr,∀r b,get r=some b→s.B[r]?=some b) (hob:∀ob,out.ob=some ob→gq P Γ ob):Does P Γ k w a s.B o out:=by
 unfold ak at h
 simp only[ho]at h
 have e:=hT f
 have key:∀(fid:FuncId) (caps:List PV) (cvs:List Value) (c:Orc) (rest:List Orc),cr=c::rest→a.eval f=.func (.func fid) #[] cvs.toArray→aI k s.B.length w caps cvs→
   out=⟨c.res,c.ws,some ⟨fid,args.toList.map look++caps,c.reads.filterMap fun r=>(get r).map fun b=>(r,b),c.res,c.ws⟩⟩→Does P Γ k w a s.B o out:=by
  intro fid caps cvs c rest hcr ev hcaps hout
  subst hout
  obtain⟨hent,hcall⟩:=hob _ rfl
  intro next Q hn
  have hargs:aI k s.B.length w (args.toList.map look++caps) (args.toList.map a.eval++cvs):=mU (xU hT args.toList) hcaps
  have hC:=hcall k s.B w _ hI (fun r x hm=>by
   rw[List.mem_filterMap]at hm
   obtain⟨r',_,hm⟩:=hm
   cases hg:get r' with
   |none=>rw[hg]at hm;cases hm
   |some b=>
    rw[hg]at hm
    simp only[Option.map_some,Option.some.injEq,Prod.mk.injEq]at hm
    obtain⟨rfl,rfl⟩:=hm
    exact hrs c (by rw[hcr];exact List.mem_cons_self) _ _ hg) hargs
  have hrun:(execOp a.eval o).run P w=.ok (.enter fid (args.toList.map a.eval++cvs).toArray) w:=by
   have h1:=hent (args.toList.map a.eval++cvs).toArray w
   have h2:#[]++args.map a.eval++cvs.toArray=(args.toList.map a.eval++cvs).toArray:=by
    apply Array.ext'
    simp
   simp only[execOp,ho,resolve,Deferred.ofValue,ev,Sem.run_bind,Sem.run_pure,Result.andThen_ok,invoke]
   rw[h2]
   exact h1
  unfold Oper.wp
  rw[hrun]
  refine hC.mono ?_
  rintro e w' ⟨v,k',rfl,h1,h2,h3⟩
  exact hn v w' k' h1 h2 h3
 split at h
 ·rename_i fid c rest hf
  simp only[Option.some.injEq]at h
  subst h
  rw[hf]at e
  have ev:=Gs e
  exact key fid [] [] c rest rfl ev (by simp[aI]) (by simp)
 ·rename_i fid caps c rest hf
  simp only[Option.some.injEq]at h
  subst h
  rw[hf]at e
  have e':=aB.1 e
  unfold aF at e'
  obtain⟨vs,ev,hc⟩:=e'
  exact key fid (caps.map ofC) vs c rest rfl ev (Gc hc) rfl
 ·rename_i fid caps c rest hf
  simp only[Option.some.injEq]at h
  subst h
  rw[hf]at e
  unfold Rep at e
  obtain⟨vs,ev,hc⟩:=e
  exact key fid caps vs c rest rfl ev hc rfl
 ·cases h
theorem OH {args:Array Operand} {ts:Array TypeId} (ho:o.op=.call ⟨.builtin .len,args,ts⟩) (h:ak P Γ.eqT o id look get cr=some out):Does P Γ k w a s.B o out:=by
 unfold ak at h
 simp only[ho]at h
 have harg:∀p,args.toList.map look=[p]→∃x,args=#[x]∧look x=p:=by
  intro p hp
  match hl:args.toList,hp with
  |[x],hp=>
   simp only[List.map_cons,List.map_nil,List.cons.injEq,and_true]at hp
   exact⟨x,by apply Array.ext';simpa using hl,hp⟩
 have fin:∀(x:Operand) (t:TypeId) (n:Int),args=#[x]→ts.size=1→ts.getD 0 0=t→(Builtin.len_ ts o.type #[a.eval x]).run P w=.ok (.int .i64 n) w→Does P Γ k w a s.B o ⟨.imm (.int .i64 n),[],none⟩:=by
  intro x t n ha _ _ hr
  refine au hI (v:=.int .i64 n) ?_ rP
  simp[execOp,ho,resolve,invoke,builtin,ha,hr]
 have h0:ts.size=1→∃t,ts[0]?=some t∧ts.getD 0 0=t:=fun h1=>by
  cases hh:ts[0]? with
  |none=>rw[Array.getElem?_eq_none_iff]at hh;omega
  |some y=>exact⟨y,rfl,by rw[Array.getD_eq_getD_getElem?,hh];rfl⟩
 split at h
 ·rename_i hd hx
  split at h
  ·rename_i hs
   simp only[val,Option.some.injEq]at h
   subst h
   obtain⟨x,ha,hp⟩:=harg _ hx
   have e:=hT x
   rw[hp,aB]at e
   unfold aF at e
   obtain⟨_,_,u1,_,g1,_,_,g2,_⟩:=aD hd
   obtain⟨_,g3,_⟩:=bH g2
   subst g3
   obtain⟨t0,t1,t2⟩:=h0 hs
   rw[t2]at g1
   exact fin x _ 0 ha hs rfl (by simp[Builtin.len_,t1,run_underlying g1,e,goInt])
  ·cases h
 ·rename_i es hd hx
  split at h
  ·rename_i hs
   simp only[val,Option.some.injEq]at h
   subst h
   obtain⟨x,ha,hp⟩:=harg _ hx
   have e:=hT x
   rw[hp,aB]at e
   unfold aF at e
   obtain⟨ad,c,e,_⟩:=e
   obtain⟨_,_,u1,_,g1,_,_,g2,_⟩:=aD hd
   obtain⟨_,g3,_⟩:=bH g2
   subst g3
   obtain⟨t0,t1,t2⟩:=h0 hs
   rw[t2]at g1
   exact fin x _ _ ha hs rfl (by simp[Builtin.len_,t1,run_underlying g1,e,goInt])
  ·cases h
 ·rename_i str hd hx
  split at h
  ·rename_i hs
   simp only[val,Option.some.injEq]at h
   subst h
   obtain⟨x,ha,hp⟩:=harg _ hx
   have e:=hT x
   rw[hp]at e
   have e:=lI e
   obtain⟨_,_,u1,_,g1,_,_,g2,_⟩:=aD hd
   have g3:=kM g2
   subst g3
   obtain⟨t0,t1,t2⟩:=h0 hs
   rw[t2]at g1
   exact fin x _ _ ha hs rfl (by simp[Builtin.len_,t1,run_underlying g1,e,goInt])
  ·cases h
 ·rename_i r g hd hx
  split at h
  ·rename_i el sz g' es hg
   split at h
   ·rename_i hs
    obtain⟨hs,rfl⟩:=hs
    simp only[val,Option.some.injEq]at h
    subst h
    obtain⟨x,ha,hp⟩:=harg _ hx
    have e:=hT x
    rw[hp]at e
    obtain⟨xs,ev,hown,_⟩:=dD hI e (hget _ _ hg)
    obtain⟨ad,c,ev2⟩:=dR hown
    rw[ev2]at ev
    obtain⟨_,_,u1,_,g1,_,_,g2,_⟩:=aD hd
    obtain⟨_,g3,_⟩:=bH g2
    subst g3
    obtain⟨t0,t1,t2⟩:=h0 hs
    rw[t2]at g1
    exact fin x _ _ ha hs rfl (by simp[Builtin.len_,t1,run_underlying g1,ev,goInt])
   ·cases h
  ·cases h
 ·rename_i r g sz2 q m hd hx
  split at h
  ·rename_i el sz g' es hg
   split at h
   ·rename_i hs
    obtain⟨hs,rfl⟩:=hs
    simp only[val,Option.some.injEq]at h
    subst h
    obtain⟨x,ha,hp⟩:=harg _ hx
    have e:=hT x
    rw[hp]at e
    obtain⟨a',c,ad,cap,ev,_⟩:=oV hI e (hget _ _ hg)
    obtain⟨_,_,u1,_,g1,_,_,g2,_⟩:=aD hd
    obtain⟨_,g3,_⟩:=bH g2
    subst g3
    obtain⟨t0,t1,t2⟩:=h0 hs
    rw[t2]at g1
    exact fin x _ _ ha hs rfl (by simp[Builtin.len_,t1,run_underlying g1,ev,goInt])
   ·cases h
  ·cases h
 ·rename_i r g hd hx
  split at h
  ·rename_i kk g' ps hg
   split at h
   ·rename_i hs
    obtain⟨hs,rfl,hit⟩:=hs
    simp only[val,Option.some.injEq]at h
    subst h
    obtain⟨x,ha,hp⟩:=harg _ hx
    have e:=hT x
    rw[hp]at e
    obtain⟨b,es,clock,ev,hb,hM,_⟩:=qx hI e (hget _ _ hg) hit
    obtain⟨_,_,u1,_,g1,_,_,g2,_⟩:=aD hd
    have g3:=nL g2
    subst g3
    obtain⟨t0,t1,t2⟩:=h0 hs
    rw[t2]at g1
    have hl:es.size=ps.length:=by simpa using vH hM
    exact fin x _ _ ha hs rfl (by simp[Builtin.len_,t1,run_underlying g1,ev,goInt,MapKept.run_getObj_map hb,hl,Result.andThen])
   ·cases h
  ·cases h
 ·cases h
theorem nA {args:Array Operand} {ts:Array TypeId} (ho:o.op=.call ⟨.builtin .unsafeSliceData,args,ts⟩) (h:ak P Γ.eqT o id look get cr=some out):Does P Γ k w a s.B o out:=by
 unfold ak at h
 simp only[ho]at h
 split at h
 ·rename_i r g hargs
  split at h
  ·rename_i el sz g' es hb
   split at h
   ·rename_i hc
    obtain⟨rfl,rfl,hne⟩:=hc
    simp only[val,Option.some.injEq]at h
    subst h
    obtain⟨x1,ha,hx1⟩:∃x1,args=#[x1]∧look x1=.row r g:=by
     cases hl:args.toList with
     |nil=>rw[hl]at hargs;cases hargs
     |cons x1 l=>
      cases l with
      |nil=>
       rw[hl]at hargs
       simp only[List.map_cons,List.map_nil,List.cons.injEq,and_true]at hargs
       exact⟨x1,by apply Array.ext';simpa using hl,hargs⟩
      |cons _ _=>rw[hl]at hargs;simp at hargs
    have e:=hT x1
    rw[hx1]at e
    have hB:=hget _ _ hb
    obtain⟨b,cap,cur,xs,hρ,_,_,h4,_,_,_,_,_,hG⟩:=mP hI hB hne
    have hv:a.eval x1=.slice (some ⟨b,0,none⟩) es.length cap:=by
     obtain⟨_,ev,_⟩:=dD hI e hB
     rw[ev];exact hρ
    refine au hI (v:=.pointer (some ⟨b,0,none⟩)) ?_ ?_
    ·have:=Lib.run_unsafeSliceData_row (P:=P) w ts o.type ⟨b,0,none⟩ es.length cap (by omega)
     simp[execOp,ho,resolve,invoke,builtin,ha,hv,this]
    ·unfold Rep
     exact⟨rfl,(List.getElem?_eq_some_iff.1 hB).1,Nat.le_of_eq hG.symm,fun _=>⟨b,by rw[hρ];rfl,by simp⟩⟩
   ·cases h
  ·cases h
 ·cases h
theorem qH {args:Array Operand} {ts:Array TypeId} (ho:o.op=.call ⟨.builtin .unsafeString,args,ts⟩) (h:ak P Γ.eqT o id look get cr=some out):Does P Γ k w a s.B o out:=by
 unfold ak at h
 simp only[ho]at h
 split at h
 ·rename_i q1 q2 q3 e r g sz i oo n hd hargs
  split at h
  ·rename_i e' sz' g' es d hb hd2
   split at h
   ·rename_i hc
    obtain⟨⟨rfl,rfl,rfl,rfl,rfl,rfl,hds,hts⟩,rfl,hne⟩:=hc
    cases hbs:dX es with
    |none=>rw[hbs]at h;cases h
    |some bs=>
     rw[hbs]at h
     simp only[Option.bind_some,Option.some.injEq]at h
     subst h
     obtain⟨x1,x2,ha,hx1,hx2⟩:∃x1 x2,args=#[x1,x2]∧look x1=.eptr r g 1 0 0∧look x2=.imm (.int .i64 (es.length:Nat)):=by
      cases hl:args.toList with
      |nil=>rw[hl]at hargs;simp at hargs
      |cons x1 l=>
       cases l with
       |nil=>rw[hl]at hargs;simp at hargs
       |cons x2 l=>
        cases l with
        |nil=>
         rw[hl]at hargs
         simp only[List.map_cons,List.map_nil,List.cons.injEq,and_true]at hargs
         exact⟨x1,x2,by apply Array.ext';simpa using hl,hargs.1,hargs.2⟩
        |cons _ _=>rw[hl]at hargs;simp at hargs
     obtain⟨t0,ht0⟩:∃t,t=ts.getD 0 0:=⟨_,rfl⟩
     obtain⟨t1,ht1⟩:∃t,t=ts.getD 1 0:=⟨_,rfl⟩
     have hts':ts=#[t0,t1]:=by
      rw[ht0,ht1]
      apply Array.ext
      ·simpa using hts
      ·intro j h1 h2
       have h2:j < 2:=by simpa using h2
       match j,h2 with
       |0,_=>simp[Array.getD_eq_getD_getElem?,h1]
       |1,_=>simp[Array.getD_eq_getD_getElem?,h1]
     rw[←ht0]at hd
     have e1:=hT x1
     rw[hx1]at e1
     have e2:=hT x2
     rw[hx2]at e2
     have v2:=bS e2
     have hB:=hget _ _ hb
     obtain⟨b,hba,v1⟩:=jo hI e1 hB
     obtain⟨b',cap,cur,xs,hρ,hN,hh,h4,h5,h6,h7,h8,hE,hG⟩:=mP hI hB hne
     rw[hρ]at hba
     injection hba with hba
     subst hba
     obtain⟨_,_,u,_,g1,_,_,g2,_⟩:=aD hd
     have gu:=IQ g2
     subst gu
     obtain⟨ie,_,_,f1,_,_,_,_,_,_,f8,_⟩:=aD hd2
     have hxs:=iy hbs hE
     have hlen:bs.length=es.length:=by
      have:=congrArg List.length hxs
      rw[List.length_map,h8]at this
      omega
     have hcell:∀j x,bs[j]?=some x→w.cell? ((⟨b',0,none⟩:Addr).add j)=some (.int .u8 x.toNat):=fun j x hj=>by
      have hadd:(⟨b',0,none⟩:Addr).add j=⟨b',j,none⟩:=by unfold Addr.add;split<;>simp[*]
      rw[hadd,World.cell?,hh]
      have hj2:xs[j]?=some (.int .u8 x.toNat):=by rw[hxs,List.getElem?_map,hj];rfl
      rw[←h7,List.getElem?_take]at hj2
      split at hj2
      ·simpa using hj2
      ·cases hj2
     have hrun:=Lib.run_unsafeString_row (P:=P) w t0 t1 o.type e g1 (by unfold Program.cellsOf;rw[f1];show ie.size=1;omega) b' cur.size (by simp[World.shape?,hh]) bs (by intro e;rw[e]at hlen;simp at hlen;omega) (by omega) (by unfold maxLen at h5;omega) hcell
     have hb1:∀j,j≠b'→(w.freeze ⟨b',0,none⟩ bs.length).heap[j]?=w.heap[j]?:=fun j hj=>by
      unfold World.freeze
      split
      ·rfl
      ·show (w.heap.modify b' _)[j]?=_
       rw[Array.getElem?_modify,if_neg (Ne.symm hj)]
     have hlt:b' < w.heap.size:=(Array.getElem?_eq_some_iff.1 hh).1
     have hsz:(w.freeze ⟨b',0,none⟩ bs.length).heap.size=w.heap.size:=by
      unfold World.freeze
      split
      ·rfl
      ·show (w.heap.modify b' _).size=_
       simp
     have how:own k r (.row e 1 g es)=some b':=by show base (k.ρ r)=_;rw[hρ];rfl
     obtain⟨r1,r2⟩:=bJ (v:=k.ρ r) (g:=g+1) (y:=.dead (g+1)) (w':=w.freeze ⟨b',0,none⟩ bs.length) hI hB (Or.inl (by omega)) (Lib.below_freeze (Below.refl _ _) (p:=⟨b',0,none⟩) hN _)
      (fun j _ hj=>hb1 j (fun e=>hj (by rw[how,e]))) (fun j hj=>⟨Or.inr (by rw[how,←hj,hρ];rfl),by
       rw[hρ]at hj
       injection hj with hj
       rw[hsz,←hj];exact hlt⟩) (fun _=>K.bP _ _ _ _)
     refine bI (v:=.string ⟨bs.toArray⟩) (w':=w.freeze ⟨b',0,none⟩ bs.length) ?_ r1 (by unfold aY;unfold aY;exact r2) (by rw[aB];unfold aF;rfl)
     have v1':a.eval x1=.pointer (some ⟨b',0,none⟩):=by rw[v1]
     rw[hlen]at hrun ⊢
     simp[execOp,ho,resolve,invoke,builtin,ha,hts',v1',v2,hrun]
   ·cases h
  ·cases h
 ·cases h
end
end Go.Pv
namespace Go.Pv
open Go.RowKit (Below)
def ru:Op→Bool
 |.alloc _|.box _ _|.buildSlice _ _ _|.makeSlice _ _ _|.makeMap _ _|.range _ _=>true
 |.call ⟨.builtin .append,_,_⟩=>true
 |.call ⟨.value _,_,_⟩=>true
 |_=>false
def iN:Op→Bool
 |.call ⟨.value _,_,_⟩=>true
 |_=>false
def Tj:Operand→Option Nat
 |.tmp t=>some t
 |_=>none
def kP (o:Oper):List Nat:=o.op.operands.toList.filterMap Tj
def evr (Γ:Ctx) (E:List PV) (tr:List Nat):Operand→PV
 |.tmp t=>if tr.contains t then E.getD t .any else .any
 |x=>pev Γ [] x
def SX:PV→List Nat
 |.ptr r _ _=>[r]
 |.row r _=>[r]
 |.eptr r _ _ _ _=>[r]
 |.sub r _ _ _ _=>[r]
 |_=>[]
def Nu (o:Oper):List Operand:=match o.op with
 |.store _ x _=>[x]
 |.move _|.assign _|.pick _ _ _|.extract _ _|.build _ _|.buildSlice _ _ _|.box _ _|.makeFunc _ _ _=>[]
 |op=>op.operands.toList
def IJ (o:Oper) (ev:Operand→PV) (cr:List Orc) (id:Nat):List Nat:=
 ((Nu o).flatMap fun x=>SX (ev x))++((if iN o.op then (match cr with
  |c::_=>c.reads
  |[]=>[]) else [])++(if ru o.op then [id] else []))
def gtr (ops:Array Oper) (o:Oper):List Nat:=
 match o.guard with
 |none=>[]
 |some (j,_)=>((ops[j]?).bind (·.dst)).toList
def jH (ops:Array Oper) (E:List PV) (o:Oper):Option Bool:=
 match o.guard with
 |none=>some true
 |some (j,want)=>match (ops[j]?).bind (·.dst) with
  |some d=>match E.getD d .any with
   |.imm (.bool b)=>some (b == want)
   |.tup []=>some false
   |_=>none
  |none=>none
structure Eff where
 dst:Option Nat
 v:PV
 ws:List (Nat×Blk)
 ob:Option Ob
 tr:List Nat
 br:List Nat
def x9 (P:Program) (Γ:Ctx) (ops:Array Oper) (s:St) (o:Oper) (id:Nat) (cr:List Orc):Option Eff:=
 match jH ops s.E o with
 |none=>none
 |some false=>some ⟨o.dst,.tup [],[],none,gtr ops o,[]⟩
 |some true=>
  match ak P Γ.eqT o id (evr Γ s.E (kP o)) (fun r=>if (IJ o (evr Γ s.E (kP o)) cr id).contains r then s.B[r]? else none) cr with
  |some out=>some ⟨o.dst,out.v,out.ws,out.ob,gtr ops o++kP o,IJ o (evr Γ s.E (kP o)) cr id⟩
  |none=>none
def Gb (E:List PV) (d:Option Nat) (v:PV):List PV:=
 match d with
 |some d=>E.set d v
 |none=>E
def bq (s:St) (e:Eff):St:=⟨Gb s.E e.dst e.v,aY s.B e.ws⟩
def nextId (o:Oper) (id:Nat):Nat:=if ru o.op then id+1 else id
def vZ (o:Oper) (cr:List Orc):List Orc:=if iN o.op then cr.tail else cr
def mI (P:Program) (Γ:Ctx) (ops:Array Oper):List Oper→Nat→List Orc→St→Option (List Eff)
 |[],_,_,_=>some []
 |o::r,id,cr,s=>match x9 P Γ ops s o id cr with
  |none=>none
  |some e=>match mI P Γ ops r (nextId o id) (vZ o cr) (bq s e) with
   |some es=>some (e::es)
   |none=>none
theorem ET {k:K} {n:Nat} {w:World} {p:PV} {v:Value} (hp:Rep k n w p v):∀{E:List PV} {vs:List Value} (_:aI k n w E vs) (d:Nat),aI k n w (E.set d p) (vs.set d v)
 |[],vs,h,d=>by unfold aI at h;subst h;simp[aI]
 |c::cs,vs,h,d=>by
  unfold aI at h
  obtain⟨x,r,e,h1,h2⟩:=h
  subst e
  cases d with
  |zero=>simp only[List.set_cons_zero];unfold aI;exact⟨v,r,rfl,hp,h2⟩
  |succ d=>simp only[List.set_cons_succ];unfold aI;exact⟨x,_,rfl,h1,ET hp h2 d⟩
theorem rD {k:K} {n:Nat} {w:World} {p:PV} {v:Value} {E:List PV} {a:Act} {d:Option Nat} (hp:Rep k n w p v) (h:aI k n w E a.tmps.toList):aI k n w (Gb E d p) (a.put d v).tmps.toList:=by
 cases d with
 |none=>exact h
 |some d=>
  have:=ET hp h d
  simpa[Act.put,Gb]using this
theorem Qr {P:Program} {Γ:Ctx} (hX:dW P Γ.eqT) {k:K} {w:World} {a:Act} {s:St} (hI:Inv Γ k s.B w) {look:Operand→PV} (hT:∀x,Rep k s.B.length w (look x) (a.eval x)) {o:Oper} {id:Nat} {get:Nat→Option Blk} {cr:List Orc} {out:Out} (hget:∀r b,get r=some b→s.B[r]?=some b)
  (h:ak P Γ.eqT o id look get cr=some out) (hob:∀ob,out.ob=some ob→gq P Γ ob):Does P Γ k w a s.B o out:=by
 cases ho:o.op with
 |move x=>
  have h':=h
  unfold ak at h'
  simp only[ho,val,Option.some.injEq]at h'
  subst h'
  exact zB hI hT (Or.inl ho)
 |assign x=>
  have h':=h
  unfold ak at h'
  simp only[ho,val,Option.some.injEq]at h'
  subst h'
  exact zB hI hT (Or.inr ho)
 |pick c x y=>exact Kr hI hT ho h
 |alloc t=>exact H8 hI hget ho h
 |box t x=>exact Nt hI hT hget ho h
 |load t x=>exact KX hI hT hget ho h
 |store t x y=>exact Ig hI hT hget ho h
 |nilCheck x=>exact L8 hI hT hget ho h
 |binOp op t x y ty=>exact N7 hI hT hget hX ho h
 |unOp op t x=>exact Pp hI hT ho h
 |fieldAddr t x f=>exact wB hI hT hget ho h
 |field t x f=>exact GZ hI hT ho h
 |indexAddr t x ix=>exact wh hI hT hget ho h
 |index t x ix=>exact GU hI hT ho h
 |extract x i=>exact Cb hI hT ho h
 |build t parts=>exact Iz hI hT ho h
 |buildSlice t n parts=>exact uJ hI hT hget ho h
 |slice t x lo hi mx=>
  cases mx with
  |none=>exact Iu hI hT hget ho h
  |some m=>
   cases hi with
   |none=>unfold ak at h;simp only[ho]at h;cases h
   |some y=>exact E8 hI hT ho h
 |convert t u x=>exact BP hI hT hget ho h
 |makeSlice t l c=>exact wK hI hT hget ho h
 |makeMap t hint=>
  cases hint with
  |none=>exact BA hI hget ho h
  |some _=>unfold ak at h;simp only[ho]at h;cases h
 |lookup t m x ok=>exact F8 hI hT hget hX ho h
 |mapUpdate t m x y=>exact nK hI hT hget hX ho h
 |insert t m x y=>exact Fu hI hT hget hX ho h
 |range t x=>exact GI hI hT hget ho h
 |entry x=>exact Ht hI hT hget ho h
 |makeFunc fn first caps=>
  cases fn with
  |func f=>exact yS hI hT ho h
  |_=>unfold ak at h;simp only[ho]at h;cases h
 |call c=>
  obtain⟨callee,args,ts⟩:=c
  cases callee with
  |value f=>exact Ky hI hT ho h (fun _ _ r b hb=>hget r b hb) hob
  |invoke r m=>unfold ak at h;simp only[ho]at h;cases h
  |builtin b=>
   cases b with
   |len=>exact OH hI hT hget ho h
   |max=>exact Nh hI hT ho h
   |min=>exact NV hI hT ho h
   |append=>exact Fe hI hT hget ho h
   |copy=>exact Kt hI hT hget ho h
   |delete=>exact FH hI hT hget hX ho h
   |clear=>exact Ih hI hT hget ho h
   |unsafeSliceData=>exact nA hI hT hget ho h
   |unsafeString=>exact qH hI hT hget ho h
   |_=>unfold ak at h;simp only[ho]at h;cases h
 |_=>unfold ak at h;simp only[ho]at h;cases h
theorem PX {Γ:Ctx} {k:K} {w:World} {a:Act} {s:St} (hI:Inv Γ k s.B w) (hT:aI k s.B.length w s.E a.tmps.toList) (tr:List Nat) (x:Operand):Rep k s.B.length w (evr Γ s.E tr x) (a.eval x):=by
 cases x with
 |tmp t=>
  by_cases h:tr.contains t=true
  ·have e:evr Γ s.E tr (.tmp t)=s.E.getD t .any:=by simp only[evr,h,if_true]
   rw[e]
   exact dP hI hT (.tmp t)
  ·have e:evr Γ s.E tr (.tmp t)=.any:=by simp only[evr,h,if_false,Bool.false_eq_true]
   rw[e]
   exact bg _ _ _ _
 |const v=>exact dP hI hT (.const v)
 |global g=>exact dP hI hT (.global g)
 |func f=>exact dP hI hT (.func f)
theorem J5 {ops:Array Oper} {k:K} {n:Nat} {w:World} {E:List PV} {a:Act} {o:Oper} {b:Bool} (hT:aI k n w E a.tmps.toList) (h:jH ops E o=some b):Region.wanted o (yielded ops a.tmps)=b:=by
 unfold jH at h
 unfold Region.wanted
 split at h
 ·rename_i hg
  simp only[hg]
  simpa using h
 ·rename_i j want hg
  simp only[hg]
  split at h
  ·rename_i d hd
   split at h
   ·rename_i q hq
    simp only[Option.some.injEq]at h
    subst h
    have hlt:E[d]?=some (.imm (.bool q)):=by
     rw[List.getD_eq_getElem?_getD]at hq
     cases hx:E[d]? with
     |none=>rw[hx]at hq;cases hq
     |some p=>rw[hx]at hq;simp only[Option.getD_some]at hq;rw[hq]
    obtain⟨v,hv,hr⟩:=vg hT d _ hlt
    rw[aB]at hr
    unfold aF at hr
    subst hr
    have hv':a.tmps[d]?=some (.bool q):=by simpa using hv
    unfold yielded
    rw[hd]
    simp only[Option.bind_some,hv']
    cases q<;>cases want<;>rfl
   ·rename_i hq
    simp only[Option.some.injEq]at h
    subst h
    have hlt:E[d]?=some (.tup []):=by
     rw[List.getD_eq_getElem?_getD]at hq
     cases hx:E[d]? with
     |none=>rw[hx]at hq;cases hq
     |some p=>rw[hx]at hq;simp only[Option.getD_some]at hq;rw[hq]
    obtain⟨v,hv,hr⟩:=vg hT d _ hlt
    unfold Rep at hr
    obtain⟨vs,e,hr⟩:=hr
    unfold aI at hr
    subst hr
    subst e
    have hv':a.tmps[d]?=some (.tuple #[]):=by simpa using hv
    unfold yielded
    rw[hd]
    simp only[Option.bind_some,hv']
    cases want<;>rfl
   ·cases h
  ·cases h
theorem y9 {P:Program} {Γ:Ctx} (hX:dW P Γ.eqT) {ops:Array Oper} {s:St} {o:Oper} {id:Nat} {cr:List Orc} {e:Eff} (h:x9 P Γ ops s o id cr=some e) (hob:∀ob,e.ob=some ob→gq P Γ ob) {a:Act} {w:World} (hg:γ Γ s a w)
  {next:Act→World→Prop} {Q:Exit→Act→World→Prop} (hn:∀a' w',γ Γ (bq s e) a' w'→next a' w') :
  if Region.wanted o (yielded ops a.tmps) then o.wp P a w next Q∨(o.asks P a w∧LetsOut Q) else next (a.put o.dst undef) w:=by
 obtain⟨hd,k,hI,hT⟩:=hg
 unfold x9 at h
 split at h
 ·cases h
 ·rename_i hw
  simp only[Option.some.injEq]at h
  subst h
  rw[J5 hT hw]
  simp only[Bool.false_eq_true,if_false]
  refine hn _ _ ⟨by cases o.dst<;>exact hd,k,hI,?_⟩
  exact rD (by unfold Rep;exact⟨[],rfl,by unfold aI;rfl⟩) hT
 ·rename_i hw
  rw[J5 hT hw]
  simp only[if_true]
  split at h
  ·rename_i out hout
   simp only[Option.some.injEq]at h
   subst h
   refine Or.inl (Qr hX hI (PX hI hT (kP o)) (fun r b hb=>?_) hout hob next Q (fun v w' k' h1 h2 h3=>hn _ _ ⟨by cases o.dst<;>exact hd,k',h2,?_⟩))
   ·split at hb
    ·exact hb
    ·cases hb
   ·have hl:(aY s.B out.ws).length=s.B.length:=jK _ _
    show aI k' (aY s.B out.ws).length w' _ _
    rw[hl]
    exact rD h3 (bU h1 _ _ hT)
  ·cases h
theorem sS {P:Program} {Γ:Ctx} (hX:dW P Γ.eqT) {ops:Array Oper} {Q:Exit→Act→World→Prop}:∀(l:List Oper) (i id:Nat) (cr:List Orc) (s:St) (es:List Eff),(∀j,l[j]?=ops[i+j]?)→mI P Γ ops l id cr s=some es→(∀e∈es,∀ob,e.ob=some ob→gq P Γ ob)→
  ∀(a:Act) (w:World),γ Γ s a w→(∀a' w',γ Γ (es.foldl bq s) a' w'→Q .normal a' w')→wpOps P ops Q (List.range' i l.length) a w
 |[],i,id,cr,s,es,_,h,_,a,w,hg,hq=>by
  simp only[mI,Option.some.injEq]at h
  subst h
  simpa[wpOps]using hq a w hg
 |o::l,i,id,cr,s,es,hl,h,hob,a,w,hg,hq=>by
  unfold mI at h
  split at h
  ·cases h
  ·rename_i e he
   split at h
   ·rename_i es' hes
    simp only[Option.some.injEq]at h
    subst h
    have h0:ops[i]?=some o:=by simpa using (hl 0).symm
    simp only[List.length_cons,List.range'_succ]
    unfold wpOps
    rw[h0]
    exact y9 hX he (hob e List.mem_cons_self) hg (fun a' w' hg'=>sS hX l (i+1) _ _ _ es' (fun j=>by have:=hl (j+1);simpa[Nat.add_assoc,Nat.add_comm 1 j]using this) hes (fun e' he'=>hob e' (List.mem_cons_of_mem _ he')) a' w' hg' (by simpa using hq))
   ·cases h
end Go.Pv
