/- Texts of one part, joined. -/
import Derived.Test.YtnmlajmaffiigaaGreatDoorGb
import Derived.Test.YtnmlajmaffiigaaGreatDoorGw
import Derived.Test.YtnmlajmaffiigaaGreatDoorGa
import Derived.Maps.AppendAt
import Derived.Deep.RegionWith
import Derived.Deep.CutRange
set_option linter.constructorNameAsVariable false
set_option maxRecDepth 100000
set_option maxHeartbeats 1000000
open Go Go.Proofs Go.Proofs.YtnmlajmaffiigaaGreatDoor Go.P
namespace Go.RS
open RowKit VB VS VL SC CK Go.ST MK
theorem Bo1{e:TypeId}{w:World}{base:Nat}{v:Value}{l:List Vl}(h:OwnL e w base v l):OwnK valL e w base v l:=h
theorem Do7{e:TypeId}{w:World}{base:Nat}{v:Value}{l:List Vl}(h:OwnK valL e w base v l):OwnL e w base v l:=h
theorem Bi1{e:TypeId}{w:World}{base:Nat}{v:Value}{l:List Vl}(h:OwnL e w base v l):∃A n c,v=.slice A n c:=by
 rcases(Bo1 h).forms with⟨rfl,_⟩ | ⟨g,c,rfl,_⟩
 ·exact⟨none,0,0,rfl⟩
 ·exact⟨_,_,_,rfl⟩
def DeepO(e:TypeId)(w:World)(b:Nat)(ps:List Rs)(l:List Rc):Prop:=ps.length=l.length/\∀(i:Nat)(p:Rs)(r:Rc),ps[i]?=some p->l[i]?=some r->p.seq=r.seq/\OwnL e w b p.row.val r.row
section
variable {e:TypeId} {w w':World} {b:Nat} {ps:List Rs} {l:List Rc}
theorem DeepO.nil(e:TypeId)(w:World)(b:Nat):DeepO e w b [] []:=⟨rfl,fun i p r h _=>by simp at h⟩
theorem DeepO.below(h:DeepO e w b ps l)(hb:Below w.heap.size w w'):DeepO e w' b ps l:=⟨h.1,fun i p r h1 h2=>⟨(h.2 i p r h1 h2).1,(h.2 i p r h1 h2).2.below hb⟩⟩
theorem DeepO.snoc{p:Rs}{r:Rc}(h:DeepO e w b ps l)(h1:p.seq=r.seq)(h2:OwnL e w b p.row.val r.row):DeepO e w b (ps++[p]) (l++[r]):=by
 refine⟨by rw[Q5,Q5,h.1];rfl,fun i p' r' hp hr=>?_⟩
 by_cases hi:i<ps.length
 ·rw[List.getElem?_append_left hi] at hp
  rw[List.getElem?_append_left (by rw[←h.1];exact hi)] at hr
  exact h.2 i p' r' hp hr
 ·rw[List.getElem?_append_right (by omega)] at hp
  rw[List.getElem?_append_right (by rw[←h.1];omega),←h.1] at hr
  match hj:i-ps.length,hp,hr with
  | 0,hp,hr=>simp at hp hr;subst hp hr;exact⟨h1,h2⟩
  | _+1,hp,_=>simp at hp
theorem DeepO.read(h:DeepO e w b ps l):DeepR w w.heap.size ps l:=⟨h.1,fun i p r h1 h2=>⟨(h.2 i p r h1 h2).1,(h.2 i p r h1 h2).2.read⟩⟩
end
theorem own_apart{w:World}{b1 b2 s1 s2 n1 n2:Nat}{e1 e2:TypeId}{v1 v2:Value}{Ad Ac:List Value}(h1:w.ownsRow b1 e1 s1 v1 n1 Ad)(h2:w.ownsRow b2 e2 s2 v2 n2 Ac)(he:e1≠e2):v1.ownBlock=none\/v1.ownBlock≠v2.ownBlock:=by
 rcases h1.2 with⟨rfl,_⟩ | ⟨g,c,Ae,rfl,_,hg,_⟩
 ·exact .inl rfl
 ·right
  intro e
  rcases h2.2 with⟨rfl,_⟩ | ⟨g2,c2,Ab,rfl,_,Aa,_⟩
  ·cases e
  ·obtain rfl:g=g2:=Option.some.inj e
   rw[hg] at Aa
   injection Aa with h
   injection h with _ h
   exact he h
def OwnRs(eR eV:TypeId)(w:World)(b:Nat)(v:Value)(l:List Rc):Prop:=∃ps,OwnK recL eR w b v ps/\DeepO eV w b ps l
section
variable {eR eV e:TypeId} {w w':World} {b b':Nat} {v:Value} {l:List Rc} {ps:List Rs}
theorem DeepO.keep{b2 s2 n2:Nat}{e2:TypeId}{v2:Value}{xs:List Value}(h:DeepO e w b ps l)(h2:w.ownsRow b2 e2 s2 v2 n2 xs)(he:e≠e2)(hg:w.grownBy w' v2.ownBlock):DeepO e w' b ps l:=
 ⟨h.1,fun i p r h3 h4=>⟨(h.2 i p r h3 h4).1,(h.2 i p r h3 h4).2.keep hg (own_apart (h.2 i p r h3 h4).2 h2 he)⟩⟩
theorem OwnRs.read(h:OwnRs eR eV w b v l):RdR w w.heap.size v l:=by
 obtain⟨ps,h1,h2⟩:=h;exact⟨ps,OwnK.read h1,h2.read⟩
end
theorem take_snoc{α:Type}{l:List α}{j:Nat}{x:α}(h:l[j]?=some x):l.take (j+1)=l.take j++[x]:=by
 rw[List.take_add_one,h];rfl
end Go.RS
namespace Go.P
open RowKit VB VS VL SC CK Go.ST MK RS
theorem Tryz.infRec:(Tryz.prog.info? 67).map (fun i=>(i.zero,i.size,i.bytes))=some (some recL.zv,recL.K,32):=by kernel_rfl
end Go.P
namespace Go.RS
open RowKit VB VS VL SC CK Go.ST MK
theorem Cc9{c j:Nat}{l:List Rc}{r:Rc}(h:l[j]?=some r):colL c (l.take (j+1))=colL c (l.take j)++[r.row.getD c ⟨true,0,⟨#[]⟩⟩]:=by
 unfold colL
 rw[take_snoc h,List.map_append];rfl
theorem colL_len(c:Nat)(l:List Rc):(colL c l).length=l.length:=List.length_map _
def Dy8(n:Int)(l:List Rc):List (List Vl):=if n<1\/12<n then[] else(List.range n.toNat).map fun c=>colL c l
theorem Ay8{n:Int}{l:List Rc}(h:n<1\/12<n):Dy8 n l=[]:=if_pos h
theorem Bf0{n:Nat}{l:List Rc}(h1:1<=n)(h2:n<=12):Dy8 n l=(List.range n).map fun c=>colL c l:=by
 unfold Dy8;rw[if_neg (by omega),Int.toNat_natCast]
def RetLL(ls:List (List Vl))(w:World):Ending->World->Prop:=fun en w'=>∃v,en=.returned v/\RdLL w' w'.heap.size v ls/\Below w.heap.size w w'
theorem RetLL.mk{ls:List (List Vl)}{w w':World}{x v:Value}(hx:x=v)(h:RdLL w' w'.heap.size v ls)(hb:Below w.heap.size w w'):RetLL ls w (.returned x) w':=⟨v,by rw[hx],h,hb⟩
def DeepLO(e:TypeId)(w:World)(b:Nat)(ps:List Sl)(ls:List (List Vl)):Prop:=ps.length=ls.length/\∀(i:Nat)(p:Sl)(l:List Vl),ps[i]?=some p->ls[i]?=some l->OwnL e w b p.val l
section
variable {e eR eV:TypeId} {w w':World} {b b':Nat} {ps:List Sl} {ls:List (List Vl)} {rs:List (List Rc)}
theorem DeepLO.nil(e:TypeId)(w:World)(b:Nat):DeepLO e w b [] []:=⟨rfl,fun i p r h _=>by simp at h⟩
theorem DeepLO.below(h:DeepLO e w b ps ls)(hb:Below w.heap.size w w'):DeepLO e w' b ps ls:=⟨h.1,fun i p r h1 h2=>(h.2 i p r h1 h2).below hb⟩
theorem DeepLO.lower(h:DeepLO e w b ps ls)(hb:b'<=b):DeepLO e w b' ps ls:=⟨h.1,fun i p r h1 h2=>(h.2 i p r h1 h2).lower hb⟩
theorem DeepLO.set(h:DeepLO e w b ps ls){a:Addr}(ha:a.block<b)(x:Value):DeepLO e (w.setCell a x) b ps ls:=⟨h.1,fun i p r h1 h2=>ownsRow_setCell_below (h.2 i p r h1 h2) ha x⟩
theorem DeepLO.keep{b2 s2 n2:Nat}{e2:TypeId}{v2:Value}{xs:List Value}(h:DeepLO e w b ps ls)(h2:w.ownsRow b2 e2 s2 v2 n2 xs)(he:e≠e2)(hg:w.grownBy w' v2.ownBlock):DeepLO e w' b ps ls:=
 ⟨h.1,fun i p r h3 h4=>(h.2 i p r h3 h4).keep hg (own_apart (h.2 i p r h3 h4) h2 he)⟩
theorem DeepLO.read(h:DeepLO e w b ps ls):DeepL w w.heap.size ps ls:=⟨h.1,fun i p r h1 h2=>(h.2 i p r h1 h2).read⟩
theorem Cy7{α β:Type}{ps:List α}{ls:List β}{p:α}{l:β}(Aa:ps.length=ls.length){P:α->β->Prop}(h:∀(i:Nat)(p:α)(l:β),ps[i]?=some p->ls[i]?=some l->P p l)(hp:P p l):
   ∀(i:Nat)(p':α)(l':β),(ps++[p])[i]?=some p'->(ls++[l])[i]?=some l'->P p' l':=by
 intro i p' l' h1 h2
 by_cases hi:i<ps.length
 ·rw[List.getElem?_append_left hi] at h1
  rw[List.getElem?_append_left (by rw[←Aa];exact hi)] at h2
  exact h i p' l' h1 h2
 ·rw[List.getElem?_append_right (by omega)] at h1
  rw[List.getElem?_append_right (by rw[←Aa];omega),←Aa] at h2
  match hj:i-ps.length,h1,h2 with
  | 0,h1,h2=>simp at h1 h2;subst h1 h2;exact hp
  | _+1,h1,_=>simp at h1
theorem DeepLO.snoc{p:Sl}{l:List Vl}(h:DeepLO e w b ps ls)(hp:OwnL e w b p.val l):DeepLO e w b (ps++[p]) (ls++[l]):=
 ⟨by rw[Q5,Q5,h.1];rfl,Cy7 h.1 (P:=fun p l=>OwnL e w b p.val l) h.2 hp⟩
end
end Go.RS
namespace Go.P
open RowKit VB VS VL SC CK Go.ST MK RS
theorem Tryz.infSl:(Tryz.prog.info? 63).map (fun i=>(i.zero,i.size,i.bytes))=some (some (.slice none 0 0),1,24):=by kernel_rfl
theorem Ed6(x:Value)(l:List Rc)(c:Nat)(W:World)(hx:RdR W W.heap.size x l)(hb:l.length*32<=140737488351232):
   Calls Tryz.prog 116 #[x,.int .i64 (c:Int)] W (RetVl 49 (colL c l) W):=by
 obtain⟨A,Bh,n,rfl,hn,Be,Bi⟩:=hx.bds
 have Ai:=Ax3 (P:=Tryz.prog) Tryz.underlying63 Tryz.infVal n (by omega) (by unfold maxLen;omega) W
 have Ag:=RowL.made 49 W W.heap.size n (Q1 _) (by unfold maxLen;omega)
 have Aw:Below W.heap.size W (W.alloc (.cells (madeCells #[.bool false,.int .i64 0,.string ⟨#[]⟩] (n*3)) 49)):=(Q2 _ _).alloc (Q1 _) _
 generalize (W.alloc (.cells (madeCells #[.bool false,.int .i64 0,.string ⟨#[]⟩] (n*3)) 49))=W1 at Ag Aw Ai
 have HN:=Hd hn;have HX:=Hd hx
 clear hn hx hb
 go_enter Tryz.func116,Tryz.ntmps116
 go_wp2
 clear Ai
 go_loopw[6,7,13] (fun _ _ i wr=>∃(j:Nat)(ls:List Vl),i=.int .i64 j/\j<=n/\RowL 49 wr W.heap.size W.heap.size n ls/\Hid (ls.length=n)/\Hid (ls=colL c (l.take j)++List.replicate (n-j) vl0)/\Below W.heap.size W wr) (fun _ _ i _=>n-(intOf i).toNat)
 case atStart=>exact⟨0,_,rfl,Nat.zero_le _,Ag,Hd List.length_replicate,Hd rfl,Aw⟩
 case round=>
  clear Ag Aw
  obtain⟨j,ls,rfl,hj,Ab,HL,HQ,Ad⟩:=hrel
  have Bd:=Ab.lt.2
  have Aq:=Hd (show(colL c (l.take j)).length=j by rw[colL_len,List.length_take];have:=HN.out;omega)
  by_cases hlt:j<n
  ·have Ba:j<l.length:=by have:=HN.out;omega
   have As:l[j]?=some l[j]:=Q7 Ba
   obtain⟨ad,rA,rn,rc,rfl,-,q0,q1,Al,qr⟩:=(HX.out.below Ad).at As
   have Ak:=Hd (Cc9 (c:=c) As)
   generalize l[j]=R at q0 q1 qr Al Ak
   clear As Ba
   obtain⟨q,row⟩:=R
   simp only at q0 q1 qr Al Ak
   have Ah:=Bk0 HQ.out Aq.out hlt
   obtain⟨k0,k1,k2⟩:=Ab.at Ah
   have Az:=Ab.frozen (j*3)
   have Bb:=Ab.frozen (j*3+1)
   have Bc:=Ab.frozen (j*3+2)
   have Af:=Ab.put j ⟨true,0,⟨#[]⟩⟩ Ah
   simp only at Af
   have Aj:=Au5 (Q2 W.heap.size wr) (Q1 _) (j*3) (.bool true) (.int .i64 0) (.string ⟨#[]⟩)
   have Ae:(((wr.setCell ⟨W.heap.size,j*3,none⟩ (.bool true)).setCell ⟨W.heap.size,j*3+1,none⟩ (.int .i64 0)).setCell ⟨W.heap.size,j*3+2,none⟩ (.string ⟨#[]⟩)).heap.size=wr.heap.size:=by simp only[World.size_setCell]
   have Ac:=Af.alloc (.cells #[.int .i64 q,.slice rA rn rc] 67)
   have hV:=Var2.new (((wr.setCell ⟨W.heap.size,j*3,none⟩ (.bool true)).setCell ⟨W.heap.size,j*3+1,none⟩ (.int .i64 0)).setCell ⟨W.heap.size,j*3+2,none⟩ (.string ⟨#[]⟩)) (.int .i64 q) (.slice rA rn rc) 67
   rw[Ae] at hV
   have Ao:=Aj.alloc (by rw[Ae];omega) (.cells #[.int .i64 q,.slice rA rn rc] 67)
   have Ax:=Hd Al
   clear Ah Ab Al Af Aj Ae
   have Bk:decide (j<n)=true:=Q4 hlt
   have Bg:decide ((j:Int)<(n:Int))=true:=Q4 (by omega)
   go_upto_region 6 with fail
   clear k0 k1 k2 Az Bb Bc q0 q1
   generalize (((wr.setCell ⟨W.heap.size,j*3,none⟩ (.bool true)).setCell ⟨W.heap.size,j*3+1,none⟩ (.int .i64 0)).setCell ⟨W.heap.size,j*3+2,none⟩ (.string ⟨#[]⟩)).alloc (.cells #[.int .i64 q,.slice rA rn rc] 67)=X at *
   have Ap:=qr.below Ao
   have An:=Ad.trans Ao
   obtain⟨v0,v1,-,-⟩:=hV
   by_cases hc:c<rn
   ·have Ay:row[c]?=some (row[c]'(by rw[←Ax.out];exact hc)):=Q7 _
    obtain⟨Bl,rfl,-,p0,p1,p2⟩:=Ap.at Ay
    have HG:=Hd (show row.getD c ⟨true,0,⟨#[]⟩⟩=row[c]'(by rw[←Ax.out];exact hc) by rw[List.getD_eq_getElem?_getD,Ay];rfl)
    generalize row[c]'_=Y at p0 p1 p2 HG
    obtain⟨yb,yn,ys⟩:=Y
    simp only at p0 p1 p2
    have Aa:(ls.set j (⟨true,0,⟨#[]⟩⟩:Vl))[j]?=some ⟨true,0,⟨#[]⟩⟩:=List.getElem?_set_self (by rw[HL.out];exact hlt)
    obtain⟨k0,k1,k2⟩:=Ac.at Aa
    have Az:=Ac.frozen (j*3)
    have Bb:=Ac.frozen (j*3+1)
    have Bc:=Ac.frozen (j*3+2)
    have Au:=Hd (Ac.put j ⟨yb,yn,ys⟩ Aa)
    have HB:=Hd (Au5 An (Q1 _) (j*3) (.bool yb) (.int .i64 yn) (.string ys))
    have Ar:=Hd (Al4 (x:=(⟨yb,yn,ys⟩:Vl)) HQ.out Aq.out hlt)
    have hd:decide ((c:Int)<(rn:Int))=true:=Q4 (by omega)
    have Bj:(c:Int)<(rn:Int):=by omega
    clear Ay Ac Aa Ap qr Ao An hc
    go_wp2_with fail
    go_roundw
    case rel=>exact⟨j+1,_,by go_num,hlt,Au.out,Hd (by rw[List.length_set,List.length_set];exact HL.out),Hd (by rw[List.set_set,Ar.out,Ak.out,HG.out]),HB.out⟩
    case measure=>simp[intOf]<;>omega
   ·have HG:=Hd (show row.getD c ⟨true,0,⟨#[]⟩⟩=(⟨true,0,⟨#[]⟩⟩:Vl) by rw[List.getD_eq_getElem?_getD,List.getElem?_eq_none (by rw[←Ax.out];omega)];rfl)
    have Ar:=Hd (Al4 (x:=(⟨true,0,⟨#[]⟩⟩:Vl)) HQ.out Aq.out hlt)
    have hd:decide ((c:Int)<(rn:Int))=false:=Q3 (by omega)
    have Bf:decide (c<rn)=false:=Q3 hc
    have Au:=Hd Ac;have HB:=Hd An
    clear hc Ap qr Ao An Ac
    go_wp2_with fail
    go_roundw
    case rel=>exact⟨j+1,_,by go_num,hlt,Au.out,Hd (by rw[List.length_set];exact HL.out),Hd (by rw[Ar.out,Ak.out,HG.out]),HB.out⟩
    case measure=>simp[intOf]<;>omega
  ·have HF:=Hd (show ls=colL c l by rw[HQ.out,show l.take j=l from List.take_of_length_le (by have:=HN.out;omega),show n-j=0 by omega,List.replicate_zero,List.append_nil])
   go_wp2
   go_ret
   exact RetVl.mk rfl (Ab.own_at HL.out HF.out) Ad
end Go.P
namespace Go.RS
open RowKit VB VS VL SC CK Go.ST MK
section
variable {w:World} {B n c i:Nat} {ad:Addr} {l:List Rc}
end
end Go.RS
namespace Go.P
open RowKit VB VS VL SC CK Go.ST MK RS
end Go.P

namespace Go.P
open RowKit VB VS VL SC CK Go.ST MK RS
theorem Ef7(w:World):Calls Tryz.prog 66 #[] w (RetB (.agg #[.bool true,.int .i64 0,.string ⟨#[]⟩]) w):=by
 go_enter Tryz.func66,Tryz.ntmps66
 go_wp2
 refine bodyPost_ret (v:=.agg #[.bool true,.int .i64 0,.string ⟨#[]⟩]) (by simp[results,Tryz.results66,go_sem]) rfl ?_
 exact RetB.mk rfl (by go_grown)
theorem Do0(x:Value)(l:List Rc)(n:Int)(W:World)(hx:RdR W W.heap.size x l)(hb:l.length*32<=140737488351232):
   Calls Tryz.prog 27 #[x,.int .i64 n] W (RetLL (Dy8 n l) W):=by
 by_cases h1:n<1
 ·rw[Ay8 (.inl h1)]
  have hd:decide (n<1)=true:=Q4 h1
  clear h1 hx hb
  go_enter Tryz.func27,Tryz.ntmps27
  go_wp2
  go_ret
  exact RetLL.mk rfl (RdLL.nil _ _) (Q2 _ _)
 have Bb:decide (n<1)=false:=Q3 h1
 by_cases h2:12<n
 ·rw[Ay8 (.inr h2)]
  have hd:decide (12<n)=true:=Q4 h2
  clear h1 h2 hx hb
  go_enter Tryz.func27,Tryz.ntmps27
  go_wp2
  go_ret
  exact RetLL.mk rfl (RdLL.nil _ _) (Q2 _ _)
 have Bw:decide (12<n)=false:=Q3 h2
 obtain⟨k,rfl⟩:∃k:Nat,n=k:=⟨n.toNat,by omega⟩
 rw[Bf0 (by omega) (by omega)]
 obtain⟨A,c,n0,rfl,Bl,Ce,Cg⟩:=hx.bds
 have HX:=Hd hx;have HZ:=Hd hb;have HK:=Hd (show k<=12 by omega);have HN:=Hd Bl
 have Bs:=fun w=>Hd (Ef7 w)
 clear hx hb h1 h2 Bl
 go_enter Tryz.func27,Tryz.ntmps27
 go_wp2
 clear Bb Bw
 go_loopw[5,6,7,9,23] (fun ov iv _ _ _ wr=>∃(j:Nat)(ps:List Sl),iv=.int .i64 j/\j<=k/\OwnV Sl.val 63 wr W.heap.size ov ps/\Hid (DeepLO 49 wr W.heap.size ps ((List.range j).map fun c=>colL c l))/\Below W.heap.size W wr) (fun _ iv _ _ _ _=>k-(intOf iv).toNat)
 case atStart=>exact⟨0,[],rfl,Nat.zero_le _,OwnV.nil _ _ _ _,Hd (DeepLO.nil _ _ _),Q2 _ _⟩
 case round=>
  obtain⟨j,ps,rfl,hj,Ae,HD,Ad⟩:=hrel
  by_cases hlt:j<k
  case neg=>
   obtain rfl:j=k:=by omega
   have Az:=Hd (show RdLL wr wr.heap.size _ ((List.range j).map fun c=>colL c l) from⟨ps,Ae.read,HD.out.read⟩)
   have Cb:decide ((j:Int)<(j:Int))=false:=Q3 (by omega)
   clear Ae HD
   go_wp2
   go_ret
   exact RetLL.mk rfl Az.out Ad
  have Cb:decide ((j:Int)<(k:Int))=true:=Q4 (by omega)
  have Bv:decide (j<k)=true:=Q4 hlt
  have Be:=Hd Ae;have HBEL:=Hd Ad
  have Ah:W.heap.size<=wr.heap.size:=Ad.size
  have Bn:=Hd (show ps.length<=12 by have:=HD.out.1;rw[List.length_map,List.length_range] at this;have:=HK.out;omega)
  clear Ae Ad
  obtain⟨WO,rfl⟩:∃WO,WO=wr:=⟨_,rfl⟩
  go_wp2_with fail
  go_loopw[7,9,23] (fun cv _ iv wr=>∃i:Nat,iv=.int .i64 i/\i<=n0/\OwnL 49 wr WO.heap.size cv (colL j (l.take i))/\Below WO.heap.size WO wr) (fun _ _ iv _=>n0-(intOf iv).toNat)
  case atStart=>exact⟨0,rfl,Nat.zero_le _,OwnL.nil _ _ _,Q2 _ _⟩
  case round=>
   obtain⟨i,rfl,hi,Ab,Ac⟩:=hrel
   have Aw:(colL j (l.take i)).length<=4398046510976:=by rw[colL_len,List.length_take];have:=HZ.out;omega
   by_cases hlti:i<n0
   case neg=>
    have HF:=Hd (show l.take i=l from List.take_of_length_le (by have:=HN.out;omega))
    have Bb:decide ((i:Int)<(n0:Int))=false:=Q3 (by omega)
    rw[HF.out] at Ab
    obtain⟨sA,sn,sc,rfl⟩:=Bi1 Ab
    have Ai:=(Q2 wr.heap.size wr).alloc (Q1 _) (.cells #[.slice sA sn sc] 63)
    have Ak:=Hd ((Be.out.below Ac).alloc (.cells #[.slice sA sn sc] 63))
    have Au:=Hd ((Ab.lower Ah).below Ai)
    have Bm:=Hd ((HD.out.below Ac).below Ai)
    have Az:=Hd (RdV.one Sl.val wr (⟨sA,sn,sc⟩:Sl) 1 63 (Q1 1) (by decide))
    have Br:=Hd (show W.heap.size<=(wr.alloc (.cells #[.slice sA sn sc] 63)).heap.size from Nat.le_trans Ah (Nat.le_trans Ac.size Ai.size))
    have Bk:=Hd ((HBEL.out.trans (Ac.mono Ah)).trans (Ai.mono (Nat.le_trans Ah Ac.size)))
    have Bu:decide (i<n0)=false:=Q3 hlti
    clear Ac Ai Ab Aw
    go_wp2_with(at_builtin;refine Ad0 (f:=Sl.val) (fun _=>rfl) (.slice none 0 0) rfl rfl _ _ 56 rfl W.heap.size 63 24 Tryz.underlying56 Tryz.infSl _ ps rfl Ak.out _ _ [⟨sA,sn,sc⟩] rfl Az.out (by have:=Bn.out;unfold maxLen;simp only[Q6,Q8];omega) (by have:=Bn.out;simp only[Q6,Q8];omega) Br.out ?_)
    intro v' w' Aa Af Bj
    have Cd:=Hd (show DeepLO 49 w' W.heap.size (ps++[⟨sA,sn,sc⟩]) ((List.range (j+1)).map fun c=>colL c l) from by
     rw[List.range_succ,List.map_append]
     exact(Bm.out.keep Ak.out (by decide) Bj).snoc (p:=⟨sA,sn,sc⟩) (Au.out.keep Bj (own_apart Au.out Ak.out (by decide))))
    have By:=Hd (Bk.out.trans Af)
    have Bp:=HK.out
    clear Af Bj Bm Au Ak Bk
    go_wp2_with fail
    go_roundw
    all_goals first
     | (simp[intOf];omega)
     | exact⟨j+1,_,by go_num,hlt,Aa,Cd,By.out⟩
   have Bb:decide ((i:Int)<(n0:Int))=true:=Q4 (by omega)
   have Bt:decide (i<n0)=true:=Q4 hlti
   have Bo:i<l.length:=by have:=HN.out;omega
   have Ar:l[i]?=some l[i]:=Q7 Bo
   obtain⟨ad,rA,rn,rc,rfl,-,q0,q1,Ap,qr⟩:=(HX.out.below (HBEL.out.trans (Ac.mono Ah))).at Ar
   have Al:=Hd (Cc9 (c:=j) Ar)
   generalize l[i]=R at q0 q1 qr Ap Al
   obtain⟨q,row⟩:=R
   simp only at q0 q1 qr Ap Al
   have Ag:=(Q2 wr.heap.size wr).alloc (Q1 _) (.cells #[.int .i64 q,.slice rA rn rc] 67)
   have Bc:=Hd Ap
   have An:=Hd (Ab.below Ag)
   have Aq:=Hd (Ac.trans (Ag.mono Ac.size))
   have Ca:=Ag.size
   have Ch:=Ac.size
   have Ao:=Hd Aw
   have Ax:=qr.below (Ag.mono (show W.heap.size<=wr.heap.size by omega))
   have Bz:i+1<=4398046510976:=by have:=HZ.out;omega
   clear Bo Ar Ap Ab Ac Aw qr
   by_cases hc:j<rn
   ·have Bd:row[j]?=some (row[j]'(by rw[←Bc.out];exact hc)):=Q7 _
    obtain⟨Bi,rfl,Bx,p0,p1,p2⟩:=Ax.at Bd
    have HG:=Hd (show row.getD j ⟨true,0,⟨#[]⟩⟩=row[j]'(by rw[←Bc.out];exact hc) by rw[List.getD_eq_getElem?_getD,Bd];rfl)
    generalize row[j]'_=Y at p0 p1 p2 HG
    obtain⟨yb,yn,ys⟩:=Y
    simp only at p0 p1 p2
    have Cc:decide ((j:Int)<(rn:Int))=true:=Q4 (by omega)
    have Ay:decide (j<rn)=true:=Q4 hc
    have Cf:(j:Int)<(rn:Int):=by omega
    have Bf:=RdK.lit (L:=valL) (wr.alloc (.cells #[.int .i64 q,.slice (some Bi) rn rc] 67)) [⟨yb,yn,ys⟩] 1 49 (Q1 1) (by decide)
    rw[show(wr.alloc (.cells #[.int .i64 q,.slice (some Bi) rn rc] 67)).heap.size=wr.heap.size+1 from by simp] at Bf
    have Bh:=Hd Bf
    clear Bf
    have HO:=Hd (Bo1 (An.out.alloc (.cells #[.bool yb,.int .i64 yn,.string ys] 49)))
    have As:=Hd (show WO.heap.size<=((wr.alloc (.cells #[.int .i64 q,.slice (some Bi) rn rc] 67)).alloc (.cells #[.bool yb,.int .i64 yn,.string ys] 49)).heap.size by simp;omega)
    have Bg:=Hd (Aq.out.alloc (by omega) (.cells #[.bool yb,.int .i64 yn,.string ys] 49))
    clear Bd Ax An Aq Ag
    go_wp2_with(at_builtin;refine Af5 (L:=valL) rfl _ _ 63 rfl WO.heap.size 49 32 Tryz.underlying63 Tryz.infVal _ (colL j (l.take i)) rfl HO.out _ _ [⟨yb,yn,ys⟩] rfl Bh.out (by have:=Ao.out;unfold maxLen;simp only[Q6,Q8];omega) (by have:=Ao.out;simp only[Q6,Q8];omega) As.out ?_)
    intro v' w' Aa Af _
    have Ba:=Hd (show OwnL 49 w' WO.heap.size v' (colL j (l.take (i+1))) by rw[Al.out,HG.out];exact Aa)
    go_wp2_with fail
    go_roundw
    all_goals first
     | (simp[intOf];omega)
     | exact⟨i+1,by go_num,hlti,Ba.out,Bg.out.trans Af⟩
   ·have HG:=Hd (show row.getD j ⟨true,0,⟨#[]⟩⟩=(⟨true,0,⟨#[]⟩⟩:Vl) by rw[List.getD_eq_getElem?_getD,List.getElem?_eq_none (by rw[←Bc.out];omega)];rfl)
    have Cc:decide ((j:Int)<(rn:Int))=false:=Q3 (by omega)
    have Ay:decide (j<rn)=false:=Q3 hc
    clear Ax Ag
    go_wp2_with fail
    (with_reducible refine(Bs _).out.mono ?_);rintro e w2 ⟨rfl,Aj⟩
    have Bq:=Aj.size
    have Bh:=Hd (RdK.lit (L:=valL) w2 [⟨true,0,⟨#[]⟩⟩] 1 49 (Q1 1) (by decide))
    have HO:=Hd (Bo1 ((An.out.below Aj).alloc (.cells #[.bool true,.int .i64 0,.string ⟨#[]⟩] 49)))
    have As:=Hd (show WO.heap.size<=(w2.alloc (.cells #[.bool true,.int .i64 0,.string ⟨#[]⟩] 49)).heap.size by simp;omega)
    have Bg:=Hd ((Aq.out.trans (Aj.mono (by omega))).alloc (by omega) (.cells #[.bool true,.int .i64 0,.string ⟨#[]⟩] 49))
    clear An Aq Aj
    go_wp2_with(at_builtin;refine Af5 (L:=valL) rfl _ _ 63 rfl WO.heap.size 49 32 Tryz.underlying63 Tryz.infVal _ (colL j (l.take i)) rfl HO.out _ _ [⟨true,0,⟨#[]⟩⟩] rfl Bh.out (by have:=Ao.out;unfold maxLen;simp only[Q6,Q8];omega) (by have:=Ao.out;simp only[Q6,Q8];omega) As.out ?_)
    intro v' w' Aa Af _
    have Ba:=Hd (show OwnL 49 w' WO.heap.size v' (colL j (l.take (i+1))) by rw[Al.out,HG.out];exact Aa)
    go_wp2_with fail
    go_roundw
    all_goals first
     | (simp[intOf];omega)
     | exact⟨i+1,by go_num,hlti,Ba.out,Bg.out.trans Af⟩
end Go.P
