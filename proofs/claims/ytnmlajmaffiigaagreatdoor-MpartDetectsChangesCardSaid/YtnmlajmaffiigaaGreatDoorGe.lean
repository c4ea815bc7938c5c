/- The walks over package dict: the Ac4 indices, Encode. -/
import Derived.Test.YtnmlajmaffiigaaGreatDoorGd
import Derived.Test.YtnmlajmaffiigaaGreatDoorGn
set_option linter.constructorNameAsVariable false
set_option maxRecDepth 100000
set_option maxHeartbeats 4000000
open Go Go.Proofs Go.Proofs.YtnmlajmaffiigaaGreatDoor Go.P
namespace Go.DI
open RowKit VB
def nU(n:Nat):Value:=.int .u64 (n:Int)
theorem RdV.toN{w:World}{B:Nat}{v:Value}{l:List Nat}(h:RdV nU w B v l):RdN .u64 w B v l:=by
 obtain⟨A,c,hv,hc,hm,hr⟩:=h
 refine⟨A,c,hv,hc,hm,fun i hi=>?_⟩
 obtain⟨ad,h1,h2,h3⟩:=hr i l[i] (Q7 hi)
 refine⟨ad,h1,h2,?_⟩
 rw[h3,List.getD_eq_getElem?_getD,Q7 hi];rfl
theorem RdN.toU{w:World}{B:Nat}{v:Value}{l:List Nat}(h:RdN .u64 w B v l):RdV nU w B v l:=by
 obtain⟨A,c,hv,hc,hm,hr⟩:=h
 refine⟨A,c,hv,hc,hm,fun i x hx=>?_⟩
 obtain⟨hi,he⟩:=List.getElem?_eq_some_iff.1 hx
 obtain⟨ad,h1,h2,h3⟩:=hr i hi
 refine⟨ad,h1,h2,?_⟩
 rw[h3,List.getD_eq_getElem?_getD,hx];rfl
theorem Au6{P:Program}(a b:List UInt8)(h:a.length+b.length<=4611686018427387904)(w:World):(Op.stringOp .add (str a) (str b)).run P w=.ok (.string (str (a++b))) w:=by
 rw[run_string_add_sum w (str a) (str b) (by rw[Aa3,Aa3];omega),Ab8]
end Go.DI
namespace Go.P
open RowKit VB VarM BP RL DI
theorem Bo8(k:Nat)(w:World)(hk:k<=4611686018427387904):Calls Tryz.prog 242 #[.int .i64 (k:Int)] w (Ret (.int .i64 (wdt k:Nat)) w):=by
 rcases Nat.eq_zero_or_pos k with h0 | h0
 ·subst h0
  have HW:Hid (Calls Tryz.prog 255 #[.int .u64 0] w (Ret (.int .i64 (wid 0:Nat)) w)):=Hd (Bb4 0 w (by decide))
  change Calls Tryz.prog 242 #[.int .i64 0] w (Ret (.int .i64 (wid 0:Nat)) w)
  go_enter Tryz.func242,Tryz.ntmps242
  go_wp2_with(go_at_call 255;(with_reducible refine HW.out.mono ?_);rintro e w' ⟨rfl,rfl⟩)
  go_ret
  exact Ret.mk rfl
 ·obtain⟨m,rfl⟩:∃m,k=m+1:=⟨k-1,by omega⟩
  have HW:=Hd (Bb4 m w (by omega))
  have he:wdt (m+1)=wid m:=rfl
  rw[he]
  clear he
  generalize wid m=d at *
  have h1:(1:Int)<=(m:Int)+1:=by omega
  have h2:¬((m:Int)+1<1):=by omega
  have h3:(m:Int)+1-1=m:=by omega
  go_enter Tryz.func242,Tryz.ntmps242
  go_wp2_with(go_at_call 255;(with_reducible refine HW.out.mono ?_);rintro e w' ⟨rfl,rfl⟩)
  go_ret
  exact Ret.mk rfl
theorem Dr5(w:ByteArray):(wrd w).length=(Aa4 w.size).length+w.size:=by unfold wrd;rw[Q5,Aa1]
end Go.P
namespace Go.VB
open RowKit
def RetV3{α:Type}(f:α->Value)(e:TypeId)(l:List α)(q:Int)(c:Nat)(w:World):Ending->World->Prop:=fun en w'=>
 ∃v,en=.returned (.tuple #[v,.int .i64 q,.int .i64 (c:Int)])/\OwnV f e w' w.heap.size v l/\Below w.heap.size w w'
theorem RetV3.mk{α:Type}{f:α->Value}{e:TypeId}{l:List α}{q:Int}{c:Nat}{w w':World}{x v:Value}(hx:x=.tuple #[v,.int .i64 q,.int .i64 (c:Int)])(ho:OwnV f e w' w.heap.size v l)(hb:Below w.heap.size w w'):RetV3 f e l q c w (.returned x) w':=⟨v,by rw[hx],ho,hb⟩
theorem RowV.other{α β:Type}{f:α->Value}{h:β->Value}{e e':TypeId}{w:World}{base Aa g g' c c':Nat}{l:List α}{m:List β}(h1:RowV f e w base g c l)(h2:RowV h e' w Aa g' c' m)(Ab:g≠g')(j:Nat)(x:β):
   RowV f e (w.setCell ⟨g',j,none⟩ (h x)) base g c l:=
 World.ownsRow.kept h1 (h2.grown j x) (.inr (by simp only[Value.ownBlock];exact fun e=>Ab (Option.some.inj e)))
end Go.VB
namespace Go.DI
open RowKit VB
theorem Dy5{U:List Bool}{i:Nat}(h:U[i]?=some false):(U.set i true).count false+1=U.count false:=by
 obtain⟨hi,he⟩:=List.getElem?_eq_some_iff.1 h
 have hm:U[i]∈U:=List.getElem_mem hi
 have hp:0<U.count false:=List.count_pos_iff.2 (by rw[←he];exact hm)
 rw[List.count_set hi]
 simp[he]
 omega
def UOk(n:Nat)(u:List Nat)(j:Nat)(U:List Bool):Prop:=U.length=n/\∀m,m<n->U[m]?=some (decide (m∈u.take j))
theorem UOk.start(n:Nat)(u:List Nat):UOk n u 0 (List.replicate n false):=⟨by simp,fun m hm=>by simp[hm]⟩
theorem UOk.step{n:Nat}{u:List Nat}{j x:Nat}{U:List Bool}(h:UOk n u j U)(hx:u[j]?=some x)(hn:x<n):UOk n u (j+1) (U.set x true):=by
 refine⟨by rw[List.length_set];exact h.1,fun m hm=>?_⟩
 rw[take_snoc hx]
 by_cases he:m=x
 ·subst he
  rw[List.getElem?_set_self (by rw[h.1];exact hm)];simp
 ·rw[List.getElem?_set_ne (fun e=>he e.symm),h.2 m hm];simp[he]
theorem UOk.same{n:Nat}{u:List Nat}{j x:Nat}{U:List Bool}(h:UOk n u j U)(hx:u[j]?=some x)(hn:x<n)(hu:U[x]?=some true):UOk n u (j+1) U:=by
 have h1:=h.step hx hn
 have he:U.set x true=U:=by
  obtain⟨hi,e⟩:=List.getElem?_eq_some_iff.1 hu
  rw[←e,List.set_getElem_self]
 rwa [he] at h1
theorem UOk.none{n:Nat}{u:List Nat}{j:Nat}{U:List Bool}(h:UOk n u j U)(hj:u.length<=j)(h0:U.count false=0):∀m,m<n->m∈u:=by
 intro m hm
 have h1:=h.2 m hm
 rw[List.take_of_length_le hj] at h1
 by_cases hmu:m∈u
 ·exact hmu
 ·rw[Q3 hmu] at h1
  have:=List.count_pos_iff.2 (List.mem_of_getElem? h1)
  omega
theorem UOk.some{n:Nat}{u:List Nat}{j:Nat}{U:List Bool}(h:UOk n u j U)(hj:u.length<=j)(h0:0<U.count false):∃m,m<n/\m ∉ u:=by
 obtain⟨m,hm,he⟩:=List.mem_iff_getElem.1 (List.count_pos_iff.1 h0)
 have Aa:m<n:=by rw[←h.1];exact hm
 refine⟨m,Aa,fun hmu=>?_⟩
 have h1:=h.2 m Aa
 rw[List.take_of_length_le hj,Q4 hmu,Q7 hm,he] at h1
 cases h1
end Go.DI
namespace Go.P
open RowKit VB VarM BP RL DI
theorem Fb7{x y:ByteArray}(h:lts y x=false):(Go.Op.bytesLess x.toList y.toList || x.toList==y.toList)=true:=by
 by_cases e:x=y
 ·rw[Az8 e,Bool.or_true]
 ·rw[Bt9 (Dr2 h (fun e'=>e e'.symm)),Bool.true_or]
theorem Ei7{x y:ByteArray}(h:lts y x=true):(Go.Op.bytesLess x.toList y.toList || x.toList==y.toList)=false:=by
 rw[Bt9 (Cs0 h),Au2 (fun e=>Dr3 h e.symm)];rfl
theorem Tryz.infBl:(Tryz.prog.info? 4).map (fun i=>(i.zero,i.size,i.bytes))=some (some (.bool false),1,1):=by kernel_rfl
section
variable (s:ByteArray) (p:Int) (w:World) (hs:s.size<=140737488351232)
include hs
theorem Dt5{a:Nat}{b:Int}{c:Nat}(hg:Aa2 s p=(a,b,c))(hc:c≠0):
   Calls Tryz.prog 256 #[.string s,.int .i64 p] w (Ret (.tuple #[.string ⟨#[]⟩,.int .i64 0,.int .i64 (c:Int)]) w):=by
 have HG:=Hd (Al0 s p w (by unfold maxLen;omega) hg)
 have hd:((c:Int)!=0)=true:=by simp;omega
 clear hg hc
 go_enter Tryz.func256,Tryz.ntmps256
 go_wp2_with(go_at_call 180;(with_reducible refine HG.out.mono ?_);rintro e w' ⟨rfl,rfl⟩)
 go_ret3
 exact Ret.mk rfl
theorem Bu4{a b:Nat}(hg:Aa2 s p=(a,(b:Int),0))(hb:b<=s.size)(h:s.size<b+a):
   Calls Tryz.prog 256 #[.string s,.int .i64 p] w (Ret (.tuple #[.string ⟨#[]⟩,.int .i64 0,.int .i64 10]) w):=by
 have HG:=Hd (Ae7 s p w (by unfold maxLen;omega) hg)
 obtain⟨m,hm⟩:∃m:Nat,(s.size:Int)-(b:Int)=m:=⟨s.size-b,by omega⟩
 have Aa:(m:Int)<(a:Int):=by omega
 have Ab:(m:Int)<=140737488351232:=by omega
 clear hg
 go_enter Tryz.func256,Tryz.ntmps256
 go_wp2_with(go_at_call 180;(with_reducible refine HG.out.mono ?_);rintro e w' ⟨rfl,rfl⟩)
 go_ret3
 exact Ret.mk rfl
theorem Dc3{a b:Nat}(hg:Aa2 s p=(a,(b:Int),0))(h:b+a<=s.size):
   Calls Tryz.prog 256 #[.string s,.int .i64 p] w (Ret (.tuple #[.string (s.extract b (b+a)),.int .i64 ((b+a:Nat):Int),.int .i64 0]) w):=by
 have HG:=Hd (Ae7 s p w (by unfold maxLen;omega) hg)
 obtain⟨m,hm⟩:∃m:Nat,(s.size:Int)-(b:Int)=m:=⟨s.size-b,by omega⟩
 have Ac:(a:Int)<=(m:Int):=by omega
 have Ad:(m:Int)<=140737488351232:=by omega
 obtain⟨n,hn⟩:∃n:Nat,b+a=n:=⟨_,rfl⟩
 have Ab:(b:Int)+(a:Int)=(n:Int):=by omega
 have Ae:b<=n:=by omega
 have Aa:n<=s.size:=by omega
 rw[hn]
 clear hg hn h
 go_enter Tryz.func256,Tryz.ntmps256
 go_wp2_with(go_at_call 180;(with_reducible refine HG.out.mono ?_);rintro e w' ⟨rfl,rfl⟩)
 go_ret3
 exact Ret.mk rfl
theorem Bj4{x:ByteArray}{q:Int}{c:Nat}(hg:Bu5 s p=(x,q,c)):
   Calls Tryz.prog 256 #[.string s,.int .i64 p] w (Ret (.tuple #[.string x,.int .i64 q,.int .i64 (c:Int)]) w):=by
 obtain⟨a,b,c',h⟩:∃a b c',Aa2 s p=(a,b,c'):=⟨_,_,_,rfl⟩
 by_cases hc:c'=0
 ·subst hc
  obtain⟨k,m,h1,h2,h3,h4,h5,h6⟩:=getR_zero h
  obtain⟨b,rfl⟩:∃b':Nat,b=b':=⟨k+m,by omega⟩
  by_cases hb:b+a<=s.size
  ·rw[Ci7 h hb] at hg;cases hg
   exact Dc3 s p w hs h hb
  ·rw[Bp0 h (by omega)] at hg;cases hg
   exact Bu4 s p w hs h (by omega) (by omega)
 ·rw[Eu1 h hc] at hg;cases hg
  exact Dt5 s p w hs h hc
end
theorem Bc2(s:ByteArray)(k p:Nat)(w:World)(hs:s.size<=140737488351232)(hk:k<=4096)(hp:p<=s.size){l:List ByteArray}{q:Int}{c:Nat}(hd:dws s k (p:Nat) []=(l,q,c)):
   Calls Tryz.prog 240 #[.string s,.int .i64 (p:Int),.int .i64 (k:Int)] w (RetV3 Value.string 9 l q c w):=by
 have Al:=Cz0 (P:=Tryz.prog) (t:=81) (z:=.string ⟨#[]⟩) rfl Tryz.underlying81 Tryz.infStr k (by omega) (by unfold maxLen;omega) w
 have HD:=Hd hd;clear hd
 go_enter Tryz.func240,Tryz.ntmps240
 go_wp2_with fail
 clear Al
 go_loopw[1,9,16] (fun a ws i wr=>∃(p j:Nat)(ls:List ByteArray),a=.int .i64 p/\i=.int .i64 j/\j<=k/\p<=s.size/\OwnV Value.string 9 wr w.heap.size ws ls/\ls.length=j/\dws s (k-j) (p:Nat) ls=(l,q,c)/\Below w.heap.size w wr) (fun _ _ i _=>k-(intOf i).toNat)
 case atStart=>exact⟨p,0,[],rfl,rfl,Nat.zero_le _,hp,OwnV.made0 _ _ _ _ _ _ (Q1 _) (by unfold maxLen;omega),rfl,HD.out,(Q2 _ _).alloc (Q1 _) _⟩
 case round=>
  clear hp HD
  obtain⟨p,j,ls,rfl,rfl,hj,hp,Aa,Ad,hd,Ab⟩:=hrel
  have HL:=Hd Ad
  have Ap:ls.length<=4096:=by omega
  clear Ad
  obtain⟨A,cc,_,rfl,rfl,As,Ar⟩:=Aa.read.bds
  have Ae:=Aa.read
  have Ag:=Ab.size
  by_cases hlt:j<k
  ·rw[show k-j=(k-(j+1))+1 from by omega] at hd
   obtain⟨x,q1,c1,hg⟩:∃x q c,Bu5 s (p:Nat)=(x,q,c):=⟨_,_,_,rfl⟩
   by_cases hc0:c1=0
   ·subst hc0
    obtain⟨k1,rfl,h1,h2,_,_⟩:=Cb5 hg
    have HG:Hid (∀w,Calls Tryz.prog 256 #[.string s,.int .i64 (p:Int)] w (Ret (.tuple #[.string x,.int .i64 (k1:Int),.int .i64 0]) w)):=Hd (fun w=>Bj4 s p w hs hg)
    rcases Nat.eq_zero_or_pos ls.length with h0 | h0
    ·rw[Cu5 hg (fun y hy=>by rw[List.eq_nil_of_length_eq_zero h0] at hy;simp at hy)] at hd
     have HD:=Hd hd
     have Ao:ls.length<=0:=by omega
     clear hd hg Ae h0
     go_wp2_with(first
      | (go_at_call 256;(with_reducible refine(HG.out _).mono ?_);rintro e w' ⟨rfl,rfl⟩)
      | (at_builtin;refine Ad0 (f:=Value.string) (fun _=>rfl) (.string ⟨#[]⟩) rfl rfl _ _ 81 rfl w.heap.size 9 16 Tryz.underlying81 Tryz.infStr (.slice A ls.length cc) ls rfl (Aa.alloc _) (wr.heap.size+1) _ [x] rfl (RdV.one _ _ _ _ _ (by decide) (by decide)) (by unfold maxLen;simp;omega) (by simp;omega) (by simp;omega) ?_;intro v' w' Ac Ah _))
     go_roundw
     case rel=>exact⟨k1,j+1,_,rfl,by go_num,hlt,h2,Ac,by rw[Q5,HL.out];rfl,HD.out,(Ab.alloc Ag _).trans Ah⟩
     case measure=>simp[intOf]<;>omega
    ·obtain⟨y,hy⟩:∃y,ls[ls.length-1]?=some y:=⟨_,Q7 (by omega)⟩
     obtain⟨ad,rfl,_,Ak⟩:=Ae.at hy
     rw[←List.getLast?_eq_getElem?] at hy
     clear Ae
     obtain⟨r,hr⟩:∃r:Nat,(ls.length:Int)-1=r:=⟨ls.length-1,by omega⟩
     have Ai:ls.length-1=r:=by omega
     rw[Ai] at Ak
     have An:r<ls.length:=by omega
     clear Ai
     cases hyx:lts y x with
     | true=>
       rw[Cu5 hg (fun z hz=>by rw[hy] at hz;cases hz;exact hyx)] at hd
       have HD:=Hd hd
       have Aj:=Ei7 hyx
       have Af:=Hd Aa
       clear hd hg hy hyx
       go_wp2_with(first
        | (go_at_call 256;(with_reducible refine(HG.out _).mono ?_);rintro e w' ⟨rfl,rfl⟩)
        | (at_builtin;refine Ad0 (f:=Value.string) (fun _=>rfl) (.string ⟨#[]⟩) rfl rfl _ _ 81 rfl w.heap.size 9 16 Tryz.underlying81 Tryz.infStr (.slice (some ad) ls.length cc) ls rfl (Aa.alloc _) (wr.heap.size+1) _ [x] rfl (RdV.one _ _ _ _ _ (by decide) (by decide)) (by unfold maxLen;simp;omega) (by simp;omega) (by simp;omega) ?_;intro v' w' Ac Ah _))
       go_roundw
       case rel=>exact⟨k1,j+1,_,rfl,by go_num,hlt,h2,Ac,by rw[Q5,HL.out];rfl,HD.out,(Ab.alloc Ag _).trans Ah⟩
       case measure=>simp[intOf]<;>omega
     | false=>
       rw[dws_f hg hy hyx] at hd
       have HD:=Hd hd
       have Aj:=Fb7 hyx
       clear hd hg hy hyx
       go_wp2_with(go_at_call 256;(with_reducible refine(HG.out _).mono ?_);rintro e w' ⟨rfl,rfl⟩)
       go_ret3
       have h:=HD.out
       cases h
       exact RetV3.mk rfl (OwnV.nil _ _ _ _) Ab
   ·rw[dws_e hg hc0] at hd
    have HG:Hid (∀w,Calls Tryz.prog 256 #[.string s,.int .i64 (p:Int)] w (Ret (.tuple #[.string x,.int .i64 q1,.int .i64 (c1:Int)]) w)):=Hd (fun w=>Bj4 s p w hs hg)
    have HD:=Hd hd
    have Aq:((c1:Int)!=0)=true:=by simp;omega
    clear hd hg Ae hc0
    go_wp2_with(go_at_call 256;(with_reducible refine(HG.out _).mono ?_);rintro e w' ⟨rfl,rfl⟩)
    go_ret3
    have h:=HD.out
    cases h
    exact RetV3.mk rfl (OwnV.nil _ _ _ _) Ab
  ·rw[show k-j=0 from by omega,El8] at hd
   have HD:=Hd hd
   have Af:=Hd Aa
   clear hd Ae Aa
   go_wp2
   go_ret3
   have h:=HD.out
   cases h
   exact RetV3.mk rfl Af.out Ab
end Go.P
namespace Go.P
open RowKit VB VarM BP RL DI
theorem Bo5(v1 v2:Value)(ws:List ByteArray)(u:List Nat)(w:World)(Bb:RdV Value.string w w.heap.size v1 ws)(Bi:RdN .u64 w w.heap.size v2 u)(Cc:ws.length<=4096)(hu:u.length<=4096)(As:∀x∈u,x<2 ^ 64){l:List ByteArray}{c:Nat}(hd:lkR ws u=(l,c)):
   Calls Tryz.prog 243 #[v1,v2] w (RetVE Value.string 9 l c w):=by
 have Bc:=RdN.toU Bi
 clear Bi
 obtain⟨A1,c1,_,rfl,rfl,Ci,Bg⟩:=Bb.bds
 obtain⟨A2,c2,_,rfl,rfl,Ce,Ca⟩:=Bc.bds
 have Aq:=Am9 (P:=Tryz.prog) (t:=81) (z:=.string ⟨#[]⟩) rfl Tryz.underlying81 Tryz.infStr u.length (by omega) (by unfold maxLen;omega) w
 have Aa:=RowV.made Value.string ⟨#[]⟩ 9 w w.heap.size u.length (Q1 _) (by unfold maxLen;omega)
 have Ax:=(Q2 w.heap.size w).alloc (Q1 _) (.cells (madeCells #[.string ⟨#[]⟩] u.length) 9)
 have Ap:w.heap.size<(w.alloc (.cells (madeCells #[.string ⟨#[]⟩] u.length) 9)).heap.size:=by simp
 generalize w.alloc (.cells (madeCells #[.string ⟨#[]⟩] u.length) 9)=w1 at Aq Aa Ax Ap
 have An:=Am9 (P:=Tryz.prog) (t:=159) (z:=.bool false) rfl Tryz.underlying159 Tryz.infBl ws.length (by omega) (by unfold maxLen;omega) w1
 have Ab:=RowV.made Value.bool false 4 w1 w.heap.size ws.length (by omega) (by unfold maxLen;omega)
 have Ad:=Aa.alloc (.cells (madeCells #[.bool false] ws.length) 4)
 have Au:=Ax.alloc (by omega) (.cells (madeCells #[.bool false] ws.length) 4)
 generalize Bw:w1.heap.size=g2 at An Ab Ap
 have Bn:w.heap.size≠g2:=by omega
 generalize w1.alloc (.cells (madeCells #[.bool false] ws.length) 4)=w2 at An Ab Ad Au
 clear Bw Aa Ax
 have Bv:=Hd Bb;have HRU:=Hd Bc;have HU:=Hd As;have HD:=Hd hd
 clear Bb Bc As hd
 go_enter Tryz.func243,Tryz.ntmps243
 go_wp2_with fail
 clear Aq An
 go_loopw[8,21] (fun n i wr=>∃(j m:Nat)(L:List ByteArray)(U:List Bool),n=.int .i64 m/\i=.int .i64 j/\j<=u.length/\RowV Value.string 9 wr w.heap.size w.heap.size u.length L/\RowV Value.bool 4 wr w.heap.size g2 ws.length U/\L=(u.map fun i=>ws.getD i ⟨#[]⟩).take j++List.replicate (u.length-j) ⟨#[]⟩/\UOk ws.length u j U/\m=U.count false/\(∀i∈u.take j,i<ws.length)/\Below w.heap.size w wr) (fun _ i _=>u.length-(intOf i).toNat)
 case atStart=>exact⟨0,ws.length,_,_,rfl,rfl,Nat.zero_le _,Ad,Ab,Bp3 _ u.length _,UOk.start _ _,by rw[List.count_replicate_self],by simp,Au⟩
 case round=>
  clear Ad Ab Au
  obtain⟨j,m,L,U,rfl,rfl,hj,Aa,Ab,hL,hU,hm,Bh,Af⟩:=hrel
  have HL:=Hd hL;have HM:=Hd hm;have HLT:=Hd Bh;have HUO:=Hd hU
  have Ch:m<=ws.length:=by rw[hm,←hU.1];exact List.count_le_length
  clear hL hm Bh hU
  by_cases hjl:j<u.length
  ·have hx:u[j]?=some u[j]:=Q7 hjl
   obtain⟨ad,rfl,_,Ah⟩:=(HRU.out.below Af).at hx
   have Ay:=HU.out _ (List.mem_of_getElem? hx)
   have Bl:=List.mem_of_getElem? hx
   have HX:=Hd hx;have HXM:=Hd Bl
   clear hx Bl
   generalize u[j]=x at Ah Ay HX HXM
   have Cb:wr.cell? (ad.add j)=some (.int .u64 (x:Int)):=Ah
   clear Ah
   by_cases hxl:x<ws.length
   ·have hy:ws[x]?=some ws[x]:=Q7 hxl
    obtain⟨bd,rfl,_,Bx⟩:=(Bv.out.below Af).at hy
    have Bf:=Ct7 (l:=u.map fun i=>ws.getD i ⟨#[]⟩) (n:=u.length) (j:=j) (x:=ws[x]) (z:=⟨#[]⟩) (List.length_map _) hjl (by rw[List.getElem?_map,HX.out,Option.map_some,List.getD_eq_getElem?_getD,hy];rfl)
    have Az:=Hd Bf
    clear hy Bf
    generalize ws[x]=y at Bx Az
    have Bt:L.length=u.length:=by rw[HL.out];exact Ct8 (List.length_map _) hj
    have Bm:L[j]?=some (L[j]'(by omega)):=Q7 _
    have Bs:=Aa.cell j _ Bm
    have Bz:=Aa.frozen j
    generalize L[j]'_=Cd at Bs
    have Ag:=Aa.store j y
    have Ac:=Ab.other Aa (fun e=>Bn e.symm) j y
    have Ae:=Af.setCell (p:=⟨w.heap.size,j,none⟩) (Q1 _) (.string y)
    have Ak:U[x]?=some (U[x]'(by rw[HUO.out.1];exact hxl)):=Q7 _
    have Bg:(wr.setCell ⟨w.heap.size,j,none⟩ (.string y)).cell? ⟨g2,x,none⟩=_:=Ac.cell x _ Ak
    have Cg:(wr.setCell ⟨w.heap.size,j,none⟩ (.string y)).frozen? ⟨g2,x,none⟩=false:=Ac.frozen x
    have Bd:=Ab.cell x _ Ak
    have Bq:=Ab.frozen x
    have Ar:∀i∈u.take (j+1),i<ws.length:=by
     intro i hi
     rw[Go.DI.take_snoc HX.out] at hi
     rcases List.mem_append.1 hi with hi | hi
     ·exact HLT.out i hi
     ·rw[List.mem_singleton.1 hi];exact hxl
    have Ao:=Hd Ar
    clear Bm Bt Ar
    generalize Bu:U[x]'_=ux at Bg Ak Bd
    clear Bu
    cases ux with
    | true=>
      have Aw:=Hd (HUO.out.same HX.out hxl Ak)
      have Ai:=Hd Ag;have HST2:=Hd Ac;have HB:=Hd Ae
      clear Ak Ag Ac Ae
      go_wp2_with fail
      go_roundw
      case rel=>exact⟨j+1,m,_,U,rfl,by go_num,hjl,Ai.out,HST2.out,by rw[HL.out];exact Az.out,Aw.out,HM.out,Ao.out,HB.out⟩
      case measure=>simp[intOf]<;>omega
    | false=>
      have Aw:=Hd (HUO.out.step HX.out hxl)
      have Be:=Dy5 Ak
      have Ba:1<=m:=by rw[HM.out];omega
      have Bp:=Hd Be
      have Ai:=Hd (Ag.other Ac Bn x true);have HST2:=Hd (Ac.store x true);have HB:=Hd (Ae.setCell (p:=⟨g2,x,none⟩) (by simp only;omega) (.bool true))
      clear Ak Ag Ac Ae Be
      go_wp2_with fail
      go_roundw
      case rel=>exact⟨j+1,m-1,_,_,Bg1 (by omega),by go_num,hjl,Ai.out,HST2.out,by rw[HL.out];exact Az.out,Aw.out,by have:=Bp.out;have:=HM.out;omega,Ao.out,HB.out⟩
      case measure=>simp[intOf]<;>omega
   ·have h:=HD.out
    rw[Fb4 HXM.out hxl] at h
    cases h
    have By:(ws.length:Int)<=(x:Int):=by omega
    go_wp2_with fail
    go_ret2
    exact RetVE.mk rfl (OwnV.nil _ _ _ _) Af
  ·have Aj:∀i∈u,i<ws.length:=by
     have:=HLT.out
     rwa [List.take_of_length_le (by omega)] at this
   rcases Nat.eq_zero_or_pos m with h0 | h0
   ·have hn:=HUO.out.none (by omega) (by rw[←HM.out];exact h0)
    have h:=HD.out
    rw[Et4 Aj hn] at h
    have Bo:j=u.length:=by omega
    have Al:L=u.map fun i=>ws.getD i ⟨#[]⟩:=by rw[HL.out,Bo];exact Ct9 (List.length_map _)
    have HF:=Hd Al
    have Cf:m<=0:=by omega
    have HH:=Hd h
    have Bj:L.length=u.length:=by rw[Al,List.length_map]
    have Br:=Hd Bj
    clear Aj hn h Bo Al h0 Bj
    go_wp2_with fail
    go_ret2
    have h:=HH.out
    cases h
    exact RetVE.mk rfl (Aa.own_at Br.out HF.out) Af
   ·obtain⟨mm,Ba,Bk⟩:=HUO.out.some (by omega) (by rw[←HM.out];exact h0)
    have h:=HD.out
    rw[lkR_un Ba Bk] at h
    cases h
    clear Aj Ba Bk
    go_wp2_with fail
    go_ret2
    exact RetVE.mk rfl (OwnV.nil _ _ _ _) Af
section
variable (s:ByteArray) (hs:s.size<=140737488351232)
include hs
theorem Cc4(n a b:Nat)(w:World)(hn:n<=4096)(hg:Aa2 s 0=(a,(b:Int),0))(Ao:b<=s.size)(hk:a<=n/\(a=0->n=0))(b0:Bool)(Ba:((a:Int)==0)=b0)(Ap:b0=true->n<=0):
   Calls Tryz.prog 222 #[.string s,.int .i64 (n:Int)] w (RetVE Value.string 9 (decD s (n:Nat)).1 (decD s (n:Nat)).2 w):=by
 have HG:=fun w=>Hd (Ae7 s 0 w (by unfold maxLen;omega) hg)
 have Az:=hk.1
 cases b0 with
 | true=>
   have Ay:=Ap rfl
   clear Ap
   obtain⟨ws,q,c2,hw⟩:∃ws q c,dws s a (b:Nat) []=(ws,q,c):=⟨_,_,_,rfl⟩
   have Ag:=fun w=>Hd (Bc2 s a b w hs (by omega) Ao hw)
   by_cases hc2:c2=0
   ·subst hc2
    obtain⟨Ax,m,f1,f2,f3,f4,f5,f6,f7,f8⟩:=Bv3 s a b [] ws q Ao hw Asc.nil
    rw[List.nil_append] at f1
    subst f1
    subst f3
    obtain⟨u,c3,hu⟩:∃u c,Ad2 (s.extract m s.size) n (wdt a:Nat)=(u,c):=⟨_,_,rfl⟩
    have Al:=fun w=>Hd (At2 (s.extract m s.size) n (wdt a:Nat) w hu)
    have An:=fun w=>Hd (show Calls Tryz.prog 242 #[.int .i64 (ws.length:Int)] w (Ret (.int .i64 (wdt a:Nat)) w) by
     have hi:=Bo8 ws.length w (by omega)
     rwa [show wdt ws.length=wdt a by rw[f2]] at hi)
    have Ai:=wdt_le (k:=a) (by omega)
    by_cases hc3:c3=0
    ·subst hc3
     obtain⟨u1,u2,_⟩:=Au1 hn (show wdt a<=64 by omega) hu
     have Aj:u.length<=4096:=by omega
     have Ad:∀x∈u,x<2 ^ 64:=fun x hx=>Nat.lt_of_lt_of_le (u2 x hx) (Nat.pow_le_pow_right (by decide) (by omega))
     have Ar:=fun v1 v2 w h1 h2=>Hd (Bo5 v1 v2 ws u w h1 h2 (by omega) Aj Ad (l:=(lkR ws u).1) (c:=(lkR ws u).2) rfl)
     rw[Cv2 hn hg hk hw hu]
     clear f2 f4 f6 f7 f8 hw hu hg u1 u2 Aj Ad Ai
     generalize lkR ws u=R at *
     generalize wdt a=d at *
     go_enter Tryz.func222,Tryz.ntmps222
     go_wp2_with(first
      | (go_at_call 180;(with_reducible refine(HG _).out.mono ?_);rintro e w' ⟨rfl,rfl⟩)
      | (go_at_call 240;(with_reducible refine(Ag _).out.mono ?_);rintro e w4 ⟨v4,rfl,Aa,Ac⟩;obtain⟨A4,k4,_,rfl,rfl,hk4,hk5⟩:=Aa.read.bds))
     have Ah:RdV Value.string w4.drew w4.drew.heap.size (.slice A4 ws.length k4) ws:=Aa.read
     clear Aa
     go_region_with(first
      | (go_at_call 242;(with_reducible refine(An _).out.mono ?_);rintro e w' ⟨rfl,rfl⟩)
      | (go_at_call 241;(with_reducible refine(Al _).out.mono ?_);rintro e w5 ⟨v5,rfl,Ab,Af⟩))
     all_goals have Au:=Ah.step Af
     all_goals have Aw:=Ab.read
     all_goals clear Ah Ab
     all_goals go_wp2_with(go_at_call 243;(with_reducible refine(Ar _ _ _ Au Aw).out.mono ?_);rintro e w6 ⟨v6,rfl,Ae,Aq⟩)
     all_goals go_ret2
     all_goals have Ak:=Aa0 Ac.drew Af
     all_goals exact RetVE.mk rfl (Ae.lower Ak.size) (Aa0 Ak Aq)
    ·rw[Dy1 hn hg hk hw hu hc3]
     have As:((c3:Int)!=0)=true:=by simp;omega
     clear f2 f4 f6 f7 f8 hw hu hg Ai hc3
     generalize wdt a=d at *
     go_enter Tryz.func222,Tryz.ntmps222
     go_wp2_with(first
      | (go_at_call 180;(with_reducible refine(HG _).out.mono ?_);rintro e w' ⟨rfl,rfl⟩)
      | (go_at_call 240;(with_reducible refine(Ag _).out.mono ?_);rintro e w4 ⟨v4,rfl,Aa,Ac⟩;obtain⟨A4,k4,_,rfl,rfl,hk4,hk5⟩:=Aa.read.bds))
     go_region_with(first
      | (go_at_call 242;(with_reducible refine(An _).out.mono ?_);rintro e w' ⟨rfl,rfl⟩)
      | (go_at_call 241;(with_reducible refine(Al _).out.mono ?_);rintro e w5 ⟨v5,rfl,Ab,Af⟩))
     all_goals go_wp2_with fail
     all_goals go_ret2
     all_goals exact RetVE.mk rfl (OwnV.nil _ _ _ _) (Aa0 Ac.drew Af)
   ·rw[Dy0 hn hg hk hw hc2]
    have As:((c2:Int)!=0)=true:=by simp;omega
    clear hw hg hc2
    go_enter Tryz.func222,Tryz.ntmps222
    go_wp2_with(first
     | (go_at_call 180;(with_reducible refine(HG _).out.mono ?_);rintro e w' ⟨rfl,rfl⟩)
     | (go_at_call 240;(with_reducible refine(Ag _).out.mono ?_);rintro e w4 ⟨v4,rfl,Aa,Ac⟩))
    go_ret2
    exact RetVE.mk rfl (OwnV.nil _ _ _ _) Ac
 | false=>
   clear Ap
   obtain⟨ws,q,c2,hw⟩:∃ws q c,dws s a (b:Nat) []=(ws,q,c):=⟨_,_,_,rfl⟩
   have Ag:=fun w=>Hd (Bc2 s a b w hs (by omega) Ao hw)
   by_cases hc2:c2=0
   ·subst hc2
    obtain⟨Ax,m,f1,f2,f3,f4,f5,f6,f7,f8⟩:=Bv3 s a b [] ws q Ao hw Asc.nil
    rw[List.nil_append] at f1
    subst f1
    subst f3
    obtain⟨u,c3,hu⟩:∃u c,Ad2 (s.extract m s.size) n (wdt a:Nat)=(u,c):=⟨_,_,rfl⟩
    have Al:=fun w=>Hd (At2 (s.extract m s.size) n (wdt a:Nat) w hu)
    have An:=fun w=>Hd (show Calls Tryz.prog 242 #[.int .i64 (ws.length:Int)] w (Ret (.int .i64 (wdt a:Nat)) w) by
     have hi:=Bo8 ws.length w (by omega)
     rwa [show wdt ws.length=wdt a by rw[f2]] at hi)
    have Ai:=wdt_le (k:=a) (by omega)
    by_cases hc3:c3=0
    ·subst hc3
     obtain⟨u1,u2,_⟩:=Au1 hn (show wdt a<=64 by omega) hu
     have Aj:u.length<=4096:=by omega
     have Ad:∀x∈u,x<2 ^ 64:=fun x hx=>Nat.lt_of_lt_of_le (u2 x hx) (Nat.pow_le_pow_right (by decide) (by omega))
     have Ar:=fun v1 v2 w h1 h2=>Hd (Bo5 v1 v2 ws u w h1 h2 (by omega) Aj Ad (l:=(lkR ws u).1) (c:=(lkR ws u).2) rfl)
     rw[Cv2 hn hg hk hw hu]
     clear f2 f4 f6 f7 f8 hw hu hg u1 u2 Aj Ad Ai
     generalize lkR ws u=R at *
     generalize wdt a=d at *
     go_enter Tryz.func222,Tryz.ntmps222
     go_wp2_with(first
      | (go_at_call 180;(with_reducible refine(HG _).out.mono ?_);rintro e w' ⟨rfl,rfl⟩)
      | (go_at_call 240;(with_reducible refine(Ag _).out.mono ?_);rintro e w4 ⟨v4,rfl,Aa,Ac⟩;obtain⟨A4,k4,_,rfl,rfl,hk4,hk5⟩:=Aa.read.bds))
     have Ah:RdV Value.string w4.drew w4.drew.heap.size (.slice A4 ws.length k4) ws:=Aa.read
     clear Aa
     go_region_with(first
      | (go_at_call 242;(with_reducible refine(An _).out.mono ?_);rintro e w' ⟨rfl,rfl⟩)
      | (go_at_call 241;(with_reducible refine(Al _).out.mono ?_);rintro e w5 ⟨v5,rfl,Ab,Af⟩))
     all_goals have Au:=Ah.step Af
     all_goals have Aw:=Ab.read
     all_goals clear Ah Ab
     all_goals go_wp2_with(go_at_call 243;(with_reducible refine(Ar _ _ _ Au Aw).out.mono ?_);rintro e w6 ⟨v6,rfl,Ae,Aq⟩)
     all_goals go_ret2
     all_goals have Ak:=Aa0 Ac.drew Af
     all_goals exact RetVE.mk rfl (Ae.lower Ak.size) (Aa0 Ak Aq)
    ·rw[Dy1 hn hg hk hw hu hc3]
     have As:((c3:Int)!=0)=true:=by simp;omega
     clear f2 f4 f6 f7 f8 hw hu hg Ai hc3
     generalize wdt a=d at *
     go_enter Tryz.func222,Tryz.ntmps222
     go_wp2_with(first
      | (go_at_call 180;(with_reducible refine(HG _).out.mono ?_);rintro e w' ⟨rfl,rfl⟩)
      | (go_at_call 240;(with_reducible refine(Ag _).out.mono ?_);rintro e w4 ⟨v4,rfl,Aa,Ac⟩;obtain⟨A4,k4,_,rfl,rfl,hk4,hk5⟩:=Aa.read.bds))
     go_region_with(first
      | (go_at_call 242;(with_reducible refine(An _).out.mono ?_);rintro e w' ⟨rfl,rfl⟩)
      | (go_at_call 241;(with_reducible refine(Al _).out.mono ?_);rintro e w5 ⟨v5,rfl,Ab,Af⟩))
     all_goals go_wp2_with fail
     all_goals go_ret2
     all_goals exact RetVE.mk rfl (OwnV.nil _ _ _ _) (Aa0 Ac.drew Af)
   ·rw[Dy0 hn hg hk hw hc2]
    have As:((c2:Int)!=0)=true:=by simp;omega
    clear hw hg hc2
    go_enter Tryz.func222,Tryz.ntmps222
    go_wp2_with(first
     | (go_at_call 180;(with_reducible refine(HG _).out.mono ?_);rintro e w' ⟨rfl,rfl⟩)
     | (go_at_call 240;(with_reducible refine(Ag _).out.mono ?_);rintro e w4 ⟨v4,rfl,Aa,Ac⟩))
    go_ret2
    exact RetVE.mk rfl (OwnV.nil _ _ _ _) Ac
theorem Cj7(n:Int)(w:World):
   Calls Tryz.prog 222 #[.string s,.int .i64 n] w (RetVE Value.string 9 (decD s n).1 (decD s n).2 w):=by
 by_cases h0:n<0
 ·rw[Cv1 (by omega)]
  have Aa:decide (n<0)=true:=Q4 h0
  go_enter Tryz.func222,Tryz.ntmps222
  go_wp2
  go_ret2
  exact RetVE.mk rfl (OwnV.nil _ _ _ _) (Q2 _ _)
 by_cases h1:4096<n
 ·rw[Cv1 (by omega)]
  have Aa:decide (n<0)=false:=Q3 h0
  have Ad:decide (4096<n)=true:=Q4 h1
  go_enter Tryz.func222,Tryz.ntmps222
  go_wp2
  go_ret2
  exact RetVE.mk rfl (OwnV.nil _ _ _ _) (Q2 _ _)
 obtain⟨n,rfl⟩:=Int.eq_ofNat_of_zero_le (show 0<=n by omega)
 have hn:n<=4096:=by omega
 clear h0 h1
 obtain⟨a,b,c,hg⟩:∃a b c,Aa2 s 0=(a,b,c):=⟨_,_,_,rfl⟩
 by_cases hc:c=0
 ·subst hc
  obtain⟨k,m,e1,e2,e3,e4,e5,e6⟩:=getR_zero hg
  obtain⟨b,rfl⟩:∃b':Nat,b=b':=⟨k+m,by omega⟩
  by_cases hk:a<=n/\(a=0->n=0)
  ·rcases Nat.eq_zero_or_pos a with h0 | h0
   ·exact Cc4 s hs n a b w hn hg (by omega) hk true (by simp;omega) (fun _=>by have:=hk.2 h0;omega)
   ·exact Cc4 s hs n a b w hn hg (by omega) hk false (by simp;omega) (fun h=>by cases h)
  ·clear e1 e2 e3 e4 e5 e6
   rw[Eu7 hn hg (by omega)]
   have HG:=fun w=>Hd (Ae7 s 0 w (by unfold maxLen;omega) hg)
   by_cases hna:n<a
   ·have Ab:(n:Int)<(a:Int):=by omega
    clear hg hk
    go_enter Tryz.func222,Tryz.ntmps222
    go_wp2_with(go_at_call 180;(with_reducible refine(HG _).out.mono ?_);rintro e w' ⟨rfl,rfl⟩)
    go_ret2
    exact RetVE.mk rfl (OwnV.nil _ _ _ _) (Q2 _ _)
   ·have Ac:a=0:=by omega
    have Ae:0<n:=by omega
    subst Ac
    clear hg hk hna
    go_enter Tryz.func222,Tryz.ntmps222
    go_wp2_with(go_at_call 180;(with_reducible refine(HG _).out.mono ?_);rintro e w' ⟨rfl,rfl⟩)
    go_ret2
    exact RetVE.mk rfl (OwnV.nil _ _ _ _) (Q2 _ _)
 ·rw[Eu8 hn hg hc]
  have HG:=fun w=>Hd (Al0 s 0 w (by unfold maxLen;omega) hg)
  have Af:((c:Int)!=0)=true:=by simp;omega
  clear hg hc
  go_enter Tryz.func222,Tryz.ntmps222
  go_wp2_with(go_at_call 180;(with_reducible refine(HG _).out.mono ?_);rintro e w' ⟨rfl,rfl⟩)
  go_ret2
  exact RetVE.mk rfl (OwnV.nil _ _ _ _) (Q2 _ _)
end
end Go.P
namespace Go.VB
open RowKit
theorem RdV.cutA{α:Type}{f:α->Value}{w:World}{B c n:Nat}{ad:Addr}{l:List α}(h:RdV f w B (.slice (some ad) n c) l){i:Nat}(hc:c=i):RdV f w B (.slice (some ad) (n-i) 0) (l.drop i):=by
 obtain⟨A',c',hv,h1,h2,_⟩:=id h
 cases hv
 have:l.drop i=[]:=List.drop_eq_nil_of_le (by omega)
 rw[this]
 exact⟨_,_,by rw[show l.length-i=0 from by omega];rfl,by simp,by omega,fun _ _ hi=>by simp at hi⟩
theorem RdV.cutB{α:Type}{f:α->Value}{w:World}{B c n:Nat}{ad:Addr}{l:List α}(h:RdV f w B (.slice (some ad) n c) l){i:Nat}(hi:i<=l.length):RdV f w B (.slice (some (ad.add i)) (n-i) (c-i)) (l.drop i):=by
 obtain⟨A',c',hv,h1,h2,_⟩:=id h
 cases hv
 exact h.tail i hi
theorem RdV.cast{α:Type}{f:α->Value}{w:World}{B:Nat}{v:Value}{l m:List α}(h:RdV f w B v l)(he:l=m):RdV f w B v m:=by subst he;exact h
theorem RdV.cutC{α:Type}{f:α->Value}{w:World}{B c n:Nat}{ad:Addr}{l:List α}(h:RdV f w B (.slice (some ad) n c) l){i:Nat}(hi:i<=l.length):RdV f w B (.slice (if c=i then some ad else some (ad.add i)) (n-i) (c-i)) (l.drop i):=by
 by_cases hc:c=i
 ·rw[if_pos hc,show c-i=0 by omega];exact h.cutA hc
 ·rw[if_neg hc];exact h.cutB hi
end Go.VB
namespace Go.P
open RowKit VB VarM BP RL DI
theorem Bz7(v:Value)(l:List ByteArray)(s:ByteArray)(B:Nat)(w:World)(hr:RdV Value.string w B v l):
   Calls Tryz.prog 233 #[v,.string s] w (Ret (.int .i64 (plc s l:Nat)) w):=by
 obtain⟨A,c,_,rfl,rfl,Ae,Ad⟩:=hr.bds
 have Ab:=Bz5 s l
 have Aa:=Hd (fun i x=>Eg5 (s:=s) (l:=l) (i:=i) (x:=x));have HSP:=Hd (fun i x=>Eg4 (s:=s) (l:=l) (i:=i) (x:=x));have HE:=Hd (fun i=>Ez2 (s:=s) (l:=l) (i:=i))
 generalize plc s l=P at *
 have HR:=Hd hr;clear hr
 go_enter Tryz.func233,Tryz.ntmps233
 go_wp2
 go_loopw[5] (fun i wr=>∃j:Nat,i=.int .i64 j/\j<=P/\wr=w) (fun i _=>P-(intOf i).toNat)
 case atStart=>exact⟨0,rfl,Nat.zero_le _,rfl⟩
 case round=>
  obtain⟨j,rfl,hj,rfl⟩:=hrel
  by_cases hlt:j<l.length
  ·have hx:l[j]?=some l[j]:=Q7 hlt
   obtain⟨ad,rfl,_,Ac⟩:=HR.out.at hx
   have H1:=Hd (Aa.out j l[j] hj hx);have H2:=Hd (HSP.out j l[j] hj hx)
   clear hx
   generalize l[j]=x at *
   cases hxs:lts x s with
   | true=>
     have hd:=Bt9 hxs
     have hP:=H1.out hxs
     have HP:=Hd hP
     clear hxs hP
     go_wp2_with fail
     go_roundw
     case rel=>exact⟨j+1,by go_num,HP.out,trivial⟩
     case measure=>have:=HP.out;simp[intOf]<;>omega
   | false=>
     have hd:=Bt9 hxs
     have hP:=H2.out hxs
     have HP:=Hd hP
     clear hxs hP
     go_wp2_with fail
     go_ret
     exact Ret.mk (by rw[HP.out];rfl)
  ·have hP:=Hd (HE.out j hj (by omega))
   go_wp2_with fail
   go_ret
   exact Ret.mk (by rw[hP.out];rfl)
theorem Da2(v:Value)(l:List ByteArray)(B:Nat)(w:World)(hr:RdV Value.string w B v l)(hB:B<=w.heap.size)(hl:l.length<=8796093022208):
   Calls Tryz.prog 204 #[v] w (Ret2 Value.string nI (srt l) (idx l) w):=by
 obtain⟨A,c,_,rfl,rfl,Cl,Bg⟩:=hr.bds
 have HR:=Hd hr;clear hr
 go_enter Tryz.func204,Tryz.ntmps204
 go_wp2
 go_loopw[4,14] (fun v i wr=>∃(j:Nat)(ws:List ByteArray),i=.int .i64 j/\j<=l.length/\OwnV Value.string 9 wr w.heap.size v ws/\ws=srt (l.take j)/\(ws=[]->v=.slice none 0 0)/\Below w.heap.size w wr) (fun _ i _=>l.length-(intOf i).toNat)
 case atStart=>exact⟨0,[],rfl,Nat.zero_le _,OwnV.nil _ _ _ _,rfl,fun _=>rfl,Q2 _ _⟩
 case round=>
  obtain⟨j,ws,rfl,hj,Ab,Ap,Ah,Ae⟩:=hrel
  have Cg:ws.length<=j:=by rw[Ap];exact(Ax0 l j).2.2
  have Af:=Ae.size
  by_cases hlt:j<l.length
  ·have hx:l[j]?=some l[j]:=Q7 hlt
   obtain⟨ad,rfl,_,Bj⟩:=(HR.out.below (Ae.mono hB)).at hx
   have Ak:=Co0 hx
   rw[←Ap] at Ak
   clear hx
   generalize l[j]=s at Bj Ak
   have Aq:=Hd (fun v h=>Bz7 v ws s wr.heap.size wr h)
   have Bi:=Bz5 s ws
   have Bc:=fun h=>Fc1 (s:=s) (l:=ws) h
   have Be:=fun h=>Fc0 (s:=s) (l:=ws) h
   have Bv:ins s ws≠[]:=fun e=>by have:s∈ins s ws:=mem_ins.2 (.inl rfl);rw[e] at this;simp at this
   have Cj:=Hd Bv
   clear Bv
   rcases Nat.eq_zero_or_pos ws.length with h0 | h0
   ·have Bs:ws=[]:=List.eq_nil_of_length_eq_zero h0
    obtain rfl:=Ah Bs
    subst Bs
    clear Ah h0 Bi Cg Be
    have e1:ins s []=[]++[s]++[]:=by unfold ins;simp[plc]
    have Ax:=Hd (Ak.trans e1)
    have Ba:=Hd (show Calls Tryz.prog 233 #[.slice none 0 0,.string s] wr (Ret (.int .i64 0) wr) from Aq.out _ Ab.read)
    clear Ak e1 Bc Aq Ap
    have Cc:=RdV.nil Value.string wr wr.heap.size
    have Bx:([]:List ByteArray).length+1+([]:List ByteArray).length<=8796093022208:=by decide
    go_wp2_with(first
     | (go_at_call 233;(with_reducible refine Ba.out.mono ?_);rintro e w' ⟨rfl,rfl⟩)
     | (at_builtin;refine Ad0 (f:=Value.string) (fun _=>rfl) (.string ⟨#[]⟩) rfl rfl _ _ 81 rfl wr.heap.size 9 16 Tryz.underlying81 Tryz.infStr (.slice none 0 0) ([]) rfl (OwnV.nil _ _ _ _) wr.heap.size (.slice none 0 0) (([]:List ByteArray)) rfl (Cc) (by unfold maxLen;simp only[Q8];omega) (by simp only[Q8];omega) (Q1 _) ?_;intro v1 w1 Aa Al _;have hz1:=Al.size;rw[List.nil_append] at Aa)
     | (at_builtin;refine Ad0 (f:=Value.string) (fun _=>rfl) (.string ⟨#[]⟩) rfl rfl _ _ 81 rfl wr.heap.size 9 16 Tryz.underlying81 Tryz.infStr v1 (([]:List ByteArray)) rfl (Aa.alloc _) (w1.heap.size+1) _ ([s]) rfl (RdV.one _ _ _ _ _ (by decide) (by decide)) (by unfold maxLen;simp only[Q6,Q8];omega) (by simp only[Q6,Q8];omega) (by simp;omega) ?_;intro v2 w2 Ac Aj _;have hz2:=Aj.size;have hb12:=(Al.alloc hz1 _).trans Aj;clear Aa)
     | (at_builtin;refine Ad0 (f:=Value.string) (fun _=>rfl) (.string ⟨#[]⟩) rfl rfl _ _ 81 rfl wr.heap.size 9 16 Tryz.underlying81 Tryz.infStr v2 (([]:List ByteArray)++[s]) rfl (Ac) wr.heap.size (.slice none 0 0) (([]:List ByteArray)) rfl (RdV.nil _ _ _) (by unfold maxLen;rw[Q5];simp only[Q6,Q8];omega) (by rw[Q5];simp only[Q6,Q8];omega) (hb12.size) ?_;intro v3 w3 Ag Ao _;have hb13:=hb12.trans Ao;clear Ac hb12 Al Aj Ao))
    all_goals go_roundw
    all_goals first
     | (simp[intOf];omega)
     | exact⟨j+1,_,by go_num,hlt,Ag.lower Af,Ax.out.symm,fun e=>by simp at e,Ae.trans (hb13.mono Af)⟩
   ·obtain⟨A2,cc,_,rfl,rfl,Ca,Cd⟩:=Ab.read.bds
    obtain⟨Bd,rfl,-,-⟩:=Ab.read.at (Q7 h0)
    have Ai:=Ab.read
    have Ba:=Hd (Aq.out _ Ai)
    generalize hp:plc s ws=p at *
    have Ay:(ws.take p).length=p:=by rw[List.length_take];omega
    have Bn:RdV Value.string wr wr.heap.size (.slice (some Bd) p cc) (ws.take p):=by
     have:=Ai.head (m:=ws.take p) (by rw[Ay]) (by omega)
     rwa [Ay] at this
    have As:=fun(h:cc=p)=>Ai.cutA (i:=p) h
    have Aw:=Ai.cutB (i:=p) Bi
    have Bx:(ws.take p).length+1+(ws.drop p).length<=8796093022208:=by rw[Ay,List.length_drop];omega
    have An:(ws.take p)++s::(ws.drop p)=(ws.take p)++[s]++(ws.drop p):=by rw[List.append_assoc];rfl
    by_cases hnew:ws[p]?=some s
    ·have Bf:=Be hnew
     obtain⟨Ar,_⟩:=List.getElem?_eq_some_iff.1 hnew
     obtain⟨bd,Bo,_,Bw⟩:=Ai.at hnew
     cases Bo
     rw[Bf] at Ak
     have Ax:=Hd Ak;have HNIL:=Hd Ah;have HOWN:=Hd Ab
     have hd:((p:Int)==(ws.length:Int))=false:=by simp;omega
     have Bz:=Az8 (s:=s) (t:=s) rfl
     have Ci:=Hd (show ws≠[] from fun e=>by rw[e] at h0;simp at h0)
     clear Ak Bc Be Bf hnew Ah Ap Aq hp Ay Bn As Aw Bx An Ai Ab h0
     go_wp2_with(first
      | (go_at_call 233;(with_reducible refine Ba.out.mono ?_);rintro e w' ⟨rfl,rfl⟩))
     go_roundw
     case rel=>exact⟨j+1,ws,by go_num,hlt,HOWN.out,Ax.out.symm,fun e=>absurd e Ci.out,Ae⟩
     case measure=>simp[intOf]<;>omega
    ·have Au:=Bc hnew
     rw[Au,An] at Ak
     have Ax:=Hd Ak
     rcases Nat.lt_or_ge p ws.length with Ar | Ar
     ·have hy:ws[p]?=some ws[p]:=Q7 Ar
      obtain⟨bd,Bo,_,Bw⟩:=Ai.at hy
      cases Bo
      rw[hy] at hnew
      have hd:((p:Int)==(ws.length:Int))=false:=by simp;omega
      clear hy
      generalize ws[p]=y at Bw hnew
      have Bz:=Au2 (s:=y) (t:=s) (fun e=>hnew (by rw[e]))
      clear Ak Bc Au Be hnew Ah Ap Aq hp Ay An Ai h0
      generalize ws.take p=T at *
      generalize ws.drop p=D at *
      go_wp2_with(first
       | (go_at_call 233;(with_reducible refine Ba.out.mono ?_);rintro e w' ⟨rfl,rfl⟩)
       | (at_builtin;refine Ad0 (f:=Value.string) (fun _=>rfl) (.string ⟨#[]⟩) rfl rfl _ _ 81 rfl wr.heap.size 9 16 Tryz.underlying81 Tryz.infStr (.slice none 0 0) ([]) rfl (OwnV.nil _ _ _ _) wr.heap.size (.slice (some Bd) p cc) (T) rfl (Bn) (by unfold maxLen;simp only[Q8];omega) (by simp only[Q8];omega) (Q1 _) ?_;intro v1 w1 Aa Al _;have hz1:=Al.size;rw[List.nil_append] at Aa)
       | (at_builtin;refine Ad0 (f:=Value.string) (fun _=>rfl) (.string ⟨#[]⟩) rfl rfl _ _ 81 rfl wr.heap.size 9 16 Tryz.underlying81 Tryz.infStr v1 (T) rfl (Aa.alloc _) (w1.heap.size+1) _ ([s]) rfl (RdV.one _ _ _ _ _ (by decide) (by decide)) (by unfold maxLen;simp only[Q6,Q8];omega) (by simp only[Q6,Q8];omega) (by simp;omega) ?_;intro v2 w2 Ac Aj _;have hz2:=Aj.size;have hb12:=(Al.alloc hz1 _).trans Aj;clear Aa)
       | (at_builtin;refine Ad0 (f:=Value.string) (fun _=>rfl) (.string ⟨#[]⟩) rfl rfl _ _ 81 rfl wr.heap.size 9 16 Tryz.underlying81 Tryz.infStr v2 (T++[s]) rfl (Ac) wr.heap.size _ (D) rfl (by first | exact(As (by assumption)).below hb12 | exact Aw.below hb12) (by unfold maxLen;rw[Q5];simp only[Q6,Q8];omega) (by rw[Q5];simp only[Q6,Q8];omega) (hb12.size) ?_;intro v3 w3 Ag Ao _;have hb13:=hb12.trans Ao;clear Ac hb12 Al Aj Ao))
      all_goals go_roundw
      all_goals first
       | (simp[intOf];omega)
       | exact⟨j+1,_,by go_num,hlt,Ag.lower Af,Ax.out.symm,fun e=>by simp at e,Ae.trans (hb13.mono Af)⟩
     ·have hd:((p:Int)==(ws.length:Int))=true:=by simp;omega
      have Bh:RdV Value.string wr wr.heap.size (.slice (if cc=p then some Bd else some (Bd.add p)) 0 (cc-p)) (ws.drop p):=by have:=Ai.cutC Bi;rwa [show ws.length-p=0 by omega] at this
      clear Ak Bc Au Be hnew Ah Ap Aq hp Ay An Ai h0
      generalize ws.take p=T at *
      generalize ws.drop p=D at *
      go_wp2_with(first
       | (go_at_call 233;(with_reducible refine Ba.out.mono ?_);rintro e w' ⟨rfl,rfl⟩)
       | (at_builtin;refine Ad0 (f:=Value.string) (fun _=>rfl) (.string ⟨#[]⟩) rfl rfl _ _ 81 rfl wr.heap.size 9 16 Tryz.underlying81 Tryz.infStr (.slice none 0 0) ([]) rfl (OwnV.nil _ _ _ _) wr.heap.size (.slice (some Bd) p cc) (T) rfl (Bn) (by unfold maxLen;simp only[Q8];omega) (by simp only[Q8];omega) (Q1 _) ?_;intro v1 w1 Aa Al _;have hz1:=Al.size;rw[List.nil_append] at Aa)
       | (at_builtin;refine Ad0 (f:=Value.string) (fun _=>rfl) (.string ⟨#[]⟩) rfl rfl _ _ 81 rfl wr.heap.size 9 16 Tryz.underlying81 Tryz.infStr v1 (T) rfl (Aa.alloc _) (w1.heap.size+1) _ ([s]) rfl (RdV.one _ _ _ _ _ (by decide) (by decide)) (by unfold maxLen;simp only[Q6,Q8];omega) (by simp only[Q6,Q8];omega) (by simp;omega) ?_;intro v2 w2 Ac Aj _;have hz2:=Aj.size;have hb12:=(Al.alloc hz1 _).trans Aj;clear Aa)
       | (at_builtin;refine Ad0 (f:=Value.string) (fun _=>rfl) (.string ⟨#[]⟩) rfl rfl _ _ 81 rfl wr.heap.size 9 16 Tryz.underlying81 Tryz.infStr v2 (T++[s]) rfl (Ac) wr.heap.size _ (D) rfl (by first | exact(As (by assumption)).below hb12 | exact Aw.below hb12 | exact Bh.below hb12) (by unfold maxLen;rw[Q5];simp only[Q6,Q8];omega) (by rw[Q5];simp only[Q6,Q8];omega) (hb12.size) ?_;intro v3 w3 Ag Ao _;have hb13:=hb12.trans Ao;clear Ac hb12 Al Aj Ao))
      all_goals go_roundw
      all_goals first
       | (simp[intOf];omega)
       | exact⟨j+1,_,by go_num,hlt,Ag.lower Af,Ax.out.symm,fun e=>by simp at e,Ae.trans (hb13.mono Af)⟩
  ·have Az:j=l.length:=by omega
   have Bm:ws=srt l:=by rw[Ap,Az,List.take_length]
   have Bk:=fun j s(h:l[j]?=some s)=>Eu0 h
   have Bq:=idx_len l
   obtain⟨A2,cc,_,rfl,rfl,Ca,Cd⟩:=Ab.read.bds
   have Ai:=Ab.read
   rw[←Bm] at Bk
   have Cf:=Hd Bm
   clear Az Ap Ah Ab Bm
   generalize idx l=I at *
   have Br:∀j s,l[j]?=some s->I[j]?=some (plc s ws):=Bk
   have Cb:=Hd Br;have HIL:=Hd Bq;have HRD:=Hd Ai
   clear Bk Br Bq Ai
   go_wp2_with fail
   go_loopw[9,49] (fun v i wk=>∃(j:Nat),i=.int .i64 j/\j<=l.length/\OwnV nI 3 wk wr.heap.size v (I.take j)/\Below wr.heap.size wr wk) (fun _ i _=>l.length-(intOf i).toNat)
   case atStart=>exact⟨0,rfl,Nat.zero_le _,OwnV.nil _ _ _ _,Q2 _ _⟩
   case round=>
    obtain⟨j,rfl,hj,Ab,Ad⟩:=hrel
    by_cases hjl:j<l.length
    ·have hx:l[j]?=some l[j]:=Q7 hjl
     have Bp:=Cb.out j _ hx
     obtain⟨ad,rfl,_,Bj⟩:=(HR.out.below ((Ae.trans (Ad.mono Af)).mono hB)).at hx
     clear hx
     generalize l[j]=x at Bj Bp
     have Aq:=Hd (Bz7 _ ws x _ wr (HRD.out.below Ad))
     have Bu:=Go.DI.take_snoc Bp
     have Ch:=Hd Bu
     have Ck:(I.take j).length<=j:=by rw[List.length_take];omega
     have Bl:=Ad.size
     clear Bp Bu
     generalize plc x ws=P at *
     go_wp2_with(first
      | (go_at_call 233;(with_reducible refine Aq.out.mono ?_);rintro e w' ⟨rfl,rfl⟩)
      | (at_builtin;refine Ad0 (f:=nI) (fun _=>rfl) (.int .i64 0) rfl rfl _ _ 32 rfl _ 3 8 Tryz.underlying32 Tryz.infInt _ (I.take j) rfl (Ab.alloc _) (wr.heap.size+1) _ [P] rfl (RdV.one nI _ P _ _ (by decide) (by decide)) (by unfold maxLen;simp only[Q6,Q8];omega) (by simp only[Q6,Q8];omega) (by simp;omega) ?_;intro v' w' Bb By _))
     go_roundw
     case rel=>exact⟨j+1,by go_num,hjl,by rw[Ch.out];exact Bb,(Ad.alloc Bl _).trans By⟩
     case measure=>simp[intOf]<;>omega
    ·have Az:I.take j=I:=List.take_of_length_le (by have:=HIL.out;omega)
     have HJ:=Hd Az
     have hb:=Ae.trans (Ad.mono Af)
     have Bt:=(HRD.out.below Ad).more Ad.size
     have Bg:=Ab.read
     rw[Az] at Bg
     have Ce:=Hd Bt;have HC2:=Hd Bg
     obtain⟨A5,k5,n5,rfl,_,_,_⟩:=Ab.read.bds
     clear Az Bt Bg Ab
     go_wp2_with fail
     go_ret2
     exact Ret2.mk rfl (Ce.out.cast Cf.out) HC2.out hb
end Go.P
