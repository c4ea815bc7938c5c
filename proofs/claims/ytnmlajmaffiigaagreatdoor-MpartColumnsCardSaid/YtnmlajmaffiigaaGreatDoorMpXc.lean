/- Words for MpartColumns: the first byte of the first chunk is changed. -/
import Derived.Test.YtnmlajmaffiigaaGreatDoorMpU
import Derived.Test.YtnmlajmaffiigaaGreatDoorMpX
set_option linter.constructorNameAsVariable false
open Go Go.Proofs Go.Proofs.YtnmlajmaffiigaaGreatDoor Go.P
namespace Go.MP
open RowKit VB VarM VS VL SC CK Go.ST MK RS ZN
theorem Ff1{cs:List Col}{key:Int}{l:List Rc}{x y:UInt8}(S:Srt cs key l)(hl:l.length<=1024)(h0:l.length≠0)(hb:InR l)(h1:1<=cs.length)(hy:(Aa9 cs key l)[4]?=some y)(Ah:x≠y):
   Dg5 cs key (str (chg (Aa9 cs key l) 4 x)) 0=([],9)/\Dg5 cs key (str (chg (Aa9 cs key l) 4 x)) cs.length=(Bl9 cs l cs.length,0):=by
 have hI:=Cb1 S hl h0 hb
 obtain⟨b1,b2⟩:=Bf4 hI (Ad7 S.sch).2.1 (IDN cs key)
 have hO:=Bo2 S hl h0 hb
 have h5:=(Ar2 S.sch hl S.ok hb 0).1
 have hn:=Av1 cs l (cs.length+1)
 have Ad:0<(chs cs l (cs.length+1)).length:=by rw[hn];omega
 have Ac:=Bp6 (cs:=cs) (l:=l) (show 0<cs.length+1 by omega)
 have Ab:0<((chs cs l (cs.length+1))[0]).length:=by rw[Ac];omega
 have hc:chs cs l (cs.length+1)=(chs cs l (cs.length+1))[0]::(chs cs l (cs.length+1)).drop 1:=by
  conv=>lhs;rw[←List.drop_zero (l:=chs cs l (cs.length+1)),List.drop_eq_getElem_cons Ad]
 have Ae:0<(chs cs l (cs.length+1)).flatten.length:=by
  rw[hc,List.flatten_cons,Q5];omega
 have Ag:(chB cs l 0)[0]?=some y:=by
  unfold Aa9 at hy
  rw[Af0] at hy
  unfold Ab6 at hy
  rw[List.getElem?_append_right (by rw[Ab0];exact Q1 _),Ab0,Nat.sub_self,List.getElem?_append_left Ae,hc,List.flatten_cons,List.getElem?_append_left Ab,Ac] at hy
  exact hy
 have Af:=Dz7 (i:=0) S hl hb Ag Ah
 unfold Aa9 at hO⊢
 rw[Af0] at hO⊢
 generalize Ay6 (IDN cs key) (chs cs l (cs.length+1)) (Ac7 cs key l)=b at *
 have hw:chg (Ab6 (chs cs l (cs.length+1)).flatten b) 4 x=Ab6 (chg (chs cs l (cs.length+1)).flatten 0 x) b:=Bl7 _ _ Ae x
 rw[hw]
 have Aa:opn cs key (str (Ab6 (chg (chs cs l (cs.length+1)).flatten 0 x) b))=_:=(Cq4 (Am5 Ae x) (by omega) b1).trans hO
 have e0:=Cw3 (chs cs l (cs.length+1)) b ⟨Ac7 cs key l,(chs cs l (cs.length+1)).map List.length⟩ rfl Ad Ab x
 have en:=Ep2 (chs cs l (cs.length+1)) b ⟨Ac7 cs key l,(chs cs l (cs.length+1)).map List.length⟩ rfl Ad (show 0<cs.length by omega) (by rw[hn];omega) Ab x
 rw[List.take_zero,List.flatten_nil,Q8,Nat.zero_add] at e0 en
 rw[Ac] at e0
 rw[Bp6 (show cs.length<cs.length+1 by omega)] at en
 generalize str (Ab6 (chg (chs cs l (cs.length+1)).flatten 0 x) b)=F at *
 have f1:(opn cs key F).1=0:=by rw[Aa]
 refine⟨?_,?_⟩
 ·have h:=Ck1 (cs:=cs) (key:=key) (file:=F) (i:=0) f1 (Nat.zero_le _)
  rw[Aa] at h
  refine h.trans (Cv5 S.sch ?_)
  rw[e0];exact Af
 ·rw[Ck1 (i:=cs.length) f1 (Q1 _),Aa]
  have hd:=Dz9 S hl hb cs.length
  rw[←en] at hd
  rw[Cv4 (by rw[hd]) (by rw[hd];exact Af6 cs l cs.length),hd]
end Go.MP
