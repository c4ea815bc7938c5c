/- Words for the laws of layer 16 that change a byte. -/
import Derived.Test.YtnmlajmaffiigaaGreatDoorMpU
import Derived.Test.YtnmlajmaffiigaaGreatDoorGn
set_option linter.constructorNameAsVariable false
open Go Go.Proofs Go.Proofs.YtnmlajmaffiigaaGreatDoor Go.P
namespace Go.MP
open RowKit VB VarM VS VL SC CK Go.ST MK RS ZN
theorem bv_at{x:Int}(h0:0<=x)(h1:x<=255):bv (UInt8.ofNat x.toNat)=.int .u8 x:=by
 show Value.int .u8 ((UInt8.ofNat x.toNat).toNat:Int)=_
 rw[UInt8.toNat_ofNat',show x.toNat%2 ^ 8=x.toNat from Nat.mod_eq_of_lt (by omega),Int.toNat_of_nonneg h0]
theorem Ez8(e:TypeId)(W:World){x:Int}(hx:0<=x/\x<=255):Fh0 e (W.alloc (.cells #[.int .u8 x] e)) W.heap.size (.slice (some ⟨W.heap.size,0,none⟩) 1 1) [UInt8.ofNat x.toNat]:=by
 have h:=World.ownsRow_lit (base:=W.heap.size) (e:=e) (size:=1) W #[.int .u8 x] 1 (Q1 _) (by decide) rfl
 have e0:[UInt8.ofNat x.toNat].map bv=[.int .u8 x]:=by
  show[bv _]=_
  rw[bv_at hx.1 hx.2]
 show World.ownsRow _ _ e 1 _ 1 ([UInt8.ofNat x.toNat].map bv)
 rw[e0]
 exact h
theorem Cq8(e:TypeId)(W:World){x:Int}(hx:0<=x/\x<=255):Fh0 e (W.alloc (.cells #[.int .u8 x] e)).drew W.heap.size (.slice (some ⟨W.heap.size,0,none⟩) 1 1) [UInt8.ofNat x.toNat]:=Ez8 e W hx
theorem Cq7{b:Int}(h0:0<=b):∃c:Int,IntKind.u8.wrap (1+b.tmod 255)=c/\1<=c/\c<=255:=by
 rw[Int.tmod_eq_emod_of_nonneg h0]
 exact⟨1+b%255,by rw[IntKind.wrap_u8];omega,by omega,by omega⟩
theorem Er4{x:Nat}{a:Int}(hx:x<256)(h0:1<=a)(h1:a<=255):UInt8.ofNat (bits .xor .u8 (x:Int) a).toNat≠UInt8.ofNat x/\0<=bits .xor .u8 (x:Int) a/\bits .xor .u8 (x:Int) a<=255:=by
 obtain⟨n,rfl⟩:=Int.eq_ofNat_of_zero_le (show 0<=a by omega)
 have hn:n<256:=by omega
 have e:bits .xor .u8 (x:Int) (n:Int)=((x ^^^ n:Nat):Int):=u8_xor_nat x n hx hn
 have hl:x ^^^ n<256:=Nat.xor_lt_two_pow (n:=8) hx hn
 rw[e]
 refine⟨fun h=>?_,by omega,by omega⟩
 rw[Int.toNat_natCast] at h
 have h2:=congrArg UInt8.toNat h
 rw[UInt8.toNat_ofNat',UInt8.toNat_ofNat',show(x ^^^ n)%2 ^ 8=x ^^^ n from Nat.mod_eq_of_lt hl,show x%2 ^ 8=x from Nat.mod_eq_of_lt hx] at h2
 have:x ^^^ (x ^^^ n)=x ^^^ x:=by rw[h2]
 rw[←Nat.xor_assoc,Nat.xor_self,Nat.zero_xor] at this
 omega
theorem Ea1(T:List UInt8){i:Nat}(hi:i<T.length):T[i]?=some (UInt8.ofNat (bN (str T) i)):=by
 rw[Q7 hi,Cx0,List.getD_eq_getElem?_getD,Q7 hi]
 congr 1
 apply UInt8.toNat_inj.1
 rw[Option.getD_some,UInt8.toNat_ofNat']
 have:=UInt8.toNat_lt T[i]
 omega
theorem Cw2{T:List UInt8}{S X Y:ByteArray}{i:Nat}(hS:str T=S)(y:UInt8)(hX:S.extract 0 i=X)(hY:S.extract (i+1) S.size=Y):X++str [y]++Y=str (chg T i y):=by
 subst hS
 rw[←hX,←hY,Aa8,Aa8,Ab8,Ab8]
 unfold chg
 have e:(str T).data.toList=T:=rfl
 rw[e,List.drop_zero,Nat.sub_zero,Aa3,List.take_of_length_le (l:=T.drop (i+1)) (by rw[List.length_drop];exact Q1 _)]
 rw[List.append_assoc];rfl
end Go.MP
