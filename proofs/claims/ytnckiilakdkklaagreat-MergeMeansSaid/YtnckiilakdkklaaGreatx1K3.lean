/-
  What every proof here stands on. No condition.
-/
import Derived.Laws.Bits64b
import Derived.IntWalk
import Derived.RowKit
set_option autoImplicit true
set_option relaxedAutoImplicit true
namespace Go.Proofs.YtnckiilakdkklaaGreat
open Go.RowKit (wrap32 wrap64)
def sgnS (x:Int):Int:=if x%4294967296<2147483648 then x%4294967296 else x%4294967296 - 4294967296
def zpO (x:Int):Int:=if 0<=x then x else x+18446744073709551616
def lenN (n:Nat):Nat:=if n<128 then 1 else lenN (n/128)+1
termination_by n
decreasing_by omega
def zuA:Nat->Nat->List UInt8
 | 0,_=>[]
 | k+1,w=>UInt8.ofNat (w%256)::zuA k (w/256)
def word:List UInt8->Nat
 | []=>0
 | c::r=>c.toNat+256*word r
theorem zyv (x:Int): -2147483648<=sgnS x/\sgnS x<=2147483647:=by unfold sgnS;split<;>omega
theorem zHH (h: -9223372036854775808<=x/\x<=9223372036854775807):0<=zpO x/\zpO x<=18446744073709551615:=by unfold zpO;split<;>omega
theorem zFQ {x:Int} (h: -2147483648<=x/\x<=2147483647):sgnS (zpO x)=x:=by unfold sgnS zpO;split<;>split<;>omega
theorem zoV (h:n<128):lenN n=1:=by rw [lenN,if_pos h]
theorem zqQ (h:¬n<128):lenN n=lenN (n/128)+1:=by rw [lenN,if_neg h]
theorem zGZ:∀(k n:Nat),n<128^k->0<k->lenN n<=k:=by
 intro k
 induction k with
 | zero=>intro n _ h;omega
 | succ k ih=>
  intro n hn _;by_cases h:n<128
  ·rw [zoV h];omega
  ·rw [zqQ h];have h1:n/128<128^k:=by rw [Nat.pow_succ] at hn;exact Nat.div_lt_of_lt_mul (by omega)
   have h2:0<k:=by
    rcases Nat.eq_zero_or_pos k with rfl| h
    ·simp at h1;omega
    ·exact h
   have:=ih _ h1 h2;omega
theorem zFj (h:n<18446744073709551616):lenN n<=10:=zGZ 10 n (by omega) (by omega)
def lz (m:Nat):Nat:=if m=0 then 0 else lenN m
theorem zIQ (h:m≠0):lz m=lz (m/128)+1:=by
 unfold lz;rw [if_neg h];split
 ·rw [zoV (by omega)]
 ·rw [zqQ (by omega)]
theorem zIP (n:Nat):lenN n=1+lz (n/128):=by
 unfold lz;split
 ·rw [zoV (by omega)]
 ·rw [zqQ (by omega),Nat.add_comm]
theorem zhg:∀(k n:Nat),(zuA k n).length=k
 | 0,_=>rfl
 | k+1,n=>by simp [zuA,zhg k]
theorem zyj (j:Nat):2^(8*j)=256^j:=by rw [Nat.pow_mul]
theorem ztL:∀(l:List UInt8),word l<256^l.length
 | []=>by simp [word]
 | c::r=>by
  have h1:=ztL r;have h2:=c.toNat_lt;simp only [word,List.length_cons,Nat.pow_succ];omega
theorem zsy:∀(l:List UInt8) (c:UInt8),word (l++[c])=word l+c.toNat*256^l.length
 | [],c=>by simp [word]
 | d::r,c=>by
  simp only [List.cons_append,word,List.length_cons,zsy r c,Nat.pow_succ];rw [Nat.mul_add,<-Nat.mul_assoc,Nat.mul_comm 256 c.toNat,Nat.mul_assoc c.toNat,Nat.mul_comm (256^r.length)];omega
theorem zHm (a c k:Nat) (h:a<2^k):a||| (c*2^k)=a+c*2^k:=by
 have:=Nat.shiftLeft_add_eq_or_of_lt h c;rw [Nat.shiftLeft_eq] at this;rw [Nat.or_comm,<-this,Nat.add_comm]
theorem zuU (h:j<=7):256^j<=72057594037927936:=by
 have:=Nat.pow_le_pow_right (n:=256) (by omega) h;simpa using this
theorem zHK (a d j:Nat) (hj:j<8) (hd:d<256) (ha:a<256^j):
  bits .or .u64 (a:Int) (IntKind.u64.wrap ((d:Int)*2^(8*j)))=((a+d*256^j:Nat):Int):=by
 have hp:=zuU (show j<=7 by omega);have hm:d*256^j<=255*72057594037927936:=Nat.mul_le_mul (by omega) hp;have e:((d:Int)*2^(8*j))=((d*256^j:Nat):Int):=by
  rw [<-zyj,Int.natCast_mul,Int.natCast_pow];rfl
 rw [e,IntKind.wrap_u64,Int.emod_eq_of_lt (by omega) (by omega),bits_or_u64_nat _ _ (by omega) (by omega),<-zyj,zHm _ _ _ (by rw [zyj];exact ha)]
theorem zGv (a d j:Nat) (hj:j<8) (hd:d<256) (ha:a<256^j):
  IntKind.u64.wrap ((a:Int)+IntKind.u64.wrap ((d:Int)*((256^j%18446744073709551616:Nat):Int)))=((a+d*256^j:Nat):Int):=by
 have hp:=zuU (show j<=7 by omega);have hm:d*256^j<=255*72057594037927936:=Nat.mul_le_mul (by omega) hp;rw [Nat.mod_eq_of_lt (by omega)];have e:((d:Int)*((256^j:Nat):Int))=((d*256^j:Nat):Int):=by rw [Int.natCast_mul]
 have hs:a+d*256^j<18446744073709551616:=by
  have:a+d*256^j<256^j+255*256^j:=Nat.add_lt_add_of_lt_of_le ha (Nat.mul_le_mul_right _ (by omega));omega
 rw [e,IntKind.wrap_u64,IntKind.wrap_u64];omega
theorem zBv (j:Nat):((256^(j+1)%18446744073709551616:Nat):Int)=IntKind.u64.wrap (((256^j%18446744073709551616:Nat):Int)*256):=by
 rw [IntKind.wrap_u64,Nat.pow_succ];omega
end Go.Proofs.YtnckiilakdkklaaGreat
