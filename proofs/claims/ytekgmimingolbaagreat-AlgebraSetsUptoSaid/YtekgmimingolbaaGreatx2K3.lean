/-
  What every proof here stands on. No condition.
-/
import Derived.Test.YtekgmimingolbaaGreatx2K1
namespace Go.Proofs.YtekgmimingolbaaGreat
open Go
set_option linter.unusedVariables false
theorem zAC:∀l:List Int,lexI l l=0
 | []=>rfl
 | x::l=>by rw [lexI,xw (qo x),xw (qo x),zAC l]
theorem zjS:∀l m:List Int,lexI l m= - lexI m l
 | [],[]=>rfl
 | [],_::_=>rfl
 | _::_,[]=>rfl
 | x::l,y::m=>by
  rw [lexI,lexI,zjS l m];by_cases h1:x<y
  ·rw [xx h1,xw (show ¬y<x by omega),xx h1]
  ·by_cases h2:y<x
   ·rw [xw h1,xx h2,xx h2];rfl
   ·rw [xw h1,xw h2,xw h2,xw h1]
theorem zsY:∀{l m:List Int},lexI l m=0->l=m
 | [],[],_=>rfl
 | [],_::_,h=>by cases h
 | _::_,[],h=>by cases h
 | x::l,y::m,h=>by
  rw [lexI] at h;split at h
  ·cases h
  ·split at h
   ·cases h
   ·rw [zsY h,show x=y by omega]
theorem zqH:∀{a b c:List Int},lexI a b<=0->lexI b c<=0->lexI a c<=0
 | [],[],_,_,h=>h
 | [],_::_,[],_,_=>yO _
 | [],_::_,_::_,_,_=>by rw [lexI];decide
 | _::_,[],_,h,_=>by rw [lexI] at h;exact absurd h (by decide)
 | _::_,_::_,[],_,h=>by rw [lexI] at h;exact absurd h (by decide)
 | x::a,y::b,z::c,h,k=>by
  rw [lexI] at h k|-;by_cases h1:x<y
  ·by_cases k1:y<z
   ·rw [xx (by omega)];decide
   ·by_cases k2:z<y
    ·rw [xw k1,xx k2] at k;exact absurd k (by decide)
    ·rw [xx (by omega)];decide
  ·by_cases h2:y<x
   ·rw [xw h1,xx h2] at h;exact absurd h (by decide)
   ·rw [xw h1,xw h2] at h;by_cases k1:y<z
    ·rw [xx (by omega)];decide
    ·by_cases k2:z<y
     ·rw [xw k1,xx k2] at k;exact absurd k (by decide)
     ·rw [xw k1,xw k2] at k;rw [xw (by omega),xw (by omega)];exact zqH h k
theorem zAB {a b:List Int} (h:lexI a b<=0) (k:lexI b a<=0):a=b:=zsY (by have:=zjS a b;omega)
theorem zEg (l:List (List Int)):(zoM l).Pairwise fun a b=>lexI a b<=0:=by
 have h:=uk (le:=fun x y:List Int=>decide (lexI x y<=0)) (fun a b c h k=>by
  simp only [xN] at h k|-;exact zqH h k) (fun a b=>by
  have:=zjS a b;simp only [qd,xN];omega) l
 unfold zoM;exact h.imp fun h=>by simpa using h
theorem zun (l:List (List Int)):(zoM l).Perm l:=ul l _
theorem zKo {l r:List (List Int)} (hp:r.Perm l) (hs:r.Pairwise fun a b=>lexI a b<=0):r=zoM l:=
 List.Perm.eq_of_pairwise (fun a b _ _ h k=>zAB h k) hs (zEg l) (hp.trans (zun l).symm)
end Go.Proofs.YtekgmimingolbaaGreat
