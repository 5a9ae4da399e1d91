/-
  The Go functions do what the plain functions say. No condition.
-/
import Derived.Test.YtnckiilakdkklaaGreatx1G3
set_option autoImplicit true
set_option relaxedAutoImplicit true
namespace Go.Proofs.YtnckiilakdkklaaGreat
open Go.IntKind (i64)
open Tryz
open Go Go.RowKit
set_option linter.unusedVariables false
set_option maxRecDepth 100000
set_option maxHeartbeats 3200000
theorem zro (h:zgC f=some r):wj 119 [.rc zf [0] f] [kB r]:=by
 refine fi 10 func119 fun Xt=>?_
 unfold zgC at h;refine jq [11] (jb h fun g uh h=>jg [] [] [(2,kB g)] ?_ ?_)
 ·refine (rsI 3 5 uh ?_ ?_)<;>intro uf uh
  ·refine jb uh fun rv ui uh=>?_;cases uh;exact (rl 2 [1] 10 call128 (zoe ui) rgg)
  cases uh;exact rgg
 obtain rfl:=(sj h);exact zz lzz
theorem zow (h:zhC b uu=some r):wj 83 [.sl Rp.byte [0] b,kI uu] [.rc zw [] r.1,k8 r.2]:=by
 refine fj ⟨[(4,.ptr 2 0),(5,k8 r.2)],[⟨2,104,(zgU r.1)⟩]⟩ 62 func83 ⟨⟨_,_,rfl,rfl,rfl,rfl,zIq⟩,rfl,trivial⟩ fun Xt=>?_
 unfold zhC at h;refine jq [12] (jg [0,1,4] [12] [(19,kB ((decide (uu<0))|| (decide (uu>=(b.length:Int)))))] ?_ ?_)
 ·refine (rsl 3 [] 14 (decide (uu<0)) ?_ ?_)<;>intro uf
  · exact (rbl [] 19 true rfl (by grind))
  exact (rbl [] 19 (decide (uu>=(b.length:Int))) rfl (by grind))
 refine jI h ?_ ?_<;>intro ug h
 ·refine jr (rc 0 rfl (zQ (r:=zw) [] [] (⟨0,0,0,0,0⟩:zj) rfl zyz rfl rfl) rf) ?_;cases h;exact zz (lks [12] [(12,2)] lzz)
 refine jb h fun v2 uJ h=>jb h fun rv ui h=>jr (ra 2 [.sl Rp.byte [0] b,kI uu] rfl (zeD (some (kI uu)) none rfl zcr.el (zbq _ _ _) ⟨rfl,rfl⟩ ⟨rfl,rfl⟩ uJ) rfl (rl 0 [0] 11 call96 (zAk ui) (rfl' [13]))) (jp (jI h ?_ ?_))<;>intro uj h
 ·refine jr (rc 0 rfl (zQ (r:=zw) [] [] (⟨0,0,0,0,0⟩:zj) rfl zyz rfl rfl) rf) ?_;cases h;exact zz (lks [12] [(12,2)] lzz)
 refine jp (jb h fun v3 uD h=>jb h fun wo uo h=>jd [1,4,6,8,9,10,11] [12,13] zbo (by exact (lwn 4 (ly [.sl Rp.byte [0] b,kI (i64.wrap (uu+rv.2.1))] (zeD (some (kI (i64.wrap (uu+rv.2.1)))) none rfl zcr.el (zbq _ _ _) ⟨rfl,rfl⟩ ⟨rfl,rfl⟩ uD) rfl (lx (lf1 97 (lc0 12 call97 (zuW uo))) l0)))) (jp (jI h ?_ ?_)))<;>intro uk h
 ·refine jr (rc 0 rfl (zQ (r:=zw) [] [] (⟨0,0,0,0,0⟩:zj) rfl zyz rfl rfl) rf) ?_;cases h;exact zz (lks [12] [(12,2)] lzz)
 refine jr (rc 11 rfl (zQ (r:=zw) [kI rv.1.Number,kI rv.1.Wire,kI uu,kI (i64.wrap ((i64.wrap (uu+rv.2.1))+wo.1)),kI (i64.wrap ((i64.wrap (uu+rv.2.1))+wo.2.1))] [] (⟨rv.1.Number,rv.1.Wire,uu,(i64.wrap ((i64.wrap (uu+rv.2.1))+wo.1)),(i64.wrap ((i64.wrap (uu+rv.2.1))+wo.2.1))⟩:zj) rfl zyz rfl rfl) rf) ?_;cases h;exact zz (lks [12] [(12,2)] lzz)
theorem zwe (h:zkA f wire=some r):wj 99 [.rc zf [0] f,kI wire] [kB r]:=by
 refine fi 16 func99 fun Xt=>?_
 unfold zkA at h;refine jq [11] (jb h fun g uh h=>jg [] [] [(4,kB g)] ?_ ?_)
 ·refine (rsI 3 7 uh ?_ ?_)<;>intro uf uh
  ·refine (rsI 4 11 uh ?_ ?_)<;>intro ug uh
   ·refine jb uh fun rv ui uh=>?_;cases uh;exact (rl 2 [1] 10 call128 (zoe ui) rgg)
   cases uh;exact rgg
  cases uh;exact rgg
 obtain rfl:=(sj h);exact zz lzz
theorem zvi (h:zjh k wv=some r):wj 148 [kI k,kU wv] [kI r]:=by
 refine fi 29 func148 fun Xt=>?_
 unfold zjh at h;refine jp (jb h fun rv ui h=>jr (rl 1 [1] 9 call149 (zng ui) rf) (jg [0,1,5] [] [(19,kB ((rv.2 !=0)|| (rv.1 !=0)))] ?_ ?_))
 ·refine (rsl 3 [] 16 (rv.2 !=0) ?_ ?_)<;>intro uf
  · exact (rbl [] 19 true rfl (by grind))
  exact (rbl [] 19 (rv.1 !=0) rfl (by grind))
 refine jI h ?_ ?_<;>intro ug h
 ·cases h;exact jz
 refine jb h fun wo uo h=>jr (rl 2 [1] 9 call140 (zpE uo) rf) (jb h fun wy uB h=>jr (rl 1 [1] 9 call157 (zyU uB) rf) ?_);obtain rfl:=(sj h);exact zz lzz
theorem zyJ (h:zmi b=some r):wj 145 [.sl Rp.byte [0] b] [kI r]:=by
 refine fi 11 func145 fun Xt=>?_
 unfold zmi at h;refine jp (jb h fun rv ui h=>jr (rl 1 [0] 9 call156 (zAr ui) rf) ?_);cases h;exact jz
theorem zns (h:zep sv=some r):wj 46 [.sl zi [0] sv] [kB r]:=by
 refine fi 14 func46 fun Xt=>?_
 unfold zep at h;refine jp (jb h fun rv ui h=>jr (rl 1 [0] 9 call62 (znq ui) rf) ?_);cases h;exact jz
theorem ziW (h:zdS m b uu=some r):wj 47 [.rc zi [0] m,.sl Rp.byte [0] b,kI uu] [.rc zan [] r.1,kI r.2]:=by
 refine fj ⟨[(6,.ptr 2 0),(7,kI r.2)],[⟨2,85,(ztZ r.1)⟩]⟩ 66 func47 ⟨⟨_,_,rfl,rfl,rfl,rfl,zJw⟩,rfl,trivial⟩ fun Xt=>?_
 unfold zdS at h;refine jr (ra 0 [.rc zi [0] m] rfl (zhT 13 (zK [0] m) [0] rfl rfl rfl rfl rfl) rfl (rfl' [14])) (jb h fun rv ui h=>jr (rl 2 [0] 13 call63 (znT ui) (rfl' [15])) (jp (jI h ?_ ?_)))<;>intro uf h
 ·refine jr (rc 0 rfl (zQ (r:=zan) [] [] (⟨(⟨0,0,0,0,0⟩:zj),0,false⟩:zD) rfl zAi rfl rfl) rf) ?_;cases h;exact zz (lks [14] [(14,2)] lzz)
 refine jb h fun wo uo h=>jr (rl 3 [0] 14 call30 (zih uo) rf) (jp (jI h ?_ ?_))<;>intro ug h
 ·refine jr (lb 0 zw [] rv.1 (rc 0 rfl (zQ (r:=zan) [.rc zw [] rv.1,kI (-1)] [] (⟨rv.1,(-1),false⟩:zD) rfl zAi rfl rfl) rf)) ?_;cases h;exact zz (lks [14] [(14,2)] lzz)
 refine jb h fun x ut h=>jr (rx 3 [0] zif.el ut rfl rfl (rc 0 rfl (lde zf [0] x znI) (rfl' [16]))) (jb h fun g uh h=>jg [6,8,10,11] [14,15,16] [(46,kB g)] ?_ ?_)
 ·refine (rsI 3 37 uh ?_ ?_)<;>intro uj uh
  ·refine jb uh fun wy uB uh=>(rl 2 [1] 15 call36 (zcX uB) (rsI 2 42 uh ?_ ?_))<;>intro uk uh
   ·cases uh;exact (rel [] lzz)
   cases uh;exact (rel [] lzz)
  cases uh;exact (rel [] lzz)
 refine jI h ?_ ?_<;>intro uq h
 ·refine jr (lb 0 zw [] rv.1 (rc 1 rfl (zQ (r:=zan) [.rc zw [] rv.1,kI wo,kB true] [] (⟨rv.1,wo,true⟩:zD) rfl zAi rfl rfl) rf)) ?_;cases h;exact zz (lks [14] [(14,2)] lzz)
 refine jb h fun g2 uA h=>jn (.N [6,8,10] [14,15] [(61,kB g2)] []) ?_ (zcQ ?_)
 ·refine jb uA fun rv4 uM uA=>?_;rcases zgx uA with ⟨ur,uA⟩| ⟨ur,uA⟩
  ·cases uA;exact jd [6,8,10,61] [14,15] zbo (by exact (lwn 2 (lx (lf1 64 (lcd [kI x.Kind] 15 call64 (zgk uM))) (lw_e (dg 53 ur l0))))) (zL lzz)
  refine jb uA fun rv5 uW uA=>?_;cases uA;exact jd [6,8,10,61] [14,15] zbo (by exact (lwn 2 (lx (lf1 64 (lcd [kI x.Kind] 15 call64 (zgk uM))) (lw_e (dg 53 ur (lwn 2 (lx (lf1 57 (lcd [kI x.Kind] 15 call57 (zgu uW))) l0))))))) (zL lzz)
 refine jI h ?_ ?_<;>intro uy h
 ·refine jr (rc 0 rfl (zQ (r:=zan) [] [] (⟨(⟨0,0,0,0,0⟩:zj),0,false⟩:zD) rfl zAi rfl rfl) rf) ?_;cases h;exact zz (lks [14] [(14,2)] lzz)
 refine jr (lb 0 zw [] rv.1 (rc 1 rfl (zQ (r:=zan) [.rc zw [] rv.1,kI wo] [] (⟨rv.1,wo,false⟩:zD) rfl zAi rfl rfl) rf)) ?_;cases h;exact zz (lks [14] [(14,2)] lzz)
theorem znp (h:zcx b=some r):wj 49 [.sl Rp.byte [0] b] [kB r]:=by
 refine fi 16 func49 fun Xt=>?_
 unfold zcx at h;refine jp (jb h fun rv ui h=>jr (rl 3 [0] 9 call65 (zno ui) rf) ?_);cases h;exact jz
theorem zvh (h:zjg k b=some r):wj 113 [kI k,.sl Rp.byte [0] b] [kU r.1,k8 r.2]:=by
 refine fi 22 func113 fun Xt=>?_
 unfold zjg at h;refine jp (jb h fun rv ui h=>jr (rl 2 [0] 9 call139 (ztj ui) rf) (jp (jI h ?_ ?_)))<;>intro uf h
 ·cases h;exact jz
 refine jb h fun wo uo h=>jr (rl 2 [1] 9 call140 (zpE uo) rf) ?_;cases h;exact zz lzz
theorem znt (h:zeq k b=some r):wj 35 [kI k,.sl Rp.byte [0] b] [.own wi 89 2 [] r.1,kI r.2]:=by
 refine fi 50 func35 fun Xt=>?_
 unfold zeq at h;refine jp (jb h fun rv ui h=>jr (rl 2 [0] 13 call48 (ziV ui) rf) (jp (jp (zp (jb h fun q ul h=>jL ul [0,1,6,7] [] (fun s=>[(8,.own wi 89 18 [] s.1),(9,kI s.2)]) (fun o=> .X 0 [7] [] [(8,.own wi 89 18 [] o)] []) ?_ lw ?_)))))
 ·clear h;intro s o h;obtain ⟨out,i⟩:=s;replace h:zaC b k rv out i=some o:=h;unfold zaC at h;refine jp (jI h ?_ ?_)<;>intro uf h
  ·refine zp (jp (jp (jb h fun p uH h=>jn (.N [0,1,6,7,8,9] [] [(10,kI p)] []) ?_ ?_)))
   ·replace h:=uH;refine jI h ?_ ?_<;>intro ug h
    ·refine jb h fun x ut h=>jr (ra 3 [.own wh 3 15 [] rv.1,kI (i64.wrap (i - 1))] rfl (zhw rfl zin.el (zaS _ _ _ _ _) ut) rfl rf) ?_;cases h;exact zL lzz
    cases h;exact zL lzz
   refine zcQ (jb h fun x2 uw h=>jb h fun v uG h=>jb h fun wo uo h=>jr (ra 5 [.own wh 3 15 [] rv.1,kI i] rfl (zhw rfl zin.el (zaS _ _ _ _ _) uw) rfl (ra 1 [.sl Rp.byte [0] b,kI p,kI x2] rfl (zeD (some (kI p)) (some (kI x2)) rfl zcr.el (zbq _ _ _) ⟨rfl,rfl⟩ ⟨rfl,rfl⟩ uG) rfl (rl 0 [0] 17 call37 (ziU uo) rf))) (jb h fun v2 uJ h=>jr (rc 2 rfl (zdE [kU wo.1] 19 [] ([wo.1]:(List Int)) rfl zmq rfl rfl rfl rfl) (rc 0 rfl (lao 18 [] 89 19 [] [] zmq.el uJ (.inl (zfu _))) rf)) (zJ ?_)));cases h;exact jy
  cases h;exact zad rfl lzz
 refine zao _ rfl (jp ?_);cases h;exact zz (lks [] [(18,2)] lzz)
theorem zny (h:zeu c up f=some r):zhO prog 91 [.ag [kI c.size,.sl wh [0] c.kinds,.om zB Rp.bool 2 [0] c.names,.om zC Rp.bool 3 [0] c.numbers],kI up,.rc zf [0] f] [kI r.1] [.ag [.any,.any,.om zB Rp.bool 2 [0] r.2.1,.om zC Rp.bool 3 [0] r.2.2],.any,.any]:=by
 refine zjJ (E:=⟨[(0,.ag [.any,.any,.om zB Rp.bool 2 [0] r.2.1,.om zC Rp.bool 3 [0] r.2.2]),(6,kI r.1)],[]⟩) 63 [0] func91 rfl rfl rfl ⟨rfl,trivial⟩ ⟨.inr ⟨rfl,rfl⟩,.inl rfl,.inl rfl,trivial⟩ rfl (fun Xt old=>?_);refine zdt ?_;unfold zeu at h;refine jq [11,12] (jd [0,3,5,7,8] [11,12,13,14] zbo (by exact (lwn 3 (lx (zQ (r:=zB) [kI up,kS f.Name] [] (⟨up,f.Name⟩:zr) rfl zGb rfl rfl) (lwn 3 (lx (zQ (r:=zC) [kI up,kI f.Number] [] (⟨up,f.Number⟩:zt) rfl zJh rfl rfl) (lx (zkg 13 [kI 0,kS []] rfl zeroValue216 rfl) (lx (zkg 14 [kI 0,kI 0] rfl zeroValue218 rfl) (ly [.ptr 13 0,.rc zB [] (⟨up,f.Name⟩:zr)] (zjp (r:=zB) (b:=⟨13,216,[kI 0,kS []]⟩) (off:=0) [kI up,kS f.Name] rfl sizeOf216 rfl rfl rfl rfl) rfl (ly [.ptr 14 0,.rc zC [] (⟨up,f.Number⟩:zt)] (zjp (r:=zC) (b:=⟨14,218,[kI 0,kI 0]⟩) (off:=0) [kI up,kI f.Number] rfl sizeOf218 rfl rfl rfl rfl) rfl l0))))))))) (zp (jb h fun rv ui h=>jr (rl 2 [1] 13 call116 (zmf ui) rf) (jI h ?_ ?_))))<;>intro uf h
 ·refine jp ?_;cases h;exact zgp lw
 refine jr (lb 2 zB [] (⟨up,f.Name⟩:zr) (ra 0 [.om zB Rp.bool 2 [0] c.names,.rc zB [] (⟨up,f.Name⟩:zr)] rfl (zqR (rk:=zB) (rv:=Rp.bool) (m:=c.names) (k:=(⟨up,f.Name⟩:zr)) (kB ((mget c.names (⟨up,f.Name⟩:zr)).getD false)) rfl ztA (zcT rfl) (ztw rfl rfl rfl)) rfl rf)) (jI h ?_ ?_)<;>intro ug h
 ·refine jp ?_;cases h;exact zgp lw
 refine jb h fun wo uo h=>jr (rl 2 [1] 13 call117 (zqm uo) rf) (jI h ?_ ?_)<;>intro uj h
 ·refine jp ?_;cases h;exact zgp lw
 refine jr (lb 2 zC [] (⟨up,f.Number⟩:zt) (ra 0 [.om zC Rp.bool 3 [0] c.numbers,.rc zC [] (⟨up,f.Number⟩:zt)] rfl (zqR (rk:=zC) (rv:=Rp.bool) (m:=c.numbers) (k:=(⟨up,f.Number⟩:zt)) (kB ((mget c.numbers (⟨up,f.Number⟩:zt)).getD false)) rfl zCE (zcT rfl) (ztw rfl rfl rfl)) rfl rf)) (jI h ?_ ?_)<;>intro uk h
 ·refine jp ?_;cases h;exact zgp lw
 refine jb h fun wy uB h=>jr (rl 4 [0] 13 call118 (zjj uB) rf) (jI h ?_ ?_)<;>intro uq h
 ·refine jp ?_;cases h;exact zgp lw
 refine jb h fun g uh h=>jg [0,3,5,7,8] [11,12,13,14] [(44,kB g)] ?_ ?_
 ·refine (rsI 3 47 uh ?_ ?_)<;>intro ur uh
  ·refine jb uh fun rv4 uM uh=>?_;cases uh;exact (lb 0 zf [] f (rl 0 [1] 13 call119 (zro uM) (rel [] lzz)))
  cases uh;exact (rel [] lzz)
 refine jI h ?_ ?_<;>intro uy h
 ·refine jp ?_;cases h;exact zgp lw
 refine jb h fun rv5 uW h=>jr (lb 1 zf [] f (rl 0 [0,2,3] 13 call120 (znz uW) rf)) (jI h ?_ ?_)<;>intro uC h
 ·refine jp ?_;cases h;exact zgp lw
 refine zJ (jr (lb 2 zB [] (⟨up,f.Name⟩:zr) (rms (C1:=[]) 0 [] 2 [0] c.names (⟨up,f.Name⟩:zr) true [0] ztA (zcT rfl) (zdw rfl rfl) rf)) (jr (lb 2 zC [] (⟨up,f.Number⟩:zt) (rms (C1:=[]) 0 [] 3 [0] c.numbers (⟨up,f.Number⟩:zt) true [0] zCE (zcT rfl) (zdw rfl rfl) rf)) (jp ?_)));cases h;exact zgp lw
theorem zvC (h:zhH m hv=some r):wj 84 [.rc zi [0] m,.rc zW [0] hv] [.rc zZ [] r]:=by
 refine fj ⟨[(4,.ptr 2 0)],[⟨2,164,(zua r)⟩]⟩ 38 func84 ⟨⟨_,_,rfl,rfl,rfl,rfl,zIs⟩,trivial⟩ fun Xt=>?_
 unfold zhH at h;refine jr (ra 0 [.rc zi [0] m] rfl (zhT 14 (zK [0] m) [0] rfl rfl rfl rfl rfl) rfl (rfl' [15,16])) (jb h fun rv ui h=>jr (rl 3 [0] 15 call98 (zwd ui) rf) (jp (jI h ?_ ?_)))<;>intro uf h
 ·refine jr (rc 0 rfl (zQ (r:=zZ) [kI (-1)] [] (⟨(-1),false,0⟩:zP) rfl zBJ rfl rfl) rf) ?_;cases h;exact zz (lks [16] [(16,2)] lzz)
 refine jb h fun x ut h=>jr (rx 3 [0] zif.el ut rfl rfl (rc 0 rfl (lde zf [0] x znI) (rfl' [17]))) (jb h fun wo uo h=>jr (lb 0 zf [] x (rl 2 [1] 16 call99 (zwe uo) rf)) (jb h fun g uh h=>jg [4,5,7] [16] [(33,kB g)] ?_ ?_))
 ·refine (rsI 3 26 uh ?_ ?_)<;>intro ug uh
  ·refine jb uh fun wy uB uh=>?_;cases uh;exact (rl 4 [1] 16 call100 (zyO uB) (rel [] lzz))
  cases uh;exact (rel [] lzz)
 refine jI h ?_ ?_<;>intro uj h
 ·refine jr (rc 0 rfl (zQ (r:=zZ) [k8 6] [] (⟨0,false,6⟩:zP) rfl zBJ rfl rfl) rf) ?_;cases h;exact zz (lks [16] [(16,2)] lzz)
 refine jr (rc 2 rfl (zQ (r:=zZ) [kI rv,kB wo] [] (⟨rv,wo,0⟩:zP) rfl zBJ rfl rfl) rf) ?_;cases h;exact zz (lks [16] [(16,2)] lzz)
theorem zyt (h:zmd k=some r):wj 137 [kI k] [kI r]:=by
 refine fi 5 func137 fun Xt=>?_
 unfold zmd at h;refine jp (jb h fun rv ui h=>jr (rl 1 [1] 9 call148 (zvi ui) rf) ?_);obtain rfl:=(sj h);exact zz lzz
theorem zyK (h:zmj b=some r):wj 122 [.sl Rp.byte [0] b] [kB r]:=by
 refine fi 8 func122 fun Xt=>?_
 unfold zmj at h;refine jp (jb h fun rv ui h=>jr (rl 1 [0] 9 call145 (zyJ ui) rf) ?_);cases h;exact zz lzz
theorem znU (h:zeR sv uv d=some r):wj 26 [.sl zi [0] sv,kI uv,kI d] [kI r]:=by
 refine fi 26 func26 fun Xt=>?_
 unfold zeR at h;refine jp (jb h fun rv ui h=>jr (rl 1 [0] 9 call46 (zns ui) rf) (jI h ?_ ?_))<;>intro uf h
 ·cases h;exact jz
 refine jg [] [] [(25,kB ((decide (uv<0))|| ((decide (uv>=(sv.length:Int)))|| ((decide (d<0))|| (decide (d>64))))))] ?_ ?_
 ·refine (rsl 3 [] 12 (decide (uv<0)) ?_ ?_)<;>intro ug
  · exact (rbl [] 25 true rfl (by grind))
  refine (rsl 6 [] 18 (decide (uv>=(sv.length:Int))) ?_ ?_)<;>intro uj
  · exact (rbl [] 25 true rfl (by grind))
  refine (rsl 4 [] 22 (decide (d<0)) ?_ ?_)<;>intro uk
  · exact (rbl [] 25 true rfl (by grind))
  exact (rbl [] 25 (decide (d>64)) rfl (by grind))
 refine jI h ?_ ?_<;>intro uq h
 ·cases h;exact jz
 cases h;exact jz
theorem zmB (vT:∀{sv:(List ze)} {m:Int} {b:(List UInt8)} {d:Int} {r:(Int×Int)},xj sv m b d=some r->wj 27 [.sl zi [0] sv,kI m,.sl Rp.byte [0] b,kI d] [kI r.1,kI r.2]) (h:zbK xj sv m b d=some r):wj 27 [.sl zi [0] sv,kI m,.sl Rp.byte [0] b,kI d] [kI r.1,kI r.2]:=by
 refine fi 106 func27 fun Xt=>?_
 unfold zbK at h;refine jp (jp (zp (jb h fun q ul h=>jL ul [0,1,2,3] [] (fun s=>[(10,kI s)]) (fun| (.inl v_)=> .x 0 ⟨[],[]⟩| (.inr v_)=> .r ⟨[(8,kI v_.1),(9,kI v_.2)],[]⟩) ?_ lzz ?_)))
 ·clear h;intro wu o h;unfold zaY at h;refine jp (jI h ?_ ?_)<;>intro uf h
  ·refine zp (jb h fun x ut h=>jb h fun rv ui h=>jr (rx 2 [0] zfZ.el ut rfl rfl (rc 0 rfl (lde zi [0] x zsC) (rl 2 [0] 10 call47 (ziW ui) (rfl' [12])))) (jp (jI h ?_ ?_)))<;>intro ug h
   ·cases h;exact jz'
   refine jb h fun v3 uD h=>jr (ra 7 [.sl Rp.byte [0] b,kI rv.1.R.At,kI rv.1.R.To] rfl (zeD (some (kI rv.1.R.At)) (some (kI rv.1.R.To)) rfl zcr.el (zbq _ _ _) ⟨rfl,rfl⟩ ⟨rfl,rfl⟩ uD) rfl rf) (jp (jI h ?_ ?_))<;>intro uj h
   ·refine jb h fun x2 uw h=>jb h fun x3 uE h=>jd [0,1,2,3,10,11,13,14] [12,13] zbo (by exact (lwn 2 (di [0] zfZ.el uw (lw_e (lx (ldl zi [0] x2 1 zf x2.Fields) (lwn 2 (di [0] zif.el uE (lx (lde zf [0] x3 znI) (lx (zkg 13 [kS [],kI 0,kI 0,kB false,kB false,kI 0] rfl zeroValue62 rfl) (ly [.ptr 13 0,.rc zf [0] x3] (zjp (r:=zf) (b:=⟨13,62,[kS [],kI 0,kI 0,kB false,kB false,kI 0]⟩) (off:=0) (zab x3) rfl sizeOf62 rfl rfl rfl rfl) rfl l0)))))))))) (jp (jI h ?_ ?_))<;>intro uk h
    ·refine jb h fun wo uo h=>jr (rl 3 [0] 12 call48 (ziV uo) rf) (jp (jI h ?_ ?_))<;>intro uq h
     ·cases h;exact jz'
     refine jp (zJ ?_);cases h;exact zL lzz
    refine jb h fun g uh h=>jg [0,1,2,3,10,11,13,14] [12,13] [(77,kB g)] ?_ ?_
    ·refine (rsI 4 73 uh ?_ ?_)<;>intro ur uh
     ·refine jb uh fun wy uB uh=>?_;cases uh;exact (rl 1 [0] 13 call49 (znp uB) (rel [] lzz))
     cases uh;exact (rel [] lzz)
    refine jI h ?_ ?_<;>intro uy h
    ·cases h;exact jz'
    refine jp (jI h ?_ ?_)<;>intro uC h
    ·refine jp (jI h ?_ ?_)<;>intro uF h
     ·cases h;exact jz'
     refine jb h fun rv4 uM h=>jr (rl 6 [0] 13 call27 (vT uM) rf) (jp (jI h ?_ ?_))<;>intro uI h
     ·cases h;exact jz'
     refine jp (zJ ?_);cases h;exact zL lzz
    refine jp (zJ ?_);cases h;exact zL lzz
   refine jp (zJ ?_);cases h;exact zL lzz
  cases h;exact zad rfl lzz
 rcases q with u| u2
 ·refine zao _ rfl ?_;cases h;exact jz
 cases h;exact zer lzz
theorem znu (h:zaT uz sv m b d=some r):wj 27 [.sl zi [0] sv,kI m,.sl Rp.byte [0] b,kI d] [kI r.1,kI r.2]:=by
  induction uz generalizing sv m b d r with
  | zero=>exact absurd h nofun
  | succ uz ih=>exact zmB (fun hh=>ih hh) h
theorem zpp (h:zfo m b=some r):wj 33 [.rc zi [0] m,.sl Rp.byte [0] b] [.own zan 85 2 [] r.1,kI r.2.1,kI r.2.2]:=by
 refine fi 34 func33 fun Xt=>?_
 unfold zfo at h;refine jr (ra 0 [.rc zi [0] m] rfl (zhT 16 (zK [0] m) [0] rfl rfl rfl rfl rfl) rfl rf) (jp (jp (zp (jb h fun q ul h=>jL ul [1,2] [16] (fun s=>[(7,.own zan 85 20 [] s.1),(8,kI s.2)]) (fun| (.inl v_)=> .x 0 ⟨[(7,.own zan 85 20 [] v_)],[]⟩| (.inr v_)=> .r ⟨[(4,kN),(5,kI v_.1),(6,kI v_.2)],[]⟩) ?_ lw ?_))))
 ·clear h;intro s o h;obtain ⟨out,wu⟩:=s;replace h:zaI b m out wu=some o:=h;unfold zaI at h;refine jp (jI h ?_ ?_)<;>intro uf h
  ·refine zp (jb h fun rv ui h=>jr (rl 3 [0] 19 call47 (ziW ui) (rfl' [21])) (jp (jI h ?_ ?_)))<;>intro ug h
   ·cases h;exact jz'
   refine jb h fun v3 uD h=>jr (lb 1 zan [] rv.1 (rc 0 rfl (lbs1 22 [] rv.1 zrD) (rc 0 rfl (lao 20 [] 85 22 [] [] zrD.el uD (.inl zrb)) rf))) (jp (zJ ?_));cases h;exact zL lzz
  cases h;exact zad rfl lzz
 rcases q with u| u2
 ·refine zao _ rfl (jp ?_);cases h;exact zz (lks [] [(20,2)] lzz)
 cases h;exact zer lw
theorem ztl (h:zhZ sv=some r):wj 76 [.sl zi [0] sv] [.rc zdI [] r.1,k8 r.2]:=by
 refine fj ⟨[(2,.ptr 2 0),(3,k8 r.2)],[⟨2,150,(znl r.1)⟩]⟩ 62 func76 ⟨⟨_,_,rfl,rfl,rfl,rfl,zIr⟩,rfl,trivial⟩ fun Xt=>?_
 unfold zhZ at h;refine jq [12] (jg [0,2] [12] [(18,kB ((decide ((sv.length:Int)<1))|| (decide ((sv.length:Int)>100))))] ?_ ?_)
 ·refine (rsl 4 [] 14 (decide ((sv.length:Int)<1)) ?_ ?_)<;>intro uf
  · exact (rbl [] 18 true rfl (by grind))
  exact (rbl [] 18 (decide ((sv.length:Int)>100)) rfl (by grind))
 refine jI h ?_ ?_<;>intro ug h
 ·refine jr (rc 0 rfl (zQ (r:=zdI) [kI (-1),kI (-1),kI 1] [] (⟨(-1),(-1),1⟩:zaq) rfl zyA rfl rfl) rf) ?_;cases h;exact zz (lks [12] [(12,2)] lzz)
 refine jb h fun rv ui h=>jr (rl 2 [1] 11 call89 (zzy ui) (rc 0 rfl (zkh (rk:=zB) (rv:=Rp.bool) 14 rfl) (rc 0 rfl (zkh (rk:=zC) (rv:=Rp.bool) 15 rfl) (rc 0 rfl (lbd [kI (sv.length:Int),.own wh 3 13 [] rv,.om zB Rp.bool 14 [] ([]:(List (zr×Bool))),.om zC Rp.bool 15 [] ([]:(List (zt×Bool)))] zJb) (rfl' [16]))))) (jp (zp (jb h fun q2 uK h=>jl uK [2,4,26,27] [12] (fun s=>[(28,kI s.1)]) (fun s=>[⟨16,177,[kI (sv.length:Int),.own wh 3 13 [] rv,.om zB Rp.bool 14 [13,0] s.2.1,.om zC Rp.bool 15 [13,0] s.2.2]⟩]) (fun| (.inl v_)=> .X 0 [2] [12] [] []| (.inr v_)=> .r ⟨[(2,.ptr 12 0),(3,k8 9)],[⟨12,150,[kI v_.1,kI v_.2.1,kI v_.2.2]⟩]⟩) ?_ lw ?_)))
 ·clear h;intro s o h;obtain ⟨v2,f,f2⟩:=s;replace h:zbb rv sv v2 f f2=some o:=h;unfold zbb at h;refine jp (jI h ?_ ?_)<;>intro uj h
  ·refine zp (jb h fun x ut h=>jr (rx 1 [0] zfZ.el ut rfl rfl (rc 0 rfl (lde zi [0] x zsC) (ral 2 [18] [.ptr 18 0,.rc zi [0] x] rfl (zjp (r:=zi) (b:=⟨18,65,[kS [],kN]⟩) (off:=0) (zK [0] x) rfl sizeOf65 rfl rfl rfl rfl) rfl rf))) (jb h fun wy uB h=>jr (rkl 2 [] ⟨[(2,.ptr 12 0),(4,.ptr 16 0),(5,kI v2),(6,.ptr 18 0),(26,.sl zi [0] sv),(27,kI (sv.length:Int)),(28,kI v2),(33,.ag [kI (sv.length:Int),.own wh 3 13 [] rv,.om zB Rp.bool 14 [13,0] f,.om zC Rp.bool 15 [13,0] f2]),(34,.ag (zK [0] x))],[⟨12,150,[kI 0,kI 0,kI 0]⟩,⟨16,177,[kI (sv.length:Int),.own wh 3 13 [] rv,.om zB Rp.bool 14 [13,0] f,.om zC Rp.bool 15 [13,0] f2]⟩,⟨18,65,(zK [0] x)⟩]⟩ (zla ⟨[(2,.ptr 12 0),(4,.ptr 16 0),(5,kI v2),(6,.ptr 18 0),(26,.sl zi [0] sv),(27,kI (sv.length:Int)),(28,kI v2),(33,.ag [kI (sv.length:Int),.own wh 3 13 [] rv,.om zB Rp.bool 14 [13,0] wy.2.1,.om zC Rp.bool 15 [13,0] wy.2.2]),(34,.ag (zK [0] x))],[⟨12,150,[kI 0,kI 0,kI 0]⟩,⟨16,177,[kI (sv.length:Int),.own wh 3 13 [] rv,.om zB Rp.bool 14 [13,0] wy.2.1,.om zC Rp.bool 15 [13,0] wy.2.2]⟩,⟨18,65,(zK [0] x)⟩]⟩ (znE.le (ins':=[(.tmp 33,.ag [kI (sv.length:Int),.own wh 3 13 [] rv,.om zB Rp.bool 14 [13,0] f,.om zC Rp.bool 15 [13,0] f2]),(.tmp 34,.ag (zK [0] x))]) (zld (args:=[.tmp 33,.tmp 34]) [.ag [kI (sv.length:Int),.own wh 3 13 [] rv,.om zB Rp.bool 14 [13,0] f,.om zC Rp.bool 15 [13,0] f2],.rc zi [0] x] [(14,2),(15,3)] [13,0] 19 [] rfl call90 (zme uB) rfl rfl (by kernel_rfl) rfl rfl rfl) ⟨⟨rfl,wk _⟩,⟨rfl,zgM zi [0] x (zK [0] x) rfl rfl⟩,trivial⟩) rfl (by kernel_rfl) (by kernel_rfl) ⟨⟨_,rfl,zv rfl⟩,⟨_,rfl,zv rfl⟩,⟨_,rfl,zv rfl⟩,⟨_,rfl,zv rfl⟩,⟨_,rfl,zv rfl⟩,⟨_,rfl,zv rfl⟩,⟨_,rfl,zv rfl⟩,⟨_,rfl,zpN ⟨zv rfl,zv rfl,zhi 0 rfl,zhi 1 rfl,trivial⟩⟩,⟨_,rfl,zv rfl⟩,trivial⟩ ⟨⟨_,rfl,rfl,rfl,⟨zv rfl,zv rfl,zv rfl,trivial⟩⟩,⟨_,rfl,rfl,rfl,⟨zv rfl,zv rfl,zhi 0 rfl,zhi 1 rfl,trivial⟩⟩,⟨_,rfl,rfl,rfl,⟨zv rfl,zv rfl,trivial⟩⟩,trivial⟩ rf)) (jp (jI h ?_ ?_))))<;>intro uk h
   ·refine jr (rc 2 rfl (zQ (r:=zdI) [kI v2,kI (-1),kI wy.1] [] (⟨v2,(-1),wy.1⟩:zaq) rfl zyA rfl rfl) rf) ?_;cases h;exact zoS lzz
   refine jp (zp (jb h fun q ul h=>jl ul [2,4,5,26,27,28,42,43] [12] (fun s=>[(44,kI s.1)]) (fun s=>[⟨16,177,[kI (sv.length:Int),.own wh 3 13 [] rv,.om zB Rp.bool 14 [13,0] s.2.1,.om zC Rp.bool 15 [13,0] s.2.2]⟩]) (fun| (.inl v_)=> .X 2 [2,4,26,27,28] [12] [] [⟨16,177,[kI (sv.length:Int),.own wh 3 13 [] rv,.om zB Rp.bool 14 [13,0] v_.1,.om zC Rp.bool 15 [13,0] v_.2]⟩]| (.inr v_)=> .r ⟨[(2,.ptr 12 0),(3,k8 9)],[⟨12,150,[kI v2,kI v_.1,kI v_.2]⟩]⟩) ?_ lzz ?_))
   ·clear h;intro s o h;obtain ⟨v3,f6,f7⟩:=s;replace h:zct rv sv v2 x v3 f6 f7=some o:=h;unfold zct at h;refine jp (jI h ?_ ?_)<;>intro uq h
    ·refine zp (jb h fun x2 uw h=>jr (rx 1 [0] zif.el uw rfl rfl (rc 0 rfl (lde zf [0] x2 znI) (rfl' [24]))) (jb h fun rv5 uW h=>jr (lb 2 zf [] x2 (rkl 0 [] ⟨[(2,.ptr 12 0),(4,.ptr 16 0),(5,kI v2),(8,kI v3),(26,.sl zi [0] sv),(27,kI (sv.length:Int)),(28,kI v2),(42,.sl zf [0] x.Fields),(43,kI (x.Fields.length:Int)),(44,kI v3),(49,.ag [kI (sv.length:Int),.own wh 3 13 [] rv,.om zB Rp.bool 14 [13,0] f6,.om zC Rp.bool 15 [13,0] f7]),(50,kI v2),(51,.rc zf [] x2)],[⟨12,150,[kI 0,kI 0,kI 0]⟩,⟨16,177,[kI (sv.length:Int),.own wh 3 13 [] rv,.om zB Rp.bool 14 [13,0] f6,.om zC Rp.bool 15 [13,0] f7]⟩]⟩ (zla ⟨[(2,.ptr 12 0),(4,.ptr 16 0),(5,kI v2),(8,kI v3),(26,.sl zi [0] sv),(27,kI (sv.length:Int)),(28,kI v2),(42,.sl zf [0] x.Fields),(43,kI (x.Fields.length:Int)),(44,kI v3),(49,.ag [kI (sv.length:Int),.own wh 3 13 [] rv,.om zB Rp.bool 14 [13,0] rv5.2.1,.om zC Rp.bool 15 [13,0] rv5.2.2]),(50,kI v2),(51,.rc zf [] x2)],[⟨12,150,[kI 0,kI 0,kI 0]⟩,⟨16,177,[kI (sv.length:Int),.own wh 3 13 [] rv,.om zB Rp.bool 14 [13,0] rv5.2.1,.om zC Rp.bool 15 [13,0] rv5.2.2]⟩]⟩ (zld [.ag [kI (sv.length:Int),.own wh 3 13 [] rv,.om zB Rp.bool 14 [13,0] f6,.om zC Rp.bool 15 [13,0] f7],kI v2,.rc zf [] x2] [(14,2),(15,3)] [13,0] 25 [] rfl call91 (zny uW) rfl rfl (by kernel_rfl) rfl rfl rfl) rfl (by kernel_rfl) (by kernel_rfl) ⟨⟨_,rfl,zv rfl⟩,⟨_,rfl,zv rfl⟩,⟨_,rfl,zv rfl⟩,⟨_,rfl,zv rfl⟩,⟨_,rfl,zv rfl⟩,⟨_,rfl,zv rfl⟩,⟨_,rfl,zv rfl⟩,⟨_,rfl,zv rfl⟩,⟨_,rfl,zv rfl⟩,⟨_,rfl,zv rfl⟩,⟨_,rfl,zpN ⟨zv rfl,zv rfl,zhi 0 rfl,zhi 1 rfl,trivial⟩⟩,⟨_,rfl,zv rfl⟩,⟨_,rfl,zv rfl⟩,trivial⟩ ⟨⟨_,rfl,rfl,rfl,⟨zv rfl,zv rfl,zv rfl,trivial⟩⟩,⟨_,rfl,rfl,rfl,⟨zv rfl,zv rfl,zhi 0 rfl,zhi 1 rfl,trivial⟩⟩,trivial⟩ rf))) (jp (jI h ?_ ?_))))<;>intro ur h
     ·refine jr (rc 3 rfl (zQ (r:=zdI) [kI v2,kI v3,kI rv5.1] [] (⟨v2,v3,rv5.1⟩:zaq) rfl zyA rfl rfl) rf) ?_;cases h;exact zoS lzz
     refine zJ ?_;cases h;exact jy
    cases h;exact zad rfl lzz
   rcases q with u| u2
   ·refine zao _ rfl (zJ ?_);cases h;exact jy
   cases h;exact zxU lzz
  cases h;exact zad rfl lzz
 rcases q2 with u3| u4
 ·refine zao _ rfl (jr (rc 0 rfl (zQ (r:=zdI) [] [] (⟨0,0,0⟩:zaq) rfl zyA rfl rfl) rf) ?_);cases h;exact zz (lks [12] [(12,2)] lzz)
 cases h;exact zer (lks [12] [(12,2)] lzz)
theorem zry (h:zjR m b uu met=some r):zhO prog 67 [.rc zi [0] m,.sl Rp.byte [0] b,kI uu,.om zW zZ 2 [0] met] [.rc zg [] r.1,k8 r.2.1] [.any,.any,.any,.om zW zZ 2 [0] r.2.2]:=by
 refine zjJ (E:=⟨[(3,.om zW zZ 2 [0] r.2.2),(8,.ptr 3 0),(9,k8 r.2.1)],[⟨3,106,(zcb r.1)⟩]⟩) 56 [3] func67 rfl rfl rfl ⟨⟨_,_,rfl,rfl,rfl,rfl,zli⟩,rfl,trivial⟩ ⟨.inl rfl,.inl rfl,.inl rfl,.inr ⟨rfl,rfl⟩,trivial⟩ rfl (fun Xt old=>?_);refine zdt ?_;unfold zjR at h;refine jr (ra 0 [.rc zi [0] m] rfl (zhT 13 (zK [0] m) [0] rfl rfl rfl rfl rfl) rfl (rfl' [14])) (jb h fun rv ui h=>jr (rl 2 [0] 13 call83 (zow ui) (rfl' [15])) (jp (jI h ?_ ?_)))<;>intro uf h
 ·refine jr (rc 0 rfl (zQ (r:=zg) [] [] (⟨(⟨0,0,0,0,0⟩:zj),0,false⟩:zc) rfl zvo rfl rfl) rf) ?_;cases h;exact zgp (lks [14] [(14,3)] lzz)
 refine jr (rc 4 rfl (zQ (r:=zW) [kI rv.1.Number,kI rv.1.Wire] [] (⟨rv.1.Number,rv.1.Wire⟩:zM) rfl zJf rfl rfl) (rfl' [16])) (jr (lb 1 zW [] (⟨rv.1.Number,rv.1.Wire⟩:zM) (ra 0 [.om zW zZ 2 [0] met,.rc zW [] (⟨rv.1.Number,rv.1.Wire⟩:zM)] rfl (zrT (rk:=zW) (rv:=zZ) (m:=met) (k:=(⟨rv.1.Number,rv.1.Wire⟩:zM)) (.rc zZ [0] ((mget met (⟨rv.1.Number,rv.1.Wire⟩:zM)).getD (⟨0,false,0⟩:zP))) rfl zCD (zcT rfl) (zxM rfl)) rfl (rfl' [17]))) (jp (jb h fun p uH h=>jn (.N [8,10,13] [14,15] [(3,.om zW zZ 2 [0] p.1)] [⟨17,164,[kI p.2.1,kB p.2.2.1,k8 p.2.2.2]⟩]) ?_ ?_)))
 ·replace h:=uH;refine jI h ?_ ?_<;>intro ug h
  ·refine jb h fun wo uo h=>jr (lb 1 zW [] (⟨rv.1.Number,rv.1.Wire⟩:zM) (rl 0 [0] 16 call84 (zvC uo) rf)) (jr (lb 1 zW [] (⟨rv.1.Number,rv.1.Wire⟩:zM) (lb 0 zZ [] wo (rms (C1:=[]) (D:=[]) 0 [] 2 [0] met (⟨rv.1.Number,rv.1.Wire⟩:zM) wo [0] zCD (zcT rfl) (zcT rfl) rf))) ?_);cases h;exact zL lzz
  cases h;exact zL lzz
 refine zcQ (jp (jI h ?_ ?_))<;>intro uj h
 ·refine jd [3,8,9] [14] zbo (by exact (lx (zQ (r:=zg) [] [] (⟨(⟨0,0,0,0,0⟩:zj),0,false⟩:zc) rfl zvo rfl rfl) (lwn 2 (ly [.ptr 14 0,.rc zg [] (⟨(⟨0,0,0,0,0⟩:zj),0,false⟩:zc)] (zjp (r:=zg) (b:=⟨14,106,[kI 0,kI 0,kI 0,kI 0,kI 0,kI 0,kB false]⟩) (off:=0) [kI 0,kI 0,kI 0,kI 0,kI 0,kI 0,kB false] rfl sizeOf106 rfl rfl rfl rfl) rfl l0)))) ?_;cases h;exact zgp (lks [14] [(14,3)] lzz)
 refine jr (lb 0 zw [] rv.1 (rc 4 rfl (zQ (r:=zg) [.rc zw [] rv.1,kI p.2.1,kB p.2.2.1] [] (⟨rv.1,p.2.1,p.2.2.1⟩:zc) rfl zvo rfl rfl) rf)) ?_;cases h;exact zgp (lks [14] [(14,3)] lzz)
theorem zne (v:Int) (v2:(List UInt8)):ItOk prog 136 [.bp wh 3 913600 [] v,.bp (Rp.list Rp.byte) 24 913601 [0] v2] (fun x:((List UInt8)×Int)=>[.sl Rp.byte [0] x.1,k8 x.2]) (fun {σ:Type} (kf:Rnd σ ((List UInt8)×Int)) (sg:σ)=>zed v v2 kf sg):=by
 refine zES 38 [(1,.ptr 913600 0),(2,.ptr 913601 0)] [⟨913600,3,[kI v]⟩,⟨913601,24,[.sl Rp.byte [0] v2]⟩] func136 rfl rfl rfl rfl (.cons wh 3 913600 [] v [kI v] rfl rfl (.cons (Rp.list Rp.byte) 24 913601 [0] v2 [.sl Rp.byte [0] v2] rfl rfl (.nil _))) ?_;intro σ kf sg s1 h l I hI F_ hT;replace h:zed v v2 kf sg=some s1:=h;refine zdt (zoa (E':=⟨[(0,.lf (.val (.func (.yield l) #[] #[]))),(1,.ptr 913600 0),(2,.ptr 913601 0)],[⟨913600,3,[kI v]⟩,⟨913601,24,[.sl Rp.byte [0] v2]⟩]⟩) (fun _ _ _ hs=>hs) ?_);unfold zed at h;refine jb h fun rv ui h=>jr (rl 1 [1] 9 call137 (zyt ui) rf) (jp (jI h ?_ ?_))<;>intro uf h
 ·refine jb h fun y vn h=>zzv (E':=⟨[],[]⟩) (x:=(([]:(List UInt8)),2)) (b:=y.1) (s':=y.2) 1 (some 13) [.const (.slice none 0 0),.const (.int .u8 2)] [kN,k8 2] [.sl Rp.byte [0] ([]:(List UInt8)),k8 2] ⟨[(12,.lf (.val (.func (.yield l) #[] #[])))],[]⟩ hT rfl rfl rfl rfl rfl rgg rfl ⟨rfl,⟨rfl,trivial⟩⟩ rfl ⟨zrS _ _,wk _,trivial⟩ rfl rfl vn rgg ?_;cases h;exact zIA lzz
 refine jp (zp (jb h fun q ul h=>zEU (fun s:((List UInt8)×σ)=>zbT kf rv s.1 s.2) (fun s=>⟨⟨38,[]⟩,itX I hI F_ s.2,false,#[]⟩) (fun s=>⟨[(0,.lf (.val (.func (.yield l) #[] #[]))),(4,kI rv),(5,.sl Rp.byte [0] s.1)],[]⟩) (fun o e a w=>match o with| (.inl v_)=>e= .exit 0/\Sx ⟨⟨38,[]⟩,itX I hI F_ v_,false,#[]⟩ ⟨[],[]⟩ a w| (.inr v_)=>e= .ret/\Sx ⟨⟨38,[]⟩,itX I hI F_ v_,false,#[]⟩ ⟨[],[]⟩ a w) ?_ ul rfl lzz ?_))
 ·clear h;intro s o h;obtain ⟨wr,sg2⟩:=s;refine zdt ?_;replace h:zbT kf rv wr sg2=some o:=h;unfold zbT at h;refine jp (jI h ?_ ?_)<;>intro ug h
  ·refine zp (jb h fun wo uo h=>jr (rl 2 [0] 10 call138 (zys uo) rf) (jb h fun v3 uD h=>jb h fun y2 vp h=>zzv (E':=⟨[(0,.lf (.val (.func (.yield l) #[] #[]))),(4,kI rv),(5,.sl Rp.byte [0] wr),(6,kI wo.1),(34,kB ((!y2.1)|| (wo.2 !=0)))],[]⟩) (x:=(v3,wo.2)) (b:=y2.1) (s':=y2.2) 5 (some 29) [.tmp 27,.tmp 28] [.sl Rp.byte [0] v3,k8 wo.2] [.sl Rp.byte [0] v3,k8 wo.2] ⟨[(0,.lf (.val (.func (.yield l) #[] #[]))),(4,kI rv),(5,.sl Rp.byte [0] wr),(6,kI wo.1),(7,k8 wo.2),(24,.lf (.val (.func (.yield l) #[] #[]))),(27,.sl Rp.byte [0] v3),(28,k8 wo.2)],[]⟩ hT rfl rfl rfl rfl rfl (ra 3 [.sl Rp.byte [0] wr,kI wo.1] rfl (zeD none (some (kI wo.1)) rfl zcr.el (zbq _ _ _) ⟨rfl,rfl⟩ ⟨rfl,rfl⟩ uD) rfl rgg) rfl ⟨rfl,⟨rfl,trivial⟩⟩ rfl ⟨wk _,wk _,trivial⟩ rfl rfl vp ?_ ?_))
   ·refine (rsl 2 [] 31 (!y2.1) ?_ ?_)<;>intro uj
    · exact (rbl [] 34 true rfl (by grind))
    exact (rbl [] 34 (wo.2 !=0) rfl (by grind))
   refine jI h ?_ ?_<;>intro uk h
   ·cases h;exact zoS lzz
   refine jb h fun v5 uV h=>jr (ra 2 [.sl Rp.byte [0] wr,kI wo.1] rfl (zeD (some (kI wo.1)) none rfl zcr.el (zbq _ _ _) ⟨rfl,rfl⟩ ⟨rfl,rfl⟩ uV) rfl rf) (zJ ?_);cases h;exact zL lzz
  cases h;exact zad rfl lzz
 rcases q with u| u2
 ·refine zao _ rfl ?_;cases h;exact zIz lzz
 cases h;exact zIC lzz
theorem zgl (h:zcy uz sv uv b d=some r):wj 9 [.sl zi [0] sv,kI uv,.sl Rp.byte [0] b,kI d] [kI r.1,kI r.2]:=by
 refine fi 25 func9 fun Xt=>?_
 unfold zcy at h;refine jp (jb h fun rv ui h=>jr (rl 3 [0] 9 call26 (znU ui) rf) (jp (jI h ?_ ?_)))<;>intro uf h
 ·cases h;exact jz
 refine jb h fun wo uo h=>jr (rl 4 [0] 9 call27 (znu uo) rf) ?_;cases h;exact zz lzz
theorem zpr (vC:∀{sv:(List ze)} {uv:Int} {b:(List UInt8)} {r:zb},xa sv uv b=some r->wj 12 [.sl zi [0] sv,kI uv,.sl Rp.byte [0] b] [.ag (zG 3 [4] 5 [] r)]) (h:zeS xa sv uv b=some r):wj 12 [.sl zi [0] sv,kI uv,.sl Rp.byte [0] b] [.ag (zG 3 [4] 5 [] r)]:=by
 refine fj ⟨[(6,.ptr 2 0)],[⟨2,40,(zG 3 [4] 5 [] r)⟩]⟩ 221 func12 ⟨⟨_,_,rfl,rfl,rfl,znH⟩,trivial⟩ fun Xt=>?_
 unfold zeS at h;refine jq [146] (jb h fun x ut h=>jb h fun rv ui h=>jr (rx 2 [0] zfZ.el ut rfl rfl (rc 0 rfl (lde zi [0] x zsC) (rl 1 [0] 145 call33 (zpp ui) rf))) (jq [148] (jb h fun x2 uw h=>jb h fun wo uo h=>jr (rx 2 [0] zfZ.el uw rfl rfl (rc 0 rfl (lde zi [0] x2 zsC) (rl 0 [0] 147 call34 (zmA uo) rf))) (jp (zp (jb h fun q2 uK h=>jl uK [0,1,2,6,7,10,11] [146] (fun s=>[(12,kI s.1)]) (fun s=>[⟨148,40,[.own zh 74 193 [150] s.2,kN]⟩]) (fun o=> .X 0 [2,6,7,10] [146] [] [⟨148,40,[.own zh 74 193 [150] o,kN]⟩]) ?_ lw ?_))))))
 ·clear h;intro s o h;obtain ⟨i,f⟩:=s;replace h:zbL b xa uv rv wo sv i f=some o:=h;unfold zbL at h;refine jp (jI h ?_ ?_)<;>intro uf h
  ·refine zp (jb h fun x3 uE h=>jb h fun x4 uL h=>jb h fun x5 uU h=>jd [0,1,2,6,7,10,11,12,13] [146,148,236] zbo (by exact (lwn 2 (di [0] zfZ.el uE (lw_e (lx (ldl zi [0] x3 1 zf x3.Fields) (lwn 2 (ly [.own wh 3 149 [] wo,kI i] (zhw rfl zin.el (zaS _ _ _ _ _) uL) rfl (lw_e (di [0] zif.el uU (lx (lde zf [0] x5 znI) (lx (zkg 236 [kS [],kI 0,kI 0,kB false,kB false,kI 0] rfl zeroValue62 rfl) (ly [.ptr 236 0,.rc zf [0] x5] (zjp (r:=zf) (b:=⟨236,62,[kS [],kI 0,kI 0,kB false,kB false,kI 0]⟩) (off:=0) (zab x5) rfl sizeOf62 rfl rfl rfl rfl) rfl l0)))))))))))) (jr (ra 2 [kI x5.Number] rfl (zhv [kI x5.Number] [kI x5.Number,kN,kN,kN] rfl zCV rfl) rfl (rfl' [237])) (jp (jp (jp (zp (jb h fun q ul h=>jl ul [0,1,2,6,7,10,11,12,13,14] [146,148,236] (fun s=>[(15,.own Rp.byte 5 249 [] s.1),(16,kB s.2.1),(17,kI s.2.2.1)]) (fun s=>[⟨237,74,[kI x5.Number,.own wi 89 240 [] s.2.2.2.1,.own Rp.str 9 251 [] s.2.2.2.2.1,.own zn 40 248 [238] s.2.2.2.2.2]⟩]) (fun o=> .X 2 [0,1,2,6,7,10,11,12,13,14] [146,148,236] [(15,.own Rp.byte 5 249 [] o.1),(16,kB o.2.1)] [⟨237,74,[kI x5.Number,.own wi 89 240 [] o.2.2.1,.own Rp.str 9 251 [] o.2.2.2.1,.own zn 40 248 [238] o.2.2.2.2]⟩]) ?_ lw ?_)))))))
   ·clear h;intro s o h;obtain ⟨wN,met,k,f3,f4,f5⟩:=s;replace h:zbM b i xa rv wo sv x5 wN met k f3 f4 f5=some o:=h;unfold zbM at h;refine jp (jI h ?_ ?_)<;>intro ug h
    ·refine zp (jb h fun x6 vb h=>jb h fun x7 vr h=>jd [0,1,2,6,7,10,11,12,13,14,15,16,17,74] [146,148,236,237] zbo (by exact (lwn 2 (ly [.own zan 85 147 [] rv.1,kI k] (zhw rfl zrD.el (zaS _ _ _ _ _) vb) rfl (lwn 4 (ly [.own wh 3 149 [] wo,kI i] (zhw rfl zin.el (zaS _ _ _ _ _) vr) rfl l0))))) (jI h ?_ ?_))<;>intro uj h
     ·refine zCo _ rfl ?_;cases h;exact jy
     refine jp (jb h fun x8 vU h=>jb h fun x9 vV h=>jb h fun v uG h=>jd [0,1,2,6,7,10,11,12,13,14,15,16,17,18] [146,148,236,237] zbo (by exact (lwn 3 (ly [.own zan 85 147 [] rv.1,kI k] (zhw rfl zrD.el (zaS _ _ _ _ _) vU) rfl (lwn 5 (ly [.own zan 85 147 [] rv.1,kI k] (zhw rfl zrD.el (zaS _ _ _ _ _) vV) rfl (lwn 3 (ly [.sl Rp.byte [0] b,kI x8.R.At,kI x9.R.To] (zeD (some (kI x8.R.At)) (some (kI x9.R.To)) rfl zcr.el (zbq _ _ _) ⟨rfl,rfl⟩ ⟨rfl,rfl⟩ uG) rfl l0))))))) (jp (jb h fun p uH h=>jn (.N [0,1,2,6,7,10,11,12,13,14,15,16,17,18] [146,148,236] [] [⟨237,74,[kI x5.Number,.own wi 89 240 [] p.1,.own Rp.str 9 251 [] p.2,.own zn 40 248 [238] f5]⟩]) ?_ ?_)))
     ·replace h:=uH;refine jI h ?_ ?_<;>intro uk h
      ·refine jp ?_;cases h;exact zL lw
      cases h;exact zL lzz
     refine zcQ (zp (jb h fun x10 vW h=>jr (ra 2 [.own zan 85 147 [] rv.1,kI k] rfl (zhw rfl zrD.el (zaS _ _ _ _ _) vW) rfl rf) (jI h ?_ ?_)))<;>intro uq h
     ·refine jb h fun wy uB h=>jr (rl 3 [0] 257 call35 (znt uB) rf) (jb h fun v2 uJ h=>jr (rc 3 rfl (lao 240 [] 89 259 [] [] zmq.el uJ (.inl (zfu _))) rf) (zJ (zJ ?_)));cases h;exact jy
     refine jb h fun rv4 uM h=>jr (rl 2 [1] 258 call36 (zcX uM) rf) (jI h ?_ ?_)<;>intro ur h
     ·refine jb h fun rv5 uW h=>jr (rl 3 [0] 258 call37 (ziU uW) rf) (jb h fun v3 uD h=>jr (rc 3 rfl (zdE [kU rv5.1] 260 [] ([rv5.1]:(List Int)) rfl zmq rfl rfl rfl rfl) (rc 0 rfl (lao 240 [] 89 260 [] [] zmq.el uD (.inl (zfu _))) rf)) (zJ (zJ ?_)));cases h;exact jy
     refine jg [0,1,2,6,7,10,11,12,13,14,15,16,17,18] [146,148,236,237] [(136,kB ((x5.Kind==17)&&x5.Repeated))] ?_ ?_
     ·refine (rsl 4 [] 140 (x5.Kind==17) ?_ ?_)<;>intro uy
      · exact (rbl [] 136 x5.Repeated rfl (by grind))
      exact (rbl [] 136 false rfl (by grind))
     refine jI h ?_ ?_<;>intro uC h
     ·refine jb h fun rv6 vc h=>jb h fun v5 uV h=>jd [0,1,2,6,7,10,11,12,13,14,15,16,17] [146,148,236,237] zbo (by exact (lwn 6 (lx (lf1 12 (lc0 259 call12 (vC vc))) (lx (zx.lw (lbs1 265 [262,263,264] rv6 zmr) (.l (zgM zn [262,263,264] rv6 (zG 262 [263] 264 [] rv6) (by rw [zT]<;>rfl) rfl))) (ly [.own zn 40 248 [238] f5,.own zn 40 265 [262,263,264] ([rv6]:(List zb))] (zx.withBx (zof 248 [238,265,262,263,264] rfl zmr.el rfl (zhs _ _ _ _ _) (zaS _ _ _ _ _) uV (.inr rfl) rfl) ⟨237,74,[kI x5.Number,.own wi 89 240 [] p.1,.own Rp.str 9 251 [] p.2,.own zn 40 248 [238] f5]⟩ rfl rfl) rfl (lw_e (ly [.ptr 237 3,.own zn 40 248 [238,265,262,263,264] v5] (zoh (b:=⟨237,74,[kI x5.Number,.own wi 89 240 [] p.1,.own Rp.str 9 251 [] p.2,.any]⟩) (off:=3) rfl sizeOf72 rfl rfl rfl) rfl l0))))))) (zJ (zJ (jp ?_)));cases h;exact zL (lks [146,148,236,237] [(265,238),(262,238),(263,238),(264,238)] lw)
     refine jp (jI h ?_ ?_)<;>intro uF h
     ·refine jb h fun v6 vf h=>jr (rc 2 rfl (las 249 [] [0] [] zcr.el vf (.inl zuT)) rf) (zJ (zJ ?_));cases h;exact jy
     refine jb h fun v7 vi h=>jr (ra 3 [.sl Rp.byte [0] v] rfl (zog rfl underlying24 underlying5 underlying9 (zbq _ _ _)) rfl (rc 0 rfl (zdE [kS v] 266 [] ([v]:(List Str)) rfl zhI rfl rfl rfl rfl) (rc 0 rfl (lao 251 [] 9 266 [] [] zhI.el vi (.inl zhA)) rf))) (zJ (zJ ?_));cases h;exact jy
    cases h;exact zad rfl lzz
   refine zao _ rfl (jg [0,1,2,6,7,10,11,12,13,14,15] [146,148,236,237] [(171,kB (q.2.1&&((x5.Kind==17)&&(!x5.Repeated))))] ?_ ?_)
   ·refine (rsl 2 [] 162 q.2.1 ?_ ?_)<;>intro uI
    ·refine (rsl 5 [] 167 (x5.Kind==17) ?_ ?_)<;>intro uS
     · exact (rbl [] 171 (!x5.Repeated) rfl (by grind))
     exact (rbl [] 171 false rfl (by grind))
    exact (rbl [] 171 false rfl (by grind))
   refine jb h fun p2 uR h=>jn (.N [0,1,2,6,7,10,11,12,14] [146,148] [] [⟨237,74,[kI x5.Number,.own wi 89 240 [] q.2.2.1,.own Rp.str 9 251 [] q.2.2.2.1,.own zn 40 271 [268,269,270,238] p2]⟩]) ?_ ?_
   ·replace h:=uR;refine jI h ?_ ?_<;>intro uN h
    ·refine jb h fun rv7 vd h=>jr (rl 4 [0,249] 270 call12 (vC vd) (rc 0 rfl (zx.lw (lbs1 276 [273,274,275] rv7 zmr) (.l (zgM zn [273,274,275] rv7 (zG 273 [274] 275 [] rv7) (by rw [zT]<;>rfl) rfl))) rf)) ?_;cases h;exact zL (lks [146,148,237] [(276,271),(273,238),(274,238),(275,238)] lw)
    cases h;exact zL (lks [146,148,237] [(248,271)] lw)
   refine zcQ (jb h fun rv8 vh h=>jr (rc 1 rfl (lcz [.ag [kI x5.Number,.own wi 89 240 [] q.2.2.1,.own Rp.str 9 251 [] q.2.2.2.1,.own zn 40 271 [268,269,270,238] p2]] 275 call38 (ziX vh) (.c (zI _) .n)) rf) (jI h ?_ ?_))<;>intro uQ h
   ·refine jb h fun v9 vX h=>jr (rc 3 rfl (zx.lw (lbs1 277 [240,251,271,268,269,270,238] (⟨x5.Number,q.2.2.1,q.2.2.2.1,p2⟩:za) zim) (.l (zgM zh [240,251,271,268,269,270,238] (⟨x5.Number,q.2.2.1,q.2.2.2.1,p2⟩:za) [kI x5.Number,.own wi 89 240 [] q.2.2.1,.own Rp.str 9 251 [] q.2.2.2.1,.own zn 40 271 [268,269,270,238] p2] (by rw [zI]<;>rfl) rfl))) (rc 0 rfl (lao 193 [150] 74 277 [240,251,271,268,269,270,238] [150,277,240,251,271,268,269,270,238] zim.el vX (.inr rfl)) rf)) (zJ (jp ?_));cases h;exact zL (lks [146,148] [(277,150),(240,150),(251,150),(271,150),(268,150),(269,150),(270,150),(238,150)] lw)
   refine zJ ?_;cases h;exact jy
  cases h;exact zad rfl lzz
 refine zao _ rfl (jp (zp (jb h fun q3 vg h=>jl vg [2,6,7,10] [146] (fun s=>[(23,kI s.1)]) (fun s=>[⟨148,40,[.own zh 74 193 [150] q2,.own Rp.str 9 280 [] s.2]⟩]) (fun o=> .X 5 [6,10] [146] [] [⟨148,40,[.own zh 74 193 [150] q2,.own Rp.str 9 280 [] o]⟩]) ?_ lw ?_)))
 ·clear h;intro s o h;obtain ⟨k2,f12⟩:=s;replace h:zaU b rv k2 f12=some o:=h;unfold zaU at h;refine jp (jI h ?_ ?_)<;>intro uT h
  ·refine zp (jb h fun x11 vY h=>jr (ra 2 [.own zan 85 147 [] rv.1,kI k2] rfl (zhw rfl zrD.el (zaS _ _ _ _ _) vY) rfl rf) (jI h ?_ ?_))<;>intro uO h
   ·refine jb h fun x12 vZ h=>jb h fun x13 wa h=>jb h fun v10 wb h=>jb h fun v11 wc h=>jd [2,6,7,10,23] [146,148] zbo (by exact (lwn 5 (ly [.own zan 85 147 [] rv.1,kI k2] (zhw rfl zrD.el (zaS _ _ _ _ _) vZ) rfl (lwn 5 (ly [.own zan 85 147 [] rv.1,kI k2] (zhw rfl zrD.el (zaS _ _ _ _ _) wa) rfl (lwn 3 (ly [.sl Rp.byte [0] b,kI x12.R.From,kI x13.R.To] (zeD (some (kI x12.R.From)) (some (kI x13.R.To)) rfl zcr.el (zbq _ _ _) ⟨rfl,rfl⟩ ⟨rfl,rfl⟩ wb) rfl (ly [.sl Rp.byte [0] v10] (zog rfl underlying24 underlying5 underlying9 (zbq _ _ _)) rfl (lx (zdE [kS v10] 281 [] ([v10]:(List Str)) rfl zhI rfl rfl rfl rfl) (ly [.own Rp.str 9 280 [] f12,.own Rp.str 9 281 [] ([v10]:(List Str))] (zx.withBx (zof 280 [] rfl zhI.el rfl (zhs _ _ _ _ _) (zaS _ _ _ _ _) wc (.inl zhA) rfl) ⟨148,40,[.own zh 74 193 [150] q2,.own Rp.str 9 280 [] f12]⟩ rfl rfl) rfl (lw_e (ly [.ptr 148 1,.own Rp.str 9 280 [] v11] (zoh (b:=⟨148,40,[.own zh 74 193 [150] q2,.any]⟩) (off:=1) rfl sizeOf33 rfl rfl rfl) rfl l0)))))))))))) (zJ ?_);cases h;exact jy
   refine zJ ?_;cases h;exact jy
  cases h;exact zad rfl lzz
 refine zao _ rfl (jp ?_);cases h;exact zz (lks [146] [(146,2),(193,3),(280,5),(150,4)] lzz)
theorem zfH (h:zbS uz sv uv b=some r):wj 12 [.sl zi [0] sv,kI uv,.sl Rp.byte [0] b] [.ag (zG 3 [4] 5 [] r)]:=by
  induction uz generalizing sv uv b r with
  | zero=>exact absurd h nofun
  | succ uz ih=>exact zpr (fun hh=>ih hh) h
end Go.Proofs.YtnckiilakdkklaaGreat
