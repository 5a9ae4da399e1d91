/-
  The Go functions do what the plain functions say. No condition.
-/
import Derived.Test.YtkgohoggipdokaaGreatx2G5
set_option autoImplicit true
set_option relaxedAutoImplicit true
namespace Go.Proofs.YtkgohoggipdokaaGreat
open Tryz
open Go Go.RowKit
set_option linter.unusedVariables false
set_option maxRecDepth 100000
set_option maxHeartbeats 3200000
theorem zhj (h:zfr sv=some r):vT 38 [.sl zh [0] sv] [kB r]:=by
 refine fi 12 func38 fun Xt=>?_
 unfold zfr at h;refine jp (jb h fun rv pY h=>jr (rl 1 [0] 9 call72 (zse pY) (rfl' [11])) ?_);cases h;exact jz
theorem zor (vh:∀{sv:(List ze)} {uf:Int} {l:(List zc)} {r:Bool},xp sv uf l=some r->vT 112 [.sl zh [0] sv,kI uf,.sl zi [0] l] [kB r]) (vi:∀{f:zb} {sv:(List ze)} {v:za} {r:Bool},xb f sv v=some r->vT 68 [.rc zd [0] f,.sl zh [0] sv,.rc zf [0] v] [kB r]) (vj:∀{sv:(List ze)} {uf:Int} {x:zc} {r:Bool},xe sv uf x=some r->vT 106 [.sl zh [0] sv,kI uf,.rc zi [0] x] [kB r]) (h:zeU xp xb xe sv uf l=some r):vT 112 [.sl zh [0] sv,kI uf,.sl zi [0] l] [kB r]:=by
 refine fi 29 func112 fun Xt=>?_
 unfold zeU at h;refine jp (jg [0,1,2] [] [(16,kB ((decide (uf<0))|| (decide (uf>=(sv.length:Int)))))] ?_ ?_)
 ·refine (rsl 3 [] 11 (decide (uf<0)) ?_ ?_)<;>intro pV
  · exact (rbl [] 16 true rfl (by grind))
  exact (rbl [] 16 (decide (uf>=(sv.length:Int))) rfl (by grind))
 refine jI h ?_ ?_<;>intro pX h
 ·refine jp ?_;obtain rfl:=(sj h);exact zz lzz
 refine jp (zm (jb h fun q ue h=>jL ue [0,1,17,18] [] (fun s=>[(19,kI s)]) (fun| (.inl v_)=> .x 0 ⟨[],[]⟩| (.inr v_)=> .r ⟨[(6,kB false)],[]⟩) ?_ lzz ?_))
 ·clear h;intro v2 o h;unfold zbA at h;refine jp (jI h ?_ ?_)<;>intro pZ h
  ·refine zm (jb h fun x ul h=>jr (rx 0 [0] zyR.el ul rfl rfl (rc 0 rfl (lde zi [0] x zxh) (ral 1 [12] [.ptr 12 0,.rc zi [0] x] rfl (zko (r:=zi) (b:=⟨12,27,[kN,kN]⟩) (off:=0) (zbC [0] x) rfl sizeOf27 rfl rfl (by rw [zbu]<;>rfl) rfl) rfl rf))) (jb h fun rv pY h=>jr (rc 3 rfl (lw0 11 call106 (vj pY) (.k (.k (.l (zbh [0] x))))) rf) (jI h ?_ ?_)))<;>intro p9 h
   ·cases h;exact jz'
   refine zS ?_;cases h;exact jy
  cases h;exact zX rfl lzz
 rcases q with u| u2
 ·refine zau _ rfl (jp ?_);obtain rfl:=(sj h);exact zz lzz
 obtain rfl:=(sj h);exact zeQ lzz
theorem zuM (vh:∀{sv:(List ze)} {uf:Int} {l:(List zc)} {r:Bool},xp sv uf l=some r->vT 112 [.sl zh [0] sv,kI uf,.sl zi [0] l] [kB r]) (vi:∀{f:zb} {sv:(List ze)} {v:za} {r:Bool},xb f sv v=some r->vT 68 [.rc zd [0] f,.sl zh [0] sv,.rc zf [0] v] [kB r]) (vj:∀{sv:(List ze)} {uf:Int} {x:zc} {r:Bool},xe sv uf x=some r->vT 106 [.sl zh [0] sv,kI uf,.rc zi [0] x] [kB r]) (h:zje xp xb xe f sv v=some r):vT 68 [.rc zd [0] f,.sl zh [0] sv,.rc zf [0] v] [kB r]:=by
 refine fi 69 func68 fun Xt=>?_
 unfold zje at h;refine jr (ral 1 [11] [.rc zf [0] v] rfl (zhl 12 (zB [0] v) [0] rfl rfl rfl (by rw [zt]<;>rfl) rfl) rfl rf) (jb h fun rv pY h=>jr (rc 1 rfl (lw0 11 call93 (zop pY) (.l (zam [0] v))) rf) (jg [1,3,5,7] [11,12] [(20,kB ((rv==0)|| ((decide (rv>1))&&(!f.Repeated))))] ?_ ?_))
 ·refine (rsl 3 [] 12 (rv==0) ?_ ?_)<;>intro pV
  · exact (rbl [] 20 true rfl (by grind))
  refine (rsl 3 [] 15 (decide (rv>1)) ?_ ?_)<;>intro pX
  · exact (rbl [] 20 (!f.Repeated) rfl (by grind))
  exact (rbl [] 20 false rfl (by grind))
 refine jI h ?_ ?_<;>intro pZ h
 ·refine jp ?_;obtain rfl:=(sj h);exact zz lzz
 refine jp (zm (jp (jI h ?_ ?_)))<;>intro p9 h
 ·refine jb h fun g pW h=>jg [] [] [(6,kB g)] ?_ ?_
  ·refine (rsI 6 30 pW ?_ ?_)<;>intro uh pW
   ·refine jb pW fun vV ud pW=>?_;cases pW;exact (rl 2 [0] 11 call111 (zrv ud) rgg)
   cases pW;exact rgg
  obtain rfl:=(sj h);exact zz lzz
 refine jp (jI h ?_ ?_)<;>intro ui h
 ·cases h;exact jz
 refine jp (jI h ?_ ?_)<;>intro uq h
 ·refine jb h fun g2 uc h=>jg [] [] [(6,kB g2)] ?_ ?_
  ·refine (rsI 6 49 uc ?_ ?_)<;>intro uv uc
   ·refine jb uc fun v8 uj uc=>?_;cases uc;exact (rl 5 [0] 11 call112 (vh uj) rgg)
   cases uc;exact rgg
  obtain rfl:=(sj h);exact zz lzz
 refine zS (jb h fun g3 uk h=>jg [] [] [(6,kB g3)] ?_ ?_)
 ·refine (rsI 6 62 uk ?_ ?_)<;>intro ut uk
  ·refine jb uk fun rv4 uA uk=>?_;cases uk;exact (rl 4 [0] 11 call113 (zoq uA) rgg)
  cases uk;exact rgg
 obtain rfl:=(sj h);exact zz lzz
theorem zpN (vh:∀{sv:(List ze)} {uf:Int} {l:(List zc)} {r:Bool},xp sv uf l=some r->vT 112 [.sl zh [0] sv,kI uf,.sl zi [0] l] [kB r]) (vi:∀{f:zb} {sv:(List ze)} {v:za} {r:Bool},xb f sv v=some r->vT 68 [.rc zd [0] f,.sl zh [0] sv,.rc zf [0] v] [kB r]) (vj:∀{sv:(List ze)} {uf:Int} {x:zc} {r:Bool},xe sv uf x=some r->vT 106 [.sl zh [0] sv,kI uf,.rc zi [0] x] [kB r]) (h:zfT xp xb xe sv uf x=some r):vT 106 [.sl zh [0] sv,kI uf,.rc zi [0] x] [kB r]:=by
 refine fi 67 func106 fun Xt=>?_
 unfold zfT at h;refine jr (rc 0 rfl (lbx 11 [0] (zaM [0] x)) rf) (jb h fun x2 up h=>jr (rx 2 [0] zgU.el up rfl rfl (rc 0 rfl (lde zh [0] x2 zuU) (ral 1 [12] [.ptr 12 0,.rc zh [0] x2] rfl (zko (r:=zh) (b:=⟨12,71,[kS [],kN]⟩) (off:=0) (zbg [0] x2) rfl sizeOf71 rfl rfl rfl rfl) rfl rf))) (jp (jp (zm (jb h fun q ue h=>jL ue [0,5,7,20,21] [11,12] (fun s=>[(8,kI s.1),(22,kI s.2)]) (fun| (.inl v_)=> .X 0 [5,7] [11,12] [] []| (.inr v_)=> .r ⟨[(6,kB false)],[]⟩) ?_ lzz ?_)))))
 ·clear h;intro s o h;obtain ⟨last,v⟩:=s;replace h:zbD xb sv x x2 last v=some o:=h;unfold zbD at h;refine jp (jI h ?_ ?_)<;>intro pV h
  ·refine zm (jb h fun x3 uw h=>jr (rx 0 [0] zup.el uw rfl rfl (rc 0 rfl (lde zf [0] x3 zsJ) (ral 1 [14] [.ptr 14 0,.rc zf [0] x3] rfl (zko (r:=zf) (b:=⟨14,51,[kI 0,kN,kN,kN]⟩) (off:=0) (zB [0] x3) rfl sizeOf51 rfl rfl (by rw [zt]<;>rfl) rfl) rfl rf))) (jb h fun rv pY h=>jr (rl 3 [0] 13 call64 (zhn pY) rf) (jb h fun g pW h=>jn (.N [0,5,7,10,20,21,22] [11,12,14] [(51,kB g)] []) ?_ (zfz ?_))))
   ·rcases zeP pW with ⟨pX,pW⟩| ⟨pX,pW⟩
    ·cases pW;exact jd [0,5,7,10,20,21,22,51] [11,12,14] zcM (by exact (lwn 2 (dg 34 pX l0))) (zY lzz)
    rcases zeP pW with ⟨pZ,pW⟩| ⟨pZ,pW⟩
    ·cases pW;exact jd [0,5,7,10,20,21,22,51] [11,12,14] zcM (by exact (lwn 2 (dg 34 pX (lwn 5 (dg 40 pZ l0))))) (zY lzz)
    refine jb pW fun x4 uG pW=>jb pW fun vV ud pW=>?_;cases pW;exact jd [0,5,7,10,20,21,22,51] [11,12,14] zcM (by exact (lwn 2 (dg 34 pX (lwn 5 (dg 40 pZ (lwn 3 (di [0] zmr.el uG (lx (lde zd [0] x4 zrB) (lw_e (lx (ldw 14 51 (zB [0] x3) zsJ) (lx (lf1 68 (lw0 13 call68 (vi ud) (.k (.k (.l (zam [0] x3)))))) l0))))))))))) (zY lzz)
   refine jI h ?_ ?_<;>intro p9 h
   ·cases h;exact jz'
   refine jp (zS ?_);cases h;exact jy
  cases h;exact zX rfl lzz
 rcases q with u| u4
 ·refine zau _ rfl (jp (zm (jb h fun q2 ur h=>jL ur [7,56,57] [12] (fun s=>[(58,kI s)]) (fun| (.inl v_)=> .x 2 ⟨[],[]⟩| (.inr v_)=> .r ⟨[(6,kB false)],[]⟩) ?_ lzz ?_)))
  ·clear h;intro v3 o h;unfold zbT at h;refine jp (jI h ?_ ?_)<;>intro uh h
   ·refine zm (jb h fun x5 uJ h=>jr (rx 0 [0] zlg.el uJ rfl rfl rf) (jb h fun v8 uj h=>jr (rl 2 [0] 14 call142 (zqJ uj) rf) (jI h ?_ ?_)))<;>intro ui h
    ·cases h;exact jz'
    refine zS ?_;cases h;exact jy
   cases h;exact zX rfl lzz
  rcases q2 with u2| u3
  ·refine zau _ rfl (jp ?_);obtain rfl:=(sj h);exact zz lzz
  obtain rfl:=(sj h);exact zeQ lzz
 obtain rfl:=(sj h);exact zeQ lzz
theorem zeZ (ug:Nat):(∀{sv:(List ze)} {uf:Int} {l:(List zc)} {r:Bool},zfS ug sv uf l=some r->vT 112 [.sl zh [0] sv,kI uf,.sl zi [0] l] [kB r])/\(∀{f:zb} {sv:(List ze)} {v:za} {r:Bool},zgq ug f sv v=some r->vT 68 [.rc zd [0] f,.sl zh [0] sv,.rc zf [0] v] [kB r])/\(∀{sv:(List ze)} {uf:Int} {x:zc} {r:Bool},zdv ug sv uf x=some r->vT 106 [.sl zh [0] sv,kI uf,.rc zi [0] x] [kB r]):=by
  induction ug with
  | zero=>exact ⟨fun h=>absurd h nofun,fun h=>absurd h nofun,fun h=>absurd h nofun⟩
  | succ ug ih=>exact ⟨fun h=>zor (fun hh=>ih.1 hh) (fun hh=>ih.2.1 hh) (fun hh=>ih.2.2 hh) h,fun h=>zuM (fun hh=>ih.1 hh) (fun hh=>ih.2.1 hh) (fun hh=>ih.2.2 hh) h,fun h=>zpN (fun hh=>ih.1 hh) (fun hh=>ih.2.1 hh) (fun hh=>ih.2.2 hh) h⟩
theorem zwW (h:zgq ug f sv v=some r):vT 68 [.rc zd [0] f,.sl zh [0] sv,.rc zf [0] v] [kB r]:=(zeZ ug).2.1 h
theorem zqI (h:zdv ug sv uf x=some r):vT 106 [.sl zh [0] sv,kI uf,.rc zi [0] x] [kB r]:=(zeZ ug).2.2 h
theorem zuy (h:zjT uu size=some r):vT 117 [kI uu,kI size] [.own Rp.byte 5 2 [] r]:=by
 refine fi 23 func117 fun Xt=>?_
 unfold zjT at h;refine jp (jb h fun rv pY h=>jr (rl 1 [1] 10 call153 (FnOk.le (ins':=[kN,kI uu,kN]) (zuD pY) ⟨zgm _ _,vU _,zgm _ _,trivial⟩) rf) (jb h fun vV ud h=>jr (rl 2 [1] 11 call148 (zpe ud) rf) (jb h fun v uy h=>jb h fun v2 uB h=>jr (ra 4 [.own Rp.byte 5 12 [] rv,kI (IntKind.i64.wrap ((rv.length:Int) - 1))] rfl (zAr rfl zcd.el uy) rfl (rc 1 rfl (lao 12 [] 5 13 [] [] zcd.el uB (.inl zcm)) rf)) ?_)));obtain rfl:=(sj h);exact zz (lks [] [(12,2)] lzz)
theorem zmZ (h:zeG wv f l=some r):zgO prog 69 [.ptr 800000 0,.rc zd [0] f,.sl vS [0] l] [] [⟨800000,76,(zj 800001 [0] wv)⟩] [800000] [⟨800000,76,(zj 800001 [0,2,3,4,5,6] r)⟩]:=by
 refine zjF (E:=⟨[(0,.ptr 800000 0)],[⟨800000,76,(zj 800001 [0,2,3,4,5,6] r)⟩]⟩) 30 [0] [(0,800000)] func69 rfl rfl rfl trivial ⟨⟨rfl,rfl,rfl⟩,trivial⟩ ⟨rfl,trivial⟩ (fun Xt old=>?_);refine zgg ?_;unfold zeG at h;refine jq [17] (jb h fun rv pY h=>jr (rl 3 [0] 16 call114 (zyy pY) rf) (jp (jI h ?_ ?_)))<;>intro pV h
 ·refine jb h fun vV ud h=>jr (ra 4 [.ptr 800000 0,kI f.Number,kI 2,.own Rp.byte 5 18 [] rv.1] rfl (zgh (args:=[.tmp 17,.tmp 19,.const (.int .i64 2),.tmp 20]) [.ptr 800000 0,kI f.Number,kI 2,.own Rp.byte 5 18 [] rv.1] [⟨800000,76,(zj 800001 [0] wv)⟩] [(800000,800000),(800001,800001)] [0,18] 17 [800001] rfl call70 (zfZ ud) rfl rfl rfl rfl rfl rfl rfl rfl) rfl rf) ?_;obtain rfl:=(sj h);exact zlZ (lks [800000] [(18,6),(19,6),(20,6)] lw)
 refine jb h fun v8 uj h=>jb h fun rv4 uA h=>jd [0] [800000] zcM (by exact (lwn 5 (lx (lf1 115 (lcd [kI f.Kind] 19 call115 (zuz uj))) (lw_e (ly [.lf (.val (.func (.func 70) #[] #[])),.ptr 800000 0,kI f.Number,kI v8,.own Rp.byte 5 18 [] rv.1] (lf1 70 (zgh (args:=[.tmp 22,.tmp 24,.tmp 27,.tmp 28]) [.ptr 800000 0,kI f.Number,kI v8,.own Rp.byte 5 18 [] rv.1] [⟨800000,76,(zj 800001 [0] wv)⟩] [(800000,800000),(800001,800001)] [0,18] 19 [800001] rfl call70 (zfZ uA) rfl rfl rfl rfl rfl rfl rfl rfl)) rfl l0))))) ?_;obtain rfl:=(sj h);exact zvi (lks [800000] [(18,6),(21,6),(22,6)] lw)
theorem zuN (h:zkz sv uo d=some r):vT 105 [.sl zh [0] sv,kI uo,kI d] [k8 r]:=by
 refine fi 28 func105 fun Xt=>?_
 unfold zkz at h;refine jp (zm (jb h fun rv pY h=>jr (rl 1 [0] 9 call38 (zhj pY) rf) (jI h ?_ ?_)))<;>intro pV h
 ·cases h;exact jz
 refine jg [] [] [(11,kB ((decide (uo<0))|| ((decide (uo>=(sv.length:Int)))|| ((decide (d<0))|| (decide (d>64))))))] ?_ ?_
 ·refine (rsl 3 [] 14 (decide (uo<0)) ?_ ?_)<;>intro pX
  · exact (rbl [] 11 true rfl (by grind))
  refine (rsl 6 [] 20 (decide (uo>=(sv.length:Int))) ?_ ?_)<;>intro pZ
  · exact (rbl [] 11 true rfl (by grind))
  refine (rsl 4 [] 24 (decide (d<0)) ?_ ?_)<;>intro p9
  · exact (rbl [] 11 true rfl (by grind))
  exact (rbl [] 11 (decide (d>64)) rfl (by grind))
 refine jI h ?_ ?_<;>intro uh h
 ·cases h;exact jz
 refine zS ?_;cases h;exact jz
theorem zli (vk:∀{wv:zg} {sv:(List ze)} {uf:Int} {x:zc} {r:zg},xq wv sv uf x=some r->zgO prog 31 [.ptr 800000 0,.sl zh [0] sv,kI uf,.rc zi [0] x] [] [⟨800000,76,(zj 800001 [0] wv)⟩] [800000] [⟨800000,76,(zj 800001 [0,2] r)⟩]) (vl:∀{wv:zg} {sv:(List ze)} {f:zb} {x:zc} {r:zg},xc wv sv f x=some r->zgO prog 71 [.ptr 800000 0,.sl zh [0] sv,.rc zd [0] f,.rc zi [0] x] [] [⟨800000,76,(zj 800001 [0] wv)⟩] [800000] [⟨800000,76,(zj 800001 [0,2] r)⟩]) (vm:∀{wv:zg} {sv:(List ze)} {f:zb} {v:za} {r:zg},xd wv sv f v=some r->zgO prog 37 [.ptr 800000 0,.sl zh [0] sv,.rc zd [0] f,.rc zf [0] v] [] [⟨800000,76,(zj 800001 [0] wv)⟩] [800000] [⟨800000,76,(zj 800001 [0,2] r)⟩]) (h:zdj xq xc xd wv sv uf x=some r):zgO prog 31 [.ptr 800000 0,.sl zh [0] sv,kI uf,.rc zi [0] x] [] [⟨800000,76,(zj 800001 [0] wv)⟩] [800000] [⟨800000,76,(zj 800001 [0,2] r)⟩]:=by
 refine zjF (E:=⟨[(0,.ptr 800000 0)],[⟨800000,76,(zj 800001 [0,2] r)⟩]⟩) 55 [0] [(0,800000)] func31 rfl rfl rfl trivial ⟨⟨rfl,rfl,rfl⟩,trivial⟩ ⟨rfl,trivial⟩ (fun Xt old=>?_);refine zgg ?_;unfold zdj at h;refine jr (rc 0 rfl (lbx 21 [0] (zaM [0] x)) rf) (jb h fun x2 up h=>jr (rx 2 [0] zgU.el up rfl rfl (rc 0 rfl (lde zh [0] x2 zuU) (ral 1 [22] [.ptr 22 0,.rc zh [0] x2] rfl (zko (r:=zh) (b:=⟨22,71,[kS [],kN]⟩) (off:=0) (zbg [0] x2) rfl sizeOf71 rfl rfl rfl rfl) rfl rf))) (jp (zm (jb h fun q ue h=>jl ue [0,1,7,8,20,21] [21,22] (fun s=>[(22,kI s.1)]) (fun s=>[⟨800000,76,[.own (Rp.list Rp.byte) 35 800001 [0,23] s.2.1,kI s.2.2]⟩]) (fun o=> .X 0 [0,7] [21] [] [⟨800000,76,[.own (Rp.list Rp.byte) 35 800001 [0,23] o.1,kI o.2]⟩]) ?_ lw ?_))))
 ·clear h;intro s o h;obtain ⟨v,f,f2⟩:=s;replace h:zay xd sv x x2 v f f2=some o:=h;unfold zay at h;refine jp (jI h ?_ ?_)<;>intro pV h
  ·refine zm (jb h fun x3 uw h=>jr (rx 0 [0] zup.el uw rfl rfl (rc 0 rfl (lde zf [0] x3 zsJ) (ral 1 [28] [.ptr 28 0,.rc zf [0] x3] rfl (zko (r:=zf) (b:=⟨28,51,[kI 0,kN,kN,kN]⟩) (off:=0) (zB [0] x3) rfl sizeOf51 rfl rfl (by rw [zt]<;>rfl) rfl) rfl rf))) (jb h fun rv pY h=>jr (rl 3 [0] 27 call64 (zhn pY) rf) (jb h fun x4 uG h=>jb h fun vV ud h=>jd [0,1,7,8,20,21,22] [800000,21,22] zcM (by exact (lwn 5 (di [0] zmr.el uG (lx (lde zd [0] x4 zrB) (lx (ldw 28 51 (zB [0] x3) zsJ) (lx (lf1 37 (zv.le (ins':=[(.tmp 33,.ptr 800000 0),(.tmp 34,.sl zh [0] sv),(.tmp 39,.rc zd [0] x4),(.tmp 40,.ag (zB [0] x3))]) (zgh (args:=[.tmp 33,.tmp 34,.tmp 39,.tmp 40]) [.ptr 800000 0,.sl zh [0] sv,.rc zd [0] x4,.rc zf [0] x3] [⟨800000,76,[.own (Rp.list Rp.byte) 35 800001 [0,23] f,kI f2]⟩] [(800000,800000),(800001,800001)] [0,23] 27 [800001] rfl call37 (vm ud) rfl rfl rfl rfl rfl rfl rfl rfl) ⟨⟨rfl,vU _⟩,⟨rfl,vU _⟩,⟨rfl,vU _⟩,⟨rfl,zam [0] x3⟩,trivial⟩)) l0)))))) (zS (jp ?_)))));cases h;exact zY (lks [800000,21,22] [(29,23)] lw)
  cases h;exact zX rfl lzz
 refine zau _ rfl (jp (zm (jb h fun q2 ur h=>jl ur [0,44,45] [] (fun s=>[(46,kI s.1)]) (fun s=>[⟨800000,76,[.own (Rp.list Rp.byte) 35 800001 [0,23,30] s.2.1,kI s.2.2]⟩]) (fun o=> .X 2 [0] [] [] [⟨800000,76,[.own (Rp.list Rp.byte) 35 800001 [0,23,30] o.1,kI o.2]⟩]) ?_ lw ?_)))
 ·clear h;intro s o h;obtain ⟨v2,f5,f6⟩:=s;replace h:zaz x v2 f5 f6=some o:=h;unfold zaz at h;refine jp (jI h ?_ ?_)<;>intro pX h
  ·refine zm (jb h fun x5 uJ h=>jr (rx 0 [0] zlg.el uJ rfl rfl rf) (jb h fun v3 uD h=>jb h fun v8 uj h=>jr (ra 2 [kS x5] rfl (zmF 35 rfl underlying9 underlying35 underlying5 uD) rfl (ra 0 [.ptr 800000 0,.sl Rp.byte [35] v3] rfl (zgh (args:=[.tmp 50,.tmp 52]) [.ptr 800000 0,.sl Rp.byte [35] v3] [⟨800000,76,[.own (Rp.list Rp.byte) 35 800001 [0,23,30] f5,kI f6]⟩] [(800000,800000),(800001,800001)] [0,23,30,35] 34 [800001] rfl call65 (zgs uj) rfl rfl rfl rfl rfl rfl rfl rfl) rfl rf)) (zS (jp ?_))));cases h;exact zY (lks [800000] [(35,30),(36,30)] lw)
  cases h;exact zX rfl lzz
 refine zau _ rfl ?_;cases h;exact zvi (lks [800000] [(23,2),(30,2)] lw)
theorem znu (vk:∀{wv:zg} {sv:(List ze)} {uf:Int} {x:zc} {r:zg},xq wv sv uf x=some r->zgO prog 31 [.ptr 800000 0,.sl zh [0] sv,kI uf,.rc zi [0] x] [] [⟨800000,76,(zj 800001 [0] wv)⟩] [800000] [⟨800000,76,(zj 800001 [0,2] r)⟩]) (vl:∀{wv:zg} {sv:(List ze)} {f:zb} {x:zc} {r:zg},xc wv sv f x=some r->zgO prog 71 [.ptr 800000 0,.sl zh [0] sv,.rc zd [0] f,.rc zi [0] x] [] [⟨800000,76,(zj 800001 [0] wv)⟩] [800000] [⟨800000,76,(zj 800001 [0,2] r)⟩]) (vm:∀{wv:zg} {sv:(List ze)} {f:zb} {v:za} {r:zg},xd wv sv f v=some r->zgO prog 37 [.ptr 800000 0,.sl zh [0] sv,.rc zd [0] f,.rc zf [0] v] [] [⟨800000,76,(zj 800001 [0] wv)⟩] [800000] [⟨800000,76,(zj 800001 [0,2] r)⟩]) (h:zeF xq xc xd wv sv f x=some r):zgO prog 71 [.ptr 800000 0,.sl zh [0] sv,.rc zd [0] f,.rc zi [0] x] [] [⟨800000,76,(zj 800001 [0] wv)⟩] [800000] [⟨800000,76,(zj 800001 [0,2] r)⟩]:=by
 refine zjF (E:=⟨[(0,.ptr 800000 0)],[⟨800000,76,(zj 800001 [0,2] r)⟩]⟩) 57 [0] [(0,800000)] func71 rfl rfl rfl trivial ⟨⟨rfl,rfl,rfl⟩,trivial⟩ ⟨rfl,trivial⟩ (fun Xt old=>?_);refine zgg ?_;unfold zeF at h;refine jr (ral 1 [16] [.rc zi [0] x] rfl (zhl 17 (zbC [0] x) [0] rfl rfl rfl (by rw [zbu]<;>rfl) rfl) rfl rf) (jd [0,1,6,7,8,9] [800000,16,17] zcM (by exact l0) (jb h fun rv pY h=>jr (rc 1 rfl (zv.le (ins':=[(.tmp 19,.ptr 800000 0),(.const (.slice none 0 0),kN)]) (zgh (args:=[.tmp 19,.const (.slice none 0 0)]) [.ptr 800000 0,.sl Rp.byte [] ([]:(List UInt8))] [⟨800000,76,(zj 800001 [0] wv)⟩] [(800000,800000),(800001,800001)] [0] 16 [800001] rfl call65 (zgs pY) rfl rfl rfl rfl rfl rfl rfl rfl) ⟨⟨rfl,vU _⟩,⟨rfl,zgm _ _⟩,trivial⟩) rf) (jb h fun vV ud h=>jr (rc 5 rfl (zv.le (ins':=[(.tmp 21,.ptr 800000 0),(.tmp 22,.sl zh [0] sv),(.tmp 24,kI f.Of),(.tmp 25,.ag (zbC [0] x))]) (zgh (args:=[.tmp 21,.tmp 22,.tmp 24,.tmp 25]) [.ptr 800000 0,.sl zh [0] sv,kI f.Of,.rc zi [0] x] [⟨800000,76,(zj 800001 [0,18] rv)⟩] [(800000,800000),(800001,800001)] [0,18] 17 [800001] rfl call31 (vk ud) rfl rfl rfl rfl rfl rfl rfl rfl) ⟨⟨rfl,vU _⟩,⟨rfl,vU _⟩,⟨rfl,vU _⟩,⟨rfl,zbh [0] x⟩,trivial⟩) rf) (jb h fun v8 uj h=>jb h fun x2 up h=>jk [0,6,8,9] [800000,16] (zAj ⟨[(0,.ptr 800000 0),(8,kI (wv.pieces.length:Int))],[⟨800000,76,[.own (Rp.list Rp.byte) 35 800001 [0,18,19,20] (vV.pieces.set (Int.toNat (wv.pieces.length:Int)) v8),kI vV.size]⟩]⟩ [.ev,.ev,.ev,.ev,.ev,.ev,.ev,.ev,.ev,.ev,.ev,.ev,.ev,.ex [] [] [20] (.own Rp.byte 5 20 [] v8) [],.ex [] [] [] (.ptr 800001 (Int.toNat (wv.pieces.length:Int)*(Rp.list Rp.byte).size)) [],.raw [11,0,1,11,19] [800001] [] [.sl 30 (.own (Rp.list Rp.byte) 35 800001 [0,18,19,20] (vV.pieces.set (Int.toNat (wv.pieces.length:Int)) v8)),.bx ⟨800000,76,[.own (Rp.list Rp.byte) 35 800001 [0,18,19,20] (vV.pieces.set (Int.toNat (wv.pieces.length:Int)) v8),kI vV.size]⟩]] [⟨[(.func 117,.lf (.val (.func (.func 117) #[] #[]))),(.tmp 33,kI f.Number),(.tmp 39,kI (IntKind.i64.wrap (vV.size - wv.size)))],[],[]⟩,⟨[(.tmp 30,.own (Rp.list Rp.byte) 35 800001 [0,18,19] vV.pieces),(.tmp 31,kI (wv.pieces.length:Int))],[],[]⟩,⟨[],[],[.sl 30 (.own (Rp.list Rp.byte) 35 800001 [0,18,19] vV.pieces),.sl 41 (.ptr 800001 (Int.toNat (wv.pieces.length:Int)*(Rp.list Rp.byte).size)),.sl 40 (.own Rp.byte 5 20 [] v8),.sl 30 (.own (Rp.list Rp.byte) 35 800001 [0,18,19] vV.pieces),.bx ⟨800000,76,(zj 800001 [0,18,19] vV)⟩]⟩] [0,8] [800000] zcM (by kernel_rfl) (by exact (lwn 13 (lw_x (zv.cons _ (zFF (lcd [kI f.Number,kI (IntKind.i64.wrap (vV.size - wv.size))] 18 call117 (zuy uj)) rfl)) (lw_x (zFF (zCU rfl zqQ.el up) rfl) (lw_r (zBy (ins:=[(.tmp 30,.own (Rp.list Rp.byte) 35 800001 [0,18,19] vV.pieces),(.tmp 41,.ptr 800001 (Int.toNat (wv.pieces.length:Int)*(Rp.list Rp.byte).size)),(.tmp 40,.own Rp.byte 5 20 [] v8)]) [30] [(⟨800000,76,(zj 800001 [0,18,19] vV)⟩,⟨800000,76,[.own (Rp.list Rp.byte) 35 800001 [0,18,19,20] (vV.pieces.set (Int.toNat (wv.pieces.length:Int)) v8),kI vV.size]⟩)] (zGx (r:=(Rp.list Rp.byte)) (e:=35) (ℓ:=800001) (C:=[0,18,19]) (xs:=vV.pieces) (off:=(Int.toNat (wv.pieces.length:Int)*(Rp.list Rp.byte).size)) (.tmp 30) (Int.toNat (wv.pieces.length:Int)) 0 x2 v8 [0,18,19,20] rfl rfl sizeOf35 rfl (zAd up) rfl (zEQ rfl _) rfl) ⟨trivial,trivial,trivial,trivial⟩ (fun _ _=>nofun) ⟨⟨rfl,rfl,rfl,⟨zpf 0 rfl,zaO rfl,trivial⟩⟩,trivial⟩) lw_0))))) (jb h fun x3 uw h=>jd [0] [800000] zcM (by exact (lwn 9 (ly [.own (Rp.list Rp.byte) 35 800001 [0,18,19,20] (vV.pieces.set (Int.toNat (wv.pieces.length:Int)) v8),kI (wv.pieces.length:Int)] (zAs rfl zqQ.el (zlY _ _ _ _ _) uw) rfl (lx (ldl (Rp.list Rp.byte) [800001,0,18,19,20] x3 0 Rp.byte x3) (lwn 4 (ly [.ptr 800000 1,kI (IntKind.i64.wrap (vV.size+(x3.length:Int)))] (zwA (b:=⟨800000,76,[.own (Rp.list Rp.byte) 35 800001 [0,18,19,20] (vV.pieces.set (Int.toNat (wv.pieces.length:Int)) v8),kI vV.size]⟩) (off:=1) rfl sizeOf3 rfl rfl rfl) rfl l0)))))) ?_))))));cases h;exact zvi (lks [800000] [(18,2),(19,2),(20,2)] lw)
theorem zmu (vk:∀{wv:zg} {sv:(List ze)} {uf:Int} {x:zc} {r:zg},xq wv sv uf x=some r->zgO prog 31 [.ptr 800000 0,.sl zh [0] sv,kI uf,.rc zi [0] x] [] [⟨800000,76,(zj 800001 [0] wv)⟩] [800000] [⟨800000,76,(zj 800001 [0,2] r)⟩]) (vl:∀{wv:zg} {sv:(List ze)} {f:zb} {x:zc} {r:zg},xc wv sv f x=some r->zgO prog 71 [.ptr 800000 0,.sl zh [0] sv,.rc zd [0] f,.rc zi [0] x] [] [⟨800000,76,(zj 800001 [0] wv)⟩] [800000] [⟨800000,76,(zj 800001 [0,2] r)⟩]) (vm:∀{wv:zg} {sv:(List ze)} {f:zb} {v:za} {r:zg},xd wv sv f v=some r->zgO prog 37 [.ptr 800000 0,.sl zh [0] sv,.rc zd [0] f,.rc zf [0] v] [] [⟨800000,76,(zj 800001 [0] wv)⟩] [800000] [⟨800000,76,(zj 800001 [0,2] r)⟩]) (h:zdZ xq xc xd wv sv f v=some r):zgO prog 37 [.ptr 800000 0,.sl zh [0] sv,.rc zd [0] f,.rc zf [0] v] [] [⟨800000,76,(zj 800001 [0] wv)⟩] [800000] [⟨800000,76,(zj 800001 [0,2] r)⟩]:=by
 refine zjF (E:=⟨[(0,.ptr 800000 0)],[⟨800000,76,(zj 800001 [0,2] r)⟩]⟩) 48 [0] [(0,800000)] func37 rfl rfl rfl trivial ⟨⟨rfl,rfl,rfl⟩,trivial⟩ ⟨rfl,trivial⟩ (fun Xt old=>?_);refine zgg ?_;unfold zdZ at h;refine jr (ral 1 [34] [.rc zf [0] v] rfl (zhl 35 (zB [0] v) [0] rfl rfl rfl (by rw [zt]<;>rfl) rfl) rfl rf) (jp (jb h fun p uL h=>jn (.N [0,1,6,7] [34,35] [] [⟨800000,76,[.own (Rp.list Rp.byte) 35 800001 [0,36,37,38,39,40] p.1,kI p.2]⟩]) ?_ ?_))
 ·replace h:=uL;refine jI h ?_ ?_<;>intro pV h
  ·refine jb h fun rv pY h=>jr (lb 1 zd [] f (ra 2 [.ptr 800000 0,.rc zd [] f,.sl vS [0] v.Words] rfl (zgh (args:=[.tmp 16,.tmp 17,.tmp 19]) [.ptr 800000 0,.rc zd [] f,.sl vS [0] v.Words] [⟨800000,76,(zj 800001 [0] wv)⟩] [(800000,800000),(800001,800001)] [0] 39 [800001] rfl call69 (zmZ pY) rfl rfl rfl rfl rfl rfl rfl rfl) rfl rf)) ?_;cases h;exact zY (lks [800000,34,35] [(41,40),(42,40),(43,40),(44,40),(45,40)] lw)
  cases h;exact zY lw
 refine zfz (jp (zm (jb h fun q ue h=>jl ue [0,1,6,7,22,23] [34,35] (fun s=>[(24,kI s.1)]) (fun s=>[⟨800000,76,[.own (Rp.list Rp.byte) 35 800001 [0,36,37,38,39,40,46] s.2.1,kI s.2.2]⟩]) (fun o=> .X 0 [0,1,6,7] [34,35] [] [⟨800000,76,[.own (Rp.list Rp.byte) 35 800001 [0,36,37,38,39,40,46] o.1,kI o.2]⟩]) ?_ lw ?_)))
 ·clear h;intro s o h;obtain ⟨v2,f4,f5⟩:=s;replace h:zaP f v v2 f4 f5=some o:=h;unfold zaP at h;refine jp (jI h ?_ ?_)<;>intro pX h
  ·refine zm (jb h fun x ul h=>jr (rx 0 [0] zlg.el ul rfl rfl rf) (jb h fun v3 uD h=>jb h fun vV ud h=>jr (ra 4 [kS x] rfl (zmF 53 rfl underlying9 underlying35 underlying5 uD) rfl (ra 0 [.ptr 800000 0,kI f.Number,kI 2,.sl Rp.byte [53] v3] rfl (zgh (args:=[.tmp 28,.tmp 30,.const (.int .i64 2),.tmp 32]) [.ptr 800000 0,kI f.Number,kI 2,.sl Rp.byte [53] v3] [⟨800000,76,[.own (Rp.list Rp.byte) 35 800001 [0,36,37,38,39,40,46] f4,kI f5]⟩] [(800000,800000),(800001,800001)] [0,36,37,38,39,40,46,53] 52 [800001] rfl call70 (zfZ ud) rfl rfl rfl rfl rfl rfl rfl rfl) rfl rf)) (zS (jp ?_))));cases h;exact zY (lks [800000,34,35] [(53,46),(54,46),(55,46)] lw)
  cases h;exact zX rfl lzz
 refine zau _ rfl (jp (zm (jb h fun q2 ur h=>jl ur [0,1,6,36,37] [34] (fun s=>[(38,kI s.1)]) (fun s=>[⟨800000,76,[.own (Rp.list Rp.byte) 35 800001 [0,36,37,38,39,40,46,56] s.2.1,kI s.2.2]⟩]) (fun o=> .X 2 [0] [] [] [⟨800000,76,[.own (Rp.list Rp.byte) 35 800001 [0,36,37,38,39,40,46,56] o.1,kI o.2]⟩]) ?_ lw ?_)))
 ·clear h;intro s o h;obtain ⟨v4,f8,f9⟩:=s;replace h:zaQ f xc sv v v4 f8 f9=some o:=h;unfold zaQ at h;refine jp (jI h ?_ ?_)<;>intro pZ h
  ·refine zm (jb h fun x2 up h=>jr (rx 0 [0] zyR.el up rfl rfl (rc 0 rfl (lde zi [0] x2 zxh) (ral 1 [61] [.ptr 61 0,.rc zi [0] x2] rfl (zko (r:=zi) (b:=⟨61,27,[kN,kN]⟩) (off:=0) (zbC [0] x2) rfl sizeOf27 rfl rfl (by rw [zbu]<;>rfl) rfl) rfl rf))) (jb h fun v8 uj h=>jr (lb 2 zd [] f (rc 1 rfl (zv.le (ins':=[(.tmp 42,.ptr 800000 0),(.tmp 43,.sl zh [0] sv),(.tmp 44,.rc zd [] f),(.tmp 45,.ag (zbC [0] x2))]) (zgh (args:=[.tmp 42,.tmp 43,.tmp 44,.tmp 45]) [.ptr 800000 0,.sl zh [0] sv,.rc zd [] f,.rc zi [0] x2] [⟨800000,76,[.own (Rp.list Rp.byte) 35 800001 [0,36,37,38,39,40,46,56] f8,kI f9]⟩] [(800000,800000),(800001,800001)] [0,36,37,38,39,40,46,56] 60 [800001] rfl call71 (vl uj) rfl rfl rfl rfl rfl rfl rfl rfl) ⟨⟨rfl,vU _⟩,⟨rfl,vU _⟩,⟨rfl,vU _⟩,⟨rfl,zbh [0] x2⟩,trivial⟩) rf)) (zS (jp ?_))));cases h;exact zY (lks [800000,34] [(62,56)] lw)
  cases h;exact zX rfl lzz
 refine zau _ rfl ?_;cases h;exact zvi (lks [800000] [(36,2),(37,2),(38,2),(39,2),(40,2),(46,2),(56,2)] lw)
theorem zcQ (ug:Nat):(∀{wv:zg} {sv:(List ze)} {uf:Int} {x:zc} {r:zg},zbE ug wv sv uf x=some r->zgO prog 31 [.ptr 800000 0,.sl zh [0] sv,kI uf,.rc zi [0] x] [] [⟨800000,76,(zj 800001 [0] wv)⟩] [800000] [⟨800000,76,(zj 800001 [0,2] r)⟩])/\(∀{wv:zg} {sv:(List ze)} {f:zb} {x:zc} {r:zg},zdQ ug wv sv f x=some r->zgO prog 71 [.ptr 800000 0,.sl zh [0] sv,.rc zd [0] f,.rc zi [0] x] [] [⟨800000,76,(zj 800001 [0] wv)⟩] [800000] [⟨800000,76,(zj 800001 [0,2] r)⟩])/\(∀{wv:zg} {sv:(List ze)} {f:zb} {v:za} {r:zg},zbK ug wv sv f v=some r->zgO prog 37 [.ptr 800000 0,.sl zh [0] sv,.rc zd [0] f,.rc zf [0] v] [] [⟨800000,76,(zj 800001 [0] wv)⟩] [800000] [⟨800000,76,(zj 800001 [0,2] r)⟩]):=by
  induction ug with
  | zero=>exact ⟨fun h=>absurd h nofun,fun h=>absurd h nofun,fun h=>absurd h nofun⟩
  | succ ug ih=>exact ⟨fun h=>zli (fun hh=>ih.1 hh) (fun hh=>ih.2.1 hh) (fun hh=>ih.2.2 hh) h,fun h=>znu (fun hh=>ih.1 hh) (fun hh=>ih.2.1 hh) (fun hh=>ih.2.2 hh) h,fun h=>zmu (fun hh=>ih.1 hh) (fun hh=>ih.2.1 hh) (fun hh=>ih.2.2 hh) h⟩
theorem zlM (h:zbE ug wv sv uf x=some r):zgO prog 31 [.ptr 800000 0,.sl zh [0] sv,kI uf,.rc zi [0] x] [] [⟨800000,76,(zj 800001 [0] wv)⟩] [800000] [⟨800000,76,(zj 800001 [0,2] r)⟩]:=(zcQ ug).1 h
theorem zmY (h:zbK ug wv sv f v=some r):zgO prog 37 [.ptr 800000 0,.sl zh [0] sv,.rc zd [0] f,.rc zf [0] v] [] [⟨800000,76,(zj 800001 [0] wv)⟩] [800000] [⟨800000,76,(zj 800001 [0,2] r)⟩]:=(zcQ ug).2.2 h
theorem zwV (h:zhD ug f sv v=some r):vT 36 [.rc zd [0] f,.sl zh [0] sv,.rc zf [0] v] [kB r]:=by
 refine fi 21 func36 fun Xt=>?_
 unfold zhD at h;refine jr (ral 1 [11] [.rc zf [0] v] rfl (zhl 12 (zB [0] v) [0] rfl rfl rfl (by rw [zt]<;>rfl) rfl) rfl rf) (jb h fun g pW h=>jg [] [] [(6,kB g)] ?_ ?_)
 ·refine jb pW fun rv pY pW=>(rl 1 [0] 11 call38 (zhj pY) (rsI 1 9 pW ?_ ?_))<;>intro pV pW
  ·refine jb pW fun vV ud pW=>(rc 1 rfl (zv.lw (lbs1 13 [0] v zup) (.l (zam [0] v))) (ra 0 [.own zf 51 13 [0] ([v]:(List za))] rfl (zjJ [.own zf 51 13 [0] ([v]:(List za))] [.own zf 51 13 [0] ([v]:(List za)),kN] rfl zFK rfl) rfl (rc 0 rfl (lcz [.ag [.own zf 51 13 [0] ([v]:(List za)),kN]] 12 call58 (zqH ud) (.c (zbu _) .n)) (rsI 2 15 pW ?_ ?_))))<;>intro pX pW
   ·refine jb pW fun v8 uj pW=>?_;cases pW;exact (lb 0 zd [] f (rc 2 rfl (lcz [.rc zd [] f,.sl zh [0] sv,.ag (zB [0] v)] 12 call68 (zwW uj) (.k (.k (.c (zt _) .n)))) rgg))
   cases pW;exact rgg
  cases pW;exact rgg
 obtain rfl:=(sj h);exact zz lzz
end Go.Proofs.YtkgohoggipdokaaGreat
