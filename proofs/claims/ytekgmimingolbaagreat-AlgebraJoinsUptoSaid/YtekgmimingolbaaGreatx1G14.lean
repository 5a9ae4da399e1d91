/-
  The Go functions do what the plain functions say. No condition.
-/
import Derived.Test.YtekgmimingolbaaGreatx1G13
set_option autoImplicit true
set_option relaxedAutoImplicit true
namespace Go.Proofs.YtekgmimingolbaaGreat
open Go Go.RowKit
set_option linter.unusedVariables false
set_option maxRecDepth 100000
set_option maxHeartbeats 3200000
theorem zfP (h:zaI vf sv v v2=some r):FnOk Tryz.prog 107 [.sl zd [0] sv,.fv 76 [.ep (Rp.list zj) [0] v 0,.ep kp [0] v2 0]] [kI r]:=by
 refine zy (E:=⟨[(4,kI r)],[]⟩) 19 Tryz.func107 rfl rfl rfl ⟨rfl,trivial⟩ (fun Xt=>?_);refine zm ?_;unfold zaI at h;refine jp (jp (zv (jb h fun q vc h=>zac (fun s:Int=>zG vf sv v v2 s) (fun s=>⟨[(0,.sl zd [0] sv),(1,.fv 76 [.ep (Rp.list zj) [0] v 0,.ep kp [0] v2 0]),(7,kI (sv.length:Int)),(8,kI s)],[]⟩) (fun o e a w=>match o with| (.inl v_)=>e= .exit 0/\Sx ⟨⟨19,[]⟩,Xt,false,#[]⟩ ⟨[],[]⟩ a w| (.inr v_)=>e= .ret/\Sx ⟨⟨19,[]⟩,Xt,false,#[]⟩ ⟨[(4,kI v_)],[]⟩ a w) ?_ vc lzz ?_)))
 ·clear h;intro v3 o h;refine zm ?_;replace h:zG vf sv v v2 v3=some o:=h;unfold zG at h;refine jp (jI h (fun uW h=>?_) fun uW h=>?_)
  ·refine zv (jp (jb h fun x vg h=>jb h fun rv uZ h=>jr (ra 3 [.sl zd [0] sv,kI v3] rfl (zai rfl zjg.el (zC _ _ _) vg) rfl (ra 0 [.ep zd [0] x 0] rfl (zcr rfl ⟨Tryz.isAgg27,Tryz.sizeOf27⟩) rfl (ra 0 [.fv 76 [.ep (Rp.list zj) [0] v 0,.ep kp [0] v2 0],.rc zd [0] x] rfl (zBw (args:=[.tmp 15]) [.rc zd [0] x] [0] 10 rfl (zEe _ _) Tryz.call76 (ztr uZ) rfl rfl rfl rfl rfl) rfl rf))) (jI h (fun uY h=>?_) fun uY h=>?_)))
   ·refine jp ?_;cases h;exact zbf lzz
   refine zX (jp ?_);cases h;exact zH lzz
  cases h;exact zad rfl lzz
 rcases q with u| u2
 ·refine zas _ rfl (jp ?_);cases h;exact zw lzz
 obtain rfl:=(sj h);exact zdj lzz
theorem zft (h:zao vf sv v v2=some r):FnOk Tryz.prog 75 [.sl zd [0] sv,.fv 76 [.ep (Rp.list zj) [0] v 0,.ep kp [0] v2 0]] [kB r]:=by
 refine zy (E:=⟨[(4,kB r)],[]⟩) 9 Tryz.func75 rfl rfl rfl ⟨rfl,trivial⟩ (fun Xt=>?_);refine zm ?_;unfold zao at h;refine jp (jb h fun rv uZ h=>jr (rl 2 [0] 9 Tryz.call107 (zfP uZ) rf) ?_);cases h;exact zw lzz
theorem zlR (h:zii vf sv ve l=some r):FnOk Tryz.prog 36 [.sl zj [0] sv,kI ve,.sl zd [0] l] [k8 r]:=by
 refine zy (E:=⟨[(6,k8 r)],[]⟩) 27 Tryz.func36 rfl rfl rfl ⟨rfl,trivial⟩ (fun Xt=>?_);refine zm ?_;unfold zii at h;refine jq [907600,907601] (jb h fun rv uZ h=>jr (ra 1 [.ptr 907600 0,.ptr 907601 0] rfl (zEs (g:=76) [.tmp 3,.tmp 4] [⟨907600,23,[.sl zj [0] sv]⟩,⟨907601,3,[kI ve]⟩] [.ep (Rp.list zj) [907600,0] sv 0,.ep kp [907601] ve 0] rfl ⟨⟨rfl,rfl,rfl⟩,⟨rfl,rfl,rfl⟩,trivial⟩ rfl) rfl (rl 0 [0,907600,907601] 9 Tryz.call75 (zft uZ) rf)) (zv (jp (jI h (fun uW h=>?_) fun uW h=>?_))))
 ·refine jp ?_;cases h;exact zw lzz
 refine jb h fun rv2 vj h=>jr (rl 1 [0] 9 Tryz.call77 (zpW vj) rf) (jI h (fun uY h=>?_) fun uY h=>?_)
 ·refine jp ?_;cases h;exact zw lzz
 refine zab ⟨[(18,kB ((decide (ve<0))|| (decide (ve>=(sv.length:Int)))))],[]⟩ ?_ ?_
 ·refine (rsl 3 [] 21 (decide (ve<0)) (fun u9=>?_) (fun u9=>?_))
  · exact (rbl [] 18 true rfl (by rw [u9]<;>rfl))
  exact (rbl [] 18 (decide (ve>=(sv.length:Int))) rfl (by rw [u9]<;>rfl))
 refine jI h (fun vd h=>?_) fun vd h=>?_
 ·refine jp ?_;cases h;exact zw lzz
 refine zX (jp ?_);cases h;exact zw lzz
theorem zts (h:ziO vf sv ve x m keep=some r):FnOk Tryz.prog 45 [.sl zj [0] sv,kI ve,.rc zd [0] x,.rc zqy [0] m,kB keep] [.ag (zo 3 [4,5,0,6,7,8,9,10,11] 12 [] r.1),k8 r.2]:=by
 refine zy (E:=⟨[(10,.ptr 2 0),(11,k8 r.2)],[⟨2,27,(zo 3 [4,5,0,6,7,8,9,10,11] 12 [] r.1)⟩]⟩) 32 Tryz.func45 rfl rfl rfl ⟨⟨_,_,rfl,rfl,rfl,⟨Tryz.isAgg27,Tryz.sizeOf27⟩⟩,rfl,trivial⟩ (fun Xt=>?_);refine zm ?_;unfold ziO at h;refine jr (ra 0 [.rc zd [0] x] rfl (zbc 28 (zh [0] x) [0] rfl rfl rfl (by rw [zk]<;>rfl) rfl) rfl (ra 0 [.rc zqy [0] m] rfl (zbc 29 [.sl kq [0] m.Ways] [0] rfl rfl rfl rfl rfl) rfl (rfl' [30]))) (jb h fun rv uZ h=>jr (rc 3 rfl (zA.le (ins':=[(.tmp 15,.ag (zh [0] x))]) (zbX [.rc zd [0] x] 31 [0] ([x]:(List zc)) rfl zjg rfl rfl rfl (by simp only [ziL,zeJ,zfC,zk,xN,yo]<;>rfl)) ⟨⟨rfl,zM [0] x⟩,trivial⟩) (rl 0 [0,31] 30 Tryz.call36 (zlR uZ) rf)) (jp (jI h (fun uW h=>?_) fun uW h=>?_)))
 ·refine jr (ra 0 [] rfl (zbK [] [kN,kN] rfl zsz rfl) rfl rf) ?_;cases h;exact zw (lk [10,11] [30] 30 2 (lq ⟨[(10,.ptr 2 0),(11,k8 rv)],[⟨2,27,[kN,kN]⟩]⟩ (zaN 2 0 (.own zb 57 3 [4,5,0,6,7,8,9,10,11] (((⟨[],[]⟩:zc),rv):(zc×Int)).1.Values) rfl rfl (zaT zb 57 3 [4,5,0,6,7,8,9,10,11] rfl) (zaN 2 1 (.own Rp.str 9 12 [] (((⟨[],[]⟩:zc),rv):(zc×Int)).1.Unknown) rfl rfl (zaT Rp.str 9 12 [] rfl) lzz))))
 refine jb h fun rv2 vj h=>jb h fun rv3 vl h=>jb h fun rv4 vx h=>jd [10,11] [30] zbh (by exact (lw_e (lw_e (ly [.ptr 28 0] (zdg (b:=⟨28,27,(zh [0] x)⟩) (zh [0] x) rfl ⟨Tryz.isAgg27,Tryz.sizeOf27⟩ rfl rfl) rfl (lw_e (lw_e (lx (lf1 33 (zQ [.sl kq [0] m.Ways] [0] 30 rfl Tryz.call33 (zwZ vj) rfl rfl rfl rfl rfl)) (ly [.ag [.own kq 53 33 [34,35] rv2.Ways]] (zIY (.own kq 53 33 [34,35] rv2.Ways) rfl Tryz.underlying49 rfl Tryz.isAgg45 rfl) rfl (lw_e (lx (lf1 85 (zA.le (ins':=[(.tmp 22,.sl zj [0] sv),(.tmp 23,kI ve),(.tmp 24,.ag (zh [0] x)),(.tmp 28,.own kq 53 33 [34,35] rv2.Ways),(.tmp 29,kB keep)]) (zQ (args:=[.tmp 22,.tmp 23,.tmp 24,.tmp 28,.tmp 29]) [.sl zj [0] sv,kI ve,.rc zd [0] x,.own kq 53 33 [34,35] rv2.Ways,kB keep] [0,33,34,35] 34 rfl Tryz.call85 (zwm vl) rfl rfl rfl rfl rfl) ⟨⟨rfl,ky _⟩,⟨rfl,ky _⟩,⟨rfl,zM [0] x⟩,⟨rfl,ky _⟩,⟨rfl,ky _⟩,trivial⟩)) (lx (lf1 37 (zA.le (ins':=[(.tmp 30,.ag (zbZ 37 [38,0,33,34,35,39,40] [0,33,34,35] rv3))]) (zQ (args:=[.tmp 30]) [.rc zd [37,38,0,33,34,35,39,40] rv3] [37,38,0,33,34,35,39,40] 39 rfl Tryz.call37 (zud vx) rfl rfl rfl rfl rfl) ⟨⟨rfl,zaE zd [37,38,0,33,34,35,39,40] rv3 (zbZ 37 [38,0,33,34,35,39,40] [0,33,34,35] rv3) (by rw [zk]<;>rfl) rfl⟩,trivial⟩)) (ly [.ptr 30 0,.ag (zo 42 [37,38,0,33,34,35,39,40,43] 44 [] rv4)] (zim (b:=⟨30,27,[kN,kN]⟩) (off:=0) (zo 42 [37,38,0,33,34,35,39,40,43] 44 [] rv4) rfl Tryz.sizeOf27 rfl rfl rfl) rfl l0)))))))))))) ?_;cases h;exact zw (lk [10,11] [30] 30 2 (lk [10,11] [2] 42 3 (lk [10,11] [2] 44 12 (lk [10,11] [2] 37 11 (lk [10,11] [2] 38 11 (lk [10,11] [2] 33 11 (lk [10,11] [2] 34 11 (lk [10,11] [2] 35 11 (lk [10,11] [2] 39 11 (lk [10,11] [2] 40 11 (lk [10,11] [2] 43 11 (lq ⟨[(10,.ptr 2 0),(11,k8 0)],[⟨2,27,(zo 3 [11,11,0,11,11,11,11,11,11] 12 [] rv4)⟩]⟩ (zaN 2 0 (.own zb 57 3 [4,5,0,6,7,8,9,10,11] ((rv4,0):(zc×Int)).1.Values) rfl rfl (zdz _ _ _ _ _ _ rfl rfl) lzz)))))))))))))
theorem zpQ (h:zjh vf sv ve av b=some r):FnOk Tryz.prog 11 [.sl zj [0] sv,kI ve,.rc zd [0] av,.rc zd [0] b] [.ag (zo 3 [4,5,6,0,7,8,9] 10 [] r.1),k8 r.2]:=by
 refine zy (E:=⟨[(8,.ptr 2 0),(9,k8 r.2)],[⟨2,27,(zo 3 [4,5,6,0,7,8,9] 10 [] r.1)⟩]⟩) 27 Tryz.func11 rfl rfl rfl ⟨⟨_,_,rfl,rfl,rfl,⟨Tryz.isAgg27,Tryz.sizeOf27⟩⟩,rfl,trivial⟩ (fun Xt=>?_);refine zm ?_;unfold zjh at h;refine jr (ra 0 [.rc zd [0] av] rfl (zbc 25 (zh [0] av) [0] rfl rfl rfl (by rw [zk]<;>rfl) rfl) rfl (ra 0 [.rc zd [0] b] rfl (zbc 26 (zh [0] b) [0] rfl rfl rfl (by rw [zk]<;>rfl) rfl) rfl (rfl' [27]))) (jb h fun rv uZ h=>jr (rc 4 rfl (zA.le (ins':=[(.tmp 13,.ag (zh [0] av)),(.tmp 14,.ag (zh [0] b))]) (zbX [.rc zd [0] av,.rc zd [0] b] 28 [0] ([av,b]:(List zc)) rfl zjg rfl rfl rfl (by simp only [ziL,zeJ,zfC,zk,xN,yo]<;>rfl)) ⟨⟨rfl,zM [0] av⟩,⟨rfl,zM [0] b⟩,trivial⟩) (rl 0 [0,28] 27 Tryz.call36 (zlR uZ) rf)) (jp (jI h (fun uW h=>?_) fun uW h=>?_)))
 ·refine jr (ra 0 [] rfl (zbK [] [kN,kN] rfl zsz rfl) rfl rf) ?_;cases h;exact zw (lk [8,9] [27] 27 2 (lq ⟨[(8,.ptr 2 0),(9,k8 rv)],[⟨2,27,[kN,kN]⟩]⟩ (zaN 2 0 (.own zb 57 3 [4,5,6,0,7,8,9] (((⟨[],[]⟩:zc),rv):(zc×Int)).1.Values) rfl rfl (zaT zb 57 3 [4,5,6,0,7,8,9] rfl) (zaN 2 1 (.own Rp.str 9 10 [] (((⟨[],[]⟩:zc),rv):(zc×Int)).1.Unknown) rfl rfl (zaT Rp.str 9 10 [] rfl) lzz))))
 refine jb h fun rv2 vj h=>jb h fun rv3 vl h=>jr (rc 4 rfl (zA.le (ins':=[(.tmp 21,.sl zj [0] sv),(.tmp 22,kI ve),(.tmp 23,.ag (zh [0] av)),(.tmp 24,.ag (zh [0] b))]) (zQ (args:=[.tmp 21,.tmp 22,.tmp 23,.tmp 24]) [.sl zj [0] sv,kI ve,.rc zd [0] av,.rc zd [0] b] [0] 27 rfl Tryz.call38 (zvA vj) rfl rfl rfl rfl rfl) ⟨⟨rfl,ky _⟩,⟨rfl,ky _⟩,⟨rfl,zM [0] av⟩,⟨rfl,zM [0] b⟩,trivial⟩) (rc 0 rfl (zA.le (ins':=[(.tmp 25,.ag (zo 30 [31,32,0,33] 34 [] rv2))]) (zQ (args:=[.tmp 25]) [.rc zd [30,31,32,0,33,34] rv2] [30,31,32,0,33,34] 33 rfl Tryz.call37 (zud vl) rfl rfl rfl rfl rfl) ⟨⟨rfl,zaE zd [30,31,32,0,33,34] rv2 (zo 30 [31,32,0,33] 34 [] rv2) (by rw [zk]<;>rfl) rfl⟩,trivial⟩) rf)) ?_;cases h;exact zw (lk [8,9] [27] 27 2 (lk [8,9] [2] 36 3 (lk [8,9] [2] 38 10 (lk [8,9] [2] 30 9 (lk [8,9] [2] 31 9 (lk [8,9] [2] 32 9 (lk [8,9] [2] 33 9 (lk [8,9] [2] 34 9 (lk [8,9] [2] 37 9 (lq ⟨[(8,.ptr 2 0),(9,k8 0)],[⟨2,27,(zo 3 [9,9,9,0,9,9,9] 10 [] rv3)⟩]⟩ (zaN 2 0 (.own zb 57 3 [4,5,6,0,7,8,9] ((rv3,0):(zc×Int)).1.Values) rfl rfl (zdz _ _ _ _ _ _ rfl rfl) lzz)))))))))))
def zzt (F G:Fp) (x:zc):Prop:=∀(w:World) (b off:Nat) (h u:Value) (ds:List Value),w.ownsRow 0 57 4 h x.Values.length ds->(∀i v,x.Values[i]? =some v->DT te Qa F w (.inr v) (elAt 4 ds i))->(∀b,G b->b<w.heap.size)->Here 27 G w b off h u->
  Calls Tryz.prog 39 #[.pointer (some ⟨b,off,none⟩)] w fun ex w'=>ex= .returned (zlV [])/\NW 27 G w w'/\(∀i v,x.Values[i]? =some v->DT te Qn F w' (.inr v) (elAt 4 ds i))/\Here 27 G w' b off h vN
theorem zJC (hQ:∀us u,Q us u->Q us vN) (hn:NW 27 G w w') (k:DT te Q F w (.inl x) [h,u]) (hu:u'=u\/u'=vN):DT te Q F w' (.inl x) [h,u']:=
  DT.nw (e:=te) hQ (by decide) (by decide) (by decide) hn k h u rfl u' hu
theorem zAX (hQ:∀us u,Q us u->Q us vN) (hn:NW 27 G w w') (k:DT te Q F w (.inr y) cs):DT te Q F w' (.inr y) cs:=
  DT.nw (e:=te) hQ (by decide) (by decide) (by decide) hn k
theorem zxt:∀(us:List Str) (u:Value),Qa us u->Qa us vN:=fun _ _ _=>rfl
theorem zHP:∀(us:List Str) (u:Value),Qn us u->Qn us vN:=fun _ _ _=>rfl
theorem zIi (hFG:∀b,F b->G b) (x:zc) (ih:∀(i:Nat) (y:za) (k:Nat) (z:zc),x.Values[i]? =some y->y.Subs[k]? =some z->zzt F G z):zzt F G x:=by
  intro w b off h u ds hrow hvals hlt hH;obtain ⟨hF,hoff,cur,hh,wT,uW⟩:=id hH;obtain ⟨hn1,hH1⟩:=zKo (F:=G) hF hoff hh wT uW;have h1:=hn1.row (by decide) hrow;have h3:∀i v,x.Values[i]? =some v->DT te Qa F _ (.inr v) (elAt 4 ds i):=fun i v hv=>zAX zxt hn1 (hvals i v hv)
  obtain ⟨w1,hw1⟩:∃w1,w1=w.setRow b (stN cur (off+1)):=⟨_,rfl⟩;rw [<-hw1] at hn1 hH1 h1 h3;have hlt1:∀b,G b->b<w1.heap.size:=fun b hb=>xT (hlt b hb) hn1.size
  have hsz:off+1<cur.size:=(xY.1 uW).1;refine py Tryz.func39 rfl (wp_mono (zEO (m:=true) (Q:=fun ex a w'=>ex= .normal/\a.defers=[]/\NW 27 G w w'/\(∀i v,x.Values[i]? =some v->DT te Qn F w' (.inr v) (elAt 4 ds i))/\Here 27 G w' b off h vN) ?_) ?_)
  rotate_left
  · rintro ex a w' ⟨rfl,hd,k⟩;obtain ⟨us,hu,hu'⟩:=zlI (P:=Tryz.prog) (fn:=Tryz.f39) (E:=⟨[],[]⟩) (l:=[]) (γ:=gh0 F) (a:=a) (w:=w') (fun p hp=>by cases hp) (fun p hp=>by cases hp) (show zox Tryz.prog ⟨[],[]⟩ [] [] from trivial);cases hu';exact ⟨hd,_,hu,rfl,k⟩
  have e0:Ev ⟨#[.pointer (some ⟨b,off,none⟩)]++Array.replicate (Tryz.f39.ntmps - 1) undef,[]⟩ 30 [(0,.pointer (some ⟨b,off,none⟩))]:=Ev.one _ 29;refine zjG (zcA ?_);refine wk e0 rfl rfl rfl (zny rfl (e0.at rfl)) fun a e=>?_
  refine wk e rfl rfl rfl (zGD rfl (e.at rfl)) fun a e=>?_
  refine wk e rfl rfl rfl (zzF (k:=1) rfl (e.at rfl) rfl) fun a e=>?_
  refine zEN e rfl rfl (zJE (s:=1) [vN] rfl (e.at rfl) hh Tryz.sizeOf25 rfl rfl rfl hsz (fun v hv=>by
    cases hv with
    | head=>rfl
    | tail _ hv=>cases hv)) fun a e=>?_
  refine zlZ ?_;show wq _ _ _ _ _ (w.setRow b (stN cur (off+1)));rw [<-hw1];refine zjG (zcA ?_);refine wk e rfl rfl rfl (zny rfl (e.at rfl)) fun a e=>?_
  refine wk e rfl rfl rfl (zGD rfl (e.at rfl)) fun a e=>?_
  refine wk e rfl rfl rfl (zzF (k:=0) rfl (e.at rfl) rfl) fun a e=>?_
  refine wk e rfl rfl rfl (zCS rfl (e.at rfl) rfl hH1.cell.1) fun a e=>?_
  obtain ⟨hbound,_,A,c,hsl⟩:=zse h1;refine wk e rfl rfl rfl (zGC rfl ((e.at rfl).trans hsl) Tryz.underlying24) fun a e=>?_
  refine wk e rfl rfl rfl (zny rfl rfl) fun a e=>?_
  refine zlZ ?_;have e:=e.pick [(11,h),(12,.int .i64 x.Values.length),(13,.int .i64 ((0:Nat):Int))] ⟨rfl,rfl,rfl,trivial⟩;refine zCs 0 (fun i a wi=>Ev a 30 [(11,h),(12,.int .i64 x.Values.length),(13,.int .i64 (i:Int))]/\NW 27 G w1 wi/\∀j y,x.Values[j]? =some y->(i<=j->DT te Qa F wi (.inr y) (elAt 4 ds j))/\(j<i->DT te Qn F wi (.inr y) (elAt 4 ds j))) x.Values.length ?_ ?_ ⟨e,.refl _ _ _,fun j y hy=>⟨fun _=>h3 j y hy,fun k=>absurd k (Nat.not_lt_zero _)⟩⟩ ?_
  · clear e;intro i a wi hi ⟨e,hnw,hAll⟩;obtain ⟨y,hy⟩:∃y,x.Values[i]? =some y:=⟨_,xH hi⟩;have hDi:=(hAll i y hy).1 (xB _);obtain ⟨g,cap,curV,hg,hgh,hlen,hcell⟩:=zDv (hnw.row (by decide) h1) hi;obtain ⟨c1,c2,c3,ws,ts,dsub,hel,k1,k2,k3,k4,k5,k6,k7,k8,k9⟩:=hDi.inv;obtain ⟨hsub,o3,A3,cap3,hs3⟩:=zse k7;refine zjG (zcA ?_);refine wk e rfl rfl rfl (zzG rfl (e.at rfl) (e.at rfl)) fun a e=>?_
    refine zlZ (zjG (zpP ((e.at rfl).trans (congrArg Value.bool (ya (by omega)))) (zAz ?_)));refine zjG (zuo ?_);refine zjG (zcA ?_);refine wk e rfl rfl rfl (zJD rfl zjz.el ((e.at rfl).trans hg) (e.at rfl) (uc i) (by omega)) fun a e=>?_
    refine wk e rfl rfl rfl (zJV (s:=4) (cs:=elAt 4 ds i) rfl (e.at rfl) ⟨Tryz.isAgg57,Tryz.sizeOf57⟩ hlen (fun q hq=>(yv wi g _ curV _ _ hgh).trans (hcell q (by omega)))) fun a e=>?_
    refine wk e rfl rfl rfl (zGB rfl Tryz.zeroValue57) fun a e=>?_
    rw [hel] at e;refine zEN e rfl rfl (zJE (s:=4) [.int .i64 y.Number,c1,c2,c3] rfl (e.at rfl) (yO wi _) Tryz.sizeOf57 (e.at rfl) rfl rfl (xB _) (fun v hv=>?_)) fun a e=>?_
    · simp only [xz,xF,xG] at hv;rcases hv with rfl| rfl| rfl| rfl
      · rfl
      · exact (zse k1).2.1
      · exact (zse k4).2.1
      · exact o3
    refine zlZ ?_;have hnb:=zKn 27 G wi (.cells (Value.agg #[.int .i64 0,vN,vN,vN]).cells 57) [.int .i64 y.Number,c1,c2,c3].toArray;have hb3:=qf (wi.alloc (.cells (Value.agg #[.int .i64 0,vN,vN,vN]).cells 57)) wi.heap.size _ [.int .i64 y.Number,c1,c2,c3].toArray _ _ (yO wi _);show wq _ _ _ _ _ ((wi.alloc (.cells (Value.agg #[.int .i64 0,vN,vN,vN]).cells 57)).setRow wi.heap.size [.int .i64 y.Number,c1,c2,c3].toArray);have hbF:¬G wi.heap.size:=fun hF=>absurd (xT (hlt1 _ hF) hnw.size) (pz _)
    generalize hb:wi.heap.size=b3 at*
    generalize hw3:(wi.alloc (.cells (Value.agg #[.int .i64 0,vN,vN,vN]).cells 57)).setRow b3 [.int .i64 y.Number,c1,c2,c3].toArray=w3 at*
    have e:=e.pick [(3,.pointer (some ⟨b3,0,none⟩)),(11,h),(12,.int .i64 x.Values.length),(13,.int .i64 (i:Int))] ⟨rfl,rfl,rfl,rfl,trivial⟩;refine zjG (zcA ?_);refine wk e rfl rfl rfl (zzF (k:=3) rfl (e.at rfl) rfl) fun a e=>?_
    refine wk e rfl rfl rfl (zCS rfl (e.at rfl) rfl ((yv w3 b3 _ _ _ _ hb3).trans rfl)) fun a e=>?_
    refine wk e rfl rfl rfl (zGC rfl ((e.at rfl).trans hs3) Tryz.underlying55) fun a e=>?_
    refine wk e rfl rfl rfl (zny rfl rfl) fun a e=>?_
    refine zlZ ?_;have e:=e.pick [(3,.pointer (some ⟨b3,0,none⟩)),(11,h),(12,.int .i64 x.Values.length),(13,.int .i64 (i:Int)),(19,.int .i64 y.Subs.length),(20,.int .i64 ((0:Nat):Int))] ⟨rfl,rfl,rfl,rfl,rfl,rfl,trivial⟩;have hD3:=zAX zxt hnb hDi;obtain ⟨_,_,_,_,_,d3,hel3,_,_,_,_,_,_,q7,_,q9⟩:=hD3.inv;rw [hel] at hel3;simp only [yC,qu,qv] at hel3;obtain ⟨rfl,rfl,rfl⟩:=hel3
    refine zCs 2 (fun k a wk=>Ev a 30 [(3,.pointer (some ⟨b3,0,none⟩)),(11,h),(12,.int .i64 x.Values.length),(13,.int .i64 (i:Int)),(19,.int .i64 y.Subs.length),(20,.int .i64 (k:Int))]/\NW 27 G w3 wk/\∃d',wk.ownsRow 0 27 2 c3 y.Subs.length d'/\
      ∀j z,y.Subs[j]? =some z->(k<=j->DT te Qa F wk (.inl z) (elAt 2 d' j))/\(j<k->DT te Qn F wk (.inl z) (elAt 2 d' j))) y.Subs.length ?_ ?_ ⟨e,.refl _ _ _,d3,q7,fun j z hz=>⟨fun _=>q9 j z hz,fun k=>absurd k (Nat.not_lt_zero _)⟩⟩ ?_
    · clear e;intro k a w4 hk ⟨e,hnk,d',r',hS⟩;obtain ⟨z,hz⟩:∃z,y.Subs[k]? =some z:=⟨_,xH hk⟩;have hDz:=(hS k z hz).1 (xB _);obtain ⟨g3,cap4,cur3,hg3,hgh3,hlen3,hcell3⟩:=zDv r' hk;obtain ⟨hk4,uk,hel2,hi1,hi2⟩:=zwA (ds:=d') (i:=k) (by rw [r'.1];omega);rw [hel2] at hDz;obtain ⟨dz,z1,z2,z3,_⟩:=hDz.invM;have hb4:=(hnk.same (xY.1 hb3).1 hbF).trans hb3;have hlt4:∀b,G b->b<w4.heap.size:=fun b hb=>xT (hlt1 b hb) (hnw.trans (hnb.trans hnk)).size
      have hHz:Here 27 G w4 g3 (k*2) hk4 uk:=⟨hFG _ (k8 g3 (by rw [hg3];rfl)),by omega,cur3,hgh3,by
        have:=hcell3 0 (by omega);rw [hel2] at this;exact this,by
        have:=hcell3 1 (by omega);rw [hel2] at this;exact this⟩
      refine zjG (zcA ?_);refine wk e rfl rfl rfl (zzG rfl (e.at rfl) (e.at rfl)) fun a e=>?_
      refine zlZ (zjG (zpP ((e.at rfl).trans (congrArg Value.bool (ya (by omega)))) (zAz ?_)));refine zjG (zuo ?_);refine zjG (zcA ?_);refine wk e rfl rfl rfl (zny rfl (e.at rfl)) fun a e=>?_
      refine wk e rfl rfl rfl (zFb rfl (e.at rfl)) fun a e=>?_
      refine zlZ (zcA (wk e rfl rfl rfl (zzF (k:=3) rfl (e.at rfl) rfl) fun a e=>?_))
      refine wk e rfl rfl rfl (zCS rfl (e.at rfl) rfl ((yv w4 b3 _ _ _ _ hb4).trans rfl)) fun a e=>?_
      refine wk e rfl rfl rfl (zny rfl (e.at rfl)) fun a e=>?_
      refine wk (v:= .pointer (some ⟨g3,k*2,none⟩)) e rfl rfl rfl (zJD rfl zjg.el ((e.at rfl).trans hg3) (e.at rfl) (uc k) (by omega)) fun a e=>?_
      refine zJu e rfl rfl rfl rfl Tryz.call39 (e.at rfl) (ih i y k z hy hz w4 g3 (k*2) hk4 uk dz z1 z3 hlt4 hHz) fun a w5 e hpost=>?_
      obtain ⟨hn5,hz5,hH5⟩:=hpost;have hD5:DT te Qn F w5 (.inl z) [hk4,vN]:= .m z hk4 vN dz (hn5.row (by decide) z1) z2 hz5 rfl;refine zlZ (zcA ?_);have hwr:=zEP hk hsub;refine wk (v:= .int .i64 ((k+1:Nat):Int)) e rfl rfl rfl ((zGA rfl (e.at rfl) rfl).trans (by rw [hwr])) fun a e=>?_
      refine wk e rfl rfl rfl (zny rfl (e.at rfl)) fun a e=>?_
      obtain ⟨d5,r5,near⟩:=hn5.rowM r';refine zlZ ⟨rfl,e.pick _ ⟨rfl,rfl,rfl,rfl,rfl,rfl,trivial⟩,hnk.trans hn5,d5,r5,fun j z' hz'=>?_⟩;have hjl:=(xZ.1 hz').1;obtain ⟨aj,uj,uj',j1,j2,j3⟩:=near.el (i:=j) (by rw [r'.1];omega);by_cases hj:j=k
      · subst hj;rw [hz] at hz';cases hz';refine ⟨fun hle=>absurd hle (by omega),fun _=>?_⟩;obtain ⟨g5,cap5,cur5,hg5,hgh5,hlen5,hcell5⟩:=zDv r5 hk;rw [hg3] at hg5;cases hg5;obtain ⟨_,_,cx,q1,q2,q3⟩:=hH5;rw [hgh5] at q1;cases q1;have t0:=hcell5 0 (by omega);have t1:=hcell5 1 (by omega);rw [j2] at t0 t1|-;have t0':some hk4=some aj:=q2.symm.trans t0;have t1':some vN=some uj':=q3.symm.trans t1;cases t0';cases t1';exact hD5
      · rw [j2];exact ⟨fun hle=>zJC zxt hn5 (j1▸(hS j z' hz').1 (by omega)) j3,fun hlt=>zJC zHP hn5 (j1▸(hS j z' hz').2 (by omega)) j3⟩
    · intro a w5 ⟨e,hnk,hS⟩;refine zjG (zcA ?_);refine wk e rfl rfl rfl (zzG rfl (e.at rfl) (e.at rfl)) fun a e'=>?_
      refine zlZ (zjG (zow ((e'.at rfl).trans (congrArg Value.bool (yd (by omega)))) (zAy ?_)));exact ⟨rfl,e'.pick _ ⟨rfl,rfl,rfl,rfl,rfl,rfl,trivial⟩,hnk,hS⟩
    · intro a w4 ⟨e,hnk,d',r',hS⟩;have hn4:=hnb.trans hnk;refine zcA ?_;have hwr:=zEP hi hbound;refine wk (v:= .int .i64 ((i+1:Nat):Int)) e rfl rfl rfl ((zGA rfl (e.at rfl) rfl).trans (by rw [hwr])) fun a e=>?_
      refine wk e rfl rfl rfl (zny rfl (e.at rfl)) fun a e=>?_
      refine zlZ ⟨rfl,e.pick _ ⟨rfl,rfl,rfl,trivial⟩,hnw.trans hn4,fun j y' hy'=>?_⟩;by_cases hj:j=i
      · subst hj;rw [hy] at hy';cases hy';refine ⟨fun hle=>absurd hle (by omega),fun _=>?_⟩;obtain ⟨_,_,_,ws4,ts4,_,hel4,p1,p2,p3,p4,p5,p6,_,p8,_⟩:=(zAX zxt hn4 hDi).inv;rw [hel] at hel4;simp only [yC,qu,qv] at hel4;obtain ⟨rfl,rfl,rfl⟩:=hel4;rw [hel];exact .v y _ _ _ ws4 ts4 d' p1 p2 p3 p4 p5 p6 r' p8 fun q z hz=>(hS q z hz).2 (xZ.1 hz).1
      · exact ⟨fun hle=>zAX zxt hn4 ((hAll j y' hy').1 (by omega)),fun hlt=>zAX zHP hn4 ((hAll j y' hy').2 (by omega))⟩
  · intro a wi ⟨e,hnw,hAll⟩;refine zjG (zcA ?_);refine wk e rfl rfl rfl (zzG rfl (e.at rfl) (e.at rfl)) fun a e'=>?_
    refine zlZ (zjG (zow ((e'.at rfl).trans (congrArg Value.bool (yd (by omega)))) (zAy ?_)));exact ⟨rfl,e'.pick _ ⟨rfl,rfl,rfl,trivial⟩,hnw,hAll⟩
  · intro a wi ⟨e,hnw,hAll⟩;exact ⟨rfl,e.defers,hn1.trans hnw,fun j y hy=>(hAll j y hy).2 (xZ.1 hy).1,hH1.nil hnw⟩
theorem zzl (hFG:∀b,F b->G b) (x:zc):zzt F G x:=zIi hFG x fun i y k z hy hz=>zzl hFG z
termination_by SizeOf.sizeOf x
decreasing_by
  have h1:=List.sizeOf_lt_of_mem (yR hy);have h2:=List.sizeOf_lt_of_mem (yR hz);cases x;cases y;simp only [zc.mk.sizeOf_spec,za.mk.sizeOf_spec] at*
  omega
theorem zmq:∀(l:List za),zdb l=l.map zge
  | []=>by rw [zdb];rfl
  | v::l=>by rw [zdb,zmq l];rfl
theorem zuc:∀(l:List zc),zen l=l.map zhq
  | []=>by rw [zen];rfl
  | x::l=>by rw [zen,zuc l];rfl
theorem zIh (h:DT te Qn F w (.inr y) cs):zW F w (zb.lv (zge y)) cs:=
  h.lv zhq zge (fun x=>by cases x;rw [zhq,zmq]) (fun y=>by cases y;rw [zge,zuc]) fun x u hu=>by
    cases x;rw [zhq,show u=_ from hu];exact zvS rfl (pA w 0 te.S 1) (fun g hg=>by cases hg) .nil
theorem zHz (ho:o.op= .call ⟨.value (.func 39),#[x],ts⟩) (hC:(!memN l C1)=true):
    zA Tryz.prog o [(x,.ptr qb 0)] [⟨qb,27,[.cu (mix (dpV te) 57 n n vals) l C1 C4,.own Rp.str 9 l2 C2 us]⟩] (qb::C1) [] (.tup []) [⟨qb,27,[.own zb 57 l C1 (zdb vals),kN]⟩]:=by
  intro γ a w hi hb next Q hk;have hp:a.eval x= .pointer (some ⟨γ.box qb,0,none⟩):=hi (x,.ptr qb 0) (by simp);obtain ⟨hcol,cs,hh,hL,h1c⟩:=hb _ xx;obtain ⟨u0,_,rfl,hv,u1,_,rfl,hu,rfl⟩:=hL;obtain ⟨ds,hrow,hg,hn,hD⟩:=hv;have hlt:=(xY.1 hh).1;have hvals:∀i v,vals[i]? =some v->DT te Qa (fun b=>γ.F C1 b/\b<w.heap.size) w (.inr v) (elAt 4 ds i):=fun i v hv=>
    ((hD i v hv).1 (by have:=(xZ.1 hv).1;omega)).to (xB _) (fun b hb hF=>⟨rfl,hF,hb⟩) fun us u ⟨cs,q1,_,_⟩=>(zse q1).2.1
  have hcall:=zzl (F:=fun b=>γ.F C1 b/\b<w.heap.size) (G:=fun b=>γ.F (qb::C1) b/\b<w.heap.size) (fun b hb=>⟨xy _ hb.1,hb.2⟩) ⟨vals,us⟩ w (γ.box qb) 0 u0 u1 ds hrow hvals (fun b hb=>hb.2)
    ⟨⟨by show γ.col _∈_;rw [hcol];exact xx,hlt⟩,rfl,_,hh,rfl,rfl⟩
  have hrun:(execOp a.eval o).run Tryz.prog w= .ok (.enter 39 #[.pointer (some ⟨γ.box qb,0,none⟩)]) w:=by
    have hf:a.eval (.func 39)= .func (.func 39) #[] #[]:=rfl;simp [execOp,ho,resolve,hf,hp,Deferred.ofValue,invoke,Tryz.call39]
  unfold Oper.wp;rw [hrun,qw];refine hcall.mono fun ex w' ⟨he,hnw,hvals',hH⟩=>?_
  subst he;refine hk ⟨fun b=>if b<w.heap.size then γ.col b else 1,γ.box⟩ w' _ ⟨hnw.os,hnw.tape,hnw.output,hnw.size,fun b hb hn=>(hnw.blk b hb).resolve_right fun k=>hn k.1.1,fun b hb=>by simp [hb],fun _ _=>rfl,fun b h1 h2 h0=>by simp [Nat.not_lt.2 h1] at h0⟩ ⟨_,rfl,rfl⟩ fun b hb=>?_
  simp only [xz,xF,xG] at hb;subst hb;obtain ⟨_,_,cur',q1,q2,q3⟩:=hH;have hcur:cur'=#[u0,vN]:=by
    have hsz:cur'.size=2:=by
      rcases hnw.blk _ hlt with k| ⟨_,c,c',k1,k2,k3,_⟩
      · rw [q1,hh] at k;cases k;rfl
      · rw [hh] at k1;cases k1;rw [q1] at k2;cases k2;exact k3
    apply Array.ext_getElem?;intro j
    match j with
    | 0=>exact q2
    | 1=>exact q3
    | j+2=>rw [Array.getElem?_eq_none (by omega)];rfl
  subst hcur;refine ⟨by simp [hlt,hcol],[u0,vN],q1,?_,?_⟩
  · refine ⟨u0,_,rfl,⟨ds,?_,fun g hgb=>?_,?_,zds hC⟩,vN,_,rfl,⟨rfl,.val _ rfl⟩,rfl⟩
    · rw [zmq,yZ];exact hnw.row (by decide) hrow
    · refine ⟨?_,(hg g hgb).2⟩;show (if _ then _ else _)=_;rw [xw (hrow.lt g hgb).2,(hg g hgb).1]
    · rw [zmq];refine zAG (r:=zb) (by rw [yZ];exact hrow.1) fun i v hv=>?_
      rw [yB] at hv;cases hy:vals[i]? with
      | none=>rw [hy] at hv;cases hv
      | some y=>
        rw [hy] at hv;cases hv;refine (zIh (hvals' i y hy)).mono fun b _ hF=>?_
        show (if _ then _ else _)∈_;rw [xw hF.2];exact hF.1
  · intro v hv;simp only [xz,xF,xG] at hv;rcases hv with rfl| rfl
    · exact (zse hrow).2.1
    · rfl
theorem zut (h:zjJ vf sv ve x=some r):FnOk Tryz.prog 12 [.sl zj [0] sv,kI ve,.rc zd [0] x] [.ag (zat 3 [4] r.1),k8 r.2]:=by
 refine zy (E:=⟨[(6,.ptr 2 0),(7,k8 r.2)],[⟨2,27,(zat 3 [4] r.1)⟩]⟩) 23 Tryz.func12 rfl rfl rfl ⟨⟨_,_,rfl,rfl,rfl,⟨Tryz.isAgg27,Tryz.sizeOf27⟩⟩,rfl,trivial⟩ (fun Xt=>?_);refine zm ?_;unfold zjJ at h;refine jr (ra 0 [.rc zd [0] x] rfl (zbc 17 (zh [0] x) [0] rfl rfl rfl (by rw [zk]<;>rfl) rfl) rfl (rfl' [18])) (jb h fun rv uZ h=>jr (rc 3 rfl (zA.le (ins':=[(.tmp 12,.ag (zh [0] x))]) (zbX [.rc zd [0] x] 19 [0] ([x]:(List zc)) rfl zjg rfl rfl rfl (by simp only [ziL,zeJ,zfC,zk,xN,yo]<;>rfl)) ⟨⟨rfl,zM [0] x⟩,trivial⟩) (rl 0 [0,19] 18 Tryz.call36 (zlR uZ) rf)) (jp (jI h (fun uW h=>?_) fun uW h=>?_)))
 ·refine jr (ra 0 [] rfl (zbK [] [kN,kN] rfl zsz rfl) rfl rf) ?_;cases h;exact zw (lk [6,7] [18] 18 2 (lq ⟨[(6,.ptr 2 0),(7,k8 rv)],[⟨2,27,[kN,kN]⟩]⟩ (zaN 2 0 (.own zb 57 3 [4] (((⟨[],[]⟩:zc),rv):(zc×Int)).1.Values) rfl rfl (zaT zb 57 3 [4] rfl) lzz)))
 refine jb h fun rv2 vj h=>jr (rc 1 rfl (zA.le (ins':=[(.tmp 19,.ag (zh [0] x))]) (zQ (args:=[.tmp 19]) [.rc zd [0] x] [0] 18 rfl Tryz.call37 (zyi vj) rfl rfl rfl rfl rfl) ⟨⟨rfl,zM [0] x⟩,trivial⟩) (rfl' [24])) (jr (ra 0 [.ptr 24 0] rfl (zHz (qb:=24) (l:=21) (n:=rv2.Values.length) (l2:=23) (C1:=[22]) (C2:=[]) (C4:=[]) (vals:=rv2.Values) (us:=rv2.Unknown) rfl rfl) rfl rf) (jp ?_));cases h;exact zw (lk [6,7] [18] 18 2 (lk [6,7] [2] 21 3 (lk [6,7] [2] 22 4 lzz)))
end Go.Proofs.YtekgmimingolbaaGreat
