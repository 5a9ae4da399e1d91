/-
  The laws as plain functions. No condition.
-/
import Derived.WalkKit
import Derived.Deep.LoopGhost
import Derived.Deep.Draws
import Derived.KernelRfl
import Derived.Test.YtekgmimingolbaaGreatx1Keys
import Derived.Test.YtekgmimingolbaaGreatx1K2
import Derived.Shelf.SortM.Plain
import Derived.Shelf.SortM.SortNone
import Derived.Sort.OwnSorted
import Derived.Shelf.SlicesG.CompactS
import Derived.Shelf.Strings.OnBuilder
import Derived.Test.YtekgmimingolbaaGreatx1SortF
import Derived.Test.YtekgmimingolbaaGreatProg
namespace Go.Proofs.YtekgmimingolbaaGreat
open Go Go.RowKit Go.Maps Go.Sort Go.Shelf Go.Lib
def zFw:Go.Shelf.Ren:=⟨fun| 6=>104| 15=>137| 14=>136| 28=>168| 29=>169| 20=>160| 21=>161| 22=>162| 23=>163| 24=>164| 25=>165| 26=>166| 27=>167| 46=>189| 47=>190| 48=>191| 49=>192| 50=>193| 57=>216| n=>n,fun| 22=>45| 24=>53| 25=>123| 3=>3| 39=>199| 0=>0| 53=>237| 55=>83| 4=>4| 46=>231| 45=>230| 50=>146| 5=>5| 9=>9| 66=>262| 70=>266| 76=>289| 77=>144| n=>n,fun| n=>n⟩
theorem zLb:Go.Proofs.SlLaysF.n6 Tryz.prog zFw:={
  mixed:=by kernel_rfl,
  f6:=⟨Tryz.f104.name,by decide,Tryz.func104.trans (congrArg some (by kernel_rfl))⟩,
  f14:=⟨Tryz.f136.name,by decide,Tryz.func136.trans (congrArg some (by kernel_rfl))⟩,
  f15:=Tryz.func137.trans (congrArg some (by kernel_rfl)),
  f20:=⟨Tryz.f160.name,by decide,Tryz.func160.trans (congrArg some (by kernel_rfl))⟩,
  f21:=⟨Tryz.f161.name,by decide,Tryz.func161.trans (congrArg some (by kernel_rfl))⟩,
  f22:=⟨Tryz.f162.name,by decide,Tryz.func162.trans (congrArg some (by kernel_rfl))⟩,
  f23:=⟨Tryz.f163.name,by decide,Tryz.func163.trans (congrArg some (by kernel_rfl))⟩,
  f24:=⟨Tryz.f164.name,by decide,Tryz.func164.trans (congrArg some (by kernel_rfl))⟩,
  f25:=⟨Tryz.f165.name,by decide,Tryz.func165.trans (congrArg some (by kernel_rfl))⟩,
  f26:=⟨Tryz.f166.name,by decide,Tryz.func166.trans (congrArg some (by kernel_rfl))⟩,
  f27:=⟨Tryz.f167.name,by decide,Tryz.func167.trans (congrArg some (by kernel_rfl))⟩,
  f28:=Tryz.func168.trans (congrArg some (by kernel_rfl)),
  f29:=Tryz.func169.trans (congrArg some (by kernel_rfl)),
  f46:=⟨Tryz.f189.name,by decide,Tryz.func189.trans (congrArg some (by kernel_rfl))⟩,
  f47:=Tryz.func190.trans (congrArg some (by kernel_rfl)),
  f48:=Tryz.func191.trans (congrArg some (by kernel_rfl)),
  f49:=⟨Tryz.f192.name,by decide,Tryz.func192.trans (congrArg some (by kernel_rfl))⟩,
  f50:=⟨Tryz.f193.name,by decide,Tryz.func193.trans (congrArg some (by kernel_rfl))⟩,
  f57:=⟨Tryz.f216.name,by decide,Tryz.func216.trans (congrArg some (by kernel_rfl))⟩,
  t0:=Tryz.underlying0,
  a0:=Tryz.isAgg0,
  z0:=Tryz.sizeOf0,
  v0:=Tryz.zeroValue0,
  t3:=Tryz.underlying3,
  a3:=Tryz.isAgg3,
  z3:=Tryz.sizeOf3,
  v3:=Tryz.zeroValue3,
  t4:=Tryz.underlying4,
  a4:=Tryz.isAgg4,
  z4:=Tryz.sizeOf4,
  v4:=Tryz.zeroValue4,
  t5:=Tryz.underlying5,
  a5:=Tryz.isAgg5,
  z5:=Tryz.sizeOf5,
  v5:=Tryz.zeroValue5,
  t9:=Tryz.underlying9,
  a9:=Tryz.isAgg9,
  z9:=Tryz.sizeOf9,
  v9:=Tryz.zeroValue9,
  t22:=Tryz.underlying45,
  a22:=Tryz.isAgg45,
  z22:=Tryz.sizeOf45,
  v22:=Tryz.zeroValue45,
  a24:=Tryz.isAgg53,
  z24:=Tryz.sizeOf53,
  t25:=Tryz.underlying123,
  a25:=Tryz.isAgg123,
  z25:=Tryz.sizeOf123,
  v25:=Tryz.zeroValue123,
  t39:=Tryz.underlying199,
  a39:=Tryz.isAgg199,
  z39:=Tryz.sizeOf199,
  v39:=Tryz.zeroValue199,
  t45:=Tryz.underlying230,
  a45:=Tryz.isAgg230,
  z45:=Tryz.sizeOf230,
  v45:=Tryz.zeroValue230,
  t46:=Tryz.underlying231,
  a46:=Tryz.isAgg231,
  z46:=Tryz.sizeOf231,
  v46:=Tryz.zeroValue231,
  t50:=Tryz.underlying146,
  a50:=Tryz.isAgg146,
  z50:=Tryz.sizeOf146,
  v50:=Tryz.zeroValue146,
  t53:=Tryz.underlying237,
  a53:=Tryz.isAgg237,
  z53:=Tryz.sizeOf237,
  v53:=Tryz.zeroValue237,
  t55:=Tryz.underlying83,
  a55:=Tryz.isAgg83,
  z55:=Tryz.sizeOf83,
  v55:=Tryz.zeroValue83,
  t66:=Tryz.underlying262,
  a66:=Tryz.isAgg262,
  z66:=Tryz.sizeOf262,
  v66:=Tryz.zeroValue262,
  t70:=Tryz.underlying266,
  a70:=Tryz.isAgg266,
  z70:=Tryz.sizeOf266,
  v70:=Tryz.zeroValue266,
  t76:=Tryz.underlying289,
  a76:=Tryz.isAgg289,
  z76:=Tryz.sizeOf289,
  v76:=Tryz.zeroValue289,
  t77:=Tryz.underlying144,
  a77:=Tryz.isAgg144,
  z77:=Tryz.sizeOf144,
  v77:=Tryz.zeroValue144}
def zFq:Go.Shelf.Ren:=⟨fun| 7=>115| 10=>148| n=>n,fun| 23=>105| 26=>3| 3=>57| 28=>169| 0=>0| 27=>168| 33=>111| 4=>4| n=>n,fun| n=>n⟩
theorem zKZ:Go.Proofs.SlLaysZI.n7 Tryz.prog zFq:={
  mixed:=by kernel_rfl,
  f7:=⟨Tryz.f115.name,by decide,Tryz.func115.trans (congrArg some (by kernel_rfl))⟩,
  f10:=⟨Tryz.f148.name,by decide,Tryz.func148.trans (congrArg some (by kernel_rfl))⟩,
  t0:=Tryz.underlying0,
  a0:=Tryz.isAgg0,
  z0:=Tryz.sizeOf0,
  v0:=Tryz.zeroValue0,
  t4:=Tryz.underlying4,
  a4:=Tryz.isAgg4,
  z4:=Tryz.sizeOf4,
  v4:=Tryz.zeroValue4,
  t23:=Tryz.underlying105,
  a23:=Tryz.isAgg105,
  z23:=Tryz.sizeOf105,
  v23:=Tryz.zeroValue105,
  t26:=Tryz.underlying3,
  a26:=Tryz.isAgg3,
  z26:=Tryz.sizeOf3,
  v26:=Tryz.zeroValue3,
  t27:=Tryz.underlying168,
  a27:=Tryz.isAgg168,
  z27:=Tryz.sizeOf168,
  v27:=Tryz.zeroValue168,
  t28:=Tryz.underlying169,
  a28:=Tryz.isAgg169,
  z28:=Tryz.sizeOf169,
  v28:=Tryz.zeroValue169,
  t33:=Tryz.underlying111,
  a33:=Tryz.isAgg111,
  z33:=Tryz.sizeOf111,
  v33:=Tryz.zeroValue111}
def zFp:Go.Shelf.Ren:=⟨fun| 6=>114| 8=>146| 9=>147| 11=>177| 13=>137| 12=>178| 23=>168| 24=>169| 14=>199| 15=>200| 16=>201| 17=>202| 18=>203| 19=>204| 20=>205| 21=>206| 22=>207| 25=>218| 26=>190| 27=>191| 28=>219| 29=>220| 30=>138| 31=>227| n=>n,fun| 26=>3| 28=>169| 24=>53| 0=>0| 3=>3| 37=>199| 48=>237| 50=>83| 4=>4| 40=>231| 39=>230| 45=>146| 5=>5| 9=>9| 51=>262| 55=>266| 57=>289| 58=>144| 33=>111| n=>n,fun| n=>n⟩
theorem zJJ:Go.Proofs.SlLaysZI.n6 Tryz.prog zFp:={
  mixed:=by kernel_rfl,
  f6:=⟨Tryz.f114.name,by decide,Tryz.func114.trans (congrArg some (by kernel_rfl))⟩,
  f8:=⟨Tryz.f146.name,by decide,Tryz.func146.trans (congrArg some (by kernel_rfl))⟩,
  f11:=⟨Tryz.f177.name,by decide,Tryz.func177.trans (congrArg some (by kernel_rfl))⟩,
  t0:=Tryz.underlying0,
  a0:=Tryz.isAgg0,
  z0:=Tryz.sizeOf0,
  v0:=Tryz.zeroValue0,
  t24:=Tryz.underlying53,
  a24:=Tryz.isAgg53,
  z24:=Tryz.sizeOf53,
  v24:=Tryz.zeroValue53,
  t26:=Tryz.underlying3,
  a26:=Tryz.isAgg3,
  z26:=Tryz.sizeOf3,
  v26:=Tryz.zeroValue3,
  t28:=Tryz.underlying169,
  a28:=Tryz.isAgg169,
  z28:=Tryz.sizeOf169,
  v28:=Tryz.zeroValue169,
  i26:=by kernel_rfl}
def zFs:Go.Shelf.Ren:=⟨fun| 5=>147| 8=>137| 7=>178| 19=>168| 20=>169| 10=>199| 11=>200| 12=>201| 13=>202| 14=>203| 15=>204| 16=>205| 17=>206| 18=>207| 30=>218| 31=>190| 32=>191| 33=>219| 34=>220| 35=>138| 40=>227| n=>n,fun| 23=>53| 25=>3| 3=>3| 32=>199| 22=>53| 0=>0| 44=>237| 46=>83| 4=>4| 36=>231| 35=>230| 41=>146| 5=>5| 9=>9| 53=>262| 57=>266| 63=>289| 64=>144| n=>n,fun| n=>n⟩
theorem zEo:Go.Proofs.SlLaysM.n5 Tryz.prog zFs:={
  mixed:=by kernel_rfl,
  f5:=⟨Tryz.f147.name,by decide,Tryz.func147.trans (congrArg some (by kernel_rfl))⟩,
  f7:=⟨Tryz.f178.name,by decide,Tryz.func178.trans (congrArg some (by kernel_rfl))⟩,
  f8:=Tryz.func137.trans (congrArg some (by kernel_rfl)),
  f10:=⟨Tryz.f199.name,by decide,Tryz.func199.trans (congrArg some (by kernel_rfl))⟩,
  f11:=⟨Tryz.f200.name,by decide,Tryz.func200.trans (congrArg some (by kernel_rfl))⟩,
  f12:=⟨Tryz.f201.name,by decide,Tryz.func201.trans (congrArg some (by kernel_rfl))⟩,
  f13:=⟨Tryz.f202.name,by decide,Tryz.func202.trans (congrArg some (by kernel_rfl))⟩,
  f14:=⟨Tryz.f203.name,by decide,Tryz.func203.trans (congrArg some (by kernel_rfl))⟩,
  f15:=⟨Tryz.f204.name,by decide,Tryz.func204.trans (congrArg some (by kernel_rfl))⟩,
  f16:=⟨Tryz.f205.name,by decide,Tryz.func205.trans (congrArg some (by kernel_rfl))⟩,
  f17:=⟨Tryz.f206.name,by decide,Tryz.func206.trans (congrArg some (by kernel_rfl))⟩,
  f18:=⟨Tryz.f207.name,by decide,Tryz.func207.trans (congrArg some (by kernel_rfl))⟩,
  f19:=Tryz.func168.trans (congrArg some (by kernel_rfl)),
  f20:=Tryz.func169.trans (congrArg some (by kernel_rfl)),
  f30:=⟨Tryz.f218.name,by decide,Tryz.func218.trans (congrArg some (by kernel_rfl))⟩,
  f31:=Tryz.func190.trans (congrArg some (by kernel_rfl)),
  f32:=Tryz.func191.trans (congrArg some (by kernel_rfl)),
  f33:=⟨Tryz.f219.name,by decide,Tryz.func219.trans (congrArg some (by kernel_rfl))⟩,
  f34:=⟨Tryz.f220.name,by decide,Tryz.func220.trans (congrArg some (by kernel_rfl))⟩,
  f35:=⟨Tryz.f138.name,by decide,Tryz.func138.trans (congrArg some (by kernel_rfl))⟩,
  f40:=⟨Tryz.f227.name,by decide,Tryz.func227.trans (congrArg some (by kernel_rfl))⟩,
  t0:=Tryz.underlying0,
  a0:=Tryz.isAgg0,
  z0:=Tryz.sizeOf0,
  v0:=Tryz.zeroValue0,
  t3:=Tryz.underlying3,
  a3:=Tryz.isAgg3,
  z3:=Tryz.sizeOf3,
  v3:=Tryz.zeroValue3,
  t4:=Tryz.underlying4,
  a4:=Tryz.isAgg4,
  z4:=Tryz.sizeOf4,
  v4:=Tryz.zeroValue4,
  t5:=Tryz.underlying5,
  a5:=Tryz.isAgg5,
  z5:=Tryz.sizeOf5,
  v5:=Tryz.zeroValue5,
  t9:=Tryz.underlying9,
  a9:=Tryz.isAgg9,
  z9:=Tryz.sizeOf9,
  v9:=Tryz.zeroValue9,
  t22:=Tryz.underlying53,
  a22:=Tryz.isAgg53,
  z22:=Tryz.sizeOf53,
  v22:=Tryz.zeroValue53,
  t23:=Tryz.underlying53,
  a23:=Tryz.isAgg53,
  z23:=Tryz.sizeOf53,
  v23:=Tryz.zeroValue53,
  t25:=Tryz.underlying3,
  a25:=Tryz.isAgg3,
  z25:=Tryz.sizeOf3,
  v25:=Tryz.zeroValue3,
  t32:=Tryz.underlying199,
  a32:=Tryz.isAgg199,
  z32:=Tryz.sizeOf199,
  v32:=Tryz.zeroValue199,
  t35:=Tryz.underlying230,
  a35:=Tryz.isAgg230,
  z35:=Tryz.sizeOf230,
  v35:=Tryz.zeroValue230,
  t36:=Tryz.underlying231,
  a36:=Tryz.isAgg231,
  z36:=Tryz.sizeOf231,
  v36:=Tryz.zeroValue231,
  t41:=Tryz.underlying146,
  a41:=Tryz.isAgg146,
  z41:=Tryz.sizeOf146,
  v41:=Tryz.zeroValue146,
  t44:=Tryz.underlying237,
  a44:=Tryz.isAgg237,
  z44:=Tryz.sizeOf237,
  v44:=Tryz.zeroValue237,
  t46:=Tryz.underlying83,
  a46:=Tryz.isAgg83,
  z46:=Tryz.sizeOf83,
  v46:=Tryz.zeroValue83,
  t53:=Tryz.underlying262,
  a53:=Tryz.isAgg262,
  z53:=Tryz.sizeOf262,
  v53:=Tryz.zeroValue262,
  t57:=Tryz.underlying266,
  a57:=Tryz.isAgg266,
  z57:=Tryz.sizeOf266,
  v57:=Tryz.zeroValue266,
  t63:=Tryz.underlying289,
  a63:=Tryz.isAgg289,
  z63:=Tryz.sizeOf289,
  v63:=Tryz.zeroValue289,
  t64:=Tryz.underlying144,
  a64:=Tryz.isAgg144,
  z64:=Tryz.sizeOf144,
  v64:=Tryz.zeroValue144}
def zFr:Go.Shelf.Ren:=⟨fun| 7=>170| 10=>194| n=>n,fun| 23=>240| 26=>3| 3=>242| 28=>169| 0=>0| 27=>168| 33=>111| 4=>4| n=>n,fun| n=>n⟩
theorem zLa:Go.Proofs.SlLaysZI.n7 Tryz.prog zFr:={
  mixed:=by kernel_rfl,
  f7:=⟨Tryz.f170.name,by decide,Tryz.func170.trans (congrArg some (by kernel_rfl))⟩,
  f10:=⟨Tryz.f194.name,by decide,Tryz.func194.trans (congrArg some (by kernel_rfl))⟩,
  t0:=Tryz.underlying0,
  a0:=Tryz.isAgg0,
  z0:=Tryz.sizeOf0,
  v0:=Tryz.zeroValue0,
  t4:=Tryz.underlying4,
  a4:=Tryz.isAgg4,
  z4:=Tryz.sizeOf4,
  v4:=Tryz.zeroValue4,
  t23:=Tryz.underlying240,
  a23:=Tryz.isAgg240,
  z23:=Tryz.sizeOf240,
  v23:=Tryz.zeroValue240,
  t26:=Tryz.underlying3,
  a26:=Tryz.isAgg3,
  z26:=Tryz.sizeOf3,
  v26:=Tryz.zeroValue3,
  t27:=Tryz.underlying168,
  a27:=Tryz.isAgg168,
  z27:=Tryz.sizeOf168,
  v27:=Tryz.zeroValue168,
  t28:=Tryz.underlying169,
  a28:=Tryz.isAgg169,
  z28:=Tryz.sizeOf169,
  v28:=Tryz.zeroValue169,
  t33:=Tryz.underlying111,
  a33:=Tryz.isAgg111,
  z33:=Tryz.sizeOf111,
  v33:=Tryz.zeroValue111}
theorem zDp (x:Int) (w:World):Calls Tryz.prog 138 #[.int .i64 x] w fun e w'=>e= .returned (.bool false)/\∃q,w'=w.drewN q:=by
  go_enter Tryz.func138,Tryz.ntmps138
  go_wp2
  all_goals (go_ret;exact ⟨by simp,0,rfl⟩)
theorem zIH (x y:Int) (h:x<y) (w:World):Calls Tryz.prog 106 #[.int .i64 x,.int .i64 y] w fun e w'=>e= .returned (.int .i64 (-1))/\∃q,w'=w.drewN q:=by
  go_enter Tryz.func106,Tryz.ntmps106
  go_wp2_with (go_at_call 138;refine (zDp _ _).mono ?_;rintro e w' ⟨rfl,q,rfl⟩)
  go_ret
  exact ⟨rfl,_,rfl⟩
theorem zIF (x y:Int) (h:x=y) (w:World):Calls Tryz.prog 106 #[.int .i64 x,.int .i64 y] w fun e w'=>e= .returned (.int .i64 0)/\∃q,w'=w.drewN q:=by
  subst h
  go_enter Tryz.func106,Tryz.ntmps106
  go_wp2_with (go_at_call 138;refine (zDp _ _).mono ?_;rintro e w' ⟨rfl,q,rfl⟩)
  go_ret
  exact ⟨rfl,_,rfl⟩
theorem zIG (x y:Int) (h:y<x) (w:World):Calls Tryz.prog 106 #[.int .i64 x,.int .i64 y] w fun e w'=>e= .returned (.int .i64 1)/\∃q,w'=w.drewN q:=by
  have h1:¬x<y:=by omega
  go_enter Tryz.func106,Tryz.ntmps106
  go_wp2_with (go_at_call 138;refine (zDp _ _).mono ?_;rintro e w' ⟨rfl,q,rfl⟩)
  go_ret
  exact ⟨rfl,_,rfl⟩
set_option maxRecDepth 100000 in
set_option maxHeartbeats 2000000 in
theorem zKM:zDK Tryz.prog 71:=by
  intro w u v xs ys hx hy hu hv;obtain ⟨A,c,rfl,hA⟩:=hu;obtain ⟨B,d,rfl,hB⟩:=hv;by_cases hn:xs.length=0
  · obtain rfl:xs=[]:=yw hn;clear hA hB hn hx;by_cases hm:ys.length=0
    · obtain rfl:ys=[]:=yw hm
      go_enter Tryz.func71,Tryz.ntmps71
      go_wp2
      refine wp_loop_rounds 1 ?_;rw [rounds_succ]
      go_wp2
      go_ret
      exact ⟨rfl,0,rfl⟩
    · have hl:lexI [] ys= -1:=by
        cases ys with
        | nil=>exact absurd rfl hm
        | cons=>rfl
      have h0:(0:Int)<(ys.length:Int):=by omega
      go_enter Tryz.func71,Tryz.ntmps71
      go_wp2
      refine wp_loop_rounds 1 ?_;rw [rounds_succ]
      go_wp2
      go_ret
      exact ⟨by rw [hl];rfl,0,rfl⟩
  · obtain ⟨b1,o1,rfl,hc1⟩:=hA (by omega);have h0:(0:Int)<(xs.length:Int):=by omega
    have hc1':∀k,k<xs.length->w.cell? ⟨b1,o1+k,none⟩=some (.int .i64 xs[k]!):=fun k hk=>by rw [yV xs k hk];exact hc1 k hk
    clear hA hc1;by_cases hm:ys.length=0
    · obtain rfl:ys=[]:=yw hm;have hl:lexI xs []=1:=by
        cases xs with
        | nil=>exact absurd rfl hn
        | cons=>rfl
      have g1:w.cell? ⟨b1,o1,none⟩=some (.int .i64 xs[0]!):=hc1' 0 (by omega)
      generalize xs[0]! =x at g1
      clear hB hm hc1'
      go_enter Tryz.func71,Tryz.ntmps71
      go_wp2
      refine wp_loop_rounds 1 ?_;rw [rounds_succ]
      go_wp2
      go_ret
      exact ⟨by rw [hl];rfl,0,rfl⟩
    · obtain ⟨b2,o2,rfl,hc2⟩:=hB (by omega);have hc2':∀k,k<ys.length->w.cell? ⟨b2,o2+k,none⟩=some (.int .i64 ys[k]!):=fun k hk=>by rw [yV ys k hk];exact hc2 k hk
      clear hB hc2
      go_enter Tryz.func71,Tryz.ntmps71
      go_wp2
      go_loopg [11] xs.length (fun g s11 wr=>∃k q:Nat,k<=xs.length/\k<=ys.length/\xs.length - k<=g/\s11= .int .i64 k/\wr=w.drewN q/\Aside (xs.take k=ys.take k))
      case atStart=>exact ⟨0,0,xI _,xI _,by omega,rfl,rfl,rfl⟩
      case round=>
        obtain ⟨k,q,hkx,hky,hg,rfl,rfl,A⟩:=hrel;by_cases hlt:k<xs.length
        · by_cases hlt2:k<ys.length
          · have g1:w.cell? ⟨b1,o1+k,none⟩=some (.int .i64 xs[k]!):=hc1' k hlt;have g2:w.cell? ⟨b2,o2+k,none⟩=some (.int .i64 ys[k]!):=hc2' k hlt2;have hl:Aside (lexI xs ys=if xs[k]! <ys[k]! then -1 else if ys[k]! <xs[k]! then 1 else lexI (xs.drop (k+1)) (ys.drop (k+1))):=by
              show lexI xs ys=_;rw [zrT A.out hkx hky,xQ hlt,xQ hlt2,lexI,yV xs k hlt,yV ys k hlt2]
            have ht:Aside (xs[k]! =ys[k]! ->xs.take (k+1)=ys.take (k+1)):=fun e=>by
              rw [yV xs k hlt,yV ys k hlt2] at e;rw [yA hlt,yA hlt2,A.out,e]
            clear hc1' hc2'
            generalize xs[k]! =x at g1 hl ht
            generalize ys[k]! =y at g2 hl ht
            have hlz:(k:Int)<(xs.length:Int):=by omega
            have hlz2:¬((k:Int)>=(ys.length:Int)):=by omega
            rcases Int.lt_trichotomy x y with h| h| h
            · have hv:Aside (lexI xs ys= -1):=by rw [hl.out,xw h];rfl
              clear hl ht;have hcal:=zIH x y h
              go_wp2_with (go_at_call 106;refine (hcal _).mono ?_;rintro e w' ⟨rfl,q',rfl⟩)
              go_ret
              exact ⟨by rw [hv.out];rfl,q+q',rfl⟩
            · subst h;have hcal:=zIF x x rfl;have hv:=ht.out rfl;clear hl ht;have hv:Aside (xs.take (k+1)=ys.take (k+1)):=hv
              go_wp2_with (go_at_call 106;refine (hcal _).mono ?_;rintro e w' ⟨rfl,q',rfl⟩)
              go_roundg (xs.length - (k+1))
              case measure=>omega
              case rel=>exact ⟨k+1,q+q',by omega,by omega,by omega,by go_num,rfl,hv⟩
            · have hv:Aside (lexI xs ys=1):=by rw [hl.out,xu (by omega),xw h];rfl
              clear hl ht;have hcal:=zIG x y h
              go_wp2_with (go_at_call 106;refine (hcal _).mono ?_;rintro e w' ⟨rfl,q',rfl⟩)
              go_ret
              exact ⟨by rw [hv.out];rfl,q+q',rfl⟩
          · have hky':k=ys.length:=by omega
            have hv:Aside (lexI xs ys=1):=by
              show lexI xs ys=1;rw [zrT A.out hkx hky,xQ hlt,yb (show ys.length<=k by omega)];rfl
            have g1:w.cell? ⟨b1,o1+k,none⟩=some (.int .i64 xs[k]!):=hc1' k hlt
            generalize xs[k]! =x at g1
            have hlz:(k:Int)<(xs.length:Int):=by omega
            clear hc1' hc2' hkx hg A hlt2 hky;subst hky'
            go_wp2
            go_ret
            exact ⟨by rw [hv.out];rfl,q,rfl⟩
        · have hkx':k=xs.length:=by omega
          have hlz:¬(k:Int)<(xs.length:Int):=by omega
          clear hc1' hc2';by_cases hlt2:xs.length<ys.length
          · have hv:Aside (lexI xs ys= -1):=by
              show lexI xs ys= -1;rw [zrT A.out hkx hky,xQ (show k<ys.length by omega),yb (show xs.length<=k by omega)];rfl
            have hlz2:(xs.length:Int)<(ys.length:Int):=by omega
            go_wp2
            go_ret
            exact ⟨by rw [hv.out];rfl,q,rfl⟩
          · have hv:Aside (lexI xs ys=0):=by
              show lexI xs ys=0;rw [zrT A.out hkx hky,yb (show ys.length<=k by omega),yb (show xs.length<=k by omega)];rfl
            have hlz2:¬(xs.length:Int)<(ys.length:Int):=by omega
            go_wp2
            go_ret
            exact ⟨by rw [hv.out];rfl,q,rfl⟩
theorem zFK:SkOk Tryz.prog 115 114 3:=zIb zKZ zJJ (fun m=>⟨fun blk off cap ss W hH hblk hsz=>qx.2 (AnyM.slices_Sort_int zEo blk off cap ss W hH hblk hsz),fun p cap W=>qx.2 (AnyM.slices_Sort_int_none zEo p cap W)⟩) (enters_of Tryz.func147 (by kernel_rfl) rfl) (enters_of Tryz.func148 (by kernel_rfl) rfl) rfl rfl
theorem zFL:SkOk Tryz.prog 170 114 3:=zIb zLa zJJ (fun m=>⟨fun blk off cap ss W hH hblk hsz=>qx.2 (AnyM.slices_Sort_int zEo blk off cap ss W hH hblk hsz),fun p cap W=>qx.2 (AnyM.slices_Sort_int_none zEo p cap W)⟩) (enters_of Tryz.func147 (by kernel_rfl) rfl) (enters_of Tryz.func194 (by kernel_rfl) rfl) rfl rfl
end Go.Proofs.YtekgmimingolbaaGreat
