/-
  Facts on the types of the program. No condition.
-/
import Derived.KernelRfl
import Derived.Test.YtekgmimingolbaaGreatx1Str
import Derived.Test.YtekgmimingolbaaGreatx1K2
import Derived.Test.YtekgmimingolbaaGreatProg
import Derived.Test.YtekgmimingolbaaGreatx1K3
import Derived.Test.YtekgmimingolbaaGreatx1S1
namespace Go.Proofs.YtekgmimingolbaaGreat
open Go Go.RowKit
set_option linter.unusedVariables false
abbrev kp:=Rp.int .i64
abbrev kq:=Rp.list kp
abbrev kr:=Rp.list kq
abbrev ku:=Rp.int .u64
abbrev kw:=Rp.list ku
abbrev kx:=Rp.list Rp.str
abbrev ky:=@AV.le_refl
theorem zbh:Tryz.prog.follows .mixedOrders=true:=by kernel_rfl
theorem zjf:ZeT Tryz.prog 23 82 zj 40 ((⟨[],[]⟩:zf):zf):=ZeT.ofB Tryz.underlying23 (by kernel_rfl)
theorem zjz:ZeT Tryz.prog 24 57 zb 80 ((⟨0,[],[],[]⟩:za):za):=ZeT.ofB Tryz.underlying24 (by kernel_rfl)
theorem zhX:ZeT Tryz.prog 25 9 Rp.str 16 ([]:Str):=ZeT.ofB Tryz.underlying25 (by kernel_rfl)
theorem zih:ZeT Tryz.prog 31 59 zb 80 ((⟨0,[],[],[]⟩:za):za):=ZeT.ofB Tryz.underlying31 (by kernel_rfl)
theorem zlO:ZeT Tryz.prog 40 33 zd 48 ((⟨[],[]⟩:zc):zc):=ZeT.ofB Tryz.underlying40 (by kernel_rfl)
theorem zne:ZeT Tryz.prog 45 53 (Rp.list (Rp.int .i64)) 24 ([]:(List Int)):=ZeT.ofB Tryz.underlying45 (by kernel_rfl)
theorem zlP:ZeT Tryz.prog 53 3 (Rp.int .i64) 8 (0:Int):=ZeT.ofB Tryz.underlying53 (by kernel_rfl)
theorem znf:ZeT Tryz.prog 54 83 (Rp.int .u64) 8 (0:Int):=ZeT.ofB Tryz.underlying54 (by kernel_rfl)
theorem zjg:ZeT Tryz.prog 55 27 zd 48 ((⟨[],[]⟩:zc):zc):=ZeT.ofB Tryz.underlying55 (by kernel_rfl)
theorem zpi:ZeT Tryz.prog 80 65 zg 48 ((⟨[],0,0,false,false,0⟩:ze):ze):=ZeT.ofB Tryz.underlying80 (by kernel_rfl)
theorem ziJ:ZeT Tryz.prog 114 5 Rp.byte 1 (0:UInt8):=ZeT.ofB Tryz.underlying114 (by kernel_rfl)
theorem zAA:ZeT Tryz.prog 171 25 (Rp.list Rp.str) 24 ([]:(List Str)):=ZeT.ofB Tryz.underlying171 (by kernel_rfl)
theorem zDI:ZeT Tryz.prog 209 54 (Rp.list (Rp.int .u64)) 24 ([]:(List Int)):=ZeT.ofB Tryz.underlying209 (by kernel_rfl)
theorem zDJ:ZeT Tryz.prog 211 55 (Rp.list zd) 24 ([]:(List zc)):=ZeT.ofB Tryz.underlying211 (by kernel_rfl)
theorem zLl:StT Tryz.prog 65 [(0,1),(1,1),(2,1),(3,1),(4,1),(5,1)] [.str [],.int .i64 0,.int .i64 0,.bool false,.bool false,.int .i64 0]:=StT.ofB Tryz.underlying65 (by kernel_rfl)
theorem zti:StT Tryz.prog 133 [(0,1),(1,1),(2,1),(3,1),(4,1)] [.int .i64 0,.int .i64 0,.int .i64 0,.int .i64 0,.int .i64 0]:=StT.ofB Tryz.underlying133 (by kernel_rfl)
theorem zAp:StT Tryz.prog 159 [(0,1),(1,1),(2,1)] [.int .i64 0,.int .i64 0,.int .i64 0]:=StT.ofB Tryz.underlying159 (by kernel_rfl)
theorem zAq:StT Tryz.prog 191 [(0,1),(1,1),(2,1),(3,1),(4,1)] [.int .i64 0,.int .i64 0,.int .i64 0,.int .i64 0,.int .i64 0]:=StT.ofB Tryz.underlying191 (by kernel_rfl)
theorem zDA:StT Tryz.prog 224 [(0,1),(1,1)] [.int .i64 0,.int .i64 0]:=StT.ofB Tryz.underlying224 (by kernel_rfl)
theorem zja:StT Tryz.prog 242 [(0,1),(1,1)] [.str [],.int .i64 0]:=StT.ofB Tryz.underlying242 (by kernel_rfl)
theorem zIk:StT Tryz.prog 245 [(0,1),(1,1)] [.int .i64 0,.str []]:=StT.ofB Tryz.underlying245 (by kernel_rfl)
theorem zKC:StT Tryz.prog 247 [(0,1),(1,1)] [.int .i64 0,.int .i64 0]:=StT.ofB Tryz.underlying247 (by kernel_rfl)
theorem zGh:ArT Tryz.prog 156 3 2 [.int .i64 0,.int .i64 0]:=ArT.ofB Tryz.underlying156 Tryz.sizeOf3 (by kernel_rfl)
theorem zsz:StA Tryz.prog 27 [(0,1),(1,1)] [kN,kN]:=StA.ofB Tryz.underlying27 (by kernel_rfl)
theorem zCa:StA Tryz.prog 33 [(0,1),(1,1)] [kN,kN]:=StA.ofB Tryz.underlying33 (by kernel_rfl)
theorem zJN:StA Tryz.prog 49 [(0,1)] [kN]:=StA.ofB Tryz.underlying49 (by kernel_rfl)
theorem zCb:StA Tryz.prog 57 [(0,1),(1,1),(2,1),(3,1)] [kI 0,kN,kN,kN]:=StA.ofB Tryz.underlying57 (by kernel_rfl)
theorem zEI:StA Tryz.prog 59 [(0,1),(1,1),(2,1),(3,1)] [kI 0,kN,kN,kN]:=StA.ofB Tryz.underlying59 (by kernel_rfl)
theorem zLk:StA Tryz.prog 82 [(0,1),(1,1)] [kS [],kN]:=StA.ofB Tryz.underlying82 (by kernel_rfl)
theorem zKA:StA Tryz.prog 204 [(0,1),(1,1),(2,1),(3,1)] [kI 0,kN,.lf (.val (.map none)),.lf (.val (.map none))]:=StA.ofB Tryz.underlying204 (by kernel_rfl)
theorem ztM:MapT Tryz.prog 105 3 57 (Rp.int .i64) zb ((⟨0,[],[],[]⟩:za):za):=MapT.ofB Tryz.underlying105 (zwQ Tryz.underlying3) (by kernel_rfl)
theorem zrW:MapT Tryz.prog 118 156 3 zaW (Rp.int .i64) (0:Int):=MapT.ofB Tryz.underlying118 (zHh (r:=zaW) Tryz.underlying156 Tryz.sizeOf3 (by kernel_rfl) (by kernel_rfl) rfl rfl (fun _=>by kernel_rfl) (fun a b=>by cases a;cases b;simp [zaW,eqL,leq,Bool.decide_and,Bool.beq_eq_decide_eq])) (by kernel_rfl)
theorem zAa:MapT Tryz.prog 179 3 45 (Rp.int .i64) (Rp.list (Rp.list (Rp.int .i64))) ([]:(List (List Int))):=MapT.ofB Tryz.underlying179 (zwQ Tryz.underlying3) (by kernel_rfl)
theorem zvU:MapT Tryz.prog 201 245 4 zu Rp.bool (false:Bool):=MapT.ofB Tryz.underlying201 (zyM Tryz.underlying245 (by kernel_rfl) rfl (fun _=>by kernel_rfl) (fun a b=>by cases a;cases b;simp [zu,eqL,leq,Bool.decide_and,Bool.beq_eq_decide_eq])) (by kernel_rfl)
theorem zEu:MapT Tryz.prog 202 247 4 zt Rp.bool (false:Bool):=MapT.ofB Tryz.underlying202 (zyM Tryz.underlying247 (by kernel_rfl) rfl (fun _=>by kernel_rfl) (fun a b=>by cases a;cases b;simp [zt,eqL,leq,Bool.decide_and,Bool.beq_eq_decide_eq])) (by kernel_rfl)
theorem zgO:MapT Tryz.prog 240 3 242 (Rp.int .i64) zF ((⟨[],0⟩:zz):zz):=MapT.ofB Tryz.underlying240 (zwQ Tryz.underlying3) (by kernel_rfl)
abbrev zbi (l3:Nat) (C3:List Nat) (x:za):List AV:=[kI x.Number,kN,kN,.own zd 27 l3 C3 x.Subs]
abbrev zkX (C3:List Nat) (x:za):List AV:=[kI x.Number,kN,kN,.sl zd C3 x.Subs]
abbrev zan (l1:Nat) (C1:List Nat) (l2:Nat) (C2:List Nat) (l3:Nat) (C3:List Nat) (x:za):List AV:=[kI x.Number,.own (Rp.int .u64) 83 l1 C1 x.Words,.own Rp.str 9 l2 C2 x.Texts,.own zd 27 l3 C3 x.Subs]
abbrev zdw (C1:List Nat) (C2:List Nat) (x:za):List AV:=[kI x.Number,.sl (Rp.int .u64) C1 x.Words,.sl Rp.str C2 x.Texts,kN]
abbrev zaL (C1:List Nat) (C2:List Nat) (l3:Nat) (C3:List Nat) (x:za):List AV:=[kI x.Number,.sl (Rp.int .u64) C1 x.Words,.sl Rp.str C2 x.Texts,.own zd 33 l3 C3 x.Subs]
abbrev zay (C1:List Nat) (C2:List Nat) (C3:List Nat) (x:za):List AV:=[kI x.Number,.sl (Rp.int .u64) C1 x.Words,.sl Rp.str C2 x.Texts,.sl zd C3 x.Subs]
abbrev zat (l1:Nat) (C1:List Nat) (x:zc):List AV:=[.own zb 57 l1 C1 x.Values,kN]
abbrev zdk (l1:Nat) (C1:List Nat) (x:zc):List AV:=[.own zb 59 l1 C1 x.Values,kN]
abbrev zo (l1:Nat) (C1:List Nat) (l2:Nat) (C2:List Nat) (x:zc):List AV:=[.own zb 57 l1 C1 x.Values,.own Rp.str 9 l2 C2 x.Unknown]
abbrev zr (l1:Nat) (C1:List Nat) (l2:Nat) (C2:List Nat) (x:zc):List AV:=[.own zb 59 l1 C1 x.Values,.own Rp.str 9 l2 C2 x.Unknown]
abbrev zbZ (l1:Nat) (C1:List Nat) (C2:List Nat) (x:zc):List AV:=[.own zb 57 l1 C1 x.Values,.sl Rp.str C2 x.Unknown]
abbrev zdl (l1:Nat) (C1:List Nat) (C2:List Nat) (x:zc):List AV:=[.own zb 59 l1 C1 x.Values,.sl Rp.str C2 x.Unknown]
abbrev zdx (C1:List Nat) (l2:Nat) (C2:List Nat) (x:zc):List AV:=[.sl zb C1 x.Values,.own Rp.str 9 l2 C2 x.Unknown]
abbrev zha (C1:List Nat) (C2:List Nat) (x:zc):List AV:=[.sl zb C1 x.Values,.sl Rp.str C2 x.Unknown]
abbrev zqa (x:zbl):List AV:=[kI x.Message,kI x.Field,kI x.What]
abbrev zaK (C:List Nat) (x:zf):List AV:=[kS x.Name,.sl zg C x.Fields]
abbrev zB (x:ze):List AV:=[kS x.Name,kI x.Number,kI x.Kind,kB x.Repeated,kB x.Packed,kI x.Of]
abbrev zwx (x:zbM):List AV:=[kI x.Number,kI x.Wire]
abbrev zgT (x:zD):List AV:=[kI x.Number,kI x.Wire,kI x.From,kI x.At,kI x.To]
abbrev zi (C:List Nat) (x:za):List AV:=[kI x.Number,.sl (Rp.int .u64) C x.Words,.sl Rp.str C x.Texts,.sl zd C x.Subs]
theorem zV (C:List Nat) (x:za):AV.le (.ag (zi C x)) (.rc zb C x):=fun _ _ _ ⟨vs,hv,hL,_⟩=>⟨vs,hv,zkx (by rw [zn]<;>rfl) hL (fun c hc=>by simpa [zi,AV.colsL,AV.cols] using hc)⟩
abbrev zh (C:List Nat) (x:zc):List AV:=[.sl zb C x.Values,.sl Rp.str C x.Unknown]
theorem zM (C:List Nat) (x:zc):AV.le (.ag (zh C x)) (.rc zd C x):=fun _ _ _ ⟨vs,hv,hL,_⟩=>⟨vs,hv,zkx (by rw [zk]<;>rfl) hL (fun c hc=>by simpa [zh,AV.colsL,AV.cols] using hc)⟩
end Go.Proofs.YtekgmimingolbaaGreat
