import Derived.Test.YtgnncnhkgmhngaaGreatDoorProg
import Derived.WalkKit
import Derived.Shelf.SlSortCmp.NoneTotal
import Derived.Shelf.SlGeneric
import Derived.Ground.SlsfProg
import Derived.Shelf.Strings.Builder1
import Derived.Shelf.Strings.Builder2
import Derived.Shelf.Small.Bits
import Derived.Shelf.LaysM
import Derived.Shelf.Strconv.ParseIntEmpty
import Derived.Shelf.Strconv.Clone
import Derived.Shelf.Strconv.SyntaxError
import Derived.Shelf.LaysC
import Derived.Shelf.Strconv.ToError
import Derived.Shelf.Strconv.Lower
import Derived.Shelf.Strconv.ParseUint10
import Derived.Shelf.Strconv.ParseUint10Empty
import Derived.Shelf.Strconv.ParseUint10Any
import Derived.Shelf.Strconv.ParseInt10
import Derived.Shelf.Strconv.RangeError
import Derived.Shelf.Strconv.ToErrorRange
import Derived.Shelf.Strconv.ParseUintEmpty
import Derived.Shelf.Strconv.ParseUint10b64
import Derived.Shelf.Strconv.ParseUint10At
import Derived.Shelf.Strconv.ParseInt10At64
import Derived.Shelf.Strconv.ParseInt10All
import Derived.Shelf.Strconv.ParseIntPublic10
import Derived.Shelf.Strconv.ErrVarParseInt
import Derived.Shelf.Strings.Search1
import Derived.Shelf.Strings.Search2
import Derived.Shelf.Strings.Search3
import Derived.Shelf.Strings.Count
import Derived.Shelf.Strings.Shaped
import Derived.Shelf.Strings.Split
import Derived.Shelf.Strings.Replace
namespace Go.Proofs.YtgnncnhkgmhngaaGreatDoor
open Go.RowKit
theorem hid {p:Prop} (h:p):Hid p:=h
theorem jL {P:Program} {f:FuncId} {a:Array Value} {w:World} {Q:Ending->World->Prop} (h:Calls P f a w Q):Hid (∀ w',w'=w->Calls P f a w' Q):=λ_ e=>e ▸ h
theorem lN:∀ (fn:Fn) (first cap:Array Value) (w:World),(Instr.makeFunc fn first cap).run Tryz.prog w = .ok (.func fn first cap) w:=λ_ _ _ _=>rfl
theorem aF:type_of% @Nat.le_refl:=@Nat.le_refl
theorem bY:type_of% @Nat.lt_of_lt_of_le:=@Nat.lt_of_lt_of_le
theorem cE:type_of% @Nat.le_trans:=@Nat.le_trans
theorem fB:type_of% @World.cell?_of_block:=@World.cell?_of_block
theorem dQ:type_of% @Below.heap_setCell:=@Below.heap_setCell
theorem nS:type_of% @List.drop_eq_getElem_cons:=@List.drop_eq_getElem_cons
theorem uV:type_of% @List.take_succ_eq_append_getElem:=@List.take_succ_eq_append_getElem
theorem oZ:type_of% @World.cell?_alloc_new:=@World.cell?_alloc_new
theorem jD:type_of% @List.getElem_mem:=@List.getElem_mem
theorem fO:type_of% @Nat.zero_le:=@Nat.zero_le
theorem cL:type_of% @bodyPost_ret:=@bodyPost_ret
theorem kX:type_of% @Below.heap_alloc:=@Below.heap_alloc
theorem rI:type_of% @List.getElem?_eq_getElem:=@List.getElem?_eq_getElem
theorem Av:type_of% @List.eq_nil_of_length_eq_zero:=@List.eq_nil_of_length_eq_zero
theorem pD:type_of% @ByteArray.toList_eq:=@ByteArray.toList_eq
theorem sD:type_of% @List.take_of_length_le:=@List.take_of_length_le
theorem Aw:type_of% @List.drop_of_length_le:=@List.drop_of_length_le
theorem wF:type_of% @World.frozen?_of_block:=@World.frozen?_of_block
end Go.Proofs.YtgnncnhkgmhngaaGreatDoor
namespace Go.Proofs
open Go.Shelf
def Tryz.yH:Go.Shelf.Ren:=⟨λ| 6=>238 | 15=>275 | 14=>274 | 28=>304 | 29=>305 | 20=>296 | 21=>297 | 22=>298 | 23=>299 | 24=>300 | 25=>301 | 26=>302 | 27=>303 | 46=>317 | 47=>318 | 48=>319 | 49=>320 | 50=>321 | 57=>325 | n=>n,λ| 22=>32 | 24=>41 | 25=>384 | 3=>3 | 39=>391 | 0=>0 | 53=>448 | 55=>388 | 4=>4 | 46=>442 | 45=>441 | 50=>356 | 5=>5 | 9=>9 | 66=>461 | 70=>465 | 76=>468 | 77=>149 | n=>n,λ| n=>n⟩
theorem Tryz.Ig:Go.Proofs.SlLaysF.n6 Tryz.prog Tryz.yH:={
 mixed:=by kernel_rfl
 f6:=⟨Tryz.f238.name,by decide,Tryz.func238.trans (congrArg some (by kernel_rfl))⟩
 f14:=⟨Tryz.f274.name,by decide,Tryz.func274.trans (congrArg some (by kernel_rfl))⟩
 f15:=Tryz.func275.trans (congrArg some (by kernel_rfl))
 f20:=⟨Tryz.f296.name,by decide,Tryz.func296.trans (congrArg some (by kernel_rfl))⟩
 f21:=⟨Tryz.f297.name,by decide,Tryz.func297.trans (congrArg some (by kernel_rfl))⟩
 f22:=⟨Tryz.f298.name,by decide,Tryz.func298.trans (congrArg some (by kernel_rfl))⟩
 f23:=⟨Tryz.f299.name,by decide,Tryz.func299.trans (congrArg some (by kernel_rfl))⟩
 f24:=⟨Tryz.f300.name,by decide,Tryz.func300.trans (congrArg some (by kernel_rfl))⟩
 f25:=⟨Tryz.f301.name,by decide,Tryz.func301.trans (congrArg some (by kernel_rfl))⟩
 f26:=⟨Tryz.f302.name,by decide,Tryz.func302.trans (congrArg some (by kernel_rfl))⟩
 f27:=⟨Tryz.f303.name,by decide,Tryz.func303.trans (congrArg some (by kernel_rfl))⟩
 f28:=Tryz.func304.trans (congrArg some (by kernel_rfl))
 f29:=Tryz.func305.trans (congrArg some (by kernel_rfl))
 f46:=⟨Tryz.f317.name,by decide,Tryz.func317.trans (congrArg some (by kernel_rfl))⟩
 f47:=Tryz.func318.trans (congrArg some (by kernel_rfl))
 f48:=Tryz.func319.trans (congrArg some (by kernel_rfl))
 f49:=⟨Tryz.f320.name,by decide,Tryz.func320.trans (congrArg some (by kernel_rfl))⟩
 f50:=⟨Tryz.f321.name,by decide,Tryz.func321.trans (congrArg some (by kernel_rfl))⟩
 f57:=⟨Tryz.f325.name,by decide,Tryz.func325.trans (congrArg some (by kernel_rfl))⟩
 t0:=Tryz.underlying0
 a0:=Tryz.isAgg0
 z0:=Tryz.sizeOf0
 v0:=Tryz.zeroValue0
 t3:=Tryz.underlying3
 a3:=Tryz.isAgg3
 z3:=Tryz.sizeOf3
 v3:=Tryz.zeroValue3
 t4:=Tryz.underlying4
 a4:=Tryz.isAgg4
 z4:=Tryz.sizeOf4
 v4:=Tryz.zeroValue4
 t5:=Tryz.underlying5
 a5:=Tryz.isAgg5
 z5:=Tryz.sizeOf5
 v5:=Tryz.zeroValue5
 t9:=Tryz.underlying9
 a9:=Tryz.isAgg9
 z9:=Tryz.sizeOf9
 v9:=Tryz.zeroValue9
 t22:=Tryz.underlying32
 a22:=Tryz.isAgg32
 z22:=Tryz.sizeOf32
 v22:=Tryz.zeroValue32
 a24:=Tryz.isAgg41
 z24:=Tryz.sizeOf41
 t25:=Tryz.underlying384
 a25:=Tryz.isAgg384
 z25:=Tryz.sizeOf384
 v25:=Tryz.zeroValue384
 t39:=Tryz.underlying391
 a39:=Tryz.isAgg391
 z39:=Tryz.sizeOf391
 v39:=Tryz.zeroValue391
 t45:=Tryz.underlying441
 a45:=Tryz.isAgg441
 z45:=Tryz.sizeOf441
 v45:=Tryz.zeroValue441
 t46:=Tryz.underlying442
 a46:=Tryz.isAgg442
 z46:=Tryz.sizeOf442
 v46:=Tryz.zeroValue442
 t50:=Tryz.underlying356
 a50:=Tryz.isAgg356
 z50:=Tryz.sizeOf356
 v50:=Tryz.zeroValue356
 t53:=Tryz.underlying448
 a53:=Tryz.isAgg448
 z53:=Tryz.sizeOf448
 v53:=Tryz.zeroValue448
 t55:=Tryz.underlying388
 a55:=Tryz.isAgg388
 z55:=Tryz.sizeOf388
 v55:=Tryz.zeroValue388
 t66:=Tryz.underlying461
 a66:=Tryz.isAgg461
 z66:=Tryz.sizeOf461
 v66:=Tryz.zeroValue461
 t70:=Tryz.underlying465
 a70:=Tryz.isAgg465
 z70:=Tryz.sizeOf465
 v70:=Tryz.zeroValue465
 t76:=Tryz.underlying468
 a76:=Tryz.isAgg468
 z76:=Tryz.sizeOf468
 v76:=Tryz.zeroValue468
 t77:=Tryz.underlying149
 a77:=Tryz.isAgg149
 z77:=Tryz.sizeOf149
 v77:=Tryz.zeroValue149 }
def Tryz.yI:Go.Shelf.Ren:=⟨λ| 316=>186 | n=>n,λ| 9=>9 | 3=>3 | 4=>4 | 37=>88 | 0=>0 | 127=>372 | 5=>5 | n=>n,λ| n=>n⟩
theorem Tryz.laysM316:Go.Proofs.LaysM.n316 Tryz.prog Tryz.yI:={
 mixed:=by kernel_rfl
 f316:=Tryz.func186.trans (congrArg some (by kernel_rfl))
 t0:=Tryz.underlying0
 a0:=Tryz.isAgg0
 z0:=Tryz.sizeOf0
 v0:=Tryz.zeroValue0
 t3:=Tryz.underlying3
 a3:=Tryz.isAgg3
 z3:=Tryz.sizeOf3
 v3:=Tryz.zeroValue3
 t4:=Tryz.underlying4
 a4:=Tryz.isAgg4
 z4:=Tryz.sizeOf4
 v4:=Tryz.zeroValue4
 t9:=Tryz.underlying9
 a9:=Tryz.isAgg9
 z9:=Tryz.sizeOf9
 v9:=Tryz.zeroValue9
 t37:=Tryz.underlying88
 a37:=Tryz.isAgg88
 z37:=Tryz.sizeOf88
 v37:=Tryz.zeroValue88
 t127:=Tryz.underlying372
 a127:=Tryz.isAgg372
 z127:=Tryz.sizeOf372
 v127:=Tryz.zeroValue372
 t5:=Tryz.underlying5
 a5:=Tryz.isAgg5
 z5:=Tryz.sizeOf5
 v5:=Tryz.zeroValue5
 i0:=by kernel_rfl
 i3:=by kernel_rfl
 i4:=by kernel_rfl
 i5:=by kernel_rfl
 i9:=by kernel_rfl
 i37:=by kernel_rfl
 i127:=by kernel_rfl }
open Go.RowKit in
theorem Tryz.stringslite_Clone (s:ByteArray) (w:World) (hlim:s.size<=281474976710656) :
  Calls Tryz.prog 186 #[.string s] w λe w'=>e = .returned (.string s)/\Below w.heap.size w w':=Any.stringslite_Clone Tryz.laysM316 s w hlim
def Tryz.yJ:Go.Shelf.Ren:=⟨λ| 174=>172 | 247=>209 | 245=>210 | 287=>246 | 279=>247 | 280=>248 | 281=>249 | 282=>250 | 321=>278 | 322=>279 | 316=>186 | 171=>281 | 205=>280 | 243=>307 | 246=>323 | 283=>327 | 284=>328 | 285=>329 | 286=>330 | 129=>305 | 317=>333 | 318=>334 | 319=>335 | 320=>336 | 337=>339 | 338=>340 | n=>n,λ| 9=>9 | 3=>3 | 2=>2 | 75=>304 | 85=>305 | 4=>4 | 167=>387 | 5=>5 | 53=>388 | 175=>389 | 46=>391 | 168=>392 | 37=>88 | 0=>0 | 210=>422 | 21=>21 | 127=>372 | 145=>452 | 143=>450 | 171=>470 | 173=>472 | 212=>475 | 51=>448 | 20=>20 | 213=>476 | 232=>480 | 233=>481 | 80=>66 | n=>n,λ| 15=>0 | 16=>1 | 17=>2 | 18=>3 | 19=>4 | n=>n⟩
theorem Tryz.AJ:Go.Proofs.LaysC.n174 Tryz.prog Tryz.yJ:={
 mixed:=by kernel_rfl
 f129:=Tryz.func305.trans (congrArg some (by kernel_rfl))
 f171:=Tryz.func281.trans (congrArg some (by kernel_rfl))
 f174:=Tryz.func172.trans (congrArg some (by kernel_rfl))
 f205:=Tryz.func280.trans (congrArg some (by kernel_rfl))
 f243:=Tryz.func307.trans (congrArg some (by kernel_rfl))
 f245:=Tryz.func210.trans (congrArg some (by kernel_rfl))
 f246:=Tryz.func323.trans (congrArg some (by kernel_rfl))
 f247:=Tryz.func209.trans (congrArg some (by kernel_rfl))
 f279:=Tryz.func247.trans (congrArg some (by kernel_rfl))
 f280:=Tryz.func248.trans (congrArg some (by kernel_rfl))
 f281:=Tryz.func249.trans (congrArg some (by kernel_rfl))
 f282:=Tryz.func250.trans (congrArg some (by kernel_rfl))
 f283:=Tryz.func327.trans (congrArg some (by kernel_rfl))
 f284:=Tryz.func328.trans (congrArg some (by kernel_rfl))
 f285:=Tryz.func329.trans (congrArg some (by kernel_rfl))
 f286:=Tryz.func330.trans (congrArg some (by kernel_rfl))
 f287:=Tryz.func246.trans (congrArg some (by kernel_rfl))
 f316:=Tryz.func186.trans (congrArg some (by kernel_rfl))
 f317:=Tryz.func333.trans (congrArg some (by kernel_rfl))
 f318:=Tryz.func334.trans (congrArg some (by kernel_rfl))
 f319:=Tryz.func335.trans (congrArg some (by kernel_rfl))
 f320:=Tryz.func336.trans (congrArg some (by kernel_rfl))
 f321:=Tryz.func278.trans (congrArg some (by kernel_rfl))
 f322:=Tryz.func279.trans (congrArg some (by kernel_rfl))
 f337:=Tryz.func339.trans (congrArg some (by kernel_rfl))
 f338:=Tryz.func340.trans (congrArg some (by kernel_rfl))
 t0:=Tryz.underlying0
 a0:=Tryz.isAgg0
 z0:=Tryz.sizeOf0
 v0:=Tryz.zeroValue0
 t2:=Tryz.underlying2
 a2:=Tryz.isAgg2
 z2:=Tryz.sizeOf2
 v2:=Tryz.zeroValue2
 t3:=Tryz.underlying3
 a3:=Tryz.isAgg3
 z3:=Tryz.sizeOf3
 v3:=Tryz.zeroValue3
 t4:=Tryz.underlying4
 a4:=Tryz.isAgg4
 z4:=Tryz.sizeOf4
 v4:=Tryz.zeroValue4
 t5:=Tryz.underlying5
 a5:=Tryz.isAgg5
 z5:=Tryz.sizeOf5
 v5:=Tryz.zeroValue5
 t9:=Tryz.underlying9
 a9:=Tryz.isAgg9
 z9:=Tryz.sizeOf9
 v9:=Tryz.zeroValue9
 t20:=Tryz.underlying20
 a20:=Tryz.isAgg20
 z20:=Tryz.sizeOf20
 v20:=Tryz.zeroValue20
 t21:=Tryz.underlying21
 a21:=Tryz.isAgg21
 z21:=Tryz.sizeOf21
 v21:=Tryz.zeroValue21
 t37:=Tryz.underlying88
 a37:=Tryz.isAgg88
 z37:=Tryz.sizeOf88
 v37:=Tryz.zeroValue88
 t46:=Tryz.underlying391
 a46:=Tryz.isAgg391
 z46:=Tryz.sizeOf391
 v46:=Tryz.zeroValue391
 t51:=Tryz.underlying448
 a51:=Tryz.isAgg448
 z51:=Tryz.sizeOf448
 v51:=Tryz.zeroValue448
 t53:=Tryz.underlying388
 a53:=Tryz.isAgg388
 z53:=Tryz.sizeOf388
 v53:=Tryz.zeroValue388
 t75:=Tryz.underlying304
 a75:=Tryz.isAgg304
 z75:=Tryz.sizeOf304
 v75:=Tryz.zeroValue304
 t85:=Tryz.underlying305
 a85:=Tryz.isAgg305
 z85:=Tryz.sizeOf305
 v85:=Tryz.zeroValue305
 t127:=Tryz.underlying372
 a127:=Tryz.isAgg372
 z127:=Tryz.sizeOf372
 v127:=Tryz.zeroValue372
 t143:=Tryz.underlying450
 a143:=Tryz.isAgg450
 z143:=Tryz.sizeOf450
 v143:=Tryz.zeroValue450
 t145:=Tryz.underlying452
 a145:=Tryz.isAgg452
 z145:=Tryz.sizeOf452
 v145:=Tryz.zeroValue452
 t167:=Tryz.underlying387
 a167:=Tryz.isAgg387
 z167:=Tryz.sizeOf387
 v167:=Tryz.zeroValue387
 t168:=Tryz.underlying392
 a168:=Tryz.isAgg392
 z168:=Tryz.sizeOf392
 v168:=Tryz.zeroValue392
 t171:=Tryz.underlying470
 a171:=Tryz.isAgg470
 z171:=Tryz.sizeOf470
 v171:=Tryz.zeroValue470
 t173:=Tryz.underlying472
 a173:=Tryz.isAgg472
 z173:=Tryz.sizeOf472
 v173:=Tryz.zeroValue472
 t175:=Tryz.underlying389
 a175:=Tryz.isAgg389
 z175:=Tryz.sizeOf389
 v175:=Tryz.zeroValue389
 t210:=Tryz.underlying422
 a210:=Tryz.isAgg422
 z210:=Tryz.sizeOf422
 v210:=Tryz.zeroValue422
 t212:=Tryz.underlying475
 a212:=Tryz.isAgg475
 z212:=Tryz.sizeOf475
 v212:=Tryz.zeroValue475
 t213:=Tryz.underlying476
 a213:=Tryz.isAgg476
 z213:=Tryz.sizeOf476
 t232:=Tryz.underlying480
 a232:=Tryz.isAgg480
 z232:=Tryz.sizeOf480
 v232:=Tryz.zeroValue480
 t233:=Tryz.underlying481
 a233:=Tryz.isAgg481
 z233:=Tryz.sizeOf481
 v233:=Tryz.zeroValue481
 g15:=by kernel_rfl
 g16:=by kernel_rfl
 g17:=by kernel_rfl
 g18:=by kernel_rfl
 g19:=by kernel_rfl
 t80:=Tryz.underlying66
 a80:=Tryz.isAgg66
 z80:=Tryz.sizeOf66
 v80:=Tryz.zeroValue66
 i0:=by kernel_rfl
 i2:=by kernel_rfl
 i3:=by kernel_rfl
 i4:=by kernel_rfl
 i5:=by kernel_rfl
 i9:=by kernel_rfl
 i20:=by kernel_rfl
 i21:=by kernel_rfl
 i37:=by kernel_rfl
 i46:=by kernel_rfl
 i51:=by kernel_rfl
 i53:=by kernel_rfl
 i75:=by kernel_rfl
 i80:=by kernel_rfl
 i85:=by kernel_rfl
 i127:=by kernel_rfl
 i143:=by kernel_rfl
 i145:=by kernel_rfl
 i167:=by kernel_rfl
 i168:=by kernel_rfl
 i171:=by kernel_rfl
 i173:=by kernel_rfl
 i175:=by kernel_rfl
 i210:=by kernel_rfl
 i212:=by kernel_rfl
 i232:=by kernel_rfl
 i233:=by kernel_rfl
 m15:=by kernel_rfl
 m16:=by kernel_rfl
 m17:=by kernel_rfl
 m18:=by kernel_rfl
 m19:=by kernel_rfl
 c0:=by kernel_rfl
 c2:=by kernel_rfl
 c3:=by kernel_rfl
 c4:=by kernel_rfl
 c5:=by kernel_rfl
 c9:=by kernel_rfl
 c20:=by kernel_rfl
 c21:=by kernel_rfl
 c37:=by kernel_rfl
 c46:=by kernel_rfl
 c51:=by kernel_rfl
 c53:=by kernel_rfl
 c75:=by kernel_rfl
 c80:=by kernel_rfl
 c85:=by kernel_rfl
 c127:=by kernel_rfl
 c143:=by kernel_rfl
 c145:=by kernel_rfl
 c167:=by kernel_rfl
 c168:=by kernel_rfl
 c171:=by kernel_rfl
 c173:=by kernel_rfl
 c175:=by kernel_rfl
 c210:=by kernel_rfl
 c212:=by kernel_rfl
 c213:=by kernel_rfl
 c232:=by kernel_rfl
 c233:=by kernel_rfl }
open Go.RowKit in
theorem Tryz.strconv_ParseInt_10_at64_ok (s:ByteArray) (hmax:s.size<=9223372036854775806) (v:Int) (h:Lib.parseIntB 64 s.data.toList = .ok v) (w:World) :
  Calls Tryz.prog 172 #[.string s, .int .i64 10, .int .i64 64] w λe w'=>e = .returned (.tuple #[.int .i64 v, .nilIface])/\(w'=w\/∃ t,w'=Lib.bytesWorld w 5 t):=Any.strconv_ParseInt_10_at64_ok Tryz.AJ s hmax v h w
open Go.RowKit in
theorem Tryz.strconv_ParseInt_10_at64_range (s:ByteArray) (hlim:s.size<=281474976710656) (h:Lib.parseIntB 64 s.data.toList = .range) (ev:Value) (w:World) (hv:w.cell? ⟨1,0,none⟩=some ev) (hev:ev = .nilIface\/∃ te pe,ev = .iface te pe) :
  Calls Tryz.prog 172 #[.string s, .int .i64 10, .int .i64 64] w λe w'=>∃ N,e = .returned (.tuple #[.int .i64 (Lib.intSat 64 s.data.toList), .iface 392 (.pointer (some ⟨N,0,none⟩))])/\w.heap.size<=N/\w'.heap[N]?=some (.cells #[.string ⟨#[80,97,114,115,101,73,110,116]⟩, .string s,ev] 422 (0,0))/\Below w.heap.size w w':=Any.strconv_ParseInt_10_at64_range Tryz.AJ s hlim h ev w hv hev
def Tryz.lays155_ren:Go.Shelf.Ren:=⟨λ| 155=>349 | 154=>354 | 138=>355 | 165=>356 | 143=>357 | 166=>358 | 197=>359 | 169=>360 | 195=>361 | 218=>362 | 240=>363 | 241=>364 | 219=>365 | 260=>366 | 276=>367 | 277=>368 | 217=>369 | 225=>370 | 224=>371 | 267=>372 | 266=>373 | 314=>374 | n=>n,λ| 9=>9 | 3=>3 | 4=>4 | 72=>488 | 0=>0 | 76=>490 | 105=>492 | 21=>21 | 5=>5 | 70=>486 | 20=>20 | 37=>88 | 75=>304 | 127=>372 | 164=>495 | 46=>391 | 119=>498 | 139=>501 | 138=>500 | 146=>502 | 51=>448 | 80=>66 | n=>n,λ| 1=>5 | 3=>6 | 4=>7 | n=>n⟩
theorem Tryz.lays155:Go.Proofs.Lays.n155 Tryz.prog Tryz.lays155_ren:={
 mixed:=by kernel_rfl
 f138:=Tryz.func355.trans (congrArg some (by kernel_rfl))
 f143:=Tryz.func357.trans (congrArg some (by kernel_rfl))
 f154:=Tryz.func354.trans (congrArg some (by kernel_rfl))
 f155:=Tryz.func349.trans (congrArg some (by kernel_rfl))
 f165:=Tryz.func356.trans (congrArg some (by kernel_rfl))
 f166:=Tryz.func358.trans (congrArg some (by kernel_rfl))
 f169:=Tryz.func360.trans (congrArg some (by kernel_rfl))
 f195:=Tryz.func361.trans (congrArg some (by kernel_rfl))
 f197:=Tryz.func359.trans (congrArg some (by kernel_rfl))
 f217:=Tryz.func369.trans (congrArg some (by kernel_rfl))
 f218:=Tryz.func362.trans (congrArg some (by kernel_rfl))
 f219:=Tryz.func365.trans (congrArg some (by kernel_rfl))
 f224:=Tryz.func371.trans (congrArg some (by kernel_rfl))
 f225:=Tryz.func370.trans (congrArg some (by kernel_rfl))
 f240:=Tryz.func363.trans (congrArg some (by kernel_rfl))
 f241:=Tryz.func364.trans (congrArg some (by kernel_rfl))
 f260:=Tryz.func366.trans (congrArg some (by kernel_rfl))
 f266:=Tryz.func373.trans (congrArg some (by kernel_rfl))
 f267:=Tryz.func372.trans (congrArg some (by kernel_rfl))
 f276:=Tryz.func367.trans (congrArg some (by kernel_rfl))
 f277:=Tryz.func368.trans (congrArg some (by kernel_rfl))
 f314:=Tryz.func374.trans (congrArg some (by kernel_rfl))
 t0:=Tryz.underlying0
 a0:=Tryz.isAgg0
 z0:=Tryz.sizeOf0
 v0:=Tryz.zeroValue0
 t3:=Tryz.underlying3
 a3:=Tryz.isAgg3
 z3:=Tryz.sizeOf3
 v3:=Tryz.zeroValue3
 t4:=Tryz.underlying4
 a4:=Tryz.isAgg4
 z4:=Tryz.sizeOf4
 v4:=Tryz.zeroValue4
 t5:=Tryz.underlying5
 a5:=Tryz.isAgg5
 z5:=Tryz.sizeOf5
 v5:=Tryz.zeroValue5
 t9:=Tryz.underlying9
 a9:=Tryz.isAgg9
 z9:=Tryz.sizeOf9
 v9:=Tryz.zeroValue9
 t20:=Tryz.underlying20
 a20:=Tryz.isAgg20
 z20:=Tryz.sizeOf20
 v20:=Tryz.zeroValue20
 t21:=Tryz.underlying21
 a21:=Tryz.isAgg21
 z21:=Tryz.sizeOf21
 v21:=Tryz.zeroValue21
 t37:=Tryz.underlying88
 a37:=Tryz.isAgg88
 z37:=Tryz.sizeOf88
 v37:=Tryz.zeroValue88
 t46:=Tryz.underlying391
 a46:=Tryz.isAgg391
 z46:=Tryz.sizeOf391
 v46:=Tryz.zeroValue391
 t51:=Tryz.underlying448
 a51:=Tryz.isAgg448
 z51:=Tryz.sizeOf448
 v51:=Tryz.zeroValue448
 t70:=Tryz.underlying486
 a70:=Tryz.isAgg486
 z70:=Tryz.sizeOf486
 v70:=Tryz.zeroValue486
 t72:=Tryz.underlying488
 a72:=Tryz.isAgg488
 z72:=Tryz.sizeOf488
 v72:=Tryz.zeroValue488
 t75:=Tryz.underlying304
 a75:=Tryz.isAgg304
 z75:=Tryz.sizeOf304
 v75:=Tryz.zeroValue304
 t76:=Tryz.underlying490
 a76:=Tryz.isAgg490
 z76:=Tryz.sizeOf490
 v76:=Tryz.zeroValue490
 t105:=Tryz.underlying492
 a105:=Tryz.isAgg492
 z105:=Tryz.sizeOf492
 v105:=Tryz.zeroValue492
 t119:=Tryz.underlying498
 a119:=Tryz.isAgg498
 z119:=Tryz.sizeOf498
 t127:=Tryz.underlying372
 a127:=Tryz.isAgg372
 z127:=Tryz.sizeOf372
 v127:=Tryz.zeroValue372
 t138:=Tryz.underlying500
 a138:=Tryz.isAgg500
 z138:=Tryz.sizeOf500
 v138:=Tryz.zeroValue500
 t139:=Tryz.underlying501
 a139:=Tryz.isAgg501
 z139:=Tryz.sizeOf501
 v139:=Tryz.zeroValue501
 t146:=Tryz.underlying502
 a146:=Tryz.isAgg502
 z146:=Tryz.sizeOf502
 v146:=Tryz.zeroValue502
 t164:=Tryz.underlying495
 a164:=Tryz.isAgg495
 z164:=Tryz.sizeOf495
 v164:=Tryz.zeroValue495
 g1:=by kernel_rfl
 g3:=by kernel_rfl
 g4:=by kernel_rfl }
theorem Tryz.pE:Builder.Extra Tryz.prog Tryz.lays155_ren:={
 sizeBuilder:=by kernel_rfl
 liesBuilder:=by kernel_rfl
 t5:=Tryz.underlying5
 a5:=Tryz.isAgg5
 z5:=Tryz.sizeOf5
 v5:=Tryz.zeroValue5
 infoByte:=by kernel_rfl
 cellsByte:=by kernel_rfl
 sizeByte:=by kernel_rfl
 neB5:=by decide }
open Go.RowKit Go.Lib in
theorem Tryz.strings_ReplaceAll (s old new:ByteArray) (m:Int) (w:World) (hs:s.size<4294967281) (hm:w.cell? ⟨5,0,none⟩=some (.int .i64 m)) (h1:1<=old.size) (hlen:s.size+Lib.countB s old*new.size<=140737488355328) :
  Calls Tryz.prog 349 #[.string s, .string old, .string new] w λe w'=>
   e = .returned (.string ⟨(Lib.replaceAll s.data.toList old.data.toList new.data.toList).toArray⟩)/\Below w.heap.size w w':=Any.strings_ReplaceAll Tryz.lays155 Tryz.pE s old new m w hs hm h1 hlen
end Go.Proofs
