import PyProof.Rows.All
import Wide.All
import OpenK.AllK
import Wide.FinOn
import Lean
import PyProof.EqAt
import PyProof.EqKinds
import PyProof.TupleCall
import PyProof.LongRange
import KE.KDictList
import KE.KDictSum
import KE.KEqDict
import KE.KRevSl
import PyProof.Rows.SortKey
import PyProof.Rows.SortRuns
import PyProof.Rows.SortShellK
import PySem.Challenge.RW_lategone_k29_whole_shares_sort
set_option Elab.async false
set_option linter.all false
set_option maxRecDepth 100000
set_option maxHeartbeats 4000000
def PySem.W.Fast.tw14255583688772874206:Nat:=0
def PySem.W.Fast.tw18312740589894915698:Nat:=0
def PySem.W.Fast.tw4114864024673621368:Nat:=0
def PySem.W.Fast.tw7418740680389154173:Nat:=0
def PySem.W.Fast.tw15717722084051202472:Nat:=0
def PySem.W.Fast.tw16328197097029952899:Nat:=0
def PySem.W.Fast.tw3808259392323568363:Nat:=0
def PySem.W.Fast.tw9382364051582230877:Nat:=0
def PySem.W.Fast.tw16063100102169875259:Nat:=0
def PySem.W.Fast.tw5307139633799494800:Nat:=0
def PySem.W.Fast.tw5948813150632720196:Nat:=0
def PySem.W.Fast.tw10120969139444854320:Nat:=0
def PySem.W.Fast.tw14615041249206318826:Nat:=0
def PySem.W.Fast.tw18032251912560392728:Nat:=0
def PySem.W.Fast.tw15883283205214609687:Nat:=0
def PySem.W.Fast.tw2318944598931206230:Nat:=0
def PySem.W.Fast.tw8142514865398465604:Nat:=0
def PySem.W.Fast.tw7658518124336079278:Nat:=0
def PySem.W.Fast.tw11785194088837124789:Nat:=0
def PySem.W.Fast.tw6159524367586053521:Nat:=0
def PySem.W.Fast.tw8618151652761326035:Nat:=0
def PySem.W.Fast.tw7058283296876532370:Nat:=0
def PySem.W.Fast.tw6161456867917382746:Nat:=0
def PySem.W.Fast.tw15911536237837889528:Nat:=0
def PySem.W.Fast.tw826484232662867930:Nat:=0
def PySem.W.Fast.tw6278538616350856536:Nat:=0
def PySem.W.Fast.tw15965552153798822219:Nat:=0
def PySem.W.Fast.tw13256540341029549261:Nat:=0
def PySem.W.Fast.tw4528058635519622012:Nat:=0
def PySem.W.Fast.tw16059399297690809642:Nat:=0
def PySem.W.Fast.tw15327333044929956769:Nat:=0
def PySem.W.Fast.tw10843337172302230784:Nat:=0
def PySem.W.Fast.tw5601143005365234187:Nat:=0
def PySem.W.Fast.tw8992283868353051949:Nat:=0
def PySem.W.Fast.tw7249656625493050990:Nat:=0
def PySem.W.Fast.tw8205118255419597334:Nat:=0
def PySem.W.Fast.tw2517949414712041430:Nat:=0
def PySem.W.Fast.tw12128455262200270975:Nat:=0
def PySem.W.Fast.tw16780369935722068444:Nat:=0
def PySem.W.Fast.tw15026063982311400613:Nat:=0
def PySem.W.Fast.tw4092798934361539216:Nat:=0
def PySem.W.Fast.tw11502535448586835393:Nat:=0
def PySem.W.Fast.tw10096320338457706894:Nat:=0
def PySem.W.Fast.tw14281363112607071372:Nat:=0
def PySem.W.Fast.tw6766267521691836446:Nat:=0
def PySem.W.Fast.tw310040425107346138:Nat:=0
def PySem.W.Fast.tw11937491346222356466:Nat:=0
def PySem.W.Fast.tw10440156470948638203:Nat:=0
def PySem.W.Fast.tw7486490928368644983:Nat:=0
def PySem.W.Fast.tw4431826405651570323:Nat:=0
def PySem.W.Fast.tw6011963454863015437:Nat:=0
def PySem.W.Fast.tw4428561488056531598:Nat:=0
def PySem.W.Fast.tw1866235178312533356:Nat:=0
def PySem.W.Fast.tw9893765562334430305:Nat:=0
def PySem.W.Fast.tw2124571139804671779:Nat:=0
def PySem.W.Fast.tw5375398659834695014:Nat:=0
def PySem.W.Fast.tw1202039840754996667:Nat:=0
def PySem.W.Fast.tw9412273826429103245:Nat:=0
def PySem.W.Fast.tw10277026304209137787:Nat:=0
def PySem.W.Fast.tw2620649369309153020:Nat:=0
def PySem.W.Fast.tw18108140928532272333:Nat:=0
def PySem.W.Fast.tw15945489209152650123:Nat:=0
def PySem.W.Fast.tw15388525940704203410:Nat:=0
def PySem.W.Fast.tw12226472849822056589:Nat:=0
def PySem.W.Fast.tw309555350178517275:Nat:=0
def PySem.W.Fast.tw5934122279313035492:Nat:=0
def PySem.W.Fast.tw10898515744604914559:Nat:=0
def PySem.W.Fast.tw581320744457202486:Nat:=0
def PySem.W.Fast.tw5417514838690180295:Nat:=0
def PySem.W.Fast.tw10553325528303906028:Nat:=0
def PySem.W.Fast.tw10114030928919995712:Nat:=0
def PySem.W.Fast.tw14392893086195703248:Nat:=0
def PySem.W.Fast.tw15370156278970443796:Nat:=0
def PySem.W.Fast.tw1125466211624202710:Nat:=0
def PySem.W.Fast.tw10233594713424334434:Nat:=0
def PySem.W.Fast.tw4743420647451433217:Nat:=0
def PySem.W.Fast.tw1389614722886489013:Nat:=0
def PySem.W.Fast.tw4190548680386624529:Nat:=0
def PySem.W.Fast.tw15931093434884312833:Nat:=0
def PySem.W.Fast.tw15100048281171615862:Nat:=0
def PySem.W.Fast.tw2955031027299631580:Nat:=0
def PySem.W.Fast.tw14992246253408588234:Nat:=0
def PySem.W.Fast.tw6534444178173411574:Nat:=0
def PySem.W.Fast.tw12221385570328848647:Nat:=0
def PySem.W.Fast.tw4981363561688110236:Nat:=0
def PySem.W.Fast.tw12142440926846664299:Nat:=0
def PySem.W.Fast.tw14078874863107826620:Nat:=0
def PySem.W.Fast.tw1041053349099465160:Nat:=0
def PySem.W.Fast.tw17247886001650681359:Nat:=0
def PySem.W.Fast.tw1954354948359710568:Nat:=0
def PySem.W.Fast.tw5463729850781979077:Nat:=0
def PySem.W.Fast.tw4088177099189113248:Nat:=0
def PySem.W.Fast.tw407738934493551841:Nat:=0
def PySem.W.Fast.tw11620561741808293196:Nat:=0
def PySem.W.Fast.tw5878698168527511390:Nat:=0
def PySem.W.Fast.tw10026356192188070458:Nat:=0
def PySem.W.Fast.tw17698740932947845878:Nat:=0
def PySem.W.Fast.tw1754531792506300054:Nat:=0
def PySem.W.Fast.tw7911622123867372781:Nat:=0
def PySem.W.Fast.tw8111738262745113162:Nat:=0
def PySem.W.Fast.tw4855851936246753485:Nat:=0
def PySem.W.Fast.tw4046042363830859866:Nat:=0
def PySem.W.Fast.tw4004876122283286782:Nat:=0
def PySem.W.Fast.tw7263656109588395592:Nat:=0
def PySem.W.Fast.tw11416355032946300923:Nat:=0
def PySem.W.Fast.tw8618235524791136489:Nat:=0
def PySem.W.Fast.tw10272252131064955726:Nat:=0
def PySem.W.Fast.tw11428700445096391028:Nat:=0
def PySem.W.Fast.tw13999340225479109279:Nat:=0
def PySem.W.Fast.tw18328738369170873476:Nat:=0
def PySem.W.Fast.tw2269442085320053099:Nat:=0
def PySem.W.Fast.tw1908405929258293267:Nat:=0
def PySem.W.Fast.tw4863670619393677455:Nat:=0
def PySem.W.Fast.tw12720797731384704257:Nat:=0
def PySem.W.Fast.tw10280500802941488798:Nat:=0
def PySem.W.Fast.tw15286826537084676951:Nat:=0
def PySem.W.Fast.tw1791503936280913467:Nat:=0
def PySem.W.Fast.tw12383158577740877220:Nat:=0
def PySem.W.Fast.tw6702987792096091896:Nat:=0
def PySem.W.Fast.tw9407325596517395228:Nat:=0
def PySem.W.Fast.tw7702328333505317985:Nat:=0
def PySem.W.Fast.tw14883551814479254973:Nat:=0
def PySem.W.Fast.tw4128312261500355992:Nat:=0
def PySem.W.Fast.tw11585368092877899467:Nat:=0
def PySem.W.Fast.tw4204959024104332260:Nat:=0
def PySem.W.Fast.tw9428782517658360749:Nat:=0
def PySem.W.Fast.tw5033085119487690001:Nat:=0
def PySem.W.Fast.tw9339093985083740693:Nat:=0
def PySem.W.Fast.tw5102647917680301345:Nat:=0
def PySem.W.Fast.tw2537615466376689707:Nat:=0
def PySem.W.Fast.tw16896650802317604949:Nat:=0
def PySem.W.Fast.tw13992526984663230797:Nat:=0
def PySem.W.Fast.tw577769805631681594:Nat:=0
def PySem.W.Fast.tw2972366580599434412:Nat:=0
def PySem.W.Fast.tw4254303115795104812:Nat:=0
def PySem.W.Fast.tw14968762537157871622:Nat:=0
def PySem.W.Fast.tw1413265123438818583:Nat:=0
def PySem.W.Fast.tw3005729637209033685:Nat:=0
def PySem.W.Fast.tw6387523620589019868:Nat:=0
def PySem.W.Fast.tw5692812889628629938:Nat:=0
def PySem.W.Fast.tw3359688898858515282:Nat:=0
def PySem.W.Fast.tw2575501126455189460:Nat:=0
def PySem.W.Fast.tw13603610774547644695:Nat:=0
def PySem.W.Fast.tw11227209299040002918:Nat:=0
def PySem.W.Fast.tw2342423313549498440:Nat:=0
def PySem.W.Fast.tw14272677707930878693:Nat:=0
def PySem.W.Fast.tw5650882393258647851:Nat:=0
def PySem.W.Fast.tw2169914766099183875:Nat:=0
def PySem.W.Fast.tw14112501228660631414:Nat:=0
def PySem.W.Fast.tw4133373634964064283:Nat:=0
def PySem.W.Fast.tw5095584458466626422:Nat:=0
def PySem.W.Fast.tw12896810704877231176:Nat:=0
def PySem.W.Fast.tw18115352108369235621:Nat:=0
def PySem.W.Fast.tw1947265184673033196:Nat:=0
def PySem.W.Fast.tw6450025189352763229:Nat:=0
def PySem.W.Fast.tw8374297899101532386:Nat:=0
def PySem.W.Fast.tw3167116653596709351:Nat:=0
def PySem.W.Fast.tw18336745059075005813:Nat:=0
def PySem.W.Fast.tw16405044710827485684:Nat:=0
def PySem.W.Fast.tw12798008228166832397:Nat:=0
def PySem.W.Fast.tw1035082056917204011:Nat:=0
def PySem.W.Fast.tw15573344363939753101:Nat:=0
def PySem.W.Fast.tw8780971625750576271:Nat:=0
def PySem.W.Fast.tw3379422256276256036:Nat:=0
def PySem.W.Fast.tw3157428769233292243:Nat:=0
def PySem.W.Fast.tw8392549085501905425:Nat:=0
def PySem.W.Fast.tw16095231346542902226:Nat:=0
def PySem.W.Fast.tw13495801169944523498:Nat:=0
def PySem.W.Fast.tw10463753538848275349:Nat:=0
def PySem.W.Fast.tw4396670834901116430:Nat:=0
def PySem.W.Fast.tw941320524628756574:Nat:=0
def PySem.W.Fast.tw15568951429511271161:Nat:=0
def PySem.W.Fast.tw2213716789214981080:Nat:=0
def PySem.W.Fast.tw17247337764888492660:Nat:=0
def PySem.W.Fast.tw16251718345994007084:Nat:=0
def PySem.W.Fast.tw17815768295385161588:Nat:=0
def PySem.W.Fast.tw15581407747728258429:Nat:=0
def PySem.W.Fast.tw17041372509317658927:Nat:=0
def PySem.W.Fast.tw12687058629712953270:Nat:=0
def PySem.W.Fast.tw17996029257705799357:Nat:=0
def PySem.W.Fast.tw11768705350929081633:Nat:=0
def PySem.W.Fast.tw4366602031318433971:Nat:=0
def PySem.W.Fast.tw2562567013169249116:Nat:=0
def PySem.W.Fast.tw16290199932526582382:Nat:=0
def PySem.W.Fast.tw2425442240550198848:Nat:=0
def PySem.W.Fast.tw5686130518908457392:Nat:=0
def PySem.W.Fast.tw12505196091147148661:Nat:=0
def PySem.W.Fast.tw16298910488615785567:Nat:=0
def PySem.W.Fast.tw15708849480148751166:Nat:=0
def PySem.W.Fast.tw5262630086729160722:Nat:=0
def PySem.W.Fast.tw12372414293377273573:Nat:=0
def PySem.W.Fast.tw7992598414204375135:Nat:=0
def PySem.W.Fast.tw17620562563436160581:Nat:=0
def PySem.W.Fast.tw8317078016191980961:Nat:=0
def PySem.W.Fast.tw7697570535283369997:Nat:=0
def PySem.W.Fast.tw18281707055164591958:Nat:=0
def PySem.W.Fast.tw16784410388304317923:Nat:=0
def PySem.W.Fast.tw13917024089604510904:Nat:=0
def PySem.W.Fast.tw1786084203668461179:Nat:=0
def PySem.W.Fast.tw11986121544684564781:Nat:=0
def PySem.W.Fast.tw2098763037043895069:Nat:=0
def PySem.W.Fast.tw9463435275854699858:Nat:=0
def PySem.W.Fast.tw10362945266534539536:Nat:=0
section
namespace TS
open PySem PyProof.Rows
def gal:Bool→Keyed→Array Keyed→Nat→Nat→Nat→StateT SortSt Sem (Option Nat):=sortPriv% PySem.Builtin.gallop
def mLo:Array Keyed→Array Keyed→StateT SortSt Sem (Array Keyed):=sortPriv% PySem.Builtin.mergeLo
def mHi:Array Keyed→Array Keyed→StateT SortSt Sem (Array Keyed):=sortPriv% PySem.Builtin.mergeHi
def setG:Nat→StateT SortSt Sem Unit:=sortPriv% PySem.Builtin.setMinGallop
def kf (κ:KeyKind) (p:Keyed):κ.α:=(κ.keyOf p.1).getD κ.dflt
def Lb (κ:KeyKind) (p q:Keyed):Bool:=κ.blt (kf κ p) (kf κ q)
def Le (κ:KeyKind) (p q:Keyed):Prop:=Lb κ q p=false
section ord
variable {κ:KeyKind} {p q r:Keyed}
theorem Le.refl (p:Keyed):Le κ p p:=κ.irrefl _
theorem Le.trans (h:Le κ p q) (h':Le κ q r):Le κ p r:=KeyOrd.kle_trans (O:=κ.toKeyOrd) h h'
theorem Le.of_lt (h:Lb κ p q=true):Le κ p q:=KeyOrd.kle_of_klt (O:=κ.toKeyOrd) h
theorem le_lt (h:Le κ p q) (h':Lb κ q r=true):Lb κ p r=true:=KeyOrd.klt_of_kle_of_klt (O:=κ.toKeyOrd) h h'
end ord
structure Cmp (prog:Program) (w:World) (A:Around) (s:Shared) (κ:KeyKind) (kd:SortKind) (a₀:Array Keyed):Prop where
 on:∀ x y:Keyed,x∈a₀.toList→y∈a₀.toList→∀ (E:Value→Shared→Prop) (Q:Bool→Shared→Prop),Q (Lb κ x y) s→wpAny (model prog w) A (keyLt' kd x.1 y.1) Q E s
structure SB (kd:SortKind) (a₀:Array Keyed) (st:SortSt):Prop where
 perm:(arrOf st).Perm a₀
 kind:kindOf st=kd
 fail:failedOf st=none
theorem kk_of {κ:KeyKind} {xs:Array Keyed} {i:Nat} {p:Keyed} (h:xs[i]?=some p):KK κ xs i=kf κ p:=by
 unfold KK; rw [h]; rfl
section
variable {kd:SortKind} {a₀:Array Keyed} {st:SortSt} {κ:KeyKind}
theorem SB.size (B:SB kd a₀ st):(arrOf st).size=a₀.size:=B.perm.size_eq
theorem SB.at (B:SB kd a₀ st) {i:Nat} (h:i < a₀.size):∃ p,(arrOf st)[i]?=some p∧p∈a₀.toList∧KK κ (arrOf st) i=kf κ p:=by
 have h':i < (arrOf st).size:=by rw [B.size]; exact h
 have e:(arrOf st)[i]?=some (arrOf st)[i]:=getElem?_pos _ i h'
 exact ⟨_,e,(Array.perm_iff_toList_perm.mp B.perm).mem_iff.mp (by simp),kk_of e⟩
theorem SB.arr (B:SB kd a₀ st) {xs:Array Keyed} (h:xs.Perm (arrOf st)):SB kd a₀ (setArr st xs):=⟨h.trans B.perm,B.kind,B.fail⟩
end
section
variable {prog:Program} {w:World} {A:Around} {E:Value→Shared→Prop} {s:Shared} {κ:KeyKind} {kd:SortKind} {a₀:Array Keyed} {st:SortSt}
theorem s_elem {arr:Array Keyed} {i:Nat} {p:Keyed} {Q:Keyed→SortSt→Prop} (h:arr[i]?=some p) (q:Q p st):wpS (model prog w) A E s (elem' arr i) Q st:=by
 rw [elem'_eq,h]; exact wpS_pure q
theorem s_lt (C:Cmp prog w A s κ kd a₀) {x y:Keyed} {Q:Option Bool→SortSt→Prop} (hx:x∈a₀.toList) (hy:y∈a₀.toList) (hk:kindOf st=kd) (q:Q (some (Lb κ x y)) st) :
  wpS (model prog w) A E s (lt' x y) Q st:=by
 rw [lt'_eq]
 refine wpS_bind (wpS_get ?_)
 rw [hk]
 refine wpS_bind (wpS_lift (wpAny_attempt (C.on x y hx hy _ _ ⟨rfl,?_⟩)))
 exact wpS_pure q
theorem s_ltAt (C:Cmp prog w A s κ kd a₀) (B:SB kd a₀ st) {i j:Nat} {Q:Option Bool→SortSt→Prop} (hi:i < a₀.size) (hj:j < a₀.size)
  (q:Q (some (κ.blt (KK κ (arrOf st) i) (KK κ (arrOf st) j))) st):wpS (model prog w) A E s (ltAt' i j) Q st:=by
 obtain ⟨x,ex,mx,kx⟩:=B.at (κ:=κ) hi
 obtain ⟨y,ey,my,ky⟩:=B.at (κ:=κ) hj
 rw [ltAt'_eq]
 refine wpS_bind (wpS_get ?_)
 show wpS _ _ _ _ (do let x ← elem' (arrOf st) i; let y ← elem' (arrOf st) j; lt' x y) Q st
 refine wpS_bind (s_elem ex (wpS_bind (s_elem ey (s_lt C mx my B.kind ?_))))
 rw [kx,ky] at q; exact q
def Up (κ:KeyKind) (xs:Array Keyed) (lo n:Nat):Prop:=∀ i j,lo≤i→i≤j→j < lo+n→κ.kle (KK κ xs i) (KK κ xs j)
def Dn (κ:KeyKind) (xs:Array Keyed) (lo n:Nat):Prop:=∀ i j,lo≤i→i≤j→j < lo+n→κ.kle (KK κ xs j) (KK κ xs i)
def Kp (lo:Nat) (xs ys:Array Keyed):Prop:=∀ k,k < lo→xs[k]?=ys[k]?
theorem Kp.trans {lo:Nat} {x y z:Array Keyed} (a:Kp lo x y) (b:Kp lo y z):Kp lo x z:=fun k h=>(a k h).trans (b k h)
theorem Kp.refl {lo:Nat} {x:Array Keyed}:Kp lo x x:=fun _ _=>rfl
theorem kp_mirror {xs:Array Keyed} {lo i j:Nat} (hj:j≤xs.size) (hl:lo≤i):Kp lo (mirror xs i j ((j - i) / 2)) xs:=fun k h=>by
 rw [getElem?_mirror_all hj,if_neg (by lia)]
theorem kp_bubble {xs:Array Keyed} {lo src d:Nat} (hs:src < xs.size) (hd:d≤src) (hl:lo≤src - d):Kp lo (bubble xs src d) xs:=fun k h=>by
 rw [getElem?_bubble hs d hd,if_neg (by lia),if_neg (by lia)]
theorem up_one {xs:Array Keyed} {lo:Nat}:Up κ xs lo 1:=fun i j a b c=>by
 have e:i=j:=by lia
 subst e; exact KeyOrd.kle_refl _
theorem Up.snoc {xs:Array Keyed} {lo n:Nat} (h:Up κ xs lo n) (h1:1≤n) (h2:κ.blt (KK κ xs (lo+n)) (KK κ xs (lo+n - 1))=false):Up κ xs lo (n+1):=fun i j a b c=>by
 by_cases hj:j < lo+n
 ·exact h i j a b hj
 ·have e:j=lo+n:=by lia
  subst e
  by_cases hi:i=lo+n
  ·subst hi; exact KeyOrd.kle_refl _
  ·exact KeyOrd.kle_trans (h i (lo+n - 1) a (by lia) (by lia)) h2
theorem Dn.snoc {xs:Array Keyed} {lo n:Nat} (h:Dn κ xs lo n) (h1:1≤n) (h2:κ.kle (KK κ xs (lo+n)) (KK κ xs (lo+n - 1))):Dn κ xs lo (n+1):=fun i j a b c=>by
 by_cases hj:j < lo+n
 ·exact h i j a b hj
 ·have e:j=lo+n:=by lia
  subst e
  by_cases hi:i=lo+n
  ·subst hi; exact KeyOrd.kle_refl _
  ·exact KeyOrd.kle_trans h2 (h i (lo+n - 1) a (by lia) (by lia))
theorem Dn.same {xs ys:Array Keyed} {lo n:Nat} (h:Dn κ xs lo n) (e:∀ k,KK κ ys k=KK κ xs k):Dn κ ys lo n:=fun i j a b c=>by rw [e,e]; exact h i j a b c
theorem Dn.turn {xs:Array Keyed} {lo n:Nat} (h:Dn κ xs lo n) (hs:lo+n≤xs.size):Up κ (mirror xs lo (lo+n) ((lo+n - lo) / 2)) lo n:=fun i j a b c=>by
 rw [KK_mirror hs,KK_mirror hs,if_pos (by lia),if_pos (by lia)]
 exact h _ _ (by lia) (by lia) (by lia)
def Run (κ:KeyKind) (kd:SortKind) (a₀:Array Keyed) (lo nrem:Nat) (st₀:SortSt) (m:Nat) (st:SortSt):Prop :=
 SB kd a₀ st∧pendingOf st=pendingOf st₀∧Kp lo (arrOf st) (arrOf st₀)∧1≤m∧m≤nrem∧Up κ (arrOf st) lo m
theorem s_reverse {i j:Nat} {Q:Unit→SortSt→Prop} (h:Q () (setArr st (mirror (arrOf st) i j ((j - i) / 2)))):wpS (model prog w) A E s (reverseSlice' i j) Q st:=by
 rw [reverseSlice'_eq]; exact wpS_modify h
abbrev C2:=Option (Option Nat) × Nat
abbrev C3:=Option (Option Nat) × Nat × Nat
def clb (lo n nrem:Nat):StateT SortSt Sem C2 :=
 forIn [n:nrem] ((none,n):C2) fun _ c=>ltAt' (lo+c.2) (lo+c.2 - 1) >>= fun x=>match x with
  | some b=>if b=true then pure (ForInStep.done (none,c.2)) else pure (ForInStep.yield (none,c.2+1))
  | _=>pure (ForInStep.done (some none,c.2))
def trn (lo m nrem:Nat):StateT SortSt Sem (Option Nat) :=
 reverseSlice' lo (lo+m) >>= fun _=>clb lo m nrem >>= fun d=>match d.1 with
  | some r=>pure r
  | none=>pure (some d.2)
def fll (lo n nrem:Nat):StateT SortSt Sem C3 :=
 forIn [n:nrem] ((none,n,0):C3) fun _ c=>ltAt' (lo+c.2.1) (lo+c.2.1 - 1) >>= fun x=>match x with
  | some b=>if b=true then
     if c.2.2 > 0 then reverseSlice' (lo+c.2.1 - (c.2.2+1)) (lo+c.2.1) >>= fun _=>pure (ForInStep.yield (none,c.2.1+1,0))
     else pure (ForInStep.yield (none,c.2.1+1,0))
    else ltAt' (lo+c.2.1 - 1) (lo+c.2.1) >>= fun y=>match y with
     | some b'=>if b'=true then pure (ForInStep.done (none,c.2.1,c.2.2)) else pure (ForInStep.yield (none,c.2.1+1,c.2.2+1))
     | _=>pure (ForInStep.done (some none,c.2.1,c.2.2))
  | _=>pure (ForInStep.done (some none,c.2.1,c.2.2))
def fpt (lo n nrem:Nat):StateT SortSt Sem (Option Nat) :=
 liftM (rule "list.sort.descending-run") >>= fun _=>fll lo (n+1) nrem >>= fun c=>match c.1 with
  | some r=>pure r
  | none=>if c.2.2 > 0 then reverseSlice' (lo+c.2.1 - (c.2.2+1)) (lo+c.2.1) >>= fun _=>trn lo c.2.1 nrem else trn lo c.2.1 nrem
theorem cnt_eq (lo nrem:Nat):countRun' lo nrem=clb lo 1 nrem >>= fun c=>match c.1 with
  | some r=>pure r
  | none=>if (c.2 == nrem)=true then pure (some c.2) else
    if c.2 > 1 then ltAt' lo (lo+c.2 - 1) >>= fun x=>match x with
     | some b=>if b=true then pure (some c.2) else reverseSlice' lo (lo+c.2) >>= fun _=>fpt lo c.2 nrem
     | _=>pure none
    else fpt lo c.2 nrem:=by
 have leaf:∀ n,(liftM (rule "list.sort.descending-run") >>= fun _=>forIn [n+1:nrem] ((none,n+1,0):C3) (fun _ c=>ltAt' (lo+c.2.1) (lo+c.2.1 - 1) >>= fun x=>match x with
  | some b=>if b=true then
     if c.2.2 > 0 then reverseSlice' (lo+c.2.1 - (c.2.2+1)) (lo+c.2.1) >>= fun _=>pure (ForInStep.yield (none,c.2.1+1,0))
     else pure (ForInStep.yield (none,c.2.1+1,0))
    else ltAt' (lo+c.2.1 - 1) (lo+c.2.1) >>= fun y=>match y with
     | some b'=>if b'=true then pure (ForInStep.done (none,c.2.1,c.2.2)) else pure (ForInStep.yield (none,c.2.1+1,c.2.2+1))
     | _=>pure (ForInStep.done (some none,c.2.1,c.2.2))
  | _=>pure (ForInStep.done (some none,c.2.1,c.2.2))) >>= fun c=>match c.1 with
  | some r=>pure r
  | none=>if c.2.2 > 0 then reverseSlice' (lo+c.2.1 - (c.2.2+1)) (lo+c.2.1) >>= fun _=>trn lo c.2.1 nrem else trn lo c.2.1 nrem)=fpt lo n nrem:=fun n=>rfl
 rw [countRun'_eq]
 dsimp only
 unfold clb
 congr 1
 funext c
 obtain ⟨r,n⟩:=c
 cases r with
 | some r=>rfl
 | none =>
  dsimp only
  split
  ·rfl
  ·split
   ·congr 1
    funext x
    cases x with
    | none=>rfl
    | some b =>
     dsimp only
     split
     ·rfl
     ·congr 1
      funext _
      rw [← leaf n]
      congr 1; funext _; congr 1; funext c; obtain ⟨r,m,q⟩:=c
      cases r with
      | some r=>rfl
      | none =>
       dsimp only
       unfold trn clb
       split
       ·congr 1; funext _; congr 1; funext _; congr 1; funext d; obtain ⟨r,m⟩:=d; cases r <;> rfl
       ·congr 1; funext _; congr 1; funext d; obtain ⟨r,m⟩:=d; cases r <;> rfl
   ·rw [← leaf n]
    congr 1; funext _; congr 1; funext c; obtain ⟨r,m,q⟩:=c
    cases r with
    | some r=>rfl
    | none =>
     dsimp only
     unfold trn clb
     split
     ·congr 1; funext _; congr 1; funext _; congr 1; funext d; obtain ⟨r,m⟩:=d; cases r <;> rfl
     ·congr 1; funext _; congr 1; funext d; obtain ⟨r,m⟩:=d; cases r <;> rfl
theorem s_clb (C:Cmp prog w A s κ kd a₀) (B:SB kd a₀ st) {lo n nrem:Nat} {Q:C2→SortSt→Prop} (hn:lo+nrem=a₀.size) (h1:1≤n) (h2:n≤nrem) (u:Up κ (arrOf st) lo n)
  (k:∀ m,n≤m→m≤nrem→Up κ (arrOf st) lo m→(m=nrem∨κ.blt (KK κ (arrOf st) (lo+m)) (KK κ (arrOf st) (lo+m - 1))=true)→Q (none,m) st) :
  wpS (model prog w) A E s (clb lo n nrem) Q st:=by
 unfold clb
 refine wpS_forRange (I:=fun x c st'=>st'=st∧c=(none,x)∧Up κ (arrOf st) lo x) ?_ ?_ ⟨rfl,rfl,u⟩
 ·rintro x c st' ha hb ⟨rfl,rfl,u'⟩
  dsimp only
  refine wpS_bind (s_ltAt C B (by lia) (by lia) ?_)
  cases e:κ.blt (KK κ (arrOf st') (lo+x)) (KK κ (arrOf st') (lo+x - 1)) with
  | true=>simp only [if_true]; exact wpS_pure (k x ha (by lia) u' (.inr e))
  | false=>simp only [Bool.false_eq_true,if_false]; exact wpS_pure ⟨rfl,rfl,u'.snoc (by lia) e⟩
 ·rintro c st' ⟨rfl,rfl,u'⟩
  rw [show max n nrem=nrem by lia] at u' ⊢
  exact k nrem h2 (Nat.le_refl _) u' (.inl rfl)
theorem s_trn (C:Cmp prog w A s κ kd a₀) (B:SB kd a₀ st) {st0:SortSt} {lo m nrem:Nat} {Q:Option Nat→SortSt→Prop} (hn:lo+nrem=a₀.size) (p:pendingOf st=pendingOf st0) (kp:Kp lo (arrOf st) (arrOf st0))
  (hm1:1≤m) (hm2:m≤nrem) (d2:Dn κ (arrOf st) lo m) (h:∀ m st',Run κ kd a₀ lo nrem st0 m st'→Q (some m) st'):wpS (model prog w) A E s (trn lo m nrem) Q st:=by
 unfold trn
 have sz:lo+m≤(arrOf st).size:=by rw [B.size]; lia
 refine wpS_bind (s_reverse ?_)
 have B3:SB kd a₀ (setArr st (mirror (arrOf st) lo (lo+m) ((lo+m - lo) / 2))):=B.arr (mirror_perm _ _ _ _)
 refine wpS_bind (s_clb C B3 hn hm1 hm2 (d2.turn sz) fun x hx1 hx2 ux _=>?_)
 exact wpS_pure (h x _ ⟨B3,p,(kp_mirror sz (Nat.le_refl _)).trans kp,by lia,hx2,ux⟩)
theorem s_fpt (C:Cmp prog w A s κ kd a₀) (B:SB kd a₀ st) {st0:SortSt} {lo n nrem:Nat} {Q:Option Nat→SortSt→Prop} (hn:lo+nrem=a₀.size) (p:pendingOf st=pendingOf st0) (kp:Kp lo (arrOf st) (arrOf st0))
  (hn1:1≤n) (hn2:n+1≤nrem) (d:Dn κ (arrOf st) lo (n+1)) (h:∀ m st',Run κ kd a₀ lo nrem st0 m st'→Q (some m) st'):wpS (model prog w) A E s (fpt lo n nrem) Q st:=by
 unfold fpt
 refine wpS_bind (wpS_lift (wpAny_rule ⟨rfl,?_⟩))
 refine wpS_bind ?_
 unfold fll
 refine wpS_mono (wpS_forRange (I:=fun x c st'=>∃ q,c=(none,x,q)∧SB kd a₀ st'∧pendingOf st'=pendingOf st0∧Kp lo (arrOf st') (arrOf st0)∧Dn κ (arrOf st') lo x∧q+1≤x ∧
   ∀ i,lo+x - (q+1)≤i→i < lo+x→KK κ (arrOf st') i=KK κ (arrOf st') (lo+x - 1))
  (Q:=fun c st'=>∃ x q,c=(none,x,q)∧1≤x∧x≤nrem∧SB kd a₀ st'∧pendingOf st'=pendingOf st0∧Kp lo (arrOf st') (arrOf st0)∧Dn κ (arrOf st') lo x∧q+1≤x ∧
   ∀ i,lo+x - (q+1)≤i→i < lo+x→KK κ (arrOf st') i=KK κ (arrOf st') (lo+x - 1)) ?_ ?_ ⟨0,rfl,B,p,kp,d,by lia,fun i a b=>by congr 1; lia⟩) ?_
 ·rintro x c st' ha hb ⟨q,rfl,B',p',k',d',hq,he⟩
  dsimp only
  have sz:lo+x≤(arrOf st').size:=by rw [B'.size]; lia
  refine wpS_bind (s_ltAt C B' (by lia) (by lia) ?_)
  cases e:κ.blt (KK κ (arrOf st') (lo+x)) (KK κ (arrOf st') (lo+x - 1)) with
  | true =>
   simp only [if_true]
   have d2:Dn κ (arrOf st') lo (x+1):=d'.snoc (by lia) (KeyOrd.kle_of_klt e)
   by_cases hq0:q > 0
   ·rw [if_pos hq0]
    refine wpS_bind (s_reverse (wpS_pure ⟨0,rfl,B'.arr (mirror_perm _ _ _ _),p',(kp_mirror sz (by lia)).trans k',d2.same (KK_mirror_equal sz he),by lia,fun i a b=>by congr 1; lia⟩))
   ·rw [if_neg hq0]
    exact wpS_pure ⟨0,rfl,B',p',k',d2,by lia,fun i a b=>by congr 1; lia⟩
  | false =>
   simp only [Bool.false_eq_true,if_false]
   refine wpS_bind (s_ltAt C B' (by lia) (by lia) ?_)
   cases e2:κ.blt (KK κ (arrOf st') (lo+x - 1)) (KK κ (arrOf st') (lo+x)) with
   | true=>simp only [if_true]; exact wpS_pure ⟨x,q,rfl,by lia,by lia,B',p',k',d',hq,he⟩
   | false =>
    simp only [Bool.false_eq_true,if_false]
    have eq1:KK κ (arrOf st') (lo+x)=KK κ (arrOf st') (lo+x - 1):=κ.total _ _ e e2
    refine wpS_pure ⟨q+1,rfl,B',p',k',d'.snoc (by lia) (by rw [eq1]; exact KeyOrd.kle_refl _),by lia,fun i a b=>?_⟩
    rw [show lo+(x+1) - 1=lo+x by lia]
    by_cases hi:i=lo+x
    ·rw [hi]
    ·rw [eq1]; exact he i (by lia) (by lia)
 ·rintro c st' ⟨q,rfl,B',p',k',d',hq,he⟩
  rw [show max (n+1) nrem=nrem by lia] at d' hq he ⊢
  exact ⟨nrem,q,rfl,by lia,Nat.le_refl _,B',p',k',d',hq,he⟩
 ·rintro c st' ⟨x,q,rfl,hx1,hx2,B',p',k',d',hq,he⟩
  dsimp only
  have sz:lo+x≤(arrOf st').size:=by rw [B'.size]; lia
  by_cases hq0:q > 0
  ·rw [if_pos hq0]
   exact wpS_bind (s_reverse (s_trn C (B'.arr (mirror_perm _ _ _ _)) hn p' ((kp_mirror sz (by lia)).trans k') hx1 hx2 (d'.same (KK_mirror_equal sz he)) h))
  ·rw [if_neg hq0]
   exact s_trn C B' hn p' k' hx1 hx2 d' h
theorem s_count (C:Cmp prog w A s κ kd a₀) (B:SB kd a₀ st) {lo nrem:Nat} {Q:Option Nat→SortSt→Prop} (hn:lo+nrem=a₀.size) (h1:1≤nrem)
  (h:∀ m st',Run κ kd a₀ lo nrem st m st'→Q (some m) st'):wpS (model prog w) A E s (countRun' lo nrem) Q st:=by
 rw [cnt_eq]
 refine wpS_bind (s_clb C B hn (Nat.le_refl _) h1 up_one fun n hn1 hn2 u or=>?_)
 dsimp only
 by_cases hnn:n=nrem
 ·rw [if_pos (by simpa using hnn)]
  exact wpS_pure (h n st ⟨B,rfl,Kp.refl,hn1,hn2,u⟩)
 ·rw [if_neg (by simpa using hnn)]
  have lt:=or.resolve_left hnn
  by_cases hg:n > 1
  ·rw [if_pos hg]
   refine wpS_bind (s_ltAt C B (by lia) (by lia) ?_)
   cases e:κ.blt (KK κ (arrOf st) lo) (KK κ (arrOf st) (lo+n - 1)) with
   | true=>simp only [if_true]; exact wpS_pure (h n st ⟨B,rfl,Kp.refl,hn1,hn2,u⟩)
   | false =>
    simp only [Bool.false_eq_true,if_false]
    have sz:lo+n≤(arrOf st).size:=by rw [B.size]; lia
    have all:∀ k,lo≤k→k < lo+n→KK κ (arrOf st) k=KK κ (arrOf st) (lo+n - 1):=fun k a b =>
     KeyOrd.kle_antisymm (u k (lo+n - 1) a (by lia) (by lia)) (KeyOrd.kle_trans e (u lo k (Nat.le_refl _) a b))
    refine wpS_bind (s_reverse (s_fpt C (B.arr (mirror_perm _ _ _ _)) (st0:=st) hn rfl (kp_mirror sz (Nat.le_refl _)) hn1 (by lia) ?_ h))
    refine Dn.same (xs:=arrOf st) (Dn.snoc (fun i j a b c=>?_) hn1 (KeyOrd.kle_of_klt lt)) (KK_mirror_equal sz all)
    rw [all i a (by lia),all j (by lia) c]; exact KeyOrd.kle_refl _
  ·rw [if_neg hg]
   have e1:n=1:=by lia
   subst e1
   refine s_fpt C B hn rfl Kp.refl (Nat.le_refl _) (by lia) (Dn.snoc (fun i j a b c=>?_) (Nat.le_refl _) (KeyOrd.kle_of_klt lt)) h
   have e:i=j:=by lia
   subst e; exact KeyOrd.kle_refl _
end
end TS
end
section
namespace TS
open PySem PyProof.Rows
section
variable {prog:Program} {w:World} {A:Around} {E:Value→Shared→Prop} {s:Shared} {κ:KeyKind} {kd:SortKind} {a₀:Array Keyed} {st:SortSt}
theorem s_bin (C:Cmp prog w A s κ kd a₀) (B:SB kd a₀ st) {lo n ok:Nat} {Q:Bool→SortSt→Prop} (hn:lo+n≤a₀.size) (hok:ok≤n) (h1:1≤ok) (u:Up κ (arrOf st) lo ok)
  (h:∀ st',SB kd a₀ st'→pendingOf st'=pendingOf st→Kp lo (arrOf st') (arrOf st)→Up κ (arrOf st') lo n→Q true st'):wpS (model prog w) A E s (binarySort' lo n ok) Q st:=by
 rw [binarySort'_eq]
 refine wpS_bind (wpS_mono (wpS_forRange (I:=fun k c st'=>c=(none,())∧SB kd a₀ st'∧pendingOf st'=pendingOf st∧Kp lo (arrOf st') (arrOf st)∧Up κ (arrOf st') lo (min k n))
  (Q:=fun c st'=>c=(none,())∧SB kd a₀ st'∧pendingOf st'=pendingOf st∧Kp lo (arrOf st') (arrOf st)∧Up κ (arrOf st') lo n) ?_ ?_ ⟨rfl,B,rfl,Kp.refl,?_⟩) ?_)
 ·rintro k c st' ha hb ⟨rfl,B',p',k',u'⟩
  rw [show min k n=k by lia] at u'
  refine wpS_bind (wpS_mono (wpS_forRange (I:=fun x c st2=>st2=st'∧∃ l r,c=(none,l,r)∧l≤r∧r≤k∧r - l≤k - x ∧
    (∀ i,i < l→κ.kle (KK κ (arrOf st') (lo+i)) (KK κ (arrOf st') (lo+k)))∧∀ i,r≤i→i < k→κ.klt (KK κ (arrOf st') (lo+k)) (KK κ (arrOf st') (lo+i)))
   (Q:=fun c st2=>st2=st'∧∃ l r,c=(none,l,r)∧l≤k ∧
    (∀ i,i < l→κ.kle (KK κ (arrOf st') (lo+i)) (KK κ (arrOf st') (lo+k)))∧∀ i,l≤i→i < k→κ.klt (KK κ (arrOf st') (lo+k)) (KK κ (arrOf st') (lo+i))) ?_ ?_
   ⟨rfl,0,k,rfl,by lia,by lia,by lia,fun i hi=>by lia,fun i a b=>by lia⟩) ?_)
  ·rintro x c st2 _ hx ⟨rfl,l,r,rfl,h1',h2',h3',a,b⟩
   dsimp only
   by_cases hg:l ≥ r
   ·rw [if_pos hg]
    have e:l=r:=by lia
    subst e
    exact wpS_pure ⟨rfl,l,l,rfl,h2',a,b⟩
   ·rw [if_neg hg]
    refine wpS_bind (s_ltAt C B' (by lia) (by lia) ?_)
    cases e:κ.blt (KK κ (arrOf st2) (lo+k)) (KK κ (arrOf st2) (lo+(l+r) / 2)) with
    | true =>
     simp only [if_true]
     refine wpS_pure ⟨rfl,l,(l+r) / 2,rfl,by lia,by lia,by lia,a,fun i c d=>?_⟩
     exact KeyOrd.klt_of_klt_of_kle e (u' _ _ (by lia) (by lia) (by lia))
    | false =>
     simp only [Bool.false_eq_true,if_false]
     refine wpS_pure ⟨rfl,(l+r) / 2+1,r,rfl,by lia,by lia,by lia,fun i c=>?_,b⟩
     exact KeyOrd.kle_trans (u' (lo+i) (lo+(l+r) / 2) (by lia) (by lia) (by lia)) (show κ.kle _ _ from e)
  ·rintro c st2 ⟨rfl,l,r,rfl,h1',h2',h3',a,b⟩
   have e:l=r:=by lia
   subst e
   exact ⟨rfl,l,l,rfl,h2',a,b⟩
  ·rintro c st2 ⟨rfl,l,r,rfl,hl,a,b⟩
   show wpS _ _ _ _ (moveDown' (lo+k) (lo+l) >>= fun _=>pure (ForInStep.yield (none,()))) _ _
   rw [moveDown'_eq]
   have sz:lo+k < (arrOf st2).size:=by rw [B'.size]; lia
   refine wpS_bind (wpS_modify (wpS_pure ⟨rfl,B'.arr (bubble_perm _ _ _),p',(kp_bubble sz (by lia) (by lia)).trans k',?_⟩))
   rw [show min (k+1) n=k+1 by lia]
   intro i j hi hij hj
   show κ.kle (KK κ (bubble (arrOf st2) (lo+k) (lo+k - (lo+l))) i) (KK κ (bubble (arrOf st2) (lo+k) (lo+k - (lo+l))) j)
   rw [KK_bubble sz (by lia),KK_bubble sz (by lia),show lo+k - (lo+k - (lo+l))=lo+l by lia]
   have a':∀ i,lo≤i→i < lo+l→κ.kle (KK κ (arrOf st2) i) (KK κ (arrOf st2) (lo+k)):=fun i c d=>by
    have:=a (i - lo) (by lia)
    rwa [show lo+(i - lo)=i by lia] at this
   have b':∀ i,lo+l≤i→i < lo+k→κ.kle (KK κ (arrOf st2) (lo+k)) (KK κ (arrOf st2) i):=fun i c d=>by
    have:=KeyOrd.kle_of_klt (b (i - lo) (by lia) (by lia))
    rwa [show lo+(i - lo)=i by lia] at this
   repeat' split
   all_goals first
    | (exfalso; lia)
    | exact KeyOrd.kle_refl _
    | exact a' _ (by lia) (by lia)
    | exact b' _ (by lia) (by lia)
    | exact u' _ _ (by lia) (by lia) (by lia)
 ·rintro c st' ⟨hc,B',p',k',u'⟩
  refine ⟨hc,B',p',k',?_⟩
  rwa [show min (max (max ok 1) n) n=n by lia] at u'
 ·rw [show min (max ok 1) n=ok by lia]; exact u
 ·rintro c st' ⟨rfl,B',p',k',u'⟩
  exact wpS_pure (h st' B' p' k' u')
def bey (κ:KeyKind) (left:Bool) (key:Keyed) (p:Keyed):Bool:=if left then Lb κ p key else !Lb κ key p
theorem bey_mono {left:Bool} {key p q:Keyed} (h:bey κ left key q=true) (l:Le κ p q):bey κ left key p=true:=by
 unfold bey at *
 cases left with
 | true=>simp only [if_true] at *; exact le_lt l h
 | false =>
  simp only [Bool.false_eq_true,if_false,Bool.not_eq_true',Bool.not_eq_eq_eq_not,Bool.not_true] at *
  exact Le.trans (p:=p) l h
theorem s_gal (C:Cmp prog w A s κ kd a₀) (hk:kindOf st=kd) {left:Bool} {key:Keyed} {arr:Array Keyed} {base n hint:Nat} {Q:Option Nat→SortSt→Prop} (hkey:key∈a₀.toList)
  (f:Nat→Keyed) (hf:∀ i,i < n→arr[base+i]?=some (f i)∧f i∈a₀.toList) (up:∀ i j,i≤j→j < n→Le κ (f i) (f j)) (hh:hint < n)
  (h:∀ k,k≤n→(∀ i,i < k→bey κ left key (f i)=true)→(∀ i,k≤i→i < n→bey κ left key (f i)=false)→Q (some k) st):wpS (model prog w) A E s (gal left key arr base n hint) Q st:=by
 have one:∀ i,i < n→∀ R:Option Bool→SortSt→Prop,R (some (bey κ left key (f i))) st→wpS (model prog w) A E s (elem' arr (base+i) >>= fun x=>if left=true then lt' x key else lt' key x >>= fun r=>pure (Option.map (fun b=>!b) r)) R st:=by
  intro i hi R r
  obtain ⟨e,m⟩:=hf i hi
  refine wpS_bind (s_elem e ?_)
  cases left with
  | true=>simp only [if_true]; exact s_lt C m hkey hk r
  | false=>simp only [Bool.false_eq_true,if_false]; exact wpS_bind (s_lt C hkey m hk (wpS_pure r))
 have dn:∀ i j,i≤j→j < n→bey κ left key (f j)=true→bey κ left key (f i)=true:=fun i j a b c=>bey_mono c (up i j a b)
 have no:∀ i j,i≤j→j < n→bey κ left key (f i)=false→bey κ left key (f j)=false:=fun i j a b c=>by
  cases e:bey κ left key (f j) with
  | false=>rfl
  | true=>rw [dn i j a b e] at c; cases c
 show wpS (model prog w) A E s (gal left key arr base n hint) Q st
 refine wpS_bind (one hint hh _ ?_)
 dsimp only
 cases e:bey κ left key (f hint) with
 | true =>
  simp only [if_true]
  refine wpS_bind (wpS_mono (wpS_forRange (I:=fun x c st'=>st'=st∧∃ la o,c=(none,la,o)∧la < o∧x < o∧hint+la < n∧bey κ left key (f (hint+la))=true)
   (Q:=fun c st'=>st'=st∧∃ la o,c=(none,la,o)∧la < o∧hint+la < n∧bey κ left key (f (hint+la))=true∧(n - hint≤o∨bey κ left key (f (hint+o))=false)) ?_ ?_ ⟨rfl,0,1,rfl,by lia,by lia,by lia,e⟩) ?_)
  ·rintro x c st' _ hx ⟨rfl,la,o,rfl,h1,h2,h3,h4⟩
   dsimp only
   by_cases hg:o ≥ n - hint
   ·rw [if_pos hg]
    exact wpS_pure ⟨rfl,la,o,rfl,h1,h3,h4,.inl hg⟩
   ·rw [if_neg hg]
    refine wpS_bind (one _ (by lia) _ ?_)
    cases e2:bey κ left key (f (hint+o)) with
    | true =>
     simp only [Bool.not_true,Bool.false_eq_true,if_false]
     exact wpS_pure ⟨rfl,o,2 * o+1,rfl,by lia,by lia,by lia,e2⟩
    | false =>
     simp only [Bool.not_false,if_true]
     exact wpS_pure ⟨rfl,la,o,rfl,h1,h3,h4,.inr e2⟩
  ·rintro c st' ⟨rfl,la,o,rfl,h1,h2,h3,h4⟩
   exact ⟨rfl,la,o,rfl,h1,h3,h4,.inl (by lia)⟩
  ·rintro c st' ⟨rfl,la,o,rfl,h1,h3,h4,h5⟩
   have q1:hint+la+1≤hint+min o (n - hint):=by lia
   have q2:hint+min o (n - hint)≤n:=by lia
   have q3:∀ i,i < hint+la+1→bey κ left key (f i)=true:=fun i a=>dn i _ (by lia) h3 h4
   have q4:∀ i,hint+min o (n - hint)≤i→i < n→bey κ left key (f i)=false:=fun i a b=>by
    rcases h5 with h5 | h5
    ·lia
    ·exact no _ i (by lia) b h5
   dsimp only
   refine wpS_bind (wpS_mono (wpS_forRange (I:=fun x c z=>z=st'∧∃ lo hi,c=(none,lo,hi)∧lo≤hi∧hi≤n∧hi - lo≤n - x∧(∀ i,i < lo→bey κ left key (f i)=true)∧∀ i,hi≤i→i < n→bey κ left key (f i)=false)
    (Q:=fun c z=>z=st'∧∃ k,c=(none,k,k)∧k≤n∧(∀ i,i < k→bey κ left key (f i)=true)∧∀ i,k≤i→i < n→bey κ left key (f i)=false) ?_ ?_ ⟨rfl,_,_,rfl,q1,q2,by lia,q3,q4⟩) ?_)
   ·rintro x c st2 _ hx ⟨rfl,lo,hi,rfl,h1,h2,h3,a,b⟩
    dsimp only
    by_cases hg:lo ≥ hi
    ·rw [if_pos hg]
     have e:lo=hi:=by lia
     subst e
     exact wpS_pure ⟨rfl,lo,rfl,h2,a,b⟩
    ·rw [if_neg hg]
     refine wpS_bind (one _ (by lia) _ ?_)
     cases e:bey κ left key (f (lo+(hi - lo) / 2)) with
     | true =>
      simp only [if_true]
      exact wpS_pure ⟨rfl,_,_,rfl,by lia,by lia,by lia,fun i c=>dn i _ (by lia) (by lia) e,b⟩
     | false =>
      simp only [Bool.false_eq_true,if_false]
      exact wpS_pure ⟨rfl,_,_,rfl,by lia,by lia,by lia,a,fun i c d=>no _ i c d e⟩
   ·rintro c st2 ⟨rfl,lo,hi,rfl,h1,h2,h3,a,b⟩
    have e:lo=hi:=by lia
    subst e
    exact ⟨rfl,lo,rfl,h2,a,b⟩
   ·rintro c st2 ⟨rfl,k,rfl,hk,a,b⟩
    exact wpS_pure (h k hk a b)
 | false =>
  simp only [Bool.false_eq_true,if_false]
  refine wpS_bind (wpS_mono (wpS_forRange (I:=fun x c st'=>st'=st∧∃ la o,c=(none,la,o)∧la < o∧x < o∧la≤hint∧bey κ left key (f (hint - la))=false)
   (Q:=fun c st'=>st'=st∧∃ la o,c=(none,la,o)∧la < o∧la≤hint∧bey κ left key (f (hint - la))=false∧(hint+1≤o∨bey κ left key (f (hint - o))=true)) ?_ ?_ ⟨rfl,0,1,rfl,by lia,by lia,by lia,e⟩) ?_)
  ·rintro x c st' _ hx ⟨rfl,la,o,rfl,h1,h2,h3,h4⟩
   dsimp only
   by_cases hg:o ≥ hint+1
   ·rw [if_pos hg]
    exact wpS_pure ⟨rfl,la,o,rfl,h1,h3,h4,.inl hg⟩
   ·rw [if_neg hg]
    refine wpS_bind (one _ (by lia) _ ?_)
    cases e2:bey κ left key (f (hint - o)) with
    | true =>
     simp only [if_true]
     exact wpS_pure ⟨rfl,la,o,rfl,h1,h3,h4,.inr e2⟩
    | false =>
     simp only [Bool.false_eq_true,if_false]
     exact wpS_pure ⟨rfl,o,2 * o+1,rfl,by lia,by lia,by lia,e2⟩
  ·rintro c st' ⟨rfl,la,o,rfl,h1,h2,h3,h4⟩
   exact ⟨rfl,la,o,rfl,h1,h3,h4,.inl (by lia)⟩
  ·rintro c st' ⟨rfl,la,o,rfl,h1,h3,h4,h5⟩
   have q1:hint+1 - min o (hint+1)≤hint - la:=by lia
   have q2:hint - la≤n:=by lia
   have q3:∀ i,i < hint+1 - min o (hint+1)→bey κ left key (f i)=true:=fun i a=>by
    rcases h5 with h5 | h5
    ·lia
    ·exact dn i _ (by lia) (by lia) h5
   have q4:∀ i,hint - la≤i→i < n→bey κ left key (f i)=false:=fun i a b=>no _ i a b h4
   dsimp only
   refine wpS_bind (wpS_mono (wpS_forRange (I:=fun x c z=>z=st'∧∃ lo hi,c=(none,lo,hi)∧lo≤hi∧hi≤n∧hi - lo≤n - x∧(∀ i,i < lo→bey κ left key (f i)=true)∧∀ i,hi≤i→i < n→bey κ left key (f i)=false)
    (Q:=fun c z=>z=st'∧∃ k,c=(none,k,k)∧k≤n∧(∀ i,i < k→bey κ left key (f i)=true)∧∀ i,k≤i→i < n→bey κ left key (f i)=false) ?_ ?_ ⟨rfl,_,_,rfl,q1,q2,by lia,q3,q4⟩) ?_)
   ·rintro x c st2 _ hx ⟨rfl,lo,hi,rfl,h1,h2,h3,a,b⟩
    dsimp only
    by_cases hg:lo ≥ hi
    ·rw [if_pos hg]
     have e:lo=hi:=by lia
     subst e
     exact wpS_pure ⟨rfl,lo,rfl,h2,a,b⟩
    ·rw [if_neg hg]
     refine wpS_bind (one _ (by lia) _ ?_)
     cases e:bey κ left key (f (lo+(hi - lo) / 2)) with
     | true =>
      simp only [if_true]
      exact wpS_pure ⟨rfl,_,_,rfl,by lia,by lia,by lia,fun i c=>dn i _ (by lia) (by lia) e,b⟩
     | false =>
      simp only [Bool.false_eq_true,if_false]
      exact wpS_pure ⟨rfl,_,_,rfl,by lia,by lia,by lia,a,fun i c d=>no _ i c d e⟩
   ·rintro c st2 ⟨rfl,lo,hi,rfl,h1,h2,h3,a,b⟩
    have e:lo=hi:=by lia
    subst e
    exact ⟨rfl,lo,rfl,h2,a,b⟩
   ·rintro c st2 ⟨rfl,k,rfl,hk,a,b⟩
    exact wpS_pure (h k hk a b)
end
end TS
end
section
namespace TS
open PySem PyProof.Rows
structure Wv (κ:KeyKind) (a b out:List Keyed) (ia ib:Nat):Prop where
 perm:out.Perm (a.take ia++b.take ib)
 srt:out.Pairwise (Le κ)
 la:∀ x∈out,∀ y∈a.drop ia,Le κ x y
 lb:∀ x∈out,∀ y∈b.drop ib,Le κ x y
def Pst (κ:KeyKind) (a b r:List Keyed):Prop:=r.Perm (a++b)∧r.Pairwise (Le κ)
section
variable {κ:KeyKind} {a b out:List Keyed} {ia ib:Nat}
theorem Wv.swap (h:Wv κ a b out ia ib):Wv κ b a out ib ia:=⟨h.perm.trans List.perm_append_comm,h.srt,h.lb,h.la⟩
theorem Wv.app (h:Wv κ a b out ia ib) (sb:b.Pairwise (Le κ)) (k:Nat) (hle:∀ x∈(b.drop ib).take k,∀ y∈a.drop ia,Le κ x y):Wv κ a b (out++(b.drop ib).take k) ia (ib+k):=by
 have sd:(b.drop ib).Pairwise (Le κ):=sb.sublist (List.drop_sublist _ _)
 have e:b.drop ib=(b.drop ib).take k++b.drop (ib+k):=by rw [← List.drop_drop,List.take_append_drop]
 have sd2:((b.drop ib).take k++b.drop (ib+k)).Pairwise (Le κ):=e ▸ sd
 refine ⟨?_,?_,?_,?_⟩
 ·have e2:b.take (ib+k)=b.take ib++(b.drop ib).take k:=List.take_add
  rw [e2,← List.append_assoc]
  exact h.perm.append_right _
 ·refine List.pairwise_append.mpr ⟨h.srt,(List.pairwise_append.mp sd2).1,fun x hx y hy=>h.lb x hx y (List.mem_of_mem_take hy)⟩
 ·intro x hx y hy
  rcases List.mem_append.mp hx with hx | hx
  ·exact h.la x hx y hy
  ·exact hle x hx y hy
 ·intro x hx y hy
  rcases List.mem_append.mp hx with hx | hx
  ·exact h.lb x hx y (by rw [e]; exact List.mem_append_right _ hy)
  ·exact (List.pairwise_append.mp sd2).2.2 x hx y hy
theorem take1 {l:List Keyed} {i:Nat} {p:Keyed} (h:l[i]?=some p):(l.drop i).take 1=[p]:=by
 obtain ⟨hi,e⟩:=List.getElem?_eq_some_iff.mp h
 rw [List.drop_eq_getElem_cons hi,e]; rfl
theorem mem_drop_at {l:List Keyed} {i:Nat} {x:Keyed} (h:x∈l.drop i):∃ j,i≤j∧l[j]?=some x:=by
 obtain ⟨j,hj,e⟩:=List.getElem_of_mem h
 refine ⟨i+j,by lia,?_⟩
 rw [List.getElem_drop] at e
 rw [← e]
 rw [List.length_drop] at hj
 exact List.getElem?_eq_getElem (by lia)
theorem srt_at (sa:a.Pairwise (Le κ)) {i j:Nat} {x y:Keyed} (hx:a[i]?=some x) (hy:a[j]?=some y) (h:i≤j):Le κ x y:=by
 obtain ⟨hi,ex⟩:=List.getElem?_eq_some_iff.mp hx
 obtain ⟨hj,ey⟩:=List.getElem?_eq_some_iff.mp hy
 rcases Nat.lt_or_ge i j with q | q
 ·have:=List.pairwise_iff_getElem.mp sa i j hi hj q
  rw [ex,ey] at this; exact this
 ·have e:i=j:=by lia
  subst e
  rw [ex] at ey; subst ey; exact Le.refl _
theorem Wv.push (h:Wv κ a b out ia ib) (sb:b.Pairwise (Le κ)) {p:Keyed} (hp:b[ib]?=some p) (hle:∀ y∈a.drop ia,Le κ p y):Wv κ a b (out++[p]) ia (ib+1):=by
 have:=h.app sb 1 (by rw [take1 hp]; intro x hx y hy; rw [List.mem_singleton.mp hx]; exact hle y hy)
 rwa [take1 hp] at this
theorem Wv.cat (h:Wv κ a b out ia ib) {rest:List Keyed} (hp:rest.Perm (a.drop ia++b.drop ib)) (hs:rest.Pairwise (Le κ)):Pst κ a b (out++rest):=by
 refine ⟨?_,List.pairwise_append.mpr ⟨h.srt,hs,fun x hx y hy=>?_⟩⟩
 ·have p1:(out++rest).Perm ((a.take ia++b.take ib)++(a.drop ia++b.drop ib)):=h.perm.append hp
  have p2:((a.take ia++b.take ib)++(a.drop ia++b.drop ib)).Perm ((a.take ia++a.drop ia)++(b.take ib++b.drop ib)):=by
   rw [List.append_assoc,List.append_assoc]
   refine List.Perm.append_left _ ?_
   rw [← List.append_assoc,← List.append_assoc]
   exact List.perm_append_comm.append_right _
  rw [List.take_append_drop,List.take_append_drop] at p2
  exact p1.trans p2
 ·rcases List.mem_append.mp (hp.mem_iff.mp hy) with q | q
  ·exact h.la x hx y q
  ·exact h.lb x hx y q
theorem Wv.done (h:Wv κ a b out ia ib) (sa:a.Pairwise (Le κ)) (sb:b.Pairwise (Le κ)) (hz:a.length≤ia∨b.length≤ib):Pst κ a b (out++a.drop ia++b.drop ib):=by
 rw [List.append_assoc]
 refine h.cat (List.Perm.refl _) ?_
 rcases hz with z | z
 ·rw [List.drop_eq_nil_of_le z]; exact sb.sublist (List.drop_sublist _ _)
 ·rw [List.drop_eq_nil_of_le z,List.append_nil]; exact sa.sublist (List.drop_sublist _ _)
theorem Wv.last (h:Wv κ a b out ia ib) (sb:b.Pairwise (Le κ)) (hz:ia+1=a.length) (hl:∀ y∈b,∀ x,a[a.length - 1]?=some x→Le κ y x):Pst κ a b (out++b.drop ib++a.drop ia):=by
 rw [List.append_assoc]
 have ⟨x,ex⟩:∃ x,a[ia]?=some x:=⟨a[ia],List.getElem?_eq_getElem (by lia)⟩
 have e:a.drop ia=[x]:=by
  obtain ⟨hi,e⟩:=List.getElem?_eq_some_iff.mp ex
  rw [List.drop_eq_getElem_cons hi,e,List.drop_eq_nil_of_le (by lia)]
 refine h.cat List.perm_append_comm ?_
 rw [e]
 refine List.pairwise_append.mpr ⟨sb.sublist (List.drop_sublist _ _),List.pairwise_singleton _ _,fun y hy z hz=>?_⟩
 rw [List.mem_singleton.mp hz]
 exact hl y (List.mem_of_mem_drop hy) x (by rw [show a.length - 1=ia by lia]; exact ex)
end
def St0 (st st':SortSt):Prop:=kindOf st'=kindOf st∧arrOf st'=arrOf st∧pendingOf st'=pendingOf st∧failedOf st'=failedOf st
theorem St0.refl (st:SortSt):St0 st st:=⟨rfl,rfl,rfl,rfl⟩
section
variable {prog:Program} {w:World} {A:Around} {E:Value→Shared→Prop} {s:Shared} {κ:KeyKind} {kd:SortKind} {a₀:Array Keyed} {st:SortSt}
theorem s_setG {g:Nat} {st1:SortSt} {Q:Unit→SortSt→Prop} (hs:St0 st st1) (h:∀ st',St0 st st'→Q () st'):wpS (model prog w) A E s (setG g) Q st1:=by
 refine wpS_modify (h _ ?_)
 exact ⟨hs.1,hs.2.1,hs.2.2.1,hs.2.2.2⟩
theorem ex_list2 (a:List Keyed) (i k:Nat):(a.toArray.extract i (i+k)).toList=(a.drop i).take k:=by simp
theorem s_galL (C:Cmp prog w A s κ kd a₀) (hk:kindOf st=kd) {left:Bool} {key:Keyed} {l:List Keyed} {base n hint:Nat} {Q:Option Nat→SortSt→Prop} (hkey:key∈a₀.toList)
  (hm:∀ p∈l,p∈a₀.toList) (hs:((l.drop base).take n).Pairwise (Le κ)) (hb:base+n≤l.length) (hh:hint < n)
  (h:∀ k,k≤n→(∀ x∈(l.drop base).take k,bey κ left key x=true)→(∀ x∈((l.drop base).take n).drop k,bey κ left key x=false)→Q (some k) st) :
  wpS (model prog w) A E s (gal left key l.toArray base n hint) Q st:=by
 have at':∀ i,i < n→∃ p,l[base+i]?=some p:=fun i hi=>⟨l[base+i],List.getElem?_eq_getElem (by lia)⟩
 have seg:∀ i,i < n→((l.drop base).take n)[i]?=l[base+i]?:=fun i hi=>by rw [List.getElem?_take,if_pos hi,List.getElem?_drop]
 have fe:∀ i,i < n→l[base+i]?=some ((l[base+i]?).getD key):=fun i hi=>by
  obtain ⟨p,e⟩:=at' i hi; rw [e]; rfl
 refine s_gal C hk hkey (fun i=>(l[base+i]?).getD key) (fun i hi=>⟨?_,?_⟩) (fun i j hij hj=>?_) hh fun k hk1 hk2 hk3=>h k hk1 (fun x hx=>?_) fun x hx=>?_
 ·rw [List.getElem?_toArray]; exact fe i hi
 ·exact hm _ (List.mem_of_getElem? (fe i hi))
 ·exact srt_at hs ((seg i (by lia)).trans (fe i (by lia))) ((seg j hj).trans (fe j hj)) hij
 ·obtain ⟨i,hi,e⟩:=List.getElem_of_mem hx
  have hi':i < k:=by rw [List.length_take] at hi; lia
  have e2:l[base+i]?=some x:=by
   rw [List.getElem_take,List.getElem_drop] at e
   rw [← e]; exact List.getElem?_eq_getElem (by lia)
  have:=hk2 i hi'
  rw [e2] at this; exact this
 ·obtain ⟨j,hj,e⟩:=mem_drop_at hx
  have hjn:j < n:=by
   have:=(List.getElem?_eq_some_iff.mp e).1
   rw [List.length_take] at this; lia
  rw [seg j hjn] at e
  have:=hk3 j hj hjn
  rw [e] at this; exact this
theorem s_mLo {a b:List Keyed} {Q:Array Keyed→SortSt→Prop} (C:Cmp prog w A s κ kd a₀) (hk:kindOf st=kd) (ha:∀ p∈a,p∈a₀.toList) (hb:∀ p∈b,p∈a₀.toList)
  (sa:a.Pairwise (Le κ)) (sb:b.Pairwise (Le κ)) (na:0 < a.length) (nb:0 < b.length) (h0:∀ p,b[0]?=some p→∀ x∈a,Le κ p x) (hl:∀ y∈b,∀ x,a[a.length - 1]?=some x→Le κ y x)
  (h:∀ r st',St0 st st'→Pst κ a b r.toList→Q r st'):wpS (model prog w) A E s (mLo a.toArray b.toArray) Q st:=by
 have atA:∀ i,i < a.length→∃ p,a.toArray[i]?=some p∧a[i]?=some p∧p∈a₀.toList:=fun i hi=>⟨a[i],by simp [hi],by simp [hi],ha _ (List.getElem_mem hi)⟩
 have atB:∀ i,i < b.length→∃ p,b.toArray[i]?=some p∧b[i]?=some p∧p∈a₀.toList:=fun i hi=>⟨b[i],by simp [hi],by simp [hi],hb _ (List.getElem_mem hi)⟩
 have fD:∀ (out:Array Keyed) ia ib,(out++a.toArray.extract ia++b.toArray.extract ib).toList=out.toList++a.drop ia++b.drop ib:=fun out ia ib=>by simp [List.take_of_length_le]
 have fL:∀ (out:Array Keyed) ia ib,(out++b.toArray.extract ib++a.toArray.extract ia).toList=out.toList++b.drop ib++a.drop ia:=fun out ia ib=>by simp [List.take_of_length_le]
 have szA:a.toArray.size=a.length:=by simp
 have szB:b.toArray.size=b.length:=by simp
 obtain ⟨b0,eb,eb',mb⟩:=atB 0 nb
 have w0:Wv κ a b [b0] 0 1:=by
  have e:=take1 eb'
  rw [List.drop_zero] at e
  refine ⟨by rw [e]; exact List.Perm.refl _,List.pairwise_singleton _ _,fun x hx y hy=>?_,fun x hx y hy=>?_⟩
  ·rw [List.mem_singleton.mp hx]; exact h0 _ eb' y (by simpa using hy)
  ·rw [List.mem_singleton.mp hx]
   obtain ⟨j,hj,ej⟩:=mem_drop_at hy
   exact srt_at sb eb' ej (by lia)
 refine wpS_bind (m:=liftM (rule _)) (wpS_lift (wpAny_rule ⟨rfl,?_⟩))
 dsimp only
 refine wpS_bind (s_elem eb ?_)
 by_cases g1:1=b.length
 ·rw [if_pos (by rw [szB]; simpa using g1)]
  refine wpS_pure (h _ _ (St0.refl _) ?_)
  rw [fD]; exact w0.done sa sb (.inr (by lia))
 rw [if_neg (by rw [szB]; simpa using g1)]
 by_cases g2:0+1=a.length
 ·rw [if_pos (by rw [szA]; simpa using g2)]
  refine wpS_pure (h _ _ (St0.refl _) ?_)
  rw [fL]; exact w0.last sb g2 hl
 rw [if_neg (by rw [szA]; simpa using g2)]
 refine wpS_bind (wpS_get ?_)
 refine wpS_bind (wpS_mono (wpS_forRange (I:=fun x c st'=>∃ out ia ib g,c=(none,out,ia,ib,g)∧Wv κ a b out.toList ia ib∧ia+1 < a.length∧ib < b.length∧x < ia+ib∧St0 st st')
  (Q:=fun c st'=>∃ r z,c=(some r,z)∧Pst κ a b r.toList∧St0 st st') ?_ ?_ ⟨_,0,1,_,rfl,w0,by lia,by lia,by lia,St0.refl _⟩) ?_)
 ·rintro x c st1 _ hx ⟨out,ia,ib,g,rfl,W,hia,hib,hm,hs⟩
  dsimp only
  refine wpS_bind (wpS_mono (wpS_forRange (I:=fun y c st'=>∃ out' ia' ib' ac bc,c=(none,out',ia',ib',ac,bc)∧Wv κ a b out'.toList ia' ib'∧ia'+1 < a.length∧ib' < b.length∧y+ia+ib≤ia'+ib'∧St0 st st')
   (Q:=fun c st'=>St0 st st'∧((∃ r z,c=(some r,z)∧Pst κ a b r.toList)∨∃ out' ia' ib' ac bc,c=(none,out',ia',ib',ac,bc)∧Wv κ a b out'.toList ia' ib'∧ia'+1 < a.length∧ib' < b.length∧1+ia+ib≤ia'+ib')) ?_ ?_
   ⟨out,ia,ib,0,0,rfl,W,hia,hib,by lia,hs⟩) ?_)
  ·rintro y c st2 _ hy ⟨out',ia',ib',ac,bc,rfl,W',hia',hib',hm',hs'⟩
   dsimp only
   obtain ⟨p,ep,ep',mp⟩:=atB ib' hib'
   obtain ⟨q,eq,eq',mq⟩:=atA ia' (by lia)
   refine wpS_bind (s_elem ep (wpS_bind (s_elem eq (wpS_bind (s_lt C mp mq (hs'.1.trans hk) ?_)))))
   cases e:Lb κ p q with
   | true =>
    simp only [if_true]
    refine wpS_bind (s_elem ep ?_)
    have W2:Wv κ a b (out'.push p).toList ia' (ib'+1):=by
     rw [Array.toList_push]
     refine W'.push sb ep' fun y hy=>?_
     obtain ⟨j,hj,ej⟩:=mem_drop_at hy
     exact Le.trans (Le.of_lt e) (srt_at sa eq' ej hj)
    by_cases g3:ib'+1=b.length
    ·rw [if_pos (by rw [szB]; simpa using g3)]
     refine wpS_pure ⟨hs',.inl ⟨_,_,rfl,?_⟩⟩
     rw [fD]; exact W2.done sa sb (.inr (by lia))
    ·rw [if_neg (by rw [szB]; simpa using g3)]
     split
     ·exact wpS_pure ⟨hs',.inr ⟨_,_,_,_,_,rfl,W2,hia',by lia,by lia⟩⟩
     ·exact wpS_pure ⟨_,_,_,_,_,rfl,W2,hia',by lia,by lia,hs'⟩
   | false =>
    simp only [Bool.false_eq_true,if_false]
    refine wpS_bind (s_elem eq ?_)
    have W2:Wv κ a b (out'.push q).toList (ia'+1) ib':=by
     rw [Array.toList_push]
     refine (W'.swap.push sa eq' fun y hy=>?_).swap
     obtain ⟨j,hj,ej⟩:=mem_drop_at hy
     exact Le.trans (show Le κ q p from e) (srt_at sb ep' ej hj)
    by_cases g3:ia'+1+1=a.length
    ·rw [if_pos (by rw [szA]; simpa using g3)]
     refine wpS_pure ⟨hs',.inl ⟨_,_,rfl,?_⟩⟩
     rw [fL]; exact W2.last sb g3 hl
    ·rw [if_neg (by rw [szA]; simpa using g3)]
     split
     ·exact wpS_pure ⟨hs',.inr ⟨_,_,_,_,_,rfl,W2,by lia,by lia,by lia⟩⟩
     ·exact wpS_pure ⟨_,_,_,_,_,rfl,W2,by lia,by lia,by lia,hs'⟩
  ·rintro c st2 ⟨out',ia',ib',ac,bc,rfl,W',hia',hib',hm',hs'⟩
   exfalso
   rw [szA,szB] at hm'
   lia
  ·rintro c st2 ⟨hs',⟨r,z,rfl,hr⟩ | ⟨out',ia',ib',ac,bc,rfl,W',hia',hib',hm'⟩⟩
   ·dsimp only
    exact wpS_pure ⟨_,_,rfl,hr,hs'⟩
   ·dsimp only
    refine wpS_bind (m:=liftM (rule _)) (wpS_lift (wpAny_rule ⟨rfl,?_⟩))
    refine wpS_bind (wpS_mono (wpS_forRange (I:=fun y c st'=>∃ o i j g ac bc,c=(none,o,i,j,g,ac,bc)∧Wv κ a b o.toList i j∧i+1 < a.length∧j < b.length∧y+ia'+ib'≤i+j∧St0 st st')
     (Q:=fun c st'=>St0 st st'∧((∃ r z,c=(some r,z)∧Pst κ a b r.toList)∨∃ o i j g ac bc,c=(none,o,i,j,g,ac,bc)∧Wv κ a b o.toList i j∧i+1 < a.length∧j < b.length∧ia'+ib'≤i+j)) ?_ ?_
     ⟨out',ia',ib',_,ac,bc,rfl,W',hia',hib',by lia,hs'⟩) ?_)
    ·rintro y c st3 _ hy ⟨o,i,j,g',ac',bc',rfl,V,hi,hj,hm3,hs3⟩
     dsimp only
     obtain ⟨p,ep,ep',mp⟩:=atB j hj
     by_cases gg:g' > 1
     case' pos=>rw [if_pos gg]
     case' neg=>rw [if_neg gg]
     all_goals
      refine wpS_bind (s_setG hs3 fun st4 hs4=>?_)
      refine wpS_bind (s_elem ep (wpS_bind (s_galL C (hs4.1.trans hk) mp ha (sa.sublist ((List.take_sublist _ _).trans (List.drop_sublist _ _))) (by rw [szA]; lia) (by rw [szA]; lia) fun k hk1 hk2 hk3=>?_)))
      rw [szA] at hk1 hk3
      rw [List.take_of_length_le (by rw [List.length_drop]; lia),List.drop_drop] at hk3
      dsimp only
      have hp:∀ y∈a.drop (i+k),Le κ p y:=fun y hy=>by
       have:=hk3 y hy
       unfold bey at this; exact Le.of_lt (by simpa using this)
      by_cases g3:k > 0
      ·rw [if_pos g3]
       have V1:Wv κ a b (o++a.toArray.extract i (i+k)).toList (i+k) j:=by
        rw [Array.toList_append,ex_list2]
        refine (V.swap.app sa k fun x hx y hy=>?_).swap
        have:=hk2 x hx
        unfold bey at this
        obtain ⟨jj,hjj,ejj⟩:=mem_drop_at hy
        exact Le.trans (show Le κ x p from (show Lb κ p x=false by simpa using this)) (srt_at sb ep' ejj hjj)
       by_cases g8:i+k+1=a.length
       ·rw [if_pos (by rw [szA]; simpa using g8)]
        refine wpS_pure ⟨hs4,.inl ⟨_,_,rfl,?_⟩⟩
        rw [fL]; exact V1.last sb g8 hl
       rw [if_neg (by rw [szA]; simpa using g8)]
       by_cases g9:i+k=a.length
       ·rw [if_pos (by rw [szA]; simpa using g9)]
        refine wpS_pure ⟨hs4,.inl ⟨_,_,rfl,?_⟩⟩
        rw [fD]; exact V1.done sa sb (.inl (by lia))
       rw [if_neg (by rw [szA]; simpa using g9)]
       refine wpS_bind (s_elem ep ?_)
       have V2:Wv κ a b ((o++a.toArray.extract i (i+k)).push p).toList (i+k) (j+1):=by
        rw [Array.toList_push]
        exact V1.push sb ep' hp
       by_cases g4:j+1=b.length
       ·rw [if_pos (by rw [szB]; simpa using g4)]
        refine wpS_pure ⟨hs4,.inl ⟨_,_,rfl,?_⟩⟩
        rw [fD]; exact V2.done sa sb (.inr (by lia))
       rw [if_neg (by rw [szB]; simpa using g4)]
       obtain ⟨q,eq,eq',mq⟩:=atA (i+k) (by lia)
       refine wpS_bind (s_elem eq (wpS_bind (s_galL C (hs4.1.trans hk) mq hb (sb.sublist ((List.take_sublist _ _).trans (List.drop_sublist _ _))) (by rw [szB]; lia) (by rw [szB]; lia) fun k' hk1' hk2' hk3'=>?_)))
       rw [szB] at hk1' hk3'
       rw [List.take_of_length_le (by rw [List.length_drop]; lia),List.drop_drop] at hk3'
       dsimp only
       have hq:∀ y∈b.drop (j+1+k'),Le κ q y:=fun y hy=>by
        have:=hk3' y hy
        unfold bey at this; exact (show Lb κ y q=false by simpa using this)
       by_cases g6:k' > 0
       ·rw [if_pos g6]
        have V3:Wv κ a b ((o++a.toArray.extract i (i+k)).push p++b.toArray.extract (j+1) (j+1+k')).toList (i+k) (j+1+k'):=by
         rw [Array.toList_append,ex_list2]
         refine V2.app sb k' fun x hx y hy=>?_
         have:=hk2' x hx
         unfold bey at this
         obtain ⟨jj,hjj,ejj⟩:=mem_drop_at hy
         exact Le.trans (Le.of_lt (by simpa using this)) (srt_at sa eq' ejj hjj)
        by_cases g7:j+1+k'=b.length
        ·rw [if_pos (by rw [szB]; simpa using g7)]
         refine wpS_pure ⟨hs4,.inl ⟨_,_,rfl,?_⟩⟩
         rw [fD]; exact V3.done sa sb (.inr (by lia))
        ·rw [if_neg (by rw [szB]; simpa using g7)]
         refine wpS_bind (s_elem eq ?_)
         have V4:Wv κ a b (((o++a.toArray.extract i (i+k)).push p++b.toArray.extract (j+1) (j+1+k')).push q).toList (i+k+1) (j+1+k'):=by
          rw [Array.toList_push]
          exact (V3.swap.push sa eq' hq).swap
         by_cases g5:i+k+1+1=a.length
         ·rw [if_pos (by rw [szA]; simpa using g5)]
          refine wpS_pure ⟨hs4,.inl ⟨_,_,rfl,?_⟩⟩
          rw [fL]; exact V4.last sb g5 hl
         ·rw [if_neg (by rw [szA]; simpa using g5)]
          split
          ·exact wpS_pure ⟨hs4,.inr ⟨_,_,_,_,_,_,rfl,V4,by lia,by lia,by lia⟩⟩
          ·exact wpS_pure ⟨_,_,_,_,_,_,rfl,V4,by lia,by lia,by lia,hs4⟩
       ·rw [if_neg g6]
        have e0:k'=0:=by lia
        subst e0
        rw [Nat.add_zero] at hq
        refine wpS_bind (s_elem eq ?_)
        have V4:Wv κ a b (((o++a.toArray.extract i (i+k)).push p).push q).toList (i+k+1) (j+1):=by
         rw [Array.toList_push]
         exact (V2.swap.push sa eq' hq).swap
        by_cases g5:i+k+1+1=a.length
        ·rw [if_pos (by rw [szA]; simpa using g5)]
         refine wpS_pure ⟨hs4,.inl ⟨_,_,rfl,?_⟩⟩
         rw [fL]; exact V4.last sb g5 hl
        ·rw [if_neg (by rw [szA]; simpa using g5)]
         split
         ·exact wpS_pure ⟨hs4,.inr ⟨_,_,_,_,_,_,rfl,V4,by lia,by lia,by lia⟩⟩
         ·exact wpS_pure ⟨_,_,_,_,_,_,rfl,V4,by lia,by lia,by lia,hs4⟩
      ·rw [if_neg g3]
       have e0:k=0:=by lia
       subst e0
       rw [Nat.add_zero] at hp
       refine wpS_bind (s_elem ep ?_)
       have V2:Wv κ a b (o.push p).toList (i) (j+1):=by
        rw [Array.toList_push]
        exact V.push sb ep' hp
       by_cases g4:j+1=b.length
       ·rw [if_pos (by rw [szB]; simpa using g4)]
        refine wpS_pure ⟨hs4,.inl ⟨_,_,rfl,?_⟩⟩
        rw [fD]; exact V2.done sa sb (.inr (by lia))
       rw [if_neg (by rw [szB]; simpa using g4)]
       obtain ⟨q,eq,eq',mq⟩:=atA (i) (by lia)
       refine wpS_bind (s_elem eq (wpS_bind (s_galL C (hs4.1.trans hk) mq hb (sb.sublist ((List.take_sublist _ _).trans (List.drop_sublist _ _))) (by rw [szB]; lia) (by rw [szB]; lia) fun k' hk1' hk2' hk3'=>?_)))
       rw [szB] at hk1' hk3'
       rw [List.take_of_length_le (by rw [List.length_drop]; lia),List.drop_drop] at hk3'
       dsimp only
       have hq:∀ y∈b.drop (j+1+k'),Le κ q y:=fun y hy=>by
        have:=hk3' y hy
        unfold bey at this; exact (show Lb κ y q=false by simpa using this)
       by_cases g6:k' > 0
       ·rw [if_pos g6]
        have V3:Wv κ a b (o.push p++b.toArray.extract (j+1) (j+1+k')).toList (i) (j+1+k'):=by
         rw [Array.toList_append,ex_list2]
         refine V2.app sb k' fun x hx y hy=>?_
         have:=hk2' x hx
         unfold bey at this
         obtain ⟨jj,hjj,ejj⟩:=mem_drop_at hy
         exact Le.trans (Le.of_lt (by simpa using this)) (srt_at sa eq' ejj hjj)
        by_cases g7:j+1+k'=b.length
        ·rw [if_pos (by rw [szB]; simpa using g7)]
         refine wpS_pure ⟨hs4,.inl ⟨_,_,rfl,?_⟩⟩
         rw [fD]; exact V3.done sa sb (.inr (by lia))
        ·rw [if_neg (by rw [szB]; simpa using g7)]
         refine wpS_bind (s_elem eq ?_)
         have V4:Wv κ a b ((o.push p++b.toArray.extract (j+1) (j+1+k')).push q).toList (i+1) (j+1+k'):=by
          rw [Array.toList_push]
          exact (V3.swap.push sa eq' hq).swap
         by_cases g5:i+1+1=a.length
         ·rw [if_pos (by rw [szA]; simpa using g5)]
          refine wpS_pure ⟨hs4,.inl ⟨_,_,rfl,?_⟩⟩
          rw [fL]; exact V4.last sb g5 hl
         ·rw [if_neg (by rw [szA]; simpa using g5)]
          split
          ·exact wpS_pure ⟨hs4,.inr ⟨_,_,_,_,_,_,rfl,V4,by lia,by lia,by lia⟩⟩
          ·exact wpS_pure ⟨_,_,_,_,_,_,rfl,V4,by lia,by lia,by lia,hs4⟩
       ·rw [if_neg g6]
        have e0:k'=0:=by lia
        subst e0
        rw [Nat.add_zero] at hq
        refine wpS_bind (s_elem eq ?_)
        have V4:Wv κ a b ((o.push p).push q).toList (i+1) (j+1):=by
         rw [Array.toList_push]
         exact (V2.swap.push sa eq' hq).swap
        by_cases g5:i+1+1=a.length
        ·rw [if_pos (by rw [szA]; simpa using g5)]
         refine wpS_pure ⟨hs4,.inl ⟨_,_,rfl,?_⟩⟩
         rw [fL]; exact V4.last sb g5 hl
        ·rw [if_neg (by rw [szA]; simpa using g5)]
         split
         ·exact wpS_pure ⟨hs4,.inr ⟨_,_,_,_,_,_,rfl,V4,by lia,by lia,by lia⟩⟩
         ·exact wpS_pure ⟨_,_,_,_,_,_,rfl,V4,by lia,by lia,by lia,hs4⟩
    ·rintro c st3 ⟨o,i,j,g',ac',bc',rfl,V,hi,hj,hm3,hs3⟩
     exfalso
     rw [szA,szB] at hm3
     lia
    ·rintro c st3 ⟨hs3,⟨r,z,rfl,hr⟩ | ⟨o,i,j,g',ac',bc',rfl,V,hi,hj,hm3⟩⟩
     ·dsimp only
      exact wpS_pure ⟨_,_,rfl,hr,hs3⟩
     ·dsimp only
      refine wpS_bind (s_setG hs3 fun st4 hs4=>?_)
      exact wpS_pure ⟨_,_,_,_,rfl,V,hi,hj,by lia,hs4⟩
 ·rintro c st1 ⟨out,ia,ib,g,rfl,W,hia,hib,hm,hs⟩
  exfalso
  rw [szA,szB] at hm
  lia
 ·rintro c st1 ⟨r,z,rfl,hr,hs⟩
  exact wpS_pure (h r st1 hs hr)
end
end TS
end
section
namespace TS
open PySem PyProof.Rows
structure Vv (κ:KeyKind) (a b out:List Keyed) (na nb:Nat):Prop where
 perm:out.Perm (a.drop na++b.drop nb)
 srt:out.Pairwise (fun x y=>Le κ y x)
 la:∀ x∈out,∀ y∈a.take na,Le κ y x
 lb:∀ x∈out,∀ y∈b.take nb,Le κ y x
section
variable {κ:KeyKind} {a b out:List Keyed} {na nb:Nat}
theorem Vv.swap (h:Vv κ a b out na nb):Vv κ b a out nb na:=⟨h.perm.trans List.perm_append_comm,h.srt,h.lb,h.la⟩
theorem seg_drop (l:List Keyed) {i j:Nat} (h:i≤j):l.drop i=(l.drop i).take (j - i)++l.drop j:=by
 have e:l.drop j=(l.drop i).drop (j - i):=by rw [List.drop_drop,show i+(j - i)=j by lia]
 rw [e,List.take_append_drop]
theorem seg_take (l:List Keyed) {i j:Nat} (h:i≤j):l.take j=l.take i++(l.drop i).take (j - i):=by
 have e:=List.take_add (l:=l) (i:=i) (j:=j - i)
 rwa [show i+(j - i)=j by lia] at e
theorem Vv.app (h:Vv κ a b out na nb) (sb:b.Pairwise (Le κ)) {k:Nat} (hk:k≤nb) (hle:∀ x∈(b.drop k).take (nb - k),∀ y∈a.take na,Le κ y x) :
  Vv κ a b (out++((b.drop k).take (nb - k)).reverse) na k:=by
 have e1:=seg_drop b hk
 have e2:=seg_take b hk
 have st:(b.take nb).Pairwise (Le κ):=sb.sublist (List.take_sublist _ _)
 rw [e2] at st
 refine ⟨?_,?_,?_,?_⟩
 ·refine List.Perm.trans ?_ (List.Perm.of_eq (congrArg (a.drop na++·) e1.symm))
  show List.Perm _ (a.drop na++((b.drop k).take (nb - k)++b.drop nb))
  have p1:(out++((b.drop k).take (nb - k)).reverse).Perm ((a.drop na++b.drop nb)++(b.drop k).take (nb - k)):=h.perm.append (List.reverse_perm _)
  refine p1.trans ?_
  rw [List.append_assoc]
  exact List.Perm.append_left _ List.perm_append_comm
 ·refine List.pairwise_append.mpr ⟨h.srt,List.pairwise_reverse.mpr (List.pairwise_append.mp st).2.1,fun x hx y hy=>?_⟩
  exact h.lb x hx y (by rw [e2]; exact List.mem_append_right _ (List.mem_reverse.mp hy))
 ·intro x hx y hy
  rcases List.mem_append.mp hx with hx | hx
  ·exact h.la x hx y hy
  ·exact hle x (List.mem_reverse.mp hx) y hy
 ·intro x hx y hy
  rcases List.mem_append.mp hx with hx | hx
  ·exact h.lb x hx y (by rw [e2]; exact List.mem_append_left _ hy)
  ·exact (List.pairwise_append.mp st).2.2 y hy x (List.mem_reverse.mp hx)
theorem seg1 {l:List Keyed} {i j:Nat} {p:Keyed} (hj:j=i+1) (h:l[i]?=some p):(l.drop i).take (j - i)=[p]:=by
 rw [show j - i=1 by lia]; exact take1 h
theorem Vv.push (h:Vv κ a b out na nb) (sb:b.Pairwise (Le κ)) {p:Keyed} {k:Nat} (hk:nb=k+1) (hp:b[k]?=some p) (hle:∀ y∈a.take na,Le κ y p):Vv κ a b (out++[p]) na k:=by
 have:=h.app sb (k:=k) (by lia) (by rw [seg1 hk hp]; intro x hx y hy; rw [List.mem_singleton.mp hx]; exact hle y hy)
 rwa [seg1 hk hp,List.reverse_singleton] at this
theorem Vv.cat (h:Vv κ a b out na nb) {rest:List Keyed} (hp:rest.Perm (a.take na++b.take nb)) (hs:rest.Pairwise (Le κ)):Pst κ a b (rest++out.reverse):=by
 refine ⟨?_,List.pairwise_append.mpr ⟨hs,List.pairwise_reverse.mpr h.srt,fun x hx y hy=>?_⟩⟩
 ·have p1:(rest++out.reverse).Perm ((a.take na++b.take nb)++(a.drop na++b.drop nb)):=hp.append ((List.reverse_perm _).trans h.perm)
  have p2:((a.take na++b.take nb)++(a.drop na++b.drop nb)).Perm ((a.take na++a.drop na)++(b.take nb++b.drop nb)):=by
   rw [List.append_assoc,List.append_assoc]
   refine List.Perm.append_left _ ?_
   rw [← List.append_assoc,← List.append_assoc]
   exact List.perm_append_comm.append_right _
  rw [List.take_append_drop,List.take_append_drop] at p2
  exact p1.trans p2
 ·have hy':=List.mem_reverse.mp hy
  rcases List.mem_append.mp (hp.mem_iff.mp hx) with q | q
  ·exact h.la y hy' x q
  ·exact h.lb y hy' x q
theorem Vv.done (h:Vv κ a b out na nb) (sa:a.Pairwise (Le κ)) (sb:b.Pairwise (Le κ)) (hz:na=0∨nb=0):Pst κ a b (a.take na++b.take nb++out.reverse):=by
 refine h.cat (List.Perm.refl _) ?_
 rcases hz with z | z
 ·rw [z,List.take_zero,List.nil_append]; exact sb.sublist (List.take_sublist _ _)
 ·rw [z,List.take_zero,List.append_nil]; exact sa.sublist (List.take_sublist _ _)
theorem Vv.first (h:Vv κ a b out na nb) (sa:a.Pairwise (Le κ)) (hz:nb=1) (h0:∀ p,b[0]?=some p→∀ x∈a,Le κ p x):Pst κ a b (b.take nb++a.take na++out.reverse):=by
 refine h.cat List.perm_append_comm ?_
 rw [hz]
 refine List.pairwise_append.mpr ⟨?_,sa.sublist (List.take_sublist _ _),fun x hx y hy=>?_⟩
 ·cases b with
  | nil=>exact List.Pairwise.nil
  | cons p r=>exact List.pairwise_singleton _ _
 ·cases b with
  | nil=>cases hx
  | cons p r =>
   have e:x=p:=by simpa using hx
   rw [e]; exact h0 p rfl y (List.mem_of_mem_take hy)
end
section
variable {prog:Program} {w:World} {A:Around} {E:Value→Shared→Prop} {s:Shared} {κ:KeyKind} {kd:SortKind} {a₀:Array Keyed} {st:SortSt}
theorem mem_take_at {l:List Keyed} {n:Nat} {x:Keyed} (h:x∈l.take n):∃ j,j < n∧l[j]?=some x:=by
 obtain ⟨j,hj,e⟩:=List.getElem_of_mem h
 rw [List.length_take] at hj
 rw [List.getElem_take] at e
 exact ⟨j,by lia,by rw [← e]; exact List.getElem?_eq_getElem (by lia)⟩
theorem s_gal0 (C:Cmp prog w A s κ kd a₀) (hk:kindOf st=kd) {left:Bool} {key:Keyed} {l:List Keyed} {n hint:Nat} {Q:Option Nat→SortSt→Prop} (hkey:key∈a₀.toList)
  (hm:∀ p∈l,p∈a₀.toList) (hs:l.Pairwise (Le κ)) (hb:n≤l.length) (hh:hint < n)
  (h:∀ k,k≤n→(∀ x∈l.take k,bey κ left key x=true)→(∀ x∈(l.drop k).take (n - k),bey κ left key x=false)→Q (some k) st) :
  wpS (model prog w) A E s (gal left key l.toArray 0 n hint) Q st:=by
 refine s_galL C hk hkey hm (hs.sublist ((List.take_sublist _ _).trans (List.drop_sublist _ _))) (by lia) hh fun k h1 h2 h3=>?_
 rw [List.drop_zero] at h2 h3
 rw [List.drop_take] at h3
 exact h k h1 h2 h3
theorem s_mHi {a b:List Keyed} {Q:Array Keyed→SortSt→Prop} (C:Cmp prog w A s κ kd a₀) (hk:kindOf st=kd) (ha:∀ p∈a,p∈a₀.toList) (hb:∀ p∈b,p∈a₀.toList)
  (sa:a.Pairwise (Le κ)) (sb:b.Pairwise (Le κ)) (pa:0 < a.length) (pb:0 < b.length) (h0:∀ p,b[0]?=some p→∀ x∈a,Le κ p x) (hl:∀ y∈b,∀ x,a[a.length - 1]?=some x→Le κ y x)
  (h:∀ r st',St0 st st'→Pst κ a b r.toList→Q r st'):wpS (model prog w) A E s (mHi a.toArray b.toArray) Q st:=by
 have atA:∀ i,i < a.length→∃ p,a.toArray[i]?=some p∧a[i]?=some p∧p∈a₀.toList:=fun i hi=>⟨a[i],by simp [hi],by simp [hi],ha _ (List.getElem_mem hi)⟩
 have atB:∀ i,i < b.length→∃ p,b.toArray[i]?=some p∧b[i]?=some p∧p∈a₀.toList:=fun i hi=>⟨b[i],by simp [hi],by simp [hi],hb _ (List.getElem_mem hi)⟩
 have fD:∀ (out:Array Keyed) na nb,(a.toArray.extract 0 na++b.toArray.extract 0 nb++out.reverse).toList=a.take na++b.take nb++out.toList.reverse:=fun out na nb=>by simp
 have fF:∀ (out:Array Keyed) na nb,(b.toArray.extract 0 nb++a.toArray.extract 0 na++out.reverse).toList=b.take nb++a.take na++out.toList.reverse:=fun out na nb=>by simp
 have fR:∀ (l:List Keyed) (out:Array Keyed) i j,(out++(l.toArray.extract i j).reverse).toList=out.toList++((l.drop i).take (j - i)).reverse:=fun l out i j=>by simp
 have szA:a.toArray.size=a.length:=by simp
 have szB:b.toArray.size=b.length:=by simp
 obtain ⟨al,ea,ea',ma⟩:=atA (a.length - 1) (by lia)
 have w0:Vv κ a b [al] (a.length - 1) b.length:=by
  have e:a.drop (a.length - 1)=[al]:=by
   obtain ⟨hi,e⟩:=List.getElem?_eq_some_iff.mp ea'
   rw [List.drop_eq_getElem_cons hi,e,List.drop_eq_nil_of_le (by lia)]
  refine ⟨by rw [e,List.drop_eq_nil_of_le (Nat.le_refl _),List.append_nil],List.pairwise_singleton _ _,fun x hx y hy=>?_,fun x hx y hy=>?_⟩
  ·rw [List.mem_singleton.mp hx]
   obtain ⟨j,hj,ej⟩:=mem_take_at hy
   exact srt_at sa ej ea' (by lia)
  ·rw [List.mem_singleton.mp hx]
   exact hl y (List.mem_of_mem_take hy) _ ea'
 refine wpS_bind (m:=liftM (rule _)) (wpS_lift (wpAny_rule ⟨rfl,?_⟩))
 dsimp only
 rw [← szA] at ea w0
 rw [← szB] at w0
 refine wpS_bind (s_elem ea ?_)
 by_cases g1:a.toArray.size - 1=0
 ·rw [if_pos (by simpa using g1)]
  refine wpS_pure (h _ _ (St0.refl _) ?_)
  rw [fD]; exact w0.done sa sb (.inl g1)
 rw [if_neg (by simpa using g1)]
 by_cases g2:b.toArray.size=1
 ·rw [if_pos (by simpa using g2)]
  refine wpS_pure (h _ _ (St0.refl _) ?_)
  rw [fF]; exact w0.first sa g2 h0
 rw [if_neg (by simpa using g2)]
 refine wpS_bind (wpS_get ?_)
 refine wpS_bind (wpS_mono (wpS_forRange (I:=fun x c st'=>∃ na nb out g,c=(none,na,nb,out,g)∧Vv κ a b out.toList na nb∧0 < na∧na < a.length∧1 < nb∧nb≤b.length∧x+na+nb < a.length+b.length∧St0 st st')
  (Q:=fun c st'=>∃ r z,c=(some r,z)∧Pst κ a b r.toList∧St0 st st') ?_ ?_ ⟨_,_,_,_,rfl,w0,by lia,by lia,by lia,by lia,by lia,St0.refl _⟩) ?_)
 ·rintro x c st1 _ hx ⟨na,nb,out,g,rfl,W,hia,hia2,hib,hib2,hm,hs⟩
  dsimp only
  refine wpS_bind (wpS_mono (wpS_forRange (I:=fun y c st'=>∃ na' nb' out' ac bc,c=(none,na',nb',out',ac,bc)∧Vv κ a b out'.toList na' nb'∧0 < na'∧na' < a.length∧1 < nb'∧nb'≤b.length∧y+na'+nb'≤na+nb∧St0 st st')
   (Q:=fun c st'=>St0 st st'∧((∃ r z,c=(some r,z)∧Pst κ a b r.toList)∨∃ na' nb' out' ac bc,c=(none,na',nb',out',ac,bc)∧Vv κ a b out'.toList na' nb'∧0 < na'∧na' < a.length∧1 < nb'∧nb'≤b.length∧1+na'+nb'≤na+nb)) ?_ ?_
   ⟨na,nb,out,0,0,rfl,W,hia,hia2,hib,hib2,by lia,hs⟩) ?_)
  ·rintro y c st2 _ hy ⟨na',nb',out',ac,bc,rfl,W',h1',h2',h3',h4',hm',hs'⟩
   dsimp only
   obtain ⟨p,ep,ep',mp⟩:=atB (nb' - 1) (by lia)
   obtain ⟨q,eq,eq',mq⟩:=atA (na' - 1) (by lia)
   refine wpS_bind (s_elem ep (wpS_bind (s_elem eq (wpS_bind (s_lt C mp mq (hs'.1.trans hk) ?_)))))
   cases e:Lb κ p q with
   | true =>
    simp only [if_true]
    refine wpS_bind (s_elem eq ?_)
    have W2:Vv κ a b (out'.push q).toList (na' - 1) nb':=by
     rw [Array.toList_push]
     refine (W'.swap.push sa (by lia) eq' fun y hy=>?_).swap
     obtain ⟨j,hj,ej⟩:=mem_take_at hy
     exact Le.trans (srt_at sb ej ep' (by lia)) (Le.of_lt e)
    by_cases g3:na' - 1=0
    ·rw [if_pos (by simpa using g3)]
     refine wpS_pure ⟨hs',.inl ⟨_,_,rfl,?_⟩⟩
     rw [fD]; exact W2.done sa sb (.inl g3)
    ·rw [if_neg (by simpa using g3)]
     split
     ·exact wpS_pure ⟨hs',.inr ⟨_,_,_,_,_,rfl,W2,by lia,by lia,by lia,by lia,by lia⟩⟩
     ·exact wpS_pure ⟨_,_,_,_,_,rfl,W2,by lia,by lia,by lia,by lia,by lia,hs'⟩
   | false =>
    simp only [Bool.false_eq_true,if_false]
    refine wpS_bind (s_elem ep ?_)
    have W2:Vv κ a b (out'.push p).toList na' (nb' - 1):=by
     rw [Array.toList_push]
     refine W'.push sb (by lia) ep' fun y hy=>?_
     obtain ⟨j,hj,ej⟩:=mem_take_at hy
     exact Le.trans (srt_at sa ej eq' (by lia)) (show Le κ q p from e)
    by_cases g3:nb' - 1=1
    ·rw [if_pos (by simpa using g3)]
     refine wpS_pure ⟨hs',.inl ⟨_,_,rfl,?_⟩⟩
     rw [fF]; exact W2.first sa g3 h0
    ·rw [if_neg (by simpa using g3)]
     split
     ·exact wpS_pure ⟨hs',.inr ⟨_,_,_,_,_,rfl,W2,by lia,by lia,by lia,by lia,by lia⟩⟩
     ·exact wpS_pure ⟨_,_,_,_,_,rfl,W2,by lia,by lia,by lia,by lia,by lia,hs'⟩
  ·rintro c st2 ⟨na',nb',out',ac,bc,rfl,W',h1',h2',h3',h4',hm',hs'⟩
   exfalso
   rw [szA,szB] at hm'
   lia
  ·rintro c st2 ⟨hs',⟨r,z,rfl,hr⟩ | ⟨na',nb',out',ac,bc,rfl,W',h1',h2',h3',h4',hm'⟩⟩
   ·dsimp only
    exact wpS_pure ⟨_,_,rfl,hr,hs'⟩
   ·dsimp only
    refine wpS_bind (m:=liftM (rule _)) (wpS_lift (wpAny_rule ⟨rfl,?_⟩))
    refine wpS_bind (wpS_mono (wpS_forRange (I:=fun y c st'=>∃ i j o g ac bc,c=(none,i,j,o,g,ac,bc)∧Vv κ a b o.toList i j∧0 < i∧i < a.length∧1 < j∧j≤b.length∧y+i+j≤na'+nb'∧St0 st st')
     (Q:=fun c st'=>St0 st st'∧((∃ r z,c=(some r,z)∧Pst κ a b r.toList)∨∃ i j o g ac bc,c=(none,i,j,o,g,ac,bc)∧Vv κ a b o.toList i j∧0 < i∧i < a.length∧1 < j∧j≤b.length∧i+j≤na'+nb')) ?_ ?_
     ⟨na',nb',out',_,ac,bc,rfl,W',h1',h2',h3',h4',by lia,hs'⟩) ?_)
    ·rintro y c st3 _ hy ⟨i,j,o,g',ac',bc',rfl,V,hi,hi2,hj,hj2,hm3,hs3⟩
     dsimp only
     obtain ⟨p,ep,ep',mp⟩:=atB (j - 1) (by lia)
     by_cases gg:g' > 1
     case' pos=>rw [if_pos gg]
     case' neg=>rw [if_neg gg]
     all_goals
      refine wpS_bind (s_setG hs3 fun st4 hs4=>?_)
      refine wpS_bind (s_elem ep (wpS_bind (s_gal0 C (hs4.1.trans hk) mp ha sa (by lia) (by lia) fun k hk1 hk2 hk3=>?_)))
      dsimp only
      have hp:∀ y∈a.take k,Le κ y p:=fun y hy=>by
       have:=hk2 y hy
       unfold bey at this; exact (show Lb κ p y=false by simpa using this)
      by_cases g3:i - k > 0
      ·rw [if_pos g3]
       have V1:Vv κ a b (o++(a.toArray.extract k i).reverse).toList k j:=by
        rw [fR]
        refine (V.swap.app sa hk1 fun x hx y hy=>?_).swap
        have:=hk3 x hx
        unfold bey at this
        obtain ⟨jj,hjj,ejj⟩:=mem_take_at hy
        exact Le.trans (srt_at sb ejj ep' (by lia)) (Le.of_lt (show Lb κ p x=true by simpa using this))
       by_cases g9:k=0
       ·rw [if_pos (by simpa using g9)]
        refine wpS_pure ⟨hs4,.inl ⟨_,_,rfl,?_⟩⟩
        rw [fD]; exact V1.done sa sb (.inl g9)
       rw [if_neg (by simpa using g9)]
       refine wpS_bind (s_elem ep ?_)
       have V2:Vv κ a b ((o++(a.toArray.extract k i).reverse).push p).toList (k) (j - 1):=by
        rw [Array.toList_push]
        exact V1.push sb (by lia) ep' hp
       by_cases g4:j - 1=1
       ·rw [if_pos (by simpa using g4)]
        refine wpS_pure ⟨hs4,.inl ⟨_,_,rfl,?_⟩⟩
        rw [fF]; exact V2.first sa g4 h0
       rw [if_neg (by simpa using g4)]
       obtain ⟨q,eq,eq',mq⟩:=atA (k - 1) (by lia)
       refine wpS_bind (s_elem eq (wpS_bind (s_gal0 C (hs4.1.trans hk) mq hb sb (by lia) (by lia) fun k' hk1' hk2' hk3'=>?_)))
       dsimp only
       have hq:∀ y∈b.take k',Le κ y q:=fun y hy=>by
        have:=hk2' y hy
        unfold bey at this; exact Le.of_lt (by simpa using this)
       by_cases g6:j - 1 - k' > 0
       ·rw [if_pos g6]
        have V3:Vv κ a b ((o++(a.toArray.extract k i).reverse).push p++(b.toArray.extract k' (j - 1)).reverse).toList (k) k':=by
         rw [fR]
         refine V2.app sb hk1' fun x hx y hy=>?_
         have:=hk3' x hx
         unfold bey at this
         obtain ⟨jj,hjj,ejj⟩:=mem_take_at hy
         exact Le.trans (srt_at sa ejj eq' (by lia)) (show Le κ q x from (show Lb κ x q=false by simpa using this))
        by_cases g7:k'=1
        ·rw [if_pos (by simpa using g7)]
         refine wpS_pure ⟨hs4,.inl ⟨_,_,rfl,?_⟩⟩
         rw [fF]; exact V3.first sa g7 h0
        rw [if_neg (by simpa using g7)]
        by_cases g8:k'=0
        ·rw [if_pos (by simpa using g8)]
         refine wpS_pure ⟨hs4,.inl ⟨_,_,rfl,?_⟩⟩
         rw [fD]; exact V3.done sa sb (.inr g8)
        ·rw [if_neg (by simpa using g8)]
         refine wpS_bind (s_elem eq ?_)
         have V4:Vv κ a b (((o++(a.toArray.extract k i).reverse).push p++(b.toArray.extract k' (j - 1)).reverse).push q).toList (k - 1) (k'):=by
          rw [Array.toList_push]
          exact (V3.swap.push sa (by lia) eq' hq).swap
         by_cases g5:k - 1=0
         ·rw [if_pos (by simpa using g5)]
          refine wpS_pure ⟨hs4,.inl ⟨_,_,rfl,?_⟩⟩
          rw [fD]; exact V4.done sa sb (.inl g5)
         ·rw [if_neg (by simpa using g5)]
          split
          ·exact wpS_pure ⟨hs4,.inr ⟨_,_,_,_,_,_,rfl,V4,by lia,by lia,by lia,by lia,by lia⟩⟩
          ·exact wpS_pure ⟨_,_,_,_,_,_,rfl,V4,by lia,by lia,by lia,by lia,by lia,hs4⟩
       ·rw [if_neg g6]
        have e0:k'=j - 1:=by lia
        subst e0
        refine wpS_bind (s_elem eq ?_)
        have V4:Vv κ a b (((o++(a.toArray.extract k i).reverse).push p).push q).toList (k - 1) (j - 1):=by
         rw [Array.toList_push]
         exact (V2.swap.push sa (by lia) eq' hq).swap
        by_cases g5:k - 1=0
        ·rw [if_pos (by simpa using g5)]
         refine wpS_pure ⟨hs4,.inl ⟨_,_,rfl,?_⟩⟩
         rw [fD]; exact V4.done sa sb (.inl g5)
        ·rw [if_neg (by simpa using g5)]
         split
         ·exact wpS_pure ⟨hs4,.inr ⟨_,_,_,_,_,_,rfl,V4,by lia,by lia,by lia,by lia,by lia⟩⟩
         ·exact wpS_pure ⟨_,_,_,_,_,_,rfl,V4,by lia,by lia,by lia,by lia,by lia,hs4⟩
      ·rw [if_neg g3]
       have e0:k=i:=by lia
       subst e0
       refine wpS_bind (s_elem ep ?_)
       have V2:Vv κ a b (o.push p).toList (k) (j - 1):=by
        rw [Array.toList_push]
        exact V.push sb (by lia) ep' hp
       by_cases g4:j - 1=1
       ·rw [if_pos (by simpa using g4)]
        refine wpS_pure ⟨hs4,.inl ⟨_,_,rfl,?_⟩⟩
        rw [fF]; exact V2.first sa g4 h0
       rw [if_neg (by simpa using g4)]
       obtain ⟨q,eq,eq',mq⟩:=atA (k - 1) (by lia)
       refine wpS_bind (s_elem eq (wpS_bind (s_gal0 C (hs4.1.trans hk) mq hb sb (by lia) (by lia) fun k' hk1' hk2' hk3'=>?_)))
       dsimp only
       have hq:∀ y∈b.take k',Le κ y q:=fun y hy=>by
        have:=hk2' y hy
        unfold bey at this; exact Le.of_lt (by simpa using this)
       by_cases g6:j - 1 - k' > 0
       ·rw [if_pos g6]
        have V3:Vv κ a b (o.push p++(b.toArray.extract k' (j - 1)).reverse).toList (k) k':=by
         rw [fR]
         refine V2.app sb hk1' fun x hx y hy=>?_
         have:=hk3' x hx
         unfold bey at this
         obtain ⟨jj,hjj,ejj⟩:=mem_take_at hy
         exact Le.trans (srt_at sa ejj eq' (by lia)) (show Le κ q x from (show Lb κ x q=false by simpa using this))
        by_cases g7:k'=1
        ·rw [if_pos (by simpa using g7)]
         refine wpS_pure ⟨hs4,.inl ⟨_,_,rfl,?_⟩⟩
         rw [fF]; exact V3.first sa g7 h0
        rw [if_neg (by simpa using g7)]
        by_cases g8:k'=0
        ·rw [if_pos (by simpa using g8)]
         refine wpS_pure ⟨hs4,.inl ⟨_,_,rfl,?_⟩⟩
         rw [fD]; exact V3.done sa sb (.inr g8)
        ·rw [if_neg (by simpa using g8)]
         refine wpS_bind (s_elem eq ?_)
         have V4:Vv κ a b ((o.push p++(b.toArray.extract k' (j - 1)).reverse).push q).toList (k - 1) (k'):=by
          rw [Array.toList_push]
          exact (V3.swap.push sa (by lia) eq' hq).swap
         by_cases g5:k - 1=0
         ·rw [if_pos (by simpa using g5)]
          refine wpS_pure ⟨hs4,.inl ⟨_,_,rfl,?_⟩⟩
          rw [fD]; exact V4.done sa sb (.inl g5)
         ·rw [if_neg (by simpa using g5)]
          split
          ·exact wpS_pure ⟨hs4,.inr ⟨_,_,_,_,_,_,rfl,V4,by lia,by lia,by lia,by lia,by lia⟩⟩
          ·exact wpS_pure ⟨_,_,_,_,_,_,rfl,V4,by lia,by lia,by lia,by lia,by lia,hs4⟩
       ·rw [if_neg g6]
        have e0:k'=j - 1:=by lia
        subst e0
        refine wpS_bind (s_elem eq ?_)
        have V4:Vv κ a b ((o.push p).push q).toList (k - 1) (j - 1):=by
         rw [Array.toList_push]
         exact (V2.swap.push sa (by lia) eq' hq).swap
        by_cases g5:k - 1=0
        ·rw [if_pos (by simpa using g5)]
         refine wpS_pure ⟨hs4,.inl ⟨_,_,rfl,?_⟩⟩
         rw [fD]; exact V4.done sa sb (.inl g5)
        ·rw [if_neg (by simpa using g5)]
         split
         ·exact wpS_pure ⟨hs4,.inr ⟨_,_,_,_,_,_,rfl,V4,by lia,by lia,by lia,by lia,by lia⟩⟩
         ·exact wpS_pure ⟨_,_,_,_,_,_,rfl,V4,by lia,by lia,by lia,by lia,by lia,hs4⟩
    ·rintro c st3 ⟨i,j,o,g',ac',bc',rfl,V,hi,hi2,hj,hj2,hm3,hs3⟩
     exfalso
     rw [szA,szB] at hm3
     lia
    ·rintro c st3 ⟨hs3,⟨r,z,rfl,hr⟩ | ⟨i,j,o,g',ac',bc',rfl,V,hi,hi2,hj,hj2,hm3⟩⟩
     ·dsimp only
      exact wpS_pure ⟨_,_,rfl,hr,hs3⟩
     ·dsimp only
      refine wpS_bind (s_setG hs3 fun st4 hs4=>?_)
      exact wpS_pure ⟨_,_,_,_,rfl,V,hi,hi2,hj,hj2,by lia,hs4⟩
 ·rintro c st1 ⟨na,nb,out,g,rfl,W,hia,hia2,hib,hib2,hm,hs⟩
  exfalso
  rw [szA,szB] at hm
  lia
 ·rintro c st1 ⟨r,z,rfl,hr,hs⟩
  exact wpS_pure (h r st1 hs hr)
end
end TS
end
section
namespace TS
open PySem PyProof.Rows
section
variable {κ:KeyKind}
theorem kk_list {l:List Keyed} {i:Nat} (h:i < l.length):KK κ l.toArray i=kf κ l[i]:=kk_of (by simp [h])
theorem up_iff {l:List Keyed} {lo n:Nat} (h:lo+n≤l.length):Up κ l.toArray lo n ↔ ((l.drop lo).take n).Pairwise (Le κ):=by
 have len:((l.drop lo).take n).length=n:=by rw [List.length_take,List.length_drop]; lia
 constructor
 ·intro u
  refine List.pairwise_iff_getElem.mpr fun i j hi hj hij=>?_
  rw [len] at hi hj
  have:=u (lo+i) (lo+j) (by lia) (by lia) (by lia)
  rw [kk_list (by lia),kk_list (by lia)] at this
  rw [List.getElem_take,List.getElem_drop,List.getElem_take,List.getElem_drop]
  exact this
 ·intro p i j h1 h2 h3
  rw [kk_list (by lia),kk_list (by lia)]
  have a1:((l.drop lo).take n)[i - lo]?=some l[i]:=by
   rw [List.getElem?_take,if_pos (by lia),List.getElem?_drop,show lo+(i - lo)=i by lia]
   exact List.getElem?_eq_getElem (by lia)
  have a2:((l.drop lo).take n)[j - lo]?=some l[j]:=by
   rw [List.getElem?_take,if_pos (by lia),List.getElem?_drop,show lo+(j - lo)=j by lia]
   exact List.getElem?_eq_getElem (by lia)
  exact srt_at p a1 a2 (by lia)
theorem wb (s0:Nat):∀ (M:List Keyed) (c:Nat) (xs:Array Keyed) (k:Nat),s0+c+M.length≤xs.size →
  ((M.zipIdx c).foldl (fun (a:Array Keyed) (x:Keyed × Nat)=>a.setIfInBounds (s0+x.2) x.1) xs)[k]?=if s0+c≤k∧k < s0+c+M.length then M[k - (s0+c)]? else xs[k]?
 | [],c,xs,k,_=>by
  rw [if_neg (by simp)]; rfl
 | p :: M,c,xs,k,h=>by
  rw [List.zipIdx_cons,List.foldl_cons]
  rw [wb s0 M (c+1) _ k (by rw [Array.size_setIfInBounds]; simp at h; lia)]
  simp only [List.length_cons] at h ⊢
  by_cases h1:s0+(c+1)≤k∧k < s0+(c+1)+M.length
  ·rw [if_pos h1,if_pos (by lia),show k - (s0+c)=(k - (s0+(c+1)))+1 by lia,List.getElem?_cons_succ]
  ·rw [if_neg h1]
   rw [Array.getElem?_setIfInBounds]
   by_cases h2:s0+c=k
   ·rw [if_pos h2,if_pos (by lia),if_pos (by lia),show k - (s0+c)=0 by lia,List.getElem?_cons_zero]
   ·rw [if_neg h2,if_neg (by lia)]
theorem wb_list (l M:List Keyed) (P X R:List Keyed) (e:l=P++X++R) (hl:M.length=X.length) :
  ((M.zipIdx).foldl (fun (a:Array Keyed) (x:Keyed × Nat)=>a.setIfInBounds (P.length+x.2) x.1) l.toArray)=(P++M++R).toArray:=by
 subst e
 apply Array.ext_getElem?
 intro k
 rw [wb P.length M 0 _ k (by simp; lia)]
 simp only [Nat.add_zero,List.getElem?_toArray]
 by_cases h:P.length≤k∧k < P.length+M.length
 ·rw [if_pos h,List.append_assoc,List.getElem?_append_right h.1,List.getElem?_append_left (by lia)]
 ·rw [if_neg h]
  by_cases h2:k < P.length
  ·rw [List.append_assoc,List.append_assoc,List.getElem?_append_left h2,List.getElem?_append_left h2]
  ·rw [List.append_assoc,List.append_assoc,List.getElem?_append_right (by lia),List.getElem?_append_right (by lia),List.getElem?_append_right (by lia),List.getElem?_append_right (by lia),hl]
end
section
variable {prog:Program} {w:World} {A:Around} {E:Value→Shared→Prop} {s:Shared} {κ:KeyKind} {kd:SortKind} {a₀:Array Keyed} {st:SortSt}
theorem s_set {x:SortSt} {Q:PUnit→SortSt→Prop} (h:Q ⟨⟩ x):wpS (model prog w) A E s (set x:StateT SortSt Sem PUnit) Q st:=by
 unfold wpS; rw [StateT.run_set]; exact wpAny_pure ⟨rfl,h⟩
theorem ex_arr (l:List Keyed) (i j:Nat):l.toArray.extract i j=((l.drop i).take (j - i)).toArray:=by simp
theorem s_mAt (C:Cmp prog w A s κ kd a₀) (B:SB kd a₀ st) {i sa na pw sb nb pw2:Nat} {Q:Bool→SortSt→Prop} (h1:(pendingOf st)[i]?=some (sa,na,pw)) (h2:(pendingOf st)[i+1]?=some (sb,nb,pw2))
  (hsb:sb=sa+na) (pa:1≤na) (pb:1≤nb) (hz:sb+nb≤a₀.size) (ua:Up κ (arrOf st) sa na) (ub:Up κ (arrOf st) sb nb)
  (h:∀ st',SB kd a₀ st'→pendingOf st'=((pendingOf st).setIfInBounds i (sa,na+nb,pw)).eraseIdxIfInBounds (i+1)→(∀ k,k < sa∨sb+nb≤k→(arrOf st')[k]?=(arrOf st)[k]?) →
   Up κ (arrOf st') sa (na+nb)→Q true st'):wpS (model prog w) A E s (mergeAt' i) Q st:=by
 obtain ⟨l,hl⟩:∃ l:List Keyed,arrOf st=l.toArray:=⟨(arrOf st).toList,by simp⟩
 have hm:∀ p∈l,p∈a₀.toList:=fun p hp=>(Array.perm_iff_toList_perm.mp B.perm).mem_iff.mp (by rw [hl]; simpa using hp)
 have hlen:l.length=a₀.size:=by have:=B.size; rw [hl] at this; simpa using this
 rw [hl] at ua ub
 have sa':=(up_iff (by lia)).mp ua
 have sb':=(up_iff (by lia)).mp ub
 obtain ⟨P,X0,Y0,R,el,eP,eX,eY⟩:∃ P X0 Y0 R:List Keyed,l=P++X0++Y0++R∧P.length=sa∧X0.length=na∧Y0.length=nb:=by
  refine ⟨l.take sa,(l.drop sa).take na,(l.drop sb).take nb,l.drop (sb+nb),?_,?_,?_,?_⟩
  ·rw [hsb,← List.take_add,← List.take_add,List.take_append_drop]
  ·rw [List.length_take]; lia
  ·rw [List.length_take,List.length_drop]; lia
  ·rw [List.length_take,List.length_drop]; lia
 have dX:(l.drop sa).take na=X0:=by
  rw [el,List.append_assoc,List.append_assoc,← eP,List.drop_left,← eX,List.take_left]
 have dY:(l.drop sb).take nb=Y0:=by
  have e:sb=(P++X0).length:=by rw [List.length_append]; lia
  rw [el,List.append_assoc,e,List.drop_left,← eY,List.take_left]
 rw [dX] at sa'
 rw [dY] at sb'
 unfold mergeAt'
 refine wpS_bind (m:=get) (wpS_get ?_)
 have h1':((sortPriv% PySem.Builtin.SortState.pending) st)[i]?=some (sa,na,pw):=h1
 have h2':((sortPriv% PySem.Builtin.SortState.pending) st)[i+1]?=some (sb,nb,pw2):=h2
 have hl':(sortPriv% PySem.Builtin.SortState.a) st=l.toArray:=hl
 rw [h1',h2']
 dsimp only
 rw [hl']
 refine wpS_bind (s_set ?_)
 have K1:kindOf (SortSt.mk' (kindOf st) l.toArray (((pendingOf st).setIfInBounds i (sa,na+nb,pw)).eraseIdxIfInBounds (i+1)) (gallopOf st) (failedOf st))=kd:=B.kind
 have eY0:∃ y0 Y',Y0=y0 :: Y':=by
  cases Y0 with
  | nil=>simp at eY; lia
  | cons y Y'=>exact ⟨y,Y',rfl⟩
 obtain ⟨y0,Y',eY1⟩:=eY0
 have my:l[sb]?=some y0:=by
  have e:sb=(P++X0).length:=by rw [List.length_append]; lia
  rw [el,List.append_assoc,e,List.getElem?_append_right (Nat.le_refl _),Nat.sub_self,eY1]; rfl
 have y0le:∀ y∈Y0,Le κ y0 y:=fun y hy=>by
  rw [eY1] at hy sb'
  rcases List.mem_cons.mp hy with z | z
  ·rw [z]; exact Le.refl _
  ·exact (List.pairwise_cons.mp sb').1 y z
 have my0:y0∈a₀.toList:=hm _ (List.mem_of_getElem? my)
 refine wpS_bind (s_elem (by rw [List.getElem?_toArray]; exact my) (wpS_bind (s_galL (hint:=0) C K1 my0 hm (by rw [dX]; exact sa') (by lia) (by lia) fun k hk1 hk2 hk3=>?_)))
 rw [dX] at hk3
 have eXt:(l.drop sa).take k=X0.take k:=by
  rw [← dX,List.take_take,show min k na=k by lia]
 rw [eXt] at hk2
 dsimp only
 have X1le:∀ x∈X0.take k,Le κ x y0:=fun x hx=>by
  have:=hk2 x hx
  unfold bey at this; exact (show Lb κ y0 x=false by simpa using this)
 have X2gt:∀ x∈X0.drop k,Lb κ y0 x=true:=fun x hx=>by
  have:=hk3 x hx
  unfold bey at this; simpa using this
 have same:Up κ l.toArray sa (na+nb) ↔ (X0++Y0).Pairwise (Le κ):=by
  rw [up_iff (by lia)]
  have e:(l.drop sa).take (na+nb)=X0++Y0:=by
   rw [el,List.append_assoc,List.append_assoc,← eP,List.drop_left,← List.append_assoc,show na+nb=(X0++Y0).length by rw [List.length_append]; lia,List.take_left]
  rw [e]
 have here:∀ (B':(X0++Y0).Pairwise (Le κ)),Q true (SortSt.mk' (kindOf st) l.toArray (((pendingOf st).setIfInBounds i (sa,na+nb,pw)).eraseIdxIfInBounds (i+1)) (gallopOf st) (failedOf st)):=fun B' =>
  h _ ⟨by have:=B.perm; rwa [hl] at this,B.kind,B.fail⟩ rfl (fun k _=>by rw [hl]) (same.mpr B')
 by_cases g1:na - k=0
 ·rw [if_pos (by simpa using g1)]
  refine wpS_pure (here (List.pairwise_append.mpr ⟨sa',sb',fun x hx y hy=>Le.trans (X1le x ?_) (y0le y hy)⟩))
  rw [List.take_of_length_le (by lia)]; exact hx
 rw [if_neg (by simpa using g1)]
 have ⟨xl,exl⟩:∃ xl,X0[na - 1]?=some xl:=⟨X0[na - 1],List.getElem?_eq_getElem (by lia)⟩
 have mx:l[sa+k+(na - k) - 1]?=some xl:=by
  rw [el,List.append_assoc,List.append_assoc,List.getElem?_append_right (by lia),List.getElem?_append_left (by lia),show sa+k+(na - k) - 1 - P.length=na - 1 by lia]
  exact exl
 have lexl:∀ x∈X0,Le κ x xl:=fun x hx=>by
  obtain ⟨j,hj,e⟩:=List.getElem_of_mem hx
  exact srt_at sa' (by rw [← e]; exact List.getElem?_eq_getElem hj) exl (by lia)
 have mxl:xl∈a₀.toList:=hm _ (List.mem_of_getElem? mx)
 refine wpS_bind (s_elem (by rw [List.getElem?_toArray]; exact mx) (wpS_bind (s_galL (hint:=nb - 1) C K1 mxl hm (by rw [dY]; exact sb') (by lia) (by lia) fun n2 hn1 hn2 hn3=>?_)))
 rw [dY] at hn3
 have eYt:(l.drop sb).take n2=Y0.take n2:=by
  rw [← dY,List.take_take,show min n2 nb=n2 by lia]
 rw [eYt] at hn2
 dsimp only
 have Y1lt:∀ y∈Y0.take n2,Lb κ y xl=true:=fun y hy=>by
  have:=hn2 y hy
  unfold bey at this; simpa using this
 have Y2ge:∀ y∈Y0.drop n2,Le κ xl y:=fun y hy=>by
  have:=hn3 y hy
  unfold bey at this; exact (show Lb κ y xl=false by simpa using this)
 by_cases g2:n2=0
 ·rw [if_pos (by simpa using g2)]
  refine wpS_pure (here (List.pairwise_append.mpr ⟨sa',sb',fun x hx y hy=>Le.trans (lexl x hx) (Y2ge y ?_)⟩))
  rw [g2,List.drop_zero]; exact hy
 rw [if_neg (by simpa using g2)]
 rw [ex_arr,ex_arr]
 have eX2:(l.drop (sa+k)).take (sb - (sa+k))=X0.drop k:=by
  have e:l.drop (sa+k)=(l.drop sa).drop k:=by rw [List.drop_drop]
  rw [e,show sb - (sa+k)=na - k by lia,← List.drop_take,dX]
 have eY2:(l.drop sb).take (sb+n2 - sb)=Y0.take n2:=by rw [show sb+n2 - sb=n2 by lia,eYt]
 rw [eX2,eY2]
 have sX:(X0.drop k).Pairwise (Le κ):=sa'.sublist (List.drop_sublist _ _)
 have sY:(Y0.take n2).Pairwise (Le κ):=sb'.sublist (List.take_sublist _ _)
 have mX:∀ p∈X0.drop k,p∈a₀.toList:=fun p hp=>hm p (by rw [el]; have:=List.mem_of_mem_drop hp; simp [this])
 have mY:∀ p∈Y0.take n2,p∈a₀.toList:=fun p hp=>hm p (by rw [el]; have:=List.mem_of_mem_take hp; simp [this])
 have lX:0 < (X0.drop k).length:=by rw [List.length_drop]; lia
 have lY:0 < (Y0.take n2).length:=by rw [List.length_take]; lia
 have c0:∀ p,(Y0.take n2)[0]?=some p→∀ x∈X0.drop k,Le κ p x:=fun p hp x hx=>by
  rw [List.getElem?_take,if_pos (by lia),eY1] at hp
  have e:y0=p:=by simpa using hp
  rw [← e]; exact Le.of_lt (X2gt x hx)
 have c1:∀ y∈Y0.take n2,∀ x,(X0.drop k)[(X0.drop k).length - 1]?=some x→Le κ y x:=fun y hy x hx=>by
  rw [List.length_drop,List.getElem?_drop,show k+(X0.length - k - 1)=na - 1 by lia,exl] at hx
  cases hx
  exact Le.of_lt (Y1lt y hy)
 have fin:∀ (M:Array Keyed) (st2:SortSt),St0 (SortSt.mk' (kindOf st) l.toArray (((pendingOf st).setIfInBounds i (sa,na+nb,pw)).eraseIdxIfInBounds (i+1)) (gallopOf st) (failedOf st)) st2→Pst κ (X0.drop k) (Y0.take n2) M.toList →
   Q true (SortSt.mk' (kindOf st2) (M.toList.zipIdx.foldl (fun (a:Array Keyed) (x:Keyed × Nat)=>a.setIfInBounds (sa+k+x.2) x.1) (arrOf st2)) (pendingOf st2) (gallopOf st2) (failedOf st2)):=by
  intro M st2 hs hP
  have eM:M.toList.length=(X0.drop k++Y0.take n2).length:=hP.1.length_eq
  have el2:l=(P++X0.take k)++(X0.drop k++Y0.take n2)++(Y0.drop n2++R):=by
   rw [el]
   conv=>lhs; rw [← List.take_append_drop k X0,← List.take_append_drop n2 Y0]
   simp only [List.append_assoc]
  have ePk:(P++X0.take k).length=sa+k:=by rw [List.length_append,List.length_take]; lia
  have wbe:=wb_list l M.toList _ _ _ el2 eM
  rw [ePk] at wbe
  have e2:arrOf st2=l.toArray:=hs.2.1
  rw [e2,wbe]
  have pl:((P++X0.take k)++M.toList++(Y0.drop n2++R)).Perm l:=by
   refine List.Perm.trans ?_ (List.Perm.of_eq el2.symm)
   exact (List.Perm.append_left _ hP.1).append_right _
  refine h _ ⟨?_,hs.1.trans B.kind,hs.2.2.2.trans B.fail⟩ hs.2.2.1 (fun j hj=>?_) ?_
  ·have p0:=B.perm
   rw [hl] at p0
   exact (Array.perm_iff_toList_perm.mpr (by simpa using pl)).trans p0
  ·show ((P++X0.take k)++M.toList++(Y0.drop n2++R)).toArray[j]?=(arrOf st)[j]?
   rw [hl,el2,List.getElem?_toArray,List.getElem?_toArray]
   have q1:=List.length_append (as:=P) (bs:=X0.take k)
   rcases hj with hj | hj
   ·simp only [List.append_assoc]
    rw [List.getElem?_append_left (by lia),List.getElem?_append_left (by lia)]
   ·have q2:(X0.drop k++Y0.take n2).length=na - k+n2:=by rw [List.length_append,List.length_drop,List.length_take]; lia
    have f:∀ Z:List Keyed,Z.length=na - k+n2→((P++X0.take k)++Z++(Y0.drop n2++R))[j]?=(Y0.drop n2++R)[j - (sa+k+(na - k+n2))]?:=fun Z hZ=>by
     rw [List.getElem?_append_right (by rw [List.length_append,ePk]; lia),List.length_append,ePk,hZ]
    rw [f _ (eM.trans q2),f _ q2]
  ·show Up κ ((P++X0.take k)++M.toList++(Y0.drop n2++R)).toArray sa (na+nb)
   have ll:=pl.length_eq
   rw [up_iff (by lia)]
   have e:((((P++X0.take k)++M.toList++(Y0.drop n2++R))).drop sa).take (na+nb)=X0.take k++(M.toList++Y0.drop n2):=by
    rw [List.append_assoc,List.append_assoc,← eP,List.drop_left]
    have e3:X0.take k++(M.toList++(Y0.drop n2++R))=(X0.take k++(M.toList++Y0.drop n2))++R:=by simp only [List.append_assoc]
    rw [e3]
    have e4:na+nb=(X0.take k++(M.toList++Y0.drop n2)).length:=by
     rw [List.length_append,List.length_append,eM,List.length_append,List.length_take,List.length_drop,List.length_take,List.length_drop]; lia
    rw [e4,List.take_left]
   rw [e]
   have cross:∀ x∈X0.take k,∀ z∈X0.drop k,Le κ x z:=fun x hx z hz=>by
    have:=sa'
    rw [← List.take_append_drop k X0] at this
    exact (List.pairwise_append.mp this).2.2 x hx z hz
   have crossY:∀ x∈Y0.take n2,∀ z∈Y0.drop n2,Le κ x z:=fun x hx z hz=>by
    have:=sb'
    rw [← List.take_append_drop n2 Y0] at this
    exact (List.pairwise_append.mp this).2.2 x hx z hz
   refine List.pairwise_append.mpr ⟨sa'.sublist (List.take_sublist _ _),List.pairwise_append.mpr ⟨hP.2,sb'.sublist (List.drop_sublist _ _),fun x hx y hy=>?_⟩,fun x hx y hy=>?_⟩
   ·rcases List.mem_append.mp (hP.1.mem_iff.mp hx) with z | z
    ·exact Le.trans (lexl x (List.mem_of_mem_drop z)) (Y2ge y hy)
    ·exact crossY x z y hy
   ·rcases List.mem_append.mp hy with z | z
    ·rcases List.mem_append.mp (hP.1.mem_iff.mp z) with z | z
     ·exact cross x hx y z
     ·exact Le.trans (X1le x hx) (y0le y (List.mem_of_mem_take z))
    ·exact Le.trans (X1le x hx) (y0le y (List.mem_of_mem_drop z))
 have out:∀ (M:Array Keyed) (st2:SortSt),St0 (SortSt.mk' (kindOf st) l.toArray (((pendingOf st).setIfInBounds i (sa,na+nb,pw)).eraseIdxIfInBounds (i+1)) (gallopOf st) (failedOf st)) st2→failedOf st2=none:=fun M st2 hs=>hs.2.2.2.trans B.fail
 by_cases g3:na - k≤n2
 case' pos=>rw [if_pos g3]
 case' neg=>rw [if_neg g3]
 case' pos=>refine wpS_bind (s_mLo C K1 mX mY sX sY lX lY c0 c1 fun M st2 hs hP=>?_)
 case' neg=>refine wpS_bind (s_mHi C K1 mX mY sX sY lX lY c0 c1 fun M st2 hs hP=>?_)
 all_goals
  refine wpS_bind (wpS_modify (wpS_bind (wpS_get (wpS_pure ?_))))
  have e:=out M st2 hs
  have f:=fin M st2 hs hP
  show Q (failedOf st2).isNone _
  rw [e]
  exact f
end
end TS
end
section
namespace TS
open PySem PyProof.Rows
def Rs (κ:KeyKind) (xs:Array Keyed):Nat→List (Nat × Nat × Nat)→Nat→Prop
 | a,[],b=>a=b
 | a,r :: l,b=>r.1=a∧1≤r.2.1∧Up κ xs a r.2.1∧Rs κ xs (a+r.2.1) l b
section
variable {κ:KeyKind} {xs ys:Array Keyed}
theorem Rs.app:∀ {p q:List (Nat × Nat × Nat)} {a b:Nat},Rs κ xs a (p++q) b ↔ ∃ m,Rs κ xs a p m∧Rs κ xs m q b
 | [],q,a,b=>⟨fun h=>⟨a,rfl,h⟩,fun ⟨m,e,h⟩=>by cases e; exact h⟩
 | r :: p,q,a,b=>⟨fun ⟨h1,h2,h3,h4⟩=>let ⟨m,x,y⟩:=Rs.app.mp h4; ⟨m,⟨h1,h2,h3,x⟩,y⟩,fun ⟨m,⟨h1,h2,h3,x⟩,y⟩=>⟨h1,h2,h3,Rs.app.mpr ⟨m,x,y⟩⟩⟩
theorem Rs.len:∀ {p:List (Nat × Nat × Nat)} {a b:Nat},Rs κ xs a p b→a+p.length≤b
 | [],a,b,h=>by cases h; simp
 | r :: p,a,b,⟨h1,h2,h3,h4⟩=>by
  have:=Rs.len h4
  rw [List.length_cons]; lia
theorem up_keep {lo n:Nat} (h:Up κ xs lo n) (e:∀ k,lo≤k→k < lo+n→ys[k]?=xs[k]?):Up κ ys lo n:=fun i j a b c=>by
 rw [KK_congr (e i a (by lia)),KK_congr (e j (by lia) c)]; exact h i j a b c
theorem Rs.keep:∀ {p:List (Nat × Nat × Nat)} {a b:Nat},Rs κ xs a p b→(∀ k,a≤k→k < b→ys[k]?=xs[k]?)→Rs κ ys a p b
 | [],a,b,h,_=>h
 | r :: p,a,b,⟨h1,h2,h3,h4⟩,e=>by
  have:=h4.len
  exact ⟨h1,h2,up_keep h3 fun k c d=>e k c (by lia),Rs.keep h4 fun k c d=>e k (by lia) d⟩
theorem two_at {α:Type} {l:List α} {i:Nat} (h:i+1 < l.length):∃ p x y q,l=p++x :: y :: q∧p.length=i:=by
 refine ⟨l.take i,l[i],l[i+1],l.drop (i+2),?_,by rw [List.length_take]; lia⟩
 have e1:=List.drop_eq_getElem_cons (l:=l) (i:=i) (by lia)
 have e2:=List.drop_eq_getElem_cons (l:=l) (i:=i+1) h
 rw [← e2,← e1,List.take_append_drop]
end
section
variable {prog:Program} {w:World} {A:Around} {E:Value→Shared→Prop} {s:Shared} {κ:KeyKind} {kd:SortKind} {a₀:Array Keyed} {st:SortSt}
theorem s_mAtR (C:Cmp prog w A s κ kd a₀) (B:SB kd a₀ st) {i hi:Nat} {Q:Bool→SortSt→Prop} (R:Rs κ (arrOf st) 0 (pendingOf st).toList hi) (hh:hi≤a₀.size) (h2:i+1 < (pendingOf st).size)
  (h:∀ st',SB kd a₀ st'→Rs κ (arrOf st') 0 (pendingOf st').toList hi→(pendingOf st').size+1=(pendingOf st).size→(∀ k,hi≤k→(arrOf st')[k]?=(arrOf st)[k]?)→Q true st') :
  wpS (model prog w) A E s (mergeAt' i) Q st:=by
 obtain ⟨l,hl⟩:∃ l,pendingOf st=l.toArray:=⟨(pendingOf st).toList,by simp⟩
 rw [hl] at R h2
 have R0:Rs κ (arrOf st) 0 l hi:=R
 have h2':i+1 < l.length:=h2
 obtain ⟨p,⟨sa,na,pw⟩,⟨sb,nb,pw2⟩,q,e,ep⟩:=two_at h2'
 rw [e] at R0
 obtain ⟨m,Rp,⟨e1,n1,u1,⟨e2,n2,u2,Rq⟩⟩⟩:=Rs.app.mp R0
 dsimp only at e1 n1 u1 e2 n2 u2 Rq
 have lp:=Rp.len
 have lq:=Rq.len
 have g1:(pendingOf st)[i]?=some (sa,na,pw):=by rw [hl,List.getElem?_toArray,e,← ep,List.getElem?_append_right (Nat.le_refl _),Nat.sub_self]; rfl
 have g2:(pendingOf st)[i+1]?=some (sb,nb,pw2):=by rw [hl,List.getElem?_toArray,e,← ep,List.getElem?_append_right (by lia),show p.length+1 - p.length=1 by lia]; rfl
 subst e1
 refine s_mAt C B g1 g2 (by lia) n1 n2 (by lia) u1 (e2 ▸ u2) fun st' B' ep' kp u'=>?_
 have el:(pendingOf st').toList=p++(sa,na+nb,pw) :: q:=by
  rw [ep',hl,e]
  have a1:((p++(sa,na,pw) :: (sb,nb,pw2) :: q).toArray.setIfInBounds i (sa,na+nb,pw))=(p++(sa,na+nb,pw) :: (sb,nb,pw2) :: q).toArray:=by
   rw [List.setIfInBounds_toArray,List.set_append_right _ _ (by lia),show i - p.length=0 by lia]; rfl
  rw [a1]
  have a2:i+1 < (p++(sa,na+nb,pw) :: (sb,nb,pw2) :: q).toArray.size:=by simp; lia
  rw [Array.eraseIdxIfInBounds_eq,dif_pos a2]
  rw [List.eraseIdx_toArray]
  rw [List.eraseIdx_append_of_length_le (by lia),show i+1 - p.length=1 by lia]
  rfl
 refine h st' B' ?_ ?_ fun k hk=>kp k (.inr (by lia))
 ·rw [el]
  refine Rs.app.mpr ⟨sa,Rp.keep fun k a b=>kp k (.inl b),rfl,by dsimp only; lia,u',?_⟩
  dsimp only
  rw [← Nat.add_assoc]
  exact Rq.keep fun k a b=>kp k (.inr (by lia))
 ·have e3:(pendingOf st').size=(p++(sa,na+nb,pw) :: q).length:=by rw [← el]; simp
  rw [e3,hl,e]; simp; lia
end
end TS
end
section
namespace TS
open PySem PyProof.Rows
theorem Rs.modify {κ:KeyKind} {xs:Array Keyed}:∀ {p:List (Nat × Nat × Nat)} {a b:Nat},Rs κ xs a p b→∀ (i:Nat) (f:Nat × Nat × Nat→Nat × Nat × Nat),(∀ r,(f r).1=r.1∧(f r).2.1=r.2.1)→Rs κ xs a (p.modify i f) b
 | [],a,b,h,i,f,hf=>by cases i <;> exact h
 | r :: p,a,b,⟨h1,h2,h3,h4⟩,0,f,hf=>by
  refine ⟨(hf r).1.trans h1,by rw [(hf r).2]; exact h2,by rw [(hf r).2]; exact h3,by rw [(hf r).2]; exact h4⟩
 | r :: p,a,b,⟨h1,h2,h3,h4⟩,i+1,f,hf=>⟨h1,h2,h3,Rs.modify h4 i f hf⟩
section
variable {prog:Program} {w:World} {A:Around} {E:Value→Shared→Prop} {s:Shared} {κ:KeyKind} {kd:SortKind} {a₀:Array Keyed} {st:SortSt}
theorem s_all (C:Cmp prog w A s κ kd a₀) (B:SB kd a₀ st) (hp:pendingOf st=#[]) {Q:Unit→SortSt→Prop} (h:∀ st',SB kd a₀ st'→Up κ (arrOf st') 0 a₀.size→Q () st'):wpS (model prog w) A E s sortRuns' Q st:=by
 rw [sortRuns'_eq]
 refine wpS_bind (wpS_get ?_)
 dsimp only
 simp only [B.size]
 refine wpS_bind (wpS_mono (wpS_forRange (I:=fun x c st'=>∃ lo,c=(none,lo)∧SB kd a₀ st'∧Rs κ (arrOf st') 0 (pendingOf st').toList lo∧lo≤a₀.size∧(x≤lo∨lo=a₀.size))
  (Q:=fun c st'=>c=(none,a₀.size)∧SB kd a₀ st'∧Rs κ (arrOf st') 0 (pendingOf st').toList a₀.size) ?_ ?_ ⟨0,rfl,B,by rw [hp]; rfl,by lia,by lia⟩) ?_)
 ·rintro x c st1 _ hx ⟨lo,rfl,B1,R1,h1,h2⟩
  dsimp only
  by_cases g1:lo ≥ a₀.size
  ·rw [if_pos g1]
   have e:lo=a₀.size:=by lia
   subst e
   exact wpS_pure ⟨rfl,B1,R1⟩
  rw [if_neg g1]
  refine wpS_bind (s_count C B1 (by lia) (by lia) fun n st2 ⟨B2,p2,k2,n1,n2,U2⟩=>?_)
  have R2:Rs κ (arrOf st2) 0 (pendingOf st2).toList lo:=by rw [p2]; exact R1.keep fun k a b=>k2 k b
  dsimp only
  by_cases g2:n < minRun' a₀.size a₀.size 0
  ·rw [if_pos g2]
   refine wpS_bind (wpS_lift (wpAny_rule ⟨rfl,?_⟩))
   refine wpS_bind (s_bin C B2 (by lia) (by lia) n1 U2 fun st3 B3 p3 k3 U3=>?_)
   simp only [Bool.not_true,Bool.false_eq_true,if_false]
   have R3:Rs κ (arrOf st3) 0 (pendingOf st3).toList lo:=by rw [p3]; exact R2.keep fun k a b=>k3 k b
   have mn:1≤min (a₀.size - lo) (minRun' a₀.size a₀.size 0):=by lia
   refine wpS_bind (wpS_get ?_)
   have fin:∀ st4:SortSt,SB kd a₀ st4→Rs κ (arrOf st4) 0 (pendingOf st4).toList lo→Up κ (arrOf st4) lo (min (a₀.size - lo) (minRun' a₀.size a₀.size 0))→
     ∃ lo',(ForInStep.yield ((none:Option Unit),lo+min (a₀.size - lo) (minRun' a₀.size a₀.size 0)))=ForInStep.yield (none,lo')∧SB kd a₀ (setPending st4 ((pendingOf st4).push (lo,min (a₀.size - lo) (minRun' a₀.size a₀.size 0),0)))∧Rs κ (arrOf st4) 0 ((pendingOf st4).push (lo,min (a₀.size - lo) (minRun' a₀.size a₀.size 0),0)).toList lo'∧lo'≤a₀.size∧(x+1≤lo'∨lo'=a₀.size):=fun st4 B4 R4 U4=>by
    refine ⟨lo+min (a₀.size - lo) (minRun' a₀.size a₀.size 0),rfl,⟨B4.perm,B4.kind,B4.fail⟩,?_,by lia,by lia⟩
    rw [Array.toList_push]
    exact Rs.app.mpr ⟨lo,R4,rfl,by dsimp only; lia,U4,rfl⟩
   cases hb:(pendingOf st3).back? with
   | none =>
    dsimp only
    obtain ⟨lo',e1,e2,e3,e4,e5⟩:=fin st3 B3 R3 U3
    exact wpS_bind (wpS_modify (wpS_pure ⟨lo+min (a₀.size - lo) (minRun' a₀.size a₀.size 0),rfl,e2,by cases e1; exact e3,by cases e1; exact e4,by cases e1; exact e5⟩))
   | some bk =>
    obtain ⟨s1,n1,o1⟩:=bk
    dsimp only
    have hpos:0 < (pendingOf st3).size:=by
     rcases Nat.eq_zero_or_pos (pendingOf st3).size with z | z
     ·rw [Array.eq_empty_of_size_eq_zero z] at hb; cases hb
     ·exact z
    refine wpS_bind (wpS_mono (wpS_forRange (I:=fun _ c st'=>c=(none,())∧SB kd a₀ st'∧Rs κ (arrOf st') 0 (pendingOf st').toList lo∧0 < (pendingOf st').size∧Up κ (arrOf st') lo (min (a₀.size - lo) (minRun' a₀.size a₀.size 0)))
     (Q:=fun c st'=>c=(none,())∧SB kd a₀ st'∧Rs κ (arrOf st') 0 (pendingOf st').toList lo∧0 < (pendingOf st').size∧Up κ (arrOf st') lo (min (a₀.size - lo) (minRun' a₀.size a₀.size 0))) ?_ (fun c st' z=>z) ⟨rfl,B3,R3,hpos,U3⟩) ?_)
    ·rintro y c st3 _ _ ⟨rfl,B3,R3,p3,U3⟩
     refine wpS_bind (wpS_get ?_)
     by_cases g2:(pendingOf st3).size > 1
     ·have g2':(pendingOf st3).size > 1:=g2
      rw [if_pos g2']
      have ⟨o,eo⟩:∃ o,(pendingOf st3)[(pendingOf st3).size - 2]?=some o:=⟨_,getElem?_pos _ _ (by lia)⟩
      rw [eo]
      obtain ⟨o1,o2,o3⟩:=o
      dsimp only
      split
      ·exact wpS_pure ⟨rfl,B3,R3,p3,U3⟩
      ·refine wpS_bind (s_mAtR C B3 R3 (by lia) (by have:=g2; lia) fun st4 B4 R4 p4 k4=>?_)
       simp only [Bool.not_true,Bool.false_eq_true,if_false]
       exact wpS_pure ⟨rfl,B4,R4,by lia,up_keep U3 fun k a b=>k4 k a⟩
     ·have g2':¬ (pendingOf st3).size > 1:=g2
      rw [if_neg g2']
      exact wpS_pure ⟨rfl,B3,R3,p3,U3⟩
    ·rintro c st3 ⟨rfl,B3,R3,p3,U3⟩
     dsimp only
     refine wpS_bind (wpS_modify ?_)
     have R4:∀ pw,Rs κ (arrOf st3) 0 ((pendingOf st3).modify ((pendingOf st3).size - 1) fun x=>match x with | (st,len,_)=>(st,len,pw)).toList lo:=fun pw=>by
      rw [Array.toList_modify]
      exact Rs.modify R3 _ _ fun r=>⟨rfl,rfl⟩
     obtain ⟨lo',e1,e2,e3,e4,e5⟩:=fin (setPending st3 ((pendingOf st3).modify ((pendingOf st3).size - 1) fun x=>match x with | (st,len,_)=>(st,len,power' a₀.size (2 * s1+n1) (2 * s1+n1+n1+min (a₀.size - lo) (minRun' a₀.size a₀.size 0)) a₀.size))) ⟨B3.perm,B3.kind,B3.fail⟩ (R4 _) U3
     refine wpS_bind (wpS_modify (wpS_pure ⟨lo+min (a₀.size - lo) (minRun' a₀.size a₀.size 0),rfl,⟨B3.perm,B3.kind,B3.fail⟩,?_,by cases e1; exact e4,by cases e1; exact e5⟩))
     cases e1
     exact e3
  ·rw [if_neg g2]
   refine wpS_bind (wpS_get ?_)
   have fin:∀ st4:SortSt,SB kd a₀ st4→Rs κ (arrOf st4) 0 (pendingOf st4).toList lo→Up κ (arrOf st4) lo (n)→
     ∃ lo',(ForInStep.yield ((none:Option Unit),lo+n))=ForInStep.yield (none,lo')∧SB kd a₀ (setPending st4 ((pendingOf st4).push (lo,n,0)))∧Rs κ (arrOf st4) 0 ((pendingOf st4).push (lo,n,0)).toList lo'∧lo'≤a₀.size∧(x+1≤lo'∨lo'=a₀.size):=fun st4 B4 R4 U4=>by
    refine ⟨lo+n,rfl,⟨B4.perm,B4.kind,B4.fail⟩,?_,by lia,by lia⟩
    rw [Array.toList_push]
    exact Rs.app.mpr ⟨lo,R4,rfl,by dsimp only; lia,U4,rfl⟩
   cases hb:(pendingOf st2).back? with
   | none =>
    dsimp only
    obtain ⟨lo',e1,e2,e3,e4,e5⟩:=fin st2 B2 R2 U2
    exact wpS_bind (wpS_modify (wpS_pure ⟨lo+n,rfl,e2,by cases e1; exact e3,by cases e1; exact e4,by cases e1; exact e5⟩))
   | some bk =>
    obtain ⟨s1,n1,o1⟩:=bk
    dsimp only
    have hpos:0 < (pendingOf st2).size:=by
     rcases Nat.eq_zero_or_pos (pendingOf st2).size with z | z
     ·rw [Array.eq_empty_of_size_eq_zero z] at hb; cases hb
     ·exact z
    refine wpS_bind (wpS_mono (wpS_forRange (I:=fun _ c st'=>c=(none,())∧SB kd a₀ st'∧Rs κ (arrOf st') 0 (pendingOf st').toList lo∧0 < (pendingOf st').size∧Up κ (arrOf st') lo (n))
     (Q:=fun c st'=>c=(none,())∧SB kd a₀ st'∧Rs κ (arrOf st') 0 (pendingOf st').toList lo∧0 < (pendingOf st').size∧Up κ (arrOf st') lo (n)) ?_ (fun c st' z=>z) ⟨rfl,B2,R2,hpos,U2⟩) ?_)
    ·rintro y c st3 _ _ ⟨rfl,B3,R3,p3,U3⟩
     refine wpS_bind (wpS_get ?_)
     by_cases g2:(pendingOf st3).size > 1
     ·have g2':(pendingOf st3).size > 1:=g2
      rw [if_pos g2']
      have ⟨o,eo⟩:∃ o,(pendingOf st3)[(pendingOf st3).size - 2]?=some o:=⟨_,getElem?_pos _ _ (by lia)⟩
      rw [eo]
      obtain ⟨o1,o2,o3⟩:=o
      dsimp only
      split
      ·exact wpS_pure ⟨rfl,B3,R3,p3,U3⟩
      ·refine wpS_bind (s_mAtR C B3 R3 (by lia) (by have:=g2; lia) fun st4 B4 R4 p4 k4=>?_)
       simp only [Bool.not_true,Bool.false_eq_true,if_false]
       exact wpS_pure ⟨rfl,B4,R4,by lia,up_keep U3 fun k a b=>k4 k a⟩
     ·have g2':¬ (pendingOf st3).size > 1:=g2
      rw [if_neg g2']
      exact wpS_pure ⟨rfl,B3,R3,p3,U3⟩
    ·rintro c st3 ⟨rfl,B3,R3,p3,U3⟩
     dsimp only
     refine wpS_bind (wpS_modify ?_)
     have R4:∀ pw,Rs κ (arrOf st3) 0 ((pendingOf st3).modify ((pendingOf st3).size - 1) fun x=>match x with | (st,len,_)=>(st,len,pw)).toList lo:=fun pw=>by
      rw [Array.toList_modify]
      exact Rs.modify R3 _ _ fun r=>⟨rfl,rfl⟩
     obtain ⟨lo',e1,e2,e3,e4,e5⟩:=fin (setPending st3 ((pendingOf st3).modify ((pendingOf st3).size - 1) fun x=>match x with | (st,len,_)=>(st,len,power' a₀.size (2 * s1+n1) (2 * s1+n1+n1+n) a₀.size))) ⟨B3.perm,B3.kind,B3.fail⟩ (R4 _) U3
     refine wpS_bind (wpS_modify (wpS_pure ⟨lo+n,rfl,⟨B3.perm,B3.kind,B3.fail⟩,?_,by cases e1; exact e4,by cases e1; exact e5⟩))
     cases e1
     exact e3
 ·rintro c st1 ⟨lo,rfl,B1,R1,h1,h2⟩
  have e:lo=a₀.size:=by lia
  subst e
  exact ⟨rfl,B1,R1⟩
 ·rintro c st1 ⟨rfl,B1,R1⟩
  dsimp only
  refine wpS_bind (wpS_mono (wpS_forRange (I:=fun x c st'=>c=(none,())∧SB kd a₀ st'∧Rs κ (arrOf st') 0 (pendingOf st').toList a₀.size∧((pendingOf st').size≤1∨(pendingOf st').size+x≤a₀.size))
   (Q:=fun c st'=>c=(none,())∧SB kd a₀ st'∧Rs κ (arrOf st') 0 (pendingOf st').toList a₀.size∧(pendingOf st').size≤1) ?_ ?_ ⟨rfl,B1,R1,?_⟩) ?_)
  ·rintro x c st2 _ hx ⟨rfl,B2,R2,h2⟩
   refine wpS_bind (wpS_get ?_)
   by_cases g1:(pendingOf st2).size≤1
   ·rw [if_pos g1]
    exact wpS_pure ⟨rfl,B2,R2,g1⟩
   ·rw [if_neg g1]
    refine wpS_bind (s_mAtR C B2 R2 (Nat.le_refl _) ?_ fun st3 B3 R3 p3 k3=>?_)
    ·have it:∀ (c:Prop) [Decidable c] (n:Nat),1 < n→(if c then n - 2 - 1 else n - 2)+1 < n:=fun c _ n h=>by split <;> lia
     exact it _ _ (by lia)
    ·simp only [Bool.not_true,Bool.false_eq_true,if_false]
     exact wpS_pure ⟨rfl,B3,R3,by lia⟩
  ·rintro c st2 ⟨rfl,B2,R2,h2⟩
   exact ⟨rfl,B2,R2,by lia⟩
  ·have:=R1.len
   right
   simp only [Array.length_toList] at this
   lia
  ·rintro c st2 ⟨rfl,B2,R2,h2⟩
   refine wpS_pure (h st2 B2 ?_)
   generalize el:(pendingOf st2).toList=l at R2
   have ell:l.length≤1:=by rw [← el]; simpa using h2
   cases l with
   | nil =>
    have e:0=a₀.size:=R2
    intro i j a b c
    lia
   | cons r l =>
    obtain ⟨e1,e2,u,R⟩:=R2
    have e0:l=[]:=by
     cases l with
     | nil=>rfl
     | cons _ _=>simp at ell
    subst e0
    have e3:0+r.2.1=a₀.size:=R
    rw [Nat.zero_add] at e3
    rw [← e3]; exact u
end
end TS
end
section
namespace TS
open PySem PyProof.Rows
section
variable {prog:Program} {w:World} {A:Around} {E:Value→Shared→Prop} {s:Shared} {κ:KeyKind} {kd:SortKind}
theorem ls_any {a:Addr} {vs:List Value} {n:Nat} {P:Fin→Shared→Prop} (ho:s.heap.get? a=some (seqObj "list" vs.toArray n)) (hn:vs.length≤sizeLine)
  (hkk:∀ h':Heap,(∀ b o,b≠a→s.heap.get? b=some o→h'.get? b=some o)→2≤vs.length→∀ Q:SortKind→Shared→Prop,Q kd { s with heap:=h' }→wpAny (model prog w) A (keyKind' vs.toArray) Q E { s with heap:=h' })
  (hC:∀ h':Heap,(∀ b o,b≠a→s.heap.get? b=some o→h'.get? b=some o)→2≤vs.length→Cmp prog w A { s with heap:=h' } κ kd (pairsOf vs))
  (h:∀ st':SortSt,(arrOf st').Perm (pairsOf vs)→Up κ (arrOf st') 0 (pairsOf vs).size→P (.done (.ret .none)) { s with heap:=sortedHeap s.heap a vs ((arrOf st').map (·.2)) }) :
  wpAny (model prog w) A (Builtin.«list.sort» ⟨[.ref a],[]⟩) P E s:=by
 rw [list_sort_plain]
 have ha:a < s.heap.objs.size:=Heap.lt_size ho
 refine wpAny_bind (listItems_at ho rfl ?_)
 refine wpAny_bind (listUpdate_at ho rfl ?_ (hsz:=by simpa using hn))
 obtain ⟨e1,ho1⟩:∃ e1,(s.heap.update a (Obj.mapSeq fun _=>#[])).get? a=some (seqObj "list" #[] e1):=⟨_,get?_update_seq ho (fun _=>#[])⟩
 refine wpAny_bind (seqEpoch_at ho1 rfl ?_)
 refine wpAny_bind (wpAny_newTuple ?_)
 refine wpAny_bind (wpAny_newList ?_)
 refine wpAny_holding ?_
 have ho6:(((s.heap.update a (Obj.mapSeq fun _=>#[])).push (seqObj "tuple" vs.toArray 0)).push (seqObj "list" #[] 0)).get? a=some (seqObj "list" #[] e1):=by
  rw [Heap.get?_push_ne _ _ _ (by rw [size_push',Heap.size_update]; exact Nat.ne_of_lt (Nat.lt_succ_of_lt ha)),Heap.get?_push_ne _ _ _ (by rw [Heap.size_update]; exact Nat.ne_of_lt ha)]
  exact ho1
 have keep:∀ b o,b≠a→s.heap.get? b=some o→(((s.heap.update a (Obj.mapSeq fun _=>#[])).push (seqObj "tuple" vs.toArray 0)).push (seqObj "list" #[] 0)).get? b=some o:=fun b o hb e=>by
  have hlt:=Heap.lt_size e
  rw [Heap.get?_push_ne _ _ _ (by rw [size_push',Heap.size_update]; exact Nat.ne_of_lt (Nat.lt_succ_of_lt hlt)),Heap.get?_push_ne _ _ _ (by rw [Heap.size_update]; exact Nat.ne_of_lt hlt),Heap.get?_update_ne _ _ _ _ hb]
  exact e
 show wpAny (model prog w) A _ P E { s with heap:=((s.heap.update a (Obj.mapSeq fun _=>#[])).push (seqObj "tuple" vs.toArray 0)).push (seqObj "list" #[] 0) }
 dsimp only
 have hsz:vs.toArray.size=vs.length:=by simp
 by_cases h2:vs.toArray.size < 2
 ·rw [if_pos h2,if_pos h2]
  refine wpAny_bind (wpAny_pure ?_)
  rw [StateT.run_pure]
  refine wpAny_bind (wpAny_pure ?_)
  dsimp only
  refine wpAny_bind (seqEpoch_at ho6 rfl ?_)
  refine wpAny_bind (listUpdate_at ho6 rfl ?_ (hsz2:=by rw [Array.size_map]; show (pairsOf vs).size≤_; rw [pairsOf_size]; lia))
  simp only [bne_self_eq_false,Bool.false_eq_true,if_false]
  refine wpAny_pure (h (SortSt.mk' general' (vs.toArray.zip vs.toArray) #[] 7 none) (Array.Perm.refl _) ?_)
  intro i j _ hij hj
  have:i=j:=by rw [pairsOf_size] at hj; lia
  subst this; exact KeyOrd.kle_refl _
 ·rw [if_neg h2,if_neg h2]
  refine wpAny_bind (hkk _ keep (by lia) _ ?_)
  refine wpAny_bind (wpAny_mono (s_all (E:=E) (hC _ keep (by lia)) (a₀:=pairsOf vs) (st:=SortSt.mk' kd (vs.toArray.zip vs.toArray) #[] 7 none)
   (Q:=fun _ st'=>SB kd (pairsOf vs) st'∧Up κ (arrOf st') 0 (pairsOf vs).size) ⟨Array.Perm.refl _,rfl,rfl⟩ rfl fun st' a1 a2=>⟨a1,a2⟩) ?_ fun _ _ e=>e)
  rintro ⟨⟨⟩,st'⟩ s' ⟨rfl,B,U⟩
  dsimp only
  refine wpAny_bind (seqEpoch_at ho6 rfl ?_)
  refine wpAny_bind (listUpdate_at ho6 rfl ?_ (hsz2:=by refine Nat.le_trans (Nat.le_of_eq ((Array.size_map ..).trans (B.perm.size_eq.trans (pairsOf_size _)))) ?_; lia))
  rw [B.fail]
  simp only [bne_self_eq_false,Bool.false_eq_true,if_false]
  exact wpAny_pure (h st' B.perm U)
theorem sorted_any {l:Addr} {vs:List Value} {Q:Value→Shared→Prop} (hl:s.heap.IsList l vs.toArray) (hn:vs.length≤sizeLine)
  (hkk:∀ h':Heap,(∀ b o,s.heap.get? b=some o→h'.get? b=some o)→2≤vs.length→∀ (E:Value→Shared→Prop) (A:Around) (Q:SortKind→Shared→Prop),Q kd { s with heap:=h' }→wpAny (model prog w) A (keyKind' vs.toArray) Q E { s with heap:=h' })
  (hC:∀ h':Heap,(∀ b o,s.heap.get? b=some o→h'.get? b=some o)→2≤vs.length→∀ A:Around,Cmp prog w A { s with heap:=h' } κ kd (pairsOf vs))
  (h:∀ st':SortSt,(arrOf st').Perm (pairsOf vs)→Up κ (arrOf st') 0 (pairsOf vs).size→Q (.ref (s.heap.objs.size+1)) { s with heap:=sortedAll s.heap vs ((arrOf st').map (·.2)) }) :
  wpAny (model prog w) A (call (.builtin "sorted") [.ref l]) Q E s:=by
 refine Calls.call_function_entry kind_sorted plain_sorted entry_sorted (args_sorted1 _) ?_
 unfold Builtin.«sorted»
 refine wpAny_bind (m:=checkCount "sorted" 1 1 _) (wpAny_pure ?_)
 refine wpAny_bind (collect_list hl ?_)
 refine wpAny_bind (wpAny_newList ?_)
 have hsz:((s.heap.push (seqObj "list" #[] 0)).update s.heap.objs.size (Obj.mapSeq (·++vs.toArray))).objs.size=s.heap.objs.size+1:=by
  rw [Heap.size_update,size_push']
 have hoL:(((s.heap.push (seqObj "list" #[] 0)).update s.heap.objs.size (Obj.mapSeq (·++vs.toArray))).push (seqObj "list" vs.toArray 0)).get? (s.heap.objs.size+1)=some (seqObj "list" vs.toArray 0):=by
  rw [← hsz]; exact Heap.get?_push_size _ rfl
 have keep:∀ b o,s.heap.get? b=some o→(((s.heap.push (seqObj "list" #[] 0)).update s.heap.objs.size (Obj.mapSeq (·++vs.toArray))).push (seqObj "list" vs.toArray 0)).get? b=some o:=fun b o e=>by
  have hlt:=Heap.lt_size e
  rw [Heap.get?_push_ne _ _ _ (by rw [hsz]; exact Nat.ne_of_lt (Nat.lt_succ_of_lt hlt)),Heap.get?_update_ne _ _ _ _ (Nat.ne_of_lt hlt),Heap.get?_push_ne _ _ _ (Nat.ne_of_lt hlt)]
  exact e
 have nb:∀ b o,s.heap.get? b=some o→b≠s.heap.objs.size+1:=fun b o e=>Nat.ne_of_lt (Nat.lt_succ_of_lt (Heap.lt_size e))
 show wpAny _ _ _ _ _ { s with heap:=((s.heap.push (seqObj "list" #[] 0)).update s.heap.objs.size (Obj.mapSeq (·++vs.toArray))).push (seqObj "list" vs.toArray 0) }
 rw [hsz]
 refine wpAny_bind (wpAny_holding (wpAny_call_entry slot_list_sort ⟨_,hoL,rfl⟩ entry_list_sort (ls_any hoL hn (fun h' k g Q q=>hkk h' (fun b o e=>k b o (nb b o e) (keep b o e)) g _ _ Q q) (fun h' k g=>hC h' (fun b o e=>k b o (nb b o e) (keep b o e)) g _) fun st' a1 a2=>⟨_,rfl,?_⟩) (args_list_sort _)))
 exact wpAny_pure ⟨_,rfl,h st' a1 a2⟩
end
end TS
end
section

set_option Elab.async false
namespace L2
open PySem PySem.Spec PyProof.Rows
abbrev Key:=Sum Int Str
def keyIs:Key→Value→Bool
 | .inl k,v=>Value.isInt k v
 | .inr x,v=>Value.isStrOf x v
def keyH (w:World):Key→Int
 | .inl k=>hashInt k
 | .inr x=>hashStr w x
theorem keyIs_shape:∀ {k:Key} {v:Value},keyIs k v=true→(∃ i t,k=Sum.inl i∧v=Value.int i t)∨(∃ x t,k=Sum.inr x∧v=Value.str x t)
 | .inl i,v,h=>by
  obtain ⟨t,e⟩:=Value.isInt_shape (k:=i) (v:=v) h
  exact .inl ⟨i,t,rfl,e⟩
 | .inr x,v,h=>by
  obtain ⟨t,e⟩:=Value.isStrOf_shape (x:=x) (v:=v) h
  exact .inr ⟨x,t,rfl,e⟩
theorem keyIs_int (i:Int) (t:Tok):keyIs (.inl i) (.int i t)=true:=by simp [keyIs,Value.isInt]
theorem keyIs_str (x:Str) (t:Tok):keyIs (.inr x) (.str x t)=true:=by simp [keyIs,Value.isStrOf]
theorem key_ll (a b:Int):decide ((Sum.inl a:Key)=Sum.inl b)=(a == b):=by
 by_cases e:a=b
 ·subst e; simp
 ·have h:¬ (Sum.inl a:Key)=Sum.inl b:=fun q=>e (Sum.inl.inj q)
  rw [decide_eq_false h]
  exact (beq_eq_false_iff_ne.mpr e).symm
theorem key_rr (a b:Str):decide ((Sum.inr a:Key)=Sum.inr b)=decide (a=b):=by
 by_cases e:a=b
 ·subst e; simp
 ·have h:¬ (Sum.inr a:Key)=Sum.inr b:=fun q=>e (Sum.inr.inj q)
  rw [decide_eq_false h,decide_eq_false e]
theorem key_lr (a:Int) (b:Str):decide ((Sum.inl a:Key)=Sum.inr b)=false:=decide_eq_false (fun q=>nomatch q)
theorem key_rl (a:Str) (b:Int):decide ((Sum.inr a:Key)=Sum.inl b)=false:=decide_eq_false (fun q=>nomatch q)
def mixKind (prog:Program) (w:World):PySem.KeyKind prog w Key where
 is:=keyIs
 hash:=keyH w
 inj:=fun v a b ha hb=>by
  rcases keyIs_shape ha with ⟨i,t,rfl,rfl⟩ | ⟨x,t,rfl,rfl⟩
  ·rcases keyIs_shape hb with ⟨j,u,rfl,e⟩ | ⟨y,u,rfl,e⟩
   ·injection e with e1 _; rw [e1]
   ·exact nomatch e
  ·rcases keyIs_shape hb with ⟨j,u,rfl,e⟩ | ⟨y,u,rfl,e⟩
   ·exact nomatch e
   ·injection e with e1 _; rw [e1]
 byValue:=fun k v h=>by
  rcases keyIs_shape h with ⟨i,t,rfl,rfl⟩ | ⟨x,t,rfl,rfl⟩ <;> rfl
 pyHash:=fun hv h=>by
  rcases keyIs_shape hv with ⟨i,t,rfl,rfl⟩ | ⟨x,t,rfl,rfl⟩
  ·exact wpAny_pyHash_int h
  ·exact wpAny_pyHash_str h
 eqBool:=fun hu hv h=>by
  rcases keyIs_shape hu with ⟨i,t,rfl,rfl⟩ | ⟨x,t,rfl,rfl⟩
  ·rcases keyIs_shape hv with ⟨j,u,rfl,rfl⟩ | ⟨y,u,rfl,rfl⟩
   ·rw [key_ll] at h; exact wpAny_eqBool_int h
   ·rw [key_lr] at h; exact SeqAt.EqAt.int_str i t y u _ _ _ _ h
  ·rcases keyIs_shape hv with ⟨j,u,rfl,rfl⟩ | ⟨y,u,rfl,rfl⟩
   ·rw [key_rl] at h; exact SeqAt.EqAt.str_int x t j u _ _ _ _ h
   ·rw [key_rr] at h; exact wpAny_eqBool_str h
 «strs»:=fun k x t v h=>by
  rcases keyIs_shape h with ⟨i,u,rfl,e⟩ | ⟨y,u,rfl,e⟩
  ·exact nomatch e
  ·injection e with e1 _
   subst e1
   cases v <;> rfl
theorem mixKind_int (prog:Program) (w:World) (i:Int) (t:Tok):(mixKind prog w).is (.inl i) (.int i t)=true:=keyIs_int i t
theorem mixKind_str (prog:Program) (w:World) (x:Str) (t:Tok):(mixKind prog w).is (.inr x) (.str x t)=true:=keyIs_str x t
end L2
namespace L2
open PySem PySem.Spec PyProof.Rows
inductive V where
 | non | bl (b:Bool) | int (i:Int) | str (x:Str) | byt (b:Array UInt8) | flt (b:UInt64) | ref (a:Addr) | ty (n:String)
 deriving DecidableEq
def RelV:V→Value→Prop
 | .non,u=>u=Value.none
 | .bl b,u=>u=Value.bool b
 | .int i,u=>∃ t,u=Value.int i t
 | .str x,u=>∃ t,u=Value.str x t
 | .byt b,u=>∃ t,u=Value.bytes b t
 | .flt b,u=>∃ t,u=Value.float b t
 | .ref a,u=>u=Value.ref a
 | .ty n,u=>u=Value.type n
abbrev Vals:List V→List Value→Prop:=Paired RelV
theorem Vals.length {xs:List V} {us:List Value} (r:Vals xs us):xs.length=us.length:=Paired.length r
theorem Vals.get:∀ {xs:List V} {us:List Value} {i:Nat} {x:V},Vals xs us→xs[i]?=some x→∃ u,us[i]?=some u∧RelV x u
 | _,_,_,_,.nil,e=>by simp at e
 | _,_,0,_,.cons r _,e=>by simp at e; subst e; exact ⟨_,rfl,r⟩
 | _,_,i+1,x,.cons _ t,e=>by
  obtain ⟨u,h1,h2⟩:=Vals.get (i:=i) (x:=x) t (by simpa using e)
  exact ⟨u,by simpa using h1,h2⟩
theorem Vals.set {x:V} {u:Value} (r:RelV x u):∀ {xs:List V} {us:List Value} (i:Nat),Vals xs us→Vals (xs.set i x) (us.set i u)
 | _,_,_,.nil=>.nil
 | _,_,0,.cons _ t=>.cons r t
 | _,_,i+1,.cons q t=>.cons q (Vals.set r i t)
theorem Vals.append:∀ {xs ys:List V} {us ws:List Value},Vals xs us→Vals ys ws→Vals (xs++ys) (us++ws)
 | _,_,_,_,.nil,s=>s
 | _,_,_,_,.cons r t,s=>.cons r (Vals.append t s)
theorem Vals.take:∀ {xs:List V} {us:List Value} (n:Nat),Vals xs us→Vals (xs.take n) (us.take n)
 | _,_,0,_=>.nil
 | _,_,_+1,.nil=>.nil
 | _,_,n+1,.cons r t=>.cons r (Vals.take n t)
theorem Vals.drop:∀ {xs:List V} {us:List Value} (n:Nat),Vals xs us→Vals (xs.drop n) (us.drop n)
 | _,_,0,r=>r
 | _,_,_+1,.nil=>.nil
 | _,_,n+1,.cons _ t=>Vals.drop n t
def RelO:Option V→Option Value→Prop
 | some v,some u=>RelV v u
 | none,none=>True
 | _,_=>False
def KV {κ:Type}:List (κ × V)→List (κ × Value)→Prop:=Paired fun (p:κ × V) (q:κ × Value)=>p.1=q.1∧RelV p.2 q.2
def kV:Key→V
 | .inl i=>.int i
 | .inr x=>.str x
inductive HO where
 /-- a list -/
 | lst (xs:List V)
 /-- a tuple (never changes) -/
 | tup (xs:List V)
 /-- a dict whose keys are ints and texts; one whose keys are tuples of ints and texts (the empty one is both) -/
 | dK (kvs:List (Key × V)) | dT (kvs:List (List Key × V))
 /-- a set of ints: its members,its size -/
 | set (S:Int→Bool) (n:Nat)
 /-- an instance of the class at C,its dict at dx,its attributes -/
 | ins (C dx:Addr) (fs:List (Str × V))
 /-- the dict of the instance at x -/
 | own (x:Addr)
 /-- the dict of an exception -/
 | xd (fs:List (Str × V))
 /-- a bound method,f of x -/
 | met (f x:Addr)
 /-- a range object lo,lo+1,.. below hi -/
 | rng (lo hi:Int)
 /-- a thing that is known to the object (the script; a dict while a loop walks it): read,never written while it is so -/
 | frz (o:Obj) (u:HO)
 /-- a code object's table -/
 | tbl (ps:Array Value)
 /-- any other thing,by what is true of its one object (a def of one's own: SetO a S n:=HO.ext fun h=>..) -/
 | ext (φ:Heap→Prop)
abbrev Hp:=Addr→Option HO
def upd (H:Hp) (a:Addr) (o:HO):Hp:=fun b=>if b=a then some o else H b
theorem upd_same {H:Hp} {a:Addr} {o:HO}:upd H a o a=some o:=by unfold upd; rw [if_pos rfl]
theorem upd_ne {H:Hp} {a b:Addr} {o:HO} (h:b≠a):upd H a o b=H b:=by unfold upd; rw [if_neg h]
theorem upd_upd {H:Hp} {a:Addr} {o u:HO}:upd (upd H a o) a u=upd H a u:=by
 funext b; unfold upd; split <;> rfl
theorem ne_of {H:Hp} {a b:Addr} {o u:HO} (h:H a=some o) (h':H b=some u) (d:o≠u):a≠b:=by
 intro e; subst e; rw [h] at h'; exact d (Option.some.inj h')
theorem ne_of_none {H:Hp} {a b:Addr} {o:HO} (h:H a=some o) (h':H b=none):a≠b:=by
 intro e; subst e; rw [h] at h'; cases h'
section
variable (P:Program) (w:World)
def ObjOk (H:Hp) (h:Heap) (a:Addr):HO→Prop
 | .lst xs=>xs.length≤sizeLine∧∃ (its:List Value) (n:Nat),Vals xs its∧h.get? a=some { cls:=.type "list",data:=.seq its.toArray n }
 | .tup xs=>xs.length≤sizeLine∧∃ its:List Value,Vals xs its∧IsTup h a its.toArray
 | .dK kvs=>kvs.length≤sizeLine∧(a == sysModules)=false∧∃ vs,KV kvs vs∧h.DictOf (mixKind P w) a vs
 | .dT kvs=>kvs.length≤sizeLine∧(a == sysModules)=false∧∃ xs:List (List Key × Addr × Value),
   Paired (fun (p:List Key × V) (q:List Key × Addr × Value)=>p.1=q.1∧H q.2.1=some (.tup (p.1.map kV))∧RelV p.2 q.2.2) kvs xs ∧
   ∃ o es ep,h.get? a=some o∧o.ExactDict∧o.data=.dict es ep∧es.toList=xs.map (entryOfKey (tupleKind (mixKind P w)))∧(xs.map (·.1)).Nodup
 | .set S n=>h.SetOf (intKind P w) a S n
 | .ins C dx fs=>H dx=some (.own a)∧fs.length≤1000∧dx≠a∧h.get? a=some (PySem.W.instObj C dx) ∧
   ∃ mA,h.Ns1 dx mA∧(∀ f,RelO (fs.lookup f) (mA f))∧PySem.Within mA (fs.map (·.1))
 | .own _=>∃ o,h.get? a=some o
 | .xd fs=>∃ mA,h.Ns1 a mA∧∀ f,RelO (fs.lookup f) (mA f)
 | .rng lo hi=>∃ t u v,h.get? a=some { cls:=.type "range",data:=.fields #[.int lo t,.int hi u,.int 1 v] }
 | .frz o u=>h.get? a=some o∧ObjOk H h a u
 | .tbl ps=>h.get? a=some { cls:=.none,data:=.fields ps }
 | .met f x=>h.get? a=some (PySem.W.methodObj (.ref f) (.ref x))
 | .ext φ=>φ h∧(∃ o,h.get? a=some o)∧∀ h1 h2:Heap,φ h1→(∀ o,h1.get? a=some o→h2.get? a=some o)→φ h2
def HOk (H:Hp) (h:Heap):Prop:=∀ a o,H a=some o→ObjOk P w H h a o
end
section
variable {P:Program} {w:World} {H H':Hp} {h h':Heap} {a:Addr} {o:HO}
theorem ObjOk.lt (x:ObjOk P w H h a o):a < h.objs.size:=by
 cases o with
 | lst xs=>obtain ⟨_,_,_,_,e⟩:=x; exact Heap.lt_size e
 | tup xs=>obtain ⟨_,_,_,p⟩:=x; exact p.lt
 | dK kvs=>obtain ⟨_,_,_,_,o,_,_,e,_⟩:=x; exact Heap.lt_size e
 | dT kvs=>obtain ⟨_,_,_,_,o,_,_,e,_⟩:=x; exact Heap.lt_size e
 | set S n=>obtain ⟨o,_,_,_,e,_⟩:=x; exact Heap.lt_size e
 | ins C dx fs=>obtain ⟨_,_,_,e,_⟩:=x; exact Heap.lt_size e
 | own y=>obtain ⟨_,e⟩:=x; exact Heap.lt_size e
 | xd fs=>obtain ⟨_,⟨_,_,_,e,_⟩,_⟩:=x; exact Heap.lt_size e
 | rng lo hi=>obtain ⟨_,_,_,e⟩:=x; exact Heap.lt_size e
 | frz ob u=>obtain ⟨e,_⟩:=x; exact Heap.lt_size e
 | tbl ps=>exact Heap.lt_size (show h.get? a=some _ from x)
 | met f y=>exact Heap.lt_size (show h.get? a=some _ from x)
 | ext φ=>obtain ⟨_,⟨_,e⟩,_⟩:=x; exact Heap.lt_size e
theorem Paired.mapP {α β:Type} {F G:α→β→Prop}:∀ {l₁:List α} {l₂:List β},Paired F l₁ l₂→(∀ a b,F a b→G a b)→Paired G l₁ l₂
 | _,_,.nil,_=>.nil
 | _,_,.cons r t,f=>.cons (f _ _ r) (Paired.mapP t f)
theorem ObjOk.stay (x:ObjOk P w H h a o) (k:∀ b u,(b=a∨H b=some (.own a))→h.get? b=some u→h'.get? b=some u)
  (ho:∀ b,H b=some (.own a)→H' b=some (.own a)) (ht:∀ b xs,H b=some (.tup xs)→H' b=some (.tup xs)):ObjOk P w H' h' a o:=by
 induction o with
 | lst xs=>obtain ⟨z,its,n,r,e⟩:=x; exact ⟨z,its,n,r,k _ _ (.inl rfl) e⟩
 | tup xs=>obtain ⟨z,its,r,ob,e,c⟩:=x; exact ⟨z,its,r,ob,k _ _ (.inl rfl) e,c⟩
 | dK kvs=>obtain ⟨z,y,vs,r,ob,es,ep,e,c⟩:=x; exact ⟨z,y,vs,r,ob,es,ep,k _ _ (.inl rfl) e,c⟩
 | dT kvs =>
  obtain ⟨z,y,xs,r,ob,es,ep,e,c⟩:=x
  exact ⟨z,y,xs,Paired.mapP r fun p q z=>⟨z.1,ht _ _ z.2.1,z.2.2⟩,ob,es,ep,k _ _ (.inl rfl) e,c⟩
 | set S n=>obtain ⟨ob,es,ep,t,e,c⟩:=x; exact ⟨ob,es,ep,t,k _ _ (.inl rfl) e,c⟩
 | ins C dx fs =>
  obtain ⟨d,z,ne,e,mA,⟨od,es,ep,e2,c⟩,r⟩:=x
  exact ⟨ho _ d,z,ne,k _ _ (.inl rfl) e,mA,⟨od,es,ep,k _ _ (.inr d) e2,c⟩,r⟩
 | own y=>obtain ⟨ob,e⟩:=x; exact ⟨ob,k _ _ (.inl rfl) e⟩
 | xd fs=>obtain ⟨mA,⟨od,es,ep,e,c⟩,r⟩:=x; exact ⟨mA,⟨od,es,ep,k _ _ (.inl rfl) e,c⟩,r⟩
 | rng lo hi=>obtain ⟨t,u,v,e⟩:=x; exact ⟨t,u,v,k _ _ (.inl rfl) e⟩
 | frz ob u ih=>obtain ⟨e,q⟩:=x; exact ⟨k _ _ (.inl rfl) e,ih q⟩
 | tbl ps =>
  have e:h.get? a=some { cls:=.none,data:=.fields ps }:=x
  show h'.get? a=some { cls:=.none,data:=.fields ps }
  exact k a _ (.inl rfl) e
 | met f y =>
  have e:h.get? a=some (PySem.W.methodObj (.ref f) (.ref y)):=x
  show h'.get? a=some (PySem.W.methodObj (.ref f) (.ref y))
  exact k a _ (.inl rfl) e
 | ext φ=>obtain ⟨p,⟨o,e⟩,st⟩:=x; exact ⟨st _ _ p fun o q=>k _ _ (.inl rfl) q,⟨o,k _ _ (.inl rfl) e⟩,st⟩
theorem HOk.lt (x:HOk P w H h) (e:H a=some o):a < h.objs.size:=(x a o e).lt
theorem HOk.fresh (x:HOk P w H h) (e:h.objs.size≤a):H a=none:=by
 cases q:H a with
 | none=>rfl
 | some u=>exact absurd (Nat.lt_of_lt_of_le (x.lt q) e) (Nat.lt_irrefl _)
theorem HOk.kept (x:HOk P w H h) (k:∀ b u,h.get? b=some u→h'.get? b=some u):HOk P w H h':=fun a o e =>
 (x a o e).stay (fun b u _ q=>k b u q) (fun _ q=>q) fun _ _ q=>q
theorem HOk.laid (x:HOk P w H h) (k:∀ b u,h.get? b=some u→h'.get? b=some u) (hp:h.objs.size≤a) (new:ObjOk P w (upd H a o) h' a o):HOk P w (upd H a o) h':=fun b u e=>by
 have hn:=x.fresh hp
 by_cases hb:b=a
 ·subst hb; rw [upd_same] at e; cases e; exact new
 ·rw [upd_ne hb] at e
  exact (x b u e).stay (fun c v _ q=>k c v q) (fun c q=>by rw [upd_ne (ne_of_none q hn)]; exact q) fun c xs q=>by rw [upd_ne (ne_of_none q hn)]; exact q
end
def Rd (H:Hp) (a:Addr) (u:HO):Prop:=H a=some u∨∃ o,H a=some (.frz o u)
theorem Rd.ok {P:Program} {w:World} {H:Hp} {h:Heap} {a:Addr} {u:HO} (r:Rd H a u) (x:HOk P w H h):ObjOk P w H h a u:=by
 rcases r with r | ⟨o,r⟩
 ·exact x a u r
 ·obtain ⟨_,q⟩:=x a _ r
  exact q
def Mut:Option HO→Prop
 | some (.lst _)=>True
 | some (.dK _)=>True
 | some (.dT _)=>True
 | some (.set _ _)=>True
 | some (.ins _ _ _)=>True
 | some (.ext _)=>True
 | _=>False
section
variable {P:Program} {w:World} {H:Hp} {h h':Heap} {x e:Addr} {o':HO}
theorem HOk.write (ok:HOk P w H h) (mu:Mut (H x)) (he:e=x∨H e=some (.own x)) (k:∀ b u,b≠e→h.get? b=some u→h'.get? b=some u) (heo:∃ u,h'.get? e=some u)
  (new:ObjOk P w (upd H x o') h' x o'):HOk P w (upd H x o') h':=fun b u q=>by
 have nown:∀ c y,H c=some (.own y)→c≠x:=fun c y r z=>by subst z; rw [r] at mu; exact mu
 have ntup:∀ c xs,H c=some (.tup xs)→c≠x:=fun c xs r z=>by subst z; rw [r] at mu; exact mu
 by_cases hb:b=x
 ·subst hb; rw [upd_same] at q; cases q; exact new
 ·rw [upd_ne hb] at q
  by_cases hbe:b=e
  ·have q':H b=some (.own x):=by
    rcases he with z | z
    ·exact absurd (hbe.trans z) hb
    ·rw [hbe]; exact z
   rw [q] at q'; cases q'
   obtain ⟨v,hv⟩:=heo
   exact ⟨v,by rw [hbe]; exact hv⟩
  ·refine (ok b u q).stay (fun c v hc r=>k c v ?_ r) (fun c r=>by rw [upd_ne (nown c b r)]; exact r) fun c xs r=>by rw [upd_ne (ntup c xs r)]; exact r
   rcases hc with rfl | hc
   ·exact hbe
   ·rintro rfl
    rcases he with z | z
    ·exact nown c b hc z
    ·rw [hc] at z; cases z; exact hb rfl
end
structure Un (fs ex:List Addr) (H H':Hp) (h h':Heap):Prop where
 keep:∀ b o,h.get? b=some o→H b=none→b ∉ fs→b ∉ ex→h'.get? b=some o
 slot:∀ b o,h.get? b=some o→H b=none→b∈fs→b ∉ ex→∃ sl,h'.get? b=some { o with slots:=sl }
 free:∀ b o,h.get? b=some o→H b=none→b ∉ ex→H' b=none
 there:∀ b o,h.get? b=some o→b ∉ ex→∃ o',h'.get? b=some o'
 tups:∀ b xs,H b=some (.tup xs)→H' b=some (.tup xs)
 frzs:∀ b o u,H b=some (.frz o u)→H' b=some (.frz o u)
 tbls:∀ b ps,H b=some (.tbl ps)→∃ more,H' b=some (.tbl (ps++more))
section
variable {fs fs' ex ex':List Addr} {H H1 H2:Hp} {h h1 h2 h':Heap} {a x e:Addr} {o:HO}
theorem Un.any (u:Un fs ex H H1 h h1) {b:Addr} {ob:Obj} (q:h.get? b=some ob) (n:H b=none) (hx:b ∉ ex):∃ sl,h1.get? b=some { ob with slots:=sl }:=by
 by_cases hb:b∈fs
 ·exact u.slot b ob q n hb hx
 ·exact ⟨ob.slots,u.keep b ob q n hb hx⟩
theorem Un.kept (k:∀ b u,h.get? b=some u→h'.get? b=some u):Un fs ex H H h h' :=
 ⟨fun b ob q _ _ _=>k b ob q,fun b ob q _ _ _=>⟨ob.slots,k b ob q⟩,fun _ _ _ n _=>n,fun b ob q _=>⟨ob,k b ob q⟩,fun _ _ q=>q,fun _ _ _ q=>q,fun _ ps q=>⟨#[],by rw [q]; simp⟩⟩
theorem Un.refl:Un fs ex H H h h:=Un.kept fun _ _ q=>q
theorem Un.laid (k:∀ b u,h.get? b=some u→h'.get? b=some u) (hp:h.objs.size≤a) (hn:H a=none):Un fs ex H (upd H a o) h h' where
 keep:=fun b u q _ _ _=>k b u q
 slot:=fun b u q _ _ _=>⟨u.slots,k b u q⟩
 free:=fun b u q n _=>by rw [upd_ne (Nat.ne_of_lt (Nat.lt_of_lt_of_le (Heap.lt_size q) hp))]; exact n
 there:=fun b u q _=>⟨u,k b u q⟩
 tups:=fun b xs q=>by rw [upd_ne (ne_of_none q hn)]; exact q
 frzs:=fun b u xs q=>by rw [upd_ne (ne_of_none q hn)]; exact q
 tbls:=fun b ps q=>⟨#[],by rw [upd_ne (ne_of_none q hn),q]; simp⟩
theorem Un.write (mu:Mut (H x)) (he:e=x∨H e=some (.own x)) (k:∀ b u,b≠e→h.get? b=some u→h'.get? b=some u) (heo:∃ u,h'.get? e=some u):Un fs ex H (upd H x o) h h':=by
 have hx:∀ b,H b=none→b≠x:=fun b n z=>by subst z; rw [n] at mu; exact mu
 have hb:∀ b,H b=none→b≠e:=fun b n z=>by
  subst z
  rcases he with r | r
  ·exact hx b n r
  ·rw [n] at r; cases r
 have hm:∀ b u,H b=some u→¬ Mut (some u)→b≠x:=fun b u q nm z=>by subst z; rw [q] at mu; exact nm mu
 refine ⟨fun b u q n _ _=>k b u (hb b n) q,fun b u q n _ _=>⟨u.slots,k b u (hb b n) q⟩,fun b u q n _=>by rw [upd_ne (hx b n)]; exact n,fun b u q _=>?_,
  fun b xs q=>by rw [upd_ne (hm b _ q fun z=>z)]; exact q,fun b u xs q=>by rw [upd_ne (hm b _ q fun z=>z)]; exact q,fun b ps q=>⟨#[],by rw [upd_ne (hm b _ q fun z=>z),q]; simp⟩⟩
 by_cases hbe:b=e
 ·subst hbe; exact heo
 ·exact ⟨u,k b u hbe q⟩
end
def trk (h:Heap) (H:Hp):List Addr:=(List.range h.objs.size).filter fun a=>(H a).isSome
def hidT (h:Heap) (H:Hp):Heap:=PySem.W.hideAll h (trk h H)
theorem hidT_size (h:Heap) (H:Hp):(hidT h H).objs.size=h.objs.size:=PySem.W.hideAll_size _ _
theorem hidT_get {h:Heap} {H:Hp} {b:Addr} {o:Obj} (e:h.get? b=some o) (n:H b=none):(hidT h H).get? b=some o :=
 PySem.W.hideAll_get _ e fun hm=>by
  have q:(H b).isSome=true:=(List.mem_filter.mp hm).2
  rw [n] at q; simp at q
theorem of_hidT {h:Heap} {H:Hp} {b:Addr} {o:Obj} (e:(hidT h H).get? b=some o):h.get? b=some o∧H b=none:=by
 have e':h.get? b=some o:=PySem.W.of_hideAll (trk h H) e
 refine ⟨e',?_⟩
 cases q:H b with
 | none=>rfl
 | some x =>
  have hm:b∈trk h H:=List.mem_filter.mpr ⟨List.mem_range.mpr (Heap.lt_size e'),by simp [q]⟩
  have z:(hidT h H).get? b=none:=PySem.W.hideAll_none (trk h H) hm
  rw [z] at e; cases e
def allNews (g h:Heap) (L:Addr):List (Addr × Obj):=(List.range h.objs.size).filterMap fun a=>if a=L∨(g.get? a).isSome=true then none else (h.get? a).map fun o=>(a,o)
def rest (g h:Heap) (L d:Addr):List (Addr × Obj):=(allNews g h L).filter fun p=>decide (p.1≠d)
end L2
namespace L2
open PySem PySem.Spec PyProof.Rows
structure Mod (K:PySem.W.Frag) (mg:Str→Option Value) (base:Heap):Prop where
 kin:K.In base
 glob:base.Ns mainGlobals mg
 blt:∃ mb,base.Ns builtinsNs mb∧∀ x:Str,x≠"__name__"→mb x=bootBuiltins x
 nolimit:base.NoLimit
structure Cx where
 prog:Program
 w:World
 K:PySem.W.Frag
 mg:Str→Option Value
 base:Heap
 A:Around
 N:List Str
 s₀:Shared
 H₀:Hp
 env:Env
 outer:List Env
 stack:List Env
 ex:List Addr
 fn:Str→Bool
 calm:Bool
 pn:List (Addr × Obj)
 xe:Value→Shared→Prop
def frs (l:List Env):List Addr:=l.filterMap (·.frame)
abbrev Cx.fs (X:Cx):List Addr:=frs X.outer
def Vis (sc:Scope) (x:Str):Prop:=sc.names.lookup x=some .local∨sc.names.lookup x=some .cell∨sc.names.lookup x=some .free
def Loc (sc:Scope) (x:Str):Prop:=sc.names.lookup x=some .local∨sc.names.lookup x=some .cell
def Look (env:Env) (h:Heap) (m:Str→Option Value) (x:Str) (u:Value):Prop :=
 (env.kindOf x=some .local∧m x=some u)∨((env.kindOf x=some .cell∨env.kindOf x=some .free)∧∃ c,env.cells.lookup x=some c∧h.IsCell c (some u))
structure Cx.Ok (X:Cx):Prop where
 mod:Mod X.K X.mg X.base
 kind:X.env.scope.kind=.function
 glob:X.env.globals=mainGlobals
 blt:X.env.builtins=builtinsNs
 above:X.s₀.heap.objs.size≤X.env.locals
 inj:∀ x y c,X.env.cells.lookup x=some c→X.env.cells.lookup y=some c→x=y
 has:∀ x,(X.env.kindOf x=some .cell∨X.env.kindOf x=some .free)→∃ c,X.env.cells.lookup x=some c
 cab:∀ x c,X.fn x=true→X.env.cells.lookup x=some c→X.s₀.heap.objs.size≤c
 hd:X.calm=true→X.A.handled=none
 frames:X.A.frames=some X.stack
 stk:X.stack=X.outer∨(X.stack=X.env :: X.outer∧X.env.frame=some X.env.locals)
 exf:∀ b∈X.ex,b≠X.env.locals∧∀ x c,X.env.cells.lookup x=some c→c≠b
 bs:∀ b o,X.base.get? b=some o→X.s₀.heap.get? b=some o∧X.H₀ b=none
 bsz:X.base.objs.size≤X.s₀.heap.objs.size
 noex:∀ b o,X.base.get? b=some o→b ∉ X.ex
 exfs:∀ b∈X.ex,b ∉ X.fs
 funs:X.s₀.heap.FunFrames X.base X.outer
 frf:∀ b∈X.fs,X.H₀ b=none
structure Inv (X:Cx) (pins:List (Addr × Obj)) (σ:List (Option V)) (H:Hp) (s:Shared):Prop where
 ok:X.Ok
 os:s.os=X.s₀.os
 bare:AllBare s.gens
 base:Un X.fs X.ex X.H₀ H X.s₀.heap s.heap
 loc:∃ m,s.heap.Ns X.env.locals m∧∀ (i:Nat) (x:Str) (v:V),X.N[i]?=some x→σ[i]?=some (some v)→Vis X.env.scope x→∃ u,RelV v u∧Look X.env s.heap m x u
 cell:∀ x c,X.env.cells.lookup x=some c→∃ v,s.heap.IsCell c v
 free:H X.env.locals=none
 freeC:∀ x c,X.env.cells.lookup x=some c→H c=none
 pin:∀ p∈X.pn++pins,s.heap.get? p.1=some p.2∧H p.1=none∧p.1≠X.env.locals∧p.1 ∉ X.fs∧∀ v,p.2.data≠.cell v
 hok:HOk X.prog X.w H s.heap
 len:σ.length=X.N.length
section
variable {X:Cx} {pins:List (Addr × Obj)} {σ:List (Option V)} {H H':Hp} {s:Shared} {h':Heap}
theorem Cx.Ok.nofr (ok:X.Ok) {b:Addr} {o:Obj} (e:X.base.get? b=some o):b ∉ X.fs:=fun hb=>by
 have:=(ok.funs.mem hb).1
 rw [e] at this; cases this
theorem Inv.bs (I:Inv X pins σ H s):∀ b o,X.base.get? b=some o→s.heap.get? b=some o∧H b=none:=fun b o e =>
 ⟨I.base.keep b o (I.ok.bs b o e).1 (I.ok.bs b o e).2 (I.ok.nofr e) (I.ok.noex b o e),I.base.free b o (I.ok.bs b o e).1 (I.ok.bs b o e).2 (I.ok.noex b o e)⟩
theorem Inv.bk (I:Inv X pins σ H s):∀ b o,X.base.get? b=some o→s.heap.get? b=some o:=fun b o e=>(I.bs b o e).1
theorem Inv.mod (I:Inv X pins σ H s):Mod X.K X.mg X.base:=I.ok.mod
theorem Inv.kIn (I:Inv X pins σ H s):X.K.In s.heap:=I.ok.mod.kin.keeps I.bk
theorem Inv.lt (I:Inv X pins σ H s):X.env.locals < s.heap.objs.size:=let ⟨_,hn,_⟩:=I.loc; hn.lt
theorem Inv.sz (I:Inv X pins σ H s):X.s₀.heap.objs.size≤s.heap.objs.size:=Nat.le_trans I.ok.above (Nat.le_of_lt I.lt)
theorem Inv.nofs (I:Inv X pins σ H s) {a:Addr} (h:s.heap.objs.size≤a):a ∉ X.fs:=fun hb=>by
 obtain ⟨_,o,ho,_⟩:=I.ok.funs.mem hb
 exact absurd (Nat.lt_of_lt_of_le (Heap.lt_size ho) (Nat.le_trans I.sz h)) (Nat.lt_irrefl _)
theorem Inv.cne (I:Inv X pins σ H s):∀ x c,X.env.cells.lookup x=some c→c≠X.env.locals:=fun x c e z=>by
 obtain ⟨v,o,ho,hd⟩:=I.cell x c e
 obtain ⟨m,⟨o',es,ep,ho',hd',_⟩,_⟩:=I.loc
 rw [z,ho'] at ho; cases ho; rw [hd'] at hd; cases hd
theorem Inv.funs (I:Inv X pins σ H s):s.heap.FunFrames X.base X.outer:=by
 have all:∀ (l:List Env),(∀ b∈frs l,b∈X.fs)→X.s₀.heap.FunFrames X.base l→s.heap.FunFrames X.base l:=by
  intro l
  induction l with
  | nil=>intro _ _; trivial
  | cons env r ih =>
   intro hs hl
   obtain ⟨hk,⟨L,o,hf,hn,ho,hd⟩,hr⟩:=hl
   have hL:L∈X.fs:=hs L (by unfold frs; rw [List.filterMap_cons,hf]; exact List.mem_cons_self)
   obtain ⟨sl,e⟩:=I.base.slot L o ho (I.ok.frf L hL) hL fun z=>I.ok.exfs L z hL
   exact ⟨hk,⟨L,_,hf,hn,e,hd⟩,ih (fun b hb=>hs b (by unfold frs; rw [List.filterMap_cons,hf]; exact List.mem_cons_of_mem _ hb)) hr⟩
 exact all X.outer (fun _ hb=>hb) I.ok.funs
theorem Inv.stack (I:Inv X pins σ H s):s.heap.FunFrames X.base X.stack:=by
 rcases I.ok.stk with e | ⟨e,hf⟩
 ·rw [e]; exact I.funs
 ·rw [e]
  obtain ⟨m,hn,_⟩:=I.loc
  refine .cons (by rw [I.ok.kind]; decide) hf hn ?_ I.funs
  exact Heap.get?_none_of_le (Nat.le_trans I.ok.bsz I.ok.above)
theorem Inv.stkSub (I:Inv X pins σ H s):∀ b∈frs X.stack,b∈X.env.locals :: X.fs:=fun b hb=>by
 rcases I.ok.stk with e | ⟨e,hf⟩
 ·rw [e] at hb; exact List.mem_cons_of_mem _ hb
 ·rw [e] at hb
  unfold frs at hb
  rw [List.filterMap_cons,hf] at hb
  exact hb
theorem Inv.stkFree (I:Inv X pins σ H s):∀ b∈frs X.stack,H b=none:=fun b hb=>by
 rcases List.mem_cons.mp (I.stkSub b hb) with e | hb
 ·rw [e]; exact I.free
 ·obtain ⟨_,o,ho,_⟩:=I.ok.funs.mem hb
  exact I.base.free b o ho (I.ok.frf b hb) fun z=>I.ok.exfs b z hb
theorem Inv.step {g':Array GenState} {t':Nat} {d':Drawn} {ch:List Addr} (I:Inv X pins σ H s)
  (hch:∀ b∈ch,(b∈X.ex∨X.s₀.heap.objs.size≤b)∧b≠X.env.locals∧(∀ x c,X.env.cells.lookup x=some c→c≠b)∧∀ p∈X.pn++pins,p.1≠b)
  (keep:∀ b o,b≠X.env.locals→b ∉ X.fs→b ∉ ch→s.heap.get? b=some o→H b=none→h'.get? b=some o)
  (slot:∀ b o,b≠X.env.locals→b∈X.fs→b ∉ ch→s.heap.get? b=some o→H b=none→∃ sl,h'.get? b=some { o with slots:=sl }) (free:∀ b o,b ∉ ch→s.heap.get? b=some o→H b=none→H' b=none)
  (there:∀ b o,b ∉ ch→s.heap.get? b=some o→∃ o',h'.get? b=some o')
  (tups:∀ b xs,H b=some (.tup xs)→H' b=some (.tup xs)) (frzs:∀ b o u,H b=some (.frz o u)→H' b=some (.frz o u)) (tbls:∀ b ps,H b=some (.tbl ps)→∃ more,H' b=some (.tbl (ps++more)))
  (ns:∀ m,s.heap.Ns X.env.locals m→h'.Ns X.env.locals m) (hok:HOk X.prog X.w H' h') (hg:AllBare g') :
  Inv X pins σ H' { s with heap:=h',gens:=g',drawn:=d',toks:=t' }:=by
 have neL:∀ b o,X.s₀.heap.get? b=some o→b≠X.env.locals:=fun b o e=>Nat.ne_of_lt (Nat.lt_of_lt_of_le (Heap.lt_size e) I.ok.above)
 have neC:∀ b o,X.s₀.heap.get? b=some o→b ∉ X.ex→b ∉ ch:=fun b o e hx hb=>by
  rcases (hch b hb).1 with z | z
  ·exact hx z
  ·exact absurd (Nat.lt_of_lt_of_le (Heap.lt_size e) z) (Nat.lt_irrefl _)
 have cellK:∀ x c,X.env.cells.lookup x=some c→∀ v,s.heap.IsCell c v→h'.IsCell c v:=fun x c e v ⟨o,ho,hd⟩=>by
  have nch:c ∉ ch:=fun z=>(hch c z).2.2.1 x c e rfl
  by_cases hc:c∈X.fs
  ·obtain ⟨sl,q⟩:=slot c o (I.cne x c e) hc nch ho (I.freeC x c e)
   exact ⟨_,q,hd⟩
  ·exact ⟨o,keep c o (I.cne x c e) hc nch ho (I.freeC x c e),hd⟩
 refine ⟨I.ok,I.os,hg,⟨fun b o e n hb hx=>?_,fun b o e n hb hx=>?_,fun b o e n hx=>?_,fun b o e hx=>?_,fun b xs e=>tups b xs (I.base.tups b xs e),fun b o xs e=>frzs b o xs (I.base.frzs b o xs e),fun b ps e=>?_⟩,?_,fun x c e=>?_,?_,fun x c e=>?_,fun p hp=>?_,hok,I.len⟩
 ·exact keep b o (neL b o e) hb (neC b o e hx) (I.base.keep b o e n hb hx) (I.base.free b o e n hx)
 ·obtain ⟨sl,e1⟩:=I.base.slot b o e n hb hx
  obtain ⟨sl',e2⟩:=slot b _ (neL b o e) hb (neC b o e hx) e1 (I.base.free b o e n hx)
  exact ⟨sl',e2⟩
 ·obtain ⟨o',e1⟩:=I.base.there b o e hx
  exact free b o' (neC b o e hx) e1 (I.base.free b o e n hx)
 ·obtain ⟨o',e1⟩:=I.base.there b o e hx
  exact there b o' (neC b o e hx) e1
 ·obtain ⟨m1,e1⟩:=I.base.tbls b ps e
  obtain ⟨m2,e2⟩:=tbls b _ e1
  exact ⟨m1++m2,by rw [e2,Array.append_assoc]⟩
 ·obtain ⟨m,hn,hl⟩:=I.loc
  refine ⟨m,ns m hn,fun i x v e1 e2 e3=>?_⟩
  obtain ⟨u,r,l⟩:=hl i x v e1 e2 e3
  refine ⟨u,r,?_⟩
  rcases l with l | ⟨k,c,e,z⟩
  ·exact .inl l
  ·exact .inr ⟨k,c,e,cellK x c e _ z⟩
 ·obtain ⟨v,z⟩:=I.cell x c e
  exact ⟨v,cellK x c e v z⟩
 ·obtain ⟨m,⟨o,_,_,ho,_⟩,_⟩:=I.loc
  exact free _ o (fun z=>(hch _ z).2.1 rfl) ho I.free
 ·obtain ⟨v,o,ho,hd⟩:=I.cell x c e
  exact free c o (fun z=>(hch c z).2.2.1 x c e rfl) ho (I.freeC x c e)
 ·obtain ⟨e,n,ne,nf,d⟩:=I.pin p hp
  have nch:p.1 ∉ ch:=fun z=>(hch p.1 z).2.2.2 p hp rfl
  exact ⟨keep p.1 p.2 ne nf nch e n,free p.1 p.2 nch e n,ne,nf,d⟩
theorem Inv.un {t':Nat} (I:Inv X pins σ H s) (u:Un X.fs [] H H' s.heap h') (hok:HOk X.prog X.w H' h'):Inv X pins σ H' { s with heap:=h',toks:=t' }:=by
 obtain ⟨m,⟨o,es,ep,ho,r⟩,_⟩:=id I.loc
 obtain ⟨sl,hL⟩:=u.any ho I.free (by simp)
 exact I.step (g':=s.gens) (d':=s.drawn) (ch:=[]) (fun _ z=>nomatch z) (fun b o _ hb _ e n=>u.keep b o e n hb (by simp)) (fun b o _ hb _ e n=>u.slot b o e n hb (by simp)) (fun b o _ e n=>u.free b o e n (by simp)) (fun b o _ e=>u.there b o e (by simp)) u.tups u.frzs u.tbls (fun m' hm=>by
  obtain ⟨o',es',ep',ho',r'⟩:=hm
  rw [ho] at ho'; cases ho'
  exact ⟨_,es',ep',hL,r'⟩) hok I.bare
theorem Inv.call {g':Array GenState} {t':Nat} {d':Drawn} {ch:List Addr} (I:Inv X pins σ H s) (u:Un (frs X.stack) ch H H' s.heap h') (hok:HOk X.prog X.w H' h') (hg:AllBare g')
  (hch:∀ b∈ch,(b∈X.ex∨X.s₀.heap.objs.size≤b)∧b≠X.env.locals∧(∀ x c,X.env.cells.lookup x=some c→c≠b)∧∀ p∈X.pn++pins,p.1≠b) :
  Inv X pins σ H' { s with heap:=h',gens:=g',drawn:=d',toks:=t' }:=by
 obtain ⟨m,⟨o,es,ep,ho,r⟩,_⟩:=id I.loc
 obtain ⟨sl,hL⟩:=u.any ho I.free fun z=>(hch _ z).2.1 rfl
 exact I.step (ch:=ch) hch (fun b o hL hb hc e n=>u.keep b o e n (fun z=>(List.mem_cons.mp (I.stkSub b z)).elim hL hb) hc) (fun b o _ _ hc e n=>u.any e n hc) (fun b o hc e n=>u.free b o e n hc) (fun b o hc e=>u.there b o e hc) u.tups u.frzs u.tbls (fun m' hm=>by
  obtain ⟨o',es',ep',ho',r'⟩:=hm
  rw [ho] at ho'; cases ho'
  exact ⟨_,es',ep',hL,r'⟩) hok hg
theorem Inv.turned {t':Nat} {it:Addr} (I:Inv X pins σ H s) (k:∀ b o,b≠it→s.heap.get? b=some o→h'.get? b=some o) (hn:H it=none) (hL:it≠X.env.locals)
  (h1:it∈X.ex∨X.s₀.heap.objs.size≤it) (h2:∀ x c,X.env.cells.lookup x=some c→c≠it) (h3:∀ p∈X.pn++pins,p.1≠it):Inv X pins σ H { s with heap:=h',toks:=t' }:=by
 have nit:∀ b u,H b=some u→b≠it:=fun b u e z=>by rw [z,hn] at e; cases e
 refine I.step (g':=s.gens) (d':=s.drawn) (ch:=[it]) (fun b hb=>?_) (fun b o _ _ hc e _=>k b o (fun z=>hc (by simp [z])) e) (fun b o _ _ hc e _=>⟨o.slots,k b o (fun z=>hc (by simp [z])) e⟩) (fun _ _ _ _ n=>n)
  (fun b o hc e=>⟨o,k b o (fun z=>hc (by simp [z])) e⟩) (fun _ _ e=>e) (fun _ _ _ e=>e) (fun b ps e=>⟨#[],by rw [e]; simp⟩) (fun m hm=>?_) (fun b u e=>?_) I.bare
 ·have e:b=it:=by simpa using hb
  subst e
  exact ⟨h1,hL,h2,h3⟩
 ·obtain ⟨o,es,ep,ho,r⟩:=hm
  exact ⟨o,es,ep,k _ o (Ne.symm hL) ho,r⟩
 ·refine (I.hok b u e).stay (fun c v hc q=>k c v ?_ q) (fun _ q=>q) fun _ _ q=>q
  rcases hc with z | z
  ·rw [z]; exact nit b u e
  ·exact nit c _ z
theorem Inv.tok (I:Inv X pins σ H s) (t:Nat):Inv X pins σ H { s with toks:=t }:=I.un (h':=s.heap) (t':=t) Un.refl I.hok
theorem Inv.kept {t':Nat} (I:Inv X pins σ H s) (k:∀ b u,s.heap.get? b=some u→h'.get? b=some u):Inv X pins σ H { s with heap:=h',toks:=t' }:=I.un (Un.kept k) (I.hok.kept k)
theorem Inv.laid {a:Addr} {o:HO} {t':Nat} (I:Inv X pins σ H s) (k:∀ b u,s.heap.get? b=some u→h'.get? b=some u) (hp:s.heap.objs.size≤a) (new:ObjOk X.prog X.w (upd H a o) h' a o) :
  Inv X pins σ (upd H a o) { s with heap:=h',toks:=t' }:=I.un (Un.laid k hp (I.hok.fresh hp)) (I.hok.laid k hp new)
theorem Inv.write {x e:Addr} {o:HO} {t':Nat} (I:Inv X pins σ H s) (mu:Mut (H x)) (he:e=x∨H e=some (.own x)) (k:∀ b u,b≠e→s.heap.get? b=some u→h'.get? b=some u) (heo:∃ u,h'.get? e=some u)
  (new:ObjOk X.prog X.w (upd H x o) h' x o):Inv X pins σ (upd H x o) { s with heap:=h',toks:=t' }:=I.un (Un.write mu he k heo) (I.hok.write mu he k heo new)
theorem Inv.weak {σ':List (Option V)} (I:Inv X pins σ H s) (hl:σ'.length=σ.length) (w:∀ (i:Nat) v,σ'[i]?=some (some v)→σ[i]?=some (some v)):Inv X pins σ' H s :=
 ⟨I.ok,I.os,I.bare,I.base,let ⟨m,hn,hl'⟩:=I.loc; ⟨m,hn,fun i x v e1 e2 e3=>hl' i x v e1 (w i v e2) e3⟩,I.cell,I.free,I.freeC,I.pin,I.hok,hl.trans I.len⟩
theorem Inv.pins_of {pins':List (Addr × Obj)} (I:Inv X pins σ H s) (h:∀ p∈pins',s.heap.get? p.1=some p.2∧H p.1=none∧p.1≠X.env.locals∧p.1 ∉ X.fs∧∀ v,p.2.data≠.cell v):Inv X pins' σ H s :=
 ⟨I.ok,I.os,I.bare,I.base,I.loc,I.cell,I.free,I.freeC,fun p hp=>(List.mem_append.mp hp).elim (fun z=>I.pin p (List.mem_append_left _ z)) (h p),I.hok,I.len⟩
theorem nodup_ix {N:List Str} (hN:N.Nodup) {i j:Nat} {x:Str} (a:N[i]?=some x) (b:N[j]?=some x):i=j:=by
 obtain ⟨h1,e1⟩:=List.getElem?_eq_some_iff.mp a
 obtain ⟨h2,e2⟩:=List.getElem?_eq_some_iff.mp b
 exact (List.getElem_inj hN).mp (e1.trans e2.symm)
theorem store_ok2 {M:Model} {A:Around} {E:Value→Shared→Prop} {i:Nat} {x:Str} {v:V} {u:Value} {Q:Unit→Shared→Prop} (I:Inv X pins σ H s) (hN:X.N.Nodup) (hi:X.N[i]?=some x) (hx:Loc X.env.scope x) (r:RelV v u)
  (h:∀ s',Inv X pins (σ.set i (some v)) H s'→(∃ a,Heap.SameBut a s.heap s'.heap∧(a=X.env.locals∨X.env.cells.lookup x=some a))→Q () s') (hf:X.fn x=true∨X.env.scope.names.lookup x=some .local:=by first | exact .inl rfl | exact .inr rfl | assumption):wpAny M A (storeName X.env x u) Q E s:=by
 obtain ⟨m,hn,hl⟩:=id I.loc
 have hcls:(X.env.scope.kind == .class || (X.env.scope.kind == .module && X.env.locals != X.env.globals))=false:=by rw [I.ok.kind]; rfl
 have hiσ:i < σ.length:=by rw [I.len]; exact (List.getElem?_eq_some_iff.mp hi).1
 have cne:=I.cne
 have tracked:∀ {a:Addr} {h':Heap},(∃ o,s.heap.get? a=some o∧H a=none)→Heap.SameBut a s.heap h'→HOk X.prog X.w H h':=fun {a h'} ha hs b ob e=>by
  obtain ⟨_,_,hfree⟩:=ha
  refine (I.hok b ob e).stay (fun c w' hc q=>(hs.2 c ?_).trans q) (fun _ q=>q) fun _ _ q=>q
  rintro rfl
  rcases hc with rfl | hc
  ·rw [hfree] at e; cases e
  ·rw [hfree] at hc; cases hc
 rcases hx with hk | hk
 ·refine wpAny_storeName_local hk hn (fun h' hn' hs=>?_) hcls
  obtain ⟨oL,_,_,hoL,_⟩:=id hn
  refine h _ ⟨I.ok,I.os,I.bare,⟨fun b o e n hb hx=>?_,fun b o e n hb hx=>?_,I.base.free,fun b o e hx=>?_,I.base.tups,I.base.frzs,I.base.tbls⟩,⟨_,hn',fun j y v' e1 e2 e3=>?_⟩,fun y c e=>?_,I.free,I.freeC,fun p hp=>?_,tracked ⟨oL,hoL,I.free⟩ hs,by simpa using I.len⟩ ⟨_,hs,.inl rfl⟩
  ·exact (hs.2 b (Nat.ne_of_lt (Nat.lt_of_lt_of_le (Heap.lt_size e) I.ok.above))).trans (I.base.keep b o e n hb hx)
  ·obtain ⟨sl,e1⟩:=I.base.slot b o e n hb hx
   exact ⟨sl,(hs.2 b (Nat.ne_of_lt (Nat.lt_of_lt_of_le (Heap.lt_size e) I.ok.above))).trans e1⟩
  ·obtain ⟨o',e1⟩:=I.base.there b o e hx
   exact ⟨o',(hs.2 b (Nat.ne_of_lt (Nat.lt_of_lt_of_le (Heap.lt_size e) I.ok.above))).trans e1⟩
  ·by_cases hj:j=i
   ·subst hj
    rw [hi] at e1; cases e1
    rw [List.getElem?_set_self hiσ] at e2
    cases e2
    exact ⟨u,r,.inl ⟨hk,by simp⟩⟩
   ·rw [List.getElem?_set_ne (Ne.symm hj)] at e2
    obtain ⟨u',r',q⟩:=hl j y v' e1 e2 e3
    refine ⟨u',r',?_⟩
    rcases q with ⟨k,e⟩ | ⟨k,c,e,z⟩
    ·refine .inl ⟨k,?_⟩
     have:y≠x:=fun e=>hj (nodup_ix hN e1 (e ▸ hi))
     simp [this,e]
    ·exact .inr ⟨k,c,e,z.sameBut hs (cne y c e)⟩
  ·obtain ⟨w',z⟩:=I.cell y c e
   exact ⟨w',z.sameBut hs (cne y c e)⟩
  ·obtain ⟨e,n,ne,nf,d⟩:=I.pin p hp
   exact ⟨(hs.2 p.1 ne).trans e,n,ne,nf,d⟩
 ·have hfn:X.fn x=true:=by
   rcases hf with z | z
   ·exact z
   ·rw [z] at hk; cases hk
  obtain ⟨c,hc⟩:=I.ok.has x (.inl hk)
  obtain ⟨w',z⟩:=I.cell x c hc
  refine wpAny_storeName_cell I.ok.kind hk hc z (fun h' hc' hs=>?_)
  obtain ⟨oc,hoc,hocd⟩:=id z
  refine h { s with heap:=h' } ⟨I.ok,I.os,I.bare,⟨fun b o e n hb hx=>?_,fun b o e n hb hx=>?_,I.base.free,fun b o e hx=>?_,I.base.tups,I.base.frzs,I.base.tbls⟩,⟨m,hn.sameBut hs (Ne.symm (cne x c hc)),fun j y v' e1 e2 e3=>?_⟩,fun y c' e=>?_,I.free,I.freeC,fun p hp=>?_,tracked ⟨oc,hoc,I.freeC x c hc⟩ hs,by simpa using I.len⟩ ⟨c,hs,.inr hc⟩
  ·exact (hs.2 b (Nat.ne_of_lt (Nat.lt_of_lt_of_le (Heap.lt_size e) (I.ok.cab x c hfn hc)))).trans (I.base.keep b o e n hb hx)
  ·obtain ⟨sl,e1⟩:=I.base.slot b o e n hb hx
   exact ⟨sl,(hs.2 b (Nat.ne_of_lt (Nat.lt_of_lt_of_le (Heap.lt_size e) (I.ok.cab x c hfn hc)))).trans e1⟩
  ·obtain ⟨o',e1⟩:=I.base.there b o e hx
   exact ⟨o',(hs.2 b (Nat.ne_of_lt (Nat.lt_of_lt_of_le (Heap.lt_size e) (I.ok.cab x c hfn hc)))).trans e1⟩
  ·by_cases hj:j=i
   ·subst hj
    rw [hi] at e1; cases e1
    rw [List.getElem?_set_self hiσ] at e2
    cases e2
    exact ⟨u,r,.inr ⟨.inl hk,c,hc,hc'⟩⟩
   ·rw [List.getElem?_set_ne (Ne.symm hj)] at e2
    obtain ⟨u',r',q⟩:=hl j y v' e1 e2 e3
    refine ⟨u',r',?_⟩
    rcases q with q | ⟨k,c',e,z'⟩
    ·exact .inl q
    ·refine .inr ⟨k,c',e,z'.sameBut hs ?_⟩
     rintro rfl
     exact hj (nodup_ix hN e1 (I.ok.inj _ _ _ e hc ▸ hi))
  ·by_cases hcc:c'=c
   ·subst hcc; exact ⟨_,hc'⟩
   ·obtain ⟨w2,z2⟩:=I.cell y c' e
    exact ⟨w2,z2.sameBut hs hcc⟩
  ·obtain ⟨e,n,ne,nf,d⟩:=I.pin p hp
   refine ⟨(hs.2 p.1 ?_).trans e,n,ne,nf,d⟩
   intro q
   rw [q,hoc] at e
   have q':oc=p.2:=Option.some.inj e
   exact d w' (by rw [← q']; exact hocd)
theorem store_ok {M:Model} {A:Around} {E:Value→Shared→Prop} {i:Nat} {x:Str} {v:V} {u:Value} {Q:Unit→Shared→Prop} (I:Inv X pins σ H s) (hN:X.N.Nodup) (hi:X.N[i]?=some x) (hx:Loc X.env.scope x) (r:RelV v u)
  (h:∀ s',Inv X pins (σ.set i (some v)) H s'→Q () s') (hf:X.fn x=true∨X.env.scope.names.lookup x=some .local:=by first | exact .inl rfl | exact .inr rfl | assumption):wpAny M A (storeName X.env x u) Q E s :=
 store_ok2 I hN hi hx r (fun s' I' _=>h s' I') hf
theorem Inv.call' {s':Shared} {ch:List Addr} (I:Inv X pins σ H s) (ho:s'.os=s.os) (u:Un (frs X.stack) ch H H' s.heap s'.heap) (hok:HOk X.prog X.w H' s'.heap) (hg:AllBare s'.gens)
  (hch:∀ b∈ch,(b∈X.ex∨X.s₀.heap.objs.size≤b)∧b≠X.env.locals∧(∀ x c,X.env.cells.lookup x=some c→c≠b)∧∀ p∈X.pn++pins,p.1≠b):Inv X pins σ H' s':=by
 obtain ⟨h',g',d',t',o'⟩:=s'
 have e:o'=s.os:=ho
 subst e
 exact I.call (g':=g') (t':=t') (d':=d') u hok hg hch
end
abbrev XK:=Value→Option Addr→Hp→Prop
abbrev St:=List (Option V)
abbrev VK:=V→Hp→Prop
abbrev TE:=St→Hp→VK→Prop
abbrev TT:=St→Hp→(Bool→Hp→Prop)→Prop
abbrev TA:=St→Hp→(List V→Hp→Prop)→Prop
structure Ends where
 nx:St→Hp→Prop
 rt:VK
 bk:St→Hp→Prop:=fun _ _=>False
 ct:St→Hp→Prop:=fun _ _=>False
abbrev TS:=Ends→St→Hp→Prop
def EP (X:Cx) (pins:List (Addr × Obj)) (σ:St) (Q:VK) (u:Value) (s':Shared):Prop:=∃ v H',Inv X pins σ H' s'∧RelV v u∧Q v H'
def TP (X:Cx) (pins:List (Addr × Obj)) (σ:St) (Q:Bool→Hp→Prop) (b:Bool) (s':Shared):Prop:=∃ H',Inv X pins σ H' s'∧Q b H'
def AP (X:Cx) (pins:List (Addr × Obj)) (σ:St) (Q:List V→Hp→Prop) (us:List Value) (s':Shared):Prop:=∃ vs H',Inv X pins σ H' s'∧Vals vs us∧Q vs H'
def SP (X:Cx) (pins:List (Addr × Obj)) (D:Ends) (f:Flow) (s':Shared):Prop :=
 match f with
 | .next=>∃ σ' H',Inv X pins σ' H' s'∧D.nx σ' H'
 | .brk=>∃ σ' H',Inv X pins σ' H' s'∧D.bk σ' H'
 | .cont=>∃ σ' H',Inv X pins σ' H' s'∧D.ct σ' H'
 | .ret u=>∃ v σ' H',Inv X pins σ' H' s'∧RelV v u∧D.rt v H'
def PE (X:Cx) (e:Expr) (t:TE):Prop :=
 ∀ (pins:List (Addr × Obj)) (s:Shared) (σ:St) (H:Hp) (Q:VK),Inv X pins σ H s→t σ H Q→wpAny (model X.prog X.w) X.A (eval e X.env) (EP X pins σ Q) X.xe s
def PT (X:Cx) (e:Expr) (t:TT):Prop :=
 ∀ (pins:List (Addr × Obj)) (s:Shared) (σ:St) (H:Hp) (Q:Bool→Hp→Prop),Inv X pins σ H s→t σ H Q→wpAny (model X.prog X.w) X.A (isTrue e X.env (eval e X.env)) (TP X pins σ Q) X.xe s
def PW (X:Cx) (e:Expr) (t:TT):Prop :=
 ∀ (whole:Sem Value) (pins:List (Addr × Obj)) (s:Shared) (σ:St) (H:Hp) (Q:Bool→Hp→Prop),Inv X pins σ H s→t σ H Q→wpAny (model X.prog X.w) X.A (isTrue e X.env whole) (TP X pins σ Q) X.xe s
theorem PW.pt {X:Cx} {e:Expr} {t:TT} (h:PW X e t):PT X e t:=h _
def PA (X:Cx) (es:List Expr) (t:TA):Prop :=
 ∀ (pos:Pos) (pins:List (Addr × Obj)) (s:Shared) (σ:St) (H:Hp) (Q:List V→Hp→Prop),Inv X pins σ H s→t σ H Q→wpAny (model X.prog X.w) X.A (spliced (backTo pos (starEach es X.env))) (AP X pins σ Q) X.xe s
def PS (X:Cx) (st:Stmt) (t:TS):Prop :=
 ∀ (pins:List (Addr × Obj)) (s:Shared) (σ:St) (H:Hp) (D:Ends),Inv X pins σ H s→t D σ H→wpAny (model X.prog X.w) X.A (exec st X.env) (SP X pins D) X.xe s
def PSs (X:Cx) (st:List Stmt) (t:TS):Prop :=
 ∀ (pins:List (Addr × Obj)) (s:Shared) (σ:St) (H:Hp) (D:Ends),Inv X pins σ H s→t D σ H→wpAny (model X.prog X.w) X.A (execs st X.env) (SP X pins D) X.xe s
theorem thn {α:Type} {t:Sem α} {Q Q':α→Shared→Prop} {M:Model} {A:Around} {E:Value→Shared→Prop} {s:Shared} (h:wpAny M A t Q E s) (hQ:∀ a s,Q a s→Q' a s):wpAny M A t Q' E s:=wpAny_mono h hQ fun _ _ x=>x
end L2
namespace L2
open PySem PySem.Spec PyProof.Rows
section
variable {X:Cx}
def tVar (i:Nat):TE:=fun σ H Q=>∃ v,σ[i]?=some (some v)∧Q v H
def tC (v:V):TE:=fun _ H Q=>Q v H
theorem pe_var {i:Nat} {x:Str} {pos:Pos} (hN:X.N[i]?=some x) (hv:Vis X.env.scope x) (hd:(x == ("__debug__":Str))=false:=by decide) (hcd:(x == ("__classdict__":Str))=false:=by decide):PE X (.Name x pos) (tVar i):=by
 intro pins s σ H Q I h
 obtain ⟨v,e,h⟩:=h
 obtain ⟨m,hn,hl⟩:=I.loc
 obtain ⟨u,r,l⟩:=hl i x v hN e hv
 have fin:EP X pins σ Q u s:=⟨v,H,I,r,h⟩
 rcases l with ⟨hk,hm⟩ | ⟨hk,c,hc,hcell⟩
 ·exact wpAny_Name (wpAny_loadName_local I.ok.kind hk hn hm fin) hd
 ·rcases hk with hk | hk
  ·exact wpAny_Name (wpAny_loadName_cell I.ok.kind hk hc hcell fin) hd
  ·exact wpAny_Name (wpAny_loadName_free I.ok.kind hk hc hcell fin hcd) hd
theorem pe_int {i j pos}:PE X (.Constant (.int i) j pos) (tC (.int i)):=fun _ _ _ H _ I h=>wpAny_Constant_int ⟨.int i,H,I.tok _,⟨_,rfl⟩,h⟩
theorem pe_bl {b j pos}:PE X (.Constant (.bool b) j pos) (tC (.bl b)):=fun _ _ _ H _ I h=>Constant_bool ⟨.bl b,H,I,rfl,h⟩
theorem pe_str {x j pos}:PE X (.Constant (.str x) j pos) (tC (.str x)):=fun _ _ _ H _ I h=>Calls.Constant_str ⟨.str x,H,I.tok _,⟨_,rfl⟩,h⟩
def Gl (X:Cx) (x:Str):Prop:=X.env.kindOf x=some .globalImplicit
theorem ld_glob {E:Value→Shared→Prop} {pins:List (Addr × Obj)} {s:Shared} {σ:St} {H:Hp} {x:Str} {u:Value} {pos:Pos} {Q:Value→Shared→Prop} (I:Inv X pins σ H s) (hg:Gl X x) (hm:X.mg x=some u) (h:Q u s)
  (hd:(x == ("__debug__":Str))=false:=by decide):wpAny (model X.prog X.w) X.A (eval (.Name x pos) X.env) Q E s :=
 Calls.Name_function_global I.ok.kind hg (Calls.loadGlobal_global (by rw [I.ok.glob]; exact I.mod.glob.keeps I.bk) hm h) hd
theorem ld_blt {E:Value→Shared→Prop} {pins:List (Addr × Obj)} {s:Shared} {σ:St} {H:Hp} {x:Str} {u:Value} {pos:Pos} {Q:Value→Shared→Prop} (I:Inv X pins σ H s) (hg:Gl X x) (hm:X.mg x=none) (hv:bootBuiltins x=some u) (h:Q u s)
  (hn:x≠"__name__":=by decide) (hd:(x == ("__debug__":Str))=false:=by decide):wpAny (model X.prog X.w) X.A (eval (.Name x pos) X.env) Q E s:=by
 obtain ⟨mb,h1,h2⟩:=I.mod.blt
 exact Calls.Name_function_global I.ok.kind hg (Calls.loadGlobal_builtin (by rw [I.ok.glob]; exact I.mod.glob.keeps I.bk) hm (by rw [I.ok.blt]; exact h1.keeps I.bk) ((h2 x hn).trans hv) h) hd
theorem pe_glob {x:Str} {v:V} {u:Value} {pos:Pos} (hg:Gl X x) (hm:X.mg x=some u) (r:RelV v u) (hd:(x == ("__debug__":Str))=false:=by decide):PE X (.Name x pos) (tC v) :=
 fun _ _ _ H _ I h=>ld_glob I hg hm ⟨v,H,I,r,h⟩ hd
variable {a b:Expr} {ta tb:TE} {pos:Pos}
def PC (X:Cx) (op:CmpOp) (a b:Expr) (t:TE):Prop :=
 ∀ (pins:List (Addr × Obj)) (s:Shared) (σ:St) (H:Hp) (Q:VK),Inv X pins σ H s→t σ H Q →
  wpAny (model X.prog X.w) X.A (eval a X.env) (fun v s₁=>wpAny (model X.prog X.w) X.A (eval b X.env) (fun u s₂=>wpAny (model X.prog X.w) X.A (compareOp op v u) (EP X pins σ Q) X.xe s₂) X.xe s₁) X.xe s
def tB (t:TE):TT:=fun σ H Q=>t σ H fun x H1=>∃ c,x=.bl c∧Q c H1
theorem pt_cmp {op:CmpOp} {t:TE} (h:PC X op a b t) (h1:behindInMarks op b=false:=by first | exact nobehind _ (by decide) (by decide) | rfl):PT X (.Compare a [op] [b] pos) (tB t):=by
 intro pins s σ H Q I hw
 refine wpAny_isTrue_Compare1 (thn (h pins s σ H _ I hw) fun v s1 h1=>thn h1 fun u s2 h2=>thn h2 fun c s3 ⟨x,H1,I1,r1,q1⟩=>?_) h1
 obtain ⟨d,rfl,q⟩:=q1
 cases r1
 exact wpAny_truthy_bool ⟨H1,I1,q⟩
theorem pt_val {e:Expr} {t:TE} (h:PE X e t) (he:∀ whole,isTrue e X.env whole=(do let v ← whole; standAt e.pos; holding [v] (truthy v)):=by intro _; rfl):PT X e (tB t):=by
 intro pins s σ H Q I hw
 refine isTrue_plain (thn (h pins s σ H _ I hw) fun v s1 ⟨x,H1,I1,r1,q1⟩=>?_) (he _)
 obtain ⟨d,rfl,q⟩:=q1
 cases r1
 exact wpAny_truthy_bool ⟨H1,I1,q⟩
variable {tA tB':TT} {rest:List Expr}
def tAnd (t u:TT):TT:=fun σ H Q=>t σ H fun c H1=>if c=true then u σ H1 Q else Q false H1
def tOr (t u:TT):TT:=fun σ H Q=>t σ H fun c H1=>if c=true then Q true H1 else u σ H1 Q
def tNot (t:TT):TT:=fun σ H Q=>t σ H fun c H1=>Q (!c) H1
theorem pw_and1 (ha:PT X a tA):PW X (.BoolOp .And [a] pos) tA:=by
 intro wh pins s σ H Q I h
 refine isTrue_and (thn (ha pins s σ H Q I h) fun c s1 e=>?_)
 cases c with
 | true=>exact isTrue_and_nil e
 | false=>exact e
theorem pw_or1 (ha:PT X a tA):PW X (.BoolOp .Or [a] pos) tA:=by
 intro wh pins s σ H Q I h
 refine isTrue_or (thn (ha pins s σ H Q I h) fun c s1 e=>?_)
 cases c with
 | false=>exact isTrue_or_nil e
 | true=>exact e
theorem pw_and (ha:PT X a tA) (hb:PW X (.BoolOp .And (b :: rest) pos) tB'):PW X (.BoolOp .And (a :: b :: rest) pos) (tAnd tA tB'):=by
 intro wh pins s σ H Q I h
 refine isTrue_and (thn (ha pins s σ H _ I h) fun c s1 ⟨H1,I1,q1⟩=>?_)
 cases c with
 | true=>exact hb wh pins s1 σ H1 Q I1 q1
 | false=>exact ⟨H1,I1,q1⟩
theorem pw_or (ha:PT X a tA) (hb:PW X (.BoolOp .Or (b :: rest) pos) tB'):PW X (.BoolOp .Or (a :: b :: rest) pos) (tOr tA tB'):=by
 intro wh pins s σ H Q I h
 refine isTrue_or (thn (ha pins s σ H _ I h) fun c s1 ⟨H1,I1,q1⟩=>?_)
 cases c with
 | true=>exact ⟨H1,I1,q1⟩
 | false=>exact hb wh pins s1 σ H1 Q I1 q1
theorem pt_not (ha:PT X a tA):PT X (.UnaryOp .Not a pos) (tNot tA):=by
 intro pins s σ H Q I h
 exact isTrue_not (ha pins s σ H (fun c H1=>Q (!c) H1) I h)
end
end L2
namespace L2
open PySem PySem.Spec PyProof.Rows
def SqL (K:PySem.W.Frag) (H:Hp) (a:Addr) (xs:List V):Prop :=
 Rd H a (.lst xs) ∨
  ∃ (o:Obj) (its:Array Value) (n:Nat),K.lookup a=some o∧o.cls=.type "list"∧o.dict=none∧o.data=.seq its n∧its.size≤sizeLine∧Vals xs its.toList
def SqT (K:PySem.W.Frag) (H:Hp) (a:Addr) (xs:List V):Prop :=
 Rd H a (.tup xs) ∨
  ∃ (o:Obj) (its:Array Value) (n:Nat),K.lookup a=some o∧o.cls=.type "tuple"∧o.data=.seq its n∧its.size≤sizeLine∧Vals xs its.toList
def absV:Value→Option V
 | .none=>some .non
 | .bool b=>some (.bl b)
 | .int i _=>some (.int i)
 | .str x _=>some (.str x)
 | .bytes b _=>some (.byt b)
 | .float b _=>some (.flt b)
 | .ref a=>some (.ref a)
 | .type n=>some (.ty n)
 | _=>none
theorem RelV.abs {x:V} {u:Value} (r:RelV x u):absV u=some x:=by
 cases x with
 | non=>cases r; rfl
 | bl _=>cases r; rfl
 | int _=>obtain ⟨t,rfl⟩:=r; rfl
 | str _=>obtain ⟨t,rfl⟩:=r; rfl
 | byt _=>obtain ⟨t,rfl⟩:=r; rfl
 | flt _=>obtain ⟨t,rfl⟩:=r; rfl
 | ref _=>cases r; rfl
 | ty _=>cases r; rfl
theorem RelV.inj {x y:V} {u:Value} (r:RelV x u) (q:RelV y u):x=y:=Option.some.inj (r.abs.symm.trans q.abs)
theorem Vals.inj:∀ {xs ys:List V} {us:List Value},Vals xs us→Vals ys us→xs=ys
 | _,_,_,.nil,.nil=>rfl
 | _,_,_,.cons r t,.cons r' t'=>by rw [r.inj r',Vals.inj t t']
section
variable {X:Cx} {pins:List (Addr × Obj)} {σ:St} {H:Hp} {s:Shared} {a:Addr} {xs ys:List V}
theorem SqL.of {K:PySem.W.Frag} (h:H a=some (.lst xs)):SqL K H a xs:=.inl (.inl h)
theorem SqT.of {K:PySem.W.Frag} (h:H a=some (.tup xs)):SqT K H a xs:=.inl (.inl h)
theorem Inv.list (I:Inv X pins σ H s) (h:SqL X.K H a xs):∃ its:List Value,Vals xs its∧PlainL s.heap a its.toArray∧xs.length≤sizeLine:=by
 rcases h with h | ⟨o,its,n,hk,hc,hd,hs,hz,r⟩
 ·obtain ⟨z,its,n,r,e⟩:=h.ok I.hok
  exact ⟨its,r,⟨_,n,e,rfl,rfl,rfl⟩,z⟩
 ·refine ⟨its.toList,r,⟨o,n,I.kIn a o hk,hc,hd,by simpa using hs⟩,?_⟩
  have e:=r.length
  simp only [Array.length_toList] at e
  lia
theorem Inv.tuple (I:Inv X pins σ H s) (h:SqT X.K H a xs):∃ its:List Value,Vals xs its∧IsTup s.heap a its.toArray∧xs.length≤sizeLine:=by
 rcases h with h | ⟨o,its,n,hk,hc,hs,hz,r⟩
 ·obtain ⟨z,its,r,p⟩:=h.ok I.hok
  exact ⟨its,r,p,z⟩
 ·refine ⟨its.toList,r,⟨o,I.kIn a o hk,hc,n,by simpa using hs⟩,?_⟩
  have e:=r.length
  simp only [Array.length_toList] at e
  lia
theorem Inv.list_inj (I:Inv X pins σ H s) (h:SqL X.K H a xs) (h':SqL X.K H a ys):xs=ys:=by
 obtain ⟨its,r,⟨o,n,e,_,_,d⟩,_⟩:=I.list h
 obtain ⟨its',r',⟨o',n',e',_,_,d'⟩,_⟩:=I.list h'
 rw [e] at e'; cases e'
 rw [d] at d'
 injection d' with d1 _
 have:its=its':=by simpa using congrArg Array.toList d1
 subst this
 exact r.inj r'
theorem Inv.tuple_inj (I:Inv X pins σ H s) (h:SqT X.K H a xs) (h':SqT X.K H a ys):xs=ys:=by
 obtain ⟨its,r,⟨o,e,_,n,d⟩,_⟩:=I.tuple h
 obtain ⟨its',r',⟨o',e',_,n',d'⟩,_⟩:=I.tuple h'
 rw [e] at e'; cases e'
 rw [d] at d'
 injection d' with d1 _
 have:its=its':=by simpa using congrArg Array.toList d1
 subst this
 exact r.inj r'
end
abbrev Cx.wish (X:Cx) (E:Value→Shared→Prop):Cx:={ X with xe:=E }
abbrev Cx.nox (X:Cx):Cx:=X.wish fun _ _=>False
theorem Cx.Ok.wish {X:Cx} (ok:X.Ok) (E:Value→Shared→Prop):(X.wish E).Ok :=
 ⟨ok.mod,ok.kind,ok.glob,ok.blt,ok.above,ok.inj,ok.has,ok.cab,ok.hd,ok.frames,ok.stk,ok.exf,ok.bs,ok.bsz,ok.noex,ok.exfs,ok.funs,ok.frf⟩
theorem Cx.Ok.unwish {X:Cx} {E:Value→Shared→Prop} (ok:(X.wish E).Ok):X.Ok :=
 ⟨ok.mod,ok.kind,ok.glob,ok.blt,ok.above,ok.inj,ok.has,ok.cab,ok.hd,ok.frames,ok.stk,ok.exf,ok.bs,ok.bsz,ok.noex,ok.exfs,ok.funs,ok.frf⟩
section
variable {X:Cx} {pins:List (Addr × Obj)} {σ:St} {H:Hp} {s:Shared} {E:Value→Shared→Prop}
theorem Inv.wish (I:Inv X pins σ H s) (E:Value→Shared→Prop):Inv (X.wish E) pins σ H s:=⟨I.ok.wish E,I.os,I.bare,I.base,I.loc,I.cell,I.free,I.freeC,I.pin,I.hok,I.len⟩
theorem Inv.unwish (I:Inv (X.wish E) pins σ H s):Inv X pins σ H s:=⟨I.ok.unwish,I.os,I.bare,I.base,I.loc,I.cell,I.free,I.freeC,I.pin,I.hok,I.len⟩
theorem SP.unwish {D:Ends} {f:Flow} {s':Shared} (h:SP (X.wish E) pins D f s'):SP X pins D f s':=by
 cases f with
 | next=>obtain ⟨σ',H',I,q⟩:=h; exact ⟨σ',H',I.unwish,q⟩
 | brk=>obtain ⟨σ',H',I,q⟩:=h; exact ⟨σ',H',I.unwish,q⟩
 | cont=>obtain ⟨σ',H',I,q⟩:=h; exact ⟨σ',H',I.unwish,q⟩
 | ret u=>obtain ⟨v,σ',H',I,r,q⟩:=h; exact ⟨v,σ',H',I.unwish,r,q⟩
theorem PSs.nox {st:List Stmt} {t:TS} (h:PSs X.nox st t):PSs X st t:=fun pins s σ H D I hw =>
 wpAny_mono (h pins s σ H D (I.wish _) hw) (fun _ _ q=>q.unwish) fun _ _ z=>False.elim z
end
section
variable {X:Cx} {st:Stmt} {rest:List Stmt} {t u:TS} {e:Expr} {te:TE} {pos:Pos}
def tNext:TS:=fun D σ H=>D.nx σ H
def tSeq (t u:TS):TS:=fun D σ H=>t { D with nx:=u D } σ H
theorem pss_nil:PSs X [] tNext:=fun _ _ σ H _ I h=>wpAny_execs_nil ⟨σ,H,I,h⟩
theorem pss_cons (h1:PS X st t) (h2:PSs X rest u):PSs X (st :: rest) (tSeq t u):=by
 intro pins s σ H D I h
 refine wpAny_execs_cons (thn (h1 pins s σ H { D with nx:=u D } I h) fun f s1 q=>?_)
 cases f with
 | next =>
  obtain ⟨σ',H',I',q⟩:=q
  exact h2 pins s1 σ' H' D I' q
 | ret v=>exact q
 | brk=>exact q
 | cont=>exact q
theorem pss_one (h1:PS X st t):PSs X [st] t:=by
 intro pins s σ H D I h
 refine wpAny_execs_cons (thn (h1 pins s σ H D I h) fun f s1 q=>?_)
 cases f with
 | next=>exact wpAny_execs_nil q
 | ret v=>exact q
 | brk=>exact q
 | cont=>exact q
theorem Inv.quiet {pins:List (Addr × Obj)} {σ:St} {H:Hp} {s:Shared} (I:Inv X pins σ H s):interactive X.env=false:=by simp [interactive,I.ok.kind]
def tDrop (te:TE):TS:=fun D σ H=>te σ H fun _ H1=>D.nx σ H1
theorem ps_expr (he:PE X e te) (hs:swapsWith e none pos.line X.env=pure false:=by rfl):PS X (.Expr e pos) (tDrop te):=by
 intro pins s σ H D I h
 exact wpAny_Expr_any (thn (he pins s σ H _ I h) fun v s1 ⟨x,H1,I1,r1,q1⟩=>⟨σ,H1,I1,q1⟩) I.quiet hs
def tRet (te:TE):TS:=fun D σ H=>te σ H D.rt
theorem ps_ret (he:PE X e te):PS X (.Return (some e) pos) (tRet te):=by
 intro pins s σ H D I h
 exact wpAny_Return_some (thn (he pins s σ H _ I h) fun v s1 ⟨x,H1,I1,r1,q1⟩=>⟨x,σ,H1,I1,r1,q1⟩)
def tIfS (c:TT) (t u:TS):TS:=fun D σ H=>c σ H fun b H1=>if b=true then t D σ H1 else u D σ H1
theorem ps_if {c:Expr} {a b:List Stmt} {tc:TT} (hc:PT X c tc) (ha:PSs X a t) (hb:PSs X b u):PS X (.If c a b pos) (tIfS tc t u):=by
 intro pins s σ H D I h
 refine wpAny_If (thn (hc pins s σ H _ I h) fun d s1 ⟨H1,I1,q1⟩=>?_)
 cases d with
 | true=>exact ha pins s1 σ H1 D I1 q1
 | false=>exact hb pins s1 σ H1 D I1 q1
def tNever:TS:=fun _ _ _=>False
theorem ps_never:PS X st tNever:=fun _ _ _ _ _ _ h=>h.elim
end
abbrev TG:=V→St→Hp→(St→Hp→Prop)→Prop
abbrev TGs:=List V→St→Hp→(St→Hp→Prop)→Prop
def PG (X:Cx) (target:Expr) (t:TG):Prop :=
 ∀ (pins:List (Addr × Obj)) (s:Shared) (σ:St) (H:Hp) (v:V) (u:Value) (Q:St→Hp→Prop),Inv X pins σ H s→RelV v u→t v σ H Q →
  wpAny (model X.prog X.w) X.A (assign target X.env u) (fun _ s'=>∃ σ' H',Inv X pins σ' H' s'∧Q σ' H') X.xe s
def PGs (X:Cx) (ts:List Expr) (t:TGs):Prop :=
 ∀ (pins:List (Addr × Obj)) (s:Shared) (σ:St) (H:Hp) (vs:List V) (us:List Value) (Q:St→Hp→Prop),Inv X pins σ H s→Vals vs us→t vs σ H Q →
  wpAny (model X.prog X.w) X.A (assignInOrder ((assignEach ts X.env).map (·.2)) us) (fun _ s'=>∃ σ' H',Inv X pins σ' H' s'∧Q σ' H') X.xe s
abbrev TSet:=V→V→V→Hp→(Hp→Prop)→Prop
def PSet (X:Cx) (t:TSet):Prop :=
 ∀ (pins:List (Addr × Obj)) (s:Shared) (σ:St) (H:Hp) (o i v:V) (ov iv u:Value) (Q:Hp→Prop),Inv X pins σ H s→RelV o ov→RelV i iv→RelV v u→t o i v H Q →
  wpAny (model X.prog X.w) X.A (setItem ov iv u) (fun _ s'=>∃ H',Inv X pins σ H' s'∧Q H') X.xe s
section
variable {X:Cx} {pos:Pos}
def gName (i:Nat):TG:=fun v σ H Q=>Q (σ.set i (some v)) H
theorem pg_name {i:Nat} {x:Str} (hN:X.N.Nodup) (hi:X.N[i]?=some x) (hx:Loc X.env.scope x) (hf:X.fn x=true∨X.env.scope.names.lookup x=some .local:=by first | exact .inl rfl | exact .inr rfl | assumption):PG X (.Name x pos) (gName i):=by
 intro pins s σ H v u Q I r h
 exact wpAny_assign_Name (store_ok I hN hi hx r (fun s' I'=>⟨_,H,I',h⟩) hf)
def gSub (to ti:TE) (t:TSet):TG:=fun v σ H Q=>to σ H fun o H1=>ti σ H1 fun i H2=>t o i v H2 fun H3=>Q σ H3
theorem pg_sub {o i:Expr} {to ti:TE} {t:TSet} (ho:PE X o to) (hi:PE X i ti) (hs:PSet X t)
  (ha:∀ v,assign (.Subscript o i pos) X.env v=(do
   let ov ← holding [v] (eval o X.env)
   let iv ← holding [v,ov] (eval i X.env)
   standAt pos
   holding [v,ov,iv] (setItem ov iv v)
   release [v,ov,iv] []):=by intro _; rfl):PG X (.Subscript o i pos) (gSub to ti t):=by
 intro pins s σ H v u Q I r h
 rw [ha]
 refine wpAny_bind (wpAny_holding (thn (ho pins s σ H _ I h) fun ov s1 ⟨x,H1,I1,r1,q1⟩=>?_))
 refine wpAny_bind (wpAny_holding (thn (hi pins s1 σ H1 _ I1 q1) fun iv s2 ⟨y,H2,I2,r2,q2⟩=>?_))
 refine wpAny_bind (wpAny_standAt (wpAny_bind (wpAny_holding (thn (hs pins s2 σ H2 x y v ov iv u _ I2 r1 r2 r q2) fun _ s3 ⟨H3,I3,q3⟩=>?_))))
 exact wpAny_release ⟨σ,H3,I3,q3⟩
def tAsg (te:TE) (g:TG):TS:=fun D σ H=>te σ H fun x H1=>g x σ H1 D.nx
theorem ps_asg {tg e:Expr} {te:TE} {g:TG} (he:PE X e te) (hg:PG X tg g) (hs:swapsWithSole [tg] e pos.line X.env=pure false:=by rfl) (hw:swappedStores [tg] e X.env=pure none:=by rfl)
  (h1:(assignEach [tg] X.env).map (·.2)=[assign tg X.env]:=by rfl):PS X (.Assign [tg] e pos) (tAsg te g):=by
 intro pins s σ H D I h
 refine wpAny_Assign_stores (thn (he pins s σ H _ I h) fun v s1 ⟨x,H1,I1,r1,q1⟩=>?_) hs hw
 rw [h1]
 exact thn (hg pins s1 σ H1 x v _ I1 r1 q1) fun _ s2 q=>q
theorem ps_set {i:Nat} {x:Str} {e:Expr} {te:TE} {pos':Pos} (hN:X.N.Nodup) (hi:X.N[i]?=some x) (hx:Loc X.env.scope x) (he:PE X e te) (hs:swapsWith e (some (.Name x pos')) pos.line X.env=pure false:=by rfl) (hf:X.fn x=true∨X.env.scope.names.lookup x=some .local:=by first | exact .inl rfl | exact .inr rfl | assumption) :
  PS X (.Assign [.Name x pos'] e pos) (tAsg te (gName i)):=by
 intro pins s σ H D I h
 refine wpAny_Assign_Name (thn (he pins s σ H _ I h) fun v s1 ⟨y,H1,I1,r1,q1⟩=>?_) hs
 exact store_ok I1 hN hi hx r1 (fun s2 I2=>⟨_,H1,I2,q1⟩) hf
end
section
variable {X:Cx} {pos:Pos}
def tWhile (c:TT) (tb:TS):TS:=fun D σ H=>∃ W:Nat→St→Hp→Prop,(∃ m,W m σ H)∧∀ m σ H,W m σ H →
 c σ H fun b H1=>if b=true then ∃ N:St→Hp→Prop,(∀ σ' H',N σ' H'→∃ m',m' < m∧W m' σ' H')∧tb { D with nx:=N,ct:=N,bk:=D.nx } σ H1 else D.nx σ H1
theorem ps_while {c:Expr} {body:List Stmt} {tc:TT} {tb:TS} (hp:PassesOwn (model X.prog X.w) X.A X.env X.xe) (hc:PT X c tc) (hb:PSs X body tb):PS X (.While c body [] pos) (tWhile tc tb):=by
 intro pins s σ H D I h
 obtain ⟨W,⟨m0,w0⟩,turn⟩:=h
 refine wpAny_While (codeAny_whileLoop (fun n s'=>∃ σ' H',Inv X pins σ' H' s'∧W n σ' H') ?_ m0 ⟨σ,H,I,w0⟩)
 rintro n s1 ⟨σ1,H1,I1,w1⟩
 refine wpAny_passesOwn hp (thn (hc pins s1 σ1 H1 _ I1 (turn n σ1 H1 w1)) fun b s2 ⟨H2,I2,q2⟩=>?_)
 cases b with
 | true =>
  obtain ⟨N,hN,q2⟩:=q2
  rw [if_pos rfl]
  refine wpAny_passesOwn hp (thn (hb pins s2 σ1 H2 _ I2 q2) fun f s3 q3=>?_)
  cases f with
  | next =>
   obtain ⟨σ3,H3,I3,n3⟩:=q3
   obtain ⟨m',hm,w3⟩:=hN σ3 H3 n3
   exact ⟨m',hm,σ3,H3,I3,w3⟩
  | cont =>
   obtain ⟨σ3,H3,I3,n3⟩:=q3
   obtain ⟨m',hm,w3⟩:=hN σ3 H3 n3
   exact ⟨m',hm,σ3,H3,I3,w3⟩
  | brk=>exact q3
  | ret v=>exact q3
 | false =>
  rw [if_neg Bool.false_ne_true]
  exact wpAny_execs_nil ⟨σ1,H2,I2,q2⟩
end
structure It where
 go:Nat→Hp→Prop
 yld:Nat→Hp→V→Hp→Prop
 stop:Nat→Hp→Prop
def FpOk (X:Cx) (pins:List (Addr × Obj)) (H:Hp) (b:Addr):Prop :=
 H b=none∧b≠X.env.locals∧b ∉ X.fs∧(b∈X.ex∨X.s₀.heap.objs.size≤b)∧(∀ x c,X.env.cells.lookup x=some c→c≠b)∧∀ p∈X.pn++pins,p.1≠b
theorem Inv.fpOk {X:Cx} {pins:List (Addr × Obj)} {σ:St} {H H':Hp} {s:Shared} {b:Addr} (I:Inv X pins σ H s) (hb:s.heap.objs.size≤b) (hn:H' b=none):FpOk X pins H' b:=by
 refine ⟨hn,Nat.ne_of_gt (Nat.lt_of_lt_of_le I.lt hb),I.nofs hb,.inr (Nat.le_trans I.sz hb),fun x c e z=>?_,fun p hp z=>?_⟩
 ·obtain ⟨v,q⟩:=I.cell x c e
  exact absurd (Nat.lt_of_lt_of_le q.lt (by rw [z]; exact hb)) (Nat.lt_irrefl _)
 ·exact absurd (Nat.lt_of_lt_of_le (Heap.lt_size (I.pin p hp).1) (by rw [z]; exact hb)) (Nat.lt_irrefl _)
structure Turn (P:Program) (w:World) (K:PySem.W.Frag) (tg:Expr) (J:It) (fp:List Addr) (it:Addr) (tn:Nat→Heap→Prop):Prop where
 mem:it∈fp
 obj:∀ i h,tn i h→∀ b∈fp,∃ o,h.get? b=some o∧∀ v,o.data≠.cell v
 keep:∀ i h h',tn i h→(∀ b∈fp,∀ o,h.get? b=some o→h'.get? b=some o)→tn i h'
 item:∀ (X:Cx),X.prog=P→X.w=w→X.K=K→X.calm=true→∀ (i:Nat) (pins:List (Addr × Obj)) (s:Shared) (σ:St) (H:Hp) (E:Value→Shared→Prop),Inv X pins σ H s→(∀ b∈fp,FpOk X pins H b)→tn i s.heap→J.go i H →
  wpAny (model P w) X.A (pyNext (.ref it)) (fun r s1=>∃ u,r=some u ∧
   wpAny (model P w) X.A (letOwnedTupleGo tg (.ref it) u) (fun _ s2=>∃ x H',Inv X pins σ H' s2∧RelV x u∧J.yld i H x H'∧tn (i+1) s2.heap∧∀ b∈fp,H' b=none) E s1) E s
 done:∀ (X:Cx),X.prog=P→X.w=w→X.K=K→X.calm=true→∀ (i:Nat) (pins:List (Addr × Obj)) (s:Shared) (σ:St) (H:Hp) (E:Value→Shared→Prop),Inv X pins σ H s→(∀ b∈fp,FpOk X pins H b)→tn i s.heap→J.stop i H →
  wpAny (model P w) X.A (pyNext (.ref it)) (fun r s1=>r=none∧Inv X pins σ H s1) E s
 self:∀ (A:Around) (i:Nat) (s:Shared) (Q:Value→Shared→Prop) (E:Value→Shared→Prop),tn i s.heap→Q (.ref it) s→wpAny (model P w) A (pyIter (.ref it)) Q E s
abbrev TI:=St→Hp→(It→Hp→Prop)→Prop
def PIE (X:Cx) (pins:List (Addr × Obj)) (σ:St) (tg:Expr) (R:It→Hp→Prop) (itv:Value) (s2:Shared):Prop :=
 ∃ (it:Addr) (fp:List Addr) (tn:Nat→Heap→Prop) (J:It) (H':Hp),itv=.ref it∧Inv X pins σ H' s2∧Turn X.prog X.w X.K tg J fp it tn∧tn 0 s2.heap∧(∀ b∈fp,FpOk X pins H' b)∧R J H'
def PI (X:Cx) (tg iter:Expr) (wi:TI):Prop :=
 ∀ (pins:List (Addr × Obj)) (s:Shared) (σ:St) (H:Hp) (R:It→Hp→Prop),Inv X pins σ H s→wi σ H R →
  wpAny (model X.prog X.w) X.A (eval iter X.env) (fun v s1=>wpAny (model X.prog X.w) X.A (pyIter v) (PIE X pins σ tg R) X.xe s1) X.xe s
theorem go_of {M:Model} {A:Around} {E:Value→Shared→Prop} {s:Shared} {tg:Expr} {it:Addr} {u:Value} {o:Obj} {n:String} {vs:Array Value} {Q:Unit→Shared→Prop} (ho:s.heap.get? it=some o) (hc:o.cls=.type n) (hd:o.data=.fields vs)
    (hn:["enumerate","zip","dict_itemiterator","dict_reverseitemiterator","odict_iterator","itertools.zip_longest","itertools.pairwise"].contains n=false) (hQ:Q () s):wpAny M A (letOwnedTupleGo tg (.ref it) u) Q E s:=by
  unfold letOwnedTupleGo
  cases tg <;> first
    | exact wpAny_pure hQ
    | (cases u <;> first
        | exact wpAny_pure hQ
        | (refine wpAny_bind (wpAny_load ho ?_)
           rw [hc,hd]
           show wpAny M A (if (["enumerate","zip","dict_itemiterator","dict_reverseitemiterator","odict_iterator","itertools.zip_longest","itertools.pairwise"].contains n && vs[0]? == some (rawInt _))=true then _ else _) Q E s
           rw [if_neg (by intro h; rw [hn,Bool.false_and] at h; cases h)]
           exact wpAny_pure hQ))
def Itl (K:PySem.W.Frag) (a:Addr):It :=
 ⟨fun i H=>∃ xs x,SqL K H a xs∧xs[i]?=some x,fun i H x H'=>H'=H∧∀ xs,SqL K H a xs→xs[i]?=some x,fun i H=>∃ xs,SqL K H a xs∧xs.length≤i⟩
def Itt (K:PySem.W.Frag) (a:Addr):It :=
 ⟨fun i H=>∃ xs x,SqT K H a xs∧xs[i]?=some x,fun i H x H'=>H'=H∧∀ xs,SqT K H a xs→xs[i]?=some x,fun i H=>∃ xs,SqT K H a xs∧xs.length≤i⟩
def Itr (lo:Int) (n:Nat):It:=⟨fun i _=>i < n,fun i H x H'=>H'=H∧x=.int (lo+i),fun i _=>n≤i⟩
theorem turn_list {P:Program} {w:World} {K:PySem.W.Frag} {tg:Expr} (a it:Addr):Turn P w K tg (Itl K a) [it] it (fun i h=>h.IsListIter it a i) where
 mem:=by simp
 obj:=fun i h st b hb=>by
  have e:b=it:=by simpa using hb
  subst e
  obtain ⟨o,e,c,d⟩:=st
  exact ⟨o,e,fun v z=>by rw [d] at z; cases z⟩
 keep:=fun i h h' st k=>st.at fun o e=>k it (by simp) o e
 item:=by
  intro X hP hw hK hc i pins s σ H E I hf st hg
  subst hP hw hK
  obtain ⟨xs,x,hq,hx⟩:=hg
  obtain ⟨its,rv,p,hz⟩:=I.list hq
  obtain ⟨u,hu,ru⟩:=rv.get hx
  obtain ⟨f0,f1,f2,f3,f4,f5⟩:=hf it (by simp)
  refine wpAny_pyNext_list_item st p.isList (x:=u) (by simpa using hu) fun h' st' sb=>?_
  have I1:Inv X pins σ H { s with heap:=h' }:=I.turned (t':=s.toks) (fun b o hb e=>(sb.2 b hb).trans e) f0 f1 f3 f4 f5
  obtain ⟨o,e,c,d⟩:=id st'
  exact ⟨u,rfl,go_of (s:={ s with heap:=h' }) e c d (by decide) ⟨x,H,I1,ru,⟨rfl,fun ys hy=>by rw [I.list_inj hy hq]; exact hx⟩,st',fun b hb=>(hf b hb).1⟩⟩
 done:=by
  intro X hP hw hK hc i pins s σ H E I hf st hg
  subst hP hw hK
  obtain ⟨xs,hq,hx⟩:=hg
  obtain ⟨its,rv,p,hz⟩:=I.list hq
  obtain ⟨f0,f1,f2,f3,f4,f5⟩:=hf it (by simp)
  have hl:=rv.length
  exact wpAny_pyNext_list_end (I.ok.hd hc) st p.isList (by simp; lia) fun h' eb=>⟨rfl,I.turned (t':=s.toks) (fun b o hb e=>eb b o hb e) f0 f1 f3 f4 f5⟩
 self:=fun _ _ _ _ _ st h=>wpAny_pyIter_listiter st h
theorem turn_tuple {P:Program} {w:World} {K:PySem.W.Frag} {tg:Expr} (a it:Addr):Turn P w K tg (Itt K a) [it] it (fun i h=>h.IsTupleIter it a i) where
 mem:=by simp
 obj:=fun i h st b hb=>by
  have e:b=it:=by simpa using hb
  subst e
  obtain ⟨o,e,c,d⟩:=st
  exact ⟨o,e,fun v z=>by rw [d] at z; cases z⟩
 keep:=fun i h h' st k=>st.at fun o e=>k it (by simp) o e
 item:=by
  intro X hP hw hK hc i pins s σ H E I hf st hg
  subst hP hw hK
  obtain ⟨xs,x,hq,hx⟩:=hg
  obtain ⟨its,rv,p,hz⟩:=I.tuple hq
  obtain ⟨u,hu,ru⟩:=rv.get hx
  obtain ⟨f0,f1,f2,f3,f4,f5⟩:=hf it (by simp)
  refine wpAny_pyNext_tuple_item st (show s.heap.IsTuple a its.toArray from p) (x:=u) (by simpa using hu) fun h' st' sb=>?_
  have I1:Inv X pins σ H { s with heap:=h' }:=I.turned (t':=s.toks) (fun b o hb e=>(sb.2 b hb).trans e) f0 f1 f3 f4 f5
  obtain ⟨o,e,c,d⟩:=id st'
  exact ⟨u,rfl,go_of (s:={ s with heap:=h' }) e c d (by decide) ⟨x,H,I1,ru,⟨rfl,fun ys hy=>by rw [I.tuple_inj hy hq]; exact hx⟩,st',fun b hb=>(hf b hb).1⟩⟩
 done:=by
  intro X hP hw hK hc i pins s σ H E I hf st hg
  subst hP hw hK
  obtain ⟨xs,hq,hx⟩:=hg
  obtain ⟨its,rv,p,hz⟩:=I.tuple hq
  obtain ⟨f0,f1,f2,f3,f4,f5⟩:=hf it (by simp)
  have hl:=rv.length
  exact wpAny_pyNext_tuple_end (I.ok.hd hc) st (show s.heap.IsTuple a its.toArray from p) (by simp; lia) fun h' eb=>⟨rfl,I.turned (t':=s.toks) (fun b o hb e=>eb b o hb e) f0 f1 f3 f4 f5⟩
 self:=fun _ _ _ _ _ st h=>wpAny_pyIter_tupleiter st h
theorem turn_range {P:Program} {w:World} {K:PySem.W.Frag} {tg:Expr} (it:Addr) (lo:Int) (n:Nat):Turn P w K tg (Itr lo n) [it] it (fun i h=>IsRangeIter h it (lo+(i:Nat) * 1) ((n:Int) - (i:Nat)) 1) where
 mem:=by simp
 obj:=fun i h st b hb=>by
  have e:b=it:=by simpa using hb
  subst e
  exact ⟨_,st,fun v z=>by
   have z':Data.fields _=Data.cell v:=z
   cases z'⟩
 keep:=fun i h h' st k=>k it (by simp) _ st
 item:=by
  intro X hP hw hK hc i pins s σ H E I hf st hg
  subst hP hw hK
  obtain ⟨f0,f1,f2,f3,f4,f5⟩:=hf it (by simp)
  have W:=Walks.range (prog:=X.prog) (w:=X.w) (I.ok.hd hc) it lo 1 n
  refine W.item i s _ _ hg st fun v h' tk hv st' kk=>?_
  obtain ⟨t,rfl⟩:=hv
  have I1:Inv X pins σ H { s with heap:=h',toks:=tk }:=I.turned (fun b o hb e=>kk b o (by simpa using hb) e) f0 f1 f3 f4 f5
  refine ⟨_,rfl,go_of (s:={ s with heap:=h',toks:=tk }) (n:="range_iterator") st' rfl rfl (by decide) ⟨.int (lo+i),H,I1,⟨t,?_⟩,⟨rfl,rfl⟩,st',fun b hb=>(hf b hb).1⟩⟩
  rw [Int.mul_one]
 done:=by
  intro X hP hw hK hc i pins s σ H E I hf st hg
  subst hP hw hK
  obtain ⟨f0,f1,f2,f3,f4,f5⟩:=hf it (by simp)
  exact wpAny_pyNext_range_end (I.ok.hd hc) st (by have:n≤i:=hg; lia) fun h' eb=>⟨rfl,I.turned (t':=s.toks) (fun b o hb e=>eb b o hb e) f0 f1 f3 f4 f5⟩
 self:=fun _ _ _ _ _ st h=>wpAny_pyIter_rangeiter st h
end L2
namespace L2
open PySem PySem.Spec PyProof.Rows
section
variable {X:Cx} {tg:Expr}
def iList (K:PySem.W.Frag) (tl:TE):TI:=fun σ H R=>tl σ H fun x H1=>∃ a,x=.ref a∧(∃ xs,SqL K H1 a xs)∧R (Itl K a) H1
theorem pi_list {l:Expr} {tl:TE} (hl:PE X l tl):PI X tg l (iList X.K tl):=by
 intro pins s σ H R I h
 refine thn (hl pins s σ H _ I h) fun v s1 ⟨x,H1,I1,r1,q1⟩=>?_
 obtain ⟨a,e,⟨xs,hq⟩,q⟩:=q1
 subst e
 cases r1
 obtain ⟨its,rv,p,hz⟩:=I1.list hq
 refine wpAny_pyIter_list p.isList ?_
 refine ⟨s1.heap.objs.size,[s1.heap.objs.size],_,_,H1,rfl,I1.kept (t':=s1.toks) fun b o e=>Heap.get?_push_of_some _ e,turn_list a _,⟨_,Heap.get?_push_size _ rfl,rfl,rfl⟩,fun b hb=>?_,q⟩
 have e:b=s1.heap.objs.size:=by simpa using hb
 subst e
 exact I1.fpOk (Nat.le_refl _) (I1.hok.fresh (Nat.le_refl _))
theorem range_it {pins:List (Addr × Obj)} {σ:St} {H:Hp} {s:Shared} {R:It→Hp→Prop} {E:Value→Shared→Prop} {lo hi:Int} {t u v:Tok} {tk:Nat} (I:Inv X pins σ H s) (h1:-(2 ^ 62)≤lo) (h2:lo < 2 ^ 62) (h3:-(2 ^ 62)≤hi) (h4:hi < 2 ^ 62)
  (q:R (Itr lo (hi - lo).toNat) H):wpAny (model X.prog X.w) X.A (pyIter (.ref s.heap.objs.size)) (PIE X pins σ tg R) E { s with heap:=s.heap.push { cls:=.type "range",data:=.fields #[.int lo t,.int hi u,.int 1 v] },toks:=tk }:=by
 refine wpAny_pyIter_range (IsRange.new ..) (small_one h1 h2 h3 h4) ?_
 have I1:Inv X pins σ H { s with heap:=s.heap.push { cls:=.type "range",data:=.fields #[.int lo t,.int hi u,.int 1 v] },toks:=tk }:=I.kept fun b o e=>Heap.get?_push_of_some _ e
 refine ⟨(s.heap.push { cls:=.type "range",data:=.fields #[.int lo t,.int hi u,.int 1 v] }).objs.size,[(s.heap.push { cls:=.type "range",data:=.fields #[.int lo t,.int hi u,.int 1 v] }).objs.size],_,_,H,rfl,
  I1.kept (t':=tk) fun b o e=>Heap.get?_push_of_some _ e,turn_range _ lo (hi - lo).toNat,?_,fun b hb=>?_,q⟩
 ·have e1:lo+((0:Nat):Int) * 1=lo:=by simp
  have e2:(((hi - lo).toNat:Nat):Int) - ((0:Nat):Int)=Builtin.Range.rangeSize lo hi 1:=by rw [rangeSize_one]; split <;> lia
  show IsRangeIter _ _ (lo+((0:Nat):Int) * 1) ((((hi - lo).toNat:Nat):Int) - ((0:Nat):Int)) 1
  rw [e1,e2]
  exact Heap.get?_push_size _ rfl
 ·have e:b=(s.heap.push { cls:=.type "range",data:=.fields #[.int lo t,.int hi u,.int 1 v] }).objs.size:=by simpa using hb
  subst e
  exact I1.fpOk (Nat.le_refl _) (I1.hok.fresh (Nat.le_refl _))
def iRng1 (ta:TA):TI:=fun σ H R=>ta σ H fun vs H1=>∃ j:Int,vs=[.int j]∧-(2 ^ 62)≤j∧j < 2 ^ 62∧R (Itr 0 j.toNat) H1
theorem pi_range1 {a:Expr} {ta:TA} {p pos:Pos} (hg:Gl X "range") (hm:X.mg "range"=none) (ha:PA X [a] ta) (hs:starEach [a] X.env=[(false,eval a X.env)]:=by rfl):PI X tg (.Call (.Name "range" p) [a] [] pos) (iRng1 ta):=by
 intro pins s σ H R I h
 refine Call_ (ld_blt I hg hm boot_range (PyProof.Rows.callWith_type1 (thn (ha pos pins s σ H _ I h) fun us s1 ⟨vs,H1,I1,r1,q1⟩=>?_) hs rfl))
 obtain ⟨j,e,q1,q2,q⟩:=q1
 subst e
 cases r1 with
 | cons r rr =>
  cases rr
  obtain ⟨t,rfl⟩:=r
  exact call_range_1 (range_it I1 (by lia) (by lia) q1 q2 (by simpa using q))
def tFor (wi:TI) (g:TG) (tb:TS):TS:=fun D σ H=>wi σ H fun J H1=>∃ W:Nat→Nat→St→Hp→Prop,(∃ m,W 0 m σ H1)∧∀ i m σ H,W i m σ H →
 (J.stop i H∧D.nx σ H)∨(J.go i H∧∃ N:St→Hp→Prop,(∀ σ' H',N σ' H'→∃ m',m' < m∧W (i+1) m' σ' H')∧∀ x H',J.yld i H x H'→g x σ H' fun σ2 H2=>tb { D with nx:=N,ct:=N,bk:=D.nx } σ2 H2)
def pinsAt (fp:List Addr) (h:Heap):List (Addr × Obj):=fp.filterMap fun b=>(h.get? b).map fun o=>(b,o)
theorem mem_pinsAt {fp:List Addr} {h:Heap} {b:Addr} {o:Obj} (hb:b∈fp) (e:h.get? b=some o):(b,o)∈pinsAt fp h:=List.mem_filterMap.mpr ⟨b,hb,by rw [e]; rfl⟩
theorem of_pinsAt {fp:List Addr} {h:Heap} {p:Addr × Obj} (hp:p∈pinsAt fp h):p.1∈fp∧h.get? p.1=some p.2:=by
 obtain ⟨b,hb,e⟩:=List.mem_filterMap.mp hp
 cases q:h.get? b with
 | none=>rw [q] at e; cases e
 | some o =>
  rw [q] at e
  have e':(b,o)=p:=Option.some.inj e
  subst e'
  exact ⟨hb,q⟩
theorem Inv.pinned {pins:List (Addr × Obj)} {σ:St} {H:Hp} {s:Shared} {fp:List Addr} (I:Inv X pins σ H s) (hf:∀ b∈fp,FpOk X pins H b) (ho:∀ b∈fp,∃ o,s.heap.get? b=some o∧∀ v,o.data≠.cell v):Inv X (pins++pinsAt fp s.heap) σ H s :=
 I.pins_of fun p hp=>(List.mem_append.mp hp).elim (fun z=>I.pin p (List.mem_append_right _ z)) fun z=>by
  obtain ⟨hb,e⟩:=of_pinsAt z
  obtain ⟨f0,f1,f2,_⟩:=hf p.1 hb
  obtain ⟨o,e',d⟩:=ho p.1 hb
  rw [e] at e'; cases e'
  exact ⟨e,f0,f1,f2,d⟩
theorem Inv.unpinned {pins pl:List (Addr × Obj)} {σ:St} {H:Hp} {s:Shared} (I:Inv X (pins++pl) σ H s):Inv X pins σ H s:=I.pins_of fun p hp=>I.pin p (List.mem_append_right _ (List.mem_append_left _ hp))
theorem ps_for {iter:Expr} {body:List Stmt} {wi:TI} {g:TG} {tb:TS} {pos:Pos} (hp:PassesOwn (model X.prog X.w) X.A X.env X.xe) (hc:X.calm=true) (hi:PI X tg iter wi) (hg:PG X tg g) (hb:PSs X body tb)
  (hs:∀ x,foldedSetIterable iter X.env x=pure x:=by intro _; rfl):PS X (.For tg iter body [] pos) (tFor wi g tb):=by
 intro pins s σ H D I h
 refine wpAny_For (thn (hi pins s σ H _ I h) fun v s1 h1=>thn h1 fun itv s2 h2=>?_) hs
 obtain ⟨it,fp,tn,J,H2,e,I2,T,st2,f2,W,⟨m0,w0⟩,turn⟩:=h2
 subst e
 have stat:∀ {H':Hp},(∀ b∈fp,H' b=none)→∀ b∈fp,FpOk X pins H' b:=fun hn b hb=>⟨hn b hb,(f2 b hb).2⟩
 refine codeAny_forLoop_any (fun n s'=>∃ i σ' H',Inv X pins σ' H' s'∧tn i s'.heap∧(∀ b∈fp,H' b=none)∧W i n σ' H') ?_ m0 ⟨0,σ,H2,I2,st2,fun b hb=>(f2 b hb).1,w0⟩
 rintro n s3 ⟨i,σ3,H3,I3,st3,fr3,w3⟩
 rcases turn i n σ3 H3 w3 with ⟨stop,qn⟩ | ⟨go,N,hN,step⟩
 ·refine wpAny_passesOwn hp (thn (T.done X rfl rfl rfl hc i pins s3 σ3 H3 X.xe I3 (stat fr3) st3 stop) fun r s4 ⟨hr,I4⟩=>?_)
  subst hr
  exact wpAny_execs_nil ⟨σ3,H3,I4,qn⟩
 ·refine wpAny_passesOwn hp (thn (T.item X rfl rfl rfl hc i pins s3 σ3 H3 X.xe I3 (stat fr3) st3 go) fun r s4 ⟨u,hr,h4⟩=>?_)
  subst hr
  refine wpAny_passesOwn hp (thn h4 fun _ s5 ⟨x,H5,I5,r5,y5,st5,fr5⟩=>?_)
  have I5':=I5.pinned (stat fr5) (T.obj _ _ st5)
  refine wpAny_passesOwn hp (thn (hg _ s5 σ3 H5 x u _ I5' r5 (step x H5 y5)) fun _ s6 ⟨σ6,H6,I6,q6⟩=>?_)
  refine wpAny_passesOwn hp (thn (hb _ s6 σ6 H6 _ I6 q6) fun f s7 q7=>?_)
  have again:∀ {σ7:St} {H7:Hp},Inv X (pins++pinsAt fp s5.heap) σ7 H7 s7→N σ7 H7→∃ m,m < n∧∃ i σ' H',Inv X pins σ' H' s7∧tn i s7.heap∧(∀ b∈fp,H' b=none)∧W i m σ' H':=fun {σ7 H7} I7 n7=>by
   obtain ⟨m',hm,w7⟩:=hN σ7 H7 n7
   refine ⟨m',hm,i+1,σ7,H7,I7.unpinned,T.keep _ _ _ st5 fun b hb o e=>(I7.pin (b,o) (List.mem_append_right _ (List.mem_append_right _ (mem_pinsAt hb e)))).1,fun b hb=>?_,w7⟩
   obtain ⟨o,e,d⟩:=T.obj _ _ st5 b hb
   exact (I7.pin (b,o) (List.mem_append_right _ (List.mem_append_right _ (mem_pinsAt hb e)))).2.1
  cases f with
  | next=>obtain ⟨σ7,H7,I7,n7⟩:=q7; exact again I7 n7
  | cont=>obtain ⟨σ7,H7,I7,n7⟩:=q7; exact again I7 n7
  | brk=>obtain ⟨σ7,H7,I7,q7⟩:=q7; exact ⟨σ7,H7,I7.unpinned,q7⟩
  | ret v=>obtain ⟨x7,σ7,H7,I7,r7,q7⟩:=q7; exact ⟨x7,σ7,H7,I7.unpinned,r7,q7⟩
end
theorem for_range {lo:Int} {n:Nat} {g:TG} {tb:TS} {D:Ends} {σ:St} {H:Hp} (Pv:Nat→St→Hp→Prop) (h0:Pv 0 σ H)
  (hs:∀ i σ H,i < n→Pv i σ H→g (.int (lo+i)) σ H fun σ2 H2=>tb { D with nx:=Pv (i+1),ct:=Pv (i+1),bk:=D.nx } σ2 H2) (hd:∀ σ H,Pv n σ H→D.nx σ H) :
  ∃ W:Nat→Nat→St→Hp→Prop,(∃ m,W 0 m σ H)∧∀ i m σ H,W i m σ H →
   ((Itr lo n).stop i H∧D.nx σ H)∨((Itr lo n).go i H∧∃ N:St→Hp→Prop,(∀ σ' H',N σ' H'→∃ m',m' < m∧W (i+1) m' σ' H')∧∀ x H',(Itr lo n).yld i H x H'→g x σ H' fun σ2 H2=>tb { D with nx:=N,ct:=N,bk:=D.nx } σ2 H2):=by
 refine ⟨fun i m σ H=>m=n - i∧i≤n∧Pv i σ H,⟨n,by simp,Nat.zero_le _,h0⟩,?_⟩
 rintro i m σ H ⟨rfl,hi,p⟩
 by_cases hlt:i < n
 ·refine .inr ⟨hlt,Pv (i+1),fun σ' H' p'=>⟨n - (i+1),by lia,rfl,hlt,p'⟩,fun x H' y=>?_⟩
  obtain ⟨e,y⟩:=y
  subst e y
  exact hs i σ _ hlt p
 ·have e:i=n:=by lia
  subst e
  exact .inl ⟨Nat.le_refl _,hd σ H p⟩
end L2
namespace L2
open PySem PySem.Spec PyProof.Rows
abbrev R2:=V→V→Hp→VK→Prop
def OpR (X:Cx) (f:Value→Value→Sem Value) (r:R2):Prop :=
 ∀ (pins:List (Addr × Obj)) (s:Shared) (σ:St) (H:Hp) (x y:V) (v u:Value) (Q:VK),Inv X pins σ H s→RelV x v→RelV y u→r x y H Q →
  wpAny (model X.prog X.w) X.A (f v u) (EP X pins σ Q) X.xe s
def UnR (X:Cx) (f:Value→Sem Value) (r:V→Hp→VK→Prop):Prop :=
 ∀ (pins:List (Addr × Obj)) (s:Shared) (σ:St) (H:Hp) (x:V) (v:Value) (Q:VK),Inv X pins σ H s→RelV x v→r x H Q →
  wpAny (model X.prog X.w) X.A (f v) (EP X pins σ Q) X.xe s
def CallR (X:Cx) (f:Value) (r:List V→Hp→VK→Prop):Prop :=
 ∀ (pins:List (Addr × Obj)) (s:Shared) (σ:St) (H:Hp) (xs:List V) (us:List Value) (Q:VK),Inv X pins σ H s→Vals xs us→r xs H Q →
  wpAny (model X.prog X.w) X.A (call f us) (EP X pins σ Q) X.xe s
def tOp (r:R2) (ta tb:TE):TE:=fun σ H Q=>ta σ H fun x H1=>tb σ H1 fun y H2=>r x y H2 Q
def tUn (r:V→Hp→VK→Prop) (ta:TE):TE:=fun σ H Q=>ta σ H fun x H1=>r x H1 Q
def rI (C:Int→Int→Prop) (g:Int→Int→V):R2:=fun x y H Q=>∃ i j,x=.int i∧y=.int j∧C i j∧Q (g i j) H
def rI0 (g:Int→Int→V):R2:=fun x y H Q=>∃ i j,x=.int i∧y=.int j∧Q (g i j) H
def rU (g:Int→V):V→Hp→VK→Prop:=fun x H Q=>∃ i,x=.int i∧Q (g i) H
section
variable {X:Cx} {a b c:Expr} {ta tb tc:TE} {pos:Pos}
theorem binT (ha:PE X a ta) (hb:PE X b tb) {pins:List (Addr × Obj)} {s:Shared} {σ:St} {H:Hp} {R:V→V→Hp→Prop} (I:Inv X pins σ H s)
  (h:ta σ H fun x H1=>tb σ H1 fun y H2=>R x y H2) {Q:Value→Shared→Prop} {f:Value→Value→Sem Value}
  (hf:∀ v u s2 x y H2,Inv X pins σ H2 s2→RelV x v→RelV y u→R x y H2→wpAny (model X.prog X.w) X.A (f v u) Q X.xe s2) :
  wpAny (model X.prog X.w) X.A (eval a X.env) (fun v s₁=>wpAny (model X.prog X.w) X.A (eval b X.env) (fun u s₂=>wpAny (model X.prog X.w) X.A (f v u) Q X.xe s₂) X.xe s₁) X.xe s:=by
 refine thn (ha pins s σ H _ I h) fun v s1 ⟨x,H1,I1,r1,q1⟩=>?_
 refine thn (hb pins s1 σ H1 _ I1 q1) fun u s2 ⟨y,H2,I2,r2,q2⟩=>?_
 exact hf v u s2 x y H2 I2 r1 r2 q2
theorem pe_op {op:Operator} {r:R2} (ho:OpR X (binaryOp op) r) (ha:PE X a ta) (hb:PE X b tb):PE X (.BinOp a op b pos) (tOp r ta tb):=by
 intro pins s σ H Q I h
 exact wpAny_BinOp (binT ha hb I h fun v u s2 x y H2 I2 rx ry q=>ho pins s2 σ H2 x y v u Q I2 rx ry q)
theorem pe_un {op:UnaryOp} {r:V→Hp→VK→Prop} (ho:UnR X (unaryOp op) r) (ha:PE X a ta):PE X (.UnaryOp op a pos) (tUn r ta):=by
 intro pins s σ H Q I h
 exact UnaryOp_ (thn (ha pins s σ H _ I h) fun v s1 ⟨x,H1,I1,r1,q1⟩=>ho pins s1 σ H1 x v Q I1 r1 q1)
theorem opI {f:Value→Value→Sem Value} {C:Int→Int→Prop} {g:Int→Int→Int}
  (rule:∀ (i j:Int) (t u:Tok) (s:Shared) (Q:Value→Shared→Prop) (E:Value→Shared→Prop),C i j→Q (.int (g i j) s.toks) { s with toks:=s.toks+1 }→wpAny (model X.prog X.w) X.A (f (.int i t) (.int j u)) Q E s) :
  OpR X f (rI C fun i j=>.int (g i j)):=by
 intro pins s σ H x y v u Q I rx ry h
 obtain ⟨i,j,rfl,rfl,hc,q⟩:=h
 obtain ⟨t,rfl⟩:=rx
 obtain ⟨t',rfl⟩:=ry
 exact rule i j t t' s _ _ hc ⟨.int (g i j),H,I.tok _,⟨_,rfl⟩,q⟩
theorem opI0 {f:Value→Value→Sem Value} {g:Int→Int→Int}
  (rule:∀ (i j:Int) (t u:Tok) (s:Shared) (Q:Value→Shared→Prop) (E:Value→Shared→Prop),Q (.int (g i j) s.toks) { s with toks:=s.toks+1 }→wpAny (model X.prog X.w) X.A (f (.int i t) (.int j u)) Q E s) :
  OpR X f (rI0 fun i j=>.int (g i j)):=by
 intro pins s σ H x y v u Q I rx ry h
 obtain ⟨i,j,rfl,rfl,q⟩:=h
 obtain ⟨t,rfl⟩:=rx
 obtain ⟨t',rfl⟩:=ry
 exact rule i j t t' s _ _ ⟨.int (g i j),H,I.tok _,⟨_,rfl⟩,q⟩
theorem opB0 {f:Value→Value→Sem Value} {g:Int→Int→Bool}
  (rule:∀ (i j:Int) (t u:Tok) (s:Shared) (Q:Value→Shared→Prop) (E:Value→Shared→Prop),Q (.bool (g i j)) s→wpAny (model X.prog X.w) X.A (f (.int i t) (.int j u)) Q E s) :
  OpR X f (rI0 fun i j=>.bl (g i j)):=by
 intro pins s σ H x y v u Q I rx ry h
 obtain ⟨i,j,rfl,rfl,q⟩:=h
 obtain ⟨t,rfl⟩:=rx
 obtain ⟨t',rfl⟩:=ry
 exact rule i j t t' s _ _ ⟨.bl (g i j),H,I,rfl,q⟩
def CPow (i j:Int):Prop:=0≤j∧j≤1000000∧i.natAbs < 2 ^ 64
def CMul (i j:Int):Prop:=(-(2 ^ 64) < i∧i < 2 ^ 64)∨(-(2 ^ 64) < j∧j < 2 ^ 64)
theorem CMul.ok {i j:Int} (h:CMul i j):IntMulOk i j:=by
 rcases h with ⟨h1,h2⟩ | ⟨h1,h2⟩
 ·exact .of_left (intBits_le_64 h1 h2)
 ·exact .of_right (intBits_le_64 h1 h2)
theorem op_add:OpR X (binaryOp .Add) (rI0 fun i j=>.int (i+j)):=opI0 fun _ _ _ _ _ _ _ q=>add_int q
theorem op_sub:OpR X (binaryOp .Sub) (rI0 fun i j=>.int (i - j)):=opI0 fun _ _ _ _ _ _ _ q=>sub_int q
theorem op_mul:OpR X (binaryOp .Mult) (rI CMul fun i j=>.int (i * j)):=opI fun _ _ _ _ _ _ _ hc q=>mul_int q hc.ok
theorem op_mod:OpR X (binaryOp .Mod) (rI (fun _ j=>0 < j) fun i j=>.int (i % j)):=opI fun i j _ _ _ _ _ hc q=>by
 have h1:(0:Int) < j:=hc
 exact mod_int' (by lia) (by rw [Int.fmod_eq_emod_of_nonneg i (by lia)]; exact q)
theorem op_pow:OpR X (binaryOp .Pow) (rI CPow fun i j=>.int (i ^ j.toNat)):=opI fun _ _ _ _ _ _ _ hc q=>pow_int_small hc.1 hc.2.1 hc.2.2 q
theorem unI {f:Value→Sem Value} {g:Int→Int}
  (rule:∀ (i:Int) (t:Tok) (s:Shared) (Q:Value→Shared→Prop) (E:Value→Shared→Prop),Q (.int (g i) s.toks) { s with toks:=s.toks+1 }→wpAny (model X.prog X.w) X.A (f (.int i t)) Q E s) :
  UnR X f (rU fun i=>.int (g i)):=by
 intro pins s σ H x v Q I rx h
 obtain ⟨i,rfl,q⟩:=h
 obtain ⟨t,rfl⟩:=rx
 exact rule i t s _ _ ⟨.int (g i),H,I.tok _,⟨_,rfl⟩,q⟩
theorem un_neg:UnR X (unaryOp .USub) (rU fun i=>.int (-i)):=unI fun _ _ _ _ _ q=>neg_int q
end
def scal:V→V→Bool
 | .non,.non=>true | .non,.int _=>true | .int _,.non=>true | .non,.bl _=>true | .bl _,.non=>true | .non,.str _=>true | .str _,.non=>true
 | .int _,.int _=>true | .bl _,.bl _=>true | .str _,.str _=>true | .byt _,.byt _=>true
 | .int _,.str _=>true | .str _,.int _=>true | .bl _,.str _=>true | .str _,.bl _=>true
 | _,_=>false
def rEq:R2:=fun x y H Q=>scal x y=true∧Q (.bl (decide (x=y))) H
def rNe:R2:=fun x y H Q=>scal x y=true∧Q (.bl (!decide (x=y))) H
theorem dec_int {i j:Int}:decide (V.int i=V.int j)=(i == j):=by
 rw [Bool.eq_iff_iff]
 simp
theorem dec_bl {i j:Bool}:decide (V.bl i=V.bl j)=(i == j):=by
 rw [Bool.eq_iff_iff]
 simp
theorem dec_str {i j:Str}:decide (V.str i=V.str j)=(i == j):=by
 rw [Bool.eq_iff_iff]
 simp
theorem dec_byt {i j:Array UInt8}:decide (V.byt i=V.byt j)=(i.toList == j.toList):=by
 rw [Bool.eq_iff_iff]
 cases i
 cases j
 simp
section
variable {X:Cx} {a b c:Expr} {ta tb tc:TE} {pos:Pos}
theorem fin_bl {pins:List (Addr × Obj)} {σ:St} {H:Hp} {s:Shared} {Q:VK} {k k':Bool} (I:Inv X pins σ H s) (q:Q (.bl k) H) (e:k=k'):EP X pins σ Q (.bool k') s:=by
 subst e
 exact ⟨.bl k,H,I,rfl,q⟩
theorem op_eq:OpR X (compareOp .Eq) rEq:=by
 intro pins s σ H x y v u Q I rx ry h
 obtain ⟨hs,q⟩:=h
 cases x with
 | non =>
  cases rx
  cases y with
  | non=>cases ry; exact PySem.EqNone.eq_none_none (fin_bl I q (by simp))
  | bl j=>cases ry; exact PySem.EqNone.eq_none_bool (fin_bl I q (by simp))
  | int j=>obtain ⟨t',rfl⟩:=ry; exact PySem.EqNone.eq_none_int (fin_bl I q (by simp))
  | str j=>obtain ⟨t',rfl⟩:=ry; exact PySem.EqNone.eq_none_str (fin_bl I q (by simp))
  | _=>exact absurd (show false=true from hs) Bool.false_ne_true
 | bl i =>
  cases rx
  cases y with
  | non=>cases ry; exact PySem.EqNone.eq_bool_none (fin_bl I q (by simp))
  | bl j=>cases ry; exact eq_bool (fin_bl I q dec_bl)
  | str j=>obtain ⟨t',rfl⟩:=ry; exact PySem.EqMixed.eq_bool_str (fin_bl I q (by simp))
  | _=>exact absurd (show false=true from hs) Bool.false_ne_true
 | int i =>
  obtain ⟨t,rfl⟩:=rx
  cases y with
  | non=>cases ry; exact PySem.EqNone.eq_int_none (fin_bl I q (by simp))
  | int j=>obtain ⟨t',rfl⟩:=ry; exact eq_int (fin_bl I q dec_int)
  | str j=>obtain ⟨t',rfl⟩:=ry; exact PySem.EqMixed.eq_int_str (fin_bl I q (by simp))
  | _=>exact absurd (show false=true from hs) Bool.false_ne_true
 | str i =>
  obtain ⟨t,rfl⟩:=rx
  cases y with
  | non=>cases ry; exact PySem.EqNone.eq_str_none (fin_bl I q (by simp))
  | bl j=>cases ry; exact PySem.EqMixed.eq_str_bool (fin_bl I q (by simp))
  | int j=>obtain ⟨t',rfl⟩:=ry; exact PySem.EqMixed.eq_str_int (fin_bl I q (by simp))
  | str j=>obtain ⟨t',rfl⟩:=ry; exact eq_str (fin_bl I q dec_str)
  | _=>exact absurd (show false=true from hs) Bool.false_ne_true
 | byt i =>
  obtain ⟨t,rfl⟩:=rx
  cases y with
  | byt j=>obtain ⟨t',rfl⟩:=ry; exact PySem.W.eq_bytes (fin_bl I q dec_byt)
  | _=>exact absurd (show false=true from hs) Bool.false_ne_true
 | _=>cases y <;> exact absurd (show false=true from hs) Bool.false_ne_true
theorem op_ne:OpR X (compareOp .NotEq) rNe:=by
 intro pins s σ H x y v u Q I rx ry h
 obtain ⟨hs,q⟩:=h
 cases x with
 | non =>
  cases rx
  cases y with
  | non=>cases ry; exact PySem.EqNone.ne_none_none (fin_bl I q (by simp))
  | bl j=>cases ry; exact PySem.EqNone.ne_none_bool (fin_bl I q (by simp))
  | int j=>obtain ⟨t',rfl⟩:=ry; exact PySem.EqNone.ne_none_int (fin_bl I q (by simp))
  | str j=>obtain ⟨t',rfl⟩:=ry; exact PySem.EqNone.ne_none_str (fin_bl I q (by simp))
  | _=>exact absurd (show false=true from hs) Bool.false_ne_true
 | bl i =>
  cases rx
  cases y with
  | non=>cases ry; exact PySem.EqNone.ne_bool_none (fin_bl I q (by simp))
  | bl j=>cases ry; exact ne_bool (fin_bl I q (congrArg not dec_bl))
  | str j=>obtain ⟨t',rfl⟩:=ry; exact PySem.EqMixed.ne_bool_str (fin_bl I q (by simp))
  | _=>exact absurd (show false=true from hs) Bool.false_ne_true
 | int i =>
  obtain ⟨t,rfl⟩:=rx
  cases y with
  | non=>cases ry; exact PySem.EqNone.ne_int_none (fin_bl I q (by simp))
  | int j=>obtain ⟨t',rfl⟩:=ry; exact ne_int (fin_bl I q (congrArg not dec_int))
  | str j=>obtain ⟨t',rfl⟩:=ry; exact PySem.EqMixed.ne_int_str (fin_bl I q (by simp))
  | _=>exact absurd (show false=true from hs) Bool.false_ne_true
 | str i =>
  obtain ⟨t,rfl⟩:=rx
  cases y with
  | non=>cases ry; exact PySem.EqNone.ne_str_none (fin_bl I q (by simp))
  | bl j=>cases ry; exact PySem.EqMixed.ne_str_bool (fin_bl I q (by simp))
  | int j=>obtain ⟨t',rfl⟩:=ry; exact PySem.EqMixed.ne_str_int (fin_bl I q (by simp))
  | str j=>obtain ⟨t',rfl⟩:=ry; exact ne_str (fin_bl I q (congrArg not dec_str))
  | _=>exact absurd (show false=true from hs) Bool.false_ne_true
 | byt i =>
  obtain ⟨t,rfl⟩:=rx
  cases y with
  | byt j=>obtain ⟨t',rfl⟩:=ry; exact PySem.W.ne_bytes (fin_bl I q (congrArg not dec_byt))
  | _=>exact absurd (show false=true from hs) Bool.false_ne_true
 | _=>cases y <;> exact absurd (show false=true from hs) Bool.false_ne_true
theorem op_lt:OpR X (compareOp .Lt) (rI0 fun i j=>.bl (decide (i < j))):=opB0 fun _ _ _ _ _ _ _ q=>lt_int q
theorem op_gt:OpR X (compareOp .Gt) (rI0 fun i j=>.bl (decide (j < i))):=opB0 fun _ _ _ _ _ _ _ q=>gt_int q
theorem op_ge:OpR X (compareOp .GtE) (rI0 fun i j=>.bl (decide (j≤i))):=opB0 fun _ _ _ _ _ _ _ q=>ge_int q
theorem nomark (b:Expr) {op:CmpOp} (h:op≠.In:=by decide) (h2:op≠.NotIn:=by decide):behindInMarks op b=false:=by
 have e1:(op == CmpOp.In)=false:=by cases op <;> first | rfl | exact absurd rfl h
 have e2:(op == CmpOp.NotIn)=false:=by cases op <;> first | rfl | exact absurd rfl h2
 cases b <;> simp [behindInMarks,e1,e2]
theorem pe_cmpR {op:CmpOp} {r:R2} (ho:OpR X (compareOp op) r) (ha:PE X a ta) (hb:PE X b tb) (hm:behindInMarks op b=false):PE X (.Compare a [op] [b] pos) (tOp r ta tb):=by
 intro pins s σ H Q I h
 exact wpAny_Compare1 (binT ha hb I h fun v u s2 x y H2 I2 rx ry q=>ho pins s2 σ H2 x y v u Q I2 rx ry q) hm
def tTest (t:TE):TT:=fun σ H Q=>t σ H fun x H'=>∃ k,x=.bl k∧Q k H'
theorem pt_cmpR {op:CmpOp} {r:R2} (ho:OpR X (compareOp op) r) (ha:PE X a ta) (hb:PE X b tb) (hm:behindInMarks op b=false):PT X (.Compare a [op] [b] pos) (tTest (tOp r ta tb)):=by
 intro pins s σ H Q I h
 refine wpAny_isTrue_Compare1 (thn (ha pins s σ H _ I h) fun v s1 ⟨x,H1,I1,r1,q1⟩=>thn (hb pins s1 σ H1 _ I1 q1) fun u s2 ⟨y,H2,I2,r2,q2⟩ =>
  thn (ho pins s2 σ H2 x y v u _ I2 r1 r2 q2) fun c s3 ⟨z,H3,I3,r3,k,e,q3⟩=>?_) hm
 subst e
 cases r3
 exact wpAny_truthy_bool ⟨H3,I3,q3⟩
theorem line63:(sizeLine:Nat) < 2 ^ 63:=by rw [sizeLine_eq]; decide
theorem op_add_str:OpR X (binaryOp .Add) (fun x y H Q=>∃ i j,x=.str i∧y=.str j∧i.length+j.length≤sizeLine∧Q (.str (i++j)) H):=by
 intro pins s σ H x y v u Q I rx ry h
 obtain ⟨i,j,rfl,rfl,hz,q⟩:=h
 obtain ⟨t,rfl⟩:=rx
 obtain ⟨t',rfl⟩:=ry
 exact add_str (fun t' tk=>⟨.str (i++j),H,I.tok _,⟨_,rfl⟩,q⟩) hz
theorem vals1 {x:V} {us:List Value} (r:Vals [x] us):∃ u,us=[u]∧RelV x u:=by
 cases r with
 | cons r1 r2=>cases r2; exact ⟨_,rfl,r1⟩
theorem vals2 {x y:V} {us:List Value} (r:Vals [x,y] us):∃ u w',us=[u,w']∧RelV x u∧RelV y w':=by
 cases r with
 | cons r1 r2 =>
  cases r2 with
  | cons r3 r4=>cases r4; exact ⟨_,_,rfl,r1,r3⟩
theorem call_max2 (hc:X.calm=true):CallR X (.builtin "max") (fun xs H Q=>∃ i j,xs=[.int i,.int j]∧Q (.int (if j > i then j else i)) H):=by
 intro pins s σ H xs us Q I r h
 obtain ⟨i,j,rfl,q⟩:=h
 obtain ⟨u,w',rfl,⟨t,rfl⟩,⟨t',rfl⟩⟩:=vals2 r
 refine max_two_ints (I.ok.hd hc) fun h' tk k=>⟨_,H,I.kept k,?_,q⟩
 by_cases hj:j > i
 ·rw [if_pos hj,if_pos hj]; exact ⟨_,rfl⟩
 ·rw [if_neg hj,if_neg hj]; exact ⟨_,rfl⟩
theorem call_min2 (hc:X.calm=true):CallR X (.builtin "min") (fun xs H Q=>∃ i j,xs=[.int i,.int j]∧Q (.int (if j < i then j else i)) H):=by
 intro pins s σ H xs us Q I r h
 obtain ⟨i,j,rfl,q⟩:=h
 obtain ⟨u,w',rfl,⟨t,rfl⟩,⟨t',rfl⟩⟩:=vals2 r
 refine min_two_ints (I.ok.hd hc) fun h' tk k=>⟨_,H,I.kept k,?_,q⟩
 by_cases hj:j < i
 ·rw [if_pos hj,if_pos hj]; exact ⟨_,rfl⟩
 ·rw [if_neg hj,if_neg hj]; exact ⟨_,rfl⟩
end
end L2
namespace L2
open PySem PySem.Spec PyProof.Rows
structure ObjM (h:Heap) (x dx C:Addr) (mA:Str→Option Value):Prop where
 obj:h.get? x=some (PySem.W.instObj C dx)
 ns:h.Ns1 dx mA
 ne:dx≠x
theorem lookIn_ns {h:Heap} {dx:Addr} {mA:Str→Option Value} (n:h.Ns1 dx mA):∃ od,h.get? dx=some od∧∀ name,PySem.W.lookIn name od=some (mA name):=by
 obtain ⟨o,es,ep,ho,hd,hk,_,hm⟩:=n
 refine ⟨o,ho,fun name=>?_⟩
 have e:=hm name
 unfold nsFind findBy at e
 rw [← Array.find?_toList] at e
 unfold PySem.W.lookIn
 rw [hd]
 dsimp only
 split
 ·rename_i y q
  rw [q] at e
  exact congrArg some e
 ·rename_i q
  rw [q] at e
  have a:es.toList.any (·.refKey)=false:=by
   rw [List.any_eq_false]
   intro y hy
   obtain ⟨z,t,hkey⟩:=hk y (Array.mem_toList_iff.mp hy)
   simp [DictEntry.refKey,hkey]
  have a':¬ es.toList.any (·.refKey)=true:=by rw [a]; exact Bool.false_ne_true
  rw [if_neg a']
  exact congrArg some e
theorem ObjM.look {h:Heap} {x dx C:Addr} {mA:Str→Option Value} (I:ObjM h x dx C mA):∃ od,PySem.W.InstAt h x (PySem.W.instObj C dx) C (some od)∧∀ name,PySem.W.lookIn name od=some (mA name) :=
 let ⟨od,ho,hl⟩:=lookIn_ns I.ns
 ⟨od,⟨I.obj,rfl,rfl,ho⟩,hl⟩
section
variable {prog:Program} {w:World} {A:Around} {E:Value→Shared→Prop} {s:Shared} {K:PySem.W.Frag} {x dx C f:Addr} {mA:Str→Option Value} {name:Str} {v:Value}
theorem get_map {expr:Bool} {Q:Value→Shared→Prop} (X:K.In s.heap) (I:ObjM s.heap x dx C mA) (hg:PySem.W.plainGet K C name=true) (hh:PySem.W.hasDictIn K C=true)
  (ha:PySem.W.findIn K (.ref C) name=some none) (hv:mA name=some v) (hv':PySem.W.handedIn v=true) (h:Q v { s with toks:=s.toks+1 }) :
  wpAny (model prog w) A (getAttr (.ref x) name expr) Q E s:=by
 obtain ⟨od,J,hl⟩:=I.look
 exact PySem.W.get_value X J (PySem.W.plainGet_of hg).1 (PySem.W.findObj_own hh ha rfl (by rw [hl,hv])) hv' h
theorem get_meth {pl:Sem Bool} {Q:Value × List Value→Shared→Prop} (X:K.In s.heap) (I:ObjM s.heap x dx C mA) (hg:PySem.W.plainGet K C name=true)
  (hf:PySem.W.findIn K (.ref C) name=some (some (.ref f))) (ht:PySem.W.isFn K (.ref f)=true) (hv:mA name=none) (h:Q (.ref f,[.ref x]) s) :
  wpAny (model prog w) A (getMethod (.ref x) name pl) Q E s:=by
 obtain ⟨od,J,hl⟩:=I.look
 exact PySem.W.method_fn X J (PySem.W.plainGet_of hg).1 (PySem.W.plainGet_of hg).2 hf (beq_iff_eq.mp ht) (by show (PySem.W.lookIn name od).map (·.isSome)=some false; rw [hl,hv]; rfl) h
theorem set_map {ns:List Str} {Q:Unit→Shared→Prop} (X:K.In s.heap) (I:ObjM s.heap x dx C mA)
  (hs:PySem.W.findIn K (.ref C) "__setattr__"=some (some (.builtin "object.__setattr__"))) (hp:PySem.W.plainOver K C=true) (ht:PySem.W.takerIn K C name=some none) (hh:PySem.W.hasDictIn K C=true)
  (hw:PySem.Within mA ns) (hsz:ns.length≤sizeLine)
  (h:∀ h',ObjM h' x dx C (fun y=>if y=name then some v else mA y)→Heap.SameBut dx s.heap h'→Q () { s with heap:=h',toks:=s.toks+2 }) :
  wpAny (model prog w) A (setAttr (.ref x) name v) Q E s:=by
 obtain ⟨od,J,hl⟩:=I.look
 refine PySem.W.set_plain X J hs (PySem.W.osa_open (s:={ s with toks:=s.toks+1 }) (r:=none) X J hp ht fun b=>?_)
 obtain ⟨cd,hc,hd'⟩:=PySem.W.any_some hh
 have hx:s.heap.get? x=some ⟨.ref C,some dx,.plain,#[]⟩:=I.obj
 refine wpAny_bind (wpAny_pure (wpAny_bind (wpAny_bind (wpAny_loadPart hx (wpAny_bind (PySem.W.Looks.here (s:={ s with toks:=s.toks+1 }) (PySem.W.looks_clsIn X hc) ?_))))))
 rw [hd']
 refine wpAny_pure (a:=some dx) (wpAny_bind (wpAny_pure (wpAny_bind ?_)))
 refine wpAny_nsSet1 (s:={ s with toks:=s.toks+1 }) I.ns fun h' hn2 hs2=>?_
 obtain ⟨oD,esD,epD,hoD,hdD,hcD⟩:=hn2.count (PySem.Within.cons name v hw)
 refine wpAny_bind (wpAny_lookBehind hoD (by rw [hdD]; exact pastItsLine_dict (Nat.le_trans hcD (by rw [List.length_cons]; lia))) ?_)
 exact wpAny_pure (h _ ⟨(hs2.2 _ (Ne.symm I.ne)).trans I.obj,hn2,I.ne⟩ hs2)
theorem make_map {R:Result→Shared→Prop} {vs:List Value} {kw:List (Str × Value)} (X:K.In s.heap) (hm:PySem.W.makesIn K C=true)
  (hi:PySem.W.findIn K (.ref C) "__init__"=some (some (.ref f))) (hf:PySem.W.typeIn K (.ref f)=some (.type "function"))
  (h:codeAny (model prog w) (A.under (.builtin "type.__call__" ⟨.ref C :: vs,kw⟩)) (.call (.ref f) ⟨.ref (s.heap.objs.size+1) :: vs,kw⟩) (PySem.W.InitBack (s.heap.objs.size+1) R)
   { s with heap:=(s.heap.push PySem.W.emptyDict).push (PySem.W.instObj C s.heap.objs.size) }) :
  codeAny (model prog w) A (.call (.ref C) ⟨vs,kw⟩) R s:=by
 obtain ⟨hh,g,d,t,os⟩:=s
 exact PySem.W.make_core (PySem.W.makes_of X hm) (PySem.W.looks_findIn X hi) (fun self=>PySem.W.bind_fn X self hf) (.inl rfl) h
end
def putF (f:Str) (v:V):List (Str × V)→List (Str × V)
 | []=>[(f,v)]
 | (g,x) :: r=>if g=f then (g,v) :: r else (g,x) :: putF f v r
theorem lookup_putF (f g:Str) (v:V):∀ fs:List (Str × V),(putF f v fs).lookup g=if g=f then some v else fs.lookup g
 | []=>by
  show List.lookup g [(f,v)]=_
  by_cases h:g=f
  ·have hb:(g == f)=true:=beq_iff_eq.mpr h
   simp only [List.lookup,hb,if_pos h]
  ·have hb:(g == f)=false:=beq_eq_false_iff_ne.mpr h
   simp only [List.lookup,hb,if_neg h]
 | (k,x) :: r=>by
  have ih:=lookup_putF f g v r
  rw [show putF f v ((k,x) :: r)=(if k=f then (k,v) :: r else (k,x) :: putF f v r) from rfl]
  by_cases hk:k=f
  ·rw [if_pos hk]
   by_cases h:g=k
   ·have hb:(g == k)=true:=beq_iff_eq.mpr h
    simp only [List.lookup,hb,if_pos (h.trans hk)]
   ·have hb:(g == k)=false:=beq_eq_false_iff_ne.mpr h
    simp only [List.lookup,hb,if_neg (fun e:g=f=>h (e.trans hk.symm))]
  ·rw [if_neg hk]
   by_cases h:g=k
   ·have hb:(g == k)=true:=beq_iff_eq.mpr h
    simp only [List.lookup,hb,if_neg (fun e:g=f=>hk (h.symm.trans e))]
   ·have hb:(g == k)=false:=beq_eq_false_iff_ne.mpr h
    simp only [List.lookup,hb]
    exact ih
theorem keys_putF (f:Str) (v:V):∀ fs:List (Str × V),f∈(putF f v fs).map (·.1)∧∀ g,g∈fs.map (·.1)→g∈(putF f v fs).map (·.1)
 | []=>⟨by simp [putF],fun g h=>by simp at h⟩
 | (k,x) :: r=>by
  obtain ⟨i1,i2⟩:=keys_putF f v r
  rw [show putF f v ((k,x) :: r)=(if k=f then (k,v) :: r else (k,x) :: putF f v r) from rfl]
  by_cases hk:k=f
  ·rw [if_pos hk]
   subst hk
   exact ⟨by simp,fun g h=>by simpa using h⟩
  ·rw [if_neg hk]
   refine ⟨?_,fun g h=>?_⟩
   ·rw [List.map_cons]
    exact List.mem_cons_of_mem _ i1
   ·rw [List.map_cons] at h ⊢
    rcases List.mem_cons.mp h with e | e
    ·exact List.mem_cons.mpr (.inl e)
    ·exact List.mem_cons_of_mem _ (i2 g e)
theorem length_putF (f:Str) (v:V):∀ fs:List (Str × V),(putF f v fs).length≤fs.length+1
 | []=>by simp [putF]
 | (k,x) :: r=>by
  have ih:=length_putF f v r
  rw [show putF f v ((k,x) :: r)=(if k=f then (k,v) :: r else (k,x) :: putF f v r) from rfl]
  by_cases hk:k=f
  ·rw [if_pos hk,List.length_cons,List.length_cons]; lia
  ·rw [if_neg hk,List.length_cons,List.length_cons]; lia
theorem RelO.some_of {v:V} {o:Option Value} (r:RelO (some v) o):∃ u,o=some u∧RelV v u:=by
 cases o with
 | none=>exact (show False from r).elim
 | some u=>exact ⟨u,rfl,r⟩
theorem RelO.none_of {o:Option Value} (r:RelO none o):o=none:=by
 cases o with
 | none=>rfl
 | some u=>exact (show False from r).elim
theorem handed_of {v:V} {u:Value} (r:RelV v u):PySem.W.handedIn u=true:=by
 cases v with
 | non=>cases (show u=Value.none from r); rfl
 | bl b=>cases (show u=Value.bool b from r); rfl
 | int i=>obtain ⟨t,e⟩:=(show ∃ t,u=Value.int i t from r); cases e; rfl
 | str x=>obtain ⟨t,e⟩:=(show ∃ t,u=Value.str x t from r); cases e; rfl
 | byt b=>obtain ⟨t,e⟩:=(show ∃ t,u=Value.bytes b t from r); cases e; rfl
 | flt b=>obtain ⟨t,e⟩:=(show ∃ t,u=Value.float b t from r); cases e; rfl
 | ref a=>cases (show u=Value.ref a from r); rfl
 | ty n=>cases (show u=Value.type n from r); rfl
section
variable {P:Program} {w:World} {H H':Hp} {h h':Heap} {a C dx:Addr} {fs fs':List (Str × V)}
theorem ins_get (hok:HOk P w H h) (e:H a=some (.ins C dx fs)):∃ mA,ObjM h a dx C mA∧(∀ f,RelO (fs.lookup f) (mA f))∧PySem.Within mA (fs.map (·.1))∧fs.length≤1000∧H dx=some (.own a):=by
 obtain ⟨d,z,ne,ob,mA,n,r,q⟩:=(show ObjOk P w H h a (.ins C dx fs) from hok a _ e)
 exact ⟨mA,⟨ob,n,ne⟩,r,q,z,d⟩
end
structure Cls (K:PySem.W.Frag) (C:Addr):Prop where
 pg:PySem.W.plainGet K C Str.empty=true
 hd:PySem.W.hasDictIn K C=true
 po:PySem.W.plainOver K C=true
 sa:PySem.W.findIn K (.ref C) "__setattr__"=some (some (.builtin "object.__setattr__"))
theorem Cls.get {K:PySem.W.Frag} {C:Addr} (c:Cls K C) (f:Str):PySem.W.plainGet K C f=true:=c.pg
def NoAttr (K:PySem.W.Frag) (C:Addr) (f:Str):Prop:=PySem.W.findIn K (.ref C) f=some none
theorem NoAttr.taker {K:PySem.W.Frag} {C:Addr} {f:Str} (n:NoAttr K C f):PySem.W.takerIn K C f=some none:=by
 unfold PySem.W.takerIn
 rw [show PySem.W.findIn K (.ref C) f=some none from n]
 rfl
structure Meth (K:PySem.W.Frag) (C:Addr) (m:Str) (f:Addr):Prop where
 at_:PySem.W.findIn K (.ref C) m=some (some (.ref f))
 fn:PySem.W.isFn K (.ref f)=true
 kp:PySem.W.keepIn K (.ref f)=true
section
variable {X:Cx} {pins:List (Addr × Obj)} {σ:St} {H:Hp} {s:Shared} {a C dx:Addr} {fs:List (Str × V)} {f:Str} {v:V} {A:Around} {E:Value→Shared→Prop}
theorem getattr_ok {b:Bool} {Q:Value→Shared→Prop} (I:Inv X pins σ H s) (e:H a=some (.ins C dx fs)) (c:Cls X.K C) (n:NoAttr X.K C f) (l:fs.lookup f=some v)
  (h:∀ u s',Inv X pins σ H s'→RelV v u→Q u s'):wpAny (model X.prog X.w) A (getAttr (.ref a) f b) Q E s:=by
 obtain ⟨mA,O,r,_,_,_⟩:=ins_get I.hok e
 obtain ⟨u,hu,ru⟩:=RelO.some_of (v:=v) (o:=mA f) (by rw [← l]; exact r f)
 exact get_map I.kIn O (c.get f) c.hd n hu (handed_of ru) (h u _ (I.tok _) ru)
theorem getmeth_ok {m:Str} {g:Addr} {pl:Sem Bool} {Q:Value × List Value→Shared→Prop} (I:Inv X pins σ H s) (e:H a=some (.ins C dx fs)) (c:Cls X.K C) (k:Meth X.K C m g) (l:fs.lookup m=none)
  (h:Q (.ref g,[.ref a]) s):wpAny (model X.prog X.w) A (getMethod (.ref a) m pl) Q E s:=by
 obtain ⟨mA,O,r,_,_,_⟩:=ins_get I.hok e
 have hn:mA m=none:=RelO.none_of (by rw [← l]; exact r m)
 exact get_meth I.kIn O (c.get m) k.at_ k.fn hn h
theorem setattr_ok {y:V} {u:Value} {Q:Unit→Shared→Prop} (I:Inv X pins σ H s) (e:H a=some (.ins C dx fs)) (c:Cls X.K C) (n:NoAttr X.K C f) (hl:fs.length < 1000) (ry:RelV y u)
  (h:∀ s',Inv X pins σ (upd H a (.ins C dx (putF f y fs))) s'→Q () s'):wpAny (model X.prog X.w) A (setAttr (.ref a) f u) Q E s:=by
 obtain ⟨mA,O,r,wi,_,ho⟩:=ins_get I.hok e
 have hz:(fs.map (·.1)).length≤sizeLine:=by rw [List.length_map,sizeLine_eq]; lia
 refine set_map I.kIn O c.sa c.po n.taker c.hd wi hz fun h' O' sb=>h _ ?_
 have hd:∃ o,h'.get? dx=some o:=let ⟨o,_,_,e',_⟩:=O'.ns; ⟨o,e'⟩
 refine I.write (x:=a) (e:=dx) (by rw [e]; exact True.intro) (.inr ho) (fun b q hb z=>(sb.2 b hb).trans z) hd ?_
 refine ⟨by rw [upd_ne O.ne]; exact ho,?_,O.ne,O'.obj,_,O'.ns,fun g=>?_,fun g hg=>?_⟩
 ·have:=length_putF f y fs; lia
 ·show RelO ((putF f y fs).lookup g) (if g=f then some u else mA g)
  rw [lookup_putF]
  by_cases q:g=f
  ·rw [if_pos q,if_pos q]; exact ry
  ·rw [if_neg q,if_neg q]; exact r g
 ·by_cases q:g=f
  ·rw [q]; exact (keys_putF f y fs).1
  ·refine (keys_putF f y fs).2 g (wi g fun z=>hg ?_)
   show (if g=f then some u else mA g)=none
   rw [if_neg q]; exact z
theorem Inv.made (I:Inv X pins σ H s):Inv X pins σ (upd (upd H s.heap.objs.size (.own (s.heap.objs.size+1))) (s.heap.objs.size+1) (.ins C s.heap.objs.size []))
  { s with heap:=(s.heap.push PySem.W.emptyDict).push (PySem.W.instObj C s.heap.objs.size) }:=by
 have e1:(s.heap.push PySem.W.emptyDict).get? s.heap.objs.size=some PySem.W.emptyDict:=Heap.get?_push_size s.heap rfl
 have e2:((s.heap.push PySem.W.emptyDict).push (PySem.W.instObj C s.heap.objs.size)).get? (s.heap.objs.size+1)=some (PySem.W.instObj C s.heap.objs.size):=by
  have:=Heap.get?_push_size (s.heap.push PySem.W.emptyDict) (o:=PySem.W.instObj C s.heap.objs.size) rfl
  rwa [Heap.size_push] at this
 have e3:(s.heap.push PySem.W.emptyDict).Ns s.heap.objs.size (fun _=>none):=⟨PySem.W.emptyDict,#[],_,e1,rfl,(fun e he=>absurd he (by simp)),fun _=>rfl⟩
 have I1:=I.laid (a:=s.heap.objs.size) (o:=.own (s.heap.objs.size+1)) (h':=s.heap.push PySem.W.emptyDict) (t':=s.toks) (fun b u q=>Heap.get?_push_of_some _ q) (Nat.le_refl _) ⟨_,e1⟩
 refine I1.laid (a:=s.heap.objs.size+1) (o:=.ins C s.heap.objs.size []) (t':=s.toks) (fun b u q=>Heap.get?_push_of_some _ q) (Nat.le_of_eq (Heap.size_push _ _)) ?_
 have ne:s.heap.objs.size≠s.heap.objs.size+1:=Nat.ne_of_lt (Nat.lt_succ_self _)
 refine ⟨by rw [upd_ne ne,upd_same],Nat.zero_le _,ne,e2,fun _=>none,(Heap.Ns1.of_empty e3).at fun o q=>Heap.get?_push_of_some _ q,fun _=>True.intro,fun y hy=>absurd rfl hy⟩
theorem attr_of {prog:Program} {w:World} {env:Env} {e:Expr} {f:Str} {pos:Pos} {s:Shared} {Q:Value→Shared→Prop} (hb:attributeBase e f env (eval e env)=eval e env)
  (h:wpAny (model prog w) A (eval e env) (fun o s₁=>wpAny (model prog w) A (getAttr o f true) Q E s₁) E s):wpAny (model prog w) A (eval (.Attribute e f pos) env) Q E s :=
 Attribute_any_ h (by rw [arm_eval_Attribute,hb])
end
def tFld (K:PySem.W.Frag) (ta:TE) (f:Str):TE:=fun σ H Q=>ta σ H fun x H1=>∃ a C dx fs v,x=.ref a∧H1 a=some (.ins C dx fs)∧Cls K C∧NoAttr K C f∧fs.lookup f=some v∧Q v H1
def sFld (K:PySem.W.Frag) (ta tv:TE) (f:Str):TS:=fun D σ H=>tv σ H fun y H1=>ta σ H1 fun x H2=>∃ a C dx fs,x=.ref a∧H2 a=some (.ins C dx fs)∧Cls K C∧NoAttr K C f∧fs.length < 1000 ∧
 D.nx σ (upd H2 a (.ins C dx (putF f y fs)))
section
variable {X:Cx} {o e value:Expr} {f:Str} {pos pos' tpos:Pos} {ta tv:TE}
theorem pe_fld (he:PE X e ta) (hb:attributeBase e f X.env (eval e X.env)=eval e X.env):PE X (.Attribute e f pos) (tFld X.K ta f):=by
 intro pins s σ H Q I h
 refine attr_of hb (thn (he pins s σ H _ I h) fun u s1 ⟨x,H1,I1,rx,a,C,dx,fs,v,ex,ea,c,n,l,q⟩=>?_)
 subst ex
 obtain rfl:u=Value.ref a:=rx
 exact getattr_ok I1 ea c n l fun u' s2 I2 ru=>⟨v,H1,I2,ru,q⟩
theorem ps_fld (ha:PE X o ta) (hv:PE X value tv) (hs:swapsWith value (some (.Attribute o f pos')) pos.line X.env=pure false):PS X (.Assign [.Attribute o f pos'] value pos) (sFld X.K ta tv f):=by
 intro pins s σ H D I h
 refine plainObj_wpAny_Assign_Attribute (thn (hv pins s σ H _ I h) fun u s1 ⟨y,H1,I1,ry,q⟩=>thn (ha pins s1 σ H1 _ I1 q) fun ov s2 ⟨x,H2,I2,rx,a,C,dx,fs,ex,ea,c,n,l,q2⟩=>?_) hs
 subst ex
 obtain rfl:ov=Value.ref a:=rx
 exact setattr_ok I2 ea c n l ry fun s3 I3=>⟨σ,_,I3,q2⟩
end
section
variable {X:Cx} {pins:List (Addr × Obj)} {σ:St} {H:Hp} {s:Shared} {A:Around} {E:Value→Shared→Prop} {Q:Value→Shared→Prop} {c:Value} {b:Bool}
end
end L2
namespace L2
open PySem PySem.Spec PyProof.Rows
structure Room (k:Nat) (A:Around):Prop where
 hd:A.handled=none
 dp:A.depth+3 * k+5 < recursionLimit
 un:A.units+16 * k+200 < cLine
theorem Room.mono {j k:Nat} {A:Around} (r:Room k A) (h:j≤k):Room j A:=⟨r.hd,by have:=r.dp; lia,by have:=r.un; lia⟩
theorem Room.deeper {k:Nat} {A:Around} (r:Room (k+1) A) (env:Env):Room k (A.deeper env) :=
 ⟨r.hd,by have:=r.dp; show A.depth+1+3 * k+5 < _; lia,by have:=r.un; show A.units+3+16 * k+200 < _; lia⟩
theorem make_depth {A:Around} {C:Addr} {us:List Value} {kw:List (Str × Value)}:(A.under (.builtin "type.__call__" ⟨.ref C :: us,kw⟩)).depth=A.depth+1:=by
 first | rfl | simp [Around.under,Code.weight,Code.isCreation,Code.isGuard,Code.isCaller,Code.frames,Code.isFrame,guardIds]
theorem make_units {A:Around} {C:Addr} {us:List Value} {kw:List (Str × Value)}:(A.under (.builtin "type.__call__" ⟨.ref C :: us,kw⟩)).units=A.units+1:=by
 first | rfl | simp [Around.under,Code.cUnits,Code.frames,Code.isFrame]
theorem Room.make {k:Nat} {A:Around} (r:Room (k+1) A) (C:Addr) (us:List Value) (kw:List (Str × Value)):Room k (A.under (.builtin "type.__call__" ⟨.ref C :: us,kw⟩)) :=
 ⟨r.hd,by have:=r.dp; rw [make_depth]; lia,by have:=r.un; rw [make_units]; lia⟩
theorem Room.depth {k:Nat} {A:Around} (r:Room k A):A.depth < recursionLimit:=by have:=r.dp; lia
theorem Room.units {k:Nat} {A:Around} (r:Room k A):A.units+64 < cLine:=by have:=r.un; lia
theorem Room.units0 {k:Nat} {A:Around} (r:Room k A):A.units < cLine:=by have:=r.un; lia
def tNil:TA:=fun _ H Q=>Q [] H
def tCons (ta:TE) (tr:TA):TA:=fun σ H Q=>ta σ H fun x H1=>tr σ H1 fun xs H2=>Q (x :: xs) H2
section
variable {X:Cx} {e:Expr} {es:List Expr} {te:TE} {t:TA} {pos:Pos}
theorem pa_nil:PA X [] tNil:=fun _ _ _ _ H Q I h=>Calls.spliced_nil ⟨[],H,I,.nil,h⟩
theorem pa_cons (ha:PE X e te) (hr:PA X es t) (hs:starEach (e :: es) X.env=(false,eval e X.env) :: starEach es X.env:=by rfl):PA X (e :: es) (tCons te t):=by
 intro pos pins s σ H Q I h
 rw [hs]
 show wpAny _ _ (spliced ((false,eval e X.env) :: backTo pos (starEach es X.env))) _ _ s
 refine Calls.spliced_cons (thn (ha pins s σ H _ I h) fun u s1 ⟨x,H1,I1,r1,q1⟩=>?_)
 exact thn (hr pos pins s1 σ H1 _ I1 q1) fun us s2 ⟨xs,H2,I2,r2,q2⟩=>⟨x :: xs,H2,I2,.cons r1 r2,q2⟩
def tTup (t:TA):TE:=fun σ H Q=>t σ H fun xs H1=>xs.length≤sizeLine∧∀ p,H1 p=none→Q (.ref p) (upd H1 p (.tup xs))
def tLst (t:TA):TE:=fun σ H Q=>t σ H fun xs H1=>xs.length≤sizeLine∧∀ p,H1 p=none→Q (.ref p) (upd H1 p (.lst xs))
theorem pe_tup {x1} (h:PA X es t):PE X (.Tuple es x1 pos) (tTup t):=by
 intro pins s σ H Q I hq
 refine wpAny_Tuple_spliced (thn (h pos pins s σ H _ I hq) fun us s1 ⟨xs,H1,I1,r,z,q⟩=>⟨by rw [← r.length]; exact z,?_⟩)
 have hf:H1 s1.heap.objs.size=none:=I1.hok.fresh (Nat.le_refl _)
 refine ⟨.ref s1.heap.objs.size,upd H1 s1.heap.objs.size (.tup xs),I1.laid (t':=s1.toks) (fun b u e=>Heap.get?_push_of_some _ e) (Nat.le_refl _) ?_,rfl,q _ hf⟩
 exact ⟨z,us,r,⟨_,Heap.get?_push_size _ rfl,rfl,_,rfl⟩⟩
theorem pe_lst (h:PA X es t):PE X (.List es pos) (tLst t):=by
 intro pins s σ H Q I hq
 refine wpAny_List_spliced (thn (h pos pins s σ H _ I hq) fun us s1 ⟨xs,H1,I1,r,z,q⟩=>⟨by rw [← r.length]; exact z,?_⟩)
 have hf:H1 s1.heap.objs.size=none:=I1.hok.fresh (Nat.le_refl _)
 refine ⟨.ref s1.heap.objs.size,upd H1 s1.heap.objs.size (.lst xs),I1.laid (t':=s1.toks) (fun b u e=>Heap.get?_push_of_some _ e) (Nat.le_refl _) ?_,rfl,q _ hf⟩
 exact ⟨z,us,0,r,Heap.get?_push_size _ rfl⟩
end
abbrev Sp:=List V→Hp→VK→XK→Prop
abbrev CXT:=List Env→Hp→Shared→XK→Value→Shared→Prop
structure Env0 (P:Program) (w:World) (K:PySem.W.Frag) (mg:Str→Option Value) (base:Heap) (A:Around) (outer:List Env) (s:Shared) (H:Hp):Prop where
 frames:A.frames=some outer
 mod:Mod K mg base
 bs:∀ b o,base.get? b=some o→s.heap.get? b=some o∧H b=none
 bsz:base.objs.size≤s.heap.objs.size
 funs:s.heap.FunFrames base outer
 frf:∀ b∈frs outer,H b=none
 hok:HOk P w H s.heap
 bare:AllBare s.gens
def CE (outer:List Env) (P:Program) (w:World) (H:Hp) (s:Shared) (Q:VK) (u:Value) (s':Shared):Prop :=
 ∃ v H',s'.os=s.os∧AllBare s'.gens∧Un (frs outer) [] H H' s.heap s'.heap∧HOk P w H' s'.heap∧RelV v u∧Q v H'
def CR (CX:CXT) (outer:List Env) (P:Program) (w:World) (H:Hp) (s:Shared) (Q:VK) (E:XK) (r:Result) (s':Shared):Prop :=
 match r with
 | .ok (.ret u)=>CE outer P w H s Q u s'
 | .ok _=>False
 | .error e=>CX outer H s E e s'
structure FnOk (P:Program) (w:World) (K:PySem.W.Frag) (mg:Str→Option Value) (base:Heap) (CX:CXT) (k:Nat) (f:Addr) (fd:FuncData) (ps:List Str) (sp:Sp):Prop where
 len:∀ vs H Q E,sp vs H Q E→vs.length=ps.length
 run:∀ (A:Around) (outer:List Env) (s:Shared) (H:Hp) (args:Args) (us:List Value) (vs:List V) (Q:VK) (E:XK),Room k A→Env0 P w K mg base A outer s H→BindsTo s fd args (ps.zip us)→Vals vs us→sp vs H Q E →
  codeAny (model P w) A (.call (.ref f) args) (CR CX outer P w H s Q E) s
theorem Env0.make {P:Program} {w:World} {K:PySem.W.Frag} {mg:Str→Option Value} {base:Heap} {A:Around} {outer:List Env} {s:Shared} {H:Hp} (e:Env0 P w K mg base A outer s H) (C:Addr) (us:List Value) (kw:List (Str × Value)) :
  Env0 P w K mg base (A.under (.builtin "type.__call__" ⟨.ref C :: us,kw⟩)) outer s H:=⟨by first | exact e.frames | (simpa [Around.under,Code.envs,Code.isFrame,pushEnvs] using e.frames),e.mod,e.bs,e.bsz,e.funs,e.frf,e.hok,e.bare⟩
section
variable {X:Cx} {pins:List (Addr × Obj)} {σ:St} {H:Hp} {s s':Shared}
theorem Inv.env0 (I:Inv X pins σ H s):Env0 X.prog X.w X.K X.mg X.base X.A X.stack s H :=
 ⟨I.ok.frames,I.ok.mod,I.bs,Nat.le_trans I.ok.bsz I.sz,I.stack,I.stkFree,I.hok,I.bare⟩
theorem Inv.after {Q:VK} {u:Value} (I:Inv X pins σ H s) (h:CE X.stack X.prog X.w H s Q u s'):EP X pins σ Q u s':=by
 obtain ⟨v,H',os,bare,un,hok,r,q⟩:=h
 obtain ⟨hh,g,d,t,os'⟩:=s'
 obtain rfl:os'=s.os:=os
 exact ⟨v,H',I.call (h':=hh) (g':=g) (d':=d) (t':=t) (ch:=[]) un hok bare (fun b z=>absurd z (by simp)),r,q⟩
end
def tCall (sp:Sp) (dvs:List V) (E:XK) (t:TA):TE:=fun σ H Q=>t σ H fun vs H1=>sp (vs++dvs) H1 Q E
def tMeth (C:Addr) (m:Str) (sp:Sp) (dvs:List V) (E:XK) (ta:TE) (t:TA):TE:=fun σ H Q=>ta σ H fun x H1=>∃ a dx fs,x=.ref a∧H1 a=some (.ins C dx fs)∧fs.lookup m=none ∧
 t σ H1 fun vs H2=>sp (x :: (vs++dvs)) H2 Q E
def tMake (C:Addr) (sp:Sp) (dvs:List V) (E:XK) (t:TA):TE:=fun σ H Q=>t σ H fun vs H1=>∀ x dx,H1 x=none→H1 dx=none→dx≠x →
 sp (.ref x :: (vs++dvs)) (upd (upd H1 dx (.own x)) x (.ins C dx [])) (fun v H2=>v=.non∧Q (.ref x) H2) E
def Binds (K:PySem.W.Frag) (fd:FuncData) (ps:List Str) (ds:List Value):Prop :=
 ∀ (s:Shared) (us:List Value),K.In s.heap→(us++ds).length=ps.length→BindsTo s fd ⟨us,[]⟩ (ps.zip (us++ds))
theorem Binds.all {K:PySem.W.Frag} {fd:FuncData} {ps:List Str} (h:∀ us:List Value,us.length=ps.length→bindArgs fd ⟨us,[]⟩=pure (ps.zip us)):Binds K fd ps []:=fun s us _ hl=>by
 rw [List.append_nil] at hl ⊢
 exact .of_eq (h us hl)
def Passes (CX:CXT) (X:Cx) (E:XK):Prop:=∀ (pins:List (Addr × Obj)) (σ:St) (H:Hp) (s:Shared) (e:Value) (s':Shared),Inv X pins σ H s→CX X.stack H s E e s'→X.xe e s'
section
variable {X:Cx} {CX:CXT} {k:Nat} {f C:Addr} {fd:FuncData} {ps:List Str} {sp:Sp} {dvs:List V} {ds:List Value} {E:XK} {x m:Str} {p pos apos:Pos} {e o:Expr} {es:List Expr} {ta:TE} {t:TA}
theorem run_fn {pins:List (Addr × Obj)} {σ:St} {H:Hp} {s:Shared} {Q:VK} {us:List Value} {vs:List V} (F:FnOk X.prog X.w X.K X.mg X.base CX k f fd ps sp) (hr:Room k X.A) (hb:Binds X.K fd ps ds) (hd:Vals dvs ds) (hx:Passes CX X E)
  (I:Inv X pins σ H s) (r:Vals vs us) (h:sp (vs++dvs) H Q E):wpAny (model X.prog X.w) X.A (call (.ref f) us) (EP X pins σ Q) X.xe s:=by
 have r2:Vals (vs++dvs) (us++ds):=r.append hd
 have hl:(us++ds).length=ps.length:=by rw [← r2.length]; exact F.len _ _ _ _ h
 refine wpAny_call (codeAny_mono (F.run X.A X.stack s H ⟨us,[]⟩ (us++ds) (vs++dvs) Q E hr I.env0 (hb s us I.kIn hl) r2 h) fun r s' hq=>?_)
 cases r with
 | error e=>exact hx pins σ H s e s' I hq
 | ok fl =>
  cases fl with
  | ret u=>exact I.after hq
  | next=>exact False.elim hq
  | brk=>exact False.elim hq
  | cont=>exact False.elim hq
theorem pe_call (F:FnOk X.prog X.w X.K X.mg X.base CX k f fd ps sp) (hr:Room k X.A) (hg:Gl X x) (hm:X.mg x=some (.ref f)) (hk:PySem.W.keepIn X.K (.ref f)=true) (hb:Binds X.K fd ps ds) (hd:Vals dvs ds) (hx:Passes CX X E)
  (ha:PA X (e :: es) t) (hdb:(x == ("__debug__":Str))=false:=by decide) (he:starEach (e :: es) X.env=(false,eval e X.env) :: starEach es X.env:=by rfl) (hpl:(backTo pos (starEach es X.env)).any (·.1)=false:=by rfl) :
  PE X (.Call (.Name x p) (e :: es) [] pos) (tCall sp dvs E t):=by
 intro pins s σ H Q I h
 refine wpAny_Call_Name_kw (ld_glob I hg hm ?_ hdb)
 refine PySem.W.callWith_K (h₀:=X.base) I.ok.mod.kin hk (thn (ha pos pins s σ H _ I h) fun us s1 ⟨vs,H1,I1,r,q⟩=>⟨I1.kIn,?_⟩) he hpl
 exact run_fn F hr hb hd hx I1 r q
theorem pe_meth {pl:Sem Bool} (he:PE X o ta) (c:Cls X.K C) (hm:Meth X.K C m f) (F:FnOk X.prog X.w X.K X.mg X.base CX k f fd ps sp) (hr:Room k X.A) (hb:Binds X.K fd ps ds) (hd:Vals dvs ds) (hx:Passes CX X E) (ha:PA X (e :: es) t)
  (hst:starEach (e :: es) X.env=(false,eval e X.env) :: starEach es X.env:=by rfl) (hpl:(backTo pos (starEach es X.env)).any (·.1)=false:=by rfl)
  (ht:eval (.Call (.Attribute o m apos) (e :: es) [] pos) X.env=(do
   let ov ← eval o X.env
   standAt apos.atName
   let (f,first) ← holding [ov] (getMethod ov m pl)
   callWith pos f first (backTo pos (starEach (e :: es) X.env)) (backToKw pos (keywordEach [] X.env))):=by rfl) :
  PE X (.Call (.Attribute o m apos) (e :: es) [] pos) (tMeth C m sp dvs E ta t):=by
 intro pins s σ H Q I h
 refine PySem.W.methodCall_KW (pl:=pl) (thn (he pins s σ H _ I h) fun u s1 ⟨x,H1,I1,rx,a,dx,fs,ex,ea,l,q⟩=>?_) ht
 subst ex
 obtain rfl:u=Value.ref a:=rx
 refine getmeth_ok I1 ea c hm l ?_
 refine PySem.W.callWith_K (first:=[.ref a]) (h₀:=X.base) I.ok.mod.kin hm.kp (thn (ha pos pins s1 σ H1 _ I1 q) fun us s2 ⟨vs,H2,I2,r,q2⟩=>⟨I2.kIn,?_⟩) hst hpl
 exact run_fn (us:=.ref a :: us) (vs:=.ref a :: vs) F hr hb hd hx I2 (.cons rfl r) q2
theorem pe_meth0 {pl:Sem Bool} (he:PE X o ta) (c:Cls X.K C) (hm:Meth X.K C m f) (F:FnOk X.prog X.w X.K X.mg X.base CX k f fd ps sp) (hr:Room k X.A) (hb:Binds X.K fd ps ds) (hd:Vals dvs ds) (hx:Passes CX X E)
  (ht:eval (.Call (.Attribute o m apos) [] [] pos) X.env=(do
   let ov ← eval o X.env
   standAt apos.atName
   let (f,first) ← holding [ov] (getMethod ov m pl)
   callWith pos f first (backTo pos (starEach [] X.env)) (backToKw pos (keywordEach [] X.env))):=by rfl) :
  PE X (.Call (.Attribute o m apos) [] [] pos) (tMeth C m sp dvs E ta tNil):=by
 intro pins s σ H Q I h
 refine PySem.W.methodCall_KW (pl:=pl) (thn (he pins s σ H _ I h) fun u s1 ⟨x,H1,I1,rx,a,dx,fs,ex,ea,l,q⟩=>?_) ht
 subst ex
 obtain rfl:u=Value.ref a:=rx
 refine getmeth_ok I1 ea c hm l ?_
 exact PySem.W.callWith_K0 (first:=[.ref a]) I1.kIn hm.kp (run_fn (us:=[.ref a]) (vs:=[.ref a]) F hr hb hd hx I1 (.cons rfl .nil) q)
structure Mk (K:PySem.W.Frag) (C f:Addr):Prop where
 makes:PySem.W.makesIn K C=true
 init:PySem.W.findIn K (.ref C) "__init__"=some (some (.ref f))
 fn:PySem.W.isFn K (.ref f)=true
 kp:PySem.W.keepIn K (.ref C)=true
theorem run_make {pins:List (Addr × Obj)} {σ:St} {H:Hp} {s:Shared} {Q:VK} {us:List Value} {vs:List V} (M:Mk X.K C f) (F:FnOk X.prog X.w X.K X.mg X.base CX k f fd ps sp) (hr:Room (k+1) X.A) (hb:Binds X.K fd ps ds) (hd:Vals dvs ds)
  (hx:Passes CX X E) (I:Inv X pins σ H s) (r:Vals vs us)
  (h:∀ x dx,H x=none→H dx=none→dx≠x→sp (.ref x :: (vs++dvs)) (upd (upd H dx (.own x)) x (.ins C dx [])) (fun v H2=>v=.non∧Q (.ref x) H2) E) :
  wpAny (model X.prog X.w) X.A (call (.ref C) us) (EP X pins σ Q) X.xe s:=by
 have hq:=h (s.heap.objs.size+1) s.heap.objs.size (I.hok.fresh (Nat.le_succ _)) (I.hok.fresh (Nat.le_refl _)) (Nat.ne_of_lt (Nat.lt_succ_self _))
 have I2:=Inv.made (C:=C) I
 have r2:Vals (V.ref (s.heap.objs.size+1) :: (vs++dvs)) (Value.ref (s.heap.objs.size+1) :: (us++ds)):=.cons rfl (r.append hd)
 have hl:(Value.ref (s.heap.objs.size+1) :: us++ds).length=ps.length:=by
  have e:=r2.length
  rw [F.len _ _ _ _ hq] at e
  exact e.symm
 refine wpAny_call (make_map (f:=f) I.kIn M.makes M.init (beq_iff_eq.mp M.fn) (codeAny_mono (F.run _ X.stack _ _ ⟨Value.ref (s.heap.objs.size+1) :: us,[]⟩ (Value.ref (s.heap.objs.size+1) :: (us++ds)) _ _ E (hr.make C us [])
  (I2.env0.make C us []) (hb _ (Value.ref (s.heap.objs.size+1) :: us) I2.kIn hl) r2 hq) fun r s' hq'=>?_))
 cases r with
 | error e=>exact hx pins σ _ _ e s' I2 hq'
 | ok fl =>
  cases fl with
  | ret u =>
   obtain ⟨v,H',I3,rv,ev,q3⟩:=I2.after hq'
   subst ev
   exact ⟨rv,⟨V.ref (s.heap.objs.size+1),H',I3,rfl,q3⟩⟩
  | next=>exact False.elim hq'
  | brk=>exact False.elim hq'
  | cont=>exact False.elim hq'
theorem pe_make (M:Mk X.K C f) (F:FnOk X.prog X.w X.K X.mg X.base CX k f fd ps sp) (hr:Room (k+1) X.A) (hg:Gl X x) (hm:X.mg x=some (.ref C)) (hb:Binds X.K fd ps ds) (hd:Vals dvs ds) (hx:Passes CX X E)
  (ha:PA X (e :: es) t) (hdb:(x == ("__debug__":Str))=false:=by decide) (he:starEach (e :: es) X.env=(false,eval e X.env) :: starEach es X.env:=by rfl) (hpl:(backTo pos (starEach es X.env)).any (·.1)=false:=by rfl) :
  PE X (.Call (.Name x p) (e :: es) [] pos) (tMake C sp dvs E t):=by
 intro pins s σ H Q I h
 refine wpAny_Call_Name_kw (ld_glob I hg hm ?_ hdb)
 refine PySem.W.callWith_K (h₀:=X.base) I.ok.mod.kin M.kp (thn (ha pos pins s σ H _ I h) fun us s1 ⟨vs,H1,I1,r,q⟩=>⟨I1.kIn,?_⟩) he hpl
 exact run_make M F hr hb hd hx I1 r q
end
section
variable {X:Cx} {CX:CXT} {k:Nat} {f C:Addr} {fd:FuncData} {ps ks:List Str} {sp:Sp} {E:XK} {x m:Str} {p pos apos kpos:Pos} {e o:Expr} {es:List Expr} {kws:List Keyword} {te ta:TE} {t tk:TA} {nm:Option Str}
variable {g:List Value→List Value→List Value} {gV:List V→List V→List V}
end
structure FnScope (N P:List Str) (sc:Scope):Prop where
 kind:sc.kind=.function
 co:sc.isCoroutine=false
 gen:sc.isGenerator=false
 nd:N.Nodup
 pre:N.take P.length=P
 par:∀ x∈P,sc.names.lookup x=some .local∨sc.names.lookup x=some .cell
 nofree:∀ y∈sc.names,y.2≠.free
theorem bindL_out {kindOf:Str→Option NameKind} {x:Str}:∀ {binds:List (Str × Value)} {m:Str→Option Value},(∀ v,(x,v) ∉ binds)→bindL kindOf binds m x=m x
 | [],_,_=>rfl
 | (n,v) :: r,m,h=>by
  unfold bindL
  rw [bindL_out fun w hw=>h w (List.mem_cons_of_mem _ hw)]
  split
  ·have:x≠n:=by rintro rfl; exact h v List.mem_cons_self
   simp [this]
  ·rfl
theorem bindC_out {kindOf:Str→Option NameKind} {x:Str}:∀ {binds:List (Str × Value)} {m:Str→Option Value},(∀ v,(x,v) ∉ binds)→bindC kindOf binds m x=m x
 | [],_,_=>rfl
 | (n,v) :: r,m,h=>by
  unfold bindC
  rw [bindC_out fun w hw=>h w (List.mem_cons_of_mem _ hw)]
  split
  ·rfl
  ·have:x≠n:=by rintro rfl; exact h v List.mem_cons_self
   simp [this]
theorem bindL_get {kindOf:Str→Option NameKind} {x:Str} {v:Value}:∀ {P:List Str} {vs:List Value} {i:Nat} {m:Str→Option Value},P.Nodup→P[i]?=some x→vs[i]?=some v→kindOf x=some .local →
  bindL kindOf (P.zip vs) m x=some v
 | [],_,_,_,_,h,_,_=>by simp at h
 | _ :: _,[],_,_,_,_,h,_=>by simp at h
 | p :: P,w :: vs,0,m,nd,h1,h2,hk=>by
  simp at h1 h2; subst h1; subst h2
  show bindL kindOf ((p,w) :: P.zip vs) m p=_
  unfold bindL
  rw [bindL_out fun v hv=>(List.nodup_cons.mp nd).1 (List.of_mem_zip hv).1,if_pos hk]
  simp
 | p :: P,w :: vs,i+1,m,nd,h1,h2,hk=>by
  show bindL kindOf ((p,w) :: P.zip vs) m x=_
  unfold bindL
  exact bindL_get (i:=i) (List.nodup_cons.mp nd).2 (by simpa using h1) (by simpa using h2) hk
theorem bindC_get {kindOf:Str→Option NameKind} {x:Str} {v:Value}:∀ {P:List Str} {vs:List Value} {i:Nat} {m:Str→Option Value},P.Nodup→P[i]?=some x→vs[i]?=some v→kindOf x≠some .local →
  bindC kindOf (P.zip vs) m x=some v
 | [],_,_,_,_,h,_,_=>by simp at h
 | _ :: _,[],_,_,_,_,h,_=>by simp at h
 | p :: P,w :: vs,0,m,nd,h1,h2,hk=>by
  simp at h1 h2; subst h1; subst h2
  show bindC kindOf ((p,w) :: P.zip vs) m p=_
  unfold bindC
  rw [bindC_out fun v hv=>(List.nodup_cons.mp nd).1 (List.of_mem_zip hv).1,if_neg hk]
  simp
 | p :: P,w :: vs,i+1,m,nd,h1,h2,hk=>by
  show bindC kindOf ((p,w) :: P.zip vs) m x=_
  unfold bindC
  exact bindC_get (i:=i) (List.nodup_cons.mp nd).2 (by simpa using h1) (by simpa using h2) hk
def start (N:List Str) (vs:List V):St:=vs.map some++List.replicate (N.length - vs.length) none
def cxOf (CX:CXT) (P:Program) (w:World) (K:PySem.W.Frag) (mg:Str→Option Value) (base:Heap) (N:List Str) (qual:Str) (scope:Scope) (f:Addr) (cd:Value) (A:Around) (outer:List Env) (s:Shared) (H:Hp) (E:XK):Cx where
 prog:=P
 w:=w
 K:=K
 mg:=mg
 base:=base
 A:=A.deeper (envOfC qual scope s.heap.objs.size f cd)
 N:=N
 s₀:=s
 H₀:=H
 env:=envOfC qual scope s.heap.objs.size f cd
 outer:=outer
 stack:=envOfC qual scope s.heap.objs.size f cd :: outer
 ex:=[]
 calm:=true
 fn:=fun _=>true
 pn:=[]
 xe:=fun e s'=>wpAny (model P w) (A.deeper (envOfC qual scope s.heap.objs.size f cd)) (leaving (envOfC qual scope s.heap.objs.size f cd) e) (fun _ s''=>CX outer H s E e s'') (fun e' s''=>CX outer H s E e' s'') s'
theorem cell_has {sc:Scope} {n:Nat} {x:Str} (h:sc.names.lookup x=some .cell):∃ c,(cellsFrom n sc.names []).lookup x=some c:=by
 have q:=PySem.W.cellsFrom_some sc.names n [] (.inl h)
 exact Option.isSome_iff_exists.mp q
theorem inv_start {CX:CXT} {P:Program} {w:World} {K:PySem.W.Frag} {mg:Str→Option Value} {base:Heap} {N ps:List Str} {qual:Str} {scope:Scope} {f:Addr} {cd:Value} {A:Around} {outer:List Env} {s s1:Shared} {H:Hp} {E:XK} {us:List Value} {vs:List V}
  (S:FnScope N ps scope) (hd:A.handled=none) (e0:Env0 P w K mg base A outer s H) (hl:vs.length=ps.length) (r:Vals vs us)
  (x:InCallC s s.heap.objs.size (bindL (envOfC qual scope s.heap.objs.size f cd).kindOf (ps.zip us) fun _=>none) (cellsFrom (s.heap.objs.size+1) scope.names []) (bindC (envOfC qual scope s.heap.objs.size f cd).kindOf (ps.zip us) fun _=>none) s1) :
  Inv (cxOf CX P w K mg base N qual scope f cd A outer s H E) [] (start N vs) H s1:=by
 have hpl:ps.length≤N.length:=by have:=congrArg List.length S.pre; rw [List.length_take] at this; lia
 obtain ⟨h1,tk,rfl,hk⟩:=x.done
 have noA:∀ b:Addr,b ∉ (cxOf CX P w K mg base N qual scope f cd A outer s H E).ex:=fun b z=>absurd (show b∈([]:List Addr) from z) (by simp)
 refine ⟨⟨e0.mod,S.kind,rfl,rfl,Nat.le_refl _,fun y z c h1 h2=>?_,fun y hy=>?_,fun y c _ h=>?_,fun _=>hd,Around.frames_deeper e0.frames,.inr ⟨rfl,rfl⟩,fun b z=>absurd z (noA b),e0.bs,e0.bsz,fun b _ _=>noA b,fun b z=>absurd z (noA b),e0.funs,e0.frf⟩,
  rfl,e0.bare,Un.kept hk,⟨_,x.toInCall.ns,fun i y v h1 h2 h3=>?_⟩,fun y c h=>⟨_,x.cell y c h⟩,e0.hok.fresh (Nat.le_refl _),fun y c h=>?_,fun p hp=>absurd (show p∈([]:List (Addr × Obj)) from hp) (by simp),e0.hok.kept hk,?_⟩
 ·exact name_of_addr x.apart (PySem.mem_of_lookup h1) (PySem.mem_of_lookup h2)
 ·have hy:scope.names.lookup y=some .cell∨scope.names.lookup y=some .free:=hy
  rcases hy with hy | hy
  ·exact cell_has hy
  ·exact absurd rfl (S.nofree _ (PySem.mem_of_lookup hy))
 ·exact Nat.le_of_lt (x.above y c (PySem.mem_of_lookup h))
 ·have hi:i < vs.length:=by
   unfold start at h2
   by_cases hi:i < vs.length
   ·exact hi
   ·rw [List.getElem?_append_right (by simpa using hi)] at h2
    rw [List.getElem?_replicate] at h2
    split at h2 <;> cases h2
  have ha:vs[i]?=some v:=by
   unfold start at h2
   rw [List.getElem?_append_left (by simpa using hi),List.getElem?_map] at h2
   cases e:vs[i]? with
   | none=>rw [e] at h2; cases h2
   | some a=>rw [e] at h2; cases h2; rfl
  obtain ⟨u,hu,rv⟩:=r.get ha
  have hp:ps[i]?=some y:=by
   rw [← S.pre,List.getElem?_take_of_lt (by lia)]; exact h1
  have ndP:ps.Nodup:=by rw [← S.pre]; exact S.nd.sublist (List.take_sublist _ _)
  refine ⟨u,rv,?_⟩
  rcases S.par y (List.mem_of_getElem? hp) with k | k
  ·exact .inl ⟨k,bindL_get ndP hp hu k⟩
  ·obtain ⟨c,e⟩:=cell_has (n:=s.heap.objs.size+1) k
   refine .inr ⟨.inl k,c,e,?_⟩
   have q:=x.cell y c e
   rw [bindC_get ndP hp hu (by show scope.names.lookup y≠_; rw [k]; decide)] at q
   exact q
 ·exact e0.hok.fresh (Nat.le_of_lt (x.above y c (PySem.mem_of_lookup h)))
 ·unfold start
  show _=N.length
  rw [List.length_append,List.length_map,List.length_replicate]
  lia
theorem fn_of {CX:CXT} {P:Program} {w:World} {K:PySem.W.Frag} {mg:Str→Option Value} {base:Heap} {k:Nat} {f:Addr} {name qual:Str} {params:Arguments} {body:List Stmt} {scope:Scope} {dV kV doc pm cdv ct oc:Value} {an od:Option Addr}
  {osl:Array (Option Value)} {N ps:List Str} {sp:Sp} (lk:K.lookup f=some ⟨oc,od,.func (PySem.W.fnOf name qual params body scope dV kV doc pm an cdv ct),osl⟩) (hcd:PySem.W.codeIn K cdv qual=true) (S:FnScope N ps scope)
  (len:∀ vs H Q E,sp vs H Q E→vs.length=ps.length)
  (hbody:∀ (A:Around) (outer:List Env) (s:Shared) (H:Hp) (vs:List V) (Q:VK) (E:XK),Room k (A.deeper (envOfC qual scope s.heap.objs.size f cdv))→sp vs H Q E →
   ∃ t,PSs (cxOf CX P w K mg base N qual scope f cdv A outer s H E) body t∧t { nx:=fun _ H'=>Q .non H',rt:=Q } (start N vs) H) :
  FnOk P w K mg base CX (k+1) f (PySem.W.fnOf name qual params body scope dV kV doc pm an cdv ct) ps sp:=by
 refine ⟨len,fun A outer s H args us vs Q E hr e0 hb r hsp=>?_⟩
 have hl:=len _ _ _ _ hsp
 have KX:K.In s.heap:=e0.mod.kin.keeps fun b o e=>(e0.bs b o e).1
 have lim:s.heap.NoLimit:=e0.mod.nolimit.keeps fun b o e=>(e0.bs b o e).1
 have hkind:∀ y∈ps.zip us,scope.names.lookup y.1=some .local∨(scope.names.lookup y.1=some .cell∧((cellsFrom (s.heap.objs.size+1) scope.names []).lookup y.1).isSome=true):=fun ⟨n,v⟩ hy=>by
  rcases S.par n (List.of_mem_zip hy).1 with q | q
  ·exact .inl q
  ·exact .inr ⟨q,PySem.W.cellsFrom_some _ _ _ (.inl q)⟩
 refine codeAny_call_function hr.depth (KX _ _ lk) rfl S.co S.gen rfl (PySem.W.codeRec_of KX hcd) (hb _ _ _ _ ?_)
 refine wpAny_newFunctionEnv_cells S.kind hkind fun env he s1 x=>?_
 subst he
 refine ⟨lim.keeps x.toInCall.keep,codeAny_func ?_⟩
 obtain ⟨t,ht,hq⟩:=hbody A outer s H vs Q E (hr.deeper _) hsp
 have I:Inv (cxOf CX P w K mg base N qual scope f cdv A outer s H E) [] (start N vs) H s1:=inv_start S hr.hd e0 hl r x
 refine wpAny_mono (ht [] s1 (start N vs) H _ I hq) (fun fl s' hs=>?_) fun e s' hs=>hs
 have fin:∀ {σ':St} {H':Hp} {v:V} {u:Value},Inv (cxOf CX P w K mg base N qual scope f cdv A outer s H E) [] σ' H' s'→RelV v u→Q v H'→CE outer P w H s Q u s' :=
  fun {σ' H' v u} J rv q=>⟨v,H',J.os,J.bare,J.base,J.hok,rv,q⟩
 cases fl with
 | ret u =>
  obtain ⟨v,σ',H',J,rv,q⟩:=hs
  exact fin J rv q
 | next =>
  obtain ⟨σ',H',J,q⟩:=hs
  exact fin (v:=V.non) (u:=Value.none) J rfl q
 | brk =>
  obtain ⟨_,_,_,q⟩:=hs
  exact False.elim q
 | cont =>
  obtain ⟨_,_,_,q⟩:=hs
  exact False.elim q
end L2
namespace L2
open PySem PySem.Spec PyProof.Rows
section
variable {X:Cx} {x:Str} {p pos:Pos} {e:Expr} {es:List Expr} {t:TA} {id T:String} {r:List V→Hp→VK→Prop}
def tCB (r:List V→Hp→VK→Prop) (t:TA):TE:=fun σ H Q=>t σ H fun vs H1=>r vs H1 Q
theorem pe_callB (hc:CallR X (.builtin id) r) (hg:Gl X x) (hm:X.mg x=none) (hv:bootBuiltins x=some (.builtin id)) (ha:PA X (e :: es) t) (hn:x≠"__name__":=by decide) (hdb:(x == ("__debug__":Str))=false:=by decide)
  (he:starEach (e :: es) X.env=(false,eval e X.env) :: starEach es X.env:=by rfl) (hpl:(backTo pos (starEach es X.env)).any (·.1)=false:=by rfl):PE X (.Call (.Name x p) (e :: es) [] pos) (tCB r t):=by
 intro pins s σ H Q I h
 refine wpAny_Call_Name_kw (ld_blt I hg hm hv ?_ hn hdb)
 exact PyProof.Rows.callWith_builtin1 (thn (ha pos pins s σ H _ I h) fun us s1 ⟨vs,H1,I1,r1,q1⟩=>hc pins s1 σ H1 vs us Q I1 r1 q1) he hpl
theorem pe_callTy (hc:CallR X (.type T) r) (hg:Gl X x) (hm:X.mg x=none) (hv:bootBuiltins x=some (.type T)) (ha:PA X (e :: es) t) (hn:x≠"__name__":=by decide) (hdb:(x == ("__debug__":Str))=false:=by decide)
  (he:starEach (e :: es) X.env=(false,eval e X.env) :: starEach es X.env:=by rfl) (hpl:(backTo pos (starEach es X.env)).any (·.1)=false:=by rfl):PE X (.Call (.Name x p) (e :: es) [] pos) (tCB r t):=by
 intro pins s σ H Q I h
 refine wpAny_Call_Name_kw (ld_blt I hg hm hv ?_ hn hdb)
 exact PyProof.Rows.callWith_type1 (thn (ha pos pins s σ H _ I h) fun us s1 ⟨vs,H1,I1,r1,q1⟩=>hc pins s1 σ H1 vs us Q I1 r1 q1) he hpl
end
end L2
namespace HT
open PySem PyProof.Rows
section
open PySem.SeqAt
open PySem.AutoSeq1 (wpAny_loadPart')
open PySem.MeetsSeq PySem.MeetsSeq2 PySem.MeetsSeq3
end
section
variable {prog:Program} {w:World} {A:Around} {E:Value→Shared→Prop} {s:Shared}
def sIx (n d:Nat):Option Int→Nat
 | none=>d
 | some v=>if v < 0 then (v+(n:Int)).toNat else min v.toNat n
theorem sIx_nat (n d k:Nat):sIx n d (some (k:Int))=min k n:=by
 show (if (k:Int) < 0 then ((k:Int)+(n:Int)).toNat else min (k:Int).toNat n)=min k n
 rw [if_neg (by lia),Int.toNat_natCast]
end
end HT
namespace L2
open PySem PySem.Spec PyProof.Rows
abbrev TO:=St→Hp→(Option Int→Hp→Prop)→Prop
def PO (X:Cx) (e:Option Expr) (t:TO):Prop :=
 ∀ (pins:List (Addr × Obj)) (s:Shared) (σ:St) (H:Hp) (Q:Option Int→Hp→Prop),Inv X pins σ H s→t σ H Q →
  wpAny (model X.prog X.w) X.A (evalPart e X.env) (fun u s'=>∃ o H',Inv X pins σ H' s'∧IsPart u o∧Q o H') X.xe s
def tNoPart:TO:=fun _ H Q=>Q none H
def tPart (t:TE):TO:=fun σ H Q=>t σ H fun x H1=>∃ i,x=.int i∧Q (some i) H1
section
variable {X:Cx} {e:Expr} {te:TE} {lo hi:Option Expr} {tl th:TO} {pos p2:Pos}
theorem po_none:PO X none tNoPart:=by
 intro pins s σ H Q I h
 rw [evalPart_none]
 exact wpAny_pure ⟨none,H,I,.none,h⟩
theorem po_some (h:PE X e te):PO X (some e) (tPart te):=by
 intro pins s σ H Q I hw
 rw [evalPart_some]
 refine thn (h pins s σ H _ I hw) fun u s1 ⟨x,H1,I1,r1,q1⟩=>?_
 obtain ⟨i,rfl,q⟩:=q1
 obtain ⟨t,rfl⟩:=r1
 exact ⟨some i,H1,I1,.int i t,q⟩
def SlR (X:Cx) (r:V→Option Int→Option Int→Hp→VK→Prop):Prop :=
 ∀ (pins:List (Addr × Obj)) (s:Shared) (σ:St) (H:Hp) (x:V) (v vl vu:Value) (lo hi:Option Int) (sl:Addr) (Q:VK),Inv X pins σ H s→RelV x v→s.heap.IsSliceOf sl vl vu .none→IsPart vl lo→IsPart vu hi→r x lo hi H Q →
  ∃ T id,typeLookup (.type T) "__getitem__"=pure (some (.builtin id))∧s.TypeIs v T∧wpAny (model X.prog X.w) X.A (getItem v (.ref sl)) (EP X pins σ Q) X.xe s
def tSl (r:V→Option Int→Option Int→Hp→VK→Prop) (te:TE) (tl th:TO):TE:=fun σ H Q=>te σ H fun x H1=>tl σ H1 fun l H2=>th σ H2 fun u H3=>r x l u H3 Q
theorem pe_slice {r:V→Option Int→Option Int→Hp→VK→Prop} (hr:SlR X r) (he:PE X e te) (hl:PO X lo tl) (hu:PO X hi th):PE X (.Subscript e (.Slice lo hi none p2) pos) (tSl r te tl th):=by
 intro pins s σ H Q I h
 refine Subscript_ (thn (he pins s σ H _ I h) fun v s1 ⟨x,H1,I1,r1,q1⟩=>?_)
 refine wpAny_Slice (thn (hl pins s1 σ H1 _ I1 q1) fun vl s2 ⟨l,H2,I2,pl,q2⟩=>thn (hu pins s2 σ H2 _ I2 q2) fun vu s3 ⟨u,H3,I3,pu,q3⟩=>?_)
 rw [evalPart_none]
 refine wpAny_pure ?_
 have I4:Inv X pins σ H3 { s3 with heap:=s3.heap.push { cls:=.type "slice",data:=.fields #[vl,vu,.none] } }:=I3.kept (t':=s3.toks) fun b ob q=>Heap.get?_push_of_some _ q
 obtain ⟨T,id,hT,ht,hg⟩:=hr pins { s3 with heap:=s3.heap.push { cls:=.type "slice",data:=.fields #[vl,vu,.none] } } σ H3 x v vl vu l u s3.heap.objs.size Q I4 r1 (Heap.IsSliceOf.new ..) pl pu q3
 show wpAny (model X.prog X.w) X.A (subscriptTail e (.Slice lo hi none p2) v (.ref s3.heap.objs.size)) (EP X pins σ Q) X.xe { s3 with heap:=s3.heap.push { cls:=.type "slice",data:=.fields #[vl,vu,.none] } }
 exact tail_any (ops:=[.ref s3.heap.objs.size,v]) ht hT hg (by with_unfolding_all rfl)
def cutV (xs:List V) (lo hi:Option Int):List V:=(xs.drop (HT.sIx xs.length 0 lo)).take (HT.sIx xs.length xs.length hi - HT.sIx xs.length 0 lo)
theorem cutV_length (xs:List V) (lo hi:Option Int):(cutV xs lo hi).length≤xs.length:=by
 unfold cutV
 rw [List.length_take,List.length_drop]
 lia
end
end L2
namespace L2
open PySem PySem.Spec PyProof.Rows
def ixN (n:Nat) (i:Int):Option Nat:=if 0≤i then (if i < n then some i.toNat else none) else if -(n:Int)≤i then some (i+n).toNat else none
def atI {α:Type} (xs:List α) (i:Int):Option α:=(ixN xs.length i).bind fun j=>xs[j]?
theorem ixN_seq {n:Nat} {i:Int} {j:Nat} (h:ixN n i=some j):seqIndex? i n=some j∧j < n∧-(n:Int)≤i∧i < n:=by
 unfold ixN at h
 by_cases h0:0≤i
 ·rw [if_pos h0] at h
  by_cases h1:i < n
  ·rw [if_pos h1] at h
   have e:i.toNat=j:=Option.some.inj h
   exact ⟨by rw [seqIndex_of h0 h1,e],by lia,by lia,h1⟩
  ·rw [if_neg h1] at h; cases h
 ·rw [if_neg h0] at h
  by_cases h1:-(n:Int)≤i
  ·rw [if_pos h1] at h
   have e:(i+n).toNat=j:=Option.some.inj h
   exact ⟨by rw [seqIndex_neg (by lia) h1,e],by lia,h1,by lia⟩
  ·rw [if_neg h1] at h; cases h
theorem atI_get {α:Type} {xs:List α} {i:Int} {v:α} (h:atI xs i=some v):∃ j,seqIndex? i xs.length=some j∧xs[j]?=some v∧j < xs.length∧-(xs.length:Int)≤i∧i < xs.length:=by
 unfold atI at h
 cases e:ixN xs.length i with
 | none=>rw [e] at h; cases h
 | some j =>
  rw [e] at h
  obtain ⟨h1,h2,h3,h4⟩:=ixN_seq e
  exact ⟨j,h1,h,h2,h3,h4⟩
theorem atI_nat {α:Type} {xs:List α} {j:Nat} {v:α} (h:xs[j]?=some v):atI xs (j:Int)=some v:=by
 have hj:j < xs.length:=(List.getElem?_eq_some_iff.mp h).1
 have e:ixN xs.length (j:Int)=some j:=by
  unfold ixN
  rw [if_pos (by lia),if_pos (by lia)]; simp
 unfold atI; rw [e]; exact h
theorem atI_last {α:Type} (xs:List α) (v:α):atI (xs++[v]) (-1)=some v:=by
 have hl:(xs++[v]).length=xs.length+1:=by simp
 have e:ixN (xs++[v]).length (-1)=some xs.length:=by
  unfold ixN
  rw [hl,if_neg (by decide),if_pos (by lia)]
  congr 1
  lia
 unfold atI
 rw [e]
 show (xs++[v])[xs.length]?=some v
 simp
def PlainIx (b:Expr):Prop:=∀ o i,subscripted b false o i=operate [o,i] (getItem o i)
def IxR (X:Cx) (r:R2):Prop :=
 ∀ (value slice:Expr) (pins:List (Addr × Obj)) (s:Shared) (σ:St) (H:Hp) (x y:V) (v u:Value) (Q:VK),Inv X pins σ H s→RelV x v→RelV y u→r x y H Q →
  subscripted slice false v u=operate [v,u] (getItem v u)→wpAny (model X.prog X.w) X.A (subscriptTail value slice v u) (EP X pins σ Q) X.xe s
def MtR (X:Cx) (id:String) (r:V→List V→Hp→VK→Prop):Prop :=
 ∀ (pins:List (Addr × Obj)) (s:Shared) (σ:St) (H:Hp) (x:V) (xs:List V) (v:Value) (us:List Value) (Q:VK),Inv X pins σ H s→RelV x v→Vals xs us→r x xs H Q →
  wpAny (model X.prog X.w) X.A (call (.builtin id) (v :: us)) (EP X pins σ Q) X.xe s
section
variable {X:Cx} {a b:Expr} {ta tb:TE} {pos:Pos}
theorem pe_ix {r:R2} (hr:IxR X r) (ha:PE X a ta) (hb:PE X b tb) (hs:PlainIx b):PE X (.Subscript a b pos) (tOp r ta tb):=by
 intro pins s σ H Q I h
 exact Subscript_ (binT ha hb I h fun v u s2 x y H2 I2 rx ry q=>hr a b pins s2 σ H2 x y v u Q I2 rx ry q (hs _ _))
def rIxL (K:PySem.W.Frag):R2:=fun x y H Q=>∃ p xs i v,x=.ref p∧y=.int i∧SqL K H p xs∧atI xs i=some v∧Q v H
def rIxT (K:PySem.W.Frag):R2:=fun x y H Q=>∃ p xs i v,x=.ref p∧y=.int i∧SqT K H p xs∧atI xs i=some v∧Q v H
def rIxS:R2:=fun x y H Q=>∃ z i c,x=.str z∧y=.int i∧z.length≤sizeLine∧atI z.cps.toList i=some c∧Q (.str ⟨#[c]⟩) H
theorem ix_list:IxR X (rIxL X.K):=by
 intro value slice pins s σ H x y v u Q I rx ry h hs
 obtain ⟨p,xs,i,z,rfl,rfl,hq,he,q⟩:=h
 cases rx
 obtain ⟨t,rfl⟩:=ry
 obtain ⟨its,r,pl,hz⟩:=I.list hq
 obtain ⟨j,h1,h2,h3,h4,h5⟩:=atI_get he
 obtain ⟨w,ew,rw'⟩:=r.get h2
 have hl:=r.length
 have hn:=line63
 have fin:EP X pins σ Q w s:=⟨z,H,I,rw',q⟩
 by_cases h0:0≤i
 ·have hj:i.toNat=j:=by
   rw [seqIndex_of h0 h5] at h1
   exact Option.some.inj h1
  exact item_listR pl.isList h0 (by lia) (by rw [hj]; simpa using ew) fin hs
 ·have hj:(i+(its.toArray.size:Int)).toNat=j:=by
   rw [seqIndex_neg (by lia) h4] at h1
   rw [List.size_toArray,← hl]
   exact Option.some.inj h1
  exact subscriptTail_builtinR (x:=w) pl.isList.typeIs slot_list_getitem.lookup
   (wpAny_getItem_list_neg (Q:=fun r s'=>r=w∧EP X pins σ Q r s') pl.isList (by lia) (by rw [List.size_toArray] <;> lia) (by lia) (by rw [hj]; simpa using ew) ⟨rfl,fin⟩) hs
theorem ix_tup:IxR X (rIxT X.K):=by
 intro value slice pins s σ H x y v u Q I rx ry h hs
 obtain ⟨p,xs,i,z,rfl,rfl,hq,he,q⟩:=h
 cases rx
 obtain ⟨t,rfl⟩:=ry
 obtain ⟨its,r,pl,hz⟩:=I.tuple hq
 obtain ⟨j,h1,h2,h3,h4,h5⟩:=atI_get he
 obtain ⟨w,ew,rw'⟩:=r.get h2
 have hl:=r.length
 have hn:=line63
 have fin:EP X pins σ Q w s:=⟨z,H,I,rw',q⟩
 exact subscriptTail_builtinR (x:=w) pl.typeIs slot_tuple_getitem.lookup
  (getItem_tuple (j:=j) (Q:=fun r s'=>r=w∧EP X pins σ Q r s') pl (by lia) (by lia) (by rw [List.size_toArray,← hl]; exact h1) (by simpa using ew) ⟨rfl,fin⟩) hs
theorem ix_str:IxR X rIxS:=by
 intro value slice pins s σ H x y v u Q I rx ry h hs
 obtain ⟨z,i,c,rfl,rfl,hz,he,q⟩:=h
 obtain ⟨t,rfl⟩:=rx
 obtain ⟨t',rfl⟩:=ry
 obtain ⟨j,h1,h2,h3,h4,h5⟩:=atI_get he
 have hl:z.cps.toList.length=z.length:=by simp [Str.length]
 rw [hl] at h1 h4 h5
 have hn:=line63
 exact tail_any (typeIs_str s z t) slot_str_getitem.lookup (getItem_str (c:=c) (by
  have e1:decide (i < -(2 ^ 63:Int))=false:=decide_eq_false (by lia)
  have e2:decide (i ≥ 2 ^ 63)=false:=decide_eq_false (by lia)
  rw [e1,e2,Bool.or_false]) (by rw [h1]; simpa using h2) ⟨.str ⟨#[c]⟩,H,I.tok _,⟨_,rfl⟩,q⟩) hs
theorem mapSeq_set (its:List Value) (n j:Nat) (u:Value):Obj.mapSeq (·.setIfInBounds j u) { cls:=.type "list",data:=.seq its.toArray n }={ cls:=.type "list",data:=.seq (its.set j u).toArray n }:=by
 simp [Obj.mapSeq]
theorem Inv.lst {pins:List (Addr × Obj)} {σ:St} {H:Hp} {s:Shared} {p:Addr} {xs:List V} (I:Inv X pins σ H s) (h:H p=some (.lst xs)) :
  ∃ (its:List Value) (n:Nat),Vals xs its∧s.heap.get? p=some { cls:=.type "list",data:=.seq its.toArray n }∧xs.length≤sizeLine:=by
 obtain ⟨z,its,n,r,e⟩:=I.hok p _ h
 exact ⟨its,n,r,e,z⟩
theorem Inv.lstUpd {pins:List (Addr × Obj)} {σ:St} {H:Hp} {s:Shared} {p:Addr} {xs ys:List V} {its its':List Value} {n n':Nat} {f:Obj→Obj} (I:Inv X pins σ H s) (h:H p=some (.lst xs))
  (ho:s.heap.get? p=some { cls:=.type "list",data:=.seq its.toArray n }) (hf:f { cls:=.type "list",data:=.seq its.toArray n }={ cls:=.type "list",data:=.seq its'.toArray n' }) (r:Vals ys its') (hz:ys.length≤sizeLine) (t:Nat) :
  Inv X pins σ (upd H p (.lst ys)) { s with heap:=s.heap.update p f,toks:=t }:=by
 have e:(s.heap.update p f).get? p=some { cls:=.type "list",data:=.seq its'.toArray n' }:=by
  rw [Heap.get?_update_self f ho (by rw [hf] <;> rfl),hf]
 refine I.write (x:=p) (e:=p) (by rw [h]; trivial) (.inl rfl) (fun b u hb q=>(Heap.get?_update_other _ _ (Ne.symm hb)).trans q) ⟨_,e⟩ ?_
 exact ⟨hz,its',n',r,e⟩
def rSetL:V→V→V→Hp→(Hp→Prop)→Prop:=fun o i v H Q=>∃ p xs k j,o=.ref p∧i=.int k∧H p=some (.lst xs)∧ixN xs.length k=some j∧Q (upd H p (.lst (xs.set j v)))
theorem set_list:PSet X rSetL:=by
 intro pins s σ H o i v ov iv u Q I ro ri rv h
 obtain ⟨p,xs,k,j,rfl,rfl,hp,hj,q⟩:=h
 cases ro
 obtain ⟨t,rfl⟩:=ri
 obtain ⟨its,n,r,ho,hz⟩:=I.lst hp
 obtain ⟨h1,h2,h3,h4⟩:=ixN_seq hj
 have hl:=r.length
 have hn:=line63
 have I':Inv X pins σ (upd H p (.lst (xs.set j v))) { s with heap:=s.heap.update p (Obj.mapSeq (·.setIfInBounds j u)) } :=
  I.lstUpd hp ho (mapSeq_set its n j u) (r.set rv j) (by rw [List.length_set]; exact hz) s.toks
 by_cases h0:0≤k
 ·have hk:k.toNat=j:=by
   rw [seqIndex_of h0 h4] at h1
   exact Option.some.inj h1
  exact PySem.W.ki_setAt ho h0 (by lia) (by rw [List.size_toArray,← hl]; exact h4) (by rw [hk]; exact ⟨_,I',q⟩)
 ·have hk:(k+(its.toArray.size:Int)).toNat=j:=by
   rw [seqIndex_neg (by lia) h3] at h1
   rw [List.size_toArray,← hl]
   exact Option.some.inj h1
  exact PySem.W.ki_setBack ho (by lia) (by rw [List.size_toArray,← hl]; exact h3) (by lia) (by rw [hk]; exact ⟨_,I',q⟩)
theorem slice_bounds (lo hi:Option Int) (n:Nat):(sliceBounds lo hi none n).1=((HT.sIx n 0 lo:Nat):Int)∧(sliceBounds lo hi none n).2.1=((HT.sIx n n hi:Nat):Int)∧(sliceBounds lo hi none n).2.2=1:=by
 refine ⟨?_,?_,rfl⟩
 ·cases lo with
  | none=>simp [sliceBounds,HT.sIx]
  | some i =>
   simp only [sliceBounds,HT.sIx,Option.getD_none,show (1:Int) > 0 by decide,if_true]
   by_cases h:i < 0
   ·simp only [h,if_true] <;> lia
   ·simp only [h,if_false] <;> lia
 ·cases hi with
  | none=>simp [sliceBounds,HT.sIx]
  | some i =>
   simp only [sliceBounds,HT.sIx,Option.getD_none,show (1:Int) > 0 by decide,if_true]
   by_cases h:i < 0
   ·simp only [h,if_true] <;> lia
   ·simp only [h,if_false] <;> lia
theorem slicePick_cut (its:List Value) (lo hi:Option Int):slicePick its.toArray lo hi none=((its.drop (HT.sIx its.length 0 lo)).take (HT.sIx its.length its.length hi - HT.sIx its.length 0 lo)).toArray:=by
 obtain ⟨h1,h2,h3⟩:=slice_bounds lo hi its.toArray.size
 unfold slicePick
 rw [h1,h2,h3]
 simp only [sliceRange_one,pick_run,List.size_toArray] <;> rfl
def rSlL (K:PySem.W.Frag):V→Option Int→Option Int→Hp→VK→Prop:=fun x lo hi H Q=>∃ a xs,x=.ref a∧SqL K H a xs∧∀ p,H p=none→Q (.ref p) (upd H p (.lst (cutV xs lo hi)))
theorem sl_list:SlR X (rSlL X.K):=by
 intro pins s σ H x v vl vu lo hi sl Q I rx hs pl pu h
 obtain ⟨a,xs,rfl,hx,q⟩:=h
 cases rx
 obtain ⟨its,r,ht,hz⟩:=I.list hx
 have hlen:=r.length
 refine ⟨"list",_,slot_list_getitem.lookup,ht.isList.typeIs,?_⟩
 refine wpAny_getItem_list_slice ht.isList hs pl pu .none (by simp) ?_ (by rw [List.size_toArray] <;> lia)
 rw [slicePick_cut,← hlen]
 refine ⟨.ref s.heap.objs.size,_,I.laid (t':=s.toks) (o:=.lst (cutV xs lo hi)) (fun b ob q=>Heap.get?_push_of_some _ q) (Nat.le_refl _) ?_,rfl,q _ (I.hok.fresh (Nat.le_refl _))⟩
 exact ⟨Nat.le_trans (cutV_length xs lo hi) hz,_,0,(r.drop (HT.sIx xs.length 0 lo)).take (HT.sIx xs.length xs.length hi - HT.sIx xs.length 0 lo),Heap.get?_push_size _ rfl⟩
theorem call_len_seq:CallR X (.builtin "len") (fun xs H Q=>∃ p ys,xs=[.ref p]∧(SqL X.K H p ys∨SqT X.K H p ys)∧Q (.int ys.length) H):=by
 intro pins s σ H xs us Q I r h
 obtain ⟨p,ys,rfl,hq,q⟩:=h
 obtain ⟨u,rfl,rx⟩:=vals1 r
 cases rx
 have hn:=line63
 rcases hq with hq | hq
 ·obtain ⟨its,r',pl,hz⟩:=I.list hq
  have hlen:=r'.length
  exact Calls.call_len_list pl.isList (by simp only [List.size_toArray] <;> lia) ⟨.int ys.length,H,I.tok _,⟨s.toks+1,by rw [List.size_toArray,hlen]⟩,q⟩
 ·obtain ⟨its,r',pl,hz⟩:=I.tuple hq
  have hlen:=r'.length
  exact len_tuple pl (by simp only [List.size_toArray] <;> lia) ⟨.int ys.length,H,I.tok _,⟨s.toks+1,by rw [List.size_toArray,hlen]⟩,q⟩
theorem call_list_of:CallR X (.type "list") (fun xs H Q=>∃ p ys,xs=[.ref p]∧(SqL X.K H p ys∨SqT X.K H p ys)∧∀ l,H l=none→Q (.ref l) (upd H l (.lst ys))):=by
 intro pins s σ H xs us Q I r h
 obtain ⟨p,ys,rfl,hq,q⟩:=h
 obtain ⟨u,rfl,rx⟩:=vals1 r
 cases rx
 have fin:∀ (its:List Value),Vals ys its→ys.length≤sizeLine→∀ (h':Heap) (c':Nat),(∀ b o',s.heap.get? b=some o'→h'.get? b=some o') →
   h'.get? s.heap.objs.size=some { cls:=.type "list",dict:=none,data:=.seq its.toArray c',slots:=#[] }→EP X pins σ Q (.ref s.heap.objs.size) { s with heap:=h' }:=fun its r' hz h' c' kp e =>
  ⟨.ref s.heap.objs.size,_,I.laid (t':=s.toks) kp (Nat.le_refl _) (show ObjOk X.prog X.w _ h' _ (.lst ys) from ⟨hz,its,c',r',e⟩),rfl,q _ (I.hok.fresh (Nat.le_refl _))⟩
 rcases hq with hq | hq
 ·obtain ⟨its,r',pl,hz⟩:=I.list hq
  have hlen:=r'.length
  obtain ⟨o,ho,hc,n,hd⟩:=pl.isList
  exact call_list_seq p (.inl rfl) ho hc hd (fun h' c' kp e=>fin its r' hz h' c' kp e) (by simp only [List.size_toArray] <;> lia)
 ·obtain ⟨its,r',pl,hz⟩:=I.tuple hq
  have hlen:=r'.length
  obtain ⟨o,ho,hc,n,hd⟩:=pl
  exact call_list_seq p (.inr rfl) ho hc hd (fun h' c' kp e=>fin its r' hz h' c' kp e) (by simp only [List.size_toArray] <;> lia)
theorem call_tuple_of:CallR X (.type "tuple") (fun xs H Q=>∃ p ys,xs=[.ref p]∧((SqL X.K H p ys∧∀ l,H l=none→Q (.ref l) (upd H l (.tup ys)))∨(SqT X.K H p ys∧Q (.ref p) H))):=by
 intro pins s σ H xs us Q I r h
 obtain ⟨p,ys,rfl,h⟩:=h
 obtain ⟨u,rfl,rx⟩:=vals1 r
 cases rx
 rcases h with ⟨hq,q⟩ | ⟨hq,q⟩
 ·obtain ⟨its,r',pl,hz⟩:=I.list hq
  have hlen:=r'.length
  refine call_tuple_list pl.isList (fun h' kp=>?_) (by simp only [List.size_toArray] <;> lia)
  have I1:Inv X pins σ H { s with heap:=h' }:=I.kept (t':=s.toks) kp
  have I2:Inv X pins σ (upd H h'.objs.size (.tup ys)) { s with heap:=h'.push { cls:=.type "tuple",data:=.seq its.toArray } } :=
   I1.laid (t':=s.toks) (fun b o e=>Heap.get?_push_of_some _ e) (Nat.le_refl _) (show ObjOk X.prog X.w _ _ _ (.tup ys) from ⟨hz,its,r',IsTup.new _ _⟩)
  exact ⟨.ref h'.objs.size,_,I2,rfl,q _ (I1.hok.fresh (Nat.le_refl _))⟩
 ·obtain ⟨its,r',pl,hz⟩:=I.tuple hq
  exact call_tuple_same pl ⟨.ref p,H,I,rfl,q⟩
def tyV (K:PySem.W.Frag) (T:String) (x:V) (H:Hp):Prop:=match x with
 | .str _=>T="str"
 | .int _=>T="int"
 | .ref p=>(T="list"∧∃ xs,SqL K H p xs)∨(T="tuple"∧∃ o,K.lookup p=some o∧o.cls=.type "tuple"∧o.dict=none) ∨
   (T="dict"∧((∃ kvs,H p=some (.dK kvs))∨∃ kvs,H p=some (.dT kvs)))∨(T="set"∧∃ S n,H p=some (.set S n))
 | _=>False
theorem tyV_is {pins:List (Addr × Obj)} {σ:St} {H:Hp} {s:Shared} {T:String} {x:V} {v:Value} (I:Inv X pins σ H s) (r:RelV x v) (ty:tyV X.K T x H) :
  s.TypeIs v T∧∀ a,v=.ref a→∃ ob,s.heap.get? a=some ob∧ob.dict=none:=by
 cases x with
 | str z =>
  obtain ⟨t,rfl⟩:=r
  cases (show T="str" from ty)
  exact ⟨typeIs_str s z t,fun _ e=>nomatch e⟩
 | int i =>
  obtain ⟨t,rfl⟩:=r
  cases (show T="int" from ty)
  exact ⟨typeIs_int s i t,fun _ e=>nomatch e⟩
 | ref p =>
  cases r
  rcases ty with ⟨rfl,xs,hq⟩ | ⟨rfl,o,hk,hc,hd⟩ | ⟨rfl,hk⟩ | ⟨rfl,S,n,hk⟩
  ·obtain ⟨its,_,pl,_⟩:=I.list hq
   refine ⟨pl.isList.typeIs,fun a e=>?_⟩
   cases e
   obtain ⟨o,n,e,c,hd,_⟩:=pl
   exact ⟨o,e,hd⟩
  ·refine ⟨⟨o,I.kIn p o hk,hc⟩,fun a e=>?_⟩
   cases e
   exact ⟨o,I.kIn _ o hk,hd⟩
  ·have z:∃ o,s.heap.get? p=some o∧o.ExactDict:=by
    rcases hk with ⟨kvs,hk⟩ | ⟨kvs,hk⟩
    ·obtain ⟨_,_,_,_,o,_,_,e,ex,_⟩:=I.hok p _ hk
     exact ⟨o,e,ex⟩
    ·obtain ⟨_,_,_,_,o,_,_,e,ex,_⟩:=I.hok p _ hk
     exact ⟨o,e,ex⟩
   obtain ⟨o,e,ex⟩:=z
   refine ⟨⟨o,e,ex.1⟩,fun a e2=>?_⟩
   cases e2
   exact ⟨o,e,ex.2.1⟩
  ·obtain ⟨o,_,_,_,e,ex,_⟩:=I.hok p _ hk
   refine ⟨⟨o,e,ex.1⟩,fun a e2=>?_⟩
   cases e2
   exact ⟨o,e,ex.2.1⟩
 | _=>exact False.elim ty
def tBM0 (K:PySem.W.Frag) (T:String) (r:V→List V→Hp→VK→Prop) (to:TE):TE:=fun σ H Q=>to σ H fun x H1=>tyV K T x H1∧r x [] H1 Q
def tBM (K:PySem.W.Frag) (T:String) (r:V→List V→Hp→VK→Prop) (to:TE) (t:TA):TE:=fun σ H Q=>to σ H fun x H1=>tyV K T x H1∧t σ H1 fun xs H2=>r x xs H2 Q
variable {o e:Expr} {es:List Expr} {to:TE} {t:TA} {name:Str} {apos cpos:Pos} {T id:String} {r:V→List V→Hp→VK→Prop}
theorem pe_bm0 (pa:PlainAttrs T) (slot:Slot T name id) (hty:typeOf (.builtin id)=pure (.type "method_descriptor")) (hm:MtR X id r) (ho:PE X o to)
  (hbase:attributeBase o name X.env (eval o X.env)=eval o X.env:=by rfl) (hline:(apos.endLine == cpos.line)=true:=by rfl):PE X (.Call (.Attribute o name apos) [] [] cpos) (tBM0 X.K T r to):=by
 intro pins s σ H Q I h
 refine wpAny_Call_method0_late hbase hline (thn (ho pins s σ H _ I h) fun v s1 ⟨x,H1,I1,r1,ty,q1⟩=>?_)
 obtain ⟨h1,h2⟩:=tyV_is I1 r1 ty
 exact ⟨T,id,pa,slot,hty,h1,h2,Calls.callWith_builtin rfl (PySem.evalArgs_none (hm pins s1 σ H1 x [] v [] Q I1 r1 .nil q1))⟩
theorem pe_bm (pa:PlainAttrs T) (slot:Slot T name id) (hty:typeOf (.builtin id)=pure (.type "method_descriptor")) (hm:MtR X id r) (ho:PE X o to) (ha:PA X (e :: es) t)
  (hbase:attributeBase o name X.env (eval o X.env)=eval o X.env:=by rfl)
  (hfew:((backTo cpos (starEach (e :: es) X.env)).all (fun x=>!x.1) && (backToKw cpos (keywordEach [] X.env)).all (fun x=>x.1.isSome)
   && decide ((e :: es).length+([]:List Keyword).length+(if ([]:List Keyword).isEmpty then 0 else 1) < 30))=true:=by rfl)
  (hline:(apos.endLine == cpos.line)=true:=by rfl) (hs:starEach (e :: es) X.env=(false,eval e X.env) :: starEach es X.env:=by rfl) (hplain:(backTo cpos (starEach es X.env)).any (·.1)=false:=by rfl) :
  PE X (.Call (.Attribute o name apos) (e :: es) [] cpos) (tBM X.K T r to t):=by
 intro pins s σ H Q I h
 refine wpAny_Call_method_late hbase hfew hline rfl (thn (ho pins s σ H _ I h) fun v s1 ⟨x,H1,I1,r1,ty,q1⟩=>?_)
 obtain ⟨h1,h2⟩:=tyV_is I1 r1 ty
 refine ⟨T,id,pa,slot,hty,h1,h2,?_⟩
 have hA:=ha cpos pins s1 σ H1 _ I1 q1
 rw [hs] at hA ⊢
 refine Calls.callWith_builtin (by show (false || (backTo cpos (starEach es X.env)).any (·.1))=false; rw [hplain] <;> rfl) (Calls.evalArgs_plain ?_)
 exact thn hA fun us s2 ⟨vs,H2,I2,r2,q2⟩=>hm pins s2 σ H2 x vs v us Q I2 r1 r2 q2
end
end L2
namespace L2
open PySem PySem.Spec PyProof.Rows
def MtM (X:Cx) (id:String) (r:V→List V→Hp→VK→Prop):Prop :=
 ∀ (pins:List (Addr × Obj)) (s:Shared) (σ:St) (H:Hp) (x:V) (xs:List V) (v:Value) (us:List Value) (Q:VK),Inv X pins σ H s→RelV x v→Vals xs us→r x xs H Q →
  wpAny (model X.prog X.w) X.A (call (.builtin id) (v :: us)) (EP X pins σ Q) X.xe s
theorem Vals.one:∀ {x:V} {us:List Value},Vals [x] us→∃ u,us=[u]∧RelV x u
 | _,_,.cons r .nil=>⟨_,rfl,r⟩
theorem Vals.zero:∀ {us:List Value},Vals [] us→us=[]
 | _,.nil=>rfl
theorem Vals.dropLast {xs:List V} {us:List Value} (h:Vals xs us):Vals xs.dropLast us.dropLast:=by
 induction h with
 | nil=>exact .nil
 | cons r t ih =>
  cases t with
  | nil=>exact .nil
  | cons q t'=>exact .cons r ih
theorem Vals.eraseIdx:∀ {xs:List V} {us:List Value} (i:Nat),Vals xs us→Vals (xs.eraseIdx i) (us.eraseIdx i)
 | _,_,_,.nil=>.nil
 | _,_,0,.cons _ t=>t
 | _,_,i+1,.cons r t=>.cons r (Vals.eraseIdx i t)
theorem erase_last {α:Type} (l:List α):l.eraseIdx (l.length - 1)=l.dropLast:=by
 induction l with
 | nil=>rfl
 | cons a r ih =>
  cases r with
  | nil=>rfl
  | cons b r =>
   have e:(a :: b :: r).length - 1=((b :: r).length - 1)+1:=by
    have h1:(a :: b :: r).length=r.length+2:=rfl
    have h2:(b :: r).length=r.length+1:=rfl
    lia
   rw [e,List.eraseIdx_cons_succ,ih]
   all_goals rfl
theorem len_erase {α:Type}:∀ (l:List α) (i:Nat),(l.eraseIdx i).length≤l.length
 | [],_=>Nat.le_refl _
 | _ :: _,0=>Nat.le_succ _
 | _ :: r,i+1=>Nat.succ_le_succ (len_erase r i)
section
variable {X:Cx} {pins:List (Addr × Obj)} {σ:St} {H:Hp} {s:Shared} {l b:Addr} {xs ys zs:List V}
theorem Inv.lset {its its':List Value} {n:Nat} {f:Array Value→Array Value} {t':Nat} (I:Inv X pins σ H s) (hH:H l=some (.lst xs))
  (e:s.heap.get? l=some { cls:=.type "list",data:=.seq its.toArray n }) (hf:f its.toArray=its'.toArray) (hv:Vals ys its') (hz:ys.length≤sizeLine) :
  Inv X pins σ (upd H l (.lst ys)) { s with heap:=s.heap.update l (Obj.mapSeq f),toks:=t' }:=by
 have q:=PySem.IsL.update e f
 rw [hf] at q
 refine I.write (x:=l) (e:=l) (by rw [hH]; exact trivial) (.inl rfl) (fun b' u hb hu=>(Heap.get?_update_other s.heap (Obj.mapSeq f) (Ne.symm hb)).trans hu) ⟨_,q⟩ ?_
 exact ⟨hz,its',_,hv,q⟩
theorem Inv.lnew {its:List Value} {t':Nat} (I:Inv X pins σ H s) (hv:Vals ys its) (hz:ys.length≤sizeLine) :
  Inv X pins σ (upd H s.heap.objs.size (.lst ys)) { s with heap:=s.heap.push { cls:=.type "list",data:=.seq its.toArray },toks:=t' } :=
 I.laid (fun _ _ q=>Heap.get?_push_of_some _ q) (Nat.le_refl _) ⟨hz,its,0,hv,Heap.get?_push_size _ rfl⟩
theorem Inv.fresh (I:Inv X pins σ H s):H s.heap.objs.size=none:=I.hok.fresh (Nat.le_refl _)
theorem Inv.lstM (I:Inv X pins σ H s) (hH:H l=some (.lst xs)):xs.length≤sizeLine∧∃ (its:List Value) (n:Nat),Vals xs its∧xs.length=its.length∧s.heap.get? l=some { cls:=.type "list",data:=.seq its.toArray n }:=by
 obtain ⟨z,its,n,r,e⟩:=I.hok l _ hH
 exact ⟨z,its,n,r,r.length,e⟩
end
section
variable {X:Cx}
def rAppend:V→List V→Hp→VK→Prop:=fun x vs H Q=>∃ l xs y,x=.ref l∧vs=[y]∧H l=some (.lst xs)∧xs.length < sizeLine∧Q .non (upd H l (.lst (xs++[y])))
theorem mt_append:MtM X "list.append" rAppend:=by
 intro pins s σ H x vs v us Q I rx rv h
 obtain ⟨l,xs,y,rfl,rfl,hH,hz,q⟩:=h
 cases rx
 obtain ⟨u,rfl,ru⟩:=rv.one
 obtain ⟨z,its,n,r,hl,e⟩:=I.lstM hH
 refine call_meets F.slot_list_append ⟨_,e,rfl⟩ F.entry_list_append (F.args_list_append_2 _ _) (PySem.list_append l its.toArray n u (by rw [List.size_toArray]; lia)) ⟨e,?_⟩
 refine ⟨.non,_,I.lset (its':=its++[u]) hH e (by simp) (r.append (.cons ru .nil)) ?_,rfl,q⟩
 rw [List.length_append,List.length_singleton]
 lia
def rPop:V→List V→Hp→VK→Prop:=fun x vs H Q=>∃ l xs y,x=.ref l∧vs=[]∧H l=some (.lst xs)∧xs[xs.length - 1]?=some y∧Q y (upd H l (.lst xs.dropLast))
theorem mt_pop:MtM X "list.pop" rPop:=by
 intro pins s σ H x vs v us Q I rx rv h
 obtain ⟨l,xs,y,rfl,rfl,hH,hy,q⟩:=h
 cases rx
 have hus:=rv.zero
 subst hus
 obtain ⟨z,its,n,r,hl,e⟩:=I.lstM hH
 obtain ⟨u,hu,ru⟩:=r.get hy
 have hy':its.toArray[its.toArray.size - 1]?=some u:=by
  show its.toArray[its.length - 1]?=some u
  rw [← Array.getElem?_toList,← hl]
  exact hu
 refine call_meets F.slot_list_pop ⟨_,e,rfl⟩ F.entry_list_pop (F.args_list_pop_1 _) (MeetsSeq.list_pop_last l its.toArray n u hy' (by rw [List.size_toArray]; lia)) ⟨e,?_⟩
 refine ⟨y,_,I.lset (its':=its.dropLast) hH e ?_ r.dropLast ?_,ru,q⟩
 ·show its.toArray.eraseIdxIfInBounds (its.toArray.size - 1)=its.dropLast.toArray
  rw [List.size_toArray,List.eraseIdxIfInBounds_toArray,erase_last]
 ·rw [List.length_dropLast]
  lia
def rPopAt:V→List V→Hp→VK→Prop:=fun x vs H Q=>∃ l xs i k y,x=.ref l∧vs=[.int i]∧H l=some (.lst xs)∧-(2 ^ 63)≤i∧i < 2 ^ 63∧seqIndex? i xs.length=some k∧xs[k]?=some y∧Q y (upd H l (.lst (xs.eraseIdx k)))
theorem mt_popAt:MtM X "list.pop" rPopAt:=by
 intro pins s σ H x vs v us Q I rx rv h
 obtain ⟨l,xs,i,k,y,rfl,rfl,hH,h1,h2,hk,hy,q⟩:=h
 cases rx
 obtain ⟨u,rfl,ru⟩:=rv.one
 obtain ⟨t,rfl⟩:=ru
 obtain ⟨z,its,n,r,hl,e⟩:=I.lstM hH
 obtain ⟨w,hw,rw'⟩:=r.get hy
 refine call_meets F.slot_list_pop ⟨_,e,rfl⟩ F.entry_list_pop (F.args_list_pop_2 _ _)
  (MeetsSeq.list_pop_at l its.toArray n i t k w (fitsIndex_both h1 h2) (by rw [List.size_toArray,← hl]; exact hk) (by rw [← Array.getElem?_toList]; exact hw) (by rw [List.size_toArray]; lia)) ⟨e,?_⟩
 refine ⟨y,_,I.lset (its':=its.eraseIdx k) hH e ?_ (r.eraseIdx k) ?_,rw',q⟩
 ·show its.toArray.eraseIdxIfInBounds k=(its.eraseIdx k).toArray
  rw [List.eraseIdxIfInBounds_toArray]
 ·have:=len_erase xs k
  lia
def rCat:R2:=fun x y H Q=>∃ l b xs zs,x=.ref l∧y=.ref b∧H l=some (.lst xs)∧H b=some (.lst zs)∧xs.length+zs.length≤sizeLine∧∀ p,H p=none→Q (.ref p) (upd H p (.lst (xs++zs)))
theorem op_cat:OpR X (binaryOp .Add) rCat:=by
 intro pins s σ H x y v u Q I rx ry h
 obtain ⟨l,b,xs,zs,rfl,rfl,hH,hB,hz,q⟩:=h
 cases rx
 cases ry
 obtain ⟨z,its,n,r,hl,e⟩:=I.lstM hH
 obtain ⟨z2,its2,n2,r2,hl2,e2⟩:=I.lstM hB
 refine PySem.P.add_list e e2 ?_ (by rw [List.size_toArray,List.size_toArray]; lia)
 have ea:its.toArray++its2.toArray=(its++its2).toArray:=by simp
 rw [ea]
 exact ⟨.ref _,_,I.lnew (t':=s.toks) (r.append r2) (by rw [List.length_append]; lia),rfl,q _ I.fresh⟩
end
section
variable {prog:Program} {w:World} {A:Around} {E:Value→Shared→Prop} {s:Shared}
end
section
variable {X:Cx}
end
end L2
namespace Att
open PySem PySem.W PySem.Calls PyProof.Rows
theorem ints_of_wellAll {P:Params} {h:Heap}:∀ (ns:List Int) (vs:List Value),WellAll P h vs (ns.map WData.int)→IntsAre vs ns:=by
 intro ns
 induction ns with
 | nil =>
  intro vs w
  rw [List.map_nil] at w
  cases w
  exact .nil
 | cons n ns ih =>
  intro vs w
  rw [List.map_cons] at w
  cases w with
  | cons a b =>
   cases a
   exact .cons _ _ (ih _ b)
theorem script_of {l:OpenLaw} {n:Nat} (hn:l.most=some n) {P:Params} {h:Heap} {args:List WData} {vals:List Value}
  (hpre:l.row.toRowW.claim.pre args=true) (hwl:WellAll P h vals args) :
  ∃ a vs ns,vals=[Value.ref a]∧args=[WData.list (ns.map WData.int)]∧h.get? a=some { cls:=.type "list",data:=.seq vs.toArray }∧IntsAre vs ns∧ns.length≤n:=by
 have hsh:WShape.hasAll [] args [.list .int]=true:=(pre_splitW hpre).1
 have hc:l.pre.holds [] { args:=args }=true:=(pre_splitW hpre).2
 obtain ⟨d,r,rfl,h1,h2⟩:=hasAllW_cons hsh
 obtain rfl:=hasAllW_nil h2
 obtain ⟨xs,rfl,h3⟩:=hasW_list h1
 obtain ⟨ns,rfl⟩:=items_int h3
 have hlen:ns.length≤n:=by
  unfold OpenLaw.pre at hc
  have h4:(WTm.not (.lt (.lit (.int (n:Int))) (.len (.arg 0)))).holds [] { args:=[.list (ns.map .int)] }=true:=by
   have h4:=(holds_andW hc).1
   rw [hn] at h4
   exact h4
  have h5:=condW_of h4 (w_not (w_lt w_lit (w_len_list (w_arg rfl))))
  rw [List.length_map] at h5
  refine Nat.le_of_not_lt fun q=>?_
  have q':(n:Int) < ((ns.length:Nat):Int):=by lia
  first
   | (rw [decide_eq_true q'] at h5; exact absurd h5 (by decide))
   | (simp at h5; lia)
 cases hwl with
 | cons w1 w2 =>
  cases w2
  cases w1 with
  | list ho hall=>exact ⟨_,_,ns,rfl,rfl,ho,ints_of_wellAll ns _ hall,hlen⟩
theorem post_true (l:OpenLaw) (args:List WData):l.row.toRowW.claim.post args (.bool true) args=true :=
 postW_of (r:=l.row.toRowW) (X:=(true == true))
  (show WShape.has [] (.bool true) .bool=true by first | rfl | decide | simp [WShape.has,WShape.arms,WShape.armsAll])
  (show (WTm.eq .res (.lit (.bool true))).value [] { args:=args,res:=some (.bool true),after:=args }=some (.bool (true == true)) from w_eq_bool (w_res rfl) w_lit) rfl
theorem attach_call {l:OpenLaw} {n:Nat} {q:Program} {loose:List Str} {XP:(Str→Option Value)→Heap→Prop} {YP:World→Heap→Prop} {d:DefRec}
  (hn:l.most=some n) (hdf:d.params.defaults=[])
  (call:∀ (w:World) (s₀ s₁:Shared) (mg mb:Str→Option Value) (fa:Addr) (o:Obj) (pm cd doc:Value) (a:Addr) (vs:List Value) (ns:List Int),
   Ground q loose [] XP w s₀ mg mb s₁.heap→YP w s₁.heap →
   s₁.heap.get? fa=some o→o.data=.func (docDef d.name d.params d.body d.scope pm cd doc)→s₁.heap.CodeRec cd d.name→mg d.name=some (.ref fa) →
   s₁.heap.get? a=some { cls:=.type "list",data:=.seq vs.toArray }→IntsAre vs ns→ns.length≤n→s₁.gens=#[] →
   codeAny (model l.prog w) callerA (.call (.ref fa) ⟨[.ref a],[]⟩) (fun r s'=>r=.ok (.ret (.bool true))∧OldK s₁.heap s'.heap∧s'.os=s₁.os∧AllBare s'.gens) s₁) :
  WalkO q loose XP YP l.row.toRowW d [] (fun f vs=>PySem.call f vs):=by
 intro w s₀ s₁ mg mb G Y fa o pm cd doc dV kV ho hd hcd hD hmg hg args vals as hpre hlay hrd hwl hlo
 obtain rfl:dV=.none:=Dflts.none hD hdf
 obtain rfl:kV=.none:=Dflts.noKw hD
 obtain ⟨a,vs,ns,rfl,rfl,hobj,hints,hlen⟩:=script_of hn hpre hwl
 refine enter_call (codeAny_mono (call w s₀ s₁ mg mb fa o pm cd doc a vs ns G Y ho (fd_plain hd) hcd hmg hobj hints hlen hg) fun r s' hq=>?_)
 obtain ⟨rfl,h2,h3,h4⟩:=hq
 exact ⟨.inl ⟨.bool true,.bool true,[],rfl,fun _=>rfl,.bool true,post_true l _,fun _=>⟨List.Pairwise.nil,fun _ hm=>(nomatch hm)⟩⟩,h2,h3,h4⟩
section
variable {prog:Program} {w:World} {A:Around} {E:Value→Shared→Prop} {s:Shared} {K:Frag}
end
end Att
namespace L2
open PySem PySem.Spec PyProof.Rows
theorem vals_ints:∀ {vs:List Value} {ns:List Int},IntsAre vs ns→Vals (ns.map V.int) vs
 | _,_,.nil=>.nil
 | _,_,.cons n t h=>.cons ⟨t,rfl⟩ (vals_ints h)
def Only (H:Hp):Prop:=∀ b,H b=none∨∃ o xs,H b=some (.frz o (.lst xs))
theorem law_call {P:Program} {w:World} {K:PySem.W.Frag} {mg mb:Str→Option Value} {CX:CXT} {k:Nat} {fa a:Addr} {fd:FuncData} {x:Str} {sp:Sp} {s₁:Shared} {vs:List Value} {ns:List Int}
  (KX:K.In s₁.heap) (hns:s₁.heap.Ns mainGlobals mg) (hb:s₁.heap.Ns builtinsNs mb) (hbb:∀ x:Str,x≠"__name__"→mb x=bootBuiltins x) (hlim:s₁.heap.NoLimit) (hg:s₁.gens=#[])
  (ha:s₁.heap.get? a=some { cls:=.type "list",data:=.seq vs.toArray }) (hi:IntsAre vs ns) (hl:ns.length≤sizeLine) (hr:Room k callerA)
  (F:∀ base:Heap,K.In base→base.Ns mainGlobals mg→FnOk P w K mg base CX k fa fd [x] sp) (hbind:∀ (s:Shared) (u:Value),BindsTo s fd ⟨[u],[]⟩ [(x,u)])
  (hsp:∀ H:Hp,Only H→SqL K H a (ns.map V.int)→sp [.ref a] H (fun v _=>v=.bl true) fun _ _ _=>False)
  (hCX:∀ H e s',CX [] H s₁ (fun _ _ _=>False) e s'→False) :
  codeAny (model P w) callerA (.call (.ref fa) ⟨[.ref a],[]⟩) (fun r s'=>r=.ok (.ret (.bool true))∧OldK s₁.heap s'.heap∧s'.os=s₁.os∧AllBare s'.gens) s₁:=by
 have rv:=vals_ints hi
 have lenV:=hi.length
 have core:∀ H:Hp,Only H→SqL K H a (ns.map V.int)→HOk P w H s₁.heap→(∀ b,H b≠none→b=a)→(H a≠none→K.lookup a=none) →
   codeAny (model P w) callerA (.call (.ref fa) ⟨[.ref a],[]⟩) (fun r s'=>r=.ok (.ret (.bool true))∧OldK s₁.heap s'.heap∧s'.os=s₁.os∧AllBare s'.gens) s₁:=by
  intro H hO hS hok hA hK
  have base_of:∀ {b:Addr} {o:Obj},s₁.heap.get? b=some o→H b=none→(hidT s₁.heap H).get? b=some o:=fun e n=>hidT_get e n
  have noA:∀ {b:Addr} {o:Obj} {es:Array DictEntry} {ep:Nat},s₁.heap.get? b=some o→o.data=.dict es ep→H b=none:=fun {b o es ep} e d=>by
   cases q:H b with
   | none=>rfl
   | some u =>
    have e':b=a:=hA b (by rw [q]; simp)
    subst e'
    rw [ha] at e; cases e
    have d':Data.seq vs.toArray _=Data.dict es ep:=d
    cases d'
  have nsK:∀ {b:Addr} {m:Str→Option Value},s₁.heap.Ns b m→(hidT s₁.heap H).Ns b m:=fun {b m} ⟨o,es,ep,e,d,r⟩=>⟨o,es,ep,base_of e (noA e d),d,r⟩
  have hKb:K.In (hidT s₁.heap H):=fun b o e=>base_of (KX b o e) (by
   cases q:H b with
   | none=>rfl
   | some u =>
    have e':b=a:=hA b (by rw [q]; simp)
    subst e'
    rw [hK (by rw [q]; simp)] at e; cases e)
  have hM:Mod K mg (hidT s₁.heap H):=⟨hKb,nsK hns,⟨mb,nsK hb,hbb⟩,let ⟨mc,h1,h2⟩:=hlim; ⟨mc,nsK h1,h2⟩⟩
  have e0:Env0 P w K mg (hidT s₁.heap H) callerA [] s₁ H:=⟨rfl,hM,fun b o e=>of_hidT e,Nat.le_of_eq (hidT_size _ _),trivial,fun b hb=>absurd (show b∈([]:List Addr) from hb) (by simp),hok,.of_eq hg⟩
  refine codeAny_mono ((F _ hKb (nsK hns)).run callerA [] s₁ H ⟨[.ref a],[]⟩ [.ref a] [.ref a] _ _ hr e0 (hbind s₁ (.ref a)) (.cons rfl .nil) (hsp H hO hS)) fun r s' h=>?_
  cases r with
  | error e=>exact (hCX H e s' h).elim
  | ok fl =>
   cases fl with
   | next=>exact False.elim h
   | brk=>exact False.elim h
   | cont=>exact False.elim h
   | ret u =>
    obtain ⟨v,H',os,bare,un,hok',r',q⟩:=h
    have q':v=.bl true:=q
    subst q'
    obtain rfl:u=Value.bool true:=r'
    refine ⟨rfl,OldK.of_keep fun b o e=>?_,os,bare⟩
    cases q:H b with
    | none=>exact un.keep b o e q (by intro z; exact absurd (show b∈([]:List Addr) from z) (by simp)) (by simp)
    | some u =>
     rcases hO b with z | ⟨ob,xs,z⟩
     ·rw [q] at z; cases z
     ·have z2:=un.frzs b ob _ z
      obtain ⟨e1,_⟩:=hok b _ z
      obtain ⟨e2,_⟩:=hok' b _ z2
      rw [e] at e1; cases e1
      exact e2
 cases hk:K.lookup a with
 | some o =>
  have e:=KX a o hk
  rw [ha] at e
  cases e
  refine core (fun _=>none) (fun _=>.inl rfl) (.inr ⟨_,vs.toArray,_,hk,rfl,rfl,rfl,by rw [List.size_toArray,lenV]; exact hl,by simpa using rv⟩) (fun b u z=>by have z':(none:Option HO)=some u:=z; cases z') (fun b z=>absurd rfl z) fun z=>absurd rfl z
 | none =>
  refine core (fun b=>if b=a then some (.frz { cls:=.type "list",data:=.seq vs.toArray } (.lst (ns.map V.int))) else none) (fun b=>?_) (.inl (.inr ⟨{ cls:=.type "list",data:=.seq vs.toArray },if_pos rfl⟩)) (fun b u z=>?_) (fun b z=>?_) fun _=>hk
  ·by_cases hb:b=a
   ·exact .inr ⟨_,_,if_pos hb⟩
   ·exact .inl (if_neg hb)
  ·by_cases hb:b=a
   ·have z':=(if_pos hb).symm.trans z
    cases z'
    subst hb
    exact ⟨ha,by rw [List.length_map]; exact hl,vs,_,rv,ha⟩
   ·have z':=(if_neg hb).symm.trans z
    cases z'
  ·by_cases hb:b=a
   ·exact hb
   ·exact absurd (if_neg hb) z
end L2
namespace L2
open PySem PySem.Spec PyProof.Rows
theorem walk_of {l:PySem.W.OpenLaw} {n k:Nat} {q:Program} {loose:List Str} {XP:(Str→Option Value)→Heap→Prop} {YP:World→Heap→Prop} {d:DefRec} {K:Params→PySem.W.Frag} {CX:World→CXT} {sp:World→Sp} {x:Str}
  (hn:l.most=some n) (hn2:n≤sizeLine) (hdf:d.params.defaults=[]) (hr:Room k callerA)
  (hY:∀ (w:World) (h:Heap),YP w h→(K w.params).In h)
  (F:∀ (w:World) (mg:Str→Option Value) (fa:Addr) (h:Heap),(K w.params).In h→h.Ns mainGlobals mg→mg d.name=some (.ref fa) →
   ∃ fd:FuncData,(∀ (s:Shared) (u:Value),BindsTo s fd ⟨[u],[]⟩ [(x,u)]) ∧
    ∀ base:Heap,(K w.params).In base→base.Ns mainGlobals mg→FnOk l.prog w (K w.params) mg base (CX w) k fa fd [x] (sp w))
  (hsp:∀ (w:World) (H:Hp) (a:Addr) (ns:List Int),ns.length≤n→Only H→SqL (K w.params) H a (ns.map V.int)→sp w [.ref a] H (fun v _=>v=.bl true) fun _ _ _=>False)
  (hCX:∀ (w:World) (H:Hp) (s:Shared) (e:Value) (s':Shared),CX w [] H s (fun _ _ _=>False) e s'→False) :
  PySem.W.WalkO q loose XP YP l.row.toRowW d [] (fun f vs=>PySem.call f vs):=by
 refine Att.attach_call hn hdf fun w s₀ s₁ mg mb fa o pm cd doc a vs ns G Y ho hd hcd hmg hobj hints hlen hg=>?_
 have KX:=hY w _ Y
 obtain ⟨fd,hb,hF⟩:=F w mg fa _ KX G.T.g hmg
 exact law_call KX G.T.g G.T.b G.T.builtins G.T.nolimit hg hobj hints (Nat.le_trans hlen hn2) hr hF hb (fun H hO hS=>hsp w H a ns hlen hO hS) fun H e s'=>hCX w H s₁ e s'
end L2
namespace L2
open PySem PySem.Spec PyProof.Rows
def inClass (s:Stmt) (j:Nat):Stmt:=match s with
 | .ClassDef _ _ _ body _ _ _ _ _ _ _=>body.getD j (.Pass ⟨0,0,0,0⟩)
 | _=>.Pass ⟨0,0,0,0⟩
def defArgs (s:Stmt):Arguments:=match s with
 | .FunctionDef _ a _ _ _ _ _ _ _ _=>a
 | _=>{ posonlyargs:=[],args:=[],vararg:=none,kwonlyargs:=[],kw_defaults:=[],kwarg:=none,defaults:=[] }
def defBody (s:Stmt):List Stmt:=match s with
 | .FunctionDef _ _ b _ _ _ _ _ _ _=>b
 | _=>[]
def defScope (s:Stmt):Scope:=match s with
 | .FunctionDef _ _ _ _ _ _ sc _ _ _=>sc
 | _=>{ kind:=.function,names:=[],isGenerator:=false,isCoroutine:=false }
abbrev CX0:CXT:=fun _ _ _ _ _ _=>False
abbrev E0:XK:=fun _ _ _=>False
theorem pass0 {X:Cx}:Passes CX0 X E0:=fun _ _ _ _ _ _ _ h=>h.elim
structure Fun (K:PySem.W.Frag) (x qual:Str) (st:Stmt) (f:Addr) (fd:FuncData):Prop where
 ex:∃ (oc:Value) (od:Option Addr) (kV doc pm:Value) (an:Option Addr) (cdv ct:Value) (osl:Array (Option Value)),
  fd=PySem.W.fnOf x qual (defArgs st) (defBody st) (defScope st) .none kV doc pm an cdv ct∧K.lookup f=some ⟨oc,od,.func fd,osl⟩∧PySem.W.codeIn K cdv qual=true
 kp:PySem.W.keepIn K (.ref f)=true
section
variable {P:Program} {w:World} {K:PySem.W.Frag} {mg:Str→Option Value} {base:Heap}
theorem Fun.ok {x qual:Str} {st:Stmt} {f:Addr} {fd:FuncData} {N ps:List Str} {k:Nat} {sp:Sp} (F:Fun K x qual st f fd) (S:FnScope N ps (defScope st)) (len:∀ vs H Q E,sp vs H Q E→vs.length=ps.length)
  (hbody:∀ (cdv:Value) (A:Around) (outer:List Env) (s:Shared) (H:Hp) (vs:List V) (Q:VK) (E:XK),Room k (A.deeper (envOfC qual (defScope st) s.heap.objs.size f cdv))→sp vs H Q E →
   ∃ t,PSs (cxOf CX0 P w K mg base N qual (defScope st) f cdv A outer s H E).nox (defBody st) t∧t { nx:=fun _ H'=>Q .non H',rt:=Q } (start N vs) H):FnOk P w K mg base CX0 (k+1) f fd ps sp:=by
 obtain ⟨oc,od,kV,doc,pm,an,cdv,ct,osl,rfl,lk,hcd⟩:=F.ex
 refine fn_of lk hcd S len fun A outer s H vs Q E hr hsp=>?_
 obtain ⟨t,h,q⟩:=hbody cdv A outer s H vs Q E hr hsp
 exact ⟨t,h.nox,q⟩
theorem Fun.binds {x qual:Str} {st:Stmt} {f:Addr} {fd:FuncData} {ps:List Str} (F:Fun K x qual st f fd)
  (h:∀ (kV doc pm:Value) (an:Option Addr) (cdv ct:Value) (us:List Value),us.length=ps.length→bindArgs (PySem.W.fnOf x qual (defArgs st) (defBody st) (defScope st) .none kV doc pm an cdv ct) ⟨us,[]⟩=pure (ps.zip us)):Binds K fd ps []:=by
 obtain ⟨oc,od,kV,doc,pm,an,cdv,ct,osl,rfl,lk,hcd⟩:=F.ex
 exact .all (h kV doc pm an cdv ct)
theorem fun_mk {x qual:Str} {st:Stmt} {f:Addr} {oc:Value} {od an:Option Addr} {osl:Array (Option Value)} {kV doc pm cdv ct:Value} (l:K.lookup f=some ⟨oc,od,.func (PySem.W.fnOf x qual (defArgs st) (defBody st) (defScope st) .none kV doc pm an cdv ct),osl⟩)
  (c:PySem.W.codeIn K cdv qual=true) (k:PySem.W.keepIn K (.ref f)=true):Fun K x qual st f (PySem.W.fnOf x qual (defArgs st) (defBody st) (defScope st) .none kV doc pm an cdv ct):=⟨⟨oc,od,kV,doc,pm,an,cdv,ct,osl,rfl,l,c⟩,k⟩
end
theorem hu_of {A:Around} {k:Nat} (hr:Room k A):A.units+1 < cLine:=Nat.lt_of_le_of_lt (Nat.add_le_add_left (by decide:1≤64) _) hr.units
theorem small1000 {n:Nat} (h:n≤1000):n < sizeLine:=Nat.lt_of_le_of_lt h (by decide)
section
variable {X:Cx}
end
theorem iteF {A B:Prop} (h:B):if false=true then A else B:=by
 rw [if_neg Bool.false_ne_true]
 exact h
theorem iteT {A B:Prop} (h:A):if true=true then A else B:=by
 rw [if_pos rfl]
 exact h
theorem ite2 {c A B:Prop} [Decidable c] (h1:c→A) (h2:¬ c→B):if c then A else B:=by
 by_cases h:c
 ·rw [if_pos h]
  exact h1 h
 ·rw [if_neg h]
  exact h2 h
theorem iteNS {c A B:Prop} [Decidable c] (hc:c) (h:B):if (!decide c)=true then A else B:=by
 rw [decide_eq_true hc]
 exact iteF h
def Same (H H':Hp):Prop:=∀ b o,H b=some o→H' b=some o
theorem Same.trans {H H1 H2:Hp} (a:Same H H1) (b:Same H1 H2):Same H H2:=fun c o h=>b c o (a c o h)
end L2
end
section
namespace L2
open PySem PySem.Spec PyProof.Rows
def ltV:V→V→Bool
 | .int a,.int b=>decide (a < b)
 | .str a,.str b=>decide (a.cps.toList < b.cps.toList)
 | _,_=>false
def fitV:V→V→Prop
 | .int _,.int _=>True
 | .str _,.str _=>True
 | _,_=>False
def lexV:List V→List V→Bool
 | [],[]=>false
 | [],_ :: _=>true
 | _ :: _,[]=>false
 | x :: xs,y :: ys=>if x=y then lexV xs ys else ltV x y
theorem lexV_cons (x y:V) (xs ys:List V):lexV (x :: xs) (y :: ys)=if x=y then lexV xs ys else ltV x y:=rfl
def fitL:List V→List V→Prop
 | x :: xs,y :: ys=>fitV x y∧fitL xs ys
 | _,_=>True
theorem str_beq_iff (a c:Str):((a == c)=true) ↔ a=c:=by simp
theorem eqAt_fit {a c:V} {v u:Value} (A:Around) (s:Shared) (h:fitV a c) (ra:RelV a v) (rc:RelV c u):∃ e,SeqAt.EqAt A s v u e∧(e=true ↔ a=c):=by
 cases a with
 | int i =>
  cases c with
  | int j =>
   obtain ⟨t,rfl⟩:=ra
   obtain ⟨t',rfl⟩:=rc
   exact ⟨_,SeqAt.EqAt.int_int i t j t',by simp⟩
  | _=>exact h.elim
 | str i =>
  cases c with
  | str j =>
   obtain ⟨t,rfl⟩:=ra
   obtain ⟨t',rfl⟩:=rc
   exact ⟨_,SeqAt.EqAt.str_str i t j t',by simp⟩
  | _=>exact h.elim
 | _=>exact h.elim
theorem rcLt_fit {a c:V} {v u:Value} (A:Around) (s:Shared) (h:fitV a c) (ra:RelV a v) (rc:RelV c u) (prog:Program) (w:World) {E:Value→Shared→Prop} {Q:Value→Shared→Prop} (q:Q (.bool (ltV a c)) s) :
  wpAny (model prog w) A (richCompare .Lt v u) Q E s:=by
 cases a with
 | int i =>
  cases c with
  | int j =>
   obtain ⟨t,rfl⟩:=ra
   obtain ⟨t',rfl⟩:=rc
   exact (PyProof.Rows.lt_int q:wpAny (model prog w) A (compareOp .Lt (.int i t) (.int j t')) Q E s)
  | _=>exact h.elim
 | str i =>
  cases c with
  | str j =>
   obtain ⟨t,rfl⟩:=ra
   obtain ⟨t',rfl⟩:=rc
   exact (PySem.P.lt_str q:wpAny (model prog w) A (compareOp .Lt (.str i t) (.str j t')) Q E s)
  | _=>exact h.elim
 | _=>exact h.elim
section
open PySem.SeqAt
open PySem.AutoSeq1 (wpAny_loadPart')
open PySem.MeetsSeq PySem.MeetsSeq2 PySem.MeetsSeq3
theorem tuple_lt_V (l b:Addr) (items items2:Array Value) (n n2:Nat) (dd dd2:Option Addr) (sl sl2:Array (Option Value)) (xs ys:List V) (hi:Vals xs items.toList) (hj:Vals ys items2.toList) (hf:fitL xs ys) :
  Meets (Builtin.«tuple.__lt__» ⟨[.ref l,.ref b],[]⟩)
   (fun _ R s=>s.heap.get? l=some { cls:=.type "tuple",dict:=dd,data:=.seq items n,slots:=sl }∧s.heap.get? b=some { cls:=.type "tuple",dict:=dd2,data:=.seq items2 n2,slots:=sl2 } ∧
    R (.ok (.ret (.bool (lexV xs ys)))) s) :=
 .of_wp fun prog w A R s h=>by
  obtain ⟨hp,g,d,tk,os⟩:=s; obtain ⟨hl,hb,h⟩:=h
  have f2:=AutoSeq1.sub_tuple_tuple
  have z1:items.size=xs.length:=by rw [hi.length]; simp
  have z2:items2.size=ys.length:=by rw [hj.length]; simp
  wp_walk using wpAny_loadPart' hl,wpAny_loadPart' hb,wpAny_forIn_list _ (fun rest b s'=>b.1=none∧s'=⟨hp,g,d,tk,os⟩∧∃ (vs ws:List Value) (xs' ys':List V),rest=vs.zip ws ∧
   Vals xs' vs∧Vals ys' ws∧fitL xs' ys'∧xs'.length+items2.size=ys'.length+items.size∧R (.ok (.ret (.bool (lexV xs' ys')))) ⟨hp,g,d,tk,os⟩) _
  case turn =>
   rintro ⟨y,x⟩ rest b s' ⟨hb',rfl,vs,ws,xs',ys',hz,hvi,hwi,hft,hlen,hR⟩
   cases hvi with
   | nil=>rw [List.zip_nil_left] at hz; cases hz
   | @cons a v as vs' ra hvi' =>
    cases hwi with
    | nil=>rw [List.zip_nil_right] at hz; cases hz
    | @cons c u cs ws' rc hwi' =>
     rw [List.zip_cons_cons] at hz
     injection hz with hyx hrest
     injection hyx with hy hx
     subst hy hx
     simp only [List.length_cons] at hlen
     obtain ⟨fac,fit'⟩:fitV a c∧fitL as cs:=hft
     obtain ⟨e,he,hiff⟩:=eqAt_fit A.in1 ⟨hp,g,d,tk,os⟩ fac ra rc
     refine wpAny_bind (he prog w _ _ ?_)
     cases e with
     | true =>
      have hac:=hiff.mp rfl
      have hR2:R (.ok (.ret (.bool (lexV as cs)))) ⟨hp,g,d,tk,os⟩:=by
       subst hac
       rw [lexV_cons,if_pos rfl] at hR; exact hR
      wp_walk
      exact ⟨rfl,rfl,_,_,_,_,hrest,hvi',hwi',fit',by lia,hR2⟩
     | false =>
      have hac:¬ a=c:=fun q=>absurd (hiff.mpr q) Bool.false_ne_true
      have hR2:R (.ok (.ret (.bool (ltV a c)))) ⟨hp,g,d,tk,os⟩:=by
       rw [lexV_cons,if_neg (by intro q; exact hac q)] at hR; exact hR
      have hri:=fun E Q h=>rcLt_fit (E:=E) (Q:=Q) A.in1 ⟨hp,g,d,tk,os⟩ fac ra rc prog w h
      wp_walk using hri
      exact ⟨_,rfl,by simpa using hR2⟩
  case fin =>
   rintro ⟨b1,b2⟩ s' ⟨hb',rfl,vs,ws,xs',ys',hz,hvi,hwi,hft,hlen,hR⟩
   simp only at hb'
   subst hb'
   have hv:lexV xs' ys'=decide (items.size < items2.size):=by
    cases hvi with
    | nil =>
     cases hwi with
     | nil =>
      simp only [List.length_nil] at hlen
      rw [show lexV [] []=false from rfl]
      exact (decide_eq_false (by lia)).symm
     | cons ru hw =>
      simp only [List.length_nil,List.length_cons] at hlen
      exact (decide_eq_true (by lia)).symm
    | cons ra hv =>
     cases hwi with
     | nil =>
      simp only [List.length_nil,List.length_cons] at hlen
      exact (decide_eq_false (by lia)).symm
     | cons ru hw =>
      rw [List.zip_cons_cons] at hz
      cases hz
   rw [hv] at hR
   wp_walk
   exact ⟨_,rfl,by simpa [Builtin.Tuple.tupleCompareSizes] using hR⟩
  case h =>
   exact ⟨rfl,rfl,items.toList,items2.toList,xs,ys,rfl,hi,hj,hf,by lia,h⟩
end
def rLtV (K:PySem.W.Frag):R2:=fun x y H Q=>∃ a b xs ys,x=.ref a∧y=.ref b∧SqT K H a xs∧SqT K H b ys∧fitL xs ys∧Q (.bl (lexV xs ys)) H
theorem op_ltV {X:Cx} (hu:X.A.units < cLine):OpR X (compareOp .Lt) (rLtV X.K):=by
 intro pins s σ H x y v u Q I rx ry h
 obtain ⟨a,b,xs,ys,rfl,rfl,ha,hb,hf,q⟩:=h
 cases rx
 cases ry
 obtain ⟨its,r1,p1,_⟩:=I.tuple ha
 obtain ⟨its2,r2,p2,_⟩:=I.tuple hb
 obtain ⟨⟨cls,dd,data,sl⟩,ho,hc,n,hd⟩:=id p1
 obtain ⟨⟨cls2,dd2,data2,sl2⟩,ho2,hc2,n2,hd2⟩:=id p2
 simp only at hc hd hc2 hd2
 subst hc hd hc2 hd2
 exact richCompare_meets_room (op:=.Lt) ⟨_,ho,rfl⟩ ⟨_,ho2,rfl⟩ PySem.F.slot_tuple_lt PySem.F.entry_tuple_lt (PySem.F.args_tuple_lt_2 _ _) (tuple_lt_V a b _ _ n n2 dd dd2 sl sl2 xs ys r1 r2 hf)
  ⟨ho,ho2,show Value.bool (lexV xs ys)≠Value.notImplemented∧EP X pins σ Q (.bool (lexV xs ys)) s from ⟨(fun x=>nomatch x),.bl _,H,I,rfl,q⟩⟩ hu
end L2
end
section
namespace L2
open PySem PySem.Spec PyProof.Rows
def intOrd:KeyOrd where
 α:=Int
 blt a b:=decide (a < b)
 irrefl a:=by simp
 trans a b c h1 h2:=by simp only [decide_eq_true_eq] at *; lia
 negTrans a b c h:=by simp only [decide_eq_true_eq] at *; lia
 total a b h1 h2:=by simp only [decide_eq_false_iff_not] at *; lia
def isEn (l:List V):Prop:=∃ i x j,l=[.int i,.str x,.int j]
theorem str_ext {a b:Str} (h:a.cps.toList=b.cps.toList):a=b:=by
 cases a with | mk c=>cases b with | mk d=>congr 1; exact Array.toList_inj.mp h
theorem fit_en {a b:List V} (ha:isEn a) (hb:isEn b):fitL a b:=by
 obtain ⟨i,x,j,rfl⟩:=ha
 obtain ⟨i',x',j',rfl⟩:=hb
 exact ⟨trivial,trivial,trivial,trivial⟩
section
variable {X:Cx}
theorem vals3 {x y z:V} {us:List Value} (r:Vals [x,y,z] us):∃ u v w,us=[u,v,w]∧RelV x u∧RelV y v∧RelV z w:=by
 cases r with
 | cons r1 r2 =>
  cases r2 with
  | cons r3 r4 =>
   cases r4 with
   | cons r5 r6=>cases r6; exact ⟨_,_,_,rfl,r1,r3,r5⟩
end
end L2
end
section
namespace L2
open PySem PySem.Spec PyProof.Rows
def Cx.blk (X:Cx) (scope:Scope) (cl:List (Str × Addr)) (C:Addr) (NB:List Str) (fp:List Addr) (s₀:Shared) (H₀:Hp):Cx :=
 { X with N:=NB,s₀:=s₀,H₀:=H₀,env:=compEnvC scope cl C X.env,outer:=X.stack,ex:=X.ex++fp,fn:=fun _=>false,pn:=[],xe:=fun _ _=>False }
structure Blk (X:Cx) (scope:Scope) (cl:List (Str × Addr)) (x:Str) (NB:List Str) (cap:List Nat):Prop where
 clos:closureFor scope X.env=pure cl
 nocell:∀ y∈scope.names,y.2≠.cell
 kind:scope.kind=.function
 names:∀ y∈scope.names,y.2=.local→scope.names.lookup y.1=some .local
 cells:∀ y c,cl.lookup y=some c→X.env.cells.lookup y=some c
 has:∀ y,((relabel scope X.env).names.lookup y=some .cell∨(relabel scope X.env).names.lookup y=some .free)→∃ c,cl.lookup y=some c
 len:cap.length=NB.length
 /-- the slot j+1 of the block is the slot i of X,by a cell -/
 cap:∀ (j i:Nat),cap[j]?=some i→∃ y,NB[j]?=some y∧X.N[i]?=some y∧Vis X.env.scope y∧(X.env.kindOf y=some .cell∨X.env.kindOf y=some .free)∧((relabel scope X.env).names.lookup y=some .cell∨(relabel scope X.env).names.lookup y=some .free)
 own:scope.names.lookup x=some .local
 nd:(x :: NB).Nodup
def capσ (cap:List Nat) (σ:St):St:=cap.map fun i=>σ[i]?.join
def tComp (wi:TI) (tt:TT) (te:TE) (cap:List Nat):TE:=fun σ H Q=>wi σ H fun J H1=>∀ D,H1 D=none →
 ∃ W:Nat→Nat→List V→Hp→Prop,(∃ m,W 0 m [] (upd H1 D (.lst [])))∧∀ i m ys H,W i m ys H→H D=some (.lst ys) ∧
  ((J.stop i H∧Q (.ref D) H)∨(J.go i H∧∀ x H',J.yld i H x H'→tt (some x :: capσ cap σ) H' fun b H3 =>
   if b=true then te (some x :: capσ cap σ) H3 fun v H4=>H4 D=some (.lst ys)∧ys.length < sizeLine∧∃ m',m' < m∧W (i+1) m' (ys++[v]) (upd H4 D (.lst (ys++[v])))
   else ∃ m',m' < m∧W (i+1) m' ys H3))
def PTs (X:Cx) (ifs:List Expr) (t:TT):Prop :=
 ∀ (pins:List (Addr × Obj)) (s:Shared) (σ:St) (H:Hp) (Q:Bool→Hp→Prop),Inv X pins σ H s→t σ H Q →
  wpAny (model X.prog X.w) X.A (forIn ifs true fun c r=>if r=true then do let ok ← isTrue c X.env (eval c X.env); pure (ForInStep.yield ok) else pure (ForInStep.yield r)) (TP X pins σ Q) X.xe s
def tYes:TT:=fun _ H Q=>Q true H
theorem pts_nil {X:Cx}:PTs X [] tYes:=fun pins s σ H Q I h=>wpAny_tests_nil ⟨H,I,h⟩
theorem pts_one {X:Cx} {c:Expr} {t:TT} (h:PT X c t):PTs X [c] t:=fun pins s σ H Q I hq=>wpAny_tests_one (h pins s σ H Q I hq)
theorem compLoop_own {prog:Program} {w:World} {A:Around} {R:Result→Shared→Prop} {s:Shared} {elt target iter:Expr} {ifs:List Expr} {scope:Scope} {pos:Pos} {it acc:Value} {env:Env} (I:Nat→Shared→Prop)
  (turn:∀ n s,I n s→wpAny (model prog w) A (pyNext it) (fun r s₁=>match r with
   | none=>R (.ok .next) s₁
   | some v=>wpAny (model prog w) A (letOwnedTupleGo target it v) (fun _ s₁'=>wpAny (model prog w) A (assign target env v) (fun _ s₂ =>
     wpAny (model prog w) A (forIn ifs true fun c r=>if r=true then do let ok ← isTrue c env (eval c env); pure (ForInStep.yield ok) else pure (ForInStep.yield r)) (fun ok s₃ =>
      if ok=true then wpAny (model prog w) A (eval elt env) (fun x s₄ =>
       wpAny (model prog w) A (call (.builtin "list.append") [acc,x]) (fun _ s₅=>∃ m,m < n∧I m s₅) (fun _ _=>False) s₄) (fun _ _=>False) s₃
      else ∃ m,m < n∧I m s₃) (fun _ _=>False) s₂) (fun _ _=>False) s₁') (fun _ _=>False) s₁) (fun _ _=>False) s)
  (n:Nat) (h:I n s):codeAny (model prog w) A (.compLoop (.ListComp elt [⟨target,iter,ifs,0⟩] scope pos) 0 it acc env) R s:=by
 refine codeAny_loop rfl I (fun n s hI=>?_) n h
 show wpAny _ A ((compTurn (.ListComp elt [⟨target,iter,ifs,0⟩] scope pos) 0 it acc env).onRaise (fun x=>do noteFrame x env; theTreesLotGoes x)) _ _ s
 refine wpAny_noted ?_
 rw [compTurn_list]
 refine wpAny_bind (wpAny_standAt (wpAny_bind (wpAny_mono (turn n s hI) (fun r s₁ h₁=>?_) fun _ _ z=>z.elim)))
 cases r with
 | none=>exact wpAny_pure h₁
 | some v =>
  refine wpAny_bind (wpAny_mono h₁ (fun _ s₁' h₁'=>?_) fun _ _ z=>z.elim)
  refine wpAny_bind (wpAny_mono h₁' (fun _ s₂ h₂=>wpAny_bind (wpAny_mono h₂ (fun ok s₃ h₃=>?_) fun _ _ z=>z.elim)) fun _ _ z=>z.elim)
  cases ok with
  | false=>exact wpAny_pure ⟨rfl,h₃⟩
  | true =>
   exact wpAny_bind (wpAny_bind (wpAny_mono h₃ (fun x s₄ h₄=>wpAny_bind (wpAny_mono h₄ (fun _ s₅ h₅=>wpAny_pure (wpAny_pure ⟨rfl,h₅⟩)) fun _ _ z=>z.elim)) fun _ _ z=>z.elim))
structure Gone (X:Cx) (pins:List (Addr × Obj)) (H:Hp) (C:Addr) (s:Shared):Prop where
 ns:∃ m,s.heap.Ns C m
 fp:FpOk X pins H C
theorem comp_core {X:Cx} {elt iter:Expr} {x:Str} {px pos pos':Pos} {ifs:List Expr} {scope:Scope} {cl:List (Str × Addr)} {NB:List Str} {cap:List Nat} {wi:TI} {tt:TT} {te:TE}
  {pins:List (Addr × Obj)} {s:Shared} {σ:St} {H:Hp} {Q:VK} {use:Option (Value→Sem Unit)} {R:Value→Shared→Prop}
  (B:Blk X scope cl x NB cap) (hc:X.calm=true) (hex:X.ex=[]) (hi:PI X (.Name x px) iter wi)
  (ht:∀ C fp s₀ H₀,PTs (X.blk scope cl C (x :: NB) fp s₀ H₀) ifs tt) (he:∀ C fp s₀ H₀,PE (X.blk scope cl C (x :: NB) fp s₀ H₀) elt te)
  (hs:∀ v,foldedSetIterable iter X.env v=pure v) (I:Inv X pins σ H s) (h:tComp wi tt te cap σ H Q)
  (fin:∀ (D C:Addr) (H':Hp) (s':Shared),Inv X pins σ H' s'→Gone X pins H' C s'→Q (.ref D) H'→compPost (model X.prog X.w) X.A X.xe use R (.ref D) C (.ok .next) s') :
  wpAny (model X.prog X.w) X.A (comprehension (.ListComp elt [⟨.Name x px,iter,ifs,0⟩] scope pos) scope X.env pos' (newList []) false (eval iter X.env) use) R X.xe s:=by
 refine wpAny_comprehension_free (use:=use) rfl hs B.clos B.kind B.names (thn (hi pins s σ H _ I h) fun v s1 h1=>thn h1 fun itv s2 h2=>?_)
 obtain ⟨it,fp,tn,J,H2,e,I2,T,st2,f2,h2⟩:=h2
 subst e
 refine wpAny_newObj_type (wpAny_newFunctionEnv B.nocell (by intro y hy; simp at hy) (fun h₁ hns₁ hsb₁=>?_) B.kind)
 dsimp only at hns₁ hsb₁ ⊢
 have I3:=I2.lnew (ys:=[]) (its:=[]) (t':=s2.toks) .nil (Nat.zero_le _)
 have hD:=I2.fresh
 obtain ⟨W,⟨m0,w0⟩,turn⟩:=h2 _ hD
 generalize eD:s2.heap.objs.size=D at hD I3 W w0 turn ⊢
 generalize eH2:s2.heap.push { cls:=.type "list",dict:=none,data:=.seq ([]:List Value).toArray }=G3 at hns₁ hsb₁ I3 ⊢
 generalize eH3:upd H2 D (.lst [])=H3 at I3 w0
 have hC:G3.objs.size=D+1:=by rw [← eH2,Heap.size_push,eD]
 generalize eC:G3.objs.size=C at hns₁ hsb₁ hC ⊢
 have old:∀ b o,G3.get? b=some o→h₁.get? b=some o:=fun b o e =>
  hsb₁.extBut b o (by rw [← eC]; exact Nat.ne_of_lt (Heap.lt_size e)) (Heap.get?_push_of_some _ e)
 have old2:∀ b o,s2.heap.get? b=some o→G3.get? b=some o:=fun b o e=>by rw [← eH2]; exact Heap.get?_push_of_some _ e
 have fpo:∀ b∈fp,b < D:=fun b hb=>by
  obtain ⟨o,e,_⟩:=T.obj 0 _ st2 b hb
  rw [← eD]; exact Heap.lt_size e
 have fpx:∀ b∈fp,b ∉ frs X.stack:=fun b hb z=>by
  obtain ⟨f0,f1,f2',_⟩:=f2 b hb
  rcases List.mem_cons.mp (I2.stkSub b z) with q | q
  ·exact f1 q
  ·exact f2' q
 let Y:Cx:=X.blk scope cl C (x :: NB) fp { s2 with heap:=G3,toks:=s2.toks } H3
 have okY:Y.Ok:=by
  refine ⟨I3.ok.mod,B.kind,I3.ok.glob,I3.ok.blt,?_,?_,B.has,?_,I3.ok.hd,I3.ok.frames,.inl rfl,?_,I3.bs,?_,?_,?_,I3.stack,I3.stkFree⟩
  ·show G3.objs.size≤C
   lia
  ·intro y z c e1 e2
   exact I3.ok.inj y z c (B.cells y c e1) (B.cells z c e2)
  ·intro y c z
   cases z
  ·intro b hb
   have hb':b∈fp:=by
    have:b∈X.ex++fp:=hb
    rw [hex] at this; simpa using this
   refine ⟨?_,fun y c e=>(f2 b hb').2.2.2.2.1 y c (B.cells y c e)⟩
   show b≠C
   exact Nat.ne_of_lt (Nat.lt_of_lt_of_le (fpo b hb') (by rw [hC]; exact Nat.le_succ _))
  ·show X.base.objs.size≤G3.objs.size
   exact Nat.le_trans I3.ok.bsz I3.sz
  ·intro b o e hb
   have hb':b∈fp:=by
    have:b∈X.ex++fp:=hb
    rw [hex] at this; simpa using this
   rcases (f2 b hb').2.2.2.1 with z | z
   ·rw [hex] at z; cases z
   ·exact absurd (Nat.lt_of_lt_of_le (Nat.lt_of_lt_of_le (Heap.lt_size e) I3.ok.bsz) z) (Nat.lt_irrefl _)
  ·intro b hb
   have hb':b∈fp:=by
    have:b∈X.ex++fp:=hb
    rw [hex] at this; simpa using this
   exact fpx b hb'
 have IY:Inv Y [] (none :: capσ cap σ) H3 { s2 with heap:=h₁,toks:=s2.toks }:=by
  refine ⟨okY,rfl,I3.bare,Un.kept old,⟨_,hns₁,?_⟩,?_,?_,?_,?_,I3.hok.kept old,?_⟩
  ·intro j y v e1 e2 hv
   cases j with
   | zero=>cases e2
   | succ j =>
    have e1':NB[j]?=some y:=e1
    have e2':(capσ cap σ)[j]?=some (some v):=e2
    unfold capσ at e2'
    rw [List.getElem?_map] at e2'
    cases ec:cap[j]? with
    | none=>rw [ec] at e2'; cases e2'
    | some i =>
     rw [ec] at e2'
     have e3:σ[i]?.join=some v:=Option.some.inj e2'
     have e4:σ[i]?=some (some v):=by
      cases q:σ[i]? with
      | none=>rw [q] at e3; cases e3
      | some z=>rw [q] at e3; exact congrArg some e3
     obtain ⟨y',n1,n2,n3,n4,n5⟩:=B.cap j i ec
     rw [e1'] at n1
     cases n1
     obtain ⟨m,hn,hl⟩:=I3.loc
     obtain ⟨u,r,lk⟩:=hl i y v n2 e4 n3
     refine ⟨u,r,.inr ⟨n5,?_⟩⟩
     obtain ⟨c,hcl⟩:=B.has y n5
     refine ⟨c,hcl,?_⟩
     rcases lk with ⟨k1,_⟩ | ⟨_,c',ec',cell⟩
     ·rcases n4 with n4 | n4 <;> (rw [n4] at k1; cases k1)
     ·rw [B.cells y c hcl] at ec'
      cases ec'
      obtain ⟨o,ho,hd⟩:=cell
      exact ⟨o,old c o ho,hd⟩
  ·intro y c e
   obtain ⟨v,o,ho,hd⟩:=I3.cell y c (B.cells y c e)
   exact ⟨v,o,old c o ho,hd⟩
  ·exact I3.hok.fresh (show G3.objs.size≤C by lia)
  ·intro y c e
   exact I3.freeC y c (B.cells y c e)
  ·intro p hp
   cases hp
  ·show (none :: capσ cap σ).length=(x :: NB).length
   rw [List.length_cons,List.length_cons,← B.len]
   unfold capσ
   rw [List.length_map]
 have fpY:∀ {H':Hp},(∀ b∈fp,H' b=none)→∀ b∈fp,FpOk Y [] H' b:=fun {H'} hn b hb=>by
  refine ⟨hn b hb,?_,fpx b hb,.inl ?_,fun y c e=>(f2 b hb).2.2.2.2.1 y c (B.cells y c e),fun p hp=>by cases hp⟩
  ·show b≠C
   exact Nat.ne_of_lt (Nat.lt_of_lt_of_le (fpo b hb) (by rw [hC]; exact Nat.le_succ _))
  ·show b∈X.ex++fp
   exact List.mem_append_right _ hb
 have st4:tn 0 h₁:=T.keep _ _ _ st2 fun b hb o e=>old b o (old2 b o e)
 have fr4:∀ b∈fp,H3 b=none:=fun b hb=>by
  rw [← eH3,upd_ne (Nat.ne_of_lt (fpo b hb))]; exact (f2 b hb).1
 have leave:∀ (H':Hp) (s':Shared),Inv Y [] (none :: capσ cap σ) H' s'→Q (.ref D) H'→compPost (model X.prog X.w) X.A X.xe use R (.ref D) C (.ok .next) s':=by
  intro H' s' I' q
  obtain ⟨m,hn,_⟩:=id I'.loc
  have u:=I'.base
  have I5:Inv X pins σ H' s':=by
   refine I3.call' (s':=s') (ch:=X.ex++fp) I'.os u I'.hok I'.bare fun b hb=>?_
   have hb':b∈fp:=by rw [hex] at hb; simpa using hb
   obtain ⟨f0,f1,f2',f3,f4,f5⟩:=f2 b hb'
   exact ⟨f3,f1,f4,f5⟩
  exact fin D C H' s' I5 ⟨⟨m,hn⟩,I3.fpOk (show G3.objs.size≤C by rw [eC]; exact Nat.le_refl _) I'.free⟩ q
 have loop:∀ s₄:Shared,s₄={ s2 with heap:=h₁,toks:=s2.toks } →
   codeAny (model X.prog X.w) X.A (.compLoop (.ListComp elt [⟨.Name x px,iter,ifs,0⟩] scope pos) 0 (.ref it) (.ref D) (compEnvC scope cl C X.env)) (compPost (model X.prog X.w) X.A X.xe use R (.ref D) C) s₄:=by
  rintro s₄ rfl
  refine compLoop_own (fun n s'=>∃ i ys H',Inv Y [] (none :: capσ cap σ) H' s'∧tn i s'.heap∧(∀ b∈fp,H' b=none)∧W i n ys H') ?_ m0 ⟨0,[],H3,IY,st4,fr4,w0⟩
  rintro n s3 ⟨i,ys,H',I',st',fr',w'⟩
  obtain ⟨hDl,tr⟩:=turn i n ys H' w'
  rcases tr with ⟨stop,q⟩ | ⟨go,step⟩
  ·refine thn (T.done Y rfl rfl rfl hc i [] s3 _ H' (fun _ _=>False) I' (fpY fr') st' stop) fun r s4 ⟨hr,I4⟩=>?_
   subst hr
   exact leave H' s4 I4 q
  ·refine thn (T.item Y rfl rfl rfl hc i [] s3 _ H' (fun _ _=>False) I' (fpY fr') st' go) fun r s4 ⟨u,hr,h4⟩=>?_
   subst hr
   refine thn h4 fun _ s5 ⟨v,H5,I5,r5,y5,st5,fr5⟩=>?_
   have I5':=I5.pinned (fpY fr5) (T.obj _ _ st5)
   have back:∀ {σ7:St} {H7:Hp} {s7:Shared},Inv Y ([]++pinsAt fp s5.heap) (some v :: capσ cap σ) H7 s7→Inv Y [] (none :: capσ cap σ) H7 s7∧tn (i+1) s7.heap∧∀ b∈fp,H7 b=none:=fun {σ7 H7 s7} I7=>by
    refine ⟨I7.unpinned.weak (by simp) fun j z e=>?_,T.keep _ _ _ st5 fun b hb o e=>(I7.pin (b,o) (List.mem_append_right _ (List.mem_append_right _ (mem_pinsAt hb e)))).1,fun b hb=>?_⟩
    ·cases j with
     | zero=>cases e
     | succ j=>exact e
    ·obtain ⟨o,e,d⟩:=T.obj _ _ st5 b hb
     exact (I7.pin (b,o) (List.mem_append_right _ (List.mem_append_right _ (mem_pinsAt hb e)))).2.1
   have hgN:PG Y (.Name x px) (gName 0):=pg_name (i:=0) B.nd rfl (.inl (lookup_relabel_local B.own)) (.inr (lookup_relabel_local B.own))
   refine thn (hgN _ s5 _ H5 v u (fun σ6 H6=>σ6=some v :: capσ cap σ∧H6=H5) I5' r5 ⟨rfl,rfl⟩) fun _ s6 ⟨σ6,H6,I6,e6,e6'⟩=>?_
   subst e6 e6'
   refine thn (ht C fp _ _ _ s6 _ H6 _ I6 (step v H6 y5)) fun ok s7 ⟨H7,I7,q7⟩=>?_
   cases ok with
   | false =>
    simp only [Bool.false_eq_true,if_false] at q7 ⊢
    obtain ⟨m',hm,w7⟩:=q7
    obtain ⟨a,b,c⟩:=back (σ7:=[]) I7
    exact ⟨m',hm,i+1,ys,H7,a,b,c,w7⟩
   | true =>
    simp only [if_true] at q7 ⊢
    refine thn (he C fp _ _ _ s7 _ H7 _ I7 q7) fun u8 s8 ⟨v8,H8,I8,r8,q8⟩=>?_
    obtain ⟨d8,l8,m',hm,w8⟩:=q8
    refine thn (mt_append (X:=Y) _ s8 _ H8 (.ref D) [v8] (.ref D) [u8] (fun _ H9=>H9=upd H8 D (.lst (ys++[v8]))) I8 rfl (.cons r8 .nil) ⟨D,ys,v8,rfl,rfl,d8,l8,rfl⟩) fun _ s9 ⟨_,H9,I9,_,e9⟩=>?_
    subst e9
    obtain ⟨a,b,c⟩:=back (σ7:=[]) I9
    exact ⟨m',hm,i+1,ys++[v8],_,a,b,c,w8⟩
 refine codeAny_compStart_list (loop _ ?_) (T.self _ 0 _ _ _ ?_ (loop _ ?_))
 ·rfl
 ·exact st4
 ·rfl
theorem pe_comp {X:Cx} {elt iter:Expr} {x:Str} {px pos:Pos} {ifs:List Expr} {scope:Scope} {cl:List (Str × Addr)} {NB:List Str} {cap:List Nat} {wi:TI} {tt:TT} {te:TE}
  (B:Blk X scope cl x NB cap) (hc:X.calm=true) (hex:X.ex=[]) (hi:PI X (.Name x px) iter wi)
  (ht:∀ C fp s₀ H₀,PTs (X.blk scope cl C (x :: NB) fp s₀ H₀) ifs tt) (he:∀ C fp s₀ H₀,PE (X.blk scope cl C (x :: NB) fp s₀ H₀) elt te)
  (hs:∀ v,foldedSetIterable iter X.env v=pure v:=by intro _; rfl):PE X (.ListComp elt [⟨.Name x px,iter,ifs,0⟩] scope pos) (tComp wi tt te cap):=by
 intro pins s σ H Q I h
 rw [eval_ListComp]
 refine comp_core (use:=none) (R:=EP X pins σ Q) B hc hex hi ht he hs I h fun D C H' s' I' G q=>?_
 obtain ⟨m,hn⟩:=G.ns
 obtain ⟨f0,f1,f2,f3,f4,f5⟩:=G.fp
 refine ⟨m,hn,fun h' hs'=>⟨.ref D,H',?_,rfl,q⟩⟩
 exact I'.turned (t':=s'.toks) (fun b o hb e=>(hs'.2 b hb).trans e) f0 f1 f3 f4 f5
theorem ps_setComp {X:Cx} {elt iter:Expr} {x y:Str} {px py pos spos:Pos} {ifs:List Expr} {scope:Scope} {cl:List (Str × Addr)} {NB:List Str} {cap:List Nat} {wi:TI} {tt:TT} {te:TE} {i:Nat}
  (hN:X.N.Nodup) (hi':X.N[i]?=some y) (hx:Loc X.env.scope y)
  (B:Blk X scope cl x NB cap) (hc:X.calm=true) (hex:X.ex=[]) (hi:PI X (.Name x px) iter wi)
  (ht:∀ C fp s₀ H₀,PTs (X.blk scope cl C (x :: NB) fp s₀ H₀) ifs tt) (he:∀ C fp s₀ H₀,PE (X.blk scope cl C (x :: NB) fp s₀ H₀) elt te)
  (hsw:swapsWith (.ListComp elt [⟨.Name x px,iter,ifs,0⟩] scope pos) (some (.Name y py)) spos.line X.env=pure true:=by rfl)
  (hs:∀ v,foldedSetIterable iter X.env v=pure v:=by intro _; rfl) (hf:X.fn y=true∨X.env.scope.names.lookup y=some .local:=by first | exact .inl rfl | exact .inr rfl | assumption) :
  PS X (.Assign [.Name y py] (.ListComp elt [⟨.Name x px,iter,ifs,0⟩] scope pos) spos) (tAsg (tComp wi tt te cap) (gName i)):=by
 intro pins s σ H D I h
 rw [exec_Assign_Name_used _ _ _ _ hsw]
 refine wpAny_bind (wpAny_standAt (wpAny_bind ?_))
 show wpAny _ X.A (do let _ ← comprehension (.ListComp elt [⟨.Name x px,iter,ifs,0⟩] scope pos) scope X.env _ (newList []) false (eval iter X.env) (some (assign (.Name y py) X.env))) _ _ s
 refine wpAny_bind (wpAny_mono (comp_core (use:=some (assign (.Name y py) X.env)) (R:=fun _ s'=>SP X pins D .next s') B hc hex hi ht he hs I h fun L C H' s' I' G q=>?_) (fun _ s' hq=>wpAny_pure (wpAny_pure hq)) fun _ _ e=>e)
 obtain ⟨m,hn⟩:=G.ns
 obtain ⟨f0,f1,f2,f3,f4,f5⟩:=G.fp
 refine wpAny_assign_Name (store_ok2 (v:=.ref L) I' hN hi' hx rfl (fun s'' I'' ⟨a,sb,ha⟩=>?_) hf)
 have hC:C≠a:=by
  rcases ha with z | z
  ·rw [z]; exact f1
  ·exact fun e=>f4 y a z e.symm
 refine ⟨m,hn.sameBut sb hC,fun h' hs'=>⟨_,H',?_,q⟩⟩
 exact I''.turned (t':=s''.toks) (fun b o hb e=>(hs'.2 b hb).trans e) f0 f1 f3 f4 f5
end L2
end
section
namespace L2
open PySem PySem.Spec PyProof.Rows
section
variable {X:Cx}
theorem op_eqNil (hu:X.A.units < cLine):OpR X (compareOp .Eq) (fun x y H Q=>∃ a b xs,x=.ref a∧y=.ref b∧SqL X.K H a xs∧SqL X.K H b []∧Q (.bl (decide (xs=[]))) H):=by
 intro pins s σ H x y v u Q I rx ry h
 obtain ⟨a,b,xs,rfl,rfl,ha,hb,q⟩:=h
 cases rx
 cases ry
 obtain ⟨its,r1,p1,_⟩:=I.list ha
 obtain ⟨its2,r2,p2,_⟩:=I.list hb
 cases r2
 cases xs with
 | nil =>
  cases r1
  exact SeqAt.eq_listAt (e:=fun _=>true) p1.isList p2.isList rfl hu (fun j h1 _=>absurd h1 (by simp)) ⟨.bl true,H,I,rfl,by simpa using q⟩
 | cons z zs =>
  cases r1 with
  | cons _ _=>exact SeqAt.eq_list_lengthsAt p1.isList p2.isList (by simp) hu ⟨.bl false,H,I,rfl,by simpa using q⟩
theorem op_neNil (hu:X.A.units < cLine):OpR X (compareOp .NotEq) (fun x y H Q=>∃ a b xs,x=.ref a∧y=.ref b∧SqL X.K H a xs∧SqL X.K H b []∧Q (.bl (!decide (xs=[]))) H):=by
 intro pins s σ H x y v u Q I rx ry h
 obtain ⟨a,b,xs,rfl,rfl,ha,hb,q⟩:=h
 cases rx
 cases ry
 obtain ⟨its,r1,p1,_⟩:=I.list ha
 obtain ⟨its2,r2,p2,_⟩:=I.list hb
 cases r2
 cases xs with
 | nil =>
  cases r1
  exact SeqAt.RcNeAt.lists (e:=fun _=>true) p1.isList p2.isList rfl hu (fun j h1 _=>absurd h1 (by simp)) _ _ _ _ ⟨.bl false,H,I,rfl,by simpa using q⟩
 | cons z zs =>
  cases r1 with
  | cons _ _=>exact SeqAt.RcNeAt.lists_lengths p1.isList p2.isList (by simp) hu _ _ _ _ ⟨.bl true,H,I,rfl,by simpa using q⟩
def tRev (K:PySem.W.Frag) (te ts:TE):TE:=fun σ H Q=>te σ H fun x H1=>ts σ H1 fun y H2=>y=.int (-1)∧∃ a xs,x=.ref a∧SqL K H2 a xs∧∀ p,H2 p=none→Q (.ref p) (upd H2 p (.lst xs.reverse))
theorem Vals.rev {xs:List V} {us:List Value} (r:Vals xs us):Vals xs.reverse us.reverse:=by
 induction r with
 | nil=>exact .nil
 | cons r _ ih=>rw [List.reverse_cons,List.reverse_cons]; exact ih.append (.cons r .nil)
theorem pe_rev {e st:Expr} {te ts:TE} {pos p2:Pos} (he:PE X e te) (hst:PE X st ts):PE X (.Subscript e (.Slice none none (some st) p2) pos) (tRev X.K te ts):=by
 intro pins s σ H Q I h
 refine Subscript_ (thn (he pins s σ H _ I h) fun v s1 ⟨x,H1,I1,r1,q1⟩=>?_)
 refine wpAny_Slice ?_
 rw [evalPart_none]
 refine wpAny_pure (wpAny_pure ?_)
 rw [evalPart_some]
 refine thn (hst pins s1 σ H1 _ I1 q1) fun vs s3 ⟨y,H3,I3,r3,ey,a,xs,ex,hq,q3⟩=>?_
 subst ey ex
 cases r1
 obtain ⟨t,rfl⟩:=r3
 have I4:Inv X pins σ H3 { s3 with heap:=s3.heap.push { cls:=.type "slice",data:=.fields #[.none,.none,.int (-1) t] } }:=I3.kept (t':=s3.toks) fun b ob q=>Heap.get?_push_of_some _ q
 show wpAny (model X.prog X.w) X.A (subscriptTail e (.Slice none none (some st) p2) (.ref a) (.ref s3.heap.objs.size)) (EP X pins σ Q) X.xe { s3 with heap:=s3.heap.push { cls:=.type "slice",data:=.fields #[.none,.none,.int (-1) t] } }
 obtain ⟨its,r,ht,hz⟩:=I4.list hq
 have hlen:=r.length
 refine tail_any (ops:=[.ref a,.ref s3.heap.objs.size]) ht.isList.typeIs slot_list_getitem.lookup ?_ (by with_unfolding_all rfl)
 refine wpAny_getItem_list_slice ht.isList (Heap.IsSliceOf.new ..) .none .none (.int (-1) t) (by simp) ?_ (by rw [List.size_toArray] <;> lia)
 rw [PySem.W.krv_pick]
 refine ⟨.ref (s3.heap.push { cls:=.type "slice",data:=.fields #[.none,.none,.int (-1) t] }).objs.size,_,I4.laid (t':=s3.toks) (o:=.lst xs.reverse) (fun b ob q=>Heap.get?_push_of_some _ q) (Nat.le_refl _) ?_,rfl,q3 _ (I4.hok.fresh (Nat.le_refl _))⟩
 exact ⟨by rw [List.length_reverse]; exact hz,_,0,r.rev,Heap.get?_push_size _ rfl⟩
end
end L2
end
section
namespace L2
open PySem PySem.Spec PyProof.Rows
def CDivB (_ j:Int):Prop:=0 < j∧j < 2 ^ 200
theorem op_fdivB {X:Cx}:OpR X (binaryOp .FloorDiv) (rI CDivB fun i j=>.int (i / j)):=opI fun i j _ _ _ _ _ hc q=>by
 have h1:(0:Int) < j:=hc.1
 have h2:j < 2 ^ 200:=hc.2
 rw [← Int.fdiv_eq_ediv_of_nonneg i (by lia)] at q
 refine floordiv_int (by lia) q (.inl (PyProof.noPylong_of_log2 ?_))
 have h3:j.natAbs < 2 ^ 200:=by lia
 have h4:j.natAbs.log2 < 200:=(Nat.log2_lt (by lia)).mpr h3
 lia
structure Bl (mg:Str→Option Value):Prop where
 z_len:mg "len"=none
 z_sum:mg "sum"=none
 z_abs:mg "abs"=none
 z_range:mg "range"=none
 z_list:mg "list"=none
 z_tuple:mg "tuple"=none
 z_int:mg "int"=none
 z_bool:mg "bool"=none
 z_sorted:mg "sorted"=none
 z_isinstance:mg "isinstance"=none
structure Nm (K:PySem.W.Frag) (mg:Str→Option Value) (x:Str) (a:Addr) (fd:FuncData) (ps:List Str):Prop where
 m:mg x=some (.ref a)
 k:PySem.W.keepIn K (.ref a)=true
 b:Binds K fd ps []
theorem ix_int {cs:List Int} {i:Int} (h0:0≤i) (h1:i < cs.length):atI (cs.map V.int) i=some (.int (cs.getD i.toNat 0)):=by
 have h2:i.toNat < cs.length:=by lia
 have e:(cs.map V.int)[i.toNat]?=some (.int (cs.getD i.toNat 0)):=by
  rw [List.getElem?_map,List.getElem?_eq_getElem h2]
  simp [List.getD,List.getElem?_eq_getElem h2]
 have:=atI_nat e
 rwa [Int.toNat_of_nonneg h0] at this
theorem ixN_ok {n:Nat} {i:Int} (h0:0≤i) (h1:i < n):ixN n i=some i.toNat:=by
 unfold ixN
 rw [if_pos h0,if_pos h1]
theorem mod_lo {a b:Int} (h:0 < b):0≤a % b:=Int.emod_nonneg _ (by lia)
theorem mod_hi {a b:Int} (h:0 < b):a % b < b:=Int.emod_lt_of_pos _ h
end L2
end
section
namespace L2
open PySem PySem.Spec PyProof.Rows
def freesOf (names:List (Str × NameKind)):List Str:=(names.filter fun y=>y.2 == .free).map (·.1)
def clOf (scope:Scope) (env:Env):List (Str × Addr):=(freesOf scope.names).reverse.map fun n=>(n,(env.cells.lookup n).getD 0)
theorem lookup_map {g:Str→Addr} {y:Str} {c:Addr}:∀ {l:List Str},(l.map fun n=>(n,g n)).lookup y=some c→y∈l∧c=g y
 | [],h=>by cases h
 | a :: l,h=>by
  rw [List.map_cons,List.lookup_cons] at h
  cases e:y == a with
  | true =>
   rw [e] at h
   have e':y=a:=by simpa using e
   subst e'
   exact ⟨List.mem_cons_self,(Option.some.inj h).symm⟩
  | false =>
   rw [e] at h
   obtain ⟨m,q⟩:=lookup_map h
   exact ⟨List.mem_cons_of_mem _ m,q⟩
theorem lookup_map_mem {g:Str→Addr} {y:Str}:∀ {l:List Str},y∈l→(l.map fun n=>(n,g n)).lookup y=some (g y)
 | [],h=>by cases h
 | a :: l,h=>by
  rw [List.map_cons,List.lookup_cons]
  cases e:y == a with
  | true =>
   have e':y=a:=by simpa using e
   subst e'
   rfl
  | false =>
   rcases List.mem_cons.mp h with z | z
   ·subst z; simp at e
   ·exact lookup_map_mem z
theorem closure_go (env:Env):∀ (names:List (Str × NameKind)) (acc:List (Str × Addr)),(∀ n∈freesOf names,∃ c,env.cells.lookup n=some c) →
  (forIn names acc fun y cs=>if (y.2 == NameKind.free)=true then (do let c ← cellOf env y.1; pure (ForInStep.yield ((y.1,c) :: cs))) else pure (ForInStep.yield cs):Sem (List (Str × Addr))) =
   pure ((freesOf names).reverse.map (fun n=>(n,(env.cells.lookup n).getD 0))++acc)
 | [],acc,_=>by rw [List.forIn_nil]; rfl
 | (n,k) :: r,acc,h=>by
  rw [List.forIn_cons]
  cases e:k == NameKind.free with
  | true =>
   have hn:freesOf ((n,k) :: r)=n :: freesOf r:=by unfold freesOf; rw [List.filter_cons_of_pos (by simpa using e)]; rfl
   rw [hn] at h ⊢
   obtain ⟨c,hc⟩:=h n List.mem_cons_self
   simp only [e,if_true]
   have h2:cellOf env n=pure c:=by unfold cellOf; rw [hc]
   rw [h2]
   have ih:=closure_go env r ((n,c) :: acc) fun m hm=>h m (List.mem_cons_of_mem _ hm)
   show (forIn r ((n,c) :: acc) _:Sem (List (Str × Addr)))=_
   rw [ih,List.reverse_cons,List.map_append,List.append_assoc]
   rw [List.map_cons,List.map_nil,hc]
   rfl
  | false =>
   have hn:freesOf ((n,k) :: r)=freesOf r:=by unfold freesOf; rw [List.filter_cons_of_neg (by simpa using e)]
   rw [hn] at h ⊢
   simp only [e,Bool.false_eq_true,if_false]
   exact closure_go env r acc h
theorem closure_eq (scope:Scope) (env:Env) (h:∀ n∈freesOf scope.names,∃ c,env.cells.lookup n=some c):closureFor scope env=pure (clOf scope env):=by
 have:=closure_go env scope.names [] h
 rw [List.append_nil] at this
 simp only [closureFor]
 rw [this]
 rfl
theorem mem_frees {names:List (Str × NameKind)} {y:Str} (h:(y,NameKind.free)∈names):y∈freesOf names:=by
 unfold freesOf
 exact List.mem_map.mpr ⟨(y,.free),List.mem_filter.mpr ⟨h,by rfl⟩,rfl⟩
theorem of_frees {names:List (Str × NameKind)} {y:Str} (h:y∈freesOf names):(y,NameKind.free)∈names:=by
 unfold freesOf at h
 obtain ⟨⟨a,k⟩,hm,e⟩:=List.mem_map.mp h
 obtain ⟨h1,h2⟩:=List.mem_filter.mp hm
 cases e
 have:k=.free:=by simpa using h2
 rw [← this]; exact h1
theorem relabel_kind {env:Env}:∀ {names:List (Str × NameKind)} {y:Str} {k:NameKind},
  (names.map fun (n,k)=>if (k == NameKind.free && env.scope.kind == .function && env.kindOf n == some .cell) then (n,NameKind.cell) else (n,k)).lookup y=some k→(k=.cell∨k=.free)→(∀ z∈names,z.2≠.cell)→(y,NameKind.free)∈names
 | [],y,k,h,_,_=>by cases h
 | (n,k0) :: r,y,k,h,hk,hn=>by
  rw [List.map_cons] at h
  dsimp only at h
  by_cases hc:(k0 == NameKind.free && env.scope.kind == .function && env.kindOf n == some .cell)=true
  ·rw [if_pos hc,List.lookup_cons] at h
   have hf:k0=.free:=by
    rw [Bool.and_eq_true,Bool.and_eq_true] at hc
    simpa using hc.1.1
   cases e:y == n with
   | true =>
    have e':y=n:=by simpa using e
    subst e'; subst hf
    exact List.mem_cons_self
   | false =>
    rw [e] at h
    exact List.mem_cons_of_mem _ (relabel_kind h hk fun z hz=>hn z (List.mem_cons_of_mem _ hz))
  ·rw [if_neg hc,List.lookup_cons] at h
   cases e:y == n with
   | true =>
    have e':y=n:=by simpa using e
    subst e'
    rw [e] at h
    have e2:k0=k:=Option.some.inj h
    have:=hn (y,k0) List.mem_cons_self
    rcases hk with z | z
    ·rw [z] at e2; exact absurd e2 this
    ·rw [z] at e2; rw [e2]; exact List.mem_cons_self
   | false =>
    rw [e] at h
    exact List.mem_cons_of_mem _ (relabel_kind h hk fun z hz=>hn z (List.mem_cons_of_mem _ hz))
theorem relabel_free {env:Env}:∀ {names:List (Str × NameKind)} {y:Str},names.lookup y=some .free →
  (names.map fun (n,k)=>if (k == NameKind.free && env.scope.kind == .function && env.kindOf n == some .cell) then (n,NameKind.cell) else (n,k)).lookup y=some .cell ∨
  (names.map fun (n,k)=>if (k == NameKind.free && env.scope.kind == .function && env.kindOf n == some .cell) then (n,NameKind.cell) else (n,k)).lookup y=some .free
 | [],y,h=>by cases h
 | (n,k0) :: r,y,h=>by
  rw [List.lookup_cons] at h
  rw [List.map_cons]
  dsimp only
  by_cases hc:(k0 == NameKind.free && env.scope.kind == .function && env.kindOf n == some .cell)=true
  ·rw [if_pos hc,List.lookup_cons]
   cases e:y == n with
   | true=>exact .inl rfl
   | false=>rw [e] at h; exact relabel_free h
  ·rw [if_neg hc,List.lookup_cons]
   cases e:y == n with
   | true=>rw [e] at h; exact .inr h
   | false=>rw [e] at h; exact relabel_free h
theorem Blk.of {X:Cx} {scope esc:Scope} {x:Str} {N NB:List Str} {cap:List Nat} (eN:X.N=N) (eS:X.env.scope=esc) (hX:∀ y,esc.names.lookup y=some .cell→∃ c,X.env.cells.lookup y=some c)
  (hk:scope.kind=.function) (h1:∀ y∈scope.names,y.2≠.cell) (h2:∀ y∈scope.names,y.2=.local→scope.names.lookup y.1=some .local) (h3:∀ y∈scope.names,y.2=.free→esc.names.lookup y.1=some .cell)
  (hl:cap.length=NB.length) (h4:∀ p∈NB.zip cap,N[p.2]?=some p.1∧esc.names.lookup p.1=some .cell∧scope.names.lookup p.1=some .free) (h5:scope.names.lookup x=some .local) (nd:(x :: NB).Nodup) :
  Blk X scope (clOf scope X.env) x NB cap:=by
 have hfr:∀ n∈freesOf scope.names,∃ c,X.env.cells.lookup n=some c:=fun n hn=>hX n (h3 _ (of_frees hn) rfl)
 refine ⟨closure_eq scope X.env hfr,h1,hk,h2,fun y c e=>?_,fun y e=>?_,hl,fun j i e=>?_,h5,nd⟩
 ·unfold clOf at e
  obtain ⟨m,q⟩:=lookup_map e
  obtain ⟨c',hc⟩:=hfr y (List.mem_reverse.mp m)
  rw [hc] at q
  rw [hc,q]; rfl
 ·have hm:(y,NameKind.free)∈scope.names:=by
   rcases e with e | e
   ·exact relabel_kind e (.inl rfl) h1
   ·exact relabel_kind e (.inr rfl) h1
  exact ⟨_,lookup_map_mem (List.mem_reverse.mpr (mem_frees hm))⟩
 ·have hj:j < cap.length:=(List.getElem?_eq_some_iff.mp e).1
  have hj2:j < NB.length:=by lia
  have ey:NB[j]?=some NB[j]:=List.getElem?_eq_getElem hj2
  have ez:(NB.zip cap)[j]?=some (NB[j],i):=by rw [List.getElem?_zip_eq_some]; exact ⟨ey,e⟩
  obtain ⟨a1,a2,a3⟩:=h4 _ (List.mem_of_getElem? ez)
  refine ⟨NB[j],ey,by rw [eN]; exact a1,.inr (.inl (by rw [eS]; exact a2)),.inl (by show X.env.scope.names.lookup _=_; rw [eS]; exact a2),?_⟩
  exact relabel_free a3
end L2
end
section
namespace L2
open PySem PySem.Spec PyProof.Rows
theorem atI_ex {α:Type} {l:List α} {i:Int} (h0:0≤i) (h1:i < l.length):∃ v,atI l i=some v∧v∈l:=by
 have h2:i.toNat < l.length:=by lia
 have e:l[i.toNat]?=some l[i.toNat]:=List.getElem?_eq_getElem h2
 have:=atI_nat e
 rw [Int.toNat_of_nonneg h0] at this
 exact ⟨_,this,List.getElem_mem h2⟩
theorem comp_range {lo:Int} {n:Nat} {tt:TT} {te:TE} {cap:List Nat} {σ:St} {H:Hp} {D:Addr} {Q:VK} (Pv:Nat→List V→Hp→Prop) (h0:Pv 0 [] (upd H D (.lst []))) (hD:∀ i ys H,Pv i ys H→H D=some (.lst ys))
  (hs:∀ i ys H,i < n→Pv i ys H→tt (some (.int (lo+i)) :: capσ cap σ) H fun b H3 =>
   if b=true then te (some (.int (lo+i)) :: capσ cap σ) H3 fun v H4=>H4 D=some (.lst ys)∧ys.length < sizeLine∧∃ m',m' < n - i∧m'=n - (i+1)∧i+1≤n∧Pv (i+1) (ys++[v]) (upd H4 D (.lst (ys++[v])))
   else ∃ m',m' < n - i∧m'=n - (i+1)∧i+1≤n∧Pv (i+1) ys H3)
  (hd:∀ ys H,Pv n ys H→Q (.ref D) H) :
  ∃ W:Nat→Nat→List V→Hp→Prop,(∃ m,W 0 m [] (upd H D (.lst [])))∧∀ i m ys H,W i m ys H→H D=some (.lst ys) ∧
  (((Itr lo n).stop i H∧Q (.ref D) H)∨((Itr lo n).go i H∧∀ x H',(Itr lo n).yld i H x H'→tt (some x :: capσ cap σ) H' fun b H3 =>
   if b=true then te (some x :: capσ cap σ) H3 fun v H4=>H4 D=some (.lst ys)∧ys.length < sizeLine∧∃ m',m' < m∧W (i+1) m' (ys++[v]) (upd H4 D (.lst (ys++[v])))
   else ∃ m',m' < m∧W (i+1) m' ys H3)):=by
 refine ⟨fun i m ys H=>m=n - i∧i≤n∧Pv i ys H,⟨n,by simp,Nat.zero_le _,h0⟩,?_⟩
 rintro i m ys H ⟨rfl,hi,p⟩
 refine ⟨hD i ys H p,?_⟩
 by_cases hlt:i < n
 ·refine .inr ⟨hlt,fun x H' y=>?_⟩
  obtain ⟨e,y⟩:=y
  subst e y
  exact hs i ys _ hlt p
 ·have e:i=n:=by lia
  subst e
  exact .inl ⟨Nat.le_refl _,hd ys H p⟩
end L2
namespace L2
open PySem PySem.Spec PyProof.Rows
end L2
namespace L2
open PySem PySem.Spec PyProof.Rows
end L2
namespace L2
open PySem
theorem same_new {H:Hp} {p:Addr} {o:HO} (h:H p=none):Same H (upd H p o):=fun b u e=>by rw [upd_ne (ne_of_none e h)]; exact e
theorem same_upd {H H':Hp} {p:Addr} {o:HO} (s:Same H H') (h:H p=none):Same H (upd H' p o):=fun b u e=>by rw [upd_ne (ne_of_none e h)]; exact s b u e
end L2
end
section
namespace L2
open PySem PySem.Spec PyProof.Rows
@[irreducible] def QE (X:Cx) (e:Expr) (t:TE):Prop:=PE X e t
@[irreducible] def QT (X:Cx) (e:Expr) (t:TT):Prop:=PT X e t
@[irreducible] def QW (X:Cx) (e:Expr) (t:TT):Prop:=PW X e t
@[irreducible] def QA (X:Cx) (es:List Expr) (t:TA):Prop:=PA X es t
@[irreducible] def QS (X:Cx) (st:Stmt) (t:TS):Prop:=PS X st t
@[irreducible] def QSs (X:Cx) (st:List Stmt) (t:TS):Prop:=PSs X st t
@[irreducible] def QG (X:Cx) (e:Expr) (t:TG):Prop:=PG X e t
@[irreducible] def QGs (X:Cx) (e:List Expr) (t:TGs):Prop:=PGs X e t
@[irreducible] def QI (X:Cx) (tg iter:Expr) (wi:TI):Prop:=PI X tg iter wi
@[irreducible] def QTs (X:Cx) (ifs:List Expr) (t:TT):Prop:=PTs X ifs t
@[irreducible] def QO (X:Cx) (e:Option Expr) (t:TO):Prop:=PO X e t
section
variable {X:Cx} {e a b c:Expr} {es:List Expr} {t te ta tb tc:TE} {tt:TT} {pos:Pos}
theorem QE.mk {t:TE} (h:PE X e t):QE X e t:=by unfold QE; exact h
theorem QE.to {t:TE} (h:QE X e t):PE X e t:=by unfold QE at h; exact h
theorem QT.mk {t:TT} (h:PT X e t):QT X e t:=by unfold QT; exact h
theorem QT.to {t:TT} (h:QT X e t):PT X e t:=by unfold QT at h; exact h
theorem QW.mk {t:TT} (h:PW X e t):QW X e t:=by unfold QW; exact h
theorem QW.to {t:TT} (h:QW X e t):PW X e t:=by unfold QW at h; exact h
theorem QA.mk {t:TA} (h:PA X es t):QA X es t:=by unfold QA; exact h
theorem QA.to {t:TA} (h:QA X es t):PA X es t:=by unfold QA at h; exact h
theorem QS.mk {st:Stmt} {t:TS} (h:PS X st t):QS X st t:=by unfold QS; exact h
theorem QS.to {st:Stmt} {t:TS} (h:QS X st t):PS X st t:=by unfold QS at h; exact h
theorem QSs.mk {st:List Stmt} {t:TS} (h:PSs X st t):QSs X st t:=by unfold QSs; exact h
theorem QSs.to {st:List Stmt} {t:TS} (h:QSs X st t):PSs X st t:=by unfold QSs at h; exact h
theorem QG.mk {t:TG} (h:PG X e t):QG X e t:=by unfold QG; exact h
theorem QG.to {t:TG} (h:QG X e t):PG X e t:=by unfold QG at h; exact h
theorem QI.mk {tg:Expr} {wi:TI} (h:PI X tg e wi):QI X tg e wi:=by unfold QI; exact h
theorem QI.to {tg:Expr} {wi:TI} (h:QI X tg e wi):PI X tg e wi:=by unfold QI at h; exact h
theorem QTs.mk {t:TT} (h:PTs X es t):QTs X es t:=by unfold QTs; exact h
theorem QTs.to {t:TT} (h:QTs X es t):PTs X es t:=by unfold QTs at h; exact h
theorem QO.mk {o:Option Expr} {t:TO} (h:PO X o t):QO X o t:=by unfold QO; exact h
theorem QO.to {o:Option Expr} {t:TO} (h:QO X o t):PO X o t:=by unfold QO at h; exact h
theorem qv (i:Nat) {x:Str} (hN:X.N[i]?=some x:=by rfl) (hv:Vis X.env.scope x:=by first | exact Or.inl rfl | exact Or.inr (Or.inl rfl) | exact Or.inr (Or.inr rfl)) (hd:(x == ("__debug__":Str))=false:=by decide)
  (hcd:(x == ("__classdict__":Str))=false:=by decide):QE X (.Name x pos) (tVar i):=.mk (pe_var hN hv hd hcd)
theorem qe_int {i j}:QE X (.Constant (.int i) j pos) (tC (.int i)):=.mk pe_int
theorem qe_bl {b j}:QE X (.Constant (.bool b) j pos) (tC (.bl b)):=.mk pe_bl
theorem qe_str {x j}:QE X (.Constant (.str x) j pos) (tC (.str x)):=.mk pe_str
theorem qe_op {op:Operator} {r:R2} (ho:OpR X (binaryOp op) r) (ha:QE X a ta) (hb:QE X b tb):QE X (.BinOp a op b pos) (tOp r ta tb):=.mk (pe_op ho ha.to hb.to)
theorem qe_un {op:UnaryOp} {r:V→Hp→VK→Prop} (ho:UnR X (unaryOp op) r) (ha:QE X a ta):QE X (.UnaryOp op a pos) (tUn r ta):=.mk (pe_un ho ha.to)
theorem qe_cmpR {op:CmpOp} {r:R2} (ho:OpR X (compareOp op) r) (ha:QE X a ta) (hb:QE X b tb) (hm:behindInMarks op b=false):QE X (.Compare a [op] [b] pos) (tOp r ta tb):=.mk (pe_cmpR ho ha.to hb.to hm)
theorem qe_ix {r:R2} (hr:IxR X r) (ha:QE X a ta) (hb:QE X b tb) (hs:PlainIx b):QE X (.Subscript a b pos) (tOp r ta tb):=.mk (pe_ix hr ha.to hb.to hs)
theorem qe_slice {r:V→Option Int→Option Int→Hp→VK→Prop} {lo hi:Option Expr} {tl th:TO} {p2:Pos} (hr:SlR X r) (he:QE X e te) (hl:QO X lo tl) (hu:QO X hi th):QE X (.Subscript e (.Slice lo hi none p2) pos) (tSl r te tl th):=.mk (pe_slice hr he.to hl.to hu.to)
theorem qo_none:QO X none tNoPart:=.mk po_none
theorem qo_some (h:QE X e te):QO X (some e) (tPart te):=.mk (po_some h.to)
theorem qe_rev {st:Expr} {ts:TE} {p2:Pos} (he:QE X e te) (hst:QE X st ts):QE X (.Subscript e (.Slice none none (some st) p2) pos) (tRev X.K te ts):=.mk (pe_rev he.to hst.to)
theorem qe_lst {t:TA} (h:QA X es t):QE X (.List es pos) (tLst t):=.mk (pe_lst h.to)
theorem qe_tup {t:TA} {x1} (h:QA X es t):QE X (.Tuple es x1 pos) (tTup t):=.mk (pe_tup h.to)
theorem qa_nil:QA X [] tNil:=.mk pa_nil
theorem qa_cons {t:TA} (ha:QE X e te) (hr:QA X es t) (hs:starEach (e :: es) X.env=(false,eval e X.env) :: starEach es X.env:=by rfl):QA X (e :: es) (tCons te t):=.mk (pa_cons ha.to hr.to hs)
theorem qe_callB {id:String} {x:Str} {r:List V→Hp→VK→Prop} {p:Pos} {t:TA} (hc:CallR X (.builtin id) r) (hg:Gl X x) (hm:X.mg x=none) (hv:bootBuiltins x=some (.builtin id)) (ha:QA X (e :: es) t) (hn:x≠"__name__":=by decide) (hdb:(x == ("__debug__":Str))=false:=by decide)
  (he:starEach (e :: es) X.env=(false,eval e X.env) :: starEach es X.env:=by rfl) (hpl:(backTo pos (starEach es X.env)).any (·.1)=false:=by rfl):QE X (.Call (.Name x p) (e :: es) [] pos) (tCB r t):=.mk (pe_callB hc hg hm hv ha.to hn hdb he hpl)
theorem qe_callTy {T:String} {x:Str} {r:List V→Hp→VK→Prop} {p:Pos} {t:TA} (hc:CallR X (.type T) r) (hg:Gl X x) (hm:X.mg x=none) (hv:bootBuiltins x=some (.type T)) (ha:QA X (e :: es) t) (hn:x≠"__name__":=by decide) (hdb:(x == ("__debug__":Str))=false:=by decide)
  (he:starEach (e :: es) X.env=(false,eval e X.env) :: starEach es X.env:=by rfl) (hpl:(backTo pos (starEach es X.env)).any (·.1)=false:=by rfl):QE X (.Call (.Name x p) (e :: es) [] pos) (tCB r t):=.mk (pe_callTy hc hg hm hv ha.to hn hdb he hpl)
theorem qe_call {CX:CXT} {k:Nat} {f:Addr} {fd:FuncData} {ps:List Str} {sp:Sp} {dvs:List V} {ds:List Value} {E:XK} {x:Str} {p:Pos} {t:TA} (F:FnOk X.prog X.w X.K X.mg X.base CX k f fd ps sp) (hr:Room k X.A) (hg:Gl X x) (hm:X.mg x=some (.ref f)) (hk:PySem.W.keepIn X.K (.ref f)=true) (hb:Binds X.K fd ps ds) (hd:Vals dvs ds) (hx:Passes CX X E)
  (ha:QA X (e :: es) t) (hdb:(x == ("__debug__":Str))=false:=by decide) (he:starEach (e :: es) X.env=(false,eval e X.env) :: starEach es X.env:=by rfl) (hpl:(backTo pos (starEach es X.env)).any (·.1)=false:=by rfl) :
  QE X (.Call (.Name x p) (e :: es) [] pos) (tCall sp dvs E t):=.mk (pe_call F hr hg hm hk hb hd hx ha.to hdb he hpl)
theorem qe_bm {o:Expr} {to:TE} {t:TA} {name:Str} {apos cpos:Pos} {T id:String} {r:V→List V→Hp→VK→Prop} (pa:PlainAttrs T) (slot:Slot T name id) (hty:typeOf (.builtin id)=pure (.type "method_descriptor")) (hm:MtR X id r) (ho:QE X o to) (ha:QA X (e :: es) t)
  (hbase:attributeBase o name X.env (eval o X.env)=eval o X.env:=by rfl)
  (hfew:((backTo cpos (starEach (e :: es) X.env)).all (fun x=>!x.1) && (backToKw cpos (keywordEach [] X.env)).all (fun x=>x.1.isSome)
   && decide ((e :: es).length+([]:List Keyword).length+(if ([]:List Keyword).isEmpty then 0 else 1) < 30))=true:=by rfl)
  (hline:(apos.endLine == cpos.line)=true:=by rfl) (hs:starEach (e :: es) X.env=(false,eval e X.env) :: starEach es X.env:=by rfl) (hplain:(backTo cpos (starEach es X.env)).any (·.1)=false:=by rfl) :
  QE X (.Call (.Attribute o name apos) (e :: es) [] cpos) (tBM X.K T r to t):=.mk (pe_bm pa slot hty hm ho.to ha.to hbase hfew hline hs hplain)
theorem qe_comp {elt iter:Expr} {x:Str} {px:Pos} {ifs:List Expr} {scope:Scope} {cl:List (Str × Addr)} {NB:List Str} {cap:List Nat} {wi:TI}
  (B:Blk X scope cl x NB cap) (hc:X.calm=true) (hex:X.ex=[]) (hi:QI X (.Name x px) iter wi)
  (ht:∀ C fp s₀ H₀,QTs (X.blk scope cl C (x :: NB) fp s₀ H₀) ifs tt) (he:∀ C fp s₀ H₀,QE (X.blk scope cl C (x :: NB) fp s₀ H₀) elt te)
  (hs:∀ v,foldedSetIterable iter X.env v=pure v:=by intro _; rfl):QE X (.ListComp elt [⟨.Name x px,iter,ifs,0⟩] scope pos) (tComp wi tt te cap) :=
 .mk (pe_comp B hc hex hi.to (fun C fp s₀ H₀=>(ht C fp s₀ H₀).to) (fun C fp s₀ H₀=>(he C fp s₀ H₀).to) hs)
theorem qt_cmpR {op:CmpOp} {r:R2} (ho:OpR X (compareOp op) r) (ha:QE X a ta) (hb:QE X b tb) (hm:behindInMarks op b=false):QT X (.Compare a [op] [b] pos) (tTest (tOp r ta tb)):=.mk (pt_cmpR ho ha.to hb.to hm)
theorem qt_not {tA:TT} (ha:QT X a tA):QT X (.UnaryOp .Not a pos) (tNot tA):=.mk (pt_not ha.to)
theorem qt_val {t:TE} (h:QE X e t) (he:∀ whole,isTrue e X.env whole=(do let v ← whole; standAt e.pos; holding [v] (truthy v)):=by intro _; rfl):QT X e (tB t):=.mk (pt_val h.to he)
theorem QW.pt {t:TT} (h:QW X e t):QT X e t:=.mk h.to.pt
theorem qw_and1 {tA:TT} (ha:QT X a tA):QW X (.BoolOp .And [a] pos) tA:=.mk (pw_and1 ha.to)
theorem qw_or1 {tA:TT} (ha:QT X a tA):QW X (.BoolOp .Or [a] pos) tA:=.mk (pw_or1 ha.to)
theorem qw_and {tA tB':TT} {rest:List Expr} (ha:QT X a tA) (hb:QW X (.BoolOp .And (b :: rest) pos) tB'):QW X (.BoolOp .And (a :: b :: rest) pos) (tAnd tA tB'):=.mk (pw_and ha.to hb.to)
theorem qw_or {tA tB':TT} {rest:List Expr} (ha:QT X a tA) (hb:QW X (.BoolOp .Or (b :: rest) pos) tB'):QW X (.BoolOp .Or (a :: b :: rest) pos) (tOr tA tB'):=.mk (pw_or ha.to hb.to)
theorem qts_nil:QTs X [] tYes:=.mk pts_nil
theorem qts_one {t:TT} (h:QT X c t):QTs X [c] t:=.mk (pts_one h.to)
theorem qi_range1 {tg:Expr} {ta:TA} {p:Pos} (hg:Gl X "range") (hm:X.mg "range"=none) (ha:QA X [a] ta) (hs:starEach [a] X.env=[(false,eval a X.env)]:=by rfl):QI X tg (.Call (.Name "range" p) [a] [] pos) (iRng1 ta):=.mk (pi_range1 hg hm ha.to hs)
theorem qi_list {tg:Expr} (h:QE X e te):QI X tg e (iList X.K te):=.mk (pi_list h.to)
theorem qg_name {i:Nat} {x:Str} (hN:X.N.Nodup) (hi:X.N[i]?=some x) (hx:Loc X.env.scope x) (hf:X.fn x=true∨X.env.scope.names.lookup x=some .local:=by first | exact .inl rfl | exact .inr rfl | assumption):QG X (.Name x pos) (gName i):=.mk (pg_name hN hi hx hf)
theorem qg_sub {o i:Expr} {to ti:TE} {t:TSet} (ho:QE X o to) (hi:QE X i ti) (hs:PSet X t)
  (ha:∀ v,assign (.Subscript o i pos) X.env v=(do
   let ov ← holding [v] (eval o X.env)
   let iv ← holding [v,ov] (eval i X.env)
   standAt pos
   holding [v,ov,iv] (setItem ov iv v)
   release [v,ov,iv] []):=by intro _; rfl):QG X (.Subscript o i pos) (gSub to ti t):=.mk (pg_sub ho.to hi.to hs ha)
section
variable {st:Stmt} {rest body:List Stmt} {s u:TS}
theorem qss_nil:QSs X [] tNext:=.mk pss_nil
theorem qss_cons (h1:QS X st s) (h2:QSs X rest u):QSs X (st :: rest) (tSeq s u):=.mk (pss_cons h1.to h2.to)
theorem qss_one (h1:QS X st s):QSs X [st] s:=.mk (pss_one h1.to)
theorem qs_expr (he:QE X e te) (hs:swapsWith e none pos.line X.env=pure false:=by rfl):QS X (.Expr e pos) (tDrop te):=.mk (ps_expr he.to hs)
theorem qs_ret (he:QE X e te):QS X (.Return (some e) pos) (tRet te):=.mk (ps_ret he.to)
theorem qs_if {a' b':List Stmt} (hc:QT X c tt) (ha:QSs X a' s) (hb:QSs X b' u):QS X (.If c a' b' pos) (tIfS tt s u):=.mk (ps_if hc.to ha.to hb.to)
theorem qs_set {i:Nat} {x:Str} {pos':Pos} (hN:X.N.Nodup) (hi:X.N[i]?=some x) (hx:Loc X.env.scope x) (he:QE X e te) (hs:swapsWith e (some (.Name x pos')) pos.line X.env=pure false:=by rfl) (hf:X.fn x=true∨X.env.scope.names.lookup x=some .local:=by first | exact .inl rfl | exact .inr rfl | assumption) :
  QS X (.Assign [.Name x pos'] e pos) (tAsg te (gName i)):=.mk (ps_set hN hi hx he.to hs hf)
theorem qs_setComp {elt iter:Expr} {x y:Str} {px py spos:Pos} {ifs:List Expr} {scope:Scope} {cl:List (Str × Addr)} {NB:List Str} {cap:List Nat} {wi:TI} {i:Nat}
  (hN:X.N.Nodup) (hi':X.N[i]?=some y) (hx:Loc X.env.scope y)
  (B:Blk X scope cl x NB cap) (hc:X.calm=true) (hex:X.ex=[]) (hi:QI X (.Name x px) iter wi)
  (ht:∀ C fp s₀ H₀,QTs (X.blk scope cl C (x :: NB) fp s₀ H₀) ifs tt) (he:∀ C fp s₀ H₀,QE (X.blk scope cl C (x :: NB) fp s₀ H₀) elt te)
  (hsw:swapsWith (.ListComp elt [⟨.Name x px,iter,ifs,0⟩] scope pos) (some (.Name y py)) spos.line X.env=pure true:=by rfl)
  (hs:∀ v,foldedSetIterable iter X.env v=pure v:=by intro _; rfl) (hf:X.fn y=true∨X.env.scope.names.lookup y=some .local:=by first | exact .inl rfl | exact .inr rfl | assumption) :
  QS X (.Assign [.Name y py] (.ListComp elt [⟨.Name x px,iter,ifs,0⟩] scope pos) spos) (tAsg (tComp wi tt te cap) (gName i)) :=
 .mk (ps_setComp hN hi' hx B hc hex hi.to (fun C fp s₀ H₀=>(ht C fp s₀ H₀).to) (fun C fp s₀ H₀=>(he C fp s₀ H₀).to) hsw hs hf)
theorem qs_asg {tg:Expr} {g:TG} (he:QE X e te) (hg:QG X tg g) (hs:swapsWithSole [tg] e pos.line X.env=pure false:=by rfl) (hw:swappedStores [tg] e X.env=pure none:=by rfl)
  (h1:(assignEach [tg] X.env).map (·.2)=[assign tg X.env]:=by rfl):QS X (.Assign [tg] e pos) (tAsg te g):=.mk (ps_asg he.to hg.to hs hw h1)
theorem qs_for {tg iter:Expr} {wi:TI} {g:TG} (hp:PassesOwn (model X.prog X.w) X.A X.env X.xe) (hc:X.calm=true) (hi:QI X tg iter wi) (hg:QG X tg g) (hb:QSs X body s)
  (hs:∀ x,foldedSetIterable iter X.env x=pure x:=by intro _; rfl):QS X (.For tg iter body [] pos) (tFor wi g s):=.mk (ps_for hp hc hi.to hg.to hb.to hs)
theorem qs_while (hp:PassesOwn (model X.prog X.w) X.A X.env X.xe) (hc:QT X c tt) (hb:QSs X body s):QS X (.While c body [] pos) (tWhile tt s):=.mk (ps_while hp hc.to hb.to)
end
end
end L2
end
section
namespace L2
open PySem PySem.Spec PyProof.Rows
open PySem.SeqAt (EqAt RcAt RcNeAt)
def okV:V→Bool
 | .byt _=>false
 | .flt _=>false
 | _=>true
inductive Al (K:PySem.W.Frag) (H:Hp):Nat→V→V→Prop
 | same {n:Nat} {x:V}:okV x=true→Al K H n x x
 | tup {n:Nat} {a b:Addr} {xs ys:List V}:SqT K H a xs→SqT K H b ys→xs.length=ys.length→(∀ (i:Nat) (x y:V),xs[i]?=some x→ys[i]?=some y→Al K H n x y)→Al K H (n+1) (.ref a) (.ref b)
 | lst {n:Nat} {a b:Addr} {xs ys:List V}:SqL K H a xs→SqL K H b ys→xs.length=ys.length→(∀ (i:Nat) (x y:V),xs[i]?=some x→ys[i]?=some y→Al K H n x y)→Al K H (n+1) (.ref a) (.ref b)
theorem Vals.at {xs:List V} {us:List Value} (r:Vals xs us) {j:Nat} (h:j < us.length):∃ x,xs[j]?=some x∧RelV x us[j]:=by
 have h1:j < xs.length:=by rw [r.length]; exact h
 have e:xs[j]?=some xs[j]:=List.getElem?_eq_getElem h1
 obtain ⟨u,hu,ru⟩:=r.get e
 rw [List.getElem?_eq_getElem h] at hu
 cases hu
 exact ⟨_,e,ru⟩
section
variable {X:Cx}
theorem Al.eqAt {pins:List (Addr × Obj)} {σ:St} {H:Hp} {s:Shared} (I:Inv X pins σ H s) {n:Nat} {x y:V} (h:Al X.K H n x y):∀ {v u:Value} (A:Around),RelV x v→RelV y u→A.units+n < cLine→EqAt A s v u true:=by
 induction h with
 | @same n x hk =>
  intro v u A rx ry hu
  cases x with
  | non=>cases rx; cases ry; exact EqAt.same _
  | bl b=>cases rx; cases ry; exact EqAt.same _
  | int i =>
   obtain ⟨t,rfl⟩:=rx
   obtain ⟨t',rfl⟩:=ry
   have:=EqAt.int_int (A:=A) (s:=s) i t i t'
   rwa [beq_self_eq_true] at this
  | str i =>
   obtain ⟨t,rfl⟩:=rx
   obtain ⟨t',rfl⟩:=ry
   have:=EqAt.str_str (A:=A) (s:=s) i t i t'
   rwa [beq_self_eq_true] at this
  | byt b=>cases hk
  | flt b=>cases hk
  | ref a=>cases rx; cases ry; exact EqAt.same _
  | ty a=>cases rx; cases ry; exact EqAt.same _
 | @tup n a b xs ys ha hb hl hs ih =>
  intro v u A rx ry hu
  cases rx
  cases ry
  by_cases hab:a=b
  ·subst hab; exact EqAt.same _
  obtain ⟨its,r,ht,_⟩:=I.tuple ha
  obtain ⟨its2,r2,ht2,_⟩:=I.tuple hb
  have e1:=r.length
  have e2:=r2.length
  have q:=RcAt.tuples (e:=fun _=>true) ht ht2 (A:=A) (Nat.lt_of_le_of_lt (Nat.le_add_right _ _) hu) (fun j h1 h2=>by
   obtain ⟨x,ex,rx⟩:=r.at (j:=j) (by simpa using h1)
   obtain ⟨y,ey,ry⟩:=r2.at (j:=j) (by simpa using h2)
   have:=ih j x y ex ey A.in1 rx ry (by show A.units+1+n < cLine; lia)
   simpa using this)
  have z:((List.range (min its.toArray.size its2.toArray.size)).all (fun _=>true) && its.toArray.size == its2.toArray.size)=true:=by
   simp; lia
  rw [z] at q
  exact EqAt.of_refs hab q
 | @lst n a b xs ys ha hb hl hs ih =>
  intro v u A rx ry hu
  cases rx
  cases ry
  by_cases hab:a=b
  ·subst hab; exact EqAt.same _
  obtain ⟨its,r,ht,_⟩:=I.list ha
  obtain ⟨its2,r2,ht2,_⟩:=I.list hb
  have e1:=r.length
  have e2:=r2.length
  have q:=RcAt.lists (e:=fun _=>true) ht.isList ht2.isList (A:=A) (by simp; lia) (Nat.lt_of_le_of_lt (Nat.le_add_right _ _) hu) (fun j h1 h2=>by
   obtain ⟨x,ex,rx⟩:=r.at (j:=j) (by simpa using h1)
   obtain ⟨y,ey,ry⟩:=r2.at (j:=j) (by simpa using h2)
   have:=ih j x y ex ey A.in1 rx ry (by show A.units+1+n < cLine; lia)
   simpa using this)
  have z:((List.range its.toArray.size).all (fun _=>true))=true:=by simp
  rw [z] at q
  exact EqAt.of_refs hab q
def AlL (K:PySem.W.Frag) (H:Hp) (n:Nat) (xs ys:List V):Prop:=xs.length=ys.length∧∀ (i:Nat) (x y:V),xs[i]?=some x→ys[i]?=some y→Al K H n x y
def rAlT (K:PySem.W.Frag) (b:Bool):R2:=fun x y H Q=>∃ p q xs ys,x=.ref p∧y=.ref q∧SqT K H p xs∧SqT K H q ys∧AlL K H 8 xs ys∧Q (.bl b) H
def rAlL (K:PySem.W.Frag) (b:Bool):R2:=fun x y H Q=>∃ p q xs ys,x=.ref p∧y=.ref q∧SqL K H p xs∧SqL K H q ys∧AlL K H 8 xs ys∧Q (.bl b) H
theorem op_eqT (hu:X.A.units+100 < cLine):OpR X (compareOp .Eq) (rAlT X.K true):=by
 intro pins s σ H x y v u Q I rx ry h
 obtain ⟨a,b,xs,ys,rfl,rfl,ha,hb,⟨hl,al⟩,q⟩:=h
 cases rx
 cases ry
 obtain ⟨its,r,ht,_⟩:=I.tuple ha
 obtain ⟨its2,r2,ht2,_⟩:=I.tuple hb
 have e1:=r.length
 have e2:=r2.length
 refine SeqAt.eq_tupleAt (e:=fun _=>true) ht ht2 (by lia) (fun j h1 h2=>?_) ⟨.bl true,H,I,?_,q⟩
 ·obtain ⟨x,ex,rx⟩:=r.at (j:=j) (by simpa using h1)
  obtain ⟨y,ey,ry⟩:=r2.at (j:=j) (by simpa using h2)
  have:=(al j x y ex ey).eqAt I X.A.in1 rx ry (by show X.A.units+1+8 < cLine; lia)
  simpa using this
 ·show Value.bool _=Value.bool true
  simp; lia
theorem op_neT (hu:X.A.units+100 < cLine):OpR X (compareOp .NotEq) (rAlT X.K false):=by
 intro pins s σ H x y v u Q I rx ry h
 obtain ⟨a,b,xs,ys,rfl,rfl,ha,hb,⟨hl,al⟩,q⟩:=h
 cases rx
 cases ry
 obtain ⟨its,r,ht,_⟩:=I.tuple ha
 obtain ⟨its2,r2,ht2,_⟩:=I.tuple hb
 have e1:=r.length
 have e2:=r2.length
 refine SeqAt.RcNeAt.tuples (e:=fun _=>true) ht ht2 (by lia) (fun j h1 h2=>?_) _ _ _ _ ⟨.bl false,H,I,?_,q⟩
 ·obtain ⟨x,ex,rx⟩:=r.at (j:=j) (by simpa using h1)
  obtain ⟨y,ey,ry⟩:=r2.at (j:=j) (by simpa using h2)
  have:=(al j x y ex ey).eqAt I X.A.in1 rx ry (by show X.A.units+1+8 < cLine; lia)
  simpa using this
 ·show Value.bool _=Value.bool false
  simp; lia
theorem op_eqLs (hu:X.A.units+100 < cLine):OpR X (compareOp .Eq) (rAlL X.K true):=by
 intro pins s σ H x y v u Q I rx ry h
 obtain ⟨a,b,xs,ys,rfl,rfl,ha,hb,⟨hl,al⟩,q⟩:=h
 cases rx
 cases ry
 obtain ⟨its,r,ht,_⟩:=I.list ha
 obtain ⟨its2,r2,ht2,_⟩:=I.list hb
 have e1:=r.length
 have e2:=r2.length
 refine SeqAt.eq_listAt (e:=fun _=>true) ht.isList ht2.isList (by simp; lia) (by lia) (fun j h1 h2=>?_) ⟨.bl true,H,I,?_,q⟩
 ·obtain ⟨x,ex,rx⟩:=r.at (j:=j) (by simpa using h1)
  obtain ⟨y,ey,ry⟩:=r2.at (j:=j) (by simpa using h2)
  have:=(al j x y ex ey).eqAt I X.A.in1 rx ry (by show X.A.units+1+8 < cLine; lia)
  simpa using this
 ·show Value.bool _=Value.bool true
  simp
theorem op_neLs (hu:X.A.units+100 < cLine):OpR X (compareOp .NotEq) (rAlL X.K false):=by
 intro pins s σ H x y v u Q I rx ry h
 obtain ⟨a,b,xs,ys,rfl,rfl,ha,hb,⟨hl,al⟩,q⟩:=h
 cases rx
 cases ry
 obtain ⟨its,r,ht,_⟩:=I.list ha
 obtain ⟨its2,r2,ht2,_⟩:=I.list hb
 have e1:=r.length
 have e2:=r2.length
 refine SeqAt.RcNeAt.lists (e:=fun _=>true) ht.isList ht2.isList (by simp; lia) (by lia) (fun j h1 h2=>?_) _ _ _ _ ⟨.bl false,H,I,?_,q⟩
 ·obtain ⟨x,ex,rx⟩:=r.at (j:=j) (by simpa using h1)
  obtain ⟨y,ey,ry⟩:=r2.at (j:=j) (by simpa using h2)
  have:=(al j x y ex ey).eqAt I X.A.in1 rx ry (by show X.A.units+1+8 < cLine; lia)
  simpa using this
 ·show Value.bool _=Value.bool false
  simp
end
theorem Room.u100 {k:Nat} {A:Around} (r:Room k A):A.units+100 < cLine:=by have:=r.un; lia
end L2
end
section
namespace Hm
open PySem L2
abbrev g (xs:List V) (i:Nat):V:=xs.getD i .non
def sw (xs:List V) (i j:Nat):List V:=(xs.set i (g xs j)).set j (g xs i)
structure Od (lt:V→V→Bool):Prop where
 as:∀ a b,lt a b=true→lt b a=false
 nt:∀ a b c,lt a b=false→lt b c=false→lt a c=false
theorem sw_len {xs:List V} {i j:Nat}:(sw xs i j).length=xs.length:=by simp [sw]
theorem g_get {xs:List V} {i:Nat} (h:i < xs.length):g xs i=xs[i]:=by simp [g,List.getD_eq_getElem?_getD,h]
theorem sw_perm {xs:List V} {i j:Nat} (hi:i < xs.length) (hj:j < xs.length):(sw xs i j).Perm xs:=by
 unfold sw
 rw [g_get hi,g_get hj]
 exact List.set_set_perm hi hj
def les (lt:V→V→Bool) (xs:List V) (p:Nat):Nat:=if 2 * p+2 < xs.length∧lt (g xs (2 * p+2)) (g xs (2 * p+1))=true then 2 * p+2 else 2 * p+1
def kids (n p:Nat):Nat:=if 2 * p+2 < n then 2 else if 2 * p+1 < n then 1 else 0
def dn (lt:V→V→Bool):Nat→List V→Nat→Nat→List V × Nat
 | 0,xs,_,lk=>(xs,lk)
 | f+1,xs,p,lk=>if 2 * p+1 < xs.length then
   if lt (g xs (les lt xs p)) (g xs p)=true then dn lt f (sw xs p (les lt xs p)) (les lt xs p) (lk+kids xs.length p) else (xs,lk+kids xs.length p)
  else (xs,lk)
def up (lt:V→V→Bool):Nat→List V→Nat→Nat→List V × Nat
 | 0,xs,_,lk=>(xs,lk)
 | f+1,xs,p,lk=>if 0 < p then
   if lt (g xs p) (g xs ((p - 1) / 2))=true then up lt f (sw xs p ((p - 1) / 2)) ((p - 1) / 2) (lk+1) else (xs,lk+1)
  else (xs,lk)
theorem les_lo {lt:V→V→Bool} {xs:List V} {p:Nat}:2 * p+1≤les lt xs p:=by unfold les; split <;> lia
theorem les_lt {lt:V→V→Bool} {xs:List V} {p:Nat} (h:2 * p+1 < xs.length):les lt xs p < xs.length:=by unfold les; split <;> lia
theorem dn_len {lt:V→V→Bool}:∀ {f:Nat} {xs:List V} {p lk:Nat},(dn lt f xs p lk).1.length=xs.length
 | 0,xs,p,lk=>rfl
 | f+1,xs,p,lk=>by
  unfold dn
  split
  ·split
   ·rw [dn_len,sw_len]
   ·rfl
  ·rfl
theorem dn_perm {lt:V→V→Bool}:∀ {f:Nat} {xs:List V} {p lk:Nat},(dn lt f xs p lk).1.Perm xs
 | 0,xs,p,lk=>.refl _
 | f+1,xs,p,lk=>by
  unfold dn
  split
  ·rename_i h
   split
   ·exact dn_perm.trans (sw_perm (by lia) (les_lt h))
   ·exact .refl _
  ·exact .refl _
theorem up_perm {lt:V→V→Bool}:∀ {f:Nat} {xs:List V} {p lk:Nat},p < xs.length→(up lt f xs p lk).1.Perm xs
 | 0,xs,p,lk,_=>.refl _
 | f+1,xs,p,lk,hp=>by
  unfold up
  split
  ·split
   ·exact (up_perm (by rw [sw_len]; lia)).trans (sw_perm (by lia) (by lia))
   ·exact .refl _
  ·exact .refl _
def HF (lt:V→V→Bool) (q:Nat) (xs:List V):Prop:=∀ k,0 < k→k < xs.length→q≤(k - 1) / 2→lt (g xs k) (g xs ((k - 1) / 2))=false
def IsH (lt:V→V→Bool) (xs:List V):Prop:=∀ k,0 < k→k < xs.length→lt (g xs k) (g xs ((k - 1) / 2))=false
def mk (lt:V→V→Bool):Nat→List V→Nat→List V × Nat
 | 0,xs,lk=>(xs,lk)
 | k+1,xs,lk=>mk lt k (dn lt xs.length xs k 0).1 (lk+(dn lt xs.length xs k 0).2)
theorem mk_perm {lt:V→V→Bool}:∀ {k:Nat} {xs:List V} {lk:Nat},(mk lt k xs lk).1.Perm xs
 | 0,_,_=>.refl _
 | k+1,xs,lk=>by unfold mk; exact mk_perm.trans dn_perm
end Hm
end
section
namespace L2
open PySem
def tupE:Option HO→List V
 | some (.tup [.int i,.str n,.int j])=>[.int i,.str n,.int j]
 | _=>[.int 0,.str "",.int 0]
theorem tupE_en (o:Option HO):isEn (tupE o):=by
 unfold tupE
 split
 ·exact ⟨_,_,_,rfl⟩
 ·exact ⟨_,_,_,rfl⟩
def keyE (H:Hp):V→List V
 | .ref a=>tupE (H a)
 | _=>[.int 0,.str "",.int 0]
theorem keyE_en (H:Hp) (x:V):isEn (keyE H x):=by
 unfold keyE
 split
 ·exact tupE_en _
 ·exact ⟨_,_,_,rfl⟩
theorem keyE_at {H:Hp} {a:Addr} {l:List V} (h:H a=some (.tup l)) (e:isEn l):keyE H (.ref a)=l:=by
 obtain ⟨i,n,j,rfl⟩:=e
 show tupE (H a)=_
 rw [h]
 rfl
def ltT (t:V→List V) (a b:V):Bool:=lexV (t a) (t b)
structure EnR (t:V→List V) (H:Hp) (xs:List V):Prop where
 tot:∀ x,isEn (t x)
 mem:∀ x∈xs,∃ a,x=.ref a∧H a=some (.tup (t x))
section
variable {t:V→List V} {H H':Hp} {xs ys:List V}
theorem EnR.sub (e:EnR t H xs) (s:∀ y∈ys,y∈xs):EnR t H ys:=⟨e.tot,fun x hx=>e.mem x (s x hx)⟩
theorem EnR.move (e:EnR t H xs) (s:∀ b l,H b=some (.tup l)→H' b=some (.tup l)):EnR t H' xs:=⟨e.tot,fun x hx=>by
 obtain ⟨a,rfl,h⟩:=e.mem x hx
 exact ⟨a,rfl,s _ _ h⟩⟩
theorem EnR.put (e:EnR t H xs) {p:Addr} {o:HO} {zs:List V} (h:H p=some (.lst zs)):EnR t (upd H p o) xs:=e.move fun b l q=>by rw [upd_ne (ne_of q h (by intro z; cases z))]; exact q
theorem EnR.bar (e:EnR t H xs) {r:Addr} {zs:List V} (h:H r=some (.lst zs)) (s:∀ b o,H b=some o→b≠r→H' b=some o):EnR t H' xs:=e.move fun b l q =>
 s b _ q (ne_of q h (by intro z; cases z))
theorem EnR.fit (e:EnR t H xs) (x y:V):fitL (t x) (t y):=fit_en (e.tot _) (e.tot _)
theorem EnR.gat (e:EnR t H xs) {i:Nat} (h:i < xs.length):∃ a,Hm.g xs i=.ref a∧H a=some (.tup (t (Hm.g xs i)))∧Hm.g xs i∈xs∧atI xs (i:Int)=some (Hm.g xs i):=by
 have hm:Hm.g xs i∈xs:=by rw [Hm.g_get h]; exact List.getElem_mem h
 obtain ⟨a,e1,h1⟩:=e.mem _ hm
 refine ⟨a,e1,h1,hm,atI_nat ?_⟩
 rw [Hm.g_get h]
 exact List.getElem?_eq_getElem h
end
theorem at_g {xs:List V} {i:Nat} (h:i < xs.length):atI xs (i:Int)=some (Hm.g xs i):=atI_nat (by rw [Hm.g_get h]; exact List.getElem?_eq_getElem h)
end L2
namespace Hm
open PySem L2
variable {lt:V→V→Bool} {xs:List V} {f p lk:Nat}
theorem dn_stop (h:¬ 2 * p+1 < xs.length):dn lt f xs p lk=(xs,lk):=by
 cases f with
 | zero=>rfl
 | succ f=>unfold dn; rw [if_neg h]
theorem dn_stay (h:2 * p+1 < xs.length) (q:lt (g xs (les lt xs p)) (g xs p)=false):dn lt (f+1) xs p lk=(xs,lk+kids xs.length p):=by
 unfold dn; rw [if_pos h,if_neg (by rw [q]; exact Bool.false_ne_true)]
theorem dn_go (h:2 * p+1 < xs.length) (q:lt (g xs (les lt xs p)) (g xs p)=true):dn lt (f+1) xs p lk=dn lt f (sw xs p (les lt xs p)) (les lt xs p) (lk+kids xs.length p):=by
 conv=>lhs; unfold dn
 rw [if_pos h,if_pos q]
theorem up_stop (h:¬ 0 < p):up lt f xs p lk=(xs,lk):=by
 cases f with
 | zero=>rfl
 | succ f=>unfold up; rw [if_neg h]
theorem up_stay (h:0 < p) (q:lt (g xs p) (g xs ((p - 1) / 2))=false):up lt (f+1) xs p lk=(xs,lk+1):=by
 unfold up; rw [if_pos h,if_neg (by rw [q]; exact Bool.false_ne_true)]
theorem up_go (h:0 < p) (q:lt (g xs p) (g xs ((p - 1) / 2))=true):up lt (f+1) xs p lk=up lt f (sw xs p ((p - 1) / 2)) ((p - 1) / 2) (lk+1):=by
 conv=>lhs; unfold up
 rw [if_pos h,if_pos q]
theorem les_two (h:2 * p+2 < xs.length):(les lt xs p:Int)=2 * (p:Int)+1+(if lt (g xs (2 * p+2)) (g xs (2 * p+1))=true then 1 else 0):=by
 unfold les
 by_cases q:lt (g xs (2 * p+2)) (g xs (2 * p+1))=true
 ·rw [if_pos ⟨h,q⟩,if_pos q]; lia
 ·rw [if_neg (fun z=>q z.2),if_neg q]; lia
theorem les_one (h:¬ 2 * p+2 < xs.length):les lt xs p=2 * p+1:=by
 unfold les
 rw [if_neg (fun z=>h z.1)]
theorem sw_mem {i j:Nat} (hi:i < xs.length) (hj:j < xs.length):∀ y∈sw xs i j,y∈xs:=fun y hy=>(sw_perm hi hj).mem_iff.mp hy
end Hm
end
section
namespace L2
open PySem
theorem comp_list {K:PySem.W.Frag} {a:Addr} {xs:List V} {tt:TT} {te:TE} {cap:List Nat} {σ:St} {H:Hp} {D:Addr} {Q:VK} (Pv:Nat→List V→Hp→Prop) (h0:Pv 0 [] (upd H D (.lst []))) (hD:∀ i ys H,Pv i ys H→H D=some (.lst ys)∧SqL K H a xs)
  (hs:∀ i x ys H,xs[i]?=some x→Pv i ys H→tt (some x :: capσ cap σ) H fun b H3 =>
   if b=true then te (some x :: capσ cap σ) H3 fun v H4=>H4 D=some (.lst ys)∧ys.length < sizeLine∧∃ m',m' < xs.length - i∧m'=xs.length - (i+1)∧i+1≤xs.length∧Pv (i+1) (ys++[v]) (upd H4 D (.lst (ys++[v])))
   else ∃ m',m' < xs.length - i∧m'=xs.length - (i+1)∧i+1≤xs.length∧Pv (i+1) ys H3)
  (hd:∀ ys H,Pv xs.length ys H→Q (.ref D) H) :
  ∃ W:Nat→Nat→List V→Hp→Prop,(∃ m,W 0 m [] (upd H D (.lst [])))∧∀ i m ys H,W i m ys H→H D=some (.lst ys) ∧
  (((Itl K a).stop i H∧Q (.ref D) H)∨((Itl K a).go i H∧∀ x H',(Itl K a).yld i H x H'→tt (some x :: capσ cap σ) H' fun b H3 =>
   if b=true then te (some x :: capσ cap σ) H3 fun v H4=>H4 D=some (.lst ys)∧ys.length < sizeLine∧∃ m',m' < m∧W (i+1) m' (ys++[v]) (upd H4 D (.lst (ys++[v])))
   else ∃ m',m' < m∧W (i+1) m' ys H3)):=by
 refine ⟨fun i m ys H=>m=xs.length - i∧i≤xs.length∧Pv i ys H,⟨xs.length,by simp,Nat.zero_le _,h0⟩,?_⟩
 rintro i m ys H ⟨rfl,hi,p⟩
 obtain ⟨q1,q⟩:=hD i ys H p
 refine ⟨q1,?_⟩
 by_cases hlt:i < xs.length
 ·refine .inr ⟨⟨xs,xs[i],q,by simp [hlt]⟩,fun x H' y=>?_⟩
  obtain ⟨e,y⟩:=y
  subst e
  exact hs i x ys _ (y xs q) p
 ·have e:i=xs.length:=by lia
  subst e
  exact .inl ⟨⟨xs,q,Nat.le_refl _⟩,hd ys H p⟩
end L2
namespace Hm
open PySem L2
def wy:Nat→Nat→List Nat
 | 0,_=>[]
 | f+1,p=>if 0 < p then (p - 1) / 2 :: wy f ((p - 1) / 2) else []
end Hm
end
section
namespace L2
open PySem PySem.Spec PyProof.Rows
def Itd (lo:Int) (n:Nat):It:=⟨fun i _=>i < n,fun i H x H'=>H'=H∧x=.int (lo - i),fun i _=>n≤i⟩
theorem rsz_dn (a b:Int):Builtin.Range.rangeSize a b (-1)=((a - b).toNat:Int):=by
 unfold Builtin.Range.rangeSize
 rw [if_neg (by decide)]
 split
 ·rw [show -(-1:Int)=1 by decide,Int.ediv_one]; lia
 ·lia
theorem small_dn {a b:Int} (ha:-(2 ^ 62)≤a) (ha':a < 2 ^ 62) (hb:-(2 ^ 62)≤b) (hb':b < 2 ^ 62):Builtin.Range.small a b (-1)=true:=by
 unfold Builtin.Range.small
 rw [rsz_dn]
 simp only [Builtin.Range.rangeFitsLong,Bool.and_eq_true,Bool.or_eq_true,decide_eq_true_eq,beq_iff_eq,show ¬ ((-1:Int) > 0) by decide,if_false]
 lia
section
variable {X:Cx} {tg:Expr}
def iRngD (ta:TA):TI:=fun σ H R=>ta σ H fun vs H1=>∃ i j:Int,vs=[.int i,.int j,.int (-1)]∧(-(2 ^ 62)≤i∧i < 2 ^ 62∧-(2 ^ 62)≤j∧j < 2 ^ 62)∧R (Itd i (i - j).toNat) H1
theorem for_rangeD {lo:Int} {n:Nat} {g:TG} {tb:TS} {D:Ends} {σ:St} {H:Hp} (Pv:Nat→St→Hp→Prop) (h0:Pv 0 σ H)
  (hs:∀ i σ H,i < n→Pv i σ H→g (.int (lo - i)) σ H fun σ2 H2=>tb { D with nx:=Pv (i+1),ct:=Pv (i+1),bk:=D.nx } σ2 H2) (hd:∀ σ H,Pv n σ H→D.nx σ H) :
  ∃ W:Nat→Nat→St→Hp→Prop,(∃ m,W 0 m σ H)∧∀ i m σ H,W i m σ H →
   ((Itd lo n).stop i H∧D.nx σ H)∨((Itd lo n).go i H∧∃ N:St→Hp→Prop,(∀ σ' H',N σ' H'→∃ m',m' < m∧W (i+1) m' σ' H')∧∀ x H',(Itd lo n).yld i H x H'→g x σ H' fun σ2 H2=>tb { D with nx:=N,ct:=N,bk:=D.nx } σ2 H2):=by
 refine ⟨fun i m σ H=>m=n - i∧i≤n∧Pv i σ H,⟨n,by simp,Nat.zero_le _,h0⟩,?_⟩
 rintro i m σ H ⟨rfl,hi,p⟩
 by_cases hlt:i < n
 ·refine .inr ⟨hlt,Pv (i+1),fun σ' H' p'=>⟨n - (i+1),by lia,rfl,hlt,p'⟩,fun x H' y=>?_⟩
  obtain ⟨e,y⟩:=y
  subst e y
  exact hs i σ _ hlt p
 ·have e:i=n:=by lia
  subst e
  exact .inl ⟨Nat.le_refl _,hd σ H p⟩
end
end L2
namespace L2
open PySem
theorem comp_listR {K:PySem.W.Frag} {a:Addr} {xs:List V} {tt:TT} {te:TE} {cap:List Nat} {σ:St} {H:Hp} {D:Addr} {R:Hp→Prop} (Pv:Nat→List V→Hp→Prop) (h0:Pv 0 [] (upd H D (.lst []))) (hD:∀ i ys H,Pv i ys H→H D=some (.lst ys)∧SqL K H a xs)
  (hs:∀ i x ys H,xs[i]?=some x→Pv i ys H→tt (some x :: capσ cap σ) H fun b H3 =>
   if b=true then te (some x :: capσ cap σ) H3 fun v H4=>H4 D=some (.lst ys)∧ys.length < sizeLine∧∃ m',m' < xs.length - i∧m'=xs.length - (i+1)∧i+1≤xs.length∧Pv (i+1) (ys++[v]) (upd H4 D (.lst (ys++[v])))
   else ∃ m',m' < xs.length - i∧m'=xs.length - (i+1)∧i+1≤xs.length∧Pv (i+1) ys H3)
  (hd:∀ ys H,Pv xs.length ys H→R H) :
  ∃ W:Nat→Nat→List V→Hp→Prop,(∃ m,W 0 m [] (upd H D (.lst [])))∧∀ i m ys H,W i m ys H→H D=some (.lst ys) ∧
  (((Itl K a).stop i H∧R H)∨((Itl K a).go i H∧∀ x H',(Itl K a).yld i H x H'→tt (some x :: capσ cap σ) H' fun b H3 =>
   if b=true then te (some x :: capσ cap σ) H3 fun v H4=>H4 D=some (.lst ys)∧ys.length < sizeLine∧∃ m',m' < m∧W (i+1) m' (ys++[v]) (upd H4 D (.lst (ys++[v])))
   else ∃ m',m' < m∧W (i+1) m' ys H3)) :=
 comp_list (Q:=fun _ H=>R H) Pv h0 hD hs hd
end L2
end
section
namespace TS
open PySem PyProof.Rows
section
variable {prog:Program} {w:World} {A:Around} {E:Value→Shared→Prop} {s:Shared} {κ:KeyKind} {kd:SortKind}
end
end TS
namespace L2
open PySem PySem.Spec PyProof.Rows
section
variable {X:Cx}
end
end L2
end
section
namespace Hm
open PySem L2
def lgs (n:Nat):Nat→Nat
 | 0=>0
 | k+1=>lgs n k+(n / (k+1)).log2
def cutf (lt:V→V→Bool) (xs:List V):List V × Nat :=
 if xs.dropLast=[] then ([],0) else dn lt xs.dropLast.length (xs.dropLast.set 0 (g xs (xs.length - 1))) 0 0
theorem split_ends {xs:List V} (h:2≤xs.length):∃ mid,xs=g xs 0 :: mid++[g xs (xs.length - 1)]∧xs.dropLast=g xs 0 :: mid:=by
 cases xs with
 | nil=>simp at h
 | cons a l =>
  have hl:l≠[]:=by intro e; rw [e] at h; simp at h
  refine ⟨l.dropLast,?_,?_⟩
  ·show a :: l=a :: l.dropLast++[g (a :: l) l.length]
   have:g (a :: l) l.length=l.getLast hl:=by
    rw [g_get (by simp)]
    rw [List.getLast_eq_getElem]
    rw [List.getElem_cons]
    have:l.length≠0:=by intro e; exact hl (List.length_eq_zero_iff.mp e)
    simp [this]
   rw [this,List.cons_append,List.dropLast_concat_getLast]
  ·show (a :: l).dropLast=a :: l.dropLast
   exact List.dropLast_cons_of_ne_nil hl
theorem cutf_one {lt:V→V→Bool} {xs:List V} (h:xs.length=1):cutf lt xs=([],0):=by
 unfold cutf
 rw [if_pos]
 rw [← List.length_eq_zero_iff,List.length_dropLast,h]
theorem cutf_two {lt:V→V→Bool} {xs mid:List V} (e:xs.dropLast=g xs 0 :: mid):cutf lt xs=dn lt (mid.length+1) (g xs (xs.length - 1) :: mid) 0 0:=by
 unfold cutf
 rw [if_neg (by rw [e]; simp),e]
 rfl
theorem cutf_perm {lt:V→V→Bool} {xs:List V} (h:0 < xs.length):(g xs 0 :: (cutf lt xs).1).Perm xs:=by
 by_cases h2:2≤xs.length
 ·obtain ⟨mid,e,e2⟩:=split_ends h2
  rw [cutf_two e2]
  refine (List.Perm.cons _ dn_perm).trans ?_
  conv=>rhs; rw [e]
  rw [List.cons_append]
  refine List.Perm.cons _ ?_
  exact (List.perm_append_comm (l₁:=[g xs (xs.length - 1)]) (l₂:=mid))
 ·rw [cutf_one (by lia)]
  cases xs with
  | nil=>simp at h
  | cons a l =>
   have:l=[]:=List.length_eq_zero_iff.mp (by rw [List.length_cons] at h2; lia)
   subst this
   exact .refl _
end Hm
namespace L2
open PySem PySem.Spec PyProof.Rows
open PySem.SeqAt (EqAt RcAt RcNeAt)
theorem qe_bm0 {X:Cx} {o:Expr} {to:TE} {name:Str} {apos cpos:Pos} {T id:String} {r:V→List V→Hp→VK→Prop} (pa:PlainAttrs T) (slot:Slot T name id) (hty:typeOf (.builtin id)=pure (.type "method_descriptor")) (hm:MtR X id r) (ho:QE X o to)
  (hbase:attributeBase o name X.env (eval o X.env)=eval o X.env:=by rfl) (hline:(apos.endLine == cpos.line)=true:=by rfl):QE X (.Call (.Attribute o name apos) [] [] cpos) (tBM0 X.K T r to):=.mk (pe_bm0 pa slot hty hm ho.to hbase hline)
theorem qs_never {X:Cx} {st:Stmt}:QS X st (fun _ _ _=>False):=.mk ps_never
end L2
end
section
namespace PySem
open Sem (wp)
namespace Heap
def TracedC (h base:Heap) (e:Addr) (cls a0:Value):Prop :=
 ∃ oe vs T oT ts,h.get? e=some oe∧(oe.cls=cls∧(vs[0]?=some a0∧vs[2]?=some .none))∧oe.data=.fields vs∧vs[1]?=some (.ref T)∧base.get? T=none∧T≠e∧h.get? T=some oT∧oT.data=.fields ts∧ts[3]?=some .none
def TracedAtC (h base:Heap) (e:Addr) (cls a0 fl:Value):Prop :=
 ∃ oe vs T oT ts,h.get? e=some oe∧(oe.cls=cls∧(vs[0]?=some a0∧vs[2]?=some .none))∧oe.data=.fields vs∧vs[1]?=some (.ref T)∧base.get? T=none∧T≠e∧h.get? T=some oT∧oT.data=.fields ts∧ts[3]?=some fl
theorem TracedC.at {h base:Heap} {e:Addr} {cls a0:Value} (x:h.TracedC base e cls a0):h.TracedAtC base e cls a0 .none:=x
def NotedC (base:Heap) (l:List Env) (e:Addr) (cls a0 fl:Value) (h h':Heap):Prop :=
 base.StaysIn h'∧h'.FunFrames base l∧h'.TracedAtC base e cls a0 fl∧∀ b o,h.get? b=some o→(∀ vs,o.data≠.fields vs)→∃ sl,h'.get? b=some { o with slots:=sl }
end Heap
section
variable {M:Model} {A:Around} {E:Value→Shared→Prop} {s:Shared}
def Heap.LeftC (base:Heap) (l:List Env) (e:Addr) (cls a0:Value) (h h':Heap):Prop :=
 base.StaysIn h'∧h'.FunFrames base l∧h'.TracedC base e cls a0 ∧
  ∀ b o,h.get? b=some o→(∀ vs,o.data≠.fields vs)→∃ sl,h'.get? b=some { o with slots:=sl }
theorem wpAny_newEntryC {base:Heap} {env:Env} {outer:List Env} {L e:Addr} {oe:Obj} {vs:Array Value} {head a0:Value} {hadNext:Bool} {Q:Unit→Shared→Prop}
  (hfr:A.frames=some (env :: outer)) (hl:s.heap.FunFrames base (env :: outer)) (hf:env.frame=some L)
  (he:s.heap.get? e=some oe) (hkb:base.StaysIn s.heap) (hen:base.get? e=none) (hd:oe.data=.fields vs) (hsz:1 < vs.size) (h0:vs[0]?=some a0∧vs[2]?=some .none)
  (h:∀ h',Heap.LeftC base (env :: outer) e oe.cls a0 s.heap h'→Q () { s with heap:=h' }) :
  wpAny M A (do let a ← frameOf env; let pl ← entryPlaceOf L hadNext; let b ← EntryCells.newEntry head a .none (rawInt L) .none pl; setField (.ref e) 1 b) (fun _ s'=>wpAny M A (setFlight (.ref e) none) Q E s') E s:=by
 have hene:e ∉ (env :: outer).filterMap (·.frame):=fun hm=>by
  obtain ⟨_,o,ho,hnf⟩:=hl.mem hm
  rw [he] at ho; injection ho with ho; subst ho; exact hnf vs hd
 refine wpAny_bind (wpAny_frameOf_fun hfr hl hf fun h₁ hs₁=>?_)
 refine wpAny_bind (wpAny_entryPlaceOf fun pl hpl=>?_)
 unfold EntryCells.newEntry newFields
 refine wpAny_bind (wpAny_newObj_type ?_ (hpl.sizeOk5 _ _ _ _ _))
 have he₁:h₁.get? e=some oe:=(hs₁.2.1 e hene).trans he
 have kb₁:base.StaysIn h₁:=fun b o hbo=>(hs₁.2.1 b fun hm=>by rw [(hl.mem hm).1] at hbo; cases hbo).trans (hkb b o hbo)
 have he₂:=Heap.get?_push_of_some (h:=h₁) { cls:=.type "traceback",dict:=none,data:=.fields ([head,.ref L,.none,rawInt L,.none]++(if pl.isEmpty then List.replicate 6 Value.none else pl)).toArray } he₁
 refine wpAny_setField he₂ hd hsz ?_
 have hTe:h₁.objs.size≠e:=Nat.ne_of_gt (Heap.lt_size he₁)
 have hd₃:=Obj.data_mapFields hd (·.setIfInBounds 1 (Value.ref h₁.objs.size))
 have he₃:=Heap.get?_update_self (Obj.mapFields (·.setIfInBounds 1 (Value.ref h₁.objs.size))) he₂ (Obj.isFreed_of_fields hd₃)
 have hT₃:=(Heap.get?_update_other (h₁.push { cls:=.type "traceback",dict:=none,data:=.fields ([head,.ref L,.none,rawInt L,.none]++(if pl.isEmpty then List.replicate 6 Value.none else pl)).toArray })
  (Obj.mapFields (·.setIfInBounds 1 (Value.ref h₁.objs.size))) (Ne.symm hTe)).trans (Heap.get?_push_size h₁ rfl)
 unfold setFlight
 refine wpAny_bind (wpAny_field he₃ hd₃ (x:=.ref h₁.objs.size) (by simp [hsz]) ?_)
 rw [if_pos (show (Value.ref h₁.objs.size != Value.none)=true from by simp)]
 refine wpAny_setField hT₃ rfl (by simp only [List.size_toArray,List.length_append,List.length_cons,List.length_nil] <;> lia) (h _ ?_)
 have keep:∀ b o,b≠e→h₁.get? b=some o →
   (((h₁.push { cls:=.type "traceback",dict:=none,data:=.fields ([head,.ref L,.none,rawInt L,.none]++(if pl.isEmpty then List.replicate 6 Value.none else pl)).toArray }).update e (Obj.mapFields (·.setIfInBounds 1 (Value.ref h₁.objs.size)))).update h₁.objs.size
    (Obj.mapFields (·.setIfInBounds 3 ((none:Option Addr).elim Value.none fun f=>rawInt f)))).get? b=some o:=fun b o hbe hb=>by
  have hbT:h₁.objs.size≠b:=Nat.ne_of_gt (Heap.lt_size hb)
  rw [Heap.get?_update_other _ _ hbT,Heap.get?_update_other _ _ (Ne.symm hbe)]
  exact Heap.get?_push_of_some _ hb
 have noRecord:∀ b o,s.heap.get? b=some o→(∀ vs,o.data≠.fields vs)→b≠e:=fun b o hb hnf q=>by
  rw [q,he] at hb; injection hb with hb; subst hb; exact hnf vs hd
 refine ⟨fun b o hbo=>keep b o (fun q=>by rw [q,hen] at hbo; cases hbo) (kb₁ b o hbo),hl.of_keeps fun b o hb hnf=>?_,?_,fun b o hb hnf=>?_⟩
 ·obtain ⟨sl,hs⟩:=hs₁.2.2 b o hb
  exact ⟨_,keep b _ (noRecord b o hb hnf) hs,rfl⟩
 ·refine ⟨_,_,h₁.objs.size,_,_,?_,⟨Obj.cls_mapFields _ _,by rw [Array.getElem?_setIfInBounds_ne (by decide)]; exact h0.1,by rw [Array.getElem?_setIfInBounds_ne (by decide)]; exact h0.2⟩,hd₃,by simp [hsz],kb₁.fresh,hTe,Heap.get?_update_self _ hT₃ (Obj.isFreed_of_fields (Obj.data_mapFields rfl _)),Obj.data_mapFields rfl _,by first | (simp; done) | (rcases hpl with rfl | ⟨_,_,_,_,_,_,_,rfl⟩ <;> simp)⟩
  rw [Heap.get?_update_other _ _ hTe]; exact he₃
 ·obtain ⟨sl,hs⟩:=hs₁.2.2 b o hb
  exact ⟨sl,keep b _ (noRecord b o hb hnf) hs⟩
theorem wpAny_leaving_firstC {base:Heap} {env:Env} {outer:List Env} {L e:Addr} {oe:Obj} {vs:Array Value} {a0:Value} {Q:Unit→Shared→Prop}
  (hfr:A.frames=some (env :: outer)) (hl:s.heap.FunFrames base (env :: outer)) (hf:env.frame=some L)
  (he:s.heap.get? e=some oe) (hkb:base.StaysIn s.heap) (hen:base.get? e=none) (hd:oe.data=.fields vs) (h1:vs[1]?=some .none) (h0:vs[0]?=some a0∧vs[2]?=some .none)
  (h:∀ h',Heap.LeftC base (env :: outer) e oe.cls a0 s.heap h'→Q () { s with heap:=h' }):wpAny M A (leaving env (.ref e)) Q E s:=by
 unfold leaving noteFrame
 simp only [hf]
 refine wpAny_bind (wpAny_bind (wpAny_field he hd h1 ?_))
 rw [if_neg (by decide)]
 exact wpAny_newEntryC hfr hl hf he hkb hen hd (Array.getElem?_eq_some_iff.mp h1).1 h0 h
theorem wpAny_leaving_nextC {base:Heap} {env:Env} {outer:List Env} {L e:Addr} {cls a0:Value} {Q:Unit→Shared→Prop}
  (hfr:A.frames=some (env :: outer)) (hl:s.heap.FunFrames base (env :: outer)) (hf:env.frame=some L) (ht:s.heap.TracedC base e cls a0) (hkb:base.StaysIn s.heap) (hen:base.get? e=none)
  (h:∀ h',Heap.LeftC base (env :: outer) e cls a0 s.heap h'→Q () { s with heap:=h' }):wpAny M A (leaving env (.ref e)) Q E s:=by
 obtain ⟨oe,vs,T,oT,ts,he,⟨hcls,h0⟩,hd,h1,hnT,hTe,hT,hdT,h3⟩:=ht
 subst hcls
 unfold leaving noteFrame
 simp only [hf]
 refine wpAny_bind (wpAny_bind (wpAny_field he hd h1 ?_))
 rw [if_pos (show (Value.ref T != Value.none)=true from by simp)]
 refine wpAny_bind (wpAny_field hT hdT h3 ?_)
 rw [if_neg (show ¬ ((Value.none == rawInt L)=true) from by simp [rawInt])]
 refine wpAny_bind (wpAny_setField hT hdT (Array.getElem?_eq_some_iff.mp h3).1 ?_)
 have other:∀ b,b≠T→(s.heap.update T (Obj.mapFields (·.setIfInBounds 3 Value.none))).get? b=s.heap.get? b:=fun b hb=>Heap.get?_update_other _ _ (Ne.symm hb)
 have noRecord:∀ b o,s.heap.get? b=some o→(∀ vs,o.data≠.fields vs)→b≠T:=fun b o hb hnf q=>by
  rw [q,hT] at hb; injection hb with hb; subst hb; exact hnf ts hdT
 refine wpAny_newEntryC hfr (hl.of_keeps fun b o hb hnf=>⟨o,(other b (noRecord b o hb hnf)).trans hb,rfl⟩) hf ((other e (Ne.symm hTe)).trans he)
  (fun b o hbo=>(other b fun q=>by rw [q,hnT] at hbo; cases hbo).trans (hkb b o hbo)) hen hd (Array.getElem?_eq_some_iff.mp h1).1 h0
  fun h' ⟨x1,x2,x3,x4⟩=>h h' ⟨x1,x2,x3,fun b o hb hnf=>x4 b o ((other b (noRecord b o hb hnf)).trans hb) hnf⟩
def Heap.FlyingC (base:Heap) (l:List Env) (e:Addr) (cls a0:Value) (h:Heap):Prop :=
 base.StaysIn h∧base.get? e=none∧h.FunFrames base l∧h.TracedC base e cls a0
theorem Heap.FlyingC.there {base h:Heap} {l:List Env} {e:Addr} {cls a0:Value} (x:Heap.FlyingC base l e cls a0 h):∃ ob,h.get? e=some ob∧ob.cls=cls:=by
 obtain ⟨_,_,_,oe,_,_,_,_,he,hc,_⟩:=x
 exact ⟨oe,he,hc.1⟩
theorem wpAny_leaves_onC {base:Heap} {env:Env} {outer:List Env} {L e:Addr} {cls a0:Value} {Q:Unit→Shared→Prop}
  (hfr:A.frames=some (env :: outer)) (hf:env.frame=some L) (hfl:Heap.FlyingC base (env :: outer) e cls a0 s.heap)
  (hQ:∀ h',Heap.FlyingC base outer e cls a0 h'→s.heap.UpToSlots h'→Q () { s with heap:=h' }):wpAny M A (leaving env (.ref e)) Q E s:=by
 obtain ⟨f1,f2,f3,f4⟩:=hfl
 refine wpAny_leaving_nextC hfr f3 hf f4 f1 f2 fun h' hL=>?_
 obtain ⟨k1,⟨_,_,k2⟩,k3,k4⟩:=hL
 exact hQ h' ⟨k1,f2,k2,k3⟩ k4
theorem wpAny_entryC {base:Heap} {env:Env} {outer:List Env} {L e:Addr} {oe:Obj} {vs:Array Value} {head a0:Value} {hadNext:Bool} {Q:Unit→Shared→Prop}
  (hfr:A.frames=some (env :: outer)) (hl:s.heap.FunFrames base (env :: outer)) (hf:env.frame=some L)
  (he:s.heap.get? e=some oe) (hkb:base.StaysIn s.heap) (hen:base.get? e=none) (hd:oe.data=.fields vs) (hsz:1 < vs.size) (h0:vs[0]?=some a0∧vs[2]?=some .none)
  (h:∀ h',Heap.NotedC base (env :: outer) e oe.cls a0 (rawInt L) s.heap h'→Q () { s with heap:=h' }) :
  wpAny M A (do let a ← frameOf env; let pl ← entryPlaceOf L hadNext; let b ← EntryCells.newEntry head a .none (rawInt L) .none pl; setField (.ref e) 1 b) Q E s:=by
 have hene:e ∉ (env :: outer).filterMap (·.frame):=fun hm=>by
  obtain ⟨_,o,ho,hnf⟩:=hl.mem hm
  rw [he] at ho; injection ho with ho; subst ho; exact hnf vs hd
 refine wpAny_bind (wpAny_frameOf_fun hfr hl hf fun h₁ hs₁=>?_)
 refine wpAny_bind (wpAny_entryPlaceOf fun pl hpl=>?_)
 unfold EntryCells.newEntry newFields
 refine wpAny_bind (wpAny_newObj_type ?_ (hpl.sizeOk5 _ _ _ _ _))
 have he₁:h₁.get? e=some oe:=(hs₁.2.1 e hene).trans he
 have kb₁:base.StaysIn h₁:=fun b o hbo=>(hs₁.2.1 b fun hm=>by rw [(hl.mem hm).1] at hbo; cases hbo).trans (hkb b o hbo)
 have he₂:=Heap.get?_push_of_some (h:=h₁) { cls:=.type "traceback",dict:=none,data:=.fields ([head,.ref L,.none,rawInt L,.none]++(if pl.isEmpty then List.replicate 6 Value.none else pl)).toArray } he₁
 refine wpAny_setField he₂ hd hsz (h _ ?_)
 have hTe:h₁.objs.size≠e:=Nat.ne_of_gt (Heap.lt_size he₁)
 have hd₃:=Obj.data_mapFields hd (·.setIfInBounds 1 (Value.ref h₁.objs.size))
 have he₃:=Heap.get?_update_self (Obj.mapFields (·.setIfInBounds 1 (Value.ref h₁.objs.size))) he₂ (Obj.isFreed_of_fields hd₃)
 have hT₃:=(Heap.get?_update_other (h₁.push { cls:=.type "traceback",dict:=none,data:=.fields ([head,.ref L,.none,rawInt L,.none]++(if pl.isEmpty then List.replicate 6 Value.none else pl)).toArray })
  (Obj.mapFields (·.setIfInBounds 1 (Value.ref h₁.objs.size))) (Ne.symm hTe)).trans (Heap.get?_push_size h₁ rfl)
 have keep:∀ b o,b≠e→h₁.get? b=some o →
   ((h₁.push { cls:=.type "traceback",dict:=none,data:=.fields ([head,.ref L,.none,rawInt L,.none]++(if pl.isEmpty then List.replicate 6 Value.none else pl)).toArray }).update e (Obj.mapFields (·.setIfInBounds 1 (Value.ref h₁.objs.size)))).get? b=some o :=
  fun b o hbe hb=>by
   rw [Heap.get?_update_other _ _ (Ne.symm hbe)]
   exact Heap.get?_push_of_some _ hb
 have noRecord:∀ b o,s.heap.get? b=some o→(∀ vs,o.data≠.fields vs)→b≠e:=fun b o hb hnf q=>by
  rw [q,he] at hb; injection hb with hb; subst hb; exact hnf vs hd
 refine ⟨fun b o hbo=>keep b o (fun q=>by rw [q,hen] at hbo; cases hbo) (kb₁ b o hbo),hl.of_keeps fun b o hb hnf=>?_,?_,fun b o hb hnf=>?_⟩
 ·obtain ⟨sl,hs⟩:=hs₁.2.2 b o hb
  exact ⟨_,keep b _ (noRecord b o hb hnf) hs,rfl⟩
 ·exact ⟨_,_,h₁.objs.size,_,_,he₃,⟨Obj.cls_mapFields _ _,by rw [Array.getElem?_setIfInBounds_ne (by decide)]; exact h0.1,by rw [Array.getElem?_setIfInBounds_ne (by decide)]; exact h0.2⟩,hd₃,by simp [hsz],kb₁.fresh,hTe,hT₃,rfl,by first | (simp; done) | (rcases hpl with rfl | ⟨_,_,_,_,_,_,_,rfl⟩ <;> simp)⟩
 ·obtain ⟨sl,hs⟩:=hs₁.2.2 b o hb
  exact ⟨sl,keep b _ (noRecord b o hb hnf) hs⟩
theorem wpAny_noteFrame_onC {base:Heap} {env:Env} {outer:List Env} {L e:Addr} {cls a0:Value} {Q:Unit→Shared→Prop}
  (hfr:A.frames=some (env :: outer)) (hl:s.heap.FunFrames base (env :: outer)) (hf:env.frame=some L) (ht:s.heap.TracedC base e cls a0) (hkb:base.StaysIn s.heap) (hen:base.get? e=none)
  (h:∀ h',Heap.NotedC base (env :: outer) e cls a0 (rawInt L) s.heap h'→Q () { s with heap:=h' }):wpAny M A (noteFrame (.ref e) env) Q E s:=by
 obtain ⟨oe,vs,T,oT,ts,he,⟨hcls,h0⟩,hd,h1,hnT,hTe,hT,hdT,h3⟩:=ht
 subst hcls
 unfold noteFrame
 simp only [hf]
 refine wpAny_bind (wpAny_field he hd h1 ?_)
 rw [if_pos (show (Value.ref T != Value.none)=true from by simp)]
 refine wpAny_bind (wpAny_field hT hdT h3 ?_)
 rw [if_neg (show ¬ ((Value.none == rawInt L)=true) from by simp [rawInt])]
 refine wpAny_bind (wpAny_setField hT hdT (Array.getElem?_eq_some_iff.mp h3).1 ?_)
 have other:∀ b,b≠T→(s.heap.update T (Obj.mapFields (·.setIfInBounds 3 Value.none))).get? b=s.heap.get? b:=fun b hb=>Heap.get?_update_other _ _ (Ne.symm hb)
 have noRecord:∀ b o,s.heap.get? b=some o→(∀ vs,o.data≠.fields vs)→b≠T:=fun b o hb hnf q=>by
  rw [q,hT] at hb; injection hb with hb; subst hb; exact hnf ts hdT
 refine wpAny_entryC hfr (hl.of_keeps fun b o hb hnf=>⟨o,(other b (noRecord b o hb hnf)).trans hb,rfl⟩) hf ((other e (Ne.symm hTe)).trans he)
  (fun b o hbo=>(other b fun q=>by rw [q,hnT] at hbo; cases hbo).trans (hkb b o hbo)) hen hd (Array.getElem?_eq_some_iff.mp h1).1 h0
  fun h' ⟨x1,x2,x3,x4⟩=>h h' ⟨x1,x2,x3,fun b o hb hnf=>x4 b o ((other b (noRecord b o hb hnf)).trans hb) hnf⟩
theorem wpAny_setFlight_noneC {base:Heap} {l:List Env} {e:Addr} {cls a0 fl:Value} {Q:Unit→Shared→Prop}
  (hkb:base.StaysIn s.heap) (hl:s.heap.FunFrames base l) (ht:s.heap.TracedAtC base e cls a0 fl)
  (h:∀ h',base.StaysIn h'→h'.FunFrames base l→h'.TracedC base e cls a0→(∀ b o,s.heap.get? b=some o→(∀ vs,o.data≠.fields vs)→h'.get? b=some o)→Q () { s with heap:=h' }) :
  wpAny M A (setFlight (.ref e) none) Q E s:=by
 obtain ⟨oe,vs,T,oT,ts,he,hcls,hd,h1,hnT,hTe,hT,hdT,h3⟩:=ht
 have hsz3:3 < ts.size:=(Array.getElem?_eq_some_iff.mp h3).1
 have other:∀ b,b≠T→(s.heap.update T (Obj.mapFields (·.setIfInBounds 3 ((none:Option Addr).elim Value.none fun f=>rawInt f)))).get? b=s.heap.get? b :=
  fun b hb=>Heap.get?_update_other _ _ (Ne.symm hb)
 have noRecord:∀ b o,s.heap.get? b=some o→(∀ vs,o.data≠.fields vs)→b≠T:=fun b o hb hnf q=>by
  rw [q,hT] at hb; injection hb with hb; subst hb; exact hnf ts hdT
 unfold setFlight
 refine wpAny_bind (wpAny_field he hd h1 ?_)
 rw [if_pos (show (Value.ref T != Value.none)=true from by simp)]
 refine wpAny_setField hT hdT hsz3 (h _ (fun b o hbo=>(other b fun q=>by rw [q,hnT] at hbo; cases hbo).trans (hkb b o hbo))
  (hl.of_keeps fun b o hb hnf=>⟨o,(other b (noRecord b o hb hnf)).trans hb,rfl⟩) ?_ fun b o hb hnf=>(other b (noRecord b o hb hnf)).trans hb)
 exact ⟨oe,vs,T,_,_,(other e (Ne.symm hTe)).trans he,hcls,hd,h1,hnT,hTe,Heap.get?_update_self _ hT (Obj.isFreed_of_fields (Obj.data_mapFields hdT _)),Obj.data_mapFields hdT _,by simp [hsz3]⟩
def Heap.HeldC (base:Heap) (l:List Env) (e:Addr) (cls a0:Value) (L:Addr) (h:Heap):Prop :=
 base.StaysIn h∧base.get? e=none∧h.FunFrames base l∧h.TracedAtC base e cls a0 (rawInt L)
theorem wpAny_looks_onC {base:Heap} {env:Env} {outer:List Env} {L e:Addr} {cls a0:Value} {Q:Unit→Shared→Prop}
  (hfr:A.frames=some (env :: outer)) (hf:env.frame=some L) (hfl:Heap.FlyingC base (env :: outer) e cls a0 s.heap)
  (hQ:∀ h',Heap.HeldC base (env :: outer) e cls a0 L h'→s.heap.UpToSlots h'→Q () { s with heap:=h' }):wpAny M A (noteFrame (.ref e) env) Q E s:=by
 obtain ⟨f1,f2,f3,f4⟩:=hfl
 refine wpAny_noteFrame_onC hfr f3 hf f4 f1 f2 fun h' hN=>?_
 obtain ⟨k1,k2,k3,k4⟩:=hN
 exact hQ h' ⟨k1,f2,k2,k3⟩ k4
theorem wpAny_landsC {base:Heap} {l:List Env} {e L:Addr} {cls a0:Value} {Q:Unit→Shared→Prop} (hh:Heap.HeldC base l e cls a0 L s.heap)
  (hQ:∀ h',Heap.FlyingC base l e cls a0 h'→s.heap.UpToSlots h'→Q () { s with heap:=h' }):wpAny M A (setFlight (.ref e) none) Q E s:=by
 obtain ⟨f1,f2,f3,f4⟩:=hh
 exact wpAny_setFlight_noneC f1 f3 f4 fun h' k1 k2 k3 k4=>hQ h' ⟨k1,f2,k2,k3⟩ fun b o hb hn=>⟨o.slots,k4 b o hb hn⟩
theorem wpAny_leaves_madeC {base h:Heap} {env:Env} {outer:List Env} {L e:Addr} {cls:Value} {args:List Value} {Q:Unit→Shared→Prop}
  (hfr:A.frames=some (env :: outer)) (hf:env.frame=some L) (hkb:base.StaysIn h) (hl:h.FunFrames base (env :: outer)) (hx:Heap.MadeExcOf h s.heap e cls args)
  (hQ:∀ h' t,Heap.FlyingC base outer e cls (.ref t) h'→h'.TupAt t args→base.get? t=none→s.heap.UpToSlots h'→Q () { s with heap:=h' }):wpAny M A (leaving env (.ref e)) Q E s:=by
 obtain ⟨t,he,htn,ht⟩:=hx.there
 have fresh:∀ b,h.get? b=none→base.get? b=none:=fun b hb=>by
  cases hq:base.get? b with
  | none=>rfl
  | some o'=>have:=hkb b o' hq; rw [hb] at this; cases this
 refine wpAny_leaving_firstC (a0:=.ref t) hfr (hl.of_keeps fun b o hb _=>⟨o,hx.keeps b o hb,rfl⟩) hf he (fun b o hb=>hx.keeps b o (hkb b o hb)) (fresh e hx.new) rfl rfl ⟨rfl,rfl⟩ fun h' hL=>?_
 obtain ⟨k1,⟨_,_,k2⟩,k3,k4⟩:=hL
 exact hQ h' t ⟨k1,fresh e hx.new,k2,k3⟩ (Heap.TupAt.of_slots ⟨_,_,ht,rfl,rfl⟩ k4) (fresh t htn) k4
end
end PySem
namespace L2
open PySem PySem.Spec PyProof.Rows
theorem lands_againC {M:Model} {A:Around} {E:Value→Shared→Prop} {s:Shared} {base:Heap} {l:List Env} {e:Addr} {cls a0:Value} {Q:Unit→Shared→Prop} (hh:Heap.FlyingC base l e cls a0 s.heap)
  (hQ:∀ h',Heap.FlyingC base l e cls a0 h'→s.heap.UpToSlots h'→Q () { s with heap:=h' }):wpAny M A (setFlight (.ref e) none) Q E s:=by
 obtain ⟨f1,f2,f3,f4⟩:=hh
 exact wpAny_setFlight_noneC f1 f3 f4.at fun h' k1 k2 k3 k4=>hQ h' ⟨k1,f2,k2,k3⟩ fun b o hb hn=>⟨o.slots,k4 b o hb hn⟩
end L2
end
section
namespace L2
open PySem PySem.Spec PyProof.Rows
structure Ground (P:Program) (w:World) (fs:List Addr) (H H':Hp) (h B:Heap):Prop where
 ok:HOk P w H' B
 old:∀ b o,h.get? b=some o→H b=none→b ∉ fs→B.get? b=some o
 there:∀ b o,h.get? b=some o→b ∉ fs→∃ o',B.get? b=some o'
def CXe (P:Program) (w:World):CXT:=fun outer H s E v s'=>∃ (e C:Addr) (H':Hp) (B:Heap) (a0:Value),v=.ref e∧s'.os=s.os∧AllBare s'.gens∧Un (frs outer) [] H H' s.heap s'.heap ∧
 Ground P w (frs outer) H H' s.heap B∧Heap.FlyingC B outer e (.ref C) a0 s'.heap∧E (.ref C) none H'
theorem HOk.get {P:Program} {w:World} {H:Hp} {h:Heap} {a:Addr} {o:HO} (x:HOk P w H h) (e:H a=some o):∃ ob,h.get? a=some ob:=by
 have q:=x a o e
 cases o with
 | lst xs=>obtain ⟨_,_,_,_,e⟩:=q; exact ⟨_,e⟩
 | tup xs=>obtain ⟨_,_,_,ob,e,_⟩:=q; exact ⟨_,e⟩
 | dK kvs=>obtain ⟨_,_,_,_,o,_,_,e,_⟩:=q; exact ⟨_,e⟩
 | dT kvs=>obtain ⟨_,_,_,_,o,_,_,e,_⟩:=q; exact ⟨_,e⟩
 | set S n=>obtain ⟨o,_,_,_,e,_⟩:=q; exact ⟨_,e⟩
 | ins C dx fs=>obtain ⟨_,_,_,e,_⟩:=q; exact ⟨_,e⟩
 | own y=>obtain ⟨_,e⟩:=q; exact ⟨_,e⟩
 | xd fs=>obtain ⟨_,⟨_,_,_,e,_⟩,_⟩:=q; exact ⟨_,e⟩
 | rng lo hi=>obtain ⟨_,_,_,e⟩:=q; exact ⟨_,e⟩
 | frz ob u=>obtain ⟨e,_⟩:=q; exact ⟨_,e⟩
 | tbl ps=>exact ⟨_,show h.get? a=some _ from q⟩
 | met f y=>exact ⟨_,show h.get? a=some _ from q⟩
 | ext φ=>obtain ⟨_,e,_⟩:=q; exact e
section
variable {X:Cx} {pins:List (Addr × Obj)} {σ:St} {H H':Hp} {s s':Shared} {B:Heap}
def Kp (X:Cx) (pins:List (Addr × Obj)) (σ:St) (H':Hp) (s':Shared) (B:Heap):Prop:=∀ h' t',B.StaysIn h'→s'.heap.UpToSlots h'→Inv X pins σ H' { s' with heap:=h',toks:=t' }
theorem Inv.kp (I:Inv X pins σ H s) (os:s'.os=s.os) (bare:AllBare s'.gens) (U:Un (frs X.stack) [] H H' s.heap s'.heap) (G:Ground X.prog X.w (frs X.stack) H H' s.heap B):Kp X pins σ H' s' B:=fun h' t' st up=>by
 have nof:∀ b∈frs X.stack,∀ o,s.heap.get? b=some o→∃ sl,h'.get? b=some { o with slots:=sl }:=fun b hb o e=>by
  obtain ⟨_,o',ho',hd⟩:=I.stack.mem hb
  rw [e] at ho'
  cases ho'
  obtain ⟨sl,e1⟩:=U.slot b o e (I.stkFree b hb) hb (by simp)
  exact up b { o with slots:=sl } e1 hd
 have U2:Un (frs X.stack) [] H H' s.heap h':=⟨fun b o e n hb _=>st b o (G.old b o e n hb),fun b o e n hb _=>nof b hb o e,U.free,fun b o e _=>by
  by_cases hb:b∈frs X.stack
  ·obtain ⟨sl,q⟩:=nof b hb o e
   exact ⟨_,q⟩
  ·obtain ⟨o',q⟩:=G.there b o e hb
   exact ⟨o',st b o' q⟩,U.tups,U.frzs,U.tbls⟩
 obtain ⟨hh,g,d,t,o'⟩:=s'
 obtain rfl:o'=s.os:=os
 have:=I.call (h':=h') (g':=g) (d':=d) (t':=t') (ch:=[]) U2 (G.ok.kept st) bare (fun b z=>absurd z (by simp))
 exact this
def Kt (X:Cx) (pins:List (Addr × Obj)) (σ:St) (H':Hp) (s':Shared) (B:Heap):Prop:=∀ h' t' e o,B.StaysIn h'→s'.heap.UpToSlots h'→B.get? e=none→e ∉ frs X.stack→ObjOk X.prog X.w (upd H' e o) h' e o→Inv X pins σ (upd H' e o) { s' with heap:=h',toks:=t' }
theorem Inv.kt (I:Inv X pins σ H s) (os:s'.os=s.os) (bare:AllBare s'.gens) (U:Un (frs X.stack) [] H H' s.heap s'.heap) (G:Ground X.prog X.w (frs X.stack) H H' s.heap B):Kt X pins σ H' s' B:=fun h' t' e o st up hn hf new=>by
 have nof:∀ b∈frs X.stack,∀ o,s.heap.get? b=some o→∃ sl,h'.get? b=some { o with slots:=sl }:=fun b hb o e=>by
  obtain ⟨_,o',ho',hd⟩:=I.stack.mem hb
  rw [e] at ho'
  cases ho'
  obtain ⟨sl,e1⟩:=U.slot b o e (I.stkFree b hb) hb (by simp)
  exact up b { o with slots:=sl } e1 hd
 have tr:∀ b u,H' b=some u→b≠e:=fun b u q z=>by
  obtain ⟨ob,q2⟩:=G.ok.get q
  rw [z,hn] at q2; cases q2
 have U2:Un (frs X.stack) [] H (upd H' e o) s.heap h':=⟨fun b o e n hb _=>st b o (G.old b o e n hb),fun b o e n hb _=>nof b hb o e,fun b o1 e1 n hx=>by
  have hb:b≠e:=fun z=>by
   subst z
   have:=G.old b o1 e1 n hf
   rw [hn] at this; cases this
  rw [upd_ne hb]
  exact U.free b o1 e1 n hx,fun b o e _=>by
  by_cases hb:b∈frs X.stack
  ·obtain ⟨sl,q⟩:=nof b hb o e
   exact ⟨_,q⟩
  ·obtain ⟨o',q⟩:=G.there b o e hb
   exact ⟨o',st b o' q⟩,fun b xs q=>by rw [upd_ne (tr b _ (U.tups b xs q))]; exact U.tups b xs q,fun b ob u q=>by rw [upd_ne (tr b _ (U.frzs b ob u q))]; exact U.frzs b ob u q,fun b ps q=>by
   obtain ⟨m,q2⟩:=U.tbls b ps q
   exact ⟨m,by rw [upd_ne (tr b _ q2)]; exact q2⟩⟩
 have hk:HOk X.prog X.w (upd H' e o) h':=fun b u q=>by
  by_cases hb:b=e
  ·subst hb
   rw [upd_same] at q
   cases q
   exact new
  ·rw [upd_ne hb] at q
   exact (G.ok b u q).stay (fun c v _ z=>st c v z) (fun c z=>by rw [upd_ne (tr c _ z)]; exact z) fun c xs z=>by rw [upd_ne (tr c _ z)]; exact z
 obtain ⟨hh,g,d,t,o'⟩:=s'
 obtain rfl:o'=s.os:=os
 have:=I.call (h':=h') (g':=g) (d':=d) (t':=t') (ch:=[]) U2 hk bare (fun b z=>absurd z (by simp))
 exact this
def XP (X:Cx) (pins:List (Addr × Obj)) (σ:St) (E:XK) (v:Value) (s':Shared):Prop:=∃ (e C:Addr) (H':Hp) (B:Heap) (a0:Value),v=.ref e∧Heap.FlyingC B X.stack e (.ref C) a0 s'.heap ∧
 Kp X pins σ H' s' B∧Kt X pins σ H' s' B∧HOk X.prog X.w H' B∧(∀ b o,X.s₀.heap.get? b=some o→X.H₀ b=none→b ∉ X.ex→b ∉ frs X.stack→B.get? b=some o)∧(∀ b o,X.s₀.heap.get? b=some o→b ∉ X.ex→b ∉ frs X.stack→∃ o',B.get? b=some o')∧E (.ref C) none H'
theorem Inv.xp {E:XK} {v:Value} (I:Inv X pins σ H s) (h:CXe X.prog X.w X.stack H s E v s'):XP X pins σ E v s':=by
 have hst:∀ b∈X.fs,b∈frs X.stack:=fun b hb=>by
  rcases I.ok.stk with e | ⟨e,_⟩
  ·rw [e]; exact hb
  ·rw [e]
   obtain ⟨env,he,hf⟩:=List.mem_filterMap.mp hb
   exact List.mem_filterMap.mpr ⟨env,List.mem_cons_of_mem _ he,hf⟩
 obtain ⟨e,C,H',B,a0,rfl,os,bare,U,G,fl,q⟩:=h
 refine ⟨e,C,H',B,a0,rfl,fl,I.kp os bare U G,I.kt os bare U G,G.ok,fun b o e n hx hb=>?_,fun b o e hx hb=>?_,q⟩
 ·exact G.old b o (I.base.keep b o e n (fun z=>hb (hst b z)) hx) (I.base.free b o e n hx) hb
 ·obtain ⟨o',e1⟩:=I.base.there b o e hx
  exact G.there b o' e1 hb
end
section
variable {P:Program} {w:World} {K:PySem.W.Frag} {mg:Str→Option Value} {base:Heap} {N:List Str} {qual:Str} {scope:Scope} {f:Addr} {cd:Value} {A:Around} {outer:List Env} {s₀:Shared} {H₀:Hp} {E:XK}
theorem made_leaves {pins:List (Addr × Obj)} {σ:St} {H:Hp} {s:Shared} {h':Heap} {e C:Addr} {args:List Value} (I:Inv (cxOf (CXe P w) P w K mg base N qual scope f cd A outer s₀ H₀ E) pins σ H s) (hx:Heap.MadeExcOf s.heap h' e (.ref C) args) (q:E (.ref C) none H):(cxOf (CXe P w) P w K mg base N qual scope f cd A outer s₀ H₀ E).xe (.ref e) { s with heap:=h' }:=by
 have hin:∀ env∈(cxOf (CXe P w) P w K mg base N qual scope f cd A outer s₀ H₀ E).stack,∀ b,env.frame=some b→b∈frs (cxOf (CXe P w) P w K mg base N qual scope f cd A outer s₀ H₀ E).stack:=fun env he b hb=>List.mem_filterMap.mpr ⟨env,he,hb⟩
 have hsub:∀ b,b∈frs (cxOf (CXe P w) P w K mg base N qual scope f cd A outer s₀ H₀ E).stack→b=s₀.heap.objs.size∨b∈frs outer:=fun b hb=>by
  obtain ⟨env,he,hf⟩:=List.mem_filterMap.mp hb
  rcases List.mem_cons.mp he with rfl | he
  ·exact .inl (Option.some.inj hf).symm
  ·exact .inr (List.mem_filterMap.mpr ⟨env,he,hf⟩)
 refine wpAny_leaves_madeC (base:=PySem.W.hideAll s.heap (frs (cxOf (CXe P w) P w K mg base N qual scope f cd A outer s₀ H₀ E).stack)) (s:={ s with heap:=h' }) I.ok.frames rfl (fun b o q=>PySem.W.of_hideAll _ q) (PySem.W.funFrames_hide I.stack hin) hx fun h2 t fl _ _ up=>?_
 have up2:s.heap.UpToSlots h2:=(Heap.UpToSlots.of_keeps hx.keeps).trans up
 have st:=fl.1
 have old:∀ b o,s.heap.get? b=some o→b ∉ frs (cxOf (CXe P w) P w K mg base N qual scope f cd A outer s₀ H₀ E).stack→(PySem.W.hideAll s.heap (frs (cxOf (CXe P w) P w K mg base N qual scope f cd A outer s₀ H₀ E).stack)).get? b=some o:=fun b o e nb=>PySem.W.hideAll_get _ e nb
 have nL:∀ b o,s₀.heap.get? b=some o→b ∉ frs outer→b ∉ frs (cxOf (CXe P w) P w K mg base N qual scope f cd A outer s₀ H₀ E).stack:=fun b o e nb hb=>by
  rcases hsub b hb with rfl | z
  ·exact absurd (Heap.lt_size e) (Nat.lt_irrefl _)
  ·exact nb z
 have fr2:∀ b∈frs outer,∀ o,s.heap.get? b=some o→∃ sl,h2.get? b=some { o with slots:=sl }:=fun b hb o e=>by
  have hb':b∈frs (cxOf (CXe P w) P w K mg base N qual scope f cd A outer s₀ H₀ E).stack:=by
   obtain ⟨env,he,hf⟩:=List.mem_filterMap.mp hb
   exact List.mem_filterMap.mpr ⟨env,List.mem_cons_of_mem _ he,hf⟩
  obtain ⟨_,o',ho',hd⟩:=I.stack.mem hb'
  rw [e] at ho'
  cases ho'
  exact up2 b o e hd
 have hokB:HOk P w H (PySem.W.hideAll s.heap (frs (cxOf (CXe P w) P w K mg base N qual scope f cd A outer s₀ H₀ E).stack)):=fun a o ea=>(I.hok a o ea).stay (fun b u hb q=>old b u q fun z=>by
  have:=I.stkFree b z
  rcases hb with rfl | hb
  ·rw [ea] at this; cases this
  ·rw [hb] at this; cases this) (fun _ q=>q) fun _ _ q=>q
 refine ⟨e,C,H,PySem.W.hideAll s.heap (frs (cxOf (CXe P w) P w K mg base N qual scope f cd A outer s₀ H₀ E).stack),.ref t,rfl,I.os,I.bare,⟨fun b o e n hb _=>?_,fun b o e n hb _=>?_,I.base.free,fun b o e _=>?_,I.base.tups,I.base.frzs,I.base.tbls⟩,⟨hokB,fun b o e n hb=>old b o (I.base.keep b o e n hb (List.not_mem_nil)) (nL b o e hb),fun b o e hb=>?_⟩,fl,q⟩
 ·exact st b o (old b o (I.base.keep b o e n hb List.not_mem_nil) (nL b o e hb))
 ·obtain ⟨sl,e1⟩:=I.base.slot b o e n hb List.not_mem_nil
  obtain ⟨sl2,e2⟩:=fr2 b hb _ e1
  exact ⟨sl2,e2⟩
 ·obtain ⟨o',e1⟩:=I.base.there b o e List.not_mem_nil
  by_cases hb:b∈frs outer
  ·obtain ⟨sl,e2⟩:=fr2 b hb o' e1
   exact ⟨_,e2⟩
  ·exact ⟨o',st b o' (old b o' e1 (nL b o e hb))⟩
 ·obtain ⟨o',e1⟩:=I.base.there b o e List.not_mem_nil
  exact ⟨o',old b o' e1 (nL b o e hb)⟩
end
def mroHas (K:PySem.W.Frag) (C:Addr) (v:Value):Bool:=match K.lookup C with
 | some ⟨_,_,.cls cd,_⟩=>cd.mro.contains v
 | _=>false
theorem exc_at {K:PySem.W.Frag} {h:Heap} {C:Addr} {bmB:List Value} {newId:String} (ki:K.In h) (z:PySem.W.excIn K C bmB newId=true) :
  ∃ tl N1 nm q bs b1 b2 b3 b4 b5 b6 k0 k1 k2 k3 k5 mN,h.get? C=some (excClassObj nm q C N1 bs tl b1 b2 b3 b4 b5 b6 k0 k1 k2 k3 k5 newId)∧h.Ns N1 mN∧mN "__init__"=none∧OwnTail h bmB tl∧∀ v,mroHas K C v=(Value.ref C :: tl).contains v:=by
 unfold PySem.W.excIn at z
 split at z
 case h_2=>cases z
 rename_i dc cl so hlk
 split at z
 case h_2=>cases z
 rename_i C1 tl a0 a1 a2 a3 nw a5 hmr hso
 simp only [Bool.and_eq_true,beq_iff_eq,Bool.not_eq_true'] at z
 obtain ⟨⟨⟨⟨⟨e1,e2⟩,e3⟩,e4⟩,e5⟩,e6⟩:=z
 subst e1 e2
 cases cl with
 | mk c1 c2 c3 c4 c5 c6 c7 c8 c9 cA cB =>
  dsimp only at hmr e3 e5 e6
  subst hmr e3
  cases so with
  | mk l =>
   have hl:l=[a0,a1,a2,a3,some (.builtin nw),a5]:=hso
   subst hl
   refine ⟨tl,_,_,_,_,_,_,_,_,_,_,_,_,_,_,_,_,ki _ _ hlk,.of_isNs (PySem.W.isNs_of_in ki e5),PySem.W.nsMap_none_of_in ki e5 e6,PySem.W.tail_of_in ki e4,fun v=>?_⟩
   unfold mroHas
   rw [hlk]
section
variable {P:Program} {w:World} {K:PySem.W.Frag} {mg:Str→Option Value} {base:Heap} {N:List Str} {qual:Str} {scope:Scope} {f:Addr} {cd:Value} {A:Around} {outer:List Env} {s₀:Shared} {H₀:Hp} {E:XK}
def tRaise (E:XK) (C:Addr) (ta:TA):TS:=fun _ σ H=>ta σ H fun vs H1=>vs.length≤1000∧E (.ref C) none H1
theorem ps_raiseC {C:Addr} {x:Str} {e:Expr} {es:List Expr} {ta:TA} {np cpos pos:Pos} {B newId initId:String} {bm:List Value} (FB:ExcBaseFacts B newId initId bm) (hB:bm.contains (.type B)=true) (hg:Gl (cxOf (CXe P w) P w K mg base N qual scope f cd A outer s₀ H₀ E) x) (hm:mg x=some (.ref C)) (hC:PySem.W.excIn K C bm newId=true) (hh:A.handled=none)
  (ha:PA (cxOf (CXe P w) P w K mg base N qual scope f cd A outer s₀ H₀ E) (e :: es) ta) (he:starEach (e :: es) (cxOf (CXe P w) P w K mg base N qual scope f cd A outer s₀ H₀ E).env=(false,eval e (cxOf (CXe P w) P w K mg base N qual scope f cd A outer s₀ H₀ E).env) :: starEach es (cxOf (CXe P w) P w K mg base N qual scope f cd A outer s₀ H₀ E).env:=by rfl) (hpl:(backTo cpos (starEach es (cxOf (CXe P w) P w K mg base N qual scope f cd A outer s₀ H₀ E).env)).any (·.1)=false:=by rfl) (hd:(x == ("__debug__":Str))=false:=by decide) :
  PS (cxOf (CXe P w) P w K mg base N qual scope f cd A outer s₀ H₀ E) (.Raise (some (.Call (.Name x np) (e :: es) [] cpos)) none pos) (tRaise E C ta):=by
 intro pins s σ H D I h
 obtain ⟨tl,N1,nm,q,bs,b1,b2,b3,b4,b5,b6,k0,k1,k2,k3,k5,mN,oC,oN,oi,oT,_⟩:=exc_at I.ok.mod.kin hC
 have h1:=ha cpos pins s σ H _ I h
 refine wpAny_Raise_call_subU (C:=C) (nm:=nm) (q:=q) (N:=N1) (bs:=bs) (bm:=tl) (hdct:=b1) (sn:=b2) (sub:=b3) (ab:=b4) (col:=b5) (dd:=b6) (k0:=k0) (k1:=k1) (k2:=k2) (k3:=k3) (k5:=k5) FB hB FB (mN:=mN) (oT.hasType FB.hasBase) hh ?_ oi (ld_glob I hg hm ⟨rfl,?_⟩ hd)
 ·rw [he]
  show (false || (backTo cpos (starEach es (cxOf (CXe P w) P w K mg base N qual scope f cd A outer s₀ H₀ E).env)).any (·.1))=false
  rw [hpl]; rfl
 rw [he] at h1 ⊢
 refine Calls.evalArgs_plain (thn h1 fun us s1 ⟨vs,H1,I1,r,hz,q1⟩=>?_)
 have hl:us.length≤sizeLine:=by rw [← r.length]; exact Nat.le_trans hz (by decide)
 exact ⟨rfl,hl,I1.bk _ _ oC,oN.keeps I1.bk,oT.keeps I1.bk,fun h' e' hx=>made_leaves I1 hx q1⟩
end
end L2
end
section
namespace L2
open PySem PySem.Spec PyProof.Rows
abbrev TEX:=St→Hp→VK→XK→Prop
abbrev XS:=Value→St→Hp→Prop
abbrev TSX:=Ends→XS→St→Hp→Prop
def PEX (X:Cx) (e:Expr) (t:TEX):Prop :=
 ∀ (pins:List (Addr × Obj)) (s:Shared) (σ:St) (H:Hp) (Q:VK) (E:XK),Inv X pins σ H s→t σ H Q E→wpAny (model X.prog X.w) X.A (eval e X.env) (EP X pins σ Q) (XP X pins σ E) s
def XSP (X:Cx) (pins:List (Addr × Obj)) (E:XS) (v:Value) (s':Shared):Prop:=∃ σ',XP X pins σ' (fun c _ H'=>E c σ' H') v s'
def PSX (X:Cx) (st:Stmt) (t:TSX):Prop :=
 ∀ (pins:List (Addr × Obj)) (s:Shared) (σ:St) (H:Hp) (D:Ends) (E:XS),Inv X pins σ H s→t D E σ H→wpAny (model X.prog X.w) X.A (exec st X.env) (SP X pins D) (XSP X pins E) s
def PSsX (X:Cx) (st:List Stmt) (t:TSX):Prop :=
 ∀ (pins:List (Addr × Obj)) (s:Shared) (σ:St) (H:Hp) (D:Ends) (E:XS),Inv X pins σ H s→t D E σ H→wpAny (model X.prog X.w) X.A (execs st X.env) (SP X pins D) (XSP X pins E) s
section
variable {X:Cx} {k:Nat} {f:Addr} {fd:FuncData} {ps:List Str} {sp:Sp} {dvs:List V} {ds:List Value} {x:Str} {p pos:Pos} {e:Expr} {es:List Expr} {t:TA} {te:TEX}
theorem run_fnX {pins:List (Addr × Obj)} {σ:St} {H:Hp} {s:Shared} {Q:VK} {E:XK} {us:List Value} {vs:List V} (F:FnOk X.prog X.w X.K X.mg X.base (CXe X.prog X.w) k f fd ps sp) (hr:Room k X.A) (hb:Binds X.K fd ps ds) (hd:Vals dvs ds)
  (I:Inv X pins σ H s) (r:Vals vs us) (h:sp (vs++dvs) H Q E):wpAny (model X.prog X.w) X.A (call (.ref f) us) (EP X pins σ Q) (XP X pins σ E) s:=by
 have r2:Vals (vs++dvs) (us++ds):=r.append hd
 have hl:(us++ds).length=ps.length:=by rw [← r2.length]; exact F.len _ _ _ _ h
 refine wpAny_call (codeAny_mono (F.run X.A X.stack s H ⟨us,[]⟩ (us++ds) (vs++dvs) Q E hr I.env0 (hb s us I.kIn hl) r2 h) fun r s' hq=>?_)
 cases r with
 | error e=>exact I.xp hq
 | ok fl =>
  cases fl with
  | ret u=>exact I.after hq
  | next=>exact False.elim hq
  | brk=>exact False.elim hq
  | cont=>exact False.elim hq
def tDropX (te:TEX):TSX:=fun D E σ H=>te σ H (fun _ H'=>D.nx σ H') fun c _ H'=>E c σ H'
theorem psx_expr (he:PEX X e te) (hs:swapsWith e none pos.line X.env=pure false:=by rfl):PSX X (.Expr e pos) (tDropX te):=by
 intro pins s σ H D E I h
 exact wpAny_Expr_any (wpAny_mono (he pins s σ H _ _ I h) (fun v s1 ⟨x,H1,I1,r1,q1⟩=>⟨σ,H1,I1,q1⟩) fun v s1 q=>⟨σ,q⟩) I.quiet hs
theorem psxs_one {st:Stmt} {t:TSX} (h1:PSX X st t):PSsX X [st] t:=by
 intro pins s σ H D E I h
 refine wpAny_execs_cons (thn (h1 pins s σ H D E I h) fun f s1 q=>?_)
 cases f with
 | next=>exact wpAny_execs_nil q
 | ret v=>exact q
 | brk=>exact q
 | cont=>exact q
abbrev Cx.inX (X:Cx) (e:Addr):Cx:={ X with A:=X.A.mark (some (.ref e)),calm:=false }
theorem Cx.Ok.inX (ok:X.Ok) (e:Addr):(X.inX e).Ok :=
 ⟨ok.mod,ok.kind,ok.glob,ok.blt,ok.above,ok.inj,ok.has,ok.cab,(fun z=>by cases z),ok.frames,ok.stk,ok.exf,ok.bs,ok.bsz,ok.noex,ok.exfs,ok.funs,ok.frf⟩
theorem Inv.inX {pins:List (Addr × Obj)} {σ:St} {H:Hp} {s:Shared} (I:Inv X pins σ H s) (e:Addr):Inv (X.inX e) pins σ H s:=⟨I.ok.inX e,I.os,I.bare,I.base,I.loc,I.cell,I.free,I.freeC,I.pin,I.hok,I.len⟩
theorem xc_match {M:Model} {A:Around} {E:Value→Shared→Prop} {h:Heap} {g:Array GenState} {d:Drawn} {t:Nat} {os:OsState} {e C C2:Addr} {oe:Obj} {Q:Bool→Shared→Prop}
  {nm q:Str} {N1:Addr} {bs tl:List Value} {b1:Bool} {b2:List Str} {b3:List Value} {b4:Bool} {b5:Option Bool} {b6:Option Addr} {k0 k1 k2 k3 k5:Option Value} {newId:String}
  {nm' q':Str} {N1':Addr} {bs' tl':List Value} {b1':Bool} {b2':List Str} {b3':List Value} {b4':Bool} {b5':Option Bool} {b6':Option Addr} {k0' k1' k2' k3' k5':Option Value} {newId':String}
  (hC:h.get? C=some (excClassObj nm q C N1 bs tl b1 b2 b3 b4 b5 b6 k0 k1 k2 k3 k5 newId)) (hC2:h.get? C2=some (excClassObj nm' q' C2 N1' bs' tl' b1' b2' b3' b4' b5' b6' k0' k1' k2' k3' k5' newId'))
  (he:h.get? e=some oe) (hcls:oe.cls=.ref C) (hbase:tl'.contains (.type "BaseException")=true) (hsub:(Value.ref C :: tl).contains (.ref C2)=true)
  (hq:Q true ⟨h,g,d,t,os⟩):wpAny M A (excMatches (.ref e) (.ref C2)) Q E ⟨h,g,d,t,os⟩:=by
 have z1:(Value.ref C2 :: tl').contains (.type "BaseException")=true:=by rw [List.contains_cons,hbase,Bool.or_true]
 have z2:=tc_notTuple
 unfold excMatches
 repeat (first | (with_reducible refine wpAny_loadPart_at he ?_; rw [hcls]) | with_reducible refine wpAny_loadPart_at hC2 ?_ | (with_reducible refine wpAny_isSubtype_exc hC2 ?_; rw [z1]) | (with_reducible refine wpAny_isSubtype_exc hC ?_; rw [hsub]) | wp_step)
 exact hq
end
end L2
end
section
namespace L2
open PySem PySem.W PySem.Spec PySem.Calls PyProof.Rows PySem.Builtin PySem.Builtin.ObjectAttr PySem.Builtin.Getset_descriptor
section
variable {prog:Program} {w:World} {A:Around} {E:Value→Shared→Prop} {s:Shared} {K:Frag} {x C:Addr}
end
section
variable {X:Cx}
theorem qe_glob {x:Str} {v:V} {u:Value} {pos:Pos} (hg:Gl X x) (hm:X.mg x=some u) (r:RelV v u) (hd:(x == ("__debug__":Str))=false:=by decide):QE X (.Name x pos) (tC v):=.mk (pe_glob hg hm r hd)
end
section
variable {P:Program} {w:World} {K:Frag} {mg:Str→Option Value} {base:Heap}
theorem Fun.okE {x qual:Str} {st:Stmt} {f:Addr} {fd:FuncData} {N ps:List Str} {k:Nat} {sp:Sp} (F:Fun K x qual st f fd) (S:FnScope N ps (defScope st)) (len:∀ vs H Q E,sp vs H Q E→vs.length=ps.length)
  (hbody:∀ (cdv:Value) (A:Around) (outer:List Env) (s:Shared) (H:Hp) (vs:List V) (Q:VK) (E:XK),Room k (A.deeper (envOfC qual (defScope st) s.heap.objs.size f cdv))→sp vs H Q E →
   ∃ t,PSs (cxOf (CXe P w) P w K mg base N qual (defScope st) f cdv A outer s H E) (defBody st) t∧t { nx:=fun _ H'=>Q .non H',rt:=Q } (start N vs) H):FnOk P w K mg base (CXe P w) (k+1) f fd ps sp:=by
 obtain ⟨oc,od,kV,doc,pm,an,cdv,ct,osl,rfl,lk,hcd⟩:=F.ex
 exact fn_of lk hcd S len fun A outer s H vs Q E hr hsp=>hbody cdv A outer s H vs Q E hr hsp
end
section
variable {P:Program} {w:World} {K:Frag} {mg:Str→Option Value} {base:Heap} {N:List Str} {qual:Str} {scope:Scope} {f:Addr} {cd:Value} {A:Around} {outer:List Env} {s₀:Shared} {H₀:Hp} {E:XK}
theorem qs_raiseC {C:Addr} {x:Str} {e:Expr} {es:List Expr} {ta:TA} {np cpos pos:Pos} {B newId initId:String} {bm:List Value} (FB:ExcBaseFacts B newId initId bm) (hB:bm.contains (.type B)=true) (hg:Gl (cxOf (CXe P w) P w K mg base N qual scope f cd A outer s₀ H₀ E) x) (hm:mg x=some (.ref C)) (hC:excIn K C bm newId=true) (hh:A.handled=none)
  (ha:QA (cxOf (CXe P w) P w K mg base N qual scope f cd A outer s₀ H₀ E) (e :: es) ta) (he:starEach (e :: es) (cxOf (CXe P w) P w K mg base N qual scope f cd A outer s₀ H₀ E).env=(false,eval e (cxOf (CXe P w) P w K mg base N qual scope f cd A outer s₀ H₀ E).env) :: starEach es (cxOf (CXe P w) P w K mg base N qual scope f cd A outer s₀ H₀ E).env:=by rfl) (hpl:(backTo cpos (starEach es (cxOf (CXe P w) P w K mg base N qual scope f cd A outer s₀ H₀ E).env)).any (·.1)=false:=by rfl) (hd:(x == ("__debug__":Str))=false:=by decide) :
  QS (cxOf (CXe P w) P w K mg base N qual scope f cd A outer s₀ H₀ E) (.Raise (some (.Call (.Name x np) (e :: es) [] cpos)) none pos) (tRaise E C ta):=.mk (ps_raiseC FB hB hg hm hC hh ha.to he hpl hd)
end
end L2
end
section
namespace Hm
open PySem L2
variable {lt:V→V→Bool}
end Hm
namespace L2
open PySem PySem.W
theorem mro_of {K:Frag} {C:Addr} {v:Value} {b:Bool} (e:mroIn K C v=some b):mroHas K C v=b:=by
 obtain ⟨cd,h1,h2⟩:=Option.bind_eq_some_iff.mp e
 unfold clsIn at h1
 split at h1
 ·rename_i ho
  cases h1
  split at h2
  ·cases h2
  ·cases h2
   unfold mroHas
   rw [ho]
 ·cases h1
end L2
end
section
namespace L2
open PySem PySem.Spec PyProof.Rows
section
variable {κ:Type} [DecidableEq κ]
def valV (kvs:List (κ × V)) (k:κ):Option V:=(kvs.find? fun kv=>decide (kv.1=k)).map (·.2)
def putK (kvs:List (κ × V)) (k:κ) (v:V):List (κ × V) :=
 if (kvs.any fun kv=>decide (kv.1=k))=true then kvs.map (fun kv=>if kv.1=k then (kv.1,v) else kv) else kvs++[(k,v)]
def dropK (kvs:List (κ × V)) (k:κ):List (κ × V):=kvs.filter fun kv=>decide (kv.1≠k)
theorem valV_pos {p:κ × V} {r:List (κ × V)} {k:κ} (e:p.1=k):valV (p :: r) k=some p.2:=by simp [valV,List.find?_cons,e]
theorem valV_neg {p:κ × V} {r:List (κ × V)} {k:κ} (e:¬ p.1=k):valV (p :: r) k=valV r k:=by simp [valV,List.find?_cons,e]
theorem valV_any (k:κ):∀ kvs:List (κ × V),(kvs.any fun kv=>decide (kv.1=k))=(valV kvs k).isSome
 | []=>rfl
 | p :: r=>by
  rw [List.any_cons]
  by_cases e:p.1=k
  ·simp only [valV_pos e,decide_eq_true e,Bool.true_or,Option.isSome_some]
  ·rw [valV_neg e,decide_eq_false e,Bool.false_or]; exact valV_any k r
theorem length_putK (kvs:List (κ × V)) (k:κ) (v:V):(putK kvs k v).length≤kvs.length+1:=by
 unfold putK
 split
 ·rw [List.length_map]; lia
 ·rw [List.length_append,List.length_cons,List.length_nil]; lia
theorem RelO.isSome_eq {o:Option V} {u:Option Value} (r:RelO o u):o.isSome=u.isSome:=by
 cases o with
 | none=>cases u with
  | none=>rfl
  | some _=>exact (show False from r).elim
 | some _=>cases u with
  | none=>exact (show False from r).elim
  | some _=>rfl
theorem RelO.getD {o:Option V} {u:Option Value} {d:V} {d':Value} (r:RelO o u) (rd:RelV d d'):RelV (o.getD d) (u.getD d'):=by
 cases o with
 | none=>cases u with
  | none=>exact rd
  | some _=>exact (show False from r).elim
 | some _=>cases u with
  | none=>exact (show False from r).elim
  | some _=>exact r
theorem KV.val {kvs:List (κ × V)} {vs:List (κ × Value)} (r:KV kvs vs) (k:κ):RelO (valV kvs k) (valueAt vs k):=by
 unfold KV at r
 induction r with
 | nil=>exact True.intro
 | @cons p q ps qs h t ih =>
  obtain ⟨h1,h2⟩:=h
  by_cases e:p.1=k
  ·have e':q.1=k:=h1.symm.trans e
   have b:valueAt (q :: qs) k=some q.2:=by simp [valueAt,List.find?_cons,e']
   rw [valV_pos e,b]; exact h2
  ·have e':¬ q.1=k:=fun z=>e (h1.trans z)
   have b:valueAt (q :: qs) k=valueAt qs k:=by simp [valueAt,List.find?_cons,e']
   rw [valV_neg e,b]; exact ih
theorem KV.any {kvs:List (κ × V)} {vs:List (κ × Value)} (r:KV kvs vs) (k:κ):(kvs.any fun kv=>decide (kv.1=k))=vs.any fun kv=>decide (kv.1=k):=by
 unfold KV at r
 induction r with
 | nil=>rfl
 | cons h t ih=>rw [List.any_cons,List.any_cons,ih,h.1]
theorem KV.repl {kvs:List (κ × V)} {vs:List (κ × Value)} (r:KV kvs vs) (k:κ) {y:V} {u:Value} (ry:RelV y u) :
  KV (kvs.map fun kv=>if kv.1=k then (kv.1,y) else kv) (vs.map fun kv=>if kv.1=k then (kv.1,u) else kv):=by
 unfold KV at r ⊢
 induction r with
 | nil=>exact .nil
 | @cons p q ps qs h t ih =>
  rw [List.map_cons,List.map_cons]
  refine .cons ?_ ih
  obtain ⟨h1,h2⟩:=h
  by_cases e:p.1=k
  ·rw [if_pos e,if_pos (h1.symm.trans e)]; exact ⟨h1,ry⟩
  ·rw [if_neg e,if_neg (fun z=>e (h1.trans z))]; exact ⟨h1,h2⟩
theorem KV.put {kvs:List (κ × V)} {vs:List (κ × Value)} (r:KV kvs vs) (k:κ) {y:V} {u:Value} (ry:RelV y u):KV (putK kvs k y) (stored vs k u):=by
 unfold putK stored
 rw [r.any k]
 by_cases e:(vs.any fun kv=>decide (kv.1=k))=true
 ·rw [if_pos e,if_pos e]; exact r.repl k ry
 ·rw [if_neg e,if_neg e]; exact Paired.snoc r ⟨rfl,ry⟩
theorem KV.drop {kvs:List (κ × V)} {vs:List (κ × Value)} (r:KV kvs vs) (k:κ):KV (dropK kvs k) (without vs k):=by
 unfold KV at r ⊢
 unfold dropK without
 induction r with
 | nil=>exact .nil
 | @cons p q ps qs h t ih =>
  obtain ⟨h1,h2⟩:=h
  rw [List.filter_cons,List.filter_cons]
  by_cases e:p.1=k
  ·have a:¬ decide (p.1≠k)=true:=by simp [e]
   have b:¬ decide (q.1≠k)=true:=by simp [h1.symm.trans e]
   rw [if_neg a,if_neg b]; exact ih
  ·have e':¬ q.1=k:=fun z=>e (h1.trans z)
   have a:decide (p.1≠k)=true:=by simp [e]
   have b:decide (q.1≠k)=true:=by simp [e']
   rw [if_pos a,if_pos b]; exact .cons ⟨h1,h2⟩ ih
theorem KV.length {kvs:List (κ × V)} {vs:List (κ × Value)} (r:KV kvs vs):kvs.length=vs.length:=Paired.length r
theorem dropK_le (kvs:List (κ × V)) (k:κ):(dropK kvs k).length≤kvs.length:=List.length_filter_le _ _
end
theorem kV_is {P:Program} {w:World} {k:Key} {u:Value} (r:RelV (kV k) u):(mixKind P w).is k u=true:=by
 cases k with
 | inl i=>obtain ⟨t,e⟩:=(show ∃ t,u=Value.int i t from r); subst e; exact mixKind_int P w i t
 | inr x=>obtain ⟨t,e⟩:=(show ∃ t,u=Value.str x t from r); subst e; exact mixKind_str P w x t
theorem items_are {P:Program} {w:World}:∀ {ks:List Key} {us:List Value},Vals (ks.map kV) us→ItemsAre (mixKind P w) ks us
 | [],_,r=>by rw [List.map_nil] at r; cases r; exact .nil
 | k :: ks,_,r=>by
  rw [List.map_cons] at r
  cases r with
  | cons h t=>exact .cons (kV_is h) (items_are t)
abbrev KT (H:Hp):List (List Key × V)→List (List Key × Addr × Value)→Prop:=Paired fun p q=>p.1=q.1∧H q.2.1=some (.tup (p.1.map kV))∧RelV p.2 q.2.2
theorem KT.val {H:Hp} {kvs:List (List Key × V)} {xs:List (List Key × Addr × Value)} (r:KT H kvs xs) (k:List Key):RelO (valV kvs k) ((atKey xs k).map (·.2)):=by
 induction r with
 | nil=>exact True.intro
 | @cons p q ps qs h t ih =>
  obtain ⟨h1,_,h2⟩:=h
  by_cases e:p.1=k
  ·have e':q.1=k:=h1.symm.trans e
   have b:atKey (q :: qs) k=some q.2:=by simp [atKey,List.find?_cons,e']
   rw [valV_pos e,b]; exact h2
  ·have e':¬ q.1=k:=fun z=>e (h1.trans z)
   have b:atKey (q :: qs) k=atKey qs k:=by simp [atKey,List.find?_cons,e']
   rw [valV_neg e,b]; exact ih
theorem KT.repl {H:Hp} {kvs:List (List Key × V)} {xs:List (List Key × Addr × Value)} (r:KT H kvs xs) (k:List Key) {y:V} {u:Value} (ry:RelV y u) :
  KT H (kvs.map fun kv=>if kv.1=k then (kv.1,y) else kv) (xs.map (putAt k u)):=by
 induction r with
 | nil=>exact .nil
 | @cons p q ps qs h t ih =>
  rw [List.map_cons,List.map_cons]
  refine .cons ?_ ih
  obtain ⟨h1,h2,h3⟩:=h
  unfold putAt
  by_cases e:p.1=k
  ·rw [if_pos e,if_pos (h1.symm.trans e)]; exact ⟨h1,h2,ry⟩
  ·rw [if_neg e,if_neg (fun z=>e (h1.trans z))]; exact ⟨h1,h2,h3⟩
theorem KT.put {H:Hp} {kvs:List (List Key × V)} {xs:List (List Key × Addr × Value)} (r:KT H kvs xs) (k:List Key) {b:Addr} {y:V} {u:Value} (hb:H b=some (.tup (k.map kV))) (ry:RelV y u) :
  KT H (putK kvs k y) (storedH xs k b u):=by
 have e:(kvs.any fun kv=>decide (kv.1=k))=(atKey xs k).isSome:=by
  rw [valV_any,(r.val k).isSome_eq,Option.isSome_map]
 unfold putK storedH
 rw [e]
 by_cases q:(atKey xs k).isSome=true
 ·rw [if_pos q,if_pos q]; exact r.repl k ry
 ·rw [if_neg q,if_neg q]; exact Paired.snoc r ⟨rfl,hb,ry⟩
theorem KT.keeps {H H':Hp} {kvs:List (List Key × V)} {xs:List (List Key × Addr × Value)} (r:KT H kvs xs) (ht:∀ b ys,H b=some (.tup ys)→H' b=some (.tup ys)):KT H' kvs xs :=
 Paired.mapP r fun _ _ z=>⟨z.1,ht _ _ z.2.1,z.2.2⟩
section
variable {P:Program} {w:World} {H:Hp} {h:Heap} {a:Addr}
theorem rd_of {u:HO} (ok:HOk P w H h) (e:Rd H a u):ObjOk P w H h a u:=e.ok ok
theorem dk_rd {kvs:List (Key × V)} (ok:HOk P w H h) (e:Rd H a (.dK kvs)):kvs.length≤sizeLine∧(a == sysModules)=false∧∃ vs,KV kvs vs∧h.DictOf (mixKind P w) a vs :=
 show ObjOk P w H h a (.dK kvs) from rd_of ok e
theorem dk_of {kvs:List (Key × V)} (ok:HOk P w H h) (e:H a=some (.dK kvs)):kvs.length≤sizeLine∧(a == sysModules)=false∧∃ vs,KV kvs vs∧h.DictOf (mixKind P w) a vs:=dk_rd ok (.inl e)
theorem key_of {ks:List Key} (ok:HOk P w H h) (e:H a=some (.tup (ks.map kV))):(tupleKind (mixKind P w)).is h ks a:=by
 obtain ⟨_,its,r,o,h1,h2,n,h3⟩:=(show ObjOk P w H h a (.tup (ks.map kV)) from ok a _ e)
 exact ⟨o,its.toArray,n,h1,h2,h3,by simpa using items_are r⟩
theorem dt_rd {kvs:List (List Key × V)} (ok:HOk P w H h) (e:Rd H a (.dT kvs)):kvs.length≤sizeLine∧(a == sysModules)=false ∧
  ∃ xs,KT H kvs xs∧h.DictOfH (tupleKind (mixKind P w)) a xs:=by
 obtain ⟨z,y,xs,r,o,es,ep,h1,h2,h3,h4,h5⟩:=(show ObjOk P w H h a (.dT kvs) from rd_of ok e)
 refine ⟨z,y,xs,r,o,es,ep,h1,h2,h3,h4,fun x hx=>?_,h5⟩
 have all:∀ {l:List (List Key × V)} {m:List (List Key × Addr × Value)},KT H l m→∀ x∈m,(tupleKind (mixKind P w)).is h x.1 x.2.1:=by
  intro l m q
  induction q with
  | nil=>intro x hx; exact nomatch hx
  | @cons p q ps qs hq t ih =>
   intro x hx
   rcases List.mem_cons.mp hx with e | hx
   ·subst e
    exact key_of ok (by rw [← hq.1]; exact hq.2.1)
   ·exact ih x hx
 exact all r x hx
theorem dt_of {kvs:List (List Key × V)} (ok:HOk P w H h) (e:H a=some (.dT kvs)):kvs.length≤sizeLine∧(a == sysModules)=false ∧
  ∃ xs,KT H kvs xs∧h.DictOfH (tupleKind (mixKind P w)) a xs:=dt_rd ok (.inl e)
end
def DGet (H:Hp) (a:Addr) (y:V) (r:Option V):Prop :=
 (∃ kvs k,Rd H a (.dK kvs)∧y=kV k∧r=valV kvs k)∨∃ kvs k b,Rd H a (.dT kvs)∧y=.ref b∧H b=some (.tup (k.map kV))∧r=valV kvs k
def DPut (H:Hp) (a:Addr) (y v:V) (H':Hp):Prop :=
 (∃ kvs k,H a=some (.dK kvs)∧y=kV k∧kvs.length < sizeLine∧H'=upd H a (.dK (putK kvs k v))) ∨
 ∃ kvs k b,H a=some (.dT kvs)∧y=.ref b∧H b=some (.tup (k.map kV))∧kvs.length < sizeLine∧H'=upd H a (.dT (putK kvs k v))
theorem DGet.k {H:Hp} {a:Addr} {kvs:List (Key × V)} {k:Key} (e:H a=some (.dK kvs)):DGet H a (kV k) (valV kvs k):=.inl ⟨kvs,k,.inl e,rfl,rfl⟩
theorem DPut.k {H:Hp} {a:Addr} {kvs:List (Key × V)} {k:Key} {v:V} (e:H a=some (.dK kvs)) (hl:kvs.length < sizeLine):DPut H a (kV k) v (upd H a (.dK (putK kvs k v))):=.inl ⟨kvs,k,e,rfl,hl,rfl⟩
section
variable {X:Cx} {pins:List (Addr × Obj)} {σ:St} {H:Hp} {s:Shared} {a:Addr} {y v:V} {u r:Value} {o:Option V} {A:Around} {E:Value→Shared→Prop}
theorem Inv.big (I:Inv X pins σ H s):sysModules < s.heap.objs.size:=by
 have h:mainGlobals < s.heap.objs.size:=(I.mod.glob.keeps I.bk).lt
 exact Nat.lt_trans (by decide) h
theorem d_in {Q:Value→Shared→Prop} (hu:A.units+1 < cLine) (I:Inv X pins σ H s) (g:DGet H a y o) (ry:RelV y u) (h:∀ s',Inv X pins σ H s'→Q (.bool o.isSome) s') :
  wpAny (model X.prog X.w) A (compareOp .In u (.ref a)) Q E s:=by
 rcases g with ⟨kvs,k,e,ey,l⟩ | ⟨kvs,k,b,e,ey,eb,l⟩
 ·subst ey
  obtain ⟨z,hd,vs,rel,dd⟩:=dk_rd I.hok e
  refine wpAny_in_of (kV_is ry) hd dd.mapOf ?_
  rw [← (rel.val k).isSome_eq,← l]
  exact h _ (I.tok _)
 ·subst ey
  cases (show u=Value.ref b from ry)
  obtain ⟨z,hd,xs,rel,dd⟩:=dt_rd I.hok e
  refine wpAny_in_heap (tupleKind_room_in1 hu) (key_of I.hok eb) hd dd ?_
  have q:=(rel.val k).isSome_eq
  rw [Option.isSome_map] at q
  rw [← q,← l]
  exact h _ (I.tok _)
theorem d_notIn {Q:Value→Shared→Prop} (hu:A.units+1 < cLine) (I:Inv X pins σ H s) (g:DGet H a y o) (ry:RelV y u) (h:∀ s',Inv X pins σ H s'→Q (.bool (!o.isSome)) s') :
  wpAny (model X.prog X.w) A (compareOp .NotIn u (.ref a)) Q E s:=by
 rcases g with ⟨kvs,k,e,ey,l⟩ | ⟨kvs,k,b,e,ey,eb,l⟩
 ·subst ey
  obtain ⟨z,hd,vs,rel,dd⟩:=dk_rd I.hok e
  refine wpAny_notIn_of (kV_is ry) hd dd.mapOf ?_
  rw [← (rel.val k).isSome_eq,← l]
  exact h _ (I.tok _)
 ·subst ey
  cases (show u=Value.ref b from ry)
  obtain ⟨z,hd,xs,rel,dd⟩:=dt_rd I.hok e
  refine wpAny_notIn_heap (tupleKind_room_in1 hu) (key_of I.hok eb) hd dd ?_
  have q:=(rel.val k).isSome_eq
  rw [Option.isSome_map] at q
  rw [← q,← l]
  exact h _ (I.tok _)
theorem d_write {h':Heap} {t':Nat} {ob:HO} (I:Inv X pins σ H s) (mu:Mut (H a)) (hs:Heap.SameBut a s.heap h') (he:∃ q,h'.get? a=some q) (new:ObjOk X.prog X.w (upd H a ob) h' a ob) :
  Inv X pins σ (upd H a ob) { s with heap:=h',toks:=t' } :=
 I.write (x:=a) (e:=a) mu (.inl rfl) (fun b q hb z=>(hs.2 b hb).trans z) he new
theorem dk_new {P:Program} {w:World} {H':Hp} {h':Heap} {kvs:List (Key × V)} {vs:List (Key × Value)} (z:kvs.length≤sizeLine) (hd:(a == sysModules)=false) (rel:KV kvs vs) (dd:h'.DictOf (mixKind P w) a vs) :
  ObjOk P w H' h' a (.dK kvs):=⟨z,hd,vs,rel,dd⟩
theorem d_setItem {H':Hp} {Q:Unit→Shared→Prop} (hu:A.units+1 < cLine) (I:Inv X pins σ H s) (g:DPut H a y v H') (ry:RelV y u) (rv:RelV v r) (h:∀ s',Inv X pins σ H' s'→Q () s') :
  wpAny (model X.prog X.w) A (setItem (.ref a) u r) Q E s:=by
 rcases g with ⟨kvs,k,e,ey,l,eH⟩ | ⟨kvs,k,b,e,ey,eb,l,eH⟩
 ·subst ey eH
  obtain ⟨z,hd,vs,rel,dd⟩:=dk_of I.hok e
  have hz:vs.length≤sizeLine:=by rw [← rel.length]; exact z
  have hl:(putK kvs k v).length≤sizeLine:=by have:=length_putK kvs k v; lia
  refine wpAny_setItem_pairs (hsz:=hz) (kV_is ry) dd fun h' dd' hs=>h _ ?_
  have he:∃ q,h'.get? a=some q:=let ⟨q,_,_,hq,_⟩:=dd'; ⟨q,hq⟩
  exact d_write I (by rw [e]; exact True.intro) hs he (dk_new hl hd (rel.put k rv) dd')
 ·subst ey eH
  cases (show u=Value.ref b from ry)
  obtain ⟨z,hd,xs,rel,dd⟩:=dt_of I.hok e
  have hz:xs.length≤sizeLine:=by rw [← Paired.length rel]; exact z
  have hl:(putK kvs k v).length≤sizeLine:=by have:=length_putK kvs k v; lia
  refine wpAny_setItem_heap (hsz:=hz) (tupleKind_room_in1 hu) (key_of I.hok eb) dd fun h' dd' hs=>h _ ?_
  obtain ⟨q,es,ep,hq,h2,h3,h4,_,h5⟩:=dd'
  refine d_write I (by rw [e]; exact True.intro) hs ⟨q,hq⟩ ⟨hl,hd,_,(rel.put k eb rv).keeps fun c ys ec=>?_,q,es,ep,hq,h2,h3,h4,h5⟩
  rw [upd_ne (ne_of ec e (fun z=>nomatch z))]
  exact ec
end
section
variable {X:Cx} {pins:List (Addr × Obj)} {σ:St} {H:Hp} {s:Shared} {a:Addr} {kvs:List (Key × V)} {k:Key} {u:Value} {A:Around} {E:Value→Shared→Prop}
theorem d_pop {v:V} {more:List Value} {Q:Value→Shared→Prop} (I:Inv X pins σ H s) (e:H a=some (.dK kvs)) (ry:RelV (kV k) u) (l:valV kvs k=some v) (hm:more=[]∨∃ x,more=[x])
  (h:∀ w' s',Inv X pins σ (upd H a (.dK (dropK kvs k))) s'→RelV v w'→Q w' s'):wpAny (model X.prog X.w) A (call (.builtin "dict.pop") (.ref a :: u :: more)) Q E s:=by
 obtain ⟨z,hd,vs,rel,dd⟩:=dk_of I.hok e
 obtain ⟨w',hw,rw'⟩:=RelO.some_of (v:=v) (o:=valueAt vs k) (by rw [← l]; exact rel.val k)
 have hp:(keyPart u).isSome=true:=by
  cases k with
  | inl i=>obtain ⟨t,q⟩:=(show ∃ t,u=Value.int i t from ry); subst q; rfl
  | inr x=>obtain ⟨t,q⟩:=(show ∃ t,u=Value.str x t from ry); subst q; rfl
 have ha:argsOk "dict.pop" ⟨.ref a :: u :: more,[]⟩:=by
  rcases hm with q | ⟨x,q⟩
  ·subst q; exact PySem.F.args_dict_pop_2 _ _
  ·subst q; exact PySem.F.args_dict_pop_3 _ _ _
 refine call_meetsIn PySem.F.slot_dict_pop dd.typeIs PySem.F.entry_dict_pop ha (meets_dict_pop_there (mixKind X.prog X.w) a (kV_is ry) more hm hp)
  ⟨vs,w',dd,by rw [← rel.length]; exact z,hw,fun h' dd' hs=>h w' _ ?_ rw'⟩
 have he:∃ q,h'.get? a=some q:=let ⟨q,_,_,hq,_⟩:=dd'; ⟨q,hq⟩
 exact d_write I (by rw [e]; exact True.intro) hs he (dk_new (Nat.le_trans (dropK_le kvs k) z) hd (rel.drop k) dd')
theorem d_len {Q:Value→Shared→Prop} (I:Inv X pins σ H s) (e:Rd H a (.dK kvs)) (h:∀ t s',Inv X pins σ H s'→Q (.int kvs.length t) s'):wpAny (model X.prog X.w) A (call (.builtin "len") [.ref a]) Q E s:=by
 obtain ⟨z,hd,vs,rel,dd⟩:=dk_rd I.hok e
 refine call_len_dict hd dd (by rw [← rel.length]; rw [sizeLine_eq] at z; lia) ?_
 rw [← rel.length]
 exact h _ _ (I.tok _)
end
def tDIn (ty td:TE):TE:=fun σ H Q=>ty σ H fun y H1=>td σ H1 fun x H2=>∃ a o,x=.ref a∧DGet H2 a y o∧Q (.bl o.isSome) H2
def tDNotIn (ty td:TE):TE:=fun σ H Q=>ty σ H fun y H1=>td σ H1 fun x H2=>∃ a o,x=.ref a∧DGet H2 a y o∧Q (.bl (!o.isSome)) H2
def sDPut (td ty tv:TE):TS:=fun D σ H=>tv σ H fun v H1=>td σ H1 fun x H2=>ty σ H2 fun y H3=>∃ a H4,x=.ref a∧DPut H3 a y v H4∧D.nx σ H4
section
variable {X:Cx} {o i e value:Expr} {pos pos' tpos:Pos} {td ty tv:TE}
theorem pc_din (hu:X.A.units+1 < cLine) (hi:PE X i ty) (ho:PE X o td):PC X .In i o (tDIn ty td):=by
 intro pins s σ H Q I h
 refine thn (hi pins s σ H _ I h) fun iv s1 ⟨y,H1,I1,ry,q1⟩=>thn (ho pins s1 σ H1 _ I1 q1) fun u s2 ⟨x,H2,I2,rx,a,ov,ex,g,q2⟩=>?_
 subst ex
 obtain rfl:u=Value.ref a:=rx
 exact d_in hu I2 g ry fun s3 I3=>⟨.bl ov.isSome,H2,I3,rfl,q2⟩
theorem pc_dnotin (hu:X.A.units+1 < cLine) (hi:PE X i ty) (ho:PE X o td):PC X .NotIn i o (tDNotIn ty td):=by
 intro pins s σ H Q I h
 refine thn (hi pins s σ H _ I h) fun iv s1 ⟨y,H1,I1,ry,q1⟩=>thn (ho pins s1 σ H1 _ I1 q1) fun u s2 ⟨x,H2,I2,rx,a,ov,ex,g,q2⟩=>?_
 subst ex
 obtain rfl:u=Value.ref a:=rx
 exact d_notIn hu I2 g ry fun s3 I3=>⟨.bl (!ov.isSome),H2,I3,rfl,q2⟩
theorem ps_dput (hu:X.A.units+1 < cLine) (ho:PE X o td) (hi:PE X i ty) (hv:PE X value tv) (hs:swapsWith value (some (.Subscript o i pos')) pos.line X.env=pure false) :
  PS X (.Assign [.Subscript o i pos'] value pos) (sDPut td ty tv):=by
 intro pins s σ H D I h
 refine wpAny_Assign_Subscript (thn (hv pins s σ H _ I h) fun r s1 ⟨v,H1,I1,rv,q1⟩=>thn (ho pins s1 σ H1 _ I1 q1) fun u s2 ⟨x,H2,I2,rx,q2⟩=>thn (hi pins s2 σ H2 _ I2 q2) fun iv s3 ⟨y,H3,I3,ry,a,H4,ex,g,q3⟩=>?_) hs
 subst ex
 obtain rfl:u=Value.ref a:=rx
 exact d_setItem hu I3 g ry rv fun s4 I4=>⟨σ,H4,I4,q3⟩
end
theorem dk_empty {P:Program} {w:World} {H:Hp} (h:Heap) (hb:sysModules < h.objs.size):ObjOk P w H (h.push { cls:=.type "dict",data:=.dict #[] }) h.objs.size (.dK []) :=
 ⟨Nat.zero_le _,beq_eq_false_iff_ne.mpr (Ne.symm (Nat.ne_of_lt hb)),[],.nil,Heap.DictOf.new h⟩
def tDNewK:TE:=fun _ H Q=>∀ p,H p=none→Q (.ref p) (upd H p (.dK []))
section
variable {X:Cx} {pos:Pos}
theorem pe_dnewK:PE X (.Dict [] [] pos) tDNewK:=fun pins s σ H Q I h =>
 wpAny_Dict_empty ⟨.ref s.heap.objs.size,_,I.laid (a:=s.heap.objs.size) (o:=.dK []) (t':=s.toks) (fun _ _ q=>Heap.get?_push_of_some _ q) (Nat.le_refl _) (dk_empty s.heap I.big),rfl,h _ (I.hok.fresh (Nat.le_refl _))⟩
end
structure M1 (X:Cx) (o:Expr) (m:Str) (apos:Pos) (e:Expr) (cpos:Pos):Prop where
 base:attributeBase o m X.env (eval o X.env)=eval o X.env
 few:((backTo cpos (starEach [e] X.env)).all (fun x=>!x.1) && (backToKw cpos (keywordEach [] X.env)).all (fun x=>x.1.isSome)
  && decide (([e]:List Expr).length+([]:List Keyword).length+(if ([]:List Keyword).isEmpty then 0 else 1) < 30))=true
 line:(apos.endLine == cpos.line)=true
 trees:backTo cpos (starEach [e] X.env)=[(false,eval e X.env)]
def IsD (H:Hp) (a:Addr):Prop:=(∃ kvs,Rd H a (.dK kvs))∨∃ kvs,Rd H a (.dT kvs)
theorem isD_at {X:Cx} {pins:List (Addr × Obj)} {σ:St} {H:Hp} {s:Shared} {a:Addr} (I:Inv X pins σ H s) (d:IsD H a) :
  s.TypeIs (.ref a) "dict"∧(∀ b,Value.ref a=.ref b→∃ ob,s.heap.get? b=some ob∧ob.dict=none)∧(a == sysModules)=false:=by
 rcases d with ⟨kvs,e⟩ | ⟨kvs,e⟩
 ·obtain ⟨_,hd,vs,_,dd⟩:=dk_rd I.hok e
  refine ⟨dd.typeIs,fun b q=>?_,hd⟩
  cases q
  obtain ⟨ob,_,_,h1,h2,_⟩:=dd
  exact ⟨ob,h1,h2.2.1⟩
 ·obtain ⟨_,hd,xs,_,dd⟩:=dt_rd I.hok e
  refine ⟨dd.typeIs,fun b q=>?_,hd⟩
  cases q
  obtain ⟨ob,_,_,h1,h2,_⟩:=dd
  exact ⟨ob,h1,h2.2.1⟩
section
variable {X:Cx} {pins:List (Addr × Obj)} {σ:St} {H:Hp} {s:Shared} {a:Addr} {y d:V} {u r:Value} {o:Option V} {A:Around} {E:Value→Shared→Prop}
theorem d_get1 {Q:Value→Shared→Prop} (hu:A.units+1 < cLine) (I:Inv X pins σ H s) (g:DGet H a y o) (ry:RelV y u) (h:∀ w' s',Inv X pins σ H s'→RelV (o.getD .non) w'→Q w' s') :
  wpAny (model X.prog X.w) A (call (.builtin "dict.get") [.ref a,u]) Q E s:=by
 rcases g with ⟨kvs,k,e,ey,l⟩ | ⟨kvs,k,b,e,ey,eb,l⟩
 ·subst ey
  obtain ⟨z,hd,vs,rel,dd⟩:=dk_rd I.hok e
  refine call_meetsIn PySem.F.slot_dict_get dd.typeIs PySem.F.entry_dict_get (PySem.F.args_dict_get_2 _ _) (meets_dict_get (mixKind X.prog X.w) a (kV_is ry) hd) ⟨_,dd.mapOf,h _ _ (I.tok _) ?_⟩
  rw [l]
  exact (rel.val k).getD rfl
 ·subst ey
  cases (show u=Value.ref b from ry)
  obtain ⟨z,hd,xs,rel,dd⟩:=dt_rd I.hok e
  refine call_meetsIn PySem.F.slot_dict_get dd.typeIs PySem.F.entry_dict_get (PySem.F.args_dict_get_2 _ _) (meetsH_dict_get (tupleKind (mixKind X.prog X.w)) a b hd) ⟨tupleKind_room_in1 hu,k,xs,key_of I.hok eb,dd,h _ _ (I.tok _) ?_⟩
  rw [l]
  exact (rel.val k).getD rfl
end
def tDGet1 (td ty:TE):TE:=fun σ H Q=>td σ H fun x H1=>∃ a,x=.ref a∧IsD H1 a∧ty σ H1 fun y H2=>∃ o,DGet H2 a y o∧Q (o.getD .non) H2
def tDPop1 (td ty:TE):TE:=fun σ H Q=>td σ H fun x H1=>∃ a,x=.ref a∧IsD H1 a∧ty σ H1 fun y H2=>∃ kvs k v,H2 a=some (.dK kvs)∧y=kV k∧valV kvs k=some v∧Q v (upd H2 a (.dK (dropK kvs k)))
section
variable {X:Cx} {o e f:Expr} {apos cpos:Pos} {td ty tx:TE}
theorem pe_dget1 (hu:X.A.units+1 < cLine) (ho:PE X o td) (he:PE X e ty) (m:M1 X o "get" apos e cpos):PE X (.Call (.Attribute o "get" apos) [e] [] cpos) (tDGet1 td ty):=by
 intro pins s σ H Q I h
 refine wpAny_Call_method m.base m.few m.line PySem.F.plainAttrs_dict PySem.F.slot_dict_get PySem.F.type_dict_get (thn (ho pins s σ H _ I h) fun u s1 ⟨x,H1,I1,rx,a,ex,d,q1⟩=>?_)
 subst ex
 obtain rfl:u=Value.ref a:=rx
 obtain ⟨t1,t2,_⟩:=isD_at I1 d
 refine ⟨t1,t2,?_⟩
 rw [m.trees]
 refine Calls.callWith_builtin rfl (Calls.evalArgs_plain (Calls.spliced_cons (thn (he pins s1 σ H1 _ I1 q1) fun iv s2 ⟨y,H2,I2,ry,ov,g,q2⟩=>Calls.spliced_nil ?_)))
 exact d_get1 hu I2 g ry fun w' s3 I3 rw'=>⟨_,H2,I3,rw',q2⟩
theorem pe_dpop1 (ho:PE X o td) (he:PE X e ty) (m:M1 X o "pop" apos e cpos):PE X (.Call (.Attribute o "pop" apos) [e] [] cpos) (tDPop1 td ty):=by
 intro pins s σ H Q I h
 refine wpAny_Call_method m.base m.few m.line PySem.F.plainAttrs_dict PySem.F.slot_dict_pop PySem.F.type_dict_pop (thn (ho pins s σ H _ I h) fun u s1 ⟨x,H1,I1,rx,a,ex,d,q1⟩=>?_)
 subst ex
 obtain rfl:u=Value.ref a:=rx
 obtain ⟨t1,t2,_⟩:=isD_at I1 d
 refine ⟨t1,t2,?_⟩
 rw [m.trees]
 refine Calls.callWith_builtin rfl (Calls.evalArgs_plain (Calls.spliced_cons (thn (he pins s1 σ H1 _ I1 q1) fun iv s2 ⟨y,H2,I2,ry,kvs,k,v,ea,ey,l,q2⟩=>Calls.spliced_nil ?_)))
 subst ey
 exact d_pop I2 ea ry l (.inl rfl) fun w' s3 I3 rw'=>⟨v,_,I3,rw',q2⟩
end
section
variable {X:Cx} {pins:List (Addr × Obj)} {σ:St} {H:Hp} {s:Shared} {a:Addr} {kvs:List (Key × V)} {A:Around} {E:Value→Shared→Prop}
end
section
variable {X:Cx} {pins:List (Addr × Obj)} {σ:St} {H:Hp} {s:Shared} {a:Addr} {y:V} {u:Value} {A:Around} {E:Value→Shared→Prop}
end
end L2
namespace L2
open PySem PySem.Spec PyProof.Rows
section
variable {X:Cx}
theorem call_lenD:CallR X (.builtin "len") (fun xs H Q=>∃ a kvs,xs=[V.ref a]∧H a=some (.dK kvs)∧Q (.int kvs.length) H):=by
 intro pins s σ H xs us Q I r h
 obtain ⟨a,kvs,rfl,ha,q⟩:=h
 obtain ⟨u,rfl,ru⟩:=vals1 r
 cases ru
 exact d_len I (.inl ha) fun t s' I'=>⟨.int kvs.length,H,I',⟨t,rfl⟩,q⟩
end
section
variable {κ:Type} [DecidableEq κ]
end
end L2
end
section
namespace L2
open PySem PySem.W PySem.Spec PySem.Calls PyProof.Rows
section
variable {P:Program} {w:World} {K:Frag} {mg:Str→Option Value} {base:Heap} {N:List Str} {qual:Str} {scope:Scope} {f:Addr} {cd:Value} {A:Around} {outer:List Env} {s₀:Shared} {H₀:Hp} {E:XK}
theorem pass_on {E':XK} (hE:∀ c H',E' c none H'→E c none H'):Passes (CXe P w) (cxOf (CXe P w) P w K mg base N qual scope f cd A outer s₀ H₀ E) E':=by
 intro pins σ H s v s' I h
 obtain ⟨e,C,H',B,a0,rfl,fl,kp,kt,hokB,o1,o2,q⟩:=I.xp h
 have hsub:∀ b,b∈frs (envOfC qual scope s₀.heap.objs.size f cd :: outer)→b=s₀.heap.objs.size∨b∈frs outer:=fun b hb=>by
  obtain ⟨env,he,hf⟩:=List.mem_filterMap.mp hb
  rcases List.mem_cons.mp he with rfl | he
  ·exact .inl (Option.some.inj hf).symm
  ·exact .inr (List.mem_filterMap.mpr ⟨env,he,hf⟩)
 have nL:∀ b o,s₀.heap.get? b=some o→b ∉ frs outer→b ∉ frs (envOfC qual scope s₀.heap.objs.size f cd :: outer):=fun b o e nb hb=>by
  rcases hsub b hb with rfl | z
  ·exact absurd (Heap.lt_size e) (Nat.lt_irrefl _)
  ·exact nb z
 refine wpAny_leaves_onC I.ok.frames rfl fl fun h' fl' up=>?_
 have I2:=kp h' s'.toks fl'.1 up
 exact ⟨e,C,H',B,a0,rfl,I2.os,I2.bare,I2.base,⟨hokB,fun b o e n hb=>o1 b o e n List.not_mem_nil (nL b o e hb),fun b o e hb=>o2 b o e List.not_mem_nil (nL b o e hb)⟩,fl',hE _ _ q⟩
end
section
variable {X:Cx}
def tMethX (C:Addr) (m:Str) (sp:Sp) (dvs:List V) (ta:TE) (t:TA):TEX:=fun σ H Q E=>ta σ H fun x H1=>∃ a dx fs,x=.ref a∧H1 a=some (.ins C dx fs)∧fs.lookup m=none ∧
 t σ H1 fun vs H2=>sp (x :: (vs++dvs)) H2 Q E
section
variable {C f:Addr} {m:Str} {k:Nat} {fd:FuncData} {ps:List Str} {sp:Sp} {dvs:List V} {ds:List Value} {o e:Expr} {es:List Expr} {ta:TE} {t:TA} {apos pos:Pos} {pl:Sem Bool}
theorem pex_meth (he:PE X.nox o ta) (c:Cls X.K C) (hm:Meth X.K C m f) (F:FnOk X.prog X.w X.K X.mg X.base (CXe X.prog X.w) k f fd ps sp) (hr:Room k X.A) (hb:Binds X.K fd ps ds) (hd:Vals dvs ds) (ha:PA X.nox (e :: es) t)
  (hst:starEach (e :: es) X.env=(false,eval e X.env) :: starEach es X.env:=by rfl) (hpl:(backTo pos (starEach es X.env)).any (·.1)=false:=by rfl)
  (ht:eval (.Call (.Attribute o m apos) (e :: es) [] pos) X.env=(do
   let ov ← eval o X.env
   standAt apos.atName
   let (f,first) ← holding [ov] (getMethod ov m pl)
   callWith pos f first (backTo pos (starEach (e :: es) X.env)) (backToKw pos (keywordEach [] X.env))):=by rfl) :
  PEX X (.Call (.Attribute o m apos) (e :: es) [] pos) (tMethX C m sp dvs ta t):=by
 intro pins s σ H Q E I h
 refine PySem.W.methodCall_KW (pl:=pl) (wpAny_mono (he pins s σ H _ (I.wish _) h) (fun u s1 ⟨x,H1,I1,rx,a,dx,fs,ex,ea,l,q⟩=>?_) fun _ _ z=>False.elim z) ht
 subst ex
 obtain rfl:u=Value.ref a:=rx
 refine getmeth_ok I1.unwish ea c hm l ?_
 refine PySem.W.callWith_K (first:=[.ref a]) (h₀:=X.base) I.ok.mod.kin hm.kp (wpAny_mono (ha pos pins s1 σ H1 _ I1 q) (fun us s2 ⟨vs,H2,I2,r,q2⟩=>⟨I2.kIn,?_⟩) fun _ _ z=>False.elim z) hst hpl
 exact run_fnX (us:=.ref a :: us) (vs:=.ref a :: vs) F hr hb hd I2.unwish (.cons rfl r) q2
end
def tFstr (t:TE):TE:=fun σ H Q=>t σ H fun x H1=>∃ n:Str,x=.str n∧n.length≤1000∧∀ r,Q (.str r) H1
theorem str_app_le {a b:Str} (ha:a.length≤1000) (hb:b.length≤1000):(a++b).length≤sizeLine:=by
 rw [strLen_append]
 exact Nat.le_trans (Nat.add_le_add ha hb) (by decide)
theorem pe_fstr2 {v:Expr} {c:Str} {j:Nat} {pos fpos cpos:Pos} {t:TE} (h:PE X v t) (hc:c.length≤1000):PE X (.JoinedStr [.FormattedValue v (-1) none fpos,.Constant (.str c) j cpos] pos) (tFstr t):=by
 intro pins s σ H Q I hq
 refine JoinedStr_many (joinParts_cons (FormattedValue_plain (thn (h pins s σ H _ I hq) fun u s1 ⟨x,H1,I1,r1,n,ex,hn,q⟩=>?_)))
 subst ex
 obtain ⟨t0,rfl⟩:=r1
 have e0:(Str.empty++n).length≤1000:=by rw [strLen_append]; show 0+n.length≤1000; lia
 refine formatField_str (fun t' tk=>⟨Nat.le_trans e0 (by decide),?_⟩) (Nat.le_trans hn (by decide))
 refine joinParts_cons (thn (pe_str (X:=X) (x:=c) (j:=j) (pos:=cpos) pins { s1 with toks:=tk } σ H1 (fun v H'=>v=.str c∧H'=H1) (I1.tok _) ⟨rfl,rfl⟩) fun u s2 ⟨y,H2,I2,r2,ey,eH⟩=>?_)
 subst ey eH
 obtain ⟨t2,rfl⟩:=r2
 exact ⟨str_app_le e0 hc,joinParts_nil ⟨.str _,H2,I2.tok _,⟨_,rfl⟩,q _⟩ (str_app_le e0 hc)⟩
end
end L2
end
section
namespace L2
open PySem PySem.Spec PyProof.Rows
open PySem.SeqAt (EqAt RcAt RcNeAt)
section
variable {X:Cx}
theorem en_eqs {H:Hp} {s:Shared} {A:Around} {i i' j j':Int} {n n':Str} {us vs:List Value} (r:Vals [.int i,.str n,.int j] us) (r':Vals [.int i',.str n',.int j'] vs) :
  ∃ e:Nat→Bool,(∀ k (h1:k < us.toArray.size) (h2:k < vs.toArray.size),EqAt A s us.toArray[k] vs.toArray[k] (e k))∧us.length=3∧vs.length=3∧(((List.range 3).all e)=decide ([V.int i,.str n,.int j]=[.int i',.str n',.int j'])):=by
 obtain ⟨u0,u1,u2,rfl,a0,a1,a2⟩:=vals3 r
 obtain ⟨v0,v1,v2,rfl,b0,b1,b2⟩:=vals3 r'
 obtain ⟨e0,q0,z0⟩:=eqAt_fit (a:=.int i) (c:=.int i') A s trivial a0 b0
 obtain ⟨e1,q1,z1⟩:=eqAt_fit (a:=.str n) (c:=.str n') A s trivial a1 b1
 obtain ⟨e2,q2,z2⟩:=eqAt_fit (a:=.int j) (c:=.int j') A s trivial a2 b2
 refine ⟨fun k=>if k=0 then e0 else if k=1 then e1 else e2,fun k h1 h2=>?_,rfl,rfl,?_⟩
 ·match k,h1,h2 with
  | 0,_,_=>exact q0
  | 1,_,_=>exact q1
  | 2,_,_=>exact q2
  | k+3,h1,_=>exact absurd h1 (by simp)
 ·rw [Bool.eq_iff_iff,decide_eq_true_eq]
  have el:(List.range 3).all (fun k=>if k=0 then e0 else if k=1 then e1 else e2)=(e0 && (e1 && e2)):=by
   show (e0 && (e1 && (e2 && true)))=_
   rw [Bool.and_true]
  rw [el,Bool.and_eq_true,Bool.and_eq_true,z0,z1,z2]
  constructor
  ·rintro ⟨h0,h1,h2⟩
   rw [h0,h1,h2]
  ·intro h
   injection h with h0 h
   injection h with h1 h
   injection h with h2 _
   exact ⟨h0,h1,h2⟩
theorem op_eqEn (hu:X.A.units < cLine):OpR X (compareOp .Eq) (fun x y H Q=>∃ a b xs ys,x=.ref a∧y=.ref b∧SqT X.K H a xs∧SqT X.K H b ys∧isEn xs∧isEn ys∧Q (.bl (decide (xs=ys))) H):=by
 intro pins s σ H x y v u Q I rx ry h
 obtain ⟨a,b,xs,ys,rfl,rfl,ha,hb,⟨i,n,j,rfl⟩,⟨i',n',j',rfl⟩,q⟩:=h
 cases rx
 cases ry
 obtain ⟨its,r,ht,_⟩:=I.tuple ha
 obtain ⟨its2,r2,ht2,_⟩:=I.tuple hb
 obtain ⟨e,he,l1,l2,ee⟩:=en_eqs (H:=H) (s:=s) (A:=X.A.in1) r r2
 refine SeqAt.eq_tupleAt (e:=e) ht ht2 hu he ⟨.bl _,H,I,?_,q⟩
 show Value.bool _=Value.bool _
 rw [List.size_toArray,List.size_toArray,l1,l2,← ee]
 show Value.bool ((List.range 3).all e && true)=_
 rw [Bool.and_true]
end
end L2
end
section
namespace L2
open PySem PySem.W PySem.Spec PySem.Calls PyProof.Rows
section
variable {X:Cx} {pins:List (Addr × Obj)} {σ:St} {H:Hp} {s:Shared} {d:Addr} {kvs:List (Key × V)}
end
section
variable {X:Cx} {tg:Expr}
end
structure ClsM (K:Frag) (C:Addr) (mc:Value) (m:Str) (f:Addr):Prop where
 ga:specialIn K (.ref C) "__getattribute__"=some (some (.builtin "type.__getattribute__"))
 rd:readsIn K C mc=true
 fc:findCls K (.ref C) mc m=some (.val (.ref f))
 kp:keepIn K (.ref f)=true
section
variable {X:Cx} {CX:CXT} {k:Nat} {f C:Addr} {mc:Value} {fd:FuncData} {ps:List Str} {sp:Sp} {dvs:List V} {ds:List Value} {E:XK} {m:Str} {pos apos:Pos} {e o:Expr} {es:List Expr} {t:TA} {pl:Sem Bool}
theorem pe_clsm (ho:PE X o (tC (.ref C))) (M:ClsM X.K C mc m f) (F:FnOk X.prog X.w X.K X.mg X.base CX k f fd ps sp) (hr:Room k X.A) (hb:Binds X.K fd ps ds) (hd:Vals dvs ds) (hx:Passes CX X E) (ha:PA X (e :: es) t)
  (hst:starEach (e :: es) X.env=(false,eval e X.env) :: starEach es X.env:=by rfl) (hpl:(backTo pos (starEach es X.env)).any (·.1)=false:=by rfl)
  (ht:eval (.Call (.Attribute o m apos) (e :: es) [] pos) X.env=(do
   let ov ← eval o X.env
   standAt apos.atName
   let (f,first) ← holding [ov] (getMethod ov m pl)
   callWith pos f first (backTo pos (starEach (e :: es) X.env)) (backToKw pos (keywordEach [] X.env))):=by rfl) :
  PE X (.Call (.Attribute o m apos) (e :: es) [] pos) (tCall sp dvs E t):=by
 intro pins s σ H Q I h
 refine methodCall_KW (pl:=pl) (thn (ho pins s σ H (fun v H'=>v=.ref C∧H'=H) I ⟨rfl,rfl⟩) fun u s1 ⟨x,H1,I1,rx,ex,eH⟩=>?_) ht
 subst ex eH
 obtain rfl:u=Value.ref C:=rx
 refine method_cls I1.kIn M.ga (cls_value I1.kIn M.rd M.fc rfl ?_)
 have I2:=I1.tok (s1.toks+1)
 refine callWith_K (h₀:=X.base) I.ok.mod.kin M.kp (thn (ha pos pins _ σ H1 _ I2 h) fun us s2 ⟨vs,H2,I3,r,q2⟩=>⟨I3.kIn,?_⟩) hst hpl
 exact run_fn F hr hb hd hx I3 r q2
end
end L2
end
section
namespace L2
open PySem PySem.W PySem.Spec PySem.Calls PyProof.Rows
open PySem.SeqAt (EqAt RcAt RcNeAt)
section
variable {X:Cx}
theorem op_eqOE (hu:X.A.units < cLine):OpR X (compareOp .Eq) (fun x y H Q=>∃ b ys,y=.ref b∧SqT X.K H b ys∧isEn ys∧((x=.non∧Q (.bl false) H)∨∃ a xs,x=.ref a∧SqT X.K H a xs∧isEn xs∧Q (.bl (decide (xs=ys))) H)):=by
 intro pins s σ H x y v u Q I rx ry h
 obtain ⟨b,ys,rfl,hb,en,⟨rfl,q⟩ | ⟨a,xs,rfl,ha,en',q⟩⟩:=h
 ·cases rx
  cases ry
  obtain ⟨its,r,ht,_⟩:=I.tuple hb
  exact RcAt.none_tuple ht hu X.prog X.w _ _ ⟨.bl false,H,I,rfl,q⟩
 ·exact op_eqEn hu pins s σ H _ _ v u Q I rx ry ⟨a,b,xs,ys,rfl,rfl,ha,hb,en',en,q⟩
inductive AlT (K:Frag) (H:Hp):V→V→Prop
 | non:AlT K H .non .non
 | str (n:Str):AlT K H (.str n) (.str n)
 | int (i:Int):AlT K H (.int i) (.int i)
 | tup {p q:Addr} {xs ys:List V}:SqT K H p xs→SqT K H q ys→AlL K H 8 xs ys→AlT K H (.ref p) (.ref q)
 | lst {p q:Addr} {xs ys:List V}:SqL K H p xs→SqL K H q ys→AlL K H 8 xs ys→AlT K H (.ref p) (.ref q)
theorem op_eqAl (hu:X.A.units+100 < cLine):OpR X (compareOp .Eq) (fun x y H Q=>AlT X.K H x y∧Q (.bl true) H):=by
 intro pins s σ H x y v u Q I rx ry ⟨a,q⟩
 cases a with
 | non=>cases rx; cases ry; exact RcAt.none_none X.prog X.w _ _ ⟨.bl true,H,I,rfl,q⟩
 | str n =>
  obtain ⟨t,rfl⟩:=rx
  obtain ⟨t',rfl⟩:=ry
  exact RcAt.str_str n t n t' X.prog X.w _ _ ⟨.bl true,H,I,by rw [(str_beq_iff n n).mpr rfl]; rfl,q⟩
 | int i =>
  obtain ⟨t,rfl⟩:=rx
  obtain ⟨t',rfl⟩:=ry
  exact RcAt.int_int i t i t' X.prog X.w _ _ ⟨.bl true,H,I,by rw [beq_self_eq_true]; rfl,q⟩
 | tup h1 h2 al=>exact op_eqT hu pins s σ H _ _ v u Q I rx ry ⟨_,_,_,_,rfl,rfl,h1,h2,al,q⟩
 | lst h1 h2 al=>exact op_eqLs hu pins s σ H _ _ v u Q I rx ry ⟨_,_,_,_,rfl,rfl,h1,h2,al,q⟩
theorem op_neAl (hu:X.A.units+100 < cLine):OpR X (compareOp .NotEq) (fun x y H Q=>AlT X.K H x y∧Q (.bl false) H):=by
 intro pins s σ H x y v u Q I rx ry ⟨a,q⟩
 cases a with
 | non=>cases rx; cases ry; exact RcNeAt.none_none X.prog X.w _ _ ⟨.bl false,H,I,rfl,q⟩
 | str n =>
  obtain ⟨t,rfl⟩:=rx
  obtain ⟨t',rfl⟩:=ry
  exact RcNeAt.str_str n t n t' X.prog X.w _ _ ⟨.bl false,H,I,by rw [(str_beq_iff n n).mpr rfl]; rfl,q⟩
 | int i =>
  obtain ⟨t,rfl⟩:=rx
  obtain ⟨t',rfl⟩:=ry
  exact RcNeAt.int_int i t i t' X.prog X.w _ _ ⟨.bl false,H,I,by rw [beq_self_eq_true]; rfl,q⟩
 | tup h1 h2 al=>exact op_neT hu pins s σ H _ _ v u Q I rx ry ⟨_,_,_,_,rfl,rfl,h1,h2,al,q⟩
 | lst h1 h2 al=>exact op_neLs hu pins s σ H _ _ v u Q I rx ry ⟨_,_,_,_,rfl,rfl,h1,h2,al,q⟩
end
end L2
namespace TS
open PySem PyProof.Rows PySem.W
section
variable {prog:Program} {w:World} {A:Around} {E:Value→Shared→Prop} {s:Shared}
end
end TS
namespace L2
open PySem PySem.W PySem.Spec PySem.Calls PyProof.Rows
def slt (a b:Str):Bool:=decide (a.cps.toList < b.cps.toList)
section
variable {X:Cx}
end
end L2
namespace TS
open PySem PyProof.Rows PySem.W
section
variable {prog:Program} {w:World} {A:Around} {R:Result→Shared→Prop} {I:Addr} {fp wr:List Addr} {n:Nat} {P:Nat→Value→Prop} {St:Nat→Heap→Prop} {Gd:Heap→Prop} {bt:Nat→Nat→Bool} {S:Addr}
end
end TS
namespace L2
open PySem PySem.W PySem.Spec PySem.Calls PyProof.Rows
def prV (k:Int × Str):List V:=[.int k.1,.str k.2]
def ltP (a b:Int × Str):Bool:=lexV (prV a) (prV b)
section
variable {X:Cx}
end
section
variable {X:Cx} {e o i a b:Expr} {te to ti ta tb:TE} {pos pos':Pos} {f:Str}
theorem qe_fld (he:QE X e te) (hb:attributeBase e f X.env (eval e X.env)=eval e X.env):QE X (.Attribute e f pos) (tFld X.K te f):=.mk (pe_fld he.to hb)
theorem qs_fld {value:Expr} {tv:TE} (ha:QE X o to) (hv:QE X value tv) (hs:swapsWith value (some (.Attribute o f pos')) pos.line X.env=pure false):QS X (.Assign [.Attribute o f pos'] value pos) (sFld X.K to tv f):=.mk (ps_fld ha.to hv.to hs)
theorem qe_dnewK:QE X (.Dict [] [] pos) tDNewK:=.mk pe_dnewK
theorem qt_din (hu:X.A.units+1 < cLine) (hi:QE X i ti) (ho:QE X o to) (h1:behindInMarks .In o=false:=by rfl):QT X (.Compare i [.In] [o] pos) (tB (tDIn ti to)):=.mk (pt_cmp (pc_din hu hi.to ho.to) h1)
theorem qt_dnotin (hu:X.A.units+1 < cLine) (hi:QE X i ti) (ho:QE X o to) (h1:behindInMarks .NotIn o=false:=by rfl):QT X (.Compare i [.NotIn] [o] pos) (tB (tDNotIn ti to)):=.mk (pt_cmp (pc_dnotin hu hi.to ho.to) h1)
theorem qs_dput {value:Expr} {tv:TE} (hu:X.A.units+1 < cLine) (ho:QE X o to) (hi:QE X i ti) (hv:QE X value tv) (hs:swapsWith value (some (.Subscript o i pos')) pos.line X.env=pure false):QS X (.Assign [.Subscript o i pos'] value pos) (sDPut to ti tv):=.mk (ps_dput hu ho.to hi.to hv.to hs)
theorem qe_dget1 {apos cpos:Pos} (hu:X.A.units+1 < cLine) (ho:QE X o to) (he:QE X e te) (m:M1 X o "get" apos e cpos):QE X (.Call (.Attribute o "get" apos) [e] [] cpos) (tDGet1 to te):=.mk (pe_dget1 hu ho.to he.to m)
theorem qe_dpop1 {apos cpos:Pos} (ho:QE X o to) (he:QE X e te) (m:M1 X o "pop" apos e cpos):QE X (.Call (.Attribute o "pop" apos) [e] [] cpos) (tDPop1 to te):=.mk (pe_dpop1 ho.to he.to m)
theorem qe_fstr2 {c:Str} {j:Nat} {fpos cpos:Pos} (h:QE X e te) (hc:c.length≤1000):QE X (.JoinedStr [.FormattedValue e (-1) none fpos,.Constant (.str c) j cpos] pos) (tFstr te):=.mk (pe_fstr2 h.to hc)
section
variable {CX:CXT} {k:Nat} {g C:Addr} {mc:Value} {fd:FuncData} {ps:List Str} {sp:Sp} {dvs:List V} {ds:List Value} {E:XK} {m x:Str} {p apos:Pos} {es:List Expr} {t:TA} {pl:Sem Bool}
theorem qe_meth (ho:QE X o to) (c:Cls X.K C) (hm:Meth X.K C m g) (F:FnOk X.prog X.w X.K X.mg X.base CX k g fd ps sp) (hr:Room k X.A) (hb:Binds X.K fd ps ds) (hd:Vals dvs ds) (hx:Passes CX X E) (ha:QA X (e :: es) t)
  (hst:starEach (e :: es) X.env=(false,eval e X.env) :: starEach es X.env:=by rfl) (hpl:(backTo pos (starEach es X.env)).any (·.1)=false:=by rfl)
  (ht:eval (.Call (.Attribute o m apos) (e :: es) [] pos) X.env=(do
   let ov ← eval o X.env
   standAt apos.atName
   let (f,first) ← holding [ov] (getMethod ov m pl)
   callWith pos f first (backTo pos (starEach (e :: es) X.env)) (backToKw pos (keywordEach [] X.env))):=by rfl) :
  QE X (.Call (.Attribute o m apos) (e :: es) [] pos) (tMeth C m sp dvs E to t):=.mk (pe_meth ho.to c hm F hr hb hd hx ha.to hst hpl ht)
theorem qe_meth0 (ho:QE X o to) (c:Cls X.K C) (hm:Meth X.K C m g) (F:FnOk X.prog X.w X.K X.mg X.base CX k g fd ps sp) (hr:Room k X.A) (hb:Binds X.K fd ps ds) (hd:Vals dvs ds) (hx:Passes CX X E)
  (ht:eval (.Call (.Attribute o m apos) [] [] pos) X.env=(do
   let ov ← eval o X.env
   standAt apos.atName
   let (f,first) ← holding [ov] (getMethod ov m pl)
   callWith pos f first (backTo pos (starEach [] X.env)) (backToKw pos (keywordEach [] X.env))):=by rfl) :
  QE X (.Call (.Attribute o m apos) [] [] pos) (tMeth C m sp dvs E to tNil):=.mk (pe_meth0 ho.to c hm F hr hb hd hx ht)
theorem qe_make (M:Mk X.K C g) (F:FnOk X.prog X.w X.K X.mg X.base CX k g fd ps sp) (hr:Room (k+1) X.A) (hg:Gl X x) (hm:X.mg x=some (.ref C)) (hb:Binds X.K fd ps ds) (hd:Vals dvs ds) (hx:Passes CX X E)
  (ha:QA X (e :: es) t) (hdb:(x == ("__debug__":Str))=false:=by decide) (he:starEach (e :: es) X.env=(false,eval e X.env) :: starEach es X.env:=by rfl) (hpl:(backTo pos (starEach es X.env)).any (·.1)=false:=by rfl) :
  QE X (.Call (.Name x p) (e :: es) [] pos) (tMake C sp dvs E t):=.mk (pe_make M F hr hg hm hb hd hx ha.to hdb he hpl)
theorem qe_clsm (ho:QE X o (tC (.ref C))) (M:ClsM X.K C mc m g) (F:FnOk X.prog X.w X.K X.mg X.base CX k g fd ps sp) (hr:Room k X.A) (hb:Binds X.K fd ps ds) (hd:Vals dvs ds) (hx:Passes CX X E) (ha:QA X (e :: es) t)
  (hst:starEach (e :: es) X.env=(false,eval e X.env) :: starEach es X.env:=by rfl) (hpl:(backTo pos (starEach es X.env)).any (·.1)=false:=by rfl)
  (ht:eval (.Call (.Attribute o m apos) (e :: es) [] pos) X.env=(do
   let ov ← eval o X.env
   standAt apos.atName
   let (f,first) ← holding [ov] (getMethod ov m pl)
   callWith pos f first (backTo pos (starEach (e :: es) X.env)) (backToKw pos (keywordEach [] X.env))):=by rfl) :
  QE X (.Call (.Attribute o m apos) (e :: es) [] pos) (tCall sp dvs E t):=.mk (pe_clsm ho.to M F hr hb hd hx ha.to hst hpl ht)
end
end
end L2
namespace L2
open PySem PySem.W PySem.Spec PySem.Calls PyProof.Rows
theorem qe_fldB {X:Cx} {K:Frag} {e:Expr} {te:TE} {pos:Pos} {f:Str} (h:X.K=K) (he:QE X e te) (hb:attributeBase e f X.env (eval e X.env)=eval e X.env):QE X (.Attribute e f pos) (tFld K te f):=by subst h; exact qe_fld he hb
theorem ix_tupB {X:Cx} {K:Frag} (h:X.K=K):IxR X (rIxT K):=by subst h; exact ix_tup
end L2
end
section
namespace Hg
section
variable {α:Type} [Inhabited α]
abbrev g (xs:List α) (i:Nat):α:=xs.getD i default
def sw (xs:List α) (i j:Nat):List α:=(xs.set i (g xs j)).set j (g xs i)
structure Od (lt:α→α→Bool):Prop where
 as:∀ a b,lt a b=true→lt b a=false
 nt:∀ a b c,lt a b=false→lt b c=false→lt a c=false
theorem Od.irr {lt:α→α→Bool} (o:Od lt) (a:α):lt a a=false:=by
 cases e:lt a a with
 | false=>rfl
 | true=>have:=o.as a a e; rw [e] at this; exact this
theorem g_set {xs:List α} {i k:Nat} {v:α}:g (xs.set i v) k=if i=k∧k < xs.length then v else g xs k:=by
 simp only [g,List.getD_eq_getElem?_getD,List.getElem?_set]
 by_cases h:i=k
 ·subst h
  by_cases h2:i < xs.length
  ·simp [h2]
  ·simp [h2,List.getElem?_eq_none (Nat.le_of_not_lt h2)]
 ·simp [h]
theorem sw_len {xs:List α} {i j:Nat}:(sw xs i j).length=xs.length:=by simp [sw]
theorem g_sw {xs:List α} {i j k:Nat} (hi:i < xs.length) (hj:j < xs.length):g (sw xs i j) k=if k=j then g xs i else if k=i then g xs j else g xs k:=by
 unfold sw
 rw [g_set,g_set,List.length_set]
 by_cases h1:k=j
 ·subst h1; simp [hj]
 ·rw [if_neg (by intro z; exact h1 z.1.symm),if_neg h1]
  by_cases h2:k=i
  ·subst h2; simp [hi]
  ·rw [if_neg (by intro z; exact h2 z.1.symm),if_neg h2]
theorem g_get {xs:List α} {i:Nat} (h:i < xs.length):g xs i=xs[i]:=by simp [g,List.getD_eq_getElem?_getD,h]
theorem sw_perm {xs:List α} {i j:Nat} (hi:i < xs.length) (hj:j < xs.length):(sw xs i j).Perm xs:=by
 unfold sw
 rw [g_get hi,g_get hj]
 exact List.set_set_perm hi hj
def les (lt:α→α→Bool) (xs:List α) (p:Nat):Nat:=if 2 * p+2 < xs.length∧lt (g xs (2 * p+2)) (g xs (2 * p+1))=true then 2 * p+2 else 2 * p+1
def kids (n p:Nat):Nat:=if 2 * p+2 < n then 2 else if 2 * p+1 < n then 1 else 0
def dn (lt:α→α→Bool):Nat→List α→Nat→Nat→List α × Nat
 | 0,xs,_,lk=>(xs,lk)
 | f+1,xs,p,lk=>if 2 * p+1 < xs.length then
   if lt (g xs (les lt xs p)) (g xs p)=true then dn lt f (sw xs p (les lt xs p)) (les lt xs p) (lk+kids xs.length p) else (xs,lk+kids xs.length p)
  else (xs,lk)
def up (lt:α→α→Bool):Nat→List α→Nat→Nat→List α × Nat
 | 0,xs,_,lk=>(xs,lk)
 | f+1,xs,p,lk=>if 0 < p then
   if lt (g xs p) (g xs ((p - 1) / 2))=true then up lt f (sw xs p ((p - 1) / 2)) ((p - 1) / 2) (lk+1) else (xs,lk+1)
  else (xs,lk)
theorem les_lo {lt:α→α→Bool} {xs:List α} {p:Nat}:2 * p+1≤les lt xs p:=by unfold les; split <;> lia
theorem les_hi {lt:α→α→Bool} {xs:List α} {p:Nat}:les lt xs p≤2 * p+2:=by unfold les; split <;> lia
theorem les_lt {lt:α→α→Bool} {xs:List α} {p:Nat} (h:2 * p+1 < xs.length):les lt xs p < xs.length:=by unfold les; split <;> lia
theorem les_min {lt:α→α→Bool} (o:Od lt) {xs:List α} {p k:Nat} (hk:k < xs.length) (hp:k=2 * p+1∨k=2 * p+2):lt (g xs k) (g xs (les lt xs p))=false:=by
 unfold les
 split
 ·rename_i h
  rcases hp with rfl | rfl
  ·exact o.as _ _ h.2
  ·exact o.irr _
 ·rename_i h
  rcases hp with rfl | rfl
  ·exact o.irr _
  ·cases e:lt (g xs (2 * p+2)) (g xs (2 * p+1)) with
   | false=>rfl
   | true=>exact absurd ⟨hk,e⟩ h
theorem dn_len {lt:α→α→Bool}:∀ {f:Nat} {xs:List α} {p lk:Nat},(dn lt f xs p lk).1.length=xs.length
 | 0,xs,p,lk=>rfl
 | f+1,xs,p,lk=>by
  unfold dn
  split
  ·split
   ·rw [dn_len,sw_len]
   ·rfl
  ·rfl
theorem dn_perm {lt:α→α→Bool}:∀ {f:Nat} {xs:List α} {p lk:Nat},(dn lt f xs p lk).1.Perm xs
 | 0,xs,p,lk=>.refl _
 | f+1,xs,p,lk=>by
  unfold dn
  split
  ·rename_i h
   split
   ·exact dn_perm.trans (sw_perm (by lia) (les_lt h))
   ·exact .refl _
  ·exact .refl _
theorem up_perm {lt:α→α→Bool}:∀ {f:Nat} {xs:List α} {p lk:Nat},p < xs.length→(up lt f xs p lk).1.Perm xs
 | 0,xs,p,lk,_=>.refl _
 | f+1,xs,p,lk,hp=>by
  unfold up
  split
  ·split
   ·exact (up_perm (by rw [sw_len]; lia)).trans (sw_perm (by lia) (by lia))
   ·exact .refl _
  ·exact .refl _
def HF (lt:α→α→Bool) (q:Nat) (xs:List α):Prop:=∀ k,0 < k→k < xs.length→q≤(k - 1) / 2→lt (g xs k) (g xs ((k - 1) / 2))=false
def IsH (lt:α→α→Bool) (xs:List α):Prop:=∀ k,0 < k→k < xs.length→lt (g xs k) (g xs ((k - 1) / 2))=false
theorem HF.zero {lt:α→α→Bool} {xs:List α} (h:HF lt 0 xs):IsH lt xs:=fun k a b=>h k a b (Nat.zero_le _)
theorem dn_heap {lt:α→α→Bool} (o:Od lt) {q:Nat}:∀ {f:Nat} {xs:List α} {p lk:Nat},xs.length≤p+f→q≤p →
  (∀ k,0 < k→k < xs.length→q≤(k - 1) / 2→(k - 1) / 2≠p→lt (g xs k) (g xs ((k - 1) / 2))=false) →
  (p=q∨(0 < p∧q≤(p - 1) / 2∧∀ k,0 < k→k < xs.length→(k - 1) / 2=p→lt (g xs k) (g xs ((p - 1) / 2))=false))→HF lt q (dn lt f xs p lk).1
 | 0,xs,p,lk,hf,hq,h1,h2=>by
  intro k k0 k1 k2
  exact h1 k k0 k1 k2 (by have:k < xs.length:=k1; lia)
 | f+1,xs,p,lk,hf,hq,h1,h2=>by
  unfold dn
  split
  ·rename_i hc
   have b1:=les_lo (lt:=lt) (xs:=xs) (p:=p)
   have b2:=les_hi (lt:=lt) (xs:=xs) (p:=p)
   have b3:=les_lt (lt:=lt) hc
   have bm:=fun k hk hp=>les_min o (xs:=xs) (p:=p) (k:=k) hk hp
   split
   ·rename_i hl
    generalize les lt xs p=b at *
    have hpl:p < xs.length:=by lia
    refine dn_heap o (by rw [sw_len]; lia) (by lia) (fun k k0 k1 k2 k3=>?_) (.inr ⟨by lia,by lia,fun k k0 k1 k2=>?_⟩)
    ·rw [sw_len] at k1
     rw [g_sw hpl b3,g_sw hpl b3]
     by_cases e1:k=b
     ·subst e1
      have e2:(k - 1) / 2=p:=by lia
      rw [if_pos rfl,e2,if_neg (by lia),if_pos rfl]
      exact o.as _ _ hl
     ·rw [if_neg e1,if_neg (by lia:¬ (k - 1) / 2=b)]
      by_cases e2:(k - 1) / 2=p
      ·rw [if_neg (by lia),if_pos e2]
       exact bm k k1 (by lia)
      ·rw [if_neg e2]
       by_cases e3:k=p
       ·subst e3
        rw [if_pos rfl]
        rcases h2 with h2 | ⟨_,_,h2⟩
        ·lia
        ·exact h2 b (by lia) b3 (by lia)
       ·rw [if_neg e3]
        exact h1 k k0 k1 k2 e2
    ·rw [sw_len] at k1
     have e1:(b - 1) / 2=p:=by lia
     rw [e1,g_sw hpl b3,g_sw hpl b3,if_neg (by lia),if_neg (by lia),if_neg (by lia),if_pos rfl]
     have:=h1 k k0 k1 (by lia) (by lia)
     rwa [k2] at this
   ·rename_i hl
    intro k k0 k1 k2
    by_cases e2:(k - 1) / 2=p
    ·rw [e2]
     have hl':lt (g xs (les lt xs p)) (g xs p)=false:=by simpa using hl
     exact o.nt _ _ _ (bm k k1 (by lia)) hl'
    ·exact h1 k k0 k1 k2 e2
  ·intro k k0 k1 k2
   exact h1 k k0 k1 k2 (by have:k < xs.length:=k1; lia)
theorem up_heap {lt:α→α→Bool} (o:Od lt):∀ {f:Nat} {xs:List α} {p lk:Nat},p≤f→p < xs.length →
  (∀ k,0 < k→k < xs.length→k≠p→lt (g xs k) (g xs ((k - 1) / 2))=false) →
  (∀ k,0 < k→k < xs.length→(k - 1) / 2=p→0 < p→lt (g xs k) (g xs ((p - 1) / 2))=false)→IsH lt (up lt f xs p lk).1
 | 0,xs,p,lk,hf,hp,h1,h2=>fun k k0 k1=>h1 k k0 k1 (by lia)
 | f+1,xs,p,lk,hf,hp,h1,h2=>by
  unfold up
  split
  ·rename_i hc
   split
   ·rename_i hl
    generalize ha:(p - 1) / 2=a at *
    have hal:a < xs.length:=by lia
    refine up_heap o (by lia) (by rw [sw_len]; lia) (fun k k0 k1 k2=>?_) (fun k k0 k1 k2 k3=>?_)
    ·rw [sw_len] at k1
     rw [g_sw hp hal,g_sw hp hal,if_neg k2]
     by_cases e1:k=p
     ·subst e1
      rw [if_pos rfl,ha,if_pos rfl]
      exact o.as _ _ hl
     ·rw [if_neg e1]
      by_cases e2:(k - 1) / 2=a
      ·rw [if_pos e2]
       have q1:=h1 k k0 k1 e1
       rw [e2] at q1
       exact o.nt _ _ _ q1 (o.as _ _ hl)
      ·rw [if_neg e2]
       by_cases e3:(k - 1) / 2=p
       ·rw [if_pos e3]
        exact h2 k k0 k1 e3 hc
       ·rw [if_neg e3]
        exact h1 k k0 k1 e1
    ·rw [sw_len] at k1
     rw [g_sw hp hal,g_sw hp hal,if_neg (by lia),if_neg (by lia:¬ (a - 1) / 2=a),if_neg (by lia:¬ (a - 1) / 2=p)]
     have qa:=h1 a (by lia) hal (by lia)
     by_cases e1:k=p
     ·rw [if_pos e1]; exact qa
     ·rw [if_neg e1]
      have q1:=h1 k k0 k1 e1
      rw [k2] at q1
      exact o.nt _ _ _ q1 qa
   ·rename_i hl
    intro k k0 k1
    by_cases e1:k=p
    ·subst e1; simpa using hl
    ·exact h1 k k0 k1 e1
  ·intro k k0 k1
   exact h1 k k0 k1 (by lia)
def mk (lt:α→α→Bool):Nat→List α→Nat→List α × Nat
 | 0,xs,lk=>(xs,lk)
 | k+1,xs,lk=>mk lt k (dn lt xs.length xs k 0).1 (lk+(dn lt xs.length xs k 0).2)
theorem mk_perm {lt:α→α→Bool}:∀ {k:Nat} {xs:List α} {lk:Nat},(mk lt k xs lk).1.Perm xs
 | 0,_,_=>.refl _
 | k+1,xs,lk=>by unfold mk; exact mk_perm.trans dn_perm
theorem mk_heap {lt:α→α→Bool} (o:Od lt):∀ {k:Nat} {xs:List α} {lk:Nat},HF lt k xs→IsH lt (mk lt k xs lk).1
 | 0,_,_,h=>h.zero
 | k+1,xs,lk,h=>by
  unfold mk
  refine mk_heap o (dn_heap o (by lia) (Nat.le_refl _) (fun j j0 j1 j2 j3=>h j j0 j1 (by lia)) (.inl rfl))
theorem hf_half {lt:α→α→Bool} {xs:List α}:HF lt (xs.length / 2) xs:=fun k k0 k1 k2=>by lia
variable {lt:α→α→Bool} {xs:List α} {f p lk:Nat}
def lgs (n:Nat):Nat→Nat
 | 0=>0
 | k+1=>lgs n k+(n / (k+1)).log2
theorem root_min {lt:α→α→Bool} (o:Od lt) {xs:List α} (h:IsH lt xs):∀ k,k < xs.length→lt (g xs k) (g xs 0)=false:=fun k=>by
 induction k using Nat.strongRecOn with
 | _ k ih =>
  intro hk
  by_cases k0:k=0
  ·subst k0; exact o.irr _
  ·exact o.nt _ _ _ (h k (by lia) hk) (ih ((k - 1) / 2) (by lia) (by lia))
theorem root_mem {lt:α→α→Bool} (o:Od lt) {xs:List α} (h:IsH lt xs) {y:α} (hy:y∈xs):lt y (g xs 0)=false:=by
 obtain ⟨k,hk,e⟩:=List.getElem_of_mem hy
 rw [← e,← g_get hk]
 exact root_min o h k hk
def cutf (lt:α→α→Bool) (xs:List α):List α × Nat :=
 if xs.dropLast=[] then ([],0) else dn lt xs.dropLast.length (xs.dropLast.set 0 (g xs (xs.length - 1))) 0 0
theorem split_ends {xs:List α} (h:2≤xs.length):∃ mid,xs=g xs 0 :: mid++[g xs (xs.length - 1)]∧xs.dropLast=g xs 0 :: mid:=by
 cases xs with
 | nil=>simp at h
 | cons a l =>
  have hl:l≠[]:=by intro e; rw [e] at h; simp at h
  refine ⟨l.dropLast,?_,?_⟩
  ·show a :: l=a :: l.dropLast++[g (a :: l) l.length]
   have:g (a :: l) l.length=l.getLast hl:=by
    rw [g_get (by simp)]
    rw [List.getLast_eq_getElem]
    rw [List.getElem_cons]
    have:l.length≠0:=by intro e; exact hl (List.length_eq_zero_iff.mp e)
    simp [this]
   rw [this,List.cons_append,List.dropLast_concat_getLast]
  ·show (a :: l).dropLast=a :: l.dropLast
   exact List.dropLast_cons_of_ne_nil hl
theorem cutf_one {lt:α→α→Bool} {xs:List α} (h:xs.length=1):cutf lt xs=([],0):=by
 unfold cutf
 rw [if_pos]
 rw [← List.length_eq_zero_iff,List.length_dropLast,h]
theorem cutf_two {lt:α→α→Bool} {xs mid:List α} (e:xs.dropLast=g xs 0 :: mid):cutf lt xs=dn lt (mid.length+1) (g xs (xs.length - 1) :: mid) 0 0:=by
 unfold cutf
 rw [if_neg (by rw [e]; simp),e]
 rfl
theorem cutf_len {lt:α→α→Bool} {xs:List α}:(cutf lt xs).1.length=xs.length - 1:=by
 unfold cutf
 split
 ·rename_i h
  have:=congrArg List.length h
  rw [List.length_dropLast] at this
  exact this.symm
 ·rw [dn_len,List.length_set,List.length_dropLast]
theorem cutf_perm {lt:α→α→Bool} {xs:List α} (h:0 < xs.length):(g xs 0 :: (cutf lt xs).1).Perm xs:=by
 by_cases h2:2≤xs.length
 ·obtain ⟨mid,e,e2⟩:=split_ends h2
  rw [cutf_two e2]
  refine (List.Perm.cons _ dn_perm).trans ?_
  conv=>rhs; rw [e]
  rw [List.cons_append]
  refine List.Perm.cons _ ?_
  exact (List.perm_append_comm (l₁:=[g xs (xs.length - 1)]) (l₂:=mid))
 ·rw [cutf_one (by lia)]
  cases xs with
  | nil=>simp at h
  | cons a l =>
   have:l=[]:=List.length_eq_zero_iff.mp (by rw [List.length_cons] at h2; lia)
   subst this
   exact .refl _
theorem cutf_heap {lt:α→α→Bool} (o:Od lt) {xs:List α} (h:IsH lt xs) (hl:0 < xs.length):IsH lt (cutf lt xs).1:=by
 by_cases h2:2≤xs.length
 ·obtain ⟨mid,e,e2⟩:=split_ends h2
  rw [cutf_two e2]
  have len:xs.length=mid.length+2:=by
   have:=congrArg List.length e2
   rw [List.length_dropLast,List.length_cons] at this
   lia
  have gm:∀ k,k < mid.length→g (g xs (xs.length - 1) :: mid) (k+1)=g xs (k+1):=fun k hk=>by
   have e3:(g xs 0 :: mid++[g xs (xs.length - 1)])[k+1]?=some mid[k]:=by
    rw [List.cons_append,List.getElem?_cons_succ,List.getElem?_append_left hk,List.getElem?_eq_getElem hk]
   rw [← e] at e3
   show (g xs (xs.length - 1) :: mid).getD (k+1) default=xs.getD (k+1) default
   rw [List.getD_eq_getElem?_getD,List.getD_eq_getElem?_getD,e3,List.getElem?_cons_succ,List.getElem?_eq_getElem hk]
  refine HF.zero (dn_heap o (by rw [List.length_cons]; lia) (Nat.le_refl _) (fun k k0 k1 _ k3=>?_) (.inl rfl))
  rw [List.length_cons] at k1
  obtain ⟨k',rfl⟩:∃ k',k=k'+1:=⟨k - 1,by lia⟩
  obtain ⟨j,hj⟩:∃ j,(k'+1 - 1) / 2=j+1:=⟨(k'+1 - 1) / 2 - 1,by lia⟩
  rw [hj,gm k' (by lia),gm j (by lia)]
  have:=h (k'+1) (by lia) (by lia)
  rwa [hj] at this
 ·rw [cutf_one (by lia)]
  intro k k0 k1
  exact absurd k1 (by simp)
end
end Hg
end
section
namespace Gm
open Hg
structure En (N:Type) where
 w:Int
 n:N
 s:Int
 deriving DecidableEq
instance {N:Type} [Inhabited N]:Inhabited (En N):=⟨⟨0,default,0⟩⟩
structure Slo {N:Type} (sl:N→N→Bool):Prop where
 irr:∀ a,sl a a=false
 tr:∀ a b c,sl a b=true→sl b c=true→sl a c=true
 tot:∀ a b,a≠b→sl a b=true∨sl b a=true
section
variable {N:Type} [DecidableEq N] [Inhabited N] (sl:N→N→Bool)
def ltE (a b:En N):Bool:=if a.w=b.w then if a.n=b.n then decide (a.s < b.s) else sl a.n b.n else decide (a.w < b.w)
variable {sl}
theorem Slo.as (o:Slo sl) {a b:N} (h:sl a b=true):sl b a=false:=by
 cases e:sl b a with
 | false=>rfl
 | true=>have:=o.tr a b a h e; rw [o.irr] at this; cases this
theorem Slo.nt (o:Slo sl) {a b c:N} (h:sl a b=false) (h':sl b c=false):sl a c=false:=by
 cases e:sl a c with
 | false=>rfl
 | true =>
  by_cases hab:a=b
  ·subst hab; rw [h'] at e; cases e
  ·by_cases hbc:b=c
   ·subst hbc; rw [h] at e; cases e
   ·have h1:=(o.tot a b hab).resolve_left (by rw [h]; exact Bool.false_ne_true)
    have h2:=(o.tot b c hbc).resolve_left (by rw [h']; exact Bool.false_ne_true)
    have:=o.tr c b a h2 h1
    have:=o.as this
    rw [this] at e; cases e
theorem ltE_iff {a b:En N}:ltE sl a b=true ↔ a.w < b.w∨(a.w=b.w∧((a.n≠b.n∧sl a.n b.n=true)∨(a.n=b.n∧a.s < b.s))):=by
 unfold ltE
 by_cases h:a.w=b.w
 ·rw [if_pos h]
  by_cases h2:a.n=b.n
  ·rw [if_pos h2,decide_eq_true_eq]
   constructor
   ·intro z; exact .inr ⟨h,.inr ⟨h2,z⟩⟩
   ·rintro (z | ⟨_,⟨z,_⟩ | ⟨_,z⟩⟩)
    ·lia
    ·exact absurd h2 z
    ·exact z
  ·rw [if_neg h2]
   constructor
   ·intro z; exact .inr ⟨h,.inl ⟨h2,z⟩⟩
   ·rintro (z | ⟨_,⟨_,z⟩ | ⟨z,_⟩⟩)
    ·lia
    ·exact z
    ·exact absurd z h2
 ·rw [if_neg h,decide_eq_true_eq]
  constructor
  ·intro z; exact .inl z
  ·rintro (z | ⟨z,_⟩)
   ·exact z
   ·exact absurd z h
theorem od_ltE (o:Slo sl):Od (ltE sl) where
 as:=fun a b h=>by
  cases e:ltE sl b a with
  | false=>rfl
  | true =>
   rw [ltE_iff] at h e
   rcases h with h | ⟨h1,⟨h2,h3⟩ | ⟨h2,h3⟩⟩ <;> rcases e with e | ⟨e1,⟨e2,e3⟩ | ⟨e2,e3⟩⟩ <;> try omega
   ·rw [o.as h3] at e3; cases e3
   ·exact absurd e2.symm h2
   ·exact absurd h2.symm e2
 nt:=fun a b c h h'=>by
  cases e:ltE sl a c with
  | false=>rfl
  | true =>
   have h1:¬ ltE sl a b=true:=by rw [h]; exact Bool.false_ne_true
   have h2:¬ ltE sl b c=true:=by rw [h']; exact Bool.false_ne_true
   rw [ltE_iff] at h1 h2 e
   exfalso
   have w1:b.w≤a.w:=by
    rcases Int.lt_or_le a.w b.w with z | z
    ·exact absurd (.inl z) h1
    ·exact z
   have w2:c.w≤b.w:=by
    rcases Int.lt_or_le b.w c.w with z | z
    ·exact absurd (.inl z) h2
    ·exact z
   rcases e with e | ⟨e1,e2⟩
   ·lia
   ·have wab:a.w=b.w:=by lia
    have wbc:b.w=c.w:=by lia
    have n1:sl a.n b.n=false:=by
     cases z:sl a.n b.n with
     | false=>rfl
     | true =>
      by_cases q:a.n=b.n
      ·rw [q,o.irr] at z; cases z
      ·exact absurd (.inr ⟨wab,.inl ⟨q,z⟩⟩) h1
    have n2:sl b.n c.n=false:=by
     cases z:sl b.n c.n with
     | false=>rfl
     | true =>
      by_cases q:b.n=c.n
      ·rw [q,o.irr] at z; cases z
      ·exact absurd (.inr ⟨wbc,.inl ⟨q,z⟩⟩) h2
    have n3:=o.nt n1 n2
    rcases e2 with ⟨_,z⟩ | ⟨z1,z2⟩
    ·rw [n3] at z; cases z
    ·have:a.n=b.n:=by
      by_cases q:a.n=b.n
      ·exact q
      ·have q1:=(o.tot _ _ q).resolve_left (by rw [n1]; exact Bool.false_ne_true)
       rw [← z1] at n2
       rw [n2] at q1; cases q1
     have e4:b.n=c.n:=this.symm.trans z1
     have s1:¬ a.s < b.s:=fun z=>h1 (.inr ⟨wab,.inr ⟨this,z⟩⟩)
     have s2:¬ b.s < c.s:=fun z=>h2 (.inr ⟨wbc,.inr ⟨e4,z⟩⟩)
     lia
end
section
variable {N β γ:Type} [DecidableEq N]
def dget (L:List (N × β)) (n:N):Option β:=(L.find? fun p=>decide (p.1=n)).map (·.2)
def dput (L:List (N × β)) (n:N) (b:β):List (N × β):=if L.any (fun p=>decide (p.1=n)) then L.map (fun p=>if p.1=n then (p.1,b) else p) else L++[(n,b)]
def ddel (L:List (N × β)) (n:N):List (N × β):=L.filter fun p=>decide (p.1≠n)
theorem dget_some {L:List (N × β)} {n:N} {b:β} (h:dget L n=some b):(n,b)∈L:=by
 unfold dget at h
 obtain ⟨p,hp,rfl⟩:=Option.map_eq_some_iff.mp h
 have h1:=List.mem_of_find?_eq_some hp
 have h2:=List.find?_some hp
 simp at h2
 subst h2
 exact h1
theorem dget_of {L:List (N × β)} (nd:(L.map (·.1)).Nodup) {n:N} {b:β} (h:(n,b)∈L):dget L n=some b:=by
 induction L with
 | nil=>cases h
 | cons p r ih =>
  rw [List.map_cons,List.nodup_cons] at nd
  unfold dget
  rw [List.find?_cons]
  by_cases e:p.1=n
  ·rw [decide_eq_true e]
   rcases List.mem_cons.mp h with rfl | h
   ·rfl
   ·exact absurd (List.mem_map.mpr ⟨_,h,e.symm⟩) nd.1
  ·rw [decide_eq_false e]
   rcases List.mem_cons.mp h with rfl | h
   ·exact absurd rfl e
   ·exact ih nd.2 h
theorem dget_none {L:List (N × β)} {n:N}:dget L n=none ↔ n ∉ L.map (·.1):=by
 unfold dget
 rw [Option.map_eq_none_iff,List.find?_eq_none]
 constructor
 ·intro h z
  obtain ⟨p,hp,e⟩:=List.mem_map.mp z
  have:=h p hp
  simp [e] at this
 ·intro h p hp
  simp
  intro e
  exact h (List.mem_map.mpr ⟨p,hp,e⟩)
theorem dput_keys {L:List (N × β)} {n:N} {b:β}:(dput L n b).map (·.1)=if n∈L.map (·.1) then L.map (·.1) else L.map (·.1)++[n]:=by
 unfold dput
 by_cases h:L.any (fun p=>decide (p.1=n))=true
 ·rw [if_pos h]
  have:n∈L.map (·.1):=by
   obtain ⟨p,hp,e⟩:=List.any_eq_true.mp h
   exact List.mem_map.mpr ⟨p,hp,of_decide_eq_true e⟩
  rw [if_pos this,List.map_map]
  apply List.map_congr_left
  intro p _
  show (if p.1=n then (p.1,b) else p).1=p.1
  split <;> rfl
 ·rw [if_neg h]
  have:¬ n∈L.map (·.1):=fun z=>h (by
   obtain ⟨p,hp,e⟩:=List.mem_map.mp z
   exact List.any_eq_true.mpr ⟨p,hp,decide_eq_true e⟩)
  rw [if_neg this,List.map_append]
  rfl
theorem dput_nd {L:List (N × β)} {n:N} {b:β} (nd:(L.map (·.1)).Nodup):((dput L n b).map (·.1)).Nodup:=by
 rw [dput_keys]
 split
 ·exact nd
 ·rename_i h
  rw [List.nodup_append]
  refine ⟨nd,List.nodup_cons.mpr ⟨List.not_mem_nil,List.nodup_nil⟩,?_⟩
  intro a ha c hc
  rw [List.mem_singleton] at hc
  subst hc
  intro z; subst z; exact h ha
theorem dput_mem {L:List (N × β)} {n m:N} {b c:β} (h:(m,c)∈dput L n b):(m=n∧c=b)∨(m≠n∧(m,c)∈L):=by
 unfold dput at h
 split at h
 ·obtain ⟨p,hp,e⟩:=List.mem_map.mp h
  split at e
  ·rename_i q
   cases e
   exact .inl ⟨q,rfl⟩
  ·rename_i q
   subst e
   exact .inr ⟨q,hp⟩
 ·rename_i hn
  rcases List.mem_append.mp h with h | h
  ·refine .inr ⟨fun z=>hn (List.any_eq_true.mpr ⟨_,h,decide_eq_true z⟩),h⟩
  ·rw [List.mem_singleton] at h
   cases h
   exact .inl ⟨rfl,rfl⟩
theorem dput_in {L:List (N × β)} {n m:N} {b c:β} (h:(m,c)∈L) (hm:m≠n):(m,c)∈dput L n b:=by
 unfold dput
 split
 ·exact List.mem_map.mpr ⟨_,h,by rw [if_neg hm]⟩
 ·exact List.mem_append.mpr (.inl h)
theorem dput_self {L:List (N × β)} {n:N} {b:β}:(n,b)∈dput L n b:=by
 unfold dput
 split
 ·rename_i h
  obtain ⟨p,hp,e⟩:=List.any_eq_true.mp h
  have e:=of_decide_eq_true e
  exact List.mem_map.mpr ⟨p,hp,by rw [if_pos e,e]⟩
 ·exact List.mem_append.mpr (.inr (List.mem_singleton.mpr rfl))
theorem ddel_mem {L:List (N × β)} {n m:N} {c:β}:(m,c)∈ddel L n ↔ m≠n∧(m,c)∈L:=by
 unfold ddel
 rw [List.mem_filter]
 simp
 exact And.comm
theorem ddel_nd {L:List (N × β)} {n:N} (nd:(L.map (·.1)).Nodup):((ddel L n).map (·.1)).Nodup :=
 (List.Sublist.map _ List.filter_sublist).nodup nd
theorem dput_map {L:List (N × β)} {n:N} {b:β} {f:β→γ}:(dput L n b).map (fun p=>(p.1,f p.2))=dput (L.map fun p=>(p.1,f p.2)) n (f b):=by
 unfold dput
 have e:(L.map fun p=>(p.1,f p.2)).any (fun p=>decide (p.1=n))=L.any (fun p=>decide (p.1=n)):=by
  rw [List.any_map]; rfl
 rw [e]
 split
 ·rw [List.map_map,List.map_map]
  apply List.map_congr_left
  intro p _
  show ((if p.1=n then (p.1,b) else p).1,f (if p.1=n then (p.1,b) else p).2)=if p.1=n then (p.1,f b) else (p.1,f p.2)
  split <;> rfl
 ·rw [List.map_append]; rfl
theorem ddel_map {L:List (N × β)} {n:N} {f:β→γ}:(ddel L n).map (fun p=>(p.1,f p.2))=ddel (L.map fun p=>(p.1,f p.2)) n:=by
 unfold ddel
 rw [List.filter_map]
 rfl
theorem dget_map {L:List (N × β)} {n:N} {f:β→γ}:dget (L.map fun p=>(p.1,f p.2)) n=(dget L n).map f:=by
 unfold dget
 rw [List.find?_map,Option.map_map,Option.map_map]
 rfl
theorem dput_len {L:List (N × β)} {n:N} {b:β}:(dput L n b).length≤L.length+1:=by
 unfold dput
 split
 ·rw [List.length_map]; lia
 ·rw [List.length_append]; exact Nat.le_refl _
theorem ddel_len {L:List (N × β)} {n:N}:(ddel L n).length≤L.length:=List.length_filter_le _ _
end
structure LS (N:Type) where
 slack:Int
 there:List (N × En N)
 stamp:Nat
 row:List (En N)
 looks:Nat
section
variable {N:Type} [DecidableEq N] [Inhabited N] (sl:N→N→Bool)
def holds (T:List (N × En N)) (e:En N):Bool:=decide (dget T e.n=some e)
def enter (s:LS N) (n:N) (w:Int):LS N :=
 { s with there:=dput s.there n ⟨w,n,(s.stamp:Int)⟩,stamp:=s.stamp+1,row:=(up (ltE sl) s.row.length (s.row++[⟨w,n,(s.stamp:Int)⟩]) s.row.length 0).1,looks:=s.looks+(up (ltE sl) s.row.length (s.row++[⟨w,n,(s.stamp:Int)⟩]) s.row.length 0).2 }
def cut (s:LS N):LS N:={ s with row:=(cutf (ltE sl) s.row).1,looks:=s.looks+(cutf (ltE sl) s.row).2 }
def clean:Nat→LS N→LS N
 | 0,s=>s
 | f+1,s=>if holds s.there (g s.row 0) then s else clean f (cut sl s)
def due (s:LS N):Bool:=decide ((s.row.length:Int) - s.there.length > s.there.length) && decide ((s.row.length:Int) - s.there.length > s.slack)
def swept (s:LS N):LS N:={ s with row:=(mk (ltE sl) ((s.row.filter (holds s.there)).length / 2) (s.row.filter (holds s.there)) 0).1,looks:=s.looks+(mk (ltE sl) ((s.row.filter (holds s.there)).length / 2) (s.row.filter (holds s.there)) 0).2 }
def sweep (s:LS N):LS N:=if due s=true then swept sl s else s
def putL (s:LS N) (n:N) (w:Int):LS N:=sweep sl (enter sl s n w)
def dropT (s:LS N) (n:N):LS N:={ s with there:=ddel s.there n }
def dropL (s:LS N) (n:N):LS N:=sweep sl (dropT s n)
def leastL (s:LS N):LS N:=clean sl s.row.length s
def takeL (s:LS N):LS N:=sweep sl (dropT (cut sl (leastL sl s)) (g (leastL sl s).row 0).n)
def newL (slack:Int):LS N:=⟨slack,[],0,[],0⟩
structure LInv (s:LS N):Prop where
 nd:(s.there.map (·.1)).Nodup
 inr:∀ n e,(n,e)∈s.there→e.n=n∧e∈s.row
 st:(s.row.map (·.s)).Nodup
 lts:∀ e∈s.row,e.s < (s.stamp:Int)
 hp:IsH (ltE sl) s.row
 len:s.row.length≤s.stamp
 tl:s.there.length≤s.stamp
variable {sl}
theorem new_inv {z:Int}:LInv sl (newL (N:=N) z):=⟨List.nodup_nil,(fun _ _ h=>nomatch h),List.nodup_nil,(fun _ h=>nomatch h),(fun _ _ h=>absurd h (Nat.not_lt_zero _)),Nat.le_refl _,Nat.le_refl _⟩
theorem LInv.held {s:LS N} (I:LInv sl s) {n:N} {e:En N} (h:(n,e)∈s.there):holds s.there e=true:=by
 unfold holds
 rw [decide_eq_true_eq,(I.inr n e h).1]
 exact dget_of I.nd h
theorem holds_in {T:List (N × En N)} {e:En N} (h:holds T e=true):(e.n,e)∈T:=dget_some (of_decide_eq_true h)
theorem g_app {α:Type} [Inhabited α] {xs:List α} {e:α} {k:Nat} (h:k < xs.length):g (xs++[e]) k=g xs k:=by
 simp only [g,List.getD_eq_getElem?_getD,List.getElem?_append_left h]
theorem put_heap {α:Type} [Inhabited α] {lt:α→α→Bool} (o:Od lt) {xs:List α} (h:IsH lt xs) {e:α}:IsH lt (up lt xs.length (xs++[e]) xs.length 0).1:=by
 have l1:(xs++[e]).length=xs.length+1:=by rw [List.length_append]; rfl
 refine up_heap o (Nat.le_refl _) (by lia) (fun k k0 k1 k2=>?_) (fun k k0 k1 k2 k3=>by lia)
 rw [g_app (by lia),g_app (by lia)]
 exact h k k0 (by lia)
theorem enter_row_perm {s:LS N} {n:N} {w:Int}:(enter sl s n w).row.Perm (s.row++[⟨w,n,(s.stamp:Int)⟩]):=up_perm (by rw [List.length_append]; exact Nat.lt_succ_self _)
theorem enter_inv (o:Slo sl) {s:LS N} (I:LInv sl s) {n:N} {w:Int}:LInv sl (enter sl s n w) where
 nd:=dput_nd I.nd
 inr:=fun m e h=>by
  have p:=enter_row_perm (sl:=sl) (s:=s) (n:=n) (w:=w)
  rcases dput_mem h with ⟨rfl,rfl⟩ | ⟨_,h⟩
  ·exact ⟨rfl,p.mem_iff.mpr (List.mem_append.mpr (.inr (List.mem_singleton.mpr rfl)))⟩
  ·obtain ⟨h1,h2⟩:=I.inr m e h
   exact ⟨h1,p.mem_iff.mpr (List.mem_append.mpr (.inl h2))⟩
 st:=by
  have p:=(enter_row_perm (sl:=sl) (s:=s) (n:=n) (w:=w)).map (·.s)
  refine p.nodup_iff.mpr ?_
  rw [List.map_append,List.nodup_append]
  refine ⟨I.st,List.nodup_cons.mpr ⟨List.not_mem_nil,List.nodup_nil⟩,?_⟩
  intro a ha c hc
  obtain ⟨e,he,rfl⟩:=List.mem_map.mp ha
  rw [List.map_cons,List.map_nil,List.mem_singleton] at hc
  have:=I.lts e he
  subst hc
  exact Int.ne_of_lt this
 lts:=fun e h=>by
  have p:=enter_row_perm (sl:=sl) (s:=s) (n:=n) (w:=w)
  rcases List.mem_append.mp (p.mem_iff.mp h) with h | h
  ·have:=I.lts e h
   show e.s < ((s.stamp+1:Nat):Int)
   lia
  ·rw [List.mem_singleton] at h
   subst h
   show (s.stamp:Int) < ((s.stamp+1:Nat):Int)
   lia
 hp:=put_heap (od_ltE o) I.hp
 len:=by
  have:=(enter_row_perm (sl:=sl) (s:=s) (n:=n) (w:=w)).length_eq
  rw [List.length_append] at this
  have l:=I.len
  show _≤s.stamp+1
  rw [this]
  exact Nat.succ_le_succ l
 tl:=Nat.le_trans dput_len (Nat.succ_le_succ I.tl)
theorem LInv.root {s:LS N} (I:LInv sl s) (o:Slo sl) {e:En N} (h:e∈s.row):ltE sl e (g s.row 0)=false:=root_mem (od_ltE o) I.hp h
theorem cut_inv (o:Slo sl) {s:LS N} (I:LInv sl s) (h0:0 < s.row.length) (hh:¬ holds s.there (g s.row 0)=true):LInv sl (cut sl s):=by
 have p:=cutf_perm (lt:=ltE sl) h0
 have sub:∀ e∈(cutf (ltE sl) s.row).1,e∈s.row:=fun e he=>p.mem_iff.mp (List.mem_cons_of_mem _ he)
 refine ⟨I.nd,fun n e h=>?_,?_,fun e he=>I.lts e (sub e he),cutf_heap (od_ltE o) I.hp h0,?_,I.tl⟩
 ·obtain ⟨h1,h2⟩:=I.inr n e h
  refine ⟨h1,?_⟩
  rcases List.mem_cons.mp (p.mem_iff.mpr h2) with z | z
  ·exact absurd (z ▸ I.held h) hh
  ·exact z
 ·have:=(p.map (·.s)).nodup_iff.mpr I.st
  rw [List.map_cons,List.nodup_cons] at this
  exact this.2
 ·show (cutf (ltE sl) s.row).1.length≤s.stamp
  rw [cutf_len]
  have:=I.len
  lia
theorem cut_take_inv (o:Slo sl) {s:LS N} (I:LInv sl s) (h0:0 < s.row.length):LInv sl (dropT (cut sl s) (g s.row 0).n):=by
 have p:=cutf_perm (lt:=ltE sl) h0
 have sub:∀ e∈(cutf (ltE sl) s.row).1,e∈s.row:=fun e he=>p.mem_iff.mp (List.mem_cons_of_mem _ he)
 refine ⟨ddel_nd I.nd,fun n e h=>?_,?_,fun e he=>I.lts e (sub e he),cutf_heap (od_ltE o) I.hp h0,?_,Nat.le_trans ddel_len I.tl⟩
 ·obtain ⟨hn,h⟩:=ddel_mem.mp h
  obtain ⟨h1,h2⟩:=I.inr n e h
  refine ⟨h1,?_⟩
  rcases List.mem_cons.mp (p.mem_iff.mpr h2) with z | z
  ·exact absurd (h1.symm.trans (congrArg (·.n) z)) hn
  ·exact z
 ·have:=(p.map (·.s)).nodup_iff.mpr I.st
  rw [List.map_cons,List.nodup_cons] at this
  exact this.2
 ·show (cutf (ltE sl) s.row).1.length≤s.stamp
  rw [cutf_len]
  have:=I.len
  lia
theorem drop_inv {s:LS N} (I:LInv sl s) {n:N}:LInv sl (dropT s n):=⟨ddel_nd I.nd,fun m e h=>I.inr m e (ddel_mem.mp h).2,I.st,I.lts,I.hp,I.len,Nat.le_trans ddel_len I.tl⟩
theorem swept_perm {s:LS N}:(swept sl s).row.Perm (s.row.filter (holds s.there)):=mk_perm
theorem swept_inv (o:Slo sl) {s:LS N} (I:LInv sl s):LInv sl (swept sl s):=by
 have p:=swept_perm (sl:=sl) (s:=s)
 have sub:∀ e∈(swept sl s).row,e∈s.row:=fun e he=>(List.mem_filter.mp (p.mem_iff.mp he)).1
 refine ⟨I.nd,fun n e h=>?_,?_,fun e he=>I.lts e (sub e he),mk_heap (od_ltE o) hf_half,?_,I.tl⟩
 ·obtain ⟨h1,h2⟩:=I.inr n e h
  exact ⟨h1,p.mem_iff.mpr (List.mem_filter.mpr ⟨h2,I.held h⟩)⟩
 ·refine (p.map (·.s)).nodup_iff.mpr ?_
  exact (List.Sublist.map _ List.filter_sublist).nodup I.st
 ·rw [p.length_eq]
  exact Nat.le_trans (List.length_filter_le _ _) I.len
theorem sweep_inv (o:Slo sl) {s:LS N} (I:LInv sl s):LInv sl (sweep sl s):=by
 unfold sweep
 split
 ·exact swept_inv o I
 ·exact I
theorem sweep_there {s:LS N}:(sweep sl s).there=s.there:=by unfold sweep; split <;> rfl
theorem sweep_stamp {s:LS N}:(sweep sl s).stamp=s.stamp:=by unfold sweep; split <;> rfl
structure Cleaned (s s':LS N):Prop where
 inv:LInv sl s'
 there:s'.there=s.there
 stamp:s'.stamp=s.stamp
 slack:s'.slack=s.slack
 pos:0 < s'.row.length
 hold:holds s'.there (g s'.row 0)=true
theorem row_pos {s:LS N} (I:LInv sl s) (h:s.there≠[]):0 < s.row.length:=by
 cases e:s.there with
 | nil=>exact absurd e h
 | cons p r=>exact List.length_pos_of_mem (I.inr p.1 p.2 (by rw [e]; exact List.mem_cons_self)).2
theorem clean_ok (o:Slo sl):∀ {f:Nat} {s:LS N},LInv sl s→s.there≠[]→s.row.length≤f→Cleaned (sl:=sl) s (clean sl f s)
 | 0,s,I,h,hf=>absurd (row_pos I h) (by lia)
 | f+1,s,I,h,hf=>by
  unfold clean
  have h0:=row_pos I h
  split
  ·rename_i hh
   exact ⟨I,rfl,rfl,rfl,h0,hh⟩
  ·rename_i hh
   have c:=clean_ok o (f:=f) (cut_inv o I h0 hh) h (by show (cutf (ltE sl) s.row).1.length≤f; rw [cutf_len]; lia)
   exact ⟨c.inv,c.there,c.stamp,c.slack,c.pos,c.hold⟩
theorem least_ok (o:Slo sl) {s:LS N} (I:LInv sl s) (h:s.there≠[]):Cleaned (sl:=sl) s (leastL sl s):=clean_ok o I h (Nat.le_refl _)
theorem clean_len:∀ {f:Nat} {s:LS N},(clean sl f s).row.length≤s.row.length
 | 0,s=>Nat.le_refl _
 | f+1,s=>by
  unfold clean
  split
  ·exact Nat.le_refl _
  ·refine Nat.le_trans clean_len ?_
   show (cutf (ltE sl) s.row).1.length≤_
   rw [cutf_len]
   lia
theorem least_len {s:LS N}:(leastL sl s).row.length≤s.row.length:=clean_len
theorem put_inv (o:Slo sl) {s:LS N} (I:LInv sl s) {n:N} {w:Int}:LInv sl (putL sl s n w):=sweep_inv o (enter_inv o I)
theorem dropL_inv (o:Slo sl) {s:LS N} (I:LInv sl s) {n:N}:LInv sl (dropL sl s n):=sweep_inv o (drop_inv I)
theorem take_inv (o:Slo sl) {s:LS N} (I:LInv sl s) (h:s.there≠[]):LInv sl (takeL sl s):=sweep_inv o (cut_take_inv o (least_ok o I h).inv (least_ok o I h).pos)
structure Least (T:List (N × En N)) (e:En N):Prop where
 mem:(e.n,e)∈T
 le:∀ n e',(n,e')∈T→ltE sl e' e=false
theorem least_is (o:Slo sl) {s:LS N} (I:LInv sl s) (h:s.there≠[]):Least (sl:=sl) s.there (g (leastL sl s).row 0):=by
 have c:=least_ok o I h
 refine ⟨by have:=holds_in c.hold; rw [c.there] at this; exact this,fun n e' h'=>?_⟩
 exact c.inv.root o (c.inv.inr n e' (by rw [c.there]; exact h')).2
theorem take_there {s:LS N}:(takeL sl s).there=ddel (leastL sl s).there (g (leastL sl s).row 0).n:=sweep_there
end
end Gm
end
section
namespace L2
open PySem
instance:Inhabited Str:=⟨""⟩
abbrev En:=Gm.En Str
abbrev LS:=Gm.LS Str
def enV (e:En):List V:=[.int e.w,.str e.n,.int e.s]
theorem enV_en (e:En):isEn (enV e):=⟨_,_,_,rfl⟩
def enOf:List V→En
 | [.int w,.str n,.int s]=>⟨w,n,s⟩
 | _=>⟨0,"",0⟩
theorem enOf_V (e:En):enOf (enV e)=e:=rfl
theorem enV_of {l:List V} (h:isEn l):enV (enOf l)=l:=by
 obtain ⟨i,n,j,rfl⟩:=h
 rfl
theorem enV_inj {a b:En} (h:enV a=enV b):a=b:=by
 have:=congrArg enOf h
 exact this
abbrev lE:En→En→Bool:=Gm.ltE slt
theorem slt_slo:Gm.Slo slt where
 irr:=fun a=>decide_eq_false (List.lt_irrefl _)
 tr:=fun a b c h1 h2=>decide_eq_true (List.lt_trans (of_decide_eq_true h1) (of_decide_eq_true h2))
 tot:=fun a b h=>by
  by_cases h1:a.cps.toList < b.cps.toList
  ·exact .inl (decide_eq_true h1)
  ·by_cases h2:b.cps.toList < a.cps.toList
   ·exact .inr (decide_eq_true h2)
   ·exact absurd (str_ext (List.le_antisymm (List.not_lt.mp h2) (List.not_lt.mp h1))) h
theorem lex_enV (a b:En):lexV (enV a) (enV b)=lE a b:=by
 unfold enV
 rw [lexV_cons,lexV_cons,lexV_cons]
 show _=Gm.ltE slt a b
 unfold Gm.ltE
 by_cases h:a.w=b.w
 ·rw [if_pos (by rw [h]),if_pos h]
  by_cases h2:a.n=b.n
  ·rw [if_pos (by rw [h2]),if_pos h2]
   by_cases h3:a.s=b.s
   ·rw [if_pos (by rw [h3])]
    show false=_
    rw [h3]
    exact (decide_eq_false (Int.lt_irrefl _)).symm
   ·rw [if_neg (fun z=>h3 (V.int.inj z))]
    rfl
  ·rw [if_neg (fun z=>h2 (V.str.inj z)),if_neg h2]
   rfl
 ·rw [if_neg (fun z=>h (V.int.inj z)),if_neg h]
  rfl
def tE (H:Hp) (x:V):En:=enOf (keyE H x)
theorem tE_non (H:Hp):tE H .non=default:=rfl
theorem ltT_tE (H:Hp) (x y:V):ltT (keyE H) x y=lE (tE H x) (tE H y):=by
 rw [← lex_enV]
 unfold tE ltT
 rw [enV_of (keyE_en H x),enV_of (keyE_en H y)]
theorem tE_at {H:Hp} {a:Addr} {e:En} (h:H a=some (.tup (enV e))):tE H (.ref a)=e:=by
 unfold tE
 rw [keyE_at h (enV_en e),enOf_V]
structure RR (H:Hp) (xs:List V) (es:List En):Prop where
 mem:∀ x∈xs,∃ a,x=.ref a∧H a=some (.tup (enV (tE H x)))
 eq:xs.map (tE H)=es
section
variable {H H':Hp} {xs ys:List V} {es fs:List En}
theorem RR.en (r:RR H xs es):EnR (keyE H) H xs:=⟨keyE_en H,fun x hx=>by
 obtain ⟨a,rfl,h⟩:=r.mem x hx
 exact ⟨a,rfl,by rw [← enV_of (keyE_en H (.ref a))]; exact h⟩⟩
theorem RR.len (r:RR H xs es):xs.length=es.length:=by rw [← r.eq,List.length_map]
theorem RR.stay (r:RR H xs es) (k:∀ b l,H b=some (.tup l)→H' b=some (.tup l)):RR H' xs es:=by
 have e:∀ x∈xs,tE H' x=tE H x:=fun x hx=>by
  obtain ⟨a,rfl,h⟩:=r.mem x hx
  exact tE_at (k _ _ h)
 refine ⟨fun x hx=>?_,?_⟩
 ·obtain ⟨a,rfl,h⟩:=r.mem x hx
  exact ⟨a,rfl,by rw [e _ hx]; exact k _ _ h⟩
 ·rw [← r.eq]; exact List.map_congr_left e
theorem RR.nil:RR H [] []:=⟨(fun _ h=>nomatch h),rfl⟩
theorem RR.sub (r:RR H xs es) (s:∀ y∈ys,y∈xs):RR H ys (ys.map (tE H)):=⟨fun x hx=>r.mem x (s x hx),rfl⟩
theorem RR.snoc (r:RR H xs es) {a:Addr} {e:En} (h:H a=some (.tup (enV e))):RR H (xs++[.ref a]) (es++[e]):=by
 refine ⟨fun x hx=>?_,?_⟩
 ·rcases List.mem_append.mp hx with z | z
  ·exact r.mem x z
  ·rw [List.mem_singleton.mp z]
   exact ⟨a,rfl,by rw [tE_at h]; exact h⟩
 ·rw [List.map_append,r.eq]
  show es++[tE H (.ref a)]=_
  rw [tE_at h]
theorem RR.at (r:RR H xs es) {i:Nat} (hi:i < es.length):∃ a,Hm.g xs i=.ref a∧H a=some (.tup (enV (Hg.g es i)))∧atI xs (i:Int)=some (.ref a):=by
 have hx:i < xs.length:=by rw [r.len]; exact hi
 have m:Hm.g xs i∈xs:=by rw [Hm.g_get hx]; exact List.getElem_mem hx
 obtain ⟨a,ea,h⟩:=r.mem _ m
 have eg:Hg.g es i=tE H (Hm.g xs i):=by
  rw [Hg.g_get hi,Hm.g_get hx]
  have:=r.eq
  subst this
  rw [List.getElem_map]
 refine ⟨a,ea,by rw [eg]; exact h,?_⟩
 rw [← ea]; exact at_g hx
end
section
variable {H:Hp} {xs:List V}
theorem g_map (i:Nat):Hg.g (xs.map (tE H)) i=tE H (Hm.g xs i):=by
 unfold Hg.g Hm.g
 rw [List.getD_eq_getElem?_getD,List.getD_eq_getElem?_getD,List.getElem?_map]
 cases xs[i]? with
 | none=>exact (tE_non H).symm
 | some x=>rfl
theorem sw_map (i j:Nat):Hg.sw (xs.map (tE H)) i j=(Hm.sw xs i j).map (tE H):=by
 unfold Hg.sw Hm.sw
 rw [g_map,g_map,List.map_set,List.map_set]
theorem les_map (p:Nat):Hg.les lE (xs.map (tE H)) p=Hm.les (ltT (keyE H)) xs p:=by
 unfold Hg.les Hm.les
 rw [g_map,g_map,List.length_map,ltT_tE]
theorem dn_map:∀ {f:Nat} {xs:List V} {p lk:Nat},Hg.dn lE f (xs.map (tE H)) p lk=((Hm.dn (ltT (keyE H)) f xs p lk).1.map (tE H),(Hm.dn (ltT (keyE H)) f xs p lk).2)
 | 0,xs,p,lk=>rfl
 | f+1,xs,p,lk=>by
  unfold Hg.dn Hm.dn
  rw [les_map,List.length_map,g_map,g_map,ltT_tE,sw_map]
  have kd:Hg.kids xs.length p=Hm.kids xs.length p:=rfl
  rw [kd]
  split
  ·split
   ·exact dn_map
   ·rfl
  ·rfl
theorem up_map:∀ {f:Nat} {xs:List V} {p lk:Nat},Hg.up lE f (xs.map (tE H)) p lk=((Hm.up (ltT (keyE H)) f xs p lk).1.map (tE H),(Hm.up (ltT (keyE H)) f xs p lk).2)
 | 0,xs,p,lk=>rfl
 | f+1,xs,p,lk=>by
  unfold Hg.up Hm.up
  rw [g_map,g_map,ltT_tE,sw_map]
  split
  ·split
   ·exact up_map
   ·rfl
  ·rfl
theorem mk_map:∀ {k:Nat} {xs:List V} {lk:Nat},Hg.mk lE k (xs.map (tE H)) lk=((Hm.mk (ltT (keyE H)) k xs lk).1.map (tE H),(Hm.mk (ltT (keyE H)) k xs lk).2)
 | 0,xs,lk=>rfl
 | k+1,xs,lk=>by
  unfold Hg.mk Hm.mk
  rw [List.length_map,dn_map]
  exact mk_map
theorem cut_map {xs:List V}:Hg.cutf lE (xs.map (tE H))=((Hm.cutf (ltT (keyE H)) xs).1.map (tE H),(Hm.cutf (ltT (keyE H)) xs).2):=by
 unfold Hg.cutf Hm.cutf
 rw [g_map,List.length_map,← List.map_dropLast,← List.map_set,List.length_map,dn_map]
 by_cases h:xs.dropLast=[]
 ·rw [if_pos h,if_pos (by rw [h]; rfl)]
  rfl
 ·rw [if_neg h,if_neg (fun z=>h (List.map_eq_nil_iff.mp z))]
end
def Kept (F:List Addr) (H H':Hp):Prop:=∀ b o,H b=some o→b ∉ F→H' b=some o
section
variable {F G:List Addr} {H H1 H2:Hp}
theorem Kept.refl:Kept F H H:=fun _ _ h _=>h
theorem Kept.trans (a:Kept F H H1) (b:Kept F H1 H2):Kept F H H2:=fun x o h n=>b x o (a x o h n) n
theorem Kept.mono (a:Kept F H H1) (s:∀ b∈F,b∈G):Kept G H H1:=fun x o h n=>a x o h fun z=>n (s x z)
theorem Kept.of_same (s:Same H H1):Kept F H H1:=fun b o h _=>s b o h
theorem Kept.new {p:Addr} {o:HO} (k:Kept F H H1) (h:H1 p=none):Kept F H (upd H1 p o):=fun b u e n=>by
 have:=k b u e n
 rw [upd_ne (ne_of_none this h)]; exact this
theorem Kept.newer {p:Addr} {o:HO} (k:Kept F H H1) (h:H p=none):Kept F H (upd H1 p o):=fun b u e n=>by
 rw [upd_ne (ne_of_none e h)]; exact k b u e n
theorem Kept.put {p:Addr} {o:HO} (k:Kept F H H1) (h:p∈F):Kept F H (upd H1 p o):=fun b u e n=>by
 rw [upd_ne (fun z=>by subst z; exact n h)]; exact k b u e n
theorem Kept.none (k:Kept F H H1) {b:Addr} (h:H1 b=none) (hb:b ∉ F):H b=none:=by
 cases q:H b with
 | none=>rfl
 | some o=>have:=k b o q hb; rw [h] at this; cases this
theorem Kept.tups (k:Kept F H H1) (hF:∀ b∈F,∀ xs,H b≠some (.tup xs)):∀ b l,H b=some (.tup l)→H1 b=some (.tup l):=fun b l h=>k b _ h fun z=>hF b z l h
end
def KR (H:Hp) (ks:List (Key × V)) (T:List (Str × En)):Prop:=Paired (fun (kv:Key × V) (ne:Str × En)=>kv.1=Sum.inr ne.1∧∃ a,kv.2=.ref a∧H a=some (.tup (enV ne.2))) ks T
section
variable {H H':Hp} {ks:List (Key × V)} {T:List (Str × En)}
theorem KR.nil:KR H [] []:=Paired.nil
theorem KR.len (r:KR H ks T):ks.length=T.length:=Paired.length r
theorem KR.stay (r:KR H ks T) (k:∀ b l,H b=some (.tup l)→H' b=some (.tup l)):KR H' ks T:=Paired.mapP r fun p q ⟨a,b,c,d⟩=>⟨a,b,c,k _ _ d⟩
theorem inr_ne {a b:Str} (h:¬ a=b):¬ (Sum.inr a:Key)=Sum.inr b:=fun z=>h (Sum.inr.inj z)
theorem KR.get (r:KR H ks T) (n:Str):(valV ks (Sum.inr n)=none∧Gm.dget T n=none)∨∃ a e,valV ks (Sum.inr n)=some (.ref a)∧Gm.dget T n=some e∧H a=some (.tup (enV e)):=by
 induction r with
 | nil=>exact .inl ⟨rfl,rfl⟩
 | @cons p q l l' h _ ih =>
  obtain ⟨h1,a,h2,h3⟩:=h
  by_cases e:q.1=n
  ·refine .inr ⟨a,q.2,?_,?_,h3⟩
   ·rw [valV_pos (by rw [h1,e]),h2]
   ·unfold Gm.dget
    rw [List.find?_cons,decide_eq_true e]
    rfl
  ·have e1:valV (p :: l) (Sum.inr n)=valV l (Sum.inr n):=valV_neg (by rw [h1]; exact inr_ne e)
   have e2:Gm.dget (q :: l') n=Gm.dget l' n:=by unfold Gm.dget; rw [List.find?_cons,decide_eq_false e]
   rw [e1,e2]
   exact ih
theorem KR.put (r:KR H ks T) {n:Str} {a:Addr} {e:En} (h:H a=some (.tup (enV e))):KR H (putK ks (Sum.inr n) (.ref a)) (Gm.dput T n e):=by
 have ha:(ks.any fun kv=>decide (kv.1=Sum.inr n))=T.any fun p=>decide (p.1=n):=by
  induction r with
  | nil=>rfl
  | @cons p q l l' hh _ ih =>
   rw [List.any_cons,List.any_cons,ih,hh.1]
   congr 1
   by_cases z:q.1=n
   ·rw [decide_eq_true z,decide_eq_true (by rw [z])]
   ·rw [decide_eq_false z,decide_eq_false (inr_ne z)]
 have hm:KR H (ks.map fun kv=>if kv.1=Sum.inr n then (kv.1,V.ref a) else kv) (T.map fun p=>if p.1=n then (p.1,e) else p):=by
  clear ha
  induction r with
  | nil=>exact .nil
  | @cons p q l l' hh _ ih =>
   rw [List.map_cons,List.map_cons]
   refine .cons ?_ ih
   obtain ⟨h1,b,h2,h3⟩:=hh
   by_cases z:q.1=n
   ·rw [if_pos z,if_pos (by rw [h1,z])]
    exact ⟨h1,a,rfl,h⟩
   ·rw [if_neg z,if_neg (by rw [h1]; exact inr_ne z)]
    exact ⟨h1,b,h2,h3⟩
 have hs:KR H (ks++[(Sum.inr n,V.ref a)]) (T++[(n,e)]):=by
  clear ha hm
  induction r with
  | nil=>exact .cons ⟨rfl,a,rfl,h⟩ .nil
  | cons hh _ ih=>exact .cons hh ih
 unfold putK Gm.dput
 rw [ha]
 split
 ·exact hm
 ·exact hs
theorem KR.drop (r:KR H ks T) (n:Str):KR H (dropK ks (Sum.inr n)) (Gm.ddel T n):=by
 unfold Gm.ddel dropK
 induction r with
 | nil=>exact .nil
 | @cons p q l l' hh _ ih =>
  rw [List.filter_cons,List.filter_cons]
  by_cases z:q.1=n
  ·rw [if_neg (by rw [hh.1,z]; simp),if_neg (by simp [z])]
   exact ih
  ·rw [if_pos (by rw [hh.1]; exact decide_eq_true (inr_ne z)),if_pos (by simp [z])]
   exact .cons hh ih
end
end L2
end
section
namespace L2
open PySem
inductive Deed where
 | put (n:Str) (w:Int) | drop (n:Str) | change (n:Str) (w:Int) | take | least
def Deed.v:Deed→List V
 | .put n w=>[.str "put",.str n,.int w]
 | .drop n=>[.str "drop",.str n]
 | .change n w=>[.str "change",.str n,.int w]
 | .take=>[.str "take"]
 | .least=>[.str "least"]
def Deed.ok:Deed→Prop
 | .put n _=>n.length≤10
 | .drop n=>n.length≤10
 | .change n _=>n.length≤10
 | _=>True
def hd (s:LS):En:=Hg.g (Gm.leastL slt s).row 0
abbrev Tb:=List (Str × Int)
def thW (T:List (Str × En)):Tb:=T.map fun p=>(p.1,p.2.w)
theorem thW_get {T:List (Str × En)} {n:Str}:Gm.dget (thW T) n=(Gm.dget T n).map (·.w):=Gm.dget_map
theorem thW_put {T:List (Str × En)} {n:Str} {e:En}:thW (Gm.dput T n e)=Gm.dput (thW T) n e.w:=Gm.dput_map
theorem thW_del {T:List (Str × En)} {n:Str}:thW (Gm.ddel T n)=Gm.ddel (thW T) n:=Gm.ddel_map
theorem thW_nil {T:List (Str × En)}:thW T=[] ↔ T=[]:=List.map_eq_nil_iff
structure LeastP (t:Tb) (w:Int) (n:Str):Prop where
 mem:(n,w)∈t
 le:∀ m v,(m,v)∈t→ltP (v,m) (w,n)=false
theorem ltP_iff {a b:Int × Str}:ltP a b=true ↔ a.1 < b.1∨(a.1=b.1∧slt a.2 b.2=true):=by
 unfold ltP prV
 rw [lexV_cons,lexV_cons]
 by_cases h:a.1=b.1
 ·rw [if_pos (by rw [h])]
  by_cases h2:a.2=b.2
  ·rw [if_pos (by rw [h2])]
   constructor
   ·intro z; cases z
   ·rintro (z | ⟨_,z⟩)
    ·lia
    ·rw [h2,slt_slo.irr] at z; cases z
  ·rw [if_neg (fun z=>h2 (V.str.inj z))]
   constructor
   ·intro z; exact .inr ⟨h,z⟩
   ·rintro (z | ⟨_,z⟩)
    ·lia
    ·exact z
 ·rw [if_neg (fun z=>h (V.int.inj z))]
  constructor
  ·intro z; exact .inl (of_decide_eq_true z)
  ·rintro (z | ⟨z,_⟩)
   ·exact decide_eq_true z
   ·exact absurd z h
theorem least_plain {s:LS} (I:Gm.LInv slt s) (h:s.there≠[]):LeastP (thW s.there) (hd s).w (hd s).n:=by
 have l:=Gm.least_is slt_slo I h
 refine ⟨List.mem_map.mpr ⟨_,l.mem,rfl⟩,fun m v hm=>?_⟩
 obtain ⟨⟨m',e⟩,hp,he⟩:=List.mem_map.mp hm
 cases he
 have q:=l.le m' e hp
 cases z:ltP (e.w,m') ((hd s).w,(hd s).n) with
 | false=>rfl
 | true =>
  have en:=(I.inr m' e hp).1
  rw [ltP_iff] at z
  have:Gm.ltE slt e (hd s)=true:=Gm.ltE_iff.mpr (by
   rcases z with z | ⟨z1,z2⟩
   ·exact .inl z
   ·refine .inr ⟨z1,.inl ⟨fun y=>?_,by rw [en]; exact z2⟩⟩
    dsimp only at z2
    rw [← en,y,slt_slo.irr] at z2; cases z2)
  have q':Gm.ltE slt e (hd s)=false:=q
  rw [q'] at this; cases this
end L2
end
section
namespace L2
open PySem PySem.Spec PyProof.Rows
end L2
namespace L2
open PySem PySem.Spec PyProof.Rows
section
variable {P:Program} {w:World} {K:PySem.W.Frag} {mg:Str→Option Value} {base:Heap}
theorem Fun.okQ {x qual:Str} {st:Stmt} {f:Addr} {fd:FuncData} {N ps:List Str} {k:Nat} {sp:Sp} (F:Fun K x qual st f fd) (S:FnScope N ps (defScope st)) (len:∀ vs H Q E,sp vs H Q E→vs.length=ps.length)
  (hbody:∀ (cdv:Value) (A:Around) (outer:List Env) (s:Shared) (H:Hp) (vs:List V) (Q:VK) (E:XK),Room k (A.deeper (envOfC qual (defScope st) s.heap.objs.size f cdv))→sp vs H Q E →
   ∃ t,QSs (cxOf CX0 P w K mg base N qual (defScope st) f cdv A outer s H E).nox (defBody st) t∧t { nx:=fun _ H'=>Q .non H',rt:=Q } (start N vs) H):FnOk P w K mg base CX0 (k+1) f fd ps sp :=
 F.ok S len fun cdv A outer s H vs Q E hr h=>let ⟨t,a,b⟩:=hbody cdv A outer s H vs Q E hr h; ⟨t,a.to,b⟩
end
end L2
namespace L2
open PySem PySem.Spec PyProof.Rows
end L2
namespace L2
open PySem PySem.Spec PyProof.Rows
end L2
namespace L2
open PySem PySem.Spec PyProof.Rows
end L2
namespace L2
open PySem PySem.Spec PyProof.Rows
section
variable {X:Cx}
def tIfJ (c:TT) (t u:TS):TS:=fun D σ H=>∃ J:St→Hp→Prop,(c σ H fun b H1=>if b=true then t { D with nx:=J } σ H1 else u { D with nx:=J } σ H1)∧∀ σ' H',J σ' H'→D.nx σ' H'
theorem ps_ifJ {c:Expr} {a b:List Stmt} {tc:TT} {t u:TS} {pos:Pos} (hc:PT X c tc) (ha:PSs X a t) (hb:PSs X b u):PS X (.If c a b pos) (tIfJ tc t u):=by
 intro pins s σ H D I ⟨J,h,j⟩
 refine thn (ps_if hc ha hb pins s σ H { D with nx:=J } I h) fun f s' q=>?_
 cases f with
 | next=>obtain ⟨σ',H',I',z⟩:=q; exact ⟨σ',H',I',j _ _ z⟩
 | ret v=>exact q
 | brk=>exact q
 | cont=>exact q
theorem qs_ifJ {c:Expr} {a b:List Stmt} {tc:TT} {t u:TS} {pos:Pos} (hc:QT X c tc) (ha:QSs X a t) (hb:QSs X b u):QS X (.If c a b pos) (tIfJ tc t u):=.mk (ps_ifJ hc.to ha.to hb.to)
end
end L2
end
section
namespace L2
open PySem PySem.W PySem.Spec PySem.Calls PyProof.Rows
theorem entry_unchain:entryFor table "proto.unchain"=some Builtin.«proto.unchain»:=entryFor_of_fast (by kernel_rfl)
section
variable {prog:Program} {w:World} {A:Around} {E:Value→Shared→Prop} {s:Shared}
def Bare (h:Heap) (e:Addr):Prop:=∃ (o:Obj) (vs:Array Value),h.get? e=some o∧o.data=.fields vs∧vs[2]?=some .none
theorem wp_unchain {a e:Addr} {Q:Value→Shared→Prop} (hb:Bare s.heap e) (hQ:Q .none s):wpAny (model prog w) A (runValue (.builtin "proto.unchain" ⟨[.ref a,.ref e,.ref e,.bool false],[]⟩)) Q E s:=by
 obtain ⟨o,vs,ho,hd,h2⟩:=hb
 refine wpAny_runValue (codeAny_builtin entry_unchain ?_)
 show wpAny _ _ (field (.ref e) 2 >>= _) _ _ s
 refine wpAny_bind (wpAny_field ho hd h2 ?_)
 show wpAny _ _ (if (Value.none == Value.none)=true then _ else _) _ _ s
 rw [if_pos (beq_self_eq_true Value.none)]
 exact wpAny_pure hQ
theorem wp_raiseNewH {α:Type} {a e:Addr} {oa:Obj} {va:Array Value} {Q:α→Shared→Prop} (hh:A.handled=some (.ref e)) (hb:Bare s.heap e) (hne:e≠a) (ha:s.heap.get? a=some oa) (hd:oa.data=.fields va) (hz:2 < va.size)
  (hE:E (.ref a) { s with heap:=s.heap.update a (Obj.mapFields (·.setIfInBounds 2 (.ref e))) }):wpAny (model prog w) A (raiseNew (α:=α) (.ref a)) Q E s:=by
 simp only [raiseNew]
 refine wpAny_bind (wpAny_handled ?_)
 rw [hh]
 show wpAny _ _ (if (Value.ref e != Value.ref a)=true then _ else _) _ _ s
 have hn:(Value.ref e != Value.ref a)=true:=by
  rw [bne_iff_ne]
  intro z
  injection z with z
  exact hne z
 rw [if_pos hn]
 refine wpAny_bind (wpAny_holding (wp_unchain hb ?_))
 simp only [updateField]
 refine wpAny_bind (wpAny_bind (wpAny_load ha ?_))
 rw [hd]
 show wpAny _ _ (if 2 < va.size then _ else _) _ _ s
 rw [if_pos hz]
 exact wpAny_update ha (wpAny_throw hE)
open PySem (slot_listiter_next entry_listiter_next args_listiter_next)
theorem next_list_endH {it l e:Addr} {i:Nat} {items:Array Value} {Q:Option Value→Shared→Prop} (hh:A.handled=some (.ref e)) (hb:Bare s.heap e) (hei:e≠it)
  (hit:s.heap.IsListIter it l i) (hl:s.heap.IsList l items) (hx:items[i]?=none)
  (hQ:∀ h',Heap.ExtBut it s.heap h'→Q none { s with heap:=h' }):wpAny (model prog w) A (pyNext (.ref it)) Q E s:=by
 obtain ⟨o,ho,hc,hd⟩:=id hit
 obtain ⟨ol,hol,_,nl,hdl⟩:=hl
 unfold pyNext
 refine wpAny_bind (wpAny_attempt (wpAny_callSpecial?_slot (name:=Str.ofString "__next__") hit.typeIs slot_listiter_next
  (wpAny_call_entry slot_listiter_next hit.typeIs entry_listiter_next ?_ (args_listiter_next _))))
 show wpAny _ _ (field (.ref it) 0 >>= _) _ _ s
 refine wpAny_bind (wpAny_field ho hd (x:=.ref l) rfl ?_)
 show wpAny _ _ (if (Value.ref l == Value.none)=true then _ else _) _ _ s
 rw [if_neg (show ¬ ((Value.ref l == Value.none)=true) from Bool.false_ne_true)]
 show wpAny _ _ (field (.ref it) 1 >>= _) _ _ s
 refine wpAny_bind (wpAny_field ho hd (x:=.int i 0) rfl ?_)
 show wpAny _ _ (seqItems? (.ref l) >>= _) _ _ s
 refine wpAny_bind (wpAny_seqItems hol hdl ?_)
 simp only [Int.toNat_natCast,hx]
 refine wpAny_bind (wpAny_rule (wpAny_bind (wpAny_setField ho hd (by simp) ?_)))
 show wpAny _ _ (newExc (.type "StopIteration") [] >>= _) _ _ _
 refine wpAny_bind ?_
 simp only [newExc,newTuple]
 refine wpAny_bind (wpAny_newObj_type ?_ (by size_fits))
 refine wpAny_bind (m:=firstArgMember _ _) (wpAny_of_eq (a:=Value.none) (by first | rfl | (simp only [firstArgMember]; rfl)) ?_)
 refine wpAny_newObj_type ?_ (by size_fits)
 obtain ⟨oe,ve,hoe,hde,h2e⟩:=hb
 have lt:e < s.heap.objs.size:=Heap.lt_size hoe
 have he1:(s.heap.update it (Obj.mapFields fun x=>x.setIfInBounds 0 Value.none)).get? e=some oe:=by rw [Heap.get?_update_ne _ _ _ _ hei]; exact hoe
 have sz:(s.heap.update it (Obj.mapFields fun x=>x.setIfInBounds 0 Value.none)).objs.size=s.heap.objs.size:=Heap.size_update ..
 refine wp_raiseNewH (show A.in1.handled=some (.ref e) from hh) ⟨oe,ve,Heap.get?_push_of_some _ (Heap.get?_push_of_some _ he1),hde,h2e⟩ ?_ (Heap.get?_push_size _ rfl) rfl (by rw [Array.size_append]; show 2 < 6+_; lia) ?_
 ·intro z
  have l1:=Heap.lt_size he1
  rw [z] at l1
  have l2:((s.heap.update it (Obj.mapFields fun x=>x.setIfInBounds 0 Value.none)).push { cls:=Value.type "tuple",data:=Data.seq #[] }).objs.size=(s.heap.update it (Obj.mapFields fun x=>x.setIfInBounds 0 Value.none)).objs.size+1:=Heap.size_push ..
  have l3:((s.heap.update it (Obj.mapFields fun x=>x.setIfInBounds 0 Value.none)).push { cls:=Value.type "tuple",data:=Data.seq #[] }).objs.size < (s.heap.update it (Obj.mapFields fun x=>x.setIfInBounds 0 Value.none)).objs.size:=l1
  lia
 ·refine wpAny_bind (wpAny_isInstance (T:="StopIteration") (b:=true) ⟨_,Heap.get?_update_self _ (Heap.get?_push_size _ rfl) rfl,rfl⟩ isSubtype_stop ?_)
  refine wpAny_pure (hQ _ ?_)
  refine fun b o hb e=>?_
  rw [Heap.get?_update_ne]
  ·exact (((Heap.SameBut.update ..).extBut.push _).push _) b o hb e
  ·intro z
   have l1:=Heap.lt_size e
   rw [z] at l1
   have l2:((s.heap.update it (Obj.mapFields fun x=>x.setIfInBounds 0 Value.none)).push { cls:=Value.type "tuple",data:=Data.seq #[] }).objs.size=(s.heap.update it (Obj.mapFields fun x=>x.setIfInBounds 0 Value.none)).objs.size+1:=Heap.size_push ..
   have l3:((s.heap.update it (Obj.mapFields fun x=>x.setIfInBounds 0 Value.none)).push { cls:=Value.type "tuple",data:=Data.seq #[] }).objs.size < s.heap.objs.size:=l1
   lia
theorem next_range_endH {it e:Addr} {x left step:Int} {Q:Option Value→Shared→Prop} (hh:A.handled=some (.ref e)) (hb:Bare s.heap e) (hit:IsRangeIter s.heap it x left step) (hleft:left≤0)
  (hQ:∀ h',Heap.ExtBut it s.heap h'→Q none { s with heap:=h' }):wpAny (model prog w) A (pyNext (.ref it)) Q E s:=by
 have hT:s.TypeIs (.ref it) "range_iterator":=⟨_,hit,rfl⟩
 unfold pyNext
 refine wpAny_bind (wpAny_attempt (wpAny_callSpecial?_slot (name:=Str.ofString "__next__") hT F.slot_range_iterator_next
  (wpAny_call_entry F.slot_range_iterator_next hT F.entry_range_iterator_next ?_ (F.args_range_iterator_next_1 _))))
 show wpAny _ _ (field (.ref it) 0 >>= _) _ _ s
 refine wpAny_bind (wpAny_field hit rfl (x:=rawInt x) rfl ?_)
 show wpAny _ _ (field (.ref it) 1 >>= _) _ _ s
 refine wpAny_bind (wpAny_field hit rfl (x:=rawInt left) rfl ?_)
 show wpAny _ _ (field (.ref it) 2 >>= _) _ _ s
 refine wpAny_bind (wpAny_field hit rfl (x:=rawInt step) rfl ?_)
 show wpAny _ _ (if left≤0 then _ else _) _ _ s
 rw [if_pos hleft]
 refine wpAny_bind (wpAny_rule ?_)
 refine wpAny_bind ?_
 show wpAny _ _ (newExc (.type "StopIteration") [] >>= _) _ _ _
 refine wpAny_bind ?_
 simp only [newExc,newTuple]
 refine wpAny_bind (wpAny_newObj_type ?_ (by size_fits))
 refine wpAny_bind (m:=firstArgMember _ _) (wpAny_of_eq (a:=Value.none) (by first | rfl | (simp only [firstArgMember]; rfl)) ?_)
 refine wpAny_newObj_type ?_ (by size_fits)
 obtain ⟨oe,ve,hoe,hde,h2e⟩:=hb
 have l2:(s.heap.push { cls:=Value.type "tuple",data:=Data.seq #[] }).objs.size=s.heap.objs.size+1:=Heap.size_push ..
 refine wp_raiseNewH (show A.in1.handled=some (.ref e) from hh) ⟨oe,ve,Heap.get?_push_of_some _ (Heap.get?_push_of_some _ hoe),hde,h2e⟩ ?_ (Heap.get?_push_size _ rfl) rfl (by rw [Array.size_append]; show 2 < 6+_; lia) ?_
 ·intro z
  have l1:=Heap.lt_size hoe
  rw [z] at l1
  have l3:(s.heap.push { cls:=Value.type "tuple",data:=Data.seq #[] }).objs.size < s.heap.objs.size:=l1
  lia
 ·refine wpAny_bind (wpAny_isInstance (T:="StopIteration") (b:=true) ⟨_,Heap.get?_update_self _ (Heap.get?_push_size _ rfl) rfl,rfl⟩ isSubtype_stop ?_)
  refine wpAny_pure (hQ _ ?_)
  refine fun b o hb e=>?_
  rw [Heap.get?_update_ne]
  ·exact (((Heap.ExtBut.refl it s.heap).push _).push _) b o hb e
  ·intro z
   have l1:=Heap.lt_size e
   rw [z] at l1
   have l3:(s.heap.push { cls:=Value.type "tuple",data:=Data.seq #[] }).objs.size < s.heap.objs.size:=l1
   lia
end
end L2
end
section
namespace L2
open PySem PySem.Spec PyProof.Rows
def Hush (X:Cx):Prop:=X.A.handled=none∨∃ (e:Addr) (o:Obj) (vs:Array Value),X.A.handled=some (.ref e)∧(e,o)∈X.pn∧o.data=.fields vs∧vs[2]?=some .none
section
variable {X:Cx} {pins:List (Addr × Obj)} {σ:St} {H:Hp} {s:Shared} {E:Value→Shared→Prop}
theorem Hush.list_end {it l:Addr} {i:Nat} {items:Array Value} {Q:Option Value→Shared→Prop} (hc:Hush X) (I:Inv X pins σ H s) (f5:∀ p∈X.pn++pins,p.1≠it) (hit:s.heap.IsListIter it l i) (hl:s.heap.IsList l items) (hx:items[i]?=none)
  (hQ:∀ h',Heap.ExtBut it s.heap h'→Q none { s with heap:=h' }):wpAny (model X.prog X.w) X.A (pyNext (.ref it)) Q E s:=by
 rcases hc with h | ⟨e,o,vs,h,hm,hd,h2⟩
 ·exact wpAny_pyNext_list_end h hit hl hx hQ
 ·exact next_list_endH h ⟨o,vs,(I.pin (e,o) (List.mem_append_left _ hm)).1,hd,h2⟩ (f5 (e,o) (List.mem_append_left _ hm)) hit hl hx hQ
theorem Hush.range_end {it:Addr} {x left step:Int} {Q:Option Value→Shared→Prop} (hc:Hush X) (I:Inv X pins σ H s) (hit:IsRangeIter s.heap it x left step) (hleft:left≤0)
  (hQ:∀ h',Heap.ExtBut it s.heap h'→Q none { s with heap:=h' }):wpAny (model X.prog X.w) X.A (pyNext (.ref it)) Q E s:=by
 rcases hc with h | ⟨e,o,vs,h,hm,hd,h2⟩
 ·exact wpAny_pyNext_range_end h hit hleft hQ
 ·exact next_range_endH h ⟨o,vs,(I.pin (e,o) (List.mem_append_left _ hm)).1,hd,h2⟩ hit hleft hQ
end
theorem range_itemH {prog:Program} {w:World} {A:Around} {E:Value→Shared→Prop} {it:Addr} {a c:Int} {n i:Nat} {s:Shared} {Q:Option Value→Shared→Prop} (hi:i < n) (st:IsRangeIter s.heap it (a+(i:Nat) * c) ((n:Int) - (i:Nat)) c)
  (hQ:∀ v h' tk,(∃ t,v=.int (a+i * c) t)→IsRangeIter h' it (a+((i+1:Nat):Int) * c) ((n:Int) - ((i+1:Nat):Int)) c→(∀ b o,b ∉ [it]→s.heap.get? b=some o→h'.get? b=some o)→Q (some v) { s with heap:=h',toks:=tk }) :
  wpAny (model prog w) A (pyNext (.ref it)) Q E s:=by
 refine wpAny_pyNext_range_item st (by lia) fun h' hit' hs'=>?_
 refine hQ _ h' _ ⟨_,rfl⟩ ?_ fun b o hb e=>hs'.extBut b o (fun h=>hb (by simp [h])) e
 have e1:a+((i+1:Nat):Int) * c=a+(i:Int) * c+c:=by push_cast; rw [Int.add_mul,Int.one_mul,Int.add_assoc]
 have e2:(n:Int) - ((i+1:Nat):Int)=(n:Int) - (i:Int) - 1:=by push_cast; lia
 rw [e1,e2]; exact hit'
structure TurnH (P:Program) (w:World) (K:PySem.W.Frag) (tg:Expr) (J:It) (fp:List Addr) (it:Addr) (tn:Nat→Heap→Prop):Prop where
 mem:it∈fp
 obj:∀ i h,tn i h→∀ b∈fp,∃ o,h.get? b=some o∧∀ v,o.data≠.cell v
 keep:∀ i h h',tn i h→(∀ b∈fp,∀ o,h.get? b=some o→h'.get? b=some o)→tn i h'
 item:∀ (X:Cx),X.prog=P→X.w=w→X.K=K→Hush X→∀ (i:Nat) (pins:List (Addr × Obj)) (s:Shared) (σ:St) (H:Hp) (E:Value→Shared→Prop),Inv X pins σ H s→(∀ b∈fp,FpOk X pins H b)→tn i s.heap→J.go i H →
  wpAny (model P w) X.A (pyNext (.ref it)) (fun r s1=>∃ u,r=some u ∧
   wpAny (model P w) X.A (letOwnedTupleGo tg (.ref it) u) (fun _ s2=>∃ x H',Inv X pins σ H' s2∧RelV x u∧J.yld i H x H'∧tn (i+1) s2.heap∧∀ b∈fp,H' b=none) E s1) E s
 done:∀ (X:Cx),X.prog=P→X.w=w→X.K=K→Hush X→∀ (i:Nat) (pins:List (Addr × Obj)) (s:Shared) (σ:St) (H:Hp) (E:Value→Shared→Prop),Inv X pins σ H s→(∀ b∈fp,FpOk X pins H b)→tn i s.heap→J.stop i H →
  wpAny (model P w) X.A (pyNext (.ref it)) (fun r s1=>r=none∧Inv X pins σ H s1) E s
 self:∀ (A:Around) (i:Nat) (s:Shared) (Q:Value→Shared→Prop) (E:Value→Shared→Prop),tn i s.heap→Q (.ref it) s→wpAny (model P w) A (pyIter (.ref it)) Q E s
def PIEH (X:Cx) (pins:List (Addr × Obj)) (σ:St) (tg:Expr) (R:It→Hp→Prop) (itv:Value) (s2:Shared):Prop :=
 ∃ (it:Addr) (fp:List Addr) (tn:Nat→Heap→Prop) (J:It) (H':Hp),itv=.ref it∧Inv X pins σ H' s2∧TurnH X.prog X.w X.K tg J fp it tn∧tn 0 s2.heap∧(∀ b∈fp,FpOk X pins H' b)∧R J H'
def PIH (X:Cx) (tg iter:Expr) (wi:TI):Prop :=
 ∀ (pins:List (Addr × Obj)) (s:Shared) (σ:St) (H:Hp) (R:It→Hp→Prop),Inv X pins σ H s→wi σ H R →
  wpAny (model X.prog X.w) X.A (eval iter X.env) (fun v s1=>wpAny (model X.prog X.w) X.A (pyIter v) (PIEH X pins σ tg R) X.xe s1) X.xe s
theorem turn_listH {P:Program} {w:World} {K:PySem.W.Frag} {tg:Expr} (a it:Addr):TurnH P w K tg (Itl K a) [it] it (fun i h=>h.IsListIter it a i) where
 mem:=by simp
 obj:=fun i h st b hb=>by
  have e:b=it:=by simpa using hb
  subst e
  obtain ⟨o,e,c,d⟩:=st
  exact ⟨o,e,fun v z=>by rw [d] at z; cases z⟩
 keep:=fun i h h' st k=>st.at fun o e=>k it (by simp) o e
 item:=by
  intro X hP hw hK hc i pins s σ H E I hf st hg
  subst hP hw hK
  obtain ⟨xs,x,hq,hx⟩:=hg
  obtain ⟨its,rv,p,hz⟩:=I.list hq
  obtain ⟨u,hu,ru⟩:=rv.get hx
  obtain ⟨f0,f1,f2,f3,f4,f5⟩:=hf it (by simp)
  refine wpAny_pyNext_list_item st p.isList (x:=u) (by simpa using hu) fun h' st' sb=>?_
  have I1:Inv X pins σ H { s with heap:=h' }:=I.turned (t':=s.toks) (fun b o hb e=>(sb.2 b hb).trans e) f0 f1 f3 f4 f5
  obtain ⟨o,e,c,d⟩:=id st'
  exact ⟨u,rfl,go_of (s:={ s with heap:=h' }) e c d (by decide) ⟨x,H,I1,ru,⟨rfl,fun ys hy=>by rw [I.list_inj hy hq]; exact hx⟩,st',fun b hb=>(hf b hb).1⟩⟩
 done:=by
  intro X hP hw hK hc i pins s σ H E I hf st hg
  subst hP hw hK
  obtain ⟨xs,hq,hx⟩:=hg
  obtain ⟨its,rv,p,hz⟩:=I.list hq
  obtain ⟨f0,f1,f2,f3,f4,f5⟩:=hf it (by simp)
  have hl:=rv.length
  exact hc.list_end I f5 st p.isList (by simp; lia) fun h' eb=>⟨rfl,I.turned (t':=s.toks) (fun b o hb e=>eb b o hb e) f0 f1 f3 f4 f5⟩
 self:=fun _ _ _ _ _ st h=>wpAny_pyIter_listiter st h
theorem turn_rangeDH {P:Program} {w:World} {K:PySem.W.Frag} {tg:Expr} (it:Addr) (lo:Int) (n:Nat):TurnH P w K tg (Itd lo n) [it] it (fun i h=>IsRangeIter h it (lo+(i:Nat) * (-1)) ((n:Int) - (i:Nat)) (-1)) where
 mem:=by simp
 obj:=fun i h st b hb=>by
  have e:b=it:=by simpa using hb
  subst e
  exact ⟨_,st,fun v z=>by
   have z':Data.fields _=Data.cell v:=z
   cases z'⟩
 keep:=fun i h h' st k=>k it (by simp) _ st
 item:=by
  intro X hP hw hK hc i pins s σ H E I hf st hg
  subst hP hw hK
  obtain ⟨f0,f1,f2,f3,f4,f5⟩:=hf it (by simp)
  refine range_itemH hg st fun v h' tk hv st' kk=>?_
  obtain ⟨t,rfl⟩:=hv
  have I1:Inv X pins σ H { s with heap:=h',toks:=tk }:=I.turned (fun b o hb e=>kk b o (by simpa using hb) e) f0 f1 f3 f4 f5
  refine ⟨_,rfl,go_of (s:={ s with heap:=h',toks:=tk }) (n:="range_iterator") st' rfl rfl (by decide) ⟨.int (lo - i),H,I1,⟨t,?_⟩,⟨rfl,rfl⟩,st',fun b hb=>(hf b hb).1⟩⟩
  rw [show lo+(i:Int) * (-1)=lo - i by lia]
 done:=by
  intro X hP hw hK hc i pins s σ H E I hf st hg
  subst hP hw hK
  obtain ⟨f0,f1,f2,f3,f4,f5⟩:=hf it (by simp)
  exact hc.range_end I st (by have:n≤i:=hg; lia) fun h' eb=>⟨rfl,I.turned (t':=s.toks) (fun b o hb e=>eb b o hb e) f0 f1 f3 f4 f5⟩
 self:=fun _ _ _ _ _ st h=>wpAny_pyIter_rangeiter st h
section
variable {X:Cx} {tg:Expr}
theorem pi_listH {l:Expr} {tl:TE} (hl:PE X l tl):PIH X tg l (iList X.K tl):=by
 intro pins s σ H R I h
 refine thn (hl pins s σ H _ I h) fun v s1 ⟨x,H1,I1,r1,q1⟩=>?_
 obtain ⟨a,e,⟨xs,hq⟩,q⟩:=q1
 subst e
 cases r1
 obtain ⟨its,rv,p,hz⟩:=I1.list hq
 refine wpAny_pyIter_list p.isList ?_
 refine ⟨s1.heap.objs.size,[s1.heap.objs.size],_,_,H1,rfl,I1.kept (t':=s1.toks) fun b o e=>Heap.get?_push_of_some _ e,turn_listH a _,⟨_,Heap.get?_push_size _ rfl,rfl,rfl⟩,fun b hb=>?_,q⟩
 have e:b=s1.heap.objs.size:=by simpa using hb
 subst e
 exact I1.fpOk (Nat.le_refl _) (I1.hok.fresh (Nat.le_refl _))
theorem range_itDH {pins:List (Addr × Obj)} {σ:St} {H:Hp} {s:Shared} {R:It→Hp→Prop} {E:Value→Shared→Prop} {lo hi:Int} {t u v:Tok} {tk:Nat} (I:Inv X pins σ H s) (h1:-(2 ^ 62)≤lo) (h2:lo < 2 ^ 62) (h3:-(2 ^ 62)≤hi) (h4:hi < 2 ^ 62)
  (q:R (Itd lo (lo - hi).toNat) H):wpAny (model X.prog X.w) X.A (pyIter (.ref s.heap.objs.size)) (PIEH X pins σ tg R) E { s with heap:=s.heap.push { cls:=.type "range",data:=.fields #[.int lo t,.int hi u,.int (-1) v] },toks:=tk }:=by
 refine wpAny_pyIter_range (IsRange.new ..) (small_dn h1 h2 h3 h4) ?_
 have I1:Inv X pins σ H { s with heap:=s.heap.push { cls:=.type "range",data:=.fields #[.int lo t,.int hi u,.int (-1) v] },toks:=tk }:=I.kept fun b o e=>Heap.get?_push_of_some _ e
 refine ⟨(s.heap.push { cls:=.type "range",data:=.fields #[.int lo t,.int hi u,.int (-1) v] }).objs.size,[(s.heap.push { cls:=.type "range",data:=.fields #[.int lo t,.int hi u,.int (-1) v] }).objs.size],_,_,H,rfl,
  I1.kept (t':=tk) fun b o e=>Heap.get?_push_of_some _ e,turn_rangeDH _ lo (lo - hi).toNat,?_,fun b hb=>?_,q⟩
 ·have e1:lo+((0:Nat):Int) * (-1)=lo:=by simp
  have e2:(((lo - hi).toNat:Nat):Int) - ((0:Nat):Int)=Builtin.Range.rangeSize lo hi (-1):=by rw [rsz_dn]; lia
  show IsRangeIter _ _ (lo+((0:Nat):Int) * (-1)) ((((lo - hi).toNat:Nat):Int) - ((0:Nat):Int)) (-1)
  rw [e1,e2]
  exact Heap.get?_push_size _ rfl
 ·have e:b=(s.heap.push { cls:=.type "range",data:=.fields #[.int lo t,.int hi u,.int (-1) v] }).objs.size:=by simpa using hb
  subst e
  exact I1.fpOk (Nat.le_refl _) (I1.hok.fresh (Nat.le_refl _))
theorem pi_rangeDH {a b c:Expr} {ta:TA} {p pos:Pos} (hg:Gl X "range") (hm:X.mg "range"=none) (ha:PA X [a,b,c] ta) (hs:starEach [a,b,c] X.env=[(false,eval a X.env),(false,eval b X.env),(false,eval c X.env)]:=by rfl) (hs2:starEach [b,c] X.env=[(false,eval b X.env),(false,eval c X.env)]:=by rfl) :
  PIH X tg (.Call (.Name "range" p) [a,b,c] [] pos) (iRngD ta):=by
 intro pins s σ H R I h
 refine Call_ (ld_blt I hg hm boot_range (PyProof.Rows.callWith_type1 (thn (ha pos pins s σ H _ I h) fun us s1 ⟨vs,H1,I1,r1,q1⟩=>?_) (by rw [hs,hs2]) (by rw [hs2]; rfl)))
 obtain ⟨i,j,e,⟨q1,q2,q3,q4⟩,q⟩:=q1
 subst e
 cases r1 with
 | cons r rr =>
  cases rr with
  | cons r' rr =>
   cases rr with
   | cons r'' rr =>
    cases rr
    obtain ⟨t,rfl⟩:=r
    obtain ⟨t',rfl⟩:=r'
    obtain ⟨t'',rfl⟩:=r''
    exact call_range_3 (by decide) (range_itDH I1 q1 q2 q3 q4 q) (.inl (PyProof.noPylong_small (by decide)))
theorem ps_forH {iter:Expr} {body:List Stmt} {wi:TI} {g:TG} {tb:TS} {pos:Pos} (hp:PassesOwn (model X.prog X.w) X.A X.env X.xe) (hc:Hush X) (hi:PIH X tg iter wi) (hg:PG X tg g) (hb:PSs X body tb)
  (hs:∀ x,foldedSetIterable iter X.env x=pure x:=by intro _; rfl):PS X (.For tg iter body [] pos) (tFor wi g tb):=by
 intro pins s σ H D I h
 refine wpAny_For (thn (hi pins s σ H _ I h) fun v s1 h1=>thn h1 fun itv s2 h2=>?_) hs
 obtain ⟨it,fp,tn,J,H2,e,I2,T,st2,f2,W,⟨m0,w0⟩,turn⟩:=h2
 subst e
 have stat:∀ {H':Hp},(∀ b∈fp,H' b=none)→∀ b∈fp,FpOk X pins H' b:=fun hn b hb=>⟨hn b hb,(f2 b hb).2⟩
 refine codeAny_forLoop_any (fun n s'=>∃ i σ' H',Inv X pins σ' H' s'∧tn i s'.heap∧(∀ b∈fp,H' b=none)∧W i n σ' H') ?_ m0 ⟨0,σ,H2,I2,st2,fun b hb=>(f2 b hb).1,w0⟩
 rintro n s3 ⟨i,σ3,H3,I3,st3,fr3,w3⟩
 rcases turn i n σ3 H3 w3 with ⟨stop,qn⟩ | ⟨go,N,hN,step⟩
 ·refine wpAny_passesOwn hp (thn (T.done X rfl rfl rfl hc i pins s3 σ3 H3 X.xe I3 (stat fr3) st3 stop) fun r s4 ⟨hr,I4⟩=>?_)
  subst hr
  exact wpAny_execs_nil ⟨σ3,H3,I4,qn⟩
 ·refine wpAny_passesOwn hp (thn (T.item X rfl rfl rfl hc i pins s3 σ3 H3 X.xe I3 (stat fr3) st3 go) fun r s4 ⟨u,hr,h4⟩=>?_)
  subst hr
  refine wpAny_passesOwn hp (thn h4 fun _ s5 ⟨x,H5,I5,r5,y5,st5,fr5⟩=>?_)
  have I5':=I5.pinned (stat fr5) (T.obj _ _ st5)
  refine wpAny_passesOwn hp (thn (hg _ s5 σ3 H5 x u _ I5' r5 (step x H5 y5)) fun _ s6 ⟨σ6,H6,I6,q6⟩=>?_)
  refine wpAny_passesOwn hp (thn (hb _ s6 σ6 H6 _ I6 q6) fun f s7 q7=>?_)
  have again:∀ {σ7:St} {H7:Hp},Inv X (pins++pinsAt fp s5.heap) σ7 H7 s7→N σ7 H7→∃ m,m < n∧∃ i σ' H',Inv X pins σ' H' s7∧tn i s7.heap∧(∀ b∈fp,H' b=none)∧W i m σ' H':=fun {σ7 H7} I7 n7=>by
   obtain ⟨m',hm,w7⟩:=hN σ7 H7 n7
   refine ⟨m',hm,i+1,σ7,H7,I7.unpinned,T.keep _ _ _ st5 fun b hb o e=>(I7.pin (b,o) (List.mem_append_right _ (List.mem_append_right _ (mem_pinsAt hb e)))).1,fun b hb=>?_,w7⟩
   obtain ⟨o,e,d⟩:=T.obj _ _ st5 b hb
   exact (I7.pin (b,o) (List.mem_append_right _ (List.mem_append_right _ (mem_pinsAt hb e)))).2.1
  cases f with
  | next=>obtain ⟨σ7,H7,I7,n7⟩:=q7; exact again I7 n7
  | cont=>obtain ⟨σ7,H7,I7,n7⟩:=q7; exact again I7 n7
  | brk=>obtain ⟨σ7,H7,I7,q7⟩:=q7; exact ⟨σ7,H7,I7.unpinned,q7⟩
  | ret v=>obtain ⟨x7,σ7,H7,I7,r7,q7⟩:=q7; exact ⟨x7,σ7,H7,I7.unpinned,r7,q7⟩
end
def Cx.blkH (X:Cx) (scope:Scope) (cl:List (Str × Addr)) (C:Addr) (NB:List Str) (fp:List Addr) (s₀:Shared) (H₀:Hp):Cx:={ X.blk scope cl C NB fp s₀ H₀ with pn:=X.pn }
theorem comp_coreH {X:Cx} {elt iter:Expr} {x:Str} {px pos pos':Pos} {ifs:List Expr} {scope:Scope} {cl:List (Str × Addr)} {NB:List Str} {cap:List Nat} {wi:TI} {tt:TT} {te:TE}
  {pins:List (Addr × Obj)} {s:Shared} {σ:St} {H:Hp} {Q:VK} {use:Option (Value→Sem Unit)} {R:Value→Shared→Prop}
  (B:Blk X scope cl x NB cap) (hc:Hush X) (hex:X.ex=[]) (hi:PIH X (.Name x px) iter wi)
  (ht:∀ C fp s₀ H₀,PTs (X.blkH scope cl C (x :: NB) fp s₀ H₀) ifs tt) (he:∀ C fp s₀ H₀,PE (X.blkH scope cl C (x :: NB) fp s₀ H₀) elt te)
  (hs:∀ v,foldedSetIterable iter X.env v=pure v) (I:Inv X pins σ H s) (h:tComp wi tt te cap σ H Q)
  (fin:∀ (D C:Addr) (H':Hp) (s':Shared),Inv X pins σ H' s'→Gone X pins H' C s'→Q (.ref D) H'→compPost (model X.prog X.w) X.A X.xe use R (.ref D) C (.ok .next) s') :
  wpAny (model X.prog X.w) X.A (comprehension (.ListComp elt [⟨.Name x px,iter,ifs,0⟩] scope pos) scope X.env pos' (newList []) false (eval iter X.env) use) R X.xe s:=by
 refine wpAny_comprehension_free (use:=use) rfl hs B.clos B.kind B.names (thn (hi pins s σ H _ I h) fun v s1 h1=>thn h1 fun itv s2 h2=>?_)
 obtain ⟨it,fp,tn,J,H2,e,I2,T,st2,f2,h2⟩:=h2
 subst e
 refine wpAny_newObj_type (wpAny_newFunctionEnv B.nocell (by intro y hy; simp at hy) (fun h₁ hns₁ hsb₁=>?_) B.kind)
 dsimp only at hns₁ hsb₁ ⊢
 have I3:=I2.lnew (ys:=[]) (its:=[]) (t':=s2.toks) .nil (Nat.zero_le _)
 have hD:=I2.fresh
 obtain ⟨W,⟨m0,w0⟩,turn⟩:=h2 _ hD
 generalize eD:s2.heap.objs.size=D at hD I3 W w0 turn ⊢
 generalize eH2:s2.heap.push { cls:=.type "list",dict:=none,data:=.seq ([]:List Value).toArray }=G3 at hns₁ hsb₁ I3 ⊢
 generalize eH3:upd H2 D (.lst [])=H3 at I3 w0
 have hC:G3.objs.size=D+1:=by rw [← eH2,Heap.size_push,eD]
 generalize eC:G3.objs.size=C at hns₁ hsb₁ hC ⊢
 have old:∀ b o,G3.get? b=some o→h₁.get? b=some o:=fun b o e =>
  hsb₁.extBut b o (by rw [← eC]; exact Nat.ne_of_lt (Heap.lt_size e)) (Heap.get?_push_of_some _ e)
 have old2:∀ b o,s2.heap.get? b=some o→G3.get? b=some o:=fun b o e=>by rw [← eH2]; exact Heap.get?_push_of_some _ e
 have fpo:∀ b∈fp,b < D:=fun b hb=>by
  obtain ⟨o,e,_⟩:=T.obj 0 _ st2 b hb
  rw [← eD]; exact Heap.lt_size e
 have fpx:∀ b∈fp,b ∉ frs X.stack:=fun b hb z=>by
  obtain ⟨f0,f1,f2',_⟩:=f2 b hb
  rcases List.mem_cons.mp (I2.stkSub b z) with q | q
  ·exact f1 q
  ·exact f2' q
 let Y:Cx:=X.blkH scope cl C (x :: NB) fp { s2 with heap:=G3,toks:=s2.toks } H3
 have okY:Y.Ok:=by
  refine ⟨I3.ok.mod,B.kind,I3.ok.glob,I3.ok.blt,?_,?_,B.has,?_,I3.ok.hd,I3.ok.frames,.inl rfl,?_,I3.bs,?_,?_,?_,I3.stack,I3.stkFree⟩
  ·show G3.objs.size≤C
   lia
  ·intro y z c e1 e2
   exact I3.ok.inj y z c (B.cells y c e1) (B.cells z c e2)
  ·intro y c z
   cases z
  ·intro b hb
   have hb':b∈fp:=by
    have:b∈X.ex++fp:=hb
    rw [hex] at this; simpa using this
   refine ⟨?_,fun y c e=>(f2 b hb').2.2.2.2.1 y c (B.cells y c e)⟩
   show b≠C
   exact Nat.ne_of_lt (Nat.lt_of_lt_of_le (fpo b hb') (by rw [hC]; exact Nat.le_succ _))
  ·show X.base.objs.size≤G3.objs.size
   exact Nat.le_trans I3.ok.bsz I3.sz
  ·intro b o e hb
   have hb':b∈fp:=by
    have:b∈X.ex++fp:=hb
    rw [hex] at this; simpa using this
   rcases (f2 b hb').2.2.2.1 with z | z
   ·rw [hex] at z; cases z
   ·exact absurd (Nat.lt_of_lt_of_le (Nat.lt_of_lt_of_le (Heap.lt_size e) I3.ok.bsz) z) (Nat.lt_irrefl _)
  ·intro b hb
   have hb':b∈fp:=by
    have:b∈X.ex++fp:=hb
    rw [hex] at this; simpa using this
   exact fpx b hb'
 have IY:Inv Y [] (none :: capσ cap σ) H3 { s2 with heap:=h₁,toks:=s2.toks }:=by
  refine ⟨okY,rfl,I3.bare,Un.kept old,⟨_,hns₁,?_⟩,?_,?_,?_,?_,I3.hok.kept old,?_⟩
  ·intro j y v e1 e2 hv
   cases j with
   | zero=>cases e2
   | succ j =>
    have e1':NB[j]?=some y:=e1
    have e2':(capσ cap σ)[j]?=some (some v):=e2
    unfold capσ at e2'
    rw [List.getElem?_map] at e2'
    cases ec:cap[j]? with
    | none=>rw [ec] at e2'; cases e2'
    | some i =>
     rw [ec] at e2'
     have e3:σ[i]?.join=some v:=Option.some.inj e2'
     have e4:σ[i]?=some (some v):=by
      cases q:σ[i]? with
      | none=>rw [q] at e3; cases e3
      | some z=>rw [q] at e3; exact congrArg some e3
     obtain ⟨y',n1,n2,n3,n4,n5⟩:=B.cap j i ec
     rw [e1'] at n1
     cases n1
     obtain ⟨m,hn,hl⟩:=I3.loc
     obtain ⟨u,r,lk⟩:=hl i y v n2 e4 n3
     refine ⟨u,r,.inr ⟨n5,?_⟩⟩
     obtain ⟨c,hcl⟩:=B.has y n5
     refine ⟨c,hcl,?_⟩
     rcases lk with ⟨k1,_⟩ | ⟨_,c',ec',cell⟩
     ·rcases n4 with n4 | n4 <;> (rw [n4] at k1; cases k1)
     ·rw [B.cells y c hcl] at ec'
      cases ec'
      obtain ⟨o,ho,hd⟩:=cell
      exact ⟨o,old c o ho,hd⟩
  ·intro y c e
   obtain ⟨v,o,ho,hd⟩:=I3.cell y c (B.cells y c e)
   exact ⟨v,o,old c o ho,hd⟩
  ·exact I3.hok.fresh (show G3.objs.size≤C by lia)
  ·intro y c e
   exact I3.freeC y c (B.cells y c e)
  ·intro p hp
   have hp':p∈X.pn:=by
    have:p∈X.pn++[]:=hp
    simpa using this
   obtain ⟨e,n,ne,nf,dd⟩:=I3.pin p (List.mem_append_left _ hp')
   refine ⟨old _ _ e,n,?_,fun z=>?_,dd⟩
   ·show p.1≠C
    rw [← eC]; exact Nat.ne_of_lt (Heap.lt_size e)
   ·rcases List.mem_cons.mp (I3.stkSub p.1 z) with q | q
    ·exact ne q
    ·exact nf q
  ·show (none :: capσ cap σ).length=(x :: NB).length
   rw [List.length_cons,List.length_cons,← B.len]
   unfold capσ
   rw [List.length_map]
 have fpY:∀ {H':Hp},(∀ b∈fp,H' b=none)→∀ b∈fp,FpOk Y [] H' b:=fun {H'} hn b hb=>by
  refine ⟨hn b hb,?_,fpx b hb,.inl ?_,fun y c e=>(f2 b hb).2.2.2.2.1 y c (B.cells y c e),fun p hp=>(f2 b hb).2.2.2.2.2 p (List.mem_append_left _ (by have:p∈X.pn++[]:=hp; simpa using this))⟩
  ·show b≠C
   exact Nat.ne_of_lt (Nat.lt_of_lt_of_le (fpo b hb) (by rw [hC]; exact Nat.le_succ _))
  ·show b∈X.ex++fp
   exact List.mem_append_right _ hb
 have st4:tn 0 h₁:=T.keep _ _ _ st2 fun b hb o e=>old b o (old2 b o e)
 have fr4:∀ b∈fp,H3 b=none:=fun b hb=>by
  rw [← eH3,upd_ne (Nat.ne_of_lt (fpo b hb))]; exact (f2 b hb).1
 have leave:∀ (H':Hp) (s':Shared),Inv Y [] (none :: capσ cap σ) H' s'→Q (.ref D) H'→compPost (model X.prog X.w) X.A X.xe use R (.ref D) C (.ok .next) s':=by
  intro H' s' I' q
  obtain ⟨m,hn,_⟩:=id I'.loc
  have u:=I'.base
  have I5:Inv X pins σ H' s':=by
   refine I3.call' (s':=s') (ch:=X.ex++fp) I'.os u I'.hok I'.bare fun b hb=>?_
   have hb':b∈fp:=by rw [hex] at hb; simpa using hb
   obtain ⟨f0,f1,f2',f3,f4,f5⟩:=f2 b hb'
   exact ⟨f3,f1,f4,f5⟩
  exact fin D C H' s' I5 ⟨⟨m,hn⟩,I3.fpOk (show G3.objs.size≤C by rw [eC]; exact Nat.le_refl _) I'.free⟩ q
 have loop:∀ s₄:Shared,s₄={ s2 with heap:=h₁,toks:=s2.toks } →
   codeAny (model X.prog X.w) X.A (.compLoop (.ListComp elt [⟨.Name x px,iter,ifs,0⟩] scope pos) 0 (.ref it) (.ref D) (compEnvC scope cl C X.env)) (compPost (model X.prog X.w) X.A X.xe use R (.ref D) C) s₄:=by
  rintro s₄ rfl
  refine compLoop_own (fun n s'=>∃ i ys H',Inv Y [] (none :: capσ cap σ) H' s'∧tn i s'.heap∧(∀ b∈fp,H' b=none)∧W i n ys H') ?_ m0 ⟨0,[],H3,IY,st4,fr4,w0⟩
  rintro n s3 ⟨i,ys,H',I',st',fr',w'⟩
  obtain ⟨hDl,tr⟩:=turn i n ys H' w'
  rcases tr with ⟨stop,q⟩ | ⟨go,step⟩
  ·refine thn (T.done Y rfl rfl rfl (show Hush Y from hc) i [] s3 _ H' (fun _ _=>False) I' (fpY fr') st' stop) fun r s4 ⟨hr,I4⟩=>?_
   subst hr
   exact leave H' s4 I4 q
  ·refine thn (T.item Y rfl rfl rfl (show Hush Y from hc) i [] s3 _ H' (fun _ _=>False) I' (fpY fr') st' go) fun r s4 ⟨u,hr,h4⟩=>?_
   subst hr
   refine thn h4 fun _ s5 ⟨v,H5,I5,r5,y5,st5,fr5⟩=>?_
   have I5':=I5.pinned (fpY fr5) (T.obj _ _ st5)
   have back:∀ {σ7:St} {H7:Hp} {s7:Shared},Inv Y ([]++pinsAt fp s5.heap) (some v :: capσ cap σ) H7 s7→Inv Y [] (none :: capσ cap σ) H7 s7∧tn (i+1) s7.heap∧∀ b∈fp,H7 b=none:=fun {σ7 H7 s7} I7=>by
    refine ⟨I7.unpinned.weak (by simp) fun j z e=>?_,T.keep _ _ _ st5 fun b hb o e=>(I7.pin (b,o) (List.mem_append_right _ (List.mem_append_right _ (mem_pinsAt hb e)))).1,fun b hb=>?_⟩
    ·cases j with
     | zero=>cases e
     | succ j=>exact e
    ·obtain ⟨o,e,d⟩:=T.obj _ _ st5 b hb
     exact (I7.pin (b,o) (List.mem_append_right _ (List.mem_append_right _ (mem_pinsAt hb e)))).2.1
   have hgN:PG Y (.Name x px) (gName 0):=pg_name (i:=0) B.nd rfl (.inl (lookup_relabel_local B.own)) (.inr (lookup_relabel_local B.own))
   refine thn (hgN _ s5 _ H5 v u (fun σ6 H6=>σ6=some v :: capσ cap σ∧H6=H5) I5' r5 ⟨rfl,rfl⟩) fun _ s6 ⟨σ6,H6,I6,e6,e6'⟩=>?_
   subst e6 e6'
   refine thn (ht C fp _ _ _ s6 _ H6 _ I6 (step v H6 y5)) fun ok s7 ⟨H7,I7,q7⟩=>?_
   cases ok with
   | false =>
    simp only [Bool.false_eq_true,if_false] at q7 ⊢
    obtain ⟨m',hm,w7⟩:=q7
    obtain ⟨a,b,c⟩:=back (σ7:=[]) I7
    exact ⟨m',hm,i+1,ys,H7,a,b,c,w7⟩
   | true =>
    simp only [if_true] at q7 ⊢
    refine thn (he C fp _ _ _ s7 _ H7 _ I7 q7) fun u8 s8 ⟨v8,H8,I8,r8,q8⟩=>?_
    obtain ⟨d8,l8,m',hm,w8⟩:=q8
    refine thn (mt_append (X:=Y) _ s8 _ H8 (.ref D) [v8] (.ref D) [u8] (fun _ H9=>H9=upd H8 D (.lst (ys++[v8]))) I8 rfl (.cons r8 .nil) ⟨D,ys,v8,rfl,rfl,d8,l8,rfl⟩) fun _ s9 ⟨_,H9,I9,_,e9⟩=>?_
    subst e9
    obtain ⟨a,b,c⟩:=back (σ7:=[]) I9
    exact ⟨m',hm,i+1,ys++[v8],_,a,b,c,w8⟩
 refine codeAny_compStart_list (loop _ ?_) (T.self _ 0 _ _ _ ?_ (loop _ ?_))
 ·rfl
 ·exact st4
 ·rfl
theorem pe_compH {X:Cx} {elt iter:Expr} {x:Str} {px pos:Pos} {ifs:List Expr} {scope:Scope} {cl:List (Str × Addr)} {NB:List Str} {cap:List Nat} {wi:TI} {tt:TT} {te:TE}
  (B:Blk X scope cl x NB cap) (hc:Hush X) (hex:X.ex=[]) (hi:PIH X (.Name x px) iter wi)
  (ht:∀ C fp s₀ H₀,PTs (X.blkH scope cl C (x :: NB) fp s₀ H₀) ifs tt) (he:∀ C fp s₀ H₀,PE (X.blkH scope cl C (x :: NB) fp s₀ H₀) elt te)
  (hs:∀ v,foldedSetIterable iter X.env v=pure v:=by intro _; rfl):PE X (.ListComp elt [⟨.Name x px,iter,ifs,0⟩] scope pos) (tComp wi tt te cap):=by
 intro pins s σ H Q I h
 rw [eval_ListComp]
 refine comp_coreH (use:=none) (R:=EP X pins σ Q) B hc hex hi ht he hs I h fun D C H' s' I' G q=>?_
 obtain ⟨m,hn⟩:=G.ns
 obtain ⟨f0,f1,f2,f3,f4,f5⟩:=G.fp
 refine ⟨m,hn,fun h' hs'=>⟨.ref D,H',?_,rfl,q⟩⟩
 exact I'.turned (t':=s'.toks) (fun b o hb e=>(hs'.2 b hb).trans e) f0 f1 f3 f4 f5
@[irreducible] def QIH (X:Cx) (tg iter:Expr) (wi:TI):Prop:=PIH X tg iter wi
section
variable {X:Cx} {e a b c:Expr} {es:List Expr} {t te ta tb tc:TE} {tt:TT} {pos:Pos}
theorem QIH.mk {tg:Expr} {wi:TI} (h:PIH X tg e wi):QIH X tg e wi:=by unfold QIH; exact h
theorem QIH.to {tg:Expr} {wi:TI} (h:QIH X tg e wi):PIH X tg e wi:=by unfold QIH at h; exact h
theorem qi_listH {tg:Expr} (h:QE X e te):QIH X tg e (iList X.K te):=.mk (pi_listH h.to)
theorem qi_rangeDH {tg:Expr} {a b c:Expr} {ta:TA} {p pos:Pos} (hg:Gl X "range") (hm:X.mg "range"=none) (ha:QA X [a,b,c] ta) (hs:starEach [a,b,c] X.env=[(false,eval a X.env),(false,eval b X.env),(false,eval c X.env)]:=by rfl) (hs2:starEach [b,c] X.env=[(false,eval b X.env),(false,eval c X.env)]:=by rfl) :
  QIH X tg (.Call (.Name "range" p) [a,b,c] [] pos) (iRngD ta):=.mk (pi_rangeDH hg hm ha.to hs hs2)
theorem qe_compH {elt iter:Expr} {x:Str} {px:Pos} {ifs:List Expr} {scope:Scope} {cl:List (Str × Addr)} {NB:List Str} {cap:List Nat} {wi:TI}
  (B:Blk X scope cl x NB cap) (hc:Hush X) (hex:X.ex=[]) (hi:QIH X (.Name x px) iter wi)
  (ht:∀ C fp s₀ H₀,QTs (X.blkH scope cl C (x :: NB) fp s₀ H₀) ifs tt) (he:∀ C fp s₀ H₀,QE (X.blkH scope cl C (x :: NB) fp s₀ H₀) elt te)
  (hs:∀ v,foldedSetIterable iter X.env v=pure v:=by intro _; rfl):QE X (.ListComp elt [⟨.Name x px,iter,ifs,0⟩] scope pos) (tComp wi tt te cap) :=
 .mk (pe_compH B hc hex hi.to (fun C fp s₀ H₀=>(ht C fp s₀ H₀).to) (fun C fp s₀ H₀=>(he C fp s₀ H₀).to) hs)
section
variable {st:Stmt} {rest body:List Stmt} {s u:TS}
theorem qs_forH {tg iter:Expr} {wi:TI} {g:TG} (hp:PassesOwn (model X.prog X.w) X.A X.env X.xe) (hc:Hush X) (hi:QIH X tg iter wi) (hg:QG X tg g) (hb:QSs X body s)
  (hs:∀ x,foldedSetIterable iter X.env x=pure x:=by intro _; rfl):QS X (.For tg iter body [] pos) (tFor wi g s):=.mk (ps_forH hp hc hi.to hg.to hb.to hs)
end
end
structure RoomH (k:Nat) (A:Around):Prop where
 dp:A.depth+3 * k+5 < recursionLimit
 un:A.units+16 * k+200 < cLine
theorem Room.toH {k:Nat} {A:Around} (r:Room k A):RoomH k A:=⟨r.dp,r.un⟩
theorem RoomH.mono {j k:Nat} {A:Around} (r:RoomH k A) (h:j≤k):RoomH j A:=⟨by have:=r.dp; lia,by have:=r.un; lia⟩
theorem RoomH.deeper {k:Nat} {A:Around} (r:RoomH (k+1) A) (env:Env):RoomH k (A.deeper env) :=
 ⟨by have:=r.dp; show A.depth+1+3 * k+5 < _; lia,by have:=r.un; show A.units+3+16 * k+200 < _; lia⟩
theorem RoomH.depth {k:Nat} {A:Around} (r:RoomH k A):A.depth < recursionLimit:=by have:=r.dp; lia
theorem RoomH.units0 {k:Nat} {A:Around} (r:RoomH k A):A.units < cLine:=by have:=r.un; lia
theorem hu_ofH {A:Around} {k:Nat} (hr:RoomH k A):A.units+1 < cLine:=by have:=hr.un; lia
structure PinE (A:Around) (s:Shared) (H:Hp) (outer:List Env) (pn:List (Addr × Obj)):Prop where
 hs:A.handled=none∨∃ (e:Addr) (o:Obj) (vs:Array Value),A.handled=some (.ref e)∧(e,o)∈pn∧o.data=.fields vs∧vs[2]?=some .none
 pin:∀ p∈pn,s.heap.get? p.1=some p.2∧H p.1=none∧p.1 ∉ frs outer∧∀ v,p.2.data≠.cell v
theorem PinE.nil {A:Around} {s:Shared} {H:Hp} {outer:List Env} (h:A.handled=none):PinE A s H outer []:=⟨.inl h,fun p hp=>absurd hp List.not_mem_nil⟩
theorem Hush.pinE {X:Cx} {pins:List (Addr × Obj)} {σ:St} {H:Hp} {s:Shared} (hc:Hush X) (I:Inv X pins σ H s):PinE X.A s H X.stack X.pn:=⟨hc,fun p hp=>by
 obtain ⟨e,n,ne,nf,d⟩:=I.pin p (List.mem_append_left _ hp)
 refine ⟨e,n,fun z=>?_,d⟩
 rcases List.mem_cons.mp (I.stkSub p.1 z) with q | q
 ·exact ne q
 ·exact nf q⟩
structure FnOkH (P:Program) (w:World) (K:PySem.W.Frag) (mg:Str→Option Value) (base:Heap) (CX:CXT) (k:Nat) (f:Addr) (fd:FuncData) (ps:List Str) (sp:Sp):Prop where
 len:∀ vs H Q E,sp vs H Q E→vs.length=ps.length
 run:∀ (A:Around) (outer:List Env) (s:Shared) (H:Hp) (args:Args) (us:List Value) (vs:List V) (Q:VK) (E:XK) (pn:List (Addr × Obj)),RoomH k A→PinE A s H outer pn→Env0 P w K mg base A outer s H→BindsTo s fd args (ps.zip us)→Vals vs us→sp vs H Q E →
  codeAny (model P w) A (.call (.ref f) args) (CR CX outer P w H s Q E) s
theorem FnOkH.calm {P:Program} {w:World} {K:PySem.W.Frag} {mg:Str→Option Value} {base:Heap} {CX:CXT} {k:Nat} {f:Addr} {fd:FuncData} {ps:List Str} {sp:Sp} (F:FnOkH P w K mg base CX k f fd ps sp):FnOk P w K mg base CX k f fd ps sp :=
 ⟨F.len,fun A outer s H args us vs Q E hr e0 hb hv hs=>F.run A outer s H args us vs Q E [] hr.toH (.nil hr.hd) e0 hb hv hs⟩
def cxH (CX:CXT) (P:Program) (w:World) (K:PySem.W.Frag) (mg:Str→Option Value) (base:Heap) (N:List Str) (qual:Str) (scope:Scope) (f:Addr) (cd:Value) (A:Around) (outer:List Env) (s:Shared) (H:Hp) (E:XK) (pn:List (Addr × Obj)):Cx :=
 { cxOf CX P w K mg base N qual scope f cd A outer s H E with calm:=false,pn:=pn }
theorem inv_startH {CX:CXT} {P:Program} {w:World} {K:PySem.W.Frag} {mg:Str→Option Value} {base:Heap} {N ps:List Str} {qual:Str} {scope:Scope} {f:Addr} {cd:Value} {A:Around} {outer:List Env} {s s1:Shared} {H:Hp} {E:XK} {us:List Value} {vs:List V} {pn:List (Addr × Obj)}
  (S:FnScope N ps scope) (pe:PinE A s H outer pn) (e0:Env0 P w K mg base A outer s H) (hl:vs.length=ps.length) (r:Vals vs us)
  (x:InCallC s s.heap.objs.size (bindL (envOfC qual scope s.heap.objs.size f cd).kindOf (ps.zip us) fun _=>none) (cellsFrom (s.heap.objs.size+1) scope.names []) (bindC (envOfC qual scope s.heap.objs.size f cd).kindOf (ps.zip us) fun _=>none) s1) :
  Inv (cxH CX P w K mg base N qual scope f cd A outer s H E pn) [] (start N vs) H s1:=by
 have hpl:ps.length≤N.length:=by have:=congrArg List.length S.pre; rw [List.length_take] at this; lia
 obtain ⟨h1,tk,rfl,hk⟩:=x.done
 have noA:∀ b:Addr,b ∉ (cxH CX P w K mg base N qual scope f cd A outer s H E pn).ex:=fun b z=>absurd (show b∈([]:List Addr) from z) (by simp)
 refine ⟨⟨e0.mod,S.kind,rfl,rfl,Nat.le_refl _,fun y z c h1 h2=>?_,fun y hy=>?_,fun y c _ h=>?_,(fun z=>nomatch z),Around.frames_deeper e0.frames,.inr ⟨rfl,rfl⟩,fun b z=>absurd z (noA b),e0.bs,e0.bsz,fun b _ _=>noA b,fun b z=>absurd z (noA b),e0.funs,e0.frf⟩,
  rfl,e0.bare,Un.kept hk,⟨_,x.toInCall.ns,fun i y v h1 h2 h3=>?_⟩,fun y c h=>⟨_,x.cell y c h⟩,e0.hok.fresh (Nat.le_refl _),fun y c h=>?_,fun p hp=>?_,e0.hok.kept hk,?_⟩
 ·exact name_of_addr x.apart (PySem.mem_of_lookup h1) (PySem.mem_of_lookup h2)
 ·have hy:scope.names.lookup y=some .cell∨scope.names.lookup y=some .free:=hy
  rcases hy with hy | hy
  ·exact cell_has hy
  ·exact absurd rfl (S.nofree _ (PySem.mem_of_lookup hy))
 ·exact Nat.le_of_lt (x.above y c (PySem.mem_of_lookup h))
 ·have hi:i < vs.length:=by
   unfold start at h2
   by_cases hi:i < vs.length
   ·exact hi
   ·rw [List.getElem?_append_right (by simpa using hi)] at h2
    rw [List.getElem?_replicate] at h2
    split at h2 <;> cases h2
  have ha:vs[i]?=some v:=by
   unfold start at h2
   rw [List.getElem?_append_left (by simpa using hi),List.getElem?_map] at h2
   cases e:vs[i]? with
   | none=>rw [e] at h2; cases h2
   | some a=>rw [e] at h2; cases h2; rfl
  obtain ⟨u,hu,rv⟩:=r.get ha
  have hp:ps[i]?=some y:=by
   rw [← S.pre,List.getElem?_take_of_lt (by lia)]; exact h1
  have ndP:ps.Nodup:=by rw [← S.pre]; exact S.nd.sublist (List.take_sublist _ _)
  refine ⟨u,rv,?_⟩
  rcases S.par y (List.mem_of_getElem? hp) with k | k
  ·exact .inl ⟨k,bindL_get ndP hp hu k⟩
  ·obtain ⟨c,e⟩:=cell_has (n:=s.heap.objs.size+1) k
   refine .inr ⟨.inl k,c,e,?_⟩
   have q:=x.cell y c e
   rw [bindC_get ndP hp hu (by show scope.names.lookup y≠_; rw [k]; decide)] at q
   exact q
 ·exact e0.hok.fresh (Nat.le_of_lt (x.above y c (PySem.mem_of_lookup h)))
 ·have hp':p∈pn:=by
   have:p∈pn++[]:=hp
   simpa using this
  obtain ⟨e,n,nf,d⟩:=pe.pin p hp'
  exact ⟨hk _ _ e,n,Nat.ne_of_lt (Heap.lt_size e),nf,d⟩
 ·unfold start
  show _=N.length
  rw [List.length_append,List.length_map,List.length_replicate]
  lia
theorem fn_ofH {CX:CXT} {P:Program} {w:World} {K:PySem.W.Frag} {mg:Str→Option Value} {base:Heap} {k:Nat} {f:Addr} {name qual:Str} {params:Arguments} {body:List Stmt} {scope:Scope} {dV kV doc pm cdv ct oc:Value} {an od:Option Addr}
  {osl:Array (Option Value)} {N ps:List Str} {sp:Sp} (lk:K.lookup f=some ⟨oc,od,.func (PySem.W.fnOf name qual params body scope dV kV doc pm an cdv ct),osl⟩) (hcd:PySem.W.codeIn K cdv qual=true) (S:FnScope N ps scope)
  (len:∀ vs H Q E,sp vs H Q E→vs.length=ps.length)
  (hbody:∀ (A:Around) (outer:List Env) (s:Shared) (H:Hp) (vs:List V) (Q:VK) (E:XK) (pn:List (Addr × Obj)),RoomH k (A.deeper (envOfC qual scope s.heap.objs.size f cdv))→Hush (cxH CX P w K mg base N qual scope f cdv A outer s H E pn)→sp vs H Q E →
   ∃ t,PSs (cxH CX P w K mg base N qual scope f cdv A outer s H E pn) body t∧t { nx:=fun _ H'=>Q .non H',rt:=Q } (start N vs) H) :
  FnOkH P w K mg base CX (k+1) f (PySem.W.fnOf name qual params body scope dV kV doc pm an cdv ct) ps sp:=by
 refine ⟨len,fun A outer s H args us vs Q E pn hr pe e0 hb r hsp=>?_⟩
 have hl:=len _ _ _ _ hsp
 have KX:K.In s.heap:=e0.mod.kin.keeps fun b o e=>(e0.bs b o e).1
 have lim:s.heap.NoLimit:=e0.mod.nolimit.keeps fun b o e=>(e0.bs b o e).1
 have hkind:∀ y∈ps.zip us,scope.names.lookup y.1=some .local∨(scope.names.lookup y.1=some .cell∧((cellsFrom (s.heap.objs.size+1) scope.names []).lookup y.1).isSome=true):=fun ⟨n,v⟩ hy=>by
  rcases S.par n (List.of_mem_zip hy).1 with q | q
  ·exact .inl q
  ·exact .inr ⟨q,PySem.W.cellsFrom_some _ _ _ (.inl q)⟩
 refine codeAny_call_function hr.depth (KX _ _ lk) rfl S.co S.gen rfl (PySem.W.codeRec_of KX hcd) (hb _ _ _ _ ?_)
 refine wpAny_newFunctionEnv_cells S.kind hkind fun env he s1 x=>?_
 subst he
 refine ⟨lim.keeps x.toInCall.keep,codeAny_func ?_⟩
 obtain ⟨t,ht,hq⟩:=hbody A outer s H vs Q E pn (hr.deeper _) pe.hs hsp
 have I:Inv (cxH CX P w K mg base N qual scope f cdv A outer s H E pn) [] (start N vs) H s1:=inv_startH S pe e0 hl r x
 refine wpAny_mono (ht [] s1 (start N vs) H _ I hq) (fun fl s' hs=>?_) fun e s' hs=>hs
 have fin:∀ {σ':St} {H':Hp} {v:V} {u:Value},Inv (cxH CX P w K mg base N qual scope f cdv A outer s H E pn) [] σ' H' s'→RelV v u→Q v H'→CE outer P w H s Q u s' :=
  fun {σ' H' v u} J rv q=>⟨v,H',J.os,J.bare,J.base,J.hok,rv,q⟩
 cases fl with
 | ret u =>
  obtain ⟨v,σ',H',J,rv,q⟩:=hs
  exact fin J rv q
 | next =>
  obtain ⟨σ',H',J,q⟩:=hs
  exact fin (v:=V.non) (u:=Value.none) J rfl q
 | brk =>
  obtain ⟨_,_,_,q⟩:=hs
  exact False.elim q
 | cont =>
  obtain ⟨_,_,_,q⟩:=hs
  exact False.elim q
section
variable {P:Program} {w:World} {K:PySem.W.Frag} {mg:Str→Option Value} {base:Heap}
theorem Fun.okH {x qual:Str} {st:Stmt} {f:Addr} {fd:FuncData} {N ps:List Str} {k:Nat} {sp:Sp} (F:Fun K x qual st f fd) (S:FnScope N ps (defScope st)) (len:∀ vs H Q E,sp vs H Q E→vs.length=ps.length)
  (hbody:∀ (cdv:Value) (A:Around) (outer:List Env) (s:Shared) (H:Hp) (vs:List V) (Q:VK) (E:XK) (pn:List (Addr × Obj)),RoomH k (A.deeper (envOfC qual (defScope st) s.heap.objs.size f cdv))→Hush (cxH CX0 P w K mg base N qual (defScope st) f cdv A outer s H E pn)→sp vs H Q E →
   ∃ t,QSs (cxH CX0 P w K mg base N qual (defScope st) f cdv A outer s H E pn).nox (defBody st) t∧t { nx:=fun _ H'=>Q .non H',rt:=Q } (start N vs) H):FnOkH P w K mg base CX0 (k+1) f fd ps sp:=by
 obtain ⟨oc,od,kV,doc,pm,an,cdv,ct,osl,rfl,lk,hcd⟩:=F.ex
 refine fn_ofH lk hcd S len fun A outer s H vs Q E pn hr hh hsp=>?_
 obtain ⟨t,h,q⟩:=hbody cdv A outer s H vs Q E pn hr hh hsp
 exact ⟨t,h.to.nox,q⟩
end
section
variable {X:Cx} {CX:CXT} {k:Nat} {f C:Addr} {fd:FuncData} {ps:List Str} {sp:Sp} {dvs:List V} {ds:List Value} {E:XK} {x m:Str} {p pos apos:Pos} {e o:Expr} {es:List Expr} {ta:TE} {t:TA}
theorem run_fnH {pins:List (Addr × Obj)} {σ:St} {H:Hp} {s:Shared} {Q:VK} {us:List Value} {vs:List V} (F:FnOkH X.prog X.w X.K X.mg X.base CX k f fd ps sp) (hr:RoomH k X.A) (hh:Hush X) (hb:Binds X.K fd ps ds) (hd:Vals dvs ds) (hx:Passes CX X E)
  (I:Inv X pins σ H s) (r:Vals vs us) (h:sp (vs++dvs) H Q E):wpAny (model X.prog X.w) X.A (call (.ref f) us) (EP X pins σ Q) X.xe s:=by
 have r2:Vals (vs++dvs) (us++ds):=r.append hd
 have hl:(us++ds).length=ps.length:=by rw [← r2.length]; exact F.len _ _ _ _ h
 refine wpAny_call (codeAny_mono (F.run X.A X.stack s H ⟨us,[]⟩ (us++ds) (vs++dvs) Q E X.pn hr (hh.pinE I) I.env0 (hb s us I.kIn hl) r2 h) fun r s' hq=>?_)
 cases r with
 | error e=>exact hx pins σ H s e s' I hq
 | ok fl =>
  cases fl with
  | ret u=>exact I.after hq
  | next=>exact False.elim hq
  | brk=>exact False.elim hq
  | cont=>exact False.elim hq
theorem pe_callH (F:FnOkH X.prog X.w X.K X.mg X.base CX k f fd ps sp) (hr:RoomH k X.A) (hh:Hush X) (hg:Gl X x) (hm:X.mg x=some (.ref f)) (hk:PySem.W.keepIn X.K (.ref f)=true) (hb:Binds X.K fd ps ds) (hd:Vals dvs ds) (hx:Passes CX X E)
  (ha:PA X (e :: es) t) (hdb:(x == ("__debug__":Str))=false:=by decide) (he:starEach (e :: es) X.env=(false,eval e X.env) :: starEach es X.env:=by rfl) (hpl:(backTo pos (starEach es X.env)).any (·.1)=false:=by rfl) :
  PE X (.Call (.Name x p) (e :: es) [] pos) (tCall sp dvs E t):=by
 intro pins s σ H Q I h
 refine wpAny_Call_Name_kw (ld_glob I hg hm ?_ hdb)
 refine PySem.W.callWith_K (h₀:=X.base) I.ok.mod.kin hk (thn (ha pos pins s σ H _ I h) fun us s1 ⟨vs,H1,I1,r,q⟩=>⟨I1.kIn,?_⟩) he hpl
 exact run_fnH F hr hh hb hd hx I1 r q
theorem pe_methH {pl:Sem Bool} (he:PE X o ta) (c:Cls X.K C) (hm:Meth X.K C m f) (F:FnOkH X.prog X.w X.K X.mg X.base CX k f fd ps sp) (hr:RoomH k X.A) (hh:Hush X) (hb:Binds X.K fd ps ds) (hd:Vals dvs ds) (hx:Passes CX X E) (ha:PA X (e :: es) t)
  (hst:starEach (e :: es) X.env=(false,eval e X.env) :: starEach es X.env:=by rfl) (hpl:(backTo pos (starEach es X.env)).any (·.1)=false:=by rfl)
  (ht:eval (.Call (.Attribute o m apos) (e :: es) [] pos) X.env=(do
   let ov ← eval o X.env
   standAt apos.atName
   let (f,first) ← holding [ov] (getMethod ov m pl)
   callWith pos f first (backTo pos (starEach (e :: es) X.env)) (backToKw pos (keywordEach [] X.env))):=by rfl) :
  PE X (.Call (.Attribute o m apos) (e :: es) [] pos) (tMeth C m sp dvs E ta t):=by
 intro pins s σ H Q I h
 refine PySem.W.methodCall_KW (pl:=pl) (thn (he pins s σ H _ I h) fun u s1 ⟨x,H1,I1,rx,a,dx,fs,ex,ea,l,q⟩=>?_) ht
 subst ex
 obtain rfl:u=Value.ref a:=rx
 refine getmeth_ok I1 ea c hm l ?_
 refine PySem.W.callWith_K (first:=[.ref a]) (h₀:=X.base) I.ok.mod.kin hm.kp (thn (ha pos pins s1 σ H1 _ I1 q) fun us s2 ⟨vs,H2,I2,r,q2⟩=>⟨I2.kIn,?_⟩) hst hpl
 exact run_fnH (us:=.ref a :: us) (vs:=.ref a :: vs) F hr hh hb hd hx I2 (.cons rfl r) q2
theorem pe_meth0H {pl:Sem Bool} (he:PE X o ta) (c:Cls X.K C) (hm:Meth X.K C m f) (F:FnOkH X.prog X.w X.K X.mg X.base CX k f fd ps sp) (hr:RoomH k X.A) (hh:Hush X) (hb:Binds X.K fd ps ds) (hd:Vals dvs ds) (hx:Passes CX X E)
  (ht:eval (.Call (.Attribute o m apos) [] [] pos) X.env=(do
   let ov ← eval o X.env
   standAt apos.atName
   let (f,first) ← holding [ov] (getMethod ov m pl)
   callWith pos f first (backTo pos (starEach [] X.env)) (backToKw pos (keywordEach [] X.env))):=by rfl) :
  PE X (.Call (.Attribute o m apos) [] [] pos) (tMeth C m sp dvs E ta tNil):=by
 intro pins s σ H Q I h
 refine PySem.W.methodCall_KW (pl:=pl) (thn (he pins s σ H _ I h) fun u s1 ⟨x,H1,I1,rx,a,dx,fs,ex,ea,l,q⟩=>?_) ht
 subst ex
 obtain rfl:u=Value.ref a:=rx
 refine getmeth_ok I1 ea c hm l ?_
 exact PySem.W.callWith_K0 (first:=[.ref a]) I1.kIn hm.kp (run_fnH (us:=[.ref a]) (vs:=[.ref a]) F hr hh hb hd hx I1 (.cons rfl .nil) q)
end
section
variable {X:Cx} {e o i a b:Expr} {te to ti ta tb:TE} {pos pos':Pos} {f:Str} {CX:CXT} {k:Nat} {g C:Addr} {mc:Value} {fd:FuncData} {ps:List Str} {sp:Sp} {dvs:List V} {ds:List Value} {E:XK} {m x:Str} {p apos:Pos} {es:List Expr} {t:TA} {pl:Sem Bool}
theorem qe_callH {CX:CXT} {k:Nat} {f:Addr} {fd:FuncData} {ps:List Str} {sp:Sp} {dvs:List V} {ds:List Value} {E:XK} {x:Str} {p:Pos} {t:TA} (F:FnOkH X.prog X.w X.K X.mg X.base CX k f fd ps sp) (hr:RoomH k X.A) (hh:Hush X) (hg:Gl X x) (hm:X.mg x=some (.ref f)) (hk:PySem.W.keepIn X.K (.ref f)=true) (hb:Binds X.K fd ps ds) (hd:Vals dvs ds) (hx:Passes CX X E)
  (ha:QA X (e :: es) t) (hdb:(x == ("__debug__":Str))=false:=by decide) (he:starEach (e :: es) X.env=(false,eval e X.env) :: starEach es X.env:=by rfl) (hpl:(backTo pos (starEach es X.env)).any (·.1)=false:=by rfl) :
  QE X (.Call (.Name x p) (e :: es) [] pos) (tCall sp dvs E t):=.mk (pe_callH F hr hh hg hm hk hb hd hx ha.to hdb he hpl)
theorem qe_methH (ho:QE X o to) (c:Cls X.K C) (hm:Meth X.K C m g) (F:FnOkH X.prog X.w X.K X.mg X.base CX k g fd ps sp) (hr:RoomH k X.A) (hh:Hush X) (hb:Binds X.K fd ps ds) (hd:Vals dvs ds) (hx:Passes CX X E) (ha:QA X (e :: es) t)
  (hst:starEach (e :: es) X.env=(false,eval e X.env) :: starEach es X.env:=by rfl) (hpl:(backTo pos (starEach es X.env)).any (·.1)=false:=by rfl)
  (ht:eval (.Call (.Attribute o m apos) (e :: es) [] pos) X.env=(do
   let ov ← eval o X.env
   standAt apos.atName
   let (f,first) ← holding [ov] (getMethod ov m pl)
   callWith pos f first (backTo pos (starEach (e :: es) X.env)) (backToKw pos (keywordEach [] X.env))):=by rfl) :
  QE X (.Call (.Attribute o m apos) (e :: es) [] pos) (tMeth C m sp dvs E to t):=.mk (pe_methH ho.to c hm F hr hh hb hd hx ha.to hst hpl ht)
theorem qe_meth0H (ho:QE X o to) (c:Cls X.K C) (hm:Meth X.K C m g) (F:FnOkH X.prog X.w X.K X.mg X.base CX k g fd ps sp) (hr:RoomH k X.A) (hh:Hush X) (hb:Binds X.K fd ps ds) (hd:Vals dvs ds) (hx:Passes CX X E)
  (ht:eval (.Call (.Attribute o m apos) [] [] pos) X.env=(do
   let ov ← eval o X.env
   standAt apos.atName
   let (f,first) ← holding [ov] (getMethod ov m pl)
   callWith pos f first (backTo pos (starEach [] X.env)) (backToKw pos (keywordEach [] X.env))):=by rfl) :
  QE X (.Call (.Attribute o m apos) [] [] pos) (tMeth C m sp dvs E to tNil):=.mk (pe_meth0H ho.to c hm F hr hh hb hd hx ht)
end
end L2
end
section
namespace L2
open PySem PySem.Spec PyProof.Rows
section
variable {X:Cx}
abbrev Cx.inH (X:Cx) (e:Addr) (o:Obj):Cx:={ X with A:=X.A.mark (some (.ref e)),calm:=false,pn:=(e,o) :: X.pn }
theorem Cx.Ok.inH (ok:X.Ok) (e:Addr) (o:Obj):(X.inH e o).Ok :=
 ⟨ok.mod,ok.kind,ok.glob,ok.blt,ok.above,ok.inj,ok.has,ok.cab,(fun z=>by cases z),ok.frames,ok.stk,ok.exf,ok.bs,ok.bsz,ok.noex,ok.exfs,ok.funs,ok.frf⟩
theorem Cx.Ok.outH {e:Addr} {o:Obj} (ok:(X.inH e o).Ok) (hd:X.calm=true→X.A.handled=none):X.Ok :=
 ⟨ok.mod,ok.kind,ok.glob,ok.blt,ok.above,ok.inj,ok.has,ok.cab,hd,ok.frames,ok.stk,ok.exf,ok.bs,ok.bsz,ok.noex,ok.exfs,ok.funs,ok.frf⟩
theorem Inv.inH {pins:List (Addr × Obj)} {σ:St} {H:Hp} {s:Shared} {e:Addr} {o:Obj} (I:Inv X pins σ H s) (h:s.heap.get? e=some o∧H e=none∧e≠X.env.locals∧e ∉ X.fs∧∀ v,o.data≠.cell v):Inv (X.inH e o) pins σ H s :=
 ⟨I.ok.inH e o,I.os,I.bare,I.base,I.loc,I.cell,I.free,I.freeC,fun p hp=>by
  rcases List.mem_append.mp hp with z | z
  ·rcases List.mem_cons.mp z with rfl | z
   ·exact h
   ·exact I.pin p (List.mem_append_left _ z)
  ·exact I.pin p (List.mem_append_right _ z),I.hok,I.len⟩
theorem Inv.outH {pins:List (Addr × Obj)} {σ:St} {H:Hp} {s:Shared} {e:Addr} {o:Obj} (I:Inv (X.inH e o) pins σ H s) (hd:X.calm=true→X.A.handled=none):Inv X pins σ H s :=
 ⟨I.ok.outH hd,I.os,I.bare,I.base,I.loc,I.cell,I.free,I.freeC,fun p hp=>I.pin p (by
  rcases List.mem_append.mp hp with z | z
  ·exact List.mem_append_left _ (List.mem_cons_of_mem _ z)
  ·exact List.mem_append_right _ z),I.hok,I.len⟩
def tTryE (tb:TSX) (K:PySem.W.Frag) (C2:Addr) (ts to:TS):TS:=fun D σ H=>tb { D with nx:=fun σ' H'=>to D σ' H' } (fun c σ' H'=>∃ (C:Addr) (bm:List Value) (nid:String),c=.ref C∧PySem.W.excIn K C bm nid=true∧mroHas K C (.ref C2)=true∧ts D σ' H') σ H
theorem ps_tryE {x:Str} {pos:Pos} {body orelse:List Stmt} {tb:TSX} {C2:Addr} {b₀:Stmt} {suite:List Stmt} {ts to:TS} {np hpos:Pos} {B2 nid2 ini2 nid3:String} {bm2:List Value} (hb:PSsX X body tb) (hS:X.stack=X.env :: X.outer) (hF:X.env.frame=some X.env.locals)
  (hg:Gl X x) (hm:X.mg x=some (.ref C2)) (FB:ExcBaseFacts B2 nid2 ini2 bm2) (hC2:PySem.W.excIn X.K C2 bm2 nid3=true) (hs:∀ e o,Hush (X.inH e o)→PSs (X.inH e o).nox (b₀ :: suite) ts) (ho:PSs X orelse to) (hd:(x == ("__debug__":Str))=false:=by decide) :
  PS X (.Try body [.ExceptHandler (some (.Name x np)) none (b₀ :: suite) hpos] orelse [] pos) (tTryE tb X.K C2 ts to):=by
 intro pins s σ H D I h
 refine wpAny_Try_except (wpAny_mono (hb pins s σ H _ _ I h) (fun f s1 hf=>?_) fun v s1 hx=>?_)
 ·cases f with
  | next =>
   obtain ⟨σ8,H8,I8,q8⟩:=hf
   exact ho pins s1 σ8 H8 D I8 q8
  | ret v=>exact hf
  | brk=>exact hf
  | cont=>exact hf
 obtain ⟨σ',e,C,H',B,a0,rfl,fl,kp,kt,hokB,_,_,⟨C',bm,nid,eC,hCx,sub,q⟩⟩:=hx
 cases eC
 rw [hS] at fl
 have hfr:X.A.frames=some (X.env :: X.outer):=by rw [I.ok.frames,hS]
 refine wpAny_looks_onC hfr hF fl fun h4 held up4=>?_
 refine wpAny_landsC held fun h5 fl5 up5=>?_
 have I5:=kp h5 s1.toks fl5.1 (up4.trans up5)
 obtain ⟨tl,c1,c2,c3,c4,c5,c6,c7,c8,c9,cA,cB,cC,cD,cE,cF,cG,oC,_,_,_,mr⟩:=exc_at I.ok.mod.kin hCx
 obtain ⟨tl2,d1,d2,d3,d4,d5,d6,d7,d8,d9,dA,dB,dC,dD,dE,dF,dG,oC2,_,_,oT2,_⟩:=exc_at I.ok.mod.kin hC2
 obtain ⟨ob,hob,hobc⟩:=fl5.there
 have sub':(Value.ref C :: tl).contains (.ref C2)=true:=by rw [← mr]; exact sub
 refine wpAny_handleBy_cons (codeAny_handlers_test (ld_glob (I5.inX e) hg hm ?_ hd)) (by intro q; cases q)
 refine xc_match (I5.bk _ _ oC) (I5.bk _ _ oC2) hob hobc (oT2.hasType FB.hasBase) sub' (codeAny_handlers_suite ?_)
 refine lands_againC fl5 fun h6 fl6 up6=>?_
 obtain ⟨oe,ws,T1,oT1,ts1,he6,⟨hc6,_,h26⟩,hd6,_⟩:=fl6.2.2.2
 have hBe:B.get? e=none:=fl6.2.1
 have nf:e ∉ frs X.stack:=fun z=>by
  rw [hS] at z
  obtain ⟨_,o,ho,hnf⟩:=fl6.2.2.1.mem z
  rw [he6] at ho
  cases ho
  exact hnf ws hd6
 have I6:=kp h6 s1.toks fl6.1 ((up4.trans up5).trans up6)
 have hfree:H' e=none:=by
  cases z:H' e with
  | none=>rfl
  | some u =>
   obtain ⟨ob,q2⟩:=hokB.get z
   rw [hBe] at q2; cases q2
 have nl:e≠X.env.locals:=fun z=>by
  obtain ⟨m,⟨o',es,ep,ho',hd',_⟩,_⟩:=I6.loc
  rw [← z] at ho'
  have z2:some oe=some o':=he6.symm.trans ho'
  cases z2
  rw [hd6] at hd'; cases hd'
 have nfs:e ∉ X.fs:=fun z=>nf (by
  rw [hS]
  obtain ⟨env,he,hf⟩:=List.mem_filterMap.mp z
  exact List.mem_filterMap.mpr ⟨env,List.mem_cons_of_mem _ he,hf⟩)
 have I7:Inv (X.inH e oe) pins σ' H' _:=I6.inH ⟨he6,hfree,nl,nfs,fun v z=>by rw [hd6] at z; cases z⟩
 have hh:Hush (X.inH e oe):=.inr ⟨e,oe,ws,rfl,List.mem_cons_self,hd6,h26⟩
 refine wpAny_mono (hs e oe hh pins _ _ _ _ (I7.wish _) q) (fun f s8 hf=>?_) fun _ _ z=>False.elim z
 have hd0:=I.ok.hd
 cases f with
 | next =>
  obtain ⟨σ8,H8,I8,q8⟩:=hf
  exact ⟨_,_,I8.unwish.outH hd0,q8⟩
 | ret u =>
  obtain ⟨v,σ8,H8,I8,r8,q8⟩:=hf
  exact ⟨v,_,_,I8.unwish.outH hd0,r8,q8⟩
 | brk =>
  obtain ⟨σ8,H8,I8,q8⟩:=hf
  exact ⟨_,_,I8.unwish.outH hd0,q8⟩
 | cont =>
  obtain ⟨σ8,H8,I8,q8⟩:=hf
  exact ⟨_,_,I8.unwish.outH hd0,q8⟩
theorem qs_tryE {x:Str} {pos:Pos} {body orelse:List Stmt} {tb:TSX} {C2:Addr} {b₀:Stmt} {suite:List Stmt} {ts to:TS} {np hpos:Pos} {B2 nid2 ini2 nid3:String} {bm2:List Value} (hb:PSsX X body tb) (hS:X.stack=X.env :: X.outer) (hF:X.env.frame=some X.env.locals)
  (hg:Gl X x) (hm:X.mg x=some (.ref C2)) (FB:ExcBaseFacts B2 nid2 ini2 bm2) (hC2:PySem.W.excIn X.K C2 bm2 nid3=true) (hs:∀ e o,Hush (X.inH e o)→QSs (X.inH e o).nox (b₀ :: suite) ts) (ho:QSs X orelse to) (hd:(x == ("__debug__":Str))=false:=by decide) :
  QS X (.Try body [.ExceptHandler (some (.Name x np)) none (b₀ :: suite) hpos] orelse [] pos) (tTryE tb X.K C2 ts to):=.mk (ps_tryE hb hS hF hg hm FB hC2 (fun e o hh=>(hs e o hh).to) ho.to hd)
theorem RoomH.mark {k:Nat} {A:Around} {v:Option Value} (r:RoomH k A):RoomH k (A.mark v):=⟨r.dp,r.un⟩
end
end L2
end
section
namespace TS
open PySem PyProof.Rows
section
variable {prog:Program} {w:World} {A:Around} {E:Value→Shared→Prop}
variable {s:Shared}
end
end TS
namespace L2
open PySem PyProof.Rows
section
variable {X:Cx} {pos:Pos}
end
end L2
end
section
namespace L2
open PySem PySem.Spec PyProof.Rows
section
variable {prog:Program} {w:World} {A:Around} {E:Value→Shared→Prop} {s:Shared}
end
end L2
namespace L2
open PySem PySem.W PyProof.Rows
section
variable {X:Cx} {o:Expr} {to:TE} {pos p2:Pos}
end
end L2
end
section
namespace L2
open PySem PySem.W PySem.Spec PyProof.Rows
theorem pass_no {P:Program} {w:World} {X:Cx}:Passes (CXe P w) X E0:=fun _ _ _ _ _ _ _ h=>by
 obtain ⟨_,_,_,_,_,_,_,_,_,_,_,z⟩:=h
 exact z.elim
section
variable {X:Cx}
end
end L2
end
section
namespace TS
open PySem PyProof.Rows PySem.W
section
variable {prog:Program} {w:World} {A:Around} {E:Value→Shared→Prop} {s:Shared}
def intKindS:KeyKind:={ L2.intOrd with keyOf:=fun v=>some (numOf v),dflt:=(0:Int) }
theorem cmp_ints {vs:List Value} {s:Shared} (hS:∀ v∈vs,∃ x t,v=Value.int x t):Cmp prog w A s intKindS oneType' (pairsOf vs):=by
 have hm:∀ p∈(pairsOf vs).toList,∃ x t,p.1=Value.int x t:=fun p hp=>by
  rw [pairsOf_toList] at hp
  exact hS _ (mem_zip_self hp).2
 refine ⟨fun x y hx hy E Q q=>?_⟩
 obtain ⟨a,ta,ea⟩:=hm x hx
 obtain ⟨b,tb,eb⟩:=hm y hy
 have eL:Lb intKindS x y=decide (a < b):=by unfold Lb kf; rw [ea,eb]; rfl
 rw [eL] at q
 rw [ea,eb,keyLt'_oneType]
 exact oneLt_int q
theorem kind_of_ints {vs:List Value} (hS:∀ v∈vs,∃ x t,v=Value.int x t) (h2:2≤vs.length):keyKind' vs.toArray=pure oneType':=by
 match vs,h2 with
 | v1 :: v2 :: r,_=>exact keyKind_ints (intsAre_map _ hS)
end
end TS
namespace L2
open PySem PySem.W PySem.Spec PySem.Calls PyProof.Rows
theorem vals_numsI:∀ {ns:List Int} {us:List Value},Vals (ns.map V.int) us→(∀ v∈us,∃ x t,v=Value.int x t)∧us.map numOf=ns
 | [],_,.nil=>⟨(fun _ h=>nomatch h),rfl⟩
 | n :: ns,_,.cons r t=>by
  obtain ⟨h1,h2⟩:=vals_numsI t
  obtain ⟨tk,rfl⟩:=r
  refine ⟨fun v hv=>?_,by rw [List.map_cons,h2]; rfl⟩
  rcases List.mem_cons.mp hv with rfl | hv
  ·exact ⟨n,tk,rfl⟩
  ·exact h1 v hv
theorem vals_of_numsI:∀ {us:List Value},(∀ v∈us,∃ x t,v=Value.int x t)→Vals ((us.map numOf).map V.int) us
 | [],_=>.nil
 | u :: us,h=>by
  obtain ⟨x,t,rfl⟩:=h u List.mem_cons_self
  exact .cons ⟨t,rfl⟩ (vals_of_numsI fun v hv=>h v (List.mem_cons_of_mem _ hv))
section
variable {X:Cx}
theorem call_sortedI:CallR X (.builtin "sorted") (fun zs H Q=>∃ (p:Addr) (ns:List Int),zs=[.ref p]∧SqL X.K H p (ns.map V.int) ∧
  ∀ (l:Addr) (ms:List Int),H l=none→ms.Perm ns→ms.Pairwise (·≤·)→Q (.ref l) (upd H l (.lst (ms.map V.int)))):=by
 intro pins s σ H zs us Q I r h
 obtain ⟨p,ns,rfl,hq,q⟩:=h
 obtain ⟨u,rfl,ru⟩:=vals1 r
 cases ru
 obtain ⟨its,rv,pl,hz⟩:=I.list hq
 have hlen:=rv.length
 obtain ⟨hI,hN⟩:=vals_numsI rv
 refine TS.sorted_any (kd:=oneType') (κ:=TS.intKindS) pl.isList (by lia) (fun h' kp h2 E A Q q=>?_) (fun h' kp h2 A=>TS.cmp_ints hI) fun st' pm up=>?_
 ·rw [TS.kind_of_ints hI h2]
  exact wpAny_pure q
 ·obtain ⟨e,he2⟩:=sortedAll_at s.heap its ((arrOf st').map (·.2))
  have pm':(arrOf st').toList.Perm (its.zip its):=by rw [← pairsOf_toList]; exact Array.perm_iff_toList_perm.mp pm
  have mem:∀ k∈(arrOf st').toList,k.1=k.2∧∃ x t,k.2=Value.int x t:=fun k hk=>by
   obtain ⟨e1,m⟩:=mem_zip_self (pm'.mem_iff.mp hk)
   exact ⟨e1,e1 ▸ hI _ m⟩
  have hsz:(arrOf st').toList.length=its.length:=by rw [pm'.length_eq,List.length_zip]; lia
  have em:(arrOf st').toList.map (fun k=>numOf k.2)=((arrOf st').toList.map (·.2)).map numOf:=by rw [List.map_map]; rfl
  refine ⟨.ref (s.heap.objs.size+1),upd H (s.heap.objs.size+1) (.lst (((arrOf st').toList.map fun k=>numOf k.2).map V.int)),I.laid (t':=s.toks) (fun b o e=>sortedAll_old e) (Nat.le_succ _) ?_,rfl,q _ _ (I.hok.fresh (Nat.le_succ _)) ?_ ?_⟩
  ·refine ⟨by rw [List.length_map,List.length_map,hsz,← hlen]; exact hz,(arrOf st').toList.map (·.2),e,?_,?_⟩
   ·rw [em]
    refine vals_of_numsI fun v hv=>?_
    obtain ⟨k,hk,rfl⟩:=List.mem_map.mp hv
    exact (mem k hk).2
   ·rw [he2,← Array.toList_map]
  ·have e3:(its.zip its).map (fun k:Keyed=>numOf k.2)=ns:=by
    rw [← hN]
    have aux:∀ l:List Value,(l.zip l).map (fun k:Keyed=>numOf k.2)=l.map numOf:=by
     intro l
     induction l with
     | nil=>rfl
     | cons a l ih=>rw [List.zip_cons_cons,List.map_cons,List.map_cons,ih]
    exact aux its
   rw [← e3]
   exact pm'.map _
  ·have el:(arrOf st')=(arrOf st').toList.toArray:=by simp
   rw [el] at up
   have hs2:(pairsOf its).size=(arrOf st').toList.length:=by rw [pairsOf_size,hsz]
   have up2:=(TS.up_iff (by lia)).mp up
   rw [List.drop_zero,hs2,List.take_length] at up2
   refine List.pairwise_map.mpr (List.Pairwise.imp_of_mem (fun {k k'} hk hk' hle=>?_) up2)
   obtain ⟨e1,x,t,ex⟩:=mem k hk
   obtain ⟨e1',x',t',ex'⟩:=mem k' hk'
   have hle':TS.Lb TS.intKindS k' k=false:=hle
   unfold TS.Lb TS.kf at hle'
   rw [e1,e1',ex,ex'] at hle'
   rw [ex,ex']
   have h3:decide (x' < x)=false:=hle'
   have h4:=of_decide_eq_false h3
   show x≤x'
   lia
def iSeq (K:PySem.W.Frag) (tl:TE):TI:=fun σ H R=>tl σ H fun x H1=>∃ a,x=.ref a∧(((∃ xs,SqL K H1 a xs)∧R (Itl K a) H1)∨((∃ xs,SqT K H1 a xs)∧R (Itt K a) H1))
theorem pi_seq {tg l:Expr} {tl:TE} (hl:PE X l tl):PI X tg l (iSeq X.K tl):=by
 intro pins s σ H R I h
 refine thn (hl pins s σ H _ I h) fun v s1 ⟨x,H1,I1,r1,q1⟩=>?_
 obtain ⟨a,e,q1⟩:=q1
 subst e
 cases r1
 rcases q1 with ⟨⟨xs,hq⟩,q⟩ | ⟨⟨xs,hq⟩,q⟩
 ·obtain ⟨its,rv,p,hz⟩:=I1.list hq
  refine wpAny_pyIter_list p.isList ?_
  refine ⟨s1.heap.objs.size,[s1.heap.objs.size],_,_,H1,rfl,I1.kept (t':=s1.toks) fun b o e=>Heap.get?_push_of_some _ e,turn_list a _,⟨_,Heap.get?_push_size _ rfl,rfl,rfl⟩,fun b hb=>?_,q⟩
  have e:b=s1.heap.objs.size:=by simpa using hb
  subst e
  exact I1.fpOk (Nat.le_refl _) (I1.hok.fresh (Nat.le_refl _))
 ·obtain ⟨its,rv,p,hz⟩:=I1.tuple hq
  refine wpAny_pyIter_tuple (show s1.heap.IsTuple a its.toArray from p) ?_
  refine ⟨s1.heap.objs.size,[s1.heap.objs.size],_,_,H1,rfl,I1.kept (t':=s1.toks) fun b o e=>Heap.get?_push_of_some _ e,turn_tuple a _,⟨_,Heap.get?_push_size _ rfl,rfl,rfl⟩,fun b hb=>?_,q⟩
  have e:b=s1.heap.objs.size:=by simpa using hb
  subst e
  exact I1.fpOk (Nat.le_refl _) (I1.hok.fresh (Nat.le_refl _))
theorem qi_seq {tg e:Expr} {te:TE} (h:QE X e te):QI X tg e (iSeq X.K te):=.mk (pi_seq h.to)
end
theorem comp_tupR {K:PySem.W.Frag} {a:Addr} {xs:List V} {tt:TT} {te:TE} {cap:List Nat} {σ:St} {H:Hp} {D:Addr} {R:Hp→Prop} (Pv:Nat→List V→Hp→Prop) (h0:Pv 0 [] (upd H D (.lst []))) (hD:∀ i ys H,Pv i ys H→H D=some (.lst ys)∧SqT K H a xs)
  (hs:∀ i x ys H,xs[i]?=some x→Pv i ys H→tt (some x :: capσ cap σ) H fun b H3 =>
   if b=true then te (some x :: capσ cap σ) H3 fun v H4=>H4 D=some (.lst ys)∧ys.length < sizeLine∧∃ m',m' < xs.length - i∧m'=xs.length - (i+1)∧i+1≤xs.length∧Pv (i+1) (ys++[v]) (upd H4 D (.lst (ys++[v])))
   else ∃ m',m' < xs.length - i∧m'=xs.length - (i+1)∧i+1≤xs.length∧Pv (i+1) ys H3)
  (hd:∀ ys H,Pv xs.length ys H→R H) :
  ∃ W:Nat→Nat→List V→Hp→Prop,(∃ m,W 0 m [] (upd H D (.lst [])))∧∀ i m ys H,W i m ys H→H D=some (.lst ys) ∧
  (((Itt K a).stop i H∧R H)∨((Itt K a).go i H∧∀ x H',(Itt K a).yld i H x H'→tt (some x :: capσ cap σ) H' fun b H3 =>
   if b=true then te (some x :: capσ cap σ) H3 fun v H4=>H4 D=some (.lst ys)∧ys.length < sizeLine∧∃ m',m' < m∧W (i+1) m' (ys++[v]) (upd H4 D (.lst (ys++[v])))
   else ∃ m',m' < m∧W (i+1) m' ys H3)):=by
 refine ⟨fun i m ys H=>m=xs.length - i∧i≤xs.length∧Pv i ys H,⟨xs.length,by simp,Nat.zero_le _,h0⟩,?_⟩
 rintro i m ys H ⟨rfl,hi,p⟩
 obtain ⟨q1,q⟩:=hD i ys H p
 refine ⟨q1,?_⟩
 by_cases hlt:i < xs.length
 ·refine .inr ⟨⟨xs,xs[i],q,by simp [hlt]⟩,fun x H' y=>?_⟩
  obtain ⟨e,y⟩:=y
  subst e
  exact hs i x ys _ (y xs q) p
 ·have e:i=xs.length:=by lia
  subst e
  exact .inl ⟨⟨xs,q,Nat.le_refl _⟩,hd ys H p⟩
end L2
namespace L2
open PySem PySem.Spec PyProof.Rows
theorem turn_long {P:Program} {w:World} {K:PySem.W.Frag} {tg:Expr} (it:Addr) (lo:Int) (n:Nat):Turn P w K tg (Itr lo n) [it] it (fun i h=>IsLongIter h it (lo+(i:Nat) * 1) ((n:Int) - (i:Nat)) 1) where
 mem:=by simp
 obj:=fun i h st b hb=>by
  have e:b=it:=by simpa using hb
  subst e
  exact ⟨_,st,fun v z=>by
   have z':Data.fields _=Data.cell v:=z
   cases z'⟩
 keep:=fun i h h' st k=>k it (by simp) _ st
 item:=by
  intro X hP hw hK hc i pins s σ H E I hf st hg
  subst hP hw hK
  obtain ⟨f0,f1,f2,f3,f4,f5⟩:=hf it (by simp)
  have W:=Walks.longrange (prog:=X.prog) (w:=X.w) (I.ok.hd hc) it lo 1 n
  refine W.item i s _ _ hg st fun v h' tk hv st' kk=>?_
  obtain ⟨t,rfl⟩:=hv
  have I1:Inv X pins σ H { s with heap:=h',toks:=tk }:=I.turned (fun b o hb e=>kk b o (by simpa using hb) e) f0 f1 f3 f4 f5
  refine ⟨_,rfl,go_of (s:={ s with heap:=h',toks:=tk }) (n:="longrange_iterator") st' rfl rfl (by decide) ⟨.int (lo+i),H,I1,⟨t,?_⟩,⟨rfl,rfl⟩,st',fun b hb=>(hf b hb).1⟩⟩
  rw [Int.mul_one]
 done:=by
  intro X hP hw hK hc i pins s σ H E I hf st hg
  subst hP hw hK
  obtain ⟨f0,f1,f2,f3,f4,f5⟩:=hf it (by simp)
  exact wpAny_pyNext_long_end (I.ok.hd hc) st (by have:n≤i:=hg; lia) fun h' eb=>⟨rfl,I.turned (t':=s.toks) (fun b o hb e=>eb b o hb e) f0 f1 f3 f4 f5⟩
 self:=fun _ _ _ _ _ st h=>wpAny_pyIter_longiter st h
section
variable {X:Cx} {tg:Expr}
theorem range_itW {pins:List (Addr × Obj)} {σ:St} {H:Hp} {s:Shared} {R:It→Hp→Prop} {E:Value→Shared→Prop} {hi:Int} {t u v:Tok} {tk:Nat} (I:Inv X pins σ H s)
  (q:R (Itr 0 hi.toNat) H):wpAny (model X.prog X.w) X.A (pyIter (.ref s.heap.objs.size)) (PIE X pins σ tg R) E { s with heap:=s.heap.push { cls:=.type "range",data:=.fields #[.int 0 t,.int hi u,.int 1 v] },toks:=tk }:=by
 have I1:Inv X pins σ H { s with heap:=s.heap.push { cls:=.type "range",data:=.fields #[.int 0 t,.int hi u,.int 1 v] },toks:=tk }:=I.kept fun b o e=>Heap.get?_push_of_some _ e
 have e1:(0:Int)+((0:Nat):Int) * 1=0:=by simp
 have e2:(((hi.toNat:Nat):Int) - ((0:Nat):Int))=Builtin.Range.rangeSize 0 hi 1:=by rw [rangeSize_one]; split <;> lia
 by_cases hsm:Builtin.Range.small 0 hi 1=true
 ·refine wpAny_pyIter_range (IsRange.new ..) hsm ?_
  refine ⟨(s.heap.push { cls:=.type "range",data:=.fields #[.int 0 t,.int hi u,.int 1 v] }).objs.size,[(s.heap.push { cls:=.type "range",data:=.fields #[.int 0 t,.int hi u,.int 1 v] }).objs.size],_,_,H,rfl,
   I1.kept (t':=tk) fun b o e=>Heap.get?_push_of_some _ e,turn_range _ 0 hi.toNat,?_,fun b hb=>?_,q⟩
  ·show IsRangeIter _ _ (0+((0:Nat):Int) * 1) (((hi.toNat:Nat):Int) - ((0:Nat):Int)) 1
   rw [e1,e2]
   exact Heap.get?_push_size _ rfl
  ·have e:=List.mem_singleton.mp hb
   subst e
   exact I1.fpOk (Nat.le_refl _) (I1.hok.fresh (Nat.le_refl _))
 ·refine wpAny_pyIter_longrange (IsRange.new ..) (Bool.eq_false_iff.mpr hsm) ?_
  refine ⟨(s.heap.push { cls:=.type "range",data:=.fields #[.int 0 t,.int hi u,.int 1 v] }).objs.size,[(s.heap.push { cls:=.type "range",data:=.fields #[.int 0 t,.int hi u,.int 1 v] }).objs.size],_,_,H,rfl,
   I1.kept (t':=tk) fun b o e=>Heap.get?_push_of_some _ e,turn_long _ 0 hi.toNat,?_,fun b hb=>?_,q⟩
  ·show IsLongIter _ _ (0+((0:Nat):Int) * 1) (((hi.toNat:Nat):Int) - ((0:Nat):Int)) 1
   rw [e1,e2]
   exact Heap.get?_push_size _ rfl
  ·have e:=List.mem_singleton.mp hb
   subst e
   exact I1.fpOk (Nat.le_refl _) (I1.hok.fresh (Nat.le_refl _))
def iRngW (ta:TA):TI:=fun σ H R=>ta σ H fun vs H1=>∃ j:Int,vs=[.int j]∧R (Itr 0 j.toNat) H1
theorem pi_rangeW {a:Expr} {ta:TA} {p pos:Pos} (hg:Gl X "range") (hm:X.mg "range"=none) (ha:PA X [a] ta) (hs:starEach [a] X.env=[(false,eval a X.env)]:=by rfl):PI X tg (.Call (.Name "range" p) [a] [] pos) (iRngW ta):=by
 intro pins s σ H R I h
 refine Call_ (ld_blt I hg hm boot_range (PyProof.Rows.callWith_type1 (thn (ha pos pins s σ H _ I h) fun us s1 ⟨vs,H1,I1,r1,q1⟩=>?_) hs rfl))
 obtain ⟨j,e,q⟩:=q1
 subst e
 cases r1 with
 | cons r rr =>
  cases rr
  obtain ⟨t,rfl⟩:=r
  exact call_range_1 (range_itW I1 q)
theorem qi_rangeW {a:Expr} {ta:TA} {p pos:Pos} (hg:Gl X "range") (hm:X.mg "range"=none) (ha:QA X [a] ta) (hs:starEach [a] X.env=[(false,eval a X.env)]:=by rfl):QI X tg (.Call (.Name "range" p) [a] [] pos) (iRngW ta):=.mk (pi_rangeW hg hm ha.to hs)
def rIxLT (K:PySem.W.Frag):R2:=fun x y H Q=>∃ p xs i v,x=.ref p∧y=.int i∧(SqL K H p xs∨SqT K H p xs)∧atI xs i=some v∧Q v H
theorem ix_lt:IxR X (rIxLT X.K):=by
 intro value slice pins s σ H x y v u Q I rx ry h hs
 obtain ⟨p,xs,i,z,e1,e2,hq,he,q⟩:=h
 rcases hq with hq | hq
 ·exact ix_list value slice pins s σ H x y v u Q I rx ry ⟨p,xs,i,z,e1,e2,hq,he,q⟩ hs
 ·exact ix_tup value slice pins s σ H x y v u Q I rx ry ⟨p,xs,i,z,e1,e2,hq,he,q⟩ hs
end
end L2
namespace L2
open PySem PySem.Spec PyProof.Rows
section
variable {X:Cx} {K:PySem.W.Frag}
end
end L2
namespace L2
open PySem PySem.Spec PyProof.Rows
theorem comp_rangeR {lo:Int} {n:Nat} {tt:TT} {te:TE} {cap:List Nat} {σ:St} {H:Hp} {D:Addr} {R:Hp→Prop} (Pv:Nat→List V→Hp→Prop) (h0:Pv 0 [] (upd H D (.lst []))) (hD:∀ i ys H,Pv i ys H→H D=some (.lst ys))
  (hs:∀ i ys H,i < n→Pv i ys H→tt (some (.int (lo+i)) :: capσ cap σ) H fun b H3 =>
   if b=true then te (some (.int (lo+i)) :: capσ cap σ) H3 fun v H4=>H4 D=some (.lst ys)∧ys.length < sizeLine∧∃ m',m' < n - i∧m'=n - (i+1)∧i+1≤n∧Pv (i+1) (ys++[v]) (upd H4 D (.lst (ys++[v])))
   else ∃ m',m' < n - i∧m'=n - (i+1)∧i+1≤n∧Pv (i+1) ys H3)
  (hd:∀ ys H,Pv n ys H→R H) :
  ∃ W:Nat→Nat→List V→Hp→Prop,(∃ m,W 0 m [] (upd H D (.lst [])))∧∀ i m ys H,W i m ys H→H D=some (.lst ys) ∧
  (((Itr lo n).stop i H∧R H)∨((Itr lo n).go i H∧∀ x H',(Itr lo n).yld i H x H'→tt (some x :: capσ cap σ) H' fun b H3 =>
   if b=true then te (some x :: capσ cap σ) H3 fun v H4=>H4 D=some (.lst ys)∧ys.length < sizeLine∧∃ m',m' < m∧W (i+1) m' (ys++[v]) (upd H4 D (.lst (ys++[v])))
   else ∃ m',m' < m∧W (i+1) m' ys H3)):=comp_range (Q:=fun _ H=>R H) Pv h0 hD hs hd
end L2
end
section
namespace Gm
open Hg
section
variable {N:Type} [DecidableEq N] [Inhabited N] {sl:N→N→Bool}
end
end Gm
end
section
namespace Gm
open Hg
section
variable {N:Type} [DecidableEq N] [Inhabited N] {sl:N→N→Bool}
end
section
variable {N:Type} [DecidableEq N] {β:Type}
theorem dput_iff {t:List (N × β)} {n m:N} {b c:β}:(m,c)∈dput t n b ↔ (m=n∧c=b)∨(m≠n∧(m,c)∈t):=⟨dput_mem,fun h=>by
 rcases h with ⟨rfl,rfl⟩ | ⟨h1,h2⟩
 ·exact dput_self
 ·exact dput_in h2 h1⟩
end
end Gm
namespace L2
open PySem
end L2
namespace L2
open PySem
end L2
end
section
namespace L2
open PySem
def ltr (i:Nat):Str:=⟨#[97+i]⟩
def pnGo:Nat→Nat→Str→Str
 | 0,_,n=>n
 | f+1,r,n=>if r=0 then n else pnGo f (r / 26) (ltr (r % 26)++n)
def pname (p:Nat):Str:=pnGo (p / 26) (p / 26) (ltr (p % 26))
def pinv (s:Str):Nat:=s.cps.toList.foldl (fun a c=>26 * a+(c - 97)) 0
theorem pname_all:∀ p < 320,(pname p).length≤10∧pinv (pname p)=p:=by decide +kernel
theorem pname_inj {p q:Nat} (hp:p < 320) (hq:q < 320) (h:pname p=pname q):p=q:=by
 have a:=(pname_all p hp).2
 have b:=(pname_all q hq).2
 rw [h] at a
 exact a.symm.trans b
theorem ltr_at {i:Nat} (h:i < 26):atI ("abcdefghijklmnopqrstuvwxyz":Str).cps.toList (i:Int)=some (97+i):=by
 have:∀ i:Nat,i < 26→atI ("abcdefghijklmnopqrstuvwxyz":Str).cps.toList (i:Int)=some (97+i):=by decide +kernel
 exact this i h
def WinT (t:Tb) (ns:List Int) (lo hi:Nat):Prop:=∀ m v,(m,v)∈t ↔ ∃ k,lo≤k∧k < hi∧m=pname k∧ns[k]?=some v
section
variable {t:Tb} {ns:List Int} {lo hi:Nat}
theorem WinT.free (h:WinT t ns lo hi) (hh:hi < 320):Gm.dget t (pname hi)=none:=by
 cases e:Gm.dget t (pname hi) with
 | none=>rfl
 | some v =>
  obtain ⟨k,_,h2,h3,_⟩:=(h _ _).mp (Gm.dget_some e)
  have:=pname_inj hh (by lia) h3
  lia
theorem WinT.put (h:WinT t ns lo hi) (hh:hi < 320) (hl:lo≤hi) {v:Int} (hv:ns[hi]?=some v):WinT (Gm.dput t (pname hi) v) ns lo (hi+1):=fun m x=>by
 rw [Gm.dput_iff,h]
 constructor
 ·rintro (⟨rfl,rfl⟩ | ⟨_,k,h1,h2,h3,h4⟩)
  ·exact ⟨hi,hl,Nat.lt_succ_self _,rfl,hv⟩
  ·exact ⟨k,h1,by lia,h3,h4⟩
 ·rintro ⟨k,h1,h2,h3,h4⟩
  by_cases e:k=hi
  ·subst e
   rw [hv] at h4
   exact .inl ⟨h3,(Option.some.inj h4).symm⟩
  ·refine .inr ⟨fun z=>e (pname_inj (by lia) hh (h3.symm.trans z)),k,h1,by lia,h3,h4⟩
theorem WinT.has (h:WinT t ns lo hi) (hn:ns.length≤300) (hl:lo < hi) (hh:hi≤ns.length):Gm.dget t (pname lo)≠none:=fun e=>by
 have m:=(h (pname lo) ns[lo]).mpr ⟨lo,Nat.le_refl _,hl,rfl,List.getElem?_eq_getElem _⟩
 exact Gm.dget_none.mp e (List.mem_map.mpr ⟨_,m,rfl⟩)
theorem WinT.del (h:WinT t ns lo hi) (hh:hi < 320) (hl:lo < hi):WinT (Gm.ddel t (pname lo)) ns (lo+1) hi:=fun m x=>by
 rw [Gm.ddel_mem,h]
 constructor
 ·rintro ⟨h0,k,h1,h2,h3,h4⟩
  refine ⟨k,?_,h2,h3,h4⟩
  by_cases e:k=lo
  ·subst e; exact absurd h3 h0
  ·lia
 ·rintro ⟨k,h1,h2,h3,h4⟩
  refine ⟨fun z=>?_,k,by lia,h2,h3,h4⟩
  have:=pname_inj (by lia) (by lia) (h3.symm.trans z)
  lia
structure IsMinW (ns:List Int) (lo hi:Nat) (t:Int):Prop where
 mem:∃ k,lo≤k∧k < hi∧ns[k]?=some t
 le:∀ k x,lo≤k→k < hi→ns[k]?=some x→t≤x
structure IsMaxW (ns:List Int) (lo hi:Nat) (t:Int):Prop where
 mem:∃ k,lo≤k∧k < hi∧ns[k]?=some t
 le:∀ k x,lo≤k→k < hi→ns[k]?=some x→x≤t
theorem WinT.ne (h:WinT t ns lo hi) (hl:lo < hi) (hh:hi≤ns.length):t≠[]:=fun z=>by
 have m:=(h (pname lo) ns[lo]).mpr ⟨lo,Nat.le_refl _,hl,rfl,List.getElem?_eq_getElem _⟩
 rw [z] at m; cases m
theorem WinT.least (h:WinT t ns lo hi) {w:Int} {n:Str} (l:LeastP t w n):IsMinW ns lo hi w:=by
 obtain ⟨k,h1,h2,h3,h4⟩:=(h n w).mp l.mem
 refine ⟨⟨k,h1,h2,h4⟩,fun k' x g1 g2 g3=>?_⟩
 have:=l.le (pname k') x ((h _ _).mpr ⟨k',g1,g2,rfl,g3⟩)
 by_cases z:x < w
 ·have c:ltP (x,pname k') (w,n)=true:=ltP_iff.mpr (.inl z)
  rw [c] at this; cases this
 ·lia
end
structure Mins (ns:List Int) (W:Nat) (ts:List Int):Prop where
 len:ts.length=ns.length+1 - W
 at':∀ j t,ts[j]?=some t→IsMinW ns j (j+W) t
structure Maxs (ns:List Int) (W:Nat) (ts:List Int):Prop where
 len:ts.length=ns.length+1 - W
 at':∀ j t,ts[j]?=some t→IsMaxW ns j (j+W) t
def negL (ns:List Int):List Int:=ns.map fun x=>0 - x
theorem negL_at {ns:List Int} {k:Nat} {x:Int}:(negL ns)[k]?=some x ↔ ns[k]?=some (0 - x):=by
 unfold negL
 rw [List.getElem?_map]
 cases ns[k]? with
 | none=>simp
 | some y =>
  simp only [Option.map_some,Option.some.injEq]
  lia
theorem Mins.neg {ns:List Int} {W:Nat} {ts:List Int} (h:Mins (negL ns) W ts):Maxs ns W (negL ts):=by
 refine ⟨?_,fun j t e=>?_⟩
 ·unfold negL
  rw [List.length_map,h.len]
  unfold negL
  rw [List.length_map]
 ·have m:=h.at' j _ (negL_at.mp e)
  obtain ⟨k,h1,h2,h3⟩:=m.mem
  refine ⟨⟨k,h1,h2,?_⟩,fun k' x g1 g2 g3=>?_⟩
  ·have:=negL_at.mp h3
   rw [this]; congr 1; lia
  ·have:=m.le k' (0 - x) g1 g2 (negL_at.mpr (by rw [g3]; congr 1; lia))
   lia
end L2
end
section
namespace L2
open PySem
def Nth (l:List Int) (P:Nat) (t:Int):Prop:=l.countP (fun x=>decide (x < t))≤P∧P < l.countP (fun x=>decide (x≤t))
theorem Nth.perm {l s:List Int} {P:Nat} {t:Int} (h:Nth l P t) (pm:s.Perm l):Nth s P t:=by
 unfold Nth
 rw [pm.countP_eq,pm.countP_eq]
 exact h
theorem take_all {s:List Int} {P:Nat} {p:Int→Bool} (h:∀ i x,i≤P→s[i]?=some x→p x=true) (hl:P < s.length):P < s.countP p:=by
 have e:s=s.take (P+1)++s.drop (P+1):=(List.take_append_drop _ _).symm
 rw [e,List.countP_append]
 have:(s.take (P+1)).countP p=(s.take (P+1)).length:=List.countP_eq_length.mpr fun x hx=>by
  obtain ⟨i,hi⟩:=List.mem_iff_getElem?.mp hx
  rw [List.getElem?_take] at hi
  split at hi
  ·exact h i x (by lia) hi
  ·cases hi
 rw [this,List.length_take]
 lia
theorem drop_none {s:List Int} {P:Nat} {p:Int→Bool} (h:∀ i x,P≤i→s[i]?=some x→p x=false):s.countP p≤P:=by
 have e:s=s.take P++s.drop P:=(List.take_append_drop _ _).symm
 rw [e,List.countP_append]
 have z:(s.drop P).countP p=0:=List.countP_eq_zero.mpr fun x hx=>by
  obtain ⟨i,hi⟩:=List.mem_iff_getElem?.mp hx
  rw [List.getElem?_drop] at hi
  rw [h (P+i) x (by lia) hi]
  decide
 have:=List.countP_le_length (p:=p) (l:=s.take P)
 rw [List.length_take] at this
 lia
theorem Nth.sorted {s:List Int} {P:Nat} {t:Int} (h:Nth s P t) (up:s.Pairwise (fun a b=>¬ b < a)):s[P]?=some t:=by
 have hl:P < s.length:=Nat.lt_of_lt_of_le h.2 List.countP_le_length
 have hv:s[P]?=some s[P]:=List.getElem?_eq_getElem hl
 have le:∀ (i j:Nat) (x y:Int),i≤j→s[i]?=some x→s[j]?=some y→x≤y:=fun i j x y hij hx hy=>by
  obtain ⟨h1,e1⟩:=List.getElem?_eq_some_iff.mp hx
  obtain ⟨h2,e2⟩:=List.getElem?_eq_some_iff.mp hy
  by_cases z:i=j
  ·subst z
   rw [hx] at hy
   exact Int.le_of_eq (Option.some.inj hy)
  ·have:=List.pairwise_iff_getElem.mp up i j h1 h2 (by lia)
   rw [e1,e2] at this
   lia
 rcases Int.lt_trichotomy s[P] t with z | z | z
 ·have:=take_all (p:=fun x=>decide (x < t)) (fun i x hi e=>decide_eq_true (Int.lt_of_le_of_lt (le i P x _ hi e hv) z)) hl
  have:=h.1
  lia
 ·rw [hv,z]
 ·have:=drop_none (p:=fun x=>decide (x≤t)) (fun i x hi e=>decide_eq_false (by have:=le P i _ x hi hv e; lia))
  have:=h.2
  lia
def winL (ns:List Int) (lo n:Nat):List (Str × Int):=(List.range' lo n).map fun k=>(pname k,ns.getD k 0)
def upT (t:Tb):Tb:=t.map fun p=>(p.1,-p.2)
theorem winL_snoc {ns:List Int} {lo n:Nat}:winL ns lo (n+1)=winL ns lo n++[(pname (lo+n),ns.getD (lo+n) 0)]:=by
 unfold winL
 rw [List.range'_concat,List.map_append,Nat.one_mul]
 rfl
theorem winL_cons {ns:List Int} {lo n:Nat}:winL ns lo (n+1)=(pname lo,ns.getD lo 0) :: winL ns (lo+1) n:=by
 unfold winL
 rw [List.range'_succ]
 rfl
theorem winL_len {ns:List Int} {lo n:Nat}:(winL ns lo n).length=n:=by
 unfold winL
 rw [List.length_map,List.length_range']
theorem winL_keys {ns:List Int} {lo n:Nat}:(winL ns lo n).map (·.1)=(List.range' lo n).map pname:=by
 unfold winL
 rw [List.map_map]
 rfl
theorem winL_nd {ns:List Int} {lo n:Nat} (h:lo+n≤320):((winL ns lo n).map (·.1)).Nodup:=by
 rw [winL_keys]
 refine List.pairwise_map.mpr ?_
 refine (List.nodup_range' (s:=lo) (n:=n)).imp_of_mem fun {a b} ha hb hne z=>?_
 have h1:=List.mem_range'_1.mp ha
 have h2:=List.mem_range'_1.mp hb
 exact hne (pname_inj (by lia) (by lia) z)
theorem winL_vals {ns:List Int} {lo n:Nat} (h:lo+n≤ns.length):(winL ns lo n).map (·.2)=(ns.drop lo).take n:=by
 refine List.ext_getElem? fun i=>?_
 unfold winL
 rw [List.map_map,List.getElem?_map,List.getElem?_take,List.getElem?_drop]
 by_cases z:i < n
 ·rw [if_pos z,List.getElem?_range' z]
  have:lo+i < ns.length:=by lia
  rw [List.getElem?_eq_getElem this]
  show some (ns.getD (lo+1 * i) 0)=_
  rw [Nat.one_mul,List.getD_eq_getElem?_getD,List.getElem?_eq_getElem this]
  rfl
 ·rw [if_neg z,List.getElem?_eq_none (by rw [List.length_range']; lia)]
  rfl
theorem upT_keys {t:Tb}:(upT t).map (·.1)=t.map (·.1):=by
 unfold upT
 rw [List.map_map]
 rfl
theorem upT_len {t:Tb}:(upT t).length=t.length:=List.length_map ..
theorem upT_app {a b:Tb}:upT (a++b)=upT a++upT b:=List.map_append
theorem upT_mem {t:Tb} {n:Str} {v:Int}:(n,v)∈upT t ↔ (n,-v)∈t:=by
 unfold upT
 rw [List.mem_map]
 constructor
 ·rintro ⟨⟨a,b⟩,h,e⟩
  cases e
  rwa [Int.neg_neg]
 ·intro h
  exact ⟨_,h,by rw [Int.neg_neg]⟩
theorem dput_new {t:Tb} {n:Str} {v:Int} (h:n ∉ t.map (·.1)):Gm.dput t n v=t++[(n,v)]:=by
 unfold Gm.dput
 rw [if_neg]
 intro z
 obtain ⟨p,hp,e⟩:=List.any_eq_true.mp z
 exact h (List.mem_map.mpr ⟨p,hp,of_decide_eq_true e⟩)
theorem nd_of_keys {t:Tb} (h:(t.map (·.1)).Nodup):t.Nodup:=(List.pairwise_map.mp h).imp fun hne e=>hne (by rw [e])
theorem key_one {t:Tb} (h:(t.map (·.1)).Nodup) {n:Str} {a b:Int} (ha:(n,a)∈t) (hb:(n,b)∈t):a=b:=by
 have e1:=Gm.dget_of h ha
 rw [Gm.dget_of h hb] at e1
 exact (Option.some.inj e1).symm
theorem ddel_perm {t:Tb} (h:(t.map (·.1)).Nodup) {n:Str} {v:Int} (hv:(n,v)∈t):t.Perm ((n,v) :: Gm.ddel t n):=by
 have nd2:((n,v) :: Gm.ddel t n).Nodup:=List.nodup_cons.mpr ⟨fun z=>(Gm.ddel_mem.mp z).1 rfl,nd_of_keys (Gm.ddel_nd h)⟩
 refine (List.perm_ext_iff_of_nodup (nd_of_keys h) nd2).mpr fun ⟨m,x⟩=>?_
 rw [List.mem_cons,Gm.ddel_mem]
 constructor
 ·intro hx
  by_cases z:m=n
  ·subst z
   exact .inl (by rw [key_one h hx hv])
  ·exact .inr ⟨z,hx⟩
 ·rintro (z | z)
  ·rw [z]; exact hv
  ·exact z.2
structure Prt (tl tg:Tb) (ns:List Int) (lo n P:Nat):Prop where
 pm:(upT tl++tg).Perm (winL ns lo n)
 ord:∀ m a m' b,(m,a)∈tl→(m',b)∈tg→-a≤b
 sz:tl.length=min P n
section
variable {tl tg:Tb} {ns:List Int} {lo n P:Nat}
theorem keys_of (pm:(upT tl++tg).Perm (winL ns lo n)) (h:lo+n≤320):(tl.map (·.1)).Nodup∧(tg.map (·.1)).Nodup∧∀ m,m∈tl.map (·.1)→m ∉ tg.map (·.1):=by
 have k:=(pm.map (·.1)).nodup_iff.mpr (winL_nd h)
 rw [List.map_append,upT_keys] at k
 obtain ⟨a,b,c⟩:=List.nodup_append.mp k
 exact ⟨a,b,fun m h1 h2=>c m h1 m h2 rfl⟩
theorem len_of (pm:(upT tl++tg).Perm (winL ns lo n)):tl.length+tg.length=n:=by
 have:=pm.length_eq
 rw [List.length_append,upT_len,winL_len] at this
 exact this
theorem not_next (pm:(upT tl++tg).Perm (winL ns lo n)) (h:lo+n < 320):pname (lo+n) ∉ tl.map (·.1)∧pname (lo+n) ∉ tg.map (·.1):=by
 have k:pname (lo+n) ∉ (upT tl++tg).map (·.1):=fun z=>by
  have:=(pm.map (·.1)).mem_iff.mp z
  rw [winL_keys] at this
  obtain ⟨j,hj,e⟩:=List.mem_map.mp this
  have h2:=List.mem_range'_1.mp hj
  have:=pname_inj (by lia) h e
  lia
 rw [List.map_append,upT_keys] at k
 exact ⟨fun z=>k (List.mem_append_left _ z),fun z=>k (List.mem_append_right _ z)⟩
theorem Prt.new:Prt [] [] ns lo 0 P:=⟨.refl _,(fun _ _ _ _ h=>nomatch h),by show 0=_; lia⟩
theorem Prt.put (h:Prt tl tg ns lo n P) (hn:lo+n < 320) {v:Int} (hv:ns[lo+n]?=some v) (hr:(Gm.dput tl (pname (lo+n)) (0 - v)).length≤P):Prt (Gm.dput tl (pname (lo+n)) (0 - v)) tg ns lo (n+1) P:=by
 have e:=dput_new (v:=0 - v) (not_next h.pm hn).1
 rw [e] at hr ⊢
 rw [List.length_append] at hr
 have l1:=len_of h.pm
 have l2:=h.sz
 have hr':tl.length+1≤P:=hr
 have l3:tg.length=0:=by lia
 obtain rfl:tg=[]:=List.length_eq_zero_iff.mp l3
 have ev:ns.getD (lo+n) 0=v:=by rw [List.getD_eq_getElem?_getD,hv]; rfl
 refine ⟨?_,(fun _ _ _ _ _ z=>nomatch z),by rw [List.length_append]; show tl.length+1=_; lia⟩
 rw [upT_app,winL_snoc,ev,List.append_nil]
 have:upT [(pname (lo+n),0 - v)]=[(pname (lo+n),v)]:=by
  show [(pname (lo+n),-(0 - v))]=_
  rw [show -(0 - v)=v by lia]
 rw [this]
 have p:=h.pm
 rw [List.append_nil] at p
 exact p.append_right _
theorem Prt.over (h:Prt tl tg ns lo n P) (hn:lo+n < 320) {v:Int} (hv:ns[lo+n]?=some v) (hr:P < (Gm.dput tl (pname (lo+n)) (0 - v)).length) {w:Int} {m:Str} (lp:(m,w)∈Gm.dput tl (pname (lo+n)) (0 - v)) (le:∀ m' x,(m',x)∈Gm.dput tl (pname (lo+n)) (0 - v)→w≤x) :
  m ∉ tg.map (·.1)∧Prt (Gm.ddel (Gm.dput tl (pname (lo+n)) (0 - v)) m) (Gm.dput tg m (0 - w)) ns lo (n+1) P:=by
 obtain ⟨f1,f2⟩:=not_next h.pm hn
 have nd1:=Gm.dput_nd (n:=pname (lo+n)) (b:=0 - v) (keys_of h.pm (by lia)).1
 have e:=dput_new (v:=0 - v) f1
 have l1:=len_of h.pm
 have l2:=h.sz
 have dp:=ddel_perm nd1 lp
 have ll:=dp.length_eq
 rw [List.length_cons] at ll
 have le2:(Gm.dput tl (pname (lo+n)) (0 - v)).length=tl.length+1:=by rw [e,List.length_append]; rfl
 have ev:ns.getD (lo+n) 0=v:=by rw [List.getD_eq_getElem?_getD,hv]; rfl
 have pm1:(upT (Gm.dput tl (pname (lo+n)) (0 - v))++tg).Perm (winL ns lo (n+1)):=by
  rw [e,upT_app,winL_snoc,ev]
  have:upT [(pname (lo+n),0 - v)]=[(pname (lo+n),v)]:=by
   show [(pname (lo+n),-(0 - v))]=_
   rw [show -(0 - v)=v by lia]
  rw [this,List.append_assoc]
  refine List.Perm.trans (List.Perm.append_left _ List.perm_append_comm) ?_
  rw [← List.append_assoc]
  exact h.pm.append_right _
 have ng:m ∉ tg.map (·.1):=(keys_of pm1 (by lia)).2.2 m (List.mem_map.mpr ⟨_,lp,rfl⟩)
 refine ⟨ng,?_,?_,by lia⟩
 ·rw [dput_new ng]
  refine List.Perm.trans ?_ pm1
  have:(upT (Gm.dput tl (pname (lo+n)) (0 - v))).Perm ((m,0 - w) :: upT (Gm.ddel (Gm.dput tl (pname (lo+n)) (0 - v)) m)):=by
   have:=dp.map fun p:Str × Int=>(p.1,-p.2)
   rw [List.map_cons] at this
   have ew:(0 - w)=-w:=by lia
   rw [ew]
   exact this
  refine List.Perm.trans ?_ (this.append_right _).symm
  rw [← List.append_assoc]
  exact List.perm_append_comm.trans (List.Perm.refl _)
 ·intro x a m' b hx hb
  obtain ⟨hxm,hx'⟩:=Gm.ddel_mem.mp hx
  rw [dput_new ng] at hb
  rcases List.mem_append.mp hb with hb | hb
  ·rw [e] at hx'
   rcases List.mem_append.mp hx' with hx2 | hx2
   ·exact h.ord x a m' b hx2 hb
   ·have hq:(x,a)=(pname (lo+n),0 - v):=List.mem_singleton.mp hx2
    cases hq
    have lw:=le _ _ (Gm.dput_self (L:=tl) (n:=pname (lo+n)) (b:=0 - v))
    rw [e] at lp
    rcases List.mem_append.mp lp with h2 | h2
    ·have:=h.ord m w m' b h2 hb
     lia
    ·have hq:(m,w)=(pname (lo+n),0 - v):=List.mem_singleton.mp h2
     cases hq
     exact absurd rfl hxm
  ·have hq:(m',b)=(m,0 - w):=List.mem_singleton.mp hb
   cases hq
   have:=le _ _ hx'
   lia
theorem Prt.back (h:Prt tl tg ns lo (n+1) P) (hn:lo+(n+1)≤320) (hP:P≤n) (hi:pname lo∈tl.map (·.1)) {w:Int} {m:Str} (lp:(m,w)∈tg) (le:∀ m' x,(m',x)∈tg→w≤x) :
  m ∉ (Gm.ddel tl (pname lo)).map (·.1)∧Prt (Gm.dput (Gm.ddel tl (pname lo)) m (0 - w)) (Gm.ddel tg m) ns (lo+1) n P:=by
 obtain ⟨k1,k2,k3⟩:=keys_of h.pm hn
 obtain ⟨⟨nm,a⟩,ha,en⟩:=List.mem_map.mp hi
 have en':nm=pname lo:=en
 subst en'
 have nl:m ∉ (Gm.ddel tl (pname lo)).map (·.1):=fun z=>by
  obtain ⟨⟨m',x⟩,h1,h2⟩:=List.mem_map.mp z
  have h2':m'=m:=h2
  subst h2'
  exact k3 m' (List.mem_map.mpr ⟨_,(Gm.ddel_mem.mp h1).2,rfl⟩) (List.mem_map.mpr ⟨_,lp,rfl⟩)
 have d1:=ddel_perm k1 ha
 have d2:=ddel_perm k2 lp
 have l1:=d1.length_eq
 rw [List.length_cons] at l1
 have sz:=h.sz
 rw [dput_new nl]
 refine ⟨nl,?_,?_,by rw [List.length_append]; show (Gm.ddel tl (pname lo)).length+1=_; lia⟩
 ·have d1':(upT tl).Perm ((pname lo,-a) :: upT (Gm.ddel tl (pname lo))):=by
   have:=d1.map fun p:Str × Int=>(p.1,-p.2)
   rw [List.map_cons] at this
   exact this
  have pm:=h.pm
  rw [winL_cons] at pm
  have whole:(winL ns lo (n+1))=(pname lo,ns.getD lo 0) :: winL ns (lo+1) n:=winL_cons
  have ea:-a=ns.getD lo 0:=by
   have m1:(pname lo,-a)∈winL ns lo (n+1):=h.pm.mem_iff.mp (List.mem_append_left _ (d1'.mem_iff.mpr List.mem_cons_self))
   have m2:(pname lo,ns.getD lo 0)∈winL ns lo (n+1):=by rw [whole]; exact List.mem_cons_self
   exact key_one (winL_nd hn) m1 m2
  rw [← ea] at pm
  have q:((pname lo,-a) :: (upT (Gm.ddel tl (pname lo))++tg)).Perm ((pname lo,-a) :: winL ns (lo+1) n):=(d1'.append_right tg).symm.trans pm
  have q:=q.cons_inv
  refine List.Perm.trans ?_ q
  have eu:upT (Gm.ddel tl (pname lo)++[(m,0 - w)])=upT (Gm.ddel tl (pname lo))++[(m,w)]:=by
   rw [upT_app]
   show _++[(m,-(0 - w))]=_
   rw [show -(0 - w)=w by lia]
  rw [eu,List.append_assoc]
  exact List.Perm.append_left _ d2.symm
 ·intro x b m' c hx hc
  obtain ⟨hcm,hc'⟩:=Gm.ddel_mem.mp hc
  rcases List.mem_append.mp hx with hx | hx
  ·exact h.ord x b m' c (Gm.ddel_mem.mp hx).2 hc'
  ·have hq:(x,b)=(m,0 - w):=List.mem_singleton.mp hx
   cases hq
   have:=le _ _ hc'
   lia
theorem Prt.gone (h:Prt tl tg ns lo (n+1) P) (hn:lo+(n+1)≤320) (hP:P≤n) (hi:pname lo ∉ tl.map (·.1)):pname lo∈tg.map (·.1)∧Prt tl (Gm.ddel tg (pname lo)) ns (lo+1) n P:=by
 obtain ⟨k1,k2,k3⟩:=keys_of h.pm hn
 have whole:(winL ns lo (n+1))=(pname lo,ns.getD lo 0) :: winL ns (lo+1) n:=winL_cons
 have hm:(pname lo,ns.getD lo 0)∈upT tl++tg:=h.pm.mem_iff.mpr (by rw [whole]; exact List.mem_cons_self)
 have hg:(pname lo,ns.getD lo 0)∈tg:=by
  rcases List.mem_append.mp hm with z | z
  ·exact absurd (List.mem_map.mpr ⟨_,upT_mem.mp z,rfl⟩) hi
  ·exact z
 have d2:=ddel_perm k2 hg
 have sz:=h.sz
 refine ⟨List.mem_map.mpr ⟨_,hg,rfl⟩,?_,fun x b m' c hx hc=>h.ord x b m' c hx (Gm.ddel_mem.mp hc).2,by lia⟩
 have pm:=h.pm
 rw [whole] at pm
 have q:((pname lo,ns.getD lo 0) :: (upT tl++Gm.ddel tg (pname lo))).Perm ((pname lo,ns.getD lo 0) :: winL ns (lo+1) n):=by
  refine List.Perm.trans ?_ pm
  refine List.Perm.trans ?_ (List.Perm.append_left _ d2.symm)
  exact (List.perm_middle (a:=(pname lo,ns.getD lo 0)) (l₁:=upT tl) (l₂:=Gm.ddel tg (pname lo))).symm
 exact q.cons_inv
theorem Prt.nth (h:Prt tl tg ns lo n P) (hn:lo+n≤ns.length) (hP:P < n) {w:Int} {m:Str} (lp:(m,w)∈tg) (le:∀ m' x,(m',x)∈tg→w≤x):Nth ((ns.drop lo).take n) P w:=by
 have sz:=h.sz
 have szP:tl.length=P:=by lia
 have pv:=h.pm.map (·.2)
 rw [winL_vals hn,List.map_append] at pv
 refine Nth.perm ?_ pv.symm
 unfold Nth
 rw [List.countP_append,List.countP_append]
 have ul:((upT tl).map (·.2)).length=P:=by rw [List.length_map,upT_len]; exact szP
 have z0:(tg.map (·.2)).countP (fun x=>decide (x < w))=0:=List.countP_eq_zero.mpr fun x hx=>by
  obtain ⟨⟨m',y⟩,hy,e⟩:=List.mem_map.mp hx
  cases e
  have:=le _ _ hy
  rw [decide_eq_true_eq]
  show ¬ y < w
  lia
 have z1:((upT tl).map (·.2)).countP (fun x=>decide (x≤w))=P:=by
  rw [← ul]
  refine List.countP_eq_length.mpr fun x hx=>?_
  obtain ⟨⟨m',y⟩,hy,e⟩:=List.mem_map.mp hx
  cases e
  have:=h.ord m' (-y) m w (upT_mem.mp hy) lp
  rw [decide_eq_true_eq]
  show y≤w
  lia
 have z2:0 < (tg.map (·.2)).countP (fun x=>decide (x≤w)):=List.countP_pos_iff.mpr ⟨w,List.mem_map.mpr ⟨_,lp,rfl⟩,decide_eq_true (Int.le_refl _)⟩
 have z3:=List.countP_le_length (p:=fun x=>decide (x < w)) (l:=(upT tl).map (·.2))
 lia
end
end L2
end
section
namespace L2
open PySem PySem.Spec PyProof.Rows
def Cx.blkN (X:Cx) (scope:Scope) (cl:List (Str × Addr)) (C:Addr) (NB:List Str) (fp:List Addr) (s₀:Shared) (H₀:Hp):Cx :=
 { X with N:=NB,s₀:=s₀,H₀:=H₀,env:=compEnvC scope cl C X.env,outer:=X.stack,ex:=fp,fn:=fun _=>false,pn:=[],xe:=fun _ _=>False }
theorem comp_coreN {X:Cx} {elt iter:Expr} {x:Str} {px pos pos':Pos} {ifs:List Expr} {scope:Scope} {cl:List (Str × Addr)} {NB:List Str} {cap:List Nat} {wi:TI} {tt:TT} {te:TE}
  {pins:List (Addr × Obj)} {s:Shared} {σ:St} {H:Hp} {Q:VK} {use:Option (Value→Sem Unit)} {R:Value→Shared→Prop}
  (B:Blk X scope cl x NB cap) (hc:X.calm=true) (hi:PI X (.Name x px) iter wi)
  (ht:∀ C fp s₀ H₀,PTs (X.blkN scope cl C (x :: NB) fp s₀ H₀) ifs tt) (he:∀ C fp s₀ H₀,PE (X.blkN scope cl C (x :: NB) fp s₀ H₀) elt te)
  (hs:∀ v,foldedSetIterable iter X.env v=pure v) (I:Inv X pins σ H s) (h:tComp wi tt te cap σ H Q)
  (fin:∀ (D C:Addr) (H':Hp) (s':Shared),Inv X pins σ H' s'→Gone X pins H' C s'→Q (.ref D) H'→compPost (model X.prog X.w) X.A X.xe use R (.ref D) C (.ok .next) s') :
  wpAny (model X.prog X.w) X.A (comprehension (.ListComp elt [⟨.Name x px,iter,ifs,0⟩] scope pos) scope X.env pos' (newList []) false (eval iter X.env) use) R X.xe s:=by
 refine wpAny_comprehension_free (use:=use) rfl hs B.clos B.kind B.names (thn (hi pins s σ H _ I h) fun v s1 h1=>thn h1 fun itv s2 h2=>?_)
 obtain ⟨it,fp,tn,J,H2,e,I2,T,st2,f2,h2⟩:=h2
 subst e
 refine wpAny_newObj_type (wpAny_newFunctionEnv B.nocell (by intro y hy; simp at hy) (fun h₁ hns₁ hsb₁=>?_) B.kind)
 dsimp only at hns₁ hsb₁ ⊢
 have I3:=I2.lnew (ys:=[]) (its:=[]) (t':=s2.toks) .nil (Nat.zero_le _)
 have hD:=I2.fresh
 obtain ⟨W,⟨m0,w0⟩,turn⟩:=h2 _ hD
 generalize eD:s2.heap.objs.size=D at hD I3 W w0 turn ⊢
 generalize eH2:s2.heap.push { cls:=.type "list",dict:=none,data:=.seq ([]:List Value).toArray }=G3 at hns₁ hsb₁ I3 ⊢
 generalize eH3:upd H2 D (.lst [])=H3 at I3 w0
 have hC:G3.objs.size=D+1:=by rw [← eH2,Heap.size_push,eD]
 generalize eC:G3.objs.size=C at hns₁ hsb₁ hC ⊢
 have old:∀ b o,G3.get? b=some o→h₁.get? b=some o:=fun b o e =>
  hsb₁.extBut b o (by rw [← eC]; exact Nat.ne_of_lt (Heap.lt_size e)) (Heap.get?_push_of_some _ e)
 have old2:∀ b o,s2.heap.get? b=some o→G3.get? b=some o:=fun b o e=>by rw [← eH2]; exact Heap.get?_push_of_some _ e
 have fpo:∀ b∈fp,b < D:=fun b hb=>by
  obtain ⟨o,e,_⟩:=T.obj 0 _ st2 b hb
  rw [← eD]; exact Heap.lt_size e
 have fpx:∀ b∈fp,b ∉ frs X.stack:=fun b hb z=>by
  obtain ⟨f0,f1,f2',_⟩:=f2 b hb
  rcases List.mem_cons.mp (I2.stkSub b z) with q | q
  ·exact f1 q
  ·exact f2' q
 let Y:Cx:=X.blkN scope cl C (x :: NB) fp { s2 with heap:=G3,toks:=s2.toks } H3
 have okY:Y.Ok:=by
  refine ⟨I3.ok.mod,B.kind,I3.ok.glob,I3.ok.blt,?_,?_,B.has,?_,I3.ok.hd,I3.ok.frames,.inl rfl,?_,I3.bs,?_,?_,?_,I3.stack,I3.stkFree⟩
  ·show G3.objs.size≤C
   lia
  ·intro y z c e1 e2
   exact I3.ok.inj y z c (B.cells y c e1) (B.cells z c e2)
  ·intro y c z
   cases z
  ·intro b hb
   have hb':b∈fp:=hb
   refine ⟨?_,fun y c e=>(f2 b hb').2.2.2.2.1 y c (B.cells y c e)⟩
   show b≠C
   exact Nat.ne_of_lt (Nat.lt_of_lt_of_le (fpo b hb') (by rw [hC]; exact Nat.le_succ _))
  ·show X.base.objs.size≤G3.objs.size
   exact Nat.le_trans I3.ok.bsz I3.sz
  ·intro b o e hb
   have hb':b∈fp:=hb
   rcases (f2 b hb').2.2.2.1 with z | z
   ·exact absurd z (I3.ok.noex b o e)
   ·exact absurd (Nat.lt_of_lt_of_le (Nat.lt_of_lt_of_le (Heap.lt_size e) I3.ok.bsz) z) (Nat.lt_irrefl _)
  ·intro b hb
   have hb':b∈fp:=hb
   exact fpx b hb'
 have IY:Inv Y [] (none :: capσ cap σ) H3 { s2 with heap:=h₁,toks:=s2.toks }:=by
  refine ⟨okY,rfl,I3.bare,Un.kept old,⟨_,hns₁,?_⟩,?_,?_,?_,?_,I3.hok.kept old,?_⟩
  ·intro j y v e1 e2 hv
   cases j with
   | zero=>cases e2
   | succ j =>
    have e1':NB[j]?=some y:=e1
    have e2':(capσ cap σ)[j]?=some (some v):=e2
    unfold capσ at e2'
    rw [List.getElem?_map] at e2'
    cases ec:cap[j]? with
    | none=>rw [ec] at e2'; cases e2'
    | some i =>
     rw [ec] at e2'
     have e3:σ[i]?.join=some v:=Option.some.inj e2'
     have e4:σ[i]?=some (some v):=by
      cases q:σ[i]? with
      | none=>rw [q] at e3; cases e3
      | some z=>rw [q] at e3; exact congrArg some e3
     obtain ⟨y',n1,n2,n3,n4,n5⟩:=B.cap j i ec
     rw [e1'] at n1
     cases n1
     obtain ⟨m,hn,hl⟩:=I3.loc
     obtain ⟨u,r,lk⟩:=hl i y v n2 e4 n3
     refine ⟨u,r,.inr ⟨n5,?_⟩⟩
     obtain ⟨c,hcl⟩:=B.has y n5
     refine ⟨c,hcl,?_⟩
     rcases lk with ⟨k1,_⟩ | ⟨_,c',ec',cell⟩
     ·rcases n4 with n4 | n4 <;> (rw [n4] at k1; cases k1)
     ·rw [B.cells y c hcl] at ec'
      cases ec'
      obtain ⟨o,ho,hd⟩:=cell
      exact ⟨o,old c o ho,hd⟩
  ·intro y c e
   obtain ⟨v,o,ho,hd⟩:=I3.cell y c (B.cells y c e)
   exact ⟨v,o,old c o ho,hd⟩
  ·exact I3.hok.fresh (show G3.objs.size≤C by lia)
  ·intro y c e
   exact I3.freeC y c (B.cells y c e)
  ·intro p hp
   cases hp
  ·show (none :: capσ cap σ).length=(x :: NB).length
   rw [List.length_cons,List.length_cons,← B.len]
   unfold capσ
   rw [List.length_map]
 have fpY:∀ {H':Hp},(∀ b∈fp,H' b=none)→∀ b∈fp,FpOk Y [] H' b:=fun {H'} hn b hb=>by
  refine ⟨hn b hb,?_,fpx b hb,.inl ?_,fun y c e=>(f2 b hb).2.2.2.2.1 y c (B.cells y c e),fun p hp=>by cases hp⟩
  ·show b≠C
   exact Nat.ne_of_lt (Nat.lt_of_lt_of_le (fpo b hb) (by rw [hC]; exact Nat.le_succ _))
  ·exact hb
 have st4:tn 0 h₁:=T.keep _ _ _ st2 fun b hb o e=>old b o (old2 b o e)
 have fr4:∀ b∈fp,H3 b=none:=fun b hb=>by
  rw [← eH3,upd_ne (Nat.ne_of_lt (fpo b hb))]; exact (f2 b hb).1
 have leave:∀ (H':Hp) (s':Shared),Inv Y [] (none :: capσ cap σ) H' s'→Q (.ref D) H'→compPost (model X.prog X.w) X.A X.xe use R (.ref D) C (.ok .next) s':=by
  intro H' s' I' q
  obtain ⟨m,hn,_⟩:=id I'.loc
  have u:=I'.base
  have I5:Inv X pins σ H' s':=by
   refine I3.call' (s':=s') (ch:=fp) I'.os u I'.hok I'.bare fun b hb=>?_
   have hb':b∈fp:=hb
   obtain ⟨f0,f1,f2',f3,f4,f5⟩:=f2 b hb'
   exact ⟨f3,f1,f4,f5⟩
  exact fin D C H' s' I5 ⟨⟨m,hn⟩,I3.fpOk (show G3.objs.size≤C by rw [eC]; exact Nat.le_refl _) I'.free⟩ q
 have loop:∀ s₄:Shared,s₄={ s2 with heap:=h₁,toks:=s2.toks } →
   codeAny (model X.prog X.w) X.A (.compLoop (.ListComp elt [⟨.Name x px,iter,ifs,0⟩] scope pos) 0 (.ref it) (.ref D) (compEnvC scope cl C X.env)) (compPost (model X.prog X.w) X.A X.xe use R (.ref D) C) s₄:=by
  rintro s₄ rfl
  refine compLoop_own (fun n s'=>∃ i ys H',Inv Y [] (none :: capσ cap σ) H' s'∧tn i s'.heap∧(∀ b∈fp,H' b=none)∧W i n ys H') ?_ m0 ⟨0,[],H3,IY,st4,fr4,w0⟩
  rintro n s3 ⟨i,ys,H',I',st',fr',w'⟩
  obtain ⟨hDl,tr⟩:=turn i n ys H' w'
  rcases tr with ⟨stop,q⟩ | ⟨go,step⟩
  ·refine thn (T.done Y rfl rfl rfl hc i [] s3 _ H' (fun _ _=>False) I' (fpY fr') st' stop) fun r s4 ⟨hr,I4⟩=>?_
   subst hr
   exact leave H' s4 I4 q
  ·refine thn (T.item Y rfl rfl rfl hc i [] s3 _ H' (fun _ _=>False) I' (fpY fr') st' go) fun r s4 ⟨u,hr,h4⟩=>?_
   subst hr
   refine thn h4 fun _ s5 ⟨v,H5,I5,r5,y5,st5,fr5⟩=>?_
   have I5':=I5.pinned (fpY fr5) (T.obj _ _ st5)
   have back:∀ {σ7:St} {H7:Hp} {s7:Shared},Inv Y ([]++pinsAt fp s5.heap) (some v :: capσ cap σ) H7 s7→Inv Y [] (none :: capσ cap σ) H7 s7∧tn (i+1) s7.heap∧∀ b∈fp,H7 b=none:=fun {σ7 H7 s7} I7=>by
    refine ⟨I7.unpinned.weak (by simp) fun j z e=>?_,T.keep _ _ _ st5 fun b hb o e=>(I7.pin (b,o) (List.mem_append_right _ (List.mem_append_right _ (mem_pinsAt hb e)))).1,fun b hb=>?_⟩
    ·cases j with
     | zero=>cases e
     | succ j=>exact e
    ·obtain ⟨o,e,d⟩:=T.obj _ _ st5 b hb
     exact (I7.pin (b,o) (List.mem_append_right _ (List.mem_append_right _ (mem_pinsAt hb e)))).2.1
   have hgN:PG Y (.Name x px) (gName 0):=pg_name (i:=0) B.nd rfl (.inl (lookup_relabel_local B.own)) (.inr (lookup_relabel_local B.own))
   refine thn (hgN _ s5 _ H5 v u (fun σ6 H6=>σ6=some v :: capσ cap σ∧H6=H5) I5' r5 ⟨rfl,rfl⟩) fun _ s6 ⟨σ6,H6,I6,e6,e6'⟩=>?_
   subst e6 e6'
   refine thn (ht C fp _ _ _ s6 _ H6 _ I6 (step v H6 y5)) fun ok s7 ⟨H7,I7,q7⟩=>?_
   cases ok with
   | false =>
    simp only [Bool.false_eq_true,if_false] at q7 ⊢
    obtain ⟨m',hm,w7⟩:=q7
    obtain ⟨a,b,c⟩:=back (σ7:=[]) I7
    exact ⟨m',hm,i+1,ys,H7,a,b,c,w7⟩
   | true =>
    simp only [if_true] at q7 ⊢
    refine thn (he C fp _ _ _ s7 _ H7 _ I7 q7) fun u8 s8 ⟨v8,H8,I8,r8,q8⟩=>?_
    obtain ⟨d8,l8,m',hm,w8⟩:=q8
    refine thn (mt_append (X:=Y) _ s8 _ H8 (.ref D) [v8] (.ref D) [u8] (fun _ H9=>H9=upd H8 D (.lst (ys++[v8]))) I8 rfl (.cons r8 .nil) ⟨D,ys,v8,rfl,rfl,d8,l8,rfl⟩) fun _ s9 ⟨_,H9,I9,_,e9⟩=>?_
    subst e9
    obtain ⟨a,b,c⟩:=back (σ7:=[]) I9
    exact ⟨m',hm,i+1,ys++[v8],_,a,b,c,w8⟩
 refine codeAny_compStart_list (loop _ ?_) (T.self _ 0 _ _ _ ?_ (loop _ ?_))
 ·rfl
 ·exact st4
 ·rfl
theorem pe_compN {X:Cx} {elt iter:Expr} {x:Str} {px pos:Pos} {ifs:List Expr} {scope:Scope} {cl:List (Str × Addr)} {NB:List Str} {cap:List Nat} {wi:TI} {tt:TT} {te:TE}
  (B:Blk X scope cl x NB cap) (hc:X.calm=true) (hi:PI X (.Name x px) iter wi)
  (ht:∀ C fp s₀ H₀,PTs (X.blkN scope cl C (x :: NB) fp s₀ H₀) ifs tt) (he:∀ C fp s₀ H₀,PE (X.blkN scope cl C (x :: NB) fp s₀ H₀) elt te)
  (hs:∀ v,foldedSetIterable iter X.env v=pure v:=by intro _; rfl):PE X (.ListComp elt [⟨.Name x px,iter,ifs,0⟩] scope pos) (tComp wi tt te cap):=by
 intro pins s σ H Q I h
 rw [eval_ListComp]
 refine comp_coreN (use:=none) (R:=EP X pins σ Q) B hc hi ht he hs I h fun D C H' s' I' G q=>?_
 obtain ⟨m,hn⟩:=G.ns
 obtain ⟨f0,f1,f2,f3,f4,f5⟩:=G.fp
 refine ⟨m,hn,fun h' hs'=>⟨.ref D,H',?_,rfl,q⟩⟩
 exact I'.turned (t':=s'.toks) (fun b o hb e=>(hs'.2 b hb).trans e) f0 f1 f3 f4 f5
theorem qe_compN {X:Cx} {elt iter:Expr} {x:Str} {px pos:Pos} {ifs:List Expr} {scope:Scope} {cl:List (Str × Addr)} {NB:List Str} {cap:List Nat} {wi:TI} {tt:TT} {te:TE}
  (B:Blk X scope cl x NB cap) (hc:X.calm=true) (hi:QI X (.Name x px) iter wi)
  (ht:∀ C fp s₀ H₀,QTs (X.blkN scope cl C (x :: NB) fp s₀ H₀) ifs tt) (he:∀ C fp s₀ H₀,QE (X.blkN scope cl C (x :: NB) fp s₀ H₀) elt te)
  (hs:∀ v,foldedSetIterable iter X.env v=pure v:=by intro _; rfl):QE X (.ListComp elt [⟨.Name x px,iter,ifs,0⟩] scope pos) (tComp wi tt te cap) :=
 .mk (pe_compN B hc hi.to (fun C fp s₀ H₀=>(ht C fp s₀ H₀).to) (fun C fp s₀ H₀=>(he C fp s₀ H₀).to) hs)
def relS (sc esc:Scope):Scope:={ sc with names:=sc.names.map fun (n,k)=>if (k == NameKind.free && esc.kind == .function && esc.names.lookup n == some .cell) then (n,NameKind.cell) else (n,k) }
theorem qi_listB {X:Cx} {K:PySem.W.Frag} {tg e:Expr} {te:TE} (hK:X.K=K) (h:QE X e te):QI X tg e (iList K te):=by subst hK; exact qi_list h
theorem call_tuple_ofB {X:Cx} {K:PySem.W.Frag} (h:X.K=K):CallR X (.type "tuple") (fun xs H Q=>∃ p ys,xs=[.ref p]∧((SqL K H p ys∧∀ l,H l=none→Q (.ref l) (upd H l (.tup ys)))∨(SqT K H p ys∧Q (.ref p) H))):=by subst h; exact call_tuple_of
end L2
end
section
namespace HT
open PySem PyProof.Rows
section
variable {prog:Program} {w:World} {A:Around} {E:Value→Shared→Prop} {s:Shared}
end
end HT
namespace L2
open PySem PySem.Spec PyProof.Rows
section
variable {X:Cx}
end
end L2
end
section
namespace HT
open PySem PyProof.Rows
section
variable {prog:Program} {w:World} {A:Around} {E:Value→Shared→Prop} {s:Shared}
end
end HT
namespace L2
open PySem PySem.Spec PyProof.Rows
section
variable {X:Cx}
end
end L2
end
section
namespace L2
open PySem PySem.Spec PyProof.Rows
section
variable {M:Model} {A:Around} {E:Value→Shared→Prop}
abbrev cellStep:Str × NameKind→List (Str × Addr)→Sem (ForInStep (List (Str × Addr))):=fun x cells =>
 match x with
 | (name,kind)=>if (kind == NameKind.cell)=true then do
   let a ← alloc { cls:=Value.type "cell",data:=Data.cell none }
   pure (ForInStep.yield ((name,a) :: cells))
  else pure (ForInStep.yield cells)
theorem cells_none:∀ (names:List (Str × NameKind)) (acc:List (Str × Addr)) (s:Shared) (Q:List (Str × Addr)→Shared→Prop),names.filter (fun y=>y.2 == .cell)=[]→Q acc s→wpAny M A (forIn names acc cellStep) Q E s
 | [],acc,s,Q,_,h=>by rw [List.forIn_nil]; exact wpAny_pure h
 | (n,k) :: r,acc,s,Q,hf,h=>by
  rw [List.forIn_cons]
  cases e:k == NameKind.cell with
  | true=>rw [List.filter_cons_of_pos (by simpa using e)] at hf; cases hf
  | false =>
   rw [List.filter_cons_of_neg (by simpa using e)] at hf
   refine wpAny_bind ?_
   show wpAny M A (if (k == NameKind.cell)=true then _ else _) _ _ s
   rw [if_neg (by rw [e]; decide)]
   exact wpAny_pure (cells_none r acc s Q hf h)
theorem cells_one {x:Str}:∀ (names:List (Str × NameKind)) (acc:List (Str × Addr)) (s:Shared) (Q:List (Str × Addr)→Shared→Prop),names.filter (fun y=>y.2 == .cell)=[(x,.cell)] →
  Q ((x,s.heap.objs.size) :: acc) { s with heap:=s.heap.push { cls:=Value.type "cell",data:=Data.cell none } }→wpAny M A (forIn names acc cellStep) Q E s
 | [],acc,s,Q,hf,h=>by cases hf
 | (n,k) :: r,acc,s,Q,hf,h=>by
  rw [List.forIn_cons]
  cases e:k == NameKind.cell with
  | true =>
   rw [List.filter_cons_of_pos (by simpa using e)] at hf
   have h1:(n,k)=(x,NameKind.cell):=(List.cons.inj hf).1
   have h2:=(List.cons.inj hf).2
   cases h1
   refine wpAny_bind ?_
   show wpAny M A (if (NameKind.cell == NameKind.cell)=true then _ else _) _ _ s
   rw [if_pos e]
   exact wpAny_bind (wpAny_alloc (wpAny_pure (cells_none r _ _ Q h2 h)))
  | false =>
   rw [List.filter_cons_of_neg (by simpa using e)] at hf
   refine wpAny_bind ?_
   show wpAny M A (if (k == NameKind.cell)=true then _ else _) _ _ s
   rw [if_neg (by rw [e]; decide)]
   exact wpAny_pure (cells_one r acc s Q hf h)
theorem newFE_cell {s:Shared} {scope:Scope} {globals builtins:Addr} {cl:List (Str × Addr)} {qual:Str} {func:Option Addr} {code:Value} {around:Env} {x:Str} {Q:Env→Shared→Prop}
  (hf:scope.names.filter (fun y=>y.2 == .cell)=[(x,.cell)])
  (h:Q (newEnv scope s.heap.objs.size globals ((x,s.heap.objs.size+1) :: cl) qual func code (some around) builtins)
   { s with heap:=(s.heap.push { cls:=Value.type (if (some around).isSome=true then "dict" else "frame"),data:=Data.dict #[] }).push { cls:=Value.type "cell",data:=Data.cell none } }) :
  wpAny M A (newFunctionEnv scope globals cl [] qual func code (some around) builtins) Q E s:=by
 unfold newFunctionEnv
 refine wpAny_bind (wpAny_alloc (wpAny_bind (cells_one (x:=x) scope.names cl _ _ hf ?_)))
 dsimp only
 rw [Heap.size_push]
 exact wpAny_pure h
end
theorem lookup_relabel_cell {env:Env}:∀ {names:List (Str × NameKind)} {x:Str},names.lookup x=some NameKind.cell →
  (names.map fun (n,k)=>if (k == NameKind.free && env.scope.kind == ScopeKind.function && env.kindOf n == some NameKind.cell)=true then (n,NameKind.cell) else (n,k)).lookup x=some NameKind.cell
 | [],x,h=>by cases h
 | (n,k) :: r,x,h=>by
  rw [List.lookup_cons] at h
  rw [List.map_cons]
  dsimp only
  by_cases hc:(k == NameKind.free && env.scope.kind == .function && env.kindOf n == some .cell)=true
  ·rw [if_pos hc,List.lookup_cons]
   cases e:x == n with
   | true=>rfl
   | false=>rw [e] at h; exact lookup_relabel_cell h
  ·rw [if_neg hc,List.lookup_cons]
   cases e:x == n with
   | true=>rw [e] at h; exact h
   | false=>rw [e] at h; exact lookup_relabel_cell h
def Cx.blkC (X:Cx) (x:Str) (scope:Scope) (cl:List (Str × Addr)) (C:Addr) (NB:List Str) (fp:List Addr) (s₀:Shared) (H₀:Hp):Cx :=
 { X with N:=NB,s₀:=s₀,H₀:=H₀,env:=compEnvC scope ((x,C+1) :: cl) C X.env,outer:=X.stack,ex:=fp,fn:=fun y=>y == x,pn:=[],xe:=fun _ _=>False }
structure BlkC (X:Cx) (scope:Scope) (cl:List (Str × Addr)) (x:Str) (NB:List Str) (cap:List Nat):Prop where
 clos:closureFor scope X.env=pure cl
 one:scope.names.filter (fun y=>y.2 == .cell)=[(x,.cell)]
 kind:scope.kind=.function
 names:∀ y∈scope.names,y.2=.local→scope.names.lookup y.1=some .local
 cells:∀ y c,cl.lookup y=some c→X.env.cells.lookup y=some c
 has:∀ y,y≠x→((relabel scope X.env).names.lookup y=some .cell∨(relabel scope X.env).names.lookup y=some .free)→∃ c,cl.lookup y=some c
 len:cap.length=NB.length
 cap:∀ (j i:Nat),cap[j]?=some i→∃ y,NB[j]?=some y∧X.N[i]?=some y∧Vis X.env.scope y∧(X.env.kindOf y=some .cell∨X.env.kindOf y=some .free)∧((relabel scope X.env).names.lookup y=some .cell∨(relabel scope X.env).names.lookup y=some .free)
 own:scope.names.lookup x=some .cell
 nd:(x :: NB).Nodup
theorem comp_coreC {X:Cx} {elt iter:Expr} {x:Str} {px pos pos':Pos} {ifs:List Expr} {scope:Scope} {cl:List (Str × Addr)} {NB:List Str} {cap:List Nat} {wi:TI} {tt:TT} {te:TE}
  {pins:List (Addr × Obj)} {s:Shared} {σ:St} {H:Hp} {Q:VK} {use:Option (Value→Sem Unit)} {R:Value→Shared→Prop}
  (B:BlkC X scope cl x NB cap) (hc:X.calm=true) (hi:PI X (.Name x px) iter wi)
  (ht:∀ C fp s₀ H₀,PTs (X.blkC x scope cl C (x :: NB) fp s₀ H₀) ifs tt) (he:∀ C fp s₀ H₀,PE (X.blkC x scope cl C (x :: NB) fp s₀ H₀) elt te)
  (hs:∀ v,foldedSetIterable iter X.env v=pure v) (I:Inv X pins σ H s) (h:tComp wi tt te cap σ H Q)
  (fin:∀ (D C:Addr) (H':Hp) (s':Shared),Inv X pins σ H' s'→Gone X pins H' C s'→Q (.ref D) H'→compPost (model X.prog X.w) X.A X.xe use R (.ref D) C (.ok .next) s') :
  wpAny (model X.prog X.w) X.A (comprehension (.ListComp elt [⟨.Name x px,iter,ifs,0⟩] scope pos) scope X.env pos' (newList []) false (eval iter X.env) use) R X.xe s:=by
 refine wpAny_comprehension_free (use:=use) rfl hs B.clos B.kind B.names (thn (hi pins s σ H _ I h) fun v s1 h1=>thn h1 fun itv s2 h2=>?_)
 obtain ⟨it,fp,tn,J,H2,e,I2,T,st2,f2,h2⟩:=h2
 subst e
 refine wpAny_newObj_type (newFE_cell B.one ?_)
 dsimp only
 have I3:=I2.lnew (ys:=[]) (its:=[]) (t':=s2.toks) .nil (Nat.zero_le _)
 have hD:=I2.fresh
 obtain ⟨W,⟨m0,w0⟩,turn⟩:=h2 _ hD
 generalize eD:s2.heap.objs.size=D at hD I3 W w0 turn ⊢
 generalize eH2:s2.heap.push { cls:=.type "list",dict:=none,data:=.seq ([]:List Value).toArray }=G3 at I3 ⊢
 generalize eH3:upd H2 D (.lst [])=H3 at I3 w0
 have hC:G3.objs.size=D+1:=by rw [← eH2,Heap.size_push,eD]
 have hns₁:((G3.push { cls:=Value.type (if (some X.env).isSome=true then "dict" else "frame"),data:=Data.dict #[] }).push { cls:=Value.type "cell",data:=Data.cell none }).Ns G3.objs.size (fun _=>none):=(Heap.Ns.new G3 _).push _
 have hcl₁:((G3.push { cls:=Value.type (if (some X.env).isSome=true then "dict" else "frame"),data:=Data.dict #[] }).push { cls:=Value.type "cell",data:=Data.cell none }).IsCell (G3.objs.size+1) none:=⟨_,Heap.get?_push_at (by rw [Heap.size_push]) rfl,rfl⟩
 have old:∀ b o,G3.get? b=some o→((G3.push { cls:=Value.type (if (some X.env).isSome=true then "dict" else "frame"),data:=Data.dict #[] }).push { cls:=Value.type "cell",data:=Data.cell none }).get? b=some o:=fun b o e=>Heap.get?_push_of_some _ (Heap.get?_push_of_some _ e)
 generalize ((G3.push { cls:=Value.type (if (some X.env).isSome=true then "dict" else "frame"),data:=Data.dict #[] }).push { cls:=Value.type "cell",data:=Data.cell none })=h₁ at hns₁ hcl₁ old ⊢
 generalize eC:G3.objs.size=C at hns₁ hcl₁ hC ⊢
 have lkx:∀ y c,((x,C+1) :: cl).lookup y=some c→(y=x∧c=C+1)∨(y≠x∧cl.lookup y=some c):=fun y c e=>by
  rw [List.lookup_cons] at e
  cases q:y == x with
  | true=>rw [q] at e; exact .inl ⟨by simpa using q,(Option.some.inj e).symm⟩
  | false=>rw [q] at e; exact .inr ⟨by simpa using q,e⟩
 have lky:∀ y,y≠x→((x,C+1) :: cl).lookup y=cl.lookup y:=fun y n=>by
  rw [List.lookup_cons]
  cases q:y == x with
  | true=>exact absurd (by simpa using q) n
  | false=>rfl
 have clt:∀ y c,X.env.cells.lookup y=some c→c < C:=fun y c e=>by
  obtain ⟨v,o,ho,_⟩:=I3.cell y c e
  rw [← eC]; exact Heap.lt_size ho
 have old2:∀ b o,s2.heap.get? b=some o→G3.get? b=some o:=fun b o e=>by rw [← eH2]; exact Heap.get?_push_of_some _ e
 have fpo:∀ b∈fp,b < D:=fun b hb=>by
  obtain ⟨o,e,_⟩:=T.obj 0 _ st2 b hb
  rw [← eD]; exact Heap.lt_size e
 have fpx:∀ b∈fp,b ∉ frs X.stack:=fun b hb z=>by
  obtain ⟨f0,f1,f2',_⟩:=f2 b hb
  rcases List.mem_cons.mp (I2.stkSub b z) with q | q
  ·exact f1 q
  ·exact f2' q
 let Y:Cx:=X.blkC x scope cl C (x :: NB) fp { s2 with heap:=G3,toks:=s2.toks } H3
 have okY:Y.Ok:=by
  refine ⟨I3.ok.mod,B.kind,I3.ok.glob,I3.ok.blt,?_,?_,?_,?_,I3.ok.hd,I3.ok.frames,.inl rfl,?_,I3.bs,?_,?_,?_,I3.stack,I3.stkFree⟩
  ·show G3.objs.size≤C
   lia
  ·intro y z c e1 e2
   rcases lkx y c e1 with ⟨h1,h2⟩ | ⟨h1,h2⟩ <;> rcases lkx z c e2 with ⟨g1,g2⟩ | ⟨g1,g2⟩
   ·rw [h1,g1]
   ·have q:=clt z c (B.cells z c g2)
    rw [h2] at q
    exact absurd q (Nat.not_lt.mpr (Nat.le_succ _))
   ·have q:=clt y c (B.cells y c h2)
    rw [g2] at q
    exact absurd q (Nat.not_lt.mpr (Nat.le_succ _))
   ·exact I3.ok.inj y z c (B.cells y c h2) (B.cells z c g2)
  ·intro y hy
   by_cases n:y=x
   ·exact ⟨C+1,by show ((x,C+1) :: cl).lookup y=_; rw [n,List.lookup_cons,beq_self_eq_true]⟩
   ·obtain ⟨c,hc⟩:=B.has y n hy
    exact ⟨c,by show ((x,C+1) :: cl).lookup y=_; rw [lky y n]; exact hc⟩
  ·intro y c z e
   rcases lkx y c e with ⟨h1,h2⟩ | ⟨h1,h2⟩
   ·show G3.objs.size≤c
    rw [h2,eC]; exact Nat.le_succ _
   ·have z':(y == x)=true:=z
    exact absurd (by simpa using z') h1
  ·intro b hb
   have hb':b∈fp:=hb
   refine ⟨?_,fun y c e=>by
    rcases lkx y c e with ⟨h1,h2⟩ | ⟨h1,h2⟩
    ·exact fun z=>Nat.lt_irrefl b (Nat.lt_of_lt_of_le (fpo b hb') (by rw [← z,h2,hC]; exact Nat.le_trans (Nat.le_succ _) (Nat.le_succ _)))
    ·exact (f2 b hb').2.2.2.2.1 y c (B.cells y c h2)⟩
   show b≠C
   exact Nat.ne_of_lt (Nat.lt_of_lt_of_le (fpo b hb') (by rw [hC]; exact Nat.le_succ _))
  ·show X.base.objs.size≤G3.objs.size
   exact Nat.le_trans I3.ok.bsz I3.sz
  ·intro b o e hb
   have hb':b∈fp:=hb
   rcases (f2 b hb').2.2.2.1 with z | z
   ·exact absurd z (I3.ok.noex b o e)
   ·exact absurd (Nat.lt_of_lt_of_le (Nat.lt_of_lt_of_le (Heap.lt_size e) I3.ok.bsz) z) (Nat.lt_irrefl _)
  ·intro b hb
   have hb':b∈fp:=hb
   exact fpx b hb'
 have IY:Inv Y [] (none :: capσ cap σ) H3 { s2 with heap:=h₁,toks:=s2.toks }:=by
  refine ⟨okY,rfl,I3.bare,Un.kept old,⟨_,hns₁,?_⟩,?_,?_,?_,?_,I3.hok.kept old,?_⟩
  ·intro j y v e1 e2 hv
   cases j with
   | zero=>cases e2
   | succ j =>
    have e1':NB[j]?=some y:=e1
    have e2':(capσ cap σ)[j]?=some (some v):=e2
    unfold capσ at e2'
    rw [List.getElem?_map] at e2'
    cases ec:cap[j]? with
    | none=>rw [ec] at e2'; cases e2'
    | some i =>
     rw [ec] at e2'
     have e3:σ[i]?.join=some v:=Option.some.inj e2'
     have e4:σ[i]?=some (some v):=by
      cases q:σ[i]? with
      | none=>rw [q] at e3; cases e3
      | some z=>rw [q] at e3; exact congrArg some e3
     obtain ⟨y',n1,n2,n3,n4,n5⟩:=B.cap j i ec
     rw [e1'] at n1
     cases n1
     obtain ⟨m,hn,hl⟩:=I3.loc
     obtain ⟨u,r,lk⟩:=hl i y v n2 e4 n3
     refine ⟨u,r,.inr ⟨n5,?_⟩⟩
     have nyx:y≠x:=fun z=>(List.nodup_cons.mp B.nd).1 (z ▸ List.mem_of_getElem? e1')
     obtain ⟨c,hcl⟩:=B.has y nyx n5
     refine ⟨c,(by show ((x,C+1) :: cl).lookup y=_; rw [lky y nyx]; exact hcl),?_⟩
     rcases lk with ⟨k1,_⟩ | ⟨_,c',ec',cell⟩
     ·rcases n4 with n4 | n4 <;> (rw [n4] at k1; cases k1)
     ·rw [B.cells y c hcl] at ec'
      cases ec'
      obtain ⟨o,ho,hd⟩:=cell
      exact ⟨o,old c o ho,hd⟩
  ·intro y c e
   rcases lkx y c e with ⟨h1,h2⟩ | ⟨h1,h2⟩
   ·rw [h2]; exact ⟨none,hcl₁⟩
   ·obtain ⟨v,o,ho,hd⟩:=I3.cell y c (B.cells y c h2)
    exact ⟨v,o,old c o ho,hd⟩
  ·exact I3.hok.fresh (show G3.objs.size≤C by lia)
  ·intro y c e
   rcases lkx y c e with ⟨h1,h2⟩ | ⟨h1,h2⟩
   ·rw [h2]; exact I3.hok.fresh (show G3.objs.size≤C+1 by rw [eC]; exact Nat.le_succ _)
   ·exact I3.freeC y c (B.cells y c h2)
  ·intro p hp
   cases hp
  ·show (none :: capσ cap σ).length=(x :: NB).length
   rw [List.length_cons,List.length_cons,← B.len]
   unfold capσ
   rw [List.length_map]
 have fpY:∀ {H':Hp},(∀ b∈fp,H' b=none)→∀ b∈fp,FpOk Y [] H' b:=fun {H'} hn b hb=>by
  refine ⟨hn b hb,?_,fpx b hb,.inl ?_,(fun y c e=>by
   rcases lkx y c e with ⟨h1,h2⟩ | ⟨h1,h2⟩
   ·exact fun z=>Nat.lt_irrefl b (Nat.lt_of_lt_of_le (fpo b hb) (by rw [← z,h2,hC]; exact Nat.le_trans (Nat.le_succ _) (Nat.le_succ _)))
   ·exact (f2 b hb).2.2.2.2.1 y c (B.cells y c h2)),fun p hp=>by cases hp⟩
  ·show b≠C
   exact Nat.ne_of_lt (Nat.lt_of_lt_of_le (fpo b hb) (by rw [hC]; exact Nat.le_succ _))
  ·exact hb
 have st4:tn 0 h₁:=T.keep _ _ _ st2 fun b hb o e=>old b o (old2 b o e)
 have fr4:∀ b∈fp,H3 b=none:=fun b hb=>by
  rw [← eH3,upd_ne (Nat.ne_of_lt (fpo b hb))]; exact (f2 b hb).1
 have leave:∀ (H':Hp) (s':Shared),Inv Y [] (none :: capσ cap σ) H' s'→Q (.ref D) H'→compPost (model X.prog X.w) X.A X.xe use R (.ref D) C (.ok .next) s':=by
  intro H' s' I' q
  obtain ⟨m,hn,_⟩:=id I'.loc
  have u:=I'.base
  have I5:Inv X pins σ H' s':=by
   refine I3.call' (s':=s') (ch:=fp) I'.os u I'.hok I'.bare fun b hb=>?_
   have hb':b∈fp:=hb
   obtain ⟨f0,f1,f2',f3,f4,f5⟩:=f2 b hb'
   exact ⟨f3,f1,f4,f5⟩
  exact fin D C H' s' I5 ⟨⟨m,hn⟩,I3.fpOk (show G3.objs.size≤C by rw [eC]; exact Nat.le_refl _) I'.free⟩ q
 have loop:∀ s₄:Shared,s₄={ s2 with heap:=h₁,toks:=s2.toks } →
   codeAny (model X.prog X.w) X.A (.compLoop (.ListComp elt [⟨.Name x px,iter,ifs,0⟩] scope pos) 0 (.ref it) (.ref D) (compEnvC scope ((x,C+1) :: cl) C X.env)) (compPost (model X.prog X.w) X.A X.xe use R (.ref D) C) s₄:=by
  rintro s₄ rfl
  refine compLoop_own (fun n s'=>∃ i ys H',Inv Y [] (none :: capσ cap σ) H' s'∧tn i s'.heap∧(∀ b∈fp,H' b=none)∧W i n ys H') ?_ m0 ⟨0,[],H3,IY,st4,fr4,w0⟩
  rintro n s3 ⟨i,ys,H',I',st',fr',w'⟩
  obtain ⟨hDl,tr⟩:=turn i n ys H' w'
  rcases tr with ⟨stop,q⟩ | ⟨go,step⟩
  ·refine thn (T.done Y rfl rfl rfl hc i [] s3 _ H' (fun _ _=>False) I' (fpY fr') st' stop) fun r s4 ⟨hr,I4⟩=>?_
   subst hr
   exact leave H' s4 I4 q
  ·refine thn (T.item Y rfl rfl rfl hc i [] s3 _ H' (fun _ _=>False) I' (fpY fr') st' go) fun r s4 ⟨u,hr,h4⟩=>?_
   subst hr
   refine thn h4 fun _ s5 ⟨v,H5,I5,r5,y5,st5,fr5⟩=>?_
   have I5':=I5.pinned (fpY fr5) (T.obj _ _ st5)
   have back:∀ {σ7:St} {H7:Hp} {s7:Shared},Inv Y ([]++pinsAt fp s5.heap) (some v :: capσ cap σ) H7 s7→Inv Y [] (none :: capσ cap σ) H7 s7∧tn (i+1) s7.heap∧∀ b∈fp,H7 b=none:=fun {σ7 H7 s7} I7=>by
    refine ⟨I7.unpinned.weak (by simp) fun j z e=>?_,T.keep _ _ _ st5 fun b hb o e=>(I7.pin (b,o) (List.mem_append_right _ (List.mem_append_right _ (mem_pinsAt hb e)))).1,fun b hb=>?_⟩
    ·cases j with
     | zero=>cases e
     | succ j=>exact e
    ·obtain ⟨o,e,d⟩:=T.obj _ _ st5 b hb
     exact (I7.pin (b,o) (List.mem_append_right _ (List.mem_append_right _ (mem_pinsAt hb e)))).2.1
   have hgN:PG Y (.Name x px) (gName 0):=pg_name (i:=0) B.nd rfl (.inr (lookup_relabel_cell B.own)) (.inl (by show (x == x)=true; simp))
   refine thn (hgN _ s5 _ H5 v u (fun σ6 H6=>σ6=some v :: capσ cap σ∧H6=H5) I5' r5 ⟨rfl,rfl⟩) fun _ s6 ⟨σ6,H6,I6,e6,e6'⟩=>?_
   subst e6 e6'
   refine thn (ht C fp _ _ _ s6 _ H6 _ I6 (step v H6 y5)) fun ok s7 ⟨H7,I7,q7⟩=>?_
   cases ok with
   | false =>
    simp only [Bool.false_eq_true,if_false] at q7 ⊢
    obtain ⟨m',hm,w7⟩:=q7
    obtain ⟨a,b,c⟩:=back (σ7:=[]) I7
    exact ⟨m',hm,i+1,ys,H7,a,b,c,w7⟩
   | true =>
    simp only [if_true] at q7 ⊢
    refine thn (he C fp _ _ _ s7 _ H7 _ I7 q7) fun u8 s8 ⟨v8,H8,I8,r8,q8⟩=>?_
    obtain ⟨d8,l8,m',hm,w8⟩:=q8
    refine thn (mt_append (X:=Y) _ s8 _ H8 (.ref D) [v8] (.ref D) [u8] (fun _ H9=>H9=upd H8 D (.lst (ys++[v8]))) I8 rfl (.cons r8 .nil) ⟨D,ys,v8,rfl,rfl,d8,l8,rfl⟩) fun _ s9 ⟨_,H9,I9,_,e9⟩=>?_
    subst e9
    obtain ⟨a,b,c⟩:=back (σ7:=[]) I9
    exact ⟨m',hm,i+1,ys++[v8],_,a,b,c,w8⟩
 refine codeAny_compStart_list (loop _ ?_) (T.self _ 0 _ _ _ ?_ (loop _ ?_))
 ·rfl
 ·exact st4
 ·rfl
theorem pe_compC {X:Cx} {elt iter:Expr} {x:Str} {px pos:Pos} {ifs:List Expr} {scope:Scope} {cl:List (Str × Addr)} {NB:List Str} {cap:List Nat} {wi:TI} {tt:TT} {te:TE}
  (B:BlkC X scope cl x NB cap) (hc:X.calm=true) (hi:PI X (.Name x px) iter wi)
  (ht:∀ C fp s₀ H₀,PTs (X.blkC x scope cl C (x :: NB) fp s₀ H₀) ifs tt) (he:∀ C fp s₀ H₀,PE (X.blkC x scope cl C (x :: NB) fp s₀ H₀) elt te)
  (hs:∀ v,foldedSetIterable iter X.env v=pure v:=by intro _; rfl):PE X (.ListComp elt [⟨.Name x px,iter,ifs,0⟩] scope pos) (tComp wi tt te cap):=by
 intro pins s σ H Q I h
 rw [eval_ListComp]
 refine comp_coreC (use:=none) (R:=EP X pins σ Q) B hc hi ht he hs I h fun D C H' s' I' G q=>?_
 obtain ⟨m,hn⟩:=G.ns
 obtain ⟨f0,f1,f2,f3,f4,f5⟩:=G.fp
 refine ⟨m,hn,fun h' hs'=>⟨.ref D,H',?_,rfl,q⟩⟩
 exact I'.turned (t':=s'.toks) (fun b o hb e=>(hs'.2 b hb).trans e) f0 f1 f3 f4 f5
theorem qe_compC {X:Cx} {elt iter:Expr} {x:Str} {px pos:Pos} {ifs:List Expr} {scope:Scope} {cl:List (Str × Addr)} {NB:List Str} {cap:List Nat} {wi:TI} {tt:TT} {te:TE}
  (B:BlkC X scope cl x NB cap) (hc:X.calm=true) (hi:QI X (.Name x px) iter wi)
  (ht:∀ C fp s₀ H₀,QTs (X.blkC x scope cl C (x :: NB) fp s₀ H₀) ifs tt) (he:∀ C fp s₀ H₀,QE (X.blkC x scope cl C (x :: NB) fp s₀ H₀) elt te)
  (hs:∀ v,foldedSetIterable iter X.env v=pure v:=by intro _; rfl):QE X (.ListComp elt [⟨.Name x px,iter,ifs,0⟩] scope pos) (tComp wi tt te cap) :=
 .mk (pe_compC B hc hi.to (fun C fp s₀ H₀=>(ht C fp s₀ H₀).to) (fun C fp s₀ H₀=>(he C fp s₀ H₀).to) hs)
theorem relabel_kindC {env:Env} {x:Str}:∀ {names:List (Str × NameKind)} {y:Str} {k:NameKind},
  (names.map fun (n,k)=>if (k == NameKind.free && env.scope.kind == .function && env.kindOf n == some .cell) then (n,NameKind.cell) else (n,k)).lookup y=some k→(k=.cell∨k=.free)→y≠x→(∀ z∈names,z.2=.cell→z.1=x)→(y,NameKind.free)∈names
 | [],y,k,h,_,_,_=>by cases h
 | (n,k0) :: r,y,k,h,hk,hy,hn=>by
  rw [List.map_cons] at h
  dsimp only at h
  by_cases hc:(k0 == NameKind.free && env.scope.kind == .function && env.kindOf n == some .cell)=true
  ·rw [if_pos hc,List.lookup_cons] at h
   have hf:k0=.free:=by
    rw [Bool.and_eq_true,Bool.and_eq_true] at hc
    simpa using hc.1.1
   cases e:y == n with
   | true =>
    have e':y=n:=by simpa using e
    subst e'; subst hf
    exact List.mem_cons_self
   | false =>
    rw [e] at h
    exact List.mem_cons_of_mem _ (relabel_kindC h hk hy fun z hz=>hn z (List.mem_cons_of_mem _ hz))
  ·rw [if_neg hc,List.lookup_cons] at h
   cases e:y == n with
   | true =>
    have e':y=n:=by simpa using e
    subst e'
    rw [e] at h
    have e2:k0=k:=Option.some.inj h
    rcases hk with z | z
    ·exact absurd (hn (y,k0) List.mem_cons_self (e2.trans z)) hy
    ·rw [z] at e2; rw [e2]; exact List.mem_cons_self
   | false =>
    rw [e] at h
    exact List.mem_cons_of_mem _ (relabel_kindC h hk hy fun z hz=>hn z (List.mem_cons_of_mem _ hz))
theorem BlkC.of {X:Cx} {scope esc:Scope} {x:Str} {N NB:List Str} {cap:List Nat} (eN:X.N=N) (eS:X.env.scope=esc) (hX:∀ y,esc.names.lookup y=some .cell→∃ c,X.env.cells.lookup y=some c)
  (hk:scope.kind=.function) (h0:scope.names.filter (fun y=>y.2 == .cell)=[(x,.cell)]) (h1:∀ y∈scope.names,y.2=.cell→y.1=x) (h2:∀ y∈scope.names,y.2=.local→scope.names.lookup y.1=some .local) (h3:∀ y∈scope.names,y.2=.free→esc.names.lookup y.1=some .cell)
  (hl:cap.length=NB.length) (h4:∀ p∈NB.zip cap,N[p.2]?=some p.1∧esc.names.lookup p.1=some .cell∧scope.names.lookup p.1=some .free) (h5:scope.names.lookup x=some .cell) (nd:(x :: NB).Nodup) :
  BlkC X scope (clOf scope X.env) x NB cap:=by
 have hfr:∀ n∈freesOf scope.names,∃ c,X.env.cells.lookup n=some c:=fun n hn=>hX n (h3 _ (of_frees hn) rfl)
 refine ⟨closure_eq scope X.env hfr,h0,hk,h2,fun y c e=>?_,fun y ny e=>?_,hl,fun j i e=>?_,h5,nd⟩
 ·unfold clOf at e
  obtain ⟨m,q⟩:=lookup_map e
  obtain ⟨c',hc⟩:=hfr y (List.mem_reverse.mp m)
  rw [hc] at q
  rw [hc,q]; rfl
 ·have hm:(y,NameKind.free)∈scope.names:=by
   rcases e with e | e
   ·exact relabel_kindC e (.inl rfl) ny h1
   ·exact relabel_kindC e (.inr rfl) ny h1
  exact ⟨_,lookup_map_mem (List.mem_reverse.mpr (mem_frees hm))⟩
 ·have hj:j < cap.length:=(List.getElem?_eq_some_iff.mp e).1
  have hj2:j < NB.length:=by lia
  have ey:NB[j]?=some NB[j]:=List.getElem?_eq_getElem hj2
  have ez:(NB.zip cap)[j]?=some (NB[j],i):=by rw [List.getElem?_zip_eq_some]; exact ⟨ey,e⟩
  obtain ⟨a1,a2,a3⟩:=h4 _ (List.mem_of_getElem? ez)
  refine ⟨NB[j],ey,by rw [eN]; exact a1,.inr (.inl (by rw [eS]; exact a2)),.inl (by show X.env.scope.names.lookup _=_; rw [eS]; exact a2),?_⟩
  exact relabel_free a3
theorem Blk.ofC {X:Cx} {sc1 scope esc0:Scope} {cl1:List (Str × Addr)} {C1:Addr} {fp:List Addr} {s₀:Shared} {H₀:Hp} {x1 x:Str} {NB1 NB:List Str} {cap1 cap:List Nat} (B1:BlkC X sc1 cl1 x1 NB1 cap1) (eS:X.env.scope=esc0)
  (hk:scope.kind=.function) (h1:∀ y∈scope.names,y.2≠.cell) (h2:∀ y∈scope.names,y.2=.local→scope.names.lookup y.1=some .local) (h3:∀ y∈scope.names,y.2=.free→(relS sc1 esc0).names.lookup y.1=some .cell)
  (hl:cap.length=NB.length) (h4:∀ p∈NB.zip cap,(x1 :: NB1)[p.2]?=some p.1∧(relS sc1 esc0).names.lookup p.1=some .cell∧scope.names.lookup p.1=some .free) (h5:scope.names.lookup x=some .local) (nd:(x :: NB).Nodup) :
  Blk (X.blkC x1 sc1 cl1 C1 (x1 :: NB1) fp s₀ H₀) scope (clOf scope (compEnvC sc1 ((x1,C1+1) :: cl1) C1 X.env)) x NB cap:=by
 have e:(X.blkC x1 sc1 cl1 C1 (x1 :: NB1) fp s₀ H₀).env.scope=relS sc1 esc0:=by rw [← eS]; rfl
 refine Blk.of (N:=x1 :: NB1) rfl e (fun y hy=>?_) hk h1 h2 h3 hl h4 h5 nd
 show ∃ c,((x1,C1+1) :: cl1).lookup y=some c
 rw [List.lookup_cons]
 cases q:y == x1 with
 | true=>exact ⟨_,rfl⟩
 | false=>exact B1.has y (by simpa using q) (.inl (by rw [← e] at hy; exact hy))
end L2
end
section
namespace Kx
open PySem L2
def top (i:Nat):Stmt:=PySem.Challenge.pw_lategone_k29_whole_shares_sort.main.body.getD i (.Pass ⟨0,0,0,0⟩)
end Kx
end
section
namespace Kx
open PySem L2
section
variable {P:Program} {w:World} {K:PySem.W.Frag} {mg:Str→Option Value} {base:Heap}
open Hm
abbrev sExch:Stmt:=top 13
theorem scExch:FnScope ["heap","place","other","held"] ["heap","place","other"] (defScope sExch):=⟨rfl,rfl,rfl,(by simp only [List.nodup_cons,List.mem_cons,List.not_mem_nil,or_false,not_or,List.nodup_nil,and_true,not_false_eq_true]; (repeat' apply And.intro); all_goals decide +kernel),rfl,by decide +kernel,by decide +kernel⟩
def spExch:Sp:=fun vs H Q _=>∃ (r:Addr) (xs:List V) (i j:Nat),vs=[.ref r,.int i,.int j]∧H r=some (.lst xs)∧i < xs.length∧j < xs.length∧Q .non (upd H r (.lst (sw xs i j)))
theorem ok_exchH {f:Addr} {fd:FuncData} (F:Fun K "exchange" "exchange" sExch f fd) (T:Bl mg):FnOkH P w K mg base CX0 1 f fd ["heap","place","other"] spExch:=by
 have sc:=scExch
 refine F.okH scExch (fun vs H Q E h=>?_) (fun cdv A outer s H vs Q E pn hr hh h=>?_)
 ·obtain ⟨r,xs,i,j,rfl,_⟩:=h
  rfl
 ·obtain ⟨r,xs,i,j,rfl,hx,hi,hj,k⟩:=h
  have hu:=hr.units0
  refine ⟨_,((qss_cons (qs_set (i:=3) sc.nd rfl (Or.inl rfl) (qe_ix ix_list (qv 0) (qv 1) (fun _ _=>rfl)))
   (qss_cons (qs_asg (qe_ix ix_list (qv 0) (qv 2) (fun _ _=>rfl)) (qg_sub (qv 0) (qv 1) set_list))
   (qss_one (qs_asg (qv 3) (qg_sub (qv 0) (qv 2) set_list)))))),?_⟩
  refine ⟨_,rfl,_,rfl,r,_,_,_,rfl,rfl,SqL.of hx,at_g hi,?_⟩
  refine ⟨_,rfl,_,rfl,r,_,_,_,rfl,rfl,SqL.of hx,at_g hj,?_⟩
  refine ⟨_,rfl,_,rfl,r,xs,_,i,rfl,rfl,hx,ixN_ok (by lia) (by lia),?_⟩
  refine ⟨_,rfl,_,rfl,_,rfl,r,_,_,j,rfl,rfl,upd_same,ixN_ok (by lia) (by rw [List.length_set]; lia),?_⟩
  rw [upd_upd]
  exact k
end
end Kx
end
section
namespace Kx
open PySem L2
section
variable {P:Program} {w:World} {K:PySem.W.Frag} {mg:Str→Option Value} {base:Heap}
open Hm
abbrev sLift:Stmt:=top 11
theorem scLift:FnScope ["heap","start","place","looks","above"] ["heap","start"] (defScope sLift):=⟨rfl,rfl,rfl,(by simp only [List.nodup_cons,List.mem_cons,List.not_mem_nil,or_false,not_or,List.nodup_nil,and_true,not_false_eq_true]; (repeat' apply And.intro); all_goals decide +kernel),rfl,by decide +kernel,by decide +kernel⟩
def spLift:Sp:=fun vs H Q _=>∃ (r:Addr) (xs:List V) (a:Nat) (t:V→List V),vs=[.ref r,.int a]∧H r=some (.lst xs)∧EnR t H xs∧a < xs.length∧xs.length≤1100 ∧
 ∀ H',H' r=some (.lst (up (ltT t) a xs a 0).1)→(∀ b o,H b=some o→b≠r→H' b=some o)→Q (.int (up (ltT t) a xs a 0).2) H'
theorem ok_lift {f fe:Addr} {fd fde:FuncData} (F:Fun K "lift" "lift" sLift f fd) (T:Bl mg) (Gexchange:FnOk P w K mg base CX0 1 fe fde ["heap","place","other"] spExch) (Dexchange:Nm K mg "exchange" fe fde ["heap","place","other"]) :
  FnOk P w K mg base CX0 2 f fd ["heap","start"] spLift:=by
 have sc:=scLift
 refine F.ok scLift (fun vs H Q E h=>?_) (fun cdv A outer s H vs Q E hr h=>?_)
 ·obtain ⟨r,xs,a,t,rfl,_⟩:=h
  rfl
 ·obtain ⟨r,xs,a,t,rfl,hx,en,ha,hl,k⟩:=h
  have hu:=hr.units0
  refine ⟨_,(QSs.to (qss_cons (qs_set (i:=2) sc.nd rfl (Or.inl rfl) (qv 1))
   (qss_cons (qs_set (i:=3) sc.nd rfl (Or.inl rfl) qe_int)
   (qss_cons (qs_while PassesOwn.never (qt_cmpR op_gt (qv 2) qe_int (nomark _)) (qss_cons (qs_set (i:=4) sc.nd rfl (Or.inl rfl) (qe_op op_fdivB (qe_op op_sub (qv 2) qe_int) qe_int))
   (qss_cons (qs_set (i:=3) sc.nd rfl (Or.inl rfl) (qe_op op_add (qv 3) qe_int))
   (qss_cons (qs_if (qt_not (qt_cmpR (op_ltV hu) (qe_ix ix_list (qv 0) (qv 2) (fun _ _=>rfl)) (qe_ix ix_list (qv 0) (qv 4) (fun _ _=>rfl)) (nomark _))) (qss_one (qs_ret (qv 3))) qss_nil)
   (qss_cons (qs_expr (qe_call Gexchange (hr.mono (by decide)) rfl Dexchange.m Dexchange.k Dexchange.b .nil pass0 (qa_cons (qv 0) (qa_cons (qv 2) (qa_cons (qv 4) qa_nil)))))
   (qss_one (qs_set (i:=2) sc.nd rfl (Or.inl rfl) (qv 4))))))))
   (qss_one (qs_ret (qv 3))))))),?_⟩
  refine ⟨_,rfl,?_⟩
  refine ⟨fun m σ H2=>∃ (f p lk:Nat) (bl:Option V) (ys:List V),σ=[some (.ref r),some (.int a),some (.int p),some (.int lk),bl]∧up (ltT t) f ys p lk=up (ltT t) a xs a 0∧p≤f∧p < ys.length∧H2 r=some (.lst ys)∧ys.length=xs.length∧(∀ y∈ys,y∈xs)∧(∀ b o,H b=some o→b≠r→H2 b=some o)∧m=p,
   ⟨_,a,a,0,none,xs,rfl,rfl,Nat.le_refl _,ha,hx,rfl,fun y h=>h,fun b o e _=>e,rfl⟩,?_⟩
  rintro p σ H2 ⟨f,p',lk,bl,ys,rfl,hd,hf,hp,h2,l2,s2,f2,rfl⟩
  have en2:EnR t H2 ys:=(en.bar hx f2).sub s2
  refine ⟨_,rfl,_,_,rfl,rfl,_,rfl,ite2 (fun c1=>?_) (fun c1=>⟨_,rfl,?_⟩)⟩
  rotate_left
  ·have c1':¬ (p:Int) > 0:=by simpa using c1
   rw [up_stop (by lia)] at hd
   have:=k H2
   rw [← hd] at this
   exact this h2 f2
  have c1':(p:Int) > 0:=by simpa using c1
  obtain ⟨f,rfl⟩:∃ f0,f=f0+1:=⟨f - 1,by lia⟩
  refine ⟨fun σ' H'=>∃ m',m' < p∧∃ (f p lk:Nat) (bl:Option V) (ys:List V),σ'=[some (.ref r),some (.int a),some (.int p),some (.int lk),bl]∧up (ltT t) f ys p lk=up (ltT t) a xs a 0∧p≤f∧p < ys.length∧H' r=some (.lst ys)∧ys.length=xs.length∧(∀ y∈ys,y∈xs)∧(∀ b o,H b=some o→b≠r→H' b=some o)∧m'=p,fun σ' H' z=>z,?_⟩
  refine ⟨_,rfl,_,_,rfl,rfl,_,_,rfl,rfl,⟨by decide,by decide⟩,?_⟩
  refine ⟨_,rfl,_,_,rfl,rfl,?_⟩
  have hq:(p - 1) / 2 < ys.length:=by lia
  have ea:((p:Int) - 1) / 2=(((p - 1) / 2:Nat):Int):=by lia
  obtain ⟨b1,e1,g1,m1,t1⟩:=en2.gat hp
  obtain ⟨b2,e2,g2,m2,t2⟩:=en2.gat hq
  rw [e1] at t1
  rw [e2,← ea] at t2
  refine ⟨_,rfl,_,rfl,r,_,_,_,rfl,rfl,SqL.of h2,t1,_,rfl,_,rfl,r,_,_,_,rfl,rfl,SqL.of h2,t2,b1,b2,_,_,rfl,rfl,SqT.of g1,SqT.of g2,en2.fit _ _,_,rfl,ite2 (fun c3=>?_) (fun c3=>?_)⟩
  ·have q3:ltT t (g ys p) (g ys ((p - 1) / 2))=false:=by
    cases q:ltT t (g ys p) (g ys ((p - 1) / 2)) with
    | false=>rfl
    | true=>have c4:=(show (!ltT t (g ys p) (g ys ((p - 1) / 2)))=true from c3); rw [q] at c4; cases c4
   refine ⟨_,rfl,?_⟩
   rw [up_stay (by lia) q3] at hd
   have:=k H2
   rw [← hd] at this
   exact this h2 f2
  ·have q3:ltT t (g ys p) (g ys ((p - 1) / 2))=true:=by
    cases q:ltT t (g ys p) (g ys ((p - 1) / 2)) with
    | true=>rfl
    | false=>exact absurd (show (!ltT t (g ys p) (g ys ((p - 1) / 2)))=true by rw [q]; rfl) c3
   rw [up_go (by lia) q3] at hd
   refine ⟨_,rfl,_,rfl,_,rfl,r,ys,p,(p - 1) / 2,(by show [V.ref r,V.int (p:Int),V.int (((p:Int) - 1) / 2)]=[V.ref r,V.int (p:Int),V.int ((((p - 1) / 2:Nat)):Int)]; rw [ea]),h2,hp,hq,?_⟩
   refine ⟨_,rfl,(p - 1) / 2,by lia,f,(p - 1) / 2,lk+1,some (.int ((((p - 1) / 2:Nat)):Int)),sw ys p ((p - 1) / 2),(by show [some (V.ref r),some (V.int a),some (V.int (((p:Int) - 1) / 2)),some (V.int ((lk:Int)+1)),some (V.int (((p:Int) - 1) / 2))]=_; rw [ea]; rfl),hd,by lia,by rw [sw_len]; exact hq,upd_same,by rw [sw_len]; exact l2,fun y hy=>s2 y (sw_mem hp hq y hy),fun b o e nb=>by rw [upd_ne nb]; exact f2 b o e nb,rfl⟩
end
end Kx
end
section
namespace Kx
open PySem L2
section
variable {P:Program} {w:World} {K:PySem.W.Frag} {mg:Str→Option Value} {base:Heap}
open Hm
abbrev sLay:Stmt:=top 8
theorem scLay:FnScope ["heap","entry"] ["heap","entry"] (defScope sLay):=⟨rfl,rfl,rfl,(by simp only [List.nodup_cons,List.mem_cons,List.not_mem_nil,or_false,not_or,List.nodup_nil,and_true,not_false_eq_true]; (repeat' apply And.intro); all_goals decide +kernel),rfl,by decide +kernel,by decide +kernel⟩
def spLay:Sp:=fun vs H Q _=>∃ (r:Addr) (xs:List V) (e:V) (t:V→List V),vs=[.ref r,e]∧H r=some (.lst xs)∧EnR t H (xs++[e])∧xs.length≤1000 ∧
 ∀ H',H' r=some (.lst (up (ltT t) xs.length (xs++[e]) xs.length 0).1)→(∀ b o,H b=some o→b≠r→H' b=some o)→Q (.int (up (ltT t) xs.length (xs++[e]) xs.length 0).2) H'
theorem ok_lay {f fe:Addr} {fd fde:FuncData} (F:Fun K "lay_in" "lay_in" sLay f fd) (T:Bl mg) (Glift:FnOk P w K mg base CX0 2 fe fde ["heap","start"] spLift) (Dlift:Nm K mg "lift" fe fde ["heap","start"]) :
  FnOk P w K mg base CX0 3 f fd ["heap","entry"] spLay:=by
 have sc:=scLay
 refine F.ok scLay (fun vs H Q E h=>?_) (fun cdv A outer s H vs Q E hr h=>?_)
 ·obtain ⟨r,xs,e,t,rfl,_⟩:=h
  rfl
 ·obtain ⟨r,xs,e,t,rfl,hx,en,hl,k⟩:=h
  have hu:=hr.units0
  refine ⟨_,(QSs.to (qss_cons (qs_expr (qe_bm PySem.F.plainAttrs_list PySem.F.slot_list_append PySem.F.type_list_append mt_append (qv 0) (qa_cons (qv 1) qa_nil)))
   (qss_one (qs_ret (qe_call Glift (hr.mono (by decide)) rfl Dlift.m Dlift.k Dlift.b .nil pass0 (qa_cons (qv 0) (qa_cons (qe_op op_sub (qe_callB call_len_seq (by rfl) T.z_len (by decide +kernel) (qa_cons (qv 0) qa_nil)) qe_int) qa_nil))))))),?_⟩
  refine ⟨_,rfl,.inl ⟨rfl,_,SqL.of hx⟩,_,rfl,r,xs,e,rfl,rfl,hx,Nat.lt_of_le_of_lt hl (by decide),?_⟩
  have l1:(xs++[e]).length=xs.length+1:=by rw [List.length_append]; rfl
  refine ⟨_,rfl,_,rfl,r,_,rfl,.inl (SqL.of upd_same),_,_,rfl,rfl,r,xs++[e],xs.length,t,?_,upd_same,en.put hx,by lia,by lia,fun H' h' f'=>k H' h' fun b o q nb=>f' b o (by rw [upd_ne nb]; exact q) nb⟩
  rw [l1]
  show [V.ref r,V.int (((xs.length+1:Nat):Int) - 1)]=_
  rw [show ((xs.length+1:Nat):Int) - 1=(xs.length:Int) by lia]
end
end Kx
end
section
namespace Kx
open PySem L2
section
variable {P:Program} {w:World} {K:PySem.W.Frag} {mg:Str→Option Value} {base:Heap}
open Hm
abbrev sLetDown:Stmt:=top 12
theorem scLetDown:FnScope ["heap","start","place","looks","beneath"] ["heap","start"] (defScope sLetDown):=⟨rfl,rfl,rfl,(by simp only [List.nodup_cons,List.mem_cons,List.not_mem_nil,or_false,not_or,List.nodup_nil,and_true,not_false_eq_true]; (repeat' apply And.intro); all_goals decide +kernel),rfl,by decide +kernel,by decide +kernel⟩
def spLetDown:Sp:=fun vs H Q _=>∃ (r:Addr) (xs:List V) (a:Nat) (t:V→List V),vs=[.ref r,.int a]∧H r=some (.lst xs)∧EnR t H xs∧xs.length≤1000 ∧
 ∀ H',H' r=some (.lst (dn (ltT t) xs.length xs a 0).1)→(∀ b o,H b=some o→b≠r→H' b=some o)→Q (.int (dn (ltT t) xs.length xs a 0).2) H'
theorem ok_letdownH {f fe:Addr} {fd fde:FuncData} (F:Fun K "let_down" "let_down" sLetDown f fd) (T:Bl mg) (Gexchange:FnOkH P w K mg base CX0 1 fe fde ["heap","place","other"] spExch) (Dexchange:Nm K mg "exchange" fe fde ["heap","place","other"]) :
  FnOkH P w K mg base CX0 2 f fd ["heap","start"] spLetDown:=by
 have sc:=scLetDown
 refine F.okH scLetDown (fun vs H Q E h=>?_) (fun cdv A outer s H vs Q E pn hr hh h=>?_)
 ·obtain ⟨r,xs,a,t,rfl,_⟩:=h
  rfl
 ·obtain ⟨r,xs,a,t,rfl,hx,en,hl,k⟩:=h
  have hu:=hr.units0
  refine ⟨_,((qss_cons (qs_set (i:=2) sc.nd rfl (Or.inl rfl) (qv 1))
   (qss_cons (qs_set (i:=3) sc.nd rfl (Or.inl rfl) qe_int)
   (qss_cons (qs_while PassesOwn.never (qt_cmpR op_lt (qe_op op_add (qe_op op_mul qe_int (qv 2)) qe_int) (qe_callB call_len_seq (by rfl) T.z_len (by decide +kernel) (qa_cons (qv 0) qa_nil)) (nomark _)) (qss_cons (qs_set (i:=4) sc.nd rfl (Or.inl rfl) (qe_op op_add (qe_op op_mul qe_int (qv 2)) qe_int))
   (qss_cons (qs_if (qt_cmpR op_lt (qe_op op_add (qv 4) qe_int) (qe_callB call_len_seq (by rfl) T.z_len (by decide +kernel) (qa_cons (qv 0) qa_nil)) (nomark _)) (qss_cons (qs_set (i:=3) sc.nd rfl (Or.inl rfl) (qe_op op_add (qv 3) qe_int))
   (qss_one (qs_if (qt_cmpR (op_ltV hu) (qe_ix ix_list (qv 0) (qe_op op_add (qv 4) qe_int) (fun _ _=>rfl)) (qe_ix ix_list (qv 0) (qv 4) (fun _ _=>rfl)) (nomark _)) (qss_one (qs_set (i:=4) sc.nd rfl (Or.inl rfl) (qe_op op_add (qv 4) qe_int))) qss_nil))) qss_nil)
   (qss_cons (qs_set (i:=3) sc.nd rfl (Or.inl rfl) (qe_op op_add (qv 3) qe_int))
   (qss_cons (qs_if (qt_not (qt_cmpR (op_ltV hu) (qe_ix ix_list (qv 0) (qv 4) (fun _ _=>rfl)) (qe_ix ix_list (qv 0) (qv 2) (fun _ _=>rfl)) (nomark _))) (qss_one (qs_ret (qv 3))) qss_nil)
   (qss_cons (qs_expr (qe_callH Gexchange (hr.mono (by decide)) hh rfl Dexchange.m Dexchange.k Dexchange.b .nil pass0 (qa_cons (qv 0) (qa_cons (qv 2) (qa_cons (qv 4) qa_nil)))))
   (qss_one (qs_set (i:=2) sc.nd rfl (Or.inl rfl) (qv 4)))))))))
   (qss_one (qs_ret (qv 3))))))),?_⟩
  refine ⟨_,rfl,?_⟩
  refine ⟨fun m σ H2=>∃ (f p lk:Nat) (bl:Option V) (ys:List V),σ=[some (.ref r),some (.int a),some (.int p),some (.int lk),bl]∧dn (ltT t) f ys p lk=dn (ltT t) xs.length xs a 0∧ys.length≤p+f∧H2 r=some (.lst ys)∧ys.length=xs.length∧(∀ y∈ys,y∈xs)∧(∀ b o,H b=some o→b≠r→H2 b=some o)∧m=ys.length - p,
   ⟨_,xs.length,a,0,none,xs,rfl,rfl,by lia,hx,rfl,fun y h=>h,fun b o e _=>e,rfl⟩,?_⟩
  rintro m σ H2 ⟨f,p,lk,bl,ys,rfl,hd,hf,h2,l2,s2,f2,rfl⟩
  have en2:EnR t H2 ys:=(en.bar hx f2).sub s2
  refine ⟨_,rfl,_,_,rfl,rfl,.inl ⟨by decide,by decide⟩,_,_,rfl,rfl,_,rfl,r,_,rfl,.inl (SqL.of h2),_,_,rfl,rfl,_,rfl,ite2 (fun c1=>?_) (fun c1=>⟨_,rfl,?_⟩)⟩
  rotate_left
  ·have c1':¬ 2 * (p:Int)+1 < (ys.length:Int):=by simpa using c1
   rw [dn_stop (by lia)] at hd
   have:=k H2
   rw [← hd] at this
   exact this h2 f2
  have c1':2 * (p:Int)+1 < (ys.length:Int):=by simpa using c1
  refine ⟨fun σ' H'=>∃ m',m' < ys.length - p∧∃ (f p lk:Nat) (bl:Option V) (zs:List V),σ'=[some (.ref r),some (.int a),some (.int p),some (.int lk),bl]∧dn (ltT t) f zs p lk=dn (ltT t) xs.length xs a 0∧zs.length≤p+f∧H' r=some (.lst zs)∧zs.length=xs.length∧(∀ y∈zs,y∈xs)∧(∀ b o,H b=some o→b≠r→H' b=some o)∧m'=zs.length - p,fun σ' H' z=>z,?_⟩
  refine ⟨_,rfl,_,_,rfl,rfl,.inl ⟨by decide,by decide⟩,_,_,rfl,rfl,?_⟩
  refine ⟨_,rfl,_,_,rfl,rfl,_,rfl,r,_,rfl,.inl (SqL.of h2),_,_,rfl,rfl,_,rfl,ite2 (fun c2=>?_) (fun c2=>?_)⟩
  ·have c2':2 * (p:Int)+1+1 < (ys.length:Int):=by simpa using c2
   refine ⟨_,rfl,_,_,rfl,rfl,?_⟩
   obtain ⟨b3,e3,g3,m3,t3⟩:=en2.gat (show 2 * p+2 < ys.length by lia)
   obtain ⟨b4,e4,g4,m4,t4⟩:=en2.gat (show 2 * p+1 < ys.length by lia)
   rw [e3,show ((2 * p+2:Nat):Int)=2 * (p:Int)+1+1 by lia] at t3
   rw [e4,show ((2 * p+1:Nat):Int)=2 * (p:Int)+1 by lia] at t4
   have kidsE:kids ys.length p=2:=by unfold kids; rw [if_pos (by lia)]
   have hB2:=les_two (lt:=ltT t) (xs:=ys) (p:=p) (by lia)
   refine ⟨_,rfl,_,rfl,_,_,rfl,rfl,r,_,_,_,rfl,rfl,SqL.of h2,t3,_,rfl,_,rfl,r,_,_,_,rfl,rfl,SqL.of h2,t4,b3,b4,_,_,rfl,rfl,SqT.of g3,SqT.of g4,en2.fit _ _,_,rfl,ite2 (fun c4=>?_) (fun c4=>?_)⟩
   ·refine ⟨_,rfl,_,_,rfl,rfl,?_⟩
    have hB:2 * (p:Int)+1+1=((les (ltT t) ys p:Nat):Int):=by rw [hB2,if_pos (show ltT t (g ys (2 * p+2)) (g ys (2 * p+1))=true from c4)]
    have hles:les (ltT t) ys p < ys.length:=les_lt (by lia)
    have lo:=les_lo (lt:=ltT t) (xs:=ys) (p:=p)
    refine ⟨_,rfl,_,_,rfl,rfl,?_⟩
    obtain ⟨b1,e1,g1,m1,t1⟩:=en2.gat hles
    obtain ⟨b2,e2,g2,m2,t2⟩:=en2.gat (show p < ys.length by lia)
    rw [e1] at t1
    rw [e2] at t2
    rw [← hB] at t1
    refine ⟨_,rfl,_,rfl,r,_,_,_,rfl,rfl,SqL.of h2,t1,_,rfl,_,rfl,r,_,_,_,rfl,rfl,SqL.of h2,t2,b1,b2,_,_,rfl,rfl,SqT.of g1,SqT.of g2,en2.fit _ _,_,rfl,ite2 (fun c3=>?_) (fun c3=>?_)⟩
    ·have q3:ltT t (g ys (les (ltT t) ys p)) (g ys p)=false:=by
      cases q:ltT t (g ys (les (ltT t) ys p)) (g ys p) with
      | false=>rfl
      | true=>have c4:=(show (!ltT t (g ys (les (ltT t) ys p)) (g ys p))=true from c3); rw [q] at c4; cases c4
     refine ⟨_,rfl,?_⟩
     obtain ⟨f,rfl⟩:∃ f0,f=f0+1:=⟨f - 1,by lia⟩
     rw [dn_stay (by lia) q3,kidsE] at hd
     have:=k H2
     rw [← hd] at this
     have ez:((lk:Int)+1+1)=((lk+2:Nat):Int):=by lia
     show Q (.int ((lk:Int)+1+1)) H2
     rw [ez]
     exact this h2 f2
    ·have q3:ltT t (g ys (les (ltT t) ys p)) (g ys p)=true:=by
      cases q:ltT t (g ys (les (ltT t) ys p)) (g ys p) with
      | true=>rfl
      | false=>exact absurd (show (!ltT t (g ys (les (ltT t) ys p)) (g ys p))=true by rw [q]; rfl) c3
     obtain ⟨f,rfl⟩:∃ f0,f=f0+1:=⟨f - 1,by lia⟩
     rw [dn_go (by lia) q3,kidsE] at hd
     refine ⟨_,rfl,_,rfl,_,rfl,r,ys,p,les (ltT t) ys p,(by show [V.ref r,V.int (p:Int),V.int (2 * (p:Int)+1+1)]=_; rw [hB]),h2,by lia,hles,?_⟩
     refine ⟨_,rfl,ys.length - les (ltT t) ys p,by lia,f,les (ltT t) ys p,lk+2,some (.int (2 * (p:Int)+1+1)),sw ys p (les (ltT t) ys p),?_,hd,by rw [sw_len]; lia,upd_same,by rw [sw_len]; exact l2,fun y hy=>s2 y (sw_mem (by lia) hles y hy),fun b o e nb=>by rw [upd_ne nb]; exact f2 b o e nb,by rw [sw_len]⟩
     have ez:((lk:Int)+1+1)=((lk+2:Nat):Int):=by lia
     show [some (V.ref r),some (V.int a),some (V.int (2 * (p:Int)+1+1)),some (V.int ((lk:Int)+1+1)),some (V.int (2 * (p:Int)+1+1))]=_
     rw [ez,hB]
   ·have hB:2 * (p:Int)+1=((les (ltT t) ys p:Nat):Int):=by rw [hB2,if_neg (show ¬ ltT t (g ys (2 * p+2)) (g ys (2 * p+1))=true from c4)]; lia
    have hles:les (ltT t) ys p < ys.length:=les_lt (by lia)
    have lo:=les_lo (lt:=ltT t) (xs:=ys) (p:=p)
    refine ⟨_,rfl,_,_,rfl,rfl,?_⟩
    obtain ⟨b1,e1,g1,m1,t1⟩:=en2.gat hles
    obtain ⟨b2,e2,g2,m2,t2⟩:=en2.gat (show p < ys.length by lia)
    rw [e1] at t1
    rw [e2] at t2
    rw [← hB] at t1
    refine ⟨_,rfl,_,rfl,r,_,_,_,rfl,rfl,SqL.of h2,t1,_,rfl,_,rfl,r,_,_,_,rfl,rfl,SqL.of h2,t2,b1,b2,_,_,rfl,rfl,SqT.of g1,SqT.of g2,en2.fit _ _,_,rfl,ite2 (fun c3=>?_) (fun c3=>?_)⟩
    ·have q3:ltT t (g ys (les (ltT t) ys p)) (g ys p)=false:=by
      cases q:ltT t (g ys (les (ltT t) ys p)) (g ys p) with
      | false=>rfl
      | true=>have c4:=(show (!ltT t (g ys (les (ltT t) ys p)) (g ys p))=true from c3); rw [q] at c4; cases c4
     refine ⟨_,rfl,?_⟩
     obtain ⟨f,rfl⟩:∃ f0,f=f0+1:=⟨f - 1,by lia⟩
     rw [dn_stay (by lia) q3,kidsE] at hd
     have:=k H2
     rw [← hd] at this
     have ez:((lk:Int)+1+1)=((lk+2:Nat):Int):=by lia
     show Q (.int ((lk:Int)+1+1)) H2
     rw [ez]
     exact this h2 f2
    ·have q3:ltT t (g ys (les (ltT t) ys p)) (g ys p)=true:=by
      cases q:ltT t (g ys (les (ltT t) ys p)) (g ys p) with
      | true=>rfl
      | false=>exact absurd (show (!ltT t (g ys (les (ltT t) ys p)) (g ys p))=true by rw [q]; rfl) c3
     obtain ⟨f,rfl⟩:∃ f0,f=f0+1:=⟨f - 1,by lia⟩
     rw [dn_go (by lia) q3,kidsE] at hd
     refine ⟨_,rfl,_,rfl,_,rfl,r,ys,p,les (ltT t) ys p,(by show [V.ref r,V.int (p:Int),V.int (2 * (p:Int)+1)]=_; rw [hB]),h2,by lia,hles,?_⟩
     refine ⟨_,rfl,ys.length - les (ltT t) ys p,by lia,f,les (ltT t) ys p,lk+2,some (.int (2 * (p:Int)+1)),sw ys p (les (ltT t) ys p),?_,hd,by rw [sw_len]; lia,upd_same,by rw [sw_len]; exact l2,fun y hy=>s2 y (sw_mem (by lia) hles y hy),fun b o e nb=>by rw [upd_ne nb]; exact f2 b o e nb,by rw [sw_len]⟩
     have ez:((lk:Int)+1+1)=((lk+2:Nat):Int):=by lia
     show [some (V.ref r),some (V.int a),some (V.int (2 * (p:Int)+1)),some (V.int ((lk:Int)+1+1)),some (V.int (2 * (p:Int)+1))]=_
     rw [ez,hB]
  ·have c2':¬ 2 * (p:Int)+1+1 < (ys.length:Int):=by simpa using c2
   have hB:2 * (p:Int)+1=((les (ltT t) ys p:Nat):Int):=by rw [les_one (by lia)]; lia
   have kidsE:kids ys.length p=1:=by unfold kids; rw [if_neg (by lia),if_pos (by lia)]
   have hles:les (ltT t) ys p < ys.length:=les_lt (by lia)
   have lo:=les_lo (lt:=ltT t) (xs:=ys) (p:=p)
   refine ⟨_,rfl,_,_,rfl,rfl,?_⟩
   obtain ⟨b1,e1,g1,m1,t1⟩:=en2.gat hles
   obtain ⟨b2,e2,g2,m2,t2⟩:=en2.gat (show p < ys.length by lia)
   rw [e1] at t1
   rw [e2] at t2
   rw [← hB] at t1
   refine ⟨_,rfl,_,rfl,r,_,_,_,rfl,rfl,SqL.of h2,t1,_,rfl,_,rfl,r,_,_,_,rfl,rfl,SqL.of h2,t2,b1,b2,_,_,rfl,rfl,SqT.of g1,SqT.of g2,en2.fit _ _,_,rfl,ite2 (fun c3=>?_) (fun c3=>?_)⟩
   ·have q3:ltT t (g ys (les (ltT t) ys p)) (g ys p)=false:=by
     cases q:ltT t (g ys (les (ltT t) ys p)) (g ys p) with
     | false=>rfl
     | true=>have c4:=(show (!ltT t (g ys (les (ltT t) ys p)) (g ys p))=true from c3); rw [q] at c4; cases c4
    refine ⟨_,rfl,?_⟩
    obtain ⟨f,rfl⟩:∃ f0,f=f0+1:=⟨f - 1,by lia⟩
    rw [dn_stay (by lia) q3,kidsE] at hd
    have:=k H2
    rw [← hd] at this
    have ez:((lk:Int)+1)=((lk+1:Nat):Int):=by lia
    show Q (.int ((lk:Int)+1)) H2
    rw [ez]
    exact this h2 f2
   ·have q3:ltT t (g ys (les (ltT t) ys p)) (g ys p)=true:=by
     cases q:ltT t (g ys (les (ltT t) ys p)) (g ys p) with
     | true=>rfl
     | false=>exact absurd (show (!ltT t (g ys (les (ltT t) ys p)) (g ys p))=true by rw [q]; rfl) c3
    obtain ⟨f,rfl⟩:∃ f0,f=f0+1:=⟨f - 1,by lia⟩
    rw [dn_go (by lia) q3,kidsE] at hd
    refine ⟨_,rfl,_,rfl,_,rfl,r,ys,p,les (ltT t) ys p,(by show [V.ref r,V.int (p:Int),V.int (2 * (p:Int)+1)]=_; rw [hB]),h2,by lia,hles,?_⟩
    refine ⟨_,rfl,ys.length - les (ltT t) ys p,by lia,f,les (ltT t) ys p,lk+1,some (.int (2 * (p:Int)+1)),sw ys p (les (ltT t) ys p),?_,hd,by rw [sw_len]; lia,upd_same,by rw [sw_len]; exact l2,fun y hy=>s2 y (sw_mem (by lia) hles y hy),fun b o e nb=>by rw [upd_ne nb]; exact f2 b o e nb,by rw [sw_len]⟩
    have ez:((lk:Int)+1)=((lk+1:Nat):Int):=by lia
    show [some (V.ref r),some (V.int a),some (V.int (2 * (p:Int)+1)),some (V.int ((lk:Int)+1)),some (V.int (2 * (p:Int)+1))]=_
    rw [ez,hB]
end
end Kx
end
section
namespace Kx
open PySem L2
section
variable {P:Program} {w:World} {K:PySem.W.Frag} {mg:Str→Option Value} {base:Heap}
open Hm
abbrev sCut:Stmt:=top 9
theorem scCut:FnScope ["heap","last"] ["heap"] (defScope sCut):=⟨rfl,rfl,rfl,(by simp only [List.nodup_cons,List.mem_cons,List.not_mem_nil,or_false,not_or,List.nodup_nil,and_true,not_false_eq_true]; (repeat' apply And.intro); all_goals decide +kernel),rfl,by decide +kernel,by decide +kernel⟩
def spCut:Sp:=fun vs H Q _=>∃ (r:Addr) (xs:List V) (t:V→List V),vs=[.ref r]∧H r=some (.lst xs)∧EnR t H xs∧0 < xs.length∧xs.length≤1000 ∧
 ∀ H',H' r=some (.lst (cutf (ltT t) xs).1)→(∀ b o,H b=some o→b≠r→H' b=some o)→Q (.int (cutf (ltT t) xs).2) H'
theorem ok_cut {f fe:Addr} {fd fde:FuncData} (F:Fun K "cut_first" "cut_first" sCut f fd) (T:Bl mg) (Glet_down:FnOk P w K mg base CX0 2 fe fde ["heap","start"] spLetDown) (Dlet_down:Nm K mg "let_down" fe fde ["heap","start"]) :
  FnOk P w K mg base CX0 3 f fd ["heap"] spCut:=by
 have sc:=scCut
 refine F.ok scCut (fun vs H Q E h=>?_) (fun cdv A outer s H vs Q E hr h=>?_)
 ·obtain ⟨r,xs,t,rfl,_⟩:=h
  rfl
 ·obtain ⟨r,xs,t,rfl,hx,en,h0,hl,k⟩:=h
  have hu:=hr.units0
  refine ⟨_,(QSs.to (qss_cons (qs_set (i:=1) sc.nd rfl (Or.inl rfl) (qe_bm0 PySem.F.plainAttrs_list PySem.F.slot_list_pop PySem.F.type_list_pop mt_pop (qv 0)))
   (qss_cons (qs_if (qt_cmpR op_eq (qe_callB call_len_seq (by rfl) T.z_len (by decide +kernel) (qa_cons (qv 0) qa_nil)) qe_int (nomark _)) (qss_one (qs_ret qe_int)) qss_nil)
   (qss_cons (qs_asg (qv 1) (qg_sub (qv 0) qe_int set_list))
   (qss_one (qs_ret (qe_call Glet_down (hr.mono (by decide)) rfl Dlet_down.m Dlet_down.k Dlet_down.b .nil pass0 (qa_cons (qv 0) (qa_cons qe_int qa_nil))))))))),?_⟩
  have eg:xs[xs.length - 1]?=some (g xs (xs.length - 1)):=by rw [g_get (by lia)]; exact List.getElem?_eq_getElem _
  have mg':g xs (xs.length - 1)∈xs:=List.mem_of_getElem? eg
  refine ⟨_,rfl,.inl ⟨rfl,_,SqL.of hx⟩,r,xs,_,rfl,rfl,hx,eg,?_⟩
  have ld:xs.dropLast.length=xs.length - 1:=List.length_dropLast
  refine ⟨_,rfl,r,_,rfl,.inl (SqL.of upd_same),rfl,_,rfl,ite2 (fun c1=>?_) (fun c1=>?_)⟩
  ·have c1':xs.dropLast.length=0:=by
    have:=of_decide_eq_true c1
    have:=V.int.inj this
    lia
   have ec:cutf (ltT t) xs=([],0):=cutf_one (by lia)
   have:=k (upd H r (.lst xs.dropLast))
   rw [ec] at this
   exact this (by rw [upd_same,List.length_eq_zero_iff.mp c1']) fun b o e nb=>by rw [upd_ne nb]; exact e
  ·have c1':xs.dropLast.length≠0:=fun z=>c1 (decide_eq_true (by rw [z]; rfl))
   have l2:(xs.dropLast.set 0 (g xs (xs.length - 1))).length=xs.dropLast.length:=List.length_set
   refine ⟨_,rfl,_,rfl,r,xs.dropLast,_,0,rfl,rfl,upd_same,ixN_ok (by lia) (by lia),?_⟩
   rw [upd_upd]
   have ec:cutf (ltT t) xs=dn (ltT t) xs.dropLast.length (xs.dropLast.set 0 (g xs (xs.length - 1))) 0 0:=by
    unfold cutf
    rw [if_neg (fun z=>c1' (by rw [z]; rfl))]
   refine ⟨_,rfl,r,_,0,t,rfl,upd_same,(en.sub fun y hy=>?_).put hx,by lia,fun H' h' f'=>?_⟩
   ·rcases List.mem_or_eq_of_mem_set hy with z | z
    ·exact (List.dropLast_sublist xs).mem z
    ·rw [z]; exact mg'
   ·rw [l2,← ec] at h'
    rw [l2,← ec]
    exact k H' h' fun b o e nb=>f' b o (by rw [upd_ne nb]; exact e) nb
end
end Kx
end
section
namespace Kx
open PySem L2
section
variable {P:Program} {w:World} {K:PySem.W.Frag} {mg:Str→Option Value} {base:Heap}
open Hm
abbrev sOrder:Stmt:=top 10
theorem scOrder:FnScope ["heap","looks","place"] ["heap"] (defScope sOrder):=⟨rfl,rfl,rfl,(by simp only [List.nodup_cons,List.mem_cons,List.not_mem_nil,or_false,not_or,List.nodup_nil,and_true,not_false_eq_true]; (repeat' apply And.intro); all_goals decide +kernel),rfl,by decide +kernel,by decide +kernel⟩
def spOrder:Sp:=fun vs H Q _=>∃ (r:Addr) (xs:List V) (t:V→List V),vs=[.ref r]∧H r=some (.lst xs)∧EnR t H xs∧xs.length≤1000 ∧
 ∀ H',H' r=some (.lst (mk (ltT t) (xs.length / 2) xs 0).1)→(∀ b o,H b=some o→b≠r→H' b=some o)→Q (.int (mk (ltT t) (xs.length / 2) xs 0).2) H'
theorem ok_orderH {f fn:Addr} {fd fdn:FuncData} (F:Fun K "order" "order" sOrder f fd) (T:Bl mg) (Glet_down:FnOkH P w K mg base CX0 2 fn fdn ["heap","start"] spLetDown) (Dlet_down:Nm K mg "let_down" fn fdn ["heap","start"]) :
  FnOkH P w K mg base CX0 3 f fd ["heap"] spOrder:=by
 have sc:=scOrder
 refine F.okH scOrder (fun vs H Q E h=>?_) (fun cdv A outer s H vs Q E pn hr hh h=>?_)
 ·obtain ⟨r,xs,t,rfl,_⟩:=h
  rfl
 ·obtain ⟨r,xs,t,rfl,hx,en,hl,k⟩:=h
  have hu:=hr.units0
  refine ⟨_,((qss_cons (qs_set (i:=1) sc.nd rfl (Or.inl rfl) qe_int)
   (qss_cons (qs_forH PassesOwn.never hh (qi_rangeDH rfl T.z_range (qa_cons (qe_op op_sub (qe_op op_fdivB (qe_callB call_len_seq (by rfl) T.z_len (by decide +kernel) (qa_cons (qv 0) qa_nil)) qe_int) qe_int) (qa_cons (qe_un un_neg qe_int) (qa_cons (qe_un un_neg qe_int) qa_nil)))) (qg_name (i:=2) sc.nd rfl (Or.inl rfl)) (qss_one (qs_set (i:=1) sc.nd rfl (Or.inl rfl) (qe_op op_add (qv 1) (qe_callH Glet_down (hr.mono (by decide)) hh rfl Dlet_down.m Dlet_down.k Dlet_down.b .nil pass0 (qa_cons (qv 0) (qa_cons (qv 2) qa_nil)))))))
   (qss_one (qs_ret (qv 1)))))),?_⟩
  refine ⟨_,rfl,r,_,rfl,.inl (SqL.of hx),_,_,rfl,rfl,⟨by decide,by decide⟩,_,_,rfl,rfl,_,rfl,_,rfl,_,_,rfl,⟨by lia,by lia,by lia,by lia⟩,?_⟩
  have en0:((xs.length:Int) / 2 - 1 - -1).toNat=xs.length / 2:=by lia
  refine for_rangeD (lo:=(xs.length:Int) / 2 - 1) (n:=((xs.length:Int) / 2 - 1 - -1).toNat) (fun i σ H4=>∃ (lk:Nat) (o:Option V) (ys:List V),σ=[some (.ref r),some (.int lk),o]∧H4 r=some (.lst ys)∧ys.length=xs.length∧(∀ y∈ys,y∈xs)∧(∀ b o,H b=some o→b≠r→H4 b=some o)∧mk (ltT t) (xs.length / 2 - i) ys lk=mk (ltT t) (xs.length / 2) xs 0)
   ⟨0,none,xs,rfl,hx,rfl,fun y h=>h,fun b o e _=>e,rfl⟩ ?_ ?_
  ·rintro i σ H4 hi ⟨lk,o,ys,rfl,h4,l4,s4,f4,m4⟩
   rw [en0] at hi
   have en4:EnR t H4 ys:=(en.bar hx f4).sub s4
   have ei:(xs.length:Int) / 2 - 1 - (i:Int)=((xs.length / 2 - 1 - i:Nat):Int):=by lia
   refine ⟨_,rfl,_,rfl,_,rfl,r,ys,xs.length / 2 - 1 - i,t,(by show [V.ref r,V.int ((xs.length:Int) / 2 - 1 - (i:Int))]=_; rw [ei]),h4,en4,by lia,fun H5 h5 f5=>⟨_,_,rfl,rfl,?_⟩⟩
   refine ⟨lk+(dn (ltT t) ys.length ys (xs.length / 2 - 1 - i) 0).2,_,_,rfl,h5,dn_len.trans l4,fun y hy=>s4 y (dn_perm.mem_iff.mp hy),fun b o e nb=>f5 b o (f4 b o e nb) nb,?_⟩
   rw [← m4,show xs.length / 2 - i=(xs.length / 2 - (i+1))+1 by lia]
   conv=>rhs; unfold mk
   rw [show xs.length / 2 - (i+1)=xs.length / 2 - 1 - i by lia]
  ·rintro σ H4 ⟨lk,o,ys,rfl,h4,l4,s4,f4,m4⟩
   rw [en0,Nat.sub_self] at m4
   have m5:(ys,lk)=mk (ltT t) (xs.length / 2) xs 0:=m4
   have:=k H4
   rw [← m5] at this
   exact ⟨_,rfl,this h4 f4⟩
end
end Kx
end
section
namespace Kx
open PySem L2
section
variable {P:Program} {w:World} {K:PySem.W.Frag} {mg:Str→Option Value} {base:Heap}
open Hm
abbrev bmV:List Value:=[.type "ValueError",.type "Exception",.type "BaseException",.type "object"]
structure NT (K:PySem.W.Frag) (C:Addr):Prop where
 cl:Cls K C
 th:NoAttr K C "there"
 st:NoAttr K C "stamp"
abbrev sMany:Stmt:=inClass (top 6) 1
theorem scMany:FnScope ["self"] ["self"] (defScope sMany):=⟨rfl,rfl,rfl,(by simp only [List.nodup_cons,List.mem_cons,List.not_mem_nil,or_false,not_or,List.nodup_nil,and_true,not_false_eq_true]; (repeat' apply And.intro); all_goals decide +kernel),rfl,by decide +kernel,by decide +kernel⟩
def spMany (C:Addr):Sp:=fun vs H Q _=>∃ (p dx d:Addr) (fs:List (Str × V)) (ks:List (Key × V)),vs=[.ref p]∧H p=some (.ins C dx fs)∧fs.lookup ("there":Str)=some (.ref d)∧H d=some (.dK ks)∧Q (.int ks.length) H
theorem ok_many {f C:Addr} {fd:FuncData} (F:Fun K "many" "Named.many" sMany f fd) (T:Bl mg) (L:NT K C):FnOk P w K mg base CX0 1 f fd ["self"] (spMany C):=by
 have sc:=scMany
 refine F.ok scMany (fun vs H Q E h=>?_) (fun cdv A outer s H vs Q E hr h=>?_)
 ·obtain ⟨p,dx,d,fs,ks,rfl,_⟩:=h
  rfl
 ·obtain ⟨p,dx,d,fs,ks,rfl,hp,hl,hd,k⟩:=h
  have hu:=hr.units0
  refine ⟨_,(QSs.to (qss_one (qs_ret (qe_callB call_lenD (by rfl) T.z_len (by decide +kernel) (qa_cons (qe_fld (qv 0) rfl) qa_nil))))),?_⟩
  exact ⟨_,rfl,p,C,dx,fs,_,rfl,hp,L.cl,L.th,hl,d,ks,rfl,hd,k⟩
abbrev sHolds:Stmt:=inClass (top 6) 3
theorem scHolds:FnScope ["self","entry"] ["self","entry"] (defScope sHolds):=⟨rfl,rfl,rfl,(by simp only [List.nodup_cons,List.mem_cons,List.not_mem_nil,or_false,not_or,List.nodup_nil,and_true,not_false_eq_true]; (repeat' apply And.intro); all_goals decide +kernel),rfl,by decide +kernel,by decide +kernel⟩
def spHolds (C:Addr):Sp:=fun vs H Q _=>∃ (p dx d:Addr) (fs:List (Str × V)) (ks:List (Key × V)) (T:List (Str × En)) (a:Addr) (e:En),vs=[.ref p,.ref a]∧H p=some (.ins C dx fs)∧fs.lookup ("there":Str)=some (.ref d)∧H d=some (.dK ks)∧KR H ks T∧H a=some (.tup (enV e))∧Q (.bl (Gm.holds T e)) H
theorem ok_holdsH {f C:Addr} {fd:FuncData} (F:Fun K "holds" "Named.holds" sHolds f fd) (T:Bl mg) (L:NT K C):FnOkH P w K mg base CX0 1 f fd ["self","entry"] (spHolds C):=by
 have sc:=scHolds
 refine F.okH scHolds (fun vs H Q E h=>?_) (fun cdv A outer s H vs Q E pn hr hh h=>?_)
 ·obtain ⟨p,dx,d,fs,ks,T',a,e,rfl,_⟩:=h
  rfl
 ·obtain ⟨p,dx,d,fs,ks,T',a,e,rfl,hp,hl,hd,kr,ha,k⟩:=h
  have hu:=hr.units0
  refine ⟨_,((qss_one (qs_ret (qe_cmpR (op_eqOE hu) (qe_dget1 (hu_ofH hr) (qe_fld (qv 0) rfl) (qe_ix ix_tup (qv 1) qe_int (fun _ _=>rfl)) ⟨rfl,rfl,rfl,rfl⟩) (qv 1) (nomark _))))),?_⟩
  refine ⟨_,rfl,p,C,dx,fs,_,rfl,hp,L.cl,L.th,hl,d,rfl,.inl ⟨ks,.inl hd⟩,_,rfl,a,_,_,_,rfl,rfl,SqT.of ha,rfl,_,DGet.k (k:=Sum.inr e.n) hd,_,rfl,a,enV e,rfl,SqT.of ha,enV_en e,?_⟩
  unfold Gm.holds at k
  rcases kr.get e.n with ⟨e1,e2⟩ | ⟨b,e',e1,e2,hb⟩
  ·rw [e2,decide_eq_false (fun z=>nomatch z)] at k
   rw [e1]
   exact .inl ⟨rfl,k⟩
  ·rw [e2] at k
   rw [e1]
   refine .inr ⟨b,enV e',rfl,SqT.of hb,enV_en e',?_⟩
   by_cases z:e'=e
   ·rw [z] at k ⊢
    rw [decide_eq_true rfl] at k ⊢
    exact k
   ·rw [decide_eq_false (fun y=>z (Option.some.inj y))] at k
    rw [decide_eq_false (fun y=>z (enV_inj y))]
    exact k
abbrev sNeed:Stmt:=inClass (top 6) 4
theorem scNeed:FnScope ["self","name"] ["self","name"] (defScope sNeed):=⟨rfl,rfl,rfl,(by simp only [List.nodup_cons,List.mem_cons,List.not_mem_nil,or_false,not_or,List.nodup_nil,and_true,not_false_eq_true]; (repeat' apply And.intro); all_goals decide +kernel),rfl,by decide +kernel,by decide +kernel⟩
def spNeed (C X:Addr):Sp:=fun vs H Q E=>∃ (p dx d:Addr) (fs:List (Str × V)) (ks:List (Key × V)) (n:Str),vs=[.ref p,.str n]∧H p=some (.ins C dx fs)∧fs.lookup ("there":Str)=some (.ref d)∧H d=some (.dK ks)∧n.length≤1000∧((valV ks (Sum.inr n)).isSome=true→Q .non H)∧((valV ks (Sum.inr n)).isSome=false→E (.ref X) none H)
theorem ok_need {f C X:Addr} {fd:FuncData} (F:Fun K "need" "Named.need" sNeed f fd) (T:Bl mg) (L:NT K C) (mNoThing:mg "NoThing"=some (.ref X)) (xNoThing:PySem.W.excIn K X bmV "ValueError.__new__"=true):FnOk P w K mg base (CXe P w) 1 f fd ["self","name"] (spNeed C X):=by
 have sc:=scNeed
 refine F.okE scNeed (fun vs H Q E h=>?_) (fun cdv A outer s H vs Q E hr h=>?_)
 ·obtain ⟨p,dx,d,fs,ks,n,rfl,_⟩:=h
  rfl
 ·obtain ⟨p,dx,d,fs,ks,n,rfl,hp,hl,hd,hn,k,kE⟩:=h
  have hu:=hr.units0
  refine ⟨_,(QSs.to (qss_one (qs_if (qt_dnotin (hu_of hr) (qv 1) (qe_fld (qv 0) rfl)) (qss_one (qs_raiseC PySem.F.excBase_ValueError (by decide +kernel) rfl mNoThing xNoThing hr.hd (qa_cons (qe_fstr2 (qv 1) (by decide +kernel)) qa_nil))) qss_nil))),?_⟩
  refine ⟨_,rfl,_,rfl,p,C,dx,fs,_,rfl,hp,L.cl,L.th,hl,d,_,rfl,DGet.k (k:=Sum.inr n) hd,_,rfl,?_⟩
  cases e:(valV ks (Sum.inr n:Key)).isSome with
  | false=>exact iteT ⟨_,rfl,n,rfl,hn,fun r=>⟨by show 1≤1000; decide,kE e⟩⟩
  | true=>exact iteF (k e)
def spNeedH (C:Addr):Sp:=fun vs H Q _=>∃ (p dx d:Addr) (fs:List (Str × V)) (ks:List (Key × V)) (n:Str),vs=[.ref p,.str n]∧H p=some (.ins C dx fs)∧fs.lookup ("there":Str)=some (.ref d)∧H d=some (.dK ks)∧(valV ks (Sum.inr n)).isSome=true∧Q .non H
theorem ok_needH {f C:Addr} {fd:FuncData} (F:Fun K "need" "Named.need" sNeed f fd) (T:Bl mg) (L:NT K C):FnOkH P w K mg base CX0 1 f fd ["self","name"] (spNeedH C):=by
 have sc:=scNeed
 refine F.okH scNeed (fun vs H Q E h=>?_) (fun cdv A outer s H vs Q E pn hr hh h=>?_)
 ·obtain ⟨p,dx,d,fs,ks,n,rfl,_⟩:=h
  rfl
 ·obtain ⟨p,dx,d,fs,ks,n,rfl,hp,hl,hd,hs,k⟩:=h
  have hu:=hr.units0
  refine ⟨_,(qss_one (qs_if (qt_dnotin (hu_ofH hr) (qv 1) (qe_fld (qv 0) rfl)) (qss_one qs_never) qss_nil)),?_⟩
  refine ⟨_,rfl,_,rfl,p,C,dx,fs,_,rfl,hp,L.cl,L.th,hl,d,_,rfl,DGet.k (k:=Sum.inr n) hd,_,rfl,?_⟩
  cases e:(valV ks (Sum.inr n:Key)).isSome with
  | false=>rw [hs] at e; cases e
  | true=>exact iteF k
abbrev sFree:Stmt:=inClass (top 6) 5
theorem scFree:FnScope ["self","name"] ["self","name"] (defScope sFree):=⟨rfl,rfl,rfl,(by simp only [List.nodup_cons,List.mem_cons,List.not_mem_nil,or_false,not_or,List.nodup_nil,and_true,not_false_eq_true]; (repeat' apply And.intro); all_goals decide +kernel),rfl,by decide +kernel,by decide +kernel⟩
def spFree (C X:Addr):Sp:=fun vs H Q E=>∃ (p dx d:Addr) (fs:List (Str × V)) (ks:List (Key × V)) (n:Str),vs=[.ref p,.str n]∧H p=some (.ins C dx fs)∧fs.lookup ("there":Str)=some (.ref d)∧H d=some (.dK ks)∧n.length≤1000∧((valV ks (Sum.inr n)).isSome=false→Q .non H)∧((valV ks (Sum.inr n)).isSome=true→E (.ref X) none H)
theorem ok_need_free {f C X:Addr} {fd:FuncData} (F:Fun K "need_free" "Named.need_free" sFree f fd) (T:Bl mg) (L:NT K C) (mClash:mg "Clash"=some (.ref X)) (xClash:PySem.W.excIn K X bmV "ValueError.__new__"=true):FnOk P w K mg base (CXe P w) 1 f fd ["self","name"] (spFree C X):=by
 have sc:=scFree
 refine F.okE scFree (fun vs H Q E h=>?_) (fun cdv A outer s H vs Q E hr h=>?_)
 ·obtain ⟨p,dx,d,fs,ks,n,rfl,_⟩:=h
  rfl
 ·obtain ⟨p,dx,d,fs,ks,n,rfl,hp,hl,hd,hn,k,kE⟩:=h
  have hu:=hr.units0
  refine ⟨_,(QSs.to (qss_one (qs_if (qt_din (hu_of hr) (qv 1) (qe_fld (qv 0) rfl)) (qss_one (qs_raiseC PySem.F.excBase_ValueError (by decide +kernel) rfl mClash xClash hr.hd (qa_cons (qe_fstr2 (qv 1) (by decide +kernel)) qa_nil))) qss_nil))),?_⟩
  refine ⟨_,rfl,_,rfl,p,C,dx,fs,_,rfl,hp,L.cl,L.th,hl,d,_,rfl,DGet.k (k:=Sum.inr n) hd,_,rfl,?_⟩
  cases e:(valV ks (Sum.inr n:Key)).isSome with
  | true=>exact iteT ⟨_,rfl,n,rfl,hn,fun r=>⟨by show 1≤1000; decide,kE e⟩⟩
  | false=>exact iteF (k e)
abbrev sAny:Stmt:=inClass (top 6) 6
theorem scAny:FnScope ["self"] ["self"] (defScope sAny):=⟨rfl,rfl,rfl,(by simp only [List.nodup_cons,List.mem_cons,List.not_mem_nil,or_false,not_or,List.nodup_nil,and_true,not_false_eq_true]; (repeat' apply And.intro); all_goals decide +kernel),rfl,by decide +kernel,by decide +kernel⟩
def spAny (C X:Addr):Sp:=fun vs H Q E=>∃ (p dx d:Addr) (fs:List (Str × V)) (ks:List (Key × V)),vs=[.ref p]∧H p=some (.ins C dx fs)∧fs.lookup ("there":Str)=some (.ref d)∧H d=some (.dK ks)∧(ks≠[]→Q .non H)∧(ks=[]→E (.ref X) none H)
theorem ok_need_any {f C X:Addr} {fd:FuncData} (F:Fun K "need_any" "Named.need_any" sAny f fd) (T:Bl mg) (L:NT K C) (mNoThing:mg "NoThing"=some (.ref X)) (xNoThing:PySem.W.excIn K X bmV "ValueError.__new__"=true):FnOk P w K mg base (CXe P w) 1 f fd ["self"] (spAny C X):=by
 have sc:=scAny
 refine F.okE scAny (fun vs H Q E h=>?_) (fun cdv A outer s H vs Q E hr h=>?_)
 ·obtain ⟨p,dx,d,fs,ks,rfl,_⟩:=h
  rfl
 ·obtain ⟨p,dx,d,fs,ks,rfl,hp,hl,hd,k,kE⟩:=h
  have hu:=hr.units0
  refine ⟨_,(QSs.to (qss_one (qs_if (qt_cmpR op_eq (qe_callB call_lenD (by rfl) T.z_len (by decide +kernel) (qa_cons (qe_fld (qv 0) rfl) qa_nil)) qe_int (nomark _)) (qss_one (qs_raiseC PySem.F.excBase_ValueError (by decide +kernel) rfl mNoThing xNoThing hr.hd (qa_cons qe_str qa_nil))) qss_nil))),?_⟩
  refine ⟨_,rfl,p,C,dx,fs,_,rfl,hp,L.cl,L.th,hl,d,ks,rfl,hd,rfl,_,rfl,ite2 (fun c1=>?_) (fun c1=>?_)⟩
  ·have:=V.int.inj (of_decide_eq_true c1)
   exact ⟨by show 1≤1000; decide,kE (List.length_eq_zero_iff.mp (by lia))⟩
  ·exact k fun z=>c1 (decide_eq_true (by rw [z]; rfl))
abbrev sStamped:Stmt:=inClass (top 6) 7
theorem scStamped:FnScope ["self","name","worth","entry"] ["self","name","worth"] (defScope sStamped):=⟨rfl,rfl,rfl,(by simp only [List.nodup_cons,List.mem_cons,List.not_mem_nil,or_false,not_or,List.nodup_nil,and_true,not_false_eq_true]; (repeat' apply And.intro); all_goals decide +kernel),rfl,by decide +kernel,by decide +kernel⟩
def spStamped (C:Addr):Sp:=fun vs H Q _=>∃ (p dx d:Addr) (fs:List (Str × V)) (ks:List (Key × V)) (n:Str) (w st:Int),vs=[.ref p,.str n,.int w]∧H p=some (.ins C dx fs)∧fs.lookup ("there":Str)=some (.ref d)∧H d=some (.dK ks)∧fs.lookup ("stamp":Str)=some (.int st)∧fs.length≤100∧ks.length≤1000 ∧
 ∀ q,H q=none→Q (.ref q) (upd (upd (upd H q (.tup [.int w,.str n,.int st])) p (.ins C dx (putF ("stamp":Str) (.int (st+1)) fs))) d (.dK (putK ks (Sum.inr n) (.ref q))))
theorem th_st:¬ (("there":Str)="stamp"):=by decide +kernel
theorem ok_stamped {f C:Addr} {fd:FuncData} (F:Fun K "stamped" "Named.stamped" sStamped f fd) (T:Bl mg) (L:NT K C):FnOk P w K mg base CX0 1 f fd ["self","name","worth"] (spStamped C):=by
 have sc:=scStamped
 refine F.ok scStamped (fun vs H Q E h=>?_) (fun cdv A outer s H vs Q E hr h=>?_)
 ·obtain ⟨p,dx,d,fs,ks,n,w,st,rfl,_⟩:=h
  rfl
 ·obtain ⟨p,dx,d,fs,ks,n,w,st,rfl,hp,hl,hd,hs,hf,hk,k⟩:=h
  have hu:=hr.units0
  have npd:p≠d:=ne_of hp hd (by intro z; cases z)
  refine ⟨_,(QSs.to (qss_cons (qs_set (i:=3) sc.nd rfl (Or.inl rfl) (qe_tup (qa_cons (qv 2) (qa_cons (qv 1) (qa_cons (qe_fld (qv 0) rfl) qa_nil)))))
   (qss_cons (qs_fld (qv 0) (qe_op op_add (qe_fld (qv 0) rfl) qe_int) rfl)
   (qss_cons (qs_dput (hu_of hr) (qe_fld (qv 0) rfl) (qv 1) (qv 3) rfl)
   (qss_one (qs_ret (qv 3))))))),?_⟩
  refine ⟨_,rfl,_,rfl,_,rfl,p,C,dx,fs,_,rfl,hp,L.cl,L.st,hs,by show 3≤sizeLine; decide,fun q hq=>?_⟩
  have hp1:(upd H q (.tup [.int w,.str n,.int st])) p=some (.ins C dx fs):=by rw [upd_ne (ne_of_none hp hq)]; exact hp
  have hd1:(upd H q (.tup [.int w,.str n,.int st])) d=some (.dK ks):=by rw [upd_ne (ne_of_none hd hq)]; exact hd
  refine ⟨_,rfl,p,C,dx,fs,_,rfl,hp1,L.cl,L.st,hs,_,_,rfl,rfl,_,rfl,p,C,dx,fs,rfl,hp1,L.cl,L.st,by lia,?_⟩
  have hl2:(putF ("stamp":Str) (.int (st+1)) fs).lookup ("there":Str)=some (.ref d):=by rw [lookup_putF,if_neg th_st]; exact hl
  refine ⟨_,rfl,_,rfl,p,C,dx,_,_,rfl,upd_same,L.cl,L.th,hl2,_,rfl,d,_,rfl,DPut.k (k:=Sum.inr n) (by rw [upd_ne npd.symm]; exact hd1) (small1000 hk),?_⟩
  exact ⟨_,rfl,k q hq⟩
def wOf (T:List (Str × En)) (n:Str):Int:=((Gm.dget T n).getD default).w
def PR (H:Hp) (zs:List V) (L:List (Str × Int)):Prop:=Paired (fun (z:V) (nw:Str × Int)=>∃ a,z=.ref a∧H a=some (.tup [.str nw.1,.int nw.2])) zs L
abbrev sThings:Stmt:=inClass (top 6) 2
def spThings (C:Addr):Sp:=fun vs H Q _=>∃ (p dx d:Addr) (fs:List (Str × V)) (ks:List (Key × V)) (T:List (Str × En)),vs=[.ref p]∧H p=some (.ins C dx fs)∧fs.lookup ("there":Str)=some (.ref d)∧H d=some (.dK ks)∧KR H ks T∧ks.length≤1000 ∧
 ∀ (q:Addr) (zs:List V) (ys:List Str) (H':Hp),ys.Perm (T.map (·.1))→ys.Pairwise (fun x y=>slt y x=false)→H' q=some (.tup zs)→PR H' zs (ys.map fun n=>(n,wOf T n))→Same H H'→Q (.ref q) H'
abbrev sNInit:Stmt:=inClass (top 6) 0
theorem scNInit:FnScope ["self"] ["self"] (defScope sNInit):=⟨rfl,rfl,rfl,(by simp only [List.nodup_cons,List.mem_cons,List.not_mem_nil,or_false,not_or,List.nodup_nil,and_true,not_false_eq_true]; (repeat' apply And.intro); all_goals decide +kernel),rfl,by decide +kernel,by decide +kernel⟩
def spNInit (C:Addr):Sp:=fun vs H Q _=>∃ (p dx:Addr),vs=[.ref p]∧H p=some (.ins C dx [])∧∀ d,H d=none→Q .non (upd (upd (upd H d (.dK [])) p (.ins C dx [("there",.ref d)])) p (.ins C dx [("there",.ref d),("stamp",.int 0)]))
theorem ok_Named__init__ {f C:Addr} {fd:FuncData} (F:Fun K "__init__" "Named.__init__" sNInit f fd) (T:Bl mg) (L:NT K C):FnOk P w K mg base CX0 1 f fd ["self"] (spNInit C):=by
 have sc:=scNInit
 refine F.ok scNInit (fun vs H Q E h=>?_) (fun cdv A outer s H vs Q E hr h=>?_)
 ·obtain ⟨p,dx,rfl,_⟩:=h
  rfl
 ·obtain ⟨p,dx,rfl,hp,k⟩:=h
  have hu:=hr.units0
  refine ⟨_,(QSs.to (qss_cons (qs_fld (qv 0) qe_dnewK rfl)
   (qss_one (qs_fld (qv 0) qe_int rfl)))),?_⟩
  intro d hd
  have npd:p≠d:=ne_of_none hp hd
  refine ⟨_,rfl,p,C,dx,[],rfl,(by rw [upd_ne npd]; exact hp),L.cl,L.th,(by show 0 < 1000; decide),_,rfl,p,C,dx,_,rfl,upd_same,L.cl,L.st,(by show 1 < 1000; decide),?_⟩
  have e1:putF ("stamp":Str) (.int 0) (putF ("there":Str) (.ref d) [])=([("there",V.ref d),("stamp",V.int 0)]:List (Str × V)):=by
   show (if ("there":Str)="stamp" then _ else _)=_
   rw [if_neg th_st]
   rfl
  rw [e1]
  exact k d hd
end
end Kx
end
section
namespace Kx
open PySem L2
section
variable {P:Program} {w:World} {K:PySem.W.Frag} {mg:Str→Option Value} {base:Heap}
open Hm
structure LT (K:PySem.W.Frag) (C:Addr):Prop where
 nt:NT K C
 sk:NoAttr K C "slack"
 en:NoAttr K C "entries"
 lk:NoAttr K C "looks"
theorem LT.cl {C:Addr} (L:LT K C):Cls K C:=L.nt.cl
def lfs (d l:Addr) (s:LS):List (Str × V):=[("there",.ref d),("stamp",.int s.stamp),("slack",.int s.slack),("entries",.ref l),("looks",.int s.looks)]
theorem lk_ne {a b:Str} {v:V} {r:List (Str × V)} (h:¬ b=a):List.lookup a ((b,v) :: r)=List.lookup a r:=by
 rw [List.lookup_cons,beq_eq_false_iff_ne.mpr (fun z=>h z.symm)]
theorem lk_eq {a:Str} {v:V} {r:List (Str × V)}:List.lookup a ((a,v) :: r)=some v:=by
 rw [List.lookup_cons,beq_self_eq_true]
theorem pf_ne {a b:Str} {v x:V} {r:List (Str × V)} (h:¬ b=a):putF a v ((b,x) :: r)=(b,x) :: putF a v r:=if_neg h
theorem pf_eq {a:Str} {v x:V} {r:List (Str × V)}:putF a v ((a,x) :: r)=(a,v) :: r:=if_pos rfl
theorem d1:¬ (("there":Str)="slack"):=by decide +kernel
theorem d2:¬ (("there":Str)="entries"):=by decide +kernel
theorem d3:¬ (("there":Str)="looks"):=by decide +kernel
theorem d4:¬ (("stamp":Str)="slack"):=by decide +kernel
theorem d5:¬ (("stamp":Str)="entries"):=by decide +kernel
theorem d6:¬ (("stamp":Str)="looks"):=by decide +kernel
theorem d7:¬ (("slack":Str)="entries"):=by decide +kernel
theorem d8:¬ (("slack":Str)="looks"):=by decide +kernel
theorem d9:¬ (("entries":Str)="looks"):=by decide +kernel
section
variable {d l l':Addr} {s:LS}
theorem lf_th:(lfs d l s).lookup ("there":Str)=some (.ref d):=lk_eq
theorem lf_st:(lfs d l s).lookup ("stamp":Str)=some (.int s.stamp):=by unfold lfs; rw [lk_ne th_st,lk_eq]
theorem lf_sk:(lfs d l s).lookup ("slack":Str)=some (.int s.slack):=by unfold lfs; rw [lk_ne d1,lk_ne d4,lk_eq]
theorem lf_en:(lfs d l s).lookup ("entries":Str)=some (.ref l):=by unfold lfs; rw [lk_ne d2,lk_ne d5,lk_ne d7,lk_eq]
theorem lf_lk:(lfs d l s).lookup ("looks":Str)=some (.int s.looks):=by unfold lfs; rw [lk_ne d3,lk_ne d6,lk_ne d8,lk_ne d9,lk_eq]
theorem lf_no {m:Str} (h1:¬ ("there":Str)=m) (h2:¬ ("stamp":Str)=m) (h3:¬ ("slack":Str)=m) (h4:¬ ("entries":Str)=m) (h5:¬ ("looks":Str)=m):(lfs d l s).lookup m=none:=by unfold lfs; rw [lk_ne h1,lk_ne h2,lk_ne h3,lk_ne h4,lk_ne h5]; rfl
theorem pf_st {k:Nat}:putF ("stamp":Str) (.int ((s.stamp:Int)+1)) (lfs d l s)=lfs d l { s with stamp:=s.stamp+1 }:=by unfold lfs; rw [pf_ne th_st,pf_eq]; rfl
theorem pf_en:putF ("entries":Str) (.ref l') (lfs d l s)=lfs d l' s:=by unfold lfs; rw [pf_ne d2,pf_ne d5,pf_ne d7,pf_eq]
theorem pf_lk {k:Nat}:putF ("looks":Str) (.int ((s.looks:Int)+k)) (lfs d l s)=lfs d l { s with looks:=s.looks+k }:=by
 unfold lfs
 rw [pf_ne d3,pf_ne d6,pf_ne d8,pf_ne d9,pf_eq]
 show _=[_,_,_,_,(_,V.int ((s.looks+k:Nat):Int))]
 rw [Int.natCast_add]
end
structure LateAt (C:Addr) (H:Hp) (p d l:Addr) (s:LS):Prop where
 ob:∃ dx,H p=some (.ins C dx (lfs d l s))
 dc:∃ ks,H d=some (.dK ks)∧KR H ks s.there
 ls:∃ xs,H l=some (.lst xs)∧RR H xs s.row
section
variable {C p d l:Addr} {H H':Hp} {s:LS}
theorem LateAt.notup (L:LateAt C H p d l s):∀ b∈[p,d,l],∀ xs,H b≠some (.tup xs):=by
 obtain ⟨dx,h1⟩:=L.ob
 obtain ⟨ks,h2,_⟩:=L.dc
 obtain ⟨xs,h3,_⟩:=L.ls
 intro b hb ys z
 simp only [List.mem_cons,List.not_mem_nil,or_false] at hb
 rcases hb with rfl | rfl | rfl
 ·rw [h1] at z; cases z
 ·rw [h2] at z; cases z
 ·rw [h3] at z; cases z
theorem LateAt.npd (L:LateAt C H p d l s):p≠d:=by
 obtain ⟨dx,h1⟩:=L.ob
 obtain ⟨ks,h2,_⟩:=L.dc
 exact ne_of h1 h2 (by intro z; cases z)
theorem LateAt.npl (L:LateAt C H p d l s):p≠l:=by
 obtain ⟨dx,h1⟩:=L.ob
 obtain ⟨ks,h2,_⟩:=L.ls
 exact ne_of h1 h2 (by intro z; cases z)
theorem LateAt.ndl (L:LateAt C H p d l s):d≠l:=by
 obtain ⟨dx,h1,_⟩:=L.dc
 obtain ⟨ks,h2,_⟩:=L.ls
 exact ne_of h1 h2 (by intro z; cases z)
theorem LateAt.stay (L:LateAt C H p d l s) (k:∀ b o,b=p∨b=d∨b=l→H b=some o→H' b=some o) (t:∀ b l,H b=some (.tup l)→H' b=some (.tup l)):LateAt C H' p d l s:=by
 obtain ⟨dx,h1⟩:=L.ob
 obtain ⟨ks,h2,r2⟩:=L.dc
 obtain ⟨xs,h3,r3⟩:=L.ls
 exact ⟨⟨dx,k _ _ (.inl rfl) h1⟩,⟨ks,k _ _ (.inr (.inl rfl)) h2,r2.stay t⟩,⟨xs,k _ _ (.inr (.inr rfl)) h3,r3.stay t⟩⟩
theorem LateAt.same (L:LateAt C H p d l s) (k:Same H H'):LateAt C H' p d l s:=L.stay (fun b o _ h=>k b o h) fun b l h=>k b _ h
end
def Fr3 (H:Hp) (l l':Addr):Prop:=l'=l∨H l'=none
abbrev sEnter:Stmt:=inClass (top 15) 8
theorem scEnter:FnScope ["self","name","worth"] ["self","name","worth"] (defScope sEnter):=⟨rfl,rfl,rfl,(by simp only [List.nodup_cons,List.mem_cons,List.not_mem_nil,or_false,not_or,List.nodup_nil,and_true,not_false_eq_true]; (repeat' apply And.intro); all_goals decide +kernel),rfl,by decide +kernel,by decide +kernel⟩
def spEnter (C:Addr):Sp:=fun vs H Q _=>∃ (p d l:Addr) (s:LS) (n:Str) (w:Int),vs=[.ref p,.str n,.int w]∧LateAt C H p d l s∧s.row.length≤1000∧s.there.length≤1000 ∧
 ∀ H',LateAt C H' p d l (Gm.enter slt s n w)→Kept [p,d,l] H H'→Q .non H'
theorem lay_use {H:Hp} {r a:Addr} {xs:List V} {es:List En} {e:En} {Q:VK} {E:XK} (h:H r=some (.lst xs)) (rr:RR H xs es) (ha:H a=some (.tup (enV e))) (hl:es.length≤1000)
  (k:∀ ys H',H' r=some (.lst ys)→RR H' ys (Hg.up lE es.length (es++[e]) es.length 0).1→Kept [r] H H'→Q (.int (Hg.up lE es.length (es++[e]) es.length 0).2) H'):spLay [.ref r,.ref a] H Q E:=by
 have rs:=rr.snoc ha
 refine ⟨r,xs,.ref a,keyE H,rfl,h,rs.en,by rw [rr.len]; exact hl,fun H' h' kp=>?_⟩
 have em:=up_map (H:=H) (f:=xs.length) (xs:=xs++[.ref a]) (p:=xs.length) (lk:=0)
 rw [rs.eq,rr.len] at em
 have kk:Kept [r] H H':=fun b o q n=>kp b o q fun z=>n (List.mem_singleton.mpr z)
 have:=k _ H' h' (by
  rw [em,rr.len]
  have r2:=rs.sub (ys:=(up (ltT (keyE H)) es.length (xs++[.ref a]) es.length 0).1) fun y hy=>(up_perm (by rw [List.length_append,rr.len]; exact Nat.lt_succ_self _)).mem_iff.mp hy
  exact r2.stay (kk.tups fun b hb ys z=>by rw [List.mem_singleton.mp hb,h] at z; cases z)) kk
 rw [em] at this
 rw [rr.len]
 exact this
theorem ok_enter {f C fa fb:Addr} {fd fda fdb:FuncData} (F:Fun K "enter" "Late.enter" sEnter f fd) (T:Bl mg) (L:LT K C) (Glay_in:FnOk P w K mg base CX0 3 fa fda ["heap","entry"] spLay) (Dlay_in:Nm K mg "lay_in" fa fda ["heap","entry"])
  (Mstamped:Meth K C "stamped" fb) (Gstamped:FnOk P w K mg base CX0 1 fb fdb ["self","name","worth"] (spStamped C)) (Bstamped:Binds K fdb ["self","name","worth"] []):FnOk P w K mg base CX0 4 f fd ["self","name","worth"] (spEnter C):=by
 have sc:=scEnter
 refine F.ok scEnter (fun vs H Q E h=>?_) (fun cdv A outer s H vs Q E hr h=>?_)
 ·obtain ⟨p,d,l,s,n,w,rfl,_⟩:=h
  rfl
 ·obtain ⟨p,d,l,s,n,w,rfl,LA,h1,h2,k⟩:=h
  have hu:=hr.units0
  have npd:=LA.npd
  have npl:=LA.npl
  have ndl:=LA.ndl
  obtain ⟨dx,hp⟩:=LA.ob
  obtain ⟨ks,hd,kr⟩:=LA.dc
  obtain ⟨xs,hx,rr⟩:=LA.ls
  refine ⟨_,(QSs.to (qss_one (qs_fld (qv 0) (qe_op op_add (qe_fld (qv 0) rfl) (qe_call Glay_in (hr.mono (by decide)) rfl Dlay_in.m Dlay_in.k Dlay_in.b .nil pass0 (qa_cons (qe_fld (qv 0) rfl) (qa_cons (qe_meth (qv 0) L.cl Mstamped Gstamped (hr.mono (by decide)) Bstamped .nil pass0 (qa_cons (qv 1) (qa_cons (qv 2) qa_nil))) qa_nil)))) rfl))),?_⟩
  refine ⟨_,rfl,p,C,dx,_,_,rfl,hp,L.cl,L.lk,lf_lk,_,rfl,p,C,dx,_,_,rfl,hp,L.cl,L.en,lf_en,_,rfl,p,dx,_,rfl,hp,lf_no (by decide +kernel) (by decide +kernel) (by decide +kernel) (by decide +kernel) (by decide +kernel),_,rfl,_,rfl,p,dx,d,_,ks,n,w,s.stamp,rfl,hp,lf_th,hd,lf_st,by show 5≤100; decide,by rw [kr.len]; exact h2,fun q hq=>?_⟩
  have npq:p≠q:=ne_of_none hp hq
  have ndq:d≠q:=ne_of_none hd hq
  have nlq:l≠q:=ne_of_none hx hq
  rw [pf_st (k:=0)]
  have q2:∀ b o,H b=some o→b≠p→b≠d→(upd (upd (upd H q (.tup [.int w,.str n,.int s.stamp])) p (.ins C dx (lfs d l { s with stamp:=s.stamp+1 }))) d (.dK (putK ks (Sum.inr n) (.ref q)))) b=some o:=fun b o e n1 n2=>by
   rw [upd_ne n2,upd_ne n1,upd_ne (ne_of_none e hq)]; exact e
  have hq2:(upd (upd (upd H q (.tup [.int w,.str n,.int s.stamp])) p (.ins C dx (lfs d l { s with stamp:=s.stamp+1 }))) d (.dK (putK ks (Sum.inr n) (.ref q)))) q=some (.tup (enV ⟨w,n,(s.stamp:Int)⟩)):=by
   rw [upd_ne ndq.symm,upd_ne npq.symm,upd_same]; rfl
  have hp2:(upd (upd (upd H q (.tup [.int w,.str n,.int s.stamp])) p (.ins C dx (lfs d l { s with stamp:=s.stamp+1 }))) d (.dK (putK ks (Sum.inr n) (.ref q)))) p=some (.ins C dx (lfs d l { s with stamp:=s.stamp+1 })):=by
   rw [upd_ne npd,upd_same]
  have hd2:(upd (upd (upd H q (.tup [.int w,.str n,.int s.stamp])) p (.ins C dx (lfs d l { s with stamp:=s.stamp+1 }))) d (.dK (putK ks (Sum.inr n) (.ref q)))) d=some (.dK (putK ks (Sum.inr n) (.ref q))):=upd_same
  have kk2:Kept [p,d,l] H (upd (upd (upd H q (.tup [.int w,.str n,.int s.stamp])) p (.ins C dx (lfs d l { s with stamp:=s.stamp+1 }))) d (.dK (putK ks (Sum.inr n) (.ref q)))):=fun b o e nb=>q2 b o e (fun z=>nb (z ▸ by simp)) (fun z=>nb (z ▸ by simp))
  generalize (upd (upd (upd H q (.tup [.int w,.str n,.int s.stamp])) p (.ins C dx (lfs d l { s with stamp:=s.stamp+1 }))) d (.dK (putK ks (Sum.inr n) (.ref q))))=H2 at q2 hq2 hp2 hd2 kk2 ⊢
  have t2:=kk2.tups LA.notup
  have hx2:=q2 l _ hx npl.symm ndl.symm
  unfold tNil
  dsimp only [List.cons_append,List.nil_append]
  refine lay_use hx2 (rr.stay t2) hq2 h1 fun ys H3 h3 rr3 k3=>?_
  have pn:p ∉ [l]:=fun z=>npl (List.mem_singleton.mp z)
  have dn':d ∉ [l]:=fun z=>ndl (List.mem_singleton.mp z)
  have hp3:=k3 p _ hp2 pn
  have t3:=k3.tups (fun b hb zs z=>by rw [List.mem_singleton.mp hb,hx2] at z; cases z)
  refine ⟨_,_,rfl,rfl,_,rfl,p,C,dx,_,rfl,hp3,L.cl,L.lk,by show 5 < 1000; decide,?_⟩
  have e6:=pf_lk (d:=d) (l:=l) (s:={ s with stamp:=s.stamp+1 }) (k:=(Hg.up lE s.row.length (s.row++[⟨w,n,(s.stamp:Int)⟩]) s.row.length 0).2)
  have e7:putF ("looks":Str) (.int ((s.looks:Int)+((Hg.up lE s.row.length (s.row++[⟨w,n,(s.stamp:Int)⟩]) s.row.length 0).2:Nat))) (lfs d l { s with stamp:=s.stamp+1 })=lfs d l (Gm.enter slt s n w):=e6
  rw [e7]
  have t4:∀ b zs,H3 b=some (.tup zs)→(upd H3 p (.ins C dx (lfs d l (Gm.enter slt s n w)))) b=some (.tup zs):=fun b zs z=>by rw [upd_ne (ne_of z hp3 (by intro y; cases y))]; exact z
  refine k _ ⟨⟨dx,upd_same⟩,⟨_,by rw [upd_ne npd.symm]; exact k3 d _ hd2 dn',((((kr.stay t2).put hq2).stay t3).stay t4)⟩,⟨ys,by rw [upd_ne npl.symm]; exact h3,rr3.stay t4⟩⟩ ?_
  exact (kk2.trans (k3.mono fun b hb=>by rw [List.mem_singleton.mp hb]; simp)).put (by simp)
abbrev sCut2:Stmt:=inClass (top 15) 9
theorem scCut2:FnScope ["self"] ["self"] (defScope sCut2):=⟨rfl,rfl,rfl,(by simp only [List.nodup_cons,List.mem_cons,List.not_mem_nil,or_false,not_or,List.nodup_nil,and_true,not_false_eq_true]; (repeat' apply And.intro); all_goals decide +kernel),rfl,by decide +kernel,by decide +kernel⟩
def spCut2 (C:Addr):Sp:=fun vs H Q _=>∃ (p d l:Addr) (s:LS),vs=[.ref p]∧LateAt C H p d l s∧0 < s.row.length∧s.row.length≤1000∧∀ H',LateAt C H' p d l (Gm.cut slt s)→Kept [p,l] H H'→Q .non H'
theorem cut_use {H:Hp} {r:Addr} {xs:List V} {es:List En} {Q:VK} {E:XK} (h:H r=some (.lst xs)) (rr:RR H xs es) (h0:0 < es.length) (hl:es.length≤1000)
  (k:∀ ys H',H' r=some (.lst ys)→RR H' ys (Hg.cutf lE es).1→Kept [r] H H'→Q (.int (Hg.cutf lE es).2) H'):spCut [.ref r] H Q E:=by
 refine ⟨r,xs,keyE H,rfl,h,rr.en,by rw [rr.len]; exact h0,by rw [rr.len]; exact hl,fun H' h' kp=>?_⟩
 have em:=cut_map (H:=H) (xs:=xs)
 rw [rr.eq] at em
 have kk:Kept [r] H H':=fun b o q n=>kp b o q fun z=>n (List.mem_singleton.mpr z)
 have:=k _ H' h' (by
  rw [em]
  have r2:=rr.sub (ys:=(cutf (ltT (keyE H)) xs).1) fun y hy=>(cutf_perm (by rw [rr.len]; exact h0)).mem_iff.mp (List.mem_cons_of_mem _ hy)
  exact r2.stay (kk.tups fun b hb ys z=>by rw [List.mem_singleton.mp hb,h] at z; cases z)) kk
 rw [em] at this
 exact this
theorem ok_cut2 {f C fa:Addr} {fd fda:FuncData} (F:Fun K "cut" "Late.cut" sCut2 f fd) (T:Bl mg) (L:LT K C) (Gcut_first:FnOk P w K mg base CX0 3 fa fda ["heap"] spCut) (Dcut_first:Nm K mg "cut_first" fa fda ["heap"]):FnOk P w K mg base CX0 4 f fd ["self"] (spCut2 C):=by
 have sc:=scCut2
 refine F.ok scCut2 (fun vs H Q E h=>?_) (fun cdv A outer s H vs Q E hr h=>?_)
 ·obtain ⟨p,d,l,s,rfl,_⟩:=h
  rfl
 ·obtain ⟨p,d,l,s,rfl,LA,h0,h1,k⟩:=h
  have hu:=hr.units0
  have npd:=LA.npd
  have npl:=LA.npl
  have ndl:=LA.ndl
  obtain ⟨dx,hp⟩:=LA.ob
  obtain ⟨ks,hd,kr⟩:=LA.dc
  obtain ⟨xs,hx,rr⟩:=LA.ls
  refine ⟨_,(QSs.to (qss_one (qs_fld (qv 0) (qe_op op_add (qe_fld (qv 0) rfl) (qe_call Gcut_first (hr.mono (by decide)) rfl Dcut_first.m Dcut_first.k Dcut_first.b .nil pass0 (qa_cons (qe_fld (qv 0) rfl) qa_nil))) rfl))),?_⟩
  refine ⟨_,rfl,p,C,dx,_,_,rfl,hp,L.cl,L.lk,lf_lk,_,rfl,p,C,dx,_,_,rfl,hp,L.cl,L.en,lf_en,?_⟩
  unfold tNil
  dsimp only [List.cons_append,List.nil_append]
  refine cut_use hx rr h0 h1 fun ys H3 h3 rr3 k3=>?_
  have pn:p ∉ [l]:=fun z=>npl (List.mem_singleton.mp z)
  have dn':d ∉ [l]:=fun z=>ndl (List.mem_singleton.mp z)
  have hp3:=k3 p _ hp pn
  have t3:=k3.tups (fun b hb zs z=>by rw [List.mem_singleton.mp hb,hx] at z; cases z)
  refine ⟨_,_,rfl,rfl,_,rfl,p,C,dx,_,rfl,hp3,L.cl,L.lk,by show 5 < 1000; decide,?_⟩
  have e7:putF ("looks":Str) (.int ((s.looks:Int)+((Hg.cutf lE s.row).2:Nat))) (lfs d l s)=lfs d l (Gm.cut slt s):=pf_lk
  rw [e7]
  have t4:∀ b zs,H3 b=some (.tup zs)→(upd H3 p (.ins C dx (lfs d l (Gm.cut slt s)))) b=some (.tup zs):=fun b zs z=>by rw [upd_ne (ne_of z hp3 (by intro y; cases y))]; exact z
  refine k _ ⟨⟨dx,upd_same⟩,⟨ks,by rw [upd_ne npd.symm]; exact k3 d _ hd dn',(kr.stay t3).stay t4⟩,⟨ys,by rw [upd_ne npl.symm]; exact h3,rr3.stay t4⟩⟩ ?_
  exact (k3.mono fun b hb=>by rw [List.mem_singleton.mp hb]; simp).put (by simp)
end
end Kx
end
section
namespace Kx
open PySem L2
section
variable {P:Program} {w:World} {K:PySem.W.Frag} {mg:Str→Option Value} {base:Heap}
open Hm
theorem LateAt.fresh {C p d l l':Addr} {H H2:Hp} {s:LS} (L:LateAt C H2 p d l s) (k:Kept [p,d,l] H H2) (z:H2 l'=none):H l'=none:=by
 obtain ⟨dx,h1⟩:=L.ob
 obtain ⟨ks,h2,_⟩:=L.dc
 obtain ⟨xs,h3,_⟩:=L.ls
 refine k.none z fun hb=>?_
 simp only [List.mem_cons,List.not_mem_nil,or_false] at hb
 rcases hb with rfl | rfl | rfl
 ·rw [h1] at z; cases z
 ·rw [h2] at z; cases z
 ·rw [h3] at z; cases z
theorem order_use {H:Hp} {r:Addr} {xs:List V} {es:List En} {Q:VK} {E:XK} (h:H r=some (.lst xs)) (rr:RR H xs es) (hl:es.length≤1000)
  (k:∀ ys H',H' r=some (.lst ys)→RR H' ys (Hg.mk lE (es.length / 2) es 0).1→Kept [r] H H'→Q (.int (Hg.mk lE (es.length / 2) es 0).2) H'):spOrder [.ref r] H Q E:=by
 refine ⟨r,xs,keyE H,rfl,h,rr.en,by rw [rr.len]; exact hl,fun H' h' kp=>?_⟩
 have em:=mk_map (H:=H) (k:=xs.length / 2) (xs:=xs) (lk:=0)
 rw [rr.eq,rr.len] at em
 rw [rr.len] at h' ⊢
 have kk:Kept [r] H H':=fun b o q n=>kp b o q fun z=>n (List.mem_singleton.mpr z)
 have:=k _ H' h' (by
  rw [em]
  have r2:=rr.sub (ys:=(mk (ltT (keyE H)) (es.length / 2) xs 0).1) fun y hy=>mk_perm.mem_iff.mp hy
  exact r2.stay (kk.tups fun b hb ys z=>by rw [List.mem_singleton.mp hb,h] at z; cases z)) kk
 rw [em] at this
 exact this
abbrev sSweep:Stmt:=inClass (top 15) 11
theorem scSweep:FnScope ["self","gone"] ["self"] (defScope sSweep):=⟨rfl,rfl,rfl,(by simp only [List.nodup_cons,List.mem_cons,List.not_mem_nil,or_false,not_or,List.nodup_nil,and_true,not_false_eq_true]; (repeat' apply And.intro); all_goals decide +kernel),rfl,by decide +kernel,by decide +kernel⟩
def spSweep (C:Addr):Sp:=fun vs H Q _=>∃ (p d l:Addr) (s:LS),vs=[.ref p]∧LateAt C H p d l s∧s.row.length≤1000∧∀ l' H',LateAt C H' p d l' (Gm.sweep slt s)→Kept [p,d,l] H H'→Fr3 H l l'→Q .non H'
theorem filter_take {α:Type} {xs:List α} {f:α→Bool} {i:Nat} {x:α} (h:xs[i]?=some x):(xs.take (i+1)).filter f=(xs.take i).filter f++(if f x=true then [x] else []):=by
 rw [List.take_add_one,h,List.filter_append]
 congr 1
 show List.filter f [x]=_
 by_cases z:f x=true
 ·rw [if_pos z,List.filter_cons,if_pos z,List.filter_nil]
 ·rw [if_neg z,List.filter_cons,if_neg z,List.filter_nil]
theorem ok_sweepH {f C fa fholds:Addr} {fd fda fdholds:FuncData} (F:Fun K "sweep_if_due" "Late.sweep_if_due" sSweep f fd) (T:Bl mg) (L:LT K C) (Gorder:FnOkH P w K mg base CX0 3 fa fda ["heap"] spOrder) (Dorder:Nm K mg "order" fa fda ["heap"]) (Mholds:Meth K C "holds" fholds) (Gholds:FnOkH P w K mg base CX0 1 fholds fdholds ["self","entry"] (spHolds C)) (Bholds:Binds K fdholds ["self","entry"] []):FnOkH P w K mg base CX0 4 f fd ["self"] (spSweep C):=by
 have sc:=scSweep
 refine F.okH scSweep (fun vs H Q E h=>?_) (fun cdv A outer s H vs Q E pn hr hh h=>?_)
 ·obtain ⟨p,d,l,s,rfl,_⟩:=h
  rfl
 ·obtain ⟨p,d,l,s,rfl,LA,h1,kQ⟩:=h
  have hu:=hr.units0
  have npd:=LA.npd
  have npl:=LA.npl
  have ndl:=LA.ndl
  obtain ⟨dx,hp⟩:=LA.ob
  obtain ⟨ks,hd,kr⟩:=LA.dc
  obtain ⟨xs,hx,rr⟩:=LA.ls
  refine ⟨_,((qss_cons (qs_set (i:=1) sc.nd rfl (Or.inl rfl) (qe_op op_sub (qe_callB call_len_seq (by rfl) T.z_len (by decide +kernel) (qa_cons (qe_fld (qv 0) rfl) qa_nil)) (qe_callB call_lenD (by rfl) T.z_len (by decide +kernel) (qa_cons (qe_fld (qv 0) rfl) qa_nil))))
   (qss_one (qs_if (QW.pt (qw_and (qt_cmpR op_gt (qv 1) (qe_callB call_lenD (by rfl) T.z_len (by decide +kernel) (qa_cons (qe_fld (qv 0) rfl) qa_nil)) (nomark _)) (qw_and1 (qt_cmpR op_gt (qv 1) (qe_fld (qv 0) rfl) (nomark _))))) (qss_cons (qs_fld (qv 0) (qe_compH (Blk.of (N:=["self","gone"]) (esc:=defScope sSweep) (NB:=["self"]) (cap:=[0]) rfl rfl (fun y hy=>cell_has hy) rfl (by decide +kernel) (by decide +kernel) (by decide +kernel) rfl (by decide +kernel) rfl (by decide +kernel)) hh rfl (qi_listH (qe_fld (qv 0) rfl)) (fun C fp s₀ H₀=>(qts_one (qt_val (qe_methH (qv 1) L.cl Mholds Gholds (hr.mono (by decide)) hh Bholds .nil pass0 (qa_cons (qv 0) qa_nil))))) (fun C fp s₀ H₀=>(qv 0))) rfl)
   (qss_one (qs_fld (qv 0) (qe_op op_add (qe_fld (qv 0) rfl) (qe_callH Gorder (hr.mono (by decide)) hh rfl Dorder.m Dorder.k Dorder.b .nil pass0 (qa_cons (qe_fld (qv 0) rfl) qa_nil))) rfl))) qss_nil)))),?_⟩
  refine ⟨_,rfl,p,C,dx,_,_,rfl,hp,L.cl,L.en,lf_en,l,_,rfl,.inl (SqL.of hx),_,rfl,p,C,dx,_,_,rfl,hp,L.cl,L.nt.th,lf_th,d,ks,rfl,hd,_,_,rfl,rfl,?_⟩
  have lx:(xs.length:Int)=s.row.length:=by rw [rr.len]
  have lk:(ks.length:Int)=s.there.length:=by rw [kr.len]
  rw [lx,lk]
  have no:∀ (hn:¬ Gm.due s=true),Q .non H:=fun hn=>by
   have e:Gm.sweep slt s=s:=by unfold Gm.sweep; rw [if_neg hn]
   refine kQ l H (by rw [e]; exact LA) Kept.refl (.inl rfl)
  refine ⟨_,rfl,_,rfl,p,C,dx,_,_,rfl,hp,L.cl,L.nt.th,lf_th,d,ks,rfl,hd,_,_,rfl,rfl,_,rfl,?_⟩
  rw [lk]
  refine ite2 (fun c1=>⟨_,rfl,_,rfl,p,C,dx,_,_,rfl,hp,L.cl,L.sk,lf_sk,_,_,rfl,rfl,_,rfl,ite2 (fun c2=>?_) (fun c2=>no ?_)⟩) (fun c1=>iteF (no ?_))
  rotate_left
  ·unfold Gm.due
   rw [Bool.and_eq_true]
   exact fun z=>c2 z.2
  ·unfold Gm.due
   rw [Bool.and_eq_true]
   exact fun z=>c1 z.1
  have hdue:Gm.due s=true:=by
   unfold Gm.due
   rw [Bool.and_eq_true]
   exact ⟨c1,c2⟩
  refine ⟨_,rfl,p,C,dx,_,_,rfl,hp,L.cl,L.en,lf_en,l,rfl,⟨_,SqL.of hx⟩,fun D hD=>?_⟩
  refine comp_listR (K:=K) (a:=l) (xs:=xs) (fun i ys H4=>H4 D=some (.lst ys)∧ys=(xs.take i).filter (fun x=>Gm.holds s.there (tE H x))∧Same H H4) ⟨upd_same,rfl,same_new hD⟩ (fun i ys H4 z=>⟨z.1,SqL.of (z.2.2 _ _ hx)⟩) ?_ ?_
  ·rintro i x ys H4 hi ⟨h4,e4,s4⟩
   have mx:=List.mem_of_getElem? hi
   have li:i < xs.length:=(List.getElem?_eq_some_iff.mp hi).1
   obtain ⟨a,rfl,ha⟩:=rr.mem x mx
   refine ⟨_,rfl,p,dx,_,rfl,s4 _ _ hp,lf_no (by decide +kernel) (by decide +kernel) (by decide +kernel) (by decide +kernel) (by decide +kernel),_,rfl,p,dx,d,_,ks,s.there,a,tE H (.ref a),rfl,s4 _ _ hp,lf_th,s4 _ _ hd,kr.stay (fun b l h=>s4 _ _ h),s4 _ _ ha,_,rfl,?_⟩
   have ft:=filter_take (f:=fun x=>Gm.holds s.there (tE H x)) hi
   refine ite2 (fun c3=>⟨_,rfl,h4,?_,_,by lia,rfl,by lia,upd_same,?_,same_upd s4 hD⟩) (fun c3=>⟨_,by lia,rfl,by lia,h4,?_,s4⟩)
   ·rw [e4]
    exact Nat.lt_of_le_of_lt (Nat.le_trans (List.length_filter_le _ _) (List.length_take_le _ _)) (small1000 (by have:=rr.len; lia))
   ·rw [ft,if_pos c3,e4]
   ·rw [ft,if_neg c3,List.append_nil,e4]
  ·rintro ys H4 ⟨h4,e4,s4⟩
   rw [List.take_length] at e4
   have hp4:=s4 _ _ hp
   refine ⟨_,rfl,p,C,dx,_,rfl,hp4,L.cl,L.en,by show 5 < 1000; decide,?_⟩
   rw [pf_en]
   have npD:p≠D:=ne_of_none hp hD
   have ndD:d≠D:=ne_of_none hd hD
   have t5:∀ b zs,H b=some (.tup zs)→(upd H4 p (.ins C dx (lfs d D s))) b=some (.tup zs):=fun b zs z=>by rw [upd_ne (ne_of z hp (by intro y; cases y))]; exact s4 _ _ z
   have r5:RR (upd H4 p (.ins C dx (lfs d D s))) ys (s.row.filter (Gm.holds s.there)):=by
    have r0:=(rr.sub (ys:=ys) fun y hy=>by rw [e4] at hy; exact (List.mem_filter.mp hy).1).stay t5
    have em:ys.map (tE H)=s.row.filter (Gm.holds s.there):=by
     rw [e4,← rr.eq,List.filter_map]
     rfl
    rw [em] at r0
    exact r0
   have hD5:(upd H4 p (.ins C dx (lfs d D s))) D=some (.lst ys):=by rw [upd_ne npD.symm]; exact h4
   have hd5:(upd H4 p (.ins C dx (lfs d D s))) d=some (.dK ks):=by rw [upd_ne npd.symm]; exact s4 _ _ hd
   have hp5:(upd H4 p (.ins C dx (lfs d D s))) p=some (.ins C dx (lfs d D s)):=upd_same
   have k5:Kept [p,d,l] H (upd H4 p (.ins C dx (lfs d D s))):=(Kept.of_same s4).put (by simp)
   generalize (upd H4 p (.ins C dx (lfs d D s)))=H5 at t5 r5 hD5 hd5 hp5 k5 ⊢
   refine ⟨_,rfl,p,C,dx,_,_,rfl,hp5,L.cl,L.lk,lf_lk,_,rfl,p,C,dx,_,_,rfl,hp5,L.cl,L.en,lf_en,?_⟩
   unfold tNil
   dsimp only [List.cons_append,List.nil_append]
   refine order_use hD5 r5 (Nat.le_trans (List.length_filter_le _ _) h1) fun zs H6 h6 r6 k6=>?_
   have pn:p ∉ [D]:=fun z=>npD (List.mem_singleton.mp z)
   have dn':d ∉ [D]:=fun z=>ndD (List.mem_singleton.mp z)
   have hp6:=k6 p _ hp5 pn
   have t6:=k6.tups (fun b hb zs z=>by rw [List.mem_singleton.mp hb,hD5] at z; cases z)
   refine ⟨_,_,rfl,rfl,_,rfl,p,C,dx,_,rfl,hp6,L.cl,L.lk,by show 5 < 1000; decide,?_⟩
   have e7:putF ("looks":Str) (.int ((s.looks:Int)+((Hg.mk lE ((s.row.filter (Gm.holds s.there)).length / 2) (s.row.filter (Gm.holds s.there)) 0).2:Nat))) (lfs d D s)=lfs d D (Gm.swept slt s):=pf_lk
   rw [e7]
   have es:Gm.sweep slt s=Gm.swept slt s:=by unfold Gm.sweep; rw [if_pos hdue]
   have t7:∀ b zs,H6 b=some (.tup zs)→(upd H6 p (.ins C dx (lfs d D (Gm.swept slt s)))) b=some (.tup zs):=fun b zs z=>by rw [upd_ne (ne_of z hp6 (by intro y; cases y))]; exact z
   refine kQ D _ (by rw [es]; exact ⟨⟨dx,upd_same⟩,⟨ks,by rw [upd_ne npd.symm]; exact k6 d _ hd5 dn',((kr.stay t5).stay t6).stay t7⟩,⟨zs,by rw [upd_ne npD.symm]; exact h6,r6.stay t7⟩⟩) ?_ (.inr hD)
   refine Kept.put (fun b o e nb=>?_) (by simp)
   exact k6 b o (k5 b o e nb) fun z=>by rw [List.mem_singleton.mp z] at e; rw [hD] at e; cases e
abbrev sLInit:Stmt:=inClass (top 15) 0
theorem scLInit:FnScope ["self","slack"] ["self","slack"] (defScope sLInit):=⟨rfl,rfl,rfl,(by simp only [List.nodup_cons,List.mem_cons,List.not_mem_nil,or_false,not_or,List.nodup_nil,and_true,not_false_eq_true]; (repeat' apply And.intro); all_goals decide +kernel),rfl,by decide +kernel,by decide +kernel⟩
def spLInit (C:Addr):Sp:=fun vs H Q _=>∃ (p dx:Addr) (z:Int),vs=[.ref p,.int z]∧H p=some (.ins C dx [])∧∀ d l H',H d=none→H l=none→LateAt C H' p d l (Gm.newL z)→Kept [p] H H'→Q .non H'
theorem ok_Late__init__ {f C CNamed fa:Addr} {mc:Value} {fd fda:FuncData} (F:Fun K "__init__" "Late.__init__" sLInit f fd) (T:Bl mg) (L:LT K C) (mNamed:mg "Named"=some (.ref CNamed)) (MNamed__init__:ClsM K CNamed mc "__init__" fa) (GNamed__init__:FnOk P w K mg base CX0 1 fa fda ["self"] (spNInit C)) (BNamed__init__:Binds K fda ["self"] []):FnOk P w K mg base CX0 2 f fd ["self","slack"] (spLInit C):=by
 have sc:=scLInit
 refine F.ok scLInit (fun vs H Q E h=>?_) (fun cdv A outer s H vs Q E hr h=>?_)
 ·obtain ⟨p,dx,z,rfl,_⟩:=h
  rfl
 ·obtain ⟨p,dx,z,rfl,hp,kQ⟩:=h
  have hu:=hr.units0
  refine ⟨_,(QSs.to (qss_cons (qs_expr (qe_clsm (qe_glob (v:=.ref CNamed) rfl mNamed rfl) MNamed__init__ GNamed__init__ (hr.mono (by decide)) BNamed__init__ .nil pass0 (qa_cons (qv 0) qa_nil)))
   (qss_cons (qs_fld (qv 0) (qv 1) rfl)
   (qss_cons (qs_fld (qv 0) (qe_lst qa_nil) rfl)
   (qss_one (qs_fld (qv 0) qe_int rfl)))))),?_⟩
  refine ⟨_,rfl,p,dx,rfl,hp,fun d hd=>?_⟩
  have npd:p≠d:=ne_of_none hp hd
  refine ⟨_,rfl,_,rfl,p,C,dx,_,rfl,upd_same,L.cl,L.sk,by show 2 < 1000; decide,?_⟩
  refine ⟨by show 0≤sizeLine; decide,fun l hl=>?_⟩
  have hl0:H l=none:=by
   cases q:H l with
   | none=>rfl
   | some o =>
    have h1:l≠p:=fun z=>by rw [z,upd_same] at hl; cases hl
    have h2:l≠d:=fun z=>by rw [z,hd] at q; cases q
    rw [upd_ne h1,upd_ne h1,upd_ne h1,upd_ne h2,q] at hl
    cases hl
  have npl:p≠l:=ne_of_none hp hl0
  have ndl:d≠l:=fun z=>by rw [← z,upd_ne npd.symm,upd_ne npd.symm,upd_ne npd.symm,upd_same] at hl; cases hl
  refine ⟨_,rfl,p,C,dx,_,rfl,by rw [upd_ne npl,upd_same],L.cl,L.en,by show 3 < 1000; decide,?_⟩
  refine ⟨_,rfl,p,C,dx,_,rfl,upd_same,L.cl,L.lk,by show 4 < 1000; decide,?_⟩
  have e1:putF ("looks":Str) (.int 0) (putF ("entries":Str) (.ref l) (putF ("slack":Str) (.int z) [("there",V.ref d),("stamp",V.int 0)]))=lfs d l (Gm.newL z):=by
   rw [pf_ne d1,pf_ne d4]
   show putF ("looks":Str) (.int 0) (putF ("entries":Str) (.ref l) [("there",V.ref d),("stamp",V.int 0),("slack",V.int z)])=_
   rw [pf_ne d2,pf_ne d5,pf_ne d7]
   show putF ("looks":Str) (.int 0) [("there",V.ref d),("stamp",V.int 0),("slack",V.int z),("entries",.ref l)]=_
   rw [pf_ne d3,pf_ne d6,pf_ne d8,pf_ne d9]
   rfl
  rw [e1]
  refine kQ d l _ hd hl0 ⟨⟨dx,upd_same⟩,⟨[],?_,.nil⟩,⟨[],?_,RR.nil⟩⟩ fun b o e nb=>?_
  ·rw [upd_ne npd.symm,upd_ne npd.symm,upd_ne ndl,upd_ne npd.symm,upd_ne npd.symm,upd_ne npd.symm,upd_same]
  ·rw [upd_ne npl.symm,upd_ne npl.symm,upd_same]
  ·have hb:b≠p:=fun z=>nb (List.mem_singleton.mpr z)
   rw [upd_ne hb,upd_ne hb,upd_ne (ne_of_none e hl0),upd_ne hb,upd_ne hb,upd_ne hb,upd_ne (ne_of_none e hd)]
   exact e
abbrev sFirst:Stmt:=inClass (top 15) 10
theorem scFirst:FnScope ["self"] ["self"] (defScope sFirst):=⟨rfl,rfl,rfl,(by simp only [List.nodup_cons,List.mem_cons,List.not_mem_nil,or_false,not_or,List.nodup_nil,and_true,not_false_eq_true]; (repeat' apply And.intro); all_goals decide +kernel),rfl,by decide +kernel,by decide +kernel⟩
def spFirst (C X:Addr):Sp:=fun vs H Q E=>∃ (p d l:Addr) (s:LS),vs=[.ref p]∧LateAt C H p d l s∧Gm.LInv slt s∧s.row.length≤1000 ∧
 (s.there≠[]→∀ a H',LateAt C H' p d l (Gm.leastL slt s)→H' a=some (.tup (enV (Hg.g (Gm.leastL slt s).row 0)))→Kept [p,d,l] H H'→Q (.ref a) H')∧(s.there=[]→E (.ref X) none H)
theorem ok_first_there {f C CN:Addr} {fneed_any fholds fcut:Addr} {fdneed_any fdholds fdcut:FuncData} {fd:FuncData} (F:Fun K "first_there" "Late.first_there" sFirst f fd) (T:Bl mg) (L:LT K C) (Mneed_any:Meth K C "need_any" fneed_any) (Gneed_any:FnOk P w K mg base (CXe P w) 1 fneed_any fdneed_any ["self"] (spAny C CN)) (Bneed_any:Binds K fdneed_any ["self"] []) (Mholds:Meth K C "holds" fholds) (Gholds:FnOk P w K mg base CX0 1 fholds fdholds ["self","entry"] (spHolds C)) (Bholds:Binds K fdholds ["self","entry"] []) (Mcut:Meth K C "cut" fcut) (Gcut:FnOk P w K mg base CX0 4 fcut fdcut ["self"] (spCut2 C)) (Bcut:Binds K fdcut ["self"] []):FnOk P w K mg base (CXe P w) 5 f fd ["self"] (spFirst C CN):=by
 have sc:=scFirst
 refine F.okE scFirst (fun vs H Q E h=>?_) (fun cdv A outer s H vs Q E hr h=>?_)
 ·obtain ⟨p,d,l,s,rfl,_⟩:=h
  rfl
 ·obtain ⟨p,d,l,s,rfl,LA,LI,h1,kQ,kE⟩:=h
  have hu:=hr.units0
  have npd:=LA.npd
  have npl:=LA.npl
  have ndl:=LA.ndl
  obtain ⟨dx,hp⟩:=LA.ob
  obtain ⟨ks,hd,kr⟩:=LA.dc
  obtain ⟨xs,hx,rr⟩:=LA.ls
  refine ⟨_,(QSs.to (qss_cons (qs_expr (qe_meth0 (qv 0) L.cl Mneed_any Gneed_any (hr.mono (by decide)) Bneed_any .nil (pass_on fun _ _ z=>z))) (QSs.mk (PSs.nox (QSs.to (qss_cons (qs_while PassesOwn.never (qt_not (qt_val (qe_meth (qv 0) L.cl Mholds Gholds (hr.mono (by decide)) Bholds .nil pass0 (qa_cons (qe_ix ix_list (qe_fld (qv 0) rfl) qe_int (fun _ _=>rfl)) qa_nil)))) (qss_one (qs_expr (qe_meth0 (qv 0) L.cl Mcut Gcut (hr.mono (by decide)) Bcut .nil pass0))))
   (qss_one (qs_ret (qe_ix ix_list (qe_fld (qv 0) rfl) qe_int (fun _ _=>rfl)))))))))),?_⟩
  refine ⟨_,rfl,p,dx,_,rfl,hp,lf_no (by decide +kernel) (by decide +kernel) (by decide +kernel) (by decide +kernel) (by decide +kernel),p,dx,d,_,ks,rfl,hp,lf_th,hd,fun hne=>?_,fun he=>kE ?_⟩
  rotate_left
  ·rw [he] at kr
   cases e:s.there with
   | nil=>rfl
   | cons a b=>rw [e] at kr; cases kr
  have hT:s.there≠[]:=fun z=>hne (by rw [z] at kr; cases kr; rfl)
  refine ⟨fun m σ H2=>∃ (f:Nat) (s2:LS),σ=[some (.ref p)]∧LateAt C H2 p d l s2∧Gm.LInv slt s2∧s2.there=s.there∧s2.row.length≤f∧s2.row.length≤s.row.length∧Gm.clean slt f s2=Gm.leastL slt s∧Kept [p,d,l] H H2∧m=s2.row.length,
   ⟨_,s.row.length,s,rfl,LA,LI,rfl,Nat.le_refl _,Nat.le_refl _,rfl,Kept.refl,rfl⟩,?_⟩
  rintro m σ H2 ⟨f,s2,rfl,LA2,LI2,e2,hf,hle,hc,k2,rfl⟩
  obtain ⟨dx2,hp2⟩:=LA2.ob
  obtain ⟨ks2,hd2,kr2⟩:=LA2.dc
  obtain ⟨xs2,hx2,rr2⟩:=LA2.ls
  have h0:=Gm.row_pos LI2 (by rw [e2]; exact hT)
  obtain ⟨a,ea,ha,ia⟩:=rr2.at h0
  refine ⟨_,rfl,p,dx2,_,rfl,hp2,lf_no (by decide +kernel) (by decide +kernel) (by decide +kernel) (by decide +kernel) (by decide +kernel),_,rfl,p,C,dx2,_,_,rfl,hp2,L.cl,L.en,lf_en,l,_,_,_,rfl,rfl,SqL.of hx2,ia,p,dx2,d,_,ks2,s2.there,a,_,rfl,hp2,lf_th,hd2,kr2,ha,_,rfl,ite2 (fun c1=>?_) (fun c1=>?_)⟩
  rotate_left
  ·have c2:Gm.holds s2.there (Hg.g s2.row 0)=true:=by
    cases z:Gm.holds s2.there (Hg.g s2.row 0) with
    | true=>rfl
    | false=>exact absurd (show (!Gm.holds s2.there (Hg.g s2.row 0))=true by rw [z]; rfl) c1
   have ec:Gm.leastL slt s=s2:=by
    rw [← hc]
    cases f with
    | zero=>rfl
    | succ f=>unfold Gm.clean; rw [if_pos c2]
   refine ⟨_,rfl,p,C,dx2,_,_,rfl,hp2,L.cl,L.en,lf_en,l,_,_,_,rfl,rfl,SqL.of hx2,ia,?_⟩
   exact kQ hT a H2 (by rw [ec]; exact LA2) (by rw [ec]; exact ha) k2
  ·have c2:¬ Gm.holds s2.there (Hg.g s2.row 0)=true:=fun z=>by
    have c3:(!Gm.holds s2.there (Hg.g s2.row 0))=true:=c1
    rw [z] at c3; cases c3
   obtain ⟨f,rfl⟩:∃ f0,f=f0+1:=⟨f - 1,by lia⟩
   have hc2:Gm.clean slt f (Gm.cut slt s2)=Gm.leastL slt s:=by
    rw [← hc]
    conv=>rhs; unfold Gm.clean
    rw [if_neg c2]
   have lc:(Gm.cut slt s2).row.length=s2.row.length - 1:=Hg.cutf_len
   refine ⟨fun σ' H'=>∃ m',m' < s2.row.length∧∃ (f:Nat) (s2:LS),σ'=[some (.ref p)]∧LateAt C H' p d l s2∧Gm.LInv slt s2∧s2.there=s.there∧s2.row.length≤f∧s2.row.length≤s.row.length∧Gm.clean slt f s2=Gm.leastL slt s∧Kept [p,d,l] H H'∧m'=s2.row.length,fun σ' H' z=>z,?_⟩
   refine ⟨_,rfl,p,dx2,_,rfl,hp2,lf_no (by decide +kernel) (by decide +kernel) (by decide +kernel) (by decide +kernel) (by decide +kernel),p,d,l,s2,rfl,LA2,h0,by lia,fun H3 L3 k3=>?_⟩
   exact ⟨(Gm.cut slt s2).row.length,by lia,f,Gm.cut slt s2,rfl,L3,Gm.cut_inv slt_slo LI2 h0 c2,e2,by lia,by lia,hc2,k2.trans (k3.mono fun b hb=>by simp only [List.mem_cons,List.not_mem_nil,or_false] at hb ⊢; rcases hb with h | h <;> simp [h]),rfl⟩
abbrev sPutM:Stmt:=inClass (top 15) 1
theorem scPutM:FnScope ["self","name","worth"] ["self","name","worth"] (defScope sPutM):=⟨rfl,rfl,rfl,(by simp only [List.nodup_cons,List.mem_cons,List.not_mem_nil,or_false,not_or,List.nodup_nil,and_true,not_false_eq_true]; (repeat' apply And.intro); all_goals decide +kernel),rfl,by decide +kernel,by decide +kernel⟩
def spPutM (C X:Addr):Sp:=fun vs H Q E=>∃ (p d l:Addr) (s:LS) (n:Str) (w:Int),vs=[.ref p,.str n,.int w]∧LateAt C H p d l s∧s.row.length≤900∧s.there.length≤900∧n.length≤1000 ∧
 (Gm.dget s.there n=none→∀ l' H',LateAt C H' p d l' (Gm.putL slt s n w)→Kept [p,d,l] H H'→Fr3 H l l'→Q .non H')∧(Gm.dget s.there n≠none→E (.ref X) none H)
theorem ok_put {f C CC:Addr} {fneed_free fsweep_if_due fenter:Addr} {fdneed_free fdsweep_if_due fdenter:FuncData} {fd:FuncData} (F:Fun K "put" "Late.put" sPutM f fd) (T:Bl mg) (L:LT K C) (Mneed_free:Meth K C "need_free" fneed_free) (Gneed_free:FnOk P w K mg base (CXe P w) 1 fneed_free fdneed_free ["self","name"] (spFree C CC)) (Bneed_free:Binds K fdneed_free ["self","name"] []) (Msweep_if_due:Meth K C "sweep_if_due" fsweep_if_due) (Gsweep_if_due:FnOk P w K mg base CX0 4 fsweep_if_due fdsweep_if_due ["self"] (spSweep C)) (Bsweep_if_due:Binds K fdsweep_if_due ["self"] []) (Menter:Meth K C "enter" fenter) (Genter:FnOk P w K mg base CX0 4 fenter fdenter ["self","name","worth"] (spEnter C)) (Benter:Binds K fdenter ["self","name","worth"] []):FnOk P w K mg base (CXe P w) 5 f fd ["self","name","worth"] (spPutM C CC):=by
 have sc:=scPutM
 refine F.okE scPutM (fun vs H Q E h=>?_) (fun cdv A outer s H vs Q E hr h=>?_)
 ·obtain ⟨p,d,l,s,n,w,rfl,_⟩:=h
  rfl
 ·obtain ⟨p,d,l,s,n,w,rfl,LA,h1,h2,hn,kQ,kE⟩:=h
  have hu:=hr.units0
  have npd:=LA.npd
  have npl:=LA.npl
  have ndl:=LA.ndl
  obtain ⟨dx,hp⟩:=LA.ob
  obtain ⟨ks,hd,kr⟩:=LA.dc
  obtain ⟨xs,hx,rr⟩:=LA.ls
  refine ⟨_,(QSs.to (qss_cons (qs_expr (qe_meth (qv 0) L.cl Mneed_free Gneed_free (hr.mono (by decide)) Bneed_free .nil (pass_on fun _ _ z=>z) (qa_cons (qv 1) qa_nil)))
   (qss_cons (qs_expr (qe_meth (qv 0) L.cl Menter Genter (hr.mono (by decide)) Benter .nil pass0 (qa_cons (qv 1) (qa_cons (qv 2) qa_nil))))
   (qss_one (qs_expr (qe_meth0 (qv 0) L.cl Msweep_if_due Gsweep_if_due (hr.mono (by decide)) Bsweep_if_due .nil pass0)))))),?_⟩
  refine ⟨_,rfl,p,dx,_,rfl,hp,lf_no (by decide +kernel) (by decide +kernel) (by decide +kernel) (by decide +kernel) (by decide +kernel),_,rfl,p,dx,d,_,ks,n,rfl,hp,lf_th,hd,hn,fun cs=>?_,fun cs=>?_⟩
  ·rcases kr.get n with ⟨e1,e2⟩ | ⟨a,e,e1,e2,ha⟩
   rotate_left
   ·rw [e1] at cs; cases cs
   refine ⟨_,rfl,p,dx,_,rfl,hp,lf_no (by decide +kernel) (by decide +kernel) (by decide +kernel) (by decide +kernel) (by decide +kernel),_,rfl,_,rfl,p,d,l,s,n,w,rfl,LA,by lia,by lia,fun H2 L2 k2=>?_⟩
   obtain ⟨dx2,hp2⟩:=L2.ob
   refine ⟨_,rfl,p,dx2,_,rfl,hp2,lf_no (by decide +kernel) (by decide +kernel) (by decide +kernel) (by decide +kernel) (by decide +kernel),p,d,l,_,rfl,L2,?_,fun l' H3 L3 k3 f3=>?_⟩
   ·show (Gm.enter slt s n w).row.length≤1000
    rw [Gm.enter_row_perm.length_eq,List.length_append]
    show s.row.length+1≤1000
    lia
   ·exact kQ e2 l' H3 L3 (k2.trans k3) (f3.imp id fun z=>L2.fresh k2 z)
  ·rcases kr.get n with ⟨e1,e2⟩ | ⟨a,e,e1,e2,ha⟩
   ·rw [e1] at cs; cases cs
   ·exact kE (by rw [e2]; intro z; cases z)
abbrev sDropM:Stmt:=inClass (top 15) 2
theorem scDropM:FnScope ["self","name"] ["self","name"] (defScope sDropM):=⟨rfl,rfl,rfl,(by simp only [List.nodup_cons,List.mem_cons,List.not_mem_nil,or_false,not_or,List.nodup_nil,and_true,not_false_eq_true]; (repeat' apply And.intro); all_goals decide +kernel),rfl,by decide +kernel,by decide +kernel⟩
def spDropM (C X:Addr):Sp:=fun vs H Q E=>∃ (p d l:Addr) (s:LS) (n:Str),vs=[.ref p,.str n]∧LateAt C H p d l s∧s.row.length≤900∧s.there.length≤900∧n.length≤1000 ∧
 (Gm.dget s.there n≠none→∀ l' H',LateAt C H' p d l' (Gm.dropL slt s n)→Kept [p,d,l] H H'→Fr3 H l l'→Q .non H')∧(Gm.dget s.there n=none→E (.ref X) none H)
theorem ok_drop {f C CN:Addr} {fneed fsweep_if_due:Addr} {fdneed fdsweep_if_due:FuncData} {fd:FuncData} (F:Fun K "drop" "Late.drop" sDropM f fd) (T:Bl mg) (L:LT K C) (Mneed:Meth K C "need" fneed) (Gneed:FnOk P w K mg base (CXe P w) 1 fneed fdneed ["self","name"] (spNeed C CN)) (Bneed:Binds K fdneed ["self","name"] []) (Msweep_if_due:Meth K C "sweep_if_due" fsweep_if_due) (Gsweep_if_due:FnOk P w K mg base CX0 4 fsweep_if_due fdsweep_if_due ["self"] (spSweep C)) (Bsweep_if_due:Binds K fdsweep_if_due ["self"] []):FnOk P w K mg base (CXe P w) 5 f fd ["self","name"] (spDropM C CN):=by
 have sc:=scDropM
 refine F.okE scDropM (fun vs H Q E h=>?_) (fun cdv A outer s H vs Q E hr h=>?_)
 ·obtain ⟨p,d,l,s,n,rfl,_⟩:=h
  rfl
 ·obtain ⟨p,d,l,s,n,rfl,LA,h1,h2,hn,kQ,kE⟩:=h
  have hu:=hr.units0
  have npd:=LA.npd
  have npl:=LA.npl
  have ndl:=LA.ndl
  obtain ⟨dx,hp⟩:=LA.ob
  obtain ⟨ks,hd,kr⟩:=LA.dc
  obtain ⟨xs,hx,rr⟩:=LA.ls
  refine ⟨_,(QSs.to (qss_cons (qs_expr (qe_meth (qv 0) L.cl Mneed Gneed (hr.mono (by decide)) Bneed .nil (pass_on fun _ _ z=>z) (qa_cons (qv 1) qa_nil)))
   (qss_cons (qs_expr (qe_dpop1 (qe_fld (qv 0) rfl) (qv 1) ⟨rfl,rfl,rfl,rfl⟩))
   (qss_one (qs_expr (qe_meth0 (qv 0) L.cl Msweep_if_due Gsweep_if_due (hr.mono (by decide)) Bsweep_if_due .nil pass0)))))),?_⟩
  refine ⟨_,rfl,p,dx,_,rfl,hp,lf_no (by decide +kernel) (by decide +kernel) (by decide +kernel) (by decide +kernel) (by decide +kernel),_,rfl,p,dx,d,_,ks,n,rfl,hp,lf_th,hd,hn,fun cs=>?_,fun cs=>?_⟩
  ·rcases kr.get n with ⟨e1,e2⟩ | ⟨a,e,e1,e2,ha⟩
   ·rw [e1] at cs; cases cs
   refine ⟨_,rfl,p,C,dx,_,_,rfl,hp,L.cl,L.nt.th,lf_th,d,rfl,.inl ⟨ks,.inl hd⟩,_,rfl,ks,Sum.inr n,_,hd,rfl,e1,?_⟩
   have tt:∀ b zs,H b=some (.tup zs)→(upd H d (.dK (dropK ks (Sum.inr n)))) b=some (.tup zs):=fun b zs z=>by rw [upd_ne (ne_of z hd (by intro y; cases y))]; exact z
   have L2:LateAt C (upd H d (.dK (dropK ks (Sum.inr n)))) p d l (Gm.dropT s n):=⟨⟨dx,by rw [upd_ne npd]; exact hp⟩,⟨_,upd_same,(kr.drop n).stay tt⟩,⟨xs,by rw [upd_ne ndl.symm]; exact hx,rr.stay tt⟩⟩
   have k2:Kept [p,d,l] H (upd H d (.dK (dropK ks (Sum.inr n)))):=Kept.refl.put (by simp)
   obtain ⟨dx2,hp2⟩:=L2.ob
   refine ⟨_,rfl,p,dx2,_,rfl,hp2,lf_no (by decide +kernel) (by decide +kernel) (by decide +kernel) (by decide +kernel) (by decide +kernel),p,d,l,_,rfl,L2,?_,fun l' H3 L3 k3 f3=>?_⟩
   ·show s.row.length≤1000
    lia
   ·exact kQ (by rw [e2]; intro z; cases z) l' H3 L3 (k2.trans k3) (f3.imp id fun z=>L2.fresh k2 z)
  ·rcases kr.get n with ⟨e1,e2⟩ | ⟨a,e,e1,e2,ha⟩
   ·exact kE e2
   ·rw [e1] at cs; cases cs
def spDropH (C:Addr):Sp:=fun vs H Q _=>∃ (p d l:Addr) (s:LS) (n:Str),vs=[.ref p,.str n]∧LateAt C H p d l s∧s.row.length≤900∧s.there.length≤900∧Gm.dget s.there n≠none ∧
 ∀ l' H',LateAt C H' p d l' (Gm.dropL slt s n)→Kept [p,d,l] H H'→Fr3 H l l'→Q .non H'
theorem ok_dropH {f C:Addr} {fneed fsweep_if_due:Addr} {fdneed fdsweep_if_due:FuncData} {fd:FuncData} (F:Fun K "drop" "Late.drop" sDropM f fd) (T:Bl mg) (L:LT K C) (Mneed:Meth K C "need" fneed) (Gneed:FnOkH P w K mg base CX0 1 fneed fdneed ["self","name"] (spNeedH C)) (Bneed:Binds K fdneed ["self","name"] []) (Msweep_if_due:Meth K C "sweep_if_due" fsweep_if_due) (Gsweep_if_due:FnOkH P w K mg base CX0 4 fsweep_if_due fdsweep_if_due ["self"] (spSweep C)) (Bsweep_if_due:Binds K fdsweep_if_due ["self"] []):FnOkH P w K mg base CX0 5 f fd ["self","name"] (spDropH C):=by
 have sc:=scDropM
 refine F.okH scDropM (fun vs H Q E h=>?_) (fun cdv A outer s H vs Q E pn hr hh h=>?_)
 ·obtain ⟨p,d,l,s,n,rfl,_⟩:=h
  rfl
 ·obtain ⟨p,d,l,s,n,rfl,LA,h1,h2,hn,kQ⟩:=h
  have hu:=hr.units0
  have npd:=LA.npd
  have npl:=LA.npl
  have ndl:=LA.ndl
  obtain ⟨dx,hp⟩:=LA.ob
  obtain ⟨ks,hd,kr⟩:=LA.dc
  obtain ⟨xs,hx,rr⟩:=LA.ls
  refine ⟨_,(qss_cons (qs_expr (qe_methH (qv 0) L.cl Mneed Gneed (hr.mono (by decide)) hh Bneed .nil pass0 (qa_cons (qv 1) qa_nil)))
   (qss_cons (qs_expr (qe_dpop1 (qe_fld (qv 0) rfl) (qv 1) ⟨rfl,rfl,rfl,rfl⟩))
   (qss_one (qs_expr (qe_meth0H (qv 0) L.cl Msweep_if_due Gsweep_if_due (hr.mono (by decide)) hh Bsweep_if_due .nil pass0))))),?_⟩
  rcases kr.get n with ⟨e1,e2⟩ | ⟨a,e,e1,e2,ha⟩
  ·exact absurd e2 hn
  refine ⟨_,rfl,p,dx,_,rfl,hp,lf_no (by decide +kernel) (by decide +kernel) (by decide +kernel) (by decide +kernel) (by decide +kernel),_,rfl,p,dx,d,_,ks,n,rfl,hp,lf_th,hd,by rw [e1]; rfl,?_⟩
  refine ⟨_,rfl,p,C,dx,_,_,rfl,hp,L.cl,L.nt.th,lf_th,d,rfl,.inl ⟨ks,.inl hd⟩,_,rfl,ks,Sum.inr n,_,hd,rfl,e1,?_⟩
  have tt:∀ b zs,H b=some (.tup zs)→(upd H d (.dK (dropK ks (Sum.inr n)))) b=some (.tup zs):=fun b zs z=>by rw [upd_ne (ne_of z hd (by intro y; cases y))]; exact z
  have L2:LateAt C (upd H d (.dK (dropK ks (Sum.inr n)))) p d l (Gm.dropT s n):=⟨⟨dx,by rw [upd_ne npd]; exact hp⟩,⟨_,upd_same,(kr.drop n).stay tt⟩,⟨xs,by rw [upd_ne ndl.symm]; exact hx,rr.stay tt⟩⟩
  have k2:Kept [p,d,l] H (upd H d (.dK (dropK ks (Sum.inr n)))):=Kept.refl.put (by simp)
  obtain ⟨dx2,hp2⟩:=L2.ob
  refine ⟨_,rfl,p,dx2,_,rfl,hp2,lf_no (by decide +kernel) (by decide +kernel) (by decide +kernel) (by decide +kernel) (by decide +kernel),p,d,l,_,rfl,L2,?_,fun l' H3 L3 k3 f3=>?_⟩
  ·show s.row.length≤1000
   lia
  ·exact kQ l' H3 L3 (k2.trans k3) (f3.imp id fun z=>L2.fresh k2 z)
abbrev sLeastM:Stmt:=inClass (top 15) 4
theorem scLeastM:FnScope ["self","entry"] ["self"] (defScope sLeastM):=⟨rfl,rfl,rfl,(by simp only [List.nodup_cons,List.mem_cons,List.not_mem_nil,or_false,not_or,List.nodup_nil,and_true,not_false_eq_true]; (repeat' apply And.intro); all_goals decide +kernel),rfl,by decide +kernel,by decide +kernel⟩
def spLeastM (C X:Addr):Sp:=fun vs H Q E=>∃ (p d l:Addr) (s:LS),vs=[.ref p]∧LateAt C H p d l s∧Gm.LInv slt s∧s.row.length≤1000 ∧
 (s.there≠[]→∀ q H',LateAt C H' p d l (Gm.leastL slt s)→H' q=some (.tup [.int (Hg.g (Gm.leastL slt s).row 0).w,.str (Hg.g (Gm.leastL slt s).row 0).n])→Kept [p,d,l] H H'→Q (.ref q) H')∧(s.there=[]→E (.ref X) none H)
theorem ok_least {f C CN:Addr} {ffirst_there:Addr} {fdfirst_there:FuncData} {fd:FuncData} (F:Fun K "least" "Late.least" sLeastM f fd) (T:Bl mg) (L:LT K C) (Mfirst_there:Meth K C "first_there" ffirst_there) (Gfirst_there:FnOk P w K mg base (CXe P w) 5 ffirst_there fdfirst_there ["self"] (spFirst C CN)) (Bfirst_there:Binds K fdfirst_there ["self"] []):FnOk P w K mg base (CXe P w) 6 f fd ["self"] (spLeastM C CN):=by
 have sc:=scLeastM
 refine F.okE scLeastM (fun vs H Q E h=>?_) (fun cdv A outer s H vs Q E hr h=>?_)
 ·obtain ⟨p,d,l,s,rfl,_⟩:=h
  rfl
 ·obtain ⟨p,d,l,s,rfl,LA,LI,h1,kQ,kE⟩:=h
  have hu:=hr.units0
  have npd:=LA.npd
  have npl:=LA.npl
  have ndl:=LA.ndl
  obtain ⟨dx,hp⟩:=LA.ob
  obtain ⟨ks,hd,kr⟩:=LA.dc
  obtain ⟨xs,hx,rr⟩:=LA.ls
  refine ⟨_,(QSs.to (qss_cons (qs_set (i:=1) sc.nd rfl (Or.inl rfl) (qe_meth0 (qv 0) L.cl Mfirst_there Gfirst_there (hr.mono (by decide)) Bfirst_there .nil (pass_on fun _ _ z=>z)))
   (qss_one (qs_ret (qe_tup (qa_cons (qe_ix ix_tup (qv 1) qe_int (fun _ _=>rfl)) (qa_cons (qe_ix ix_tup (qv 1) qe_int (fun _ _=>rfl)) qa_nil))))))),?_⟩
  refine ⟨_,rfl,p,dx,_,rfl,hp,lf_no (by decide +kernel) (by decide +kernel) (by decide +kernel) (by decide +kernel) (by decide +kernel),p,d,l,s,rfl,LA,LI,h1,fun hT a H2 L2 ha k2=>?_,kE⟩
  refine ⟨_,rfl,a,_,_,_,rfl,rfl,SqT.of ha,rfl,_,rfl,a,_,_,_,rfl,rfl,SqT.of ha,rfl,by show 2≤sizeLine; decide,fun q hq=>?_⟩
  exact kQ hT q _ (L2.same (same_new hq)) upd_same (k2.new hq)
abbrev sTakeM:Stmt:=inClass (top 15) 5
theorem scTakeM:FnScope ["self","entry"] ["self"] (defScope sTakeM):=⟨rfl,rfl,rfl,(by simp only [List.nodup_cons,List.mem_cons,List.not_mem_nil,or_false,not_or,List.nodup_nil,and_true,not_false_eq_true]; (repeat' apply And.intro); all_goals decide +kernel),rfl,by decide +kernel,by decide +kernel⟩
def spTakeM (C X:Addr):Sp:=fun vs H Q E=>∃ (p d l:Addr) (s:LS),vs=[.ref p]∧LateAt C H p d l s∧Gm.LInv slt s∧s.row.length≤1000 ∧
 (s.there≠[]→∀ q l' H',LateAt C H' p d l' (Gm.takeL slt s)→H' q=some (.tup [.int (Hg.g (Gm.leastL slt s).row 0).w,.str (Hg.g (Gm.leastL slt s).row 0).n])→Kept [p,d,l] H H'→Fr3 H l l'→Q (.ref q) H')∧(s.there=[]→E (.ref X) none H)
theorem ok_take2 {f C CN:Addr} {ffirst_there fcut fsweep_if_due:Addr} {fdfirst_there fdcut fdsweep_if_due:FuncData} {fd:FuncData} (F:Fun K "take" "Late.take" sTakeM f fd) (T:Bl mg) (L:LT K C) (Mfirst_there:Meth K C "first_there" ffirst_there) (Gfirst_there:FnOk P w K mg base (CXe P w) 5 ffirst_there fdfirst_there ["self"] (spFirst C CN)) (Bfirst_there:Binds K fdfirst_there ["self"] []) (Mcut:Meth K C "cut" fcut) (Gcut:FnOk P w K mg base CX0 4 fcut fdcut ["self"] (spCut2 C)) (Bcut:Binds K fdcut ["self"] []) (Msweep_if_due:Meth K C "sweep_if_due" fsweep_if_due) (Gsweep_if_due:FnOk P w K mg base CX0 4 fsweep_if_due fdsweep_if_due ["self"] (spSweep C)) (Bsweep_if_due:Binds K fdsweep_if_due ["self"] []):FnOk P w K mg base (CXe P w) 6 f fd ["self"] (spTakeM C CN):=by
 have sc:=scTakeM
 refine F.okE scTakeM (fun vs H Q E h=>?_) (fun cdv A outer s H vs Q E hr h=>?_)
 ·obtain ⟨p,d,l,s,rfl,_⟩:=h
  rfl
 ·obtain ⟨p,d,l,s,rfl,LA,LI,h1,kQ,kE⟩:=h
  have hu:=hr.units0
  have npd:=LA.npd
  have npl:=LA.npl
  have ndl:=LA.ndl
  obtain ⟨dx,hp⟩:=LA.ob
  obtain ⟨ks,hd,kr⟩:=LA.dc
  obtain ⟨xs,hx,rr⟩:=LA.ls
  refine ⟨_,(QSs.to (qss_cons (qs_set (i:=1) sc.nd rfl (Or.inl rfl) (qe_meth0 (qv 0) L.cl Mfirst_there Gfirst_there (hr.mono (by decide)) Bfirst_there .nil (pass_on fun _ _ z=>z)))
   (qss_cons (qs_expr (qe_meth0 (qv 0) L.cl Mcut Gcut (hr.mono (by decide)) Bcut .nil pass0))
   (qss_cons (qs_expr (qe_dpop1 (qe_fld (qv 0) rfl) (qe_ix ix_tup (qv 1) qe_int (fun _ _=>rfl)) ⟨rfl,rfl,rfl,rfl⟩))
   (qss_cons (qs_expr (qe_meth0 (qv 0) L.cl Msweep_if_due Gsweep_if_due (hr.mono (by decide)) Bsweep_if_due .nil pass0))
   (qss_one (qs_ret (qe_tup (qa_cons (qe_ix ix_tup (qv 1) qe_int (fun _ _=>rfl)) (qa_cons (qe_ix ix_tup (qv 1) qe_int (fun _ _=>rfl)) qa_nil)))))))))),?_⟩
  refine ⟨_,rfl,p,dx,_,rfl,hp,lf_no (by decide +kernel) (by decide +kernel) (by decide +kernel) (by decide +kernel) (by decide +kernel),p,d,l,s,rfl,LA,LI,h1,fun hT a H2 L2 ha k2=>?_,kE⟩
  have cl:=Gm.least_ok slt_slo LI hT
  have hle:(Gm.leastL slt s).row.length≤1000:=Nat.le_trans (Gm.least_len) h1
  obtain ⟨dx2,hp2⟩:=L2.ob
  refine ⟨_,rfl,p,dx2,_,rfl,hp2,lf_no (by decide +kernel) (by decide +kernel) (by decide +kernel) (by decide +kernel) (by decide +kernel),p,d,l,_,rfl,L2,cl.pos,hle,fun H3 L3 k3=>?_⟩
  have k3':Kept [p,d,l] H2 H3:=k3.mono fun b hb=>by simp only [List.mem_cons,List.not_mem_nil,or_false] at hb ⊢; rcases hb with h | h <;> simp [h]
  have ha3:=k3'.tups L2.notup _ _ ha
  obtain ⟨dx3,hp3⟩:=L3.ob
  obtain ⟨ks3,hd3,kr3⟩:=L3.dc
  obtain ⟨xs3,hx3,rr3⟩:=L3.ls
  have hin:=Gm.holds_in cl.hold
  rcases kr3.get (Hg.g (Gm.leastL slt s).row 0).n with ⟨e1,e2⟩ | ⟨b,e',e1,e2,hb⟩
  ·have:=Gm.dget_of cl.inv.nd hin
   have e3:Gm.dget (Gm.leastL slt s).there (Hg.g (Gm.leastL slt s).row 0).n=none:=e2
   rw [e3] at this
   cases this
  refine ⟨_,rfl,p,C,dx3,_,_,rfl,hp3,L.cl,L.nt.th,lf_th,d,rfl,.inl ⟨ks3,.inl hd3⟩,_,rfl,a,_,_,_,rfl,rfl,SqT.of ha3,rfl,ks3,Sum.inr (Hg.g (Gm.leastL slt s).row 0).n,_,hd3,rfl,e1,?_⟩
  have tt:∀ b zs,H3 b=some (.tup zs)→(upd H3 d (.dK (dropK ks3 (Sum.inr (Hg.g (Gm.leastL slt s).row 0).n)))) b=some (.tup zs):=fun b zs z=>by rw [upd_ne (ne_of z hd3 (by intro y; cases y))]; exact z
  have L4:LateAt C (upd H3 d (.dK (dropK ks3 (Sum.inr (Hg.g (Gm.leastL slt s).row 0).n)))) p d l (Gm.dropT (Gm.cut slt (Gm.leastL slt s)) (Hg.g (Gm.leastL slt s).row 0).n):=⟨⟨dx3,by rw [upd_ne npd]; exact hp3⟩,⟨_,upd_same,(kr3.drop _).stay tt⟩,⟨xs3,by rw [upd_ne ndl.symm]; exact hx3,rr3.stay tt⟩⟩
  have k4:Kept [p,d,l] H (upd H3 d (.dK (dropK ks3 (Sum.inr (Hg.g (Gm.leastL slt s).row 0).n)))):=(k2.trans k3').put (by simp)
  have ha4:=tt _ _ ha3
  generalize (upd H3 d (.dK (dropK ks3 (Sum.inr (Hg.g (Gm.leastL slt s).row 0).n))))=H4 at L4 k4 ha4 ⊢
  obtain ⟨dx4,hp4⟩:=L4.ob
  refine ⟨_,rfl,p,dx4,_,rfl,hp4,lf_no (by decide +kernel) (by decide +kernel) (by decide +kernel) (by decide +kernel) (by decide +kernel),p,d,l,_,rfl,L4,?_,fun l' H5 L5 k5 f5=>?_⟩
  ·have lc:(Gm.cut slt (Gm.leastL slt s)).row.length=(Gm.leastL slt s).row.length - 1:=Hg.cutf_len
   show (Gm.cut slt (Gm.leastL slt s)).row.length≤1000
   lia
  ·have ha5:=k5.tups L4.notup _ _ ha4
   have f6:Fr3 H l l':=f5.imp id fun z=>L4.fresh k4 z
   refine ⟨_,rfl,a,_,_,_,rfl,rfl,SqT.of ha5,rfl,_,rfl,a,_,_,_,rfl,rfl,SqT.of ha5,rfl,by show 2≤sizeLine; decide,fun q hq=>?_⟩
   exact kQ hT q l' _ (L5.same (same_new hq)) upd_same ((k4.trans k5).new hq) f6
end
end Kx
end
section
namespace Kx
open PySem L2
section
variable {P:Program} {w:World} {K:PySem.W.Frag} {mg:Str→Option Value} {base:Heap}
open Hm
def Stays (G:Addr→Prop) (H H':Hp):Prop:=∀ b o,H b=some o→¬ G b→H' b=some o
def Opn (G:Addr→Prop) (H:Hp):Prop:=∀ b,H b=none→G b
section
variable {G:Addr→Prop} {H H' H2:Hp} {p d l l':Addr}
theorem Stays.trans (a:Stays G H H') (b:Stays G H' H2):Stays G H H2:=fun x o e n=>b x o (a x o e n) n
theorem Opn.next (op:Opn G H) (k:Stays G H H'):Opn G H':=fun b h=>by
 cases e:H b with
 | none=>exact op b e
 | some o =>
  refine Classical.byContradiction fun n=>?_
  rw [k b o e n] at h; cases h
theorem kept_stays (k:Kept [p,d,l] H H') (g1:G p) (g2:G d) (g3:G l):Stays G H H':=fun b o e n=>k b o e fun z=>by
 simp only [List.mem_cons,List.not_mem_nil,or_false] at z
 rcases z with z | z | z <;> (subst z; first | exact n g1 | exact n g2 | exact n g3)
theorem fr3_g (f:Fr3 H l l') (op:Opn G H) (g:G l):G l':=by
 rcases f with h | h
 ·rw [h]; exact g
 ·exact op _ h
end
structure Two (C:Addr) (G:Addr→Prop) (H:Hp) (p1 d1 l1:Addr) (s1:LS) (p2 d2 l2:Addr) (s2:LS):Prop where
 a:LateAt C H p1 d1 l1 s1
 b:LateAt C H p2 d2 l2 s2
 np:p1≠p2
 nd:d1≠d2
 nl:l1≠l2
 ga:G p1∧G d1∧G l1
 gb:G p2∧G d2∧G l2
 op:Opn G H
section
variable {C p1 d1 l1 p2 d2 l2:Addr} {G:Addr→Prop} {H H':Hp} {s1 s2:LS}
theorem Two.symm (t:Two C G H p1 d1 l1 s1 p2 d2 l2 s2):Two C G H p2 d2 l2 s2 p1 d1 l1 s1:=⟨t.b,t.a,t.np.symm,t.nd.symm,t.nl.symm,t.gb,t.ga,t.op⟩
theorem Two.apart (t:Two C G H p1 d1 l1 s1 p2 d2 l2 s2):p2 ∉ [p1,d1,l1]∧d2 ∉ [p1,d1,l1]∧l2 ∉ [p1,d1,l1]:=by
 obtain ⟨dx1,a1⟩:=t.a.ob
 obtain ⟨ks1,a2,_⟩:=t.a.dc
 obtain ⟨xs1,a3,_⟩:=t.a.ls
 obtain ⟨dx2,b1⟩:=t.b.ob
 obtain ⟨ks2,b2,_⟩:=t.b.dc
 obtain ⟨xs2,b3,_⟩:=t.b.ls
 refine ⟨fun z=>?_,fun z=>?_,fun z=>?_⟩ <;> (simp only [List.mem_cons,List.not_mem_nil,or_false] at z; rcases z with z | z | z)
 ·exact t.np z.symm
 ·exact ne_of b1 a2 (by intro y; cases y) z
 ·exact ne_of b1 a3 (by intro y; cases y) z
 ·exact ne_of b2 a1 (by intro y; cases y) z
 ·exact t.nd z.symm
 ·exact ne_of b2 a3 (by intro y; cases y) z
 ·exact ne_of b3 a1 (by intro y; cases y) z
 ·exact ne_of b3 a2 (by intro y; cases y) z
 ·exact t.nl z.symm
theorem LateAt.kept {C p d l:Addr} {H H':Hp} {s:LS} {F:List Addr} (L:LateAt C H p d l s) (k:Kept F H H') (h:p ∉ F∧d ∉ F∧l ∉ F) (t:∀ b zs,H b=some (.tup zs)→b ∉ F):LateAt C H' p d l s :=
 L.stay (fun b o hb e=>k b o e (by
  rcases hb with rfl | rfl | rfl
  ·exact h.1
  ·exact h.2.1
  ·exact h.2.2)) fun b zs e=>k b _ e (t b zs e)
theorem Two.fst {l1':Addr} {s1':LS} (t:Two C G H p1 d1 l1 s1 p2 d2 l2 s2) (L:LateAt C H' p1 d1 l1' s1') (k:Kept [p1,d1,l1] H H') (f:Fr3 H l1 l1'):Two C G H' p1 d1 l1' s1' p2 d2 l2 s2∧Stays G H H':=by
 have st:=kept_stays (G:=G) k t.ga.1 t.ga.2.1 t.ga.2.2
 refine ⟨⟨L,t.b.kept k t.apart fun b zs e z=>t.a.notup b z zs e,t.np,t.nd,?_,⟨t.ga.1,t.ga.2.1,fr3_g f t.op t.ga.2.2⟩,t.gb,t.op.next st⟩,st⟩
 obtain ⟨xs2,b3,_⟩:=t.b.ls
 rcases f with h | h
 ·rw [h]; exact t.nl
 ·exact (ne_of_none b3 h).symm
theorem Two.snd {l2':Addr} {s2':LS} (t:Two C G H p1 d1 l1 s1 p2 d2 l2 s2) (L:LateAt C H' p2 d2 l2' s2') (k:Kept [p2,d2,l2] H H') (f:Fr3 H l2 l2'):Two C G H' p1 d1 l1 s1 p2 d2 l2' s2'∧Stays G H H' :=
 let ⟨a,b⟩:=t.symm.fst L k f; ⟨a.symm,b⟩
end
abbrev sOver:Stmt:=top 27
theorem scOver:FnScope ["heap","goal","first"] ["heap","goal"] (defScope sOver):=⟨rfl,rfl,rfl,(by simp only [List.nodup_cons,List.mem_cons,List.not_mem_nil,or_false,not_or,List.nodup_nil,and_true,not_false_eq_true]; (repeat' apply And.intro); all_goals decide +kernel),rfl,by decide +kernel,by decide +kernel⟩
def spOver (C:Addr):Sp:=fun vs H Q _=>∃ (G:Addr→Prop) (p1 d1 l1:Addr) (s1:LS) (p2 d2 l2:Addr) (s2:LS),vs=[.ref p1,.ref p2]∧Two C G H p1 d1 l1 s1 p2 d2 l2 s2∧Gm.LInv slt s1∧s1.row.length≤1000∧s1.there≠[]∧s2.row.length≤900∧s2.there.length≤900 ∧
 (_root_.L2.hd s1).n.length≤1000∧Gm.dget s2.there (_root_.L2.hd s1).n=none ∧
 ∀ l1' l2' H',Two C G H' p1 d1 l1' (Gm.takeL slt s1) p2 d2 l2' (Gm.putL slt s2 (_root_.L2.hd s1).n (0 - (_root_.L2.hd s1).w))→Stays G H H'→Kept [p1,d1,l1,p2,d2,l2] H H'→Q .non H'
theorem ok_over {f C CC CN ftake fput:Addr} {fd fdtake fdput:FuncData} (F:Fun K "hand_over" "hand_over" sOver f fd) (T:Bl mg) (L:LT K C) (Mtake:Meth K C "take" ftake) (Gtake:FnOk P w K mg base (CXe P w) 6 ftake fdtake ["self"] (spTakeM C CN)) (Btake:Binds K fdtake ["self"] []) (Mput:Meth K C "put" fput) (Gput:FnOk P w K mg base (CXe P w) 5 fput fdput ["self","name","worth"] (spPutM C CC)) (Bput:Binds K fdput ["self","name","worth"] []):FnOk P w K mg base CX0 7 f fd ["heap","goal"] (spOver C):=by
 have sc:=scOver
 refine F.okQ scOver (fun vs H Q E h=>?_) (fun cdv A outer s H vs Q E hr h=>?_)
 ·obtain ⟨G,p1,d1,l1,s1,p2,d2,l2,s2,rfl,_⟩:=h
  rfl
 ·obtain ⟨G,p1,d1,l1,s1,p2,d2,l2,s2,rfl,t,LI,h1,ne1,h2,h3,hn,free,k⟩:=h
  have hu:=hr.units0
  refine ⟨_,(qss_cons (qs_set (i:=2) sc.nd rfl (Or.inl rfl) (qe_meth0 (qv 0) L.cl Mtake Gtake (hr.mono (by decide)) Btake .nil pass_no))
   (qss_one (qs_expr (qe_meth (qv 1) L.cl Mput Gput (hr.mono (by decide)) Bput .nil pass_no (qa_cons (qe_ix ix_tup (qv 2) qe_int (fun _ _=>rfl)) (qa_cons (qe_op op_sub qe_int (qe_ix ix_tup (qv 2) qe_int (fun _ _=>rfl))) qa_nil)))))),?_⟩
  obtain ⟨dx1,hp1⟩:=t.a.ob
  refine ⟨_,rfl,p1,dx1,_,rfl,hp1,lf_no (by decide +kernel) (by decide +kernel) (by decide +kernel) (by decide +kernel) (by decide +kernel),p1,d1,l1,s1,rfl,t.a,LI,h1,fun _ q l1' H1 LA1 hq k1 f1=>?_,fun z=>(ne1 z).elim⟩
  obtain ⟨t1,st1⟩:=t.fst LA1 k1 f1
  obtain ⟨dx2,hp2⟩:=t1.b.ob
  refine ⟨_,rfl,p2,dx2,_,rfl,hp2,lf_no (by decide +kernel) (by decide +kernel) (by decide +kernel) (by decide +kernel) (by decide +kernel),_,rfl,q,_,_,_,rfl,rfl,SqT.of hq,rfl,_,rfl,q,_,_,_,rfl,rfl,SqT.of hq,rfl,_,_,rfl,rfl,p2,d2,l2,s2,(_root_.L2.hd s1).n,0 - (_root_.L2.hd s1).w,rfl,t1.b,h2,h3,hn,fun _ l2' H2 LA2 k2 f2=>?_,fun z=>(z free).elim⟩
  obtain ⟨t2,st2⟩:=t1.snd LA2 k2 f2
  refine k l1' l2' H2 t2 (st1.trans st2) (fun b o e nb=>?_)
  simp only [List.mem_cons,List.not_mem_nil,or_false,not_or] at nb
  refine k2 b o (k1 b o e ?_) ?_ <;> simp only [List.mem_cons,List.not_mem_nil,or_false,not_or]
  ·exact ⟨nb.1,nb.2.1,nb.2.2.1⟩
  ·exact ⟨nb.2.2.2.1,nb.2.2.2.2.1,nb.2.2.2.2.2⟩
end
end Kx
end
section
namespace Kx
open PySem L2
section
variable {P:Program} {w:World} {K:PySem.W.Frag} {mg:Str→Option Value} {base:Heap}
open Hm
structure PT (K:PySem.W.Frag) (D:Addr):Prop where
 cl:Cls K D
 pl:NoAttr K D "place"
 ls:NoAttr K D "lesser"
 gr:NoAttr K D "greater"
def pfs (P:Nat) (p1 p2:Addr):List (Str × V):=[("place",.int P),("lesser",.ref p1),("greater",.ref p2)]
theorem e1_:¬ (("place":Str)="lesser"):=by decide +kernel
theorem e2_:¬ (("place":Str)="greater"):=by decide +kernel
theorem e3_:¬ (("lesser":Str)="greater"):=by decide +kernel
section
variable {P:Nat} {p1 p2:Addr}
theorem pf_pl:(pfs P p1 p2).lookup ("place":Str)=some (.int P):=lk_eq
theorem pf_ls:(pfs P p1 p2).lookup ("lesser":Str)=some (.ref p1):=by unfold pfs; rw [lk_ne e1_,lk_eq]
theorem pf_gr:(pfs P p1 p2).lookup ("greater":Str)=some (.ref p2):=by unfold pfs; rw [lk_ne e2_,lk_ne e3_,lk_eq]
end
def ParAt (C D:Addr) (G:Addr→Prop) (H:Hp) (q:Addr) (ns:List Int) (lo n P b1 b2:Nat):Prop:=∃ (dx p1 d1 l1:Addr) (s1:LS) (p2 d2 l2:Addr) (s2:LS),H q=some (.ins D dx (pfs P p1 p2))∧G q∧Two C G H p1 d1 l1 s1 p2 d2 l2 s2 ∧
 Gm.LInv slt s1∧Gm.LInv slt s2∧Prt (thW s1.there) (thW s2.there) ns lo n P∧s1.stamp≤b1∧s2.stamp≤b2
section
variable {C D:Addr} {G:Addr→Prop} {H H':Hp} {p1 d1 l1 p2 d2 l2 q dx:Addr} {s1 s2:LS} {P:Nat}
theorem par_apart (t:Two C G H p1 d1 l1 s1 p2 d2 l2 s2) (hq:H q=some (.ins D dx (pfs P p1 p2))):q ∉ [p1,d1,l1]:=fun z=>by
 obtain ⟨dx1,a1⟩:=t.a.ob
 obtain ⟨ks1,a2,_⟩:=t.a.dc
 obtain ⟨xs1,a3,_⟩:=t.a.ls
 simp only [List.mem_cons,List.not_mem_nil,or_false] at z
 rcases z with z | z | z
 ·rw [z,a1] at hq
  injection hq with hq
  injection hq with _ _ h3
  unfold lfs pfs at h3
  exact absurd (congrArg List.length h3) (show ¬ ((5:Nat)=3) by decide)
 ·exact ne_of hq a2 (by intro y; cases y) z
 ·exact ne_of hq a3 (by intro y; cases y) z
theorem par_apart2 (t:Two C G H p1 d1 l1 s1 p2 d2 l2 s2) (hq:H q=some (.ins D dx (pfs P p1 p2))):q ∉ [p2,d2,l2]:=fun z=>by
 obtain ⟨dx1,a1⟩:=t.b.ob
 obtain ⟨ks1,a2,_⟩:=t.b.dc
 obtain ⟨xs1,a3,_⟩:=t.b.ls
 simp only [List.mem_cons,List.not_mem_nil,or_false] at z
 rcases z with z | z | z
 ·rw [z,a1] at hq
  injection hq with hq
  injection hq with _ _ h3
  unfold lfs pfs at h3
  exact absurd (congrArg List.length h3) (show ¬ ((5:Nat)=3) by decide)
 ·exact ne_of hq a2 (by intro y; cases y) z
 ·exact ne_of hq a3 (by intro y; cases y) z
end
theorem dget_of_keys {T:List (Str × En)} {n:Str} (h:n ∉ (thW T).map (·.1)):Gm.dget T n=none:=by
 have:=Gm.dget_none.mpr h
 rw [thW_get] at this
 cases z:Gm.dget T n with
 | none=>rfl
 | some e=>rw [z] at this; cases this
abbrev sPLeast:Stmt:=inClass (top 26) 3
theorem scPLeast:FnScope ["self"] ["self"] (defScope sPLeast):=⟨rfl,rfl,rfl,(by simp only [List.nodup_cons,List.mem_cons,List.not_mem_nil,or_false,not_or,List.nodup_nil,and_true,not_false_eq_true]; (repeat' apply And.intro); all_goals decide +kernel),rfl,by decide +kernel,by decide +kernel⟩
def spPLeast (C D:Addr):Sp:=fun vs H Q _=>∃ (G:Addr→Prop) (r:Addr) (ns:List Int) (lo n P b1 b2:Nat),vs=[.ref r]∧ParAt C D G H r ns lo n P b1 b2∧lo+n≤ns.length∧P < n∧b2≤900 ∧
 ∀ a t m H',H' a=some (.tup [.int t,.str m])→Nth ((ns.drop lo).take n) P t→ParAt C D G H' r ns lo n P b1 b2→Stays G H H'→Q (.ref a) H'
theorem ok_pleast {f C D CN fleast:Addr} {fd fdleast:FuncData} (F:Fun K "least" "Parted.least" sPLeast f fd) (T:Bl mg) (L:LT K C) (PD:PT K D) (Mleast:Meth K C "least" fleast) (Gleast:FnOk P w K mg base (CXe P w) 6 fleast fdleast ["self"] (spLeastM C CN)) (Bleast:Binds K fdleast ["self"] []):FnOk P w K mg base CX0 7 f fd ["self"] (spPLeast C D):=by
 have sc:=scPLeast
 refine F.okQ scPLeast (fun vs H Q E h=>?_) (fun cdv A outer s H vs Q E hr h=>?_)
 ·obtain ⟨G,r,ns,lo,n,P,b1,b2,rfl,_⟩:=h
  rfl
 ·obtain ⟨G,r,ns,lo,n,P,b1,b2,rfl,⟨dx,p1,d1,l1,s1,p2,d2,l2,s2,hq,gq,t,I1,I2,pr,st1,st2⟩,hn,hP,hb,k⟩:=h
  have hu:=hr.units0
  have e1:=I2.len
  have ne2:s2.there≠[]:=fun z=>by
   have h1:=len_of pr.pm
   have h2:=pr.sz
   have h3:(thW s2.there).length=0:=by rw [z]; rfl
   lia
  obtain ⟨dx2,hp2⟩:=t.b.ob
  refine ⟨_,(qss_one (qs_ret (qe_meth0 (qe_fld (qv 0) rfl) L.cl Mleast Gleast (hr.mono (by decide)) Bleast .nil pass_no))),?_⟩
  refine ⟨_,rfl,r,D,dx,_,_,rfl,hq,PD.cl,PD.gr,pf_gr,p2,dx2,_,rfl,hp2,lf_no (by decide +kernel) (by decide +kernel) (by decide +kernel) (by decide +kernel) (by decide +kernel),p2,d2,l2,s2,rfl,t.b,I2,by lia,fun _ a H1 LA1 ha k1=>?_,fun z=>(ne2 z).elim⟩
  have co:=Gm.least_ok slt_slo I2 ne2
  have lp:=least_plain I2 ne2
  obtain ⟨t1,sy⟩:=t.snd LA1 k1 (.inl rfl)
  refine k a _ _ H1 ha (pr.nth hn hP lp.mem fun m' x hx=>?_) ⟨dx,p1,d1,l1,s1,p2,d2,l2,_,k1 _ _ hq (par_apart2 t hq),gq,t1,I1,co.inv,by rw [co.there]; exact pr,st1,by rw [co.stamp]; exact st2⟩ sy
  have:=lp.le m' x hx
  refine Classical.byContradiction fun z=>?_
  have z2:ltP (x,m') ((_root_.L2.hd s2).w,(_root_.L2.hd s2).n)=true:=ltP_iff.mpr (.inl (Int.not_le.mp z))
  rw [this] at z2; cases z2
end
end Kx
end
section
namespace Kx
open PySem L2
section
variable {P:Program} {w:World} {K:PySem.W.Frag} {mg:Str→Option Value} {base:Heap}
open Hm
theorem lp_le {s:LS} (I:Gm.LInv slt s) (h:s.there≠[]):∀ m' x,(m',x)∈thW s.there→(_root_.L2.hd s).w≤x:=fun m' x hx=>by
 have:=(least_plain I h).le m' x hx
 refine Classical.byContradiction fun z=>?_
 have z2:ltP (x,m') ((_root_.L2.hd s).w,(_root_.L2.hd s).n)=true:=ltP_iff.mpr (.inl (Int.not_le.mp z))
 rw [this] at z2; cases z2
theorem put_th {s:LS} {n:Str} {w:Int}:thW (Gm.putL slt s n w).there=Gm.dput (thW s.there) n w:=by
 show thW (Gm.sweep slt _).there=_
 rw [Gm.sweep_there]; exact thW_put
theorem put_st {s:LS} {n:Str} {w:Int}:(Gm.putL slt s n w).stamp=s.stamp+1:=by
 show (Gm.sweep slt _).stamp=_
 rw [Gm.sweep_stamp]; rfl
theorem drop_th {s:LS} {n:Str}:thW (Gm.dropL slt s n).there=Gm.ddel (thW s.there) n:=by
 show thW (Gm.sweep slt _).there=_
 rw [Gm.sweep_there]; exact thW_del
theorem drop_st {s:LS} {n:Str}:(Gm.dropL slt s n).stamp=s.stamp:=by
 show (Gm.sweep slt _).stamp=_
 rw [Gm.sweep_stamp]; rfl
theorem take_th {s:LS} (I:Gm.LInv slt s) (h:s.there≠[]):thW (Gm.takeL slt s).there=Gm.ddel (thW s.there) (_root_.L2.hd s).n:=by
 rw [Gm.take_there,(Gm.least_ok slt_slo I h).there]; exact thW_del
theorem take_st {s:LS} (I:Gm.LInv slt s) (h:s.there≠[]):(Gm.takeL slt s).stamp=s.stamp:=by
 show (Gm.sweep slt _).stamp=_
 rw [Gm.sweep_stamp]
 exact (Gm.least_ok slt_slo I h).stamp
theorem prt_name {tl tg:Tb} {ns:List Int} {lo n:Nat} (pm:(upT tl++tg).Perm (winL ns lo n)) (hn:lo+n≤320) {m:Str} (h:m∈tl.map (·.1)∨m∈tg.map (·.1)):m.length≤1000:=by
 have:m∈(upT tl++tg).map (·.1):=by
  rw [List.map_append,upT_keys]
  exact List.mem_append.mpr h
 have:=(pm.map (·.1)).mem_iff.mp this
 rw [winL_keys] at this
 obtain ⟨j,hj,e⟩:=List.mem_map.mp this
 have h2:=List.mem_range'_1.mp hj
 rw [← e]
 exact Nat.le_trans (pname_all j (by lia)).1 (by decide)
abbrev sPPut:Stmt:=inClass (top 26) 1
theorem scPPut:FnScope ["self","name","worth"] ["self","name","worth"] (defScope sPPut):=⟨rfl,rfl,rfl,(by simp only [List.nodup_cons,List.mem_cons,List.not_mem_nil,or_false,not_or,List.nodup_nil,and_true,not_false_eq_true]; (repeat' apply And.intro); all_goals decide +kernel),rfl,by decide +kernel,by decide +kernel⟩
def spPPut (C D:Addr):Sp:=fun vs H Q _=>∃ (G:Addr→Prop) (r:Addr) (ns:List Int) (lo n P b1 b2:Nat) (v:Int),vs=[.ref r,.str (pname (lo+n)),.int v]∧ParAt C D G H r ns lo n P b1 b2∧ns[lo+n]?=some v∧lo+n < 320∧b1≤800∧b2≤800 ∧
 ∀ H',ParAt C D G H' r ns lo (n+1) P (b1+1) (b2+1)→Stays G H H'→Q .non H'
theorem ok_pput {f C D CC fput fmany fo:Addr} {fd fdput fdmany fdo:FuncData} (F:Fun K "put" "Parted.put" sPPut f fd) (T:Bl mg) (L:LT K C) (PD:PT K D) (Mput:Meth K C "put" fput) (Gput:FnOk P w K mg base (CXe P w) 5 fput fdput ["self","name","worth"] (spPutM C CC)) (Bput:Binds K fdput ["self","name","worth"] []) (Mmany:Meth K C "many" fmany) (Gmany:FnOk P w K mg base CX0 1 fmany fdmany ["self"] (spMany C)) (Bmany:Binds K fdmany ["self"] [])
  (Ghand_over:FnOk P w K mg base CX0 7 fo fdo ["heap","goal"] (spOver C)) (Dhand_over:Nm K mg "hand_over" fo fdo ["heap","goal"]):FnOk P w K mg base CX0 8 f fd ["self","name","worth"] (spPPut C D):=by
 have sc:=scPPut
 refine F.okQ scPPut (fun vs H Q E h=>?_) (fun cdv A outer s H vs Q E hr h=>?_)
 ·obtain ⟨G,r,ns,lo,n,P,b1,b2,v,rfl,_⟩:=h
  rfl
 ·obtain ⟨G,r,ns,lo,n,P,b1,b2,v,rfl,⟨dx,p1,d1,l1,s1,p2,d2,l2,s2,hq,gq,t,I1,I2,pr,st1,st2⟩,hv,hn,hb1,hb2,k⟩:=h
  have hu:=hr.units0
  have e1:=I1.len
  have e2:=I1.tl
  have e3:=I2.len
  have e4:=I2.tl
  obtain ⟨dx1,hp1⟩:=t.a.ob
  obtain ⟨f1,f2⟩:=not_next pr.pm hn
  refine ⟨_,(qss_cons (qs_expr (qe_meth (qe_fld (qv 0) rfl) L.cl Mput Gput (hr.mono (by decide)) Bput .nil pass_no (qa_cons (qv 1) (qa_cons (qe_op op_sub qe_int (qv 2)) qa_nil))))
   (qss_one (qs_if (qt_cmpR op_gt (qe_meth0 (qe_fld (qv 0) rfl) L.cl Mmany Gmany (hr.mono (by decide)) Bmany .nil pass0) (qe_fld (qv 0) rfl) (nomark _)) (qss_one (qs_expr (qe_call Ghand_over (hr.mono (by decide)) rfl Dhand_over.m Dhand_over.k Dhand_over.b .nil pass0 (qa_cons (qe_fld (qv 0) rfl) (qa_cons (qe_fld (qv 0) rfl) qa_nil))))) qss_nil))),?_⟩
  refine ⟨_,rfl,r,D,dx,_,_,rfl,hq,PD.cl,PD.ls,pf_ls,p1,dx1,_,rfl,hp1,lf_no (by decide +kernel) (by decide +kernel) (by decide +kernel) (by decide +kernel) (by decide +kernel),_,rfl,_,rfl,_,_,rfl,rfl,p1,d1,l1,s1,pname (lo+n),0 - v,rfl,t.a,by lia,by lia,Nat.le_trans (pname_all (lo+n) hn).1 (by decide),fun _ l1' H1 LA1 k1 fr1=>?_,fun z=>(z (dget_of_keys f1)).elim⟩
  obtain ⟨t1,sy1⟩:=t.fst LA1 k1 fr1
  have hq1:=k1 _ _ hq (par_apart t hq)
  have J1:=Gm.put_inv slt_slo I1 (n:=pname (lo+n)) (w:=0 - v)
  obtain ⟨dx1',hp1'⟩:=t1.a.ob
  obtain ⟨ks1,hd1,kr1⟩:=t1.a.dc
  have th:=put_th (s:=s1) (n:=pname (lo+n)) (w:=0 - v)
  have sm:=put_st (s:=s1) (n:=pname (lo+n)) (w:=0 - v)
  have lk:ks1.length=(Gm.dput (thW s1.there) (pname (lo+n)) (0 - v)).length:=by
   rw [kr1.len,← th]
   unfold thW
   rw [List.length_map]
  have J1l:=J1.len
  generalize Gm.putL slt s1 (pname (lo+n)) (0 - v)=z1 at *
  refine ⟨_,rfl,r,D,dx,_,_,rfl,hq1,PD.cl,PD.ls,pf_ls,p1,dx1',_,rfl,hp1',lf_no (by decide +kernel) (by decide +kernel) (by decide +kernel) (by decide +kernel) (by decide +kernel),p1,dx1',d1,_,ks1,rfl,hp1',lf_th,hd1,_,rfl,r,D,dx,_,_,rfl,hq1,PD.cl,PD.pl,pf_pl,_,_,rfl,rfl,_,rfl,ite2 (fun c=>?_) (fun c=>?_)⟩
  ·have c':(P:Int) < (ks1.length:Int):=of_decide_eq_true c
   have cP:P < (Gm.dput (thW s1.there) (pname (lo+n)) (0 - v)).length:=by lia
   have ne1:z1.there≠[]:=fun z=>by
    rw [← th,z] at cP
    exact absurd cP (Nat.not_lt_zero _)
   have lp:=(least_plain J1 ne1).mem
   have ll:=lp_le J1 ne1
   rw [th] at lp ll
   obtain ⟨ng,pr2⟩:=pr.over hn hv cP lp ll
   have nm:(_root_.L2.hd z1).n.length≤1000:=by
    have hm:(_root_.L2.hd z1).n∈(Gm.dput (thW s1.there) (pname (lo+n)) (0 - v)).map (·.1):=List.mem_map.mpr ⟨_,lp,rfl⟩
    rw [Gm.dput_keys,if_neg f1] at hm
    rcases List.mem_append.mp hm with hm | hm
    ·exact prt_name pr.pm (by lia) (.inl hm)
    ·rw [List.mem_singleton.mp hm]
     exact Nat.le_trans (pname_all (lo+n) hn).1 (by decide)
   refine ⟨_,rfl,r,D,dx,_,_,rfl,hq1,PD.cl,PD.ls,pf_ls,_,rfl,r,D,dx,_,_,rfl,hq1,PD.cl,PD.gr,pf_gr,G,p1,d1,l1',z1,p2,d2,l2,s2,rfl,t1,J1,by lia,ne1,by lia,by lia,nm,dget_of_keys ng,fun l1'' l2' H2 t2 sy2 k2=>?_⟩
   refine k H2 ⟨dx,p1,d1,l1'',_,p2,d2,l2',_,k2 _ _ hq1 ?_,gq,t2,Gm.take_inv slt_slo J1 ne1,Gm.put_inv slt_slo I2,?_,by rw [take_st J1 ne1]; lia,by rw [put_st]; lia⟩ (sy1.trans sy2)
   ·have a1:=par_apart t1 hq1
    have a2:=par_apart2 t1 hq1
    intro y
    simp only [List.mem_cons,List.not_mem_nil,or_false,not_or] at a1 a2 y
    rcases y with y | y | y | y | y | y
    ·exact a1.1 y
    ·exact a1.2.1 y
    ·exact a1.2.2 y
    ·exact a2.1 y
    ·exact a2.2.1 y
    ·exact a2.2.2 y
   ·rw [take_th J1 ne1,put_th,th]
    exact pr2
  ·have c':¬ (P:Int) < (ks1.length:Int):=fun y=>c (decide_eq_true y)
   refine k H1 ⟨dx,p1,d1,l1',z1,p2,d2,l2,s2,hq1,gq,t1,J1,I2,?_,by lia,by lia⟩ sy1
   rw [th]
   exact pr.put hn hv (by lia)
end
end Kx
end
section
namespace Kx
open PySem L2
section
variable {P:Program} {w:World} {K:PySem.W.Frag} {mg:Str→Option Value} {base:Heap}
open Hm
theorem keys_of_dget {T:List (Str × En)} {n:Str} (h:Gm.dget T n=none):n ∉ (thW T).map (·.1):=by
 refine Gm.dget_none.mp ?_
 rw [thW_get,h]; rfl
abbrev sPDrop:Stmt:=inClass (top 26) 2
theorem scPDrop:FnScope ["self","name"] ["self","name"] (defScope sPDrop):=⟨rfl,rfl,rfl,(by simp only [List.nodup_cons,List.mem_cons,List.not_mem_nil,or_false,not_or,List.nodup_nil,and_true,not_false_eq_true]; (repeat' apply And.intro); all_goals decide +kernel),rfl,by decide +kernel,by decide +kernel⟩
def spPDrop (C D:Addr):Sp:=fun vs H Q _=>∃ (G:Addr→Prop) (r:Addr) (ns:List Int) (lo n P b1 b2:Nat),vs=[.ref r,.str (pname lo)]∧ParAt C D G H r ns lo (n+1) P b1 b2∧lo+(n+1)≤320∧P≤n∧b1≤800∧b2≤800 ∧
 ∀ H',ParAt C D G H' r ns (lo+1) n P (b1+1) b2→Stays G H H'→Q .non H'
theorem ok_pdrop {f C D CN fdrop fo:Addr} {fd fddrop fdo:FuncData} (F:Fun K "drop" "Parted.drop" sPDrop f fd) (T:Bl mg) (L:LT K C) (PD:PT K D) (mCN:mg "NoThing"=some (.ref CN)) (xCN:PySem.W.excIn K CN bmV "ValueError.__new__"=true) (sCN:mroHas K CN (.ref CN)=true) (Mdrop:Meth K C "drop" fdrop) (Gdrop:FnOk P w K mg base (CXe P w) 5 fdrop fddrop ["self","name"] (spDropM C CN)) (Bdrop:Binds K fddrop ["self","name"] [])
  (GdropH:FnOkH P w K mg base CX0 5 fdrop fddrop ["self","name"] (spDropH C)) (Ghand_over:FnOk P w K mg base CX0 7 fo fdo ["heap","goal"] (spOver C)) (Dhand_over:Nm K mg "hand_over" fo fdo ["heap","goal"]):FnOk P w K mg base CX0 8 f fd ["self","name"] (spPDrop C D):=by
 have sc:=scPDrop
 refine F.okQ scPDrop (fun vs H Q E h=>?_) (fun cdv A outer s H vs Q E hr h=>?_)
 ·obtain ⟨G,r,ns,lo,n,P,b1,b2,rfl,_⟩:=h
  rfl
 ·obtain ⟨G,r,ns,lo,n,P,b1,b2,rfl,⟨dx,p1,d1,l1,s1,p2,d2,l2,s2,hq,gq,t,I1,I2,pr,st1,st2⟩,hn,hP,hb1,hb2,k⟩:=h
  have hu:=hr.units0
  have e1:=I1.len
  have e2:=I1.tl
  have e3:=I2.len
  have e4:=I2.tl
  obtain ⟨dx1,hp1⟩:=t.a.ob
  obtain ⟨dx2,hp2⟩:=t.b.ob
  refine ⟨_,(qss_one (qs_tryE (psxs_one (psx_expr (pex_meth (QE.to (qe_fld (qv 0) rfl)) L.cl Mdrop Gdrop (hr.mono (by decide)) Bdrop .nil (QA.to (qa_cons (qv 1) qa_nil))))) rfl rfl rfl mCN PySem.F.excBase_ValueError xCN
   (fun e o hh=>(qss_one (qs_expr (qe_methH (qe_fldB (K:=K) rfl (qv 0) rfl) L.cl Mdrop GdropH (RoomH.mark (hr.mono (by decide)).toH) hh Bdrop .nil pass0 (qa_cons (qv 1) qa_nil)))))
   (qss_one (qs_expr (qe_call Ghand_over (hr.mono (by decide)) rfl Dhand_over.m Dhand_over.k Dhand_over.b .nil pass0 (qa_cons (qe_fld (qv 0) rfl) (qa_cons (qe_fld (qv 0) rfl) qa_nil))))))),?_⟩
  refine ⟨_,rfl,r,D,dx,_,_,rfl,hq,PD.cl,PD.ls,pf_ls,p1,dx1,_,rfl,hp1,lf_no (by decide +kernel) (by decide +kernel) (by decide +kernel) (by decide +kernel) (by decide +kernel),_,rfl,p1,d1,l1,s1,pname lo,rfl,t.a,by lia,by lia,Nat.le_trans (pname_all lo (by lia)).1 (by decide),fun has l1' H1 LA1 k1 fr1=>?_,fun hno=>⟨CN,bmV,_,rfl,xCN,sCN,?_⟩⟩
  ·obtain ⟨t1,sy1⟩:=t.fst LA1 k1 fr1
   have hq1:=k1 _ _ hq (par_apart t hq)
   have hin:pname lo∈(thW s1.there).map (·.1):=Classical.byContradiction fun z=>has (dget_of_keys z)
   have ne2:s2.there≠[]:=fun z=>by
    have h1:=len_of pr.pm
    have h2:=pr.sz
    have h3:(thW s2.there).length=0:=by rw [z]; rfl
    lia
   have lp:=(least_plain I2 ne2).mem
   obtain ⟨nl,pr2⟩:=pr.back hn hP hin lp (lp_le I2 ne2)
   have nm:=prt_name pr.pm hn (.inr (List.mem_map.mpr ⟨_,lp,rfl⟩))
   have th:=drop_th (s:=s1) (n:=pname lo)
   have sm:=drop_st (s:=s1) (n:=pname lo)
   have J1:=Gm.dropL_inv slt_slo I1 (n:=pname lo)
   have J1l:=J1.len
   have J1t:=J1.tl
   rw [← th] at nl pr2
   generalize Gm.dropL slt s1 (pname lo)=z1 at *
   refine ⟨_,rfl,r,D,dx,_,_,rfl,hq1,PD.cl,PD.gr,pf_gr,_,rfl,r,D,dx,_,_,rfl,hq1,PD.cl,PD.ls,pf_ls,G,p2,d2,l2,s2,p1,d1,l1',z1,rfl,t1.symm,I2,by lia,ne2,by lia,by lia,nm,dget_of_keys nl,fun l2' l1'' H2 t2 sy2 k2=>?_⟩
   refine k H2 ⟨dx,p1,d1,l1'',_,p2,d2,l2',_,k2 _ _ hq1 ?_,gq,t2.symm,Gm.put_inv slt_slo J1,Gm.take_inv slt_slo I2 ne2,?_,by rw [put_st]; lia,by rw [take_st I2 ne2]; lia⟩ (sy1.trans sy2)
   ·have a1:=par_apart t1 hq1
    have a2:=par_apart2 t1 hq1
    intro y
    simp only [List.mem_cons,List.not_mem_nil,or_false,not_or] at a1 a2 y
    rcases y with y | y | y | y | y | y
    ·exact a2.1 y
    ·exact a2.2.1 y
    ·exact a2.2.2 y
    ·exact a1.1 y
    ·exact a1.2.1 y
    ·exact a1.2.2 y
   ·rw [take_th I2 ne2,put_th]
    exact pr2
  ·obtain ⟨hg,pr2⟩:=pr.gone hn hP (keys_of_dget hno)
   have has2:Gm.dget s2.there (pname lo)≠none:=fun z=>keys_of_dget z hg
   refine ⟨_,rfl,r,D,dx,_,_,rfl,hq,PD.cl,PD.gr,pf_gr,p2,dx2,_,rfl,hp2,lf_no (by decide +kernel) (by decide +kernel) (by decide +kernel) (by decide +kernel) (by decide +kernel),_,rfl,p2,d2,l2,s2,pname lo,rfl,t.b,by lia,by lia,has2,fun l2' H1 LA1 k1 fr1=>?_⟩
   obtain ⟨t1,sy1⟩:=t.snd LA1 k1 fr1
   refine k H1 ⟨dx,p1,d1,l1,s1,p2,d2,l2',_,k1 _ _ hq (par_apart2 t hq),gq,t1,I1,Gm.dropL_inv slt_slo I2,?_,by lia,by rw [drop_st]; lia⟩ sy1
   rw [drop_th]
   exact pr2
end
end Kx
end
section
namespace Kx
open PySem L2
section
variable {P:Program} {w:World} {K:PySem.W.Frag} {mg:Str→Option Value} {base:Heap}
open Hm
abbrev sPInit:Stmt:=inClass (top 26) 0
theorem scPInit:FnScope ["self","place"] ["self","place"] (defScope sPInit):=⟨rfl,rfl,rfl,(by simp only [List.nodup_cons,List.mem_cons,List.not_mem_nil,or_false,not_or,List.nodup_nil,and_true,not_false_eq_true]; (repeat' apply And.intro); all_goals decide +kernel),rfl,by decide +kernel,by decide +kernel⟩
def spPInit (C D:Addr):Sp:=fun vs H Q _=>∃ (G:Addr→Prop) (r dx:Addr) (P:Nat),vs=[.ref r,.int P]∧H r=some (.ins D dx [])∧G r∧Opn G H∧∀ H',(∀ ns lo,ParAt C D G H' r ns lo 0 P 0 0)→Stays G H H'→Q .non H'
theorem ok_pinit {f C D fI:Addr} {fd fdI:FuncData} (F:Fun K "__init__" "Parted.__init__" sPInit f fd) (T:Bl mg) (L:LT K C) (PD:PT K D) (mLate:mg "Late"=some (.ref C)) (MkLate:Mk K C fI) (GLate__init__:FnOk P w K mg base CX0 2 fI fdI ["self","slack"] (spLInit C)) (BLate__init__:Binds K fdI ["self","slack"] []):FnOk P w K mg base CX0 4 f fd ["self","place"] (spPInit C D):=by
 have sc:=scPInit
 refine F.okQ scPInit (fun vs H Q E h=>?_) (fun cdv A outer s H vs Q E hr h=>?_)
 ·obtain ⟨G,r,dx,P,rfl,_⟩:=h
  rfl
 ·obtain ⟨G,r,dx,P,rfl,hr0,gr,op,k⟩:=h
  have hu:=hr.units0
  refine ⟨_,(qss_cons (qs_fld (qv 0) (qv 1) rfl) (qss_cons (qs_fld (qv 0) (qe_make MkLate GLate__init__ (hr.mono (by decide)) rfl mLate BLate__init__ .nil pass0 (qa_cons qe_int qa_nil)) rfl) (qss_one (qs_fld (qv 0) (qe_make MkLate GLate__init__ (hr.mono (by decide)) rfl mLate BLate__init__ .nil pass0 (qa_cons qe_int qa_nil)) rfl)))),?_⟩
  refine ⟨_,rfl,_,rfl,r,D,dx,_,rfl,hr0,PD.cl,PD.pl,by show 0 < 1000; decide,?_⟩
  have h1:(upd H r (.ins D dx (putF ("place":Str) (.int P) []))) r=some (.ins D dx [("place",.int P)]):=upd_same
  have s1:Stays G H (upd H r (.ins D dx (putF ("place":Str) (.int P) []))):=fun b o e n=>by rw [upd_ne (fun z=>n (by rw [z]; exact gr))]; exact e
  have o1:=op.next s1
  generalize upd H r (.ins D dx (putF ("place":Str) (.int P) []))=H1 at h1 s1 o1 ⊢
  have new:∀ {H1 H6:Hp} {p d l px:Addr},Opn G H1→H1 p=none→H1 px=none→px≠p→(upd (upd H1 px (.own p)) p (.ins C px [])) d=none→(upd (upd H1 px (.own p)) p (.ins C px [])) l=none→Kept [p] (upd (upd H1 px (.own p)) p (.ins C px [])) H6→Same H1 H6∧G p∧G d∧G l∧H1 d=none∧H1 l=none:=by
   intro H1 H6 p d l px op hp hx nx hd hl kk
   have back:∀ {b:Addr},(upd (upd H1 px (.own p)) p (.ins C px [])) b=none→H1 b=none:=fun {b} e=>by
    cases z:H1 b with
    | none=>rfl
    | some o =>
     rw [upd_ne (ne_of_none z hp),upd_ne (ne_of_none z hx),z] at e
     cases e
   refine ⟨fun b o e=>kk b o ?_ fun z=>ne_of_none e hp (List.mem_singleton.mp z),op _ hp,op _ (back hd),op _ (back hl),back hd,back hl⟩
   rw [upd_ne (ne_of_none e hp),upd_ne (ne_of_none e hx)]
   exact e
  intro p1 x1 hp1 hx1 nx1
  refine ⟨p1,x1,0,rfl,upd_same,fun d1 l1 H2 hd1 hl1 LA1 k1=>⟨rfl,?_⟩⟩
  obtain ⟨s2,ga,gb,gc,fd1,fl1⟩:=new o1 hp1 hx1 nx1 hd1 hl1 k1
  have n1:r≠p1:=ne_of_none h1 hp1
  have n2:r≠d1:=ne_of_none h1 fd1
  have n3:r≠l1:=ne_of_none h1 fl1
  refine ⟨_,rfl,r,D,dx,_,rfl,s2 _ _ h1,PD.cl,PD.ls,by show 1 < 1000; decide,?_⟩
  have e2:putF ("lesser":Str) (.ref p1) [(("place":Str),V.int P)]=[(("place":Str),V.int P),(("lesser":Str),.ref p1)]:=by rw [pf_ne e1_]; rfl
  rw [e2]
  have LA1':LateAt C (upd H2 r (.ins D dx [("place",V.int P),("lesser",.ref p1)])) p1 d1 l1 (Gm.newL 0):=LA1.stay (fun b o hb e=>by
   have:b≠r:=by
    rcases hb with rfl | rfl | rfl
    ·exact n1.symm
    ·exact n2.symm
    ·exact n3.symm
   rw [upd_ne this]; exact e) fun b zs e=>by rw [upd_ne (ne_of e (s2 _ _ h1) (by intro z; cases z))]; exact e
  have h3:(upd H2 r (.ins D dx [("place",V.int P),("lesser",.ref p1)])) r=some (.ins D dx [("place",V.int P),("lesser",.ref p1)]):=upd_same
  have s3:Stays G H1 (upd H2 r (.ins D dx [("place",V.int P),("lesser",.ref p1)])):=fun b o e n=>by rw [upd_ne (fun z=>n (by rw [z]; exact gr))]; exact s2 b o e
  have o3:=o1.next s3
  generalize upd H2 r (.ins D dx [("place",V.int P),("lesser",.ref p1)])=H3 at LA1' h3 s3 o3 ⊢
  intro p2 x2 hp2 hx2 nx2
  refine ⟨p2,x2,0,rfl,upd_same,fun d2 l2 H4 hd2 hl2 LA2 k2=>⟨rfl,?_⟩⟩
  obtain ⟨s4,gd,ge,gf,fd2,fl2⟩:=new o3 hp2 hx2 nx2 hd2 hl2 k2
  have m1:r≠p2:=ne_of_none h3 hp2
  have m2:r≠d2:=ne_of_none h3 fd2
  have m3:r≠l2:=ne_of_none h3 fl2
  refine ⟨_,rfl,r,D,dx,_,rfl,s4 _ _ h3,PD.cl,PD.gr,by show 2 < 1000; decide,?_⟩
  have e4:putF ("greater":Str) (.ref p2) [(("place":Str),V.int P),(("lesser":Str),.ref p1)]=pfs P p1 p2:=by rw [pf_ne e2_,pf_ne e3_]; rfl
  rw [e4]
  obtain ⟨y1,a1⟩:=LA1'.ob
  obtain ⟨y2,a2,_⟩:=LA1'.dc
  obtain ⟨y3,a3,_⟩:=LA1'.ls
  have st:∀ b zs,H4 b=some (.tup zs)→(upd H4 r (.ins D dx (pfs P p1 p2))) b=some (.tup zs):=fun b zs e=>by rw [upd_ne (ne_of e (s4 _ _ h3) (by intro z; cases z))]; exact e
  have s5:Stays G H3 (upd H4 r (.ins D dx (pfs P p1 p2))):=fun b o e n=>by rw [upd_ne (fun z=>n (by rw [z]; exact gr))]; exact s4 b o e
  refine k _ (fun ns lo=>⟨dx,p1,d1,l1,Gm.newL 0,p2,d2,l2,Gm.newL 0,upd_same,gr,⟨(LA1'.same s4).stay (fun b o hb e=>?_) st,LA2.stay (fun b o hb e=>?_) st,ne_of_none a1 hp2,ne_of_none a2 fd2,ne_of_none a3 fl2,⟨ga,gb,gc⟩,⟨gd,ge,gf⟩,o3.next s5⟩,Gm.new_inv,Gm.new_inv,Prt.new,Nat.le_refl _,Nat.le_refl _⟩) ((s1.trans s3).trans s5)
  ·have:b≠r:=by
    rcases hb with rfl | rfl | rfl
    ·exact n1.symm
    ·exact n2.symm
    ·exact n3.symm
   rw [upd_ne this]; exact e
  ·have:b≠r:=by
    rcases hb with rfl | rfl | rfl
    ·exact m1.symm
    ·exact m2.symm
    ·exact m3.symm
   rw [upd_ne this]; exact e
end
end Kx
end
section
namespace Kx
open PySem L2
section
variable {P:Program} {w:World} {K:PySem.W.Frag} {mg:Str→Option Value} {base:Heap}
open Hm
abbrev sPlace:Stmt:=top 18
theorem scPlace:FnScope ["place","name","rest"] ["place"] (defScope sPlace):=⟨rfl,rfl,rfl,(by simp only [List.nodup_cons,List.mem_cons,List.not_mem_nil,or_false,not_or,List.nodup_nil,and_true,not_false_eq_true]; (repeat' apply And.intro); all_goals decide +kernel),rfl,by decide +kernel,by decide +kernel⟩
def spPlace:Sp:=fun vs H Q _=>∃ p:Nat,vs=[.int p]∧p < 320∧Q (.str (pname p)) H
theorem ok_place {f:Addr} {fd:FuncData} {tL:Tok} (F:Fun K "place_name" "place_name" sPlace f fd) (T:Bl mg) (mLETTERS:mg "LETTERS"=some (.str "abcdefghijklmnopqrstuvwxyz" tL)):FnOk P w K mg base CX0 1 f fd ["place"] spPlace:=by
 have sc:=scPlace
 refine F.ok scPlace (fun vs H Q E h=>?_) (fun cdv A outer s H vs Q E hr h=>?_)
 ·obtain ⟨p,rfl,_⟩:=h
  rfl
 ·obtain ⟨p,rfl,hp,k⟩:=h
  have hu:=hr.units0
  refine ⟨_,(QSs.to (qss_cons (qs_set (i:=1) sc.nd rfl (Or.inl rfl) (qe_ix ix_str (qe_glob (v:=.str "abcdefghijklmnopqrstuvwxyz") rfl mLETTERS ⟨tL,rfl⟩) (qe_op op_mod (qv 0) qe_int) (fun _ _=>rfl)))
   (qss_cons (qs_set (i:=2) sc.nd rfl (Or.inl rfl) (qe_op op_fdivB (qv 0) qe_int))
   (qss_cons (qs_while PassesOwn.never (qt_cmpR op_gt (qv 2) qe_int (nomark _)) (qss_cons (qs_set (i:=1) sc.nd rfl (Or.inl rfl) (qe_op op_add_str (qe_ix ix_str (qe_glob (v:=.str "abcdefghijklmnopqrstuvwxyz") rfl mLETTERS ⟨tL,rfl⟩) (qe_op op_mod (qv 2) qe_int) (fun _ _=>rfl)) (qv 1)))
   (qss_one (qs_set (i:=2) sc.nd rfl (Or.inl rfl) (qe_op op_fdivB (qv 2) qe_int)))))
   (qss_one (qs_ret (qv 1))))))),?_⟩
  have e1:(p:Int) % 26=((p % 26:Nat):Int):=by lia
  have e2:(p:Int) / 26=((p / 26:Nat):Int):=by lia
  refine ⟨_,rfl,_,_,rfl,rfl,(by show (0:Int) < 26; decide),_,_,_,rfl,rfl,(by decide +kernel),e1 ▸ ltr_at (Nat.mod_lt _ (by decide)),?_⟩
  refine ⟨_,rfl,_,_,rfl,rfl,⟨by decide,by decide⟩,?_⟩
  refine ⟨fun m σ H2=>∃ (f r:Nat) (n:Str),σ=[some (.int p),some (.str n),some (.int r)]∧H2=H∧pnGo f r n=pname p∧r≤f∧n.length+r≤400∧m=r,
   ⟨_,p / 26,p / 26,ltr (p % 26),(by rw [← e2]; rfl),rfl,rfl,Nat.le_refl _,(by show 1+p / 26≤400; lia),rfl⟩,?_⟩
  rintro r σ H2 ⟨f,r',n,rfl,rfl,hg,hf,hn,rfl⟩
  refine ⟨_,rfl,_,_,rfl,rfl,_,rfl,ite2 (fun c1=>?_) (fun c1=>?_)⟩
  rotate_left
  ·have c1':¬ (r:Int) > 0:=by simpa using c1
   obtain rfl:r=0:=by lia
   have e:n=pname p:=by
    rw [← hg]
    cases f <;> rfl
   rw [e]
   exact ⟨_,rfl,k⟩
  have c1':(r:Int) > 0:=by simpa using c1
  obtain ⟨f,rfl⟩:∃ f0,f=f0+1:=⟨f - 1,by lia⟩
  have hg2:pnGo f (r / 26) (ltr (r % 26)++n)=pname p:=by
   rw [← hg]
   conv=>rhs; unfold pnGo
   rw [if_neg (by lia)]
  have e3:(r:Int) % 26=((r % 26:Nat):Int):=by lia
  have e4:(r:Int) / 26=((r / 26:Nat):Int):=by lia
  have l1:(ltr (r % 26)++n).length=1+n.length:=by
   show (#[97+r % 26]++n.cps).size=_
   rw [Array.size_append]; rfl
  refine ⟨fun σ' H'=>∃ m',m' < r∧∃ (f r:Nat) (n:Str),σ'=[some (.int p),some (.str n),some (.int r)]∧H'=H2∧pnGo f r n=pname p∧r≤f∧n.length+r≤400∧m'=r,fun σ' H' z=>z,?_⟩
  refine ⟨_,rfl,_,_,rfl,rfl,(by show (0:Int) < 26; decide),_,_,_,rfl,rfl,(by decide +kernel),e3 ▸ ltr_at (Nat.mod_lt _ (by decide)),_,rfl,ltr (r % 26),n,rfl,rfl,?_,?_⟩
  ·exact Nat.le_trans (show 1+n.length≤1000 by lia) (by decide)
  ·refine ⟨_,rfl,_,_,rfl,rfl,⟨by decide,by decide⟩,r / 26,by lia,f,r / 26,ltr (r % 26)++n,(by rw [← e4]; rfl),rfl,hg2,by lia,?_,rfl⟩
   rw [l1]; lia
end
end Kx
end
section
namespace Kx
open PySem L2
section
variable {P:Program} {w:World} {K:PySem.W.Frag} {mg:Str→Option Value} {base:Heap}
open Hm
def RowAt (H:Hp) (a:Addr) (ns:List Int):Prop:=H a=some (.lst (ns.map V.int))∨H a=some (.tup (ns.map V.int))
theorem RowAt.sq {H:Hp} {a:Addr} {ns:List Int} (h:RowAt H a ns):SqL K H a (ns.map V.int)∨SqT K H a (ns.map V.int):=h.imp SqL.of SqT.of
theorem RowAt.stay {H H':Hp} {a:Addr} {ns:List Int} (h:RowAt H a ns) (k:∀ o,H a=some o→H' a=some o):RowAt H' a ns:=h.imp (k _) (k _)
theorem RowAt.is {H:Hp} {a:Addr} {ns:List Int} (h:RowAt H a ns):∃ o,H a=some o:=h.elim (fun z=>⟨_,z⟩) (fun z=>⟨_,z⟩)
structure Nths (ns:List Int) (W P:Nat) (ts:List Int):Prop where
 len:ts.length=ns.length+1 - W
 at_:∀ j t,ts[j]?=some t→Nth ((ns.drop j).take W) P t
section
variable {C D r tl:Addr} {G:Addr→Prop} {H H':Hp} {ns:List Int} {lo n P b1 b2 c1 c2:Nat}
theorem pf_no {p1 p2:Addr} {m:Str} (h1:¬ ("place":Str)=m) (h2:¬ ("lesser":Str)=m) (h3:¬ ("greater":Str)=m):(pfs P p1 p2).lookup m=none:=by unfold pfs; rw [lk_ne h1,lk_ne h2,lk_ne h3]; rfl
theorem ParAt.ob (h:ParAt C D G H r ns lo n P b1 b2):∃ dx p1 p2,H r=some (.ins D dx (pfs P p1 p2)):=by
 obtain ⟨dx,p1,_,_,_,p2,_,_,_,hq,_⟩:=h
 exact ⟨dx,p1,p2,hq⟩
theorem ParAt.op (h:ParAt C D G H r ns lo n P b1 b2):Opn G H:=by
 obtain ⟨dx,p1,_,_,_,p2,_,_,_,hq,gq,t,_⟩:=h
 exact t.op
theorem ParAt.mono (h:ParAt C D G H r ns lo n P b1 b2) (h1:b1≤c1) (h2:b2≤c2):ParAt C D G H r ns lo n P c1 c2:=by
 obtain ⟨dx,p1,d1,l1,s1,p2,d2,l2,s2,hq,gq,t,I1,I2,pr,st1,st2⟩:=h
 exact ⟨dx,p1,d1,l1,s1,p2,d2,l2,s2,hq,gq,t,I1,I2,pr,Nat.le_trans st1 h1,Nat.le_trans st2 h2⟩
theorem ParAt.newer {o:HO} (h:ParAt C D G H r ns lo n P b1 b2) (htl:H tl=none):ParAt C D (fun b=>G b∧b≠tl) (upd H tl o) r ns lo n P b1 b2:=by
 obtain ⟨dx,p1,d1,l1,s1,p2,d2,l2,s2,hq,gq,t,I1,I2,pr,st1,st2⟩:=h
 have sm:=same_new (o:=o) htl
 obtain ⟨x1,a1⟩:=t.a.ob
 obtain ⟨x2,a2,_⟩:=t.a.dc
 obtain ⟨x3,a3,_⟩:=t.a.ls
 obtain ⟨y1,u1⟩:=t.b.ob
 obtain ⟨y2,u2,_⟩:=t.b.dc
 obtain ⟨y3,u3,_⟩:=t.b.ls
 refine ⟨dx,p1,d1,l1,s1,p2,d2,l2,s2,sm _ _ hq,⟨gq,ne_of_none hq htl⟩,⟨t.a.same sm,t.b.same sm,t.np,t.nd,t.nl,⟨⟨t.ga.1,ne_of_none a1 htl⟩,⟨t.ga.2.1,ne_of_none a2 htl⟩,⟨t.ga.2.2,ne_of_none a3 htl⟩⟩,⟨⟨t.gb.1,ne_of_none u1 htl⟩,⟨t.gb.2.1,ne_of_none u2 htl⟩,⟨t.gb.2.2,ne_of_none u3 htl⟩⟩,fun b hb=>?_⟩,I1,I2,pr,st1,st2⟩
 have nb:b≠tl:=fun z=>by rw [z,upd_same] at hb; cases hb
 rw [upd_ne nb] at hb
 exact ⟨t.op b hb,nb⟩
theorem ParAt.put {o o':HO} (h:ParAt C D G H r ns lo n P b1 b2) (hg:¬ G tl) (ho:H tl=some o) (nt:∀ zs,o≠.tup zs):ParAt C D G (upd H tl o') r ns lo n P b1 b2:=by
 obtain ⟨dx,p1,d1,l1,s1,p2,d2,l2,s2,hq,gq,t,I1,I2,pr,st1,st2⟩:=h
 have ne:∀ {b:Addr},G b→b≠tl:=fun {b} g z=>hg (by rw [← z]; exact g)
 have tt:∀ b zs,H b=some (.tup zs)→(upd H tl o') b=some (.tup zs):=fun b zs e=>by
  rw [upd_ne (fun z=>by rw [z,ho] at e; exact nt zs (Option.some.inj e))]; exact e
 refine ⟨dx,p1,d1,l1,s1,p2,d2,l2,s2,by rw [upd_ne (ne gq)]; exact hq,gq,⟨t.a.stay (fun b x hb e=>?_) tt,t.b.stay (fun b x hb e=>?_) tt,t.np,t.nd,t.nl,t.ga,t.gb,fun b hb=>?_⟩,I1,I2,pr,st1,st2⟩
 ·rw [upd_ne (ne (by
   rcases hb with rfl | rfl | rfl
   ·exact t.ga.1
   ·exact t.ga.2.1
   ·exact t.ga.2.2))]
  exact e
 ·rw [upd_ne (ne (by
   rcases hb with rfl | rfl | rfl
   ·exact t.gb.1
   ·exact t.gb.2.1
   ·exact t.gb.2.2))]
  exact e
 ·have nb:b≠tl:=fun z=>by rw [z,upd_same] at hb; cases hb
  rw [upd_ne nb] at hb
  exact t.op b hb
end
abbrev sSlid:Stmt:=top 25
theorem scSlid:FnScope ["row","width","heap","told","place"] ["row","width","heap"] (defScope sSlid):=⟨rfl,rfl,rfl,(by simp only [List.nodup_cons,List.mem_cons,List.not_mem_nil,or_false,not_or,List.nodup_nil,and_true,not_false_eq_true]; (repeat' apply And.intro); all_goals decide +kernel),rfl,by decide +kernel,by decide +kernel⟩
def spPSlid (C D:Addr):Sp:=fun vs H Q _=>∃ (G:Addr→Prop) (a r:Addr) (ns:List Int) (W P:Nat),vs=[.ref a,.int W,.ref r]∧RowAt H a ns∧ns.length≤300∧P < W∧ParAt C D G H r ns 0 0 P 0 0∧¬ G a ∧
 ∀ q ts H',H' q=some (.tup (ts.map V.int))→Nths ns W P ts→Stays G H H'→Q (.ref q) H'
theorem ok_pslid {f C D fp fput fdrop fleast:Addr} {fd fdp fdput fddrop fdleast:FuncData} (F:Fun K "slid" "slid" sSlid f fd) (T:Bl mg) (PD:PT K D) (Gplace_name:FnOk P w K mg base CX0 1 fp fdp ["place"] spPlace) (Dplace_name:Nm K mg "place_name" fp fdp ["place"])
  (Mput:Meth K D "put" fput) (Gput:FnOk P w K mg base CX0 8 fput fdput ["self","name","worth"] (spPPut C D)) (Bput:Binds K fdput ["self","name","worth"] []) (Mdrop:Meth K D "drop" fdrop) (Gdrop:FnOk P w K mg base CX0 8 fdrop fddrop ["self","name"] (spPDrop C D)) (Bdrop:Binds K fddrop ["self","name"] []) (Mleast:Meth K D "least" fleast) (Gleast:FnOk P w K mg base CX0 7 fleast fdleast ["self"] (spPLeast C D)) (Bleast:Binds K fdleast ["self"] []):FnOk P w K mg base CX0 9 f fd ["row","width","heap"] (spPSlid C D):=by
 have sc:=scSlid
 refine F.okQ scSlid (fun vs H Q E h=>?_) (fun cdv A outer s H vs Q E hr h=>?_)
 ·obtain ⟨G,a,r,ns,W,P,rfl,_⟩:=h
  rfl
 ·obtain ⟨G,a,r,ns,W,P,rfl,RA,hn,hP,par,nga,k⟩:=h
  have hu:=hr.units0
  have hu1:=hr.u100
  refine ⟨_,(qss_cons (qs_set (i:=3) sc.nd rfl (Or.inl rfl) (qe_lst qa_nil))
   (qss_cons (qs_for PassesOwn.never rfl (qi_range1 rfl T.z_range (qa_cons (qe_callB call_len_seq (by rfl) T.z_len (by decide +kernel) (qa_cons (qv 0) qa_nil)) qa_nil)) (qg_name (i:=4) sc.nd rfl (Or.inl rfl)) (qss_cons (qs_expr (qe_meth (qv 2) PD.cl Mput Gput (hr.mono (by decide)) Bput .nil pass0 (qa_cons (qe_call Gplace_name (hr.mono (by decide)) rfl Dplace_name.m Dplace_name.k Dplace_name.b .nil pass0 (qa_cons (qv 4) qa_nil)) (qa_cons (qe_ix ix_lt (qv 0) (qv 4) (fun _ _=>rfl)) qa_nil))))
   (qss_cons (qs_ifJ (qt_cmpR op_ge (qv 4) (qv 1) (nomark _)) (qss_one (qs_expr (qe_meth (qv 2) PD.cl Mdrop Gdrop (hr.mono (by decide)) Bdrop .nil pass0 (qa_cons (qe_call Gplace_name (hr.mono (by decide)) rfl Dplace_name.m Dplace_name.k Dplace_name.b .nil pass0 (qa_cons (qe_op op_sub (qv 4) (qv 1)) qa_nil)) qa_nil)))) qss_nil)
   (qss_one (qs_if (qt_cmpR op_ge (qe_op op_add (qv 4) qe_int) (qv 1) (nomark _)) (qss_one (qs_expr (qe_bm PySem.F.plainAttrs_list PySem.F.slot_list_append PySem.F.type_list_append mt_append (qv 3) (qa_cons (qe_ix ix_tup (qe_meth0 (qv 2) PD.cl Mleast Gleast (hr.mono (by decide)) Bleast .nil pass0) qe_int (fun _ _=>rfl)) qa_nil)))) qss_nil)))))
   (qss_one (qs_ret (qe_callTy call_tuple_of (by rfl) T.z_tuple (by decide +kernel) (qa_cons (qv 3) qa_nil)))))),?_⟩
  refine ⟨by show 0≤sizeLine; decide,fun tl htl=>?_⟩
  have s1:=same_new (o:=.lst []) htl
  have g1:(upd H tl (.lst [])) tl=some (.lst []):=upd_same
  have RA1:=RA.stay (s1 a)
  have par1:=par.newer (o:=.lst []) htl
  have nat:a≠tl:=by
   obtain ⟨oa,ha⟩:=RA.is
   exact ne_of_none ha htl
  have gtl:G tl:=par.op _ htl
  have stl:¬ (G tl∧tl≠tl):=fun z=>z.2 rfl
  have sta:¬ (G a∧a≠tl):=fun z=>nga z.1
  have sub:∀ {H2 H3:Hp},Stays (fun b=>G b∧b≠tl) H2 H3→Stays G H H2→Stays G H H3:=fun a b x o e n=>a x o (b x o e n) fun z=>n z.1
  generalize upd H tl (.lst [])=H1 at s1 g1 par1 RA1 ⊢
  have lm:(ns.map V.int).length=ns.length:=List.length_map ..
  refine ⟨_,rfl,a,_,rfl,RA1.sq,_,rfl,by lia,by lia,?_⟩
  rw [lm]
  refine for_range (lo:=0) (n:=ns.length) (fun i σ H2=>∃ (lo n:Nat) (ts:List Int) (o:Option V),σ=[some (.ref a),some (.int W),some (.ref r),some (.ref tl),o]∧lo=i - W∧lo+n=i∧ParAt C D (fun b=>G b∧b≠tl) H2 r ns lo n P (2 * i) i∧H2 tl=some (.lst (ts.map V.int))∧RowAt H2 a ns∧ts.length=i+1 - W∧(∀ j t,ts[j]?=some t→Nth ((ns.drop j).take W) P t)∧Stays G H H2)
   ⟨0,0,[],none,rfl,by lia,rfl,par1,g1,RA1,by show 0=0+1 - W; lia,(fun j t h=>by cases h),fun b o e _=>s1 b o e⟩ ?_ ?_
  ·rintro i σ H2 hi ⟨lo,n,ts,o,rfl,elo,eln,pa,ht,RA2,lt,mt,kk⟩
   obtain ⟨dx,q1,q2,hq⟩:=pa.ob
   have ei:(0:Int)+(i:Int)=(i:Int):=by lia
   rw [ei]
   have hv:ns[i]?=some ns[i]:=List.getElem?_eq_getElem hi
   have hvI:atI (ns.map V.int) (i:Int)=some (.int ns[i]):=atI_nat (by rw [List.getElem?_map,hv]; rfl)
   refine ⟨_,rfl,r,dx,_,rfl,hq,pf_no (by decide +kernel) (by decide +kernel) (by decide +kernel),_,rfl,i,rfl,by lia,_,rfl,_,rfl,a,_,_,_,rfl,rfl,RA2.sq,hvI,_,r,ns,lo,n,P,2 * i,i,ns[i],(by rw [eln]; rfl),pa,(by rw [eln]; exact hv),by lia,by lia,by lia,fun H3 pa3 st3=>?_⟩
   have ht3:=st3 _ _ ht stl
   have RA3:=RA2.stay fun o e=>st3 _ _ e sta
   have kk3:=sub st3 kk
   refine ⟨fun σ' H4=>∃ (lo' n':Nat),σ'=[some (.ref a),some (.int W),some (.ref r),some (.ref tl),some (.int i)]∧lo'=i+1 - W∧lo'+n'=i+1∧ParAt C D (fun b=>G b∧b≠tl) H4 r ns lo' n' P (2 * (i+1)) (i+1)∧H4 tl=some (.lst (ts.map V.int))∧RowAt H4 a ns∧Stays G H H4,?_,?_⟩
   ·refine ⟨_,rfl,_,rfl,_,_,rfl,rfl,_,rfl,ite2 (fun c=>?_) (fun c=>?_)⟩
    ·have c':(W:Int)≤i:=of_decide_eq_true c
     have eW:(i:Int) - (W:Int)=((lo:Nat):Int):=by lia
     obtain ⟨dx3,q3,q4,hq3⟩:=pa3.ob
     refine ⟨_,rfl,r,dx3,_,rfl,hq3,pf_no (by decide +kernel) (by decide +kernel) (by decide +kernel),_,rfl,_,rfl,_,_,rfl,rfl,lo,(by show [V.int ((i:Int) - (W:Int))]=_; rw [eW]),by lia,_,r,ns,lo,n,P,_,_,rfl,pa3,by lia,by lia,by lia,by lia,fun H4 pa4 st4=>?_⟩
     exact ⟨lo+1,n,rfl,by lia,by lia,pa4.mono (by lia) (by lia),st4 _ _ ht3 stl,RA3.stay fun o e=>st4 _ _ e sta,sub st4 kk3⟩
    ·have c':¬ (W:Int)≤i:=fun z=>c (decide_eq_true z)
     exact ⟨lo,n+1,rfl,by lia,by lia,pa3.mono (by lia) (by lia),ht3,RA3,kk3⟩
   rintro σ' H4 ⟨lo',n',rfl,elo',eln',pa4,ht4,RA4,kk4⟩
   refine ⟨_,rfl,_,_,rfl,rfl,_,rfl,_,_,rfl,rfl,_,rfl,ite2 (fun c=>?_) (fun c=>?_)⟩
   ·have c':(W:Int)≤(i:Int)+1:=of_decide_eq_true c
    obtain ⟨dx4,q5,q6,hq4⟩:=pa4.ob
    have en:n'=W:=by lia
    refine ⟨_,rfl,.inl ⟨rfl,_,SqL.of ht4⟩,_,rfl,r,dx4,_,rfl,hq4,pf_no (by decide +kernel) (by decide +kernel) (by decide +kernel),_,r,ns,lo',n',P,_,_,rfl,pa4,by lia,by lia,by lia,fun b t m H5 hb5 nt5 pa5 st5=>?_⟩
    have ht5:=st5 _ _ ht4 stl
    refine ⟨b,_,_,_,rfl,rfl,SqT.of hb5,rfl,tl,_,_,rfl,rfl,ht5,small1000 (by rw [List.length_map]; lia),?_⟩
    refine ⟨lo',n',ts++[t],_,rfl,elo',eln',pa5.put stl ht5 (by intro zs z; cases z),by rw [upd_same,List.map_append]; rfl,(RA4.stay fun o e=>st5 _ _ e sta).stay fun o e=>by rw [upd_ne nat]; exact e,by rw [List.length_append]; show ts.length+1=_; lia,fun j x e=>?_,fun x o e nx=>?_⟩
    ·by_cases z:j < ts.length
     ·rw [List.getElem?_append_left z] at e
      exact mt j x e
     ·have ej:j=ts.length:=by
       have:=(List.getElem?_eq_some_iff.mp e).1
       rw [List.length_append] at this
       have h1:([t]:List Int).length=1:=rfl
       lia
      rw [ej,List.getElem?_append_right (Nat.le_refl _),Nat.sub_self] at e
      have et:t=x:=Option.some.inj e
      have e1:lo'=j:=by lia
      rw [← et]
      rw [e1,en] at nt5
      exact nt5
    ·rw [upd_ne (fun z=>nx (by rw [z]; exact gtl))]
     exact sub st5 kk4 x o e nx
   ·have c':¬ (W:Int)≤(i:Int)+1:=fun z=>c (decide_eq_true z)
    exact ⟨lo',n',ts,_,rfl,elo',eln',pa4,ht4,RA4,by lia,mt,kk4⟩
  ·rintro σ H2 ⟨lo,n,ts,o,rfl,elo,eln,pa,ht,RA2,lt,mt,kk⟩
   refine ⟨_,rfl,tl,_,rfl,.inl ⟨SqL.of ht,fun q hq=>?_⟩⟩
   exact k q ts _ upd_same ⟨lt,mt⟩ fun b o e n=>same_new hq b o (kk b o e n)
end
end Kx
end
section
namespace Kx
open PySem L2
section
variable {P:Program} {w:World} {K:PySem.W.Frag} {mg:Str→Option Value} {base:Heap}
open Hm
theorem op_mulI {X:Cx}:OpR X (binaryOp .Mult) (rI PySem.IntMulOk fun i j=>.int (i * j)):=opI fun _ _ _ _ _ _ _ hc q=>PyProof.Rows.mul_int q hc
abbrev sShares:Stmt:=top 23
theorem scShares:FnScope ["row","width","share"] ["row","width","share"] (defScope sShares):=⟨rfl,rfl,rfl,(by simp only [List.nodup_cons,List.mem_cons,List.not_mem_nil,or_false,not_or,List.nodup_nil,and_true,not_false_eq_true]; (repeat' apply And.intro); all_goals decide +kernel),rfl,by decide +kernel,by decide +kernel⟩
def spShares (K:PySem.W.Frag):Sp:=fun vs H Q _=>∃ (a sh:Addr) (ns:List Int) (W P:Nat) (x y:Int),vs=[.ref a,.int W,.ref sh]∧RowAt H a ns∧ns.length≤300∧1≤W∧SqT K H sh [.int x,.int y]∧0≤x∧x≤y∧0 < y∧y < 2 ^ 200∧PySem.IntMulOk ((W:Int) - 1) x∧((W:Int) - 1) * x / y=(P:Int) ∧
 ∀ q ts H',H' q=some (.tup (ts.map V.int))→Nths ns W P ts→Same H H'→Q (.ref q) H'
theorem ok_shares {f C D fs fI:Addr} {fd fds fdI:FuncData} (F:Fun K "shares" "shares" sShares f fd) (T:Bl mg) (mParted:mg "Parted"=some (.ref D)) (MkParted:Mk K D fI) (GParted__init__:FnOk P w K mg base CX0 4 fI fdI ["self","place"] (spPInit C D)) (BParted__init__:Binds K fdI ["self","place"] [])
  (Gslid:FnOk P w K mg base CX0 9 fs fds ["row","width","heap"] (spPSlid C D)) (Dslid:Nm K mg "slid" fs fds ["row","width","heap"]):FnOk P w K mg base CX0 10 f fd ["row","width","share"] (spShares K):=by
 have sc:=scShares
 refine F.okQ scShares (fun vs H Q E h=>?_) (fun cdv A outer s H vs Q E hr h=>?_)
 ·obtain ⟨a,sh,ns,W,P,x,y,rfl,_⟩:=h
  rfl
 ·obtain ⟨a,sh,ns,W,P,x,y,rfl,RA,hn,hW,hS,x0,xy,y0,y1,cm,eP,k⟩:=h
  have hu:=hr.units0
  have hPW:P < W:=by
   have h1:((W:Int) - 1) * x≤((W:Int) - 1) * y:=Int.mul_le_mul_of_nonneg_left xy (by lia)
   have h2:((W:Int) - 1) * x / y≤(W:Int) - 1:=Int.ediv_le_of_le_mul y0 h1
   rw [eP] at h2
   lia
  refine ⟨_,(qss_one (qs_ret (qe_call Gslid (hr.mono (by decide)) rfl Dslid.m Dslid.k Dslid.b .nil pass0 (qa_cons (qv 0) (qa_cons (qv 1) (qa_cons (qe_make MkParted GParted__init__ (hr.mono (by decide)) rfl mParted BParted__init__ .nil pass0 (qa_cons (qe_op op_fdivB (qe_op op_mulI (qe_op op_sub (qv 1) qe_int) (qe_ix ix_tup (qv 2) qe_int (fun _ _=>rfl))) (qe_ix ix_tup (qv 2) qe_int (fun _ _=>rfl))) qa_nil)) qa_nil)))))),?_⟩
  refine ⟨_,rfl,_,rfl,_,rfl,_,_,rfl,rfl,_,rfl,sh,_,_,_,rfl,rfl,hS,rfl,_,_,rfl,rfl,cm,_,rfl,sh,_,_,_,rfl,rfl,hS,rfl,_,_,rfl,rfl,⟨y0,y1⟩,fun r dx h0 hx nx=>?_⟩
  have fr:∀ b o,H b=some o→(upd (upd H dx (.own r)) r (.ins D dx [])) b=some o:=fun b o e=>by rw [upd_ne (ne_of_none e h0),upd_ne (ne_of_none e hx)]; exact e
  refine ⟨fun b=>H b=none,r,dx,P,(by show [V.ref r,V.int (((W:Int) - 1) * x / y)]=_; rw [eP]),upd_same,h0,fun b e=>?_,fun H6 par st=>⟨rfl,?_⟩⟩
  ·cases z:H b with
   | none=>exact z
   | some o=>rw [fr b o z] at e; cases e
  have s6:Same H H6:=fun b o e=>st b o (fr b o e) fun z=>by have z':H b=none:=z; rw [e] at z'; cases z'
  obtain ⟨oa,ha⟩:=RA.is
  refine ⟨fun b=>H b=none,a,r,ns,W,P,rfl,RA.stay (s6 a),hn,hPW,par ns 0,(fun z=>by have z':H a=none:=z; rw [ha] at z'; cases z'),fun q ts H7 hq7 m7 k7=>?_⟩
  exact k q ts H7 hq7 m7 fun b o e=>k7 b o (s6 b o e) fun z=>by have z':H b=none:=z; rw [e] at z'; cases z'
end
end Kx
end
section
namespace Kx
open PySem L2
section
variable {P:Program} {w:World} {K:PySem.W.Frag} {mg:Str→Option Value} {base:Heap}
open Hm
abbrev sMiddles:Stmt:=top 22
theorem scMiddles:FnScope ["row","width"] ["row","width"] (defScope sMiddles):=⟨rfl,rfl,rfl,(by simp only [List.nodup_cons,List.mem_cons,List.not_mem_nil,or_false,not_or,List.nodup_nil,and_true,not_false_eq_true]; (repeat' apply And.intro); all_goals decide +kernel),rfl,by decide +kernel,by decide +kernel⟩
def spMiddles:Sp:=fun vs H Q _=>∃ (a:Addr) (ns:List Int) (W:Nat),vs=[.ref a,.int W]∧RowAt H a ns∧ns.length≤300∧1≤W∧∀ q ts H',H' q=some (.tup (ts.map V.int))→Nths ns W ((W - 1) / 2) ts→Same H H'→Q (.ref q) H'
theorem ok_middles {f fs:Addr} {fd fds:FuncData} (F:Fun K "middles" "middles" sMiddles f fd) (T:Bl mg) (Gshares:FnOk P w K mg base CX0 10 fs fds ["row","width","share"] (spShares K)) (Dshares:Nm K mg "shares" fs fds ["row","width","share"]):FnOk P w K mg base CX0 11 f fd ["row","width"] spMiddles:=by
 have sc:=scMiddles
 refine F.okQ scMiddles (fun vs H Q E h=>?_) (fun cdv A outer s H vs Q E hr h=>?_)
 ·obtain ⟨a,ns,W,rfl,_⟩:=h
  rfl
 ·obtain ⟨a,ns,W,rfl,RA,hn,hW,k⟩:=h
  have hu:=hr.units0
  refine ⟨_,(qss_one (qs_ret (qe_call Gshares (hr.mono (by decide)) rfl Dshares.m Dshares.k Dshares.b .nil pass0 (qa_cons (qv 0) (qa_cons (qv 1) (qa_cons (qe_tup (qa_cons qe_int (qa_cons qe_int qa_nil))) qa_nil)))))),?_⟩
  refine ⟨_,rfl,_,rfl,by show 2≤sizeLine; decide,fun sh hsh=>?_⟩
  have sm:=same_new (o:=.tup [.int 1,.int 2]) hsh
  refine ⟨a,sh,ns,W,(W - 1) / 2,1,2,rfl,RA.stay (sm a),hn,hW,SqT.of upd_same,by decide,by decide,by decide,by decide,CMul.ok (.inr ⟨by decide,by decide⟩),by lia,fun q ts H' hq m s2=>?_⟩
  exact k q ts H' hq m (sm.trans s2)
end
end Kx
end
section
namespace Kx
open PySem L2
section
variable {P:Program} {w:World} {K:PySem.W.Frag} {mg:Str→Option Value} {base:Heap}
open Hm
theorem RowAt.notP {H:Hp} {a b:Addr} {ns:List Int} {o:HO} (h:RowAt H a ns) (hb:H b=some o) (h1:∀ xs,o≠.lst xs) (h2:∀ xs,o≠.tup xs):a≠b:=fun z=>by
 rcases h with h | h
 ·rw [z,hb] at h; exact h1 _ (Option.some.inj h)
 ·rw [z,hb] at h; exact h2 _ (Option.some.inj h)
def spSlid (C:Addr):Sp:=fun vs H Q _=>∃ (a p d l:Addr) (ns:List Int) (W:Nat),vs=[.ref a,.int W,.ref p]∧RowAt H a ns∧ns.length≤300∧1≤W∧LateAt C H p d l (Gm.newL 0)∧a≠l ∧
 ∀ q ts H',H' q=some (.tup (ts.map V.int))→Mins ns W ts→Kept [p,d,l] H H'→Q (.ref q) H'
theorem ok_slid {f C CC CN fp fput fdrop fleast:Addr} {fd fdp fdput fddrop fdleast:FuncData} (F:Fun K "slid" "slid" sSlid f fd) (T:Bl mg) (L:LT K C) (Gplace_name:FnOk P w K mg base CX0 1 fp fdp ["place"] spPlace) (Dplace_name:Nm K mg "place_name" fp fdp ["place"])
  (Mput:Meth K C "put" fput) (Gput:FnOk P w K mg base (CXe P w) 5 fput fdput ["self","name","worth"] (spPutM C CC)) (Bput:Binds K fdput ["self","name","worth"] []) (Mdrop:Meth K C "drop" fdrop) (Gdrop:FnOk P w K mg base (CXe P w) 5 fdrop fddrop ["self","name"] (spDropM C CN)) (Bdrop:Binds K fddrop ["self","name"] []) (Mleast:Meth K C "least" fleast) (Gleast:FnOk P w K mg base (CXe P w) 6 fleast fdleast ["self"] (spLeastM C CN)) (Bleast:Binds K fdleast ["self"] []):FnOk P w K mg base CX0 7 f fd ["row","width","heap"] (spSlid C):=by
 have sc:=scSlid
 refine F.okQ scSlid (fun vs H Q E h=>?_) (fun cdv A outer s H vs Q E hr h=>?_)
 ·obtain ⟨a,p,d,l,ns,W,rfl,_⟩:=h
  rfl
 ·obtain ⟨a,p,d,l0,ns,W,rfl,RA,hn,hW,LA0,nal,k⟩:=h
  have hu:=hr.units0
  have hu1:=hr.u100
  refine ⟨_,(qss_cons (qs_set (i:=3) sc.nd rfl (Or.inl rfl) (qe_lst qa_nil))
   (qss_cons (qs_for PassesOwn.never rfl (qi_range1 rfl T.z_range (qa_cons (qe_callB call_len_seq (by rfl) T.z_len (by decide +kernel) (qa_cons (qv 0) qa_nil)) qa_nil)) (qg_name (i:=4) sc.nd rfl (Or.inl rfl)) (qss_cons (qs_expr (qe_meth (qv 2) L.cl Mput Gput (hr.mono (by decide)) Bput .nil pass_no (qa_cons (qe_call Gplace_name (hr.mono (by decide)) rfl Dplace_name.m Dplace_name.k Dplace_name.b .nil pass0 (qa_cons (qv 4) qa_nil)) (qa_cons (qe_ix ix_lt (qv 0) (qv 4) (fun _ _=>rfl)) qa_nil))))
   (qss_cons (qs_ifJ (qt_cmpR op_ge (qv 4) (qv 1) (nomark _)) (qss_one (qs_expr (qe_meth (qv 2) L.cl Mdrop Gdrop (hr.mono (by decide)) Bdrop .nil pass_no (qa_cons (qe_call Gplace_name (hr.mono (by decide)) rfl Dplace_name.m Dplace_name.k Dplace_name.b .nil pass0 (qa_cons (qe_op op_sub (qv 4) (qv 1)) qa_nil)) qa_nil)))) qss_nil)
   (qss_one (qs_if (qt_cmpR op_ge (qe_op op_add (qv 4) qe_int) (qv 1) (nomark _)) (qss_one (qs_expr (qe_bm PySem.F.plainAttrs_list PySem.F.slot_list_append PySem.F.type_list_append mt_append (qv 3) (qa_cons (qe_ix ix_tup (qe_meth0 (qv 2) L.cl Mleast Gleast (hr.mono (by decide)) Bleast .nil pass_no) qe_int (fun _ _=>rfl)) qa_nil)))) qss_nil)))))
   (qss_one (qs_ret (qe_callTy call_tuple_of (by rfl) T.z_tuple (by decide +kernel) (qa_cons (qv 3) qa_nil)))))),?_⟩
  refine ⟨by show 0≤sizeLine; decide,fun tl htl=>?_⟩
  have s1:=same_new (o:=.lst []) htl
  have g1:(upd H tl (.lst [])) tl=some (.lst []):=upd_same
  have LA1:=LA0.same s1
  have RA1:=RA.stay (s1 a)
  obtain ⟨xl,hl0,_⟩:=LA0.ls
  have ntl:tl≠l0:=(ne_of_none hl0 htl).symm
  have nat:a≠tl:=by
   obtain ⟨oa,ha⟩:=RA.is
   exact ne_of_none ha htl
  generalize upd H tl (.lst [])=H1 at s1 g1 LA1 RA1 ⊢
  have lm:(ns.map V.int).length=ns.length:=List.length_map ..
  refine ⟨_,rfl,a,_,rfl,RA1.sq,_,rfl,by lia,by lia,?_⟩
  rw [lm]
  refine for_range (lo:=0) (n:=ns.length) (fun i σ H2=>∃ (l:Addr) (s:LS) (ts:List Int) (o:Option V),σ=[some (.ref a),some (.int W),some (.ref p),some (.ref tl),o]∧LateAt C H2 p d l s∧Gm.LInv slt s∧s.stamp≤i∧WinT (thW s.there) ns (i - W) i∧H2 tl=some (.lst (ts.map V.int))∧RowAt H2 a ns∧ts.length=i+1 - W∧(∀ j t,ts[j]?=some t→IsMinW ns j (j+W) t)∧tl≠l∧a≠l∧(l=l0∨H l=none)∧Kept [p,d,l0] H H2)
   ⟨l0,Gm.newL 0,[],none,rfl,LA1,Gm.new_inv,Nat.le_refl _,fun m v=>⟨(fun h=>nomatch h),(fun ⟨k,_,h2,_⟩=>absurd h2 (Nat.not_lt_zero _))⟩,g1,RA1,by show 0=0+1 - W; lia,(fun j t h=>by cases h),ntl,nal,.inl rfl,Kept.of_same s1⟩ ?_ ?_
  ·rintro i σ H2 hi ⟨l,s,ts,o,rfl,LA,LI,st,win,ht,RA2,lt,mt,n1,n2,fr,kk⟩
   have len1:=LI.len
   have len2:=LI.tl
   obtain ⟨dx,hp⟩:=LA.ob
   have ei:(0:Int)+(i:Int)=(i:Int):=by lia
   rw [ei]
   have hv:ns[i]?=some ns[i]:=List.getElem?_eq_getElem hi
   have hvI:atI (ns.map V.int) (i:Int)=some (.int ns[i]):=atI_nat (by rw [List.getElem?_map,hv]; rfl)
   have free:Gm.dget s.there (pname i)=none:=by
    have:=win.free (by lia)
    rw [thW_get] at this
    cases z:Gm.dget s.there (pname i) with
    | none=>rfl
    | some e=>rw [z] at this; cases this
   refine ⟨_,rfl,p,dx,_,rfl,hp,lf_no (by decide +kernel) (by decide +kernel) (by decide +kernel) (by decide +kernel) (by decide +kernel),_,rfl,i,rfl,by lia,_,rfl,_,rfl,a,_,_,_,rfl,rfl,RA2.sq,hvI,p,d,l,s,pname i,ns[i],rfl,LA,by lia,by lia,Nat.le_trans (pname_all i (by lia)).1 (by decide),fun _ l' H3 LA3 k3 f3=>?_,fun z=>(z free).elim⟩
   have LI3:=Gm.put_inv slt_slo LI (n:=pname i) (w:=ns[i])
   have st3:(Gm.putL slt s (pname i) ns[i]).stamp=s.stamp+1:=by show (Gm.sweep slt _).stamp=_; rw [Gm.sweep_stamp]; rfl
   have th3:thW (Gm.putL slt s (pname i) ns[i]).there=Gm.dput (thW s.there) (pname i) ns[i]:=by show thW (Gm.sweep slt _).there=_; rw [Gm.sweep_there]; exact thW_put
   have win3:WinT (thW (Gm.putL slt s (pname i) ns[i]).there) ns (i - W) (i+1):=by rw [th3]; exact win.put (by lia) (by lia) hv
   have step:∀ {H2 H3:Hp} {l l':Addr} {s2:LS},LateAt C H2 p d l s2→Kept [p,d,l] H2 H3→Fr3 H2 l l'→tl≠l→a≠l→(l=l0∨H l=none)→(∃ ts:List Int,H2 tl=some (.lst (ts.map V.int)))→RowAt H2 a ns→Kept [p,d,l0] H H2→(∀ o,H2 tl=some o→H3 tl=some o)∧RowAt H3 a ns∧tl≠l'∧a≠l'∧(l'=l0∨H l'=none)∧Kept [p,d,l0] H H3:=by
    rintro H2 H3 l l' s2 LA k f n1 n2 fr ⟨ts,ht⟩ RA kk
    obtain ⟨dx,hp⟩:=LA.ob
    obtain ⟨ks,hd,_⟩:=LA.dc
    have ntp:tl≠p:=ne_of ht hp (by intro z; cases z)
    have ntd:tl≠d:=ne_of ht hd (by intro z; cases z)
    have nap:a≠p:=RA.notP hp (by intro _ z; cases z) (by intro _ z; cases z)
    have nad:a≠d:=RA.notP hd (by intro _ z; cases z) (by intro _ z; cases z)
    have nin:∀ b,b≠p→b≠d→b≠l→b ∉ [p,d,l]:=fun b h1 h2 h3 z=>by
     simp only [List.mem_cons,List.not_mem_nil,or_false] at z
     rcases z with z | z | z
     ·exact h1 z
     ·exact h2 z
     ·exact h3 z
    obtain ⟨oa,ha⟩:=RA.is
    refine ⟨fun o e=>k _ _ e (nin _ ntp ntd n1),RA.stay fun o e=>k _ _ e (nin _ nap nad n2),?_,?_,?_,fun b o e nb=>?_⟩
    ·rcases f with h | h
     ·rw [h]; exact n1
     ·exact ne_of_none ht h
    ·rcases f with h | h
     ·rw [h]; exact n2
     ·exact ne_of_none ha h
    ·rcases f with h | h
     ·rw [h]; exact fr
     ·by_cases y:l'=l0
      ·exact .inl y
      ·refine .inr (kk.none h fun hb=>?_)
       simp only [List.mem_cons,List.not_mem_nil,or_false] at hb
       rcases hb with z | z | z
       ·rw [z,hp] at h; cases h
       ·rw [z,hd] at h; cases h
       ·exact y z
    ·refine k b o (kk b o e nb) fun z=>?_
     simp only [List.mem_cons,List.not_mem_nil,or_false] at z nb
     rcases z with z | z | z
     ·exact nb (.inl z)
     ·exact nb (.inr (.inl z))
     ·rcases fr with y | y
      ·exact nb (.inr (.inr (z.trans y)))
      ·rw [← z,e] at y; cases y
   obtain ⟨t3,RA3,n13,n23,fr3,kk3⟩:=step LA k3 f3 n1 n2 fr ⟨ts,ht⟩ RA2 kk
   have ht3:=t3 _ ht
   clear k3 f3 kk RA2 n1 n2 fr t3
   have len3:=LI3.len
   have len4:=LI3.tl
   refine ⟨fun σ' H4=>∃ (l:Addr) (s:LS),σ'=[some (.ref a),some (.int W),some (.ref p),some (.ref tl),some (.int i)]∧LateAt C H4 p d l s∧Gm.LInv slt s∧s.stamp≤i+1∧WinT (thW s.there) ns (i+1 - W) (i+1)∧H4 tl=some (.lst (ts.map V.int))∧RowAt H4 a ns∧tl≠l∧a≠l∧(l=l0∨H l=none)∧Kept [p,d,l0] H H4,?_,?_⟩
   ·refine ⟨_,rfl,_,rfl,_,_,rfl,rfl,_,rfl,ite2 (fun c=>?_) (fun c=>?_)⟩
    ·have c':(W:Int)≤i:=of_decide_eq_true c
     have eW:(i:Int) - (W:Int)=((i - W:Nat):Int):=by lia
     obtain ⟨dx3,hp3⟩:=LA3.ob
     have has:Gm.dget (Gm.putL slt s (pname i) ns[i]).there (pname (i - W))≠none:=fun z=>by
      have:=win3.has hn (by lia) (by lia)
      rw [thW_get,z] at this
      exact this rfl
     refine ⟨_,rfl,p,dx3,_,rfl,hp3,lf_no (by decide +kernel) (by decide +kernel) (by decide +kernel) (by decide +kernel) (by decide +kernel),_,rfl,_,rfl,_,_,rfl,rfl,i - W,(by show [V.int ((i:Int) - (W:Int))]=_; rw [eW]),by lia,p,d,l',_,pname (i - W),rfl,LA3,by lia,by lia,Nat.le_trans (pname_all (i - W) (by lia)).1 (by decide),fun _ l4 H4 LA4 k4 f4=>?_,fun z=>(has z).elim⟩
     obtain ⟨t4,RA4,n14,n24,fr4,kk4⟩:=step LA3 k4 f4 n13 n23 fr3 ⟨ts,ht3⟩ RA3 kk3
     refine ⟨l4,_,rfl,LA4,Gm.dropL_inv slt_slo LI3,?_,?_,t4 _ ht3,RA4,n14,n24,fr4,kk4⟩
     ·show (Gm.sweep slt _).stamp≤_
      rw [Gm.sweep_stamp]
      show (Gm.putL slt s (pname i) ns[i]).stamp≤_
      lia
     ·have th4:thW (Gm.dropL slt (Gm.putL slt s (pname i) ns[i]) (pname (i - W))).there=Gm.ddel (thW (Gm.putL slt s (pname i) ns[i]).there) (pname (i - W)):=by show thW (Gm.sweep slt _).there=_; rw [Gm.sweep_there]; exact thW_del
      rw [th4]
      have e:i+1 - W=i - W+1:=by lia
      rw [e]
      exact win3.del (by lia) (by lia)
    ·have c':¬ (W:Int)≤i:=fun z=>c (decide_eq_true z)
     refine ⟨l',_,rfl,LA3,LI3,by lia,?_,ht3,RA3,n13,n23,fr3,kk3⟩
     have e:i+1 - W=i - W:=by lia
     rw [e]
     exact win3
   rintro σ' H4 ⟨l4,s4,rfl,LA4,LI4,st4,win4,ht4,RA4,n14,n24,fr4,kk4⟩
   refine ⟨_,rfl,_,_,rfl,rfl,_,rfl,_,_,rfl,rfl,_,rfl,ite2 (fun c=>?_) (fun c=>?_)⟩
   ·have c':(W:Int)≤(i:Int)+1:=of_decide_eq_true c
    obtain ⟨dx4,hp4⟩:=LA4.ob
    have len5:=LI4.len
    have ne4:s4.there≠[]:=fun z=>win4.ne (by lia) (by lia) (thW_nil.mpr z)
    refine ⟨_,rfl,.inl ⟨rfl,_,SqL.of ht4⟩,_,rfl,p,dx4,_,rfl,hp4,lf_no (by decide +kernel) (by decide +kernel) (by decide +kernel) (by decide +kernel) (by decide +kernel),p,d,l4,s4,rfl,LA4,LI4,by lia,fun _ q H5 LA5 hq5 k5=>?_,fun z=>(ne4 z).elim⟩
    obtain ⟨t5,RA5,n15,n25,fr5,kk5⟩:=step LA4 k5 (.inl rfl) n14 n24 fr4 ⟨ts,ht4⟩ RA4 kk4
    refine ⟨q,_,_,_,rfl,rfl,SqT.of hq5,rfl,tl,_,_,rfl,rfl,t5 _ ht4,small1000 (by rw [List.length_map]; lia),?_⟩
    have mn:=win4.least (least_plain LI4 ne4)
    have co:=Gm.least_ok slt_slo LI4 ne4
    have tq:∀ b zs,H5 b=some (.tup zs)→(upd H5 tl (.lst (ts.map V.int++[.int (_root_.L2.hd s4).w]))) b=some (.tup zs):=fun b zs z=>by rw [upd_ne (ne_of z (t5 _ ht4) (by intro y; cases y))]; exact z
    refine ⟨l4,_,ts++[(_root_.L2.hd s4).w],_,rfl,LA5.stay (fun b o hb e=>?_) tq,co.inv,by rw [co.stamp]; exact st4,by rw [co.there]; exact win4,by rw [upd_same,List.map_append]; rfl,RA5.stay fun o e=>by rw [upd_ne nat]; exact e,by rw [List.length_append]; show ts.length+1=_; lia,fun j t e=>?_,n15,n25,fr5,?_⟩
    ·have nb:b≠tl:=by
      obtain ⟨dx5,hp5⟩:=LA5.ob
      obtain ⟨ks5,hd5,_⟩:=LA5.dc
      rcases hb with rfl | rfl | rfl
      ·exact ne_of hp5 (t5 _ ht4) (by intro z; cases z)
      ·exact ne_of hd5 (t5 _ ht4) (by intro z; cases z)
      ·exact n15.symm
     rw [upd_ne nb]; exact e
    ·by_cases z:j < ts.length
     ·rw [List.getElem?_append_left z] at e
      exact mt j t e
     ·have ej:j=ts.length:=by
       have:=(List.getElem?_eq_some_iff.mp e).1
       rw [List.length_append] at this
       have h1:([(_root_.L2.hd s4).w]:List Int).length=1:=rfl
       lia
      rw [ej,List.getElem?_append_right (Nat.le_refl _),Nat.sub_self] at e
      have et:(_root_.L2.hd s4).w=t:=Option.some.inj e
      have e1:i+1 - W=j:=by lia
      have e2:i+1=j+W:=by lia
      rw [← et]
      rw [e1,e2] at mn
      exact mn
    ·exact kk5.newer htl
   ·have c':¬ (W:Int)≤(i:Int)+1:=fun z=>c (decide_eq_true z)
    exact ⟨l4,s4,ts,_,rfl,LA4,LI4,st4,win4,ht4,RA4,by lia,mt,n14,n24,fr4,kk4⟩
  ·rintro σ H2 ⟨l,s,ts,o,rfl,LA,LI,st,win,ht,RA2,lt,mt,n1,n2,fr,kk⟩
   refine ⟨_,rfl,tl,_,rfl,.inl ⟨SqL.of ht,fun q hq=>?_⟩⟩
   exact k q ts _ upd_same ⟨lt,mt⟩ (kk.new hq)
abbrev sLeasts:Stmt:=top 20
theorem scLeasts:FnScope ["row","width"] ["row","width"] (defScope sLeasts):=⟨rfl,rfl,rfl,(by simp only [List.nodup_cons,List.mem_cons,List.not_mem_nil,or_false,not_or,List.nodup_nil,and_true,not_false_eq_true]; (repeat' apply And.intro); all_goals decide +kernel),rfl,by decide +kernel,by decide +kernel⟩
def spLeasts:Sp:=fun vs H Q _=>∃ (a:Addr) (ns:List Int) (W:Nat),vs=[.ref a,.int W]∧RowAt H a ns∧ns.length≤300∧1≤W∧∀ q ts H',H' q=some (.tup (ts.map V.int))→Mins ns W ts→Same H H'→Q (.ref q) H'
theorem ok_leasts {f C fs fI:Addr} {fd fds fdI:FuncData} (F:Fun K "leasts" "leasts" sLeasts f fd) (T:Bl mg) (mLate:mg "Late"=some (.ref C)) (MkLate:Mk K C fI) (GLate__init__:FnOk P w K mg base CX0 2 fI fdI ["self","slack"] (spLInit C)) (BLate__init__:Binds K fdI ["self","slack"] [])
  (Gslid:FnOk P w K mg base CX0 7 fs fds ["row","width","heap"] (spSlid C)) (Dslid:Nm K mg "slid" fs fds ["row","width","heap"]):FnOk P w K mg base CX0 8 f fd ["row","width"] spLeasts:=by
 have sc:=scLeasts
 refine F.ok scLeasts (fun vs H Q E h=>?_) (fun cdv A outer s H vs Q E hr h=>?_)
 ·obtain ⟨a,ns,W,rfl,_⟩:=h
  rfl
 ·obtain ⟨a,ns,W,rfl,RA,hn,hW,k⟩:=h
  have hu:=hr.units0
  refine ⟨_,(QSs.to (qss_one (qs_ret (qe_call Gslid (hr.mono (by decide)) rfl Dslid.m Dslid.k Dslid.b .nil pass0 (qa_cons (qv 0) (qa_cons (qv 1) (qa_cons (qe_make MkLate GLate__init__ (hr.mono (by decide)) rfl mLate BLate__init__ .nil pass0 (qa_cons qe_int qa_nil)) qa_nil))))))),?_⟩
  refine ⟨_,rfl,_,rfl,fun p dx hp hdx ndx=>?_⟩
  refine ⟨p,dx,0,rfl,upd_same,fun d l H6 hdd hl LA6 k6=>⟨rfl,?_⟩⟩
  have fr:∀ b o,H b=some o→(upd (upd H dx (.own p)) p (.ins C dx [])) b=some o:=fun b o e=>by rw [upd_ne (ne_of_none e hp),upd_ne (ne_of_none e hdx)]; exact e
  have s6:Same H H6:=fun b o e=>k6 b o (fr b o e) (fun z=>ne_of_none e hp (List.mem_singleton.mp z))
  obtain ⟨oa,ha⟩:=RA.is
  have no:∀ {b:Addr} {o:HO},H b=some o→b ∉ [p,d,l]:=fun {b o} e z=>by
   have e1:=fr b o e
   simp only [List.mem_cons,List.not_mem_nil,or_false] at z
   rcases z with h | h | h
   ·rw [h,hp] at e; cases e
   ·rw [h,hdd] at e1; cases e1
   ·rw [h,hl] at e1; cases e1
  refine ⟨a,p,d,l,ns,W,rfl,RA.stay (s6 a),hn,hW,LA6,fun z=>no ha (by rw [z]; simp),fun q ts H7 hq7 m7 k7=>?_⟩
  exact k q ts H7 hq7 m7 fun b o e=>k7 b o (s6 b o e) (no e)
abbrev sTurned:Stmt:=top 24
theorem scTurned:FnScope ["row"] ["row"] (defScope sTurned):=⟨rfl,rfl,rfl,(by simp only [List.nodup_cons,List.mem_cons,List.not_mem_nil,or_false,not_or,List.nodup_nil,and_true,not_false_eq_true]; (repeat' apply And.intro); all_goals decide +kernel),rfl,by decide +kernel,by decide +kernel⟩
def spTurned:Sp:=fun vs H Q _=>∃ (a:Addr) (ns:List Int),vs=[.ref a]∧RowAt H a ns∧ns.length≤300∧∀ q H',H' q=some (.tup ((negL ns).map V.int))→Same H H'→Q (.ref q) H'
theorem ok_turned {f:Addr} {fd:FuncData} (F:Fun K "turned" "turned" sTurned f fd) (T:Bl mg):FnOk P w K mg base CX0 1 f fd ["row"] spTurned:=by
 have sc:=scTurned
 refine F.ok scTurned (fun vs H Q E h=>?_) (fun cdv A outer s H vs Q E hr h=>?_)
 ·obtain ⟨a,ns,rfl,_⟩:=h
  rfl
 ·obtain ⟨a,ns,rfl,RA,hn,k⟩:=h
  have hu:=hr.units0
  refine ⟨_,(QSs.to (qss_one (qs_ret (qe_callTy call_tuple_of (by rfl) T.z_tuple (by decide +kernel) (qa_cons (qe_comp (Blk.of (N:=["row"]) (esc:=defScope sTurned) (NB:=[]) (cap:=[]) rfl rfl (fun y hy=>cell_has hy) rfl (by decide +kernel) (by decide +kernel) (by decide +kernel) rfl (by decide +kernel) rfl (by decide +kernel)) rfl rfl (qi_seq (qv 0)) (fun C fp s₀ H₀=>qts_nil) (fun C fp s₀ H₀=>(qe_op op_sub qe_int (qv 0)))) qa_nil))))),?_⟩
  have lm:(ns.map V.int).length=ns.length:=List.length_map ..
  have step:∀ {D:Addr} {i:Nat} {x:V} {ys:List V} {H4:Hp},H D=none→(ns.map V.int)[i]?=some x→H4 D=some (.lst ys)∧ys=((negL ns).map V.int).take i∧Same H H4→∃ v:Int,x=.int v∧ys.length < sizeLine∧i < ns.length∧((upd H4 D (.lst (ys++[.int (0 - v)]))) D=some (.lst (ys++[.int (0 - v)]))∧ys++[.int (0 - v)]=((negL ns).map V.int).take (i+1)∧Same H (upd H4 D (.lst (ys++[.int (0 - v)])))):=by
   rintro D i x ys H4 hD hx ⟨h4,rfl,s4⟩
   rw [List.getElem?_map] at hx
   cases e:ns[i]? with
   | none=>rw [e] at hx; cases hx
   | some v =>
    rw [e] at hx
    have li:=(List.getElem?_eq_some_iff.mp e).1
    refine ⟨v,(Option.some.inj hx).symm,small1000 (by rw [List.length_take]; lia),li,upd_same,?_,fun b o h=>?_⟩
    ·rw [List.take_add_one,List.getElem?_map]
     unfold negL
     rw [List.getElem?_map,e]; rfl
    ·rw [upd_ne (ne_of_none h hD)]; exact s4 b o h
  have fin:∀ {D:Addr} {ys:List V} {H4:Hp},H4 D=some (.lst ys)∧ys=((negL ns).map V.int).take ns.length∧Same H H4→∃ p ys',[V.ref D]=[.ref p]∧((SqL K H4 p ys'∧∀ l,H4 l=none→Q (.ref l) (upd H4 l (.tup ys')))∨(SqT K H4 p ys'∧Q (.ref p) H4)):=by
   rintro D ys H4 ⟨h4,rfl,s4⟩
   have e:((negL ns).map V.int).take ns.length=(negL ns).map V.int:=by
    have:((negL ns).map V.int).length=ns.length:=by unfold negL; rw [List.length_map,List.length_map]
    rw [← this,List.take_length]
   rw [e] at h4
   exact ⟨D,_,rfl,.inl ⟨SqL.of h4,fun l hl=>k l _ upd_same (s4.trans (same_new hl))⟩⟩
  refine ⟨_,rfl,a,rfl,?_⟩
  rcases RA with h | h
  ·refine .inl ⟨⟨_,SqL.of h⟩,fun D hD=>?_⟩
   refine comp_listR (K:=K) (a:=a) (xs:=ns.map V.int) (fun i ys H4=>H4 D=some (.lst ys)∧ys=((negL ns).map V.int).take i∧Same H H4) ⟨upd_same,rfl,same_new hD⟩ (fun i ys H4 z=>⟨z.1,SqL.of (z.2.2 _ _ h)⟩) ?_ ?_
   ·rintro i x ys H4 hx z
    obtain ⟨v,rfl,z1,li,z2⟩:=step hD hx z
    unfold tYes
    dsimp only
    rw [if_pos rfl]
    exact ⟨_,rfl,_,_,rfl,rfl,z.1,z1,_,by lia,rfl,by lia,z2⟩
   ·rintro ys H4 z
    rw [lm] at z
    exact fin z
  ·refine .inr ⟨⟨_,SqT.of h⟩,fun D hD=>?_⟩
   refine comp_tupR (K:=K) (a:=a) (xs:=ns.map V.int) (fun i ys H4=>H4 D=some (.lst ys)∧ys=((negL ns).map V.int).take i∧Same H H4) ⟨upd_same,rfl,same_new hD⟩ (fun i ys H4 z=>⟨z.1,SqT.of (z.2.2 _ _ h)⟩) ?_ ?_
   ·rintro i x ys H4 hx z
    obtain ⟨v,rfl,z1,li,z2⟩:=step hD hx z
    unfold tYes
    dsimp only
    rw [if_pos rfl]
    exact ⟨_,rfl,_,_,rfl,rfl,z.1,z1,_,by lia,rfl,by lia,z2⟩
   ·rintro ys H4 z
    rw [lm] at z
    exact fin z
abbrev sGreatests:Stmt:=top 21
theorem scGreatests:FnScope ["row","width"] ["row","width"] (defScope sGreatests):=⟨rfl,rfl,rfl,(by simp only [List.nodup_cons,List.mem_cons,List.not_mem_nil,or_false,not_or,List.nodup_nil,and_true,not_false_eq_true]; (repeat' apply And.intro); all_goals decide +kernel),rfl,by decide +kernel,by decide +kernel⟩
def spGreatests:Sp:=fun vs H Q _=>∃ (a:Addr) (ns:List Int) (W:Nat),vs=[.ref a,.int W]∧RowAt H a ns∧ns.length≤300∧1≤W∧∀ q ts H',H' q=some (.tup (ts.map V.int))→Maxs ns W ts→Same H H'→Q (.ref q) H'
theorem ok_greatests {f ft fl:Addr} {fd fdt fdl:FuncData} (F:Fun K "greatests" "greatests" sGreatests f fd) (T:Bl mg) (Gturned:FnOk P w K mg base CX0 1 ft fdt ["row"] spTurned) (Dturned:Nm K mg "turned" ft fdt ["row"])
  (Gleasts:FnOk P w K mg base CX0 8 fl fdl ["row","width"] spLeasts) (Dleasts:Nm K mg "leasts" fl fdl ["row","width"]):FnOk P w K mg base CX0 9 f fd ["row","width"] spGreatests:=by
 have sc:=scGreatests
 refine F.ok scGreatests (fun vs H Q E h=>?_) (fun cdv A outer s H vs Q E hr h=>?_)
 ·obtain ⟨a,ns,W,rfl,_⟩:=h
  rfl
 ·obtain ⟨a,ns,W,rfl,RA,hn,hW,k⟩:=h
  have hu:=hr.units0
  refine ⟨_,(QSs.to (qss_one (qs_ret (qe_call Gturned (hr.mono (by decide)) rfl Dturned.m Dturned.k Dturned.b .nil pass0 (qa_cons (qe_call Gleasts (hr.mono (by decide)) rfl Dleasts.m Dleasts.k Dleasts.b .nil pass0 (qa_cons (qe_call Gturned (hr.mono (by decide)) rfl Dturned.m Dturned.k Dturned.b .nil pass0 (qa_cons (qv 0) qa_nil)) (qa_cons (qv 1) qa_nil))) qa_nil))))),?_⟩
  have ln:(negL ns).length=ns.length:=by unfold negL; rw [List.length_map]
  refine ⟨_,rfl,a,ns,rfl,RA,hn,fun q1 H1 h1 s1=>?_⟩
  refine ⟨_,rfl,q1,negL ns,W,rfl,.inr h1,by lia,hW,fun q2 ts H2 h2 m2 s2=>?_⟩
  refine ⟨q2,ts,rfl,.inr h2,by rw [m2.len]; lia,fun q3 H3 h3 s3=>?_⟩
  exact k q3 _ H3 h3 m2.neg ((s1.trans s2).trans s3)
end
end Kx
end
section
namespace Kx
open PySem L2
section
variable {P:Program} {w:World} {K:PySem.W.Frag} {mg:Str→Option Value} {base:Heap}
open Hm
abbrev sNumber:Stmt:=top 29
theorem scNumber:FnScope ["script","k","cells","size","cell","turn","step","seed"] ["script","k"] (defScope sNumber):=⟨rfl,rfl,rfl,(by simp only [List.nodup_cons,List.mem_cons,List.not_mem_nil,or_false,not_or,List.nodup_nil,and_true,not_false_eq_true]; (repeat' apply And.intro); all_goals decide +kernel),rfl,by decide +kernel,by decide +kernel⟩
def spNumber (K:PySem.W.Frag):Sp:=fun vs H Q _=>∃ (a:Addr) (ns:List Int) (k:Int),vs=[.ref a,.int k]∧SqL K H a (ns.map V.int)∧ns.length≤63∧0≤k∧∀ r H',0≤r→r < 1000000→Same H H'→Q (.int r) H'
theorem ok_number {f:Addr} {fd:FuncData} (F:Fun K "_law_number" "_law_number" sNumber f fd) (T:Bl mg) (z_max:mg "max"=none) (z_min:mg "min"=none):FnOk P w K mg base CX0 1 f fd ["script","k"] (spNumber K):=by
 have sc:=scNumber
 refine F.okQ scNumber (fun vs H Q E h=>?_) (fun cdv A outer s H vs Q E hr h=>?_)
 ·obtain ⟨a,ns,k,rfl,_⟩:=h
  rfl
 ·obtain ⟨a,ns,k,rfl,hS,hn,hk,kQ⟩:=h
  have hu:=hr.units0
  refine ⟨_,(qss_cons (qs_set (i:=2) sc.nd rfl (Or.inl rfl) (qe_op op_cat (qe_callTy call_list_of (by rfl) T.z_list (by decide +kernel) (qa_cons (qv 0) qa_nil)) (qe_lst (qa_cons qe_int qa_nil))))
   (qss_cons (qs_set (i:=3) sc.nd rfl (Or.inl rfl) (qe_callB (call_max2 rfl) (by rfl) z_max (by decide +kernel) (qa_cons qe_int (qa_cons (qe_callB call_len_seq (by rfl) T.z_len (by decide +kernel) (qa_cons (qv 0) qa_nil)) qa_nil))))
   (qss_cons (qs_set (i:=4) sc.nd rfl (Or.inl rfl) (qe_ix ix_list (qv 2) (qe_op op_mod (qv 1) (qv 3)) (fun _ _=>rfl)))
   (qss_cons (qs_set (i:=5) sc.nd rfl (Or.inl rfl) (qe_op op_fdivB (qv 1) (qv 3)))
   (qss_cons (qs_if (qt_cmpR op_ge (qv 4) (qe_op op_pow qe_int qe_int) (nomark _)) (qss_cons (qs_for PassesOwn.never rfl (qi_range1 rfl T.z_range (qa_cons (qe_callB (call_min2 rfl) (by rfl) z_min (by decide +kernel) (qa_cons (qv 5) (qa_cons qe_int qa_nil))) qa_nil)) (qg_name (i:=6) sc.nd rfl (Or.inl rfl)) (qss_one (qs_set (i:=4) sc.nd rfl (Or.inl rfl) (qe_op op_fdivB (qv 4) qe_int))))
   (qss_one (qs_ret (qe_op op_mod (qv 4) qe_int)))) qss_nil)
   (qss_cons (qs_set (i:=7) sc.nd rfl (Or.inl rfl) (qe_op op_mod (qe_op op_mul (qe_op op_add (qe_op op_add (qe_op op_add (qe_op op_mod (qv 4) qe_int) qe_int) (qe_op op_mul qe_int (qv 5))) (qe_op op_mul qe_int (qv 1))) qe_int) qe_int))
   (qss_cons (qs_set (i:=7) sc.nd rfl (Or.inl rfl) (qe_op op_mod (qe_op op_add (qe_op op_add (qe_op op_mul (qv 7) (qv 7)) (qe_op op_mul qe_int (qv 5))) (qe_op op_mul qe_int (qv 1))) qe_int))
   (qss_one (qs_ret (qe_op op_mod (qe_op op_fdivB (qe_op op_mod (qe_op op_mul (qv 7) qe_int) qe_int) qe_int) qe_int)))))))))),?_⟩
  have t1:∀ {H':Hp},Same H H'→SqL K H' a (ns.map V.int):=fun k=>hS.imp (fun z=>z.imp (k _ _) (fun ⟨o,e⟩=>⟨o,k _ _ e⟩)) id
  refine ⟨_,rfl,a,_,rfl,.inl hS,fun l1 hl1=>?_⟩
  have s1:=same_new (o:=.lst (ns.map V.int)) hl1
  have g1:=upd_same (H:=H) (a:=l1) (o:=.lst (ns.map V.int))
  generalize upd H l1 (.lst (ns.map V.int))=H1 at s1 g1 ⊢
  refine ⟨by show 1≤sizeLine; decide,fun l2 hl2=>?_⟩
  have s2:=same_new (o:=.lst [.int 0]) hl2
  have g2:=upd_same (H:=H1) (a:=l2) (o:=.lst [.int 0])
  generalize upd H1 l2 (.lst [.int 0])=H2 at s2 g2 ⊢
  have lm:(ns.map V.int).length=ns.length:=List.length_map ..
  refine ⟨l1,l2,_,_,rfl,rfl,s2 _ _ g1,g2,Nat.le_trans (show (ns.map V.int).length+1≤1000 by lia) (by decide),fun l3 hl3=>?_⟩
  have e3:ns.map V.int++[.int 0]=(ns++[0]).map V.int:=by rw [List.map_append]; rfl
  rw [e3]
  have s3:=same_new (o:=.lst ((ns++[0]).map V.int)) hl3
  have g3:=upd_same (H:=H2) (a:=l3) (o:=.lst ((ns++[0]).map V.int))
  have sH:=(s1.trans s2).trans s3
  generalize upd H2 l3 (.lst ((ns++[0]).map V.int))=H3 at s3 g3 sH ⊢
  refine ⟨_,rfl,a,_,rfl,.inl (t1 sH),1,_,rfl,?_⟩
  rw [lm]
  obtain ⟨sz,esz,z1,z2,z3⟩:∃ sz:Int,(if (ns.length:Int) > 1 then (ns.length:Int) else 1)=sz∧1≤sz∧sz≤63∧sz≤(ns++[0]).length:=by
   refine ⟨_,rfl,?_,?_,?_⟩
   ·split <;> lia
   ·split <;> lia
   ·rw [List.length_append]
    split <;> simp <;> lia
  rw [esz]
  have p0:0≤k % sz:=mod_lo (by lia)
  have p1:k % sz < sz:=mod_hi (by lia)
  refine ⟨_,rfl,_,rfl,_,rfl,_,_,rfl,rfl,(by show (0:Int) < sz; lia),l3,_,_,_,rfl,rfl,SqL.of g3,ix_int p0 (by lia),?_⟩
  refine ⟨_,rfl,_,rfl,_,_,rfl,rfl,⟨by lia,by lia⟩,?_⟩
  have tn:0≤k / sz:=Int.ediv_nonneg hk (by lia)
  generalize (ns++[0]).getD (k % sz).toNat 0=cell
  refine ⟨_,rfl,_,_,rfl,rfl,⟨by decide,by decide,by decide⟩,_,_,rfl,rfl,_,rfl,ite2 (fun _=>?_) (fun _=>?_)⟩
  ·obtain ⟨mt,emt,y1,y2⟩:∃ mt:Nat,(if (60:Int) < (k / sz) then (60:Int) else (k / sz))=(mt:Int)∧True∧mt≤60:=by
    refine ⟨(if (60:Int) < (k / sz) then (60:Int) else (k / sz)).toNat,?_,trivial,?_⟩
    ·split <;> lia
    ·split <;> lia
   refine ⟨_,rfl,(k / sz),60,rfl,?_⟩
   rw [emt]
   refine ⟨_,rfl,by lia,by lia,?_⟩
   rw [Int.toNat_natCast]
   refine for_range (lo:=0) (n:=mt) (fun i σ H4=>∃ (c:Int) (o:Option V),σ=[some (.ref a),some (.int k),some (.ref l3),some (.int sz),some (.int c),some (.int (k / sz)),o,none]∧H4=H3) ⟨cell,none,rfl,rfl⟩ ?_ ?_
   ·rintro i σ H4 hi ⟨c,o,rfl,rfl⟩
    exact ⟨_,rfl,_,_,rfl,rfl,⟨by decide,by decide⟩,_,_,rfl,rfl⟩
   ·rintro σ H4 ⟨c,o,rfl,rfl⟩
    exact ⟨_,rfl,_,_,rfl,rfl,(by show (0:Int) < _; decide),kQ _ _ (mod_lo (by decide)) (mod_hi (by decide)) sH⟩
  ·refine ⟨_,rfl,_,_,rfl,rfl,(by show (0:Int) < _; decide),_,_,rfl,rfl,_,rfl,_,_,rfl,rfl,.inl ⟨by decide,by decide⟩,_,_,rfl,rfl,_,rfl,_,_,rfl,rfl,.inl ⟨by decide,by decide⟩,_,_,rfl,rfl,_,_,rfl,rfl,.inr ⟨by decide,by decide⟩,_,_,rfl,rfl,(by show (0:Int) < _; decide),?_⟩
   refine ⟨_,rfl,_,rfl,_,_,rfl,rfl,.inl ⟨?b1,?b2⟩,_,rfl,_,_,rfl,rfl,.inl ⟨by decide,by decide⟩,_,_,rfl,rfl,_,rfl,_,_,rfl,rfl,.inl ⟨by decide,by decide⟩,_,_,rfl,rfl,_,_,rfl,rfl,(by show (0:Int) < _; decide),?_⟩
   case b1=>exact Int.lt_of_lt_of_le (by decide) (mod_lo (b:=2147483647) (by decide))
   case b2=>exact Int.lt_trans (mod_hi (b:=2147483647) (by decide)) (by decide)
   exact ⟨_,rfl,_,_,rfl,rfl,.inr ⟨by decide,by decide⟩,_,_,rfl,rfl,(by show (0:Int) < _; decide),_,_,rfl,rfl,⟨by decide,by decide⟩,_,_,rfl,rfl,(by show (0:Int) < _; decide),kQ _ _ (mod_lo (by decide)) (mod_hi (by decide)) sH⟩
abbrev sLWorth:Stmt:=top 30
theorem scLWorth:FnScope ["number","kind"] ["number","kind"] (defScope sLWorth):=⟨rfl,rfl,rfl,(by simp only [List.nodup_cons,List.mem_cons,List.not_mem_nil,or_false,not_or,List.nodup_nil,and_true,not_false_eq_true]; (repeat' apply And.intro); all_goals decide +kernel),rfl,by decide +kernel,by decide +kernel⟩
def spLWorth:Sp:=fun vs H Q _=>∃ (n k:Int),vs=[.int n,.int k]∧0≤n∧n < 1000000∧∀ r H',Same H H'→Q (.int r) H'
theorem ok_lworth {f:Addr} {fd:FuncData} (F:Fun K "_law_worth" "_law_worth" sLWorth f fd) (T:Bl mg):FnOk P w K mg base CX0 1 f fd ["number","kind"] spLWorth:=by
 have sc:=scLWorth
 refine F.okQ scLWorth (fun vs H Q E h=>?_) (fun cdv A outer s H vs Q E hr h=>?_)
 ·obtain ⟨n,k,rfl,_⟩:=h
  rfl
 ·obtain ⟨n,k,rfl,hn,hn1,kQ⟩:=h
  have hu:=hr.units0
  refine ⟨_,(qss_cons (qs_if (qt_cmpR op_eq (qv 1) qe_int (nomark _)) (qss_one (qs_ret (qe_op op_sub (qe_op op_mod (qv 0) qe_int) qe_int))) qss_nil)
   (qss_cons (qs_if (qt_cmpR op_eq (qv 1) qe_int (nomark _)) (qss_one (qs_ret (qe_op op_sub (qe_op op_mod (qv 0) qe_int) qe_int))) qss_nil)
   (qss_cons (qs_if (qt_cmpR op_eq (qv 1) qe_int (nomark _)) (qss_one (qs_ret (qe_op op_add (qe_op op_mul (qe_op op_sub (qv 0) qe_int) (qe_op op_pow qe_int qe_int)) (qe_op op_mod (qv 0) qe_int)))) qss_nil)
   (qss_one (qs_ret (qe_ix ix_list (qe_lst (qa_cons qe_int (qa_cons qe_int (qa_cons (qe_op op_mod (qv 0) qe_int) (qa_cons (qe_op op_sub qe_int (qv 0)) (qa_cons (qe_op op_add (qe_op op_pow qe_int qe_int) (qe_op op_mod (qv 0) qe_int)) qa_nil)))))) (qe_op op_mod (qv 0) qe_int) (fun _ _=>rfl))))))),?_⟩
  refine ⟨_,rfl,rfl,_,rfl,ite2 (fun _=>?_) (fun _=>?_)⟩
  ·exact ⟨_,rfl,_,_,rfl,rfl,(by show (0:Int) < 5; decide),_,_,rfl,rfl,kQ _ _ fun b o h=>h⟩
  refine ⟨_,rfl,rfl,_,rfl,ite2 (fun _=>?_) (fun _=>?_)⟩
  ·exact ⟨_,rfl,_,_,rfl,rfl,(by show (0:Int) < 2001; decide),_,_,rfl,rfl,kQ _ _ fun b o h=>h⟩
  refine ⟨_,rfl,rfl,_,rfl,ite2 (fun _=>?_) (fun _=>?_)⟩
  ·exact ⟨_,rfl,_,_,rfl,rfl,_,_,rfl,rfl,⟨by decide,by decide,by decide⟩,_,_,rfl,rfl,.inl ⟨by lia,by lia⟩,_,rfl,_,_,rfl,rfl,(by show (0:Int) < 7; decide),_,_,rfl,rfl,kQ _ _ fun b o h=>h⟩
  refine ⟨_,rfl,_,_,rfl,rfl,(by show (0:Int) < 60; decide),_,rfl,_,_,rfl,rfl,_,_,rfl,rfl,⟨by decide,by decide,by decide⟩,_,rfl,_,_,rfl,rfl,(by show (0:Int) < 3; decide),_,_,rfl,rfl,by show 5≤sizeLine; decide,fun l hl=>?_⟩
  obtain ⟨v,ev,mv⟩:=atI_ex (l:=([.int 0,.int 1,.int (n % 60),.int (0 - n),.int ((10:Int) ^ (29:Int).toNat+n % 3)]:List V)) (i:=n % 5) (mod_lo (by decide)) (mod_hi (b:=5) (by decide))
  obtain ⟨r,rfl⟩:∃ i:Int,v=.int i:=by
   simp only [List.mem_cons,List.not_mem_nil,or_false] at mv
   rcases mv with h | h | h | h | h <;> exact ⟨_,h⟩
  exact ⟨_,rfl,_,_,rfl,rfl,(by show (0:Int) < 5; decide),l,_,_,_,rfl,rfl,SqL.of upd_same,ev,kQ _ _ (same_new hl)⟩
end
end Kx
end
section
namespace Kx
open PySem L2
section
variable {P:Program} {w:World} {K:PySem.W.Frag} {mg:Str→Option Value} {base:Heap}
open Hm
abbrev sLRow:Stmt:=top 31
theorem scLRow:FnScope ["script","start","most","head","many","kind","row","way"] ["script","start","most"] (defScope sLRow):=⟨rfl,rfl,rfl,(by simp only [List.nodup_cons,List.mem_cons,List.not_mem_nil,or_false,not_or,List.nodup_nil,and_true,not_false_eq_true]; (repeat' apply And.intro); all_goals decide +kernel),rfl,by decide +kernel,by decide +kernel⟩
def spLRow (K:PySem.W.Frag):Sp:=fun vs H Q _=>∃ (a:Addr) (ns:List Int) (st:Int) (mo:Nat),vs=[.ref a,.int st,.int mo]∧SqL K H a (ns.map V.int)∧ns.length≤63∧0≤st∧12≤mo∧mo≤300∧∀ (l:Addr) (rs:List Int) (H':Hp),H' l=some (.lst (rs.map V.int))→rs.length≤mo→H l=none→Same H H'→Q (.ref l) H'
theorem ok_lrow {f fn fw:Addr} {fd fdn fdw:FuncData} (F:Fun K "_law_row" "_law_row" sLRow f fd) (T:Bl mg) (G_law_number:FnOk P w K mg base CX0 1 fn fdn ["script","k"] (spNumber K)) (D_law_number:Nm K mg "_law_number" fn fdn ["script","k"])
  (G_law_worth:FnOk P w K mg base CX0 1 fw fdw ["number","kind"] spLWorth) (D_law_worth:Nm K mg "_law_worth" fw fdw ["number","kind"]):FnOk P w K mg base CX0 2 f fd ["script","start","most"] (spLRow K):=by
 have sc:=scLRow
 refine F.okQ scLRow (fun vs H Q E h=>?_) (fun cdv A outer s H vs Q E hr h=>?_)
 ·obtain ⟨a,ns,st,mo,rfl,_⟩:=h
  rfl
 ·obtain ⟨a,ns,st,mo,rfl,hS,hn,hst,hm0,hm1,kQ⟩:=h
  have hu:=hr.units0
  have t1:∀ {H':Hp},Same H H'→SqL K H' a (ns.map V.int):=fun k=>hS.imp (fun z=>z.imp (k _ _) (fun ⟨o,e⟩=>⟨o,k _ _ e⟩)) id
  refine ⟨_,(qss_cons (qs_set (i:=3) sc.nd rfl (Or.inl rfl) (qe_call G_law_number (hr.mono (by decide)) rfl D_law_number.m D_law_number.k D_law_number.b .nil pass0 (qa_cons (qv 0) (qa_cons (qv 1) qa_nil))))
   (qss_cons (qs_set (i:=4) sc.nd rfl (Or.inl rfl) (qe_op op_mod (qv 3) qe_int))
   (qss_cons (qs_ifJ (qt_cmpR op_eq (qe_op op_mod (qe_op op_fdivB (qv 3) qe_int) qe_int) qe_int (nomark _)) (qss_one (qs_set (i:=4) sc.nd rfl (Or.inl rfl) (qe_op op_mod (qe_op op_fdivB (qv 3) qe_int) (qe_op op_add (qv 2) qe_int)))) qss_nil)
   (qss_cons (qs_set (i:=5) sc.nd rfl (Or.inr rfl) (qe_op op_mod (qe_call G_law_number (hr.mono (by decide)) rfl D_law_number.m D_law_number.k D_law_number.b .nil pass0 (qa_cons (qv 0) (qa_cons (qe_op op_add (qv 1) qe_int) qa_nil))) qe_int))
   (qss_cons (qs_setComp (i:=6) sc.nd rfl (Or.inl rfl) (Blk.of (N:=["script","start","most","head","many","kind","row","way"]) (esc:=defScope sLRow) (NB:=["script","start","kind"]) (cap:=[0,1,5]) rfl rfl (fun y hy=>cell_has hy) rfl (by decide +kernel) (by decide +kernel) (by decide +kernel) rfl (by decide +kernel) rfl (by decide +kernel)) rfl rfl (qi_range1 rfl T.z_range (qa_cons (qv 4) qa_nil)) (fun C fp s₀ H₀=>qts_nil) (fun C fp s₀ H₀=>(qe_call G_law_worth (hr.mono (by decide)) rfl D_law_worth.m D_law_worth.k D_law_worth.b .nil pass0 (qa_cons (qe_call G_law_number (hr.mono (by decide)) rfl D_law_number.m D_law_number.k D_law_number.b .nil pass0 (qa_cons (qv 1) (qa_cons (qe_op op_add (qe_op op_add (qv 2) qe_int) (qv 0)) qa_nil))) (qa_cons (qv 3) qa_nil)))))
   (qss_cons (qs_set (i:=7) sc.nd rfl (Or.inl rfl) (qe_op op_mod (qe_op op_fdivB (qe_call G_law_number (hr.mono (by decide)) rfl D_law_number.m D_law_number.k D_law_number.b .nil pass0 (qa_cons (qv 0) (qa_cons (qe_op op_add (qv 1) qe_int) qa_nil))) qe_int) qe_int))
   (qss_cons (qs_ifJ (qt_cmpR op_lt (qv 7) qe_int (nomark _)) (qss_one (qs_set (i:=6) sc.nd rfl (Or.inl rfl) (qe_callB (call_sortedI) (by rfl) T.z_sorted (by decide +kernel) (qa_cons (qv 6) qa_nil)))) qss_nil)
   (qss_cons (qs_if (qt_cmpR op_eq (qv 7) qe_int (nomark _)) (qss_one (qs_set (i:=6) sc.nd rfl (Or.inl rfl) (qe_rev (qv 6) (qe_un un_neg qe_int)))) qss_nil)
   (qss_one (qs_ret (qv 6))))))))))),?_⟩
  refine ⟨_,rfl,_,rfl,a,ns,st,rfl,hS,hn,hst,fun hd H1 h0 h1 s1=>?_⟩
  refine ⟨_,rfl,_,_,rfl,rfl,(by show (0:Int) < 13; decide),?_⟩
  refine ⟨fun σ' H'=>∃ m:Nat,σ'=[some (.ref a),some (.int st),some (.int mo),some (.int hd),some (.int m),none,none,none]∧H'=H1∧m≤mo,?_,?_⟩
  ·refine ⟨_,rfl,_,_,rfl,rfl,⟨by decide,by decide⟩,_,_,rfl,rfl,(by show (0:Int) < 8; decide),rfl,_,rfl,ite2 (fun _=>?_) (fun _=>?_)⟩
   ·refine ⟨_,rfl,_,_,rfl,rfl,⟨by decide,by decide⟩,_,rfl,_,_,rfl,rfl,_,_,rfl,rfl,(by show (0:Int) < (mo:Int)+1; lia),(hd / 104 % ((mo:Int)+1)).toNat,?_,rfl,?_⟩
    ·have:=mod_lo (a:=hd / 104) (b:=(mo:Int)+1) (by lia)
     rw [Int.toNat_of_nonneg this]; rfl
    ·have:=mod_hi (a:=hd / 104) (b:=(mo:Int)+1) (by lia)
     lia
   ·refine ⟨(hd % 13).toNat,?_,rfl,?_⟩
    ·have:=mod_lo (a:=hd) (b:=13) (by decide)
     rw [Int.toNat_of_nonneg this]; rfl
    ·have:=mod_hi (a:=hd) (b:=13) (by decide)
     lia
  rintro σ' H' ⟨m,rfl,rfl,hm⟩
  refine ⟨_,rfl,_,rfl,_,_,rfl,rfl,a,ns,st+1,rfl,t1 s1,hn,by lia,fun kd H2 k0 k1 s2=>⟨_,_,rfl,rfl,(by show (0:Int) < 4; decide),?_⟩⟩
  have s12:=s1.trans s2
  refine ⟨_,rfl,_,rfl,by lia,by lia,fun D hD=>?_⟩
  rw [Int.toNat_natCast]
  have hD0:H D=none:=by
   cases e:H D with
   | none=>rfl
   | some o=>rw [s12 _ _ e] at hD; cases hD
  refine comp_rangeR (lo:=0) (n:=m) (fun i ys H8=>∃ rs:List Int,ys=rs.map V.int∧rs.length=i∧H8 D=some (.lst ys)∧Same H2 H8) ⟨[],rfl,rfl,upd_same,same_new hD⟩ (fun i ys H8 ⟨_,_,_,z,_⟩=>z) ?_ ?_
  ·rintro i ys H8 hi ⟨rs,rfl,ln,h8,s8⟩
   unfold tYes
   dsimp only
   rw [if_pos rfl]
   refine ⟨_,rfl,_,rfl,_,_,rfl,rfl,_,rfl,_,_,rfl,rfl,a,ns,_,rfl,t1 (s12.trans s8),hn,by lia,fun r H9 r0 r1 s9=>?_⟩
   refine ⟨_,rfl,r,_,rfl,r0,r1,fun v H10 s10=>?_⟩
   have s810:=s9.trans s10
   refine ⟨s810 _ _ h8,small1000 (by rw [List.length_map]; lia),_,by lia,rfl,hi,rs++[v],by rw [List.map_append]; rfl,by rw [List.length_append,ln]; rfl,upd_same,fun b o h=>?_⟩
   rw [upd_ne (ne_of_none h hD)]
   exact s810 _ _ (s8 _ _ h)
  rintro ys H8 ⟨rs,rfl,ln,h8,s8⟩
  have s18:=s12.trans s8
  refine ⟨_,rfl,_,rfl,_,_,rfl,rfl,a,ns,st+1,rfl,t1 s18,hn,by lia,fun wy H9 w0 w1 s9=>⟨_,_,rfl,rfl,⟨by decide,by decide⟩,_,_,rfl,rfl,(by show (0:Int) < 8; decide),?_⟩⟩
  refine ⟨fun σ' H'=>∃ (l:Addr) (rs:List Int),σ'=[some (.ref a),some (.int st),some (.int mo),some (.int hd),some (.int m),some (.int (kd % 4)),some (.ref l),some (.int (wy / 4 % 8))]∧H' l=some (.lst (rs.map V.int))∧rs.length≤mo∧H l=none∧Same H H',?_,?_⟩
  ·refine ⟨_,rfl,_,_,rfl,rfl,_,rfl,ite2 (fun _=>?_) (fun _=>⟨D,rs,rfl,s9 _ _ h8,by lia,hD0,s18.trans s9⟩)⟩
   refine ⟨_,rfl,D,rs,rfl,SqL.of (s9 _ _ h8),fun l ms hl pm _=>?_⟩
   have sl:=same_new (o:=.lst (ms.map V.int)) hl
   refine ⟨l,ms,rfl,upd_same,by rw [pm.length_eq]; lia,?_,(s18.trans s9).trans sl⟩
   cases e:H l with
   | none=>rfl
   | some o=>rw [s9 _ _ (s18 _ _ e)] at hl; cases hl
  rintro σ' H' ⟨l,rs,rfl,hl,lr,nl,sl⟩
  refine ⟨_,rfl,rfl,_,rfl,ite2 (fun _=>?_) (fun _=>⟨_,rfl,kQ l rs H' hl lr nl sl⟩)⟩
  refine ⟨_,rfl,_,rfl,rfl,l,_,rfl,SqL.of hl,fun l2 hl2=>?_⟩
  have s2:=same_new (o:=.lst (rs.map V.int).reverse) hl2
  refine ⟨_,rfl,kQ l2 rs.reverse _ (by rw [upd_same,List.map_reverse]) (by rw [List.length_reverse]; exact lr) ?_ (sl.trans s2)⟩
  cases e:H l2 with
  | none=>rfl
  | some o=>rw [sl _ _ e] at hl2; cases hl2
end
end Kx
end
section
namespace Kx
open PySem L2
section
variable {P:Program} {w:World} {K:PySem.W.Frag} {mg:Str→Option Value} {base:Heap}
open Hm
theorem nth_one {l:List Int} {P:Nat} {a b:Int} (h:Nth l P a) (h':Nth l P b):a=b:=by
 rcases Int.lt_trichotomy a b with z | z | z
 ·have h1:l.countP (fun x=>decide (x≤a))≤l.countP (fun x=>decide (x < b)):=List.countP_mono_left fun x _ hx=>decide_eq_true (Int.lt_of_le_of_lt (of_decide_eq_true hx) z)
  have:=h.2
  have:=h'.1
  lia
 ·exact z
 ·have h1:l.countP (fun x=>decide (x≤b))≤l.countP (fun x=>decide (x < a)):=List.countP_mono_left fun x _ hx=>decide_eq_true (Int.lt_of_le_of_lt (of_decide_eq_true hx) z)
  have:=h'.2
  have:=h.1
  lia
section
variable {ns ts us:List Int} {W P j a b:Nat}
theorem Nths.one (h:Nths ns W P ts) (h':Nths ns W P us):ts=us :=
 List.ext_getElem (h.len.trans h'.len.symm) fun j h1 h2=>nth_one (h.at_ j _ (List.getElem?_eq_getElem h1)) (h'.at_ j _ (List.getElem?_eq_getElem h2))
theorem mem_win {x:Int}:x∈(ns.drop j).take W ↔ ∃ k,j≤k∧k < j+W∧ns[k]?=some x:=by
 rw [List.mem_iff_getElem?]
 constructor
 ·rintro ⟨i,e⟩
  rw [List.getElem?_take] at e
  split at e
  ·rw [List.getElem?_drop] at e
   exact ⟨j+i,by lia,by lia,e⟩
  ·cases e
 ·rintro ⟨k,h1,h2,e⟩
  refine ⟨k - j,?_⟩
  rw [List.getElem?_take,if_pos (by lia),List.getElem?_drop,show j+(k - j)=k by lia]
  exact e
theorem mins_nths (h:Mins ns W ts):Nths ns W 0 ts:=⟨h.len,fun j t e=>by
 have m:=h.at' j t e
 refine ⟨Nat.le_of_eq (List.countP_eq_zero.mpr fun x hx=>?_),List.countP_pos_iff.mpr ⟨t,mem_win.mpr m.mem,decide_eq_true (Int.le_refl _)⟩⟩
 obtain ⟨k,h1,h2,e⟩:=mem_win.mp hx
 have:=m.le k x h1 h2 e
 rw [decide_eq_true_eq]
 lia⟩
theorem maxs_nths (h:Maxs ns W ts) (hW:1≤W):Nths ns W (W - 1) ts:=⟨h.len,fun j t e=>by
 have m:=h.at' j t e
 have lj:=(List.getElem?_eq_some_iff.mp e).1
 have ln:=h.len
 have lw:((ns.drop j).take W).length=W:=by rw [List.length_take,List.length_drop]; lia
 have c1:=List.countP_le_length (p:=fun x=>decide (x < t)) (l:=(ns.drop j).take W)
 have c2:((ns.drop j).take W).countP (fun x=>decide (x < t))≠((ns.drop j).take W).length:=fun z=>by
  have:=List.countP_eq_length.mp z t (mem_win.mpr m.mem)
  rw [decide_eq_true_eq] at this
  lia
 have c3:((ns.drop j).take W).countP (fun x=>decide (x≤t))=((ns.drop j).take W).length:=List.countP_eq_length.mpr fun x hx=>by
  obtain ⟨k,h1,h2,e⟩:=mem_win.mp hx
  have:=m.le k x h1 h2 e
  rw [decide_eq_true_eq]
  lia
 exact ⟨by lia,by lia⟩⟩
end
structure TupsAt (H:Hp) (xs:List V) (tss:List (List Int)):Prop where
 len:xs.length=tss.length
 at_:∀ (k:Nat) (x:V) (ts:List Int),xs[k]?=some x→tss[k]?=some ts→∃ q:Addr,x=.ref q∧H q=some (.tup (ts.map V.int))
section
variable {H H':Hp} {xs ys:List V} {tss:List (List Int)}
theorem TupsAt.nil:TupsAt H [] []:=⟨rfl,fun k x ts e=>by cases e⟩
theorem TupsAt.stay (h:TupsAt H xs tss) (k:∀ b l,H b=some (.tup l)→H' b=some (.tup l)):TupsAt H' xs tss:=⟨h.len,fun i x ts e1 e2=>by
 obtain ⟨q,e,hq⟩:=h.at_ i x ts e1 e2
 exact ⟨q,e,k _ _ hq⟩⟩
theorem TupsAt.same (h:TupsAt H xs tss) (s:Same H H'):TupsAt H' xs tss:=h.stay fun b l e=>s b _ e
theorem TupsAt.snoc (h:TupsAt H xs tss) {q:Addr} {ts:List Int} (hq:H q=some (.tup (ts.map V.int))):TupsAt H (xs++[.ref q]) (tss++[ts]):=by
 refine ⟨by rw [List.length_append,List.length_append,h.len]; rfl,fun k x us e1 e2=>?_⟩
 by_cases z:k < xs.length
 ·rw [List.getElem?_append_left z] at e1
  rw [List.getElem?_append_left (by rw [← h.len]; exact z)] at e2
  exact h.at_ k x us e1 e2
 ·have lk:=(List.getElem?_eq_some_iff.mp e1).1
  rw [List.length_append] at lk
  have h1:([V.ref q]:List V).length=1:=rfl
  have ek:k=xs.length:=by lia
  rw [ek,List.getElem?_append_right (Nat.le_refl _),Nat.sub_self] at e1
  rw [ek,h.len,List.getElem?_append_right (Nat.le_refl _),Nat.sub_self] at e2
  have e1':V.ref q=x:=Option.some.inj e1
  have e2':ts=us:=Option.some.inj e2
  subst e1' e2'
  exact ⟨q,rfl,hq⟩
theorem ints_al {n:Nat} {ns:List Int}:AlL K H (n+1) (ns.map V.int) (ns.map V.int):=by
 refine ⟨rfl,fun i x y ex ey=>?_⟩
 rw [ex] at ey
 cases ey
 rw [List.getElem?_map] at ex
 cases e:ns[i]? with
 | none=>rw [e] at ex; cases ex
 | some v=>rw [e] at ex; cases ex; exact .same rfl
theorem TupsAt.al (h:TupsAt H xs tss) (h':TupsAt H ys tss):AlL K H 8 xs ys:=by
 refine ⟨h.len.trans h'.len.symm,fun i x y ex ey=>?_⟩
 have li:=(List.getElem?_eq_some_iff.mp ex).1
 have et:=List.getElem?_eq_getElem (l:=tss) (i:=i) (by rw [← h.len]; exact li)
 obtain ⟨q,rfl,hq⟩:=h.at_ i x _ ex et
 obtain ⟨p,rfl,hp⟩:=h'.at_ i y _ ey et
 have al:=ints_al (K:=K) (H:=H) (n:=6) (ns:=tss[i]'(by rw [← h.len]; exact li))
 exact .tup (SqT.of hq) (SqT.of hp) al.1 al.2
theorem TupsAt.get (h:TupsAt H xs tss) {i:Nat} {x:V} (e:xs[i]?=some x):∃ (ts:List Int) (q:Addr),tss[i]?=some ts∧x=.ref q∧H q=some (.tup (ts.map V.int)):=by
 have li:=(List.getElem?_eq_some_iff.mp e).1
 have et:=List.getElem?_eq_getElem (l:=tss) (i:=i) (by rw [← h.len]; exact li)
 obtain ⟨q,e2,hq⟩:=h.at_ i x _ e et
 exact ⟨_,q,et,e2,hq⟩
end
end
end Kx
end
section
namespace Kx
open PySem L2
section
variable {P:Program} {w:World} {K:PySem.W.Frag} {mg:Str→Option Value} {base:Heap}
open Hm
structure Srt (ns:List Int) (W:Nat) (tss:List (List Int)):Prop where
 len:tss.length=ns.length+1 - W
 at_:∀ (j:Nat) (s:List Int),tss[j]?=some s→s.length=W∧∀ (k:Nat) (t:Int),s[k]?=some t→Nth ((ns.drop j).take W) k t
theorem Srt.one {ns ns':List Int} {W:Nat} {a b:List (List Int)} (h:Srt ns W a) (h':Srt ns' W b) (hl:ns.length=ns'.length) (hp:∀ j,j < a.length→((ns.drop j).take W).Perm ((ns'.drop j).take W)):a=b:=by
 refine List.ext_getElem (h.len.trans (by rw [hl]; exact h'.len.symm)) fun j h1 h2=>?_
 obtain ⟨l1,k1⟩:=h.at_ j _ (List.getElem?_eq_getElem h1)
 obtain ⟨l2,k2⟩:=h'.at_ j _ (List.getElem?_eq_getElem h2)
 refine List.ext_getElem (l1.trans l2.symm) fun k g1 g2=>?_
 exact nth_one (k1 k _ (List.getElem?_eq_getElem g1)) ((k2 k _ (List.getElem?_eq_getElem g2)).perm (hp j h1))
theorem Srt.sorted {ns:List Int} {W:Nat} {tss:List (List Int)} (h:Srt ns W tss) {j:Nat} {s ms:List Int} (e:tss[j]?=some s) (pm:ms.Perm ((ns.drop j).take W)) (up:ms.Pairwise (fun a b=>¬ b < a)) (lm:ms.length=W):s=ms:=by
 obtain ⟨l1,k1⟩:=h.at_ j s e
 refine List.ext_getElem (l1.trans lm.symm) fun k g1 g2=>?_
 have:=((k1 k _ (List.getElem?_eq_getElem g1)).perm pm).sorted up
 rw [List.getElem?_eq_getElem g2] at this
 exact (Option.some.inj this).symm
theorem Srt.nths {ns:List Int} {W P:Nat} {tss:List (List Int)} (h:Srt ns W tss) {ts:List Int} (hl:ts.length=tss.length) (ht:∀ (j:Nat) (s:List Int) (t:Int),tss[j]?=some s→ts[j]?=some t→s[P]?=some t):Nths ns W P ts:=by
 refine ⟨hl.trans h.len,fun j t e=>?_⟩
 have lj:=(List.getElem?_eq_some_iff.mp e).1
 have es:=List.getElem?_eq_getElem (l:=tss) (i:=j) (by lia)
 exact (h.at_ j _ es).2 P t (ht j _ t es e)
abbrev sLTurned:Stmt:=top 33
theorem scLTurned:FnScope ["number","things","waiting","found"] ["number","things"] (defScope sLTurned):=⟨rfl,rfl,rfl,(by simp only [List.nodup_cons,List.mem_cons,List.not_mem_nil,or_false,not_or,List.nodup_nil,and_true,not_false_eq_true]; (repeat' apply And.intro); all_goals decide +kernel),rfl,by decide +kernel,by decide +kernel⟩
def spLTurned:Sp:=fun vs H Q _=>∃ (a:Addr) (ns:List Int) (n:Int),vs=[.int n,.ref a]∧H a=some (.lst (ns.map V.int))∧ns.length≤300∧0≤n∧n < 2000000∧∀ (l:Addr) (ms:List Int) (H':Hp),H' l=some (.lst (ms.map V.int))→ms.Perm ns→Same H H'→Q (.ref l) H'
theorem ok_lturned {f:Addr} {fd:FuncData} (F:Fun K "_law_turned" "_law_turned" sLTurned f fd) (T:Bl mg):FnOk P w K mg base CX0 1 f fd ["number","things"] spLTurned:=by
 have sc:=scLTurned
 refine F.okQ scLTurned (fun vs H Q E h=>?_) (fun cdv A outer s H vs Q E hr h=>?_)
 ·obtain ⟨a,ns,n,rfl,_⟩:=h
  rfl
 ·obtain ⟨a,ns,n,rfl,ha,hn,n0,n1,k⟩:=h
  have hu:=hr.units0
  refine ⟨_,(qss_cons (qs_set (i:=2) sc.nd rfl (Or.inl rfl) (qe_callTy call_list_of (by rfl) T.z_list (by decide +kernel) (qa_cons (qv 1) qa_nil)))
   (qss_cons (qs_set (i:=3) sc.nd rfl (Or.inl rfl) (qe_lst qa_nil))
   (qss_cons (qs_while PassesOwn.never (qt_cmpR (op_neNil hu) (qv 2) (qe_lst qa_nil) (nomark _)) (qss_cons (qs_expr (qe_bm PySem.F.plainAttrs_list PySem.F.slot_list_append PySem.F.type_list_append mt_append (qv 3) (qa_cons (qe_bm PySem.F.plainAttrs_list PySem.F.slot_list_pop PySem.F.type_list_pop mt_popAt (qv 2) (qa_cons (qe_op op_mod (qv 0) (qe_callB call_len_seq (by rfl) T.z_len (by decide +kernel) (qa_cons (qv 2) qa_nil))) qa_nil)) qa_nil)))
   (qss_one (qs_set (i:=0) sc.nd rfl (Or.inl rfl) (qe_op op_mod (qe_op op_fdivB (qe_op op_mul (qv 0) qe_int) qe_int) qe_int)))))
   (qss_one (qs_ret (qv 3)))))),?_⟩
  refine ⟨_,rfl,a,_,rfl,.inl (SqL.of ha),fun wl hwl=>?_⟩
  have s1:=same_new (o:=.lst (ns.map V.int)) hwl
  have g1:=upd_same (H:=H) (a:=wl) (o:=.lst (ns.map V.int))
  generalize upd H wl (.lst (ns.map V.int))=H1 at s1 g1 ⊢
  refine ⟨by show 0≤sizeLine; decide,fun fl hfl=>?_⟩
  have s2:=same_new (o:=.lst []) hfl
  have g2:=upd_same (H:=H1) (a:=fl) (o:=.lst [])
  have nwf:wl≠fl:=ne_of_none g1 hfl
  have hfl0:H fl=none:=by
   cases e:H fl with
   | none=>rfl
   | some o=>rw [s1 _ _ e] at hfl; cases hfl
  generalize upd H1 fl (.lst [])=H2 at s2 g2 ⊢
  refine ⟨fun m σ H3=>∃ (us ms:List Int) (x:Int),σ=[some (.int x),some (.ref a),some (.ref wl),some (.ref fl)]∧H3 wl=some (.lst (us.map V.int))∧H3 fl=some (.lst (ms.map V.int))∧(ms++us).Perm ns∧0≤x∧x < 2000000∧Same H H3∧m=us.length,
   ⟨_,ns,[],n,rfl,s2 _ _ g1,g2,List.Perm.refl _,n0,n1,s1.trans s2,rfl⟩,?_⟩
  rintro m σ H3 ⟨us,ms,x,rfl,hw,hf,pm,x0,x1,s3,rfl⟩
  have lpm:=pm.length_eq
  rw [List.length_append] at lpm
  have lu:(us.map V.int).length=us.length:=List.length_map ..
  refine ⟨_,rfl,by show 0≤sizeLine; decide,fun z hz=>?_⟩
  have sz:=same_new (o:=.lst []) hz
  refine ⟨wl,z,_,rfl,rfl,SqL.of (sz _ _ hw),SqL.of upd_same,_,rfl,?_⟩
  replace hw:=sz _ _ hw
  replace hf:=sz _ _ hf
  replace s3:=s3.trans sz
  generalize upd H3 z (.lst [])=H4 at sz hw hf s3 ⊢
  refine ite2 (fun c=>?_) (fun c=>?_)
  ·have une:us≠[]:=fun z=>by rw [z] at c; cases c
   have lp:0 < us.length:=List.length_pos_iff.mpr une
   have j0:=mod_lo (a:=x) (b:=(us.length:Int)) (by lia)
   have j1:=mod_hi (a:=x) (b:=(us.length:Int)) (by lia)
   obtain ⟨j,ej⟩:∃ j:Nat,x % (us.length:Int)=(j:Int):=⟨_,(Int.toNat_of_nonneg j0).symm⟩
   have hj:j < us.length:=by lia
   have ev:us[j]?=some us[j]:=List.getElem?_eq_getElem hj
   refine ⟨fun σ' H'=>∃ (us' ms':List Int) (x':Int),σ'=[some (.int x'),some (.ref a),some (.ref wl),some (.ref fl)]∧H' wl=some (.lst (us'.map V.int))∧H' fl=some (.lst (ms'.map V.int))∧(ms'++us').Perm ns∧0≤x'∧x' < 2000000∧Same H H'∧us'.length < us.length,?_,?_⟩
   ·rintro σ' H' ⟨us',ms',x',h1,h2,h3,h4,h5,h6,h7,h8⟩
    exact ⟨_,h8,us',ms',x',h1,h2,h3,h4,h5,h6,h7,rfl⟩
   have ej':x % ((us.map V.int).length:Int)=(j:Int):=by rw [lu]; exact ej
   have sq:=(atI_get (atI_nat (show (us.map V.int)[j]?=some (.int us[j]) by rw [List.getElem?_map,ev]; rfl)))
   obtain ⟨j',q1,q2,_⟩:=sq
   have hj':j'=j:=by
    have:=(ixN_seq (n:=(us.map V.int).length) (i:=(j:Int)) (j:=j) (by unfold ixN; rw [if_pos (by lia),if_pos (by lia)]; rfl)).1
    rw [q1] at this
    exact Option.some.inj this
   subst hj'
   refine ⟨_,rfl,.inl ⟨rfl,_,SqL.of hf⟩,_,rfl,.inl ⟨rfl,_,SqL.of hw⟩,_,rfl,_,rfl,wl,_,rfl,.inl (SqL.of hw),_,_,rfl,rfl,(by show (0:Int) < ((us.map V.int).length:Int); lia),wl,_,_,j',_,rfl,rfl,hw,(by rw [ej']; lia),(by rw [ej']; lia),(by rw [ej']; exact q1),q2,?_⟩
   have hf2:(upd H4 wl (.lst ((us.map V.int).eraseIdx j'))) fl=some (.lst (ms.map V.int)):=by rw [upd_ne nwf.symm]; exact hf
   refine ⟨fl,_,_,rfl,rfl,hf2,small1000 (by rw [List.length_map]; lia),?_⟩
   refine ⟨_,rfl,_,_,rfl,rfl,.inr ⟨by decide,by decide⟩,_,_,rfl,rfl,⟨by decide,by decide⟩,_,_,rfl,rfl,(by show (0:Int) < 1000003; decide),us.eraseIdx j',ms++[us[j']],_,rfl,?_,?_,?_,mod_lo (by decide),?_,fun b o e=>?_,?_⟩
   ·rw [upd_ne nwf,upd_same,List.eraseIdx_eq_take_drop_succ,List.eraseIdx_eq_take_drop_succ,List.map_append,List.map_take,List.map_drop]
   ·rw [upd_same,List.map_append]; rfl
   ·refine List.Perm.trans ?_ pm
    rw [List.append_assoc]
    refine List.Perm.append_left _ ?_
    have eu:us=us.take j'++us[j'] :: us.drop (j'+1):=by rw [← List.drop_eq_getElem_cons hj,List.take_append_drop]
    rw [List.eraseIdx_eq_take_drop_succ]
    have pmm:(us.take j'++us[j'] :: us.drop (j'+1)).Perm (us[j'] :: (us.take j'++us.drop (j'+1))):=List.perm_middle
    rw [← eu] at pmm
    exact pmm.symm
   ·exact Int.lt_trans (mod_hi (b:=1000003) (by decide)) (by decide)
   ·rw [upd_ne (ne_of_none e hfl0),upd_ne (ne_of_none e hwl)]
    exact s3 b o e
   ·rw [List.length_eraseIdx_of_lt hj]; lia
  ·have une:us=[]:=by
    cases e:us with
    | nil=>rfl
    | cons a b=>rw [e] at c; exact absurd rfl c
   subst une
   rw [List.append_nil] at pm
   exact ⟨_,rfl,k fl ms _ hf pm s3⟩
abbrev sLSorted:Stmt:=top 34
theorem scLSorted:FnScope ["row","width","by","steps","told"] ["row","width","by"] (defScope sLSorted):=⟨rfl,rfl,rfl,(by simp only [List.nodup_cons,List.mem_cons,List.not_mem_nil,or_false,not_or,List.nodup_nil,and_true,not_false_eq_true]; (repeat' apply And.intro); all_goals decide +kernel),rfl,by decide +kernel,by decide +kernel⟩
def spLSorted:Sp:=fun vs H Q _=>∃ (a:Addr) (ns:List Int) (W:Nat) (by_:Int),vs=[.ref a,.int W,.int by_]∧RowAt H a ns∧ns.length≤300∧1≤W∧W≤300∧1≤by_∧by_≤2000∧∀ (q:Addr) (xs:List V) (tss:List (List Int)) (H':Hp),H' q=some (.lst xs)→TupsAt H' xs tss→Srt ns W tss→Same H H'→Q (.ref q) H'
theorem ok_lsorted {f fs:Addr} {fd fds:FuncData} (F:Fun K "_law_sorted" "_law_sorted" sLSorted f fd) (T:Bl mg) (z_max:mg "max"=none) (Gshares:FnOk P w K mg base CX0 10 fs fds ["row","width","share"] (spShares K)) (Dshares:Nm K mg "shares" fs fds ["row","width","share"]):FnOk P w K mg base CX0 11 f fd ["row","width","by"] spLSorted:=by
 have sc:=scLSorted
 refine F.okQ scLSorted (fun vs H Q E h=>?_) (fun cdv A outer s H vs Q E hr h=>?_)
 ·obtain ⟨a,ns,W,b,rfl,_⟩:=h
  rfl
 ·obtain ⟨a,ns,W,b,rfl,RA,hn,hW,hW2,b1,b2,k⟩:=h
  have hu:=hr.units0
  refine ⟨_,(qss_cons (qs_set (i:=3) sc.nd rfl (Or.inr rfl) (qe_callB (call_max2 rfl) (by rfl) z_max (by decide +kernel) (qa_cons qe_int (qa_cons (qe_op op_sub (qv 1) qe_int) qa_nil))))
   (qss_cons (qs_set (i:=4) sc.nd rfl (Or.inr rfl) (qe_comp (Blk.of (N:=["row","width","by","steps","told"]) (esc:=defScope sLSorted) (NB:=["row","width","by","steps"]) (cap:=[0,1,2,3]) rfl rfl (fun y hy=>cell_has hy) rfl (by decide +kernel) (by decide +kernel) (by decide +kernel) rfl (by decide +kernel) rfl (by decide +kernel)) rfl rfl (qi_rangeW rfl T.z_range (qa_cons (qv 1) qa_nil)) (fun C fp s₀ H₀=>qts_nil) (fun C fp s₀ H₀=>(qe_call Gshares (hr.mono (by decide)) rfl Dshares.m Dshares.k Dshares.b .nil pass0 (qa_cons (qv 1) (qa_cons (qv 2) (qa_cons (qe_tup (qa_cons (qe_op op_mul (qv 0) (qv 3)) (qa_cons (qe_op op_mul (qv 4) (qv 3)) qa_nil))) qa_nil)))))))
   (qss_one (qs_ret (qe_compC (BlkC.of (N:=["row","width","by","steps","told"]) (esc:=defScope sLSorted) (NB:=["told"]) (cap:=[4]) rfl rfl (fun y hy=>cell_has hy) rfl (by decide +kernel) (by decide +kernel) (by decide +kernel) (by decide +kernel) rfl (by decide +kernel) rfl (by decide +kernel)) rfl (qi_range1 rfl T.z_range (qa_cons (qe_callB call_len_seq (by rfl) T.z_len (by decide +kernel) (qa_cons (qe_ix ix_list (qv 4) qe_int (fun _ _=>rfl)) qa_nil)) qa_nil)) (fun C fp s₀ H₀=>qts_nil) (fun C fp s₀ H₀=>(qe_callTy (call_tuple_ofB (K:=K) rfl) (by rfl) T.z_tuple (by decide +kernel) (qa_cons (qe_compN (Blk.ofC (esc0:=defScope sLSorted) (NB:=["at"]) (cap:=[0]) (BlkC.of (N:=["row","width","by","steps","told"]) (esc:=defScope sLSorted) (NB:=["told"]) (cap:=[4]) rfl rfl (fun y hy=>cell_has hy) rfl (by decide +kernel) (by decide +kernel) (by decide +kernel) (by decide +kernel) rfl (by decide +kernel) rfl (by decide +kernel)) rfl rfl (by decide +kernel) (by decide +kernel) (by decide +kernel) rfl (by decide +kernel) rfl (by decide +kernel)) rfl (qi_listB (K:=K) rfl (qv 1)) (fun C2 fp2 s₁ H₁=>qts_nil) (fun C2 fp2 s₁ H₁=>(qe_ix (ix_tupB (K:=K) rfl) (qv 0) (qv 1) (fun _ _=>rfl)))) qa_nil)))))))),?_⟩
  obtain ⟨st,est,st1,st2,st3⟩:∃ st:Int,(if ((W:Int) - 1) > 1 then ((W:Int) - 1) else 1)=st∧1≤st∧st≤300∧((W:Int) - 1=st∨((W:Int)=1∧st=1)):=⟨_,rfl,by split <;> lia,by split <;> lia,by split <;> lia⟩
  refine ⟨_,rfl,_,_,rfl,rfl,1,(W:Int) - 1,rfl,?_⟩
  rw [est]
  refine ⟨_,rfl,_,rfl,fun D hD=>?_⟩
  rw [Int.toNat_natCast]
  refine comp_rangeR (lo:=0) (n:=W) (fun i ys H8=>∃ tks:List (List Int),tks.length=i∧(∀ (k:Nat) (t:List Int),tks[k]?=some t→Nths ns W k t)∧TupsAt H8 ys tks∧H8 D=some (.lst ys)∧Same H H8) ⟨[],rfl,(fun k t e=>by cases e),TupsAt.nil,upd_same,same_new hD⟩ (fun i ys H8 ⟨_,_,_,_,z,_⟩=>z) ?_ ?_
  ·rintro i ys H8 hi ⟨tks,lt,nk,tu,h8,s8⟩
   unfold tYes
   dsimp only
   rw [if_pos rfl]
   have ei:(0:Int)+(i:Int)=(i:Int):=by lia
   rw [ei]
   have hb0:0≤(i:Int) * b:=Int.mul_nonneg (by lia) (by lia)
   have hbs:(i:Int) * b≤st * b:=Int.mul_le_mul_of_nonneg_right (by lia) (by lia)
   have hsb:0 < st * b:=Int.mul_pos (by lia) (by lia)
   have hsb2:st * b≤300 * 2000:=Int.mul_le_mul st2 b2 (by lia) (by lia)
   have eP:((W:Int) - 1) * ((i:Int) * b) / (st * b)=(i:Int):=by
    rcases st3 with z | ⟨z1,z2⟩
    ·rw [z,show st * ((i:Int) * b)=(i:Int) * (st * b) by rw [← Int.mul_assoc,Int.mul_comm st,Int.mul_assoc],Int.mul_ediv_cancel _ (by lia)]
    ·have:i=0:=by lia
     subst this
     rw [z1]; simp
   refine ⟨_,rfl,_,rfl,_,rfl,_,rfl,_,_,rfl,rfl,.inl ⟨by lia,by lia⟩,_,rfl,_,rfl,_,_,rfl,rfl,.inl ⟨by lia,by lia⟩,by show 2≤sizeLine; decide,fun c1 hc1=>?_⟩
   have v1:=same_new (o:=.tup [.int ((i:Int) * b),.int (st * b)]) hc1
   refine ⟨a,c1,ns,W,i,(i:Int) * b,st * b,rfl,RA.stay ((s8.trans v1) a),hn,hW,SqT.of upd_same,hb0,hbs,hsb,by lia,CMul.ok (.inl ⟨by lia,by lia⟩),eP,fun p0 w0 H6 h6 m6 s6=>?_⟩
   replace s6:=v1.trans s6
   refine ⟨s6 _ _ h8,small1000 (by rw [tu.len]; lia),_,by lia,rfl,hi,tks++[w0],by rw [List.length_append,lt]; rfl,fun k t e=>?_,?_,upd_same,fun c o h=>?_⟩
   ·by_cases z:k < tks.length
    ·rw [List.getElem?_append_left z] at e
     exact nk k t e
    ·have ej:k=tks.length:=by
      have:=(List.getElem?_eq_some_iff.mp e).1
      rw [List.length_append] at this
      have h1:([w0]:List (List Int)).length=1:=rfl
      lia
     rw [ej,List.getElem?_append_right (Nat.le_refl _),Nat.sub_self] at e
     have et:w0=t:=Option.some.inj e
     rw [← et,ej,lt]
     exact m6
   ·exact ((tu.same s6).snoc h6).stay fun b l z=>by rw [upd_ne (ne_of z (s6 _ _ h8) (by intro y; cases y))]; exact z
   ·rw [upd_ne (ne_of_none h hD)]
    exact s6 _ _ (s8 c o h)
  rintro ys H8 ⟨tks,lt,nk,tu,h8,s8⟩
  have ly:ys.length=W:=by rw [tu.len]; exact lt
  have e0:ys[0]?=some ys[0]:=List.getElem?_eq_getElem (by lia)
  obtain ⟨t0,q0,et0,eq0,hq0⟩:=tu.get e0
  rw [eq0] at e0
  have lt0:=(nk 0 t0 et0).len
  have lm0:(t0.map V.int).length=t0.length:=List.length_map ..
  refine ⟨_,rfl,D,_,_,_,rfl,rfl,SqL.of h8,atI_nat e0,q0,_,rfl,.inr (SqT.of hq0),_,rfl,by lia,by lia,fun G hG=>?_⟩
  rw [lm0]
  refine comp_rangeR (lo:=0) (n:=t0.length) (fun i zs H9=>∃ tss:List (List Int),tss.length=i∧(∀ (j:Nat) (s:List Int),tss[j]?=some s→s.length=W∧∀ (k:Nat) (t:Int),s[k]?=some t→Nth ((ns.drop j).take W) k t)∧TupsAt H9 zs tss∧H9 G=some (.lst zs)∧Same H8 H9) ⟨[],rfl,(fun k t e=>by cases e),TupsAt.nil,upd_same,same_new hG⟩ (fun i ys H8 ⟨_,_,_,_,z,_⟩=>z) ?_ ?_
  ·rintro i zs H9 hi ⟨tss,ls,nj,tu9,h9,s9⟩
   unfold tYes
   dsimp only
   rw [if_pos rfl]
   have ei:(0:Int)+(i:Int)=(i:Int):=by lia
   rw [ei]
   refine ⟨_,rfl,D,rfl,⟨_,SqL.of (s9 _ _ h8)⟩,fun E hE=>?_⟩
   refine comp_listR (K:=K) (tt:=tYes) (cap:=[0]) (σ:=some (.int i) :: capσ [4] _) (te:=tOp (rIxT K) (tVar 0) (tVar 1)) (a:=D) (xs:=ys) (fun k us H10=>∃ ss:List Int,us=ss.map V.int∧ss.length=k∧(∀ (m:Nat) (t:Int),ss[m]?=some t→Nth ((ns.drop i).take W) m t)∧H10 E=some (.lst us)∧Same H9 H10) ⟨[],rfl,rfl,(fun m t e=>by cases e),upd_same,same_new hE⟩ (fun k us H10 ⟨_,_,_,_,z,sz⟩=>⟨z,SqL.of (sz _ _ (s9 _ _ h8))⟩) ?_ ?_
   ·rintro k x us H10 hx ⟨ss,rfl,lss,nm,h10,s10⟩
    unfold tYes
    dsimp only
    rw [if_pos rfl]
    obtain ⟨tk,qx,et,rfl,hqx⟩:=((tu.same s9).same s10).get hx
    have lk:=(List.getElem?_eq_some_iff.mp hx).1
    have nkk:=nk k tk et
    have li:i < tk.length:=by rw [nkk.len]; lia
    have ev:tk[i]?=some tk[i]:=List.getElem?_eq_getElem li
    refine ⟨_,rfl,_,rfl,qx,_,_,.int tk[i],rfl,rfl,SqT.of hqx,atI_nat (by rw [List.getElem?_map,ev]; rfl),h10,small1000 (by rw [List.length_map]; lia),_,by lia,rfl,by lia,ss++[tk[i]],by rw [List.map_append]; rfl,by rw [List.length_append,lss]; rfl,fun m t e=>?_,upd_same,fun c o h=>?_⟩
    ·by_cases z:m < ss.length
     ·rw [List.getElem?_append_left z] at e
      exact nm m t e
     ·have ej:m=ss.length:=by
       have:=(List.getElem?_eq_some_iff.mp e).1
       rw [List.length_append] at this
       have h1:([tk[i]]:List Int).length=1:=rfl
       lia
      rw [ej,List.getElem?_append_right (Nat.le_refl _),Nat.sub_self] at e
      have et':tk[i]=t:=Option.some.inj e
      rw [← et',ej,lss]
      exact nkk.at_ i _ ev
    ·rw [upd_ne (ne_of_none h hE)]
     exact s10 c o h
   rintro us H10 ⟨ss,rfl,lss,nm,h10,s10⟩
   refine ⟨E,_,rfl,.inl ⟨SqL.of h10,fun p hp=>?_⟩⟩
   have s11:=same_new (o:=.tup (ss.map V.int)) hp
   have g11:=upd_same (H:=H10) (a:=p) (o:=.tup (ss.map V.int))
   generalize upd H10 p (.tup (ss.map V.int))=H11 at s11 g11 ⊢
   replace s11:=s10.trans s11
   refine ⟨s11 _ _ h9,small1000 (by rw [tu9.len]; lia),_,by lia,rfl,hi,tss++[ss],by rw [List.length_append,ls]; rfl,fun j t e=>?_,?_,upd_same,fun c o h=>?_⟩
   ·by_cases z:j < tss.length
    ·rw [List.getElem?_append_left z] at e
     exact nj j t e
    ·have ej:j=tss.length:=by
      have:=(List.getElem?_eq_some_iff.mp e).1
      rw [List.length_append] at this
      have h1:([ss]:List (List Int)).length=1:=rfl
      lia
     rw [ej,List.getElem?_append_right (Nat.le_refl _),Nat.sub_self] at e
     have et:ss=t:=Option.some.inj e
     rw [← et,ej,ls]
     exact ⟨lss.trans ly,nm⟩
   ·exact ((tu9.same s11).snoc g11).stay fun b l z=>by rw [upd_ne (ne_of z (s11 _ _ h9) (by intro y; cases y))]; exact z
   ·rw [upd_ne (ne_of_none h hG)]
    exact s11 _ _ (s9 c o h)
  rintro zs H9 ⟨tss,ls,nj,tu9,h9,s9⟩
  exact k G zs tss H9 h9 tu9 ⟨ls.trans lt0,nj⟩ (s8.trans s9)
end
end Kx
end
section
namespace Kx
open PySem L2
section
variable {P:Program} {w:World} {K:PySem.W.Frag} {mg:Str→Option Value} {base:Heap}
open Hm
theorem al_ints {H:Hp} {p q:Addr} {ts:List Int} (h1:H p=some (.tup (ts.map V.int))) (h2:H q=some (.tup (ts.map V.int))):AlT K H (.ref p) (.ref q):=.tup (SqT.of h1) (SqT.of h2) ints_al
theorem cutV_win {rs:List Int} {k W:Nat} (h:k+W≤rs.length):cutV (rs.map V.int) (some (k:Int)) (some ((k:Int)+(W:Int)))=((rs.drop k).take W).map V.int:=by
 unfold cutV
 have e1:(k:Int)+(W:Int)=((k+W:Nat):Int):=by lia
 have lm:(rs.map V.int).length=rs.length:=List.length_map ..
 rw [e1,HT.sIx_nat,HT.sIx_nat,lm,Nat.min_eq_left (by lia),Nat.min_eq_left (by lia),Nat.add_sub_cancel_left,← List.map_drop,← List.map_take]
theorem atI_neg1 {xs:List V} {v:V} {n:Nat} (hl:xs.length=n) (h:1≤n) (e:xs[n - 1]?=some v):atI xs (-1)=some v:=by
 subst hl
 have h2:xs=xs.take (xs.length - 1)++[v]:=by
  have h3:=(List.take_append_drop (xs.length - 1) xs).symm
  obtain ⟨hl,ev⟩:=List.getElem?_eq_some_iff.mp e
  rw [List.drop_eq_getElem_cons hl,ev,List.drop_eq_nil_of_le (by lia)] at h3
  exact h3
 rw [h2]
 exact atI_last _ _
abbrev sLaw:Stmt:=top 35
theorem scLaw:FnScope ["script","row","number","width","told","at","few","turned_v"] ["script"] (defScope sLaw):=⟨rfl,rfl,rfl,(by simp only [List.nodup_cons,List.mem_cons,List.not_mem_nil,or_false,not_or,List.nodup_nil,and_true,not_false_eq_true]; (repeat' apply And.intro); all_goals decide +kernel),rfl,by decide +kernel,by decide +kernel⟩
def spLaw (K:PySem.W.Frag):Sp:=fun vs H Q _=>∃ (a:Addr) (ns:List Int),vs=[.ref a]∧SqL K H a (ns.map V.int)∧ns.length≤63∧∀ H',Q (.bl true) H'
theorem ok_law {f a_law_number a_law_row a_law_sorted aleasts agreatests amiddles a_law_turned:Addr} {fd f_law_number f_law_row f_law_sorted fleasts fgreatests fmiddles f_law_turned:FuncData} (F:Fun K "law" "law" sLaw f fd) (T:Bl mg) (z_max:mg "max"=none)
  (G_law_number:FnOk P w K mg base CX0 1 a_law_number f_law_number ["script","k"] (spNumber K)) (D_law_number:Nm K mg "_law_number" a_law_number f_law_number ["script","k"])
  (G_law_row:FnOk P w K mg base CX0 2 a_law_row f_law_row ["script","start","most"] (spLRow K)) (D_law_row:Nm K mg "_law_row" a_law_row f_law_row ["script","start","most"])
  (G_law_sorted:FnOk P w K mg base CX0 11 a_law_sorted f_law_sorted ["row","width","by"] spLSorted) (D_law_sorted:Nm K mg "_law_sorted" a_law_sorted f_law_sorted ["row","width","by"])
  (Gleasts:FnOk P w K mg base CX0 8 aleasts fleasts ["row","width"] spLeasts) (Dleasts:Nm K mg "leasts" aleasts fleasts ["row","width"])
  (Ggreatests:FnOk P w K mg base CX0 9 agreatests fgreatests ["row","width"] spGreatests) (Dgreatests:Nm K mg "greatests" agreatests fgreatests ["row","width"])
  (Gmiddles:FnOk P w K mg base CX0 11 amiddles fmiddles ["row","width"] spMiddles) (Dmiddles:Nm K mg "middles" amiddles fmiddles ["row","width"])
  (G_law_turned:FnOk P w K mg base CX0 1 a_law_turned f_law_turned ["number","things"] spLTurned) (D_law_turned:Nm K mg "_law_turned" a_law_turned f_law_turned ["number","things"]) :
  FnOk P w K mg base CX0 12 f fd ["script"] (spLaw K):=by
 have sc:=scLaw
 refine F.okQ scLaw (fun vs H Q E h=>?_) (fun cdv A outer s H vs Q E hr h=>?_)
 ·obtain ⟨a,ns,rfl,_⟩:=h
  rfl
 ·obtain ⟨a,ns0,rfl,hS,hn0,k⟩:=h
  have hu:=hr.units0
  have hu1:=hr.u100
  have t1:∀ {H':Hp},Same H H'→SqL K H' a (ns0.map V.int):=fun k=>hS.imp (fun z=>z.imp (k _ _) (fun ⟨o,e⟩=>⟨o,k _ _ e⟩)) id
  refine ⟨_,(qss_cons (qs_set (i:=1) sc.nd rfl (Or.inl rfl) (qe_call G_law_row (hr.mono (by decide)) rfl D_law_row.m D_law_row.k D_law_row.b .nil pass0 (qa_cons (qv 0) (qa_cons qe_int (qa_cons qe_int qa_nil)))))
   (qss_cons (qs_set (i:=2) sc.nd rfl (Or.inl rfl) (qe_call G_law_number (hr.mono (by decide)) rfl D_law_number.m D_law_number.k D_law_number.b .nil pass0 (qa_cons (qv 0) (qa_cons qe_int qa_nil))))
   (qss_cons (qs_set (i:=3) sc.nd rfl (Or.inr rfl) (qe_op op_add qe_int (qe_op op_mod (qv 2) qe_int)))
   (qss_cons (qs_set (i:=4) sc.nd rfl (Or.inl rfl) (qe_call G_law_sorted (hr.mono (by decide)) rfl D_law_sorted.m D_law_sorted.k D_law_sorted.b .nil pass0 (qa_cons (qv 1) (qa_cons (qv 3) (qa_cons qe_int qa_nil)))))
   (qss_cons (qs_if (QW.pt (qw_or (qt_cmpR op_ne (qe_callB call_len_seq (by rfl) T.z_len (by decide +kernel) (qa_cons (qv 4) qa_nil)) (qe_callB (call_max2 rfl) (by rfl) z_max (by decide +kernel) (qa_cons qe_int (qa_cons (qe_op op_add (qe_op op_sub (qe_callB call_len_seq (by rfl) T.z_len (by decide +kernel) (qa_cons (qv 1) qa_nil)) (qv 3)) qe_int) qa_nil))) (nomark _)) (qw_or1 (qt_cmpR (op_neAl hu1) (qe_call G_law_sorted (hr.mono (by decide)) rfl D_law_sorted.m D_law_sorted.k D_law_sorted.b .nil pass0 (qa_cons (qv 1) (qa_cons (qv 3) (qa_cons (qe_op op_add qe_int (qe_op op_mod (qe_op op_fdivB (qv 2) qe_int) qe_int)) qa_nil)))) (qv 4) (nomark _))))) (qss_one (qs_ret qe_bl)) qss_nil)
   (qss_cons (qs_for PassesOwn.never rfl (qi_range1 rfl T.z_range (qa_cons (qe_callB call_len_seq (by rfl) T.z_len (by decide +kernel) (qa_cons (qv 4) qa_nil)) qa_nil)) (qg_name (i:=5) sc.nd rfl (Or.inl rfl)) (qss_one (qs_if (qt_cmpR (op_neAl hu1) (qe_callTy call_list_of (by rfl) T.z_list (by decide +kernel) (qa_cons (qe_ix ix_list (qv 4) (qv 5) (fun _ _=>rfl)) qa_nil)) (qe_callB (call_sortedI) (by rfl) T.z_sorted (by decide +kernel) (qa_cons (qe_slice sl_list (qv 1) (qo_some (qv 5)) (qo_some (qe_op op_add (qv 5) (qv 3)))) qa_nil)) (nomark _)) (qss_one (qs_ret qe_bl)) qss_nil)))
   (qss_cons (qs_if (qt_cmpR (op_neAl hu1) (qe_call Gleasts (hr.mono (by decide)) rfl Dleasts.m Dleasts.k Dleasts.b .nil pass0 (qa_cons (qv 1) (qa_cons (qv 3) qa_nil))) (qe_callTy call_tuple_of (by rfl) T.z_tuple (by decide +kernel) (qa_cons (qe_comp (Blk.of (N:=["script","row","number","width","told","at","few","turned_v"]) (esc:=defScope sLaw) (NB:=[]) (cap:=[]) rfl rfl (fun y hy=>cell_has hy) rfl (by decide +kernel) (by decide +kernel) (by decide +kernel) rfl (by decide +kernel) rfl (by decide +kernel)) rfl rfl (qi_list (qv 4)) (fun C fp s₀ H₀=>qts_nil) (fun C fp s₀ H₀=>(qe_ix (ix_tupB (K:=K) rfl) (qv 0) qe_int (fun _ _=>rfl)))) qa_nil)) (nomark _)) (qss_one (qs_ret qe_bl)) qss_nil)
   (qss_cons (qs_if (qt_cmpR (op_neAl hu1) (qe_call Ggreatests (hr.mono (by decide)) rfl Dgreatests.m Dgreatests.k Dgreatests.b .nil pass0 (qa_cons (qv 1) (qa_cons (qv 3) qa_nil))) (qe_callTy call_tuple_of (by rfl) T.z_tuple (by decide +kernel) (qa_cons (qe_comp (Blk.of (N:=["script","row","number","width","told","at","few","turned_v"]) (esc:=defScope sLaw) (NB:=[]) (cap:=[]) rfl rfl (fun y hy=>cell_has hy) rfl (by decide +kernel) (by decide +kernel) (by decide +kernel) rfl (by decide +kernel) rfl (by decide +kernel)) rfl rfl (qi_list (qv 4)) (fun C fp s₀ H₀=>qts_nil) (fun C fp s₀ H₀=>(qe_ix (ix_tupB (K:=K) rfl) (qv 0) (qe_un un_neg qe_int) (fun _ _=>rfl)))) qa_nil)) (nomark _)) (qss_one (qs_ret qe_bl)) qss_nil)
   (qss_cons (qs_if (qt_cmpR (op_neAl hu1) (qe_call Gmiddles (hr.mono (by decide)) rfl Dmiddles.m Dmiddles.k Dmiddles.b .nil pass0 (qa_cons (qv 1) (qa_cons (qv 3) qa_nil))) (qe_callTy call_tuple_of (by rfl) T.z_tuple (by decide +kernel) (qa_cons (qe_comp (Blk.of (N:=["script","row","number","width","told","at","few","turned_v"]) (esc:=defScope sLaw) (NB:=["width"]) (cap:=[3]) rfl rfl (fun y hy=>cell_has hy) rfl (by decide +kernel) (by decide +kernel) (by decide +kernel) rfl (by decide +kernel) rfl (by decide +kernel)) rfl rfl (qi_list (qv 4)) (fun C fp s₀ H₀=>qts_nil) (fun C fp s₀ H₀=>(qe_ix (ix_tupB (K:=K) rfl) (qv 0) (qe_op op_fdivB (qe_op op_sub (qv 1) qe_int) qe_int) (fun _ _=>rfl)))) qa_nil)) (nomark _)) (qss_one (qs_ret qe_bl)) qss_nil)
   (qss_cons (qs_set (i:=6) sc.nd rfl (Or.inl rfl) (qe_slice sl_list (qv 1) qo_none (qo_some (qv 3))))
   (qss_cons (qs_if (qt_cmpR (op_eqNil hu) (qv 6) (qe_lst qa_nil) (nomark _)) (qss_one (qs_ret qe_bl)) qss_nil)
   (qss_cons (qs_set (i:=7) sc.nd rfl (Or.inl rfl) (qe_call G_law_turned (hr.mono (by decide)) rfl D_law_turned.m D_law_turned.k D_law_turned.b .nil pass0 (qa_cons (qe_call G_law_number (hr.mono (by decide)) rfl D_law_number.m D_law_number.k D_law_number.b .nil pass0 (qa_cons (qv 0) (qa_cons qe_int qa_nil))) (qa_cons (qv 6) qa_nil))))
   (qss_one (qs_ret (qe_cmpR (op_eqAl hu1) (qe_call G_law_sorted (hr.mono (by decide)) rfl D_law_sorted.m D_law_sorted.k D_law_sorted.b .nil pass0 (qa_cons (qv 7) (qa_cons (qe_callB call_len_seq (by rfl) T.z_len (by decide +kernel) (qa_cons (qv 6) qa_nil)) (qa_cons qe_int qa_nil)))) (qe_call G_law_sorted (hr.mono (by decide)) rfl D_law_sorted.m D_law_sorted.k D_law_sorted.b .nil pass0 (qa_cons (qv 6) (qa_cons (qe_callB call_len_seq (by rfl) T.z_len (by decide +kernel) (qa_cons (qv 6) qa_nil)) (qa_cons qe_int qa_nil)))) (nomark _)))))))))))))))),?_⟩
  refine ⟨_,rfl,a,ns0,0,40,rfl,hS,hn0,by decide,by decide,by decide,fun l rs H1 h1 lr nl s1=>?_⟩
  have lm:(rs.map V.int).length=rs.length:=List.length_map ..
  refine ⟨_,rfl,a,ns0,60,rfl,t1 s1,hn0,by decide,fun r H2 r0 r1 s2=>?_⟩
  replace h1:=s2 _ _ h1
  replace s1:=s1.trans s2
  obtain ⟨W,eW,w1,w2⟩:∃ W:Nat,1+r % 12=(W:Int)∧1≤W∧W≤12:=⟨(1+r % 12).toNat,by lia,by lia,by lia⟩
  refine ⟨_,rfl,_,_,rfl,rfl,(by show (0:Int) < 12; decide),_,_,rfl,rfl,?_⟩
  show gName 3 (V.int (1+r % 12)) _ _ _
  rw [eW]
  refine ⟨_,rfl,_,rfl,l,rs,W,1,rfl,.inl h1,by lia,w1,by lia,by decide,by decide,fun qt xs tss H3 ht tu sr s3=>?_⟩
  replace h1:=s3 _ _ h1
  replace s1:=s1.trans s3
  have lxs:xs.length=rs.length+1 - W:=by rw [tu.len,sr.len]
  have emx:(if (rs.length:Int) - (W:Int)+1 > 0 then (rs.length:Int) - (W:Int)+1 else 0)=(xs.length:Int):=by split <;> lia
  refine ⟨_,rfl,qt,_,rfl,.inl (SqL.of ht),_,rfl,l,_,rfl,.inl (SqL.of h1),_,rfl,_,_,rfl,rfl,_,_,rfl,rfl,0,_,rfl,?_⟩
  rw [lm,emx]
  refine ⟨rfl,_,rfl,iteNS rfl ?_⟩
  have y0:=mod_lo (a:=r / 12) (b:=999) (by decide)
  have y1:=mod_hi (a:=r / 12) (b:=999) (by decide)
  refine ⟨_,rfl,_,rfl,_,rfl,_,_,rfl,rfl,⟨by decide,by decide⟩,_,_,rfl,rfl,(by show (0:Int) < 999; decide),_,_,rfl,rfl,l,rs,W,2+r / 12 % 999,rfl,.inl h1,by lia,w1,by lia,by lia,by lia,fun q2 ys uss H4 h4 tu4 sr4 s4=>?_⟩
  obtain rfl:=sr.one sr4 rfl (fun j _=>List.Perm.refl _)
  refine ⟨_,rfl,.lst (SqL.of h4) (SqL.of (s4 _ _ ht)) (tu4.al (tu.same s4)),_,rfl,iteF ?_⟩
  replace ht:=s4 _ _ ht
  replace tu:=tu.same s4
  replace h1:=s4 _ _ h1
  replace s1:=s1.trans s4
  clear h4 tu4 sr4 s4 s3 s2 nl
  refine ⟨_,rfl,qt,_,rfl,.inl (SqL.of ht),_,rfl,by lia,by lia,?_⟩
  refine for_range (lo:=0) (n:=xs.length) (fun i σ H5=>∃ o:Option V,σ=[some (.ref a),some (.ref l),some (.int r),some (.int W),some (.ref qt),o,none,none]∧Same H4 H5) ⟨none,rfl,fun b o h=>h⟩ ?_ ?_
  ·rintro i σ H5 hi ⟨o,rfl,s5⟩
   have ei:(0:Int)+(i:Int)=(i:Int):=by lia
   rw [ei]
   have ex:xs[i]?=some xs[i]:=List.getElem?_eq_getElem hi
   obtain ⟨s1',qx,et,eqx,hqx⟩:=(tu.same s5).get ex
   rw [eqx] at ex
   refine ⟨_,rfl,_,rfl,qt,_,_,_,rfl,rfl,SqL.of (s5 _ _ ht),atI_nat ex,qx,_,rfl,.inr (SqT.of hqx),fun l2 hl2=>?_⟩
   have s6:=same_new (o:=.lst (s1'.map V.int)) hl2
   have g6:=upd_same (H:=H5) (a:=l2) (o:=.lst (s1'.map V.int))
   generalize upd H5 l2 (.lst (s1'.map V.int))=H6 at s6 g6 ⊢
   replace s5:=s5.trans s6
   refine ⟨_,rfl,_,rfl,_,rfl,_,rfl,_,rfl,_,_,rfl,rfl,_,rfl,l,_,rfl,SqL.of (s5 _ _ h1),fun r8 hr8=>?_⟩
   have ec:cutV (rs.map V.int) (some (i:Int)) (some ((i:Int)+(W:Int)))=((rs.drop i).take W).map V.int:=cutV_win (by lia)
   have sr8:=same_new (o:=.lst (cutV (rs.map V.int) (some (i:Int)) (some ((i:Int)+(W:Int))))) hr8
   refine ⟨r8,(rs.drop i).take W,rfl,SqL.of (by rw [upd_same,ec]),fun l3 ms hl3 pm up=>?_⟩
   have s9:=same_new (o:=.lst (ms.map V.int)) hl3
   have lms:ms.length=W:=by rw [pm.length_eq,List.length_take,List.length_drop]; lia
   obtain rfl:=sr.sorted et pm (up.imp fun h=>Int.not_lt.mpr h) lms
   refine ⟨.lst (SqL.of (s9 _ _ (sr8 _ _ g6))) (SqL.of upd_same) ints_al,_,rfl,iteF ?_⟩
   exact ⟨_,rfl,(s5.trans sr8).trans s9⟩
  rintro σ H5 ⟨o,rfl,s5⟩
  replace ht:=s5 _ _ ht
  replace tu:=tu.same s5
  replace h1:=s5 _ _ h1
  replace s1:=s1.trans s5
  clear s5
  have lss:=sr.len
  refine ⟨_,rfl,_,rfl,l,rs,W,rfl,.inl h1,by lia,w1,fun ql ls H6 h6 m6 s6=>?_⟩
  refine ⟨_,rfl,qt,rfl,⟨_,SqL.of (s6 _ _ ht)⟩,fun D hD=>?_⟩
  refine comp_listR (K:=K) (a:=qt) (xs:=xs) (fun i zs H7=>∃ ts:List Int,zs=ts.map V.int∧ts.length=i∧(∀ (j:Nat) (s:List Int) (t:Int),tss[j]?=some s→ts[j]?=some t→s[0]?=some t)∧H7 D=some (.lst zs)∧Same H6 H7) ⟨[],rfl,rfl,(fun j s t _ e=>by cases e),upd_same,same_new hD⟩ (fun i zs H7 ⟨_,_,_,_,z,sz⟩=>⟨z,SqL.of (sz _ _ (s6 _ _ ht))⟩) ?_ ?_
  ·rintro i x zs H7 hx ⟨ts,rfl,lts,nj,h7,s7⟩
   unfold tYes
   dsimp only
   rw [if_pos rfl]
   obtain ⟨s1,qx,et,rfl,hqx⟩:=((tu.same s6).same s7).get hx
   have li:=(List.getElem?_eq_some_iff.mp hx).1
   have l1:=(sr.at_ i s1 et).1
   have ev:s1[0]?=some s1[0]:=List.getElem?_eq_getElem (by lia)
   refine ⟨_,rfl,qx,_,_,.int s1[0],rfl,rfl,SqT.of hqx,(by exact atI_nat (j:=0) (by rw [List.getElem?_map,ev]; rfl)),h7,small1000 (by rw [List.length_map]; lia),_,by lia,rfl,by lia,ts++[s1[0]],by rw [List.map_append]; rfl,by rw [List.length_append,lts]; rfl,fun j s t es e=>?_,upd_same,fun b o h=>by rw [upd_ne (ne_of_none h hD)]; exact s7 _ _ h⟩
   by_cases z:j < ts.length
   ·rw [List.getElem?_append_left z] at e
    exact nj j s t es e
   ·have ej:j=ts.length:=by
     have:=(List.getElem?_eq_some_iff.mp e).1
     rw [List.length_append] at this
     have h1:([s1[0]]:List Int).length=1:=rfl
     lia
    rw [ej,List.getElem?_append_right (Nat.le_refl _),Nat.sub_self] at e
    have e':s1[0]=t:=Option.some.inj e
    rw [ej,lts,et] at es
    cases es
    rw [← e']; exact ev
  rintro zs H7 ⟨ts,rfl,lts,nj,h7,s7⟩
  refine ⟨D,_,rfl,.inl ⟨SqL.of h7,fun qn hqn=>?_⟩⟩
  have s8:=same_new (o:=.tup (ts.map V.int)) hqn
  have g8:=upd_same (H:=H7) (a:=qn) (o:=.tup (ts.map V.int))
  generalize upd H7 qn (.tup (ts.map V.int))=H8 at s8 g8 ⊢
  replace s8:=s7.trans s8
  obtain rfl:=(mins_nths m6).one (sr.nths (lts.trans tu.len) nj)
  refine ⟨al_ints (s8 _ _ h6) g8,_,rfl,iteF ?_⟩
  replace s8:=s6.trans s8
  replace ht:=s8 _ _ ht
  replace tu:=tu.same s8
  replace h1:=s8 _ _ h1
  replace s1:=s1.trans s8
  clear s8 g8 s7 h7 nj lts hqn hD h6 m6 s6
  refine ⟨_,rfl,_,rfl,l,rs,W,rfl,.inl h1,by lia,w1,fun ql ls H6 h6 m6 s6=>?_⟩
  refine ⟨_,rfl,qt,rfl,⟨_,SqL.of (s6 _ _ ht)⟩,fun D hD=>?_⟩
  refine comp_listR (K:=K) (a:=qt) (xs:=xs) (fun i zs H7=>∃ ts:List Int,zs=ts.map V.int∧ts.length=i∧(∀ (j:Nat) (s:List Int) (t:Int),tss[j]?=some s→ts[j]?=some t→s[W - 1]?=some t)∧H7 D=some (.lst zs)∧Same H6 H7) ⟨[],rfl,rfl,(fun j s t _ e=>by cases e),upd_same,same_new hD⟩ (fun i zs H7 ⟨_,_,_,_,z,sz⟩=>⟨z,SqL.of (sz _ _ (s6 _ _ ht))⟩) ?_ ?_
  ·rintro i x zs H7 hx ⟨ts,rfl,lts,nj,h7,s7⟩
   unfold tYes
   dsimp only
   rw [if_pos rfl]
   obtain ⟨s1,qx,et,rfl,hqx⟩:=((tu.same s6).same s7).get hx
   have li:=(List.getElem?_eq_some_iff.mp hx).1
   have l1:=(sr.at_ i s1 et).1
   have ev:s1[W - 1]?=some s1[W - 1]:=List.getElem?_eq_getElem (by lia)
   refine ⟨_,rfl,_,rfl,qx,_,_,.int s1[W - 1],rfl,rfl,SqT.of hqx,(by exact atI_neg1 (n:=W) (by rw [List.length_map,l1]) w1 (by rw [List.getElem?_map,ev]; rfl)),h7,small1000 (by rw [List.length_map]; lia),_,by lia,rfl,by lia,ts++[s1[W - 1]],by rw [List.map_append]; rfl,by rw [List.length_append,lts]; rfl,fun j s t es e=>?_,upd_same,fun b o h=>by rw [upd_ne (ne_of_none h hD)]; exact s7 _ _ h⟩
   by_cases z:j < ts.length
   ·rw [List.getElem?_append_left z] at e
    exact nj j s t es e
   ·have ej:j=ts.length:=by
     have:=(List.getElem?_eq_some_iff.mp e).1
     rw [List.length_append] at this
     have h1:([s1[W - 1]]:List Int).length=1:=rfl
     lia
    rw [ej,List.getElem?_append_right (Nat.le_refl _),Nat.sub_self] at e
    have e':s1[W - 1]=t:=Option.some.inj e
    rw [ej,lts,et] at es
    cases es
    rw [← e']; exact ev
  rintro zs H7 ⟨ts,rfl,lts,nj,h7,s7⟩
  refine ⟨D,_,rfl,.inl ⟨SqL.of h7,fun qn hqn=>?_⟩⟩
  have s8:=same_new (o:=.tup (ts.map V.int)) hqn
  have g8:=upd_same (H:=H7) (a:=qn) (o:=.tup (ts.map V.int))
  generalize upd H7 qn (.tup (ts.map V.int))=H8 at s8 g8 ⊢
  replace s8:=s7.trans s8
  obtain rfl:=(maxs_nths m6 w1).one (sr.nths (lts.trans tu.len) nj)
  refine ⟨al_ints (s8 _ _ h6) g8,_,rfl,iteF ?_⟩
  replace s8:=s6.trans s8
  replace ht:=s8 _ _ ht
  replace tu:=tu.same s8
  replace h1:=s8 _ _ h1
  replace s1:=s1.trans s8
  clear s8 g8 s7 h7 nj lts hqn hD h6 m6 s6
  refine ⟨_,rfl,_,rfl,l,rs,W,rfl,.inl h1,by lia,w1,fun ql ls H6 h6 m6 s6=>?_⟩
  refine ⟨_,rfl,qt,rfl,⟨_,SqL.of (s6 _ _ ht)⟩,fun D hD=>?_⟩
  refine comp_listR (K:=K) (a:=qt) (xs:=xs) (fun i zs H7=>∃ ts:List Int,zs=ts.map V.int∧ts.length=i∧(∀ (j:Nat) (s:List Int) (t:Int),tss[j]?=some s→ts[j]?=some t→s[(W - 1) / 2]?=some t)∧H7 D=some (.lst zs)∧Same H6 H7) ⟨[],rfl,rfl,(fun j s t _ e=>by cases e),upd_same,same_new hD⟩ (fun i zs H7 ⟨_,_,_,_,z,sz⟩=>⟨z,SqL.of (sz _ _ (s6 _ _ ht))⟩) ?_ ?_
  ·rintro i x zs H7 hx ⟨ts,rfl,lts,nj,h7,s7⟩
   unfold tYes
   dsimp only
   rw [if_pos rfl]
   obtain ⟨s1,qx,et,rfl,hqx⟩:=((tu.same s6).same s7).get hx
   have li:=(List.getElem?_eq_some_iff.mp hx).1
   have l1:=(sr.at_ i s1 et).1
   have ev:s1[(W - 1) / 2]?=some s1[(W - 1) / 2]:=List.getElem?_eq_getElem (by lia)
   refine ⟨_,rfl,_,rfl,_,_,rfl,rfl,_,_,rfl,rfl,⟨by decide,by decide⟩,qx,_,_,.int s1[(W - 1) / 2],rfl,rfl,SqT.of hqx,(by rw [show ((W:Int) - 1) / 2=(((W - 1) / 2:Nat):Int) by lia]; exact atI_nat (by rw [List.getElem?_map,ev]; rfl)),h7,small1000 (by rw [List.length_map]; lia),_,by lia,rfl,by lia,ts++[s1[(W - 1) / 2]],by rw [List.map_append]; rfl,by rw [List.length_append,lts]; rfl,fun j s t es e=>?_,upd_same,fun b o h=>by rw [upd_ne (ne_of_none h hD)]; exact s7 _ _ h⟩
   by_cases z:j < ts.length
   ·rw [List.getElem?_append_left z] at e
    exact nj j s t es e
   ·have ej:j=ts.length:=by
     have:=(List.getElem?_eq_some_iff.mp e).1
     rw [List.length_append] at this
     have h1:([s1[(W - 1) / 2]]:List Int).length=1:=rfl
     lia
    rw [ej,List.getElem?_append_right (Nat.le_refl _),Nat.sub_self] at e
    have e':s1[(W - 1) / 2]=t:=Option.some.inj e
    rw [ej,lts,et] at es
    cases es
    rw [← e']; exact ev
  rintro zs H7 ⟨ts,rfl,lts,nj,h7,s7⟩
  refine ⟨D,_,rfl,.inl ⟨SqL.of h7,fun qn hqn=>?_⟩⟩
  have s8:=same_new (o:=.tup (ts.map V.int)) hqn
  have g8:=upd_same (H:=H7) (a:=qn) (o:=.tup (ts.map V.int))
  generalize upd H7 qn (.tup (ts.map V.int))=H8 at s8 g8 ⊢
  replace s8:=s7.trans s8
  obtain rfl:=m6.one (sr.nths (lts.trans tu.len) nj)
  refine ⟨al_ints (s8 _ _ h6) g8,_,rfl,iteF ?_⟩
  replace s8:=s6.trans s8
  replace ht:=s8 _ _ ht
  replace tu:=tu.same s8
  replace h1:=s8 _ _ h1
  replace s1:=s1.trans s8
  clear s8 g8 s7 h7 nj lts hqn hD h6 m6 s6
  have ecut:cutV (rs.map V.int) none (some (W:Int))=(rs.take W).map V.int:=by
   unfold cutV
   have e2:HT.sIx (rs.map V.int).length 0 none=0:=rfl
   rw [HT.sIx_nat,e2,lm,List.drop_zero,Nat.sub_zero,← List.map_take]
   by_cases y:W≤rs.length
   ·rw [Nat.min_eq_left y]
   ·rw [Nat.min_eq_right (by lia),List.take_of_length_le (Nat.le_refl _),List.take_of_length_le (by lia)]
  refine ⟨_,rfl,_,rfl,(W:Int),rfl,l,_,rfl,SqL.of h1,fun fl hfl=>?_⟩
  have s9:=same_new (o:=.lst (cutV (rs.map V.int) none (some (W:Int)))) hfl
  have g9:(upd H8 fl (.lst (cutV (rs.map V.int) none (some (W:Int))))) fl=some (.lst ((rs.take W).map V.int)):=by rw [upd_same,ecut]
  generalize upd H8 fl (.lst (cutV (rs.map V.int) none (some (W:Int))))=H9 at s9 g9 ⊢
  replace s1:=s1.trans s9
  have lf:(rs.take W).length≤12:=by rw [List.length_take]; lia
  generalize rs.take W=fs at g9 lf
  have lfm:(fs.map V.int).length=fs.length:=List.length_map ..
  refine ⟨_,rfl,by show 0≤sizeLine; decide,fun z hz=>?_⟩
  have sz:=same_new (o:=.lst []) hz
  refine ⟨fl,z,_,rfl,rfl,SqL.of (sz _ _ g9),SqL.of upd_same,_,rfl,?_⟩
  replace g9:=sz _ _ g9
  replace s1:=s1.trans sz
  generalize upd H9 z (.lst [])=HA at sz g9 s1 ⊢
  refine ite2 (fun c=>k _) (fun c=>?_)
  have fne:1≤fs.length:=by
   cases e:fs with
   | nil=>rw [e] at c; exact absurd rfl c
   | cons a b=>rw [List.length_cons]; lia
  refine ⟨_,rfl,a,ns0,61,rfl,t1 s1,hn0,by decide,fun nb HB n0 n1 sB=>?_⟩
  refine ⟨_,rfl,fl,fs,nb,rfl,sB _ _ g9,by lia,n0,by lia,fun tl ms HC hC pm sC=>?_⟩
  have lpm:=pm.length_eq
  replace g9:=sC _ _ (sB _ _ g9)
  refine ⟨_,rfl,_,rfl,fl,_,rfl,.inl (SqL.of g9),tl,ms,fs.length,1,(by show [V.ref tl,V.int ((fs.map V.int).length:Nat),V.int 1]=_; rw [lfm]),.inl hC,by lia,fne,by lia,by decide,by decide,fun q3 ys us3 HD hD3 tu3 sr3 sD=>?_⟩
  refine ⟨_,rfl,_,rfl,fl,_,rfl,.inl (SqL.of (sD _ _ g9)),fl,fs,fs.length,1,(by show [V.ref fl,V.int ((fs.map V.int).length:Nat),V.int 1]=_; rw [lfm]),.inl (sD _ _ g9),by lia,fne,by lia,by decide,by decide,fun q4 zs us4 HE hE4 tu4 sr4 sE=>?_⟩
  have l3:=sr3.len
  obtain rfl:=sr3.one sr4 lpm (fun j hj=>by
   have:j=0:=by lia
   subst this
   rw [List.drop_zero,List.drop_zero,List.take_of_length_le (by lia),List.take_of_length_le (by lia)]
   exact pm)
  exact ⟨.lst (SqL.of (sE _ _ hD3)) (SqL.of hE4) ((tu3.same sE).al tu4),k _⟩
end
end Kx
end
section
namespace Kx
open PySem L2
section
variable {P:Program} {w:World} {K:PySem.W.Frag} {mg:Str→Option Value} {base:Heap}
theorem all_mk {l:PySem.W.OpenLaw} {w:World} {K:PySem.W.Frag} {h:Heap} {mg:Str→Option Value} {fa C C2 CB CC CN f_exch f_lift f_lay f_ld f_cutf f_order f_ninit f_holds f_need f_free f_any f_stamped f_linit f_enter f_cut f_sweep f_first f_put f_drop f_least f_take2 f_many f_place f_over f_pinit f_pput f_pdrop f_pleast f_slid f_shares f_middles f_leasts f_turned f_greatests f_number f_lworth f_lrow f_lturned f_lsorted f_law:Addr} (X:K.In h) (G:h.Ns mainGlobals mg) (hfa:mg "law"=some (.ref fa))
     {tL:Tok} {od_exch an_exch od_lift an_lift od_lay an_lay od_ld an_ld od_cutf an_cutf od_order an_order od_ninit an_ninit od_holds an_holds od_need an_need od_free an_free od_any an_any od_stamped an_stamped od_linit an_linit od_enter an_enter od_cut an_cut od_sweep an_sweep od_first an_first od_put an_put od_drop an_drop od_least an_least od_take2 an_take2 od_many an_many od_place an_place od_over an_over od_pinit an_pinit od_pput an_pput od_pdrop an_pdrop od_pleast an_pleast od_slid an_slid od_shares an_shares od_middles an_middles od_leasts an_leasts od_turned an_turned od_greatests an_greatests od_number an_number od_lworth an_lworth od_lrow an_lrow od_lturned an_lturned od_lsorted an_lsorted od_law an_law:Option Addr} {sl_exch sl_lift sl_lay sl_ld sl_cutf sl_order sl_ninit sl_holds sl_need sl_free sl_any sl_stamped sl_linit sl_enter sl_cut sl_sweep sl_first sl_put sl_drop sl_least sl_take2 sl_many sl_place sl_over sl_pinit sl_pput sl_pdrop sl_pleast sl_slid sl_shares sl_middles sl_leasts sl_turned sl_greatests sl_number sl_lworth sl_lrow sl_lturned sl_lsorted sl_law:Array (Option Value)} {oc_exch kV_exch dc_exch pm_exch cd_exch ct_exch oc_lift kV_lift dc_lift pm_lift cd_lift ct_lift oc_lay kV_lay dc_lay pm_lay cd_lay ct_lay oc_ld kV_ld dc_ld pm_ld cd_ld ct_ld oc_cutf kV_cutf dc_cutf pm_cutf cd_cutf ct_cutf oc_order kV_order dc_order pm_order cd_order ct_order oc_ninit kV_ninit dc_ninit pm_ninit cd_ninit ct_ninit oc_holds kV_holds dc_holds pm_holds cd_holds ct_holds oc_need kV_need dc_need pm_need cd_need ct_need oc_free kV_free dc_free pm_free cd_free ct_free oc_any kV_any dc_any pm_any cd_any ct_any oc_stamped kV_stamped dc_stamped pm_stamped cd_stamped ct_stamped oc_linit kV_linit dc_linit pm_linit cd_linit ct_linit oc_enter kV_enter dc_enter pm_enter cd_enter ct_enter oc_cut kV_cut dc_cut pm_cut cd_cut ct_cut oc_sweep kV_sweep dc_sweep pm_sweep cd_sweep ct_sweep oc_first kV_first dc_first pm_first cd_first ct_first oc_put kV_put dc_put pm_put cd_put ct_put oc_drop kV_drop dc_drop pm_drop cd_drop ct_drop oc_least kV_least dc_least pm_least cd_least ct_least oc_take2 kV_take2 dc_take2 pm_take2 cd_take2 ct_take2 oc_many kV_many dc_many pm_many cd_many ct_many oc_place kV_place dc_place pm_place cd_place ct_place oc_over kV_over dc_over pm_over cd_over ct_over oc_pinit kV_pinit dc_pinit pm_pinit cd_pinit ct_pinit oc_pput kV_pput dc_pput pm_pput cd_pput ct_pput oc_pdrop kV_pdrop dc_pdrop pm_pdrop cd_pdrop ct_pdrop oc_pleast kV_pleast dc_pleast pm_pleast cd_pleast ct_pleast oc_slid kV_slid dc_slid pm_slid cd_slid ct_slid oc_shares kV_shares dc_shares pm_shares cd_shares ct_shares oc_middles kV_middles dc_middles pm_middles cd_middles ct_middles oc_leasts kV_leasts dc_leasts pm_leasts cd_leasts ct_leasts oc_turned kV_turned dc_turned pm_turned cd_turned ct_turned oc_greatests kV_greatests dc_greatests pm_greatests cd_greatests ct_greatests oc_number kV_number dc_number pm_number cd_number ct_number oc_lworth kV_lworth dc_lworth pm_lworth cd_lworth ct_lworth oc_lrow kV_lrow dc_lrow pm_lrow cd_lrow ct_lrow oc_lturned kV_lturned dc_lturned pm_lturned cd_lturned ct_lturned oc_lsorted kV_lsorted dc_lsorted pm_lsorted cd_lsorted ct_lsorted oc_law kV_law dc_law pm_law cd_law ct_law:Value}
    (aC:PySem.W.nsIn K mainGlobals "Late"=some (some (.ref C)))
    (aCB:PySem.W.nsIn K mainGlobals "Named"=some (some (.ref CB)))
    (aC2:PySem.W.nsIn K mainGlobals "Parted"=some (some (.ref C2)))
    (aCC:PySem.W.nsIn K mainGlobals "Clash"=some (some (.ref CC)))
    (aCN:PySem.W.nsIn K mainGlobals "NoThing"=some (some (.ref CN)))
    (a_exch:PySem.W.nsIn K mainGlobals "exchange"=some (some (.ref f_exch)))
    (l_exch:K.lookup f_exch=some ⟨oc_exch,od_exch,.func (PySem.W.fnOf "exchange" "exchange" (defArgs sExch) (defBody sExch) (defScope sExch) .none kV_exch dc_exch pm_exch an_exch cd_exch ct_exch),sl_exch⟩)
    (c_exch:PySem.W.codeIn K cd_exch "exchange"=true)
    (k_exch:PySem.W.keepIn K (.ref f_exch)=true)
    (a_lift:PySem.W.nsIn K mainGlobals "lift"=some (some (.ref f_lift)))
    (l_lift:K.lookup f_lift=some ⟨oc_lift,od_lift,.func (PySem.W.fnOf "lift" "lift" (defArgs sLift) (defBody sLift) (defScope sLift) .none kV_lift dc_lift pm_lift an_lift cd_lift ct_lift),sl_lift⟩)
    (c_lift:PySem.W.codeIn K cd_lift "lift"=true)
    (k_lift:PySem.W.keepIn K (.ref f_lift)=true)
    (a_lay:PySem.W.nsIn K mainGlobals "lay_in"=some (some (.ref f_lay)))
    (l_lay:K.lookup f_lay=some ⟨oc_lay,od_lay,.func (PySem.W.fnOf "lay_in" "lay_in" (defArgs sLay) (defBody sLay) (defScope sLay) .none kV_lay dc_lay pm_lay an_lay cd_lay ct_lay),sl_lay⟩)
    (c_lay:PySem.W.codeIn K cd_lay "lay_in"=true)
    (k_lay:PySem.W.keepIn K (.ref f_lay)=true)
    (a_ld:PySem.W.nsIn K mainGlobals "let_down"=some (some (.ref f_ld)))
    (l_ld:K.lookup f_ld=some ⟨oc_ld,od_ld,.func (PySem.W.fnOf "let_down" "let_down" (defArgs sLetDown) (defBody sLetDown) (defScope sLetDown) .none kV_ld dc_ld pm_ld an_ld cd_ld ct_ld),sl_ld⟩)
    (c_ld:PySem.W.codeIn K cd_ld "let_down"=true)
    (k_ld:PySem.W.keepIn K (.ref f_ld)=true)
    (a_cutf:PySem.W.nsIn K mainGlobals "cut_first"=some (some (.ref f_cutf)))
    (l_cutf:K.lookup f_cutf=some ⟨oc_cutf,od_cutf,.func (PySem.W.fnOf "cut_first" "cut_first" (defArgs sCut) (defBody sCut) (defScope sCut) .none kV_cutf dc_cutf pm_cutf an_cutf cd_cutf ct_cutf),sl_cutf⟩)
    (c_cutf:PySem.W.codeIn K cd_cutf "cut_first"=true)
    (k_cutf:PySem.W.keepIn K (.ref f_cutf)=true)
    (a_order:PySem.W.nsIn K mainGlobals "order"=some (some (.ref f_order)))
    (l_order:K.lookup f_order=some ⟨oc_order,od_order,.func (PySem.W.fnOf "order" "order" (defArgs sOrder) (defBody sOrder) (defScope sOrder) .none kV_order dc_order pm_order an_order cd_order ct_order),sl_order⟩)
    (c_order:PySem.W.codeIn K cd_order "order"=true)
    (k_order:PySem.W.keepIn K (.ref f_order)=true)
    (a_ninit:PySem.W.findCls K (.ref CB) (.type "type") "__init__"=some (.val (.ref f_ninit)))
    (l_ninit:K.lookup f_ninit=some ⟨oc_ninit,od_ninit,.func (PySem.W.fnOf "__init__" "Named.__init__" (defArgs sNInit) (defBody sNInit) (defScope sNInit) .none kV_ninit dc_ninit pm_ninit an_ninit cd_ninit ct_ninit),sl_ninit⟩)
    (c_ninit:PySem.W.codeIn K cd_ninit "Named.__init__"=true)
    (k_ninit:PySem.W.keepIn K (.ref f_ninit)=true)
    (a_holds:PySem.W.findIn K (.ref C) "holds"=some (some (.ref f_holds)))
    (i_holds:PySem.W.isFn K (.ref f_holds)=true)
    (l_holds:K.lookup f_holds=some ⟨oc_holds,od_holds,.func (PySem.W.fnOf "holds" "Named.holds" (defArgs sHolds) (defBody sHolds) (defScope sHolds) .none kV_holds dc_holds pm_holds an_holds cd_holds ct_holds),sl_holds⟩)
    (c_holds:PySem.W.codeIn K cd_holds "Named.holds"=true)
    (k_holds:PySem.W.keepIn K (.ref f_holds)=true)
    (a_need:PySem.W.findIn K (.ref C) "need"=some (some (.ref f_need)))
    (i_need:PySem.W.isFn K (.ref f_need)=true)
    (l_need:K.lookup f_need=some ⟨oc_need,od_need,.func (PySem.W.fnOf "need" "Named.need" (defArgs sNeed) (defBody sNeed) (defScope sNeed) .none kV_need dc_need pm_need an_need cd_need ct_need),sl_need⟩)
    (c_need:PySem.W.codeIn K cd_need "Named.need"=true)
    (k_need:PySem.W.keepIn K (.ref f_need)=true)
    (a_free:PySem.W.findIn K (.ref C) "need_free"=some (some (.ref f_free)))
    (i_free:PySem.W.isFn K (.ref f_free)=true)
    (l_free:K.lookup f_free=some ⟨oc_free,od_free,.func (PySem.W.fnOf "need_free" "Named.need_free" (defArgs sFree) (defBody sFree) (defScope sFree) .none kV_free dc_free pm_free an_free cd_free ct_free),sl_free⟩)
    (c_free:PySem.W.codeIn K cd_free "Named.need_free"=true)
    (k_free:PySem.W.keepIn K (.ref f_free)=true)
    (a_any:PySem.W.findIn K (.ref C) "need_any"=some (some (.ref f_any)))
    (i_any:PySem.W.isFn K (.ref f_any)=true)
    (l_any:K.lookup f_any=some ⟨oc_any,od_any,.func (PySem.W.fnOf "need_any" "Named.need_any" (defArgs sAny) (defBody sAny) (defScope sAny) .none kV_any dc_any pm_any an_any cd_any ct_any),sl_any⟩)
    (c_any:PySem.W.codeIn K cd_any "Named.need_any"=true)
    (k_any:PySem.W.keepIn K (.ref f_any)=true)
    (a_stamped:PySem.W.findIn K (.ref C) "stamped"=some (some (.ref f_stamped)))
    (i_stamped:PySem.W.isFn K (.ref f_stamped)=true)
    (l_stamped:K.lookup f_stamped=some ⟨oc_stamped,od_stamped,.func (PySem.W.fnOf "stamped" "Named.stamped" (defArgs sStamped) (defBody sStamped) (defScope sStamped) .none kV_stamped dc_stamped pm_stamped an_stamped cd_stamped ct_stamped),sl_stamped⟩)
    (c_stamped:PySem.W.codeIn K cd_stamped "Named.stamped"=true)
    (k_stamped:PySem.W.keepIn K (.ref f_stamped)=true)
    (a_linit:PySem.W.findIn K (.ref C) "__init__"=some (some (.ref f_linit)))
    (i_linit:PySem.W.isFn K (.ref f_linit)=true)
    (l_linit:K.lookup f_linit=some ⟨oc_linit,od_linit,.func (PySem.W.fnOf "__init__" "Late.__init__" (defArgs sLInit) (defBody sLInit) (defScope sLInit) .none kV_linit dc_linit pm_linit an_linit cd_linit ct_linit),sl_linit⟩)
    (c_linit:PySem.W.codeIn K cd_linit "Late.__init__"=true)
    (k_linit:PySem.W.keepIn K (.ref f_linit)=true)
    (a_enter:PySem.W.findIn K (.ref C) "enter"=some (some (.ref f_enter)))
    (i_enter:PySem.W.isFn K (.ref f_enter)=true)
    (l_enter:K.lookup f_enter=some ⟨oc_enter,od_enter,.func (PySem.W.fnOf "enter" "Late.enter" (defArgs sEnter) (defBody sEnter) (defScope sEnter) .none kV_enter dc_enter pm_enter an_enter cd_enter ct_enter),sl_enter⟩)
    (c_enter:PySem.W.codeIn K cd_enter "Late.enter"=true)
    (k_enter:PySem.W.keepIn K (.ref f_enter)=true)
    (a_cut:PySem.W.findIn K (.ref C) "cut"=some (some (.ref f_cut)))
    (i_cut:PySem.W.isFn K (.ref f_cut)=true)
    (l_cut:K.lookup f_cut=some ⟨oc_cut,od_cut,.func (PySem.W.fnOf "cut" "Late.cut" (defArgs sCut2) (defBody sCut2) (defScope sCut2) .none kV_cut dc_cut pm_cut an_cut cd_cut ct_cut),sl_cut⟩)
    (c_cut:PySem.W.codeIn K cd_cut "Late.cut"=true)
    (k_cut:PySem.W.keepIn K (.ref f_cut)=true)
    (a_sweep:PySem.W.findIn K (.ref C) "sweep_if_due"=some (some (.ref f_sweep)))
    (i_sweep:PySem.W.isFn K (.ref f_sweep)=true)
    (l_sweep:K.lookup f_sweep=some ⟨oc_sweep,od_sweep,.func (PySem.W.fnOf "sweep_if_due" "Late.sweep_if_due" (defArgs sSweep) (defBody sSweep) (defScope sSweep) .none kV_sweep dc_sweep pm_sweep an_sweep cd_sweep ct_sweep),sl_sweep⟩)
    (c_sweep:PySem.W.codeIn K cd_sweep "Late.sweep_if_due"=true)
    (k_sweep:PySem.W.keepIn K (.ref f_sweep)=true)
    (a_first:PySem.W.findIn K (.ref C) "first_there"=some (some (.ref f_first)))
    (i_first:PySem.W.isFn K (.ref f_first)=true)
    (l_first:K.lookup f_first=some ⟨oc_first,od_first,.func (PySem.W.fnOf "first_there" "Late.first_there" (defArgs sFirst) (defBody sFirst) (defScope sFirst) .none kV_first dc_first pm_first an_first cd_first ct_first),sl_first⟩)
    (c_first:PySem.W.codeIn K cd_first "Late.first_there"=true)
    (k_first:PySem.W.keepIn K (.ref f_first)=true)
    (a_put:PySem.W.findIn K (.ref C) "put"=some (some (.ref f_put)))
    (i_put:PySem.W.isFn K (.ref f_put)=true)
    (l_put:K.lookup f_put=some ⟨oc_put,od_put,.func (PySem.W.fnOf "put" "Late.put" (defArgs sPutM) (defBody sPutM) (defScope sPutM) .none kV_put dc_put pm_put an_put cd_put ct_put),sl_put⟩)
    (c_put:PySem.W.codeIn K cd_put "Late.put"=true)
    (k_put:PySem.W.keepIn K (.ref f_put)=true)
    (a_drop:PySem.W.findIn K (.ref C) "drop"=some (some (.ref f_drop)))
    (i_drop:PySem.W.isFn K (.ref f_drop)=true)
    (l_drop:K.lookup f_drop=some ⟨oc_drop,od_drop,.func (PySem.W.fnOf "drop" "Late.drop" (defArgs sDropM) (defBody sDropM) (defScope sDropM) .none kV_drop dc_drop pm_drop an_drop cd_drop ct_drop),sl_drop⟩)
    (c_drop:PySem.W.codeIn K cd_drop "Late.drop"=true)
    (k_drop:PySem.W.keepIn K (.ref f_drop)=true)
    (a_least:PySem.W.findIn K (.ref C) "least"=some (some (.ref f_least)))
    (i_least:PySem.W.isFn K (.ref f_least)=true)
    (l_least:K.lookup f_least=some ⟨oc_least,od_least,.func (PySem.W.fnOf "least" "Late.least" (defArgs sLeastM) (defBody sLeastM) (defScope sLeastM) .none kV_least dc_least pm_least an_least cd_least ct_least),sl_least⟩)
    (c_least:PySem.W.codeIn K cd_least "Late.least"=true)
    (k_least:PySem.W.keepIn K (.ref f_least)=true)
    (a_take2:PySem.W.findIn K (.ref C) "take"=some (some (.ref f_take2)))
    (i_take2:PySem.W.isFn K (.ref f_take2)=true)
    (l_take2:K.lookup f_take2=some ⟨oc_take2,od_take2,.func (PySem.W.fnOf "take" "Late.take" (defArgs sTakeM) (defBody sTakeM) (defScope sTakeM) .none kV_take2 dc_take2 pm_take2 an_take2 cd_take2 ct_take2),sl_take2⟩)
    (c_take2:PySem.W.codeIn K cd_take2 "Late.take"=true)
    (k_take2:PySem.W.keepIn K (.ref f_take2)=true)
    (a_many:PySem.W.findIn K (.ref C) "many"=some (some (.ref f_many)))
    (i_many:PySem.W.isFn K (.ref f_many)=true)
    (l_many:K.lookup f_many=some ⟨oc_many,od_many,.func (PySem.W.fnOf "many" "Named.many" (defArgs sMany) (defBody sMany) (defScope sMany) .none kV_many dc_many pm_many an_many cd_many ct_many),sl_many⟩)
    (c_many:PySem.W.codeIn K cd_many "Named.many"=true)
    (k_many:PySem.W.keepIn K (.ref f_many)=true)
    (a_place:PySem.W.nsIn K mainGlobals "place_name"=some (some (.ref f_place)))
    (l_place:K.lookup f_place=some ⟨oc_place,od_place,.func (PySem.W.fnOf "place_name" "place_name" (defArgs sPlace) (defBody sPlace) (defScope sPlace) .none kV_place dc_place pm_place an_place cd_place ct_place),sl_place⟩)
    (c_place:PySem.W.codeIn K cd_place "place_name"=true)
    (k_place:PySem.W.keepIn K (.ref f_place)=true)
    (a_over:PySem.W.nsIn K mainGlobals "hand_over"=some (some (.ref f_over)))
    (l_over:K.lookup f_over=some ⟨oc_over,od_over,.func (PySem.W.fnOf "hand_over" "hand_over" (defArgs sOver) (defBody sOver) (defScope sOver) .none kV_over dc_over pm_over an_over cd_over ct_over),sl_over⟩)
    (c_over:PySem.W.codeIn K cd_over "hand_over"=true)
    (k_over:PySem.W.keepIn K (.ref f_over)=true)
    (a_pinit:PySem.W.findIn K (.ref C2) "__init__"=some (some (.ref f_pinit)))
    (i_pinit:PySem.W.isFn K (.ref f_pinit)=true)
    (l_pinit:K.lookup f_pinit=some ⟨oc_pinit,od_pinit,.func (PySem.W.fnOf "__init__" "Parted.__init__" (defArgs sPInit) (defBody sPInit) (defScope sPInit) .none kV_pinit dc_pinit pm_pinit an_pinit cd_pinit ct_pinit),sl_pinit⟩)
    (c_pinit:PySem.W.codeIn K cd_pinit "Parted.__init__"=true)
    (k_pinit:PySem.W.keepIn K (.ref f_pinit)=true)
    (a_pput:PySem.W.findIn K (.ref C2) "put"=some (some (.ref f_pput)))
    (i_pput:PySem.W.isFn K (.ref f_pput)=true)
    (l_pput:K.lookup f_pput=some ⟨oc_pput,od_pput,.func (PySem.W.fnOf "put" "Parted.put" (defArgs sPPut) (defBody sPPut) (defScope sPPut) .none kV_pput dc_pput pm_pput an_pput cd_pput ct_pput),sl_pput⟩)
    (c_pput:PySem.W.codeIn K cd_pput "Parted.put"=true)
    (k_pput:PySem.W.keepIn K (.ref f_pput)=true)
    (a_pdrop:PySem.W.findIn K (.ref C2) "drop"=some (some (.ref f_pdrop)))
    (i_pdrop:PySem.W.isFn K (.ref f_pdrop)=true)
    (l_pdrop:K.lookup f_pdrop=some ⟨oc_pdrop,od_pdrop,.func (PySem.W.fnOf "drop" "Parted.drop" (defArgs sPDrop) (defBody sPDrop) (defScope sPDrop) .none kV_pdrop dc_pdrop pm_pdrop an_pdrop cd_pdrop ct_pdrop),sl_pdrop⟩)
    (c_pdrop:PySem.W.codeIn K cd_pdrop "Parted.drop"=true)
    (k_pdrop:PySem.W.keepIn K (.ref f_pdrop)=true)
    (a_pleast:PySem.W.findIn K (.ref C2) "least"=some (some (.ref f_pleast)))
    (i_pleast:PySem.W.isFn K (.ref f_pleast)=true)
    (l_pleast:K.lookup f_pleast=some ⟨oc_pleast,od_pleast,.func (PySem.W.fnOf "least" "Parted.least" (defArgs sPLeast) (defBody sPLeast) (defScope sPLeast) .none kV_pleast dc_pleast pm_pleast an_pleast cd_pleast ct_pleast),sl_pleast⟩)
    (c_pleast:PySem.W.codeIn K cd_pleast "Parted.least"=true)
    (k_pleast:PySem.W.keepIn K (.ref f_pleast)=true)
    (a_slid:PySem.W.nsIn K mainGlobals "slid"=some (some (.ref f_slid)))
    (l_slid:K.lookup f_slid=some ⟨oc_slid,od_slid,.func (PySem.W.fnOf "slid" "slid" (defArgs sSlid) (defBody sSlid) (defScope sSlid) .none kV_slid dc_slid pm_slid an_slid cd_slid ct_slid),sl_slid⟩)
    (c_slid:PySem.W.codeIn K cd_slid "slid"=true)
    (k_slid:PySem.W.keepIn K (.ref f_slid)=true)
    (a_shares:PySem.W.nsIn K mainGlobals "shares"=some (some (.ref f_shares)))
    (l_shares:K.lookup f_shares=some ⟨oc_shares,od_shares,.func (PySem.W.fnOf "shares" "shares" (defArgs sShares) (defBody sShares) (defScope sShares) .none kV_shares dc_shares pm_shares an_shares cd_shares ct_shares),sl_shares⟩)
    (c_shares:PySem.W.codeIn K cd_shares "shares"=true)
    (k_shares:PySem.W.keepIn K (.ref f_shares)=true)
    (a_middles:PySem.W.nsIn K mainGlobals "middles"=some (some (.ref f_middles)))
    (l_middles:K.lookup f_middles=some ⟨oc_middles,od_middles,.func (PySem.W.fnOf "middles" "middles" (defArgs sMiddles) (defBody sMiddles) (defScope sMiddles) .none kV_middles dc_middles pm_middles an_middles cd_middles ct_middles),sl_middles⟩)
    (c_middles:PySem.W.codeIn K cd_middles "middles"=true)
    (k_middles:PySem.W.keepIn K (.ref f_middles)=true)
    (a_leasts:PySem.W.nsIn K mainGlobals "leasts"=some (some (.ref f_leasts)))
    (l_leasts:K.lookup f_leasts=some ⟨oc_leasts,od_leasts,.func (PySem.W.fnOf "leasts" "leasts" (defArgs sLeasts) (defBody sLeasts) (defScope sLeasts) .none kV_leasts dc_leasts pm_leasts an_leasts cd_leasts ct_leasts),sl_leasts⟩)
    (c_leasts:PySem.W.codeIn K cd_leasts "leasts"=true)
    (k_leasts:PySem.W.keepIn K (.ref f_leasts)=true)
    (a_turned:PySem.W.nsIn K mainGlobals "turned"=some (some (.ref f_turned)))
    (l_turned:K.lookup f_turned=some ⟨oc_turned,od_turned,.func (PySem.W.fnOf "turned" "turned" (defArgs sTurned) (defBody sTurned) (defScope sTurned) .none kV_turned dc_turned pm_turned an_turned cd_turned ct_turned),sl_turned⟩)
    (c_turned:PySem.W.codeIn K cd_turned "turned"=true)
    (k_turned:PySem.W.keepIn K (.ref f_turned)=true)
    (a_greatests:PySem.W.nsIn K mainGlobals "greatests"=some (some (.ref f_greatests)))
    (l_greatests:K.lookup f_greatests=some ⟨oc_greatests,od_greatests,.func (PySem.W.fnOf "greatests" "greatests" (defArgs sGreatests) (defBody sGreatests) (defScope sGreatests) .none kV_greatests dc_greatests pm_greatests an_greatests cd_greatests ct_greatests),sl_greatests⟩)
    (c_greatests:PySem.W.codeIn K cd_greatests "greatests"=true)
    (k_greatests:PySem.W.keepIn K (.ref f_greatests)=true)
    (a_number:PySem.W.nsIn K mainGlobals "_law_number"=some (some (.ref f_number)))
    (l_number:K.lookup f_number=some ⟨oc_number,od_number,.func (PySem.W.fnOf "_law_number" "_law_number" (defArgs sNumber) (defBody sNumber) (defScope sNumber) .none kV_number dc_number pm_number an_number cd_number ct_number),sl_number⟩)
    (c_number:PySem.W.codeIn K cd_number "_law_number"=true)
    (k_number:PySem.W.keepIn K (.ref f_number)=true)
    (a_lworth:PySem.W.nsIn K mainGlobals "_law_worth"=some (some (.ref f_lworth)))
    (l_lworth:K.lookup f_lworth=some ⟨oc_lworth,od_lworth,.func (PySem.W.fnOf "_law_worth" "_law_worth" (defArgs sLWorth) (defBody sLWorth) (defScope sLWorth) .none kV_lworth dc_lworth pm_lworth an_lworth cd_lworth ct_lworth),sl_lworth⟩)
    (c_lworth:PySem.W.codeIn K cd_lworth "_law_worth"=true)
    (k_lworth:PySem.W.keepIn K (.ref f_lworth)=true)
    (a_lrow:PySem.W.nsIn K mainGlobals "_law_row"=some (some (.ref f_lrow)))
    (l_lrow:K.lookup f_lrow=some ⟨oc_lrow,od_lrow,.func (PySem.W.fnOf "_law_row" "_law_row" (defArgs sLRow) (defBody sLRow) (defScope sLRow) .none kV_lrow dc_lrow pm_lrow an_lrow cd_lrow ct_lrow),sl_lrow⟩)
    (c_lrow:PySem.W.codeIn K cd_lrow "_law_row"=true)
    (k_lrow:PySem.W.keepIn K (.ref f_lrow)=true)
    (a_lturned:PySem.W.nsIn K mainGlobals "_law_turned"=some (some (.ref f_lturned)))
    (l_lturned:K.lookup f_lturned=some ⟨oc_lturned,od_lturned,.func (PySem.W.fnOf "_law_turned" "_law_turned" (defArgs sLTurned) (defBody sLTurned) (defScope sLTurned) .none kV_lturned dc_lturned pm_lturned an_lturned cd_lturned ct_lturned),sl_lturned⟩)
    (c_lturned:PySem.W.codeIn K cd_lturned "_law_turned"=true)
    (k_lturned:PySem.W.keepIn K (.ref f_lturned)=true)
    (a_lsorted:PySem.W.nsIn K mainGlobals "_law_sorted"=some (some (.ref f_lsorted)))
    (l_lsorted:K.lookup f_lsorted=some ⟨oc_lsorted,od_lsorted,.func (PySem.W.fnOf "_law_sorted" "_law_sorted" (defArgs sLSorted) (defBody sLSorted) (defScope sLSorted) .none kV_lsorted dc_lsorted pm_lsorted an_lsorted cd_lsorted ct_lsorted),sl_lsorted⟩)
    (c_lsorted:PySem.W.codeIn K cd_lsorted "_law_sorted"=true)
    (k_lsorted:PySem.W.keepIn K (.ref f_lsorted)=true)
    (a_law:PySem.W.nsIn K mainGlobals "law"=some (some (.ref f_law)))
    (l_law:K.lookup f_law=some ⟨oc_law,od_law,.func (PySem.W.fnOf "law" "law" (defArgs sLaw) (defBody sLaw) (defScope sLaw) .none kV_law dc_law pm_law an_law cd_law ct_law),sl_law⟩)
    (c_law:PySem.W.codeIn K cd_law "law"=true)
    (k_law:PySem.W.keepIn K (.ref f_law)=true)
    (z_len:PySem.W.nsIn K mainGlobals "len"=some none)
    (z_sum:PySem.W.nsIn K mainGlobals "sum"=some none)
    (z_abs:PySem.W.nsIn K mainGlobals "abs"=some none)
    (z_range:PySem.W.nsIn K mainGlobals "range"=some none)
    (z_list:PySem.W.nsIn K mainGlobals "list"=some none)
    (z_tuple:PySem.W.nsIn K mainGlobals "tuple"=some none)
    (z_int:PySem.W.nsIn K mainGlobals "int"=some none)
    (z_bool:PySem.W.nsIn K mainGlobals "bool"=some none)
    (z_sorted:PySem.W.nsIn K mainGlobals "sorted"=some none)
    (z_isinstance:PySem.W.nsIn K mainGlobals "isinstance"=some none)
    (z_min:PySem.W.nsIn K mainGlobals "min"=some none)
    (z_max:PySem.W.nsIn K mainGlobals "max"=some none)
    (pg:PySem.W.plainGet K C Str.empty=true)
    (hd:PySem.W.hasDictIn K C=true)
    (po:PySem.W.plainOver K C=true)
    (sa:PySem.W.findIn K (.ref C) "__setattr__"=some (some (.builtin "object.__setattr__")))
    (mk:PySem.W.makesIn K C=true)
    (kc:PySem.W.keepIn K (.ref C)=true)
    (ga:PySem.W.specialIn K (.ref CB) "__getattribute__"=some (some (.builtin "type.__getattribute__")))
    (rd:PySem.W.readsIn K CB (.type "type")=true)
    (pg2:PySem.W.plainGet K C2 Str.empty=true)
    (hd2:PySem.W.hasDictIn K C2=true)
    (po2:PySem.W.plainOver K C2=true)
    (sa2:PySem.W.findIn K (.ref C2) "__setattr__"=some (some (.builtin "object.__setattr__")))
    (mk2:PySem.W.makesIn K C2=true)
    (kc2:PySem.W.keepIn K (.ref C2)=true)
    (n2_there:PySem.W.findIn K (.ref C2) "there"=some none)
    (n2_stamp:PySem.W.findIn K (.ref C2) "stamp"=some none)
    (n2_place:PySem.W.findIn K (.ref C2) "place"=some none)
    (n2_lesser:PySem.W.findIn K (.ref C2) "lesser"=some none)
    (n2_greater:PySem.W.findIn K (.ref C2) "greater"=some none)
    (n_there:PySem.W.findIn K (.ref C) "there"=some none)
    (n_stamp:PySem.W.findIn K (.ref C) "stamp"=some none)
    (n_slack:PySem.W.findIn K (.ref C) "slack"=some none)
    (n_entries:PySem.W.findIn K (.ref C) "entries"=some none)
    (n_looks:PySem.W.findIn K (.ref C) "looks"=some none)
    (a_LETTERS:PySem.W.nsIn K mainGlobals "LETTERS"=some (some (.str "abcdefghijklmnopqrstuvwxyz" tL)))
    (xCC:PySem.W.excIn K CC bmV "ValueError.__new__"=true)
    (xCN:PySem.W.excIn K CN bmV "ValueError.__new__"=true)
    (s2CN:PySem.W.mroIn K CN (.ref CN)=some true) :
    ∃ fd:FuncData,(∀ (s:Shared) (v:Value),BindsTo s fd ⟨[v],[]⟩ [("script",v)])∧∀ base:Heap,K.In base→base.Ns mainGlobals mg→FnOk l.prog w K mg base CX0 12 fa fd ["script"] (spLaw K):=by
  have e:=hfa.symm.trans (PySem.W.mg_of X G a_law)
  cases e
  have T:Bl mg:=⟨PySem.W.mg_none_of X G z_len,PySem.W.mg_none_of X G z_sum,PySem.W.mg_none_of X G z_abs,PySem.W.mg_none_of X G z_range,PySem.W.mg_none_of X G z_list,PySem.W.mg_none_of X G z_tuple,PySem.W.mg_none_of X G z_int,PySem.W.mg_none_of X G z_bool,PySem.W.mg_none_of X G z_sorted,PySem.W.mg_none_of X G z_isinstance⟩
  have Z_min:=PySem.W.mg_none_of X G z_min
  have Z_max:=PySem.W.mg_none_of X G z_max
  have L:LT K C:=⟨⟨⟨pg,hd,po,sa⟩,n_there,n_stamp⟩,n_slack,n_entries,n_looks⟩
  have mCC:=PySem.W.mg_of X G aCC
  have mCN:=PySem.W.mg_of X G aCN
  have mCB:=PySem.W.mg_of X G aCB
  have mC:=PySem.W.mg_of X G aC
  have LW:PT K C2:=⟨⟨pg2,hd2,po2,sa2⟩,n2_place,n2_lesser,n2_greater⟩
  have mC2:=PySem.W.mg_of X G aC2
  have mLETTERS:=PySem.W.mg_of X G a_LETTERS
  have ssCN:=mro_of s2CN
  have F_exch:=fun_mk (st:=sExch) l_exch c_exch k_exch
  have B_exch:=F_exch.binds (ps:=["heap","place","other"]) fun _ _ _ _ _ _ us hl=>match us,hl with | [_,_,_],_=>rfl
  have D_exch:Nm K mg "exchange" f_exch _ ["heap","place","other"]:=⟨PySem.W.mg_of X G a_exch,k_exch,B_exch⟩
  have F_lift:=fun_mk (st:=sLift) l_lift c_lift k_lift
  have B_lift:=F_lift.binds (ps:=["heap","start"]) fun _ _ _ _ _ _ us hl=>match us,hl with | [_,_],_=>rfl
  have D_lift:Nm K mg "lift" f_lift _ ["heap","start"]:=⟨PySem.W.mg_of X G a_lift,k_lift,B_lift⟩
  have F_lay:=fun_mk (st:=sLay) l_lay c_lay k_lay
  have B_lay:=F_lay.binds (ps:=["heap","entry"]) fun _ _ _ _ _ _ us hl=>match us,hl with | [_,_],_=>rfl
  have D_lay:Nm K mg "lay_in" f_lay _ ["heap","entry"]:=⟨PySem.W.mg_of X G a_lay,k_lay,B_lay⟩
  have F_ld:=fun_mk (st:=sLetDown) l_ld c_ld k_ld
  have B_ld:=F_ld.binds (ps:=["heap","start"]) fun _ _ _ _ _ _ us hl=>match us,hl with | [_,_],_=>rfl
  have D_ld:Nm K mg "let_down" f_ld _ ["heap","start"]:=⟨PySem.W.mg_of X G a_ld,k_ld,B_ld⟩
  have F_cutf:=fun_mk (st:=sCut) l_cutf c_cutf k_cutf
  have B_cutf:=F_cutf.binds (ps:=["heap"]) fun _ _ _ _ _ _ us hl=>match us,hl with | [_],_=>rfl
  have D_cutf:Nm K mg "cut_first" f_cutf _ ["heap"]:=⟨PySem.W.mg_of X G a_cutf,k_cutf,B_cutf⟩
  have F_order:=fun_mk (st:=sOrder) l_order c_order k_order
  have B_order:=F_order.binds (ps:=["heap"]) fun _ _ _ _ _ _ us hl=>match us,hl with | [_],_=>rfl
  have D_order:Nm K mg "order" f_order _ ["heap"]:=⟨PySem.W.mg_of X G a_order,k_order,B_order⟩
  have F_ninit:=fun_mk (st:=sNInit) l_ninit c_ninit k_ninit
  have B_ninit:=F_ninit.binds (ps:=["self"]) fun _ _ _ _ _ _ us hl=>match us,hl with | [_],_=>rfl
  have M_ninit:ClsM K CB (.type "type") "__init__" f_ninit:=⟨ga,rd,a_ninit,k_ninit⟩
  have F_holds:=fun_mk (st:=sHolds) l_holds c_holds k_holds
  have B_holds:=F_holds.binds (ps:=["self","entry"]) fun _ _ _ _ _ _ us hl=>match us,hl with | [_,_],_=>rfl
  have M_holds:Meth K C "holds" f_holds:=⟨a_holds,i_holds,k_holds⟩
  have F_need:=fun_mk (st:=sNeed) l_need c_need k_need
  have B_need:=F_need.binds (ps:=["self","name"]) fun _ _ _ _ _ _ us hl=>match us,hl with | [_,_],_=>rfl
  have M_need:Meth K C "need" f_need:=⟨a_need,i_need,k_need⟩
  have F_free:=fun_mk (st:=sFree) l_free c_free k_free
  have B_free:=F_free.binds (ps:=["self","name"]) fun _ _ _ _ _ _ us hl=>match us,hl with | [_,_],_=>rfl
  have M_free:Meth K C "need_free" f_free:=⟨a_free,i_free,k_free⟩
  have F_any:=fun_mk (st:=sAny) l_any c_any k_any
  have B_any:=F_any.binds (ps:=["self"]) fun _ _ _ _ _ _ us hl=>match us,hl with | [_],_=>rfl
  have M_any:Meth K C "need_any" f_any:=⟨a_any,i_any,k_any⟩
  have F_stamped:=fun_mk (st:=sStamped) l_stamped c_stamped k_stamped
  have B_stamped:=F_stamped.binds (ps:=["self","name","worth"]) fun _ _ _ _ _ _ us hl=>match us,hl with | [_,_,_],_=>rfl
  have M_stamped:Meth K C "stamped" f_stamped:=⟨a_stamped,i_stamped,k_stamped⟩
  have F_linit:=fun_mk (st:=sLInit) l_linit c_linit k_linit
  have B_linit:=F_linit.binds (ps:=["self","slack"]) fun _ _ _ _ _ _ us hl=>match us,hl with | [_,_],_=>rfl
  have M_linit:Mk K C f_linit:=⟨mk,a_linit,i_linit,kc⟩
  have F_enter:=fun_mk (st:=sEnter) l_enter c_enter k_enter
  have B_enter:=F_enter.binds (ps:=["self","name","worth"]) fun _ _ _ _ _ _ us hl=>match us,hl with | [_,_,_],_=>rfl
  have M_enter:Meth K C "enter" f_enter:=⟨a_enter,i_enter,k_enter⟩
  have F_cut:=fun_mk (st:=sCut2) l_cut c_cut k_cut
  have B_cut:=F_cut.binds (ps:=["self"]) fun _ _ _ _ _ _ us hl=>match us,hl with | [_],_=>rfl
  have M_cut:Meth K C "cut" f_cut:=⟨a_cut,i_cut,k_cut⟩
  have F_sweep:=fun_mk (st:=sSweep) l_sweep c_sweep k_sweep
  have B_sweep:=F_sweep.binds (ps:=["self"]) fun _ _ _ _ _ _ us hl=>match us,hl with | [_],_=>rfl
  have M_sweep:Meth K C "sweep_if_due" f_sweep:=⟨a_sweep,i_sweep,k_sweep⟩
  have F_first:=fun_mk (st:=sFirst) l_first c_first k_first
  have B_first:=F_first.binds (ps:=["self"]) fun _ _ _ _ _ _ us hl=>match us,hl with | [_],_=>rfl
  have M_first:Meth K C "first_there" f_first:=⟨a_first,i_first,k_first⟩
  have F_put:=fun_mk (st:=sPutM) l_put c_put k_put
  have B_put:=F_put.binds (ps:=["self","name","worth"]) fun _ _ _ _ _ _ us hl=>match us,hl with | [_,_,_],_=>rfl
  have M_put:Meth K C "put" f_put:=⟨a_put,i_put,k_put⟩
  have F_drop:=fun_mk (st:=sDropM) l_drop c_drop k_drop
  have B_drop:=F_drop.binds (ps:=["self","name"]) fun _ _ _ _ _ _ us hl=>match us,hl with | [_,_],_=>rfl
  have M_drop:Meth K C "drop" f_drop:=⟨a_drop,i_drop,k_drop⟩
  have F_least:=fun_mk (st:=sLeastM) l_least c_least k_least
  have B_least:=F_least.binds (ps:=["self"]) fun _ _ _ _ _ _ us hl=>match us,hl with | [_],_=>rfl
  have M_least:Meth K C "least" f_least:=⟨a_least,i_least,k_least⟩
  have F_take2:=fun_mk (st:=sTakeM) l_take2 c_take2 k_take2
  have B_take2:=F_take2.binds (ps:=["self"]) fun _ _ _ _ _ _ us hl=>match us,hl with | [_],_=>rfl
  have M_take2:Meth K C "take" f_take2:=⟨a_take2,i_take2,k_take2⟩
  have F_many:=fun_mk (st:=sMany) l_many c_many k_many
  have B_many:=F_many.binds (ps:=["self"]) fun _ _ _ _ _ _ us hl=>match us,hl with | [_],_=>rfl
  have M_many:Meth K C "many" f_many:=⟨a_many,i_many,k_many⟩
  have F_place:=fun_mk (st:=sPlace) l_place c_place k_place
  have B_place:=F_place.binds (ps:=["place"]) fun _ _ _ _ _ _ us hl=>match us,hl with | [_],_=>rfl
  have D_place:Nm K mg "place_name" f_place _ ["place"]:=⟨PySem.W.mg_of X G a_place,k_place,B_place⟩
  have F_over:=fun_mk (st:=sOver) l_over c_over k_over
  have B_over:=F_over.binds (ps:=["heap","goal"]) fun _ _ _ _ _ _ us hl=>match us,hl with | [_,_],_=>rfl
  have D_over:Nm K mg "hand_over" f_over _ ["heap","goal"]:=⟨PySem.W.mg_of X G a_over,k_over,B_over⟩
  have F_pinit:=fun_mk (st:=sPInit) l_pinit c_pinit k_pinit
  have B_pinit:=F_pinit.binds (ps:=["self","place"]) fun _ _ _ _ _ _ us hl=>match us,hl with | [_,_],_=>rfl
  have M_pinit:Mk K C2 f_pinit:=⟨mk2,a_pinit,i_pinit,kc2⟩
  have F_pput:=fun_mk (st:=sPPut) l_pput c_pput k_pput
  have B_pput:=F_pput.binds (ps:=["self","name","worth"]) fun _ _ _ _ _ _ us hl=>match us,hl with | [_,_,_],_=>rfl
  have M_pput:Meth K C2 "put" f_pput:=⟨a_pput,i_pput,k_pput⟩
  have F_pdrop:=fun_mk (st:=sPDrop) l_pdrop c_pdrop k_pdrop
  have B_pdrop:=F_pdrop.binds (ps:=["self","name"]) fun _ _ _ _ _ _ us hl=>match us,hl with | [_,_],_=>rfl
  have M_pdrop:Meth K C2 "drop" f_pdrop:=⟨a_pdrop,i_pdrop,k_pdrop⟩
  have F_pleast:=fun_mk (st:=sPLeast) l_pleast c_pleast k_pleast
  have B_pleast:=F_pleast.binds (ps:=["self"]) fun _ _ _ _ _ _ us hl=>match us,hl with | [_],_=>rfl
  have M_pleast:Meth K C2 "least" f_pleast:=⟨a_pleast,i_pleast,k_pleast⟩
  have F_slid:=fun_mk (st:=sSlid) l_slid c_slid k_slid
  have B_slid:=F_slid.binds (ps:=["row","width","heap"]) fun _ _ _ _ _ _ us hl=>match us,hl with | [_,_,_],_=>rfl
  have D_slid:Nm K mg "slid" f_slid _ ["row","width","heap"]:=⟨PySem.W.mg_of X G a_slid,k_slid,B_slid⟩
  have F_shares:=fun_mk (st:=sShares) l_shares c_shares k_shares
  have B_shares:=F_shares.binds (ps:=["row","width","share"]) fun _ _ _ _ _ _ us hl=>match us,hl with | [_,_,_],_=>rfl
  have D_shares:Nm K mg "shares" f_shares _ ["row","width","share"]:=⟨PySem.W.mg_of X G a_shares,k_shares,B_shares⟩
  have F_middles:=fun_mk (st:=sMiddles) l_middles c_middles k_middles
  have B_middles:=F_middles.binds (ps:=["row","width"]) fun _ _ _ _ _ _ us hl=>match us,hl with | [_,_],_=>rfl
  have D_middles:Nm K mg "middles" f_middles _ ["row","width"]:=⟨PySem.W.mg_of X G a_middles,k_middles,B_middles⟩
  have B_slidl:=B_slid
  have D_slidl:=D_slid
  have F_leasts:=fun_mk (st:=sLeasts) l_leasts c_leasts k_leasts
  have B_leasts:=F_leasts.binds (ps:=["row","width"]) fun _ _ _ _ _ _ us hl=>match us,hl with | [_,_],_=>rfl
  have D_leasts:Nm K mg "leasts" f_leasts _ ["row","width"]:=⟨PySem.W.mg_of X G a_leasts,k_leasts,B_leasts⟩
  have F_turned:=fun_mk (st:=sTurned) l_turned c_turned k_turned
  have B_turned:=F_turned.binds (ps:=["row"]) fun _ _ _ _ _ _ us hl=>match us,hl with | [_],_=>rfl
  have D_turned:Nm K mg "turned" f_turned _ ["row"]:=⟨PySem.W.mg_of X G a_turned,k_turned,B_turned⟩
  have F_greatests:=fun_mk (st:=sGreatests) l_greatests c_greatests k_greatests
  have B_greatests:=F_greatests.binds (ps:=["row","width"]) fun _ _ _ _ _ _ us hl=>match us,hl with | [_,_],_=>rfl
  have D_greatests:Nm K mg "greatests" f_greatests _ ["row","width"]:=⟨PySem.W.mg_of X G a_greatests,k_greatests,B_greatests⟩
  have F_number:=fun_mk (st:=sNumber) l_number c_number k_number
  have B_number:=F_number.binds (ps:=["script","k"]) fun _ _ _ _ _ _ us hl=>match us,hl with | [_,_],_=>rfl
  have D_number:Nm K mg "_law_number" f_number _ ["script","k"]:=⟨PySem.W.mg_of X G a_number,k_number,B_number⟩
  have F_lworth:=fun_mk (st:=sLWorth) l_lworth c_lworth k_lworth
  have B_lworth:=F_lworth.binds (ps:=["number","kind"]) fun _ _ _ _ _ _ us hl=>match us,hl with | [_,_],_=>rfl
  have D_lworth:Nm K mg "_law_worth" f_lworth _ ["number","kind"]:=⟨PySem.W.mg_of X G a_lworth,k_lworth,B_lworth⟩
  have F_lrow:=fun_mk (st:=sLRow) l_lrow c_lrow k_lrow
  have B_lrow:=F_lrow.binds (ps:=["script","start","most"]) fun _ _ _ _ _ _ us hl=>match us,hl with | [_,_,_],_=>rfl
  have D_lrow:Nm K mg "_law_row" f_lrow _ ["script","start","most"]:=⟨PySem.W.mg_of X G a_lrow,k_lrow,B_lrow⟩
  have F_lturned:=fun_mk (st:=sLTurned) l_lturned c_lturned k_lturned
  have B_lturned:=F_lturned.binds (ps:=["number","things"]) fun _ _ _ _ _ _ us hl=>match us,hl with | [_,_],_=>rfl
  have D_lturned:Nm K mg "_law_turned" f_lturned _ ["number","things"]:=⟨PySem.W.mg_of X G a_lturned,k_lturned,B_lturned⟩
  have F_lsorted:=fun_mk (st:=sLSorted) l_lsorted c_lsorted k_lsorted
  have B_lsorted:=F_lsorted.binds (ps:=["row","width","by"]) fun _ _ _ _ _ _ us hl=>match us,hl with | [_,_,_],_=>rfl
  have D_lsorted:Nm K mg "_law_sorted" f_lsorted _ ["row","width","by"]:=⟨PySem.W.mg_of X G a_lsorted,k_lsorted,B_lsorted⟩
  have F_law:=fun_mk (st:=sLaw) l_law c_law k_law
  refine ⟨PySem.W.fnOf "law" "law" (defArgs sLaw) (defBody sLaw) (defScope sLaw) .none kV_law dc_law pm_law an_law cd_law ct_law,fun s v=>.of_eq rfl,fun base _ _=>?_⟩
  have GH_exch:=ok_exchH (P:=l.prog) (w:=w) (base:=base) F_exch T
  have G_exch:=GH_exch.calm
  have G_lift:=ok_lift (P:=l.prog) (w:=w) (base:=base) F_lift T G_exch D_exch
  have G_lay:=ok_lay (P:=l.prog) (w:=w) (base:=base) F_lay T G_lift D_lift
  have GH_ld:=ok_letdownH (P:=l.prog) (w:=w) (base:=base) F_ld T GH_exch D_exch
  have G_ld:=GH_ld.calm
  have G_cutf:=ok_cut (P:=l.prog) (w:=w) (base:=base) F_cutf T G_ld D_ld
  have GH_order:=ok_orderH (P:=l.prog) (w:=w) (base:=base) F_order T GH_ld D_ld
  have G_order:=GH_order.calm
  have G_ninit:=ok_Named__init__ (P:=l.prog) (w:=w) (base:=base) F_ninit T L.nt
  have GH_holds:=ok_holdsH (P:=l.prog) (w:=w) (base:=base) F_holds T L.nt
  have G_holds:=GH_holds.calm
  have G_need:=ok_need (P:=l.prog) (w:=w) (base:=base) F_need T L.nt mCN xCN
  have GH_need:=ok_needH (P:=l.prog) (w:=w) (base:=base) F_need T L.nt
  have G_free:=ok_need_free (P:=l.prog) (w:=w) (base:=base) F_free T L.nt mCC xCC
  have G_any:=ok_need_any (P:=l.prog) (w:=w) (base:=base) F_any T L.nt mCN xCN
  have G_stamped:=ok_stamped (P:=l.prog) (w:=w) (base:=base) F_stamped T L.nt
  have G_linit:=ok_Late__init__ (P:=l.prog) (w:=w) (base:=base) F_linit T L mCB M_ninit G_ninit B_ninit
  have G_enter:=ok_enter (P:=l.prog) (w:=w) (base:=base) F_enter T L G_lay D_lay M_stamped G_stamped B_stamped
  have G_cut:=ok_cut2 (P:=l.prog) (w:=w) (base:=base) F_cut T L G_cutf D_cutf
  have GH_sweep:=ok_sweepH (P:=l.prog) (w:=w) (base:=base) F_sweep T L GH_order D_order M_holds GH_holds B_holds
  have G_sweep:=GH_sweep.calm
  have G_first:=ok_first_there (P:=l.prog) (w:=w) (base:=base) F_first T L M_any G_any B_any M_holds G_holds B_holds M_cut G_cut B_cut
  have G_put:=ok_put (P:=l.prog) (w:=w) (base:=base) F_put T L M_free G_free B_free M_sweep G_sweep B_sweep M_enter G_enter B_enter
  have G_drop:=ok_drop (P:=l.prog) (w:=w) (base:=base) F_drop T L M_need G_need B_need M_sweep G_sweep B_sweep
  have GH_drop:=ok_dropH (P:=l.prog) (w:=w) (base:=base) F_drop T L M_need GH_need B_need M_sweep GH_sweep B_sweep
  have G_least:=ok_least (P:=l.prog) (w:=w) (base:=base) F_least T L M_first G_first B_first
  have G_take2:=ok_take2 (P:=l.prog) (w:=w) (base:=base) F_take2 T L M_first G_first B_first M_cut G_cut B_cut M_sweep G_sweep B_sweep
  have G_many:=ok_many (P:=l.prog) (w:=w) (base:=base) F_many T L.nt
  have G_place:=ok_place (P:=l.prog) (w:=w) (base:=base) F_place T mLETTERS
  have G_over:=ok_over (P:=l.prog) (w:=w) (base:=base) F_over T L M_take2 G_take2 B_take2 M_put G_put B_put
  have G_pinit:=ok_pinit (P:=l.prog) (w:=w) (base:=base) F_pinit T L LW mC M_linit G_linit B_linit
  have G_pput:=ok_pput (P:=l.prog) (w:=w) (base:=base) F_pput T L LW M_put G_put B_put M_many G_many B_many G_over D_over
  have G_pdrop:=ok_pdrop (P:=l.prog) (w:=w) (base:=base) F_pdrop T L LW mCN xCN ssCN M_drop G_drop B_drop GH_drop G_over D_over
  have G_pleast:=ok_pleast (P:=l.prog) (w:=w) (base:=base) F_pleast T L LW M_least G_least B_least
  have G_slid:=ok_pslid (P:=l.prog) (w:=w) (base:=base) F_slid T LW G_place D_place M_pput G_pput B_pput M_pdrop G_pdrop B_pdrop M_pleast G_pleast B_pleast
  have G_shares:=ok_shares (P:=l.prog) (w:=w) (base:=base) F_shares T mC2 M_pinit G_pinit B_pinit G_slid D_slid
  have G_middles:=ok_middles (P:=l.prog) (w:=w) (base:=base) F_middles T G_shares D_shares
  have G_slidl:=ok_slid (P:=l.prog) (w:=w) (base:=base) F_slid T L G_place D_place M_put G_put B_put M_drop G_drop B_drop M_least G_least B_least
  have G_leasts:=ok_leasts (P:=l.prog) (w:=w) (base:=base) F_leasts T mC M_linit G_linit B_linit G_slidl D_slidl
  have G_turned:=ok_turned (P:=l.prog) (w:=w) (base:=base) F_turned T
  have G_greatests:=ok_greatests (P:=l.prog) (w:=w) (base:=base) F_greatests T G_turned D_turned G_leasts D_leasts
  have G_number:=ok_number (P:=l.prog) (w:=w) (base:=base) F_number T Z_max Z_min
  have G_lworth:=ok_lworth (P:=l.prog) (w:=w) (base:=base) F_lworth T
  have G_lrow:=ok_lrow (P:=l.prog) (w:=w) (base:=base) F_lrow T G_number D_number G_lworth D_lworth
  have G_lturned:=ok_lturned (P:=l.prog) (w:=w) (base:=base) F_lturned T
  have G_lsorted:=ok_lsorted (P:=l.prog) (w:=w) (base:=base) F_lsorted T Z_max G_shares D_shares
  exact ok_law F_law T Z_max G_number D_number G_lrow D_lrow G_lsorted D_lsorted G_leasts D_leasts G_greatests D_greatests G_middles D_middles G_lturned D_lturned
theorem walk {l:PySem.W.OpenLaw} {q:Program} {loose:List Str} {XP:(Str→Option Value)→Heap→Prop} {YP:World→Heap→Prop} {d:DefRec} {K:Params→PySem.W.Frag} (hn:l.most=some 63) (hdf:d.params.defaults=[])
  (hY:∀ (w:World) (h:Heap),YP w h→(K w.params).In h)
  (F:∀ (w:World) (mg:Str→Option Value) (fa:Addr) (h:Heap),(K w.params).In h→h.Ns mainGlobals mg→mg d.name=some (.ref fa) →
   ∃ fd:FuncData,(∀ (s:Shared) (u:Value),BindsTo s fd ⟨[u],[]⟩ [("script",u)])∧∀ base:Heap,(K w.params).In base→base.Ns mainGlobals mg→FnOk l.prog w (K w.params) mg base CX0 12 fa fd ["script"] (spLaw (K w.params))) :
  PySem.W.WalkO q loose XP YP l.row.toRowW d [] (fun f vs=>PySem.call f vs) :=
 L2.walk_of (n:=63) (k:=12) (x:="script") (CX:=fun _=>CX0) (sp:=fun w=>spLaw (K w.params)) hn (by decide) hdf ⟨rfl,by decide,by decide⟩ hY F (fun _ _ a ns hl _ hS=>⟨a,ns,rfl,hS,hl,fun _=>rfl⟩) fun _ _ _ _ _ z=>z
end
end Kx
end
section
open PySem PySem.W PyProof.Rows
set_option maxRecDepth 100000 in
set_option maxHeartbeats 0 in
theorem PySem.Challenge.cw_lategone_k29_whole_shares_sort_holds : PySem.Challenge.rw_lategone_k29_whole_shares_sort.Holds := by
 w_on; o_law; k_head; (case hw=>w_witness2)
 k_fill
 refine Kx.walk (l:=PySem.Challenge.rw_lategone_k29_whole_shares_sort) rfl rfl (fun w h Y=>PySem.W.kIn_of Y) ?F
 case F =>
  intro w mg fa h KX G hmg
  refine' Kx.all_mk KX G hmg ?aC ?aCB ?aC2 ?aCC ?aCN ?a_exch ?l_exch ?c_exch ?k_exch ?a_lift ?l_lift ?c_lift ?k_lift ?a_lay ?l_lay ?c_lay ?k_lay ?a_ld ?l_ld ?c_ld ?k_ld ?a_cutf ?l_cutf ?c_cutf ?k_cutf ?a_order ?l_order ?c_order ?k_order ?a_ninit ?l_ninit ?c_ninit ?k_ninit ?a_holds ?i_holds ?l_holds ?c_holds ?k_holds ?a_need ?i_need ?l_need ?c_need ?k_need ?a_free ?i_free ?l_free ?c_free ?k_free ?a_any ?i_any ?l_any ?c_any ?k_any ?a_stamped ?i_stamped ?l_stamped ?c_stamped ?k_stamped ?a_linit ?i_linit ?l_linit ?c_linit ?k_linit ?a_enter ?i_enter ?l_enter ?c_enter ?k_enter ?a_cut ?i_cut ?l_cut ?c_cut ?k_cut ?a_sweep ?i_sweep ?l_sweep ?c_sweep ?k_sweep ?a_first ?i_first ?l_first ?c_first ?k_first ?a_put ?i_put ?l_put ?c_put ?k_put ?a_drop ?i_drop ?l_drop ?c_drop ?k_drop ?a_least ?i_least ?l_least ?c_least ?k_least ?a_take2 ?i_take2 ?l_take2 ?c_take2 ?k_take2 ?a_many ?i_many ?l_many ?c_many ?k_many ?a_place ?l_place ?c_place ?k_place ?a_over ?l_over ?c_over ?k_over ?a_pinit ?i_pinit ?l_pinit ?c_pinit ?k_pinit ?a_pput ?i_pput ?l_pput ?c_pput ?k_pput ?a_pdrop ?i_pdrop ?l_pdrop ?c_pdrop ?k_pdrop ?a_pleast ?i_pleast ?l_pleast ?c_pleast ?k_pleast ?a_slid ?l_slid ?c_slid ?k_slid ?a_shares ?l_shares ?c_shares ?k_shares ?a_middles ?l_middles ?c_middles ?k_middles ?a_leasts ?l_leasts ?c_leasts ?k_leasts ?a_turned ?l_turned ?c_turned ?k_turned ?a_greatests ?l_greatests ?c_greatests ?k_greatests ?a_number ?l_number ?c_number ?k_number ?a_lworth ?l_lworth ?c_lworth ?k_lworth ?a_lrow ?l_lrow ?c_lrow ?k_lrow ?a_lturned ?l_lturned ?c_lturned ?k_lturned ?a_lsorted ?l_lsorted ?c_lsorted ?k_lsorted ?a_law ?l_law ?c_law ?k_law ?z_len ?z_sum ?z_abs ?z_range ?z_list ?z_tuple ?z_int ?z_bool ?z_sorted ?z_isinstance ?z_min ?z_max ?pg ?hd ?po ?sa ?mk ?kc ?ga ?rd ?pg2 ?hd2 ?po2 ?sa2 ?mk2 ?kc2 ?n2_there ?n2_stamp ?n2_place ?n2_lesser ?n2_greater ?n_there ?n_stamp ?n_slack ?n_entries ?n_looks ?a_LETTERS ?xCC ?xCN ?s2CN
  (case aC=>k_is)
  (case aCB=>k_is)
  (case aC2=>k_is)
  (case aCC=>k_is)
  (case aCN=>k_is)
  (case a_exch=>k_is)
  (case l_exch=>k_is)
  (case c_exch=>k_is)
  (case k_exch=>k_is)
  (case a_lift=>k_is)
  (case l_lift=>k_is)
  (case c_lift=>k_is)
  (case k_lift=>k_is)
  (case a_lay=>k_is)
  (case l_lay=>k_is)
  (case c_lay=>k_is)
  (case k_lay=>k_is)
  (case a_ld=>k_is)
  (case l_ld=>k_is)
  (case c_ld=>k_is)
  (case k_ld=>k_is)
  (case a_cutf=>k_is)
  (case l_cutf=>k_is)
  (case c_cutf=>k_is)
  (case k_cutf=>k_is)
  (case a_order=>k_is)
  (case l_order=>k_is)
  (case c_order=>k_is)
  (case k_order=>k_is)
  (case a_ninit=>k_is)
  (case l_ninit=>k_is)
  (case c_ninit=>k_is)
  (case k_ninit=>k_is)
  (case a_holds=>k_is)
  (case i_holds=>k_is)
  (case l_holds=>k_is)
  (case c_holds=>k_is)
  (case k_holds=>k_is)
  (case a_need=>k_is)
  (case i_need=>k_is)
  (case l_need=>k_is)
  (case c_need=>k_is)
  (case k_need=>k_is)
  (case a_free=>k_is)
  (case i_free=>k_is)
  (case l_free=>k_is)
  (case c_free=>k_is)
  (case k_free=>k_is)
  (case a_any=>k_is)
  (case i_any=>k_is)
  (case l_any=>k_is)
  (case c_any=>k_is)
  (case k_any=>k_is)
  (case a_stamped=>k_is)
  (case i_stamped=>k_is)
  (case l_stamped=>k_is)
  (case c_stamped=>k_is)
  (case k_stamped=>k_is)
  (case a_linit=>k_is)
  (case i_linit=>k_is)
  (case l_linit=>k_is)
  (case c_linit=>k_is)
  (case k_linit=>k_is)
  (case a_enter=>k_is)
  (case i_enter=>k_is)
  (case l_enter=>k_is)
  (case c_enter=>k_is)
  (case k_enter=>k_is)
  (case a_cut=>k_is)
  (case i_cut=>k_is)
  (case l_cut=>k_is)
  (case c_cut=>k_is)
  (case k_cut=>k_is)
  (case a_sweep=>k_is)
  (case i_sweep=>k_is)
  (case l_sweep=>k_is)
  (case c_sweep=>k_is)
  (case k_sweep=>k_is)
  (case a_first=>k_is)
  (case i_first=>k_is)
  (case l_first=>k_is)
  (case c_first=>k_is)
  (case k_first=>k_is)
  (case a_put=>k_is)
  (case i_put=>k_is)
  (case l_put=>k_is)
  (case c_put=>k_is)
  (case k_put=>k_is)
  (case a_drop=>k_is)
  (case i_drop=>k_is)
  (case l_drop=>k_is)
  (case c_drop=>k_is)
  (case k_drop=>k_is)
  (case a_least=>k_is)
  (case i_least=>k_is)
  (case l_least=>k_is)
  (case c_least=>k_is)
  (case k_least=>k_is)
  (case a_take2=>k_is)
  (case i_take2=>k_is)
  (case l_take2=>k_is)
  (case c_take2=>k_is)
  (case k_take2=>k_is)
  (case a_many=>k_is)
  (case i_many=>k_is)
  (case l_many=>k_is)
  (case c_many=>k_is)
  (case k_many=>k_is)
  (case a_place=>k_is)
  (case l_place=>k_is)
  (case c_place=>k_is)
  (case k_place=>k_is)
  (case a_over=>k_is)
  (case l_over=>k_is)
  (case c_over=>k_is)
  (case k_over=>k_is)
  (case a_pinit=>k_is)
  (case i_pinit=>k_is)
  (case l_pinit=>k_is)
  (case c_pinit=>k_is)
  (case k_pinit=>k_is)
  (case a_pput=>k_is)
  (case i_pput=>k_is)
  (case l_pput=>k_is)
  (case c_pput=>k_is)
  (case k_pput=>k_is)
  (case a_pdrop=>k_is)
  (case i_pdrop=>k_is)
  (case l_pdrop=>k_is)
  (case c_pdrop=>k_is)
  (case k_pdrop=>k_is)
  (case a_pleast=>k_is)
  (case i_pleast=>k_is)
  (case l_pleast=>k_is)
  (case c_pleast=>k_is)
  (case k_pleast=>k_is)
  (case a_slid=>k_is)
  (case l_slid=>k_is)
  (case c_slid=>k_is)
  (case k_slid=>k_is)
  (case a_shares=>k_is)
  (case l_shares=>k_is)
  (case c_shares=>k_is)
  (case k_shares=>k_is)
  (case a_middles=>k_is)
  (case l_middles=>k_is)
  (case c_middles=>k_is)
  (case k_middles=>k_is)
  (case a_leasts=>k_is)
  (case l_leasts=>k_is)
  (case c_leasts=>k_is)
  (case k_leasts=>k_is)
  (case a_turned=>k_is)
  (case l_turned=>k_is)
  (case c_turned=>k_is)
  (case k_turned=>k_is)
  (case a_greatests=>k_is)
  (case l_greatests=>k_is)
  (case c_greatests=>k_is)
  (case k_greatests=>k_is)
  (case a_number=>k_is)
  (case l_number=>k_is)
  (case c_number=>k_is)
  (case k_number=>k_is)
  (case a_lworth=>k_is)
  (case l_lworth=>k_is)
  (case c_lworth=>k_is)
  (case k_lworth=>k_is)
  (case a_lrow=>k_is)
  (case l_lrow=>k_is)
  (case c_lrow=>k_is)
  (case k_lrow=>k_is)
  (case a_lturned=>k_is)
  (case l_lturned=>k_is)
  (case c_lturned=>k_is)
  (case k_lturned=>k_is)
  (case a_lsorted=>k_is)
  (case l_lsorted=>k_is)
  (case c_lsorted=>k_is)
  (case k_lsorted=>k_is)
  (case a_law=>k_is)
  (case l_law=>k_is)
  (case c_law=>k_is)
  (case k_law=>k_is)
  (case z_len=>k_is)
  (case z_sum=>k_is)
  (case z_abs=>k_is)
  (case z_range=>k_is)
  (case z_list=>k_is)
  (case z_tuple=>k_is)
  (case z_int=>k_is)
  (case z_bool=>k_is)
  (case z_sorted=>k_is)
  (case z_isinstance=>k_is)
  (case z_min=>k_is)
  (case z_max=>k_is)
  (case pg=>k_is)
  (case hd=>k_is)
  (case po=>k_is)
  (case sa=>k_is)
  (case mk=>k_is)
  (case kc=>k_is)
  (case ga=>k_is)
  (case rd=>k_is)
  (case pg2=>k_is)
  (case hd2=>k_is)
  (case po2=>k_is)
  (case sa2=>k_is)
  (case mk2=>k_is)
  (case kc2=>k_is)
  (case n2_there=>k_is)
  (case n2_stamp=>k_is)
  (case n2_place=>k_is)
  (case n2_lesser=>k_is)
  (case n2_greater=>k_is)
  (case n_there=>k_is)
  (case n_stamp=>k_is)
  (case n_slack=>k_is)
  (case n_entries=>k_is)
  (case n_looks=>k_is)
  (case a_LETTERS=>k_is)
  (case xCC=>k_exc)
  (case xCN=>k_exc)
  (case s2CN=>k_is)
#print axioms PySem.Challenge.cw_lategone_k29_whole_shares_sort_holds
end
