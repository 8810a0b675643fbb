import PyProof.Rows.All
import Wide.All
import OpenK.AllK
import Wide.FinOn
import Lean
import PyProof.EqAt
import PyProof.EqKinds
import PyProof.TupleCall
import PyProof.LongRange
import KE.KDictLaws
import KE.KDictList
import KE.KDictOf
import KE.KDictSum
import KE.KEqDict
import KE.KTryMore
import KE.LcSums
import PyProof.AttrMissHeap
import PyProof.ConsumeWalk
import PyProof.DictValues
import PyProof.DictWalks
import PyProof.MaxThree
import PyProof.Rows.RuleIs
import PyProof.Rows.SetFrom
import PyProof.Rows.SortKey
import PyProof.Rows.SortRuns
import PyProof.Rows.SortShellK
import PyProof.SetRoads
import PyProof.StrBlockI
import PyProof.StrCalls2
import PyProof.StrLawsJoin
import PySem.Challenge.RW_lategone_k17_ledgers_looked_at
set_option Elab.async false
set_option linter.all false
set_option maxRecDepth 100000
set_option maxHeartbeats 4000000
namespace PySem.W.Fast
def tw5919636718660181329:=0
def tw2016828317326892418:=0
def tw14449555015631748920:=0
def tw11916016724833105963:=0
def tw6335549708453411804:=0
def tw8523219496945359399:=0
def tw15238392861697564353:=0
def tw13865654253056307052:=0
def tw2817489481888081396:=0
def tw11237873698239603503:=0
def tw719173155671190815:=0
def tw4091510636427975154:=0
def tw5676407652382035469:=0
def tw4331915655360260121:=0
def tw12389203952242329669:=0
def tw2469146556500678372:=0
def tw14065694560506388449:=0
def tw8587397176402454336:=0
def tw120721629557125026:=0
def tw14899922939585892430:=0
def tw8572829423512292367:=0
def tw17613609676063703784:=0
def tw17163877893828169487:=0
def tw1445006998785599107:=0
def tw15713412036373319551:=0
def tw13206732624701862167:=0
def tw3541853054722427143:=0
def tw1259283408697252810:=0
def tw2603995939704233271:=0
def tw11711844716629953232:=0
def tw3176603807869325317:=0
def tw2454470391608388878:=0
def tw18008889032970425800:=0
def tw2997964358648760735:=0
def tw3906522153943879543:=0
def tw2927037383596175250:=0
def tw10375525964711380481:=0
def tw11775754183528394320:=0
def tw16534770070864205653:=0
def tw15218199471497534028:=0
def tw3654864512091572351:=0
def tw2436746589753564239:=0
def tw9789970153360264491:=0
def tw14833716547074946245:=0
def tw13686130432028826022:=0
def tw9232085211333191434:=0
def tw9358942656749941997:=0
def tw10110384260604103577:=0
def tw17607475690939879211:=0
def tw11631793095363106846:=0
def tw330802498040398166:=0
def tw13289898717436127279:=0
def tw17232172729284531218:=0
def tw9088303177120752326:=0
def tw10237299621478424649:=0
def tw4763471353469926666:=0
def tw13011987799473921086:=0
def tw17743251039883519485:=0
def tw7372306620301098674:=0
def tw6282626510818944518:=0
def tw2912110084979685547:=0
def tw385737348039023436:=0
def tw1561434306448865160:=0
def tw11618789427906742412:=0
def tw10030283236347846209:=0
def tw10132252597962081039:=0
def tw8865731242973232706:=0
def tw17548776781906865451:=0
def tw13162079813111687447:=0
def tw10279106135581066651:=0
def tw3498212136179614987:=0
def tw12858641577382462660:=0
def tw5616409421322056736:=0
def tw10763295728964919414:=0
def tw1187642810788770755:=0
def tw12530550612961433110:=0
def tw13101711171471348569:=0
def tw1449308442618759179:=0
def tw18258073762582097943:=0
def tw15908327007187788736:=0
def tw6956852858380188808:=0
def tw15265451040888242742:=0
def tw3563984641578391330:=0
def tw14884733203350835837:=0
def tw13322469117624860788:=0
def tw16864101645790706196:=0
def tw5842878737586958440:=0
def tw12642931406714230356:=0
def tw17387545001623338353:=0
def tw13696071903514753286:=0
def tw5736443469717072836:=0
def tw16618159467972693696:=0
def tw6998851027984679994:=0
def tw18071787628472235627:=0
def tw17671503899269999260:=0
def tw3804570559968703065:=0
def tw5506910659392333867:=0
def tw2094348826545813031:=0
def tw3207111035822822421:=0
def tw13383320589273188864:=0
def tw16712097029990505437:=0
def tw16037594641685587598:=0
def tw2347117229065107420:=0
def tw15722094428907004423:=0
def tw13895072894720875460:=0
def tw6481381852888323752:=0
def tw5446210742037859592:=0
def tw3808515612868260532:=0
def tw4734714035943422103:=0
def tw6872783299542857147:=0
def tw16080416118044430013:=0
def tw5869168725887458456:=0
def tw13852190218417719148:=0
def tw17273402280767515550:=0
def tw17405052252054031820:=0
def tw8823427627568004058:=0
def tw3072146146260995274:=0
def tw17005736422030036888:=0
def tw8697850011876173439:=0
def tw15274208046483811369:=0
def tw17186174713298174455:=0
def tw77738005592132555:=0
def tw8729555155851593578:=0
def tw4982459774650950543:=0
def tw9966954830373624746:=0
def tw16820621614325862000:=0
def tw7851867853312646241:=0
def tw6780447482203518610:=0
def tw4669806046319452821:=0
def tw1376960365412893454:=0
def tw12757786578306386273:=0
def tw5193455848981721399:=0
def tw10028285136049296464:=0
def tw9253255637469998193:=0
def tw13309679797278683319:=0
def tw1881731187876506086:=0
def tw4268396184044967083:=0
def tw14087351317819289195:=0
def tw3727440712974556615:=0
def tw13859496036144870606:=0
def tw14068540444329268373:=0
def tw10718637392643716097:=0
def tw6106138379916195182:=0
def tw6611012025568142107:=0
def tw11453504096580610679:=0
def tw13682302147646616953:=0
def tw8636113337896991393:=0
def tw1187033551533679071:=0
def tw15111491968084513256:=0
def tw14681941955159047383:=0
def tw10204483905007058215:=0
def tw388540884240885104:=0
def tw4321176340203182838:=0
def tw3315831625696675446:=0
def tw15164304773979148284:=0
def tw14008667282363723472:=0
def tw7369414670342313657:=0
def tw10140800805006846894:=0
def tw6933275177585375583:=0
def tw4822426760338035619:=0
def tw16522840051963450662:=0
def tw2477552621852605138:=0
def tw13254687989274863927:=0
def tw8836577143418767596:=0
def tw14998331359043676108:=0
def tw5485259849120341694:=0
def tw7417083040034962194:=0
def tw17033103316417618487:=0
def tw6153663192420839497:=0
def tw1168227782387391687:=0
def tw10790754707155037618:=0
def tw2229721834074439107:=0
def tw6382193298420777734:=0
def tw8078593869331580366:=0
def tw5651214840665949493:=0
def tw5952583790205939773:=0
def tw6103814261874184127:=0
def tw16982483044089854700:=0
def tw6417265697345941868:=0
def tw3919929019099763459:=0
def tw15524646418480547798:=0
def tw4004765864395871765:=0
def tw11982608474911991405:=0
def tw16060429550761793335:=0
def tw592289850845590060:=0
def tw7166694836465075207:=0
def tw4109603683004745123:=0
def tw13292326603313877511:=0
def tw12236188131954104710:=0
def tw17852091262845724086:=0
def tw5147262675638668328:=0
def tw7063848907862121890:=0
def tw5018531492156380729:=0
def tw6124850004021184148:=0
def tw1998986126191536192:=0
def tw12043231985512167650:=0
def tw17441349582553358231:=0
def tw11995671329267349173:=0
def tw12046794715957136171:=0
def tw18421986301205185563:=0
def tw14066965335296728406:=0
def tw11772558384794570023:=0
def tw7015965971330652143:=0
def tw5940020193724548268:=0
def tw16889223131790666302:=0
def tw8204482151932878048:=0
def tw6585523320516654630:=0
def tw439155085009474941:=0
def tw1542790818355002497:=0
def tw14379053034409160162:=0
def tw12991933477809235506:=0
def tw6407979033661023903:=0
def tw18081616352716170432:=0
def tw11265287344345134080:=0
def tw8154043413698605746:=0
def tw2825063445792034306:=0
def tw2333652542061045870:=0
def tw18016013608852438303:=0
def tw569402725251436757:=0
def tw16293843819033575982:=0
def tw15353707783712677794:=0
def tw8582451479016435951:=0
def tw4768803172421000008:=0
def tw8660250435221880021:=0
def tw4720844035565545715:=0
def tw3261189332754283613:=0
def tw8188890835327922881:=0
def tw2773628133638782967:=0
def tw16924565795068545457:=0
def tw16460419686566331251:=0
def tw13822340086957717816:=0
def tw10453560536349713134:=0
def tw3622083811614816410:=0
def tw2537186716669500282:=0
end PySem.W.Fast
theorem L2.sz0:0<=PySem.sizeLine:=by decide
theorem L2.sz1:1<=PySem.sizeLine:=by decide
theorem L2.sz14:14<=PySem.sizeLine:=by decide
theorem L2.sz2:2<=PySem.sizeLine:=by decide
theorem L2.sz3:3<=PySem.sizeLine:=by decide
theorem L2.sz4:4<=PySem.sizeLine:=by decide
theorem L2.sz5:5<=PySem.sizeLine:=by decide
theorem L2.sz8:8<=PySem.sizeLine:=by decide
theorem zi {p:Prop}(h:p:=by decide +kernel):p:=h
theorem zj {p:Prop}(h:p:=by decide):p:=h
theorem zk {p:Prop}(h:p:=by lia):p:=h
theorem zl {p:Prop}(h:p:=by simp):p:=h
theorem zm {α:Type _}{a b:α}(h:a∈[b]):a=b:=List.mem_singleton.mp h
namespace TS
open PySem PyProof.Rows
def gal:Bool->Keyed->Array Keyed->Nat->Nat->Nat->StateT SortSt Sem (Option Nat):=sortPriv% PySem.Builtin.gallop
def mLo:Array Keyed->Array Keyed->StateT SortSt Sem (Array Keyed):=sortPriv% PySem.Builtin.mergeLo
def mHi:Array Keyed->Array Keyed->StateT SortSt Sem (Array Keyed):=sortPriv% PySem.Builtin.mergeHi
def yY:Nat->StateT SortSt Sem Unit:=sortPriv% PySem.Builtin.setMinGallop
def kf (κ:KeyKind)(p:Keyed):κ.α:=(κ.keyOf p.1).getD κ.dflt
def Lb (κ:KeyKind)(p q:Keyed):Bool:=κ.blt (kf κ p) (kf κ q)
structure Cmp (prog:Program)(w:World)(A:Around)(s:Shared)(κ:KeyKind)(kd:SortKind)(a₀:Array Keyed):Prop where
 on:∀x y:Keyed,x∈a₀.toList->y∈a₀.toList->∀(E:Value->Shared->Prop) (Q:Bool->Shared->Prop),Q (Lb κ x y) s->wpAny (model prog w) A (keyLt' kd x.1 y.1) Q E s
structure SB (kd:SortKind)(a₀:Array Keyed)(st:SortSt):Prop where
 perm:(arrOf st).Perm a₀
 kind:kindOf st=kd
 fail:failedOf st=none
theorem xV {κ:KeyKind}{xs:Array Keyed}{i:Nat}{p:Keyed}(h:xs[i]?=some p):KK κ xs i=kf κ p:=by
 unfold KK;rw [h];rfl
section
variable {kd:SortKind}{a₀:Array Keyed}{st:SortSt}{κ:KeyKind}
theorem SB.size (B:SB kd a₀ st):(arrOf st).size=a₀.size:=B.perm.size_eq
theorem SB.at (B:SB kd a₀ st){i:Nat}(h:i<a₀.size):∃ p,(arrOf st)[i]?=some p/\p∈a₀.toList/\KK κ (arrOf st) i=kf κ p:=by
 have h':i<(arrOf st).size:=by rw [B.size];exact h
 have e:(arrOf st)[i]?=some (arrOf st)[i]:=getElem?_pos _ i h'
 exact ⟨_,e,(Array.perm_iff_toList_perm.mp B.perm).mem_iff.mp zl,xV e⟩
theorem SB.arr (B:SB kd a₀ st){xs:Array Keyed}(h:xs.Perm (arrOf st)):SB kd a₀ (setArr st xs):=⟨h.trans B.perm,B.kind,B.fail⟩
end
section
variable {prog:Program}{w:World}{A:Around}{E:Value->Shared->Prop}{s:Shared}{κ:KeyKind}{kd:SortKind}{a₀:Array Keyed}{st:SortSt}
theorem aT {arr:Array Keyed}{i:Nat}{p:Keyed}{Q:Keyed->SortSt->Prop}(h:arr[i]?=some p)(q:Q p st):wpS (model prog w) A E s (elem' arr i) Q st:=by
 rw [elem'_eq,h];exact wpS_pure q
theorem yx (C:Cmp prog w A s κ kd a₀){x y:Keyed}{Q:Option Bool->SortSt->Prop}(hx:x∈a₀.toList)(hy:y∈a₀.toList)(hk:kindOf st=kd)(q:Q (some (Lb κ x y)) st) :
  wpS (model prog w) A E s (lt' x y) Q st:=by
 rw [lt'_eq]
 refine wpS_bind (wpS_get ?_)
 rw [hk]
 refine wpS_bind (wpS_lift (wpAny_attempt (C.on x y hx hy _ _ ⟨rfl,?_⟩)))
 exact wpS_pure q
theorem wg (C:Cmp prog w A s κ kd a₀)(B:SB kd a₀ st){i j:Nat}{Q:Option Bool->SortSt->Prop}(hi:i<a₀.size)(hj:j<a₀.size)
  (q:Q (some (κ.blt (KK κ (arrOf st) i) (KK κ (arrOf st) j))) st):wpS (model prog w) A E s (ltAt' i j) Q st:=by
 obtain ⟨x,ex,mx,kx⟩:=B.at (κ:=κ) hi
 obtain ⟨y,ey,my,ky⟩:=B.at (κ:=κ) hj
 rw [ltAt'_eq]
 refine wpS_bind (wpS_get ?_)
 show wpS _ _ _ _ (do let x <-elem' (arrOf st) i;let y <-elem' (arrOf st) j;lt' x y) Q st
 refine wpS_bind (aT ex (wpS_bind (aT ey (yx C mx my B.kind ?_))))
 rw [kx,ky] at q;exact q
def Kp (lo:Nat)(xs ys:Array Keyed):Prop:=∀k,k<lo->xs[k]?=ys[k]?
theorem dF {i j:Nat}{Q:Unit->SortSt->Prop}(h:Q () (setArr st (mirror (arrOf st) i j ((j-i) / 2)))):wpS (model prog w) A E s (reverseSlice' i j) Q st:=by
 rw [reverseSlice'_eq];exact wpS_modify h
abbrev C2:=Option (Option Nat)×Nat
abbrev C3:=Option (Option Nat)×Nat×Nat
def clb (lo n nrem:Nat):StateT SortSt Sem C2 :=
 forIn [n:nrem] ((none,n):C2) fun _ c=>ltAt' (lo+c.2) (lo+c.2-1) >>= fun x=>match x with
  | some b=>if b=true then pure (ForInStep.done (none,c.2)) else pure (ForInStep.yield (none,c.2+1))
  | _=>pure (ForInStep.done (some none,c.2))
def trn (lo m nrem:Nat):StateT SortSt Sem (Option Nat) :=
 reverseSlice' lo (lo+m) >>= fun _=>clb lo m nrem >>= fun d=>match d.1 with
  | some r=>pure r
  | none=>pure (some d.2)
def fll (lo n nrem:Nat):StateT SortSt Sem C3 :=
 forIn [n:nrem] ((none,n,0):C3) fun _ c=>ltAt' (lo+c.2.1) (lo+c.2.1-1) >>= fun x=>match x with
  | some b=>if b=true then
     if c.2.2>0 then reverseSlice' (lo+c.2.1-(c.2.2+1)) (lo+c.2.1) >>= fun _=>pure (ForInStep.yield (none,c.2.1+1,0))
     else pure (ForInStep.yield (none,c.2.1+1,0))
    else ltAt' (lo+c.2.1-1) (lo+c.2.1) >>= fun y=>match y with
     | some b'=>if b'=true then pure (ForInStep.done (none,c.2.1,c.2.2)) else pure (ForInStep.yield (none,c.2.1+1,c.2.2+1))
     | _=>pure (ForInStep.done (some none,c.2.1,c.2.2))
  | _=>pure (ForInStep.done (some none,c.2.1,c.2.2))
def fpt (lo n nrem:Nat):StateT SortSt Sem (Option Nat) :=
 liftM (rule "list.sort.descending-run") >>= fun _=>fll lo (n+1) nrem >>= fun c=>match c.1 with
  | some r=>pure r
  | none=>if c.2.2>0 then reverseSlice' (lo+c.2.1-(c.2.2+1)) (lo+c.2.1) >>= fun _=>trn lo c.2.1 nrem else trn lo c.2.1 nrem
theorem wd (lo nrem:Nat):countRun' lo nrem=clb lo 1 nrem >>= fun c=>match c.1 with
  | some r=>pure r
  | none=>if (c.2 == nrem)=true then pure (some c.2) else
    if c.2>1 then ltAt' lo (lo+c.2-1) >>= fun x=>match x with
     | some b=>if b=true then pure (some c.2) else reverseSlice' lo (lo+c.2) >>= fun _=>fpt lo c.2 nrem
     | _=>pure none
    else fpt lo c.2 nrem:=by
 have leaf:∀n,(liftM (rule "list.sort.descending-run") >>= fun _=>forIn [n+1:nrem] ((none,n+1,0):C3) (fun _ c=>ltAt' (lo+c.2.1) (lo+c.2.1-1) >>= fun x=>match x with
  | some b=>if b=true then
     if c.2.2>0 then reverseSlice' (lo+c.2.1-(c.2.2+1)) (lo+c.2.1) >>= fun _=>pure (ForInStep.yield (none,c.2.1+1,0))
     else pure (ForInStep.yield (none,c.2.1+1,0))
    else ltAt' (lo+c.2.1-1) (lo+c.2.1) >>= fun y=>match y with
     | some b'=>if b'=true then pure (ForInStep.done (none,c.2.1,c.2.2)) else pure (ForInStep.yield (none,c.2.1+1,c.2.2+1))
     | _=>pure (ForInStep.done (some none,c.2.1,c.2.2))
  | _=>pure (ForInStep.done (some none,c.2.1,c.2.2))) >>= fun c=>match c.1 with
  | some r=>pure r
  | none=>if c.2.2>0 then reverseSlice' (lo+c.2.1-(c.2.2+1)) (lo+c.2.1) >>= fun _=>trn lo c.2.1 nrem else trn lo c.2.1 nrem)=fpt lo n nrem:=fun n=>rfl
 rw [countRun'_eq]
 dsimp only
 unfold clb
 congr 1
 funext c
 obtain ⟨r,n⟩:=c
 cases r with
 | some r=>rfl
 | none =>
  dsimp only
  split
  .rfl
  .split
   .congr 1
    funext x
    cases x with
    | none=>rfl
    | some b =>
     dsimp only
     split
     .rfl
     .congr 1
      funext _
      rw [<-leaf n]
      congr 1;funext _;congr 1;funext c;obtain ⟨r,m,q⟩:=c
      cases r with
      | some r=>rfl
      | none =>
       dsimp only
       unfold trn clb
       split
       .congr 1;funext _;congr 1;funext _;congr 1;funext d;obtain ⟨r,m⟩:=d;cases r <;> rfl
       .congr 1;funext _;congr 1;funext d;obtain ⟨r,m⟩:=d;cases r <;> rfl
   .rw [<-leaf n]
    congr 1;funext _;congr 1;funext c;obtain ⟨r,m,q⟩:=c
    cases r with
    | some r=>rfl
    | none =>
     dsimp only
     unfold trn clb
     split
     .congr 1;funext _;congr 1;funext _;congr 1;funext d;obtain ⟨r,m⟩:=d;cases r <;> rfl
     .congr 1;funext _;congr 1;funext d;obtain ⟨r,m⟩:=d;cases r <;> rfl
end
section
variable {κ:KeyKind}{a b out:List Keyed}{ia ib:Nat}
theorem qE {l:List Keyed}{i:Nat}{p:Keyed}(h:l[i]?=some p):(l.drop i).take 1=[p]:=by
 obtain ⟨hi,e⟩:=List.getElem?_eq_some_iff.mp h
 rw [List.drop_eq_getElem_cons hi,e];rfl
end
def St0 (st st':SortSt):Prop:=kindOf st'=kindOf st/\arrOf st'=arrOf st/\pendingOf st'=pendingOf st/\failedOf st'=failedOf st
theorem St0.refl (st:SortSt):St0 st st:=⟨rfl,rfl,rfl,rfl⟩
section
variable {prog:Program}{w:World}{A:Around}{E:Value->Shared->Prop}{s:Shared}{κ:KeyKind}{kd:SortKind}{a₀:Array Keyed}{st:SortSt}
theorem jw {g:Nat}{st1:SortSt}{Q:Unit->SortSt->Prop}(hs:St0 st st1)(h:∀st',St0 st st'->Q () st'):wpS (model prog w) A E s (yY g) Q st1:=by
 refine wpS_modify (h _ ?_)
 exact ⟨hs.1,hs.2.1,hs.2.2.1,hs.2.2.2⟩
theorem gW (a:List Keyed)(i k:Nat):(a.toArray.extract i (i+k)).toList=(a.drop i).take k:=by simp
end
section
variable {κ:KeyKind}{a b out:List Keyed}{na nb:Nat}
theorem qP (l:List Keyed){i j:Nat}(h:i<=j):l.drop i=(l.drop i).take (j-i)++l.drop j:=by
 have e:l.drop j=(l.drop i).drop (j-i):=by rw [List.drop_drop,show i+(j-i)=j by lia]
 rw [e,List.take_append_drop]
theorem zf {l:List Keyed}{i j:Nat}{p:Keyed}(hj:j=i+1)(h:l[i]?=some p):(l.drop i).take (j-i)=[p]:=by
 rw [show j-i=1 by lia];exact qE h
end
section
variable {κ:KeyKind}
theorem wb (s0:Nat):∀(M:List Keyed) (c:Nat) (xs:Array Keyed) (k:Nat),s0+c+M.length<=xs.size ->
  ((M.zipIdx c).foldl (fun (a:Array Keyed) (x:Keyed×Nat)=>a.setIfInBounds (s0+x.2) x.1) xs)[k]?=if s0+c<=k/\k<s0+c+M.length then M[k-(s0+c)]? else xs[k]?
 | [],c,xs,k,_=>by
  rw [if_neg zl];rfl
 | p::M,c,xs,k,h=>by
  rw [List.zipIdx_cons,List.foldl_cons]
  rw [wb s0 M (c+1) _ k (by rw [Array.size_setIfInBounds];simp at h;lia)]
  simp only [List.length_cons] at h ⊢
  by_cases h1:s0+(c+1)<=k/\k<s0+(c+1)+M.length
  .rw [if_pos h1,if_pos zk,show k-(s0+c)=(k-(s0+(c+1)))+1 by lia,List.getElem?_cons_succ]
  .rw [if_neg h1]
   rw [Array.getElem?_setIfInBounds]
   by_cases h2:s0+c=k
   .rw [if_pos h2,if_pos zk,if_pos zk,show k-(s0+c)=0 by lia,List.getElem?_cons_zero]
   .rw [if_neg h2,if_neg zk]
theorem uW (l M:List Keyed)(P X R:List Keyed)(e:l=P++X++R)(hl:M.length=X.length) :
  ((M.zipIdx).foldl (fun (a:Array Keyed) (x:Keyed×Nat)=>a.setIfInBounds (P.length+x.2) x.1) l.toArray)=(P++M++R).toArray:=by
 subst e
 apply Array.ext_getElem?
 intro k
 rw [wb P.length M 0 _ k (by simp;lia)]
 simp only [Nat.add_zero,List.getElem?_toArray]
 by_cases h:P.length<=k/\k<P.length+M.length
 .rw [if_pos h,List.append_assoc,List.getElem?_append_right h.1,List.getElem?_append_left zk]
 rw [if_neg h]
 by_cases h2:k<P.length
 .rw [List.append_assoc,List.append_assoc,List.getElem?_append_left h2,List.getElem?_append_left h2]
 rw [List.append_assoc,List.append_assoc,List.getElem?_append_right zk,List.getElem?_append_right zk,List.getElem?_append_right zk,List.getElem?_append_right zk,hl]
end
section
variable {prog:Program}{w:World}{A:Around}{E:Value->Shared->Prop}{s:Shared}{κ:KeyKind}{kd:SortKind}{a₀:Array Keyed}{st:SortSt}
theorem yy {x:SortSt}{Q:PUnit->SortSt->Prop}(h:Q ⟨⟩ x):wpS (model prog w) A E s (set x:StateT SortSt Sem PUnit) Q st:=by
 unfold wpS;rw [StateT.run_set];exact wpAny_pure ⟨rfl,h⟩
theorem qf (l:List Keyed)(i j:Nat):l.toArray.extract i j=((l.drop i).take (j-i)).toArray:=by simp
end
section
variable {κ:KeyKind}{xs ys:Array Keyed}
theorem wC {α:Type}{l:List α}{i:Nat}(h:i+1<l.length):∃ p x y q,l=p++x::y::q/\p.length=i:=by
 refine ⟨l.take i,l[i],l[i+1],l.drop (i+2),?_,by rw [List.length_take];lia⟩
 have e1:=List.drop_eq_getElem_cons (l:=l) (i:=i) zk
 have e2:=List.drop_eq_getElem_cons (l:=l) (i:=i+1) h
 rw [<-e2,<-e1,List.take_append_drop]
end
end TS

namespace L2
open PySem PySem.Spec PyProof.Rows
abbrev Key:=Sum Int Str
def keyIs:Key->Value->Bool
 | .inl k,v=>Value.isInt k v
 | .inr x,v=>Value.isStrOf x v
def y3 (w:World):Key->Int
 | .inl k=>hashInt k
 | .inr x=>hashStr w x
theorem keyIs_shape:∀{k:Key} {v:Value},keyIs k v=true->(∃ i t,k=Sum.inl i/\v=Value.int i t)∨(∃ x t,k=Sum.inr x/\v=Value.str x t)
 | .inl i,v,h=>by
  obtain ⟨t,e⟩:=Value.isInt_shape (k:=i) (v:=v) h
  exact .inl ⟨i,t,rfl,e⟩
 | .inr x,v,h=>by
  obtain ⟨t,e⟩:=Value.isStrOf_shape (x:=x) (v:=v) h
  exact .inr ⟨x,t,rfl,e⟩
theorem pP (i:Int)(t:Tok):keyIs (.inl i) (.int i t)=true:=by simp [keyIs,Value.isInt]
theorem oZ (x:Str)(t:Tok):keyIs (.inr x) (.str x t)=true:=by simp [keyIs,Value.isStrOf]
theorem wV (a b:Int):decide ((Sum.inl a:Key)=Sum.inl b)=(a == b):=by
 by_cases e:a=b
 .subst e;simp
 have h:¬ (Sum.inl a:Key)=Sum.inl b:=fun q=>e (Sum.inl.inj q)
 rw [decide_eq_false h]
 exact (beq_eq_false_iff_ne.mpr e).symm
theorem xk (a b:Str):decide ((Sum.inr a:Key)=Sum.inr b)=decide (a=b):=by
 by_cases e:a=b
 .subst e;simp
 have h:¬ (Sum.inr a:Key)=Sum.inr b:=fun q=>e (Sum.inr.inj q)
 rw [decide_eq_false h,decide_eq_false e]
theorem wc (a:Int)(b:Str):decide ((Sum.inl a:Key)=Sum.inr b)=false:=decide_eq_false (fun q=>nomatch q)
theorem xF (a:Str)(b:Int):decide ((Sum.inr a:Key)=Sum.inl b)=false:=decide_eq_false (fun q=>nomatch q)
def mixKind (prog:Program)(w:World):PySem.KeyKind prog w Key where
 is:=keyIs
 hash:=y3 w
 inj:=fun v a b ha hb=>by
  rcases keyIs_shape ha with ⟨i,t,rfl,rfl⟩ | ⟨x,t,rfl,rfl⟩
  .rcases keyIs_shape hb with ⟨j,u,rfl,e⟩ | ⟨y,u,rfl,e⟩
   .injection e with e1 _;rw [e1]
   .exact nomatch e
  .rcases keyIs_shape hb with ⟨j,u,rfl,e⟩ | ⟨y,u,rfl,e⟩
   .exact nomatch e
   .injection e with e1 _;rw [e1]
 byValue:=fun k v h=>by
  rcases keyIs_shape h with ⟨i,t,rfl,rfl⟩ | ⟨x,t,rfl,rfl⟩ <;> rfl
 pyHash:=fun hv h=>by
  rcases keyIs_shape hv with ⟨i,t,rfl,rfl⟩ | ⟨x,t,rfl,rfl⟩
  .exact wpAny_pyHash_int h
  .exact wpAny_pyHash_str h
 eqBool:=fun hu hv h=>by
  rcases keyIs_shape hu with ⟨i,t,rfl,rfl⟩ | ⟨x,t,rfl,rfl⟩
  .rcases keyIs_shape hv with ⟨j,u,rfl,rfl⟩ | ⟨y,u,rfl,rfl⟩
   .rw [wV] at h;exact wpAny_eqBool_int h
   .rw [wc] at h;exact SeqAt.EqAt.int_str i t y u _ _ _ _ h
  .rcases keyIs_shape hv with ⟨j,u,rfl,rfl⟩ | ⟨y,u,rfl,rfl⟩
   .rw [xF] at h;exact SeqAt.EqAt.str_int x t j u _ _ _ _ h
   .rw [xk] at h;exact wpAny_eqBool_str h
 «strs»:=fun k x t v h=>by
  rcases keyIs_shape h with ⟨i,u,rfl,e⟩ | ⟨y,u,rfl,e⟩
  .exact nomatch e
  .injection e with e1 _
   subst e1
   cases v <;> rfl
theorem jM (prog:Program)(w:World)(i:Int)(t:Tok):(mixKind prog w).is (.inl i) (.int i t)=true:=pP i t
theorem cw (prog:Program)(w:World)(x:Str)(t:Tok):(mixKind prog w).is (.inr x) (.str x t)=true:=oZ x t
inductive V where
 | non | bl (b:Bool) | int (i:Int) | str (x:Str) | byt (b:Array UInt8) | flt (b:UInt64) | ref (a:Addr) | ty (n:String)
 deriving DecidableEq
def RelV:V->Value->Prop
 | .non,u=>u=Value.none
 | .bl b,u=>u=Value.bool b
 | .int i,u=>∃ t,u=Value.int i t
 | .str x,u=>∃ t,u=Value.str x t
 | .byt b,u=>∃ t,u=Value.bytes b t
 | .flt b,u=>∃ t,u=Value.float b t
 | .ref a,u=>u=Value.ref a
 | .ty n,u=>u=Value.type n
abbrev Vals:List V->List Value->Prop:=Paired RelV
theorem Vals.length {xs:List V}{us:List Value}(r:Vals xs us):xs.length=us.length:=Paired.length r
theorem Vals.get:∀{xs:List V} {us:List Value} {i:Nat} {x:V},Vals xs us->xs[i]?=some x->∃ u,us[i]?=some u/\RelV x u
 | _,_,_,_,.nil,e=>by simp at e
 | _,_,0,_,.cons r _,e=>by simp at e;subst e;exact ⟨_,rfl,r⟩
 | _,_,i+1,x,.cons _ t,e=>by
  obtain ⟨u,h1,h2⟩:=Vals.get (i:=i) (x:=x) t (by simpa using e)
  exact ⟨u,by simpa using h1,h2⟩
theorem Vals.set {x:V}{u:Value}(r:RelV x u):∀{xs:List V} {us:List Value} (i:Nat),Vals xs us->Vals (xs.set i x) (us.set i u)
 | _,_,_,.nil=>.nil
 | _,_,0,.cons _ t=>.cons r t
 | _,_,i+1,.cons q t=>.cons q (Vals.set r i t)
theorem Vals.append:∀{xs ys:List V} {us ws:List Value},Vals xs us->Vals ys ws->Vals (xs++ys) (us++ws)
 | _,_,_,_,.nil,s=>s
 | _,_,_,_,.cons r t,s=>.cons r (Vals.append t s)
theorem Vals.take:∀{xs:List V} {us:List Value} (n:Nat),Vals xs us->Vals (xs.take n) (us.take n)
 | _,_,0,_=>.nil
 | _,_,_+1,.nil=>.nil
 | _,_,n+1,.cons r t=>.cons r (Vals.take n t)
theorem Vals.drop:∀{xs:List V} {us:List Value} (n:Nat),Vals xs us->Vals (xs.drop n) (us.drop n)
 | _,_,0,r=>r
 | _,_,_+1,.nil=>.nil
 | _,_,n+1,.cons _ t=>Vals.drop n t
def RelO:Option V->Option Value->Prop
 | some v,some u=>RelV v u
 | none,none=>True
 | _,_=>False
def KV {κ:Type}:List (κ×V)->List (κ×Value)->Prop:=Paired fun (p:κ×V) (q:κ×Value)=>p.1=q.1/\RelV p.2 q.2
def kV:Key->V
 | .inl i=>.int i
 | .inr x=>.str x
inductive HO where
 /-- a list -/
 | lst (xs:List V)
 /-- a tuple (never changes) -/
 | tup (xs:List V)
 /-- a dict whose keys are ints and texts;one whose keys are tuples of ints and texts (the empty one is both) -/
 | dK (kvs:List (Key×V)) | dT (kvs:List (List Key×V))
 /-- a set of ints: its members,its size -/
 | set (S:Int->Bool) (n:Nat)
 /-- an instance of the class at C,its dict at dx,its attributes -/
 | ins (C dx:Addr) (fs:List (Str×V))
 /-- the dict of the instance at x -/
 | own (x:Addr)
 /-- the dict of an exception -/
 | xd (fs:List (Str×V))
 /-- a bound method,f of x -/
 | met (f x:Addr)
 /-- a range object lo,lo+1,.. below hi -/
 | rng (lo hi:Int)
 /-- a thing that is known to the object (the script;a dict while a loop walks it): read,never written while it is so -/
 | frz (o:Obj) (u:HO)
 /-- a code object's table -/
 | tbl (ps:Array Value)
 /-- any other thing,by what is true of its one object (a def of one's own: SetO a S n:=HO.ext fun h=>..) -/
 | ext (φ:Heap->Prop)
abbrev Hp:=Addr->Option HO
def upd (H:Hp)(a:Addr)(o:HO):Hp:=fun b=>if b=a then some o else H b
theorem af {H:Hp}{a:Addr}{o:HO}:upd H a o a=some o:=by unfold upd;rw [if_pos rfl]
theorem ak {H:Hp}{a b:Addr}{o:HO}(h:b≠a):upd H a o b=H b:=by unfold upd;rw [if_neg h]
theorem eT {H:Hp}{a:Addr}{o u:HO}:upd (upd H a o) a u=upd H a u:=by
 funext b;unfold upd;split <;> rfl
theorem bA {H:Hp}{a b:Addr}{o u:HO}(h:H a=some o)(h':H b=some u)(d:o≠u):a≠b:=by
 intro e;subst e;rw [h] at h';exact d (Option.some.inj h')
theorem am {H:Hp}{a b:Addr}{o:HO}(h:H a=some o)(h':H b=none):a≠b:=by
 intro e;subst e;rw [h] at h';cases h'
section
variable (P:Program)(w:World)
def ObjOk (H:Hp)(h:Heap)(a:Addr):HO->Prop
 | .lst xs=>xs.length<=sizeLine/\∃ (its:List Value) (n:Nat),Vals xs its/\h.get? a=some { cls:=.type "list",data:=.seq its.toArray n }
 | .tup xs=>xs.length<=sizeLine/\∃ its:List Value,Vals xs its/\IsTup h a its.toArray
 | .dK kvs=>kvs.length<=sizeLine/\(a == sysModules)=false/\∃ vs,KV kvs vs/\h.DictOf (mixKind P w) a vs
 | .dT kvs=>kvs.length<=sizeLine/\(a == sysModules)=false/\∃ xs:List (List Key×Addr×Value),
   Paired (fun (p:List Key×V) (q:List Key×Addr×Value)=>p.1=q.1/\H q.2.1=some (.tup (p.1.map kV))/\RelV p.2 q.2.2) kvs xs /\
   ∃ o es ep,h.get? a=some o/\o.ExactDict/\o.data=.dict es ep/\es.toList=xs.map (entryOfKey (tupleKind (mixKind P w)))/\(xs.map (·.1)).Nodup
 | .set S n=>h.SetOf (intKind P w) a S n
 | .ins C dx fs=>H dx=some (.own a)/\fs.length<=1000/\dx≠a/\h.get? a=some (W.instObj C dx) /\
   ∃ mA,h.Ns1 dx mA/\(∀f,RelO (fs.lookup f) (mA f))/\PySem.Within mA (fs.map (·.1))
 | .own _=>∃ o,h.get? a=some o
 | .xd fs=>∃ mA,h.Ns1 a mA/\∀f,RelO (fs.lookup f) (mA f)
 | .rng lo hi=>∃ t u v,h.get? a=some { cls:=.type "range",data:=.fields #[.int lo t,.int hi u,.int 1 v] }
 | .frz o u=>h.get? a=some o/\ObjOk H h a u
 | .tbl ps=>h.get? a=some { cls:=.none,data:=.fields ps }
 | .met f x=>h.get? a=some (W.methodObj (.ref f) (.ref x))
 | .ext φ=>φ h/\(∃ o,h.get? a=some o)/\∀h1 h2:Heap,φ h1->(∀o,h1.get? a=some o->h2.get? a=some o)->φ h2
def HOk (H:Hp)(h:Heap):Prop:=∀a o,H a=some o->ObjOk P w H h a o
end
section
variable {P:Program}{w:World}{H H':Hp}{h h':Heap}{a:Addr}{o:HO}
theorem ObjOk.lt (x:ObjOk P w H h a o):a<h.objs.size:=by
 cases o with
 | lst xs=>obtain ⟨_,_,_,_,e⟩:=x;exact Heap.lt_size e
 | tup xs=>obtain ⟨_,_,_,p⟩:=x;exact p.lt
 | dK kvs=>obtain ⟨_,_,_,_,o,_,_,e,_⟩:=x;exact Heap.lt_size e
 | dT kvs=>obtain ⟨_,_,_,_,o,_,_,e,_⟩:=x;exact Heap.lt_size e
 | set S n=>obtain ⟨o,_,_,_,e,_⟩:=x;exact Heap.lt_size e
 | ins C dx fs=>obtain ⟨_,_,_,e,_⟩:=x;exact Heap.lt_size e
 | own y=>obtain ⟨_,e⟩:=x;exact Heap.lt_size e
 | xd fs=>obtain ⟨_,⟨_,_,_,e,_⟩,_⟩:=x;exact Heap.lt_size e
 | rng lo hi=>obtain ⟨_,_,_,e⟩:=x;exact Heap.lt_size e
 | frz ob u=>obtain ⟨e,_⟩:=x;exact Heap.lt_size e
 | tbl ps=>exact Heap.lt_size (show h.get? a=some _ from x)
 | met f y=>exact Heap.lt_size (show h.get? a=some _ from x)
 | ext φ=>obtain ⟨_,⟨_,e⟩,_⟩:=x;exact Heap.lt_size e
theorem Paired.mapP {α β:Type}{F G:α->β->Prop}:∀{l₁:List α} {l₂:List β},Paired F l₁ l₂->(∀a b,F a b->G a b)->Paired G l₁ l₂
 | _,_,.nil,_=>.nil
 | _,_,.cons r t,f=>.cons (f _ _ r) (Paired.mapP t f)
theorem ObjOk.stay (x:ObjOk P w H h a o)(k:∀b u,(b=a∨H b=some (.own a))->h.get? b=some u->h'.get? b=some u)
  (ho:∀b,H b=some (.own a)->H' b=some (.own a)) (ht:∀b xs,H b=some (.tup xs)->H' b=some (.tup xs)):ObjOk P w H' h' a o:=by
 induction o with
 | lst xs=>obtain ⟨z,its,n,r,e⟩:=x;exact ⟨z,its,n,r,k _ _ (.inl rfl) e⟩
 | tup xs=>obtain ⟨z,its,r,ob,e,c⟩:=x;exact ⟨z,its,r,ob,k _ _ (.inl rfl) e,c⟩
 | dK kvs=>obtain ⟨z,y,vs,r,ob,es,ep,e,c⟩:=x;exact ⟨z,y,vs,r,ob,es,ep,k _ _ (.inl rfl) e,c⟩
 | dT kvs =>
  obtain ⟨z,y,xs,r,ob,es,ep,e,c⟩:=x
  exact ⟨z,y,xs,Paired.mapP r fun p q z=>⟨z.1,ht _ _ z.2.1,z.2.2⟩,ob,es,ep,k _ _ (.inl rfl) e,c⟩
 | set S n=>obtain ⟨ob,es,ep,t,e,c⟩:=x;exact ⟨ob,es,ep,t,k _ _ (.inl rfl) e,c⟩
 | ins C dx fs =>
  obtain ⟨d,z,ne,e,mA,⟨od,es,ep,e2,c⟩,r⟩:=x
  exact ⟨ho _ d,z,ne,k _ _ (.inl rfl) e,mA,⟨od,es,ep,k _ _ (.inr d) e2,c⟩,r⟩
 | own y=>obtain ⟨ob,e⟩:=x;exact ⟨ob,k _ _ (.inl rfl) e⟩
 | xd fs=>obtain ⟨mA,⟨od,es,ep,e,c⟩,r⟩:=x;exact ⟨mA,⟨od,es,ep,k _ _ (.inl rfl) e,c⟩,r⟩
 | rng lo hi=>obtain ⟨t,u,v,e⟩:=x;exact ⟨t,u,v,k _ _ (.inl rfl) e⟩
 | frz ob u ih=>obtain ⟨e,q⟩:=x;exact ⟨k _ _ (.inl rfl) e,ih q⟩
 | tbl ps =>
  have e:h.get? a=some { cls:=.none,data:=.fields ps }:=x
  show h'.get? a=some { cls:=.none,data:=.fields ps }
  exact k a _ (.inl rfl) e
 | met f y =>
  have e:h.get? a=some (W.methodObj (.ref f) (.ref y)):=x
  show h'.get? a=some (W.methodObj (.ref f) (.ref y))
  exact k a _ (.inl rfl) e
 | ext φ=>obtain ⟨p,⟨o,e⟩,st⟩:=x;exact ⟨st _ _ p fun o q=>k _ _ (.inl rfl) q,⟨o,k _ _ (.inl rfl) e⟩,st⟩
theorem HOk.lt (x:HOk P w H h)(e:H a=some o):a<h.objs.size:=(x a o e).lt
theorem HOk.fresh (x:HOk P w H h)(e:h.objs.size<=a):H a=none:=by
 cases q:H a with
 | none=>rfl
 | some u=>exact absurd (Nat.lt_of_lt_of_le (x.lt q) e) (Nat.lt_irrefl _)
theorem HOk.kept (x:HOk P w H h)(k:∀b u,h.get? b=some u->h'.get? b=some u):HOk P w H h':=fun a o e =>
 (x a o e).stay (fun b u _ q=>k b u q) (fun _ q=>q) fun _ _ q=>q
theorem HOk.laid (x:HOk P w H h)(k:∀b u,h.get? b=some u->h'.get? b=some u)(hp:h.objs.size<=a)(new:ObjOk P w (upd H a o) h' a o):HOk P w (upd H a o) h':=fun b u e=>by
 have hn:=x.fresh hp
 by_cases hb:b=a
 .subst hb;rw [af] at e;cases e;exact new
 rw [ak hb] at e
 exact (x b u e).stay (fun c v _ q=>k c v q) (fun c q=>by rw [ak (am q hn)];exact q) fun c xs q=>by rw [ak (am q hn)];exact q
end
def Rd (H:Hp)(a:Addr)(u:HO):Prop:=H a=some u∨∃ o,H a=some (.frz o u)
theorem Rd.ok {P:Program}{w:World}{H:Hp}{h:Heap}{a:Addr}{u:HO}(r:Rd H a u)(x:HOk P w H h):ObjOk P w H h a u:=by
 rcases r with r | ⟨o,r⟩
 .exact x a u r
 obtain ⟨_,q⟩:=x a _ r
 exact q
def Mut:Option HO->Prop
 | some (.lst _)=>True
 | some (.dK _)=>True
 | some (.dT _)=>True
 | some (.set _ _)=>True
 | some (.ins _ _ _)=>True
 | some (.ext _)=>True
 | _=>False
section
variable {P:Program}{w:World}{H:Hp}{h h':Heap}{x e:Addr}{o':HO}
theorem HOk.write (ok:HOk P w H h)(mu:Mut (H x))(he:e=x∨H e=some (.own x))(k:∀b u,b≠e->h.get? b=some u->h'.get? b=some u)(heo:∃ u,h'.get? e=some u)
  (new:ObjOk P w (upd H x o') h' x o'):HOk P w (upd H x o') h':=fun b u q=>by
 have nown:∀c y,H c=some (.own y)->c≠x:=fun c y r z=>by subst z;rw [r] at mu;exact mu
 have ntup:∀c xs,H c=some (.tup xs)->c≠x:=fun c xs r z=>by subst z;rw [r] at mu;exact mu
 by_cases hb:b=x
 .subst hb;rw [af] at q;cases q;exact new
 rw [ak hb] at q
 by_cases hbe:b=e
 .have q':H b=some (.own x):=by
   rcases he with z | z
   .exact absurd (hbe.trans z) hb
   .rw [hbe];exact z
  rw [q] at q';cases q'
  obtain ⟨v,hv⟩:=heo
  exact ⟨v,by rw [hbe];exact hv⟩
 refine (ok b u q).stay (fun c v hc r=>k c v ?_ r) (fun c r=>by rw [ak (nown c b r)];exact r) fun c xs r=>by rw [ak (ntup c xs r)];exact r
 rcases hc with rfl | hc
 .exact hbe
 rintro rfl
 rcases he with z | z
 .exact nown c b hc z
 rw [hc] at z;cases z;exact hb rfl
end
structure Un (fs ex:List Addr)(H H':Hp)(h h':Heap):Prop where
 keep:∀b o,h.get? b=some o->H b=none->b∉fs->b∉ex->h'.get? b=some o
 slot:∀b o,h.get? b=some o->H b=none->b∈fs->b∉ex->∃ sl,h'.get? b=some { o with slots:=sl }
 free:∀b o,h.get? b=some o->H b=none->b∉ex->H' b=none
 there:∀b o,h.get? b=some o->b∉ex->∃ o',h'.get? b=some o'
 tups:∀b xs,H b=some (.tup xs)->H' b=some (.tup xs)
 frzs:∀b o u,H b=some (.frz o u)->H' b=some (.frz o u)
 tbls:∀b ps,H b=some (.tbl ps)->∃ more,H' b=some (.tbl (ps++more))
section
variable {fs fs' ex ex':List Addr}{H H1 H2:Hp}{h h1 h2 h':Heap}{a x e:Addr}{o:HO}
theorem Un.any (u:Un fs ex H H1 h h1){b:Addr}{ob:Obj}(q:h.get? b=some ob)(n:H b=none)(hx:b∉ex):∃ sl,h1.get? b=some { ob with slots:=sl }:=by
 by_cases hb:b∈fs
 .exact u.slot b ob q n hb hx
 exact ⟨ob.slots,u.keep b ob q n hb hx⟩
theorem Un.kept (k:∀b u,h.get? b=some u->h'.get? b=some u):Un fs ex H H h h' :=
 ⟨fun b ob q _ _ _=>k b ob q,fun b ob q _ _ _=>⟨ob.slots,k b ob q⟩,fun _ _ _ n _=>n,fun b ob q _=>⟨ob,k b ob q⟩,fun _ _ q=>q,fun _ _ _ q=>q,fun _ ps q=>⟨#[],by rw [q];simp⟩⟩
theorem Un.refl:Un fs ex H H h h:=Un.kept fun _ _ q=>q
theorem Un.laid (k:∀b u,h.get? b=some u->h'.get? b=some u)(hp:h.objs.size<=a)(hn:H a=none):Un fs ex H (upd H a o) h h' where
 keep:=fun b u q _ _ _=>k b u q
 slot:=fun b u q _ _ _=>⟨u.slots,k b u q⟩
 free:=fun b u q n _=>by rw [ak (Nat.ne_of_lt (Nat.lt_of_lt_of_le (Heap.lt_size q) hp))];exact n
 there:=fun b u q _=>⟨u,k b u q⟩
 tups:=fun b xs q=>by rw [ak (am q hn)];exact q
 frzs:=fun b u xs q=>by rw [ak (am q hn)];exact q
 tbls:=fun b ps q=>⟨#[],by rw [ak (am q hn),q];simp⟩
theorem Un.write (mu:Mut (H x))(he:e=x∨H e=some (.own x))(k:∀b u,b≠e->h.get? b=some u->h'.get? b=some u)(heo:∃ u,h'.get? e=some u):Un fs ex H (upd H x o) h h':=by
 have hx:∀b,H b=none->b≠x:=fun b n z=>by subst z;rw [n] at mu;exact mu
 have hb:∀b,H b=none->b≠e:=fun b n z=>by
  subst z
  rcases he with r | r
  .exact hx b n r
  .rw [n] at r;cases r
 have hm:∀b u,H b=some u->¬ Mut (some u)->b≠x:=fun b u q nm z=>by subst z;rw [q] at mu;exact nm mu
 refine ⟨fun b u q n _ _=>k b u (hb b n) q,fun b u q n _ _=>⟨u.slots,k b u (hb b n) q⟩,fun b u q n _=>by rw [ak (hx b n)];exact n,fun b u q _=>?_,
  fun b xs q=>by rw [ak (hm b _ q fun z=>z)];exact q,fun b u xs q=>by rw [ak (hm b _ q fun z=>z)];exact q,fun b ps q=>⟨#[],by rw [ak (hm b _ q fun z=>z),q];simp⟩⟩
 by_cases hbe:b=e
 .subst hbe;exact heo
 exact ⟨u,k b u hbe q⟩
end
def trk (h:Heap)(H:Hp):List Addr:=(List.range h.objs.size).filter fun a=>(H a).isSome
def jr (h:Heap)(H:Hp):Heap:=W.hideAll h (trk h H)
theorem pc (h:Heap)(H:Hp):(jr h H).objs.size=h.objs.size:=W.hideAll_size _ _
theorem rD {h:Heap}{H:Hp}{b:Addr}{o:Obj}(e:h.get? b=some o)(n:H b=none):(jr h H).get? b=some o :=
 W.hideAll_get _ e fun hm=>by
  have q:(H b).isSome=true:=(List.mem_filter.mp hm).2
  rw [n] at q;simp at q
theorem uY {h:Heap}{H:Hp}{b:Addr}{o:Obj}(e:(jr h H).get? b=some o):h.get? b=some o/\H b=none:=by
 have e':h.get? b=some o:=W.of_hideAll (trk h H) e
 refine ⟨e',?_⟩
 cases q:H b with
 | none=>rfl
 | some x =>
  have hm:b∈trk h H:=List.mem_filter.mpr ⟨List.mem_range.mpr (Heap.lt_size e'),by simp [q]⟩
  have z:(jr h H).get? b=none:=W.hideAll_none (trk h H) hm
  rw [z] at e;cases e
def ul (g h:Heap)(L:Addr):List (Addr×Obj):=(List.range h.objs.size).filterMap fun a=>if a=L∨(g.get? a).isSome=true then none else (h.get? a).map fun o=>(a,o)
def cc (g h:Heap)(L d:Addr):List (Addr×Obj):=(ul g h L).filter fun p=>decide (p.1≠d)
structure Mod (K:W.Frag)(mg:Str->Option Value)(base:Heap):Prop where
 kin:K.In base
 glob:base.Ns mainGlobals mg
 blt:∃ mb,base.Ns builtinsNs mb/\∀x:Str,x≠"__name__"->mb x=bootBuiltins x
 nolimit:base.NoLimit
structure Cx where
 prog:Program
 w:World
 K:W.Frag
 mg:Str->Option Value
 base:Heap
 A:Around
 N:List Str
 s₀:Shared
 H₀:Hp
 env:Env
 outer:List Env
 stack:List Env
 ex:List Addr
 fn:Str->Bool
 calm:Bool
 pn:List (Addr×Obj)
 xe:Value->Shared->Prop
def frs (l:List Env):List Addr:=l.filterMap (·.frame)
abbrev Cx.fs (X:Cx):List Addr:=frs X.outer
def Vis (sc:Scope)(x:Str):Prop:=sc.names.lookup x=some .local∨sc.names.lookup x=some .cell∨sc.names.lookup x=some .free
def Loc (sc:Scope)(x:Str):Prop:=sc.names.lookup x=some .local∨sc.names.lookup x=some .cell
def zb (env:Env)(h:Heap)(m:Str->Option Value)(x:Str)(u:Value):Prop :=
 (env.kindOf x=some .local/\m x=some u)∨((env.kindOf x=some .cell∨env.kindOf x=some .free)/\∃ c,env.cells.lookup x=some c/\h.IsCell c (some u))
structure Cx.Ok (X:Cx):Prop where
 mod:Mod X.K X.mg X.base
 kind:X.env.scope.kind=.function
 glob:X.env.globals=mainGlobals
 blt:X.env.builtins=builtinsNs
 above:X.s₀.heap.objs.size<=X.env.locals
 inj:∀x y c,X.env.cells.lookup x=some c->X.env.cells.lookup y=some c->x=y
 has:∀x,(X.env.kindOf x=some .cell∨X.env.kindOf x=some .free)->∃ c,X.env.cells.lookup x=some c
 cab:∀x c,X.fn x=true->X.env.cells.lookup x=some c->X.s₀.heap.objs.size<=c
 hd:X.calm=true->X.A.handled=none
 frames:X.A.frames=some X.stack
 stk:X.stack=X.outer∨(X.stack=X.env::X.outer/\X.env.frame=some X.env.locals)
 exf:∀b∈X.ex,b≠X.env.locals/\∀x c,X.env.cells.lookup x=some c->c≠b
 bs:∀b o,X.base.get? b=some o->X.s₀.heap.get? b=some o/\X.H₀ b=none
 bsz:X.base.objs.size<=X.s₀.heap.objs.size
 noex:∀b o,X.base.get? b=some o->b∉X.ex
 exfs:∀b∈X.ex,b∉X.fs
 funs:X.s₀.heap.FunFrames X.base X.outer
 frf:∀b∈X.fs,X.H₀ b=none
structure Inv (X:Cx)(pins:List (Addr×Obj))(σ:List (Option V))(H:Hp)(s:Shared):Prop where
 ok:X.Ok
 os:s.os=X.s₀.os
 bare:AllBare s.gens
 base:Un X.fs X.ex X.H₀ H X.s₀.heap s.heap
 loc:∃ m,s.heap.Ns X.env.locals m/\∀(i:Nat) (x:Str) (v:V),X.N[i]?=some x->σ[i]?=some (some v)->Vis X.env.scope x->∃ u,RelV v u/\zb X.env s.heap m x u
 cell:∀x c,X.env.cells.lookup x=some c->∃ v,s.heap.IsCell c v
 free:H X.env.locals=none
 freeC:∀x c,X.env.cells.lookup x=some c->H c=none
 pin:∀p∈X.pn++pins,s.heap.get? p.1=some p.2/\H p.1=none/\p.1≠X.env.locals/\p.1∉X.fs/\∀v,p.2.data≠.cell v
 hok:HOk X.prog X.w H s.heap
 len:σ.length=X.N.length
section
variable {X:Cx}{pins:List (Addr×Obj)}{σ:List (Option V)}{H H':Hp}{s:Shared}{h':Heap}
theorem Cx.Ok.nofr (ok:X.Ok){b:Addr}{o:Obj}(e:X.base.get? b=some o):b∉X.fs:=fun hb=>by
 have:=(ok.funs.mem hb).1
 rw [e] at this;cases this
theorem Inv.bs (I:Inv X pins σ H s):∀b o,X.base.get? b=some o->s.heap.get? b=some o/\H b=none:=fun b o e =>
 ⟨I.base.keep b o (I.ok.bs b o e).1 (I.ok.bs b o e).2 (I.ok.nofr e) (I.ok.noex b o e),I.base.free b o (I.ok.bs b o e).1 (I.ok.bs b o e).2 (I.ok.noex b o e)⟩
theorem Inv.bk (I:Inv X pins σ H s):∀b o,X.base.get? b=some o->s.heap.get? b=some o:=fun b o e=>(I.bs b o e).1
theorem Inv.mod (I:Inv X pins σ H s):Mod X.K X.mg X.base:=I.ok.mod
theorem Inv.kIn (I:Inv X pins σ H s):X.K.In s.heap:=I.ok.mod.kin.keeps I.bk
theorem Inv.lt (I:Inv X pins σ H s):X.env.locals<s.heap.objs.size:=let ⟨_,hn,_⟩:=I.loc;hn.lt
theorem Inv.sz (I:Inv X pins σ H s):X.s₀.heap.objs.size<=s.heap.objs.size:=Nat.le_trans I.ok.above (Nat.le_of_lt I.lt)
theorem Inv.nofs (I:Inv X pins σ H s){a:Addr}(h:s.heap.objs.size<=a):a∉X.fs:=fun hb=>by
 obtain ⟨_,o,ho,_⟩:=I.ok.funs.mem hb
 exact absurd (Nat.lt_of_lt_of_le (Heap.lt_size ho) (Nat.le_trans I.sz h)) (Nat.lt_irrefl _)
theorem Inv.cne (I:Inv X pins σ H s):∀x c,X.env.cells.lookup x=some c->c≠X.env.locals:=fun x c e z=>by
 obtain ⟨v,o,ho,hd⟩:=I.cell x c e
 obtain ⟨m,⟨o',es,ep,ho',hd',_⟩,_⟩:=I.loc
 rw [z,ho'] at ho;cases ho;rw [hd'] at hd;cases hd
theorem Inv.funs (I:Inv X pins σ H s):s.heap.FunFrames X.base X.outer:=by
 have all:∀(l:List Env),(∀b∈frs l,b∈X.fs)->X.s₀.heap.FunFrames X.base l->s.heap.FunFrames X.base l:=by
  intro l
  induction l with
  | nil=>intro _ _;trivial
  | cons env r ih =>
   intro hs hl
   obtain ⟨hk,⟨L,o,hf,hn,ho,hd⟩,hr⟩:=hl
   have hL:L∈X.fs:=hs L (by unfold frs;rw [List.filterMap_cons,hf];exact List.mem_cons_self)
   obtain ⟨sl,e⟩:=I.base.slot L o ho (I.ok.frf L hL) hL fun z=>I.ok.exfs L z hL
   exact ⟨hk,⟨L,_,hf,hn,e,hd⟩,ih (fun b hb=>hs b (by unfold frs;rw [List.filterMap_cons,hf];exact List.mem_cons_of_mem _ hb)) hr⟩
 exact all X.outer (fun _ hb=>hb) I.ok.funs
theorem Inv.stack (I:Inv X pins σ H s):s.heap.FunFrames X.base X.stack:=by
 rcases I.ok.stk with e | ⟨e,hf⟩
 .rw [e];exact I.funs
 rw [e]
 obtain ⟨m,hn,_⟩:=I.loc
 refine .cons (by rw [I.ok.kind];decide) hf hn ?_ I.funs
 exact Heap.get?_none_of_le (Nat.le_trans I.ok.bsz I.ok.above)
theorem Inv.stkSub (I:Inv X pins σ H s):∀b∈frs X.stack,b∈X.env.locals::X.fs:=fun b hb=>by
 rcases I.ok.stk with e | ⟨e,hf⟩
 .rw [e] at hb;exact List.mem_cons_of_mem _ hb
 rw [e] at hb
 unfold frs at hb
 rw [List.filterMap_cons,hf] at hb
 exact hb
theorem Inv.stkFree (I:Inv X pins σ H s):∀b∈frs X.stack,H b=none:=fun b hb=>by
 rcases List.mem_cons.mp (I.stkSub b hb) with e | hb
 .rw [e];exact I.free
 obtain ⟨_,o,ho,_⟩:=I.ok.funs.mem hb
 exact I.base.free b o ho (I.ok.frf b hb) fun z=>I.ok.exfs b z hb
theorem Inv.step {g':Array GenState}{t':Nat}{d':Drawn}{ch:List Addr}(I:Inv X pins σ H s)
  (hch:∀b∈ch,(b∈X.ex∨X.s₀.heap.objs.size<=b)/\b≠X.env.locals/\(∀x c,X.env.cells.lookup x=some c->c≠b)/\∀p∈X.pn++pins,p.1≠b)
  (keep:∀b o,b≠X.env.locals->b∉X.fs->b∉ch->s.heap.get? b=some o->H b=none->h'.get? b=some o)
  (slot:∀b o,b≠X.env.locals->b∈X.fs->b∉ch->s.heap.get? b=some o->H b=none->∃ sl,h'.get? b=some { o with slots:=sl }) (free:∀b o,b∉ch->s.heap.get? b=some o->H b=none->H' b=none)
  (there:∀b o,b∉ch->s.heap.get? b=some o->∃ o',h'.get? b=some o')
  (tups:∀b xs,H b=some (.tup xs)->H' b=some (.tup xs)) (frzs:∀b o u,H b=some (.frz o u)->H' b=some (.frz o u)) (tbls:∀b ps,H b=some (.tbl ps)->∃ more,H' b=some (.tbl (ps++more)))
  (ns:∀m,s.heap.Ns X.env.locals m->h'.Ns X.env.locals m) (hok:HOk X.prog X.w H' h') (hg:AllBare g') :
  Inv X pins σ H' { s with heap:=h',gens:=g',drawn:=d',toks:=t' }:=by
 have neL:∀b o,X.s₀.heap.get? b=some o->b≠X.env.locals:=fun b o e=>Nat.ne_of_lt (Nat.lt_of_lt_of_le (Heap.lt_size e) I.ok.above)
 have neC:∀b o,X.s₀.heap.get? b=some o->b∉X.ex->b∉ch:=fun b o e hx hb=>by
  rcases (hch b hb).1 with z | z
  .exact hx z
  .exact absurd (Nat.lt_of_lt_of_le (Heap.lt_size e) z) (Nat.lt_irrefl _)
 have cellK:∀x c,X.env.cells.lookup x=some c->∀v,s.heap.IsCell c v->h'.IsCell c v:=fun x c e v ⟨o,ho,hd⟩=>by
  have nch:c∉ch:=fun z=>(hch c z).2.2.1 x c e rfl
  by_cases hc:c∈X.fs
  .obtain ⟨sl,q⟩:=slot c o (I.cne x c e) hc nch ho (I.freeC x c e)
   exact ⟨_,q,hd⟩
  .exact ⟨o,keep c o (I.cne x c e) hc nch ho (I.freeC x c e),hd⟩
 refine ⟨I.ok,I.os,hg,⟨fun b o e n hb hx=>?_,fun b o e n hb hx=>?_,fun b o e n hx=>?_,fun b o e hx=>?_,fun b xs e=>tups b xs (I.base.tups b xs e),fun b o xs e=>frzs b o xs (I.base.frzs b o xs e),fun b ps e=>?_⟩,?_,fun x c e=>?_,?_,fun x c e=>?_,fun p hp=>?_,hok,I.len⟩
 .exact keep b o (neL b o e) hb (neC b o e hx) (I.base.keep b o e n hb hx) (I.base.free b o e n hx)
 .obtain ⟨sl,e1⟩:=I.base.slot b o e n hb hx
  obtain ⟨sl',e2⟩:=slot b _ (neL b o e) hb (neC b o e hx) e1 (I.base.free b o e n hx)
  exact ⟨sl',e2⟩
 .obtain ⟨o',e1⟩:=I.base.there b o e hx
  exact free b o' (neC b o e hx) e1 (I.base.free b o e n hx)
 .obtain ⟨o',e1⟩:=I.base.there b o e hx
  exact there b o' (neC b o e hx) e1
 .obtain ⟨m1,e1⟩:=I.base.tbls b ps e
  obtain ⟨m2,e2⟩:=tbls b _ e1
  exact ⟨m1++m2,by rw [e2,Array.append_assoc]⟩
 .obtain ⟨m,hn,hl⟩:=I.loc
  refine ⟨m,ns m hn,fun i x v e1 e2 e3=>?_⟩
  obtain ⟨u,r,l⟩:=hl i x v e1 e2 e3
  refine ⟨u,r,?_⟩
  rcases l with l | ⟨k,c,e,z⟩
  .exact .inl l
  .exact .inr ⟨k,c,e,cellK x c e _ z⟩
 .obtain ⟨v,z⟩:=I.cell x c e
  exact ⟨v,cellK x c e v z⟩
 .obtain ⟨m,⟨o,_,_,ho,_⟩,_⟩:=I.loc
  exact free _ o (fun z=>(hch _ z).2.1 rfl) ho I.free
 .obtain ⟨v,o,ho,hd⟩:=I.cell x c e
  exact free c o (fun z=>(hch c z).2.2.1 x c e rfl) ho (I.freeC x c e)
 obtain ⟨e,n,ne,nf,d⟩:=I.pin p hp
 have nch:p.1∉ch:=fun z=>(hch p.1 z).2.2.2 p hp rfl
 exact ⟨keep p.1 p.2 ne nf nch e n,free p.1 p.2 nch e n,ne,nf,d⟩
theorem Inv.un {t':Nat}(I:Inv X pins σ H s)(u:Un X.fs [] H H' s.heap h')(hok:HOk X.prog X.w H' h'):Inv X pins σ H' { s with heap:=h',toks:=t' }:=by
 obtain ⟨m,⟨o,es,ep,ho,r⟩,_⟩:=id I.loc
 obtain ⟨sl,hL⟩:=u.any ho I.free zl
 exact I.step (g':=s.gens) (d':=s.drawn) (ch:=[]) (fun _ z=>nomatch z) (fun b o _ hb _ e n=>u.keep b o e n hb zl) (fun b o _ hb _ e n=>u.slot b o e n hb zl) (fun b o _ e n=>u.free b o e n zl) (fun b o _ e=>u.there b o e zl) u.tups u.frzs u.tbls (fun m' hm=>by
  obtain ⟨o',es',ep',ho',r'⟩:=hm
  rw [ho] at ho';cases ho'
  exact ⟨_,es',ep',hL,r'⟩) hok I.bare
theorem Inv.call {g':Array GenState}{t':Nat}{d':Drawn}{ch:List Addr}(I:Inv X pins σ H s)(u:Un (frs X.stack) ch H H' s.heap h')(hok:HOk X.prog X.w H' h')(hg:AllBare g')
  (hch:∀b∈ch,(b∈X.ex∨X.s₀.heap.objs.size<=b)/\b≠X.env.locals/\(∀x c,X.env.cells.lookup x=some c->c≠b)/\∀p∈X.pn++pins,p.1≠b) :
  Inv X pins σ H' { s with heap:=h',gens:=g',drawn:=d',toks:=t' }:=by
 obtain ⟨m,⟨o,es,ep,ho,r⟩,_⟩:=id I.loc
 obtain ⟨sl,hL⟩:=u.any ho I.free fun z=>(hch _ z).2.1 rfl
 exact I.step (ch:=ch) hch (fun b o hL hb hc e n=>u.keep b o e n (fun z=>(List.mem_cons.mp (I.stkSub b z)).elim hL hb) hc) (fun b o _ _ hc e n=>u.any e n hc) (fun b o hc e n=>u.free b o e n hc) (fun b o hc e=>u.there b o e hc) u.tups u.frzs u.tbls (fun m' hm=>by
  obtain ⟨o',es',ep',ho',r'⟩:=hm
  rw [ho] at ho';cases ho'
  exact ⟨_,es',ep',hL,r'⟩) hok hg
theorem Inv.turned {t':Nat}{it:Addr}(I:Inv X pins σ H s)(k:∀b o,b≠it->s.heap.get? b=some o->h'.get? b=some o)(hn:H it=none)(hL:it≠X.env.locals)
  (h1:it∈X.ex∨X.s₀.heap.objs.size<=it) (h2:∀x c,X.env.cells.lookup x=some c->c≠it) (h3:∀p∈X.pn++pins,p.1≠it):Inv X pins σ H { s with heap:=h',toks:=t' }:=by
 have nit:∀b u,H b=some u->b≠it:=fun b u e z=>by rw [z,hn] at e;cases e
 refine I.step (g':=s.gens) (d':=s.drawn) (ch:=[it]) (fun b hb=>?_) (fun b o _ _ hc e _=>k b o (fun z=>hc (by simp [z])) e) (fun b o _ _ hc e _=>⟨o.slots,k b o (fun z=>hc (by simp [z])) e⟩) (fun _ _ _ _ n=>n)
  (fun b o hc e=>⟨o,k b o (fun z=>hc (by simp [z])) e⟩) (fun _ _ e=>e) (fun _ _ _ e=>e) (fun b ps e=>⟨#[],by rw [e];simp⟩) (fun m hm=>?_) (fun b u e=>?_) I.bare
 .have e:b=it:=by simpa using hb
  subst e
  exact ⟨h1,hL,h2,h3⟩
 .obtain ⟨o,es,ep,ho,r⟩:=hm
  exact ⟨o,es,ep,k _ o (Ne.symm hL) ho,r⟩
 refine (I.hok b u e).stay (fun c v hc q=>k c v ?_ q) (fun _ q=>q) fun _ _ q=>q
 rcases hc with z | z
 .rw [z];exact nit b u e
 exact nit c _ z
theorem Inv.tok (I:Inv X pins σ H s)(t:Nat):Inv X pins σ H { s with toks:=t }:=I.un (h':=s.heap) (t':=t) Un.refl I.hok
theorem Inv.kept {t':Nat}(I:Inv X pins σ H s)(k:∀b u,s.heap.get? b=some u->h'.get? b=some u):Inv X pins σ H { s with heap:=h',toks:=t' }:=I.un (Un.kept k) (I.hok.kept k)
theorem Inv.laid {a:Addr}{o:HO}{t':Nat}(I:Inv X pins σ H s)(k:∀b u,s.heap.get? b=some u->h'.get? b=some u)(hp:s.heap.objs.size<=a)(new:ObjOk X.prog X.w (upd H a o) h' a o) :
  Inv X pins σ (upd H a o) { s with heap:=h',toks:=t' }:=I.un (Un.laid k hp (I.hok.fresh hp)) (I.hok.laid k hp new)
theorem Inv.write {x e:Addr}{o:HO}{t':Nat}(I:Inv X pins σ H s)(mu:Mut (H x))(he:e=x∨H e=some (.own x))(k:∀b u,b≠e->s.heap.get? b=some u->h'.get? b=some u)(heo:∃ u,h'.get? e=some u)
  (new:ObjOk X.prog X.w (upd H x o) h' x o):Inv X pins σ (upd H x o) { s with heap:=h',toks:=t' }:=I.un (Un.write mu he k heo) (I.hok.write mu he k heo new)
theorem Inv.weak {σ':List (Option V)}(I:Inv X pins σ H s)(hl:σ'.length=σ.length)(w:∀(i:Nat) v,σ'[i]?=some (some v)->σ[i]?=some (some v)):Inv X pins σ' H s :=
 ⟨I.ok,I.os,I.bare,I.base,let ⟨m,hn,hl'⟩:=I.loc;⟨m,hn,fun i x v e1 e2 e3=>hl' i x v e1 (w i v e2) e3⟩,I.cell,I.free,I.freeC,I.pin,I.hok,hl.trans I.len⟩
theorem Inv.pins_of {pins':List (Addr×Obj)}(I:Inv X pins σ H s)(h:∀p∈pins',s.heap.get? p.1=some p.2/\H p.1=none/\p.1≠X.env.locals/\p.1∉X.fs/\∀v,p.2.data≠.cell v):Inv X pins' σ H s :=
 ⟨I.ok,I.os,I.bare,I.base,I.loc,I.cell,I.free,I.freeC,fun p hp=>(List.mem_append.mp hp).elim (fun z=>I.pin p (List.mem_append_left _ z)) (h p),I.hok,I.len⟩
theorem ke {N:List Str}(hN:N.Nodup){i j:Nat}{x:Str}(a:N[i]?=some x)(b:N[j]?=some x):i=j:=by
 obtain ⟨h1,e1⟩:=List.getElem?_eq_some_iff.mp a
 obtain ⟨h2,e2⟩:=List.getElem?_eq_some_iff.mp b
 exact (List.getElem_inj hN).mp (e1.trans e2.symm)
theorem iS {M:Model}{A:Around}{E:Value->Shared->Prop}{i:Nat}{x:Str}{v:V}{u:Value}{Q:Unit->Shared->Prop}(I:Inv X pins σ H s)(hN:X.N.Nodup)(hi:X.N[i]?=some x)(hx:Loc X.env.scope x)(r:RelV v u)
  (h:∀s',Inv X pins (σ.set i (some v)) H s'->(∃ a,Heap.SameBut a s.heap s'.heap/\(a=X.env.locals∨X.env.cells.lookup x=some a))->Q () s') (hf:X.fn x=true∨X.env.scope.names.lookup x=some .local:=by first | exact .inl rfl | exact .inr rfl | assumption):wpAny M A (storeName X.env x u) Q E s:=by
 obtain ⟨m,hn,hl⟩:=id I.loc
 have hcls:(X.env.scope.kind == .class || (X.env.scope.kind == .module&&X.env.locals != X.env.globals))=false:=by rw [I.ok.kind];rfl
 have hiσ:i<σ.length:=by rw [I.len];exact (List.getElem?_eq_some_iff.mp hi).1
 have cne:=I.cne
 have tracked:∀{a:Addr} {h':Heap},(∃ o,s.heap.get? a=some o/\H a=none)->Heap.SameBut a s.heap h'->HOk X.prog X.w H h':=fun {a h'} ha hs b ob e=>by
  obtain ⟨_,_,hfree⟩:=ha
  refine (I.hok b ob e).stay (fun c w' hc q=>(hs.2 c ?_).trans q) (fun _ q=>q) fun _ _ q=>q
  rintro rfl
  rcases hc with rfl | hc
  .rw [hfree] at e;cases e
  .rw [hfree] at hc;cases hc
 rcases hx with hk | hk
 .refine wpAny_storeName_local hk hn (fun h' hn' hs=>?_) hcls
  obtain ⟨oL,_,_,hoL,_⟩:=id hn
  refine h _ ⟨I.ok,I.os,I.bare,⟨fun b o e n hb hx=>?_,fun b o e n hb hx=>?_,I.base.free,fun b o e hx=>?_,I.base.tups,I.base.frzs,I.base.tbls⟩,⟨_,hn',fun j y v' e1 e2 e3=>?_⟩,fun y c e=>?_,I.free,I.freeC,fun p hp=>?_,tracked ⟨oL,hoL,I.free⟩ hs,by simpa using I.len⟩ ⟨_,hs,.inl rfl⟩
  .exact (hs.2 b (Nat.ne_of_lt (Nat.lt_of_lt_of_le (Heap.lt_size e) I.ok.above))).trans (I.base.keep b o e n hb hx)
  .obtain ⟨sl,e1⟩:=I.base.slot b o e n hb hx
   exact ⟨sl,(hs.2 b (Nat.ne_of_lt (Nat.lt_of_lt_of_le (Heap.lt_size e) I.ok.above))).trans e1⟩
  .obtain ⟨o',e1⟩:=I.base.there b o e hx
   exact ⟨o',(hs.2 b (Nat.ne_of_lt (Nat.lt_of_lt_of_le (Heap.lt_size e) I.ok.above))).trans e1⟩
  .by_cases hj:j=i
   .subst hj
    rw [hi] at e1;cases e1
    rw [List.getElem?_set_self hiσ] at e2
    cases e2
    exact ⟨u,r,.inl ⟨hk,zl⟩⟩
   .rw [List.getElem?_set_ne (Ne.symm hj)] at e2
    obtain ⟨u',r',q⟩:=hl j y v' e1 e2 e3
    refine ⟨u',r',?_⟩
    rcases q with ⟨k,e⟩ | ⟨k,c,e,z⟩
    .refine .inl ⟨k,?_⟩
     have:y≠x:=fun e=>hj (ke hN e1 (e▸hi))
     simp [this,e]
    .exact .inr ⟨k,c,e,z.sameBut hs (cne y c e)⟩
  .obtain ⟨w',z⟩:=I.cell y c e
   exact ⟨w',z.sameBut hs (cne y c e)⟩
  .obtain ⟨e,n,ne,nf,d⟩:=I.pin p hp
   exact ⟨(hs.2 p.1 ne).trans e,n,ne,nf,d⟩
 have hfn:X.fn x=true:=by
  rcases hf with z | z
  .exact z
  .rw [z] at hk;cases hk
 obtain ⟨c,hc⟩:=I.ok.has x (.inl hk)
 obtain ⟨w',z⟩:=I.cell x c hc
 refine wpAny_storeName_cell I.ok.kind hk hc z (fun h' hc' hs=>?_)
 obtain ⟨oc,hoc,hocd⟩:=id z
 refine h { s with heap:=h' } ⟨I.ok,I.os,I.bare,⟨fun b o e n hb hx=>?_,fun b o e n hb hx=>?_,I.base.free,fun b o e hx=>?_,I.base.tups,I.base.frzs,I.base.tbls⟩,⟨m,hn.sameBut hs (Ne.symm (cne x c hc)),fun j y v' e1 e2 e3=>?_⟩,fun y c' e=>?_,I.free,I.freeC,fun p hp=>?_,tracked ⟨oc,hoc,I.freeC x c hc⟩ hs,by simpa using I.len⟩ ⟨c,hs,.inr hc⟩
 .exact (hs.2 b (Nat.ne_of_lt (Nat.lt_of_lt_of_le (Heap.lt_size e) (I.ok.cab x c hfn hc)))).trans (I.base.keep b o e n hb hx)
 .obtain ⟨sl,e1⟩:=I.base.slot b o e n hb hx
  exact ⟨sl,(hs.2 b (Nat.ne_of_lt (Nat.lt_of_lt_of_le (Heap.lt_size e) (I.ok.cab x c hfn hc)))).trans e1⟩
 .obtain ⟨o',e1⟩:=I.base.there b o e hx
  exact ⟨o',(hs.2 b (Nat.ne_of_lt (Nat.lt_of_lt_of_le (Heap.lt_size e) (I.ok.cab x c hfn hc)))).trans e1⟩
 .by_cases hj:j=i
  .subst hj
   rw [hi] at e1;cases e1
   rw [List.getElem?_set_self hiσ] at e2
   cases e2
   exact ⟨u,r,.inr ⟨.inl hk,c,hc,hc'⟩⟩
  .rw [List.getElem?_set_ne (Ne.symm hj)] at e2
   obtain ⟨u',r',q⟩:=hl j y v' e1 e2 e3
   refine ⟨u',r',?_⟩
   rcases q with q | ⟨k,c',e,z'⟩
   .exact .inl q
   .refine .inr ⟨k,c',e,z'.sameBut hs ?_⟩
    rintro rfl
    exact hj (ke hN e1 (I.ok.inj _ _ _ e hc▸hi))
 .by_cases hcc:c'=c
  .subst hcc;exact ⟨_,hc'⟩
  .obtain ⟨w2,z2⟩:=I.cell y c' e
   exact ⟨w2,z2.sameBut hs hcc⟩
 obtain ⟨e,n,ne,nf,d⟩:=I.pin p hp
 refine ⟨(hs.2 p.1 ?_).trans e,n,ne,nf,d⟩
 intro q
 rw [q,hoc] at e
 have q':oc=p.2:=Option.some.inj e
 exact d w' (by rw [<-q'];exact hocd)
theorem gs {M:Model}{A:Around}{E:Value->Shared->Prop}{i:Nat}{x:Str}{v:V}{u:Value}{Q:Unit->Shared->Prop}(I:Inv X pins σ H s)(hN:X.N.Nodup)(hi:X.N[i]?=some x)(hx:Loc X.env.scope x)(r:RelV v u)
  (h:∀s',Inv X pins (σ.set i (some v)) H s'->Q () s') (hf:X.fn x=true∨X.env.scope.names.lookup x=some .local:=by first | exact .inl rfl | exact .inr rfl | assumption):wpAny M A (storeName X.env x u) Q E s :=
 iS I hN hi hx r (fun s' I' _=>h s' I') hf
theorem Inv.call' {s':Shared}{ch:List Addr}(I:Inv X pins σ H s)(ho:s'.os=s.os)(u:Un (frs X.stack) ch H H' s.heap s'.heap)(hok:HOk X.prog X.w H' s'.heap)(hg:AllBare s'.gens)
  (hch:∀b∈ch,(b∈X.ex∨X.s₀.heap.objs.size<=b)/\b≠X.env.locals/\(∀x c,X.env.cells.lookup x=some c->c≠b)/\∀p∈X.pn++pins,p.1≠b):Inv X pins σ H' s':=by
 obtain ⟨h',g',d',t',o'⟩:=s'
 have e:o'=s.os:=ho
 subst e
 exact I.call (g':=g') (t':=t') (d':=d') u hok hg hch
end
abbrev XK:=Value->Option Addr->Hp->Prop
abbrev St:=List (Option V)
abbrev VK:=V->Hp->Prop
abbrev TE:=St->Hp->VK->Prop
abbrev TT:=St->Hp->(Bool->Hp->Prop)->Prop
abbrev TA:=St->Hp->(List V->Hp->Prop)->Prop
structure eZ where
 nx:St->Hp->Prop
 rt:VK
 bk:St->Hp->Prop:=fun _ _=>False
 ct:St->Hp->Prop:=fun _ _=>False
abbrev TS:=eZ->St->Hp->Prop
def EP (X:Cx)(pins:List (Addr×Obj))(σ:St)(Q:VK)(u:Value)(s':Shared):Prop:=∃ v H',Inv X pins σ H' s'/\RelV v u/\Q v H'
def TP (X:Cx)(pins:List (Addr×Obj))(σ:St)(Q:Bool->Hp->Prop)(b:Bool)(s':Shared):Prop:=∃ H',Inv X pins σ H' s'/\Q b H'
def AP (X:Cx)(pins:List (Addr×Obj))(σ:St)(Q:List V->Hp->Prop)(us:List Value)(s':Shared):Prop:=∃ vs H',Inv X pins σ H' s'/\Vals vs us/\Q vs H'
def SP (X:Cx)(pins:List (Addr×Obj))(D:eZ)(f:Flow)(s':Shared):Prop :=
 match f with
 | .next=>∃ σ' H',Inv X pins σ' H' s'/\D.nx σ' H'
 | .brk=>∃ σ' H',Inv X pins σ' H' s'/\D.bk σ' H'
 | .cont=>∃ σ' H',Inv X pins σ' H' s'/\D.ct σ' H'
 | .ret u=>∃ v σ' H',Inv X pins σ' H' s'/\RelV v u/\D.rt v H'
def PE (X:Cx)(e:Expr)(t:TE):Prop :=
 ∀(pins:List (Addr×Obj)) (s:Shared) (σ:St) (H:Hp) (Q:VK),Inv X pins σ H s->t σ H Q->wpAny (model X.prog X.w) X.A (eval e X.env) (EP X pins σ Q) X.xe s
def PT (X:Cx)(e:Expr)(t:TT):Prop :=
 ∀(pins:List (Addr×Obj)) (s:Shared) (σ:St) (H:Hp) (Q:Bool->Hp->Prop),Inv X pins σ H s->t σ H Q->wpAny (model X.prog X.w) X.A (isTrue e X.env (eval e X.env)) (TP X pins σ Q) X.xe s
def PW (X:Cx)(e:Expr)(t:TT):Prop :=
 ∀(whole:Sem Value) (pins:List (Addr×Obj)) (s:Shared) (σ:St) (H:Hp) (Q:Bool->Hp->Prop),Inv X pins σ H s->t σ H Q->wpAny (model X.prog X.w) X.A (isTrue e X.env whole) (TP X pins σ Q) X.xe s
theorem PW.pt {X:Cx}{e:Expr}{t:TT}(h:PW X e t):PT X e t:=h _
def PA (X:Cx)(es:List Expr)(t:TA):Prop :=
 ∀(pos:Pos) (pins:List (Addr×Obj)) (s:Shared) (σ:St) (H:Hp) (Q:List V->Hp->Prop),Inv X pins σ H s->t σ H Q->wpAny (model X.prog X.w) X.A (spliced (backTo pos (starEach es X.env))) (AP X pins σ Q) X.xe s
def PS (X:Cx)(st:Stmt)(t:TS):Prop :=
 ∀(pins:List (Addr×Obj)) (s:Shared) (σ:St) (H:Hp) (D:eZ),Inv X pins σ H s->t D σ H->wpAny (model X.prog X.w) X.A (exec st X.env) (SP X pins D) X.xe s
def PSs (X:Cx)(st:List Stmt)(t:TS):Prop :=
 ∀(pins:List (Addr×Obj)) (s:Shared) (σ:St) (H:Hp) (D:eZ),Inv X pins σ H s->t D σ H->wpAny (model X.prog X.w) X.A (execs st X.env) (SP X pins D) X.xe s
theorem thn {α:Type}{t:Sem α}{Q Q':α->Shared->Prop}{M:Model}{A:Around}{E:Value->Shared->Prop}{s:Shared}(h:wpAny M A t Q E s)(hQ:∀a s,Q a s->Q' a s):wpAny M A t Q' E s:=wpAny_mono h hQ fun _ _ x=>x
section
variable {X:Cx}
def yN (i:Nat):TE:=fun σ H Q=>∃ v,σ[i]?=some (some v)/\Q v H
def tC (v:V):TE:=fun _ H Q=>Q v H
theorem wW {i:Nat}{x:Str}{pos:Pos}(hN:X.N[i]?=some x)(hv:Vis X.env.scope x)(hd:(x == ("__debug__":Str))=false:=by decide)(hcd:(x == ("__classdict__":Str))=false:=by decide):PE X (.Name x pos) (yN i):=by
 intro pins s σ H Q I h
 obtain ⟨v,e,h⟩:=h
 obtain ⟨m,hn,hl⟩:=I.loc
 obtain ⟨u,r,l⟩:=hl i x v hN e hv
 have fin:EP X pins σ Q u s:=⟨v,H,I,r,h⟩
 rcases l with ⟨hk,hm⟩ | ⟨hk,c,hc,hcell⟩
 .exact wpAny_Name (wpAny_loadName_local I.ok.kind hk hn hm fin) hd
 rcases hk with hk | hk
 .exact wpAny_Name (wpAny_loadName_cell I.ok.kind hk hc hcell fin) hd
 exact wpAny_Name (wpAny_loadName_free I.ok.kind hk hc hcell fin hcd) hd
theorem sV {i j pos}:PE X (.Constant (.int i) j pos) (tC (.int i)):=fun _ _ _ H _ I h=>wpAny_Constant_int ⟨.int i,H,I.tok _,⟨_,rfl⟩,h⟩
theorem xW {b j pos}:PE X (.Constant (.bool b) j pos) (tC (.bl b)):=fun _ _ _ H _ I h=>Constant_bool ⟨.bl b,H,I,rfl,h⟩
theorem lI {x j pos}:PE X (.Constant (.str x) j pos) (tC (.str x)):=fun _ _ _ H _ I h=>Calls.Constant_str ⟨.str x,H,I.tok _,⟨_,rfl⟩,h⟩
def Gl (X:Cx)(x:Str):Prop:=X.env.kindOf x=some .globalImplicit
theorem cR {E:Value->Shared->Prop}{pins:List (Addr×Obj)}{s:Shared}{σ:St}{H:Hp}{x:Str}{u:Value}{pos:Pos}{Q:Value->Shared->Prop}(I:Inv X pins σ H s)(hg:Gl X x)(hm:X.mg x=some u)(h:Q u s)
  (hd:(x == ("__debug__":Str))=false:=by decide):wpAny (model X.prog X.w) X.A (eval (.Name x pos) X.env) Q E s :=
 Calls.Name_function_global I.ok.kind hg (Calls.loadGlobal_global (by rw [I.ok.glob];exact I.mod.glob.keeps I.bk) hm h) hd
theorem fQ {E:Value->Shared->Prop}{pins:List (Addr×Obj)}{s:Shared}{σ:St}{H:Hp}{x:Str}{u:Value}{pos:Pos}{Q:Value->Shared->Prop}(I:Inv X pins σ H s)(hg:Gl X x)(hm:X.mg x=none)(hv:bootBuiltins x=some u)(h:Q u s)
  (hn:x≠"__name__":=by decide) (hd:(x == ("__debug__":Str))=false:=by decide):wpAny (model X.prog X.w) X.A (eval (.Name x pos) X.env) Q E s:=by
 obtain ⟨mb,h1,h2⟩:=I.mod.blt
 exact Calls.Name_function_global I.ok.kind hg (Calls.loadGlobal_builtin (by rw [I.ok.glob];exact I.mod.glob.keeps I.bk) hm (by rw [I.ok.blt];exact h1.keeps I.bk) ((h2 x hn).trans hv) h) hd
theorem tK {x:Str}{v:V}{u:Value}{pos:Pos}(hg:Gl X x)(hm:X.mg x=some u)(r:RelV v u)(hd:(x == ("__debug__":Str))=false:=by decide):PE X (.Name x pos) (tC v) :=
 fun _ _ _ H _ I h=>cR I hg hm ⟨v,H,I,r,h⟩ hd
theorem uN {x:Str}{v:V}{u:Value}{pos:Pos}(hg:Gl X x)(hm:X.mg x=none)(hv:bootBuiltins x=some u)(r:RelV v u)(hn:x≠"__name__":=by decide)(hd:(x == ("__debug__":Str))=false:=by decide):PE X (.Name x pos) (tC v) :=
 fun _ _ _ H _ I h=>fQ I hg hm hv ⟨v,H,I,r,h⟩ hn hd
variable {a b:Expr}{ta tb:TE}{pos:Pos}
def PC (X:Cx)(op:CmpOp)(a b:Expr)(t:TE):Prop :=
 ∀(pins:List (Addr×Obj)) (s:Shared) (σ:St) (H:Hp) (Q:VK),Inv X pins σ H s->t σ H Q ->
  wpAny (model X.prog X.w) X.A (eval a X.env) (fun v s₁=>wpAny (model X.prog X.w) X.A (eval b X.env) (fun u s₂=>wpAny (model X.prog X.w) X.A (compareOp op v u) (EP X pins σ Q) X.xe s₂) X.xe s₁) X.xe s
def tB (t:TE):TT:=fun σ H Q=>t σ H fun x H1=>∃ c,x=.bl c/\Q c H1
theorem xu {op:CmpOp}{t:TE}(h:PC X op a b t)(h1:behindInMarks op b=false:=by first | exact nobehind _ zj zj | rfl):PE X (.Compare a [op] [b] pos) t:=fun pins s σ H Q I hw=>wpAny_Compare1 (h pins s σ H Q I hw) h1
theorem rp {op:CmpOp}{t:TE}(h:PC X op a b t)(h1:behindInMarks op b=false:=by first | exact nobehind _ zj zj | rfl):PT X (.Compare a [op] [b] pos) (tB t):=by
 intro pins s σ H Q I hw
 refine wpAny_isTrue_Compare1 (thn (h pins s σ H _ I hw) fun v s1 h1=>thn h1 fun u s2 h2=>thn h2 fun c s3 zz=>?_) h1
 obtain ⟨x,H1,I1,r1,q1⟩:=zz
 obtain ⟨d,rfl,q⟩:=q1
 cases r1
 exact wpAny_truthy_bool ⟨H1,I1,q⟩
theorem w6 {e:Expr}{t:TE}(h:PE X e t)(he:∀whole,isTrue e X.env whole=(do let v <-whole;standAt e.pos;holding [v] (truthy v)):=by intro _;rfl):PT X e (tB t):=by
 intro pins s σ H Q I hw
 refine isTrue_plain (thn (h pins s σ H _ I hw) fun v s1 zz=>?_) (he _)
 obtain ⟨x,H1,I1,r1,q1⟩:=zz
 obtain ⟨d,rfl,q⟩:=q1
 cases r1
 exact wpAny_truthy_bool ⟨H1,I1,q⟩
variable {tA tB':TT}{cc:List Expr}
def yG (t u:TT):TT:=fun σ H Q=>t σ H fun c H1=>if c=true then u σ H1 Q else Q false H1
def tOr (t u:TT):TT:=fun σ H Q=>t σ H fun c H1=>if c=true then Q true H1 else u σ H1 Q
def yq (t:TT):TT:=fun σ H Q=>t σ H fun c H1=>Q (!c) H1
theorem pw_and1 (ha:PT X a tA):PW X (.BoolOp .And [a] pos) tA:=by
 intro wh pins s σ H Q I h
 refine isTrue_and (thn (ha pins s σ H Q I h) fun c s1 e=>?_)
 cases c with
 | true=>exact isTrue_and_nil e
 | false=>exact e
theorem pw_or1 (ha:PT X a tA):PW X (.BoolOp .Or [a] pos) tA:=by
 intro wh pins s σ H Q I h
 refine isTrue_or (thn (ha pins s σ H Q I h) fun c s1 e=>?_)
 cases c with
 | false=>exact isTrue_or_nil e
 | true=>exact e
theorem pw_and (ha:PT X a tA)(hb:PW X (.BoolOp .And (b::cc) pos) tB'):PW X (.BoolOp .And (a::b::cc) pos) (yG tA tB'):=by
 intro wh pins s σ H Q I h
 refine isTrue_and (thn (ha pins s σ H _ I h) fun c s1 zz=>?_)
 obtain ⟨H1,I1,q1⟩:=zz
 cases c with
 | true=>exact hb wh pins s1 σ H1 Q I1 q1
 | false=>exact ⟨H1,I1,q1⟩
theorem pw_or (ha:PT X a tA)(hb:PW X (.BoolOp .Or (b::cc) pos) tB'):PW X (.BoolOp .Or (a::b::cc) pos) (tOr tA tB'):=by
 intro wh pins s σ H Q I h
 refine isTrue_or (thn (ha pins s σ H _ I h) fun c s1 zz=>?_)
 obtain ⟨H1,I1,q1⟩:=zz
 cases c with
 | true=>exact ⟨H1,I1,q1⟩
 | false=>exact hb wh pins s1 σ H1 Q I1 q1
theorem xi (ha:PT X a tA):PT X (.UnaryOp .Not a pos) (yq tA):=by
 intro pins s σ H Q I h
 exact isTrue_not (ha pins s σ H (fun c H1=>Q (!c) H1) I h)
def vv (ta tb:TE):TE:=fun σ H Q=>ta σ H fun x H1=>∃ c,x=.bl c/\if c=true then tb σ H1 Q else Q (.bl false) H1
theorem wm {op}{t:TE}(h:PE X a t):PE X (.BoolOp op [a] pos) t:=fun pins s σ H Q I hw=>BoolOp_one (h pins s σ H Q I hw)
theorem we (ha:PE X a ta)(hb:PE X (.BoolOp .And (b::cc) pos) tb):PE X (.BoolOp .And (a::b::cc) pos) (vv ta tb):=by
 intro pins s σ H Q I h
 refine BoolOp_and (thn (ha pins s σ H _ I h) fun v s1 zz=>?_)
 obtain ⟨x,H1,I1,r1,q1⟩:=zz
 obtain ⟨c,rfl,q1⟩:=q1
 cases r1
 refine wpAny_truthy_bool ?_
 cases c with
 | true=>exact hb pins s1 σ H1 Q I1 q1
 | false=>exact ⟨.bl false,H1,I1,rfl,q1⟩
end
def SqL (K:W.Frag)(H:Hp)(a:Addr)(xs:List V):Prop :=
 Rd H a (.lst xs) ∨
  ∃ (o:Obj) (its:Array Value) (n:Nat),K.lookup a=some o/\o.cls=.type "list"/\o.dict=none/\o.data=.seq its n/\its.size<=sizeLine/\Vals xs its.toList
def SqT (K:W.Frag)(H:Hp)(a:Addr)(xs:List V):Prop :=
 Rd H a (.tup xs) ∨
  ∃ (o:Obj) (its:Array Value) (n:Nat),K.lookup a=some o/\o.cls=.type "tuple"/\o.data=.seq its n/\its.size<=sizeLine/\Vals xs its.toList
def zc:Value->Option V
 | .none=>some .non
 | .bool b=>some (.bl b)
 | .int i _=>some (.int i)
 | .str x _=>some (.str x)
 | .bytes b _=>some (.byt b)
 | .float b _=>some (.flt b)
 | .ref a=>some (.ref a)
 | .type n=>some (.ty n)
 | _=>none
theorem RelV.abs {x:V}{u:Value}(r:RelV x u):zc u=some x:=by
 cases x with
 | non=>cases r;rfl
 | bl _=>cases r;rfl
 | int _=>obtain ⟨t,rfl⟩:=r;rfl
 | str _=>obtain ⟨t,rfl⟩:=r;rfl
 | byt _=>obtain ⟨t,rfl⟩:=r;rfl
 | flt _=>obtain ⟨t,rfl⟩:=r;rfl
 | ref _=>cases r;rfl
 | ty _=>cases r;rfl
theorem RelV.inj {x y:V}{u:Value}(r:RelV x u)(q:RelV y u):x=y:=Option.some.inj (r.abs.symm.trans q.abs)
theorem Vals.inj:∀{xs ys:List V} {us:List Value},Vals xs us->Vals ys us->xs=ys
 | _,_,_,.nil,.nil=>rfl
 | _,_,_,.cons r t,.cons r' t'=>by rw [r.inj r',Vals.inj t t']
section
variable {X:Cx}{pins:List (Addr×Obj)}{σ:St}{H:Hp}{s:Shared}{a:Addr}{xs ys:List V}
theorem SqL.of {K:W.Frag}(h:H a=some (.lst xs)):SqL K H a xs:=.inl (.inl h)
theorem SqT.of {K:W.Frag}(h:H a=some (.tup xs)):SqT K H a xs:=.inl (.inl h)
theorem Inv.list (I:Inv X pins σ H s)(h:SqL X.K H a xs):∃ its:List Value,Vals xs its/\PlainL s.heap a its.toArray/\xs.length<=sizeLine:=by
 rcases h with h | ⟨o,its,n,hk,hc,hd,hs,hz,r⟩
 .obtain ⟨z,its,n,r,e⟩:=h.ok I.hok
  exact ⟨its,r,⟨_,n,e,rfl,rfl,rfl⟩,z⟩
 refine ⟨its.toList,r,⟨o,n,I.kIn a o hk,hc,hd,by simpa using hs⟩,?_⟩
 have e:=r.length
 simp only [Array.length_toList] at e
 lia
theorem Inv.tuple (I:Inv X pins σ H s)(h:SqT X.K H a xs):∃ its:List Value,Vals xs its/\IsTup s.heap a its.toArray/\xs.length<=sizeLine:=by
 rcases h with h | ⟨o,its,n,hk,hc,hs,hz,r⟩
 .obtain ⟨z,its,r,p⟩:=h.ok I.hok
  exact ⟨its,r,p,z⟩
 refine ⟨its.toList,r,⟨o,I.kIn a o hk,hc,n,by simpa using hs⟩,?_⟩
 have e:=r.length
 simp only [Array.length_toList] at e
 lia
theorem Inv.list_inj (I:Inv X pins σ H s)(h:SqL X.K H a xs)(h':SqL X.K H a ys):xs=ys:=by
 obtain ⟨its,r,⟨o,n,e,_,_,d⟩,_⟩:=I.list h
 obtain ⟨its',r',⟨o',n',e',_,_,d'⟩,_⟩:=I.list h'
 rw [e] at e';cases e'
 rw [d] at d'
 injection d' with d1 _
 have:its=its':=by simpa using congrArg Array.toList d1
 subst this
 exact r.inj r'
theorem Inv.tuple_inj (I:Inv X pins σ H s)(h:SqT X.K H a xs)(h':SqT X.K H a ys):xs=ys:=by
 obtain ⟨its,r,⟨o,e,_,n,d⟩,_⟩:=I.tuple h
 obtain ⟨its',r',⟨o',e',_,n',d'⟩,_⟩:=I.tuple h'
 rw [e] at e';cases e'
 rw [d] at d'
 injection d' with d1 _
 have:its=its':=by simpa using congrArg Array.toList d1
 subst this
 exact r.inj r'
end
abbrev Cx.wish (X:Cx)(E:Value->Shared->Prop):Cx:={ X with xe:=E }
abbrev Cx.nox (X:Cx):Cx:=X.wish fun _ _=>False
theorem Cx.Ok.wish {X:Cx}(ok:X.Ok)(E:Value->Shared->Prop):(X.wish E).Ok :=
 ⟨ok.mod,ok.kind,ok.glob,ok.blt,ok.above,ok.inj,ok.has,ok.cab,ok.hd,ok.frames,ok.stk,ok.exf,ok.bs,ok.bsz,ok.noex,ok.exfs,ok.funs,ok.frf⟩
theorem Cx.Ok.unwish {X:Cx}{E:Value->Shared->Prop}(ok:(X.wish E).Ok):X.Ok :=
 ⟨ok.mod,ok.kind,ok.glob,ok.blt,ok.above,ok.inj,ok.has,ok.cab,ok.hd,ok.frames,ok.stk,ok.exf,ok.bs,ok.bsz,ok.noex,ok.exfs,ok.funs,ok.frf⟩
section
variable {X:Cx}{pins:List (Addr×Obj)}{σ:St}{H:Hp}{s:Shared}{E:Value->Shared->Prop}
theorem Inv.wish (I:Inv X pins σ H s)(E:Value->Shared->Prop):Inv (X.wish E) pins σ H s:=⟨I.ok.wish E,I.os,I.bare,I.base,I.loc,I.cell,I.free,I.freeC,I.pin,I.hok,I.len⟩
theorem Inv.unwish (I:Inv (X.wish E) pins σ H s):Inv X pins σ H s:=⟨I.ok.unwish,I.os,I.bare,I.base,I.loc,I.cell,I.free,I.freeC,I.pin,I.hok,I.len⟩
theorem SP.unwish {D:eZ}{f:Flow}{s':Shared}(h:SP (X.wish E) pins D f s'):SP X pins D f s':=by
 cases f with
 | next=>obtain ⟨σ',H',I,q⟩:=h;exact ⟨σ',H',I.unwish,q⟩
 | brk=>obtain ⟨σ',H',I,q⟩:=h;exact ⟨σ',H',I.unwish,q⟩
 | cont=>obtain ⟨σ',H',I,q⟩:=h;exact ⟨σ',H',I.unwish,q⟩
 | ret u=>obtain ⟨v,σ',H',I,r,q⟩:=h;exact ⟨v,σ',H',I.unwish,r,q⟩
theorem PSs.nox {st:List Stmt}{t:TS}(h:PSs X.nox st t):PSs X st t:=fun pins s σ H D I hw =>
 wpAny_mono (h pins s σ H D (I.wish _) hw) (fun _ _ q=>q.unwish) fun _ _ z=>False.elim z
end
section
variable {X:Cx}{st:Stmt}{cc:List Stmt}{t u:TS}{e:Expr}{te:TE}{pos:Pos}
def vQ:TS:=fun D σ H=>D.nx σ H
def yR (t u:TS):TS:=fun D σ H=>t { D with nx:=u D } σ H
theorem uO:PSs X [] vQ:=fun _ _ σ H _ I h=>wpAny_execs_nil ⟨σ,H,I,h⟩
theorem qu (h1:PS X st t)(h2:PSs X cc u):PSs X (st::cc) (yR t u):=by
 intro pins s σ H D I h
 refine wpAny_execs_cons (thn (h1 pins s σ H { D with nx:=u D } I h) fun f s1 q=>?_)
 cases f with
 | next =>
  obtain ⟨σ',H',I',q⟩:=q
  exact h2 pins s1 σ' H' D I' q
 | ret v=>exact q
 | brk=>exact q
 | cont=>exact q
theorem tO (h1:PS X st t):PSs X [st] t:=by
 intro pins s σ H D I h
 refine wpAny_execs_cons (thn (h1 pins s σ H D I h) fun f s1 q=>?_)
 cases f with
 | next=>exact wpAny_execs_nil q
 | ret v=>exact q
 | brk=>exact q
 | cont=>exact q
theorem Inv.quiet {pins:List (Addr×Obj)}{σ:St}{H:Hp}{s:Shared}(I:Inv X pins σ H s):interactive X.env=false:=by simp [interactive,I.ok.kind]
def vz (te:TE):TS:=fun D σ H=>te σ H fun _ H1=>D.nx σ H1
theorem vg (he:PE X e te)(hs:swapsWith e none pos.line X.env=pure false:=by rfl):PS X (.Expr e pos) (vz te):=by
 intro pins s σ H D I h
 exact wpAny_Expr_any (thn (he pins s σ H _ I h) fun v s1 ⟨x,H1,I1,r1,q1⟩=>⟨σ,H1,I1,q1⟩) I.quiet hs
def yQ (te:TE):TS:=fun D σ H=>te σ H D.rt
theorem wB (he:PE X e te):PS X (.Return (some e) pos) (yQ te):=by
 intro pins s σ H D I h
 exact wpAny_Return_some (thn (he pins s σ H _ I h) fun v s1 ⟨x,H1,I1,r1,q1⟩=>⟨x,σ,H1,I1,r1,q1⟩)
def yd (c:TT)(t u:TS):TS:=fun D σ H=>c σ H fun b H1=>if b=true then t D σ H1 else u D σ H1
theorem vk {c:Expr}{a b:List Stmt}{tc:TT}(hc:PT X c tc)(ha:PSs X a t)(hb:PSs X b u):PS X (.If c a b pos) (yd tc t u):=by
 intro pins s σ H D I h
 refine wpAny_If (thn (hc pins s σ H _ I h) fun d s1 zz=>?_)
 obtain ⟨H1,I1,q1⟩:=zz
 cases d with
 | true=>exact ha pins s1 σ H1 D I1 q1
 | false=>exact hb pins s1 σ H1 D I1 q1
end
abbrev TG:=V->St->Hp->(St->Hp->Prop)->Prop
abbrev TGs:=List V->St->Hp->(St->Hp->Prop)->Prop
def PG (X:Cx)(target:Expr)(t:TG):Prop :=
 ∀(pins:List (Addr×Obj)) (s:Shared) (σ:St) (H:Hp) (v:V) (u:Value) (Q:St->Hp->Prop),Inv X pins σ H s->RelV v u->t v σ H Q ->
  wpAny (model X.prog X.w) X.A (assign target X.env u) (fun _ s'=>∃ σ' H',Inv X pins σ' H' s'/\Q σ' H') X.xe s
def PGs (X:Cx)(ts:List Expr)(t:TGs):Prop :=
 ∀(pins:List (Addr×Obj)) (s:Shared) (σ:St) (H:Hp) (vs:List V) (us:List Value) (Q:St->Hp->Prop),Inv X pins σ H s->Vals vs us->t vs σ H Q ->
  wpAny (model X.prog X.w) X.A (assignInOrder ((assignEach ts X.env).map (·.2)) us) (fun _ s'=>∃ σ' H',Inv X pins σ' H' s'/\Q σ' H') X.xe s
abbrev tL:=V->V->V->Hp->(Hp->Prop)->Prop
def xI (X:Cx)(t:tL):Prop :=
 ∀(pins:List (Addr×Obj)) (s:Shared) (σ:St) (H:Hp) (o i v:V) (ov iv u:Value) (Q:Hp->Prop),Inv X pins σ H s->RelV o ov->RelV i iv->RelV v u->t o i v H Q ->
  wpAny (model X.prog X.w) X.A (setItem ov iv u) (fun _ s'=>∃ H',Inv X pins σ H' s'/\Q H') X.xe s
section
variable {X:Cx}{pos:Pos}
def dN (i:Nat):TG:=fun v σ H Q=>Q (σ.set i (some v)) H
theorem nz {i:Nat}{x:Str}(hN:X.N.Nodup)(hi:X.N[i]?=some x)(hx:Loc X.env.scope x)(hf:X.fn x=true∨X.env.scope.names.lookup x=some .local:=by first | exact .inl rfl | exact .inr rfl | assumption):PG X (.Name x pos) (dN i):=by
 intro pins s σ H v u Q I r h
 exact wpAny_assign_Name (gs I hN hi hx r (fun s' I'=>⟨_,H,I',h⟩) hf)
def xL:TGs:=fun vs σ H Q=>vs=[]/\Q σ H
def vi (t:TG)(u:TGs):TGs:=fun vs σ H Q=>∃ v r,vs=v::r/\t v σ H fun σ' H'=>u r σ' H' Q
theorem uD:PGs X [] xL:=by
 intro pins s σ H vs us Q I r h
 obtain ⟨e,h⟩:=h
 subst e
 cases r
 exact assignInOrder_nil ⟨σ,H,I,h⟩
theorem qY {e:Expr}{es:List Expr}{t:TG}{u:TGs}(h1:PG X e t)(h2:PGs X es u)
  (hs:(assignEach (e::es) X.env).map (·.2)=assign e X.env::(assignEach es X.env).map (·.2):=by rfl):PGs X (e::es) (vi t u):=by
 intro pins s σ H vs us Q I r h
 obtain ⟨v,vr,e1,h⟩:=h
 subst e1
 cases r with
 | cons r rr =>
  rw [hs]
  refine assignInOrder_cons (thn (h1 pins s σ H _ _ _ I r h) fun _ s1 zz=>?_)
  obtain ⟨σ1,H1,I1,q1⟩:=zz
  exact h2 pins s1 σ1 H1 _ _ Q I1 rr q1
def yi (K:W.Frag)(n:Nat)(t:TGs):TG:=fun v σ H Q=>∃ a xs,v=.ref a/\SqT K H a xs/\xs.length=n/\t xs σ H Q
theorem v3 {es:List Expr}{k:Nat}{t:TGs}{n:Nat}(hc:X.calm=true)(h:PGs X es t)
  (hn:(assignEach es X.env).length=n:=by rfl) (hst:(assignEach es X.env).findIdx? (·.1)=none:=by rfl):PG X (.Tuple es k pos) (yi X.K n t):=by
 intro pins s σ H v u Q I r hw
 obtain ⟨a,xs,e1,hq,hl,hw⟩:=hw
 subst e1
 cases r
 obtain ⟨its,rv,ht,hz⟩:=I.tuple hq
 refine assign_Tuple_tuple (I.ok.hd hc) ht (by simp [hn,<-hl,rv.length]) hst fun h' hx=>?_
 have I1:Inv X pins σ H { s with heap:=h' }:=I.kept (t':=s.toks) fun b o e=>hx b o (Nat.ne_of_lt (Heap.lt_size e)) e
 exact h pins _ σ H xs _ Q I1 (by simpa using rv) hw
def yk (to ti:TE)(t:tL):TG:=fun v σ H Q=>to σ H fun o H1=>ti σ H1 fun i H2=>t o i v H2 fun H3=>Q σ H3
theorem xm {o i:Expr}{to ti:TE}{t:tL}(ho:PE X o to)(hi:PE X i ti)(hs:xI X t)
  (ha:∀v,assign (.Subscript o i pos) X.env v=(do
   let ov <-holding [v] (eval o X.env)
   let iv <-holding [v,ov] (eval i X.env)
   standAt pos
   holding [v,ov,iv] (setItem ov iv v)
   release [v,ov,iv] []):=by intro _;rfl):PG X (.Subscript o i pos) (yk to ti t):=by
 intro pins s σ H v u Q I r h
 rw [ha]
 refine wpAny_bind (wpAny_holding (thn (ho pins s σ H _ I h) fun ov s1 zz=>?_))
 obtain ⟨x,H1,I1,r1,q1⟩:=zz
 refine wpAny_bind (wpAny_holding (thn (hi pins s1 σ H1 _ I1 q1) fun iv s2 zz=>?_))
 obtain ⟨y,H2,I2,r2,q2⟩:=zz
 refine wpAny_bind (wpAny_standAt (wpAny_bind (wpAny_holding (thn (hs pins s2 σ H2 x y v ov iv u _ I2 r1 r2 r q2) fun _ s3 zz=>?_))))
 obtain ⟨H3,I3,q3⟩:=zz
 exact wpAny_release ⟨σ,H3,I3,q3⟩
def lv (te:TE)(g:TG):TS:=fun D σ H=>te σ H fun x H1=>g x σ H1 D.nx
theorem wJ {tg e:Expr}{te:TE}{g:TG}(he:PE X e te)(hg:PG X tg g)(hs:swapsWithSole [tg] e pos.line X.env=pure false:=by rfl)(hw:swappedStores [tg] e X.env=pure none:=by rfl)
  (h1:(assignEach [tg] X.env).map (·.2)=[assign tg X.env]:=by rfl):PS X (.Assign [tg] e pos) (lv te g):=by
 intro pins s σ H D I h
 refine wpAny_Assign_stores (thn (he pins s σ H _ I h) fun v s1 zz=>?_) hs hw
 obtain ⟨x,H1,I1,r1,q1⟩:=zz
 rw [h1]
 exact thn (hg pins s1 σ H1 x v _ I1 r1 q1) fun _ s2 q=>q
theorem v6 {i:Nat}{x:Str}{e:Expr}{te:TE}{pos':Pos}(hN:X.N.Nodup)(hi:X.N[i]?=some x)(hx:Loc X.env.scope x)(he:PE X e te)(hs:swapsWith e (some (.Name x pos')) pos.line X.env=pure false:=by rfl)(hf:X.fn x=true∨X.env.scope.names.lookup x=some .local:=by first | exact .inl rfl | exact .inr rfl | assumption) :
  PS X (.Assign [.Name x pos'] e pos) (lv te (dN i)):=by
 intro pins s σ H D I h
 refine wpAny_Assign_Name (thn (he pins s σ H _ I h) fun v s1 zz=>?_) hs
 obtain ⟨y,H1,I1,r1,q1⟩:=zz
 exact gs I1 hN hi hx r1 (fun s2 I2=>⟨_,H1,I2,q1⟩) hf
def sH (c:TT)(tb:TS):TS:=fun D σ H=>∃ W:Nat->St->Hp->Prop,(∃ m,W m σ H)/\∀m σ H,W m σ H ->
 c σ H fun b H1=>if b=true then ∃ N:St->Hp->Prop,(∀σ' H',N σ' H'->∃ m',m'<m/\W m' σ' H')/\tb { D with nx:=N,ct:=N,bk:=D.nx } σ H1 else D.nx σ H1
theorem rN {c:Expr}{body:List Stmt}{tc:TT}{tb:TS}(hp:PassesOwn (model X.prog X.w) X.A X.env X.xe)(hc:PT X c tc)(hb:PSs X body tb):PS X (.While c body [] pos) (sH tc tb):=by
 intro pins s σ H D I h
 obtain ⟨W,⟨m0,w0⟩,turn⟩:=h
 refine wpAny_While (codeAny_whileLoop (fun n s'=>∃ σ' H',Inv X pins σ' H' s'/\W n σ' H') ?_ m0 ⟨σ,H,I,w0⟩)
 rintro n s1 ⟨σ1,H1,I1,w1⟩
 refine wpAny_passesOwn hp (thn (hc pins s1 σ1 H1 _ I1 (turn n σ1 H1 w1)) fun b s2 zz=>?_)
 obtain ⟨H2,I2,q2⟩:=zz
 cases b with
 | true =>
  obtain ⟨N,hN,q2⟩:=q2
  rw [if_pos rfl]
  refine wpAny_passesOwn hp (thn (hb pins s2 σ1 H2 _ I2 q2) fun f s3 q3=>?_)
  cases f with
  | next =>
   obtain ⟨σ3,H3,I3,n3⟩:=q3
   obtain ⟨m',hm,w3⟩:=hN σ3 H3 n3
   exact ⟨m',hm,σ3,H3,I3,w3⟩
  | cont =>
   obtain ⟨σ3,H3,I3,n3⟩:=q3
   obtain ⟨m',hm,w3⟩:=hN σ3 H3 n3
   exact ⟨m',hm,σ3,H3,I3,w3⟩
  | brk=>exact q3
  | ret v=>exact q3
 | false =>
  rw [if_neg Bool.false_ne_true]
  exact wpAny_execs_nil ⟨σ1,H2,I2,q2⟩
end
structure It where
 go:Nat->Hp->Prop
 yld:Nat->Hp->V->Hp->Prop
 stop:Nat->Hp->Prop
def km (X:Cx)(pins:List (Addr×Obj))(H:Hp)(b:Addr):Prop :=
 H b=none/\b≠X.env.locals/\b∉X.fs/\(b∈X.ex∨X.s₀.heap.objs.size<=b)/\(∀x c,X.env.cells.lookup x=some c->c≠b)/\∀p∈X.pn++pins,p.1≠b
theorem Inv.fpOk {X:Cx}{pins:List (Addr×Obj)}{σ:St}{H H':Hp}{s:Shared}{b:Addr}(I:Inv X pins σ H s)(hb:s.heap.objs.size<=b)(hn:H' b=none):km X pins H' b:=by
 refine ⟨hn,Nat.ne_of_gt (Nat.lt_of_lt_of_le I.lt hb),I.nofs hb,.inr (Nat.le_trans I.sz hb),fun x c e z=>?_,fun p hp z=>?_⟩
 .obtain ⟨v,q⟩:=I.cell x c e
  exact absurd (Nat.lt_of_lt_of_le q.lt (by rw [z];exact hb)) (Nat.lt_irrefl _)
 exact absurd (Nat.lt_of_lt_of_le (Heap.lt_size (I.pin p hp).1) (by rw [z];exact hb)) (Nat.lt_irrefl _)
structure oR (P:Program)(w:World)(K:W.Frag)(tg:Expr)(J:It)(fp:List Addr)(it:Addr)(tn:Nat->Heap->Prop):Prop where
 mem:it∈fp
 obj:∀i h,tn i h->∀b∈fp,∃ o,h.get? b=some o/\∀v,o.data≠.cell v
 keep:∀i h h',tn i h->(∀b∈fp,∀o,h.get? b=some o->h'.get? b=some o)->tn i h'
 item:∀(X:Cx),X.prog=P->X.w=w->X.K=K->X.calm=true->∀(i:Nat) (pins:List (Addr×Obj)) (s:Shared) (σ:St) (H:Hp) (E:Value->Shared->Prop),Inv X pins σ H s->(∀b∈fp,km X pins H b)->tn i s.heap->J.go i H ->
  wpAny (model P w) X.A (pyNext (.ref it)) (fun r s1=>∃ u,r=some u /\
   wpAny (model P w) X.A (letOwnedTupleGo tg (.ref it) u) (fun _ s2=>∃ x H',Inv X pins σ H' s2/\RelV x u/\J.yld i H x H'/\tn (i+1) s2.heap/\∀b∈fp,H' b=none) E s1) E s
 done:∀(X:Cx),X.prog=P->X.w=w->X.K=K->X.calm=true->∀(i:Nat) (pins:List (Addr×Obj)) (s:Shared) (σ:St) (H:Hp) (E:Value->Shared->Prop),Inv X pins σ H s->(∀b∈fp,km X pins H b)->tn i s.heap->J.stop i H ->
  wpAny (model P w) X.A (pyNext (.ref it)) (fun r s1=>r=none/\Inv X pins σ H s1) E s
 self:∀(A:Around) (i:Nat) (s:Shared) (Q:Value->Shared->Prop) (E:Value->Shared->Prop),tn i s.heap->Q (.ref it) s->wpAny (model P w) A (pyIter (.ref it)) Q E s
abbrev TI:=St->Hp->(It->Hp->Prop)->Prop
def PIE (X:Cx)(pins:List (Addr×Obj))(σ:St)(tg:Expr)(R:It->Hp->Prop)(itv:Value)(s2:Shared):Prop :=
 ∃ (it:Addr) (fp:List Addr) (tn:Nat->Heap->Prop) (J:It) (H':Hp),itv=.ref it/\Inv X pins σ H' s2/\oR X.prog X.w X.K tg J fp it tn/\tn 0 s2.heap/\(∀b∈fp,km X pins H' b)/\R J H'
def PI (X:Cx)(tg iter:Expr)(wi:TI):Prop :=
 ∀(pins:List (Addr×Obj)) (s:Shared) (σ:St) (H:Hp) (R:It->Hp->Prop),Inv X pins σ H s->wi σ H R ->
  wpAny (model X.prog X.w) X.A (eval iter X.env) (fun v s1=>wpAny (model X.prog X.w) X.A (pyIter v) (PIE X pins σ tg R) X.xe s1) X.xe s
theorem m7 {M:Model}{A:Around}{E:Value->Shared->Prop}{s:Shared}{tg:Expr}{it:Addr}{u:Value}{o:Obj}{n:String}{vs:Array Value}{Q:Unit->Shared->Prop}(ho:s.heap.get? it=some o)(hc:o.cls=.type n)(hd:o.data=.fields vs)
    (hn:["enumerate","zip","dict_itemiterator","dict_reverseitemiterator","odict_iterator","itertools.zip_longest","itertools.pairwise"].contains n=false) (hQ:Q () s):wpAny M A (letOwnedTupleGo tg (.ref it) u) Q E s:=by
  unfold letOwnedTupleGo
  cases tg <;> first
    | exact wpAny_pure hQ
    | (cases u <;> first
        | exact wpAny_pure hQ
        | (refine wpAny_bind (wpAny_load ho ?_)
           rw [hc,hd]
           show wpAny M A (if (["enumerate","zip","dict_itemiterator","dict_reverseitemiterator","odict_iterator","itertools.zip_longest","itertools.pairwise"].contains n&&vs[0]? == some (rawInt _))=true then _ else _) Q E s
           rw [if_neg (by intro h;rw [hn,Bool.false_and] at h;cases h)]
           exact wpAny_pure hQ))
def Itl (K:W.Frag)(a:Addr):It :=
 ⟨fun i H=>∃ xs x,SqL K H a xs/\xs[i]?=some x,fun i H x H'=>H'=H/\∀xs,SqL K H a xs->xs[i]?=some x,fun i H=>∃ xs,SqL K H a xs/\xs.length<=i⟩
def Itt (K:W.Frag)(a:Addr):It :=
 ⟨fun i H=>∃ xs x,SqT K H a xs/\xs[i]?=some x,fun i H x H'=>H'=H/\∀xs,SqT K H a xs->xs[i]?=some x,fun i H=>∃ xs,SqT K H a xs/\xs.length<=i⟩
def Itr (lo:Int)(n:Nat):It:=⟨fun i _=>i<n,fun i H x H'=>H'=H/\x=.int (lo+i),fun i _=>n<=i⟩
theorem iM {P:Program}{w:World}{K:W.Frag}{tg:Expr}(a it:Addr):oR P w K tg (Itl K a) [it] it (fun i h=>h.IsListIter it a i) where
 mem:=by simp
 obj:=fun i h st b hb=>by
  have e:b=it:=by simpa using hb
  subst e
  obtain ⟨o,e,c,d⟩:=st
  exact ⟨o,e,fun v z=>by rw [d] at z;cases z⟩
 keep:=fun i h h' st k=>st.at fun o e=>k it zl o e
 item:=by
  intro X hP hw hK hc i pins s σ H E I hf st hg
  subst hP hw hK
  obtain ⟨xs,x,hq,hx⟩:=hg
  obtain ⟨its,rv,p,hz⟩:=I.list hq
  obtain ⟨u,hu,ru⟩:=rv.get hx
  obtain ⟨f0,f1,f2,f3,f4,f5⟩:=hf it zl
  refine wpAny_pyNext_list_item st p.isList (x:=u) (by simpa using hu) fun h' st' sb=>?_
  have I1:Inv X pins σ H { s with heap:=h' }:=I.turned (t':=s.toks) (fun b o hb e=>(sb.2 b hb).trans e) f0 f1 f3 f4 f5
  obtain ⟨o,e,c,d⟩:=id st'
  exact ⟨u,rfl,m7 (s:={ s with heap:=h' }) e c d zj ⟨x,H,I1,ru,⟨rfl,fun ys hy=>by rw [I.list_inj hy hq];exact hx⟩,st',fun b hb=>(hf b hb).1⟩⟩
 done:=by
  intro X hP hw hK hc i pins s σ H E I hf st hg
  subst hP hw hK
  obtain ⟨xs,hq,hx⟩:=hg
  obtain ⟨its,rv,p,hz⟩:=I.list hq
  obtain ⟨f0,f1,f2,f3,f4,f5⟩:=hf it zl
  have hl:=rv.length
  exact wpAny_pyNext_list_end (I.ok.hd hc) st p.isList (by simp;lia) fun h' eb=>⟨rfl,I.turned (t':=s.toks) (fun b o hb e=>eb b o hb e) f0 f1 f3 f4 f5⟩
 self:=fun _ _ _ _ _ st h=>wpAny_pyIter_listiter st h
theorem gR {P:Program}{w:World}{K:W.Frag}{tg:Expr}(a it:Addr):oR P w K tg (Itt K a) [it] it (fun i h=>h.IsTupleIter it a i) where
 mem:=by simp
 obj:=fun i h st b hb=>by
  have e:b=it:=by simpa using hb
  subst e
  obtain ⟨o,e,c,d⟩:=st
  exact ⟨o,e,fun v z=>by rw [d] at z;cases z⟩
 keep:=fun i h h' st k=>st.at fun o e=>k it zl o e
 item:=by
  intro X hP hw hK hc i pins s σ H E I hf st hg
  subst hP hw hK
  obtain ⟨xs,x,hq,hx⟩:=hg
  obtain ⟨its,rv,p,hz⟩:=I.tuple hq
  obtain ⟨u,hu,ru⟩:=rv.get hx
  obtain ⟨f0,f1,f2,f3,f4,f5⟩:=hf it zl
  refine wpAny_pyNext_tuple_item st (show s.heap.IsTuple a its.toArray from p) (x:=u) (by simpa using hu) fun h' st' sb=>?_
  have I1:Inv X pins σ H { s with heap:=h' }:=I.turned (t':=s.toks) (fun b o hb e=>(sb.2 b hb).trans e) f0 f1 f3 f4 f5
  obtain ⟨o,e,c,d⟩:=id st'
  exact ⟨u,rfl,m7 (s:={ s with heap:=h' }) e c d zj ⟨x,H,I1,ru,⟨rfl,fun ys hy=>by rw [I.tuple_inj hy hq];exact hx⟩,st',fun b hb=>(hf b hb).1⟩⟩
 done:=by
  intro X hP hw hK hc i pins s σ H E I hf st hg
  subst hP hw hK
  obtain ⟨xs,hq,hx⟩:=hg
  obtain ⟨its,rv,p,hz⟩:=I.tuple hq
  obtain ⟨f0,f1,f2,f3,f4,f5⟩:=hf it zl
  have hl:=rv.length
  exact wpAny_pyNext_tuple_end (I.ok.hd hc) st (show s.heap.IsTuple a its.toArray from p) (by simp;lia) fun h' eb=>⟨rfl,I.turned (t':=s.toks) (fun b o hb e=>eb b o hb e) f0 f1 f3 f4 f5⟩
 self:=fun _ _ _ _ _ st h=>wpAny_pyIter_tupleiter st h
theorem mM {P:Program}{w:World}{K:PySem.W.Frag}{tg:Expr}(it:Addr)(lo:Int)(n:Nat):oR P w K tg (Itr lo n) [it] it (fun i h=>IsRangeIter h it (lo+(i:Nat)*1) ((n:Int)-(i:Nat)) 1) where
 mem:=by simp
 obj:=fun i h st b hb=>by
  have e:b=it:=by simpa using hb
  subst e
  exact ⟨_,st,fun v z=>by
   have z':Data.fields _=Data.cell v:=z
   cases z'⟩
 keep:=fun i h h' st k=>k it zl _ st
 item:=by
  intro X hP hw hK hc i pins s σ H E I hf st hg
  subst hP hw hK
  obtain ⟨f0,f1,f2,f3,f4,f5⟩:=hf it zl
  have W:=Walks.range (prog:=X.prog) (w:=X.w) (I.ok.hd hc) it lo 1 n
  refine W.item i s _ _ hg st fun v h' tk hv st' kk=>?_
  obtain ⟨t,rfl⟩:=hv
  have I1:Inv X pins σ H { s with heap:=h',toks:=tk }:=I.turned (fun b o hb e=>kk b o (by simpa using hb) e) f0 f1 f3 f4 f5
  refine ⟨_,rfl,m7 (s:={ s with heap:=h',toks:=tk }) (n:="range_iterator") st' rfl rfl zj ⟨.int (lo+i),H,I1,⟨t,?_⟩,⟨rfl,rfl⟩,st',fun b hb=>(hf b hb).1⟩⟩
  rw [Int.mul_one]
 done:=by
  intro X hP hw hK hc i pins s σ H E I hf st hg
  subst hP hw hK
  obtain ⟨f0,f1,f2,f3,f4,f5⟩:=hf it zl
  exact wpAny_pyNext_range_end (I.ok.hd hc) st (by have:n<=i:=hg;lia) fun h' eb=>⟨rfl,I.turned (t':=s.toks) (fun b o hb e=>eb b o hb e) f0 f1 f3 f4 f5⟩
 self:=fun _ _ _ _ _ st h=>wpAny_pyIter_rangeiter st h
section
variable {X:Cx}{tg:Expr}
def vL (K:W.Frag)(tl:TE):TI:=fun σ H R=>tl σ H fun x H1=>∃ a,x=.ref a/\(∃ xs,SqL K H1 a xs)/\R (Itl K a) H1
def yj (K:W.Frag)(tl:TE):TI:=fun σ H R=>tl σ H fun x H1=>∃ a,x=.ref a/\(∃ xs,SqT K H1 a xs)/\R (Itt K a) H1
theorem uC {l:Expr}{tl:TE}(hl:PE X l tl):PI X tg l (vL X.K tl):=by
 intro pins s σ H R I h
 refine thn (hl pins s σ H _ I h) fun v s1 zz=>?_
 obtain ⟨x,H1,I1,r1,q1⟩:=zz
 obtain ⟨a,e,⟨xs,hq⟩,q⟩:=q1
 subst e
 cases r1
 obtain ⟨its,rv,p,hz⟩:=I1.list hq
 refine wpAny_pyIter_list p.isList ?_
 refine ⟨s1.heap.objs.size,[s1.heap.objs.size],_,_,H1,rfl,I1.kept (t':=s1.toks) fun b o e=>Heap.get?_push_of_some _ e,iM a _,⟨_,Heap.get?_push_size _ rfl,rfl,rfl⟩,fun b hb=>?_,q⟩
 have e:b=s1.heap.objs.size:=by simpa using hb
 subst e
 exact I1.fpOk (Nat.le_refl _) (I1.hok.fresh (Nat.le_refl _))
theorem xJ {l:Expr}{tl:TE}(hl:PE X l tl):PI X tg l (yj X.K tl):=by
 intro pins s σ H R I h
 refine thn (hl pins s σ H _ I h) fun v s1 zz=>?_
 obtain ⟨x,H1,I1,r1,q1⟩:=zz
 obtain ⟨a,e,⟨xs,hq⟩,q⟩:=q1
 subst e
 cases r1
 obtain ⟨its,rv,p,hz⟩:=I1.tuple hq
 refine wpAny_pyIter_tuple (show s1.heap.IsTuple a its.toArray from p) ?_
 refine ⟨s1.heap.objs.size,[s1.heap.objs.size],_,_,H1,rfl,I1.kept (t':=s1.toks) fun b o e=>Heap.get?_push_of_some _ e,gR a _,⟨_,Heap.get?_push_size _ rfl,rfl,rfl⟩,fun b hb=>?_,q⟩
 have e:b=s1.heap.objs.size:=by simpa using hb
 subst e
 exact I1.fpOk (Nat.le_refl _) (I1.hok.fresh (Nat.le_refl _))
theorem sU {pins:List (Addr×Obj)}{σ:St}{H:Hp}{s:Shared}{R:It->Hp->Prop}{E:Value->Shared->Prop}{lo hi:Int}{t u v:Tok}{tk:Nat}(I:Inv X pins σ H s)(h1:-(2 ^ 62)<=lo)(h2:lo<2 ^ 62)(h3:-(2 ^ 62)<=hi)(h4:hi<2 ^ 62)
  (q:R (Itr lo (hi-lo).toNat) H):wpAny (model X.prog X.w) X.A (pyIter (.ref s.heap.objs.size)) (PIE X pins σ tg R) E { s with heap:=s.heap.push { cls:=.type "range",data:=.fields #[.int lo t,.int hi u,.int 1 v] },toks:=tk }:=by
 refine wpAny_pyIter_range (IsRange.new ..) (small_one h1 h2 h3 h4) ?_
 have I1:Inv X pins σ H { s with heap:=s.heap.push { cls:=.type "range",data:=.fields #[.int lo t,.int hi u,.int 1 v] },toks:=tk }:=I.kept fun b o e=>Heap.get?_push_of_some _ e
 refine ⟨(s.heap.push { cls:=.type "range",data:=.fields #[.int lo t,.int hi u,.int 1 v] }).objs.size,[(s.heap.push { cls:=.type "range",data:=.fields #[.int lo t,.int hi u,.int 1 v] }).objs.size],_,_,H,rfl,
  I1.kept (t':=tk) fun b o e=>Heap.get?_push_of_some _ e,mM _ lo (hi-lo).toNat,?_,fun b hb=>?_,q⟩
 .have e1:lo+((0:Nat):Int)*1=lo:=by simp
  have e2:(((hi-lo).toNat:Nat):Int)-((0:Nat):Int)=Builtin.Range.rangeSize lo hi 1:=by rw [rangeSize_one];split <;> lia
  show IsRangeIter _ _ (lo+((0:Nat):Int)*1) ((((hi-lo).toNat:Nat):Int)-((0:Nat):Int)) 1
  rw [e1,e2]
  exact Heap.get?_push_size _ rfl
 have e:b=(s.heap.push { cls:=.type "range",data:=.fields #[.int lo t,.int hi u,.int 1 v] }).objs.size:=by simpa using hb
 subst e
 exact I1.fpOk (Nat.le_refl _) (I1.hok.fresh (Nat.le_refl _))
def vN (ta:TA):TI:=fun σ H R=>ta σ H fun vs H1=>∃ j:Int,vs=[.int j]/\-(2 ^ 62)<=j/\j<2 ^ 62/\R (Itr 0 j.toNat) H1
theorem pI {a:Expr}{ta:TA}{p pos:Pos}(hg:Gl X "range")(hm:X.mg "range"=none)(ha:PA X [a] ta)(hs:starEach [a] X.env=[(false,eval a X.env)]:=by rfl):PI X tg (.Call (.Name "range" p) [a] [] pos) (vN ta):=by
 intro pins s σ H R I h
 refine Call_ (fQ I hg hm boot_range (PyProof.Rows.callWith_type1 (thn (ha pos pins s σ H _ I h) fun us s1 zz=>?_) hs rfl))
 obtain ⟨vs,H1,I1,r1,q1⟩:=zz
 obtain ⟨j,e,q1,q2,q⟩:=q1
 subst e
 cases r1 with
 | cons r rr =>
  cases rr
  obtain ⟨t,rfl⟩:=r
  exact call_range_1 (sU I1 zk zk q1 q2 (by simpa using q))
def x6 (wi:TI)(g:TG)(tb:TS):TS:=fun D σ H=>wi σ H fun J H1=>∃ W:Nat->Nat->St->Hp->Prop,(∃ m,W 0 m σ H1)/\∀i m σ H,W i m σ H ->
 (J.stop i H/\D.nx σ H)∨(J.go i H/\∃ N:St->Hp->Prop,(∀σ' H',N σ' H'->∃ m',m'<m/\W (i+1) m' σ' H')/\∀x H',J.yld i H x H'->g x σ H' fun σ2 H2=>tb { D with nx:=N,ct:=N,bk:=D.nx } σ2 H2)
def ie (fp:List Addr)(h:Heap):List (Addr×Obj):=fp.filterMap fun b=>(h.get? b).map fun o=>(b,o)
theorem cS {fp:List Addr}{h:Heap}{b:Addr}{o:Obj}(hb:b∈fp)(e:h.get? b=some o):(b,o)∈ie fp h:=List.mem_filterMap.mpr ⟨b,hb,by rw [e];rfl⟩
theorem pe {fp:List Addr}{h:Heap}{p:Addr×Obj}(hp:p∈ie fp h):p.1∈fp/\h.get? p.1=some p.2:=by
 obtain ⟨b,hb,e⟩:=List.mem_filterMap.mp hp
 cases q:h.get? b with
 | none=>rw [q] at e;cases e
 | some o =>
  rw [q] at e
  have e':(b,o)=p:=Option.some.inj e
  subst e'
  exact ⟨hb,q⟩
theorem Inv.pinned {pins:List (Addr×Obj)}{σ:St}{H:Hp}{s:Shared}{fp:List Addr}(I:Inv X pins σ H s)(hf:∀b∈fp,km X pins H b)(ho:∀b∈fp,∃ o,s.heap.get? b=some o/\∀v,o.data≠.cell v):Inv X (pins++ie fp s.heap) σ H s :=
 I.pins_of fun p hp=>(List.mem_append.mp hp).elim (fun z=>I.pin p (List.mem_append_right _ z)) fun z=>by
  obtain ⟨hb,e⟩:=pe z
  obtain ⟨f0,f1,f2,_⟩:=hf p.1 hb
  obtain ⟨o,e',d⟩:=ho p.1 hb
  rw [e] at e';cases e'
  exact ⟨e,f0,f1,f2,d⟩
theorem Inv.unpinned {pins pl:List (Addr×Obj)}{σ:St}{H:Hp}{s:Shared}(I:Inv X (pins++pl) σ H s):Inv X pins σ H s:=I.pins_of fun p hp=>I.pin p (List.mem_append_right _ (List.mem_append_left _ hp))
theorem wq {iter:Expr}{body:List Stmt}{wi:TI}{g:TG}{tb:TS}{pos:Pos}(hp:PassesOwn (model X.prog X.w) X.A X.env X.xe)(hc:X.calm=true)(hi:PI X tg iter wi)(hg:PG X tg g)(hb:PSs X body tb)
  (hs:∀x,foldedSetIterable iter X.env x=pure x:=by intro _;rfl):PS X (.For tg iter body [] pos) (x6 wi g tb):=by
 intro pins s σ H D I h
 refine wpAny_For (thn (hi pins s σ H _ I h) fun v s1 h1=>thn h1 fun itv s2 h2=>?_) hs
 obtain ⟨it,fp,tn,J,H2,e,I2,T,st2,f2,W,⟨m0,w0⟩,turn⟩:=h2
 subst e
 have stat:∀{H':Hp},(∀b∈fp,H' b=none)->∀b∈fp,km X pins H' b:=fun hn b hb=>⟨hn b hb,(f2 b hb).2⟩
 refine codeAny_forLoop_any (fun n s'=>∃ i σ' H',Inv X pins σ' H' s'/\tn i s'.heap/\(∀b∈fp,H' b=none)/\W i n σ' H') ?_ m0 ⟨0,σ,H2,I2,st2,fun b hb=>(f2 b hb).1,w0⟩
 rintro n s3 ⟨i,σ3,H3,I3,st3,fr3,w3⟩
 rcases turn i n σ3 H3 w3 with ⟨stop,qn⟩ | ⟨go,N,hN,step⟩
 .refine wpAny_passesOwn hp (thn (T.done X rfl rfl rfl hc i pins s3 σ3 H3 X.xe I3 (stat fr3) st3 stop) fun r s4 ⟨hr,I4⟩=>?_)
  subst hr
  exact wpAny_execs_nil ⟨σ3,H3,I4,qn⟩
 refine wpAny_passesOwn hp (thn (T.item X rfl rfl rfl hc i pins s3 σ3 H3 X.xe I3 (stat fr3) st3 go) fun r s4 zz=>?_)
 obtain ⟨u,hr,h4⟩:=zz
 subst hr
 refine wpAny_passesOwn hp (thn h4 fun _ s5 zz=>?_)
 obtain ⟨x,H5,I5,r5,y5,st5,fr5⟩:=zz
 have I5':=I5.pinned (stat fr5) (T.obj _ _ st5)
 refine wpAny_passesOwn hp (thn (hg _ s5 σ3 H5 x u _ I5' r5 (step x H5 y5)) fun _ s6 zz=>?_)
 obtain ⟨σ6,H6,I6,q6⟩:=zz
 refine wpAny_passesOwn hp (thn (hb _ s6 σ6 H6 _ I6 q6) fun f s7 q7=>?_)
 have again:∀{σ7:St} {H7:Hp},Inv X (pins++ie fp s5.heap) σ7 H7 s7->N σ7 H7->∃ m,m<n/\∃ i σ' H',Inv X pins σ' H' s7/\tn i s7.heap/\(∀b∈fp,H' b=none)/\W i m σ' H':=fun {σ7 H7} I7 n7=>by
  obtain ⟨m',hm,w7⟩:=hN σ7 H7 n7
  refine ⟨m',hm,i+1,σ7,H7,I7.unpinned,T.keep _ _ _ st5 fun b hb o e=>(I7.pin (b,o) (List.mem_append_right _ (List.mem_append_right _ (cS hb e)))).1,fun b hb=>?_,w7⟩
  obtain ⟨o,e,d⟩:=T.obj _ _ st5 b hb
  exact (I7.pin (b,o) (List.mem_append_right _ (List.mem_append_right _ (cS hb e)))).2.1
 cases f with
 | next=>obtain ⟨σ7,H7,I7,n7⟩:=q7;exact again I7 n7
 | cont=>obtain ⟨σ7,H7,I7,n7⟩:=q7;exact again I7 n7
 | brk=>obtain ⟨σ7,H7,I7,q7⟩:=q7;exact ⟨σ7,H7,I7.unpinned,q7⟩
 | ret v=>obtain ⟨x7,σ7,H7,I7,r7,q7⟩:=q7;exact ⟨x7,σ7,H7,I7.unpinned,r7,q7⟩
end
theorem cX {K:PySem.W.Frag}{a:Addr}{xs:List V}{g:TG}{tb:TS}{D:eZ}{σ:St}{H:Hp}(Pv:Nat->St->Hp->Prop)(h0:Pv 0 σ H)(hl:∀i σ H,i<=xs.length->Pv i σ H->SqL K H a xs)
  (hs:∀i x σ H,xs[i]?=some x->Pv i σ H->g x σ H fun σ2 H2=>tb { D with nx:=Pv (i+1),ct:=Pv (i+1),bk:=D.nx } σ2 H2) (hd:∀σ H,Pv xs.length σ H->D.nx σ H) :
  ∃ W:Nat->Nat->St->Hp->Prop,(∃ m,W 0 m σ H)/\∀i m σ H,W i m σ H ->
   ((Itl K a).stop i H/\D.nx σ H)∨((Itl K a).go i H/\∃ N:St->Hp->Prop,(∀σ' H',N σ' H'->∃ m',m'<m/\W (i+1) m' σ' H')/\∀x H',(Itl K a).yld i H x H'->g x σ H' fun σ2 H2=>tb { D with nx:=N,ct:=N,bk:=D.nx } σ2 H2):=by
 refine ⟨fun i m σ H=>m=xs.length-i/\i<=xs.length/\Pv i σ H,⟨xs.length,zl,Nat.zero_le _,h0⟩,?_⟩
 rintro i m σ H ⟨rfl,hi,p⟩
 have q:=hl i σ H hi p
 by_cases hlt:i<xs.length
 .refine .inr ⟨⟨xs,xs[i],q,by simp [hlt]⟩,Pv (i+1),fun σ' H' p'=>⟨xs.length-(i+1),zk,rfl,hlt,p'⟩,fun x H' y=>?_⟩
  obtain ⟨e,y⟩:=y
  subst e
  exact hs i x σ _ (y xs q) p
 have e:i=xs.length:=by lia
 subst e
 exact .inl ⟨⟨xs,q,Nat.le_refl _⟩,hd σ H p⟩
theorem uE {K:PySem.W.Frag}{a:Addr}{xs:List V}{g:TG}{tb:TS}{D:eZ}{σ:St}{H:Hp}(Pv:Nat->St->Hp->Prop)(h0:Pv 0 σ H)(hl:∀i σ H,i<=xs.length->Pv i σ H->SqT K H a xs)
  (hs:∀i x σ H,xs[i]?=some x->Pv i σ H->g x σ H fun σ2 H2=>tb { D with nx:=Pv (i+1),ct:=Pv (i+1),bk:=D.nx } σ2 H2) (hd:∀σ H,Pv xs.length σ H->D.nx σ H) :
  ∃ W:Nat->Nat->St->Hp->Prop,(∃ m,W 0 m σ H)/\∀i m σ H,W i m σ H ->
   ((Itt K a).stop i H/\D.nx σ H)∨((Itt K a).go i H/\∃ N:St->Hp->Prop,(∀σ' H',N σ' H'->∃ m',m'<m/\W (i+1) m' σ' H')/\∀x H',(Itt K a).yld i H x H'->g x σ H' fun σ2 H2=>tb { D with nx:=N,ct:=N,bk:=D.nx } σ2 H2):=by
 refine ⟨fun i m σ H=>m=xs.length-i/\i<=xs.length/\Pv i σ H,⟨xs.length,zl,Nat.zero_le _,h0⟩,?_⟩
 rintro i m σ H ⟨rfl,hi,p⟩
 have q:=hl i σ H hi p
 by_cases hlt:i<xs.length
 .refine .inr ⟨⟨xs,xs[i],q,by simp [hlt]⟩,Pv (i+1),fun σ' H' p'=>⟨xs.length-(i+1),zk,rfl,hlt,p'⟩,fun x H' y=>?_⟩
  obtain ⟨e,y⟩:=y
  subst e
  exact hs i x σ _ (y xs q) p
 have e:i=xs.length:=by lia
 subst e
 exact .inl ⟨⟨xs,q,Nat.le_refl _⟩,hd σ H p⟩
theorem dB {lo:Int}{n:Nat}{g:TG}{tb:TS}{D:eZ}{σ:St}{H:Hp}(Pv:Nat->St->Hp->Prop)(h0:Pv 0 σ H)
  (hs:∀i σ H,i<n->Pv i σ H->g (.int (lo+i)) σ H fun σ2 H2=>tb { D with nx:=Pv (i+1),ct:=Pv (i+1),bk:=D.nx } σ2 H2) (hd:∀σ H,Pv n σ H->D.nx σ H) :
  ∃ W:Nat->Nat->St->Hp->Prop,(∃ m,W 0 m σ H)/\∀i m σ H,W i m σ H ->
   ((Itr lo n).stop i H/\D.nx σ H)∨((Itr lo n).go i H/\∃ N:St->Hp->Prop,(∀σ' H',N σ' H'->∃ m',m'<m/\W (i+1) m' σ' H')/\∀x H',(Itr lo n).yld i H x H'->g x σ H' fun σ2 H2=>tb { D with nx:=N,ct:=N,bk:=D.nx } σ2 H2):=by
 refine ⟨fun i m σ H=>m=n-i/\i<=n/\Pv i σ H,⟨n,zl,Nat.zero_le _,h0⟩,?_⟩
 rintro i m σ H ⟨rfl,hi,p⟩
 by_cases hlt:i<n
 .refine .inr ⟨hlt,Pv (i+1),fun σ' H' p'=>⟨n-(i+1),zk,rfl,hlt,p'⟩,fun x H' y=>?_⟩
  obtain ⟨e,y⟩:=y
  subst e y
  exact hs i σ _ hlt p
 have e:i=n:=by lia
 subst e
 exact .inl ⟨Nat.le_refl _,hd σ H p⟩
abbrev R2:=V->V->Hp->VK->Prop
def OpR (X:Cx)(f:Value->Value->Sem Value)(r:R2):Prop :=
 ∀(pins:List (Addr×Obj)) (s:Shared) (σ:St) (H:Hp) (x y:V) (v u:Value) (Q:VK),Inv X pins σ H s->RelV x v->RelV y u->r x y H Q ->
  wpAny (model X.prog X.w) X.A (f v u) (EP X pins σ Q) X.xe s
def UnR (X:Cx)(f:Value->Sem Value)(r:V->Hp->VK->Prop):Prop :=
 ∀(pins:List (Addr×Obj)) (s:Shared) (σ:St) (H:Hp) (x:V) (v:Value) (Q:VK),Inv X pins σ H s->RelV x v->r x H Q ->
  wpAny (model X.prog X.w) X.A (f v) (EP X pins σ Q) X.xe s
def bQ (X:Cx)(f:Value)(r:List V->Hp->VK->Prop):Prop :=
 ∀(pins:List (Addr×Obj)) (s:Shared) (σ:St) (H:Hp) (xs:List V) (us:List Value) (Q:VK),Inv X pins σ H s->Vals xs us->r xs H Q ->
  wpAny (model X.prog X.w) X.A (call f us) (EP X pins σ Q) X.xe s
def tOp (r:R2)(ta tb:TE):TE:=fun σ H Q=>ta σ H fun x H1=>tb σ H1 fun y H2=>r x y H2 Q
def tUn (r:V->Hp->VK->Prop)(ta:TE):TE:=fun σ H Q=>ta σ H fun x H1=>r x H1 Q
def rI (C:Int->Int->Prop)(g:Int->Int->V):R2:=fun x y H Q=>∃ i j,x=.int i/\y=.int j/\C i j/\Q (g i j) H
def rI0 (g:Int->Int->V):R2:=fun x y H Q=>∃ i j,x=.int i/\y=.int j/\Q (g i j) H
def rU (g:Int->V):V->Hp->VK->Prop:=fun x H Q=>∃ i,x=.int i/\Q (g i) H
section
variable {X:Cx}{a b c:Expr}{ta tb tc:TE}{pos:Pos}
theorem xf (ha:PE X a ta)(hb:PE X b tb){pins:List (Addr×Obj)}{s:Shared}{σ:St}{H:Hp}{R:V->V->Hp->Prop}(I:Inv X pins σ H s)
  (h:ta σ H fun x H1=>tb σ H1 fun y H2=>R x y H2) {Q:Value->Shared->Prop} {f:Value->Value->Sem Value}
  (hf:∀v u s2 x y H2,Inv X pins σ H2 s2->RelV x v->RelV y u->R x y H2->wpAny (model X.prog X.w) X.A (f v u) Q X.xe s2) :
  wpAny (model X.prog X.w) X.A (eval a X.env) (fun v s₁=>wpAny (model X.prog X.w) X.A (eval b X.env) (fun u s₂=>wpAny (model X.prog X.w) X.A (f v u) Q X.xe s₂) X.xe s₁) X.xe s:=by
 refine thn (ha pins s σ H _ I h) fun v s1 zz=>?_
 obtain ⟨x,H1,I1,r1,q1⟩:=zz
 refine thn (hb pins s1 σ H1 _ I1 q1) fun u s2 zz=>?_
 obtain ⟨y,H2,I2,r2,q2⟩:=zz
 exact hf v u s2 x y H2 I2 r1 r2 q2
theorem yp {op:Operator}{r:R2}(ho:OpR X (binaryOp op) r)(ha:PE X a ta)(hb:PE X b tb):PE X (.BinOp a op b pos) (tOp r ta tb):=by
 intro pins s σ H Q I h
 exact wpAny_BinOp (xf ha hb I h fun v u s2 x y H2 I2 rx ry q=>ho pins s2 σ H2 x y v u Q I2 rx ry q)
theorem ym {op:UnaryOp}{r:V->Hp->VK->Prop}(ho:UnR X (unaryOp op) r)(ha:PE X a ta):PE X (.UnaryOp op a pos) (tUn r ta):=by
 intro pins s σ H Q I h
 exact UnaryOp_ (thn (ha pins s σ H _ I h) fun v s1 ⟨x,H1,I1,r1,q1⟩=>ho pins s1 σ H1 x v Q I1 r1 q1)
theorem opI {f:Value->Value->Sem Value}{C:Int->Int->Prop}{g:Int->Int->Int}
  (rule:∀(i j:Int) (t u:Tok) (s:Shared) (Q:Value->Shared->Prop) (E:Value->Shared->Prop),C i j->Q (.int (g i j) s.toks) { s with toks:=s.toks+1 }->wpAny (model X.prog X.w) X.A (f (.int i t) (.int j u)) Q E s) :
  OpR X f (rI C fun i j=>.int (g i j)):=by
 intro pins s σ H x y v u Q I rx ry h
 obtain ⟨i,j,rfl,rfl,hc,q⟩:=h
 obtain ⟨t,rfl⟩:=rx
 obtain ⟨t',rfl⟩:=ry
 exact rule i j t t' s _ _ hc ⟨.int (g i j),H,I.tok _,⟨_,rfl⟩,q⟩
theorem yI {f:Value->Value->Sem Value}{g:Int->Int->Int}
  (rule:∀(i j:Int) (t u:Tok) (s:Shared) (Q:Value->Shared->Prop) (E:Value->Shared->Prop),Q (.int (g i j) s.toks) { s with toks:=s.toks+1 }->wpAny (model X.prog X.w) X.A (f (.int i t) (.int j u)) Q E s) :
  OpR X f (rI0 fun i j=>.int (g i j)):=by
 intro pins s σ H x y v u Q I rx ry h
 obtain ⟨i,j,rfl,rfl,q⟩:=h
 obtain ⟨t,rfl⟩:=rx
 obtain ⟨t',rfl⟩:=ry
 exact rule i j t t' s _ _ ⟨.int (g i j),H,I.tok _,⟨_,rfl⟩,q⟩
theorem tu {f:Value->Value->Sem Value}{g:Int->Int->Bool}
  (rule:∀(i j:Int) (t u:Tok) (s:Shared) (Q:Value->Shared->Prop) (E:Value->Shared->Prop),Q (.bool (g i j)) s->wpAny (model X.prog X.w) X.A (f (.int i t) (.int j u)) Q E s) :
  OpR X f (rI0 fun i j=>.bl (g i j)):=by
 intro pins s σ H x y v u Q I rx ry h
 obtain ⟨i,j,rfl,rfl,q⟩:=h
 obtain ⟨t,rfl⟩:=rx
 obtain ⟨t',rfl⟩:=ry
 exact rule i j t t' s _ _ ⟨.bl (g i j),H,I,rfl,q⟩
def x8 (i j:Int):Prop:=0<=j/\j<=1000000/\i.natAbs<2 ^ 64
def CMul (i j:Int):Prop:=(-(2 ^ 64)<i/\i<2 ^ 64)∨(-(2 ^ 64)<j/\j<2 ^ 64)
theorem CMul.ok {i j:Int}(h:CMul i j):IntMulOk i j:=by
 rcases h with ⟨h1,h2⟩ | ⟨h1,h2⟩
 .exact .of_left (intBits_le_64 h1 h2)
 exact .of_right (intBits_le_64 h1 h2)
theorem aF:OpR X (binaryOp .Add) (rI0 fun i j=>.int (i+j)):=yI fun _ _ _ _ _ _ _ q=>add_int q
theorem bp:OpR X (binaryOp .Sub) (rI0 fun i j=>.int (i-j)):=yI fun _ _ _ _ _ _ _ q=>sub_int q
theorem cz:OpR X (binaryOp .Mult) (rI CMul fun i j=>.int (i*j)):=opI fun _ _ _ _ _ _ _ hc q=>mul_int q hc.ok
theorem cb:OpR X (binaryOp .Mod) (rI (fun _ j=>0<j) fun i j=>.int (i % j)):=opI fun i j _ _ _ _ _ hc q=>by
 have h1:(0:Int)<j:=hc
 exact mod_int' zk (by rw [Int.fmod_eq_emod_of_nonneg i zk];exact q)
theorem cY:OpR X (binaryOp .Pow) (rI x8 fun i j=>.int (i ^ j.toNat)):=opI fun _ _ _ _ _ _ _ hc q=>pow_int_small hc.1 hc.2.1 hc.2.2 q
theorem xH:OpR X (binaryOp .LShift) (rI x8 fun i j=>.int (i*2 ^ j.toNat)):=opI fun _ _ _ _ _ _ _ hc q=>lshift_int_small hc.1 hc.2.1 hc.2.2 q
theorem unI {f:Value->Sem Value}{g:Int->Int}
  (rule:∀(i:Int) (t:Tok) (s:Shared) (Q:Value->Shared->Prop) (E:Value->Shared->Prop),Q (.int (g i) s.toks) { s with toks:=s.toks+1 }->wpAny (model X.prog X.w) X.A (f (.int i t)) Q E s) :
  UnR X f (rU fun i=>.int (g i)):=by
 intro pins s σ H x v Q I rx h
 obtain ⟨i,rfl,q⟩:=h
 obtain ⟨t,rfl⟩:=rx
 exact rule i t s _ _ ⟨.int (g i),H,I.tok _,⟨_,rfl⟩,q⟩
theorem gy:UnR X (unaryOp .USub) (rU fun i=>.int (-i)):=unI fun _ _ _ _ _ q=>neg_int q
end
def xZ:V->V->Bool
 | .non,.non=>true | .non,.int _=>true | .int _,.non=>true | .non,.bl _=>true | .bl _,.non=>true | .non,.str _=>true | .str _,.non=>true
 | .int _,.int _=>true | .bl _,.bl _=>true | .str _,.str _=>true | .byt _,.byt _=>true
 | .int _,.str _=>true | .str _,.int _=>true | .bl _,.str _=>true | .str _,.bl _=>true
 | _,_=>false
def rEq:R2:=fun x y H Q=>xZ x y=true/\Q (.bl (decide (x=y))) H
def rNe:R2:=fun x y H Q=>xZ x y=true/\Q (.bl (!decide (x=y))) H
theorem oF {i j:Int}:decide (V.int i=V.int j)=(i == j):=by
 rw [Bool.eq_iff_iff]
 simp
theorem qZ {i j:Bool}:decide (V.bl i=V.bl j)=(i == j):=by
 rw [Bool.eq_iff_iff]
 simp
theorem om {i j:Str}:decide (V.str i=V.str j)=(i == j):=by
 rw [Bool.eq_iff_iff]
 simp
theorem nR {i j:Array UInt8}:decide (V.byt i=V.byt j)=(i.toList == j.toList):=by
 rw [Bool.eq_iff_iff]
 cases i
 cases j
 simp
section
variable {X:Cx}{a b c:Expr}{ta tb tc:TE}{pos:Pos}
theorem aV {pins:List (Addr×Obj)}{σ:St}{H:Hp}{s:Shared}{Q:VK}{k k':Bool}(I:Inv X pins σ H s)(q:Q (.bl k) H)(e:k=k'):EP X pins σ Q (.bool k') s:=by
 subst e
 exact ⟨.bl k,H,I,rfl,q⟩
theorem a8:OpR X (compareOp .Eq) rEq:=by
 intro pins s σ H x y v u Q I rx ry h
 obtain ⟨hs,q⟩:=h
 cases x with
 | non =>
  cases rx
  cases y with
  | non=>cases ry;exact PySem.EqNone.eq_none_none (aV I q zl)
  | bl j=>cases ry;exact PySem.EqNone.eq_none_bool (aV I q zl)
  | int j=>obtain ⟨t',rfl⟩:=ry;exact PySem.EqNone.eq_none_int (aV I q zl)
  | str j=>obtain ⟨t',rfl⟩:=ry;exact PySem.EqNone.eq_none_str (aV I q zl)
  | _=>exact absurd (show false=true from hs) Bool.false_ne_true
 | bl i =>
  cases rx
  cases y with
  | non=>cases ry;exact PySem.EqNone.eq_bool_none (aV I q zl)
  | bl j=>cases ry;exact eq_bool (aV I q qZ)
  | str j=>obtain ⟨t',rfl⟩:=ry;exact PySem.EqMixed.eq_bool_str (aV I q zl)
  | _=>exact absurd (show false=true from hs) Bool.false_ne_true
 | int i =>
  obtain ⟨t,rfl⟩:=rx
  cases y with
  | non=>cases ry;exact PySem.EqNone.eq_int_none (aV I q zl)
  | int j=>obtain ⟨t',rfl⟩:=ry;exact eq_int (aV I q oF)
  | str j=>obtain ⟨t',rfl⟩:=ry;exact PySem.EqMixed.eq_int_str (aV I q zl)
  | _=>exact absurd (show false=true from hs) Bool.false_ne_true
 | str i =>
  obtain ⟨t,rfl⟩:=rx
  cases y with
  | non=>cases ry;exact PySem.EqNone.eq_str_none (aV I q zl)
  | bl j=>cases ry;exact PySem.EqMixed.eq_str_bool (aV I q zl)
  | int j=>obtain ⟨t',rfl⟩:=ry;exact PySem.EqMixed.eq_str_int (aV I q zl)
  | str j=>obtain ⟨t',rfl⟩:=ry;exact eq_str (aV I q om)
  | _=>exact absurd (show false=true from hs) Bool.false_ne_true
 | byt i =>
  obtain ⟨t,rfl⟩:=rx
  cases y with
  | byt j=>obtain ⟨t',rfl⟩:=ry;exact W.eq_bytes (aV I q nR)
  | _=>exact absurd (show false=true from hs) Bool.false_ne_true
 | _=>cases y <;> exact absurd (show false=true from hs) Bool.false_ne_true
theorem jL:OpR X (compareOp .NotEq) rNe:=by
 intro pins s σ H x y v u Q I rx ry h
 obtain ⟨hs,q⟩:=h
 cases x with
 | non =>
  cases rx
  cases y with
  | non=>cases ry;exact PySem.EqNone.ne_none_none (aV I q zl)
  | bl j=>cases ry;exact PySem.EqNone.ne_none_bool (aV I q zl)
  | int j=>obtain ⟨t',rfl⟩:=ry;exact PySem.EqNone.ne_none_int (aV I q zl)
  | str j=>obtain ⟨t',rfl⟩:=ry;exact PySem.EqNone.ne_none_str (aV I q zl)
  | _=>exact absurd (show false=true from hs) Bool.false_ne_true
 | bl i =>
  cases rx
  cases y with
  | non=>cases ry;exact PySem.EqNone.ne_bool_none (aV I q zl)
  | bl j=>cases ry;exact ne_bool (aV I q (congrArg not qZ))
  | str j=>obtain ⟨t',rfl⟩:=ry;exact PySem.EqMixed.ne_bool_str (aV I q zl)
  | _=>exact absurd (show false=true from hs) Bool.false_ne_true
 | int i =>
  obtain ⟨t,rfl⟩:=rx
  cases y with
  | non=>cases ry;exact PySem.EqNone.ne_int_none (aV I q zl)
  | int j=>obtain ⟨t',rfl⟩:=ry;exact ne_int (aV I q (congrArg not oF))
  | str j=>obtain ⟨t',rfl⟩:=ry;exact PySem.EqMixed.ne_int_str (aV I q zl)
  | _=>exact absurd (show false=true from hs) Bool.false_ne_true
 | str i =>
  obtain ⟨t,rfl⟩:=rx
  cases y with
  | non=>cases ry;exact PySem.EqNone.ne_str_none (aV I q zl)
  | bl j=>cases ry;exact PySem.EqMixed.ne_str_bool (aV I q zl)
  | int j=>obtain ⟨t',rfl⟩:=ry;exact PySem.EqMixed.ne_str_int (aV I q zl)
  | str j=>obtain ⟨t',rfl⟩:=ry;exact ne_str (aV I q (congrArg not om))
  | _=>exact absurd (show false=true from hs) Bool.false_ne_true
 | byt i =>
  obtain ⟨t,rfl⟩:=rx
  cases y with
  | byt j=>obtain ⟨t',rfl⟩:=ry;exact W.ne_bytes (aV I q (congrArg not nR))
  | _=>exact absurd (show false=true from hs) Bool.false_ne_true
 | _=>cases y <;> exact absurd (show false=true from hs) Bool.false_ne_true
theorem cV:OpR X (compareOp .Lt) (rI0 fun i j=>.bl (decide (i<j))):=tu fun _ _ _ _ _ _ _ q=>lt_int q
theorem ye:OpR X (compareOp .LtE) (rI0 fun i j=>.bl (decide (i<=j))):=tu fun _ _ _ _ _ _ _ q=>le_int q
theorem fZ:OpR X (compareOp .Gt) (rI0 fun i j=>.bl (decide (j<i))):=tu fun _ _ _ _ _ _ _ q=>gt_int q
theorem vP:OpR X (compareOp .GtE) (rI0 fun i j=>.bl (decide (j<=i))):=tu fun _ _ _ _ _ _ _ q=>ge_int q
theorem az (b:Expr){op:CmpOp}(h:op≠.In:=by decide)(h2:op≠.NotIn:=by decide):behindInMarks op b=false:=by
 have e1:(op == CmpOp.In)=false:=by cases op <;> first | rfl | exact absurd rfl h
 have e2:(op == CmpOp.NotIn)=false:=by cases op <;> first | rfl | exact absurd rfl h2
 cases b <;> simp [behindInMarks,e1,e2]
theorem tH {op:CmpOp}{r:R2}(ho:OpR X (compareOp op) r)(ha:PE X a ta)(hb:PE X b tb)(hm:behindInMarks op b=false):PE X (.Compare a [op] [b] pos) (tOp r ta tb):=by
 intro pins s σ H Q I h
 exact wpAny_Compare1 (xf ha hb I h fun v u s2 x y H2 I2 rx ry q=>ho pins s2 σ H2 x y v u Q I2 rx ry q) hm
def vm (t:TE):TT:=fun σ H Q=>t σ H fun x H'=>∃ k,x=.bl k/\Q k H'
theorem uG {op:CmpOp}{r:R2}(ho:OpR X (compareOp op) r)(ha:PE X a ta)(hb:PE X b tb)(hm:behindInMarks op b=false):PT X (.Compare a [op] [b] pos) (vm (tOp r ta tb)):=by
 intro pins s σ H Q I h
 refine wpAny_isTrue_Compare1 (thn (ha pins s σ H _ I h) fun v s1 ⟨x,H1,I1,r1,q1⟩=>thn (hb pins s1 σ H1 _ I1 q1) fun u s2 ⟨y,H2,I2,r2,q2⟩ =>
  thn (ho pins s2 σ H2 x y v u _ I2 r1 r2 q2) fun c s3 ⟨z,H3,I3,r3,k,e,q3⟩=>?_) hm
 subst e
 cases r3
 exact wpAny_truthy_bool ⟨H3,I3,q3⟩
theorem fC:(sizeLine:Nat)<2 ^ 63:=by rw [sizeLine_eq];decide
theorem cQ:OpR X (binaryOp .Add) (fun x y H Q=>∃ i j,x=.str i/\y=.str j/\i.length+j.length<=sizeLine/\Q (.str (i++j)) H):=by
 intro pins s σ H x y v u Q I rx ry h
 obtain ⟨i,j,rfl,rfl,hz,q⟩:=h
 obtain ⟨t,rfl⟩:=rx
 obtain ⟨t',rfl⟩:=ry
 exact add_str (fun t' tk=>⟨.str (i++j),H,I.tok _,⟨_,rfl⟩,q⟩) hz
theorem dh {x:V}{us:List Value}(r:Vals [x] us):∃ u,us=[u]/\RelV x u:=by
 cases r with
 | cons r1 r2=>cases r2;exact ⟨_,rfl,r1⟩
theorem rK {x y:V}{us:List Value}(r:Vals [x,y] us):∃ u w',us=[u,w']/\RelV x u/\RelV y w':=by
 cases r with
 | cons r1 r2 =>
  cases r2 with
  | cons r3 r4=>cases r4;exact ⟨_,_,rfl,r1,r3⟩
theorem gU:bQ X (.builtin "abs") (fun xs H Q=>∃ i,xs=[.int i]/\Q (.int (if i<0 then -i else i)) H):=by
 intro pins s σ H xs us Q I r h
 obtain ⟨i,rfl,q⟩:=h
 obtain ⟨u,rfl,t,rfl⟩:=dh r
 exact call_abs_int fun u tk=>⟨.int (if i<0 then -i else i),H,I.tok _,⟨_,rfl⟩,q⟩
theorem pC (hc:X.calm=true):bQ X (.builtin "max") (fun xs H Q=>∃ i j,xs=[.int i,.int j]/\Q (.int (if j>i then j else i)) H):=by
 intro pins s σ H xs us Q I r h
 obtain ⟨i,j,rfl,q⟩:=h
 obtain ⟨u,w',rfl,⟨t,rfl⟩,⟨t',rfl⟩⟩:=rK r
 refine max_two_ints (I.ok.hd hc) fun h' tk k=>⟨_,H,I.kept k,?_,q⟩
 by_cases hj:j>i
 .rw [if_pos hj,if_pos hj];exact ⟨_,rfl⟩
 rw [if_neg hj,if_neg hj];exact ⟨_,rfl⟩
theorem ci:bQ X (.type "int") (fun xs H Q=>(∃ i,xs=[.int i]/\Q (.int i) H)∨∃ k,xs=[.bl k]/\Q (.int (if k then 1 else 0)) H):=by
 intro pins s σ H xs us Q I r h
 rcases h with ⟨i,rfl,q⟩ | ⟨k,rfl,q⟩
 .obtain ⟨u,rfl,t,rfl⟩:=dh r
  exact call_int_int ⟨.int i,H,I,⟨_,rfl⟩,q⟩
 obtain ⟨u,rfl,r1⟩:=dh r
 cases r1
 exact call_int_bool ⟨.int (if k then 1 else 0),H,I.tok _,⟨_,rfl⟩,q⟩
end
structure ObjM (h:Heap)(x dx C:Addr)(mA:Str->Option Value):Prop where
 obj:h.get? x=some (W.instObj C dx)
 ns:h.Ns1 dx mA
 ne:dx≠x
theorem pD {h:Heap}{dx:Addr}{mA:Str->Option Value}(n:h.Ns1 dx mA):∃ od,h.get? dx=some od/\∀name,W.lookIn name od=some (mA name):=by
 obtain ⟨o,es,ep,ho,hd,hk,_,hm⟩:=n
 refine ⟨o,ho,fun name=>?_⟩
 have e:=hm name
 unfold nsFind findBy at e
 rw [<-Array.find?_toList] at e
 unfold W.lookIn
 rw [hd]
 dsimp only
 split
 .rename_i y q
  rw [q] at e
  exact congrArg some e
 rename_i q
 rw [q] at e
 have a:es.toList.any (·.refKey)=false:=by
  rw [List.any_eq_false]
  intro y hy
  obtain ⟨z,t,hkey⟩:=hk y (Array.mem_toList_iff.mp hy)
  simp [DictEntry.refKey,hkey]
 have a':¬ es.toList.any (·.refKey)=true:=by rw [a];exact Bool.false_ne_true
 rw [if_neg a']
 exact congrArg some e
theorem ObjM.look {h:Heap}{x dx C:Addr}{mA:Str->Option Value}(I:ObjM h x dx C mA):∃ od,W.InstAt h x (W.instObj C dx) C (some od)/\∀name,W.lookIn name od=some (mA name) :=
 let ⟨od,ho,hl⟩:=pD I.ns
 ⟨od,⟨I.obj,rfl,rfl,ho⟩,hl⟩
section
variable {prog:Program}{w:World}{A:Around}{E:Value->Shared->Prop}{s:Shared}{K:W.Frag}{x dx C f:Addr}{mA:Str->Option Value}{name:Str}{v:Value}
theorem tq {expr:Bool}{Q:Value->Shared->Prop}(X:K.In s.heap)(I:ObjM s.heap x dx C mA)(hg:W.plainGet K C name=true)(hh:W.hasDictIn K C=true)
  (ha:W.findIn K (.ref C) name=some none) (hv:mA name=some v) (hv':W.handedIn v=true) (h:Q v { s with toks:=s.toks+1 }) :
  wpAny (model prog w) A (getAttr (.ref x) name expr) Q E s:=by
 obtain ⟨od,J,hl⟩:=I.look
 exact W.get_value X J (W.plainGet_of hg).1 (W.findObj_own hh ha rfl (by rw [hl,hv])) hv' h
theorem rA {pl:Sem Bool}{Q:Value×List Value->Shared->Prop}(X:K.In s.heap)(I:ObjM s.heap x dx C mA)(hg:W.plainGet K C name=true)
  (hf:W.findIn K (.ref C) name=some (some (.ref f))) (ht:W.isFn K (.ref f)=true) (hv:mA name=none) (h:Q (.ref f,[.ref x]) s) :
  wpAny (model prog w) A (getMethod (.ref x) name pl) Q E s:=by
 obtain ⟨od,J,hl⟩:=I.look
 exact W.method_fn X J (W.plainGet_of hg).1 (W.plainGet_of hg).2 hf (beq_iff_eq.mp ht) (by show (W.lookIn name od).map (·.isSome)=some false;rw [hl,hv];rfl) h
theorem uh {ns:List Str}{Q:Unit->Shared->Prop}(X:K.In s.heap)(I:ObjM s.heap x dx C mA)
  (hs:W.findIn K (.ref C) "__setattr__"=some (some (.builtin "object.__setattr__"))) (hp:W.plainOver K C=true) (ht:W.takerIn K C name=some none) (hh:W.hasDictIn K C=true)
  (hw:PySem.Within mA ns) (hsz:ns.length<=sizeLine)
  (h:∀h',ObjM h' x dx C (fun y=>if y=name then some v else mA y)->Heap.SameBut dx s.heap h'->Q () { s with heap:=h',toks:=s.toks+2 }) :
  wpAny (model prog w) A (setAttr (.ref x) name v) Q E s:=by
 obtain ⟨od,J,hl⟩:=I.look
 refine W.set_plain X J hs (W.osa_open (s:={ s with toks:=s.toks+1 }) (r:=none) X J hp ht fun b=>?_)
 obtain ⟨cd,hc,hd'⟩:=W.any_some hh
 have hx:s.heap.get? x=some ⟨.ref C,some dx,.plain,#[]⟩:=I.obj
 refine wpAny_bind (wpAny_pure (wpAny_bind (wpAny_bind (wpAny_loadPart hx (wpAny_bind (W.Looks.here (s:={ s with toks:=s.toks+1 }) (W.looks_clsIn X hc) ?_))))))
 rw [hd']
 refine wpAny_pure (a:=some dx) (wpAny_bind (wpAny_pure (wpAny_bind ?_)))
 refine wpAny_nsSet1 (s:={ s with toks:=s.toks+1 }) I.ns fun h' hn2 hs2=>?_
 obtain ⟨oD,esD,epD,hoD,hdD,hcD⟩:=hn2.count (PySem.Within.cons name v hw)
 refine wpAny_bind (wpAny_lookBehind hoD (by rw [hdD];exact pastItsLine_dict (Nat.le_trans hcD (by rw [List.length_cons];lia))) ?_)
 exact wpAny_pure (h _ ⟨(hs2.2 _ (Ne.symm I.ne)).trans I.obj,hn2,I.ne⟩ hs2)
theorem p7 {R:Result->Shared->Prop}{vs:List Value}{kw:List (Str×Value)}(X:K.In s.heap)(hm:W.makesIn K C=true)
  (hi:W.findIn K (.ref C) "__init__"=some (some (.ref f))) (hf:W.typeIn K (.ref f)=some (.type "function"))
  (h:codeAny (model prog w) (A.under (.builtin "type.__call__" ⟨.ref C::vs,kw⟩)) (.call (.ref f) ⟨.ref (s.heap.objs.size+1)::vs,kw⟩) (W.InitBack (s.heap.objs.size+1) R)
   { s with heap:=(s.heap.push W.emptyDict).push (W.instObj C s.heap.objs.size) }) :
  codeAny (model prog w) A (.call (.ref C) ⟨vs,kw⟩) R s:=by
 obtain ⟨hh,g,d,t,os⟩:=s
 exact W.make_core (W.makes_of X hm) (W.looks_findIn X hi) (fun self=>W.bind_fn X self hf) (.inl rfl) h
end
def bF (f:Str)(v:V):List (Str×V)->List (Str×V)
 | []=>[(f,v)]
 | (g,x)::r=>if g=f then (g,v)::r else (g,x)::bF f v r
theorem dg (f g:Str)(v:V):∀fs:List (Str×V),(bF f v fs).lookup g=if g=f then some v else fs.lookup g
 | []=>by
  show List.lookup g [(f,v)]=_
  by_cases h:g=f
  .have hb:(g == f)=true:=beq_iff_eq.mpr h
   simp only [List.lookup,hb,if_pos h]
  .have hb:(g == f)=false:=beq_eq_false_iff_ne.mpr h
   simp only [List.lookup,hb,if_neg h]
 | (k,x)::r=>by
  have ih:=dg f g v r
  rw [show bF f v ((k,x)::r)=(if k=f then (k,v)::r else (k,x)::bF f v r) from rfl]
  by_cases hk:k=f
  .rw [if_pos hk]
   by_cases h:g=k
   .have hb:(g == k)=true:=beq_iff_eq.mpr h
    simp only [List.lookup,hb,if_pos (h.trans hk)]
   .have hb:(g == k)=false:=beq_eq_false_iff_ne.mpr h
    simp only [List.lookup,hb,if_neg (fun e:g=f=>h (e.trans hk.symm))]
  .rw [if_neg hk]
   by_cases h:g=k
   .have hb:(g == k)=true:=beq_iff_eq.mpr h
    simp only [List.lookup,hb,if_neg (fun e:g=f=>hk (h.symm.trans e))]
   .have hb:(g == k)=false:=beq_eq_false_iff_ne.mpr h
    simp only [List.lookup,hb]
    exact ih
theorem fO (f:Str)(v:V):∀fs:List (Str×V),f∈(bF f v fs).map (·.1)/\∀g,g∈fs.map (·.1)->g∈(bF f v fs).map (·.1)
 | []=>⟨by simp [bF],fun g h=>by simp at h⟩
 | (k,x)::r=>by
  obtain ⟨i1,i2⟩:=fO f v r
  rw [show bF f v ((k,x)::r)=(if k=f then (k,v)::r else (k,x)::bF f v r) from rfl]
  by_cases hk:k=f
  .rw [if_pos hk]
   subst hk
   exact ⟨zl,fun g h=>by simpa using h⟩
  .rw [if_neg hk]
   refine ⟨?_,fun g h=>?_⟩
   .rw [List.map_cons]
    exact List.mem_cons_of_mem _ i1
   .rw [List.map_cons] at h ⊢
    rcases List.mem_cons.mp h with e | e
    .exact List.mem_cons.mpr (.inl e)
    .exact List.mem_cons_of_mem _ (i2 g e)
theorem fW (f:Str)(v:V):∀fs:List (Str×V),(bF f v fs).length<=fs.length+1
 | []=>by simp [bF]
 | (k,x)::r=>by
  have ih:=fW f v r
  rw [show bF f v ((k,x)::r)=(if k=f then (k,v)::r else (k,x)::bF f v r) from rfl]
  by_cases hk:k=f
  .rw [if_pos hk,List.length_cons,List.length_cons];lia
  .rw [if_neg hk,List.length_cons,List.length_cons];lia
theorem RelO.some_of {v:V}{o:Option Value}(r:RelO (some v) o):∃ u,o=some u/\RelV v u:=by
 cases o with
 | none=>exact (show False from r).elim
 | some u=>exact ⟨u,rfl,r⟩
theorem RelO.none_of {o:Option Value}(r:RelO none o):o=none:=by
 cases o with
 | none=>rfl
 | some u=>exact (show False from r).elim
theorem pr {v:V}{u:Value}(r:RelV v u):W.handedIn u=true:=by
 cases v with
 | non=>cases (show u=Value.none from r);rfl
 | bl b=>cases (show u=Value.bool b from r);rfl
 | int i=>obtain ⟨t,e⟩:=(show ∃ t,u=Value.int i t from r);cases e;rfl
 | str x=>obtain ⟨t,e⟩:=(show ∃ t,u=Value.str x t from r);cases e;rfl
 | byt b=>obtain ⟨t,e⟩:=(show ∃ t,u=Value.bytes b t from r);cases e;rfl
 | flt b=>obtain ⟨t,e⟩:=(show ∃ t,u=Value.float b t from r);cases e;rfl
 | ref a=>cases (show u=Value.ref a from r);rfl
 | ty n=>cases (show u=Value.type n from r);rfl
section
variable {P:Program}{w:World}{H H':Hp}{h h':Heap}{a C dx:Addr}{fs fs':List (Str×V)}
theorem gn (hok:HOk P w H h)(e:H a=some (.ins C dx fs)):∃ mA,ObjM h a dx C mA/\(∀f,RelO (fs.lookup f) (mA f))/\PySem.Within mA (fs.map (·.1))/\fs.length<=1000/\H dx=some (.own a):=by
 obtain ⟨d,z,ne,ob,mA,n,r,q⟩:=(show ObjOk P w H h a (.ins C dx fs) from hok a _ e)
 exact ⟨mA,⟨ob,n,ne⟩,r,q,z,d⟩
end
structure Cls (K:W.Frag)(C:Addr):Prop where
 pg:W.plainGet K C Str.empty=true
 hd:W.hasDictIn K C=true
 po:W.plainOver K C=true
 sa:W.findIn K (.ref C) "__setattr__"=some (some (.builtin "object.__setattr__"))
theorem Cls.get {K:W.Frag}{C:Addr}(c:Cls K C)(f:Str):W.plainGet K C f=true:=c.pg
def NoAttr (K:W.Frag)(C:Addr)(f:Str):Prop:=W.findIn K (.ref C) f=some none
theorem NoAttr.taker {K:W.Frag}{C:Addr}{f:Str}(n:NoAttr K C f):W.takerIn K C f=some none:=by
 unfold W.takerIn
 rw [show W.findIn K (.ref C) f=some none from n]
 rfl
structure bP (K:W.Frag)(C:Addr)(m:Str)(f:Addr):Prop where
 at_:W.findIn K (.ref C) m=some (some (.ref f))
 fn:W.isFn K (.ref f)=true
 kp:W.keepIn K (.ref f)=true
section
variable {X:Cx}{pins:List (Addr×Obj)}{σ:St}{H:Hp}{s:Shared}{a C dx:Addr}{fs:List (Str×V)}{f:Str}{v:V}{A:Around}{E:Value->Shared->Prop}
theorem mJ {b:Bool}{Q:Value->Shared->Prop}(I:Inv X pins σ H s)(e:H a=some (.ins C dx fs))(c:Cls X.K C)(n:NoAttr X.K C f)(l:fs.lookup f=some v)
  (h:∀u s',Inv X pins σ H s'->RelV v u->Q u s'):wpAny (model X.prog X.w) A (getAttr (.ref a) f b) Q E s:=by
 obtain ⟨mA,O,r,_,_,_⟩:=gn I.hok e
 obtain ⟨u,hu,ru⟩:=RelO.some_of (v:=v) (o:=mA f) (by rw [<-l];exact r f)
 exact tq I.kIn O (c.get f) c.hd n hu (pr ru) (h u _ (I.tok _) ru)
theorem gx {m:Str}{g:Addr}{pl:Sem Bool}{Q:Value×List Value->Shared->Prop}(I:Inv X pins σ H s)(e:H a=some (.ins C dx fs))(c:Cls X.K C)(k:bP X.K C m g)(l:fs.lookup m=none)
  (h:Q (.ref g,[.ref a]) s):wpAny (model X.prog X.w) A (getMethod (.ref a) m pl) Q E s:=by
 obtain ⟨mA,O,r,_,_,_⟩:=gn I.hok e
 have hn:mA m=none:=RelO.none_of (by rw [<-l];exact r m)
 exact rA I.kIn O (c.get m) k.at_ k.fn hn h
theorem kP {y:V}{u:Value}{Q:Unit->Shared->Prop}(I:Inv X pins σ H s)(e:H a=some (.ins C dx fs))(c:Cls X.K C)(n:NoAttr X.K C f)(hl:fs.length<1000)(ry:RelV y u)
  (h:∀s',Inv X pins σ (upd H a (.ins C dx (bF f y fs))) s'->Q () s'):wpAny (model X.prog X.w) A (setAttr (.ref a) f u) Q E s:=by
 obtain ⟨mA,O,r,wi,_,ho⟩:=gn I.hok e
 have hz:(fs.map (·.1)).length<=sizeLine:=by rw [List.length_map,sizeLine_eq];lia
 refine uh I.kIn O c.sa c.po n.taker c.hd wi hz fun h' O' sb=>h _ ?_
 have hd:∃ o,h'.get? dx=some o:=let ⟨o,_,_,e',_⟩:=O'.ns;⟨o,e'⟩
 refine I.write (x:=a) (e:=dx) (by rw [e];exact True.intro) (.inr ho) (fun b q hb z=>(sb.2 b hb).trans z) hd ?_
 refine ⟨by rw [ak O.ne];exact ho,?_,O.ne,O'.obj,_,O'.ns,fun g=>?_,fun g hg=>?_⟩
 .have:=fW f y fs;lia
 .show RelO ((bF f y fs).lookup g) (if g=f then some u else mA g)
  rw [dg]
  by_cases q:g=f
  .rw [if_pos q,if_pos q];exact ry
  .rw [if_neg q,if_neg q];exact r g
 by_cases q:g=f
 .rw [q];exact (fO f y fs).1
 refine (fO f y fs).2 g (wi g fun z=>hg ?_)
 show (if g=f then some u else mA g)=none
 rw [if_neg q];exact z
theorem Inv.made (I:Inv X pins σ H s):Inv X pins σ (upd (upd H s.heap.objs.size (.own (s.heap.objs.size+1))) (s.heap.objs.size+1) (.ins C s.heap.objs.size []))
  { s with heap:=(s.heap.push W.emptyDict).push (W.instObj C s.heap.objs.size) }:=by
 have e1:(s.heap.push W.emptyDict).get? s.heap.objs.size=some W.emptyDict:=Heap.get?_push_size s.heap rfl
 have e2:((s.heap.push W.emptyDict).push (W.instObj C s.heap.objs.size)).get? (s.heap.objs.size+1)=some (W.instObj C s.heap.objs.size):=by
  have:=Heap.get?_push_size (s.heap.push W.emptyDict) (o:=W.instObj C s.heap.objs.size) rfl
  rwa [Heap.size_push] at this
 have e3:(s.heap.push W.emptyDict).Ns s.heap.objs.size (fun _=>none):=⟨W.emptyDict,#[],_,e1,rfl,(fun e he=>absurd he zl),fun _=>rfl⟩
 have I1:=I.laid (a:=s.heap.objs.size) (o:=.own (s.heap.objs.size+1)) (h':=s.heap.push W.emptyDict) (t':=s.toks) (fun b u q=>Heap.get?_push_of_some _ q) (Nat.le_refl _) ⟨_,e1⟩
 refine I1.laid (a:=s.heap.objs.size+1) (o:=.ins C s.heap.objs.size []) (t':=s.toks) (fun b u q=>Heap.get?_push_of_some _ q) (Nat.le_of_eq (Heap.size_push _ _)) ?_
 have ne:s.heap.objs.size≠s.heap.objs.size+1:=Nat.ne_of_lt (Nat.lt_succ_self _)
 refine ⟨by rw [ak ne,af],Nat.zero_le _,ne,e2,fun _=>none,(Heap.Ns1.of_empty e3).at fun o q=>Heap.get?_push_of_some _ q,fun _=>True.intro,fun y hy=>absurd rfl hy⟩
theorem tN {prog:Program}{w:World}{env:Env}{e:Expr}{f:Str}{pos:Pos}{s:Shared}{Q:Value->Shared->Prop}(hb:attributeBase e f env (eval e env)=eval e env)
  (h:wpAny (model prog w) A (eval e env) (fun o s₁=>wpAny (model prog w) A (getAttr o f true) Q E s₁) E s):wpAny (model prog w) A (eval (.Attribute e f pos) env) Q E s :=
 Attribute_any_ h (by rw [arm_eval_Attribute,hb])
end
def xY (K:W.Frag)(ta:TE)(f:Str):TE:=fun σ H Q=>ta σ H fun x H1=>∃ a C dx fs v,x=.ref a/\H1 a=some (.ins C dx fs)/\Cls K C/\NoAttr K C f/\fs.lookup f=some v/\Q v H1
def yE (K:W.Frag)(ta tv:TE)(f:Str):TS:=fun D σ H=>tv σ H fun y H1=>ta σ H1 fun x H2=>∃ a C dx fs,x=.ref a/\H2 a=some (.ins C dx fs)/\Cls K C/\NoAttr K C f/\fs.length<1000 /\
 D.nx σ (upd H2 a (.ins C dx (bF f y fs)))
section
variable {X:Cx}{o e value:Expr}{f:Str}{pos pos' tpos:Pos}{ta tv:TE}
theorem wt (he:PE X e ta)(hb:attributeBase e f X.env (eval e X.env)=eval e X.env):PE X (.Attribute e f pos) (xY X.K ta f):=by
 intro pins s σ H Q I h
 refine tN hb (thn (he pins s σ H _ I h) fun u s1 zz=>?_)
 obtain ⟨x,H1,I1,rx,a,C,dx,fs,v,ex,ea,c,n,l,q⟩:=zz
 subst ex
 obtain rfl:u=Value.ref a:=rx
 exact mJ I1 ea c n l fun u' s2 I2 ru=>⟨v,H1,I2,ru,q⟩
theorem xK (ha:PE X o ta)(hv:PE X value tv)(hs:swapsWith value (some (.Attribute o f pos')) pos.line X.env=pure false):PS X (.Assign [.Attribute o f pos'] value pos) (yE X.K ta tv f):=by
 intro pins s σ H D I h
 refine plainObj_wpAny_Assign_Attribute (thn (hv pins s σ H _ I h) fun u s1 ⟨y,H1,I1,ry,q⟩=>thn (ha pins s1 σ H1 _ I1 q) fun ov s2 zz=>?_) hs
 obtain ⟨x,H2,I2,rx,a,C,dx,fs,ex,ea,c,n,l,q2⟩:=zz
 subst ex
 obtain rfl:ov=Value.ref a:=rx
 exact kP I2 ea c n l ry fun s3 I3=>⟨σ,_,I3,q2⟩
end
section
variable {X:Cx}{pins:List (Addr×Obj)}{σ:St}{H:Hp}{s:Shared}{A:Around}{E:Value->Shared->Prop}{Q:Value->Shared->Prop}{c:Value}{b:Bool}
inductive fT (K:W.Frag)(H:Hp):V->Value->Prop where
 | non:fT K H .non (.type "NoneType")
 | bl (x:Bool):fT K H (.bl x) (.type "bool")
 | int (i:Int):fT K H (.int i) (.type "int")
 | str (x:Str):fT K H (.str x) (.type "str")
 | flt (x:UInt64):fT K H (.flt x) (.type "float")
 | lst {a:Addr} {xs:List V} (e:H a=some (.lst xs)):fT K H (.ref a) (.type "list")
 | frz {a:Addr} {o:Obj} {xs:List V} (e:H a=some (.frz o (.lst xs))):fT K H (.ref a) (.type "list")
 | tup {a:Addr} {xs:List V} (e:H a=some (.tup xs)):fT K H (.ref a) (.type "tuple")
 | dK {a:Addr} {kvs:List (Key×V)} (e:H a=some (.dK kvs)):fT K H (.ref a) (.type "dict")
 | dT {a:Addr} {kvs:List (List Key×V)} (e:H a=some (.dT kvs)):fT K H (.ref a) (.type "dict")
 | ins {a C dx:Addr} {fs:List (Str×V)} (e:H a=some (.ins C dx fs)) (cl:Cls K C) (ha:W.findIn K (.ref C) "__class__"=some (some (.builtin "object.__class__")))
   (hn:W.specialIn K (.builtin "object.__class__") "__get__"=some (some (.builtin "getset_descriptor.__get__"))) (htk:W.takesIn K (.builtin "object.__class__")=some true)
   (hm:W.mroIn K C (.type "object")=some true):fT K H (.ref a) (.ref C)
theorem oY {x:V}{u t:Value}(I:Inv X pins σ H s)(rx:RelV x u)(ty:fT X.K H x t)(e:W.kitOne X.K t c=some b)(h:∀tk,Q (.bool b) { s with toks:=tk }) :
  wpAny (model X.prog X.w) A (call (.builtin "isinstance") [u,c]) Q E s:=by
 cases ty with
 | non=>cases (show u=Value.none from rx);exact W.kia_one W.kitx_none I.kIn True.intro e (fun z=>nomatch z) h
 | bl y=>cases (show u=Value.bool y from rx);exact W.kia_one W.kitx_bool I.kIn True.intro e (fun z=>nomatch z) h
 | int i=>obtain ⟨t,q⟩:=(show ∃ t,u=Value.int i t from rx);cases q;exact W.kia_one W.kitx_int I.kIn True.intro e (fun z=>nomatch z) h
 | str y=>obtain ⟨t,q⟩:=(show ∃ t,u=Value.str y t from rx);cases q;exact W.kia_one W.kitx_str I.kIn True.intro e (fun z=>nomatch z) h
 | flt y=>obtain ⟨t,q⟩:=(show ∃ t,u=Value.float y t from rx);cases q;exact W.kia_one W.kitx_float I.kIn True.intro e (fun z=>nomatch z) h
 | @lst a xs ea =>
  cases (show u=Value.ref a from rx)
  obtain ⟨_,_,n,_,h1⟩:=(show ObjOk X.prog X.w H s.heap a (.lst xs) from I.hok a _ ea)
  exact W.kia_one W.kitx_list I.kIn ⟨_,h1,rfl⟩ e (fun z=>nomatch z) h
 | @frz a ob xs ea =>
  cases (show u=Value.ref a from rx)
  obtain ⟨_,_,_,n,_,h1⟩:=(show ObjOk X.prog X.w H s.heap a (.frz ob (.lst xs)) from I.hok a _ ea)
  exact W.kia_one W.kitx_list I.kIn ⟨_,h1,rfl⟩ e (fun z=>nomatch z) h
 | @tup a xs ea =>
  cases (show u=Value.ref a from rx)
  obtain ⟨_,_,_,p⟩:=(show ObjOk X.prog X.w H s.heap a (.tup xs) from I.hok a _ ea)
  obtain ⟨o,h1,h2,_⟩:=p
  exact W.kia_one W.kitx_tuple I.kIn ⟨o,h1,h2⟩ e (fun z=>nomatch z) h
 | @dK a kvs ea =>
  cases (show u=Value.ref a from rx)
  obtain ⟨_,_,vs,_,p⟩:=(show ObjOk X.prog X.w H s.heap a (.dK kvs) from I.hok a _ ea)
  obtain ⟨o,es,ep,h1,h2,_⟩:=p
  exact W.kia_one W.kitx_dict I.kIn ⟨o,h1,h2.1⟩ e (fun z=>nomatch z) h
 | @dT a kvs ea =>
  cases (show u=Value.ref a from rx)
  obtain ⟨_,_,xs,_,o,es,ep,h1,h2,_⟩:=(show ObjOk X.prog X.w H s.heap a (.dT kvs) from I.hok a _ ea)
  exact W.kia_one W.kitx_dict I.kIn ⟨o,h1,h2.1⟩ e (fun z=>nomatch z) h
 | @ins a C dx fs ea cl ha hn htk hm =>
  cases (show u=Value.ref a from rx)
  obtain ⟨mA,O,_⟩:=gn I.hok ea
  obtain ⟨od,J,_⟩:=O.look
  exact W.kia_one (W.kitx_own (cl.get _) cl.hd ha hn htk hm) I.kIn J e (fun z=>nomatch z) h
end
structure Room (k:Nat)(A:Around):Prop where
 hd:A.handled=none
 dp:A.depth+3*k+5<recursionLimit
 un:A.units+16*k+200<cLine
theorem Room.mono {j k:Nat}{A:Around}(r:Room k A)(h:j<=k):Room j A:=⟨r.hd,by have:=r.dp;lia,by have:=r.un;lia⟩
theorem Room.deeper {k:Nat}{A:Around}(r:Room (k+1) A)(env:Env):Room k (A.deeper env) :=
 ⟨r.hd,by have:=r.dp;show A.depth+1+3*k+5<_;lia,by have:=r.un;show A.units+3+16*k+200<_;lia⟩
theorem mO {A:Around}{C:Addr}{us:List Value}{kw:List (Str×Value)}:(A.under (.builtin "type.__call__" ⟨.ref C::us,kw⟩)).depth=A.depth+1:=by
 first | rfl | simp [Around.under,Code.weight,Code.isCreation,Code.isGuard,Code.isCaller,Code.frames,Code.isFrame,guardIds]
theorem mz {A:Around}{C:Addr}{us:List Value}{kw:List (Str×Value)}:(A.under (.builtin "type.__call__" ⟨.ref C::us,kw⟩)).units=A.units+1:=by
 first | rfl | simp [Around.under,Code.cUnits,Code.frames,Code.isFrame]
theorem Room.make {k:Nat}{A:Around}(r:Room (k+1) A)(C:Addr)(us:List Value)(kw:List (Str×Value)):Room k (A.under (.builtin "type.__call__" ⟨.ref C::us,kw⟩)) :=
 ⟨r.hd,by have:=r.dp;rw [mO];lia,by have:=r.un;rw [mz];lia⟩
theorem Room.depth {k:Nat}{A:Around}(r:Room k A):A.depth<recursionLimit:=by have:=r.dp;lia
theorem Room.units {k:Nat}{A:Around}(r:Room k A):A.units+64<cLine:=by have:=r.un;lia
theorem Room.units0 {k:Nat}{A:Around}(r:Room k A):A.units<cLine:=by have:=r.un;lia
def lL:TA:=fun _ H Q=>Q [] H
def vD (ta:TE)(tr:TA):TA:=fun σ H Q=>ta σ H fun x H1=>tr σ H1 fun xs H2=>Q (x::xs) H2
section
variable {X:Cx}{e:Expr}{es:List Expr}{te:TE}{t:TA}{pos:Pos}
theorem rf:PA X [] lL:=fun _ _ _ _ H Q I h=>Calls.spliced_nil ⟨[],H,I,.nil,h⟩
theorem oa (ha:PE X e te)(hr:PA X es t)(hs:starEach (e::es) X.env=(false,eval e X.env)::starEach es X.env:=by rfl):PA X (e::es) (vD te t):=by
 intro pos pins s σ H Q I h
 rw [hs]
 show wpAny _ _ (spliced ((false,eval e X.env)::backTo pos (starEach es X.env))) _ _ s
 refine Calls.spliced_cons (thn (ha pins s σ H _ I h) fun u s1 zz=>?_)
 obtain ⟨x,H1,I1,r1,q1⟩:=zz
 exact thn (hr pos pins s1 σ H1 _ I1 q1) fun us s2 ⟨xs,H2,I2,r2,q2⟩=>⟨x::xs,H2,I2,.cons r1 r2,q2⟩
def yD (t:TA):TE:=fun σ H Q=>t σ H fun xs H1=>xs.length<=sizeLine/\∀p,H1 p=none->Q (.ref p) (upd H1 p (.tup xs))
def yr (t:TA):TE:=fun σ H Q=>t σ H fun xs H1=>xs.length<=sizeLine/\∀p,H1 p=none->Q (.ref p) (upd H1 p (.lst xs))
theorem wE {x1}(h:PA X es t):PE X (.Tuple es x1 pos) (yD t):=by
 intro pins s σ H Q I hq
 refine wpAny_Tuple_spliced (thn (h pos pins s σ H _ I hq) fun us s1 ⟨xs,H1,I1,r,z,q⟩=>⟨by rw [<-r.length];exact z,?_⟩)
 have hf:H1 s1.heap.objs.size=none:=I1.hok.fresh (Nat.le_refl _)
 refine ⟨.ref s1.heap.objs.size,upd H1 s1.heap.objs.size (.tup xs),I1.laid (t':=s1.toks) (fun b u e=>Heap.get?_push_of_some _ e) (Nat.le_refl _) ?_,rfl,q _ hf⟩
 exact ⟨z,us,r,⟨_,Heap.get?_push_size _ rfl,rfl,_,rfl⟩⟩
theorem wY (h:PA X es t):PE X (.List es pos) (yr t):=by
 intro pins s σ H Q I hq
 refine wpAny_List_spliced (thn (h pos pins s σ H _ I hq) fun us s1 ⟨xs,H1,I1,r,z,q⟩=>⟨by rw [<-r.length];exact z,?_⟩)
 have hf:H1 s1.heap.objs.size=none:=I1.hok.fresh (Nat.le_refl _)
 refine ⟨.ref s1.heap.objs.size,upd H1 s1.heap.objs.size (.lst xs),I1.laid (t':=s1.toks) (fun b u e=>Heap.get?_push_of_some _ e) (Nat.le_refl _) ?_,rfl,q _ hf⟩
 exact ⟨z,us,0,r,Heap.get?_push_size _ rfl⟩
end
abbrev Sp:=List V->Hp->VK->XK->Prop
abbrev CXT:=List Env->Hp->Shared->XK->Value->Shared->Prop
structure Env0 (P:Program)(w:World)(K:W.Frag)(mg:Str->Option Value)(base:Heap)(A:Around)(outer:List Env)(s:Shared)(H:Hp):Prop where
 frames:A.frames=some outer
 mod:Mod K mg base
 bs:∀b o,base.get? b=some o->s.heap.get? b=some o/\H b=none
 bsz:base.objs.size<=s.heap.objs.size
 funs:s.heap.FunFrames base outer
 frf:∀b∈frs outer,H b=none
 hok:HOk P w H s.heap
 bare:AllBare s.gens
def CE (outer:List Env)(P:Program)(w:World)(H:Hp)(s:Shared)(Q:VK)(u:Value)(s':Shared):Prop :=
 ∃ v H',s'.os=s.os/\AllBare s'.gens/\Un (frs outer) [] H H' s.heap s'.heap/\HOk P w H' s'.heap/\RelV v u/\Q v H'
def CR (CX:CXT)(outer:List Env)(P:Program)(w:World)(H:Hp)(s:Shared)(Q:VK)(E:XK)(r:Result)(s':Shared):Prop :=
 match r with
 | .ok (.ret u)=>CE outer P w H s Q u s'
 | .ok _=>False
 | .error e=>CX outer H s E e s'
structure aA (P:Program)(w:World)(K:W.Frag)(mg:Str->Option Value)(base:Heap)(CX:CXT)(k:Nat)(f:Addr)(fd:FuncData)(ps:List Str)(sp:Sp):Prop where
 len:∀vs H Q E,sp vs H Q E->vs.length=ps.length
 run:∀(A:Around) (outer:List Env) (s:Shared) (H:Hp) (args:Args) (us:List Value) (vs:List V) (Q:VK) (E:XK),Room k A->Env0 P w K mg base A outer s H->BindsTo s fd args (ps.zip us)->Vals vs us->sp vs H Q E ->
  codeAny (model P w) A (.call (.ref f) args) (CR CX outer P w H s Q E) s
theorem Env0.make {P:Program}{w:World}{K:W.Frag}{mg:Str->Option Value}{base:Heap}{A:Around}{outer:List Env}{s:Shared}{H:Hp}(e:Env0 P w K mg base A outer s H)(C:Addr)(us:List Value)(kw:List (Str×Value)) :
  Env0 P w K mg base (A.under (.builtin "type.__call__" ⟨.ref C::us,kw⟩)) outer s H:=⟨by first | exact e.frames | (simpa [Around.under,Code.envs,Code.isFrame,pushEnvs] using e.frames),e.mod,e.bs,e.bsz,e.funs,e.frf,e.hok,e.bare⟩
section
variable {X:Cx}{pins:List (Addr×Obj)}{σ:St}{H:Hp}{s s':Shared}
theorem Inv.env0 (I:Inv X pins σ H s):Env0 X.prog X.w X.K X.mg X.base X.A X.stack s H :=
 ⟨I.ok.frames,I.ok.mod,I.bs,Nat.le_trans I.ok.bsz I.sz,I.stack,I.stkFree,I.hok,I.bare⟩
theorem Inv.after {Q:VK}{u:Value}(I:Inv X pins σ H s)(h:CE X.stack X.prog X.w H s Q u s'):EP X pins σ Q u s':=by
 obtain ⟨v,H',os,bare,un,hok,r,q⟩:=h
 obtain ⟨hh,g,d,t,os'⟩:=s'
 obtain rfl:os'=s.os:=os
 exact ⟨v,H',I.call (h':=hh) (g':=g) (d':=d) (t':=t) (ch:=[]) un hok bare (fun b z=>absurd z zl),r,q⟩
end
def jP (sp:Sp)(dvs:List V)(E:XK)(t:TA):TE:=fun σ H Q=>t σ H fun vs H1=>sp (vs++dvs) H1 Q E
def oo (C:Addr)(m:Str)(sp:Sp)(dvs:List V)(E:XK)(ta:TE)(t:TA):TE:=fun σ H Q=>ta σ H fun x H1=>∃ a dx fs,x=.ref a/\H1 a=some (.ins C dx fs)/\fs.lookup m=none /\
 t σ H1 fun vs H2=>sp (x::(vs++dvs)) H2 Q E
def vR (C:Addr)(sp:Sp)(dvs:List V)(E:XK)(t:TA):TE:=fun σ H Q=>t σ H fun vs H1=>∀x dx,H1 x=none->H1 dx=none->dx≠x ->
 sp (.ref x::(vs++dvs)) (upd (upd H1 dx (.own x)) x (.ins C dx [])) (fun v H2=>v=.non/\Q (.ref x) H2) E
def Binds (K:W.Frag)(fd:FuncData)(ps:List Str)(ds:List Value):Prop :=
 ∀(s:Shared) (us:List Value),K.In s.heap->(us++ds).length=ps.length->BindsTo s fd ⟨us,[]⟩ (ps.zip (us++ds))
theorem Binds.all {K:W.Frag}{fd:FuncData}{ps:List Str}(h:∀us:List Value,us.length=ps.length->bindArgs fd ⟨us,[]⟩=pure (ps.zip us)):Binds K fd ps []:=fun s us _ hl=>by
 rw [List.append_nil] at hl ⊢
 exact .of_eq (h us hl)
def bM (CX:CXT)(X:Cx)(E:XK):Prop:=∀(pins:List (Addr×Obj)) (σ:St) (H:Hp) (s:Shared) (e:Value) (s':Shared),Inv X pins σ H s->CX X.stack H s E e s'->X.xe e s'
section
variable {X:Cx}{CX:CXT}{k:Nat}{f C:Addr}{fd:FuncData}{ps:List Str}{sp:Sp}{dvs:List V}{ds:List Value}{E:XK}{x m:Str}{p pos apos:Pos}{e o:Expr}{es:List Expr}{ta:TE}{t:TA}
theorem jm {pins:List (Addr×Obj)}{σ:St}{H:Hp}{s:Shared}{Q:VK}{us:List Value}{vs:List V}(F:aA X.prog X.w X.K X.mg X.base CX k f fd ps sp)(hr:Room k X.A)(hb:Binds X.K fd ps ds)(hd:Vals dvs ds)(hx:bM CX X E)
  (I:Inv X pins σ H s) (r:Vals vs us) (h:sp (vs++dvs) H Q E):wpAny (model X.prog X.w) X.A (call (.ref f) us) (EP X pins σ Q) X.xe s:=by
 have r2:Vals (vs++dvs) (us++ds):=r.append hd
 have hl:(us++ds).length=ps.length:=by rw [<-r2.length];exact F.len _ _ _ _ h
 refine wpAny_call (codeAny_mono (F.run X.A X.stack s H ⟨us,[]⟩ (us++ds) (vs++dvs) Q E hr I.env0 (hb s us I.kIn hl) r2 h) fun r s' hq=>?_)
 cases r with
 | error e=>exact hx pins σ H s e s' I hq
 | ok fl =>
  cases fl with
  | ret u=>exact I.after hq
  | next=>exact False.elim hq
  | brk=>exact False.elim hq
  | cont=>exact False.elim hq
theorem tU (F:aA X.prog X.w X.K X.mg X.base CX k f fd ps sp)(hr:Room k X.A)(hg:Gl X x)(hm:X.mg x=some (.ref f))(hk:W.keepIn X.K (.ref f)=true)(hb:Binds X.K fd ps ds)(hd:Vals dvs ds)(hx:bM CX X E)
  (ha:PA X (e::es) t) (hdb:(x == ("__debug__":Str))=false:=by decide) (he:starEach (e::es) X.env=(false,eval e X.env)::starEach es X.env:=by rfl) (hpl:(backTo pos (starEach es X.env)).any (·.1)=false:=by rfl) :
  PE X (.Call (.Name x p) (e::es) [] pos) (jP sp dvs E t):=by
 intro pins s σ H Q I h
 refine wpAny_Call_Name_kw (cR I hg hm ?_ hdb)
 refine W.callWith_K (h₀:=X.base) I.ok.mod.kin hk (thn (ha pos pins s σ H _ I h) fun us s1 ⟨vs,H1,I1,r,q⟩=>⟨I1.kIn,?_⟩) he hpl
 exact jm F hr hb hd hx I1 r q
theorem tT {pl:Sem Bool}(he:PE X o ta)(c:Cls X.K C)(hm:bP X.K C m f)(F:aA X.prog X.w X.K X.mg X.base CX k f fd ps sp)(hr:Room k X.A)(hb:Binds X.K fd ps ds)(hd:Vals dvs ds)(hx:bM CX X E)(ha:PA X (e::es) t)
  (hst:starEach (e::es) X.env=(false,eval e X.env)::starEach es X.env:=by rfl) (hpl:(backTo pos (starEach es X.env)).any (·.1)=false:=by rfl)
  (ht:eval (.Call (.Attribute o m apos) (e::es) [] pos) X.env=(do
   let ov <-eval o X.env
   standAt apos.atName
   let (f,first) <-holding [ov] (getMethod ov m pl)
   callWith pos f first (backTo pos (starEach (e::es) X.env)) (backToKw pos (keywordEach [] X.env))):=by rfl) :
  PE X (.Call (.Attribute o m apos) (e::es) [] pos) (oo C m sp dvs E ta t):=by
 intro pins s σ H Q I h
 refine W.methodCall_KW (pl:=pl) (thn (he pins s σ H _ I h) fun u s1 zz=>?_) ht
 obtain ⟨x,H1,I1,rx,a,dx,fs,ex,ea,l,q⟩:=zz
 subst ex
 obtain rfl:u=Value.ref a:=rx
 refine gx I1 ea c hm l ?_
 refine W.callWith_K (first:=[.ref a]) (h₀:=X.base) I.ok.mod.kin hm.kp (thn (ha pos pins s1 σ H1 _ I1 q) fun us s2 ⟨vs,H2,I2,r,q2⟩=>⟨I2.kIn,?_⟩) hst hpl
 exact jm (us:=.ref a::us) (vs:=.ref a::vs) F hr hb hd hx I2 (.cons rfl r) q2
theorem qM {pl:Sem Bool}(he:PE X o ta)(c:Cls X.K C)(hm:bP X.K C m f)(F:aA X.prog X.w X.K X.mg X.base CX k f fd ps sp)(hr:Room k X.A)(hb:Binds X.K fd ps ds)(hd:Vals dvs ds)(hx:bM CX X E)
  (ht:eval (.Call (.Attribute o m apos) [] [] pos) X.env=(do
   let ov <-eval o X.env
   standAt apos.atName
   let (f,first) <-holding [ov] (getMethod ov m pl)
   callWith pos f first (backTo pos (starEach [] X.env)) (backToKw pos (keywordEach [] X.env))):=by rfl) :
  PE X (.Call (.Attribute o m apos) [] [] pos) (oo C m sp dvs E ta lL):=by
 intro pins s σ H Q I h
 refine W.methodCall_KW (pl:=pl) (thn (he pins s σ H _ I h) fun u s1 zz=>?_) ht
 obtain ⟨x,H1,I1,rx,a,dx,fs,ex,ea,l,q⟩:=zz
 subst ex
 obtain rfl:u=Value.ref a:=rx
 refine gx I1 ea c hm l ?_
 exact W.callWith_K0 (first:=[.ref a]) I1.kIn hm.kp (jm (us:=[.ref a]) (vs:=[.ref a]) F hr hb hd hx I1 (.cons rfl .nil) q)
structure Mk (K:W.Frag)(C f:Addr):Prop where
 makes:W.makesIn K C=true
 init:W.findIn K (.ref C) "__init__"=some (some (.ref f))
 fn:W.isFn K (.ref f)=true
 kp:W.keepIn K (.ref C)=true
theorem sM {pins:List (Addr×Obj)}{σ:St}{H:Hp}{s:Shared}{Q:VK}{us:List Value}{vs:List V}(M:Mk X.K C f)(F:aA X.prog X.w X.K X.mg X.base CX k f fd ps sp)(hr:Room (k+1) X.A)(hb:Binds X.K fd ps ds)(hd:Vals dvs ds)
  (hx:bM CX X E) (I:Inv X pins σ H s) (r:Vals vs us)
  (h:∀x dx,H x=none->H dx=none->dx≠x->sp (.ref x::(vs++dvs)) (upd (upd H dx (.own x)) x (.ins C dx [])) (fun v H2=>v=.non/\Q (.ref x) H2) E) :
  wpAny (model X.prog X.w) X.A (call (.ref C) us) (EP X pins σ Q) X.xe s:=by
 have hq:=h (s.heap.objs.size+1) s.heap.objs.size (I.hok.fresh (Nat.le_succ _)) (I.hok.fresh (Nat.le_refl _)) (Nat.ne_of_lt (Nat.lt_succ_self _))
 have I2:=Inv.made (C:=C) I
 have r2:Vals (V.ref (s.heap.objs.size+1)::(vs++dvs)) (Value.ref (s.heap.objs.size+1)::(us++ds)):=.cons rfl (r.append hd)
 have hl:(Value.ref (s.heap.objs.size+1)::us++ds).length=ps.length:=by
  have e:=r2.length
  rw [F.len _ _ _ _ hq] at e
  exact e.symm
 refine wpAny_call (p7 (f:=f) I.kIn M.makes M.init (beq_iff_eq.mp M.fn) (codeAny_mono (F.run _ X.stack _ _ ⟨Value.ref (s.heap.objs.size+1)::us,[]⟩ (Value.ref (s.heap.objs.size+1)::(us++ds)) _ _ E (hr.make C us [])
  (I2.env0.make C us []) (hb _ (Value.ref (s.heap.objs.size+1)::us) I2.kIn hl) r2 hq) fun r s' hq'=>?_))
 cases r with
 | error e=>exact hx pins σ _ _ e s' I2 hq'
 | ok fl =>
  cases fl with
  | ret u =>
   obtain ⟨v,H',I3,rv,ev,q3⟩:=I2.after hq'
   subst ev
   exact ⟨rv,⟨V.ref (s.heap.objs.size+1),H',I3,rfl,q3⟩⟩
  | next=>exact False.elim hq'
  | brk=>exact False.elim hq'
  | cont=>exact False.elim hq'
theorem uV (M:Mk X.K C f)(F:aA X.prog X.w X.K X.mg X.base CX k f fd ps sp)(hr:Room (k+1) X.A)(hg:Gl X x)(hm:X.mg x=some (.ref C))(hb:Binds X.K fd ps ds)(hd:Vals dvs ds)(hx:bM CX X E)
  (ha:PA X (e::es) t) (hdb:(x == ("__debug__":Str))=false:=by decide) (he:starEach (e::es) X.env=(false,eval e X.env)::starEach es X.env:=by rfl) (hpl:(backTo pos (starEach es X.env)).any (·.1)=false:=by rfl) :
  PE X (.Call (.Name x p) (e::es) [] pos) (vR C sp dvs E t):=by
 intro pins s σ H Q I h
 refine wpAny_Call_Name_kw (cR I hg hm ?_ hdb)
 refine W.callWith_K (h₀:=X.base) I.ok.mod.kin M.kp (thn (ha pos pins s σ H _ I h) fun us s1 ⟨vs,H1,I1,r,q⟩=>⟨I1.kIn,?_⟩) he hpl
 exact sM M F hr hb hd hx I1 r q
end
structure FnScope (N P:List Str)(sc:Scope):Prop where
 kind:sc.kind=.function
 co:sc.isCoroutine=false
 gen:sc.isGenerator=false
 nd:N.Nodup
 pre:N.take P.length=P
 par:∀x∈P,sc.names.lookup x=some .local∨sc.names.lookup x=some .cell
 nofree:∀y∈sc.names,y.2≠.free
theorem iE {kindOf:Str->Option NameKind}{x:Str}:∀{binds:List (Str×Value)} {m:Str->Option Value},(∀v,(x,v)∉binds)->bindL kindOf binds m x=m x
 | [],_,_=>rfl
 | (n,v)::r,m,h=>by
  unfold bindL
  rw [iE fun w hw=>h w (List.mem_cons_of_mem _ hw)]
  split
  .have:x≠n:=by rintro rfl;exact h v List.mem_cons_self
   simp [this]
  .rfl
theorem iQ {kindOf:Str->Option NameKind}{x:Str}:∀{binds:List (Str×Value)} {m:Str->Option Value},(∀v,(x,v)∉binds)->bindC kindOf binds m x=m x
 | [],_,_=>rfl
 | (n,v)::r,m,h=>by
  unfold bindC
  rw [iQ fun w hw=>h w (List.mem_cons_of_mem _ hw)]
  split
  .rfl
  .have:x≠n:=by rintro rfl;exact h v List.mem_cons_self
   simp [this]
theorem im {kindOf:Str->Option NameKind}{x:Str}{v:Value}:∀{P:List Str} {vs:List Value} {i:Nat} {m:Str->Option Value},P.Nodup->P[i]?=some x->vs[i]?=some v->kindOf x=some .local ->
  bindL kindOf (P.zip vs) m x=some v
 | [],_,_,_,_,h,_,_=>by simp at h
 | _::_,[],_,_,_,_,h,_=>by simp at h
 | p::P,w::vs,0,m,nd,h1,h2,hk=>by
  simp at h1 h2;subst h1;subst h2
  show bindL kindOf ((p,w)::P.zip vs) m p=_
  unfold bindL
  rw [iE fun v hv=>(List.nodup_cons.mp nd).1 (List.of_mem_zip hv).1,if_pos hk]
  simp
 | p::P,w::vs,i+1,m,nd,h1,h2,hk=>by
  show bindL kindOf ((p,w)::P.zip vs) m x=_
  unfold bindL
  exact im (i:=i) (List.nodup_cons.mp nd).2 (by simpa using h1) (by simpa using h2) hk
theorem iI {kindOf:Str->Option NameKind}{x:Str}{v:Value}:∀{P:List Str} {vs:List Value} {i:Nat} {m:Str->Option Value},P.Nodup->P[i]?=some x->vs[i]?=some v->kindOf x≠some .local ->
  bindC kindOf (P.zip vs) m x=some v
 | [],_,_,_,_,h,_,_=>by simp at h
 | _::_,[],_,_,_,_,h,_=>by simp at h
 | p::P,w::vs,0,m,nd,h1,h2,hk=>by
  simp at h1 h2;subst h1;subst h2
  show bindC kindOf ((p,w)::P.zip vs) m p=_
  unfold bindC
  rw [iQ fun v hv=>(List.nodup_cons.mp nd).1 (List.of_mem_zip hv).1,if_neg hk]
  simp
 | p::P,w::vs,i+1,m,nd,h1,h2,hk=>by
  show bindC kindOf ((p,w)::P.zip vs) m x=_
  unfold bindC
  exact iI (i:=i) (List.nodup_cons.mp nd).2 (by simpa using h1) (by simpa using h2) hk
def dy (N:List Str)(vs:List V):St:=vs.map some++List.replicate (N.length-vs.length) none
def bq (CX:CXT)(P:Program)(w:World)(K:W.Frag)(mg:Str->Option Value)(base:Heap)(N:List Str)(qual:Str)(scope:Scope)(f:Addr)(cd:Value)(A:Around)(outer:List Env)(s:Shared)(H:Hp)(E:XK):Cx where
 prog:=P
 w:=w
 K:=K
 mg:=mg
 base:=base
 A:=A.deeper (envOfC qual scope s.heap.objs.size f cd)
 N:=N
 s₀:=s
 H₀:=H
 env:=envOfC qual scope s.heap.objs.size f cd
 outer:=outer
 stack:=envOfC qual scope s.heap.objs.size f cd::outer
 ex:=[]
 calm:=true
 fn:=fun _=>true
 pn:=[]
 xe:=fun e s'=>wpAny (model P w) (A.deeper (envOfC qual scope s.heap.objs.size f cd)) (leaving (envOfC qual scope s.heap.objs.size f cd) e) (fun _ s''=>CX outer H s E e s'') (fun e' s''=>CX outer H s E e' s'') s'
theorem bo {sc:Scope}{n:Nat}{x:Str}(h:sc.names.lookup x=some .cell):∃ c,(cellsFrom n sc.names []).lookup x=some c:=by
 have q:=W.cellsFrom_some sc.names n [] (.inl h)
 exact Option.isSome_iff_exists.mp q
theorem oS {CX:CXT}{P:Program}{w:World}{K:W.Frag}{mg:Str->Option Value}{base:Heap}{N ps:List Str}{qual:Str}{scope:Scope}{f:Addr}{cd:Value}{A:Around}{outer:List Env}{s s1:Shared}{H:Hp}{E:XK}{us:List Value}{vs:List V}
  (S:FnScope N ps scope) (hd:A.handled=none) (e0:Env0 P w K mg base A outer s H) (hl:vs.length=ps.length) (r:Vals vs us)
  (x:InCallC s s.heap.objs.size (bindL (envOfC qual scope s.heap.objs.size f cd).kindOf (ps.zip us) fun _=>none) (cellsFrom (s.heap.objs.size+1) scope.names []) (bindC (envOfC qual scope s.heap.objs.size f cd).kindOf (ps.zip us) fun _=>none) s1) :
  Inv (bq CX P w K mg base N qual scope f cd A outer s H E) [] (dy N vs) H s1:=by
 have hpl:ps.length<=N.length:=by have:=congrArg List.length S.pre;rw [List.length_take] at this;lia
 obtain ⟨h1,tk,rfl,hk⟩:=x.done
 have noA:∀b:Addr,b∉(bq CX P w K mg base N qual scope f cd A outer s H E).ex:=fun b z=>absurd (show b∈([]:List Addr) from z) zl
 refine ⟨⟨e0.mod,S.kind,rfl,rfl,Nat.le_refl _,fun y z c h1 h2=>?_,fun y hy=>?_,fun y c _ h=>?_,fun _=>hd,Around.frames_deeper e0.frames,.inr ⟨rfl,rfl⟩,fun b z=>absurd z (noA b),e0.bs,e0.bsz,fun b _ _=>noA b,fun b z=>absurd z (noA b),e0.funs,e0.frf⟩,
  rfl,e0.bare,Un.kept hk,⟨_,x.toInCall.ns,fun i y v h1 h2 h3=>?_⟩,fun y c h=>⟨_,x.cell y c h⟩,e0.hok.fresh (Nat.le_refl _),fun y c h=>?_,fun p hp=>absurd (show p∈([]:List (Addr×Obj)) from hp) zl,e0.hok.kept hk,?_⟩
 .exact name_of_addr x.apart (PySem.mem_of_lookup h1) (PySem.mem_of_lookup h2)
 .have hy:scope.names.lookup y=some .cell∨scope.names.lookup y=some .free:=hy
  rcases hy with hy | hy
  .exact bo hy
  .exact absurd rfl (S.nofree _ (PySem.mem_of_lookup hy))
 .exact Nat.le_of_lt (x.above y c (PySem.mem_of_lookup h))
 .have hi:i<vs.length:=by
   unfold dy at h2
   by_cases hi:i<vs.length
   .exact hi
   .rw [List.getElem?_append_right (by simpa using hi)] at h2
    rw [List.getElem?_replicate] at h2
    split at h2 <;> cases h2
  have ha:vs[i]?=some v:=by
   unfold dy at h2
   rw [List.getElem?_append_left (by simpa using hi),List.getElem?_map] at h2
   cases e:vs[i]? with
   | none=>rw [e] at h2;cases h2
   | some a=>rw [e] at h2;cases h2;rfl
  obtain ⟨u,hu,rv⟩:=r.get ha
  have hp:ps[i]?=some y:=by
   rw [<-S.pre,List.getElem?_take_of_lt zk];exact h1
  have ndP:ps.Nodup:=by rw [<-S.pre];exact S.nd.sublist (List.take_sublist _ _)
  refine ⟨u,rv,?_⟩
  rcases S.par y (List.mem_of_getElem? hp) with k | k
  .exact .inl ⟨k,im ndP hp hu k⟩
  .obtain ⟨c,e⟩:=bo (n:=s.heap.objs.size+1) k
   refine .inr ⟨.inl k,c,e,?_⟩
   have q:=x.cell y c e
   rw [iI ndP hp hu (by show scope.names.lookup y≠_;rw [k];decide)] at q
   exact q
 .exact e0.hok.fresh (Nat.le_of_lt (x.above y c (PySem.mem_of_lookup h)))
 unfold dy
 show _=N.length
 rw [List.length_append,List.length_map,List.length_replicate]
 lia
theorem vX {CX:CXT}{P:Program}{w:World}{K:W.Frag}{mg:Str->Option Value}{base:Heap}{k:Nat}{f:Addr}{name qual:Str}{params:Arguments}{body:List Stmt}{scope:Scope}{dV kV doc pm cdv ct oc:Value}{an od:Option Addr}
  {osl:Array (Option Value)} {N ps:List Str} {sp:Sp} (lk:K.lookup f=some ⟨oc,od,.func (W.fnOf name qual params body scope dV kV doc pm an cdv ct),osl⟩) (hcd:W.codeIn K cdv qual=true) (S:FnScope N ps scope)
  (len:∀vs H Q E,sp vs H Q E->vs.length=ps.length)
  (hbody:∀(A:Around) (outer:List Env) (s:Shared) (H:Hp) (vs:List V) (Q:VK) (E:XK),Room k (A.deeper (envOfC qual scope s.heap.objs.size f cdv))->sp vs H Q E ->
   ∃ t,PSs (bq CX P w K mg base N qual scope f cdv A outer s H E) body t/\t { nx:=fun _ H'=>Q .non H',rt:=Q } (dy N vs) H) :
  aA P w K mg base CX (k+1) f (W.fnOf name qual params body scope dV kV doc pm an cdv ct) ps sp:=by
 refine ⟨len,fun A outer s H args us vs Q E hr e0 hb r hsp=>?_⟩
 have hl:=len _ _ _ _ hsp
 have KX:K.In s.heap:=e0.mod.kin.keeps fun b o e=>(e0.bs b o e).1
 have lim:s.heap.NoLimit:=e0.mod.nolimit.keeps fun b o e=>(e0.bs b o e).1
 have hkind:∀y∈ps.zip us,scope.names.lookup y.1=some .local∨(scope.names.lookup y.1=some .cell/\((cellsFrom (s.heap.objs.size+1) scope.names []).lookup y.1).isSome=true):=fun ⟨n,v⟩ hy=>by
  rcases S.par n (List.of_mem_zip hy).1 with q | q
  .exact .inl q
  .exact .inr ⟨q,W.cellsFrom_some _ _ _ (.inl q)⟩
 refine codeAny_call_function hr.depth (KX _ _ lk) rfl S.co S.gen rfl (W.codeRec_of KX hcd) (hb _ _ _ _ ?_)
 refine wpAny_newFunctionEnv_cells S.kind hkind fun env he s1 x=>?_
 subst he
 refine ⟨lim.keeps x.toInCall.keep,codeAny_func ?_⟩
 obtain ⟨t,ht,hq⟩:=hbody A outer s H vs Q E (hr.deeper _) hsp
 have I:Inv (bq CX P w K mg base N qual scope f cdv A outer s H E) [] (dy N vs) H s1:=oS S hr.hd e0 hl r x
 refine wpAny_mono (ht [] s1 (dy N vs) H _ I hq) (fun fl s' hs=>?_) fun e s' hs=>hs
 have fin:∀{σ':St} {H':Hp} {v:V} {u:Value},Inv (bq CX P w K mg base N qual scope f cdv A outer s H E) [] σ' H' s'->RelV v u->Q v H'->CE outer P w H s Q u s' :=
  fun {σ' H' v u} J rv q=>⟨v,H',J.os,J.bare,J.base,J.hok,rv,q⟩
 cases fl with
 | ret u =>
  obtain ⟨v,σ',H',J,rv,q⟩:=hs
  exact fin J rv q
 | next =>
  obtain ⟨σ',H',J,q⟩:=hs
  exact fin (v:=V.non) (u:=Value.none) J rfl q
 | brk =>
  obtain ⟨_,_,_,q⟩:=hs
  exact False.elim q
 | cont =>
  obtain ⟨_,_,_,q⟩:=hs
  exact False.elim q
section
variable {X:Cx}{x:Str}{p pos:Pos}{e:Expr}{es:List Expr}{t:TA}{id T:String}{r:List V->Hp->VK->Prop}
def tCB (r:List V->Hp->VK->Prop)(t:TA):TE:=fun σ H Q=>t σ H fun vs H1=>r vs H1 Q
theorem si (hc:bQ X (.builtin id) r)(hg:Gl X x)(hm:X.mg x=none)(hv:bootBuiltins x=some (.builtin id))(ha:PA X (e::es) t)(hn:x≠"__name__":=by decide)(hdb:(x == ("__debug__":Str))=false:=by decide)
  (he:starEach (e::es) X.env=(false,eval e X.env)::starEach es X.env:=by rfl) (hpl:(backTo pos (starEach es X.env)).any (·.1)=false:=by rfl):PE X (.Call (.Name x p) (e::es) [] pos) (tCB r t):=by
 intro pins s σ H Q I h
 refine wpAny_Call_Name_kw (fQ I hg hm hv ?_ hn hdb)
 exact PyProof.Rows.callWith_builtin1 (thn (ha pos pins s σ H _ I h) fun us s1 ⟨vs,H1,I1,r1,q1⟩=>hc pins s1 σ H1 vs us Q I1 r1 q1) he hpl
theorem pz (hc:bQ X (.type T) r)(hg:Gl X x)(hm:X.mg x=none)(hv:bootBuiltins x=some (.type T))(ha:PA X (e::es) t)(hn:x≠"__name__":=by decide)(hdb:(x == ("__debug__":Str))=false:=by decide)
  (he:starEach (e::es) X.env=(false,eval e X.env)::starEach es X.env:=by rfl) (hpl:(backTo pos (starEach es X.env)).any (·.1)=false:=by rfl):PE X (.Call (.Name x p) (e::es) [] pos) (tCB r t):=by
 intro pins s σ H Q I h
 refine wpAny_Call_Name_kw (fQ I hg hm hv ?_ hn hdb)
 exact PyProof.Rows.callWith_type1 (thn (ha pos pins s σ H _ I h) fun us s1 ⟨vs,H1,I1,r1,q1⟩=>hc pins s1 σ H1 vs us Q I1 r1 q1) he hpl
end
end L2
namespace HT
open PySem PyProof.Rows
section
variable {prog:Program}{w:World}{A:Around}{E:Value->Shared->Prop}{s:Shared}
theorem cat_tup {t b:Addr}{vs ws:List Value}{Q:Value->Shared->Prop}(ht:IsTup s.heap t vs.toArray)(hb:IsTup s.heap b ws.toArray)(hv:vs≠[])
  (h1:ws=[]->Q (.ref t) s) (h2:ws≠[]->Q (.ref s.heap.objs.size) { s with heap:=s.heap.push { cls:=.type "tuple",data:=.seq (vs++ws).toArray } })
  (hsz:vs.length+ws.length<=sizeLine):wpAny (model prog w) A (binaryOp .Add (.ref t) (.ref b)) Q E s:=by
 obtain ⟨⟨cls,dd,data,sl⟩,ho,hc,n,hd⟩:=id ht
 obtain ⟨⟨cls2,dd2,data2,sl2⟩,ho2,hc2,n2,hd2⟩:=id hb
 simp only at hc hd hc2 hd2
 subst hc hd hc2 hd2
 have e:vs.toArray++ws.toArray=(vs++ws).toArray:=by simp
 by_cases hw:ws=[]
 .exact concat_meets ⟨_,ho,rfl⟩ ⟨_,ho2,rfl⟩ noFill_tuple_add seq_tuple_add PySem.F.slot_tuple_add PySem.F.entry_tuple_add (PySem.F.args_tuple_add_2 _ _)
   (tuple_addW1 t b vs.toArray ws.toArray n n2 dd dd2 sl sl2 (by simpa using hv) (by simp [hw])) ⟨ho,ho2,h1 hw⟩
 refine concat_meets ⟨_,ho,rfl⟩ ⟨_,ho2,rfl⟩ noFill_tuple_add seq_tuple_add PySem.F.slot_tuple_add PySem.F.entry_tuple_add (PySem.F.args_tuple_add_2 _ _)
  (tuple_addW2 t b vs.toArray ws.toArray n n2 dd dd2 sl sl2 (by simpa using hv) (by simpa using hw) (by rw [List.size_toArray,List.size_toArray];exact hsz)) ⟨ho,ho2,?_⟩
 rw [e]
 exact h2 hw
def sIx (n d:Nat):Option Int->Nat
 | none=>d
 | some v=>if v<0 then (v+(n:Int)).toNat else min v.toNat n
theorem sIx_nat (n d k:Nat):sIx n d (some (k:Int))=min k n:=by
 show (if (k:Int)<0 then ((k:Int)+(n:Int)).toNat else min (k:Int).toNat n)=min k n
 rw [if_neg zk,Int.toNat_natCast]
theorem xa (n d:Nat)(hd:d<=n)(o:Option Int):sIx n d o<=n:=by
 cases o with
 | none=>exact hd
 | some v =>
  show (if v<0 then (v+(n:Int)).toNat else min v.toNat n)<=n
  by_cases hv:v<0
  .rw [if_pos hv];lia
  .rw [if_neg hv];exact Nat.min_le_right _ _
theorem ot (v:Int)(n d:Nat):(if v<0 then max (v+(n:Int)) 0 else min v (n:Int))=((sIx n d (some v):Nat):Int):=by
 show (if v<0 then max (v+(n:Int)) 0 else min v (n:Int))=(((if v<0 then (v+(n:Int)).toNat else min v.toNat n):Nat):Int)
 by_cases hv:v<0
 .simp only [if_pos hv];lia
 simp only [if_neg hv];lia
theorem lh (lo hi:Option Int)(n:Nat):Builtin.Slice.sliceAdjust lo hi 1 (n:Int)=(((sIx n 0 lo:Nat):Int),((sIx n n hi:Nat):Int)):=by
 have h1:¬ ((1:Int)<0):=by lia
 unfold Builtin.Slice.sliceAdjust
 simp only [h1,if_false]
 refine Prod.ext ?_ ?_
 .cases lo with
  | none=>rfl
  | some v=>exact ot v n 0
 cases hi with
 | none=>rfl
 | some v=>exact ot v n n
theorem lF (i j:Nat):Builtin.Slice.slicePlaces (i:Int) (j:Int) 1=j-i:=by
 unfold Builtin.Slice.slicePlaces
 have h1:(1:Int)>0:=by lia
 simp only [h1,if_true,Int.ediv_one]
 split <;> lia
theorem gZ {v:Value}{o:Option Int}{Q:Option Int->Shared->Prop}(p:IsPart v o)(h:Q o s):wpAny (model prog w) A (Builtin.Slice.slicePartIndex v) Q E s:=by
 cases p with
 | none=>exact slicePart_none h
 | int i t=>exact slicePart_int h
theorem fU {sl:Addr}{vl vu:Value}{lo hi:Option Int}{n:Nat}{Q:Int×Int×Nat->Shared->Prop}(hs:s.heap.IsSliceOf sl vl vu .none)(pl:IsPart vl lo)(pu:IsPart vu hi)
  (h:Q (((sIx n 0 lo:Nat):Int),1,sIx n n hi-sIx n 0 lo) s):wpAny (model prog w) A (Builtin.Slice.sliceApplied (.ref sl) (pure (n:Int))) Q E s:=by
 obtain ⟨os,hos,hcs,hds⟩:=id hs
 unfold Builtin.Slice.sliceApplied Builtin.Slice.sliceFields
 refine wpAny_bind (wpAny_bind (wpAny_field hos hds (x:=vl) rfl (wpAny_bind (wpAny_field hos hds (x:=vu) rfl (wpAny_bind (wpAny_field hos hds (x:=.none) rfl (wpAny_pure ?_)))))))
 refine wpAny_bind (slicePart_none ?_)
 show wpAny _ _ (if ((1:Int) == 0)=true then _ else _) _ _ s
 rw [if_neg zj]
 refine wpAny_bind (gZ pl (wpAny_bind (gZ pu (wpAny_bind (wpAny_pure ?_)))))
 show wpAny _ _ (match Builtin.Slice.sliceAdjust lo hi 1 (n:Int) with | (lo,hi)=>pure (lo,(1:Int),Builtin.Slice.slicePlaces lo hi 1)) _ _ s
 rw [lh lo hi n]
 show wpAny _ _ (pure (((sIx n 0 lo:Nat):Int),(1:Int),Builtin.Slice.slicePlaces ((sIx n 0 lo:Nat):Int) ((sIx n n hi:Nat):Int) 1)) _ _ s
 rw [lF]
 exact wpAny_pure h
theorem rJ (xs:Array Value)(i k:Nat):((List.range k).filterMap fun (m:Nat)=>xs[((i:Int)+(m:Int)*1).toNat]?).toArray=((xs.toList.drop i).take k).toArray:=by
 have e:(fun (m:Nat)=>xs[((i:Int)+(m:Int)*1).toNat]?)=fun m=>xs[i+m]?:=by
  funext m
  have:((i:Int)+(m:Int)*1).toNat=i+m:=by lia
  rw [this]
 rw [e]
 have:=pick_run xs i k
 rw [List.filterMap_map] at this
 have e2:((fun x=>xs[x]?) ∘ fun x=>i+x)=fun m=>xs[i+m]?:=rfl
 rw [e2] at this
 rw [this]
theorem getItem_tuple_cut {t sl:Addr}{items:Array Value}{vl vu:Value}{lo hi:Option Int}{Q:Value->Shared->Prop}(ht:IsTup s.heap t items)(hs:s.heap.IsSliceOf sl vl vu .none)(pl:IsPart vl lo)(pu:IsPart vu hi)
  (hw:¬ (sIx items.size 0 lo=0/\sIx items.size items.size hi=items.size))
  (h:Q (.ref s.heap.objs.size) { s with heap:=s.heap.push { cls:=.type "tuple",data:=.seq ((items.toList.drop (sIx items.size 0 lo)).take (sIx items.size items.size hi-sIx items.size 0 lo)).toArray } })
  (hsz:items.size<=sizeLine):wpAny (model prog w) A (getItem (.ref t) (.ref sl)) Q E s:=by
 have htake:sizeOk (.seq ((items.toList.drop (sIx items.size 0 lo)).take (sIx items.size items.size hi-sIx items.size 0 lo)).toArray):=by
  show ((items.toList.drop (sIx items.size 0 lo)).take (sIx items.size items.size hi-sIx items.size 0 lo)).toArray.size<=sizeLine
  rw [List.size_toArray,List.length_take,List.length_drop,Array.length_toList]
  lia
 have hj:sIx items.size items.size hi<=items.size:=xa _ _ (Nat.le_refl _) hi
 obtain ⟨os,hos,hcs,hds⟩:=id hs
 have hTs:s.TypeIs (.ref sl) "slice":=⟨os,hos,hcs⟩
 unfold getItem
 try with_reducible refine wpAny_holding ?_
 first | refine wpAny_bind (wpAny_pure ?_) | skip
 refine wpAny_bind (wpAny_sequenceKey ht.typeIs zj ?_)
 refine wpAny_bind (wpAny_callSpecial?_slot (name:=Str.ofString "__getitem__") ht.typeIs PyProof.Rows.slot_tuple_getitem
  (wpAny_call_entry PyProof.Rows.slot_tuple_getitem ht.typeIs entry_tuple_getitem ?_ (args_tuple_getitem _ _)))
 show wpAny _ _ (Builtin.Tuple.tupleItemsOf (.ref t) >>= _) _ _ s
 refine wpAny_bind (tupleItemsOf_ ht ?_)
 refine wpAny_bind (wpAny_typeOf hTs ?_)
 rw [if_pos zj]
 refine wpAny_bind (fU hs pl pu ?_)
 have hno:¬ ((((sIx items.size 0 lo:Nat):Int) == 0&&(1:Int) == 1&&(sIx items.size items.size hi-sIx items.size 0 lo) == items.size)=true):=by
  intro q
  rw [Bool.and_eq_true,Bool.and_eq_true] at q
  have q1:((sIx items.size 0 lo:Nat):Int)=0:=eq_of_beq q.1.1
  have q2:sIx items.size items.size hi-sIx items.size 0 lo=items.size:=eq_of_beq q.2
  exact hw ⟨zk,zk⟩
 show wpAny _ _ (if (((sIx items.size 0 lo:Nat):Int) == 0&&(1:Int) == 1&&(sIx items.size items.size hi-sIx items.size 0 lo) == items.size)=true then _ else _) _ _ s
 rw [if_neg hno,rJ]
 first
  | exact wpAny_bind (m:=Builtin.Tuple.tupleExact _) (wpAny_newObj_type (wpAny_pure ⟨_,rfl,wpAny_pure h⟩) htake)
  | exact wpAny_bind (m:=Builtin.Tuple.tupleExact _) (wpAny_newObj_type (wpAny_bind (wpAny_pure (wpAny_pure ⟨_,rfl,wpAny_pure h⟩))) htake)
  | exact wpAny_bind (wpAny_bind (m:=Builtin.Tuple.tupleExact _) (wpAny_newObj_type (wpAny_pure (wpAny_pure ⟨_,rfl,wpAny_pure h⟩)) htake))
  | exact wpAny_bind (wpAny_bind (m:=Builtin.Tuple.tupleExact _) (wpAny_newObj_type (wpAny_pure ⟨_,rfl,wpAny_pure h⟩) htake))
end
end HT
namespace L2
open PySem PySem.Spec PyProof.Rows
abbrev TO:=St->Hp->(Option Int->Hp->Prop)->Prop
def PO (X:Cx)(e:Option Expr)(t:TO):Prop :=
 ∀(pins:List (Addr×Obj)) (s:Shared) (σ:St) (H:Hp) (Q:Option Int->Hp->Prop),Inv X pins σ H s->t σ H Q ->
  wpAny (model X.prog X.w) X.A (evalPart e X.env) (fun u s'=>∃ o H',Inv X pins σ H' s'/\IsPart u o/\Q o H') X.xe s
def nX:TO:=fun _ H Q=>Q none H
def vH (t:TE):TO:=fun σ H Q=>t σ H fun x H1=>∃ i,x=.int i/\Q (some i) H1
section
variable {X:Cx}{e:Expr}{te:TE}{lo hi:Option Expr}{tl th:TO}{pos p2:Pos}
theorem tP:PO X none nX:=by
 intro pins s σ H Q I h
 rw [evalPart_none]
 exact wpAny_pure ⟨none,H,I,.none,h⟩
theorem va (h:PE X e te):PO X (some e) (vH te):=by
 intro pins s σ H Q I hw
 rw [evalPart_some]
 refine thn (h pins s σ H _ I hw) fun u s1 zz=>?_
 obtain ⟨x,H1,I1,r1,q1⟩:=zz
 obtain ⟨i,rfl,q⟩:=q1
 obtain ⟨t,rfl⟩:=r1
 exact ⟨some i,H1,I1,.int i t,q⟩
def SlR (X:Cx)(r:V->Option Int->Option Int->Hp->VK->Prop):Prop :=
 ∀(pins:List (Addr×Obj)) (s:Shared) (σ:St) (H:Hp) (x:V) (v vl vu:Value) (lo hi:Option Int) (sl:Addr) (Q:VK),Inv X pins σ H s->RelV x v->s.heap.IsSliceOf sl vl vu .none->IsPart vl lo->IsPart vu hi->r x lo hi H Q ->
  ∃ T id,typeLookup (.type T) "__getitem__"=pure (some (.builtin id))/\s.TypeIs v T/\wpAny (model X.prog X.w) X.A (getItem v (.ref sl)) (EP X pins σ Q) X.xe s
def tSl (r:V->Option Int->Option Int->Hp->VK->Prop)(te:TE)(tl th:TO):TE:=fun σ H Q=>te σ H fun x H1=>tl σ H1 fun l H2=>th σ H2 fun u H3=>r x l u H3 Q
theorem rZ {r:V->Option Int->Option Int->Hp->VK->Prop}(hr:SlR X r)(he:PE X e te)(hl:PO X lo tl)(hu:PO X hi th):PE X (.Subscript e (.Slice lo hi none p2) pos) (tSl r te tl th):=by
 intro pins s σ H Q I h
 refine Subscript_ (thn (he pins s σ H _ I h) fun v s1 zz=>?_)
 obtain ⟨x,H1,I1,r1,q1⟩:=zz
 refine wpAny_Slice (thn (hl pins s1 σ H1 _ I1 q1) fun vl s2 ⟨l,H2,I2,pl,q2⟩=>thn (hu pins s2 σ H2 _ I2 q2) fun vu s3 zz=>?_)
 obtain ⟨u,H3,I3,pu,q3⟩:=zz
 rw [evalPart_none]
 refine wpAny_pure ?_
 have I4:Inv X pins σ H3 { s3 with heap:=s3.heap.push { cls:=.type "slice",data:=.fields #[vl,vu,.none] } }:=I3.kept (t':=s3.toks) fun b ob q=>Heap.get?_push_of_some _ q
 obtain ⟨T,id,hT,ht,hg⟩:=hr pins { s3 with heap:=s3.heap.push { cls:=.type "slice",data:=.fields #[vl,vu,.none] } } σ H3 x v vl vu l u s3.heap.objs.size Q I4 r1 (Heap.IsSliceOf.new ..) pl pu q3
 show wpAny (model X.prog X.w) X.A (subscriptTail e (.Slice lo hi none p2) v (.ref s3.heap.objs.size)) (EP X pins σ Q) X.xe { s3 with heap:=s3.heap.push { cls:=.type "slice",data:=.fields #[vl,vu,.none] } }
 exact tail_any (ops:=[.ref s3.heap.objs.size,v]) ht hT hg (by with_unfolding_all rfl)
def a7 (xs:List V)(lo hi:Option Int):List V:=(xs.drop (HT.sIx xs.length 0 lo)).take (HT.sIx xs.length xs.length hi-HT.sIx xs.length 0 lo)
theorem fX (xs:List V)(lo hi:Option Int):(a7 xs lo hi).length<=xs.length:=by
 unfold a7
 rw [List.length_take,List.length_drop]
 lia
def zh (K:W.Frag):V->Option Int->Option Int->Hp->VK->Prop:=fun x lo hi H Q=>∃ a xs,x=.ref a/\SqT K H a xs /\
 ¬ (HT.sIx xs.length 0 lo=0/\HT.sIx xs.length xs.length hi=xs.length)/\∀p,H p=none->Q (.ref p) (upd H p (.tup (a7 xs lo hi)))
theorem rE:SlR X (zh X.K):=by
 intro pins s σ H x v vl vu lo hi sl Q I rx hs pl pu h
 obtain ⟨a,xs,rfl,hx,hw,q⟩:=h
 cases rx
 obtain ⟨its,r,ht,hz⟩:=I.tuple hx
 have hlen:its.toArray.size=xs.length:=by rw [List.size_toArray];exact r.length.symm
 refine ⟨"tuple",_,PyProof.Rows.slot_tuple_getitem.lookup,ht.typeIs,?_⟩
 refine HT.getItem_tuple_cut ht hs pl pu (by rw [hlen];exact hw) ?_ (by rw [hlen];exact hz)
 rw [hlen]
 refine ⟨.ref s.heap.objs.size,_,I.laid (t':=s.toks) (o:=.tup (a7 xs lo hi)) (fun b ob q=>Heap.get?_push_of_some _ q) (Nat.le_refl _) ?_,rfl,q _ (I.hok.fresh (Nat.le_refl _))⟩
 exact ⟨Nat.le_trans (fX xs lo hi) hz,_,(r.drop (HT.sIx xs.length 0 lo)).take (HT.sIx xs.length xs.length hi-HT.sIx xs.length 0 lo),IsTup.new _ _⟩
def yv (K:W.Frag):R2:=fun x y H Q=>∃ a b xs ys,x=.ref a/\y=.ref b/\SqT K H a xs/\SqT K H b ys/\xs≠[]/\xs.length+ys.length<=sizeLine /\
 (ys=[]->Q (.ref a) H)/\(ys≠[]->∀p,H p=none->Q (.ref p) (upd H p (.tup (xs++ys))))
theorem Vals.nil_iff {xs:List V}{us:List Value}(r:Vals xs us):us=[]↔xs=[]:=by
 cases r with
 | nil=>simp
 | cons _ _=>simp
theorem nC:OpR X (binaryOp .Add) (yv X.K):=by
 intro pins s σ H x y v u Q I rx ry h
 obtain ⟨a,b,xs,ys,rfl,rfl,ha,hb,hx,hz,q1,q2⟩:=h
 cases rx
 cases ry
 obtain ⟨its,r1,p1,_⟩:=I.tuple ha
 obtain ⟨its2,r2,p2,_⟩:=I.tuple hb
 refine HT.cat_tup p1 p2 (fun z=>hx (r1.nil_iff.mp z)) (fun z=>⟨.ref a,H,I,rfl,q1 (r2.nil_iff.mp z)⟩) (fun z=>?_) (by rw [<-r1.length,<-r2.length];exact hz)
 refine ⟨.ref s.heap.objs.size,_,I.laid (t':=s.toks) (o:=.tup (xs++ys)) (fun b ob q=>Heap.get?_push_of_some _ q) (Nat.le_refl _) ?_,rfl,q2 (fun w=>z (r2.nil_iff.mpr w)) _ (I.hok.fresh (Nat.le_refl _))⟩
 exact ⟨by rw [List.length_append];exact hz,_,r1.append r2,IsTup.new _ _⟩
end
def ixN (n:Nat)(i:Int):Option Nat:=if 0<=i then (if i<n then some i.toNat else none) else if -(n:Int)<=i then some (i+n).toNat else none
def atI {α:Type}(xs:List α)(i:Int):Option α:=(ixN xs.length i).bind fun j=>xs[j]?
theorem nF {n:Nat}{i:Int}{j:Nat}(h:ixN n i=some j):seqIndex? i n=some j/\j<n/\-(n:Int)<=i/\i<n:=by
 unfold ixN at h
 by_cases h0:0<=i
 .rw [if_pos h0] at h
  by_cases h1:i<n
  .rw [if_pos h1] at h
   have e:i.toNat=j:=Option.some.inj h
   exact ⟨by rw [seqIndex_of h0 h1,e],zk,zk,h1⟩
  .rw [if_neg h1] at h;cases h
 rw [if_neg h0] at h
 by_cases h1:-(n:Int)<=i
 .rw [if_pos h1] at h
  have e:(i+n).toNat=j:=Option.some.inj h
  exact ⟨by rw [seqIndex_neg zk h1,e],zk,h1,zk⟩
 rw [if_neg h1] at h;cases h
theorem i4 {α:Type}{xs:List α}{i:Int}{v:α}(h:atI xs i=some v):∃ j,seqIndex? i xs.length=some j/\xs[j]?=some v/\j<xs.length/\-(xs.length:Int)<=i/\i<xs.length:=by
 unfold atI at h
 cases e:ixN xs.length i with
 | none=>rw [e] at h;cases h
 | some j =>
  rw [e] at h
  obtain ⟨h1,h2,h3,h4⟩:=nF e
  exact ⟨j,h1,h,h2,h3,h4⟩
theorem aU {α:Type}{xs:List α}{j:Nat}{v:α}(h:xs[j]?=some v):atI xs (j:Int)=some v:=by
 have hj:j<xs.length:=(List.getElem?_eq_some_iff.mp h).1
 have e:ixN xs.length (j:Int)=some j:=by
  unfold ixN
  rw [if_pos zk,if_pos zk];simp
 unfold atI;rw [e];exact h
def nB (b:Expr):Prop:=∀o i,subscripted b false o i=operate [o,i] (getItem o i)
def IxR (X:Cx)(r:R2):Prop :=
 ∀(value slice:Expr) (pins:List (Addr×Obj)) (s:Shared) (σ:St) (H:Hp) (x y:V) (v u:Value) (Q:VK),Inv X pins σ H s->RelV x v->RelV y u->r x y H Q ->
  subscripted slice false v u=operate [v,u] (getItem v u)->wpAny (model X.prog X.w) X.A (subscriptTail value slice v u) (EP X pins σ Q) X.xe s
def MtR (X:Cx)(id:String)(r:V->List V->Hp->VK->Prop):Prop :=
 ∀(pins:List (Addr×Obj)) (s:Shared) (σ:St) (H:Hp) (x:V) (xs:List V) (v:Value) (us:List Value) (Q:VK),Inv X pins σ H s->RelV x v->Vals xs us->r x xs H Q ->
  wpAny (model X.prog X.w) X.A (call (.builtin id) (v::us)) (EP X pins σ Q) X.xe s
section
variable {X:Cx}{a b:Expr}{ta tb:TE}{pos:Pos}
theorem xX {r:R2}(hr:IxR X r)(ha:PE X a ta)(hb:PE X b tb)(hs:nB b):PE X (.Subscript a b pos) (tOp r ta tb):=by
 intro pins s σ H Q I h
 exact Subscript_ (xf ha hb I h fun v u s2 x y H2 I2 rx ry q=>hr a b pins s2 σ H2 x y v u Q I2 rx ry q (hs _ _))
def yA (K:W.Frag):R2:=fun x y H Q=>∃ p xs i v,x=.ref p/\y=.int i/\SqL K H p xs/\atI xs i=some v/\Q v H
def yJ (K:W.Frag):R2:=fun x y H Q=>∃ p xs i v,x=.ref p/\y=.int i/\SqT K H p xs/\atI xs i=some v/\Q v H
def y8:R2:=fun x y H Q=>∃ z i c,x=.str z/\y=.int i/\z.length<=sizeLine/\atI z.cps.toList i=some c/\Q (.str ⟨#[c]⟩) H
theorem aw:IxR X (yA X.K):=by
 intro value slice pins s σ H x y v u Q I rx ry h hs
 obtain ⟨p,xs,i,z,rfl,rfl,hq,he,q⟩:=h
 cases rx
 obtain ⟨t,rfl⟩:=ry
 obtain ⟨its,r,pl,hz⟩:=I.list hq
 obtain ⟨j,h1,h2,h3,h4,h5⟩:=i4 he
 obtain ⟨w,ew,rw'⟩:=r.get h2
 have hl:=r.length
 have hn:=fC
 have fin:EP X pins σ Q w s:=⟨z,H,I,rw',q⟩
 by_cases h0:0<=i
 .have hj:i.toNat=j:=by
   rw [seqIndex_of h0 h5] at h1
   exact Option.some.inj h1
  exact item_listR pl.isList h0 zk (by rw [hj];simpa using ew) fin hs
 have hj:(i+(its.toArray.size:Int)).toNat=j:=by
  rw [seqIndex_neg zk h4] at h1
  rw [List.size_toArray,<-hl]
  exact Option.some.inj h1
 exact subscriptTail_builtinR (x:=w) pl.isList.typeIs slot_list_getitem.lookup
  (wpAny_getItem_list_neg (Q:=fun r s'=>r=w/\EP X pins σ Q r s') pl.isList zk (by rw [List.size_toArray] <;> lia) zk (by rw [hj];simpa using ew) ⟨rfl,fin⟩) hs
theorem aJ:IxR X (yJ X.K):=by
 intro value slice pins s σ H x y v u Q I rx ry h hs
 obtain ⟨p,xs,i,z,rfl,rfl,hq,he,q⟩:=h
 cases rx
 obtain ⟨t,rfl⟩:=ry
 obtain ⟨its,r,pl,hz⟩:=I.tuple hq
 obtain ⟨j,h1,h2,h3,h4,h5⟩:=i4 he
 obtain ⟨w,ew,rw'⟩:=r.get h2
 have hl:=r.length
 have hn:=fC
 have fin:EP X pins σ Q w s:=⟨z,H,I,rw',q⟩
 exact subscriptTail_builtinR (x:=w) pl.typeIs slot_tuple_getitem.lookup
  (getItem_tuple (j:=j) (Q:=fun r s'=>r=w/\EP X pins σ Q r s') pl zk zk (by rw [List.size_toArray,<-hl];exact h1) (by simpa using ew) ⟨rfl,fin⟩) hs
theorem rY:IxR X y8:=by
 intro value slice pins s σ H x y v u Q I rx ry h hs
 obtain ⟨z,i,c,rfl,rfl,hz,he,q⟩:=h
 obtain ⟨t,rfl⟩:=rx
 obtain ⟨t',rfl⟩:=ry
 obtain ⟨j,h1,h2,h3,h4,h5⟩:=i4 he
 have hl:z.cps.toList.length=z.length:=by simp [Str.length]
 rw [hl] at h1 h4 h5
 have hn:=fC
 exact tail_any (typeIs_str s z t) slot_str_getitem.lookup (getItem_str (c:=c) (by
  have e1:decide (i < -(2 ^ 63:Int))=false:=decide_eq_false zk
  have e2:decide (i ≥ 2 ^ 63)=false:=decide_eq_false zk
  rw [e1,e2,Bool.or_false]) (by rw [h1];simpa using h2) ⟨.str ⟨#[c]⟩,H,I.tok _,⟨_,rfl⟩,q⟩) hs
theorem mQ (its:List Value)(n j:Nat)(u:Value):Obj.mapSeq (·.setIfInBounds j u) { cls:=.type "list",data:=.seq its.toArray n }={ cls:=.type "list",data:=.seq (its.set j u).toArray n }:=by
 simp [Obj.mapSeq]
theorem Inv.lst {pins:List (Addr×Obj)}{σ:St}{H:Hp}{s:Shared}{p:Addr}{xs:List V}(I:Inv X pins σ H s)(h:H p=some (.lst xs)) :
  ∃ (its:List Value) (n:Nat),Vals xs its/\s.heap.get? p=some { cls:=.type "list",data:=.seq its.toArray n }/\xs.length<=sizeLine:=by
 obtain ⟨z,its,n,r,e⟩:=I.hok p _ h
 exact ⟨its,n,r,e,z⟩
theorem Inv.lstUpd {pins:List (Addr×Obj)}{σ:St}{H:Hp}{s:Shared}{p:Addr}{xs ys:List V}{its its':List Value}{n n':Nat}{f:Obj->Obj}(I:Inv X pins σ H s)(h:H p=some (.lst xs))
  (ho:s.heap.get? p=some { cls:=.type "list",data:=.seq its.toArray n }) (hf:f { cls:=.type "list",data:=.seq its.toArray n }={ cls:=.type "list",data:=.seq its'.toArray n' }) (r:Vals ys its') (hz:ys.length<=sizeLine) (t:Nat) :
  Inv X pins σ (upd H p (.lst ys)) { s with heap:=s.heap.update p f,toks:=t }:=by
 have e:(s.heap.update p f).get? p=some { cls:=.type "list",data:=.seq its'.toArray n' }:=by
  rw [Heap.get?_update_self f ho (by rw [hf] <;> rfl),hf]
 refine I.write (x:=p) (e:=p) (by rw [h];trivial) (.inl rfl) (fun b u hb q=>(Heap.get?_update_other _ _ (Ne.symm hb)).trans q) ⟨_,e⟩ ?_
 exact ⟨hz,its',n',r,e⟩
def yP:V->V->V->Hp->(Hp->Prop)->Prop:=fun o i v H Q=>∃ p xs k j,o=.ref p/\i=.int k/\H p=some (.lst xs)/\ixN xs.length k=some j/\Q (upd H p (.lst (xs.set j v)))
theorem aS:xI X yP:=by
 intro pins s σ H o i v ov iv u Q I ro ri rv h
 obtain ⟨p,xs,k,j,rfl,rfl,hp,hj,q⟩:=h
 cases ro
 obtain ⟨t,rfl⟩:=ri
 obtain ⟨its,n,r,ho,hz⟩:=I.lst hp
 obtain ⟨h1,h2,h3,h4⟩:=nF hj
 have hl:=r.length
 have hn:=fC
 have I':Inv X pins σ (upd H p (.lst (xs.set j v))) { s with heap:=s.heap.update p (Obj.mapSeq (·.setIfInBounds j u)) } :=
  I.lstUpd hp ho (mQ its n j u) (r.set rv j) (by rw [List.length_set];exact hz) s.toks
 by_cases h0:0<=k
 .have hk:k.toNat=j:=by
   rw [seqIndex_of h0 h4] at h1
   exact Option.some.inj h1
  exact W.ki_setAt ho h0 zk (by rw [List.size_toArray,<-hl];exact h4) (by rw [hk];exact ⟨_,I',q⟩)
 have hk:(k+(its.toArray.size:Int)).toNat=j:=by
  rw [seqIndex_neg zk h3] at h1
  rw [List.size_toArray,<-hl]
  exact Option.some.inj h1
 exact W.ki_setBack ho zk (by rw [List.size_toArray,<-hl];exact h3) zk (by rw [hk];exact ⟨_,I',q⟩)
theorem je (lo hi:Option Int)(n:Nat):(sliceBounds lo hi none n).1=((HT.sIx n 0 lo:Nat):Int)/\(sliceBounds lo hi none n).2.1=((HT.sIx n n hi:Nat):Int)/\(sliceBounds lo hi none n).2.2=1:=by
 refine ⟨?_,?_,rfl⟩
 .cases lo with
  | none=>simp [sliceBounds,HT.sIx]
  | some i =>
   simp only [sliceBounds,HT.sIx,Option.getD_none,show (1:Int)>0 by decide,if_true]
   by_cases h:i<0
   .simp only [h,if_true] <;> lia
   .simp only [h,if_false] <;> lia
 cases hi with
 | none=>simp [sliceBounds,HT.sIx]
 | some i =>
  simp only [sliceBounds,HT.sIx,Option.getD_none,show (1:Int)>0 by decide,if_true]
  by_cases h:i<0
  .simp only [h,if_true] <;> lia
  .simp only [h,if_false] <;> lia
theorem il (its:List Value)(lo hi:Option Int):slicePick its.toArray lo hi none=((its.drop (HT.sIx its.length 0 lo)).take (HT.sIx its.length its.length hi-HT.sIx its.length 0 lo)).toArray:=by
 obtain ⟨h1,h2,h3⟩:=je lo hi its.toArray.size
 unfold slicePick
 rw [h1,h2,h3]
 simp only [sliceRange_one,pick_run,List.size_toArray] <;> rfl
def zd (K:W.Frag):V->Option Int->Option Int->Hp->VK->Prop:=fun x lo hi H Q=>∃ a xs,x=.ref a/\SqL K H a xs/\∀p,H p=none->Q (.ref p) (upd H p (.lst (a7 xs lo hi)))
theorem b7:SlR X (zd X.K):=by
 intro pins s σ H x v vl vu lo hi sl Q I rx hs pl pu h
 obtain ⟨a,xs,rfl,hx,q⟩:=h
 cases rx
 obtain ⟨its,r,ht,hz⟩:=I.list hx
 have hlen:=r.length
 refine ⟨"list",_,slot_list_getitem.lookup,ht.isList.typeIs,?_⟩
 refine wpAny_getItem_list_slice ht.isList hs pl pu .none zl ?_ (by rw [List.size_toArray] <;> lia)
 rw [il,<-hlen]
 refine ⟨.ref s.heap.objs.size,_,I.laid (t':=s.toks) (o:=.lst (a7 xs lo hi)) (fun b ob q=>Heap.get?_push_of_some _ q) (Nat.le_refl _) ?_,rfl,q _ (I.hok.fresh (Nat.le_refl _))⟩
 exact ⟨Nat.le_trans (fX xs lo hi) hz,_,0,(r.drop (HT.sIx xs.length 0 lo)).take (HT.sIx xs.length xs.length hi-HT.sIx xs.length 0 lo),Heap.get?_push_size _ rfl⟩
def fV:V->Bool
 | .non=>true
 | .bl _=>true
 | .int _=>true
 | .str _=>true
 | _=>false
def eqV:V->V->Bool
 | .non,.non=>true
 | .bl a,.bl b=>a == b
 | .bl a,.int b=>(if a then 1 else 0) == b
 | .int a,.bl b=>a == (if b then 1 else 0)
 | .int a,.int b=>a == b
 | .str a,.str b=>a == b
 | _,_=>false
theorem wM {A:Around}{s:Shared}{y x:V}{u v:Value}(ry:RelV y u)(rx:RelV x v)(fy:fV y=true)(fx:fV x=true):SeqAt.EqAt A s u v (eqV y x):=by
 cases y with
 | non =>
  cases ry
  cases x with
  | non=>cases rx;exact SeqAt.EqAt.same _
  | bl b=>cases rx;exact SeqAt.EqAt.none_bool b
  | int b=>obtain ⟨t,rfl⟩:=rx;exact SeqAt.EqAt.none_int b t
  | str b=>obtain ⟨t,rfl⟩:=rx;exact SeqAt.EqAt.none_str b t
  | _=>exact absurd (show false=true from fx) Bool.false_ne_true
 | bl a =>
  cases ry
  cases x with
  | non=>cases rx;exact SeqAt.EqAt.bool_none a
  | bl b=>cases rx;exact SeqAt.EqAt.bool_bool a b
  | int b=>obtain ⟨t,rfl⟩:=rx;exact SeqAt.EqAt.bool_int a b t
  | str b=>obtain ⟨t,rfl⟩:=rx;exact SeqAt.EqAt.bool_str a b t
  | _=>exact absurd (show false=true from fx) Bool.false_ne_true
 | int a =>
  obtain ⟨t',rfl⟩:=ry
  cases x with
  | non=>cases rx;exact SeqAt.EqAt.int_none a t'
  | bl b=>cases rx;exact SeqAt.EqAt.int_bool a t' b
  | int b=>obtain ⟨t,rfl⟩:=rx;exact SeqAt.EqAt.int_int a t' b t
  | str b=>obtain ⟨t,rfl⟩:=rx;exact SeqAt.EqAt.int_str a t' b t
  | _=>exact absurd (show false=true from fx) Bool.false_ne_true
 | str a =>
  obtain ⟨t',rfl⟩:=ry
  cases x with
  | non=>cases rx;exact SeqAt.EqAt.str_none a t'
  | bl b=>cases rx;exact SeqAt.EqAt.str_bool a t' b
  | int b=>obtain ⟨t,rfl⟩:=rx;exact SeqAt.EqAt.str_int a t' b t
  | str b=>obtain ⟨t,rfl⟩:=rx;exact SeqAt.EqAt.str_str a t' b t
  | _=>exact absurd (show false=true from fx) Bool.false_ne_true
 | _=>exact absurd (show false=true from fy) Bool.false_ne_true
def eqU (x:V)(u:Value):Bool:=match u with
 | .none=>eqV .non x
 | .bool b=>eqV (.bl b) x
 | .int i _=>eqV (.int i) x
 | .str z _=>eqV (.str z) x
 | _=>false
theorem rQ {x y:V}{u:Value}(r:RelV y u)(f:fV y=true):eqU x u=eqV y x:=by
 cases y with
 | non=>cases r;rfl
 | bl b=>cases r;rfl
 | int i=>obtain ⟨t,rfl⟩:=r;rfl
 | str z=>obtain ⟨t,rfl⟩:=r;rfl
 | _=>exact absurd (show false=true from f) Bool.false_ne_true
theorem jJ {A:Around}{s:Shared}{x:V}{v:Value}(rx:RelV x v)(fx:fV x=true):∀{xs:List V} {us:List Value},Vals xs us->xs.all fV=true->∀u∈us,SeqAt.EqAt A s u v (eqU x u)
 | _,_,.nil,_=>fun u hu=>by cases hu
 | y::xs,u::us,.cons r t,f=>fun u' hu=>by
  rw [List.all_cons,Bool.and_eq_true] at f
  rcases List.mem_cons.mp hu with rfl | hu
  .rw [rQ r f.1];exact wM r rx f.1 fx
  .exact jJ rx fx t f.2 u' hu
theorem aG:bQ X (.builtin "len") (fun xs H Q=>∃ p ys,xs=[.ref p]/\(SqL X.K H p ys∨SqT X.K H p ys)/\Q (.int ys.length) H):=by
 intro pins s σ H xs us Q I r h
 obtain ⟨p,ys,rfl,hq,q⟩:=h
 obtain ⟨u,rfl,rx⟩:=dh r
 cases rx
 have hn:=fC
 rcases hq with hq | hq
 .obtain ⟨its,r',pl,hz⟩:=I.list hq
  have hlen:=r'.length
  exact Calls.call_len_list pl.isList (by simp only [List.size_toArray] <;> lia) ⟨.int ys.length,H,I.tok _,⟨s.toks+1,by rw [List.size_toArray,hlen]⟩,q⟩
 obtain ⟨its,r',pl,hz⟩:=I.tuple hq
 have hlen:=r'.length
 exact len_tuple pl (by simp only [List.size_toArray] <;> lia) ⟨.int ys.length,H,I.tok _,⟨s.toks+1,by rw [List.size_toArray,hlen]⟩,q⟩
theorem jd:bQ X (.builtin "len") (fun xs H Q=>∃ z,xs=[.str z]/\z.length<=sizeLine/\Q (.int z.length) H):=by
 intro pins s σ H xs us Q I r h
 obtain ⟨z,rfl,hz,q⟩:=h
 obtain ⟨u,rfl,t,rfl⟩:=dh r
 have hn:=fC
 exact len_str zk ⟨.int z.length,H,I.tok _,⟨_,rfl⟩,q⟩
theorem eE:bQ X (.type "list") (fun xs H Q=>∃ p ys,xs=[.ref p]/\(SqL X.K H p ys∨SqT X.K H p ys)/\∀l,H l=none->Q (.ref l) (upd H l (.lst ys))):=by
 intro pins s σ H xs us Q I r h
 obtain ⟨p,ys,rfl,hq,q⟩:=h
 obtain ⟨u,rfl,rx⟩:=dh r
 cases rx
 have fin:∀(its:List Value),Vals ys its->ys.length<=sizeLine->∀(h':Heap) (c':Nat),(∀b o',s.heap.get? b=some o'->h'.get? b=some o') ->
   h'.get? s.heap.objs.size=some { cls:=.type "list",dict:=none,data:=.seq its.toArray c',slots:=#[] }->EP X pins σ Q (.ref s.heap.objs.size) { s with heap:=h' }:=fun its r' hz h' c' kp e =>
  ⟨.ref s.heap.objs.size,_,I.laid (t':=s.toks) kp (Nat.le_refl _) (show ObjOk X.prog X.w _ h' _ (.lst ys) from ⟨hz,its,c',r',e⟩),rfl,q _ (I.hok.fresh (Nat.le_refl _))⟩
 rcases hq with hq | hq
 .obtain ⟨its,r',pl,hz⟩:=I.list hq
  have hlen:=r'.length
  obtain ⟨o,ho,hc,n,hd⟩:=pl.isList
  exact call_list_seq p (.inl rfl) ho hc hd (fun h' c' kp e=>fin its r' hz h' c' kp e) (by simp only [List.size_toArray] <;> lia)
 obtain ⟨its,r',pl,hz⟩:=I.tuple hq
 have hlen:=r'.length
 obtain ⟨o,ho,hc,n,hd⟩:=pl
 exact call_list_seq p (.inr rfl) ho hc hd (fun h' c' kp e=>fin its r' hz h' c' kp e) (by simp only [List.size_toArray] <;> lia)
theorem bZ:bQ X (.type "tuple") (fun xs H Q=>∃ p ys,xs=[.ref p]/\((SqL X.K H p ys/\∀l,H l=none->Q (.ref l) (upd H l (.tup ys)))∨(SqT X.K H p ys/\Q (.ref p) H))):=by
 intro pins s σ H xs us Q I r h
 obtain ⟨p,ys,rfl,h⟩:=h
 obtain ⟨u,rfl,rx⟩:=dh r
 cases rx
 rcases h with ⟨hq,q⟩ | ⟨hq,q⟩
 .obtain ⟨its,r',pl,hz⟩:=I.list hq
  have hlen:=r'.length
  refine call_tuple_list pl.isList (fun h' kp=>?_) (by simp only [List.size_toArray] <;> lia)
  have I1:Inv X pins σ H { s with heap:=h' }:=I.kept (t':=s.toks) kp
  have I2:Inv X pins σ (upd H h'.objs.size (.tup ys)) { s with heap:=h'.push { cls:=.type "tuple",data:=.seq its.toArray } } :=
   I1.laid (t':=s.toks) (fun b o e=>Heap.get?_push_of_some _ e) (Nat.le_refl _) (show ObjOk X.prog X.w _ _ _ (.tup ys) from ⟨hz,its,r',IsTup.new _ _⟩)
  exact ⟨.ref h'.objs.size,_,I2,rfl,q _ (I1.hok.fresh (Nat.le_refl _))⟩
 obtain ⟨its,r',pl,hz⟩:=I.tuple hq
 exact call_tuple_same pl ⟨.ref p,H,I,rfl,q⟩
def tyV (K:W.Frag)(T:String)(x:V)(H:Hp):Prop:=match x with
 | .str _=>T="str"
 | .int _=>T="int"
 | .ref p=>(T="list"/\∃ xs,SqL K H p xs)∨(T="tuple"/\∃ o,K.lookup p=some o/\o.cls=.type "tuple"/\o.dict=none) ∨
   (T="dict"/\((∃ kvs,H p=some (.dK kvs))∨∃ kvs,H p=some (.dT kvs)))∨(T="set"/\∃ S n,H p=some (.set S n))
 | _=>False
theorem rj {pins:List (Addr×Obj)}{σ:St}{H:Hp}{s:Shared}{T:String}{x:V}{v:Value}(I:Inv X pins σ H s)(r:RelV x v)(ty:tyV X.K T x H) :
  s.TypeIs v T/\∀a,v=.ref a->∃ ob,s.heap.get? a=some ob/\ob.dict=none:=by
 cases x with
 | str z =>
  obtain ⟨t,rfl⟩:=r
  cases (show T="str" from ty)
  exact ⟨typeIs_str s z t,fun _ e=>nomatch e⟩
 | int i =>
  obtain ⟨t,rfl⟩:=r
  cases (show T="int" from ty)
  exact ⟨typeIs_int s i t,fun _ e=>nomatch e⟩
 | ref p =>
  cases r
  rcases ty with ⟨rfl,xs,hq⟩ | ⟨rfl,o,hk,hc,hd⟩ | ⟨rfl,hk⟩ | ⟨rfl,S,n,hk⟩
  .obtain ⟨its,_,pl,_⟩:=I.list hq
   refine ⟨pl.isList.typeIs,fun a e=>?_⟩
   cases e
   obtain ⟨o,n,e,c,hd,_⟩:=pl
   exact ⟨o,e,hd⟩
  .refine ⟨⟨o,I.kIn p o hk,hc⟩,fun a e=>?_⟩
   cases e
   exact ⟨o,I.kIn _ o hk,hd⟩
  .have z:∃ o,s.heap.get? p=some o/\o.ExactDict:=by
    rcases hk with ⟨kvs,hk⟩ | ⟨kvs,hk⟩
    .obtain ⟨_,_,_,_,o,_,_,e,ex,_⟩:=I.hok p _ hk
     exact ⟨o,e,ex⟩
    .obtain ⟨_,_,_,_,o,_,_,e,ex,_⟩:=I.hok p _ hk
     exact ⟨o,e,ex⟩
   obtain ⟨o,e,ex⟩:=z
   refine ⟨⟨o,e,ex.1⟩,fun a e2=>?_⟩
   cases e2
   exact ⟨o,e,ex.2.1⟩
  .obtain ⟨o,_,_,_,e,ex,_⟩:=I.hok p _ hk
   refine ⟨⟨o,e,ex.1⟩,fun a e2=>?_⟩
   cases e2
   exact ⟨o,e,ex.2.1⟩
 | _=>exact False.elim ty
def yS (K:W.Frag)(T:String)(r:V->List V->Hp->VK->Prop)(to:TE):TE:=fun σ H Q=>to σ H fun x H1=>tyV K T x H1/\r x [] H1 Q
def tBM (K:W.Frag)(T:String)(r:V->List V->Hp->VK->Prop)(to:TE)(t:TA):TE:=fun σ H Q=>to σ H fun x H1=>tyV K T x H1/\t σ H1 fun xs H2=>r x xs H2 Q
variable {o e:Expr}{es:List Expr}{to:TE}{t:TA}{name:Str}{apos cpos:Pos}{T id:String}{r:V->List V->Hp->VK->Prop}
theorem xg (pa:PlainAttrs T)(slot:Slot T name id)(hty:typeOf (.builtin id)=pure (.type "method_descriptor"))(hm:MtR X id r)(ho:PE X o to)
  (hbase:attributeBase o name X.env (eval o X.env)=eval o X.env:=by rfl) (hline:(apos.endLine == cpos.line)=true:=by rfl):PE X (.Call (.Attribute o name apos) [] [] cpos) (yS X.K T r to):=by
 intro pins s σ H Q I h
 refine wpAny_Call_method0_late hbase hline (thn (ho pins s σ H _ I h) fun v s1 zz=>?_)
 obtain ⟨x,H1,I1,r1,ty,q1⟩:=zz
 obtain ⟨h1,h2⟩:=rj I1 r1 ty
 exact ⟨T,id,pa,slot,hty,h1,h2,Calls.callWith_builtin rfl (PySem.evalArgs_none (hm pins s1 σ H1 x [] v [] Q I1 r1 .nil q1))⟩
theorem vA (pa:PlainAttrs T)(slot:Slot T name id)(hty:typeOf (.builtin id)=pure (.type "method_descriptor"))(hm:MtR X id r)(ho:PE X o to)(ha:PA X (e::es) t)
  (hbase:attributeBase o name X.env (eval o X.env)=eval o X.env:=by rfl)
  (hfew:((backTo cpos (starEach (e::es) X.env)).all (fun x=>!x.1)&&(backToKw cpos (keywordEach [] X.env)).all (fun x=>x.1.isSome)
   && decide ((e::es).length+([]:List Keyword).length+(if ([]:List Keyword).isEmpty then 0 else 1)<30))=true:=by rfl)
  (hline:(apos.endLine == cpos.line)=true:=by rfl) (hs:starEach (e::es) X.env=(false,eval e X.env)::starEach es X.env:=by rfl) (hplain:(backTo cpos (starEach es X.env)).any (·.1)=false:=by rfl) :
  PE X (.Call (.Attribute o name apos) (e::es) [] cpos) (tBM X.K T r to t):=by
 intro pins s σ H Q I h
 refine wpAny_Call_method_late hbase hfew hline rfl (thn (ho pins s σ H _ I h) fun v s1 zz=>?_)
 obtain ⟨x,H1,I1,r1,ty,q1⟩:=zz
 obtain ⟨h1,h2⟩:=rj I1 r1 ty
 refine ⟨T,id,pa,slot,hty,h1,h2,?_⟩
 have hA:=ha cpos pins s1 σ H1 _ I1 q1
 rw [hs] at hA ⊢
 refine Calls.callWith_builtin (by show (false || (backTo cpos (starEach es X.env)).any (·.1))=false;rw [hplain] <;> rfl) (Calls.evalArgs_plain ?_)
 exact thn hA fun us s2 ⟨vs,H2,I2,r2,q2⟩=>hm pins s2 σ H2 x vs v us Q I2 r1 r2 q2
end
def MtM (X:Cx)(id:String)(r:V->List V->Hp->VK->Prop):Prop :=
 ∀(pins:List (Addr×Obj)) (s:Shared) (σ:St) (H:Hp) (x:V) (xs:List V) (v:Value) (us:List Value) (Q:VK),Inv X pins σ H s->RelV x v->Vals xs us->r x xs H Q ->
  wpAny (model X.prog X.w) X.A (call (.builtin id) (v::us)) (EP X pins σ Q) X.xe s
theorem Vals.one:∀{x:V} {us:List Value},Vals [x] us->∃ u,us=[u]/\RelV x u
 | _,_,.cons r .nil=>⟨_,rfl,r⟩
theorem Vals.zero:∀{us:List Value},Vals [] us->us=[]
 | _,.nil=>rfl
theorem Vals.dropLast {xs:List V}{us:List Value}(h:Vals xs us):Vals xs.dropLast us.dropLast:=by
 induction h with
 | nil=>exact .nil
 | cons r t ih =>
  cases t with
  | nil=>exact .nil
  | cons q t'=>exact .cons r ih
theorem Vals.eraseIdx:∀{xs:List V} {us:List Value} (i:Nat),Vals xs us->Vals (xs.eraseIdx i) (us.eraseIdx i)
 | _,_,_,.nil=>.nil
 | _,_,0,.cons _ t=>t
 | _,_,i+1,.cons r t=>.cons r (Vals.eraseIdx i t)
theorem lC {α:Type}(l:List α):l.eraseIdx (l.length-1)=l.dropLast:=by
 induction l with
 | nil=>rfl
 | cons a r ih =>
  cases r with
  | nil=>rfl
  | cons b r =>
   have e:(a::b::r).length-1=((b::r).length-1)+1:=by
    have h1:(a::b::r).length=r.length+2:=rfl
    have h2:(b::r).length=r.length+1:=rfl
    lia
   rw [e,List.eraseIdx_cons_succ,ih]
   all_goals rfl
theorem iW {α:Type}:∀(l:List α) (i:Nat),(l.eraseIdx i).length<=l.length
 | [],_=>Nat.le_refl _
 | _::_,0=>Nat.le_succ _
 | _::r,i+1=>Nat.succ_le_succ (iW r i)
section
variable {X:Cx}{pins:List (Addr×Obj)}{σ:St}{H:Hp}{s:Shared}{l b:Addr}{xs ys zs:List V}
theorem Inv.lset {its its':List Value}{n:Nat}{f:Array Value->Array Value}{t':Nat}(I:Inv X pins σ H s)(hH:H l=some (.lst xs))
  (e:s.heap.get? l=some { cls:=.type "list",data:=.seq its.toArray n }) (hf:f its.toArray=its'.toArray) (hv:Vals ys its') (hz:ys.length<=sizeLine) :
  Inv X pins σ (upd H l (.lst ys)) { s with heap:=s.heap.update l (Obj.mapSeq f),toks:=t' }:=by
 have q:=PySem.IsL.update e f
 rw [hf] at q
 refine I.write (x:=l) (e:=l) (by rw [hH];exact trivial) (.inl rfl) (fun b' u hb hu=>(Heap.get?_update_other s.heap (Obj.mapSeq f) (Ne.symm hb)).trans hu) ⟨_,q⟩ ?_
 exact ⟨hz,its',_,hv,q⟩
theorem Inv.lnew {its:List Value}{t':Nat}(I:Inv X pins σ H s)(hv:Vals ys its)(hz:ys.length<=sizeLine) :
  Inv X pins σ (upd H s.heap.objs.size (.lst ys)) { s with heap:=s.heap.push { cls:=.type "list",data:=.seq its.toArray },toks:=t' } :=
 I.laid (fun _ _ q=>Heap.get?_push_of_some _ q) (Nat.le_refl _) ⟨hz,its,0,hv,Heap.get?_push_size _ rfl⟩
theorem Inv.fresh (I:Inv X pins σ H s):H s.heap.objs.size=none:=I.hok.fresh (Nat.le_refl _)
theorem Inv.lstM (I:Inv X pins σ H s)(hH:H l=some (.lst xs)):xs.length<=sizeLine/\∃ (its:List Value) (n:Nat),Vals xs its/\xs.length=its.length/\s.heap.get? l=some { cls:=.type "list",data:=.seq its.toArray n }:=by
 obtain ⟨z,its,n,r,e⟩:=I.hok l _ hH
 exact ⟨z,its,n,r,r.length,e⟩
end
section
variable {X:Cx}
def sW:V->List V->Hp->VK->Prop:=fun x vs H Q=>∃ l xs y,x=.ref l/\vs=[y]/\H l=some (.lst xs)/\xs.length<sizeLine/\Q .non (upd H l (.lst (xs++[y])))
theorem aY:MtM X "list.append" sW:=by
 intro pins s σ H x vs v us Q I rx rv h
 obtain ⟨l,xs,y,rfl,rfl,hH,hz,q⟩:=h
 cases rx
 obtain ⟨u,rfl,ru⟩:=rv.one
 obtain ⟨z,its,n,r,hl,e⟩:=I.lstM hH
 refine call_meets F.slot_list_append ⟨_,e,rfl⟩ F.entry_list_append (F.args_list_append_2 _ _) (PySem.list_append l its.toArray n u (by rw [List.size_toArray];lia)) ⟨e,?_⟩
 refine ⟨.non,_,I.lset (its':=its++[u]) hH e zl (r.append (.cons ru .nil)) ?_,rfl,q⟩
 rw [List.length_append,List.length_singleton]
 lia
def yX:V->List V->Hp->VK->Prop:=fun x vs H Q=>∃ l xs y,x=.ref l/\vs=[]/\H l=some (.lst xs)/\xs[xs.length-1]?=some y/\Q y (upd H l (.lst xs.dropLast))
theorem rX:MtM X "list.pop" yX:=by
 intro pins s σ H x vs v us Q I rx rv h
 obtain ⟨l,xs,y,rfl,rfl,hH,hy,q⟩:=h
 cases rx
 have hus:=rv.zero
 subst hus
 obtain ⟨z,its,n,r,hl,e⟩:=I.lstM hH
 obtain ⟨u,hu,ru⟩:=r.get hy
 have hy':its.toArray[its.toArray.size-1]?=some u:=by
  show its.toArray[its.length-1]?=some u
  rw [<-Array.getElem?_toList,<-hl]
  exact hu
 refine call_meets F.slot_list_pop ⟨_,e,rfl⟩ F.entry_list_pop (F.args_list_pop_1 _) (MeetsSeq.list_pop_last l its.toArray n u hy' (by rw [List.size_toArray];lia)) ⟨e,?_⟩
 refine ⟨y,_,I.lset (its':=its.dropLast) hH e ?_ r.dropLast ?_,ru,q⟩
 .show its.toArray.eraseIdxIfInBounds (its.toArray.size-1)=its.dropLast.toArray
  rw [List.size_toArray,List.eraseIdxIfInBounds_toArray,lC]
 rw [List.length_dropLast]
 lia
def xo:V->List V->Hp->VK->Prop:=fun x vs H Q=>∃ l xs i k y,x=.ref l/\vs=[.int i]/\H l=some (.lst xs)/\-(2 ^ 63)<=i/\i<2 ^ 63/\seqIndex? i xs.length=some k/\xs[k]?=some y/\Q y (upd H l (.lst (xs.eraseIdx k)))
theorem jT:MtM X "list.pop" xo:=by
 intro pins s σ H x vs v us Q I rx rv h
 obtain ⟨l,xs,i,k,y,rfl,rfl,hH,h1,h2,hk,hy,q⟩:=h
 cases rx
 obtain ⟨u,rfl,ru⟩:=rv.one
 obtain ⟨t,rfl⟩:=ru
 obtain ⟨z,its,n,r,hl,e⟩:=I.lstM hH
 obtain ⟨w,hw,rw'⟩:=r.get hy
 refine call_meets F.slot_list_pop ⟨_,e,rfl⟩ F.entry_list_pop (F.args_list_pop_2 _ _)
  (MeetsSeq.list_pop_at l its.toArray n i t k w (fitsIndex_both h1 h2) (by rw [List.size_toArray,<-hl];exact hk) (by rw [<-Array.getElem?_toList];exact hw) (by rw [List.size_toArray];lia)) ⟨e,?_⟩
 refine ⟨y,_,I.lset (its':=its.eraseIdx k) hH e ?_ (r.eraseIdx k) ?_,rw',q⟩
 .show its.toArray.eraseIdxIfInBounds k=(its.eraseIdx k).toArray
  rw [List.eraseIdxIfInBounds_toArray]
 have:=iW xs k
 lia
def y6:R2:=fun x y H Q=>∃ l b xs zs,x=.ref l/\y=.ref b/\H l=some (.lst xs)/\H b=some (.lst zs)/\xs.length+zs.length<=sizeLine/\∀p,H p=none->Q (.ref p) (upd H p (.lst (xs++zs)))
theorem jv:OpR X (binaryOp .Add) y6:=by
 intro pins s σ H x y v u Q I rx ry h
 obtain ⟨l,b,xs,zs,rfl,rfl,hH,hB,hz,q⟩:=h
 cases rx
 cases ry
 obtain ⟨z,its,n,r,hl,e⟩:=I.lstM hH
 obtain ⟨z2,its2,n2,r2,hl2,e2⟩:=I.lstM hB
 refine PySem.P.add_list e e2 ?_ (by rw [List.size_toArray,List.size_toArray];lia)
 have ea:its.toArray++its2.toArray=(its++its2).toArray:=by simp
 rw [ea]
 exact ⟨.ref _,_,I.lnew (t':=s.toks) (r.append r2) (by rw [List.length_append];lia),rfl,q _ I.fresh⟩
end
end L2
namespace Att
open PySem PySem.W PySem.Calls PyProof.Rows
theorem f8 {P:Params}{h:Heap}:∀(ns:List Int) (vs:List Value),WellAll P h vs (ns.map WData.int)->IntsAre vs ns:=by
 intro ns
 induction ns with
 | nil =>
  intro vs w
  rw [List.map_nil] at w
  cases w
  exact .nil
 | cons n ns ih =>
  intro vs w
  rw [List.map_cons] at w
  cases w with
  | cons a b =>
   cases a
   exact .cons _ _ (ih _ b)
theorem pA {l:OpenLaw}{n:Nat}(hn:l.most=some n){P:Params}{h:Heap}{args:List WData}{vals:List Value}
  (hpre:l.row.toRowW.claim.pre args=true) (hwl:WellAll P h vals args) :
  ∃ a vs ns,vals=[Value.ref a]/\args=[WData.list (ns.map WData.int)]/\h.get? a=some { cls:=.type "list",data:=.seq vs.toArray }/\IntsAre vs ns/\ns.length<=n:=by
 have hsh:WShape.hasAll [] args [.list .int]=true:=(pre_splitW hpre).1
 have hc:l.pre.holds [] { args:=args }=true:=(pre_splitW hpre).2
 obtain ⟨d,r,rfl,h1,h2⟩:=hasAllW_cons hsh
 obtain rfl:=hasAllW_nil h2
 obtain ⟨xs,rfl,h3⟩:=hasW_list h1
 obtain ⟨ns,rfl⟩:=items_int h3
 have hlen:ns.length<=n:=by
  unfold OpenLaw.pre at hc
  have h4:(WTm.not (.lt (.lit (.int (n:Int))) (.len (.arg 0)))).holds [] { args:=[.list (ns.map .int)] }=true:=by
   have h4:=(holds_andW hc).1
   rw [hn] at h4
   exact h4
  have h5:=condW_of h4 (w_not (w_lt w_lit (w_len_list (w_arg rfl))))
  rw [List.length_map] at h5
  refine Nat.le_of_not_lt fun q=>?_
  have q':(n:Int)<((ns.length:Nat):Int):=by lia
  first
   | (rw [decide_eq_true q'] at h5;exact absurd h5 zj)
   | (simp at h5;lia)
 cases hwl with
 | cons w1 w2 =>
  cases w2
  cases w1 with
  | list ho hall=>exact ⟨_,_,ns,rfl,rfl,ho,f8 ns _ hall,hlen⟩
theorem oU (l:OpenLaw)(args:List WData):l.row.toRowW.claim.post args (.bool true) args=true :=
 postW_of (r:=l.row.toRowW) (X:=(true == true))
  (show WShape.has [] (.bool true) .bool=true by first | rfl | decide | simp [WShape.has,WShape.arms,WShape.armsAll])
  (show (WTm.eq .res (.lit (.bool true))).value [] { args:=args,res:=some (.bool true),after:=args }=some (.bool (true == true)) from w_eq_bool (w_res rfl) w_lit) rfl
theorem attach_call {l:OpenLaw}{n:Nat}{q:Program}{loose:List Str}{XP:(Str->Option Value)->Heap->Prop}{YP:World->Heap->Prop}{d:DefRec}
  (hn:l.most=some n) (hdf:d.params.defaults=[])
  (call:∀(w:World) (s₀ s₁:Shared) (mg mb:Str->Option Value) (fa:Addr) (o:Obj) (pm cd doc:Value) (a:Addr) (vs:List Value) (ns:List Int),
   Ground q loose [] XP w s₀ mg mb s₁.heap->YP w s₁.heap ->
   s₁.heap.get? fa=some o->o.data=.func (docDef d.name d.params d.body d.scope pm cd doc)->s₁.heap.CodeRec cd d.name->mg d.name=some (.ref fa) ->
   s₁.heap.get? a=some { cls:=.type "list",data:=.seq vs.toArray }->IntsAre vs ns->ns.length<=n->s₁.gens=#[] ->
   codeAny (model l.prog w) callerA (.call (.ref fa) ⟨[.ref a],[]⟩) (fun r s'=>r=.ok (.ret (.bool true))/\OldK s₁.heap s'.heap/\s'.os=s₁.os/\AllBare s'.gens) s₁) :
  WalkO q loose XP YP l.row.toRowW d [] (fun f vs=>PySem.call f vs):=by
 intro w s₀ s₁ mg mb G Y fa o pm cd doc dV kV ho hd hcd hD hmg hg args vals as hpre hlay hrd hwl hlo
 obtain rfl:dV=.none:=Dflts.none hD hdf
 obtain rfl:kV=.none:=Dflts.noKw hD
 obtain ⟨a,vs,ns,rfl,rfl,hobj,hints,hlen⟩:=pA hn hpre hwl
 refine enter_call (codeAny_mono (call w s₀ s₁ mg mb fa o pm cd doc a vs ns G Y ho (fd_plain hd) hcd hmg hobj hints hlen hg) fun r s' hq=>?_)
 obtain ⟨rfl,h2,h3,h4⟩:=hq
 exact ⟨.inl ⟨.bool true,.bool true,[],rfl,fun _=>rfl,.bool true,oU l _,fun _=>⟨List.Pairwise.nil,fun _ hm=>(nomatch hm)⟩⟩,h2,h3,h4⟩
section
variable {prog:Program}{w:World}{A:Around}{E:Value->Shared->Prop}{s:Shared}{K:Frag}
def ledger (h:Heap)(L d:Addr):List (Addr×Obj):=(List.range h.objs.size).filterMap fun a=>if a=L∨a=d then none else (h.get? a).map fun o=>(a,o)
end
end Att
namespace L2
open PySem PySem.Spec PyProof.Rows
theorem iA:∀{vs:List Value} {ns:List Int},IntsAre vs ns->Vals (ns.map V.int) vs
 | _,_,.nil=>.nil
 | _,_,.cons n t h=>.cons ⟨t,rfl⟩ (iA h)
def wU (H:Hp):Prop:=∀b,H b=none∨∃ o xs,H b=some (.frz o (.lst xs))
theorem qR {P:Program}{w:World}{K:W.Frag}{mg mb:Str->Option Value}{CX:CXT}{k:Nat}{fa a:Addr}{fd:FuncData}{x:Str}{sp:Sp}{s₁:Shared}{vs:List Value}{ns:List Int}
  (KX:K.In s₁.heap) (hns:s₁.heap.Ns mainGlobals mg) (hb:s₁.heap.Ns builtinsNs mb) (hbb:∀x:Str,x≠"__name__"->mb x=bootBuiltins x) (hlim:s₁.heap.NoLimit) (hg:s₁.gens=#[])
  (ha:s₁.heap.get? a=some { cls:=.type "list",data:=.seq vs.toArray }) (hi:IntsAre vs ns) (hl:ns.length<=sizeLine) (hr:Room k callerA)
  (F:∀base:Heap,K.In base->base.Ns mainGlobals mg->aA P w K mg base CX k fa fd [x] sp) (hbind:∀(s:Shared) (u:Value),BindsTo s fd ⟨[u],[]⟩ [(x,u)])
  (hsp:∀H:Hp,wU H->SqL K H a (ns.map V.int)->sp [.ref a] H (fun v _=>v=.bl true) fun _ _ _=>False)
  (hCX:∀H e s',CX [] H s₁ (fun _ _ _=>False) e s'->False) :
  codeAny (model P w) callerA (.call (.ref fa) ⟨[.ref a],[]⟩) (fun r s'=>r=.ok (.ret (.bool true))/\OldK s₁.heap s'.heap/\s'.os=s₁.os/\AllBare s'.gens) s₁:=by
 have rv:=iA hi
 have lenV:=hi.length
 have core:∀H:Hp,wU H->SqL K H a (ns.map V.int)->HOk P w H s₁.heap->(∀b,H b≠none->b=a)->(H a≠none->K.lookup a=none) ->
   codeAny (model P w) callerA (.call (.ref fa) ⟨[.ref a],[]⟩) (fun r s'=>r=.ok (.ret (.bool true))/\OldK s₁.heap s'.heap/\s'.os=s₁.os/\AllBare s'.gens) s₁:=by
  intro H hO hS hok hA hK
  have base_of:∀{b:Addr} {o:Obj},s₁.heap.get? b=some o->H b=none->(jr s₁.heap H).get? b=some o:=fun e n=>rD e n
  have noA:∀{b:Addr} {o:Obj} {es:Array DictEntry} {ep:Nat},s₁.heap.get? b=some o->o.data=.dict es ep->H b=none:=fun {b o es ep} e d=>by
   cases q:H b with
   | none=>rfl
   | some u =>
    have e':b=a:=hA b (by rw [q];simp)
    subst e'
    rw [ha] at e;cases e
    have d':Data.seq vs.toArray _=Data.dict es ep:=d
    cases d'
  have nsK:∀{b:Addr} {m:Str->Option Value},s₁.heap.Ns b m->(jr s₁.heap H).Ns b m:=fun {b m} ⟨o,es,ep,e,d,r⟩=>⟨o,es,ep,base_of e (noA e d),d,r⟩
  have hKb:K.In (jr s₁.heap H):=fun b o e=>base_of (KX b o e) (by
   cases q:H b with
   | none=>rfl
   | some u =>
    have e':b=a:=hA b (by rw [q];simp)
    subst e'
    rw [hK (by rw [q];simp)] at e;cases e)
  have hM:Mod K mg (jr s₁.heap H):=⟨hKb,nsK hns,⟨mb,nsK hb,hbb⟩,let ⟨mc,h1,h2⟩:=hlim;⟨mc,nsK h1,h2⟩⟩
  have e0:Env0 P w K mg (jr s₁.heap H) callerA [] s₁ H:=⟨rfl,hM,fun b o e=>uY e,Nat.le_of_eq (pc _ _),trivial,fun b hb=>absurd (show b∈([]:List Addr) from hb) zl,hok,.of_eq hg⟩
  refine codeAny_mono ((F _ hKb (nsK hns)).run callerA [] s₁ H ⟨[.ref a],[]⟩ [.ref a] [.ref a] _ _ hr e0 (hbind s₁ (.ref a)) (.cons rfl .nil) (hsp H hO hS)) fun r s' h=>?_
  cases r with
  | error e=>exact (hCX H e s' h).elim
  | ok fl =>
   cases fl with
   | next=>exact False.elim h
   | brk=>exact False.elim h
   | cont=>exact False.elim h
   | ret u =>
    obtain ⟨v,H',os,bare,un,hok',r',q⟩:=h
    have q':v=.bl true:=q
    subst q'
    obtain rfl:u=Value.bool true:=r'
    refine ⟨rfl,OldK.of_keep fun b o e=>?_,os,bare⟩
    cases q:H b with
    | none=>exact un.keep b o e q (by intro z;exact absurd (show b∈([]:List Addr) from z) zl) zl
    | some u =>
     rcases hO b with z | ⟨ob,xs,z⟩
     .rw [q] at z;cases z
     .have z2:=un.frzs b ob _ z
      obtain ⟨e1,_⟩:=hok b _ z
      obtain ⟨e2,_⟩:=hok' b _ z2
      rw [e] at e1;cases e1
      exact e2
 cases hk:K.lookup a with
 | some o =>
  have e:=KX a o hk
  rw [ha] at e
  cases e
  refine core (fun _=>none) (fun _=>.inl rfl) (.inr ⟨_,vs.toArray,_,hk,rfl,rfl,rfl,by rw [List.size_toArray,lenV];exact hl,by simpa using rv⟩) (fun b u z=>by have z':(none:Option HO)=some u:=z;cases z') (fun b z=>absurd rfl z) fun z=>absurd rfl z
 | none =>
  refine core (fun b=>if b=a then some (.frz { cls:=.type "list",data:=.seq vs.toArray } (.lst (ns.map V.int))) else none) (fun b=>?_) (.inl (.inr ⟨{ cls:=.type "list",data:=.seq vs.toArray },if_pos rfl⟩)) (fun b u z=>?_) (fun b z=>?_) fun _=>hk
  .by_cases hb:b=a
   .exact .inr ⟨_,_,if_pos hb⟩
   .exact .inl (if_neg hb)
  .by_cases hb:b=a
   .have z':=(if_pos hb).symm.trans z
    cases z'
    subst hb
    exact ⟨ha,by rw [List.length_map];exact hl,vs,_,rv,ha⟩
   .have z':=(if_neg hb).symm.trans z
    cases z'
  .by_cases hb:b=a
   .exact hb
   .exact absurd (if_neg hb) z
theorem walk_of {l:W.OpenLaw}{n k:Nat}{q:Program}{loose:List Str}{XP:(Str->Option Value)->Heap->Prop}{YP:World->Heap->Prop}{d:DefRec}{K:Params->W.Frag}{CX:World->CXT}{sp:World->Sp}{x:Str}
  (hn:l.most=some n) (hn2:n<=sizeLine) (hdf:d.params.defaults=[]) (hr:Room k callerA)
  (hY:∀(w:World) (h:Heap),YP w h->(K w.params).In h)
  (F:∀(w:World) (mg:Str->Option Value) (fa:Addr) (h:Heap),(K w.params).In h->h.Ns mainGlobals mg->mg d.name=some (.ref fa) ->
   ∃ fd:FuncData,(∀(s:Shared) (u:Value),BindsTo s fd ⟨[u],[]⟩ [(x,u)]) /\
    ∀base:Heap,(K w.params).In base->base.Ns mainGlobals mg->aA l.prog w (K w.params) mg base (CX w) k fa fd [x] (sp w))
  (hsp:∀(w:World) (H:Hp) (a:Addr) (ns:List Int),ns.length<=n->wU H->SqL (K w.params) H a (ns.map V.int)->sp w [.ref a] H (fun v _=>v=.bl true) fun _ _ _=>False)
  (hCX:∀(w:World) (H:Hp) (s:Shared) (e:Value) (s':Shared),CX w [] H s (fun _ _ _=>False) e s'->False) :
  W.WalkO q loose XP YP l.row.toRowW d [] (fun f vs=>PySem.call f vs):=by
 refine Att.attach_call hn hdf fun w s₀ s₁ mg mb fa o pm cd doc a vs ns G Y ho hd hcd hmg hobj hints hlen hg=>?_
 have KX:=hY w _ Y
 obtain ⟨fd,hb,hF⟩:=F w mg fa _ KX G.T.g hmg
 exact qR KX G.T.g G.T.b G.T.builtins G.T.nolimit hg hobj hints (Nat.le_trans hlen hn2) hr hF hb (fun H hO hS=>hsp w H a ns hlen hO hS) fun H e s'=>hCX w H s₁ e s'
def bg (s:Stmt)(j:Nat):Stmt:=match s with
 | .ClassDef _ _ _ body _ _ _ _ _ _ _=>body.getD j (.Pass ⟨0,0,0,0⟩)
 | _=>.Pass ⟨0,0,0,0⟩
def bO (s:Stmt):Arguments:=match s with
 | .FunctionDef _ a _ _ _ _ _ _ _ _=>a
 | _=>{ posonlyargs:=[],args:=[],vararg:=none,kwonlyargs:=[],kw_defaults:=[],kwarg:=none,defaults:=[] }
def bz (s:Stmt):List Stmt:=match s with
 | .FunctionDef _ _ b _ _ _ _ _ _ _=>b
 | _=>[]
def ao (s:Stmt):Scope:=match s with
 | .FunctionDef _ _ _ _ _ _ sc _ _ _=>sc
 | _=>{ kind:=.function,names:=[],isGenerator:=false,isCoroutine:=false }
abbrev CX0:CXT:=fun _ _ _ _ _ _=>False
abbrev E0:XK:=fun _ _ _=>False
theorem aD {X:Cx}:bM CX0 X E0:=fun _ _ _ _ _ _ _ h=>h.elim
structure Fun (K:W.Frag)(x qual:Str)(st:Stmt)(f:Addr)(fd:FuncData):Prop where
 ex:∃ (oc:Value) (od:Option Addr) (kV doc pm:Value) (an:Option Addr) (cdv ct:Value) (osl:Array (Option Value)),
  fd=W.fnOf x qual (bO st) (bz st) (ao st) .none kV doc pm an cdv ct/\K.lookup f=some ⟨oc,od,.func fd,osl⟩/\W.codeIn K cdv qual=true
 kp:W.keepIn K (.ref f)=true
section
variable {P:Program}{w:World}{K:W.Frag}{mg:Str->Option Value}{base:Heap}
theorem Fun.ok {x qual:Str}{st:Stmt}{f:Addr}{fd:FuncData}{N ps:List Str}{k:Nat}{sp:Sp}(F:Fun K x qual st f fd)(S:FnScope N ps (ao st))(len:∀vs H Q E,sp vs H Q E->vs.length=ps.length)
  (hbody:∀(cdv:Value) (A:Around) (outer:List Env) (s:Shared) (H:Hp) (vs:List V) (Q:VK) (E:XK),Room k (A.deeper (envOfC qual (ao st) s.heap.objs.size f cdv))->sp vs H Q E ->
   ∃ t,PSs (bq CX0 P w K mg base N qual (ao st) f cdv A outer s H E).nox (bz st) t/\t { nx:=fun _ H'=>Q .non H',rt:=Q } (dy N vs) H):aA P w K mg base CX0 (k+1) f fd ps sp:=by
 obtain ⟨oc,od,kV,doc,pm,an,cdv,ct,osl,rfl,lk,hcd⟩:=F.ex
 refine vX lk hcd S len fun A outer s H vs Q E hr hsp=>?_
 obtain ⟨t,h,q⟩:=hbody cdv A outer s H vs Q E hr hsp
 exact ⟨t,h.nox,q⟩
theorem Fun.binds {x qual:Str}{st:Stmt}{f:Addr}{fd:FuncData}{ps:List Str}(F:Fun K x qual st f fd)
  (h:∀(kV doc pm:Value) (an:Option Addr) (cdv ct:Value) (us:List Value),us.length=ps.length->bindArgs (W.fnOf x qual (bO st) (bz st) (ao st) .none kV doc pm an cdv ct) ⟨us,[]⟩=pure (ps.zip us)):Binds K fd ps []:=by
 obtain ⟨oc,od,kV,doc,pm,an,cdv,ct,osl,rfl,lk,hcd⟩:=F.ex
 exact .all (h kV doc pm an cdv ct)
theorem jn {x qual:Str}{st:Stmt}{f:Addr}{oc:Value}{od an:Option Addr}{osl:Array (Option Value)}{kV doc pm cdv ct:Value}(l:K.lookup f=some ⟨oc,od,.func (W.fnOf x qual (bO st) (bz st) (ao st) .none kV doc pm an cdv ct),osl⟩)
  (c:W.codeIn K cdv qual=true) (k:W.keepIn K (.ref f)=true):Fun K x qual st f (W.fnOf x qual (bO st) (bz st) (ao st) .none kV doc pm an cdv ct):=⟨⟨oc,od,kV,doc,pm,an,cdv,ct,osl,rfl,l,c⟩,k⟩
end
theorem aX {A:Around}{k:Nat}(hr:Room k A):A.units+1<cLine:=Nat.lt_of_le_of_lt (Nat.add_le_add_left (by decide:1<=64) _) hr.units
theorem aH {n:Nat}(h:n<=1000):n<sizeLine:=Nat.lt_of_le_of_lt h zj
theorem gf {A B:Prop}(h:B):if false=true then A else B:=by
 rw [if_neg Bool.false_ne_true]
 exact h
theorem qb {A B:Prop}(h:A):if true=true then A else B:=by
 rw [if_pos rfl]
 exact h
theorem aE {c A B:Prop}[Decidable c](h1:c->A)(h2:¬ c->B):if c then A else B:=by
 by_cases h:c
 .rw [if_pos h]
  exact h1 h
 rw [if_neg h]
 exact h2 h
def Same (H H':Hp):Prop:=∀b o,H b=some o->H' b=some o
theorem Same.refl (H:Hp):Same H H:=fun _ _ h=>h
theorem Same.trans {H H1 H2:Hp}(a:Same H H1)(b:Same H1 H2):Same H H2:=fun c o h=>b c o (a c o h)
def ltV:V->V->Bool
 | .int a,.int b=>decide (a<b)
 | .str a,.str b=>decide (a.cps.toList<b.cps.toList)
 | _,_=>false
def uR:V->V->Prop
 | .int _,.int _=>True
 | .str _,.str _=>True
 | _,_=>False
def cP:List V->List V->Bool
 | [],[]=>false
 | [],_::_=>true
 | _::_,[]=>false
 | x::xs,y::ys=>if x=y then cP xs ys else ltV x y
theorem bV (x y:V)(xs ys:List V):cP (x::xs) (y::ys)=if x=y then cP xs ys else ltV x y:=rfl
def l9:List V->List V->Prop
 | x::xs,y::ys=>uR x y/\l9 xs ys
 | _,_=>True
theorem dk (a c:Str):((a == c)=true)↔a=c:=by simp
theorem cJ {a c:V}{v u:Value}(A:Around)(s:Shared)(h:uR a c)(ra:RelV a v)(rc:RelV c u):∃ e,SeqAt.EqAt A s v u e/\(e=true↔a=c):=by
 cases a with
 | int i =>
  cases c with
  | int j =>
   obtain ⟨t,rfl⟩:=ra
   obtain ⟨t',rfl⟩:=rc
   exact ⟨_,SeqAt.EqAt.int_int i t j t',zl⟩
  | _=>exact h.elim
 | str i =>
  cases c with
  | str j =>
   obtain ⟨t,rfl⟩:=ra
   obtain ⟨t',rfl⟩:=rc
   exact ⟨_,SeqAt.EqAt.str_str i t j t',zl⟩
  | _=>exact h.elim
 | _=>exact h.elim
theorem sS {a c:V}{v u:Value}(A:Around)(s:Shared)(h:uR a c)(ra:RelV a v)(rc:RelV c u)(prog:Program)(w:World){E:Value->Shared->Prop}{Q:Value->Shared->Prop}(q:Q (.bool (ltV a c)) s) :
  wpAny (model prog w) A (richCompare .Lt v u) Q E s:=by
 cases a with
 | int i =>
  cases c with
  | int j =>
   obtain ⟨t,rfl⟩:=ra
   obtain ⟨t',rfl⟩:=rc
   exact (PyProof.Rows.lt_int q:wpAny (model prog w) A (compareOp .Lt (.int i t) (.int j t')) Q E s)
  | _=>exact h.elim
 | str i =>
  cases c with
  | str j =>
   obtain ⟨t,rfl⟩:=ra
   obtain ⟨t',rfl⟩:=rc
   exact (PySem.P.lt_str q:wpAny (model prog w) A (compareOp .Lt (.str i t) (.str j t')) Q E s)
  | _=>exact h.elim
 | _=>exact h.elim
section
open PySem.SeqAt
open PySem.AutoSeq1 (wpAny_loadPart')
open PySem.MeetsSeq PySem.MeetsSeq2 PySem.MeetsSeq3
theorem lK (l b:Addr)(items items2:Array Value)(n n2:Nat)(dd dd2:Option Addr)(sl sl2:Array (Option Value))(xs ys:List V)(hi:Vals xs items.toList)(hj:Vals ys items2.toList)(hf:l9 xs ys) :
  Meets (Builtin.«tuple.__lt__» ⟨[.ref l,.ref b],[]⟩)
   (fun _ R s=>s.heap.get? l=some { cls:=.type "tuple",dict:=dd,data:=.seq items n,slots:=sl }/\s.heap.get? b=some { cls:=.type "tuple",dict:=dd2,data:=.seq items2 n2,slots:=sl2 } /\
    R (.ok (.ret (.bool (cP xs ys)))) s) :=
 .of_wp fun prog w A R s h=>by
  obtain ⟨hp,g,d,tk,os⟩:=s;obtain ⟨hl,hb,h⟩:=h
  have f2:=AutoSeq1.sub_tuple_tuple
  have z1:items.size=xs.length:=by rw [hi.length];simp
  have z2:items2.size=ys.length:=by rw [hj.length];simp
  wp_walk using wpAny_loadPart' hl,wpAny_loadPart' hb,wpAny_forIn_list _ (fun cc b s'=>b.1=none/\s'=⟨hp,g,d,tk,os⟩/\∃ (vs ws:List Value) (xs' ys':List V),cc=vs.zip ws /\
   Vals xs' vs/\Vals ys' ws/\l9 xs' ys'/\xs'.length+items2.size=ys'.length+items.size/\R (.ok (.ret (.bool (cP xs' ys')))) ⟨hp,g,d,tk,os⟩) _
  case turn =>
   rintro ⟨y,x⟩ cc b s' ⟨hb',rfl,vs,ws,xs',ys',hz,hvi,hwi,hft,hlen,hR⟩
   cases hvi with
   | nil=>rw [List.zip_nil_left] at hz;cases hz
   | @cons a v as vs' ra hvi' =>
    cases hwi with
    | nil=>rw [List.zip_nil_right] at hz;cases hz
    | @cons c u cs ws' rc hwi' =>
     rw [List.zip_cons_cons] at hz
     injection hz with hyx hrest
     injection hyx with hy hx
     subst hy hx
     simp only [List.length_cons] at hlen
     obtain ⟨fac,fit'⟩:uR a c/\l9 as cs:=hft
     obtain ⟨e,he,hiff⟩:=cJ A.in1 ⟨hp,g,d,tk,os⟩ fac ra rc
     refine wpAny_bind (he prog w _ _ ?_)
     cases e with
     | true =>
      have hac:=hiff.mp rfl
      have hR2:R (.ok (.ret (.bool (cP as cs)))) ⟨hp,g,d,tk,os⟩:=by
       subst hac
       rw [bV,if_pos rfl] at hR;exact hR
      wp_walk
      exact ⟨rfl,rfl,_,_,_,_,hrest,hvi',hwi',fit',zk,hR2⟩
     | false =>
      have hac:¬ a=c:=fun q=>absurd (hiff.mpr q) Bool.false_ne_true
      have hR2:R (.ok (.ret (.bool (ltV a c)))) ⟨hp,g,d,tk,os⟩:=by
       rw [bV,if_neg (by intro q;exact hac q)] at hR;exact hR
      have hri:=fun E Q h=>sS (E:=E) (Q:=Q) A.in1 ⟨hp,g,d,tk,os⟩ fac ra rc prog w h
      wp_walk using hri
      exact ⟨_,rfl,by simpa using hR2⟩
  case fin =>
   rintro ⟨b1,b2⟩ s' ⟨hb',rfl,vs,ws,xs',ys',hz,hvi,hwi,hft,hlen,hR⟩
   simp only at hb'
   subst hb'
   have hv:cP xs' ys'=decide (items.size<items2.size):=by
    cases hvi with
    | nil =>
     cases hwi with
     | nil =>
      simp only [List.length_nil] at hlen
      rw [show cP [] []=false from rfl]
      exact (decide_eq_false zk).symm
     | cons ru hw =>
      simp only [List.length_nil,List.length_cons] at hlen
      exact (decide_eq_true zk).symm
    | cons ra hv =>
     cases hwi with
     | nil =>
      simp only [List.length_nil,List.length_cons] at hlen
      exact (decide_eq_false zk).symm
     | cons ru hw =>
      rw [List.zip_cons_cons] at hz
      cases hz
   rw [hv] at hR
   wp_walk
   exact ⟨_,rfl,by simpa [Builtin.Tuple.tupleCompareSizes] using hR⟩
  case h =>
   exact ⟨rfl,rfl,items.toList,items2.toList,xs,ys,rfl,hi,hj,hf,zk,h⟩
end
def za (K:W.Frag):R2:=fun x y H Q=>∃ a b xs ys,x=.ref a/\y=.ref b/\SqT K H a xs/\SqT K H b ys/\l9 xs ys/\Q (.bl (cP xs ys)) H
theorem fJ {X:Cx}(hu:X.A.units<cLine):OpR X (compareOp .Lt) (za X.K):=by
 intro pins s σ H x y v u Q I rx ry h
 obtain ⟨a,b,xs,ys,rfl,rfl,ha,hb,hf,q⟩:=h
 cases rx
 cases ry
 obtain ⟨its,r1,p1,_⟩:=I.tuple ha
 obtain ⟨its2,r2,p2,_⟩:=I.tuple hb
 obtain ⟨⟨cls,dd,data,sl⟩,ho,hc,n,hd⟩:=id p1
 obtain ⟨⟨cls2,dd2,data2,sl2⟩,ho2,hc2,n2,hd2⟩:=id p2
 simp only at hc hd hc2 hd2
 subst hc hd hc2 hd2
 exact richCompare_meets_room (op:=.Lt) ⟨_,ho,rfl⟩ ⟨_,ho2,rfl⟩ PySem.F.slot_tuple_lt PySem.F.entry_tuple_lt (PySem.F.args_tuple_lt_2 _ _) (lK a b _ _ n n2 dd dd2 sl sl2 xs ys r1 r2 hf)
  ⟨ho,ho2,show Value.bool (cP xs ys)≠Value.notImplemented/\EP X pins σ Q (.bool (cP xs ys)) s from ⟨(fun x=>nomatch x),.bl _,H,I,rfl,q⟩⟩ hu
def gc (l:List V):Prop:=∃ i x j,l=[.int i,.str x,.int j]
theorem ug {a b:Str}(h:a.cps.toList=b.cps.toList):a=b:=by
 cases a with | mk c=>cases b with | mk d=>congr 1;exact Array.toList_inj.mp h
theorem w9 {a b:List V}(ha:gc a)(hb:gc b):l9 a b:=by
 obtain ⟨i,x,j,rfl⟩:=ha
 obtain ⟨i',x',j',rfl⟩:=hb
 exact ⟨trivial,trivial,trivial,trivial⟩
section
variable {X:Cx}
theorem j5 {x y z:V}{us:List Value}(r:Vals [x,y,z] us):∃ u v w,us=[u,v,w]/\RelV x u/\RelV y v/\RelV z w:=by
 cases r with
 | cons r1 r2 =>
  cases r2 with
  | cons r3 r4 =>
   cases r4 with
   | cons r5 r6=>cases r6;exact ⟨_,_,_,rfl,r1,r3,r5⟩
end
def Cx.blk (X:Cx)(scope:Scope)(cl:List (Str×Addr))(C:Addr)(NB:List Str)(fp:List Addr)(s₀:Shared)(H₀:Hp):Cx :=
 { X with N:=NB,s₀:=s₀,H₀:=H₀,env:=compEnvC scope cl C X.env,outer:=X.stack,ex:=X.ex++fp,fn:=fun _=>false,pn:=[],xe:=fun _ _=>False }
structure Blk (X:Cx)(scope:Scope)(cl:List (Str×Addr))(x:Str)(NB:List Str)(cap:List Nat):Prop where
 clos:closureFor scope X.env=pure cl
 nocell:∀y∈scope.names,y.2≠.cell
 kind:scope.kind=.function
 names:∀y∈scope.names,y.2=.local->scope.names.lookup y.1=some .local
 cells:∀y c,cl.lookup y=some c->X.env.cells.lookup y=some c
 has:∀y,((relabel scope X.env).names.lookup y=some .cell∨(relabel scope X.env).names.lookup y=some .free)->∃ c,cl.lookup y=some c
 len:cap.length=NB.length
 /-- the slot j+1 of the block is the slot i of X,by a cell -/
 cap:∀(j i:Nat),cap[j]?=some i->∃ y,NB[j]?=some y/\X.N[i]?=some y/\Vis X.env.scope y/\(X.env.kindOf y=some .cell∨X.env.kindOf y=some .free)/\((relabel scope X.env).names.lookup y=some .cell∨(relabel scope X.env).names.lookup y=some .free)
 own:scope.names.lookup x=some .local
 nd:(x::NB).Nodup
def bE (cap:List Nat)(σ:St):St:=cap.map fun i=>σ[i]?.join
def jx (wi:TI)(tt:TT)(te:TE)(cap:List Nat):TE:=fun σ H Q=>wi σ H fun J H1=>∀D,H1 D=none ->
 ∃ W:Nat->Nat->List V->Hp->Prop,(∃ m,W 0 m [] (upd H1 D (.lst [])))/\∀i m ys H,W i m ys H->H D=some (.lst ys) /\
  ((J.stop i H/\Q (.ref D) H)∨(J.go i H/\∀x H',J.yld i H x H'->tt (some x::bE cap σ) H' fun b H3 =>
   if b=true then te (some x::bE cap σ) H3 fun v H4=>H4 D=some (.lst ys)/\ys.length<sizeLine/\∃ m',m'<m/\W (i+1) m' (ys++[v]) (upd H4 D (.lst (ys++[v])))
   else ∃ m',m'<m/\W (i+1) m' ys H3))
def PTs (X:Cx)(ifs:List Expr)(t:TT):Prop :=
 ∀(pins:List (Addr×Obj)) (s:Shared) (σ:St) (H:Hp) (Q:Bool->Hp->Prop),Inv X pins σ H s->t σ H Q ->
  wpAny (model X.prog X.w) X.A (forIn ifs true fun c r=>if r=true then do let ok <-isTrue c X.env (eval c X.env);pure (ForInStep.yield ok) else pure (ForInStep.yield r)) (TP X pins σ Q) X.xe s
def gS:TT:=fun _ H Q=>Q true H
theorem uy {X:Cx}:PTs X [] gS:=fun pins s σ H Q I h=>wpAny_tests_nil ⟨H,I,h⟩
theorem tQ {X:Cx}{c:Expr}{t:TT}(h:PT X c t):PTs X [c] t:=fun pins s σ H Q I hq=>wpAny_tests_one (h pins s σ H Q I hq)
theorem jc {prog:Program}{w:World}{A:Around}{R:Result->Shared->Prop}{s:Shared}{elt target iter:Expr}{ifs:List Expr}{scope:Scope}{pos:Pos}{it acc:Value}{env:Env}(I:Nat->Shared->Prop)
  (turn:∀n s,I n s->wpAny (model prog w) A (pyNext it) (fun r s₁=>match r with
   | none=>R (.ok .next) s₁
   | some v=>wpAny (model prog w) A (letOwnedTupleGo target it v) (fun _ s₁'=>wpAny (model prog w) A (assign target env v) (fun _ s₂ =>
     wpAny (model prog w) A (forIn ifs true fun c r=>if r=true then do let ok <-isTrue c env (eval c env);pure (ForInStep.yield ok) else pure (ForInStep.yield r)) (fun ok s₃ =>
      if ok=true then wpAny (model prog w) A (eval elt env) (fun x s₄ =>
       wpAny (model prog w) A (call (.builtin "list.append") [acc,x]) (fun _ s₅=>∃ m,m<n/\I m s₅) (fun _ _=>False) s₄) (fun _ _=>False) s₃
      else ∃ m,m<n/\I m s₃) (fun _ _=>False) s₂) (fun _ _=>False) s₁') (fun _ _=>False) s₁) (fun _ _=>False) s)
  (n:Nat) (h:I n s):codeAny (model prog w) A (.compLoop (.ListComp elt [⟨target,iter,ifs,0⟩] scope pos) 0 it acc env) R s:=by
 refine codeAny_loop rfl I (fun n s hI=>?_) n h
 show wpAny _ A ((compTurn (.ListComp elt [⟨target,iter,ifs,0⟩] scope pos) 0 it acc env).onRaise (fun x=>do noteFrame x env;theTreesLotGoes x)) _ _ s
 refine wpAny_noted ?_
 rw [compTurn_list]
 refine wpAny_bind (wpAny_standAt (wpAny_bind (wpAny_mono (turn n s hI) (fun r s₁ h₁=>?_) fun _ _ z=>z.elim)))
 cases r with
 | none=>exact wpAny_pure h₁
 | some v =>
  refine wpAny_bind (wpAny_mono h₁ (fun _ s₁' h₁'=>?_) fun _ _ z=>z.elim)
  refine wpAny_bind (wpAny_mono h₁' (fun _ s₂ h₂=>wpAny_bind (wpAny_mono h₂ (fun ok s₃ h₃=>?_) fun _ _ z=>z.elim)) fun _ _ z=>z.elim)
  cases ok with
  | false=>exact wpAny_pure ⟨rfl,h₃⟩
  | true =>
   exact wpAny_bind (wpAny_bind (wpAny_mono h₃ (fun x s₄ h₄=>wpAny_bind (wpAny_mono h₄ (fun _ s₅ h₅=>wpAny_pure (wpAny_pure ⟨rfl,h₅⟩)) fun _ _ z=>z.elim)) fun _ _ z=>z.elim))
structure y9 (X:Cx)(pins:List (Addr×Obj))(H:Hp)(C:Addr)(s:Shared):Prop where
 ns:∃ m,s.heap.Ns C m
 fp:km X pins H C
theorem iC {X:Cx}{elt iter:Expr}{x:Str}{px pos pos':Pos}{ifs:List Expr}{scope:Scope}{cl:List (Str×Addr)}{NB:List Str}{cap:List Nat}{wi:TI}{tt:TT}{te:TE}
  {pins:List (Addr×Obj)} {s:Shared} {σ:St} {H:Hp} {Q:VK} {use:Option (Value->Sem Unit)} {R:Value->Shared->Prop}
  (B:Blk X scope cl x NB cap) (hc:X.calm=true) (hex:X.ex=[]) (hi:PI X (.Name x px) iter wi)
  (ht:∀C fp s₀ H₀,PTs (X.blk scope cl C (x::NB) fp s₀ H₀) ifs tt) (he:∀C fp s₀ H₀,PE (X.blk scope cl C (x::NB) fp s₀ H₀) elt te)
  (hs:∀v,foldedSetIterable iter X.env v=pure v) (I:Inv X pins σ H s) (h:jx wi tt te cap σ H Q)
  (fin:∀(D C:Addr) (H':Hp) (s':Shared),Inv X pins σ H' s'->y9 X pins H' C s'->Q (.ref D) H'->compPost (model X.prog X.w) X.A X.xe use R (.ref D) C (.ok .next) s') :
  wpAny (model X.prog X.w) X.A (comprehension (.ListComp elt [⟨.Name x px,iter,ifs,0⟩] scope pos) scope X.env pos' (newList []) false (eval iter X.env) use) R X.xe s:=by
 refine wpAny_comprehension_free (use:=use) rfl hs B.clos B.kind B.names (thn (hi pins s σ H _ I h) fun v s1 h1=>thn h1 fun itv s2 h2=>?_)
 obtain ⟨it,fp,tn,J,H2,e,I2,T,st2,f2,h2⟩:=h2
 subst e
 refine wpAny_newObj_type (wpAny_newFunctionEnv B.nocell (by intro y hy;simp at hy) (fun h₁ hns₁ hsb₁=>?_) B.kind)
 dsimp only at hns₁ hsb₁ ⊢
 have I3:=I2.lnew (ys:=[]) (its:=[]) (t':=s2.toks) .nil (Nat.zero_le _)
 have hD:=I2.fresh
 obtain ⟨W,⟨m0,w0⟩,turn⟩:=h2 _ hD
 generalize eD:s2.heap.objs.size=D at hD I3 W w0 turn ⊢
 generalize eH2:s2.heap.push { cls:=.type "list",dict:=none,data:=.seq ([]:List Value).toArray }=G3 at hns₁ hsb₁ I3 ⊢
 generalize eH3:upd H2 D (.lst [])=H3 at I3 w0
 have hC:G3.objs.size=D+1:=by rw [<-eH2,Heap.size_push,eD]
 generalize eC:G3.objs.size=C at hns₁ hsb₁ hC ⊢
 have old:∀b o,G3.get? b=some o->h₁.get? b=some o:=fun b o e =>
  hsb₁.extBut b o (by rw [<-eC];exact Nat.ne_of_lt (Heap.lt_size e)) (Heap.get?_push_of_some _ e)
 have old2:∀b o,s2.heap.get? b=some o->G3.get? b=some o:=fun b o e=>by rw [<-eH2];exact Heap.get?_push_of_some _ e
 have fpo:∀b∈fp,b<D:=fun b hb=>by
  obtain ⟨o,e,_⟩:=T.obj 0 _ st2 b hb
  rw [<-eD];exact Heap.lt_size e
 have fpx:∀b∈fp,b∉frs X.stack:=fun b hb z=>by
  obtain ⟨f0,f1,f2',_⟩:=f2 b hb
  rcases List.mem_cons.mp (I2.stkSub b z) with q | q
  .exact f1 q
  .exact f2' q
 let Y:Cx:=X.blk scope cl C (x::NB) fp { s2 with heap:=G3,toks:=s2.toks } H3
 have okY:Y.Ok:=by
  refine ⟨I3.ok.mod,B.kind,I3.ok.glob,I3.ok.blt,?_,?_,B.has,?_,I3.ok.hd,I3.ok.frames,.inl rfl,?_,I3.bs,?_,?_,?_,I3.stack,I3.stkFree⟩
  .show G3.objs.size<=C
   lia
  .intro y z c e1 e2
   exact I3.ok.inj y z c (B.cells y c e1) (B.cells z c e2)
  .intro y c z
   cases z
  .intro b hb
   have hb':b∈fp:=by
    have:b∈X.ex++fp:=hb
    rw [hex] at this;simpa using this
   refine ⟨?_,fun y c e=>(f2 b hb').2.2.2.2.1 y c (B.cells y c e)⟩
   show b≠C
   exact Nat.ne_of_lt (Nat.lt_of_lt_of_le (fpo b hb') (by rw [hC];exact Nat.le_succ _))
  .show X.base.objs.size<=G3.objs.size
   exact Nat.le_trans I3.ok.bsz I3.sz
  .intro b o e hb
   have hb':b∈fp:=by
    have:b∈X.ex++fp:=hb
    rw [hex] at this;simpa using this
   rcases (f2 b hb').2.2.2.1 with z | z
   .rw [hex] at z;cases z
   .exact absurd (Nat.lt_of_lt_of_le (Nat.lt_of_lt_of_le (Heap.lt_size e) I3.ok.bsz) z) (Nat.lt_irrefl _)
  .intro b hb
   have hb':b∈fp:=by
    have:b∈X.ex++fp:=hb
    rw [hex] at this;simpa using this
   exact fpx b hb'
 have IY:Inv Y [] (none::bE cap σ) H3 { s2 with heap:=h₁,toks:=s2.toks }:=by
  refine ⟨okY,rfl,I3.bare,Un.kept old,⟨_,hns₁,?_⟩,?_,?_,?_,?_,I3.hok.kept old,?_⟩
  .intro j y v e1 e2 hv
   cases j with
   | zero=>cases e2
   | succ j =>
    have e1':NB[j]?=some y:=e1
    have e2':(bE cap σ)[j]?=some (some v):=e2
    unfold bE at e2'
    rw [List.getElem?_map] at e2'
    cases ec:cap[j]? with
    | none=>rw [ec] at e2';cases e2'
    | some i =>
     rw [ec] at e2'
     have e3:σ[i]?.join=some v:=Option.some.inj e2'
     have e4:σ[i]?=some (some v):=by
      cases q:σ[i]? with
      | none=>rw [q] at e3;cases e3
      | some z=>rw [q] at e3;exact congrArg some e3
     obtain ⟨y',n1,n2,n3,n4,n5⟩:=B.cap j i ec
     rw [e1'] at n1
     cases n1
     obtain ⟨m,hn,hl⟩:=I3.loc
     obtain ⟨u,r,lk⟩:=hl i y v n2 e4 n3
     refine ⟨u,r,.inr ⟨n5,?_⟩⟩
     obtain ⟨c,hcl⟩:=B.has y n5
     refine ⟨c,hcl,?_⟩
     rcases lk with ⟨k1,_⟩ | ⟨_,c',ec',cell⟩
     .rcases n4 with n4 | n4 <;> (rw [n4] at k1;cases k1)
     .rw [B.cells y c hcl] at ec'
      cases ec'
      obtain ⟨o,ho,hd⟩:=cell
      exact ⟨o,old c o ho,hd⟩
  .intro y c e
   obtain ⟨v,o,ho,hd⟩:=I3.cell y c (B.cells y c e)
   exact ⟨v,o,old c o ho,hd⟩
  .exact I3.hok.fresh (show G3.objs.size<=C by lia)
  .intro y c e
   exact I3.freeC y c (B.cells y c e)
  .intro p hp
   cases hp
  .show (none::bE cap σ).length=(x::NB).length
   rw [List.length_cons,List.length_cons,<-B.len]
   unfold bE
   rw [List.length_map]
 have fpY:∀{H':Hp},(∀b∈fp,H' b=none)->∀b∈fp,km Y [] H' b:=fun {H'} hn b hb=>by
  refine ⟨hn b hb,?_,fpx b hb,.inl ?_,fun y c e=>(f2 b hb).2.2.2.2.1 y c (B.cells y c e),fun p hp=>by cases hp⟩
  .show b≠C
   exact Nat.ne_of_lt (Nat.lt_of_lt_of_le (fpo b hb) (by rw [hC];exact Nat.le_succ _))
  .show b∈X.ex++fp
   exact List.mem_append_right _ hb
 have st4:tn 0 h₁:=T.keep _ _ _ st2 fun b hb o e=>old b o (old2 b o e)
 have fr4:∀b∈fp,H3 b=none:=fun b hb=>by
  rw [<-eH3,ak (Nat.ne_of_lt (fpo b hb))];exact (f2 b hb).1
 have leave:∀(H':Hp) (s':Shared),Inv Y [] (none::bE cap σ) H' s'->Q (.ref D) H'->compPost (model X.prog X.w) X.A X.xe use R (.ref D) C (.ok .next) s':=by
  intro H' s' I' q
  obtain ⟨m,hn,_⟩:=id I'.loc
  have u:=I'.base
  have I5:Inv X pins σ H' s':=by
   refine I3.call' (s':=s') (ch:=X.ex++fp) I'.os u I'.hok I'.bare fun b hb=>?_
   have hb':b∈fp:=by rw [hex] at hb;simpa using hb
   obtain ⟨f0,f1,f2',f3,f4,f5⟩:=f2 b hb'
   exact ⟨f3,f1,f4,f5⟩
  exact fin D C H' s' I5 ⟨⟨m,hn⟩,I3.fpOk (show G3.objs.size<=C by rw [eC];exact Nat.le_refl _) I'.free⟩ q
 have loop:∀s₄:Shared,s₄={ s2 with heap:=h₁,toks:=s2.toks } ->
   codeAny (model X.prog X.w) X.A (.compLoop (.ListComp elt [⟨.Name x px,iter,ifs,0⟩] scope pos) 0 (.ref it) (.ref D) (compEnvC scope cl C X.env)) (compPost (model X.prog X.w) X.A X.xe use R (.ref D) C) s₄:=by
  rintro s₄ rfl
  refine jc (fun n s'=>∃ i ys H',Inv Y [] (none::bE cap σ) H' s'/\tn i s'.heap/\(∀b∈fp,H' b=none)/\W i n ys H') ?_ m0 ⟨0,[],H3,IY,st4,fr4,w0⟩
  rintro n s3 ⟨i,ys,H',I',st',fr',w'⟩
  obtain ⟨hDl,tr⟩:=turn i n ys H' w'
  rcases tr with ⟨stop,q⟩ | ⟨go,step⟩
  .refine thn (T.done Y rfl rfl rfl hc i [] s3 _ H' (fun _ _=>False) I' (fpY fr') st' stop) fun r s4 ⟨hr,I4⟩=>?_
   subst hr
   exact leave H' s4 I4 q
  .refine thn (T.item Y rfl rfl rfl hc i [] s3 _ H' (fun _ _=>False) I' (fpY fr') st' go) fun r s4 zz=>?_
   obtain ⟨u,hr,h4⟩:=zz
   subst hr
   refine thn h4 fun _ s5 zz=>?_
   obtain ⟨v,H5,I5,r5,y5,st5,fr5⟩:=zz
   have I5':=I5.pinned (fpY fr5) (T.obj _ _ st5)
   have back:∀{σ7:St} {H7:Hp} {s7:Shared},Inv Y ([]++ie fp s5.heap) (some v::bE cap σ) H7 s7->Inv Y [] (none::bE cap σ) H7 s7/\tn (i+1) s7.heap/\∀b∈fp,H7 b=none:=fun {σ7 H7 s7} I7=>by
    refine ⟨I7.unpinned.weak zl fun j z e=>?_,T.keep _ _ _ st5 fun b hb o e=>(I7.pin (b,o) (List.mem_append_right _ (List.mem_append_right _ (cS hb e)))).1,fun b hb=>?_⟩
    .cases j with
     | zero=>cases e
     | succ j=>exact e
    .obtain ⟨o,e,d⟩:=T.obj _ _ st5 b hb
     exact (I7.pin (b,o) (List.mem_append_right _ (List.mem_append_right _ (cS hb e)))).2.1
   have hgN:PG Y (.Name x px) (dN 0):=nz (i:=0) B.nd rfl (.inl (lookup_relabel_local B.own)) (.inr (lookup_relabel_local B.own))
   refine thn (hgN _ s5 _ H5 v u (fun σ6 H6=>σ6=some v::bE cap σ/\H6=H5) I5' r5 ⟨rfl,rfl⟩) fun _ s6 zz=>?_
   obtain ⟨σ6,H6,I6,e6,e6'⟩:=zz
   subst e6 e6'
   refine thn (ht C fp _ _ _ s6 _ H6 _ I6 (step v H6 y5)) fun ok s7 zz=>?_
   obtain ⟨H7,I7,q7⟩:=zz
   cases ok with
   | false =>
    simp only [Bool.false_eq_true,if_false] at q7 ⊢
    obtain ⟨m',hm,w7⟩:=q7
    obtain ⟨a,b,c⟩:=back (σ7:=[]) I7
    exact ⟨m',hm,i+1,ys,H7,a,b,c,w7⟩
   | true =>
    simp only [if_true] at q7 ⊢
    refine thn (he C fp _ _ _ s7 _ H7 _ I7 q7) fun u8 s8 zz=>?_
    obtain ⟨v8,H8,I8,r8,q8⟩:=zz
    obtain ⟨d8,l8,m',hm,w8⟩:=q8
    refine thn (aY (X:=Y) _ s8 _ H8 (.ref D) [v8] (.ref D) [u8] (fun _ H9=>H9=upd H8 D (.lst (ys++[v8]))) I8 rfl (.cons r8 .nil) ⟨D,ys,v8,rfl,rfl,d8,l8,rfl⟩) fun _ s9 zz=>?_
    obtain ⟨_,H9,I9,_,e9⟩:=zz
    subst e9
    obtain ⟨a,b,c⟩:=back (σ7:=[]) I9
    exact ⟨m',hm,i+1,ys++[v8],_,a,b,c,w8⟩
 refine codeAny_compStart_list (loop _ ?_) (T.self _ 0 _ _ _ ?_ (loop _ ?_))
 .rfl
 .exact st4
 rfl
theorem uI {X:Cx}{elt iter:Expr}{x:Str}{px pos:Pos}{ifs:List Expr}{scope:Scope}{cl:List (Str×Addr)}{NB:List Str}{cap:List Nat}{wi:TI}{tt:TT}{te:TE}
  (B:Blk X scope cl x NB cap) (hc:X.calm=true) (hex:X.ex=[]) (hi:PI X (.Name x px) iter wi)
  (ht:∀C fp s₀ H₀,PTs (X.blk scope cl C (x::NB) fp s₀ H₀) ifs tt) (he:∀C fp s₀ H₀,PE (X.blk scope cl C (x::NB) fp s₀ H₀) elt te)
  (hs:∀v,foldedSetIterable iter X.env v=pure v:=by intro _;rfl):PE X (.ListComp elt [⟨.Name x px,iter,ifs,0⟩] scope pos) (jx wi tt te cap):=by
 intro pins s σ H Q I h
 rw [eval_ListComp]
 refine iC (use:=none) (R:=EP X pins σ Q) B hc hex hi ht he hs I h fun D C H' s' I' G q=>?_
 obtain ⟨m,hn⟩:=G.ns
 obtain ⟨f0,f1,f2,f3,f4,f5⟩:=G.fp
 refine ⟨m,hn,fun h' hs'=>⟨.ref D,H',?_,rfl,q⟩⟩
 exact I'.turned (t':=s'.toks) (fun b o hb e=>(hs'.2 b hb).trans e) f0 f1 f3 f4 f5
theorem kR {X:Cx}{elt iter:Expr}{x y:Str}{px py pos spos:Pos}{ifs:List Expr}{scope:Scope}{cl:List (Str×Addr)}{NB:List Str}{cap:List Nat}{wi:TI}{tt:TT}{te:TE}{i:Nat}
  (hN:X.N.Nodup) (hi':X.N[i]?=some y) (hx:Loc X.env.scope y)
  (B:Blk X scope cl x NB cap) (hc:X.calm=true) (hex:X.ex=[]) (hi:PI X (.Name x px) iter wi)
  (ht:∀C fp s₀ H₀,PTs (X.blk scope cl C (x::NB) fp s₀ H₀) ifs tt) (he:∀C fp s₀ H₀,PE (X.blk scope cl C (x::NB) fp s₀ H₀) elt te)
  (hsw:swapsWith (.ListComp elt [⟨.Name x px,iter,ifs,0⟩] scope pos) (some (.Name y py)) spos.line X.env=pure true:=by rfl)
  (hs:∀v,foldedSetIterable iter X.env v=pure v:=by intro _;rfl) (hf:X.fn y=true∨X.env.scope.names.lookup y=some .local:=by first | exact .inl rfl | exact .inr rfl | assumption) :
  PS X (.Assign [.Name y py] (.ListComp elt [⟨.Name x px,iter,ifs,0⟩] scope pos) spos) (lv (jx wi tt te cap) (dN i)):=by
 intro pins s σ H D I h
 rw [exec_Assign_Name_used _ _ _ _ hsw]
 refine wpAny_bind (wpAny_standAt (wpAny_bind ?_))
 show wpAny _ X.A (do let _ <-comprehension (.ListComp elt [⟨.Name x px,iter,ifs,0⟩] scope pos) scope X.env _ (newList []) false (eval iter X.env) (some (assign (.Name y py) X.env))) _ _ s
 refine wpAny_bind (wpAny_mono (iC (use:=some (assign (.Name y py) X.env)) (R:=fun _ s'=>SP X pins D .next s') B hc hex hi ht he hs I h fun L C H' s' I' G q=>?_) (fun _ s' hq=>wpAny_pure (wpAny_pure hq)) fun _ _ e=>e)
 obtain ⟨m,hn⟩:=G.ns
 obtain ⟨f0,f1,f2,f3,f4,f5⟩:=G.fp
 refine wpAny_assign_Name (iS (v:=.ref L) I' hN hi' hx rfl (fun s'' I'' zz=>?_) hf)
 obtain ⟨a,sb,ha⟩:=zz
 have hC:C≠a:=by
  rcases ha with z | z
  .rw [z];exact f1
  .exact fun e=>f4 y a z e.symm
 refine ⟨m,hn.sameBut sb hC,fun h' hs'=>⟨_,H',?_,q⟩⟩
 exact I''.turned (t':=s''.toks) (fun b o hb e=>(hs'.2 b hb).trans e) f0 f1 f3 f4 f5
section
variable {X:Cx}
theorem eU (hu:X.A.units<cLine):OpR X (compareOp .Eq) (fun x y H Q=>∃ a b xs,x=.ref a/\y=.ref b/\SqL X.K H a xs/\SqL X.K H b []/\Q (.bl (decide (xs=[]))) H):=by
 intro pins s σ H x y v u Q I rx ry h
 obtain ⟨a,b,xs,rfl,rfl,ha,hb,q⟩:=h
 cases rx
 cases ry
 obtain ⟨its,r1,p1,_⟩:=I.list ha
 obtain ⟨its2,r2,p2,_⟩:=I.list hb
 cases r2
 cases xs with
 | nil =>
  cases r1
  exact SeqAt.eq_listAt (e:=fun _=>true) p1.isList p2.isList rfl hu (fun j h1 _=>absurd h1 zl) ⟨.bl true,H,I,rfl,by simpa using q⟩
 | cons z zs =>
  cases r1 with
  | cons _ _=>exact SeqAt.eq_list_lengthsAt p1.isList p2.isList zl hu ⟨.bl false,H,I,rfl,by simpa using q⟩
theorem rP (hu:X.A.units<cLine):OpR X (compareOp .NotEq) (fun x y H Q=>∃ a b xs,x=.ref a/\y=.ref b/\SqL X.K H a xs/\SqL X.K H b []/\Q (.bl (!decide (xs=[]))) H):=by
 intro pins s σ H x y v u Q I rx ry h
 obtain ⟨a,b,xs,rfl,rfl,ha,hb,q⟩:=h
 cases rx
 cases ry
 obtain ⟨its,r1,p1,_⟩:=I.list ha
 obtain ⟨its2,r2,p2,_⟩:=I.list hb
 cases r2
 cases xs with
 | nil =>
  cases r1
  exact SeqAt.RcNeAt.lists (e:=fun _=>true) p1.isList p2.isList rfl hu (fun j h1 _=>absurd h1 zl) _ _ _ _ ⟨.bl false,H,I,rfl,by simpa using q⟩
 | cons z zs =>
  cases r1 with
  | cons _ _=>exact SeqAt.RcNeAt.lists_lengths p1.isList p2.isList zl hu _ _ _ _ ⟨.bl true,H,I,rfl,by simpa using q⟩
theorem qB:bQ X (.builtin "isinstance") (fun zs H Q=>∃ x T t b,zs=[x,.ty T]/\fT X.K H x t/\W.kitOne X.K t (.type T)=some b/\Q (.bl b) H):=by
 intro pins s σ H zs us Q I r h
 obtain ⟨x,T,t,b,rfl,ty,e,q⟩:=h
 obtain ⟨u,w',rfl,ru,rw'⟩:=rK r
 cases rw'
 exact oY I ru ty e fun tk=>⟨.bl b,H,I.tok _,rfl,q⟩
end
def yw (_ j:Int):Prop:=0<j/\j<2 ^ 200
theorem ca {X:Cx}:OpR X (binaryOp .FloorDiv) (rI yw fun i j=>.int (i / j)):=opI fun i j _ _ _ _ _ hc q=>by
 have h1:(0:Int)<j:=hc.1
 have h2:j<2 ^ 200:=hc.2
 rw [<-Int.fdiv_eq_ediv_of_nonneg i zk] at q
 refine floordiv_int zk q (.inl (PyProof.noPylong_of_log2 ?_))
 have h3:j.natAbs<2 ^ 200:=by lia
 have h4:j.natAbs.log2<200:=(Nat.log2_lt zk).mpr h3
 lia
structure Bl (mg:Str->Option Value):Prop where
 z_len:mg "len"=none
 z_sum:mg "sum"=none
 z_abs:mg "abs"=none
 z_range:mg "range"=none
 z_list:mg "list"=none
 z_tuple:mg "tuple"=none
 z_int:mg "int"=none
 z_bool:mg "bool"=none
 z_sorted:mg "sorted"=none
 z_isinstance:mg "isinstance"=none
structure Nm (K:W.Frag)(mg:Str->Option Value)(x:Str)(a:Addr)(fd:FuncData)(ps:List Str):Prop where
 m:mg x=some (.ref a)
 k:W.keepIn K (.ref a)=true
 b:Binds K fd ps []
theorem wj {cs:List Int}{i:Int}(h0:0<=i)(h1:i<cs.length):atI (cs.map V.int) i=some (.int (cs.getD i.toNat 0)):=by
 have h2:i.toNat<cs.length:=by lia
 have e:(cs.map V.int)[i.toNat]?=some (.int (cs.getD i.toNat 0)):=by
  rw [List.getElem?_map,List.getElem?_eq_getElem h2]
  simp [List.getD,List.getElem?_eq_getElem h2]
 have:=aU e
 rwa [Int.toNat_of_nonneg h0] at this
theorem cE {n:Nat}{i:Int}(h0:0<=i)(h1:i<n):ixN n i=some i.toNat:=by
 unfold ixN
 rw [if_pos h0,if_pos h1]
theorem dt {a b:Int}(h:0<b):0<=a % b:=Int.emod_nonneg _ zk
theorem du {a b:Int}(h:0<b):a % b<b:=Int.emod_lt_of_pos _ h
def bv (names:List (Str×NameKind)):List Str:=(names.filter fun y=>y.2 == .free).map (·.1)
def xx (scope:Scope)(env:Env):List (Str×Addr):=(bv scope.names).reverse.map fun n=>(n,(env.cells.lookup n).getD 0)
theorem hV {g:Str->Addr}{y:Str}{c:Addr}:∀{l:List Str},(l.map fun n=>(n,g n)).lookup y=some c->y∈l/\c=g y
 | [],h=>by cases h
 | a::l,h=>by
  rw [List.map_cons,List.lookup_cons] at h
  cases e:y == a with
  | true =>
   rw [e] at h
   have e':y=a:=by simpa using e
   subst e'
   exact ⟨List.mem_cons_self,(Option.some.inj h).symm⟩
  | false =>
   rw [e] at h
   obtain ⟨m,q⟩:=hV h
   exact ⟨List.mem_cons_of_mem _ m,q⟩
theorem dv {g:Str->Addr}{y:Str}:∀{l:List Str},y∈l->(l.map fun n=>(n,g n)).lookup y=some (g y)
 | [],h=>by cases h
 | a::l,h=>by
  rw [List.map_cons,List.lookup_cons]
  cases e:y == a with
  | true =>
   have e':y=a:=by simpa using e
   subst e'
   rfl
  | false =>
   rcases List.mem_cons.mp h with z | z
   .subst z;simp at e
   .exact dv z
theorem dS (env:Env):∀(names:List (Str×NameKind)) (acc:List (Str×Addr)),(∀n∈bv names,∃ c,env.cells.lookup n=some c) ->
  (forIn names acc fun y cs=>if (y.2 == NameKind.free)=true then (do let c <-cellOf env y.1;pure (ForInStep.yield ((y.1,c)::cs))) else pure (ForInStep.yield cs):Sem (List (Str×Addr))) =
   pure ((bv names).reverse.map (fun n=>(n,(env.cells.lookup n).getD 0))++acc)
 | [],acc,_=>by rw [List.forIn_nil];rfl
 | (n,k)::r,acc,h=>by
  rw [List.forIn_cons]
  cases e:k == NameKind.free with
  | true =>
   have hn:bv ((n,k)::r)=n::bv r:=by unfold bv;rw [List.filter_cons_of_pos (by simpa using e)];rfl
   rw [hn] at h ⊢
   obtain ⟨c,hc⟩:=h n List.mem_cons_self
   simp only [e,if_true]
   have h2:cellOf env n=pure c:=by unfold cellOf;rw [hc]
   rw [h2]
   have ih:=dS env r ((n,c)::acc) fun m hm=>h m (List.mem_cons_of_mem _ hm)
   show (forIn r ((n,c)::acc) _:Sem (List (Str×Addr)))=_
   rw [ih,List.reverse_cons,List.map_append,List.append_assoc]
   rw [List.map_cons,List.map_nil,hc]
   rfl
  | false =>
   have hn:bv ((n,k)::r)=bv r:=by unfold bv;rw [List.filter_cons_of_neg (by simpa using e)]
   rw [hn] at h ⊢
   simp only [e,Bool.false_eq_true,if_false]
   exact dS env r acc h
theorem kX (scope:Scope)(env:Env)(h:∀n∈bv scope.names,∃ c,env.cells.lookup n=some c):closureFor scope env=pure (xx scope env):=by
 have:=dS env scope.names [] h
 rw [List.append_nil] at this
 simp only [closureFor]
 rw [this]
 rfl
theorem pB {names:List (Str×NameKind)}{y:Str}(h:(y,NameKind.free)∈names):y∈bv names:=by
 unfold bv
 exact List.mem_map.mpr ⟨(y,.free),List.mem_filter.mpr ⟨h,by rfl⟩,rfl⟩
theorem qC {names:List (Str×NameKind)}{y:Str}(h:y∈bv names):(y,NameKind.free)∈names:=by
 unfold bv at h
 obtain ⟨⟨a,k⟩,hm,e⟩:=List.mem_map.mp h
 obtain ⟨h1,h2⟩:=List.mem_filter.mp hm
 cases e
 have:k=.free:=by simpa using h2
 rw [<-this];exact h1
theorem cf {env:Env}:∀{names:List (Str×NameKind)} {y:Str} {k:NameKind},
  (names.map fun (n,k)=>if (k == NameKind.free&&env.scope.kind == .function&&env.kindOf n == some .cell) then (n,NameKind.cell) else (n,k)).lookup y=some k->(k=.cell∨k=.free)->(∀z∈names,z.2≠.cell)->(y,NameKind.free)∈names
 | [],y,k,h,_,_=>by cases h
 | (n,k0)::r,y,k,h,hk,hn=>by
  rw [List.map_cons] at h
  dsimp only at h
  by_cases hc:(k0 == NameKind.free&&env.scope.kind == .function&&env.kindOf n == some .cell)=true
  .rw [if_pos hc,List.lookup_cons] at h
   have hf:k0=.free:=by
    rw [Bool.and_eq_true,Bool.and_eq_true] at hc
    simpa using hc.1.1
   cases e:y == n with
   | true =>
    have e':y=n:=by simpa using e
    subst e';subst hf
    exact List.mem_cons_self
   | false =>
    rw [e] at h
    exact List.mem_cons_of_mem _ (cf h hk fun z hz=>hn z (List.mem_cons_of_mem _ hz))
  .rw [if_neg hc,List.lookup_cons] at h
   cases e:y == n with
   | true =>
    have e':y=n:=by simpa using e
    subst e'
    rw [e] at h
    have e2:k0=k:=Option.some.inj h
    have:=hn (y,k0) List.mem_cons_self
    rcases hk with z | z
    .rw [z] at e2;exact absurd e2 this
    .rw [z] at e2;rw [e2];exact List.mem_cons_self
   | false =>
    rw [e] at h
    exact List.mem_cons_of_mem _ (cf h hk fun z hz=>hn z (List.mem_cons_of_mem _ hz))
theorem cN {env:Env}:∀{names:List (Str×NameKind)} {y:Str},names.lookup y=some .free ->
  (names.map fun (n,k)=>if (k == NameKind.free&&env.scope.kind == .function&&env.kindOf n == some .cell) then (n,NameKind.cell) else (n,k)).lookup y=some .cell ∨
  (names.map fun (n,k)=>if (k == NameKind.free&&env.scope.kind == .function&&env.kindOf n == some .cell) then (n,NameKind.cell) else (n,k)).lookup y=some .free
 | [],y,h=>by cases h
 | (n,k0)::r,y,h=>by
  rw [List.lookup_cons] at h
  rw [List.map_cons]
  dsimp only
  by_cases hc:(k0 == NameKind.free&&env.scope.kind == .function&&env.kindOf n == some .cell)=true
  .rw [if_pos hc,List.lookup_cons]
   cases e:y == n with
   | true=>exact .inl rfl
   | false=>rw [e] at h;exact cN h
  .rw [if_neg hc,List.lookup_cons]
   cases e:y == n with
   | true=>rw [e] at h;exact .inr h
   | false=>rw [e] at h;exact cN h
theorem Blk.of {X:Cx}{scope esc:Scope}{x:Str}{N NB:List Str}{cap:List Nat}(eN:X.N=N)(eS:X.env.scope=esc)(hX:∀y,esc.names.lookup y=some .cell->∃ c,X.env.cells.lookup y=some c)
  (hk:scope.kind=.function) (h1:∀y∈scope.names,y.2≠.cell) (h2:∀y∈scope.names,y.2=.local->scope.names.lookup y.1=some .local) (h3:∀y∈scope.names,y.2=.free->esc.names.lookup y.1=some .cell)
  (hl:cap.length=NB.length) (h4:∀p∈NB.zip cap,N[p.2]?=some p.1/\esc.names.lookup p.1=some .cell/\scope.names.lookup p.1=some .free) (h5:scope.names.lookup x=some .local) (nd:(x::NB).Nodup) :
  Blk X scope (xx scope X.env) x NB cap:=by
 have hfr:∀n∈bv scope.names,∃ c,X.env.cells.lookup n=some c:=fun n hn=>hX n (h3 _ (qC hn) rfl)
 refine ⟨kX scope X.env hfr,h1,hk,h2,fun y c e=>?_,fun y e=>?_,hl,fun j i e=>?_,h5,nd⟩
 .unfold xx at e
  obtain ⟨m,q⟩:=hV e
  obtain ⟨c',hc⟩:=hfr y (List.mem_reverse.mp m)
  rw [hc] at q
  rw [hc,q];rfl
 .have hm:(y,NameKind.free)∈scope.names:=by
   rcases e with e | e
   .exact cf e (.inl rfl) h1
   .exact cf e (.inr rfl) h1
  exact ⟨_,dv (List.mem_reverse.mpr (pB hm))⟩
 have hj:j<cap.length:=(List.getElem?_eq_some_iff.mp e).1
 have hj2:j<NB.length:=by lia
 have ey:NB[j]?=some NB[j]:=List.getElem?_eq_getElem hj2
 have ez:(NB.zip cap)[j]?=some (NB[j],i):=by rw [List.getElem?_zip_eq_some];exact ⟨ey,e⟩
 obtain ⟨a1,a2,a3⟩:=h4 _ (List.mem_of_getElem? ez)
 refine ⟨NB[j],ey,by rw [eN];exact a1,.inr (.inl (by rw [eS];exact a2)),.inl (by show X.env.scope.names.lookup _=_;rw [eS];exact a2),?_⟩
 exact cN a3
theorem cC {α:Type}{l:List α}{i:Int}(h0:0<=i)(h1:i<l.length):∃ v,atI l i=some v/\v∈l:=by
 have h2:i.toNat<l.length:=by lia
 have e:l[i.toNat]?=some l[i.toNat]:=List.getElem?_eq_getElem h2
 have:=aU e
 rw [Int.toNat_of_nonneg h0] at this
 exact ⟨_,this,List.getElem_mem h2⟩
theorem lV {lo:Int}{n:Nat}{tt:TT}{te:TE}{cap:List Nat}{σ:St}{H:Hp}{D:Addr}{Q:VK}(Pv:Nat->List V->Hp->Prop)(h0:Pv 0 [] (upd H D (.lst [])))(hD:∀i ys H,Pv i ys H->H D=some (.lst ys))
  (hs:∀i ys H,i<n->Pv i ys H->tt (some (.int (lo+i))::bE cap σ) H fun b H3 =>
   if b=true then te (some (.int (lo+i))::bE cap σ) H3 fun v H4=>H4 D=some (.lst ys)/\ys.length<sizeLine/\∃ m',m'<n-i/\m'=n-(i+1)/\i+1<=n/\Pv (i+1) (ys++[v]) (upd H4 D (.lst (ys++[v])))
   else ∃ m',m'<n-i/\m'=n-(i+1)/\i+1<=n/\Pv (i+1) ys H3)
  (hd:∀ys H,Pv n ys H->Q (.ref D) H) :
  ∃ W:Nat->Nat->List V->Hp->Prop,(∃ m,W 0 m [] (upd H D (.lst [])))/\∀i m ys H,W i m ys H->H D=some (.lst ys) /\
  (((Itr lo n).stop i H/\Q (.ref D) H)∨((Itr lo n).go i H/\∀x H',(Itr lo n).yld i H x H'->tt (some x::bE cap σ) H' fun b H3 =>
   if b=true then te (some x::bE cap σ) H3 fun v H4=>H4 D=some (.lst ys)/\ys.length<sizeLine/\∃ m',m'<m/\W (i+1) m' (ys++[v]) (upd H4 D (.lst (ys++[v])))
   else ∃ m',m'<m/\W (i+1) m' ys H3)):=by
 refine ⟨fun i m ys H=>m=n-i/\i<=n/\Pv i ys H,⟨n,zl,Nat.zero_le _,h0⟩,?_⟩
 rintro i m ys H ⟨rfl,hi,p⟩
 refine ⟨hD i ys H p,?_⟩
 by_cases hlt:i<n
 .refine .inr ⟨hlt,fun x H' y=>?_⟩
  obtain ⟨e,y⟩:=y
  subst e y
  exact hs i ys _ hlt p
 have e:i=n:=by lia
 subst e
 exact .inl ⟨Nat.le_refl _,hd ys H p⟩
theorem qt {X:Cx}{K:W.Frag}(h:X.K=K):IxR X (yA K):=by subst h;exact aw
def lN:Expr->Option V
 | .Constant (.int i) _ _=>some (.int i)
 | .Constant (.str x) _ _=>some (.str x)
 | _=>none
def eK:List Expr->Option (List V)
 | []=>some []
 | e::es=>match lN e,eK es with
  | some v,some vs=>some (v::vs)
  | _,_=>none
theorem iU {X:Cx}:∀{es:List Expr} {vs:List V},eK es=some vs->PA X es (fun _ H Q=>Q vs H)
 | [],vs,h=>by
  cases h
  exact rf
 | e::es,vs,h=>by
  unfold eK at h
  cases e1:lN e with
  | none=>rw [e1] at h;cases h
  | some v =>
   cases e2:eK es with
   | none=>rw [e1,e2] at h;cases h
   | some ws =>
    rw [e1,e2] at h
    cases h
    have ih:=iU (X:=X) e2
    have he:PE X e (tC v)/\starEach (e::es) X.env=(false,eval e X.env)::starEach es X.env:=by
     unfold lN at e1
     split at e1
     .cases e1;exact ⟨sV,rfl⟩
     .cases e1;exact ⟨lI,rfl⟩
     .cases e1
    exact oa he.1 ih he.2
end L2
namespace L2
open PySem
theorem ai {H:Hp}{p:Addr}{o:HO}(h:H p=none):Same H (upd H p o):=fun b u e=>by rw [ak (am e h)];exact e
theorem cp {H H':Hp}{p:Addr}{o:HO}(s:Same H H')(h:H p=none):Same H (upd H' p o):=fun b u e=>by rw [ak (am e h)];exact s b u e
end L2
namespace L2
open PySem PySem.Spec PyProof.Rows
@[irreducible] def QE (X:Cx) (e:Expr) (t:TE):Prop:=PE X e t
@[irreducible] def QT (X:Cx) (e:Expr) (t:TT):Prop:=PT X e t
@[irreducible] def QW (X:Cx) (e:Expr) (t:TT):Prop:=PW X e t
@[irreducible] def QA (X:Cx) (es:List Expr) (t:TA):Prop:=PA X es t
@[irreducible] def QS (X:Cx) (st:Stmt) (t:TS):Prop:=PS X st t
@[irreducible] def QSs (X:Cx) (st:List Stmt) (t:TS):Prop:=PSs X st t
@[irreducible] def QG (X:Cx) (e:Expr) (t:TG):Prop:=PG X e t
@[irreducible] def QGs (X:Cx) (e:List Expr) (t:TGs):Prop:=PGs X e t
@[irreducible] def QI (X:Cx) (tg iter:Expr) (wi:TI):Prop:=PI X tg iter wi
@[irreducible] def QTs (X:Cx) (ifs:List Expr) (t:TT):Prop:=PTs X ifs t
@[irreducible] def QO (X:Cx) (e:Option Expr) (t:TO):Prop:=PO X e t
section
variable {X:Cx}{e a b c:Expr}{es:List Expr}{t te ta tb tc:TE}{tt:TT}{pos:Pos}
theorem QE.mk {t:TE}(h:PE X e t):QE X e t:=by unfold QE;exact h
theorem QE.to {t:TE}(h:QE X e t):PE X e t:=by unfold QE at h;exact h
theorem QT.mk {t:TT}(h:PT X e t):QT X e t:=by unfold QT;exact h
theorem QT.to {t:TT}(h:QT X e t):PT X e t:=by unfold QT at h;exact h
theorem QW.mk {t:TT}(h:PW X e t):QW X e t:=by unfold QW;exact h
theorem QW.to {t:TT}(h:QW X e t):PW X e t:=by unfold QW at h;exact h
theorem QA.mk {t:TA}(h:PA X es t):QA X es t:=by unfold QA;exact h
theorem QA.to {t:TA}(h:QA X es t):PA X es t:=by unfold QA at h;exact h
theorem QS.mk {st:Stmt}{t:TS}(h:PS X st t):QS X st t:=by unfold QS;exact h
theorem QS.to {st:Stmt}{t:TS}(h:QS X st t):PS X st t:=by unfold QS at h;exact h
theorem QSs.mk {st:List Stmt}{t:TS}(h:PSs X st t):QSs X st t:=by unfold QSs;exact h
theorem QSs.to {st:List Stmt}{t:TS}(h:QSs X st t):PSs X st t:=by unfold QSs at h;exact h
theorem QG.mk {t:TG}(h:PG X e t):QG X e t:=by unfold QG;exact h
theorem QG.to {t:TG}(h:QG X e t):PG X e t:=by unfold QG at h;exact h
theorem QGs.mk {t:TGs}(h:PGs X es t):QGs X es t:=by unfold QGs;exact h
theorem QGs.to {t:TGs}(h:QGs X es t):PGs X es t:=by unfold QGs at h;exact h
theorem QI.mk {tg:Expr}{wi:TI}(h:PI X tg e wi):QI X tg e wi:=by unfold QI;exact h
theorem QI.to {tg:Expr}{wi:TI}(h:QI X tg e wi):PI X tg e wi:=by unfold QI at h;exact h
theorem QTs.mk {t:TT}(h:PTs X es t):QTs X es t:=by unfold QTs;exact h
theorem QTs.to {t:TT}(h:QTs X es t):PTs X es t:=by unfold QTs at h;exact h
theorem QO.mk {o:Option Expr}{t:TO}(h:PO X o t):QO X o t:=by unfold QO;exact h
theorem QO.to {o:Option Expr}{t:TO}(h:QO X o t):PO X o t:=by unfold QO at h;exact h
theorem qv (i:Nat){x:Str}(hN:X.N[i]?=some x:=by rfl)(hv:Vis X.env.scope x:=by first | exact Or.inl rfl | exact Or.inr (Or.inl rfl) | exact Or.inr (Or.inr rfl))(hd:(x == ("__debug__":Str))=false:=by decide)
  (hcd:(x == ("__classdict__":Str))=false:=by decide):QE X (.Name x pos) (yN i):=.mk (wW hN hv hd hcd)
theorem ag {i j}:QE X (.Constant (.int i) j pos) (tC (.int i)):=.mk sV
theorem gT {b j}:QE X (.Constant (.bool b) j pos) (tC (.bl b)):=.mk xW
theorem av {x j}:QE X (.Constant (.str x) j pos) (tC (.str x)):=.mk lI
theorem uS {x:Str}{v:V}{u:Value}(hg:Gl X x)(hm:X.mg x=none)(hv:bootBuiltins x=some u)(r:RelV v u)(hn:x≠"__name__":=by decide)(hd:(x == ("__debug__":Str))=false:=by decide):QE X (.Name x pos) (tC v):=.mk (uN hg hm hv r hn hd)
theorem aq {op:Operator}{r:R2}(ho:OpR X (binaryOp op) r)(ha:QE X a ta)(hb:QE X b tb):QE X (.BinOp a op b pos) (tOp r ta tb):=.mk (yp ho ha.to hb.to)
theorem jO {op:UnaryOp}{r:V->Hp->VK->Prop}(ho:UnR X (unaryOp op) r)(ha:QE X a ta):QE X (.UnaryOp op a pos) (tUn r ta):=.mk (ym ho ha.to)
theorem cr {op:CmpOp}{r:R2}(ho:OpR X (compareOp op) r)(ha:QE X a ta)(hb:QE X b tb)(hm:behindInMarks op b=false):QE X (.Compare a [op] [b] pos) (tOp r ta tb):=.mk (tH ho ha.to hb.to hm)
theorem au {r:R2}(hr:IxR X r)(ha:QE X a ta)(hb:QE X b tb)(hs:nB b):QE X (.Subscript a b pos) (tOp r ta tb):=.mk (xX hr ha.to hb.to hs)
theorem bn {r:V->Option Int->Option Int->Hp->VK->Prop}{lo hi:Option Expr}{tl th:TO}{p2:Pos}(hr:SlR X r)(he:QE X e te)(hl:QO X lo tl)(hu:QO X hi th):QE X (.Subscript e (.Slice lo hi none p2) pos) (tSl r te tl th):=.mk (rZ hr he.to hl.to hu.to)
theorem bG:QO X none nX:=.mk tP
theorem bx (h:QE X e te):QO X (some e) (vH te):=.mk (va h.to)
theorem aM {t:TA}(h:QA X es t):QE X (.List es pos) (yr t):=.mk (wY h.to)
theorem aI {t:TA}{x1}(h:QA X es t):QE X (.Tuple es x1 pos) (yD t):=.mk (wE h.to)
theorem ah:QA X [] lL:=.mk rf
theorem ad {t:TA}(ha:QE X e te)(hr:QA X es t)(hs:starEach (e::es) X.env=(false,eval e X.env)::starEach es X.env:=by rfl):QA X (e::es) (vD te t):=.mk (oa ha.to hr.to hs)
theorem ck {vs:List V}(h:eK es=some vs):QA X es (fun _ H Q=>Q vs H):=.mk (iU h)
theorem jN {id:String}{x:Str}{r:List V->Hp->VK->Prop}{p:Pos}{t:TA}(hc:bQ X (.builtin id) r)(hg:Gl X x)(hm:X.mg x=none)(hv:bootBuiltins x=some (.builtin id))(ha:QA X (e::es) t)(hn:x≠"__name__":=by decide)(hdb:(x == ("__debug__":Str))=false:=by decide)
  (he:starEach (e::es) X.env=(false,eval e X.env)::starEach es X.env:=by rfl) (hpl:(backTo pos (starEach es X.env)).any (·.1)=false:=by rfl):QE X (.Call (.Name x p) (e::es) [] pos) (tCB r t):=.mk (si hc hg hm hv ha.to hn hdb he hpl)
theorem pL {T:String}{x:Str}{r:List V->Hp->VK->Prop}{p:Pos}{t:TA}(hc:bQ X (.type T) r)(hg:Gl X x)(hm:X.mg x=none)(hv:bootBuiltins x=some (.type T))(ha:QA X (e::es) t)(hn:x≠"__name__":=by decide)(hdb:(x == ("__debug__":Str))=false:=by decide)
  (he:starEach (e::es) X.env=(false,eval e X.env)::starEach es X.env:=by rfl) (hpl:(backTo pos (starEach es X.env)).any (·.1)=false:=by rfl):QE X (.Call (.Name x p) (e::es) [] pos) (tCB r t):=.mk (pz hc hg hm hv ha.to hn hdb he hpl)
theorem u9 {CX:CXT}{k:Nat}{f:Addr}{fd:FuncData}{ps:List Str}{sp:Sp}{dvs:List V}{ds:List Value}{E:XK}{x:Str}{p:Pos}{t:TA}(F:aA X.prog X.w X.K X.mg X.base CX k f fd ps sp)(hr:Room k X.A)(hg:Gl X x)(hm:X.mg x=some (.ref f))(hk:W.keepIn X.K (.ref f)=true)(hb:Binds X.K fd ps ds)(hd:Vals dvs ds)(hx:bM CX X E)
  (ha:QA X (e::es) t) (hdb:(x == ("__debug__":Str))=false:=by decide) (he:starEach (e::es) X.env=(false,eval e X.env)::starEach es X.env:=by rfl) (hpl:(backTo pos (starEach es X.env)).any (·.1)=false:=by rfl) :
  QE X (.Call (.Name x p) (e::es) [] pos) (jP sp dvs E t):=.mk (tU F hr hg hm hk hb hd hx ha.to hdb he hpl)
theorem bJ {o:Expr}{to:TE}{t:TA}{name:Str}{apos cpos:Pos}{T id:String}{r:V->List V->Hp->VK->Prop}(pa:PlainAttrs T)(slot:Slot T name id)(hty:typeOf (.builtin id)=pure (.type "method_descriptor"))(hm:MtR X id r)(ho:QE X o to)(ha:QA X (e::es) t)
  (hbase:attributeBase o name X.env (eval o X.env)=eval o X.env:=by rfl)
  (hfew:((backTo cpos (starEach (e::es) X.env)).all (fun x=>!x.1)&&(backToKw cpos (keywordEach [] X.env)).all (fun x=>x.1.isSome)
   && decide ((e::es).length+([]:List Keyword).length+(if ([]:List Keyword).isEmpty then 0 else 1)<30))=true:=by rfl)
  (hline:(apos.endLine == cpos.line)=true:=by rfl) (hs:starEach (e::es) X.env=(false,eval e X.env)::starEach es X.env:=by rfl) (hplain:(backTo cpos (starEach es X.env)).any (·.1)=false:=by rfl) :
  QE X (.Call (.Attribute o name apos) (e::es) [] cpos) (tBM X.K T r to t):=.mk (vA pa slot hty hm ho.to ha.to hbase hfew hline hs hplain)
theorem cu {elt iter:Expr}{x:Str}{px:Pos}{ifs:List Expr}{scope:Scope}{cl:List (Str×Addr)}{NB:List Str}{cap:List Nat}{wi:TI}
  (B:Blk X scope cl x NB cap) (hc:X.calm=true) (hex:X.ex=[]) (hi:QI X (.Name x px) iter wi)
  (ht:∀C fp s₀ H₀,QTs (X.blk scope cl C (x::NB) fp s₀ H₀) ifs tt) (he:∀C fp s₀ H₀,QE (X.blk scope cl C (x::NB) fp s₀ H₀) elt te)
  (hs:∀v,foldedSetIterable iter X.env v=pure v:=by intro _;rfl):QE X (.ListComp elt [⟨.Name x px,iter,ifs,0⟩] scope pos) (jx wi tt te cap) :=
 .mk (uI B hc hex hi.to (fun C fp s₀ H₀=>(ht C fp s₀ H₀).to) (fun C fp s₀ H₀=>(he C fp s₀ H₀).to) hs)
theorem ar {op:CmpOp}{r:R2}(ho:OpR X (compareOp op) r)(ha:QE X a ta)(hb:QE X b tb)(hm:behindInMarks op b=false):QT X (.Compare a [op] [b] pos) (vm (tOp r ta tb)):=.mk (uG ho ha.to hb.to hm)
theorem dR {tA:TT}(ha:QT X a tA):QT X (.UnaryOp .Not a pos) (yq tA):=.mk (xi ha.to)
theorem hU {t:TE}(h:QE X e t)(he:∀whole,isTrue e X.env whole=(do let v <-whole;standAt e.pos;holding [v] (truthy v)):=by intro _;rfl):QT X e (tB t):=.mk (w6 h.to he)
theorem QW.pt {t:TT}(h:QW X e t):QT X e t:=.mk h.to.pt
theorem dI {tA:TT}(ha:QT X a tA):QW X (.BoolOp .And [a] pos) tA:=.mk (pw_and1 ha.to)
theorem kO {tA:TT}(ha:QT X a tA):QW X (.BoolOp .Or [a] pos) tA:=.mk (pw_or1 ha.to)
theorem fz {tA tB':TT}{cc:List Expr}(ha:QT X a tA)(hb:QW X (.BoolOp .And (b::cc) pos) tB'):QW X (.BoolOp .And (a::b::cc) pos) (yG tA tB'):=.mk (pw_and ha.to hb.to)
theorem nJ {tA tB':TT}{cc:List Expr}(ha:QT X a tA)(hb:QW X (.BoolOp .Or (b::cc) pos) tB'):QW X (.BoolOp .Or (a::b::cc) pos) (tOr tA tB'):=.mk (pw_or ha.to hb.to)
theorem cg:QTs X [] gS:=.mk uy
theorem jq {t:TT}(h:QT X c t):QTs X [c] t:=.mk (tQ h.to)
theorem bX {tg:Expr}{ta:TA}{p:Pos}(hg:Gl X "range")(hm:X.mg "range"=none)(ha:QA X [a] ta)(hs:starEach [a] X.env=[(false,eval a X.env)]:=by rfl):QI X tg (.Call (.Name "range" p) [a] [] pos) (vN ta):=.mk (pI hg hm ha.to hs)
theorem bS {tg:Expr}(h:QE X e te):QI X tg e (vL X.K te):=.mk (uC h.to)
theorem sR {tg:Expr}(h:QE X e te):QI X tg e (yj X.K te):=.mk (xJ h.to)
theorem aQ {i:Nat}{x:Str}(hN:X.N.Nodup)(hi:X.N[i]?=some x)(hx:Loc X.env.scope x)(hf:X.fn x=true∨X.env.scope.names.lookup x=some .local:=by first | exact .inl rfl | exact .inr rfl | assumption):QG X (.Name x pos) (dN i):=.mk (nz hN hi hx hf)
theorem bh {o i:Expr}{to ti:TE}{t:tL}(ho:QE X o to)(hi:QE X i ti)(hs:xI X t)
  (ha:∀v,assign (.Subscript o i pos) X.env v=(do
   let ov <-holding [v] (eval o X.env)
   let iv <-holding [v,ov] (eval i X.env)
   standAt pos
   holding [v,ov,iv] (setItem ov iv v)
   release [v,ov,iv] []):=by intro _;rfl):QG X (.Subscript o i pos) (yk to ti t):=.mk (xm ho.to hi.to hs ha)
theorem b8:QGs X [] xL:=.mk uD
theorem aN {t:TG}{u:TGs}(h1:QG X e t)(h2:QGs X es u)(hs:(assignEach (e::es) X.env).map (·.2)=assign e X.env::(assignEach es X.env).map (·.2):=by rfl):QGs X (e::es) (vi t u):=.mk (qY h1.to h2.to hs)
theorem dW {k:Nat}{t:TGs}{n:Nat}(hc:X.calm=true)(h:QGs X es t)(hn:(assignEach es X.env).length=n:=by rfl)(hst:(assignEach es X.env).findIdx? (·.1)=none:=by rfl):QG X (.Tuple es k pos) (yi X.K n t):=.mk (v3 hc h.to hn hst)
section
variable {st:Stmt}{cc body:List Stmt}{s u:TS}
theorem ay:QSs X [] vQ:=.mk uO
theorem ae (h1:QS X st s)(h2:QSs X cc u):QSs X (st::cc) (yR s u):=.mk (qu h1.to h2.to)
theorem aj (h1:QS X st s):QSs X [st] s:=.mk (tO h1.to)
theorem aK (he:QE X e te)(hs:swapsWith e none pos.line X.env=pure false:=by rfl):QS X (.Expr e pos) (vz te):=.mk (vg he.to hs)
theorem aB (he:QE X e te):QS X (.Return (some e) pos) (yQ te):=.mk (wB he.to)
theorem aR {a' b':List Stmt}(hc:QT X c tt)(ha:QSs X a' s)(hb:QSs X b' u):QS X (.If c a' b' pos) (yd tt s u):=.mk (vk hc.to ha.to hb.to)
theorem ic {i:Nat}{x:Str}{pos':Pos}(hN:X.N.Nodup)(hi:X.N[i]?=some x)(hx:Loc X.env.scope x)(he:QE X e te)(hs:swapsWith e (some (.Name x pos')) pos.line X.env=pure false:=by rfl)(hf:X.fn x=true∨X.env.scope.names.lookup x=some .local:=by first | exact .inl rfl | exact .inr rfl | assumption) :
  QS X (.Assign [.Name x pos'] e pos) (lv te (dN i)):=.mk (v6 hN hi hx he.to hs hf)
theorem cT {elt iter:Expr}{x y:Str}{px py spos:Pos}{ifs:List Expr}{scope:Scope}{cl:List (Str×Addr)}{NB:List Str}{cap:List Nat}{wi:TI}{i:Nat}
  (hN:X.N.Nodup) (hi':X.N[i]?=some y) (hx:Loc X.env.scope y)
  (B:Blk X scope cl x NB cap) (hc:X.calm=true) (hex:X.ex=[]) (hi:QI X (.Name x px) iter wi)
  (ht:∀C fp s₀ H₀,QTs (X.blk scope cl C (x::NB) fp s₀ H₀) ifs tt) (he:∀C fp s₀ H₀,QE (X.blk scope cl C (x::NB) fp s₀ H₀) elt te)
  (hsw:swapsWith (.ListComp elt [⟨.Name x px,iter,ifs,0⟩] scope pos) (some (.Name y py)) spos.line X.env=pure true:=by rfl)
  (hs:∀v,foldedSetIterable iter X.env v=pure v:=by intro _;rfl) (hf:X.fn y=true∨X.env.scope.names.lookup y=some .local:=by first | exact .inl rfl | exact .inr rfl | assumption) :
  QS X (.Assign [.Name y py] (.ListComp elt [⟨.Name x px,iter,ifs,0⟩] scope pos) spos) (lv (jx wi tt te cap) (dN i)) :=
 .mk (kR hN hi' hx B hc hex hi.to (fun C fp s₀ H₀=>(ht C fp s₀ H₀).to) (fun C fp s₀ H₀=>(he C fp s₀ H₀).to) hsw hs hf)
theorem be {tg:Expr}{g:TG}(he:QE X e te)(hg:QG X tg g)(hs:swapsWithSole [tg] e pos.line X.env=pure false:=by rfl)(hw:swappedStores [tg] e X.env=pure none:=by rfl)
  (h1:(assignEach [tg] X.env).map (·.2)=[assign tg X.env]:=by rfl):QS X (.Assign [tg] e pos) (lv te g):=.mk (wJ he.to hg.to hs hw h1)
theorem ce {tg iter:Expr}{wi:TI}{g:TG}(hp:PassesOwn (model X.prog X.w) X.A X.env X.xe)(hc:X.calm=true)(hi:QI X tg iter wi)(hg:QG X tg g)(hb:QSs X body s)
  (hs:∀x,foldedSetIterable iter X.env x=pure x:=by intro _;rfl):QS X (.For tg iter body [] pos) (x6 wi g s):=.mk (wq hp hc hi.to hg.to hb.to hs)
theorem cq (hp:PassesOwn (model X.prog X.w) X.A X.env X.xe)(hc:QT X c tt)(hb:QSs X body s):QS X (.While c body [] pos) (sH tt s):=.mk (rN hp hc.to hb.to)
end
end
end L2
namespace L2
open PySem PySem.Spec PyProof.Rows
open PySem.SeqAt (EqAt RcAt RcNeAt)
def okV:V->Bool
 | .byt _=>false
 | .flt _=>false
 | _=>true
inductive Al (K:W.Frag)(H:Hp):Nat->V->V->Prop
 | same {n:Nat} {x:V}:okV x=true->Al K H n x x
 | tup {n:Nat} {a b:Addr} {xs ys:List V}:SqT K H a xs->SqT K H b ys->xs.length=ys.length->(∀(i:Nat) (x y:V),xs[i]?=some x->ys[i]?=some y->Al K H n x y)->Al K H (n+1) (.ref a) (.ref b)
 | lst {n:Nat} {a b:Addr} {xs ys:List V}:SqL K H a xs->SqL K H b ys->xs.length=ys.length->(∀(i:Nat) (x y:V),xs[i]?=some x->ys[i]?=some y->Al K H n x y)->Al K H (n+1) (.ref a) (.ref b)
theorem Vals.at {xs:List V}{us:List Value}(r:Vals xs us){j:Nat}(h:j<us.length):∃ x,xs[j]?=some x/\RelV x us[j]:=by
 have h1:j<xs.length:=by rw [r.length];exact h
 have e:xs[j]?=some xs[j]:=List.getElem?_eq_getElem h1
 obtain ⟨u,hu,ru⟩:=r.get e
 rw [List.getElem?_eq_getElem h] at hu
 cases hu
 exact ⟨_,e,ru⟩
section
variable {X:Cx}
theorem Al.eqAt {pins:List (Addr×Obj)}{σ:St}{H:Hp}{s:Shared}(I:Inv X pins σ H s){n:Nat}{x y:V}(h:Al X.K H n x y):∀{v u:Value} (A:Around),RelV x v->RelV y u->A.units+n<cLine->EqAt A s v u true:=by
 induction h with
 | @same n x hk =>
  intro v u A rx ry hu
  cases x with
  | non=>cases rx;cases ry;exact EqAt.same _
  | bl b=>cases rx;cases ry;exact EqAt.same _
  | int i =>
   obtain ⟨t,rfl⟩:=rx
   obtain ⟨t',rfl⟩:=ry
   have:=EqAt.int_int (A:=A) (s:=s) i t i t'
   rwa [beq_self_eq_true] at this
  | str i =>
   obtain ⟨t,rfl⟩:=rx
   obtain ⟨t',rfl⟩:=ry
   have:=EqAt.str_str (A:=A) (s:=s) i t i t'
   rwa [beq_self_eq_true] at this
  | byt b=>cases hk
  | flt b=>cases hk
  | ref a=>cases rx;cases ry;exact EqAt.same _
  | ty a=>cases rx;cases ry;exact EqAt.same _
 | @tup n a b xs ys ha hb hl hs ih =>
  intro v u A rx ry hu
  cases rx
  cases ry
  by_cases hab:a=b
  .subst hab;exact EqAt.same _
  obtain ⟨its,r,ht,_⟩:=I.tuple ha
  obtain ⟨its2,r2,ht2,_⟩:=I.tuple hb
  have e1:=r.length
  have e2:=r2.length
  have q:=RcAt.tuples (e:=fun _=>true) ht ht2 (A:=A) (Nat.lt_of_le_of_lt (Nat.le_add_right _ _) hu) (fun j h1 h2=>by
   obtain ⟨x,ex,rx⟩:=r.at (j:=j) (by simpa using h1)
   obtain ⟨y,ey,ry⟩:=r2.at (j:=j) (by simpa using h2)
   have:=ih j x y ex ey A.in1 rx ry (by show A.units+1+n<cLine;lia)
   simpa using this)
  have z:((List.range (min its.toArray.size its2.toArray.size)).all (fun _=>true)&&its.toArray.size == its2.toArray.size)=true:=by
   simp;lia
  rw [z] at q
  exact EqAt.of_refs hab q
 | @lst n a b xs ys ha hb hl hs ih =>
  intro v u A rx ry hu
  cases rx
  cases ry
  by_cases hab:a=b
  .subst hab;exact EqAt.same _
  obtain ⟨its,r,ht,_⟩:=I.list ha
  obtain ⟨its2,r2,ht2,_⟩:=I.list hb
  have e1:=r.length
  have e2:=r2.length
  have q:=RcAt.lists (e:=fun _=>true) ht.isList ht2.isList (A:=A) (by simp;lia) (Nat.lt_of_le_of_lt (Nat.le_add_right _ _) hu) (fun j h1 h2=>by
   obtain ⟨x,ex,rx⟩:=r.at (j:=j) (by simpa using h1)
   obtain ⟨y,ey,ry⟩:=r2.at (j:=j) (by simpa using h2)
   have:=ih j x y ex ey A.in1 rx ry (by show A.units+1+n<cLine;lia)
   simpa using this)
  have z:((List.range its.toArray.size).all (fun _=>true))=true:=by simp
  rw [z] at q
  exact EqAt.of_refs hab q
def AlL (K:W.Frag)(H:Hp)(n:Nat)(xs ys:List V):Prop:=xs.length=ys.length/\∀(i:Nat) (x y:V),xs[i]?=some x->ys[i]?=some y->Al K H n x y
def yW (K:W.Frag)(b:Bool):R2:=fun x y H Q=>∃ p q xs ys,x=.ref p/\y=.ref q/\SqT K H p xs/\SqT K H q ys/\AlL K H 8 xs ys/\Q (.bl b) H
def zg (K:W.Frag)(b:Bool):R2:=fun x y H Q=>∃ p q xs ys,x=.ref p/\y=.ref q/\SqL K H p xs/\SqL K H q ys/\AlL K H 8 xs ys/\Q (.bl b) H
theorem wD (hu:X.A.units+100<cLine):OpR X (compareOp .NotEq) (yW X.K false):=by
 intro pins s σ H x y v u Q I rx ry h
 obtain ⟨a,b,xs,ys,rfl,rfl,ha,hb,⟨hl,al⟩,q⟩:=h
 cases rx
 cases ry
 obtain ⟨its,r,ht,_⟩:=I.tuple ha
 obtain ⟨its2,r2,ht2,_⟩:=I.tuple hb
 have e1:=r.length
 have e2:=r2.length
 refine SeqAt.RcNeAt.tuples (e:=fun _=>true) ht ht2 zk (fun j h1 h2=>?_) _ _ _ _ ⟨.bl false,H,I,?_,q⟩
 .obtain ⟨x,ex,rx⟩:=r.at (j:=j) (by simpa using h1)
  obtain ⟨y,ey,ry⟩:=r2.at (j:=j) (by simpa using h2)
  have:=(al j x y ex ey).eqAt I X.A.in1 rx ry (by show X.A.units+1+8<cLine;lia)
  simpa using this
 show Value.bool _=Value.bool false
 simp;lia
theorem u6 (hu:X.A.units+100<cLine):OpR X (compareOp .NotEq) (zg X.K false):=by
 intro pins s σ H x y v u Q I rx ry h
 obtain ⟨a,b,xs,ys,rfl,rfl,ha,hb,⟨hl,al⟩,q⟩:=h
 cases rx
 cases ry
 obtain ⟨its,r,ht,_⟩:=I.list ha
 obtain ⟨its2,r2,ht2,_⟩:=I.list hb
 have e1:=r.length
 have e2:=r2.length
 refine SeqAt.RcNeAt.lists (e:=fun _=>true) ht.isList ht2.isList (by simp;lia) zk (fun j h1 h2=>?_) _ _ _ _ ⟨.bl false,H,I,?_,q⟩
 .obtain ⟨x,ex,rx⟩:=r.at (j:=j) (by simpa using h1)
  obtain ⟨y,ey,ry⟩:=r2.at (j:=j) (by simpa using h2)
  have:=(al j x y ex ey).eqAt I X.A.in1 rx ry (by show X.A.units+1+8<cLine;lia)
  simpa using this
 show Value.bool _=Value.bool false
 simp
end
theorem Room.u100 {k:Nat}{A:Around}(r:Room k A):A.units+100<cLine:=by have:=r.un;lia
theorem AlL.same {K:W.Frag}{H:Hp}{n:Nat}{xs:List V}(h:∀x∈xs,okV x=true):AlL K H n xs xs:=⟨rfl,fun i x y e1 e2=>by
 rw [e1] at e2
 cases e2
 exact .same (h x (List.mem_of_getElem? e1))⟩
end L2
namespace Hm
open PySem L2
abbrev g (xs:List V)(i:Nat):V:=xs.getD i .non
def sw (xs:List V)(i j:Nat):List V:=(xs.set i (g xs j)).set j (g xs i)
structure Od (lt:V->V->Bool):Prop where
 as:∀a b,lt a b=true->lt b a=false
 nt:∀a b c,lt a b=false->lt b c=false->lt a c=false
theorem aW {xs:List V}{i j:Nat}:(sw xs i j).length=xs.length:=by simp [sw]
theorem g_get {xs:List V}{i:Nat}(h:i<xs.length):g xs i=xs[i]:=by simp [g,List.getD_eq_getElem?_getD,h]
theorem dE {xs:List V}{i j:Nat}(hi:i<xs.length)(hj:j<xs.length):(sw xs i j).Perm xs:=by
 unfold sw
 rw [g_get hi,g_get hj]
 exact List.set_set_perm hi hj
def les (lt:V->V->Bool)(xs:List V)(p:Nat):Nat:=if 2*p+2<xs.length/\lt (g xs (2*p+2)) (g xs (2*p+1))=true then 2*p+2 else 2*p+1
def kids (n p:Nat):Nat:=if 2*p+2<n then 2 else if 2*p+1<n then 1 else 0
def dn (lt:V->V->Bool):Nat->List V->Nat->Nat->List V×Nat
 | 0,xs,_,lk=>(xs,lk)
 | f+1,xs,p,lk=>if 2*p+1<xs.length then
   if lt (g xs (les lt xs p)) (g xs p)=true then dn lt f (sw xs p (les lt xs p)) (les lt xs p) (lk+kids xs.length p) else (xs,lk+kids xs.length p)
  else (xs,lk)
def up (lt:V->V->Bool):Nat->List V->Nat->Nat->List V×Nat
 | 0,xs,_,lk=>(xs,lk)
 | f+1,xs,p,lk=>if 0<p then
   if lt (g xs p) (g xs ((p-1) / 2))=true then up lt f (sw xs p ((p-1) / 2)) ((p-1) / 2) (lk+1) else (xs,lk+1)
  else (xs,lk)
theorem dU {lt:V->V->Bool}{xs:List V}{p:Nat}:2*p+1<=les lt xs p:=by unfold les;split <;> lia
theorem cM {lt:V->V->Bool}{xs:List V}{p:Nat}(h:2*p+1<xs.length):les lt xs p<xs.length:=by unfold les;split <;> lia
theorem dn_len {lt:V->V->Bool}:∀{f:Nat} {xs:List V} {p lk:Nat},(dn lt f xs p lk).1.length=xs.length
 | 0,xs,p,lk=>rfl
 | f+1,xs,p,lk=>by
  unfold dn
  split
  .split
   .rw [dn_len,aW]
   .rfl
  .rfl
theorem dn_perm {lt:V->V->Bool}:∀{f:Nat} {xs:List V} {p lk:Nat},(dn lt f xs p lk).1.Perm xs
 | 0,xs,p,lk=>.refl _
 | f+1,xs,p,lk=>by
  unfold dn
  split
  .rename_i h
   split
   .exact dn_perm.trans (dE zk (cM h))
   .exact .refl _
  .exact .refl _
theorem dH {lt:V->V->Bool}:∀{f:Nat} {xs:List V} {p lk:Nat},p<xs.length->(up lt f xs p lk).1.Perm xs
 | 0,xs,p,lk,_=>.refl _
 | f+1,xs,p,lk,hp=>by
  unfold up
  split
  .split
   .exact (dH (by rw [aW];lia)).trans (dE zk zk)
   .exact .refl _
  .exact .refl _
def HF (lt:V->V->Bool)(q:Nat)(xs:List V):Prop:=∀k,0<k->k<xs.length->q<=(k-1) / 2->lt (g xs k) (g xs ((k-1) / 2))=false
def IsH (lt:V->V->Bool)(xs:List V):Prop:=∀k,0<k->k<xs.length->lt (g xs k) (g xs ((k-1) / 2))=false
def mk (lt:V->V->Bool):Nat->List V->Nat->List V×Nat
 | 0,xs,lk=>(xs,lk)
 | k+1,xs,lk=>mk lt k (dn lt xs.length xs k 0).1 (lk+(dn lt xs.length xs k 0).2)
theorem mk_perm {lt:V->V->Bool}:∀{k:Nat} {xs:List V} {lk:Nat},(mk lt k xs lk).1.Perm xs
 | 0,_,_=>.refl _
 | k+1,xs,lk=>by unfold mk;exact mk_perm.trans dn_perm
end Hm
namespace L2
open PySem
def vf:Option HO->List V
 | some (.tup [.int i,.str n,.int j])=>[.int i,.str n,.int j]
 | _=>[.int 0,.str "",.int 0]
theorem uK (o:Option HO):gc (vf o):=by
 unfold vf
 split
 .exact ⟨_,_,_,rfl⟩
 exact ⟨_,_,_,rfl⟩
def bI (H:Hp):V->List V
 | .ref a=>vf (H a)
 | _=>[.int 0,.str "",.int 0]
theorem dG (H:Hp)(x:V):gc (bI H x):=by
 unfold bI
 split
 .exact uK _
 exact ⟨_,_,_,rfl⟩
theorem ux {H:Hp}{a:Addr}{l:List V}(h:H a=some (.tup l))(e:gc l):bI H (.ref a)=l:=by
 obtain ⟨i,n,j,rfl⟩:=e
 show vf (H a)=_
 rw [h]
 rfl
def ltT (t:V->List V)(a b:V):Bool:=cP (t a) (t b)
structure EnR (t:V->List V)(H:Hp)(xs:List V):Prop where
 tot:∀x,gc (t x)
 mem:∀x∈xs,∃ a,x=.ref a/\H a=some (.tup (t x))
section
variable {t:V->List V}{H H':Hp}{xs ys:List V}
theorem EnR.sub (e:EnR t H xs)(s:∀y∈ys,y∈xs):EnR t H ys:=⟨e.tot,fun x hx=>e.mem x (s x hx)⟩
theorem EnR.move (e:EnR t H xs)(s:∀b l,H b=some (.tup l)->H' b=some (.tup l)):EnR t H' xs:=⟨e.tot,fun x hx=>by
 obtain ⟨a,rfl,h⟩:=e.mem x hx
 exact ⟨a,rfl,s _ _ h⟩⟩
theorem EnR.put (e:EnR t H xs){p:Addr}{o:HO}{zs:List V}(h:H p=some (.lst zs)):EnR t (upd H p o) xs:=e.move fun b l q=>by rw [ak (bA q h (by intro z;cases z))];exact q
theorem EnR.bar (e:EnR t H xs){r:Addr}{zs:List V}(h:H r=some (.lst zs))(s:∀b o,H b=some o->b≠r->H' b=some o):EnR t H' xs:=e.move fun b l q =>
 s b _ q (bA q h (by intro z;cases z))
theorem EnR.fit (e:EnR t H xs)(x y:V):l9 (t x) (t y):=w9 (e.tot _) (e.tot _)
theorem EnR.gat (e:EnR t H xs){i:Nat}(h:i<xs.length):∃ a,Hm.g xs i=.ref a/\H a=some (.tup (t (Hm.g xs i)))/\Hm.g xs i∈xs/\atI xs (i:Int)=some (Hm.g xs i):=by
 have hm:Hm.g xs i∈xs:=by rw [Hm.g_get h];exact List.getElem_mem h
 obtain ⟨a,e1,h1⟩:=e.mem _ hm
 refine ⟨a,e1,h1,hm,aU ?_⟩
 rw [Hm.g_get h]
 exact List.getElem?_eq_getElem h
end
theorem wu {xs:List V}{i:Nat}(h:i<xs.length):atI xs (i:Int)=some (Hm.g xs i):=aU (by rw [Hm.g_get h];exact List.getElem?_eq_getElem h)
end L2
namespace Hm
open PySem L2
variable {lt:V->V->Bool}{xs:List V}{f p lk:Nat}
theorem mW (h:¬ 2*p+1<xs.length):dn lt f xs p lk=(xs,lk):=by
 cases f with
 | zero=>rfl
 | succ f=>unfold dn;rw [if_neg h]
theorem eG (h:2*p+1<xs.length)(q:lt (g xs (les lt xs p)) (g xs p)=false):dn lt (f+1) xs p lk=(xs,lk+kids xs.length p):=by
 unfold dn;rw [if_pos h,if_neg (by rw [q];exact Bool.false_ne_true)]
theorem jA (h:2*p+1<xs.length)(q:lt (g xs (les lt xs p)) (g xs p)=true):dn lt (f+1) xs p lk=dn lt f (sw xs p (les lt xs p)) (les lt xs p) (lk+kids xs.length p):=by
 conv=>lhs;unfold dn
 rw [if_pos h,if_pos q]
theorem mT (h:¬ 0<p):up lt f xs p lk=(xs,lk):=by
 cases f with
 | zero=>rfl
 | succ f=>unfold up;rw [if_neg h]
theorem nN (h:0<p)(q:lt (g xs p) (g xs ((p-1) / 2))=false):up lt (f+1) xs p lk=(xs,lk+1):=by
 unfold up;rw [if_pos h,if_neg (by rw [q];exact Bool.false_ne_true)]
theorem vI (h:0<p)(q:lt (g xs p) (g xs ((p-1) / 2))=true):up lt (f+1) xs p lk=up lt f (sw xs p ((p-1) / 2)) ((p-1) / 2) (lk+1):=by
 conv=>lhs;unfold up
 rw [if_pos h,if_pos q]
theorem n6 (h:2*p+2<xs.length):(les lt xs p:Int)=2*(p:Int)+1+(if lt (g xs (2*p+2)) (g xs (2*p+1))=true then 1 else 0):=by
 unfold les
 by_cases q:lt (g xs (2*p+2)) (g xs (2*p+1))=true
 .rw [if_pos ⟨h,q⟩,if_pos q];lia
 rw [if_neg (fun z=>q z.2),if_neg q];lia
theorem nk (h:¬ 2*p+2<xs.length):les lt xs p=2*p+1:=by
 unfold les
 rw [if_neg (fun z=>h z.1)]
theorem dZ {i j:Nat}(hi:i<xs.length)(hj:j<xs.length):∀y∈sw xs i j,y∈xs:=fun y hy=>(dE hi hj).mem_iff.mp hy
end Hm
namespace L2
open PySem
theorem pj {K:PySem.W.Frag}{a:Addr}{xs:List V}{tt:TT}{te:TE}{cap:List Nat}{σ:St}{H:Hp}{D:Addr}{Q:VK}(Pv:Nat->List V->Hp->Prop)(h0:Pv 0 [] (upd H D (.lst [])))(hD:∀i ys H,Pv i ys H->H D=some (.lst ys)/\SqL K H a xs)
  (hs:∀i x ys H,xs[i]?=some x->Pv i ys H->tt (some x::bE cap σ) H fun b H3 =>
   if b=true then te (some x::bE cap σ) H3 fun v H4=>H4 D=some (.lst ys)/\ys.length<sizeLine/\∃ m',m'<xs.length-i/\m'=xs.length-(i+1)/\i+1<=xs.length/\Pv (i+1) (ys++[v]) (upd H4 D (.lst (ys++[v])))
   else ∃ m',m'<xs.length-i/\m'=xs.length-(i+1)/\i+1<=xs.length/\Pv (i+1) ys H3)
  (hd:∀ys H,Pv xs.length ys H->Q (.ref D) H) :
  ∃ W:Nat->Nat->List V->Hp->Prop,(∃ m,W 0 m [] (upd H D (.lst [])))/\∀i m ys H,W i m ys H->H D=some (.lst ys) /\
  (((Itl K a).stop i H/\Q (.ref D) H)∨((Itl K a).go i H/\∀x H',(Itl K a).yld i H x H'->tt (some x::bE cap σ) H' fun b H3 =>
   if b=true then te (some x::bE cap σ) H3 fun v H4=>H4 D=some (.lst ys)/\ys.length<sizeLine/\∃ m',m'<m/\W (i+1) m' (ys++[v]) (upd H4 D (.lst (ys++[v])))
   else ∃ m',m'<m/\W (i+1) m' ys H3)):=by
 refine ⟨fun i m ys H=>m=xs.length-i/\i<=xs.length/\Pv i ys H,⟨xs.length,zl,Nat.zero_le _,h0⟩,?_⟩
 rintro i m ys H ⟨rfl,hi,p⟩
 obtain ⟨q1,q⟩:=hD i ys H p
 refine ⟨q1,?_⟩
 by_cases hlt:i<xs.length
 .refine .inr ⟨⟨xs,xs[i],q,by simp [hlt]⟩,fun x H' y=>?_⟩
  obtain ⟨e,y⟩:=y
  subst e
  exact hs i x ys _ (y xs q) p
 have e:i=xs.length:=by lia
 subst e
 exact .inl ⟨⟨xs,q,Nat.le_refl _⟩,hd ys H p⟩
end L2
namespace Hm
open PySem L2
def wy:Nat->Nat->List Nat
 | 0,_=>[]
 | f+1,p=>if 0<p then (p-1) / 2::wy f ((p-1) / 2) else []
end Hm
namespace L2
open PySem PySem.Spec PyProof.Rows
def Itd (lo:Int)(n:Nat):It:=⟨fun i _=>i<n,fun i H x H'=>H'=H/\x=.int (lo-i),fun i _=>n<=i⟩
theorem qI (a b:Int):Builtin.Range.rangeSize a b (-1)=((a-b).toNat:Int):=by
 unfold Builtin.Range.rangeSize
 rw [if_neg zj]
 split
 .rw [show -(-1:Int)=1 by decide,Int.ediv_one];lia
 lia
theorem ql {a b:Int}(ha:-(2 ^ 62)<=a)(ha':a<2 ^ 62)(hb:-(2 ^ 62)<=b)(hb':b<2 ^ 62):Builtin.Range.small a b (-1)=true:=by
 unfold Builtin.Range.small
 rw [qI]
 simp only [Builtin.Range.rangeFitsLong,Bool.and_eq_true,Bool.or_eq_true,decide_eq_true_eq,beq_iff_eq,show ¬ ((-1:Int)>0) by decide,if_false]
 lia
theorem ka {P:Program}{w:World}{K:PySem.W.Frag}{tg:Expr}(it:Addr)(lo:Int)(n:Nat):oR P w K tg (Itd lo n) [it] it (fun i h=>IsRangeIter h it (lo+(i:Nat)*(-1)) ((n:Int)-(i:Nat)) (-1)) where
 mem:=by simp
 obj:=fun i h st b hb=>by
  have e:b=it:=by simpa using hb
  subst e
  exact ⟨_,st,fun v z=>by
   have z':Data.fields _=Data.cell v:=z
   cases z'⟩
 keep:=fun i h h' st k=>k it zl _ st
 item:=by
  intro X hP hw hK hc i pins s σ H E I hf st hg
  subst hP hw hK
  obtain ⟨f0,f1,f2,f3,f4,f5⟩:=hf it zl
  have W:=Walks.range (prog:=X.prog) (w:=X.w) (I.ok.hd hc) it lo (-1) n
  refine W.item i s _ _ hg st fun v h' tk hv st' kk=>?_
  obtain ⟨t,rfl⟩:=hv
  have I1:Inv X pins σ H { s with heap:=h',toks:=tk }:=I.turned (fun b o hb e=>kk b o (by simpa using hb) e) f0 f1 f3 f4 f5
  refine ⟨_,rfl,m7 (s:={ s with heap:=h',toks:=tk }) (n:="range_iterator") st' rfl rfl zj ⟨.int (lo-i),H,I1,⟨t,?_⟩,⟨rfl,rfl⟩,st',fun b hb=>(hf b hb).1⟩⟩
  rw [show lo+(i:Int)*(-1)=lo-i by lia]
 done:=by
  intro X hP hw hK hc i pins s σ H E I hf st hg
  subst hP hw hK
  obtain ⟨f0,f1,f2,f3,f4,f5⟩:=hf it zl
  exact wpAny_pyNext_range_end (I.ok.hd hc) st (by have:n<=i:=hg;lia) fun h' eb=>⟨rfl,I.turned (t':=s.toks) (fun b o hb e=>eb b o hb e) f0 f1 f3 f4 f5⟩
 self:=fun _ _ _ _ _ st h=>wpAny_pyIter_rangeiter st h
section
variable {X:Cx}{tg:Expr}
theorem oX {pins:List (Addr×Obj)}{σ:St}{H:Hp}{s:Shared}{R:It->Hp->Prop}{E:Value->Shared->Prop}{lo hi:Int}{t u v:Tok}{tk:Nat}(I:Inv X pins σ H s)(h1:-(2 ^ 62)<=lo)(h2:lo<2 ^ 62)(h3:-(2 ^ 62)<=hi)(h4:hi<2 ^ 62)
  (q:R (Itd lo (lo-hi).toNat) H):wpAny (model X.prog X.w) X.A (pyIter (.ref s.heap.objs.size)) (PIE X pins σ tg R) E { s with heap:=s.heap.push { cls:=.type "range",data:=.fields #[.int lo t,.int hi u,.int (-1) v] },toks:=tk }:=by
 refine wpAny_pyIter_range (IsRange.new ..) (ql h1 h2 h3 h4) ?_
 have I1:Inv X pins σ H { s with heap:=s.heap.push { cls:=.type "range",data:=.fields #[.int lo t,.int hi u,.int (-1) v] },toks:=tk }:=I.kept fun b o e=>Heap.get?_push_of_some _ e
 refine ⟨(s.heap.push { cls:=.type "range",data:=.fields #[.int lo t,.int hi u,.int (-1) v] }).objs.size,[(s.heap.push { cls:=.type "range",data:=.fields #[.int lo t,.int hi u,.int (-1) v] }).objs.size],_,_,H,rfl,
  I1.kept (t':=tk) fun b o e=>Heap.get?_push_of_some _ e,ka _ lo (lo-hi).toNat,?_,fun b hb=>?_,q⟩
 .have e1:lo+((0:Nat):Int)*(-1)=lo:=by simp
  have e2:(((lo-hi).toNat:Nat):Int)-((0:Nat):Int)=Builtin.Range.rangeSize lo hi (-1):=by rw [qI];lia
  show IsRangeIter _ _ (lo+((0:Nat):Int)*(-1)) ((((lo-hi).toNat:Nat):Int)-((0:Nat):Int)) (-1)
  rw [e1,e2]
  exact Heap.get?_push_size _ rfl
 have e:b=(s.heap.push { cls:=.type "range",data:=.fields #[.int lo t,.int hi u,.int (-1) v] }).objs.size:=by simpa using hb
 subst e
 exact I1.fpOk (Nat.le_refl _) (I1.hok.fresh (Nat.le_refl _))
def vE (ta:TA):TI:=fun σ H R=>ta σ H fun vs H1=>∃ i j:Int,vs=[.int i,.int j,.int (-1)]/\(-(2 ^ 62)<=i/\i<2 ^ 62/\-(2 ^ 62)<=j/\j<2 ^ 62)/\R (Itd i (i-j).toNat) H1
theorem pv {a b c:Expr}{ta:TA}{p pos:Pos}(hg:Gl X "range")(hm:X.mg "range"=none)(ha:PA X [a,b,c] ta)(hs:starEach [a,b,c] X.env=[(false,eval a X.env),(false,eval b X.env),(false,eval c X.env)]:=by rfl)(hs2:starEach [b,c] X.env=[(false,eval b X.env),(false,eval c X.env)]:=by rfl) :
  PI X tg (.Call (.Name "range" p) [a,b,c] [] pos) (vE ta):=by
 intro pins s σ H R I h
 refine Call_ (fQ I hg hm boot_range (PyProof.Rows.callWith_type1 (thn (ha pos pins s σ H _ I h) fun us s1 ⟨vs,H1,I1,r1,q1⟩=>?_) (by rw [hs,hs2]) (by rw [hs2];rfl)))
 obtain ⟨i,j,e,⟨q1,q2,q3,q4⟩,q⟩:=q1
 subst e
 cases r1 with
 | cons r rr =>
  cases rr with
  | cons r' rr =>
   cases rr with
   | cons r'' rr =>
    cases rr
    obtain ⟨t,rfl⟩:=r
    obtain ⟨t',rfl⟩:=r'
    obtain ⟨t'',rfl⟩:=r''
    exact call_range_3 zj (oX I1 q1 q2 q3 q4 q) (.inl (PyProof.noPylong_small zj))
theorem iK {a b c:Expr}{ta:TA}{p pos:Pos}(hg:Gl X "range")(hm:X.mg "range"=none)(ha:QA X [a,b,c] ta)(hs:starEach [a,b,c] X.env=[(false,eval a X.env),(false,eval b X.env),(false,eval c X.env)]:=by rfl)(hs2:starEach [b,c] X.env=[(false,eval b X.env),(false,eval c X.env)]:=by rfl) :
  QI X tg (.Call (.Name "range" p) [a,b,c] [] pos) (vE ta):=.mk (pv hg hm ha.to hs hs2)
theorem gJ {lo:Int}{n:Nat}{g:TG}{tb:TS}{D:eZ}{σ:St}{H:Hp}(Pv:Nat->St->Hp->Prop)(h0:Pv 0 σ H)
  (hs:∀i σ H,i<n->Pv i σ H->g (.int (lo-i)) σ H fun σ2 H2=>tb { D with nx:=Pv (i+1),ct:=Pv (i+1),bk:=D.nx } σ2 H2) (hd:∀σ H,Pv n σ H->D.nx σ H) :
  ∃ W:Nat->Nat->St->Hp->Prop,(∃ m,W 0 m σ H)/\∀i m σ H,W i m σ H ->
   ((Itd lo n).stop i H/\D.nx σ H)∨((Itd lo n).go i H/\∃ N:St->Hp->Prop,(∀σ' H',N σ' H'->∃ m',m'<m/\W (i+1) m' σ' H')/\∀x H',(Itd lo n).yld i H x H'->g x σ H' fun σ2 H2=>tb { D with nx:=N,ct:=N,bk:=D.nx } σ2 H2):=by
 refine ⟨fun i m σ H=>m=n-i/\i<=n/\Pv i σ H,⟨n,zl,Nat.zero_le _,h0⟩,?_⟩
 rintro i m σ H ⟨rfl,hi,p⟩
 by_cases hlt:i<n
 .refine .inr ⟨hlt,Pv (i+1),fun σ' H' p'=>⟨n-(i+1),zk,rfl,hlt,p'⟩,fun x H' y=>?_⟩
  obtain ⟨e,y⟩:=y
  subst e y
  exact hs i σ _ hlt p
 have e:i=n:=by lia
 subst e
 exact .inl ⟨Nat.le_refl _,hd σ H p⟩
end
end L2
namespace L2
open PySem
theorem bW {K:PySem.W.Frag}{a:Addr}{xs:List V}{tt:TT}{te:TE}{cap:List Nat}{σ:St}{H:Hp}{D:Addr}{R:Hp->Prop}(Pv:Nat->List V->Hp->Prop)(h0:Pv 0 [] (upd H D (.lst [])))(hD:∀i ys H,Pv i ys H->H D=some (.lst ys)/\SqL K H a xs)
  (hs:∀i x ys H,xs[i]?=some x->Pv i ys H->tt (some x::bE cap σ) H fun b H3 =>
   if b=true then te (some x::bE cap σ) H3 fun v H4=>H4 D=some (.lst ys)/\ys.length<sizeLine/\∃ m',m'<xs.length-i/\m'=xs.length-(i+1)/\i+1<=xs.length/\Pv (i+1) (ys++[v]) (upd H4 D (.lst (ys++[v])))
   else ∃ m',m'<xs.length-i/\m'=xs.length-(i+1)/\i+1<=xs.length/\Pv (i+1) ys H3)
  (hd:∀ys H,Pv xs.length ys H->R H) :
  ∃ W:Nat->Nat->List V->Hp->Prop,(∃ m,W 0 m [] (upd H D (.lst [])))/\∀i m ys H,W i m ys H->H D=some (.lst ys) /\
  (((Itl K a).stop i H/\R H)∨((Itl K a).go i H/\∀x H',(Itl K a).yld i H x H'->tt (some x::bE cap σ) H' fun b H3 =>
   if b=true then te (some x::bE cap σ) H3 fun v H4=>H4 D=some (.lst ys)/\ys.length<sizeLine/\∃ m',m'<m/\W (i+1) m' (ys++[v]) (upd H4 D (.lst (ys++[v])))
   else ∃ m',m'<m/\W (i+1) m' ys H3)) :=
 pj (Q:=fun _ H=>R H) Pv h0 hD hs hd
end L2
namespace Hm
open PySem L2
def lgs (n:Nat):Nat->Nat
 | 0=>0
 | k+1=>lgs n k+(n / (k+1)).log2
def cutf (lt:V->V->Bool)(xs:List V):List V×Nat :=
 if xs.dropLast=[] then ([],0) else dn lt xs.dropLast.length (xs.dropLast.set 0 (g xs (xs.length-1))) 0 0
theorem cO {xs:List V}(h:2<=xs.length):∃ mid,xs=g xs 0::mid++[g xs (xs.length-1)]/\xs.dropLast=g xs 0::mid:=by
 cases xs with
 | nil=>simp at h
 | cons a l =>
  have hl:l≠[]:=by intro e;rw [e] at h;simp at h
  refine ⟨l.dropLast,?_,?_⟩
  .show a::l=a::l.dropLast++[g (a::l) l.length]
   have:g (a::l) l.length=l.getLast hl:=by
    rw [g_get zl]
    rw [List.getLast_eq_getElem]
    rw [List.getElem_cons]
    have:l.length≠0:=by intro e;exact hl (List.length_eq_zero_iff.mp e)
    simp [this]
   rw [this,List.cons_append,List.dropLast_concat_getLast]
  .show (a::l).dropLast=a::l.dropLast
   exact List.dropLast_cons_of_ne_nil hl
theorem cK {lt:V->V->Bool}{xs:List V}(h:xs.length=1):cutf lt xs=([],0):=by
 unfold cutf
 rw [if_pos]
 rw [<-List.length_eq_zero_iff,List.length_dropLast,h]
theorem eO {lt:V->V->Bool}{xs mid:List V}(e:xs.dropLast=g xs 0::mid):cutf lt xs=dn lt (mid.length+1) (g xs (xs.length-1)::mid) 0 0:=by
 unfold cutf
 rw [if_neg (by rw [e];simp),e]
 rfl
theorem cL {lt:V->V->Bool}{xs:List V}(h:0<xs.length):(g xs 0::(cutf lt xs).1).Perm xs:=by
 by_cases h2:2<=xs.length
 .obtain ⟨mid,e,e2⟩:=cO h2
  rw [eO e2]
  refine (List.Perm.cons _ dn_perm).trans ?_
  conv=>rhs;rw [e]
  rw [List.cons_append]
  refine List.Perm.cons _ ?_
  exact (List.perm_append_comm (l₁:=[g xs (xs.length-1)]) (l₂:=mid))
 rw [cK zk]
 cases xs with
 | nil=>simp at h
 | cons a l =>
  have:l=[]:=List.length_eq_zero_iff.mp (by rw [List.length_cons] at h2;lia)
  subst this
  exact .refl _
end Hm
namespace L2
open PySem PySem.Spec PyProof.Rows
open PySem.SeqAt (EqAt RcAt RcNeAt)
theorem qL {X:Cx}{o:Expr}{to:TE}{name:Str}{apos cpos:Pos}{T id:String}{r:V->List V->Hp->VK->Prop}(pa:PlainAttrs T)(slot:Slot T name id)(hty:typeOf (.builtin id)=pure (.type "method_descriptor"))(hm:MtR X id r)(ho:QE X o to)
  (hbase:attributeBase o name X.env (eval o X.env)=eval o X.env:=by rfl) (hline:(apos.endLine == cpos.line)=true:=by rfl):QE X (.Call (.Attribute o name apos) [] [] cpos) (yS X.K T r to):=.mk (xg pa slot hty hm ho.to hbase hline)
end L2
namespace PySem
open Sem (wp)
namespace Heap
def TracedC (h base:Heap)(e:Addr)(cls a0:Value):Prop :=
 ∃ oe vs T oT ts,h.get? e=some oe/\(oe.cls=cls/\(vs[0]?=some a0/\vs[2]?=some .none))/\oe.data=.fields vs/\vs[1]?=some (.ref T)/\base.get? T=none/\T≠e/\h.get? T=some oT/\oT.data=.fields ts/\ts[3]?=some .none
def TracedAtC (h base:Heap)(e:Addr)(cls a0 fl:Value):Prop :=
 ∃ oe vs T oT ts,h.get? e=some oe/\(oe.cls=cls/\(vs[0]?=some a0/\vs[2]?=some .none))/\oe.data=.fields vs/\vs[1]?=some (.ref T)/\base.get? T=none/\T≠e/\h.get? T=some oT/\oT.data=.fields ts/\ts[3]?=some fl
theorem TracedC.at {h base:Heap}{e:Addr}{cls a0:Value}(x:h.TracedC base e cls a0):h.TracedAtC base e cls a0 .none:=x
def NotedC (base:Heap)(l:List Env)(e:Addr)(cls a0 fl:Value)(h h':Heap):Prop :=
 base.StaysIn h'/\h'.FunFrames base l/\h'.TracedAtC base e cls a0 fl/\∀b o,h.get? b=some o->(∀vs,o.data≠.fields vs)->∃ sl,h'.get? b=some { o with slots:=sl }
end Heap
section
variable {M:Model}{A:Around}{E:Value->Shared->Prop}{s:Shared}
def Heap.LeftC (base:Heap)(l:List Env)(e:Addr)(cls a0:Value)(h h':Heap):Prop :=
 base.StaysIn h'/\h'.FunFrames base l/\h'.TracedC base e cls a0 /\
  ∀b o,h.get? b=some o->(∀vs,o.data≠.fields vs)->∃ sl,h'.get? b=some { o with slots:=sl }
theorem cW {base:Heap}{env:Env}{outer:List Env}{L e:Addr}{oe:Obj}{vs:Array Value}{head a0:Value}{hadNext:Bool}{Q:Unit->Shared->Prop}
  (hfr:A.frames=some (env::outer)) (hl:s.heap.FunFrames base (env::outer)) (hf:env.frame=some L)
  (he:s.heap.get? e=some oe) (hkb:base.StaysIn s.heap) (hen:base.get? e=none) (hd:oe.data=.fields vs) (hsz:1<vs.size) (h0:vs[0]?=some a0/\vs[2]?=some .none)
  (h:∀h',Heap.LeftC base (env::outer) e oe.cls a0 s.heap h'->Q () { s with heap:=h' }) :
  wpAny M A (do let a <-frameOf env;let pl <-entryPlaceOf L hadNext;let b <-EntryCells.newEntry head a .none (rawInt L) .none pl;setField (.ref e) 1 b) (fun _ s'=>wpAny M A (setFlight (.ref e) none) Q E s') E s:=by
 have hene:e∉(env::outer).filterMap (·.frame):=fun hm=>by
  obtain ⟨_,o,ho,hnf⟩:=hl.mem hm
  rw [he] at ho;injection ho with ho;subst ho;exact hnf vs hd
 refine wpAny_bind (wpAny_frameOf_fun hfr hl hf fun h₁ hs₁=>?_)
 refine wpAny_bind (wpAny_entryPlaceOf fun pl hpl=>?_)
 unfold EntryCells.newEntry newFields
 refine wpAny_bind (wpAny_newObj_type ?_ (hpl.sizeOk5 _ _ _ _ _))
 have he₁:h₁.get? e=some oe:=(hs₁.2.1 e hene).trans he
 have kb₁:base.StaysIn h₁:=fun b o hbo=>(hs₁.2.1 b fun hm=>by rw [(hl.mem hm).1] at hbo;cases hbo).trans (hkb b o hbo)
 have he₂:=Heap.get?_push_of_some (h:=h₁) { cls:=.type "traceback",dict:=none,data:=.fields ([head,.ref L,.none,rawInt L,.none]++(if pl.isEmpty then List.replicate 6 Value.none else pl)).toArray } he₁
 refine wpAny_setField he₂ hd hsz ?_
 have hTe:h₁.objs.size≠e:=Nat.ne_of_gt (Heap.lt_size he₁)
 have hd₃:=Obj.data_mapFields hd (·.setIfInBounds 1 (Value.ref h₁.objs.size))
 have he₃:=Heap.get?_update_self (Obj.mapFields (·.setIfInBounds 1 (Value.ref h₁.objs.size))) he₂ (Obj.isFreed_of_fields hd₃)
 have hT₃:=(Heap.get?_update_other (h₁.push { cls:=.type "traceback",dict:=none,data:=.fields ([head,.ref L,.none,rawInt L,.none]++(if pl.isEmpty then List.replicate 6 Value.none else pl)).toArray })
  (Obj.mapFields (·.setIfInBounds 1 (Value.ref h₁.objs.size))) (Ne.symm hTe)).trans (Heap.get?_push_size h₁ rfl)
 unfold setFlight
 refine wpAny_bind (wpAny_field he₃ hd₃ (x:=.ref h₁.objs.size) (by simp [hsz]) ?_)
 rw [if_pos (show (Value.ref h₁.objs.size != Value.none)=true from by simp)]
 refine wpAny_setField hT₃ rfl (by simp only [List.size_toArray,List.length_append,List.length_cons,List.length_nil] <;> lia) (h _ ?_)
 have keep:∀b o,b≠e->h₁.get? b=some o ->
   (((h₁.push { cls:=.type "traceback",dict:=none,data:=.fields ([head,.ref L,.none,rawInt L,.none]++(if pl.isEmpty then List.replicate 6 Value.none else pl)).toArray }).update e (Obj.mapFields (·.setIfInBounds 1 (Value.ref h₁.objs.size)))).update h₁.objs.size
    (Obj.mapFields (·.setIfInBounds 3 ((none:Option Addr).elim Value.none fun f=>rawInt f)))).get? b=some o:=fun b o hbe hb=>by
  have hbT:h₁.objs.size≠b:=Nat.ne_of_gt (Heap.lt_size hb)
  rw [Heap.get?_update_other _ _ hbT,Heap.get?_update_other _ _ (Ne.symm hbe)]
  exact Heap.get?_push_of_some _ hb
 have noRecord:∀b o,s.heap.get? b=some o->(∀vs,o.data≠.fields vs)->b≠e:=fun b o hb hnf q=>by
  rw [q,he] at hb;injection hb with hb;subst hb;exact hnf vs hd
 refine ⟨fun b o hbo=>keep b o (fun q=>by rw [q,hen] at hbo;cases hbo) (kb₁ b o hbo),hl.of_keeps fun b o hb hnf=>?_,?_,fun b o hb hnf=>?_⟩
 .obtain ⟨sl,hs⟩:=hs₁.2.2 b o hb
  exact ⟨_,keep b _ (noRecord b o hb hnf) hs,rfl⟩
 .refine ⟨_,_,h₁.objs.size,_,_,?_,⟨Obj.cls_mapFields _ _,by rw [Array.getElem?_setIfInBounds_ne zj];exact h0.1,by rw [Array.getElem?_setIfInBounds_ne zj];exact h0.2⟩,hd₃,by simp [hsz],kb₁.fresh,hTe,Heap.get?_update_self _ hT₃ (Obj.isFreed_of_fields (Obj.data_mapFields rfl _)),Obj.data_mapFields rfl _,by first | (simp;done) | (rcases hpl with rfl | ⟨_,_,_,_,_,_,_,rfl⟩ <;> simp)⟩
  rw [Heap.get?_update_other _ _ hTe];exact he₃
 obtain ⟨sl,hs⟩:=hs₁.2.2 b o hb
 exact ⟨sl,keep b _ (noRecord b o hb hnf) hs⟩
theorem di {base:Heap}{env:Env}{outer:List Env}{L e:Addr}{oe:Obj}{vs:Array Value}{a0:Value}{Q:Unit->Shared->Prop}
  (hfr:A.frames=some (env::outer)) (hl:s.heap.FunFrames base (env::outer)) (hf:env.frame=some L)
  (he:s.heap.get? e=some oe) (hkb:base.StaysIn s.heap) (hen:base.get? e=none) (hd:oe.data=.fields vs) (h1:vs[1]?=some .none) (h0:vs[0]?=some a0/\vs[2]?=some .none)
  (h:∀h',Heap.LeftC base (env::outer) e oe.cls a0 s.heap h'->Q () { s with heap:=h' }):wpAny M A (leaving env (.ref e)) Q E s:=by
 unfold leaving noteFrame
 simp only [hf]
 refine wpAny_bind (wpAny_bind (wpAny_field he hd h1 ?_))
 rw [if_neg zj]
 exact cW hfr hl hf he hkb hen hd (Array.getElem?_eq_some_iff.mp h1).1 h0 h
theorem dJ {base:Heap}{env:Env}{outer:List Env}{L e:Addr}{cls a0:Value}{Q:Unit->Shared->Prop}
  (hfr:A.frames=some (env::outer)) (hl:s.heap.FunFrames base (env::outer)) (hf:env.frame=some L) (ht:s.heap.TracedC base e cls a0) (hkb:base.StaysIn s.heap) (hen:base.get? e=none)
  (h:∀h',Heap.LeftC base (env::outer) e cls a0 s.heap h'->Q () { s with heap:=h' }):wpAny M A (leaving env (.ref e)) Q E s:=by
 obtain ⟨oe,vs,T,oT,ts,he,⟨hcls,h0⟩,hd,h1,hnT,hTe,hT,hdT,h3⟩:=ht
 subst hcls
 unfold leaving noteFrame
 simp only [hf]
 refine wpAny_bind (wpAny_bind (wpAny_field he hd h1 ?_))
 rw [if_pos (show (Value.ref T != Value.none)=true from by simp)]
 refine wpAny_bind (wpAny_field hT hdT h3 ?_)
 rw [if_neg (show ¬ ((Value.none == rawInt L)=true) from by simp [rawInt])]
 refine wpAny_bind (wpAny_setField hT hdT (Array.getElem?_eq_some_iff.mp h3).1 ?_)
 have other:∀b,b≠T->(s.heap.update T (Obj.mapFields (·.setIfInBounds 3 Value.none))).get? b=s.heap.get? b:=fun b hb=>Heap.get?_update_other _ _ (Ne.symm hb)
 have noRecord:∀b o,s.heap.get? b=some o->(∀vs,o.data≠.fields vs)->b≠T:=fun b o hb hnf q=>by
  rw [q,hT] at hb;injection hb with hb;subst hb;exact hnf ts hdT
 refine cW hfr (hl.of_keeps fun b o hb hnf=>⟨o,(other b (noRecord b o hb hnf)).trans hb,rfl⟩) hf ((other e (Ne.symm hTe)).trans he)
  (fun b o hbo=>(other b fun q=>by rw [q,hnT] at hbo;cases hbo).trans (hkb b o hbo)) hen hd (Array.getElem?_eq_some_iff.mp h1).1 h0
  fun h' ⟨x1,x2,x3,x4⟩=>h h' ⟨x1,x2,x3,fun b o hb hnf=>x4 b o ((other b (noRecord b o hb hnf)).trans hb) hnf⟩
def Heap.FlyingC (base:Heap)(l:List Env)(e:Addr)(cls a0:Value)(h:Heap):Prop :=
 base.StaysIn h/\base.get? e=none/\h.FunFrames base l/\h.TracedC base e cls a0
theorem Heap.FlyingC.there {base h:Heap}{l:List Env}{e:Addr}{cls a0:Value}(x:Heap.FlyingC base l e cls a0 h):∃ ob,h.get? e=some ob/\ob.cls=cls:=by
 obtain ⟨_,_,_,oe,_,_,_,_,he,hc,_⟩:=x
 exact ⟨oe,he,hc.1⟩
theorem fG {base:Heap}{env:Env}{outer:List Env}{L e:Addr}{cls a0:Value}{Q:Unit->Shared->Prop}
  (hfr:A.frames=some (env::outer)) (hf:env.frame=some L) (hfl:Heap.FlyingC base (env::outer) e cls a0 s.heap)
  (hQ:∀h',Heap.FlyingC base outer e cls a0 h'->s.heap.UpToSlots h'->Q () { s with heap:=h' }):wpAny M A (leaving env (.ref e)) Q E s:=by
 obtain ⟨f1,f2,f3,f4⟩:=hfl
 refine dJ hfr f3 hf f4 f1 f2 fun h' hL=>?_
 obtain ⟨k1,⟨_,_,k2⟩,k3,k4⟩:=hL
 exact hQ h' ⟨k1,f2,k2,k3⟩ k4
theorem iZ {base:Heap}{env:Env}{outer:List Env}{L e:Addr}{oe:Obj}{vs:Array Value}{head a0:Value}{hadNext:Bool}{Q:Unit->Shared->Prop}
  (hfr:A.frames=some (env::outer)) (hl:s.heap.FunFrames base (env::outer)) (hf:env.frame=some L)
  (he:s.heap.get? e=some oe) (hkb:base.StaysIn s.heap) (hen:base.get? e=none) (hd:oe.data=.fields vs) (hsz:1<vs.size) (h0:vs[0]?=some a0/\vs[2]?=some .none)
  (h:∀h',Heap.NotedC base (env::outer) e oe.cls a0 (rawInt L) s.heap h'->Q () { s with heap:=h' }) :
  wpAny M A (do let a <-frameOf env;let pl <-entryPlaceOf L hadNext;let b <-EntryCells.newEntry head a .none (rawInt L) .none pl;setField (.ref e) 1 b) Q E s:=by
 have hene:e∉(env::outer).filterMap (·.frame):=fun hm=>by
  obtain ⟨_,o,ho,hnf⟩:=hl.mem hm
  rw [he] at ho;injection ho with ho;subst ho;exact hnf vs hd
 refine wpAny_bind (wpAny_frameOf_fun hfr hl hf fun h₁ hs₁=>?_)
 refine wpAny_bind (wpAny_entryPlaceOf fun pl hpl=>?_)
 unfold EntryCells.newEntry newFields
 refine wpAny_bind (wpAny_newObj_type ?_ (hpl.sizeOk5 _ _ _ _ _))
 have he₁:h₁.get? e=some oe:=(hs₁.2.1 e hene).trans he
 have kb₁:base.StaysIn h₁:=fun b o hbo=>(hs₁.2.1 b fun hm=>by rw [(hl.mem hm).1] at hbo;cases hbo).trans (hkb b o hbo)
 have he₂:=Heap.get?_push_of_some (h:=h₁) { cls:=.type "traceback",dict:=none,data:=.fields ([head,.ref L,.none,rawInt L,.none]++(if pl.isEmpty then List.replicate 6 Value.none else pl)).toArray } he₁
 refine wpAny_setField he₂ hd hsz (h _ ?_)
 have hTe:h₁.objs.size≠e:=Nat.ne_of_gt (Heap.lt_size he₁)
 have hd₃:=Obj.data_mapFields hd (·.setIfInBounds 1 (Value.ref h₁.objs.size))
 have he₃:=Heap.get?_update_self (Obj.mapFields (·.setIfInBounds 1 (Value.ref h₁.objs.size))) he₂ (Obj.isFreed_of_fields hd₃)
 have hT₃:=(Heap.get?_update_other (h₁.push { cls:=.type "traceback",dict:=none,data:=.fields ([head,.ref L,.none,rawInt L,.none]++(if pl.isEmpty then List.replicate 6 Value.none else pl)).toArray })
  (Obj.mapFields (·.setIfInBounds 1 (Value.ref h₁.objs.size))) (Ne.symm hTe)).trans (Heap.get?_push_size h₁ rfl)
 have keep:∀b o,b≠e->h₁.get? b=some o ->
   ((h₁.push { cls:=.type "traceback",dict:=none,data:=.fields ([head,.ref L,.none,rawInt L,.none]++(if pl.isEmpty then List.replicate 6 Value.none else pl)).toArray }).update e (Obj.mapFields (·.setIfInBounds 1 (Value.ref h₁.objs.size)))).get? b=some o :=
  fun b o hbe hb=>by
   rw [Heap.get?_update_other _ _ (Ne.symm hbe)]
   exact Heap.get?_push_of_some _ hb
 have noRecord:∀b o,s.heap.get? b=some o->(∀vs,o.data≠.fields vs)->b≠e:=fun b o hb hnf q=>by
  rw [q,he] at hb;injection hb with hb;subst hb;exact hnf vs hd
 refine ⟨fun b o hbo=>keep b o (fun q=>by rw [q,hen] at hbo;cases hbo) (kb₁ b o hbo),hl.of_keeps fun b o hb hnf=>?_,?_,fun b o hb hnf=>?_⟩
 .obtain ⟨sl,hs⟩:=hs₁.2.2 b o hb
  exact ⟨_,keep b _ (noRecord b o hb hnf) hs,rfl⟩
 .exact ⟨_,_,h₁.objs.size,_,_,he₃,⟨Obj.cls_mapFields _ _,by rw [Array.getElem?_setIfInBounds_ne zj];exact h0.1,by rw [Array.getElem?_setIfInBounds_ne zj];exact h0.2⟩,hd₃,by simp [hsz],kb₁.fresh,hTe,hT₃,rfl,by first | (simp;done) | (rcases hpl with rfl | ⟨_,_,_,_,_,_,_,rfl⟩ <;> simp)⟩
 obtain ⟨sl,hs⟩:=hs₁.2.2 b o hb
 exact ⟨sl,keep b _ (noRecord b o hb hnf) hs⟩
theorem dL {base:Heap}{env:Env}{outer:List Env}{L e:Addr}{cls a0:Value}{Q:Unit->Shared->Prop}
  (hfr:A.frames=some (env::outer)) (hl:s.heap.FunFrames base (env::outer)) (hf:env.frame=some L) (ht:s.heap.TracedC base e cls a0) (hkb:base.StaysIn s.heap) (hen:base.get? e=none)
  (h:∀h',Heap.NotedC base (env::outer) e cls a0 (rawInt L) s.heap h'->Q () { s with heap:=h' }):wpAny M A (noteFrame (.ref e) env) Q E s:=by
 obtain ⟨oe,vs,T,oT,ts,he,⟨hcls,h0⟩,hd,h1,hnT,hTe,hT,hdT,h3⟩:=ht
 subst hcls
 unfold noteFrame
 simp only [hf]
 refine wpAny_bind (wpAny_field he hd h1 ?_)
 rw [if_pos (show (Value.ref T != Value.none)=true from by simp)]
 refine wpAny_bind (wpAny_field hT hdT h3 ?_)
 rw [if_neg (show ¬ ((Value.none == rawInt L)=true) from by simp [rawInt])]
 refine wpAny_bind (wpAny_setField hT hdT (Array.getElem?_eq_some_iff.mp h3).1 ?_)
 have other:∀b,b≠T->(s.heap.update T (Obj.mapFields (·.setIfInBounds 3 Value.none))).get? b=s.heap.get? b:=fun b hb=>Heap.get?_update_other _ _ (Ne.symm hb)
 have noRecord:∀b o,s.heap.get? b=some o->(∀vs,o.data≠.fields vs)->b≠T:=fun b o hb hnf q=>by
  rw [q,hT] at hb;injection hb with hb;subst hb;exact hnf ts hdT
 refine iZ hfr (hl.of_keeps fun b o hb hnf=>⟨o,(other b (noRecord b o hb hnf)).trans hb,rfl⟩) hf ((other e (Ne.symm hTe)).trans he)
  (fun b o hbo=>(other b fun q=>by rw [q,hnT] at hbo;cases hbo).trans (hkb b o hbo)) hen hd (Array.getElem?_eq_some_iff.mp h1).1 h0
  fun h' ⟨x1,x2,x3,x4⟩=>h h' ⟨x1,x2,x3,fun b o hb hnf=>x4 b o ((other b (noRecord b o hb hnf)).trans hb) hnf⟩
theorem bU {base:Heap}{l:List Env}{e:Addr}{cls a0 fl:Value}{Q:Unit->Shared->Prop}
  (hkb:base.StaysIn s.heap) (hl:s.heap.FunFrames base l) (ht:s.heap.TracedAtC base e cls a0 fl)
  (h:∀h',base.StaysIn h'->h'.FunFrames base l->h'.TracedC base e cls a0->(∀b o,s.heap.get? b=some o->(∀vs,o.data≠.fields vs)->h'.get? b=some o)->Q () { s with heap:=h' }) :
  wpAny M A (setFlight (.ref e) none) Q E s:=by
 obtain ⟨oe,vs,T,oT,ts,he,hcls,hd,h1,hnT,hTe,hT,hdT,h3⟩:=ht
 have hsz3:3<ts.size:=(Array.getElem?_eq_some_iff.mp h3).1
 have other:∀b,b≠T->(s.heap.update T (Obj.mapFields (·.setIfInBounds 3 ((none:Option Addr).elim Value.none fun f=>rawInt f)))).get? b=s.heap.get? b :=
  fun b hb=>Heap.get?_update_other _ _ (Ne.symm hb)
 have noRecord:∀b o,s.heap.get? b=some o->(∀vs,o.data≠.fields vs)->b≠T:=fun b o hb hnf q=>by
  rw [q,hT] at hb;injection hb with hb;subst hb;exact hnf ts hdT
 unfold setFlight
 refine wpAny_bind (wpAny_field he hd h1 ?_)
 rw [if_pos (show (Value.ref T != Value.none)=true from by simp)]
 refine wpAny_setField hT hdT hsz3 (h _ (fun b o hbo=>(other b fun q=>by rw [q,hnT] at hbo;cases hbo).trans (hkb b o hbo))
  (hl.of_keeps fun b o hb hnf=>⟨o,(other b (noRecord b o hb hnf)).trans hb,rfl⟩) ?_ fun b o hb hnf=>(other b (noRecord b o hb hnf)).trans hb)
 exact ⟨oe,vs,T,_,_,(other e (Ne.symm hTe)).trans he,hcls,hd,h1,hnT,hTe,Heap.get?_update_self _ hT (Obj.isFreed_of_fields (Obj.data_mapFields hdT _)),Obj.data_mapFields hdT _,by simp [hsz3]⟩
def Heap.HeldC (base:Heap)(l:List Env)(e:Addr)(cls a0:Value)(L:Addr)(h:Heap):Prop :=
 base.StaysIn h/\base.get? e=none/\h.FunFrames base l/\h.TracedAtC base e cls a0 (rawInt L)
theorem gh {base:Heap}{env:Env}{outer:List Env}{L e:Addr}{cls a0:Value}{Q:Unit->Shared->Prop}
  (hfr:A.frames=some (env::outer)) (hf:env.frame=some L) (hfl:Heap.FlyingC base (env::outer) e cls a0 s.heap)
  (hQ:∀h',Heap.HeldC base (env::outer) e cls a0 L h'->s.heap.UpToSlots h'->Q () { s with heap:=h' }):wpAny M A (noteFrame (.ref e) env) Q E s:=by
 obtain ⟨f1,f2,f3,f4⟩:=hfl
 refine dL hfr f3 hf f4 f1 f2 fun h' hN=>?_
 obtain ⟨k1,k2,k3,k4⟩:=hN
 exact hQ h' ⟨k1,f2,k2,k3⟩ k4
theorem jo {base:Heap}{l:List Env}{e L:Addr}{cls a0:Value}{Q:Unit->Shared->Prop}(hh:Heap.HeldC base l e cls a0 L s.heap)
  (hQ:∀h',Heap.FlyingC base l e cls a0 h'->s.heap.UpToSlots h'->Q () { s with heap:=h' }):wpAny M A (setFlight (.ref e) none) Q E s:=by
 obtain ⟨f1,f2,f3,f4⟩:=hh
 exact bU f1 f3 f4 fun h' k1 k2 k3 k4=>hQ h' ⟨k1,f2,k2,k3⟩ fun b o hb hn=>⟨o.slots,k4 b o hb hn⟩
theorem dQ {base h:Heap}{env:Env}{outer:List Env}{L e:Addr}{cls:Value}{args:List Value}{Q:Unit->Shared->Prop}
  (hfr:A.frames=some (env::outer)) (hf:env.frame=some L) (hkb:base.StaysIn h) (hl:h.FunFrames base (env::outer)) (hx:Heap.MadeExcOf h s.heap e cls args)
  (hQ:∀h' t,Heap.FlyingC base outer e cls (.ref t) h'->h'.TupAt t args->base.get? t=none->s.heap.UpToSlots h'->Q () { s with heap:=h' }):wpAny M A (leaving env (.ref e)) Q E s:=by
 obtain ⟨t,he,htn,ht⟩:=hx.there
 have fresh:∀b,h.get? b=none->base.get? b=none:=fun b hb=>by
  cases hq:base.get? b with
  | none=>rfl
  | some o'=>have:=hkb b o' hq;rw [hb] at this;cases this
 refine di (a0:=.ref t) hfr (hl.of_keeps fun b o hb _=>⟨o,hx.keeps b o hb,rfl⟩) hf he (fun b o hb=>hx.keeps b o (hkb b o hb)) (fresh e hx.new) rfl rfl ⟨rfl,rfl⟩ fun h' hL=>?_
 obtain ⟨k1,⟨_,_,k2⟩,k3,k4⟩:=hL
 exact hQ h' t ⟨k1,fresh e hx.new,k2,k3⟩ (Heap.TupAt.of_slots ⟨_,_,ht,rfl,rfl⟩ k4) (fresh t htn) k4
end
end PySem
namespace L2
open PySem PySem.Spec PyProof.Rows
theorem iX {M:Model}{A:Around}{E:Value->Shared->Prop}{s:Shared}{base:Heap}{l:List Env}{e:Addr}{cls a0:Value}{Q:Unit->Shared->Prop}(hh:Heap.FlyingC base l e cls a0 s.heap)
  (hQ:∀h',Heap.FlyingC base l e cls a0 h'->s.heap.UpToSlots h'->Q () { s with heap:=h' }):wpAny M A (setFlight (.ref e) none) Q E s:=by
 obtain ⟨f1,f2,f3,f4⟩:=hh
 exact bU f1 f3 f4.at fun h' k1 k2 k3 k4=>hQ h' ⟨k1,f2,k2,k3⟩ fun b o hb hn=>⟨o.slots,k4 b o hb hn⟩
structure Ground (P:Program)(w:World)(fs:List Addr)(H H':Hp)(h B:Heap):Prop where
 ok:HOk P w H' B
 old:∀b o,h.get? b=some o->H b=none->b∉fs->B.get? b=some o
 there:∀b o,h.get? b=some o->b∉fs->∃ o',B.get? b=some o'
def CXe (P:Program)(w:World):CXT:=fun outer H s E v s'=>∃ (e C:Addr) (H':Hp) (B:Heap) (a0:Value),v=.ref e/\s'.os=s.os/\AllBare s'.gens/\Un (frs outer) [] H H' s.heap s'.heap /\
 Ground P w (frs outer) H H' s.heap B/\Heap.FlyingC B outer e (.ref C) a0 s'.heap/\E (.ref C) none H'
theorem HOk.get {P:Program}{w:World}{H:Hp}{h:Heap}{a:Addr}{o:HO}(x:HOk P w H h)(e:H a=some o):∃ ob,h.get? a=some ob:=by
 have q:=x a o e
 cases o with
 | lst xs=>obtain ⟨_,_,_,_,e⟩:=q;exact ⟨_,e⟩
 | tup xs=>obtain ⟨_,_,_,ob,e,_⟩:=q;exact ⟨_,e⟩
 | dK kvs=>obtain ⟨_,_,_,_,o,_,_,e,_⟩:=q;exact ⟨_,e⟩
 | dT kvs=>obtain ⟨_,_,_,_,o,_,_,e,_⟩:=q;exact ⟨_,e⟩
 | set S n=>obtain ⟨o,_,_,_,e,_⟩:=q;exact ⟨_,e⟩
 | ins C dx fs=>obtain ⟨_,_,_,e,_⟩:=q;exact ⟨_,e⟩
 | own y=>obtain ⟨_,e⟩:=q;exact ⟨_,e⟩
 | xd fs=>obtain ⟨_,⟨_,_,_,e,_⟩,_⟩:=q;exact ⟨_,e⟩
 | rng lo hi=>obtain ⟨_,_,_,e⟩:=q;exact ⟨_,e⟩
 | frz ob u=>obtain ⟨e,_⟩:=q;exact ⟨_,e⟩
 | tbl ps=>exact ⟨_,show h.get? a=some _ from q⟩
 | met f y=>exact ⟨_,show h.get? a=some _ from q⟩
 | ext φ=>obtain ⟨_,e,_⟩:=q;exact e
section
variable {X:Cx}{pins:List (Addr×Obj)}{σ:St}{H H':Hp}{s s':Shared}{B:Heap}
def Kp (X:Cx)(pins:List (Addr×Obj))(σ:St)(H':Hp)(s':Shared)(B:Heap):Prop:=∀h' t',B.StaysIn h'->s'.heap.UpToSlots h'->Inv X pins σ H' { s' with heap:=h',toks:=t' }
theorem Inv.kp (I:Inv X pins σ H s)(os:s'.os=s.os)(bare:AllBare s'.gens)(U:Un (frs X.stack) [] H H' s.heap s'.heap)(G:Ground X.prog X.w (frs X.stack) H H' s.heap B):Kp X pins σ H' s' B:=fun h' t' st up=>by
 have nof:∀b∈frs X.stack,∀o,s.heap.get? b=some o->∃ sl,h'.get? b=some { o with slots:=sl }:=fun b hb o e=>by
  obtain ⟨_,o',ho',hd⟩:=I.stack.mem hb
  rw [e] at ho'
  cases ho'
  obtain ⟨sl,e1⟩:=U.slot b o e (I.stkFree b hb) hb zl
  exact up b { o with slots:=sl } e1 hd
 have U2:Un (frs X.stack) [] H H' s.heap h':=⟨fun b o e n hb _=>st b o (G.old b o e n hb),fun b o e n hb _=>nof b hb o e,U.free,fun b o e _=>by
  by_cases hb:b∈frs X.stack
  .obtain ⟨sl,q⟩:=nof b hb o e
   exact ⟨_,q⟩
  .obtain ⟨o',q⟩:=G.there b o e hb
   exact ⟨o',st b o' q⟩,U.tups,U.frzs,U.tbls⟩
 obtain ⟨hh,g,d,t,o'⟩:=s'
 obtain rfl:o'=s.os:=os
 have:=I.call (h':=h') (g':=g) (d':=d) (t':=t') (ch:=[]) U2 (G.ok.kept st) bare (fun b z=>absurd z zl)
 exact this
def Kt (X:Cx)(pins:List (Addr×Obj))(σ:St)(H':Hp)(s':Shared)(B:Heap):Prop:=∀h' t' e o,B.StaysIn h'->s'.heap.UpToSlots h'->B.get? e=none->e∉frs X.stack->ObjOk X.prog X.w (upd H' e o) h' e o->Inv X pins σ (upd H' e o) { s' with heap:=h',toks:=t' }
theorem Inv.kt (I:Inv X pins σ H s)(os:s'.os=s.os)(bare:AllBare s'.gens)(U:Un (frs X.stack) [] H H' s.heap s'.heap)(G:Ground X.prog X.w (frs X.stack) H H' s.heap B):Kt X pins σ H' s' B:=fun h' t' e o st up hn hf new=>by
 have nof:∀b∈frs X.stack,∀o,s.heap.get? b=some o->∃ sl,h'.get? b=some { o with slots:=sl }:=fun b hb o e=>by
  obtain ⟨_,o',ho',hd⟩:=I.stack.mem hb
  rw [e] at ho'
  cases ho'
  obtain ⟨sl,e1⟩:=U.slot b o e (I.stkFree b hb) hb zl
  exact up b { o with slots:=sl } e1 hd
 have tr:∀b u,H' b=some u->b≠e:=fun b u q z=>by
  obtain ⟨ob,q2⟩:=G.ok.get q
  rw [z,hn] at q2;cases q2
 have U2:Un (frs X.stack) [] H (upd H' e o) s.heap h':=⟨fun b o e n hb _=>st b o (G.old b o e n hb),fun b o e n hb _=>nof b hb o e,fun b o1 e1 n hx=>by
  have hb:b≠e:=fun z=>by
   subst z
   have:=G.old b o1 e1 n hf
   rw [hn] at this;cases this
  rw [ak hb]
  exact U.free b o1 e1 n hx,fun b o e _=>by
  by_cases hb:b∈frs X.stack
  .obtain ⟨sl,q⟩:=nof b hb o e
   exact ⟨_,q⟩
  .obtain ⟨o',q⟩:=G.there b o e hb
   exact ⟨o',st b o' q⟩,fun b xs q=>by rw [ak (tr b _ (U.tups b xs q))];exact U.tups b xs q,fun b ob u q=>by rw [ak (tr b _ (U.frzs b ob u q))];exact U.frzs b ob u q,fun b ps q=>by
   obtain ⟨m,q2⟩:=U.tbls b ps q
   exact ⟨m,by rw [ak (tr b _ q2)];exact q2⟩⟩
 have hk:HOk X.prog X.w (upd H' e o) h':=fun b u q=>by
  by_cases hb:b=e
  .subst hb
   rw [af] at q
   cases q
   exact new
  .rw [ak hb] at q
   exact (G.ok b u q).stay (fun c v _ z=>st c v z) (fun c z=>by rw [ak (tr c _ z)];exact z) fun c xs z=>by rw [ak (tr c _ z)];exact z
 obtain ⟨hh,g,d,t,o'⟩:=s'
 obtain rfl:o'=s.os:=os
 have:=I.call (h':=h') (g':=g) (d':=d) (t':=t') (ch:=[]) U2 hk bare (fun b z=>absurd z zl)
 exact this
def XP (X:Cx)(pins:List (Addr×Obj))(σ:St)(E:XK)(v:Value)(s':Shared):Prop:=∃ (e C:Addr) (H':Hp) (B:Heap) (a0:Value),v=.ref e/\Heap.FlyingC B X.stack e (.ref C) a0 s'.heap /\
 Kp X pins σ H' s' B/\Kt X pins σ H' s' B/\HOk X.prog X.w H' B/\(∀b o,X.s₀.heap.get? b=some o->X.H₀ b=none->b∉X.ex->b∉frs X.stack->B.get? b=some o)/\(∀b o,X.s₀.heap.get? b=some o->b∉X.ex->b∉frs X.stack->∃ o',B.get? b=some o')/\E (.ref C) none H'
theorem Inv.xp {E:XK}{v:Value}(I:Inv X pins σ H s)(h:CXe X.prog X.w X.stack H s E v s'):XP X pins σ E v s':=by
 have hst:∀b∈X.fs,b∈frs X.stack:=fun b hb=>by
  rcases I.ok.stk with e | ⟨e,_⟩
  .rw [e];exact hb
  .rw [e]
   obtain ⟨env,he,hf⟩:=List.mem_filterMap.mp hb
   exact List.mem_filterMap.mpr ⟨env,List.mem_cons_of_mem _ he,hf⟩
 obtain ⟨e,C,H',B,a0,rfl,os,bare,U,G,fl,q⟩:=h
 refine ⟨e,C,H',B,a0,rfl,fl,I.kp os bare U G,I.kt os bare U G,G.ok,fun b o e n hx hb=>?_,fun b o e hx hb=>?_,q⟩
 .exact G.old b o (I.base.keep b o e n (fun z=>hb (hst b z)) hx) (I.base.free b o e n hx) hb
 obtain ⟨o',e1⟩:=I.base.there b o e hx
 exact G.there b o' e1 hb
end
section
variable {P:Program}{w:World}{K:W.Frag}{mg:Str->Option Value}{base:Heap}{N:List Str}{qual:Str}{scope:Scope}{f:Addr}{cd:Value}{A:Around}{outer:List Env}{s₀:Shared}{H₀:Hp}{E:XK}
theorem ko {pins:List (Addr×Obj)}{σ:St}{H:Hp}{s:Shared}{h':Heap}{e C:Addr}{args:List Value}(I:Inv (bq (CXe P w) P w K mg base N qual scope f cd A outer s₀ H₀ E) pins σ H s)(hx:Heap.MadeExcOf s.heap h' e (.ref C) args)(q:E (.ref C) none H):(bq (CXe P w) P w K mg base N qual scope f cd A outer s₀ H₀ E).xe (.ref e) { s with heap:=h' }:=by
 have hin:∀env∈(bq (CXe P w) P w K mg base N qual scope f cd A outer s₀ H₀ E).stack,∀b,env.frame=some b->b∈frs (bq (CXe P w) P w K mg base N qual scope f cd A outer s₀ H₀ E).stack:=fun env he b hb=>List.mem_filterMap.mpr ⟨env,he,hb⟩
 have hsub:∀b,b∈frs (bq (CXe P w) P w K mg base N qual scope f cd A outer s₀ H₀ E).stack->b=s₀.heap.objs.size∨b∈frs outer:=fun b hb=>by
  obtain ⟨env,he,hf⟩:=List.mem_filterMap.mp hb
  rcases List.mem_cons.mp he with rfl | he
  .exact .inl (Option.some.inj hf).symm
  .exact .inr (List.mem_filterMap.mpr ⟨env,he,hf⟩)
 refine dQ (base:=W.hideAll s.heap (frs (bq (CXe P w) P w K mg base N qual scope f cd A outer s₀ H₀ E).stack)) (s:={ s with heap:=h' }) I.ok.frames rfl (fun b o q=>W.of_hideAll _ q) (W.funFrames_hide I.stack hin) hx fun h2 t fl _ _ up=>?_
 have up2:s.heap.UpToSlots h2:=(Heap.UpToSlots.of_keeps hx.keeps).trans up
 have st:=fl.1
 have old:∀b o,s.heap.get? b=some o->b∉frs (bq (CXe P w) P w K mg base N qual scope f cd A outer s₀ H₀ E).stack->(W.hideAll s.heap (frs (bq (CXe P w) P w K mg base N qual scope f cd A outer s₀ H₀ E).stack)).get? b=some o:=fun b o e nb=>W.hideAll_get _ e nb
 have nL:∀b o,s₀.heap.get? b=some o->b∉frs outer->b∉frs (bq (CXe P w) P w K mg base N qual scope f cd A outer s₀ H₀ E).stack:=fun b o e nb hb=>by
  rcases hsub b hb with rfl | z
  .exact absurd (Heap.lt_size e) (Nat.lt_irrefl _)
  .exact nb z
 have fr2:∀b∈frs outer,∀o,s.heap.get? b=some o->∃ sl,h2.get? b=some { o with slots:=sl }:=fun b hb o e=>by
  have hb':b∈frs (bq (CXe P w) P w K mg base N qual scope f cd A outer s₀ H₀ E).stack:=by
   obtain ⟨env,he,hf⟩:=List.mem_filterMap.mp hb
   exact List.mem_filterMap.mpr ⟨env,List.mem_cons_of_mem _ he,hf⟩
  obtain ⟨_,o',ho',hd⟩:=I.stack.mem hb'
  rw [e] at ho'
  cases ho'
  exact up2 b o e hd
 have hokB:HOk P w H (W.hideAll s.heap (frs (bq (CXe P w) P w K mg base N qual scope f cd A outer s₀ H₀ E).stack)):=fun a o ea=>(I.hok a o ea).stay (fun b u hb q=>old b u q fun z=>by
  have:=I.stkFree b z
  rcases hb with rfl | hb
  .rw [ea] at this;cases this
  .rw [hb] at this;cases this) (fun _ q=>q) fun _ _ q=>q
 refine ⟨e,C,H,W.hideAll s.heap (frs (bq (CXe P w) P w K mg base N qual scope f cd A outer s₀ H₀ E).stack),.ref t,rfl,I.os,I.bare,⟨fun b o e n hb _=>?_,fun b o e n hb _=>?_,I.base.free,fun b o e _=>?_,I.base.tups,I.base.frzs,I.base.tbls⟩,⟨hokB,fun b o e n hb=>old b o (I.base.keep b o e n hb (List.not_mem_nil)) (nL b o e hb),fun b o e hb=>?_⟩,fl,q⟩
 .exact st b o (old b o (I.base.keep b o e n hb List.not_mem_nil) (nL b o e hb))
 .obtain ⟨sl,e1⟩:=I.base.slot b o e n hb List.not_mem_nil
  obtain ⟨sl2,e2⟩:=fr2 b hb _ e1
  exact ⟨sl2,e2⟩
 .obtain ⟨o',e1⟩:=I.base.there b o e List.not_mem_nil
  by_cases hb:b∈frs outer
  .obtain ⟨sl,e2⟩:=fr2 b hb o' e1
   exact ⟨_,e2⟩
  .exact ⟨o',st b o' (old b o' e1 (nL b o e hb))⟩
 obtain ⟨o',e1⟩:=I.base.there b o e List.not_mem_nil
 exact ⟨o',old b o' e1 (nL b o e hb)⟩
end
def pZ (K:W.Frag)(C:Addr)(v:Value):Bool:=match K.lookup C with
 | some ⟨_,_,.cls cd,_⟩=>cd.mro.contains v
 | _=>false
theorem xE {K:W.Frag}{h:Heap}{C:Addr}{bmB:List Value}{newId:String}(ki:K.In h)(z:W.excIn K C bmB newId=true) :
  ∃ tl N1 nm q bs b1 b2 b3 b4 b5 b6 k0 k1 k2 k3 k5 mN,h.get? C=some (excClassObj nm q C N1 bs tl b1 b2 b3 b4 b5 b6 k0 k1 k2 k3 k5 newId)/\h.Ns N1 mN/\mN "__init__"=none/\OwnTail h bmB tl/\∀v,pZ K C v=(Value.ref C::tl).contains v:=by
 unfold W.excIn at z
 split at z
 case h_2=>cases z
 rename_i dc cl so hlk
 split at z
 case h_2=>cases z
 rename_i C1 tl a0 a1 a2 a3 nw a5 hmr hso
 simp only [Bool.and_eq_true,beq_iff_eq,Bool.not_eq_true'] at z
 obtain ⟨⟨⟨⟨⟨e1,e2⟩,e3⟩,e4⟩,e5⟩,e6⟩:=z
 subst e1 e2
 cases cl with
 | mk c1 c2 c3 c4 c5 c6 c7 c8 c9 cA cB =>
  dsimp only at hmr e3 e5 e6
  subst hmr e3
  cases so with
  | mk l =>
   have hl:l=[a0,a1,a2,a3,some (.builtin nw),a5]:=hso
   subst hl
   refine ⟨tl,_,_,_,_,_,_,_,_,_,_,_,_,_,_,_,_,ki _ _ hlk,.of_isNs (W.isNs_of_in ki e5),W.nsMap_none_of_in ki e5 e6,W.tail_of_in ki e4,fun v=>?_⟩
   unfold pZ
   rw [hlk]
section
variable {P:Program}{w:World}{K:W.Frag}{mg:Str->Option Value}{base:Heap}{N:List Str}{qual:Str}{scope:Scope}{f:Addr}{cd:Value}{A:Around}{outer:List Env}{s₀:Shared}{H₀:Hp}{E:XK}
def p8 (E:XK)(C:Addr)(ta:TA):TS:=fun _ σ H=>ta σ H fun vs H1=>vs.length<=1000/\E (.ref C) none H1
theorem oV {C:Addr}{x:Str}{e:Expr}{es:List Expr}{ta:TA}{np cpos pos:Pos}{B newId initId:String}{bm:List Value}(FB:ExcBaseFacts B newId initId bm)(hB:bm.contains (.type B)=true)(hg:Gl (bq (CXe P w) P w K mg base N qual scope f cd A outer s₀ H₀ E) x)(hm:mg x=some (.ref C))(hC:W.excIn K C bm newId=true)(hh:A.handled=none)
  (ha:PA (bq (CXe P w) P w K mg base N qual scope f cd A outer s₀ H₀ E) (e::es) ta) (he:starEach (e::es) (bq (CXe P w) P w K mg base N qual scope f cd A outer s₀ H₀ E).env=(false,eval e (bq (CXe P w) P w K mg base N qual scope f cd A outer s₀ H₀ E).env)::starEach es (bq (CXe P w) P w K mg base N qual scope f cd A outer s₀ H₀ E).env:=by rfl) (hpl:(backTo cpos (starEach es (bq (CXe P w) P w K mg base N qual scope f cd A outer s₀ H₀ E).env)).any (·.1)=false:=by rfl) (hd:(x == ("__debug__":Str))=false:=by decide) :
  PS (bq (CXe P w) P w K mg base N qual scope f cd A outer s₀ H₀ E) (.Raise (some (.Call (.Name x np) (e::es) [] cpos)) none pos) (p8 E C ta):=by
 intro pins s σ H D I h
 obtain ⟨tl,N1,nm,q,bs,b1,b2,b3,b4,b5,b6,k0,k1,k2,k3,k5,mN,oC,oN,oi,oT,_⟩:=xE I.ok.mod.kin hC
 have h1:=ha cpos pins s σ H _ I h
 refine wpAny_Raise_call_subU (C:=C) (nm:=nm) (q:=q) (N:=N1) (bs:=bs) (bm:=tl) (hdct:=b1) (sn:=b2) (sub:=b3) (ab:=b4) (col:=b5) (dd:=b6) (k0:=k0) (k1:=k1) (k2:=k2) (k3:=k3) (k5:=k5) FB hB FB (mN:=mN) (oT.hasType FB.hasBase) hh ?_ oi (cR I hg hm ⟨rfl,?_⟩ hd)
 .rw [he]
  show (false || (backTo cpos (starEach es (bq (CXe P w) P w K mg base N qual scope f cd A outer s₀ H₀ E).env)).any (·.1))=false
  rw [hpl];rfl
 rw [he] at h1 ⊢
 refine Calls.evalArgs_plain (thn h1 fun us s1 zz=>?_)
 obtain ⟨vs,H1,I1,r,hz,q1⟩:=zz
 have hl:us.length<=sizeLine:=by rw [<-r.length];exact Nat.le_trans hz zj
 exact ⟨rfl,hl,I1.bk _ _ oC,oN.keeps I1.bk,oT.keeps I1.bk,fun h' e' hx=>ko I1 hx q1⟩
end
abbrev TEX:=St->Hp->VK->XK->Prop
abbrev XS:=Value->St->Hp->Prop
abbrev TSX:=eZ->XS->St->Hp->Prop
def PEX (X:Cx)(e:Expr)(t:TEX):Prop :=
 ∀(pins:List (Addr×Obj)) (s:Shared) (σ:St) (H:Hp) (Q:VK) (E:XK),Inv X pins σ H s->t σ H Q E->wpAny (model X.prog X.w) X.A (eval e X.env) (EP X pins σ Q) (XP X pins σ E) s
def XSP (X:Cx)(pins:List (Addr×Obj))(E:XS)(v:Value)(s':Shared):Prop:=∃ σ',XP X pins σ' (fun c _ H'=>E c σ' H') v s'
def PSX (X:Cx)(st:Stmt)(t:TSX):Prop :=
 ∀(pins:List (Addr×Obj)) (s:Shared) (σ:St) (H:Hp) (D:eZ) (E:XS),Inv X pins σ H s->t D E σ H->wpAny (model X.prog X.w) X.A (exec st X.env) (SP X pins D) (XSP X pins E) s
def yK (X:Cx)(st:List Stmt)(t:TSX):Prop :=
 ∀(pins:List (Addr×Obj)) (s:Shared) (σ:St) (H:Hp) (D:eZ) (E:XS),Inv X pins σ H s->t D E σ H->wpAny (model X.prog X.w) X.A (execs st X.env) (SP X pins D) (XSP X pins E) s
section
variable {X:Cx}{k:Nat}{f:Addr}{fd:FuncData}{ps:List Str}{sp:Sp}{dvs:List V}{ds:List Value}{x:Str}{p pos:Pos}{e:Expr}{es:List Expr}{t:TA}{te:TEX}
theorem uT {pins:List (Addr×Obj)}{σ:St}{H:Hp}{s:Shared}{Q:VK}{E:XK}{us:List Value}{vs:List V}(F:aA X.prog X.w X.K X.mg X.base (CXe X.prog X.w) k f fd ps sp)(hr:Room k X.A)(hb:Binds X.K fd ps ds)(hd:Vals dvs ds)
  (I:Inv X pins σ H s) (r:Vals vs us) (h:sp (vs++dvs) H Q E):wpAny (model X.prog X.w) X.A (call (.ref f) us) (EP X pins σ Q) (XP X pins σ E) s:=by
 have r2:Vals (vs++dvs) (us++ds):=r.append hd
 have hl:(us++ds).length=ps.length:=by rw [<-r2.length];exact F.len _ _ _ _ h
 refine wpAny_call (codeAny_mono (F.run X.A X.stack s H ⟨us,[]⟩ (us++ds) (vs++dvs) Q E hr I.env0 (hb s us I.kIn hl) r2 h) fun r s' hq=>?_)
 cases r with
 | error e=>exact I.xp hq
 | ok fl =>
  cases fl with
  | ret u=>exact I.after hq
  | next=>exact False.elim hq
  | brk=>exact False.elim hq
  | cont=>exact False.elim hq
def xc (sp:Sp)(dvs:List V)(t:TA):TEX:=fun σ H Q E=>t σ H fun vs H1=>sp (vs++dvs) H1 Q E
theorem p6 (F:aA X.prog X.w X.K X.mg X.base (CXe X.prog X.w) k f fd ps sp)(hr:Room k X.A)(hg:Gl X x)(hm:X.mg x=some (.ref f))(hk:W.keepIn X.K (.ref f)=true)(hb:Binds X.K fd ps ds)(hd:Vals dvs ds)
  (ha:PA X.nox (e::es) t) (hdb:(x == ("__debug__":Str))=false:=by decide) (he:starEach (e::es) X.env=(false,eval e X.env)::starEach es X.env:=by rfl) (hpl:(backTo pos (starEach es X.env)).any (·.1)=false:=by rfl) :
  PEX X (.Call (.Name x p) (e::es) [] pos) (xc sp dvs t):=by
 intro pins s σ H Q E I h
 refine wpAny_Call_Name_kw (cR I hg hm ?_ hdb)
 refine W.callWith_K (h₀:=X.base) I.ok.mod.kin hk (wpAny_mono (ha pos pins s σ H _ (I.wish _) h) (fun us s1 ⟨vs,H1,I1,r,q⟩=>⟨I1.kIn,?_⟩) fun _ _ z=>False.elim z) he hpl
 exact uT F hr hb hd I1.unwish r q
def xP (te:TEX)(i:Nat):TSX:=fun D E σ H=>te σ H (fun v H'=>D.nx (σ.set i (some v)) H') fun c _ H'=>E c σ H'
theorem uv {i:Nat}{pos':Pos}(hN:X.N.Nodup)(hi:X.N[i]?=some x)(hx:Loc X.env.scope x)(he:PEX X e te)(hs:swapsWith e (some (.Name x pos')) pos.line X.env=pure false:=by rfl)(hf:X.fn x=true∨X.env.scope.names.lookup x=some .local:=by first | exact .inl rfl | exact .inr rfl | assumption) :
  PSX X (.Assign [.Name x pos'] e pos) (xP te i):=by
 intro pins s σ H D E I h
 refine wpAny_Assign_Name (wpAny_mono (he pins s σ H _ _ I h) (fun v s1 zz=>?_) fun v s1 q=>⟨σ,q⟩) hs
 obtain ⟨y,H1,I1,r1,q1⟩:=zz
 exact gs I1 hN hi hx r1 (fun s2 I2=>⟨_,H1,I2,q1⟩) hf
theorem sT {st:Stmt}{t:TSX}(h1:PSX X st t):yK X [st] t:=by
 intro pins s σ H D E I h
 refine wpAny_execs_cons (thn (h1 pins s σ H D E I h) fun f s1 q=>?_)
 cases f with
 | next=>exact wpAny_execs_nil q
 | ret v=>exact q
 | brk=>exact q
 | cont=>exact q
abbrev Cx.inX (X:Cx)(e:Addr):Cx:={ X with A:=X.A.mark (some (.ref e)),calm:=false }
theorem Cx.Ok.inX (ok:X.Ok)(e:Addr):(X.inX e).Ok :=
 ⟨ok.mod,ok.kind,ok.glob,ok.blt,ok.above,ok.inj,ok.has,ok.cab,(fun z=>by cases z),ok.frames,ok.stk,ok.exf,ok.bs,ok.bsz,ok.noex,ok.exfs,ok.funs,ok.frf⟩
theorem Cx.Ok.outX {e:Addr}(ok:(X.inX e).Ok)(hd:X.calm=true->X.A.handled=none):X.Ok :=
 ⟨ok.mod,ok.kind,ok.glob,ok.blt,ok.above,ok.inj,ok.has,ok.cab,hd,ok.frames,ok.stk,ok.exf,ok.bs,ok.bsz,ok.noex,ok.exfs,ok.funs,ok.frf⟩
theorem Inv.inX {pins:List (Addr×Obj)}{σ:St}{H:Hp}{s:Shared}(I:Inv X pins σ H s)(e:Addr):Inv (X.inX e) pins σ H s:=⟨I.ok.inX e,I.os,I.bare,I.base,I.loc,I.cell,I.free,I.freeC,I.pin,I.hok,I.len⟩
theorem Inv.outX {pins:List (Addr×Obj)}{σ:St}{H:Hp}{s:Shared}{e:Addr}(I:Inv (X.inX e) pins σ H s)(hd:X.calm=true->X.A.handled=none):Inv X pins σ H s:=⟨I.ok.outX hd,I.os,I.bare,I.base,I.loc,I.cell,I.free,I.freeC,I.pin,I.hok,I.len⟩
end
end L2
namespace L2
open PySem PySem.W PySem.Spec PySem.Calls PyProof.Rows PySem.Builtin PySem.Builtin.ObjectAttr PySem.Builtin.Getset_descriptor
section
variable {X:Cx}
theorem oJ {x:Str}{v:V}{u:Value}{pos:Pos}(hg:Gl X x)(hm:X.mg x=some u)(r:RelV v u)(hd:(x == ("__debug__":Str))=false:=by decide):QE X (.Name x pos) (tC v):=.mk (tK hg hm r hd)
end
section
variable {P:Program}{w:World}{K:Frag}{mg:Str->Option Value}{base:Heap}
theorem Fun.okE {x qual:Str}{st:Stmt}{f:Addr}{fd:FuncData}{N ps:List Str}{k:Nat}{sp:Sp}(F:Fun K x qual st f fd)(S:FnScope N ps (ao st))(len:∀vs H Q E,sp vs H Q E->vs.length=ps.length)
  (hbody:∀(cdv:Value) (A:Around) (outer:List Env) (s:Shared) (H:Hp) (vs:List V) (Q:VK) (E:XK),Room k (A.deeper (envOfC qual (ao st) s.heap.objs.size f cdv))->sp vs H Q E ->
   ∃ t,PSs (bq (CXe P w) P w K mg base N qual (ao st) f cdv A outer s H E) (bz st) t/\t { nx:=fun _ H'=>Q .non H',rt:=Q } (dy N vs) H):aA P w K mg base (CXe P w) (k+1) f fd ps sp:=by
 obtain ⟨oc,od,kV,doc,pm,an,cdv,ct,osl,rfl,lk,hcd⟩:=F.ex
 exact vX lk hcd S len fun A outer s H vs Q E hr hsp=>hbody cdv A outer s H vs Q E hr hsp
end
section
variable {P:Program}{w:World}{K:Frag}{mg:Str->Option Value}{base:Heap}{N:List Str}{qual:Str}{scope:Scope}{f:Addr}{cd:Value}{A:Around}{outer:List Env}{s₀:Shared}{H₀:Hp}{E:XK}
theorem fM {C:Addr}{x:Str}{e:Expr}{es:List Expr}{ta:TA}{np cpos pos:Pos}{B newId initId:String}{bm:List Value}(FB:ExcBaseFacts B newId initId bm)(hB:bm.contains (.type B)=true)(hg:Gl (bq (CXe P w) P w K mg base N qual scope f cd A outer s₀ H₀ E) x)(hm:mg x=some (.ref C))(hC:excIn K C bm newId=true)(hh:A.handled=none)
  (ha:QA (bq (CXe P w) P w K mg base N qual scope f cd A outer s₀ H₀ E) (e::es) ta) (he:starEach (e::es) (bq (CXe P w) P w K mg base N qual scope f cd A outer s₀ H₀ E).env=(false,eval e (bq (CXe P w) P w K mg base N qual scope f cd A outer s₀ H₀ E).env)::starEach es (bq (CXe P w) P w K mg base N qual scope f cd A outer s₀ H₀ E).env:=by rfl) (hpl:(backTo cpos (starEach es (bq (CXe P w) P w K mg base N qual scope f cd A outer s₀ H₀ E).env)).any (·.1)=false:=by rfl) (hd:(x == ("__debug__":Str))=false:=by decide) :
  QS (bq (CXe P w) P w K mg base N qual scope f cd A outer s₀ H₀ E) (.Raise (some (.Call (.Name x np) (e::es) [] cpos)) none pos) (p8 E C ta):=.mk (oV FB hB hg hm hC hh ha.to he hpl hd)
end
end L2
namespace L2
open PySem PySem.Spec PyProof.Rows
section
variable {κ:Type}[DecidableEq κ]
def bB (kvs:List (κ×V))(k:κ):Option V:=(kvs.find? fun kv=>decide (kv.1=k)).map (·.2)
def aZ (kvs:List (κ×V))(k:κ)(v:V):List (κ×V) :=
 if (kvs.any fun kv=>decide (kv.1=k))=true then kvs.map (fun kv=>if kv.1=k then (kv.1,v) else kv) else kvs++[(k,v)]
def bH (kvs:List (κ×V))(k:κ):List (κ×V):=kvs.filter fun kv=>decide (kv.1≠k)
theorem dq {p:κ×V}{r:List (κ×V)}{k:κ}(e:p.1=k):bB (p::r) k=some p.2:=by simp [bB,List.find?_cons,e]
theorem dw {p:κ×V}{r:List (κ×V)}{k:κ}(e:¬ p.1=k):bB (p::r) k=bB r k:=by simp [bB,List.find?_cons,e]
theorem kD (k:κ):∀kvs:List (κ×V),(kvs.any fun kv=>decide (kv.1=k))=(bB kvs k).isSome
 | []=>rfl
 | p::r=>by
  rw [List.any_cons]
  by_cases e:p.1=k
  .simp only [dq e,decide_eq_true e,Bool.true_or,Option.isSome_some]
  .rw [dw e,decide_eq_false e,Bool.false_or];exact kD k r
theorem dr (kvs:List (κ×V))(k:κ)(v:V):(aZ kvs k v).length<=kvs.length+1:=by
 unfold aZ
 split
 .rw [List.length_map];lia
 rw [List.length_append,List.length_cons,List.length_nil];lia
theorem RelO.isSome_eq {o:Option V}{u:Option Value}(r:RelO o u):o.isSome=u.isSome:=by
 cases o with
 | none=>cases u with
  | none=>rfl
  | some _=>exact (show False from r).elim
 | some _=>cases u with
  | none=>exact (show False from r).elim
  | some _=>rfl
theorem RelO.getD {o:Option V}{u:Option Value}{d:V}{d':Value}(r:RelO o u)(rd:RelV d d'):RelV (o.getD d) (u.getD d'):=by
 cases o with
 | none=>cases u with
  | none=>exact rd
  | some _=>exact (show False from r).elim
 | some _=>cases u with
  | none=>exact (show False from r).elim
  | some _=>exact r
theorem KV.val {kvs:List (κ×V)}{vs:List (κ×Value)}(r:KV kvs vs)(k:κ):RelO (bB kvs k) (valueAt vs k):=by
 unfold KV at r
 induction r with
 | nil=>exact True.intro
 | @cons p q ps qs h t ih =>
  obtain ⟨h1,h2⟩:=h
  by_cases e:p.1=k
  .have e':q.1=k:=h1.symm.trans e
   have b:valueAt (q::qs) k=some q.2:=by simp [valueAt,List.find?_cons,e']
   rw [dq e,b];exact h2
  .have e':¬ q.1=k:=fun z=>e (h1.trans z)
   have b:valueAt (q::qs) k=valueAt qs k:=by simp [valueAt,List.find?_cons,e']
   rw [dw e,b];exact ih
theorem KV.any {kvs:List (κ×V)}{vs:List (κ×Value)}(r:KV kvs vs)(k:κ):(kvs.any fun kv=>decide (kv.1=k))=vs.any fun kv=>decide (kv.1=k):=by
 unfold KV at r
 induction r with
 | nil=>rfl
 | cons h t ih=>rw [List.any_cons,List.any_cons,ih,h.1]
theorem KV.repl {kvs:List (κ×V)}{vs:List (κ×Value)}(r:KV kvs vs)(k:κ){y:V}{u:Value}(ry:RelV y u) :
  KV (kvs.map fun kv=>if kv.1=k then (kv.1,y) else kv) (vs.map fun kv=>if kv.1=k then (kv.1,u) else kv):=by
 unfold KV at r ⊢
 induction r with
 | nil=>exact .nil
 | @cons p q ps qs h t ih =>
  rw [List.map_cons,List.map_cons]
  refine .cons ?_ ih
  obtain ⟨h1,h2⟩:=h
  by_cases e:p.1=k
  .rw [if_pos e,if_pos (h1.symm.trans e)];exact ⟨h1,ry⟩
  .rw [if_neg e,if_neg (fun z=>e (h1.trans z))];exact ⟨h1,h2⟩
theorem KV.put {kvs:List (κ×V)}{vs:List (κ×Value)}(r:KV kvs vs)(k:κ){y:V}{u:Value}(ry:RelV y u):KV (aZ kvs k y) (stored vs k u):=by
 unfold aZ stored
 rw [r.any k]
 by_cases e:(vs.any fun kv=>decide (kv.1=k))=true
 .rw [if_pos e,if_pos e];exact r.repl k ry
 rw [if_neg e,if_neg e];exact Paired.snoc r ⟨rfl,ry⟩
theorem KV.drop {kvs:List (κ×V)}{vs:List (κ×Value)}(r:KV kvs vs)(k:κ):KV (bH kvs k) (without vs k):=by
 unfold KV at r ⊢
 unfold bH without
 induction r with
 | nil=>exact .nil
 | @cons p q ps qs h t ih =>
  obtain ⟨h1,h2⟩:=h
  rw [List.filter_cons,List.filter_cons]
  by_cases e:p.1=k
  .have a:¬ decide (p.1≠k)=true:=by simp [e]
   have b:¬ decide (q.1≠k)=true:=by simp [h1.symm.trans e]
   rw [if_neg a,if_neg b];exact ih
  .have e':¬ q.1=k:=fun z=>e (h1.trans z)
   have a:decide (p.1≠k)=true:=by simp [e]
   have b:decide (q.1≠k)=true:=by simp [e']
   rw [if_pos a,if_pos b];exact .cons ⟨h1,h2⟩ ih
theorem KV.keys {kvs:List (κ×V)}{vs:List (κ×Value)}(r:KV kvs vs):kvs.map (·.1)=vs.map (·.1):=by
 unfold KV at r
 induction r with
 | nil=>rfl
 | cons h t ih=>rw [List.map_cons,List.map_cons,ih,h.1]
theorem KV.length {kvs:List (κ×V)}{vs:List (κ×Value)}(r:KV kvs vs):kvs.length=vs.length:=Paired.length r
theorem rT (kvs:List (κ×V))(k:κ):(bH kvs k).length<=kvs.length:=List.length_filter_le _ _
end
theorem fu {P:Program}{w:World}{k:Key}{u:Value}(r:RelV (kV k) u):(mixKind P w).is k u=true:=by
 cases k with
 | inl i=>obtain ⟨t,e⟩:=(show ∃ t,u=Value.int i t from r);subst e;exact jM P w i t
 | inr x=>obtain ⟨t,e⟩:=(show ∃ t,u=Value.str x t from r);subst e;exact cw P w x t
theorem iN {P:Program}{w:World}:∀{ks:List Key} {us:List Value},Vals (ks.map kV) us->ItemsAre (mixKind P w) ks us
 | [],_,r=>by rw [List.map_nil] at r;cases r;exact .nil
 | k::ks,_,r=>by
  rw [List.map_cons] at r
  cases r with
  | cons h t=>exact .cons (fu h) (iN t)
abbrev KT (H:Hp):List (List Key×V)->List (List Key×Addr×Value)->Prop:=Paired fun p q=>p.1=q.1/\H q.2.1=some (.tup (p.1.map kV))/\RelV p.2 q.2.2
theorem KT.val {H:Hp}{kvs:List (List Key×V)}{xs:List (List Key×Addr×Value)}(r:KT H kvs xs)(k:List Key):RelO (bB kvs k) ((atKey xs k).map (·.2)):=by
 induction r with
 | nil=>exact True.intro
 | @cons p q ps qs h t ih =>
  obtain ⟨h1,_,h2⟩:=h
  by_cases e:p.1=k
  .have e':q.1=k:=h1.symm.trans e
   have b:atKey (q::qs) k=some q.2:=by simp [atKey,List.find?_cons,e']
   rw [dq e,b];exact h2
  .have e':¬ q.1=k:=fun z=>e (h1.trans z)
   have b:atKey (q::qs) k=atKey qs k:=by simp [atKey,List.find?_cons,e']
   rw [dw e,b];exact ih
theorem KT.repl {H:Hp}{kvs:List (List Key×V)}{xs:List (List Key×Addr×Value)}(r:KT H kvs xs)(k:List Key){y:V}{u:Value}(ry:RelV y u) :
  KT H (kvs.map fun kv=>if kv.1=k then (kv.1,y) else kv) (xs.map (putAt k u)):=by
 induction r with
 | nil=>exact .nil
 | @cons p q ps qs h t ih =>
  rw [List.map_cons,List.map_cons]
  refine .cons ?_ ih
  obtain ⟨h1,h2,h3⟩:=h
  unfold putAt
  by_cases e:p.1=k
  .rw [if_pos e,if_pos (h1.symm.trans e)];exact ⟨h1,h2,ry⟩
  .rw [if_neg e,if_neg (fun z=>e (h1.trans z))];exact ⟨h1,h2,h3⟩
theorem KT.put {H:Hp}{kvs:List (List Key×V)}{xs:List (List Key×Addr×Value)}(r:KT H kvs xs)(k:List Key){b:Addr}{y:V}{u:Value}(hb:H b=some (.tup (k.map kV)))(ry:RelV y u) :
  KT H (aZ kvs k y) (storedH xs k b u):=by
 have e:(kvs.any fun kv=>decide (kv.1=k))=(atKey xs k).isSome:=by
  rw [kD,(r.val k).isSome_eq,Option.isSome_map]
 unfold aZ storedH
 rw [e]
 by_cases q:(atKey xs k).isSome=true
 .rw [if_pos q,if_pos q];exact r.repl k ry
 rw [if_neg q,if_neg q];exact Paired.snoc r ⟨rfl,hb,ry⟩
theorem KT.keeps {H H':Hp}{kvs:List (List Key×V)}{xs:List (List Key×Addr×Value)}(r:KT H kvs xs)(ht:∀b ys,H b=some (.tup ys)->H' b=some (.tup ys)):KT H' kvs xs :=
 Paired.mapP r fun _ _ z=>⟨z.1,ht _ _ z.2.1,z.2.2⟩
section
variable {P:Program}{w:World}{H:Hp}{h:Heap}{a:Addr}
theorem vK {u:HO}(ok:HOk P w H h)(e:Rd H a u):ObjOk P w H h a u:=e.ok ok
theorem fY {kvs:List (Key×V)}(ok:HOk P w H h)(e:Rd H a (.dK kvs)):kvs.length<=sizeLine/\(a == sysModules)=false/\∃ vs,KV kvs vs/\h.DictOf (mixKind P w) a vs :=
 show ObjOk P w H h a (.dK kvs) from vK ok e
theorem iP {kvs:List (Key×V)}(ok:HOk P w H h)(e:H a=some (.dK kvs)):kvs.length<=sizeLine/\(a == sysModules)=false/\∃ vs,KV kvs vs/\h.DictOf (mixKind P w) a vs:=fY ok (.inl e)
theorem fN {ks:List Key}(ok:HOk P w H h)(e:H a=some (.tup (ks.map kV))):(tupleKind (mixKind P w)).is h ks a:=by
 obtain ⟨_,its,r,o,h1,h2,n,h3⟩:=(show ObjOk P w H h a (.tup (ks.map kV)) from ok a _ e)
 exact ⟨o,its.toArray,n,h1,h2,h3,by simpa using iN r⟩
theorem gN {kvs:List (List Key×V)}(ok:HOk P w H h)(e:Rd H a (.dT kvs)):kvs.length<=sizeLine/\(a == sysModules)=false /\
  ∃ xs,KT H kvs xs/\h.DictOfH (tupleKind (mixKind P w)) a xs:=by
 obtain ⟨z,y,xs,r,o,es,ep,h1,h2,h3,h4,h5⟩:=(show ObjOk P w H h a (.dT kvs) from vK ok e)
 refine ⟨z,y,xs,r,o,es,ep,h1,h2,h3,h4,fun x hx=>?_,h5⟩
 have all:∀{l:List (List Key×V)} {m:List (List Key×Addr×Value)},KT H l m->∀x∈m,(tupleKind (mixKind P w)).is h x.1 x.2.1:=by
  intro l m q
  induction q with
  | nil=>intro x hx;exact nomatch hx
  | @cons p q ps qs hq t ih =>
   intro x hx
   rcases List.mem_cons.mp hx with e | hx
   .subst e
    exact fN ok (by rw [<-hq.1];exact hq.2.1)
   .exact ih x hx
 exact all r x hx
theorem yo {kvs:List (List Key×V)}(ok:HOk P w H h)(e:H a=some (.dT kvs)):kvs.length<=sizeLine/\(a == sysModules)=false /\
  ∃ xs,KT H kvs xs/\h.DictOfH (tupleKind (mixKind P w)) a xs:=gN ok (.inl e)
end
def DGet (H:Hp)(a:Addr)(y:V)(r:Option V):Prop :=
 (∃ kvs k,Rd H a (.dK kvs)/\y=kV k/\r=bB kvs k)∨∃ kvs k b,Rd H a (.dT kvs)/\y=.ref b/\H b=some (.tup (k.map kV))/\r=bB kvs k
def DPut (H:Hp)(a:Addr)(y v:V)(H':Hp):Prop :=
 (∃ kvs k,H a=some (.dK kvs)/\y=kV k/\kvs.length<sizeLine/\H'=upd H a (.dK (aZ kvs k v))) ∨
 ∃ kvs k b,H a=some (.dT kvs)/\y=.ref b/\H b=some (.tup (k.map kV))/\kvs.length<sizeLine/\H'=upd H a (.dT (aZ kvs k v))
theorem DGet.k {H:Hp}{a:Addr}{kvs:List (Key×V)}{k:Key}(e:H a=some (.dK kvs)):DGet H a (kV k) (bB kvs k):=.inl ⟨kvs,k,.inl e,rfl,rfl⟩
theorem DPut.k {H:Hp}{a:Addr}{kvs:List (Key×V)}{k:Key}{v:V}(e:H a=some (.dK kvs))(hl:kvs.length<sizeLine):DPut H a (kV k) v (upd H a (.dK (aZ kvs k v))):=.inl ⟨kvs,k,e,rfl,hl,rfl⟩
section
variable {X:Cx}{pins:List (Addr×Obj)}{σ:St}{H:Hp}{s:Shared}{a:Addr}{y v:V}{u r:Value}{o:Option V}{A:Around}{E:Value->Shared->Prop}
theorem Inv.big (I:Inv X pins σ H s):sysModules<s.heap.objs.size:=by
 have h:mainGlobals<s.heap.objs.size:=(I.mod.glob.keeps I.bk).lt
 exact Nat.lt_trans zj h
theorem o0 {Q:Value->Shared->Prop}(hu:A.units+1<cLine)(I:Inv X pins σ H s)(g:DGet H a y (some v))(ry:RelV y u)(h:∀w' s',Inv X pins σ H s'->RelV v w'->Q w' s') :
  wpAny (model X.prog X.w) A (getItem (.ref a) u) Q E s:=by
 rcases g with ⟨kvs,k,e,ey,l⟩ | ⟨kvs,k,b,e,ey,eb,l⟩
 .subst ey
  obtain ⟨z,hd,vs,rel,dd⟩:=fY I.hok e
  obtain ⟨w',hw,rw'⟩:=RelO.some_of (v:=v) (o:=valueAt vs k) (by rw [l];exact rel.val k)
  exact wpAny_getItem_of (fu ry) dd.mapOf hw (h w' _ (I.tok _) rw')
 subst ey
 cases (show u=Value.ref b from ry)
 obtain ⟨z,hd,xs,rel,dd⟩:=gN I.hok e
 obtain ⟨w',hw,rw'⟩:=RelO.some_of (v:=v) (o:=(atKey xs k).map (·.2)) (by rw [l];exact rel.val k)
 obtain ⟨p,hp,hp2⟩:=Option.map_eq_some_iff.mp hw
 refine wpAny_getItem_heap (tupleKind_room_in1 hu) (fN I.hok eb) dd hp ?_
 rw [hp2]
 exact h w' _ (I.tok _) rw'
theorem y4 {Q:Value->Shared->Prop}(hu:A.units+1<cLine)(I:Inv X pins σ H s)(g:DGet H a y o)(ry:RelV y u)(h:∀s',Inv X pins σ H s'->Q (.bool o.isSome) s') :
  wpAny (model X.prog X.w) A (compareOp .In u (.ref a)) Q E s:=by
 rcases g with ⟨kvs,k,e,ey,l⟩ | ⟨kvs,k,b,e,ey,eb,l⟩
 .subst ey
  obtain ⟨z,hd,vs,rel,dd⟩:=fY I.hok e
  refine wpAny_in_of (fu ry) hd dd.mapOf ?_
  rw [<-(rel.val k).isSome_eq,<-l]
  exact h _ (I.tok _)
 subst ey
 cases (show u=Value.ref b from ry)
 obtain ⟨z,hd,xs,rel,dd⟩:=gN I.hok e
 refine wpAny_in_heap (tupleKind_room_in1 hu) (fN I.hok eb) hd dd ?_
 have q:=(rel.val k).isSome_eq
 rw [Option.isSome_map] at q
 rw [<-q,<-l]
 exact h _ (I.tok _)
theorem u5 {Q:Value->Shared->Prop}(hu:A.units+1<cLine)(I:Inv X pins σ H s)(g:DGet H a y o)(ry:RelV y u)(h:∀s',Inv X pins σ H s'->Q (.bool (!o.isSome)) s') :
  wpAny (model X.prog X.w) A (compareOp .NotIn u (.ref a)) Q E s:=by
 rcases g with ⟨kvs,k,e,ey,l⟩ | ⟨kvs,k,b,e,ey,eb,l⟩
 .subst ey
  obtain ⟨z,hd,vs,rel,dd⟩:=fY I.hok e
  refine wpAny_notIn_of (fu ry) hd dd.mapOf ?_
  rw [<-(rel.val k).isSome_eq,<-l]
  exact h _ (I.tok _)
 subst ey
 cases (show u=Value.ref b from ry)
 obtain ⟨z,hd,xs,rel,dd⟩:=gN I.hok e
 refine wpAny_notIn_heap (tupleKind_room_in1 hu) (fN I.hok eb) hd dd ?_
 have q:=(rel.val k).isSome_eq
 rw [Option.isSome_map] at q
 rw [<-q,<-l]
 exact h _ (I.tok _)
theorem gi {h':Heap}{t':Nat}{ob:HO}(I:Inv X pins σ H s)(mu:Mut (H a))(hs:Heap.SameBut a s.heap h')(he:∃ q,h'.get? a=some q)(new:ObjOk X.prog X.w (upd H a ob) h' a ob) :
  Inv X pins σ (upd H a ob) { s with heap:=h',toks:=t' } :=
 I.write (x:=a) (e:=a) mu (.inl rfl) (fun b q hb z=>(hs.2 b hb).trans z) he new
theorem lM {P:Program}{w:World}{H':Hp}{h':Heap}{kvs:List (Key×V)}{vs:List (Key×Value)}(z:kvs.length<=sizeLine)(hd:(a == sysModules)=false)(rel:KV kvs vs)(dd:h'.DictOf (mixKind P w) a vs) :
  ObjOk P w H' h' a (.dK kvs):=⟨z,hd,vs,rel,dd⟩
theorem oW {H':Hp}{Q:Unit->Shared->Prop}(hu:A.units+1<cLine)(I:Inv X pins σ H s)(g:DPut H a y v H')(ry:RelV y u)(rv:RelV v r)(h:∀s',Inv X pins σ H' s'->Q () s') :
  wpAny (model X.prog X.w) A (setItem (.ref a) u r) Q E s:=by
 rcases g with ⟨kvs,k,e,ey,l,eH⟩ | ⟨kvs,k,b,e,ey,eb,l,eH⟩
 .subst ey eH
  obtain ⟨z,hd,vs,rel,dd⟩:=iP I.hok e
  have hz:vs.length<=sizeLine:=by rw [<-rel.length];exact z
  have hl:(aZ kvs k v).length<=sizeLine:=by have:=dr kvs k v;lia
  refine wpAny_setItem_pairs (hsz:=hz) (fu ry) dd fun h' dd' hs=>h _ ?_
  have he:∃ q,h'.get? a=some q:=let ⟨q,_,_,hq,_⟩:=dd';⟨q,hq⟩
  exact gi I (by rw [e];exact True.intro) hs he (lM hl hd (rel.put k rv) dd')
 subst ey eH
 cases (show u=Value.ref b from ry)
 obtain ⟨z,hd,xs,rel,dd⟩:=yo I.hok e
 have hz:xs.length<=sizeLine:=by rw [<-Paired.length rel];exact z
 have hl:(aZ kvs k v).length<=sizeLine:=by have:=dr kvs k v;lia
 refine wpAny_setItem_heap (hsz:=hz) (tupleKind_room_in1 hu) (fN I.hok eb) dd fun h' dd' hs=>h _ ?_
 obtain ⟨q,es,ep,hq,h2,h3,h4,_,h5⟩:=dd'
 refine gi I (by rw [e];exact True.intro) hs ⟨q,hq⟩ ⟨hl,hd,_,(rel.put k eb rv).keeps fun c ys ec=>?_,q,es,ep,hq,h2,h3,h4,h5⟩
 rw [ak (bA ec e (fun z=>nomatch z))]
 exact ec
end
section
variable {X:Cx}{pins:List (Addr×Obj)}{σ:St}{H:Hp}{s:Shared}{a:Addr}{kvs:List (Key×V)}{k:Key}{u:Value}{A:Around}{E:Value->Shared->Prop}
theorem xQ {v:V}{more:List Value}{Q:Value->Shared->Prop}(I:Inv X pins σ H s)(e:H a=some (.dK kvs))(ry:RelV (kV k) u)(l:bB kvs k=some v)(hm:more=[]∨∃ x,more=[x])
  (h:∀w' s',Inv X pins σ (upd H a (.dK (bH kvs k))) s'->RelV v w'->Q w' s'):wpAny (model X.prog X.w) A (call (.builtin "dict.pop") (.ref a::u::more)) Q E s:=by
 obtain ⟨z,hd,vs,rel,dd⟩:=iP I.hok e
 obtain ⟨w',hw,rw'⟩:=RelO.some_of (v:=v) (o:=valueAt vs k) (by rw [<-l];exact rel.val k)
 have hp:(keyPart u).isSome=true:=by
  cases k with
  | inl i=>obtain ⟨t,q⟩:=(show ∃ t,u=Value.int i t from ry);subst q;rfl
  | inr x=>obtain ⟨t,q⟩:=(show ∃ t,u=Value.str x t from ry);subst q;rfl
 have ha:argsOk "dict.pop" ⟨.ref a::u::more,[]⟩:=by
  rcases hm with q | ⟨x,q⟩
  .subst q;exact PySem.F.args_dict_pop_2 _ _
  .subst q;exact PySem.F.args_dict_pop_3 _ _ _
 refine call_meetsIn PySem.F.slot_dict_pop dd.typeIs PySem.F.entry_dict_pop ha (meets_dict_pop_there (mixKind X.prog X.w) a (fu ry) more hm hp)
  ⟨vs,w',dd,by rw [<-rel.length];exact z,hw,fun h' dd' hs=>h w' _ ?_ rw'⟩
 have he:∃ q,h'.get? a=some q:=let ⟨q,_,_,hq,_⟩:=dd';⟨q,hq⟩
 exact gi I (by rw [e];exact True.intro) hs he (lM (Nat.le_trans (rT kvs k) z) hd (rel.drop k) dd')
theorem yL {Q:Value->Shared->Prop}(I:Inv X pins σ H s)(e:Rd H a (.dK kvs))(h:∀t s',Inv X pins σ H s'->Q (.int kvs.length t) s'):wpAny (model X.prog X.w) A (call (.builtin "len") [.ref a]) Q E s:=by
 obtain ⟨z,hd,vs,rel,dd⟩:=fY I.hok e
 refine call_len_dict hd dd (by rw [<-rel.length];rw [sizeLine_eq] at z;lia) ?_
 rw [<-rel.length]
 exact h _ _ (I.tok _)
end
def tR (i:Expr):Prop:=∀ov iv,subscripted i false ov iv=operate [ov,iv] (getItem ov iv)
theorem nE {prog:Program}{w:World}{A:Around}{E:Value->Shared->Prop}{s:Shared}{env:Env}{value slice:Expr}{pos:Pos}{T id:String}{Q:Value->Shared->Prop}
  (hl:typeLookup (.type T) "__getitem__"=pure (some (.builtin id))) (hs:tR slice)
  (h:wpAny (model prog w) A (eval value env) (fun o s₁=>wpAny (model prog w) A (eval slice env) (fun i s₂=>s₂.TypeIs o T/\wpAny (model prog w) A (getItem o i) Q E s₂) E s₁) E s) :
  wpAny (model prog w) A (eval (.Subscript value slice pos) env) Q E s:=by
 refine Subscript_ (wpAny_mono h (fun o s₁ h₁=>wpAny_mono h₁ (fun i s₂ h₂=>?_) fun _ _ x=>x) fun _ _ x=>x)
 obtain ⟨hT,h₂⟩:=h₂
 unfold subscriptTail
 refine wpAny_bind ?_
 rw [getitemInPython_of_ne hT.not_modules]
 refine wpAny_bind (wpAny_specialOf hT hl ?_)
 have fin:wpAny (model prog w) A (subscripted slice false o i) (fun r s₃=>wpAny (model prog w) A (letTemporaryGo value o r >>= fun _=>pure r) Q E s₃) E s₂:=by
  rw [hs o i]
  exact wpAny_operating (wpAny_mono h₂ (fun r s₃ h₃=>wpAny_bind (wpAny_letTemporaryGo (wpAny_pure h₃))) fun _ _ x=>x)
 first
  | exact wpAny_pure (wpAny_bind fin)
  | exact wpAny_bind (wpAny_pure (wpAny_bind fin))
  | exact wpAny_bind fin
theorem jR {X:Cx}{pins:List (Addr×Obj)}{σ:St}{H:Hp}{s:Shared}{a:Addr}{y:V}{o:Option V}(I:Inv X pins σ H s)(g:DGet H a y o):s.TypeIs (.ref a) "dict":=by
 rcases g with ⟨kvs,k,e,_,_⟩ | ⟨kvs,k,b,e,_,_,_⟩
 .obtain ⟨_,_,vs,_,dd⟩:=fY I.hok e
  exact dd.typeIs
 obtain ⟨_,_,xs,_,dd⟩:=gN I.hok e
 exact dd.typeIs
def vn (td ty:TE):TE:=fun σ H Q=>td σ H fun x H1=>ty σ H1 fun y H2=>∃ a v,x=.ref a/\DGet H2 a y (some v)/\Q v H2
def xq (ty td:TE):TE:=fun σ H Q=>ty σ H fun y H1=>td σ H1 fun x H2=>∃ a o,x=.ref a/\DGet H2 a y o/\Q (.bl o.isSome) H2
def ow (ty td:TE):TE:=fun σ H Q=>ty σ H fun y H1=>td σ H1 fun x H2=>∃ a o,x=.ref a/\DGet H2 a y o/\Q (.bl (!o.isSome)) H2
def vF (td ty tv:TE):TS:=fun D σ H=>tv σ H fun v H1=>td σ H1 fun x H2=>ty σ H2 fun y H3=>∃ a H4,x=.ref a/\DPut H3 a y v H4/\D.nx σ H4
section
variable {X:Cx}{o i e value:Expr}{pos pos' tpos:Pos}{td ty tv:TE}
theorem uF (hu:X.A.units+1<cLine)(ho:PE X o td)(hi:PE X i ty)(hs:tR i):PE X (.Subscript o i pos) (vn td ty):=by
 intro pins s σ H Q I h
 refine nE PySem.F.slot_dict_getitem.lookup hs (thn (ho pins s σ H _ I h) fun u s1 ⟨x,H1,I1,rx,q1⟩=>thn (hi pins s1 σ H1 _ I1 q1) fun iv s2 zz=>?_)
 obtain ⟨y,H2,I2,ry,a,v,ex,g,q2⟩:=zz
 subst ex
 obtain rfl:u=Value.ref a:=rx
 exact ⟨jR I2 g,o0 hu I2 g ry fun w' s3 I3 rw'=>⟨v,H2,I3,rw',q2⟩⟩
theorem qK (hu:X.A.units+1<cLine)(hi:PE X i ty)(ho:PE X o td):PC X .In i o (xq ty td):=by
 intro pins s σ H Q I h
 refine thn (hi pins s σ H _ I h) fun iv s1 ⟨y,H1,I1,ry,q1⟩=>thn (ho pins s1 σ H1 _ I1 q1) fun u s2 zz=>?_
 obtain ⟨x,H2,I2,rx,a,ov,ex,g,q2⟩:=zz
 subst ex
 obtain rfl:u=Value.ref a:=rx
 exact y4 hu I2 g ry fun s3 I3=>⟨.bl ov.isSome,H2,I3,rfl,q2⟩
theorem pK (hu:X.A.units+1<cLine)(hi:PE X i ty)(ho:PE X o td):PC X .NotIn i o (ow ty td):=by
 intro pins s σ H Q I h
 refine thn (hi pins s σ H _ I h) fun iv s1 ⟨y,H1,I1,ry,q1⟩=>thn (ho pins s1 σ H1 _ I1 q1) fun u s2 zz=>?_
 obtain ⟨x,H2,I2,rx,a,ov,ex,g,q2⟩:=zz
 subst ex
 obtain rfl:u=Value.ref a:=rx
 exact u5 hu I2 g ry fun s3 I3=>⟨.bl (!ov.isSome),H2,I3,rfl,q2⟩
theorem tF (hu:X.A.units+1<cLine)(ho:PE X o td)(hi:PE X i ty)(hv:PE X value tv)(hs:swapsWith value (some (.Subscript o i pos')) pos.line X.env=pure false) :
  PS X (.Assign [.Subscript o i pos'] value pos) (vF td ty tv):=by
 intro pins s σ H D I h
 refine wpAny_Assign_Subscript (thn (hv pins s σ H _ I h) fun r s1 ⟨v,H1,I1,rv,q1⟩=>thn (ho pins s1 σ H1 _ I1 q1) fun u s2 ⟨x,H2,I2,rx,q2⟩=>thn (hi pins s2 σ H2 _ I2 q2) fun iv s3 zz=>?_) hs
 obtain ⟨y,H3,I3,ry,a,H4,ex,g,q3⟩:=zz
 subst ex
 obtain rfl:u=Value.ref a:=rx
 exact oW hu I3 g ry rv fun s4 I4=>⟨σ,H4,I4,q3⟩
end
theorem kB {P:Program}{w:World}{H:Hp}(h:Heap)(hb:sysModules<h.objs.size):ObjOk P w H (h.push { cls:=.type "dict",data:=.dict #[] }) h.objs.size (.dK []) :=
 ⟨Nat.zero_le _,beq_eq_false_iff_ne.mpr (Ne.symm (Nat.ne_of_lt hb)),[],.nil,Heap.DictOf.new h⟩
def qW:TE:=fun _ H Q=>∀p,H p=none->Q (.ref p) (upd H p (.dK []))
section
variable {X:Cx}{pos:Pos}
theorem qN:PE X (.Dict [] [] pos) qW:=fun pins s σ H Q I h =>
 wpAny_Dict_empty ⟨.ref s.heap.objs.size,_,I.laid (a:=s.heap.objs.size) (o:=.dK []) (t':=s.toks) (fun _ _ q=>Heap.get?_push_of_some _ q) (Nat.le_refl _) (kB s.heap I.big),rfl,h _ (I.hok.fresh (Nat.le_refl _))⟩
end
def lR:List (TE×TE)->St->Hp->(List (V×V)->Hp->Prop)->Prop
 | [],_,H,Q=>Q [] H
 | (tk,tv)::r,σ,H,Q=>tk σ H fun x H1=>tv σ H1 fun y H2=>lR r σ H2 fun ps H3=>Q ((x,y)::ps) H3
abbrev VV:List (V×V)->List (Value×Value)->Prop:=Paired fun p q=>RelV p.1 q.1/\RelV p.2 q.2
def PPs (X:Cx)(pos:Pos)(keys:List (Option Expr))(values:List Expr)(trs:List (TE×TE)):Prop :=
 ∀(pins:List (Addr×Obj)) (s:Shared) (σ:St) (H:Hp) (Q:List (V×V)->Hp->Prop),Inv X pins σ H s->lR trs σ H Q ->
  wpAny (model X.prog X.w) X.A (evalPairs (pairTrees keys values X.env pos)) (fun vs s'=>∃ ps H',Inv X pins σ H' s'/\VV ps vs/\Q ps H') X.xe s
theorem ua {X:Cx}{pos:Pos}:PPs X pos [] [] []:=fun pins s σ H Q I h=>pairTrees_nil_walk ⟨[],H,I,.nil,h⟩
theorem cZ {X:Cx}{pos:Pos}{k v:Expr}{ks:List (Option Expr)}{vs:List Expr}{tk tv:TE}{trs:List (TE×TE)}(hk:PE X k tk)(hv:PE X v tv)(hr:PPs X pos ks vs trs) :
  PPs X pos (some k::ks) (v::vs) ((tk,tv)::trs):=fun pins s σ H Q I h =>
 pairTrees_cons_walk (thn (hk pins s σ H _ I h) fun u s1 ⟨x,H1,I1,rx,q1⟩=>thn (hv pins s1 σ H1 _ I1 q1) fun w2 s2 ⟨y,H2,I2,ry,q2⟩ =>
  thn (hr pins s2 σ H2 _ I2 q2) fun ws s3 ⟨ps,H3,I3,rel,q3⟩=>⟨(x,y)::ps,H3,I3,.cons ⟨rx,ry⟩ rel,q3⟩)
def fP (kvs more:List (Key×V)):List (Key×V):=more.foldl (fun acc kv=>aZ acc kv.1 kv.2) kvs
theorem KV.merge:∀{more:List (Key×V)} {rs:List (Key×Value)} {kvs:List (Key×V)} {vs:List (Key×Value)},KV more rs->KV kvs vs->KV (fP kvs more) (merged vs rs):=by
 intro more rs kvs vs r
 unfold KV at r
 induction r generalizing kvs vs with
 | nil=>intro q;exact q
 | @cons p q ps qs h t ih =>
  intro r0
  have e:KV (aZ kvs p.1 p.2) (stored vs q.1 q.2):=by
   have:=r0.put p.1 h.2
   rw [<-h.1];exact this
  exact ih e
theorem dO:∀(more kvs:List (Key×V)),(fP kvs more).length<=kvs.length+more.length
 | [],kvs=>by show kvs.length<=kvs.length+0;lia
 | p::r,kvs=>by
  have h1:=dO r (aZ kvs p.1 p.2)
  have h2:=dr kvs p.1 p.2
  show (fP (aZ kvs p.1 p.2) r).length<=_
  rw [List.length_cons];lia
theorem gv {P:Program}{w:World}:∀{kvs:List (Key×V)} {ws:List (Value×Value)},VV (kvs.map fun kv=>(kV kv.1,kv.2)) ws->∃ rs,Carries (mixKind P w) ws rs/\KV kvs rs
 | [],_,r=>by rw [List.map_nil] at r;cases r;exact ⟨[],True.intro,.nil⟩
 | p::kvs,_,r=>by
  rw [List.map_cons] at r
  cases r with
  | @cons a b as bs h t =>
   obtain ⟨rs,c,q⟩:=gv (P:=P) (w:=w) t
   obtain ⟨b1,b2⟩:=b
   exact ⟨(p.1,b2)::rs,⟨fu h.1,rfl,c⟩,.cons ⟨rfl,h.2⟩ q⟩
def vW (trs:List (TE×TE)):TE:=fun σ H Q=>∀p,H p=none->lR trs σ (upd H p (.dK [])) fun ps H2=>H2 p=some (.dK [])/\∃ kvs:List (Key×V),ps=kvs.map (fun kv=>(kV kv.1,kv.2))/\kvs.length<=15/\Q (.ref p) (upd H2 p (.dK (fP [] kvs)))
theorem vc {X:Cx}{pos:Pos}{keys:List (Option Expr)}{values:List Expr}{trs:List (TE×TE)}(h:PPs X pos keys values trs)(hall:keys.all (·.isSome)=true)(hl:keys.length=values.length)(h0:keys≠[])
  (h15:keys.length<=15):PE X (.Dict keys values pos) (vW trs):=by
 intro pins s σ H Q I q
 have hn:=I.hok.fresh (Nat.le_refl s.heap.objs.size)
 have I1:=I.laid (a:=s.heap.objs.size) (o:=.dK []) (h':=s.heap.push { cls:=.type "dict",data:=.dict #[] }) (t':=s.toks) (fun _ _ q=>Heap.get?_push_of_some _ q) (Nat.le_refl _) (kB s.heap I.big)
 refine wpAny_Dict_walk (knd:=mixKind X.prog X.w) hall hl h0 h15 (thn (h pins _ σ _ _ I1 (q _ hn)) fun ws s2 zz=>?_)
 obtain ⟨ps,H2,I2,rel,e,kvs,ep,lk,q2⟩:=zz
 subst ep
 obtain ⟨rs,c,rk⟩:=gv (P:=X.prog) (w:=X.w) rel
 obtain ⟨z,hd,vs0,r0,dd⟩:=iP I2.hok e
 cases r0
 refine ⟨rs,c,dd,fun h' dd' hs=>⟨.ref s.heap.objs.size,_,?_,rfl,q2⟩⟩
 have hz:(fP [] kvs).length<=sizeLine:=by
  have h1:=dO kvs []
  rw [List.length_nil] at h1
  rw [sizeLine_eq];lia
 have he:∃ q,h'.get? s.heap.objs.size=some q:=let ⟨q,_,_,hq,_⟩:=dd';⟨q,hq⟩
 exact gi I2 (by rw [e];exact True.intro) hs he (lM hz hd (rk.merge .nil) dd')
structure M1 (X:Cx)(o:Expr)(m:Str)(apos:Pos)(e:Expr)(cpos:Pos):Prop where
 base:attributeBase o m X.env (eval o X.env)=eval o X.env
 few:((backTo cpos (starEach [e] X.env)).all (fun x=>!x.1)&&(backToKw cpos (keywordEach [] X.env)).all (fun x=>x.1.isSome)
  && decide (([e]:List Expr).length+([]:List Keyword).length+(if ([]:List Keyword).isEmpty then 0 else 1)<30))=true
 line:(apos.endLine == cpos.line)=true
 trees:backTo cpos (starEach [e] X.env)=[(false,eval e X.env)]
def IsD (H:Hp)(a:Addr):Prop:=(∃ kvs,Rd H a (.dK kvs))∨∃ kvs,Rd H a (.dT kvs)
theorem sg {X:Cx}{pins:List (Addr×Obj)}{σ:St}{H:Hp}{s:Shared}{a:Addr}(I:Inv X pins σ H s)(d:IsD H a) :
  s.TypeIs (.ref a) "dict"/\(∀b,Value.ref a=.ref b->∃ ob,s.heap.get? b=some ob/\ob.dict=none)/\(a == sysModules)=false:=by
 rcases d with ⟨kvs,e⟩ | ⟨kvs,e⟩
 .obtain ⟨_,hd,vs,_,dd⟩:=fY I.hok e
  refine ⟨dd.typeIs,fun b q=>?_,hd⟩
  cases q
  obtain ⟨ob,_,_,h1,h2,_⟩:=dd
  exact ⟨ob,h1,h2.2.1⟩
 obtain ⟨_,hd,xs,_,dd⟩:=gN I.hok e
 refine ⟨dd.typeIs,fun b q=>?_,hd⟩
 cases q
 obtain ⟨ob,_,_,h1,h2,_⟩:=dd
 exact ⟨ob,h1,h2.2.1⟩
section
variable {X:Cx}{pins:List (Addr×Obj)}{σ:St}{H:Hp}{s:Shared}{a:Addr}{y d:V}{u r:Value}{o:Option V}{A:Around}{E:Value->Shared->Prop}
theorem wv {Q:Value->Shared->Prop}(hu:A.units+1<cLine)(I:Inv X pins σ H s)(g:DGet H a y o)(ry:RelV y u)(h:∀w' s',Inv X pins σ H s'->RelV (o.getD .non) w'->Q w' s') :
  wpAny (model X.prog X.w) A (call (.builtin "dict.get") [.ref a,u]) Q E s:=by
 rcases g with ⟨kvs,k,e,ey,l⟩ | ⟨kvs,k,b,e,ey,eb,l⟩
 .subst ey
  obtain ⟨z,hd,vs,rel,dd⟩:=fY I.hok e
  refine call_meetsIn PySem.F.slot_dict_get dd.typeIs PySem.F.entry_dict_get (PySem.F.args_dict_get_2 _ _) (meets_dict_get (mixKind X.prog X.w) a (fu ry) hd) ⟨_,dd.mapOf,h _ _ (I.tok _) ?_⟩
  rw [l]
  exact (rel.val k).getD rfl
 subst ey
 cases (show u=Value.ref b from ry)
 obtain ⟨z,hd,xs,rel,dd⟩:=gN I.hok e
 refine call_meetsIn PySem.F.slot_dict_get dd.typeIs PySem.F.entry_dict_get (PySem.F.args_dict_get_2 _ _) (meetsH_dict_get (tupleKind (mixKind X.prog X.w)) a b hd) ⟨tupleKind_room_in1 hu,k,xs,fN I.hok eb,dd,h _ _ (I.tok _) ?_⟩
 rw [l]
 exact (rel.val k).getD rfl
end
def rM (td ty:TE):TE:=fun σ H Q=>td σ H fun x H1=>∃ a,x=.ref a/\IsD H1 a/\ty σ H1 fun y H2=>∃ o,DGet H2 a y o/\Q (o.getD .non) H2
def pU (td ty:TE):TE:=fun σ H Q=>td σ H fun x H1=>∃ a,x=.ref a/\IsD H1 a/\ty σ H1 fun y H2=>∃ kvs k v,H2 a=some (.dK kvs)/\y=kV k/\bB kvs k=some v/\Q v (upd H2 a (.dK (bH kvs k)))
section
variable {X:Cx}{o e f:Expr}{apos cpos:Pos}{td ty tx:TE}
theorem qU (hu:X.A.units+1<cLine)(ho:PE X o td)(he:PE X e ty)(m:M1 X o "get" apos e cpos):PE X (.Call (.Attribute o "get" apos) [e] [] cpos) (rM td ty):=by
 intro pins s σ H Q I h
 refine wpAny_Call_method m.base m.few m.line PySem.F.plainAttrs_dict PySem.F.slot_dict_get PySem.F.type_dict_get (thn (ho pins s σ H _ I h) fun u s1 zz=>?_)
 obtain ⟨x,H1,I1,rx,a,ex,d,q1⟩:=zz
 subst ex
 obtain rfl:u=Value.ref a:=rx
 obtain ⟨t1,t2,_⟩:=sg I1 d
 refine ⟨t1,t2,?_⟩
 rw [m.trees]
 refine Calls.callWith_builtin rfl (Calls.evalArgs_plain (Calls.spliced_cons (thn (he pins s1 σ H1 _ I1 q1) fun iv s2 ⟨y,H2,I2,ry,ov,g,q2⟩=>Calls.spliced_nil ?_)))
 exact wv hu I2 g ry fun w' s3 I3 rw'=>⟨_,H2,I3,rw',q2⟩
theorem qA (ho:PE X o td)(he:PE X e ty)(m:M1 X o "pop" apos e cpos):PE X (.Call (.Attribute o "pop" apos) [e] [] cpos) (pU td ty):=by
 intro pins s σ H Q I h
 refine wpAny_Call_method m.base m.few m.line PySem.F.plainAttrs_dict PySem.F.slot_dict_pop PySem.F.type_dict_pop (thn (ho pins s σ H _ I h) fun u s1 zz=>?_)
 obtain ⟨x,H1,I1,rx,a,ex,d,q1⟩:=zz
 subst ex
 obtain rfl:u=Value.ref a:=rx
 obtain ⟨t1,t2,_⟩:=sg I1 d
 refine ⟨t1,t2,?_⟩
 rw [m.trees]
 refine Calls.callWith_builtin rfl (Calls.evalArgs_plain (Calls.spliced_cons (thn (he pins s1 σ H1 _ I1 q1) fun iv s2 ⟨y,H2,I2,ry,kvs,k,v,ea,ey,l,q2⟩=>Calls.spliced_nil ?_)))
 subst ey
 exact xQ I2 ea ry l (.inl rfl) fun w' s3 I3 rw'=>⟨v,_,I3,rw',q2⟩
end
section
variable {X:Cx}
theorem cI:bQ X (.builtin "len") (fun xs H Q=>∃ a kvs,xs=[V.ref a]/\H a=some (.dK kvs)/\Q (.int kvs.length) H):=by
 intro pins s σ H xs us Q I r h
 obtain ⟨a,kvs,rfl,ha,q⟩:=h
 obtain ⟨u,rfl,ru⟩:=dh r
 cases ru
 exact yL I (.inl ha) fun t s' I'=>⟨.int kvs.length,H,I',⟨t,rfl⟩,q⟩
end
end L2
namespace L2
open PySem PySem.W PySem.Spec PySem.Calls PyProof.Rows
section
variable {P:Program}{w:World}{K:Frag}{mg:Str->Option Value}{base:Heap}{N:List Str}{qual:Str}{scope:Scope}{f:Addr}{cd:Value}{A:Around}{outer:List Env}{s₀:Shared}{H₀:Hp}{E:XK}
theorem bK {E':XK}(hE:∀c H',E' c none H'->E c none H'):bM (CXe P w) (bq (CXe P w) P w K mg base N qual scope f cd A outer s₀ H₀ E) E':=by
 intro pins σ H s v s' I h
 obtain ⟨e,C,H',B,a0,rfl,fl,kp,kt,hokB,o1,o2,q⟩:=I.xp h
 have hsub:∀b,b∈frs (envOfC qual scope s₀.heap.objs.size f cd::outer)->b=s₀.heap.objs.size∨b∈frs outer:=fun b hb=>by
  obtain ⟨env,he,hf⟩:=List.mem_filterMap.mp hb
  rcases List.mem_cons.mp he with rfl | he
  .exact .inl (Option.some.inj hf).symm
  .exact .inr (List.mem_filterMap.mpr ⟨env,he,hf⟩)
 have nL:∀b o,s₀.heap.get? b=some o->b∉frs outer->b∉frs (envOfC qual scope s₀.heap.objs.size f cd::outer):=fun b o e nb hb=>by
  rcases hsub b hb with rfl | z
  .exact absurd (Heap.lt_size e) (Nat.lt_irrefl _)
  .exact nb z
 refine fG I.ok.frames rfl fl fun h' fl' up=>?_
 have I2:=kp h' s'.toks fl'.1 up
 exact ⟨e,C,H',B,a0,rfl,I2.os,I2.bare,I2.base,⟨hokB,fun b o e n hb=>o1 b o e n List.not_mem_nil (nL b o e hb),fun b o e hb=>o2 b o e List.not_mem_nil (nL b o e hb)⟩,fl',hE _ _ q⟩
end
section
variable {X:Cx}
def vh (t:TE):TE:=fun σ H Q=>t σ H fun x H1=>∃ n:Str,x=.str n/\n.length<=1000/\∀r,Q (.str r) H1
theorem ig {a b:Str}(ha:a.length<=1000)(hb:b.length<=1000):(a++b).length<=sizeLine:=by
 rw [strLen_append]
 exact Nat.le_trans (Nat.add_le_add ha hb) zj
theorem qj {v:Expr}{c:Str}{j:Nat}{pos fpos cpos:Pos}{t:TE}(h:PE X v t)(hc:c.length<=1000):PE X (.JoinedStr [.FormattedValue v (-1) none fpos,.Constant (.str c) j cpos] pos) (vh t):=by
 intro pins s σ H Q I hq
 refine JoinedStr_many (joinParts_cons (FormattedValue_plain (thn (h pins s σ H _ I hq) fun u s1 zz=>?_)))
 obtain ⟨x,H1,I1,r1,n,ex,hn,q⟩:=zz
 subst ex
 obtain ⟨t0,rfl⟩:=r1
 have e0:(Str.empty++n).length<=1000:=by rw [strLen_append];show 0+n.length<=1000;lia
 refine formatField_str (fun t' tk=>⟨Nat.le_trans e0 zj,?_⟩) (Nat.le_trans hn zj)
 refine joinParts_cons (thn (lI (X:=X) (x:=c) (j:=j) (pos:=cpos) pins { s1 with toks:=tk } σ H1 (fun v H'=>v=.str c/\H'=H1) (I1.tok _) ⟨rfl,rfl⟩) fun u s2 zz=>?_)
 obtain ⟨y,H2,I2,r2,ey,eH⟩:=zz
 subst ey eH
 obtain ⟨t2,rfl⟩:=r2
 exact ⟨ig e0 hc,joinParts_nil ⟨.str _,H2,I2.tok _,⟨_,rfl⟩,q _⟩ (ig e0 hc)⟩
end
end L2
namespace L2
open PySem PySem.Spec PyProof.Rows
open PySem.SeqAt (EqAt RcAt RcNeAt)
section
variable {X:Cx}
theorem xv {H:Hp}{s:Shared}{A:Around}{i i' j j':Int}{n n':Str}{us vs:List Value}(r:Vals [.int i,.str n,.int j] us)(r':Vals [.int i',.str n',.int j'] vs) :
  ∃ e:Nat->Bool,(∀k (h1:k<us.toArray.size) (h2:k<vs.toArray.size),EqAt A s us.toArray[k] vs.toArray[k] (e k))/\us.length=3/\vs.length=3/\(((List.range 3).all e)=decide ([V.int i,.str n,.int j]=[.int i',.str n',.int j'])):=by
 obtain ⟨u0,u1,u2,rfl,a0,a1,a2⟩:=j5 r
 obtain ⟨v0,v1,v2,rfl,b0,b1,b2⟩:=j5 r'
 obtain ⟨e0,q0,z0⟩:=cJ (a:=.int i) (c:=.int i') A s trivial a0 b0
 obtain ⟨e1,q1,z1⟩:=cJ (a:=.str n) (c:=.str n') A s trivial a1 b1
 obtain ⟨e2,q2,z2⟩:=cJ (a:=.int j) (c:=.int j') A s trivial a2 b2
 refine ⟨fun k=>if k=0 then e0 else if k=1 then e1 else e2,fun k h1 h2=>?_,rfl,rfl,?_⟩
 .match k,h1,h2 with
  | 0,_,_=>exact q0
  | 1,_,_=>exact q1
  | 2,_,_=>exact q2
  | k+3,h1,_=>exact absurd h1 zl
 rw [Bool.eq_iff_iff,decide_eq_true_eq]
 have el:(List.range 3).all (fun k=>if k=0 then e0 else if k=1 then e1 else e2)=(e0&&(e1&&e2)):=by
  show (e0&&(e1&&(e2&&true)))=_
  rw [Bool.and_true]
 rw [el,Bool.and_eq_true,Bool.and_eq_true,z0,z1,z2]
 constructor
 .rintro ⟨h0,h1,h2⟩
  rw [h0,h1,h2]
 intro h
 injection h with h0 h
 injection h with h1 h
 injection h with h2 _
 exact ⟨h0,h1,h2⟩
theorem tV (hu:X.A.units<cLine):OpR X (compareOp .Eq) (fun x y H Q=>∃ a b xs ys,x=.ref a/\y=.ref b/\SqT X.K H a xs/\SqT X.K H b ys/\gc xs/\gc ys/\Q (.bl (decide (xs=ys))) H):=by
 intro pins s σ H x y v u Q I rx ry h
 obtain ⟨a,b,xs,ys,rfl,rfl,ha,hb,⟨i,n,j,rfl⟩,⟨i',n',j',rfl⟩,q⟩:=h
 cases rx
 cases ry
 obtain ⟨its,r,ht,_⟩:=I.tuple ha
 obtain ⟨its2,r2,ht2,_⟩:=I.tuple hb
 obtain ⟨e,he,l1,l2,ee⟩:=xv (H:=H) (s:=s) (A:=X.A.in1) r r2
 refine SeqAt.eq_tupleAt (e:=e) ht ht2 hu he ⟨.bl _,H,I,?_,q⟩
 show Value.bool _=Value.bool _
 rw [List.size_toArray,List.size_toArray,l1,l2,<-ee]
 show Value.bool ((List.range 3).all e&&true)=_
 rw [Bool.and_true]
end
end L2
namespace L2
open PySem PySem.W PySem.Spec PySem.Calls PyProof.Rows
structure ue (K:Frag)(C:Addr)(mc:Value)(m:Str)(f:Addr):Prop where
 ga:specialIn K (.ref C) "__getattribute__"=some (some (.builtin "type.__getattribute__"))
 rd:readsIn K C mc=true
 fc:findCls K (.ref C) mc m=some (.val (.ref f))
 kp:keepIn K (.ref f)=true
section
variable {X:Cx}{CX:CXT}{k:Nat}{f C:Addr}{mc:Value}{fd:FuncData}{ps:List Str}{sp:Sp}{dvs:List V}{ds:List Value}{E:XK}{m:Str}{pos apos:Pos}{e o:Expr}{es:List Expr}{t:TA}{pl:Sem Bool}
theorem ud (ho:PE X o (tC (.ref C)))(M:ue X.K C mc m f)(F:aA X.prog X.w X.K X.mg X.base CX k f fd ps sp)(hr:Room k X.A)(hb:Binds X.K fd ps ds)(hd:Vals dvs ds)(hx:bM CX X E)(ha:PA X (e::es) t)
  (hst:starEach (e::es) X.env=(false,eval e X.env)::starEach es X.env:=by rfl) (hpl:(backTo pos (starEach es X.env)).any (·.1)=false:=by rfl)
  (ht:eval (.Call (.Attribute o m apos) (e::es) [] pos) X.env=(do
   let ov <-eval o X.env
   standAt apos.atName
   let (f,first) <-holding [ov] (getMethod ov m pl)
   callWith pos f first (backTo pos (starEach (e::es) X.env)) (backToKw pos (keywordEach [] X.env))):=by rfl) :
  PE X (.Call (.Attribute o m apos) (e::es) [] pos) (jP sp dvs E t):=by
 intro pins s σ H Q I h
 refine methodCall_KW (pl:=pl) (thn (ho pins s σ H (fun v H'=>v=.ref C/\H'=H) I ⟨rfl,rfl⟩) fun u s1 zz=>?_) ht
 obtain ⟨x,H1,I1,rx,ex,eH⟩:=zz
 subst ex eH
 obtain rfl:u=Value.ref C:=rx
 refine method_cls I1.kIn M.ga (cls_value I1.kIn M.rd M.fc rfl ?_)
 have I2:=I1.tok (s1.toks+1)
 refine callWith_K (h₀:=X.base) I.ok.mod.kin M.kp (thn (ha pos pins _ σ H1 _ I2 h) fun us s2 ⟨vs,H2,I3,r,q2⟩=>⟨I3.kIn,?_⟩) hst hpl
 exact jm F hr hb hd hx I3 r q2
end
end L2
namespace L2
open PySem PySem.W PySem.Spec PySem.Calls PyProof.Rows
open PySem.SeqAt (EqAt RcAt RcNeAt)
section
variable {X:Cx}
theorem ub (hu:X.A.units<cLine):OpR X (compareOp .Eq) (fun x y H Q=>∃ a b kvs,x=.ref a/\y=.ref b/\H a=some (.dK kvs)/\H b=some (.dK [])/\Q (.bl (decide (kvs=[]))) H):=by
 intro pins s σ H x y v u Q I rx ry h
 obtain ⟨a,b,kvs,rfl,rfl,ha,hb,q⟩:=h
 cases rx
 cases ry
 obtain ⟨_,n1,vs,r1,d1⟩:=iP I.hok ha
 obtain ⟨_,n2,vs2,r2,d2⟩:=iP I.hok hb
 cases r2
 refine keq_eq (r:=true) n1 n2 d1 d2 hu (fun hl=>?_) ⟨.bl _,H,I,?_,q⟩
 .obtain rfl:=List.length_eq_zero_iff.mp hl
  exact .nil
 show Value.bool _=Value.bool _
 congr 1
 rw [Bool.eq_iff_iff,decide_eq_true_eq,Bool.and_true,beq_iff_eq]
 show vs.length=0↔_
 rw [<-r1.length]
 exact List.length_eq_zero_iff
theorem uZ (hu:X.A.units<cLine):OpR X (compareOp .Eq) (fun x y H Q=>∃ b ys,y=.ref b/\SqT X.K H b ys/\gc ys/\((x=.non/\Q (.bl false) H)∨∃ a xs,x=.ref a/\SqT X.K H a xs/\gc xs/\Q (.bl (decide (xs=ys))) H)):=by
 intro pins s σ H x y v u Q I rx ry h
 obtain ⟨b,ys,rfl,hb,en,⟨rfl,q⟩ | ⟨a,xs,rfl,ha,en',q⟩⟩:=h
 .cases rx
  cases ry
  obtain ⟨its,r,ht,_⟩:=I.tuple hb
  exact RcAt.none_tuple ht hu X.prog X.w _ _ ⟨.bl false,H,I,rfl,q⟩
 exact tV hu pins s σ H _ _ v u Q I rx ry ⟨a,b,xs,ys,rfl,rfl,ha,hb,en',en,q⟩
inductive AlT (K:Frag)(H:Hp):V->V->Prop
 | non:AlT K H .non .non
 | str (n:Str):AlT K H (.str n) (.str n)
 | int (i:Int):AlT K H (.int i) (.int i)
 | tup {p q:Addr} {xs ys:List V}:SqT K H p xs->SqT K H q ys->AlL K H 8 xs ys->AlT K H (.ref p) (.ref q)
 | lst {p q:Addr} {xs ys:List V}:SqL K H p xs->SqL K H q ys->AlL K H 8 xs ys->AlT K H (.ref p) (.ref q)
theorem uH (hu:X.A.units+100<cLine):OpR X (compareOp .NotEq) (fun x y H Q=>AlT X.K H x y/\Q (.bl false) H):=by
 intro pins s σ H x y v u Q I rx ry ⟨a,q⟩
 cases a with
 | non=>cases rx;cases ry;exact RcNeAt.none_none X.prog X.w _ _ ⟨.bl false,H,I,rfl,q⟩
 | str n =>
  obtain ⟨t,rfl⟩:=rx
  obtain ⟨t',rfl⟩:=ry
  exact RcNeAt.str_str n t n t' X.prog X.w _ _ ⟨.bl false,H,I,by rw [(dk n n).mpr rfl];rfl,q⟩
 | int i =>
  obtain ⟨t,rfl⟩:=rx
  obtain ⟨t',rfl⟩:=ry
  exact RcNeAt.int_int i t i t' X.prog X.w _ _ ⟨.bl false,H,I,by rw [beq_self_eq_true];rfl,q⟩
 | tup h1 h2 al=>exact wD hu pins s σ H _ _ v u Q I rx ry ⟨_,_,_,_,rfl,rfl,h1,h2,al,q⟩
 | lst h1 h2 al=>exact u6 hu pins s σ H _ _ v u Q I rx ry ⟨_,_,_,_,rfl,rfl,h1,h2,al,q⟩
end
end L2
namespace TS
open PySem PyProof.Rows PySem.W
section
variable {prog:Program}{w:World}{A:Around}{E:Value->Shared->Prop}{s:Shared}
theorem qQ {vs:List Value}{s:Shared}(hS:∀v∈vs,∃ x t,v=Value.str x t):Cmp prog w A s PyProof.Rows.strKind oneType' (pairsOf vs):=by
 have hm:∀p∈(pairsOf vs).toList,∃ x t,p.1=Value.str x t:=fun p hp=>by
  rw [pairsOf_toList] at hp
  exact hS _ (mem_zip_self hp).2
 refine ⟨fun x y hx hy E Q q=>?_⟩
 obtain ⟨a,ta,ea⟩:=hm x hx
 obtain ⟨b,tb,eb⟩:=hm y hy
 have eL:Lb PyProof.Rows.strKind x y=decide (a.cps.toList<b.cps.toList):=by unfold Lb kf;rw [ea,eb];rfl
 rw [eL] at q
 rw [ea,eb,keyLt'_oneType]
 exact oneLt_str q
theorem jg {vs:List Value}(hS:∀v∈vs,∃ x t,v=Value.str x t)(h2:2<=vs.length):keyKind' vs.toArray=pure oneType':=by
 match vs,h2 with
 | v1::v2::r,_=>exact keyKind_strs (strsAre_map _ hS)
end
end TS
namespace L2
open PySem PySem.W PySem.Spec PySem.Calls PyProof.Rows
def slt (a b:Str):Bool:=decide (a.cps.toList<b.cps.toList)
def dj:Value->Str
 | .str x _=>x
 | _=>default
def prV (k:Int×Str):List V:=[.int k.1,.str k.2]
def ltP (a b:Int×Str):Bool:=cP (prV a) (prV b)
section
variable {X:Cx}{e o i a b:Expr}{te to ti ta tb:TE}{pos pos':Pos}{f:Str}
theorem bf (he:QE X e te)(hb:attributeBase e f X.env (eval e X.env)=eval e X.env):QE X (.Attribute e f pos) (xY X.K te f):=.mk (wt he.to hb)
theorem cG {value:Expr}{tv:TE}(ha:QE X o to)(hv:QE X value tv)(hs:swapsWith value (some (.Attribute o f pos')) pos.line X.env=pure false):QS X (.Assign [.Attribute o f pos'] value pos) (yE X.K to tv f):=.mk (xK ha.to hv.to hs)
theorem gP:QE X (.Dict [] [] pos) qW:=.mk qN
theorem aO (hu:X.A.units+1<cLine)(ho:QE X o to)(hi:QE X i ti)(hs:tR i):QE X (.Subscript o i pos) (vn to ti):=.mk (uF hu ho.to hi.to hs)
theorem qc (hu:X.A.units+1<cLine)(hi:QE X i ti)(ho:QE X o to)(h1:behindInMarks .In o=false:=by rfl):QE X (.Compare i [.In] [o] pos) (xq ti to):=.mk (xu (qK hu hi.to ho.to) h1)
theorem v4 (hu:X.A.units+1<cLine)(hi:QE X i ti)(ho:QE X o to)(h1:behindInMarks .In o=false:=by rfl):QT X (.Compare i [.In] [o] pos) (tB (xq ti to)):=.mk (rp (qK hu hi.to ho.to) h1)
theorem ip (hu:X.A.units+1<cLine)(hi:QE X i ti)(ho:QE X o to)(h1:behindInMarks .NotIn o=false:=by rfl):QT X (.Compare i [.NotIn] [o] pos) (tB (ow ti to)):=.mk (rp (pK hu hi.to ho.to) h1)
theorem eQ {value:Expr}{tv:TE}(hu:X.A.units+1<cLine)(ho:QE X o to)(hi:QE X i ti)(hv:QE X value tv)(hs:swapsWith value (some (.Subscript o i pos')) pos.line X.env=pure false):QS X (.Assign [.Subscript o i pos'] value pos) (vF to ti tv):=.mk (tF hu ho.to hi.to hv.to hs)
theorem kG {apos cpos:Pos}(hu:X.A.units+1<cLine)(ho:QE X o to)(he:QE X e te)(m:M1 X o "get" apos e cpos):QE X (.Call (.Attribute o "get" apos) [e] [] cpos) (rM to te):=.mk (qU hu ho.to he.to m)
theorem eA {apos cpos:Pos}(ho:QE X o to)(he:QE X e te)(m:M1 X o "pop" apos e cpos):QE X (.Call (.Attribute o "pop" apos) [e] [] cpos) (pU to te):=.mk (qA ho.to he.to m)
theorem jB {c:Str}{j:Nat}{fpos cpos:Pos}(h:QE X e te)(hc:c.length<=1000):QE X (.JoinedStr [.FormattedValue e (-1) none fpos,.Constant (.str c) j cpos] pos) (vh te):=.mk (qj h.to hc)
theorem xA {cc:List Expr}(ha:QE X a ta)(hb:QE X (.BoolOp .And (b::cc) pos) tb):QE X (.BoolOp .And (a::b::cc) pos) (vv ta tb):=.mk (we ha.to hb.to)
theorem wQ {op}(h:QE X a ta):QE X (.BoolOp op [a] pos) ta:=.mk (wm h.to)
section
variable {CX:CXT}{k:Nat}{g C:Addr}{mc:Value}{fd:FuncData}{ps:List Str}{sp:Sp}{dvs:List V}{ds:List Value}{E:XK}{m x:Str}{p apos:Pos}{es:List Expr}{t:TA}{pl:Sem Bool}
theorem bT (ho:QE X o to)(c:Cls X.K C)(hm:bP X.K C m g)(F:aA X.prog X.w X.K X.mg X.base CX k g fd ps sp)(hr:Room k X.A)(hb:Binds X.K fd ps ds)(hd:Vals dvs ds)(hx:bM CX X E)(ha:QA X (e::es) t)
  (hst:starEach (e::es) X.env=(false,eval e X.env)::starEach es X.env:=by rfl) (hpl:(backTo pos (starEach es X.env)).any (·.1)=false:=by rfl)
  (ht:eval (.Call (.Attribute o m apos) (e::es) [] pos) X.env=(do
   let ov <-eval o X.env
   standAt apos.atName
   let (f,first) <-holding [ov] (getMethod ov m pl)
   callWith pos f first (backTo pos (starEach (e::es) X.env)) (backToKw pos (keywordEach [] X.env))):=by rfl) :
  QE X (.Call (.Attribute o m apos) (e::es) [] pos) (oo C m sp dvs E to t):=.mk (tT ho.to c hm F hr hb hd hx ha.to hst hpl ht)
theorem br (ho:QE X o to)(c:Cls X.K C)(hm:bP X.K C m g)(F:aA X.prog X.w X.K X.mg X.base CX k g fd ps sp)(hr:Room k X.A)(hb:Binds X.K fd ps ds)(hd:Vals dvs ds)(hx:bM CX X E)
  (ht:eval (.Call (.Attribute o m apos) [] [] pos) X.env=(do
   let ov <-eval o X.env
   standAt apos.atName
   let (f,first) <-holding [ov] (getMethod ov m pl)
   callWith pos f first (backTo pos (starEach [] X.env)) (backToKw pos (keywordEach [] X.env))):=by rfl) :
  QE X (.Call (.Attribute o m apos) [] [] pos) (oo C m sp dvs E to lL):=.mk (qM ho.to c hm F hr hb hd hx ht)
theorem tG (M:Mk X.K C g)(F:aA X.prog X.w X.K X.mg X.base CX k g fd ps sp)(hr:Room (k+1) X.A)(hg:Gl X x)(hm:X.mg x=some (.ref C))(hb:Binds X.K fd ps ds)(hd:Vals dvs ds)(hx:bM CX X E)
  (ha:QA X (e::es) t) (hdb:(x == ("__debug__":Str))=false:=by decide) (he:starEach (e::es) X.env=(false,eval e X.env)::starEach es X.env:=by rfl) (hpl:(backTo pos (starEach es X.env)).any (·.1)=false:=by rfl) :
  QE X (.Call (.Name x p) (e::es) [] pos) (vR C sp dvs E t):=.mk (uV M F hr hg hm hb hd hx ha.to hdb he hpl)
theorem uj (ho:QE X o (tC (.ref C)))(M:ue X.K C mc m g)(F:aA X.prog X.w X.K X.mg X.base CX k g fd ps sp)(hr:Room k X.A)(hb:Binds X.K fd ps ds)(hd:Vals dvs ds)(hx:bM CX X E)(ha:QA X (e::es) t)
  (hst:starEach (e::es) X.env=(false,eval e X.env)::starEach es X.env:=by rfl) (hpl:(backTo pos (starEach es X.env)).any (·.1)=false:=by rfl)
  (ht:eval (.Call (.Attribute o m apos) (e::es) [] pos) X.env=(do
   let ov <-eval o X.env
   standAt apos.atName
   let (f,first) <-holding [ov] (getMethod ov m pl)
   callWith pos f first (backTo pos (starEach (e::es) X.env)) (backToKw pos (keywordEach [] X.env))):=by rfl) :
  QE X (.Call (.Attribute o m apos) (e::es) [] pos) (jP sp dvs E t):=.mk (ud ho.to M F hr hb hd hx ha.to hst hpl ht)
end
end
theorem cv {X:Cx}{K:Frag}(h:X.K=K):IxR X (yJ K):=by subst h;exact aJ
end L2
namespace Hg
section
variable {α:Type}[Inhabited α]
abbrev g (xs:List α)(i:Nat):α:=xs.getD i default
def sw (xs:List α)(i j:Nat):List α:=(xs.set i (g xs j)).set j (g xs i)
structure Od (lt:α->α->Bool):Prop where
 as:∀a b,lt a b=true->lt b a=false
 nt:∀a b c,lt a b=false->lt b c=false->lt a c=false
theorem Od.irr {lt:α->α->Bool}(o:Od lt)(a:α):lt a a=false:=by
 cases e:lt a a with
 | false=>rfl
 | true=>have:=o.as a a e;rw [e] at this;exact this
theorem vJ {xs:List α}{i k:Nat}{v:α}:g (xs.set i v) k=if i=k/\k<xs.length then v else g xs k:=by
 simp only [g,List.getD_eq_getElem?_getD,List.getElem?_set]
 by_cases h:i=k
 .subst h
  by_cases h2:i<xs.length
  .simp [h2]
  .simp [h2,List.getElem?_eq_none (Nat.le_of_not_lt h2)]
 simp [h]
theorem aW {xs:List α}{i j:Nat}:(sw xs i j).length=xs.length:=by simp [sw]
theorem jQ {xs:List α}{i j k:Nat}(hi:i<xs.length)(hj:j<xs.length):g (sw xs i j) k=if k=j then g xs i else if k=i then g xs j else g xs k:=by
 unfold sw
 rw [vJ,vJ,List.length_set]
 by_cases h1:k=j
 .subst h1;simp [hj]
 rw [if_neg (by intro z;exact h1 z.1.symm),if_neg h1]
 by_cases h2:k=i
 .subst h2;simp [hi]
 rw [if_neg (by intro z;exact h2 z.1.symm),if_neg h2]
theorem g_get {xs:List α}{i:Nat}(h:i<xs.length):g xs i=xs[i]:=by simp [g,List.getD_eq_getElem?_getD,h]
theorem dE {xs:List α}{i j:Nat}(hi:i<xs.length)(hj:j<xs.length):(sw xs i j).Perm xs:=by
 unfold sw
 rw [g_get hi,g_get hj]
 exact List.set_set_perm hi hj
def les (lt:α->α->Bool)(xs:List α)(p:Nat):Nat:=if 2*p+2<xs.length/\lt (g xs (2*p+2)) (g xs (2*p+1))=true then 2*p+2 else 2*p+1
def kids (n p:Nat):Nat:=if 2*p+2<n then 2 else if 2*p+1<n then 1 else 0
def dn (lt:α->α->Bool):Nat->List α->Nat->Nat->List α×Nat
 | 0,xs,_,lk=>(xs,lk)
 | f+1,xs,p,lk=>if 2*p+1<xs.length then
   if lt (g xs (les lt xs p)) (g xs p)=true then dn lt f (sw xs p (les lt xs p)) (les lt xs p) (lk+kids xs.length p) else (xs,lk+kids xs.length p)
  else (xs,lk)
def up (lt:α->α->Bool):Nat->List α->Nat->Nat->List α×Nat
 | 0,xs,_,lk=>(xs,lk)
 | f+1,xs,p,lk=>if 0<p then
   if lt (g xs p) (g xs ((p-1) / 2))=true then up lt f (sw xs p ((p-1) / 2)) ((p-1) / 2) (lk+1) else (xs,lk+1)
  else (xs,lk)
theorem dU {lt:α->α->Bool}{xs:List α}{p:Nat}:2*p+1<=les lt xs p:=by unfold les;split <;> lia
theorem wN {lt:α->α->Bool}{xs:List α}{p:Nat}:les lt xs p<=2*p+2:=by unfold les;split <;> lia
theorem cM {lt:α->α->Bool}{xs:List α}{p:Nat}(h:2*p+1<xs.length):les lt xs p<xs.length:=by unfold les;split <;> lia
theorem sY {lt:α->α->Bool}(o:Od lt){xs:List α}{p k:Nat}(hk:k<xs.length)(hp:k=2*p+1∨k=2*p+2):lt (g xs k) (g xs (les lt xs p))=false:=by
 unfold les
 split
 .rename_i h
  rcases hp with rfl | rfl
  .exact o.as _ _ h.2
  .exact o.irr _
 rename_i h
 rcases hp with rfl | rfl
 .exact o.irr _
 cases e:lt (g xs (2*p+2)) (g xs (2*p+1)) with
 | false=>rfl
 | true=>exact absurd ⟨hk,e⟩ h
theorem dn_len {lt:α->α->Bool}:∀{f:Nat} {xs:List α} {p lk:Nat},(dn lt f xs p lk).1.length=xs.length
 | 0,xs,p,lk=>rfl
 | f+1,xs,p,lk=>by
  unfold dn
  split
  .split
   .rw [dn_len,aW]
   .rfl
  .rfl
theorem dn_perm {lt:α->α->Bool}:∀{f:Nat} {xs:List α} {p lk:Nat},(dn lt f xs p lk).1.Perm xs
 | 0,xs,p,lk=>.refl _
 | f+1,xs,p,lk=>by
  unfold dn
  split
  .rename_i h
   split
   .exact dn_perm.trans (dE zk (cM h))
   .exact .refl _
  .exact .refl _
theorem dH {lt:α->α->Bool}:∀{f:Nat} {xs:List α} {p lk:Nat},p<xs.length->(up lt f xs p lk).1.Perm xs
 | 0,xs,p,lk,_=>.refl _
 | f+1,xs,p,lk,hp=>by
  unfold up
  split
  .split
   .exact (dH (by rw [aW];lia)).trans (dE zk zk)
   .exact .refl _
  .exact .refl _
def HF (lt:α->α->Bool)(q:Nat)(xs:List α):Prop:=∀k,0<k->k<xs.length->q<=(k-1) / 2->lt (g xs k) (g xs ((k-1) / 2))=false
def IsH (lt:α->α->Bool)(xs:List α):Prop:=∀k,0<k->k<xs.length->lt (g xs k) (g xs ((k-1) / 2))=false
theorem HF.zero {lt:α->α->Bool}{xs:List α}(h:HF lt 0 xs):IsH lt xs:=fun k a b=>h k a b (Nat.zero_le _)
theorem i8 {lt:α->α->Bool}(o:Od lt){q:Nat}:∀{f:Nat} {xs:List α} {p lk:Nat},xs.length<=p+f->q<=p ->
  (∀k,0<k->k<xs.length->q<=(k-1) / 2->(k-1) / 2≠p->lt (g xs k) (g xs ((k-1) / 2))=false) ->
  (p=q∨(0<p/\q<=(p-1) / 2/\∀k,0<k->k<xs.length->(k-1) / 2=p->lt (g xs k) (g xs ((p-1) / 2))=false))->HF lt q (dn lt f xs p lk).1
 | 0,xs,p,lk,hf,hq,h1,h2=>by
  intro k k0 k1 k2
  exact h1 k k0 k1 k2 (by have:k<xs.length:=k1;lia)
 | f+1,xs,p,lk,hf,hq,h1,h2=>by
  unfold dn
  split
  .rename_i hc
   have b1:=dU (lt:=lt) (xs:=xs) (p:=p)
   have b2:=wN (lt:=lt) (xs:=xs) (p:=p)
   have b3:=cM (lt:=lt) hc
   have bm:=fun k hk hp=>sY o (xs:=xs) (p:=p) (k:=k) hk hp
   split
   .rename_i hl
    generalize les lt xs p=b at *
    have hpl:p<xs.length:=by lia
    refine i8 o (by rw [aW];lia) zk (fun k k0 k1 k2 k3=>?_) (.inr ⟨zk,zk,fun k k0 k1 k2=>?_⟩)
    .rw [aW] at k1
     rw [jQ hpl b3,jQ hpl b3]
     by_cases e1:k=b
     .subst e1
      have e2:(k-1) / 2=p:=by lia
      rw [if_pos rfl,e2,if_neg zk,if_pos rfl]
      exact o.as _ _ hl
     .rw [if_neg e1,if_neg (by lia:¬ (k-1) / 2=b)]
      by_cases e2:(k-1) / 2=p
      .rw [if_neg zk,if_pos e2]
       exact bm k k1 zk
      .rw [if_neg e2]
       by_cases e3:k=p
       .subst e3
        rw [if_pos rfl]
        rcases h2 with h2 | ⟨_,_,h2⟩
        .lia
        .exact h2 b zk b3 zk
       .rw [if_neg e3]
        exact h1 k k0 k1 k2 e2
    .rw [aW] at k1
     have e1:(b-1) / 2=p:=by lia
     rw [e1,jQ hpl b3,jQ hpl b3,if_neg zk,if_neg zk,if_neg zk,if_pos rfl]
     have:=h1 k k0 k1 zk zk
     rwa [k2] at this
   .rename_i hl
    intro k k0 k1 k2
    by_cases e2:(k-1) / 2=p
    .rw [e2]
     have hl':lt (g xs (les lt xs p)) (g xs p)=false:=by simpa using hl
     exact o.nt _ _ _ (bm k k1 zk) hl'
    .exact h1 k k0 k1 k2 e2
  .intro k k0 k1 k2
   exact h1 k k0 k1 k2 (by have:k<xs.length:=k1;lia)
theorem nG {lt:α->α->Bool}(o:Od lt):∀{f:Nat} {xs:List α} {p lk:Nat},p<=f->p<xs.length ->
  (∀k,0<k->k<xs.length->k≠p->lt (g xs k) (g xs ((k-1) / 2))=false) ->
  (∀k,0<k->k<xs.length->(k-1) / 2=p->0<p->lt (g xs k) (g xs ((p-1) / 2))=false)->IsH lt (up lt f xs p lk).1
 | 0,xs,p,lk,hf,hp,h1,h2=>fun k k0 k1=>h1 k k0 k1 zk
 | f+1,xs,p,lk,hf,hp,h1,h2=>by
  unfold up
  split
  .rename_i hc
   split
   .rename_i hl
    generalize ha:(p-1) / 2=a at *
    have hal:a<xs.length:=by lia
    refine nG o zk (by rw [aW];lia) (fun k k0 k1 k2=>?_) (fun k k0 k1 k2 k3=>?_)
    .rw [aW] at k1
     rw [jQ hp hal,jQ hp hal,if_neg k2]
     by_cases e1:k=p
     .subst e1
      rw [if_pos rfl,ha,if_pos rfl]
      exact o.as _ _ hl
     .rw [if_neg e1]
      by_cases e2:(k-1) / 2=a
      .rw [if_pos e2]
       have q1:=h1 k k0 k1 e1
       rw [e2] at q1
       exact o.nt _ _ _ q1 (o.as _ _ hl)
      .rw [if_neg e2]
       by_cases e3:(k-1) / 2=p
       .rw [if_pos e3]
        exact h2 k k0 k1 e3 hc
       .rw [if_neg e3]
        exact h1 k k0 k1 e1
    .rw [aW] at k1
     rw [jQ hp hal,jQ hp hal,if_neg zk,if_neg (by lia:¬ (a-1) / 2=a),if_neg (by lia:¬ (a-1) / 2=p)]
     have qa:=h1 a zk hal zk
     by_cases e1:k=p
     .rw [if_pos e1];exact qa
     .rw [if_neg e1]
      have q1:=h1 k k0 k1 e1
      rw [k2] at q1
      exact o.nt _ _ _ q1 qa
   .rename_i hl
    intro k k0 k1
    by_cases e1:k=p
    .subst e1;simpa using hl
    .exact h1 k k0 k1 e1
  .intro k k0 k1
   exact h1 k k0 k1 zk
def mk (lt:α->α->Bool):Nat->List α->Nat->List α×Nat
 | 0,xs,lk=>(xs,lk)
 | k+1,xs,lk=>mk lt k (dn lt xs.length xs k 0).1 (lk+(dn lt xs.length xs k 0).2)
theorem mk_perm {lt:α->α->Bool}:∀{k:Nat} {xs:List α} {lk:Nat},(mk lt k xs lk).1.Perm xs
 | 0,_,_=>.refl _
 | k+1,xs,lk=>by unfold mk;exact mk_perm.trans dn_perm
theorem mV {lt:α->α->Bool}(o:Od lt):∀{k:Nat} {xs:List α} {lk:Nat},HF lt k xs->IsH lt (mk lt k xs lk).1
 | 0,_,_,h=>h.zero
 | k+1,xs,lk,h=>by
  unfold mk
  refine mV o (i8 o zk (Nat.le_refl _) (fun j j0 j1 j2 j3=>h j j0 j1 zk) (.inl rfl))
theorem uA {lt:α->α->Bool}{xs:List α}:HF lt (xs.length / 2) xs:=fun k k0 k1 k2=>by lia
variable {lt:α->α->Bool}{xs:List α}{f p lk:Nat}
def lgs (n:Nat):Nat->Nat
 | 0=>0
 | k+1=>lgs n k+(n / (k+1)).log2
theorem qG {lt:α->α->Bool}(o:Od lt){xs:List α}(h:IsH lt xs):∀k,k<xs.length->lt (g xs k) (g xs 0)=false:=fun k=>by
 induction k using Nat.strongRecOn with
 | _ k ih =>
  intro hk
  by_cases k0:k=0
  .subst k0;exact o.irr _
  .exact o.nt _ _ _ (h k zk hk) (ih ((k-1) / 2) zk zk)
theorem qO {lt:α->α->Bool}(o:Od lt){xs:List α}(h:IsH lt xs){y:α}(hy:y∈xs):lt y (g xs 0)=false:=by
 obtain ⟨k,hk,e⟩:=List.getElem_of_mem hy
 rw [<-e,<-g_get hk]
 exact qG o h k hk
def cutf (lt:α->α->Bool)(xs:List α):List α×Nat :=
 if xs.dropLast=[] then ([],0) else dn lt xs.dropLast.length (xs.dropLast.set 0 (g xs (xs.length-1))) 0 0
theorem cO {xs:List α}(h:2<=xs.length):∃ mid,xs=g xs 0::mid++[g xs (xs.length-1)]/\xs.dropLast=g xs 0::mid:=by
 cases xs with
 | nil=>simp at h
 | cons a l =>
  have hl:l≠[]:=by intro e;rw [e] at h;simp at h
  refine ⟨l.dropLast,?_,?_⟩
  .show a::l=a::l.dropLast++[g (a::l) l.length]
   have:g (a::l) l.length=l.getLast hl:=by
    rw [g_get zl]
    rw [List.getLast_eq_getElem]
    rw [List.getElem_cons]
    have:l.length≠0:=by intro e;exact hl (List.length_eq_zero_iff.mp e)
    simp [this]
   rw [this,List.cons_append,List.dropLast_concat_getLast]
  .show (a::l).dropLast=a::l.dropLast
   exact List.dropLast_cons_of_ne_nil hl
theorem cK {lt:α->α->Bool}{xs:List α}(h:xs.length=1):cutf lt xs=([],0):=by
 unfold cutf
 rw [if_pos]
 rw [<-List.length_eq_zero_iff,List.length_dropLast,h]
theorem eO {lt:α->α->Bool}{xs mid:List α}(e:xs.dropLast=g xs 0::mid):cutf lt xs=dn lt (mid.length+1) (g xs (xs.length-1)::mid) 0 0:=by
 unfold cutf
 rw [if_neg (by rw [e];simp),e]
 rfl
theorem cutf_len {lt:α->α->Bool}{xs:List α}:(cutf lt xs).1.length=xs.length-1:=by
 unfold cutf
 split
 .rename_i h
  have:=congrArg List.length h
  rw [List.length_dropLast] at this
  exact this.symm
 rw [dn_len,List.length_set,List.length_dropLast]
theorem cL {lt:α->α->Bool}{xs:List α}(h:0<xs.length):(g xs 0::(cutf lt xs).1).Perm xs:=by
 by_cases h2:2<=xs.length
 .obtain ⟨mid,e,e2⟩:=cO h2
  rw [eO e2]
  refine (List.Perm.cons _ dn_perm).trans ?_
  conv=>rhs;rw [e]
  rw [List.cons_append]
  refine List.Perm.cons _ ?_
  exact (List.perm_append_comm (l₁:=[g xs (xs.length-1)]) (l₂:=mid))
 rw [cK zk]
 cases xs with
 | nil=>simp at h
 | cons a l =>
  have:l=[]:=List.length_eq_zero_iff.mp (by rw [List.length_cons] at h2;lia)
  subst this
  exact .refl _
theorem iV {lt:α->α->Bool}(o:Od lt){xs:List α}(h:IsH lt xs)(hl:0<xs.length):IsH lt (cutf lt xs).1:=by
 by_cases h2:2<=xs.length
 .obtain ⟨mid,e,e2⟩:=cO h2
  rw [eO e2]
  have len:xs.length=mid.length+2:=by
   have:=congrArg List.length e2
   rw [List.length_dropLast,List.length_cons] at this
   lia
  have gm:∀k,k<mid.length->g (g xs (xs.length-1)::mid) (k+1)=g xs (k+1):=fun k hk=>by
   have e3:(g xs 0::mid++[g xs (xs.length-1)])[k+1]?=some mid[k]:=by
    rw [List.cons_append,List.getElem?_cons_succ,List.getElem?_append_left hk,List.getElem?_eq_getElem hk]
   rw [<-e] at e3
   show (g xs (xs.length-1)::mid).getD (k+1) default=xs.getD (k+1) default
   rw [List.getD_eq_getElem?_getD,List.getD_eq_getElem?_getD,e3,List.getElem?_cons_succ,List.getElem?_eq_getElem hk]
  refine HF.zero (i8 o (by rw [List.length_cons];lia) (Nat.le_refl _) (fun k k0 k1 _ k3=>?_) (.inl rfl))
  rw [List.length_cons] at k1
  obtain ⟨k',rfl⟩:∃ k',k=k'+1:=⟨k-1,zk⟩
  obtain ⟨j,hj⟩:∃ j,(k'+1-1) / 2=j+1:=⟨(k'+1-1) / 2-1,zk⟩
  rw [hj,gm k' zk,gm j zk]
  have:=h (k'+1) zk zk
  rwa [hj] at this
 rw [cK zk]
 intro k k0 k1
 exact absurd k1 zl
end
end Hg
namespace Gm
open Hg
structure En (N:Type) where
 w:Int
 n:N
 s:Int
 deriving DecidableEq
instance {N:Type} [Inhabited N]:Inhabited (En N):=⟨⟨0,default,0⟩⟩
structure Slo {N:Type}(sl:N->N->Bool):Prop where
 irr:∀a,sl a a=false
 tr:∀a b c,sl a b=true->sl b c=true->sl a c=true
 tot:∀a b,a≠b->sl a b=true∨sl b a=true
section
variable {N:Type}[DecidableEq N][Inhabited N](sl:N->N->Bool)
def ltE (a b:En N):Bool:=if a.w=b.w then if a.n=b.n then decide (a.s<b.s) else sl a.n b.n else decide (a.w<b.w)
variable {sl}
theorem Slo.as (o:Slo sl){a b:N}(h:sl a b=true):sl b a=false:=by
 cases e:sl b a with
 | false=>rfl
 | true=>have:=o.tr a b a h e;rw [o.irr] at this;cases this
theorem Slo.nt (o:Slo sl){a b c:N}(h:sl a b=false)(h':sl b c=false):sl a c=false:=by
 cases e:sl a c with
 | false=>rfl
 | true =>
  by_cases hab:a=b
  .subst hab;rw [h'] at e;cases e
  .by_cases hbc:b=c
   .subst hbc;rw [h] at e;cases e
   .have h1:=(o.tot a b hab).resolve_left (by rw [h];exact Bool.false_ne_true)
    have h2:=(o.tot b c hbc).resolve_left (by rw [h'];exact Bool.false_ne_true)
    have:=o.tr c b a h2 h1
    have:=o.as this
    rw [this] at e;cases e
theorem ltE_iff {a b:En N}:ltE sl a b=true↔a.w<b.w∨(a.w=b.w/\((a.n≠b.n/\sl a.n b.n=true)∨(a.n=b.n/\a.s<b.s))):=by
 unfold ltE
 by_cases h:a.w=b.w
 .rw [if_pos h]
  by_cases h2:a.n=b.n
  .rw [if_pos h2,decide_eq_true_eq]
   constructor
   .intro z;exact .inr ⟨h,.inr ⟨h2,z⟩⟩
   .rintro (z | ⟨_,⟨z,_⟩ | ⟨_,z⟩⟩)
    .lia
    .exact absurd h2 z
    .exact z
  .rw [if_neg h2]
   constructor
   .intro z;exact .inr ⟨h,.inl ⟨h2,z⟩⟩
   .rintro (z | ⟨_,⟨_,z⟩ | ⟨z,_⟩⟩)
    .lia
    .exact z
    .exact absurd z h2
 rw [if_neg h,decide_eq_true_eq]
 constructor
 .intro z;exact .inl z
 rintro (z | ⟨z,_⟩)
 .exact z
 exact absurd z h
theorem gO (o:Slo sl):Od (ltE sl) where
 as:=fun a b h=>by
  cases e:ltE sl b a with
  | false=>rfl
  | true =>
   rw [ltE_iff] at h e
   rcases h with h | ⟨h1,⟨h2,h3⟩ | ⟨h2,h3⟩⟩ <;> rcases e with e | ⟨e1,⟨e2,e3⟩ | ⟨e2,e3⟩⟩ <;> try omega
   .rw [o.as h3] at e3;cases e3
   .exact absurd e2.symm h2
   .exact absurd h2.symm e2
 nt:=fun a b c h h'=>by
  cases e:ltE sl a c with
  | false=>rfl
  | true =>
   have h1:¬ ltE sl a b=true:=by rw [h];exact Bool.false_ne_true
   have h2:¬ ltE sl b c=true:=by rw [h'];exact Bool.false_ne_true
   rw [ltE_iff] at h1 h2 e
   exfalso
   have w1:b.w<=a.w:=by
    rcases Int.lt_or_le a.w b.w with z | z
    .exact absurd (.inl z) h1
    .exact z
   have w2:c.w<=b.w:=by
    rcases Int.lt_or_le b.w c.w with z | z
    .exact absurd (.inl z) h2
    .exact z
   rcases e with e | ⟨e1,e2⟩
   .lia
   .have wab:a.w=b.w:=by lia
    have wbc:b.w=c.w:=by lia
    have n1:sl a.n b.n=false:=by
     cases z:sl a.n b.n with
     | false=>rfl
     | true =>
      by_cases q:a.n=b.n
      .rw [q,o.irr] at z;cases z
      .exact absurd (.inr ⟨wab,.inl ⟨q,z⟩⟩) h1
    have n2:sl b.n c.n=false:=by
     cases z:sl b.n c.n with
     | false=>rfl
     | true =>
      by_cases q:b.n=c.n
      .rw [q,o.irr] at z;cases z
      .exact absurd (.inr ⟨wbc,.inl ⟨q,z⟩⟩) h2
    have n3:=o.nt n1 n2
    rcases e2 with ⟨_,z⟩ | ⟨z1,z2⟩
    .rw [n3] at z;cases z
    .have:a.n=b.n:=by
      by_cases q:a.n=b.n
      .exact q
      .have q1:=(o.tot _ _ q).resolve_left (by rw [n1];exact Bool.false_ne_true)
       rw [<-z1] at n2
       rw [n2] at q1;cases q1
     have e4:b.n=c.n:=this.symm.trans z1
     have s1:¬ a.s<b.s:=fun z=>h1 (.inr ⟨wab,.inr ⟨this,z⟩⟩)
     have s2:¬ b.s<c.s:=fun z=>h2 (.inr ⟨wbc,.inr ⟨e4,z⟩⟩)
     lia
end
section
variable {N β γ:Type}[DecidableEq N]
def dget (L:List (N×β))(n:N):Option β:=(L.find? fun p=>decide (p.1=n)).map (·.2)
def dput (L:List (N×β))(n:N)(b:β):List (N×β):=if L.any (fun p=>decide (p.1=n)) then L.map (fun p=>if p.1=n then (p.1,b) else p) else L++[(n,b)]
def ddel (L:List (N×β))(n:N):List (N×β):=L.filter fun p=>decide (p.1≠n)
theorem dget_some {L:List (N×β)}{n:N}{b:β}(h:dget L n=some b):(n,b)∈L:=by
 unfold dget at h
 obtain ⟨p,hp,rfl⟩:=Option.map_eq_some_iff.mp h
 have h1:=List.mem_of_find?_eq_some hp
 have h2:=List.find?_some hp
 simp at h2
 subst h2
 exact h1
theorem dget_of {L:List (N×β)}(nd:(L.map (·.1)).Nodup){n:N}{b:β}(h:(n,b)∈L):dget L n=some b:=by
 induction L with
 | nil=>cases h
 | cons p r ih =>
  rw [List.map_cons,List.nodup_cons] at nd
  unfold dget
  rw [List.find?_cons]
  by_cases e:p.1=n
  .rw [decide_eq_true e]
   rcases List.mem_cons.mp h with rfl | h
   .rfl
   .exact absurd (List.mem_map.mpr ⟨_,h,e.symm⟩) nd.1
  .rw [decide_eq_false e]
   rcases List.mem_cons.mp h with rfl | h
   .exact absurd rfl e
   .exact ih nd.2 h
theorem dget_none {L:List (N×β)}{n:N}:dget L n=none↔n∉L.map (·.1):=by
 unfold dget
 rw [Option.map_eq_none_iff,List.find?_eq_none]
 constructor
 .intro h z
  obtain ⟨p,hp,e⟩:=List.mem_map.mp z
  have:=h p hp
  simp [e] at this
 intro h p hp
 simp
 intro e
 exact h (List.mem_map.mpr ⟨p,hp,e⟩)
theorem dput_keys {L:List (N×β)}{n:N}{b:β}:(dput L n b).map (·.1)=if n∈L.map (·.1) then L.map (·.1) else L.map (·.1)++[n]:=by
 unfold dput
 by_cases h:L.any (fun p=>decide (p.1=n))=true
 .rw [if_pos h]
  have:n∈L.map (·.1):=by
   obtain ⟨p,hp,e⟩:=List.any_eq_true.mp h
   exact List.mem_map.mpr ⟨p,hp,of_decide_eq_true e⟩
  rw [if_pos this,List.map_map]
  apply List.map_congr_left
  intro p _
  show (if p.1=n then (p.1,b) else p).1=p.1
  split <;> rfl
 rw [if_neg h]
 have:¬ n∈L.map (·.1):=fun z=>h (by
  obtain ⟨p,hp,e⟩:=List.mem_map.mp z
  exact List.any_eq_true.mpr ⟨p,hp,decide_eq_true e⟩)
 rw [if_neg this,List.map_append]
 rfl
theorem eF {L:List (N×β)}{n:N}{b:β}(nd:(L.map (·.1)).Nodup):((dput L n b).map (·.1)).Nodup:=by
 rw [dput_keys]
 split
 .exact nd
 rename_i h
 rw [List.nodup_append]
 refine ⟨nd,List.nodup_cons.mpr ⟨List.not_mem_nil,List.nodup_nil⟩,?_⟩
 intro a ha c hc
 rw [List.mem_singleton] at hc
 subst hc
 intro z;subst z;exact h ha
theorem dput_mem {L:List (N×β)}{n m:N}{b c:β}(h:(m,c)∈dput L n b):(m=n/\c=b)∨(m≠n/\(m,c)∈L):=by
 unfold dput at h
 split at h
 .obtain ⟨p,hp,e⟩:=List.mem_map.mp h
  split at e
  .rename_i q
   cases e
   exact .inl ⟨q,rfl⟩
  .rename_i q
   subst e
   exact .inr ⟨q,hp⟩
 rename_i hn
 rcases List.mem_append.mp h with h | h
 .refine .inr ⟨fun z=>hn (List.any_eq_true.mpr ⟨_,h,decide_eq_true z⟩),h⟩
 rw [List.mem_singleton] at h
 cases h
 exact .inl ⟨rfl,rfl⟩
theorem ui {L:List (N×β)}{n m:N}{b c:β}(h:(m,c)∈L)(hm:m≠n):(m,c)∈dput L n b:=by
 unfold dput
 split
 .exact List.mem_map.mpr ⟨_,h,by rw [if_neg hm]⟩
 exact List.mem_append.mpr (.inl h)
theorem pJ {L:List (N×β)}{n:N}{b:β}:(n,b)∈dput L n b:=by
 unfold dput
 split
 .rename_i h
  obtain ⟨p,hp,e⟩:=List.any_eq_true.mp h
  have e:=of_decide_eq_true e
  exact List.mem_map.mpr ⟨p,hp,by rw [if_pos e,e]⟩
 exact List.mem_append.mpr (.inr (List.mem_singleton.mpr rfl))
theorem ddel_mem {L:List (N×β)}{n m:N}{c:β}:(m,c)∈ddel L n↔m≠n/\(m,c)∈L:=by
 unfold ddel
 rw [List.mem_filter]
 simp
 exact And.comm
theorem eB {L:List (N×β)}{n:N}(nd:(L.map (·.1)).Nodup):((ddel L n).map (·.1)).Nodup :=
 (List.Sublist.map _ List.filter_sublist).nodup nd
theorem dput_map {L:List (N×β)}{n:N}{b:β}{f:β->γ}:(dput L n b).map (fun p=>(p.1,f p.2))=dput (L.map fun p=>(p.1,f p.2)) n (f b):=by
 unfold dput
 have e:(L.map fun p=>(p.1,f p.2)).any (fun p=>decide (p.1=n))=L.any (fun p=>decide (p.1=n)):=by
  rw [List.any_map];rfl
 rw [e]
 split
 .rw [List.map_map,List.map_map]
  apply List.map_congr_left
  intro p _
  show ((if p.1=n then (p.1,b) else p).1,f (if p.1=n then (p.1,b) else p).2)=if p.1=n then (p.1,f b) else (p.1,f p.2)
  split <;> rfl
 rw [List.map_append];rfl
theorem ddel_map {L:List (N×β)}{n:N}{f:β->γ}:(ddel L n).map (fun p=>(p.1,f p.2))=ddel (L.map fun p=>(p.1,f p.2)) n:=by
 unfold ddel
 rw [List.filter_map]
 rfl
theorem qT {L:List (N×β)}{n:N}{b:β}:(dput L n b).length<=L.length+1:=by
 unfold dput
 split
 .rw [List.length_map];lia
 rw [List.length_append];exact Nat.le_refl _
theorem j4 {L:List (N×β)}{n:N}:(ddel L n).length<=L.length:=List.length_filter_le _ _
end
structure LS (N:Type) where
 slack:Int
 there:List (N×En N)
 stamp:Nat
 row:List (En N)
 looks:Nat
section
variable {N:Type}[DecidableEq N][Inhabited N](sl:N->N->Bool)
def holds (T:List (N×En N))(e:En N):Bool:=decide (dget T e.n=some e)
def enter (s:LS N)(n:N)(w:Int):LS N :=
 { s with there:=dput s.there n ⟨w,n,(s.stamp:Int)⟩,stamp:=s.stamp+1,row:=(up (ltE sl) s.row.length (s.row++[⟨w,n,(s.stamp:Int)⟩]) s.row.length 0).1,looks:=s.looks+(up (ltE sl) s.row.length (s.row++[⟨w,n,(s.stamp:Int)⟩]) s.row.length 0).2 }
def cut (s:LS N):LS N:={ s with row:=(cutf (ltE sl) s.row).1,looks:=s.looks+(cutf (ltE sl) s.row).2 }
def clean:Nat->LS N->LS N
 | 0,s=>s
 | f+1,s=>if holds s.there (g s.row 0) then s else clean f (cut sl s)
def due (s:LS N):Bool:=decide ((s.row.length:Int)-s.there.length>s.there.length)&&decide ((s.row.length:Int)-s.there.length>s.slack)
def swept (s:LS N):LS N:={ s with row:=(mk (ltE sl) ((s.row.filter (holds s.there)).length / 2) (s.row.filter (holds s.there)) 0).1,looks:=s.looks+(mk (ltE sl) ((s.row.filter (holds s.there)).length / 2) (s.row.filter (holds s.there)) 0).2 }
def sweep (s:LS N):LS N:=if due s=true then swept sl s else s
def putL (s:LS N)(n:N)(w:Int):LS N:=sweep sl (enter sl s n w)
def dropT (s:LS N)(n:N):LS N:={ s with there:=ddel s.there n }
def dropL (s:LS N)(n:N):LS N:=sweep sl (dropT s n)
def leastL (s:LS N):LS N:=clean sl s.row.length s
def takeL (s:LS N):LS N:=sweep sl (dropT (cut sl (leastL sl s)) (g (leastL sl s).row 0).n)
def newL (slack:Int):LS N:=⟨slack,[],0,[],0⟩
structure LInv (s:LS N):Prop where
 nd:(s.there.map (·.1)).Nodup
 inr:∀n e,(n,e)∈s.there->e.n=n/\e∈s.row
 st:(s.row.map (·.s)).Nodup
 lts:∀e∈s.row,e.s<(s.stamp:Int)
 hp:IsH (ltE sl) s.row
 len:s.row.length<=s.stamp
 tl:s.there.length<=s.stamp
variable {sl}
theorem new_inv {z:Int}:LInv sl (newL (N:=N) z):=⟨List.nodup_nil,(fun _ _ h=>nomatch h),List.nodup_nil,(fun _ h=>nomatch h),(fun _ _ h=>absurd h (Nat.not_lt_zero _)),Nat.le_refl _,Nat.le_refl _⟩
theorem LInv.held {s:LS N}(I:LInv sl s){n:N}{e:En N}(h:(n,e)∈s.there):holds s.there e=true:=by
 unfold holds
 rw [decide_eq_true_eq,(I.inr n e h).1]
 exact dget_of I.nd h
theorem holds_in {T:List (N×En N)}{e:En N}(h:holds T e=true):(e.n,e)∈T:=dget_some (of_decide_eq_true h)
theorem vx {α:Type}[Inhabited α]{xs:List α}{e:α}{k:Nat}(h:k<xs.length):g (xs++[e]) k=g xs k:=by
 simp only [g,List.getD_eq_getElem?_getD,List.getElem?_append_left h]
theorem sN {α:Type}[Inhabited α]{lt:α->α->Bool}(o:Od lt){xs:List α}(h:IsH lt xs){e:α}:IsH lt (up lt xs.length (xs++[e]) xs.length 0).1:=by
 have l1:(xs++[e]).length=xs.length+1:=by rw [List.length_append];rfl
 refine nG o (Nat.le_refl _) zk (fun k k0 k1 k2=>?_) (fun k k0 k1 k2 k3=>by lia)
 rw [vx zk,vx zk]
 exact h k k0 zk
theorem enter_row_perm {s:LS N}{n:N}{w:Int}:(enter sl s n w).row.Perm (s.row++[⟨w,n,(s.stamp:Int)⟩]):=dH (by rw [List.length_append];exact Nat.lt_succ_self _)
theorem enter_inv (o:Slo sl){s:LS N}(I:LInv sl s){n:N}{w:Int}:LInv sl (enter sl s n w) where
 nd:=eF I.nd
 inr:=fun m e h=>by
  have p:=enter_row_perm (sl:=sl) (s:=s) (n:=n) (w:=w)
  rcases dput_mem h with ⟨rfl,rfl⟩ | ⟨_,h⟩
  .exact ⟨rfl,p.mem_iff.mpr (List.mem_append.mpr (.inr (List.mem_singleton.mpr rfl)))⟩
  .obtain ⟨h1,h2⟩:=I.inr m e h
   exact ⟨h1,p.mem_iff.mpr (List.mem_append.mpr (.inl h2))⟩
 st:=by
  have p:=(enter_row_perm (sl:=sl) (s:=s) (n:=n) (w:=w)).map (·.s)
  refine p.nodup_iff.mpr ?_
  rw [List.map_append,List.nodup_append]
  refine ⟨I.st,List.nodup_cons.mpr ⟨List.not_mem_nil,List.nodup_nil⟩,?_⟩
  intro a ha c hc
  obtain ⟨e,he,rfl⟩:=List.mem_map.mp ha
  rw [List.map_cons,List.map_nil,List.mem_singleton] at hc
  have:=I.lts e he
  subst hc
  exact Int.ne_of_lt this
 lts:=fun e h=>by
  have p:=enter_row_perm (sl:=sl) (s:=s) (n:=n) (w:=w)
  rcases List.mem_append.mp (p.mem_iff.mp h) with h | h
  .have:=I.lts e h
   show e.s<((s.stamp+1:Nat):Int)
   lia
  .rw [List.mem_singleton] at h
   subst h
   show (s.stamp:Int)<((s.stamp+1:Nat):Int)
   lia
 hp:=sN (gO o) I.hp
 len:=by
  have:=(enter_row_perm (sl:=sl) (s:=s) (n:=n) (w:=w)).length_eq
  rw [List.length_append] at this
  have l:=I.len
  show _<=s.stamp+1
  rw [this]
  exact Nat.succ_le_succ l
 tl:=Nat.le_trans qT (Nat.succ_le_succ I.tl)
theorem LInv.root {s:LS N}(I:LInv sl s)(o:Slo sl){e:En N}(h:e∈s.row):ltE sl e (g s.row 0)=false:=qO (gO o) I.hp h
theorem cut_inv (o:Slo sl){s:LS N}(I:LInv sl s)(h0:0<s.row.length)(hh:¬ holds s.there (g s.row 0)=true):LInv sl (cut sl s):=by
 have p:=cL (lt:=ltE sl) h0
 have sub:∀e∈(cutf (ltE sl) s.row).1,e∈s.row:=fun e he=>p.mem_iff.mp (List.mem_cons_of_mem _ he)
 refine ⟨I.nd,fun n e h=>?_,?_,fun e he=>I.lts e (sub e he),iV (gO o) I.hp h0,?_,I.tl⟩
 .obtain ⟨h1,h2⟩:=I.inr n e h
  refine ⟨h1,?_⟩
  rcases List.mem_cons.mp (p.mem_iff.mpr h2) with z | z
  .exact absurd (z▸I.held h) hh
  .exact z
 .have:=(p.map (·.s)).nodup_iff.mpr I.st
  rw [List.map_cons,List.nodup_cons] at this
  exact this.2
 show (cutf (ltE sl) s.row).1.length<=s.stamp
 rw [cutf_len]
 have:=I.len
 lia
theorem cut_take_inv (o:Slo sl){s:LS N}(I:LInv sl s)(h0:0<s.row.length):LInv sl (dropT (cut sl s) (g s.row 0).n):=by
 have p:=cL (lt:=ltE sl) h0
 have sub:∀e∈(cutf (ltE sl) s.row).1,e∈s.row:=fun e he=>p.mem_iff.mp (List.mem_cons_of_mem _ he)
 refine ⟨eB I.nd,fun n e h=>?_,?_,fun e he=>I.lts e (sub e he),iV (gO o) I.hp h0,?_,Nat.le_trans j4 I.tl⟩
 .obtain ⟨hn,h⟩:=ddel_mem.mp h
  obtain ⟨h1,h2⟩:=I.inr n e h
  refine ⟨h1,?_⟩
  rcases List.mem_cons.mp (p.mem_iff.mpr h2) with z | z
  .exact absurd (h1.symm.trans (congrArg (·.n) z)) hn
  .exact z
 .have:=(p.map (·.s)).nodup_iff.mpr I.st
  rw [List.map_cons,List.nodup_cons] at this
  exact this.2
 show (cutf (ltE sl) s.row).1.length<=s.stamp
 rw [cutf_len]
 have:=I.len
 lia
theorem drop_inv {s:LS N}(I:LInv sl s){n:N}:LInv sl (dropT s n):=⟨eB I.nd,fun m e h=>I.inr m e (ddel_mem.mp h).2,I.st,I.lts,I.hp,I.len,Nat.le_trans j4 I.tl⟩
theorem mh {s:LS N}:(swept sl s).row.Perm (s.row.filter (holds s.there)):=mk_perm
theorem pH (o:Slo sl){s:LS N}(I:LInv sl s):LInv sl (swept sl s):=by
 have p:=mh (sl:=sl) (s:=s)
 have sub:∀e∈(swept sl s).row,e∈s.row:=fun e he=>(List.mem_filter.mp (p.mem_iff.mp he)).1
 refine ⟨I.nd,fun n e h=>?_,?_,fun e he=>I.lts e (sub e he),mV (gO o) uA,?_,I.tl⟩
 .obtain ⟨h1,h2⟩:=I.inr n e h
  exact ⟨h1,p.mem_iff.mpr (List.mem_filter.mpr ⟨h2,I.held h⟩)⟩
 .refine (p.map (·.s)).nodup_iff.mpr ?_
  exact (List.Sublist.map _ List.filter_sublist).nodup I.st
 rw [p.length_eq]
 exact Nat.le_trans (List.length_filter_le _ _) I.len
theorem sweep_inv (o:Slo sl){s:LS N}(I:LInv sl s):LInv sl (sweep sl s):=by
 unfold sweep
 split
 .exact pH o I
 exact I
theorem sweep_there {s:LS N}:(sweep sl s).there=s.there:=by unfold sweep;split <;> rfl
theorem sweep_stamp {s:LS N}:(sweep sl s).stamp=s.stamp:=by unfold sweep;split <;> rfl
structure oj (s s':LS N):Prop where
 inv:LInv sl s'
 there:s'.there=s.there
 stamp:s'.stamp=s.stamp
 slack:s'.slack=s.slack
 pos:0<s'.row.length
 hold:holds s'.there (g s'.row 0)=true
theorem row_pos {s:LS N}(I:LInv sl s)(h:s.there≠[]):0<s.row.length:=by
 cases e:s.there with
 | nil=>exact absurd e h
 | cons p r=>exact List.length_pos_of_mem (I.inr p.1 p.2 (by rw [e];exact List.mem_cons_self)).2
theorem kg (o:Slo sl):∀{f:Nat} {s:LS N},LInv sl s->s.there≠[]->s.row.length<=f->oj (sl:=sl) s (clean sl f s)
 | 0,s,I,h,hf=>absurd (row_pos I h) zk
 | f+1,s,I,h,hf=>by
  unfold clean
  have h0:=row_pos I h
  split
  .rename_i hh
   exact ⟨I,rfl,rfl,rfl,h0,hh⟩
  .rename_i hh
   have c:=kg o (f:=f) (cut_inv o I h0 hh) h (by show (cutf (ltE sl) s.row).1.length<=f;rw [cutf_len];lia)
   exact ⟨c.inv,c.there,c.stamp,c.slack,c.pos,c.hold⟩
theorem least_ok (o:Slo sl){s:LS N}(I:LInv sl s)(h:s.there≠[]):oj (sl:=sl) s (leastL sl s):=kg o I h (Nat.le_refl _)
theorem iO:∀{f:Nat} {s:LS N},(clean sl f s).row.length<=s.row.length
 | 0,s=>Nat.le_refl _
 | f+1,s=>by
  unfold clean
  split
  .exact Nat.le_refl _
  .refine Nat.le_trans iO ?_
   show (cutf (ltE sl) s.row).1.length<=_
   rw [cutf_len]
   lia
theorem least_len {s:LS N}:(leastL sl s).row.length<=s.row.length:=iO
theorem put_inv (o:Slo sl){s:LS N}(I:LInv sl s){n:N}{w:Int}:LInv sl (putL sl s n w):=sweep_inv o (enter_inv o I)
theorem dropL_inv (o:Slo sl){s:LS N}(I:LInv sl s){n:N}:LInv sl (dropL sl s n):=sweep_inv o (drop_inv I)
theorem take_inv (o:Slo sl){s:LS N}(I:LInv sl s)(h:s.there≠[]):LInv sl (takeL sl s):=sweep_inv o (cut_take_inv o (least_ok o I h).inv (least_ok o I h).pos)
structure yb (T:List (N×En N))(e:En N):Prop where
 mem:(e.n,e)∈T
 le:∀n e',(n,e')∈T->ltE sl e' e=false
theorem least_is (o:Slo sl){s:LS N}(I:LInv sl s)(h:s.there≠[]):yb (sl:=sl) s.there (g (leastL sl s).row 0):=by
 have c:=least_ok o I h
 refine ⟨by have:=holds_in c.hold;rw [c.there] at this;exact this,fun n e' h'=>?_⟩
 exact c.inv.root o (c.inv.inr n e' (by rw [c.there];exact h')).2
theorem take_there {s:LS N}:(takeL sl s).there=ddel (leastL sl s).there (g (leastL sl s).row 0).n:=sweep_there
end
end Gm
namespace L2
open PySem
instance:Inhabited Str:=⟨""⟩
abbrev En:=Gm.En Str
abbrev LS:=Gm.LS Str
def enV (e:En):List V:=[.int e.w,.str e.n,.int e.s]
theorem mG (e:En):gc (enV e):=⟨_,_,_,rfl⟩
def tz:List V->En
 | [.int w,.str n,.int s]=>⟨w,n,s⟩
 | _=>⟨0,"",0⟩
theorem xh (e:En):tz (enV e)=e:=rfl
theorem kM {l:List V}(h:gc l):enV (tz l)=l:=by
 obtain ⟨i,n,j,rfl⟩:=h
 rfl
theorem uf {a b:En}(h:enV a=enV b):a=b:=by
 have:=congrArg tz h
 exact this
abbrev lE:En->En->Bool:=Gm.ltE slt
theorem slt_slo:Gm.Slo slt where
 irr:=fun a=>decide_eq_false (List.lt_irrefl _)
 tr:=fun a b c h1 h2=>decide_eq_true (List.lt_trans (of_decide_eq_true h1) (of_decide_eq_true h2))
 tot:=fun a b h=>by
  by_cases h1:a.cps.toList<b.cps.toList
  .exact .inl (decide_eq_true h1)
  .by_cases h2:b.cps.toList<a.cps.toList
   .exact .inr (decide_eq_true h2)
   .exact absurd (ug (List.le_antisymm (List.not_lt.mp h2) (List.not_lt.mp h1))) h
theorem tS (a b:En):cP (enV a) (enV b)=lE a b:=by
 unfold enV
 rw [bV,bV,bV]
 show _=Gm.ltE slt a b
 unfold Gm.ltE
 by_cases h:a.w=b.w
 .rw [if_pos (by rw [h]),if_pos h]
  by_cases h2:a.n=b.n
  .rw [if_pos (by rw [h2]),if_pos h2]
   by_cases h3:a.s=b.s
   .rw [if_pos (by rw [h3])]
    show false=_
    rw [h3]
    exact (decide_eq_false (Int.lt_irrefl _)).symm
   .rw [if_neg (fun z=>h3 (V.int.inj z))]
    rfl
  .rw [if_neg (fun z=>h2 (V.str.inj z)),if_neg h2]
   rfl
 rw [if_neg (fun z=>h (V.int.inj z)),if_neg h]
 rfl
def tE (H:Hp)(x:V):En:=tz (bI H x)
theorem xB (H:Hp):tE H .non=default:=rfl
theorem mB (H:Hp)(x y:V):ltT (bI H) x y=lE (tE H x) (tE H y):=by
 rw [<-tS]
 unfold tE ltT
 rw [kM (dG H x),kM (dG H y)]
theorem rS {H:Hp}{a:Addr}{e:En}(h:H a=some (.tup (enV e))):tE H (.ref a)=e:=by
 unfold tE
 rw [ux h (mG e),xh]
structure RR (H:Hp)(xs:List V)(es:List En):Prop where
 mem:∀x∈xs,∃ a,x=.ref a/\H a=some (.tup (enV (tE H x)))
 eq:xs.map (tE H)=es
section
variable {H H':Hp}{xs ys:List V}{es fs:List En}
theorem RR.en (r:RR H xs es):EnR (bI H) H xs:=⟨dG H,fun x hx=>by
 obtain ⟨a,rfl,h⟩:=r.mem x hx
 exact ⟨a,rfl,by rw [<-kM (dG H (.ref a))];exact h⟩⟩
theorem RR.len (r:RR H xs es):xs.length=es.length:=by rw [<-r.eq,List.length_map]
theorem RR.stay (r:RR H xs es)(k:∀b l,H b=some (.tup l)->H' b=some (.tup l)):RR H' xs es:=by
 have e:∀x∈xs,tE H' x=tE H x:=fun x hx=>by
  obtain ⟨a,rfl,h⟩:=r.mem x hx
  exact rS (k _ _ h)
 refine ⟨fun x hx=>?_,?_⟩
 .obtain ⟨a,rfl,h⟩:=r.mem x hx
  exact ⟨a,rfl,by rw [e _ hx];exact k _ _ h⟩
 rw [<-r.eq];exact List.map_congr_left e
theorem RR.nil:RR H [] []:=⟨(fun _ h=>nomatch h),rfl⟩
theorem RR.sub (r:RR H xs es)(s:∀y∈ys,y∈xs):RR H ys (ys.map (tE H)):=⟨fun x hx=>r.mem x (s x hx),rfl⟩
theorem RR.snoc (r:RR H xs es){a:Addr}{e:En}(h:H a=some (.tup (enV e))):RR H (xs++[.ref a]) (es++[e]):=by
 refine ⟨fun x hx=>?_,?_⟩
 .rcases List.mem_append.mp hx with z | z
  .exact r.mem x z
  .rw [zm z]
   exact ⟨a,rfl,by rw [rS h];exact h⟩
 rw [List.map_append,r.eq]
 show es++[tE H (.ref a)]=_
 rw [rS h]
theorem RR.at (r:RR H xs es){i:Nat}(hi:i<es.length):∃ a,Hm.g xs i=.ref a/\H a=some (.tup (enV (Hg.g es i)))/\atI xs (i:Int)=some (.ref a):=by
 have hx:i<xs.length:=by rw [r.len];exact hi
 have m:Hm.g xs i∈xs:=by rw [Hm.g_get hx];exact List.getElem_mem hx
 obtain ⟨a,ea,h⟩:=r.mem _ m
 have eg:Hg.g es i=tE H (Hm.g xs i):=by
  rw [Hg.g_get hi,Hm.g_get hx]
  have:=r.eq
  subst this
  rw [List.getElem_map]
 refine ⟨a,ea,by rw [eg];exact h,?_⟩
 rw [<-ea];exact wu hx
end
section
variable {H:Hp}{xs:List V}
theorem fk (i:Nat):Hg.g (xs.map (tE H)) i=tE H (Hm.g xs i):=by
 unfold Hg.g Hm.g
 rw [List.getD_eq_getElem?_getD,List.getD_eq_getElem?_getD,List.getElem?_map]
 cases xs[i]? with
 | none=>exact (xB H).symm
 | some x=>rfl
theorem qw (i j:Nat):Hg.sw (xs.map (tE H)) i j=(Hm.sw xs i j).map (tE H):=by
 unfold Hg.sw Hm.sw
 rw [fk,fk,List.map_set,List.map_set]
theorem uM (p:Nat):Hg.les lE (xs.map (tE H)) p=Hm.les (ltT (bI H)) xs p:=by
 unfold Hg.les Hm.les
 rw [fk,fk,List.length_map,mB]
theorem mi:∀{f:Nat} {xs:List V} {p lk:Nat},Hg.dn lE f (xs.map (tE H)) p lk=((Hm.dn (ltT (bI H)) f xs p lk).1.map (tE H),(Hm.dn (ltT (bI H)) f xs p lk).2)
 | 0,xs,p,lk=>rfl
 | f+1,xs,p,lk=>by
  unfold Hg.dn Hm.dn
  rw [uM,List.length_map,fk,fk,mB,qw]
  have kd:Hg.kids xs.length p=Hm.kids xs.length p:=rfl
  rw [kd]
  split
  .split
   .exact mi
   .rfl
  .rfl
theorem mK:∀{f:Nat} {xs:List V} {p lk:Nat},Hg.up lE f (xs.map (tE H)) p lk=((Hm.up (ltT (bI H)) f xs p lk).1.map (tE H),(Hm.up (ltT (bI H)) f xs p lk).2)
 | 0,xs,p,lk=>rfl
 | f+1,xs,p,lk=>by
  unfold Hg.up Hm.up
  rw [fk,fk,mB,qw]
  split
  .split
   .exact mK
   .rfl
  .rfl
theorem kU:∀{k:Nat} {xs:List V} {lk:Nat},Hg.mk lE k (xs.map (tE H)) lk=((Hm.mk (ltT (bI H)) k xs lk).1.map (tE H),(Hm.mk (ltT (bI H)) k xs lk).2)
 | 0,xs,lk=>rfl
 | k+1,xs,lk=>by
  unfold Hg.mk Hm.mk
  rw [List.length_map,mi]
  exact kU
theorem oq {xs:List V}:Hg.cutf lE (xs.map (tE H))=((Hm.cutf (ltT (bI H)) xs).1.map (tE H),(Hm.cutf (ltT (bI H)) xs).2):=by
 unfold Hg.cutf Hm.cutf
 rw [fk,List.length_map,<-List.map_dropLast,<-List.map_set,List.length_map,mi]
 by_cases h:xs.dropLast=[]
 .rw [if_pos h,if_pos (by rw [h];rfl)]
  rfl
 rw [if_neg h,if_neg (fun z=>h (List.map_eq_nil_iff.mp z))]
end
def Kept (F:List Addr)(H H':Hp):Prop:=∀b o,H b=some o->b∉F->H' b=some o
section
variable {F G:List Addr}{H H1 H2:Hp}
theorem Kept.refl:Kept F H H:=fun _ _ h _=>h
theorem Kept.trans (a:Kept F H H1)(b:Kept F H1 H2):Kept F H H2:=fun x o h n=>b x o (a x o h n) n
theorem Kept.mono (a:Kept F H H1)(s:∀b∈F,b∈G):Kept G H H1:=fun x o h n=>a x o h fun z=>n (s x z)
theorem Kept.of_same (s:Same H H1):Kept F H H1:=fun b o h _=>s b o h
theorem Kept.new {p:Addr}{o:HO}(k:Kept F H H1)(h:H1 p=none):Kept F H (upd H1 p o):=fun b u e n=>by
 have:=k b u e n
 rw [ak (am this h)];exact this
theorem Kept.newer {p:Addr}{o:HO}(k:Kept F H H1)(h:H p=none):Kept F H (upd H1 p o):=fun b u e n=>by
 rw [ak (am e h)];exact k b u e n
theorem Kept.put {p:Addr}{o:HO}(k:Kept F H H1)(h:p∈F):Kept F H (upd H1 p o):=fun b u e n=>by
 rw [ak (fun z=>by subst z;exact n h)];exact k b u e n
theorem Kept.none (k:Kept F H H1){b:Addr}(h:H1 b=none)(hb:b∉F):H b=none:=by
 cases q:H b with
 | none=>rfl
 | some o=>have:=k b o q hb;rw [h] at this;cases this
theorem Kept.tups (k:Kept F H H1)(hF:∀b∈F,∀xs,H b≠some (.tup xs)):∀b l,H b=some (.tup l)->H1 b=some (.tup l):=fun b l h=>k b _ h fun z=>hF b z l h
end
def KR (H:Hp)(ks:List (Key×V))(T:List (Str×En)):Prop:=Paired (fun (kv:Key×V) (ne:Str×En)=>kv.1=Sum.inr ne.1/\∃ a,kv.2=.ref a/\H a=some (.tup (enV ne.2))) ks T
section
variable {H H':Hp}{ks:List (Key×V)}{T:List (Str×En)}
theorem KR.nil:KR H [] []:=Paired.nil
theorem KR.len (r:KR H ks T):ks.length=T.length:=Paired.length r
theorem KR.stay (r:KR H ks T)(k:∀b l,H b=some (.tup l)->H' b=some (.tup l)):KR H' ks T:=Paired.mapP r fun p q ⟨a,b,c,d⟩=>⟨a,b,c,k _ _ d⟩
theorem dA {a b:Str}(h:¬ a=b):¬ (Sum.inr a:Key)=Sum.inr b:=fun z=>h (Sum.inr.inj z)
theorem KR.get (r:KR H ks T)(n:Str):(bB ks (Sum.inr n)=none/\Gm.dget T n=none)∨∃ a e,bB ks (Sum.inr n)=some (.ref a)/\Gm.dget T n=some e/\H a=some (.tup (enV e)):=by
 induction r with
 | nil=>exact .inl ⟨rfl,rfl⟩
 | @cons p q l l' h _ ih =>
  obtain ⟨h1,a,h2,h3⟩:=h
  by_cases e:q.1=n
  .refine .inr ⟨a,q.2,?_,?_,h3⟩
   .rw [dq (by rw [h1,e]),h2]
   .unfold Gm.dget
    rw [List.find?_cons,decide_eq_true e]
    rfl
  .have e1:bB (p::l) (Sum.inr n)=bB l (Sum.inr n):=dw (by rw [h1];exact dA e)
   have e2:Gm.dget (q::l') n=Gm.dget l' n:=by unfold Gm.dget;rw [List.find?_cons,decide_eq_false e]
   rw [e1,e2]
   exact ih
theorem KR.put (r:KR H ks T){n:Str}{a:Addr}{e:En}(h:H a=some (.tup (enV e))):KR H (aZ ks (Sum.inr n) (.ref a)) (Gm.dput T n e):=by
 have ha:(ks.any fun kv=>decide (kv.1=Sum.inr n))=T.any fun p=>decide (p.1=n):=by
  induction r with
  | nil=>rfl
  | @cons p q l l' hh _ ih =>
   rw [List.any_cons,List.any_cons,ih,hh.1]
   congr 1
   by_cases z:q.1=n
   .rw [decide_eq_true z,decide_eq_true (by rw [z])]
   .rw [decide_eq_false z,decide_eq_false (dA z)]
 have hm:KR H (ks.map fun kv=>if kv.1=Sum.inr n then (kv.1,V.ref a) else kv) (T.map fun p=>if p.1=n then (p.1,e) else p):=by
  clear ha
  induction r with
  | nil=>exact .nil
  | @cons p q l l' hh _ ih =>
   rw [List.map_cons,List.map_cons]
   refine .cons ?_ ih
   obtain ⟨h1,b,h2,h3⟩:=hh
   by_cases z:q.1=n
   .rw [if_pos z,if_pos (by rw [h1,z])]
    exact ⟨h1,a,rfl,h⟩
   .rw [if_neg z,if_neg (by rw [h1];exact dA z)]
    exact ⟨h1,b,h2,h3⟩
 have hs:KR H (ks++[(Sum.inr n,V.ref a)]) (T++[(n,e)]):=by
  clear ha hm
  induction r with
  | nil=>exact .cons ⟨rfl,a,rfl,h⟩ .nil
  | cons hh _ ih=>exact .cons hh ih
 unfold aZ Gm.dput
 rw [ha]
 split
 .exact hm
 exact hs
theorem KR.drop (r:KR H ks T)(n:Str):KR H (bH ks (Sum.inr n)) (Gm.ddel T n):=by
 unfold Gm.ddel bH
 induction r with
 | nil=>exact .nil
 | @cons p q l l' hh _ ih =>
  rw [List.filter_cons,List.filter_cons]
  by_cases z:q.1=n
  .rw [if_neg (by rw [hh.1,z];simp),if_neg (by simp [z])]
   exact ih
  .rw [if_pos (by rw [hh.1];exact decide_eq_true (dA z)),if_pos (by simp [z])]
   exact .cons hh ih
end
inductive Deed where
 | put (n:Str) (w:Int) | drop (n:Str) | change (n:Str) (w:Int) | take | least
inductive Ans where
 | non | clash | nothing | pair (w:Int) (n:Str)
def Deed.v:Deed->List V
 | .put n w=>[.str "put",.str n,.int w]
 | .drop n=>[.str "drop",.str n]
 | .change n w=>[.str "change",.str n,.int w]
 | .take=>[.str "take"]
 | .least=>[.str "least"]
def Deed.ok:Deed->Prop
 | .put n _=>n.length<=10
 | .drop n=>n.length<=10
 | .change n _=>n.length<=10
 | _=>True
def hd (s:LS):En:=Hg.g (Gm.leastL slt s).row 0
def aL (s:LS):Deed->LS×Ans
 | .put n w=>if (Gm.dget s.there n).isSome=true then (s,.clash) else (Gm.putL slt s n w,.non)
 | .drop n=>if (Gm.dget s.there n).isSome=true then (Gm.dropL slt s n,.non) else (s,.nothing)
 | .change n w=>if (Gm.dget s.there n).isSome=true then (Gm.putL slt s n w,.non) else (s,.nothing)
 | .take=>if s.there=[] then (s,.nothing) else (Gm.takeL slt s,.pair (hd s).w (hd s).n)
 | .least=>if s.there=[] then (s,.nothing) else (Gm.leastL slt s,.pair (hd s).w (hd s).n)
theorem rO {s:LS}(I:Gm.LInv slt s)(d:Deed):Gm.LInv slt (aL s d).1:=by
 cases d with
 | put n w=>unfold aL;dsimp only;split;exact I;exact Gm.put_inv slt_slo I
 | drop n=>unfold aL;dsimp only;split;exact Gm.dropL_inv slt_slo I;exact I
 | change n w=>unfold aL;dsimp only;split;exact Gm.put_inv slt_slo I;exact I
 | take=>unfold aL;dsimp only;split;exact I;rename_i h;exact Gm.take_inv slt_slo I h
 | least=>unfold aL;dsimp only;split;exact I;rename_i h;exact (Gm.least_ok slt_slo I h).inv
theorem lA {s:LS}(I:Gm.LInv slt s)(d:Deed):(aL s d).1.stamp<=s.stamp+1:=by
 cases d with
 | put n w =>
  unfold aL;dsimp only;split
  .exact Nat.le_succ _
  .show (Gm.sweep slt _).stamp<=_
   rw [Gm.sweep_stamp];exact Nat.le_refl _
 | drop n =>
  unfold aL;dsimp only;split
  .show (Gm.sweep slt _).stamp<=_
   rw [Gm.sweep_stamp];exact Nat.le_succ _
  .exact Nat.le_succ _
 | change n w =>
  unfold aL;dsimp only;split
  .show (Gm.sweep slt _).stamp<=_
   rw [Gm.sweep_stamp];exact Nat.le_refl _
  .exact Nat.le_succ _
 | take =>
  unfold aL;dsimp only;split
  .exact Nat.le_succ _
  .rename_i h
   show (Gm.sweep slt _).stamp<=_
   rw [Gm.sweep_stamp]
   show (Gm.leastL slt s).stamp<=_
   rw [(Gm.least_ok slt_slo I h).stamp];exact Nat.le_succ _
 | least =>
  unfold aL;dsimp only;split
  .exact Nat.le_succ _
  .rename_i h
   rw [(Gm.least_ok slt_slo I h).stamp];exact Nat.le_succ _
abbrev Tb:=List (Str×Int)
def thW (T:List (Str×En)):Tb:=T.map fun p=>(p.1,p.2.w)
theorem mU {T:List (Str×En)}{n:Str}{e:En}:thW (Gm.dput T n e)=Gm.dput (thW T) n e.w:=Gm.dput_map
theorem nV {T:List (Str×En)}{n:Str}:thW (Gm.ddel T n)=Gm.ddel (thW T) n:=Gm.ddel_map
def qk (t:Tb):Deed->Ans->Tb
 | .put n w,.non=>Gm.dput t n w
 | .drop n,.non=>Gm.ddel t n
 | .change n w,.non=>Gm.dput t n w
 | .take,.pair _ n=>Gm.ddel t n
 | _,_=>t
theorem lO {s:LS}(I:Gm.LInv slt s)(d:Deed):thW (aL s d).1.there=qk (thW s.there) d (aL s d).2:=by
 cases d with
 | put n w =>
  unfold aL;dsimp only;split
  .rfl
  .show thW (Gm.sweep slt _).there=_
   rw [Gm.sweep_there];exact mU
 | drop n =>
  unfold aL;dsimp only;split
  .show thW (Gm.sweep slt _).there=_
   rw [Gm.sweep_there];exact nV
  .rfl
 | change n w =>
  unfold aL;dsimp only;split
  .show thW (Gm.sweep slt _).there=_
   rw [Gm.sweep_there];exact mU
  .rfl
 | take =>
  unfold aL;dsimp only;split
  .rfl
  .rename_i h
   rw [Gm.take_there,(Gm.least_ok slt_slo I h).there];exact nV
 | least =>
  unfold aL;dsimp only;split
  .rfl
  .rename_i h
   rw [(Gm.least_ok slt_slo I h).there];rfl
structure wK (t:Tb)(w:Int)(n:Str):Prop where
 mem:(n,w)∈t
 le:∀m v,(m,v)∈t->ltP (v,m) (w,n)=false
theorem sX {a b:Int×Str}:ltP a b=true↔a.1<b.1∨(a.1=b.1/\slt a.2 b.2=true):=by
 unfold ltP prV
 rw [bV,bV]
 by_cases h:a.1=b.1
 .rw [if_pos (by rw [h])]
  by_cases h2:a.2=b.2
  .rw [if_pos (by rw [h2])]
   constructor
   .intro z;cases z
   .rintro (z | ⟨_,z⟩)
    .lia
    .rw [h2,slt_slo.irr] at z;cases z
  .rw [if_neg (fun z=>h2 (V.str.inj z))]
   constructor
   .intro z;exact .inr ⟨h,z⟩
   .rintro (z | ⟨_,z⟩)
    .lia
    .exact z
 rw [if_neg (fun z=>h (V.int.inj z))]
 constructor
 .intro z;exact .inl (of_decide_eq_true z)
 rintro (z | ⟨z,_⟩)
 .exact decide_eq_true z
 exact absurd z h
theorem jX {s:LS}(I:Gm.LInv slt s)(h:s.there≠[]):wK (thW s.there) (hd s).w (hd s).n:=by
 have l:=Gm.least_is slt_slo I h
 refine ⟨List.mem_map.mpr ⟨_,l.mem,rfl⟩,fun m v hm=>?_⟩
 obtain ⟨⟨m',e⟩,hp,he⟩:=List.mem_map.mp hm
 cases he
 have q:=l.le m' e hp
 cases z:ltP (e.w,m') ((hd s).w,(hd s).n) with
 | false=>rfl
 | true =>
  have en:=(I.inr m' e hp).1
  rw [sX] at z
  have:Gm.ltE slt e (hd s)=true:=Gm.ltE_iff.mpr (by
   rcases z with z | ⟨z1,z2⟩
   .exact .inl z
   .refine .inr ⟨z1,.inl ⟨fun y=>?_,by rw [en];exact z2⟩⟩
    dsimp only at z2
    rw [<-en,y,slt_slo.irr] at z2;cases z2)
  have q':Gm.ltE slt e (hd s)=false:=q
  rw [q'] at this;cases this
end L2
namespace L2
open PySem PySem.Spec PyProof.Rows
section
variable {P:Program}{w:World}{K:W.Frag}{mg:Str->Option Value}{base:Heap}
theorem Fun.okQ {x qual:Str}{st:Stmt}{f:Addr}{fd:FuncData}{N ps:List Str}{k:Nat}{sp:Sp}(F:Fun K x qual st f fd)(S:FnScope N ps (ao st))(len:∀vs H Q E,sp vs H Q E->vs.length=ps.length)
  (hbody:∀(cdv:Value) (A:Around) (outer:List Env) (s:Shared) (H:Hp) (vs:List V) (Q:VK) (E:XK),Room k (A.deeper (envOfC qual (ao st) s.heap.objs.size f cdv))->sp vs H Q E ->
   ∃ t,QSs (bq CX0 P w K mg base N qual (ao st) f cdv A outer s H E).nox (bz st) t/\t { nx:=fun _ H'=>Q .non H',rt:=Q } (dy N vs) H):aA P w K mg base CX0 (k+1) f fd ps sp :=
 F.ok S len fun cdv A outer s H vs Q E hr h=>let ⟨t,a,b⟩:=hbody cdv A outer s H vs Q E hr h;⟨t,a.to,b⟩
end
section
variable {X:Cx}
def yt (c:TT)(t u:TS):TS:=fun D σ H=>∃ J:St->Hp->Prop,(c σ H fun b H1=>if b=true then t { D with nx:=J } σ H1 else u { D with nx:=J } σ H1)/\∀σ' H',J σ' H'->D.nx σ' H'
theorem xj {c:Expr}{a b:List Stmt}{tc:TT}{t u:TS}{pos:Pos}(hc:PT X c tc)(ha:PSs X a t)(hb:PSs X b u):PS X (.If c a b pos) (yt tc t u):=by
 intro pins s σ H D I ⟨J,h,j⟩
 refine thn (vk hc ha hb pins s σ H { D with nx:=J } I h) fun f s' q=>?_
 cases f with
 | next=>obtain ⟨σ',H',I',z⟩:=q;exact ⟨σ',H',I',j _ _ z⟩
 | ret v=>exact q
 | brk=>exact q
 | cont=>exact q
theorem bR {c:Expr}{a b:List Stmt}{tc:TT}{t u:TS}{pos:Pos}(hc:QT X c tc)(ha:QSs X a t)(hb:QSs X b u):QS X (.If c a b pos) (yt tc t u):=.mk (xj hc.to ha.to hb.to)
def xR (t:TT):TT:=fun σ H Q=>∃ J:Bool->Hp->Prop,t σ H J/\∀b H',J b H'->Q b H'
theorem oH {e:Expr}{t:TT}(h:QT X e t):QT X e (xR t):=.mk fun pins s σ H Q I ⟨J,h1,j⟩=>thn (h.to pins s σ H J I h1) fun b s' ⟨H',I',z⟩=>⟨H',I',j b H' z⟩
end
end L2
namespace TS
open PySem PyProof.Rows
theorem j9 {h h':Heap}{a b:Addr}{items:Array Value}(x:h.IsList a items)(hs:Heap.ExtBut b h h')(hab:a≠b):h'.IsList a items:=let ⟨o,ho,r⟩:=x;⟨o,hs a o hab ho,r⟩
theorem iB {h:Heap}{a:Addr}{items:Array Value}(x:h.IsList a items)(o:Obj):(h.push o).IsList a items:=let ⟨o',ho,r⟩:=x;⟨o',Heap.get?_push_of_some o ho,r⟩
section
variable {prog:Program}{w:World}{A:Around}{E:Value->Shared->Prop}
theorem pp {it l:Addr}{items:Array Value}(hne:l≠it):∀(n i:Nat) (s:Shared) (Q:List Value->Shared->Prop),s.heap.IsListIter it l i->s.heap.IsList l items->i+n<=items.size ->
  (∀h',h'.IsListIter it l (i+n)->Heap.SameBut it s.heap h'->Q ((items.toList.drop i).take n) { s with heap:=h' })->wpAny (model prog w) A (draw (.ref it) n) Q E s:=by
 intro n
 induction n with
 | zero =>
  intro i s Q hit hl hi hQ
  show wpAny _ _ (pure []) Q E s
  exact wpAny_pure (by simpa using hQ s.heap hit (Heap.SameBut.refl ..))
 | succ n ih =>
  intro i s Q hit hl hi hQ
  have hlt:i<items.size:=by lia
  show wpAny _ _ (pyNext (.ref it) >>= _) Q E s
  refine wpAny_bind (wpAny_pyNext_list_item hit hl (x:=items[i]) (by simp [hlt]) fun h₁ hit₁ hs₁=>?_)
  refine wpAny_bind (wpAny_holding (ih (i+1) _ _ hit₁ (j9 hl hs₁.extBut hne) zk fun h₂ hit₂ hs₂=>wpAny_pure ?_))
  have hd:items.toList.drop i=items[i]::items.toList.drop (i+1):=by simp [List.drop_eq_getElem_cons,hlt]
  have:=hQ h₂ (by rw [show i+(n+1)=i+1+n by lia];exact hit₂) (hs₁.trans hs₂)
  rw [hd,List.take_succ_cons] at this
  exact this
variable {s:Shared}
theorem fE {l:Addr}{items:Array Value}{Q:List Value->Shared->Prop}(hh:A.handled=none)(hl:s.heap.IsList l items)
  (hQ:∀h',Heap.ExtBut s.heap.objs.size s.heap h'->Q items.toList { s with heap:=h' }):wpAny (model prog w) A (unpackItems (.ref l) items.size none) Q E s:=by
 have hlt:l≠s.heap.objs.size:=by obtain ⟨o,ho,_⟩:=hl;exact Nat.ne_of_lt (Heap.lt_size ho)
 have hT:s.TypeIs (.ref l) "list":=by obtain ⟨o,ho,hc,_⟩:=hl;exact ⟨o,ho,hc⟩
 unfold unpackItems
 refine wpAny_bind ?_
 unfold notIterableAtAll
 refine wpAny_bind (wpAny_specialOf hT slot_list_iter.lookup ?_)
 refine wpAny_pure ?_
 simp only [Bool.false_eq_true,if_false]
 refine wpAny_bind (wpAny_holding (wpAny_pyIter_list hl ?_))
 refine wpAny_bind (wpAny_holding (pp hlt items.size 0 _ _ ⟨_,Heap.get?_push_size _ rfl,rfl,rfl⟩ (iB hl _) zk fun h₁ hit₁ hs₁=>?_))
 have hall:List.take items.size (List.drop 0 items.toList)=items.toList:=by
  rw [List.drop_zero];exact List.take_of_length_le zl
 rw [hall]
 rw [if_neg zl]
 have ht₁:h₁.IsList l items:=j9 (iB hl _) hs₁.extBut hlt
 refine wpAny_bind (wpAny_holding (wpAny_pyNext_list_end hh hit₁ ht₁ zl fun h₂ he₂=>?_))
 simp only [Option.isSome_none,Bool.false_eq_true,if_false]
 exact wpAny_pure (hQ h₂ fun b o hb e=>he₂ b o hb (hs₁.extBut b o hb (Heap.get?_push_of_some _ e)))
theorem assign_Tuple_list {env:Env}{elts:List Expr}{x1}{pos:Pos}{l:Addr}{items:Array Value}{Q:Unit->Shared->Prop}(hh:A.handled=none)(hl:s.heap.IsList l items)
  (hn:(assignEach elts env).length=items.size) (hstar:(assignEach elts env).findIdx? (·.1)=none)
  (h:∀h',Heap.ExtBut s.heap.objs.size s.heap h'->wpAny (model prog w) A (assignInOrder ((assignEach elts env).map (·.2)) items.toList) Q E { s with heap:=h' }) :
  wpAny (model prog w) A (assign (.Tuple elts x1 pos) env (.ref l)) Q E s:=by
 rw [assign_Tuple]
 refine wpAny_bind (wpAny_standAt ?_)
 unfold unpack
 rw [hn,hstar]
 exact wpAny_bind (wpAny_holding (fE hh hl h))
end
end TS
namespace L2
open PySem PyProof.Rows
section
variable {X:Cx}{pos:Pos}
def yu (K:W.Frag)(n:Nat)(t:TGs):TG:=fun v σ H Q=>∃ a xs,v=.ref a/\SqL K H a xs/\xs.length=n/\t xs σ H Q
theorem wF {es:List Expr}{k:Nat}{t:TGs}{n:Nat}(hc:X.calm=true)(h:PGs X es t)
  (hn:(assignEach es X.env).length=n:=by rfl) (hst:(assignEach es X.env).findIdx? (·.1)=none:=by rfl):PG X (.Tuple es k pos) (yu X.K n t):=by
 intro pins s σ H v u Q I r hw
 obtain ⟨a,xs,e1,hq,hl,hw⟩:=hw
 subst e1
 cases r
 obtain ⟨its,rv,ht,hz⟩:=I.list hq
 refine TS.assign_Tuple_list (I.ok.hd hc) ht.isList (by simp [hn,<-hl,rv.length]) hst fun h' hx=>?_
 have I1:Inv X pins σ H { s with heap:=h' }:=I.kept (t':=s.toks) fun b o e=>hx b o (Nat.ne_of_lt (Heap.lt_size e)) e
 exact h pins _ σ H xs _ Q I1 (by simpa using rv) hw
theorem me {es:List Expr}{k:Nat}{t:TGs}{n:Nat}(hc:X.calm=true)(h:QGs X es t)
  (hn:(assignEach es X.env).length=n:=by rfl) (hst:(assignEach es X.env).findIdx? (·.1)=none:=by rfl):QG X (.Tuple es k pos) (yu X.K n t):=.mk (wF hc h.to hn hst)
end
end L2
namespace L2
open PySem PySem.W PySem.Spec PySem.Calls PyProof.Rows
section
variable {X:Cx}
def xT (K:W.Frag)(tl:TE):TI:=fun σ H R=>tl σ H fun x H1=>∃ a,x=.ref a/\(((∃ xs,SqL K H1 a xs)/\R (Itl K a) H1)∨((∃ xs,SqT K H1 a xs)/\R (Itt K a) H1))
theorem w4 {tg l:Expr}{tl:TE}(hl:PE X l tl):PI X tg l (xT X.K tl):=by
 intro pins s σ H R I h
 refine thn (hl pins s σ H _ I h) fun v s1 zz=>?_
 obtain ⟨x,H1,I1,r1,q1⟩:=zz
 obtain ⟨a,e,q1⟩:=q1
 subst e
 cases r1
 rcases q1 with ⟨⟨xs,hq⟩,q⟩ | ⟨⟨xs,hq⟩,q⟩
 .obtain ⟨its,rv,p,hz⟩:=I1.list hq
  refine wpAny_pyIter_list p.isList ?_
  refine ⟨s1.heap.objs.size,[s1.heap.objs.size],_,_,H1,rfl,I1.kept (t':=s1.toks) fun b o e=>Heap.get?_push_of_some _ e,iM a _,⟨_,Heap.get?_push_size _ rfl,rfl,rfl⟩,fun b hb=>?_,q⟩
  have e:b=s1.heap.objs.size:=by simpa using hb
  subst e
  exact I1.fpOk (Nat.le_refl _) (I1.hok.fresh (Nat.le_refl _))
 obtain ⟨its,rv,p,hz⟩:=I1.tuple hq
 refine wpAny_pyIter_tuple (show s1.heap.IsTuple a its.toArray from p) ?_
 refine ⟨s1.heap.objs.size,[s1.heap.objs.size],_,_,H1,rfl,I1.kept (t':=s1.toks) fun b o e=>Heap.get?_push_of_some _ e,gR a _,⟨_,Heap.get?_push_size _ rfl,rfl,rfl⟩,fun b hb=>?_,q⟩
 have e:b=s1.heap.objs.size:=by simpa using hb
 subst e
 exact I1.fpOk (Nat.le_refl _) (I1.hok.fresh (Nat.le_refl _))
theorem wP {tg e:Expr}{te:TE}(h:QE X e te):QI X tg e (xT X.K te):=.mk (w4 h.to)
end
theorem iD {K:PySem.W.Frag}{a:Addr}{xs:List V}{tt:TT}{te:TE}{cap:List Nat}{σ:St}{H:Hp}{D:Addr}{R:Hp->Prop}(Pv:Nat->List V->Hp->Prop)(h0:Pv 0 [] (upd H D (.lst [])))(hD:∀i ys H,Pv i ys H->H D=some (.lst ys)/\SqT K H a xs)
  (hs:∀i x ys H,xs[i]?=some x->Pv i ys H->tt (some x::bE cap σ) H fun b H3 =>
   if b=true then te (some x::bE cap σ) H3 fun v H4=>H4 D=some (.lst ys)/\ys.length<sizeLine/\∃ m',m'<xs.length-i/\m'=xs.length-(i+1)/\i+1<=xs.length/\Pv (i+1) (ys++[v]) (upd H4 D (.lst (ys++[v])))
   else ∃ m',m'<xs.length-i/\m'=xs.length-(i+1)/\i+1<=xs.length/\Pv (i+1) ys H3)
  (hd:∀ys H,Pv xs.length ys H->R H) :
  ∃ W:Nat->Nat->List V->Hp->Prop,(∃ m,W 0 m [] (upd H D (.lst [])))/\∀i m ys H,W i m ys H->H D=some (.lst ys) /\
  (((Itt K a).stop i H/\R H)∨((Itt K a).go i H/\∀x H',(Itt K a).yld i H x H'->tt (some x::bE cap σ) H' fun b H3 =>
   if b=true then te (some x::bE cap σ) H3 fun v H4=>H4 D=some (.lst ys)/\ys.length<sizeLine/\∃ m',m'<m/\W (i+1) m' (ys++[v]) (upd H4 D (.lst (ys++[v])))
   else ∃ m',m'<m/\W (i+1) m' ys H3)):=by
 refine ⟨fun i m ys H=>m=xs.length-i/\i<=xs.length/\Pv i ys H,⟨xs.length,zl,Nat.zero_le _,h0⟩,?_⟩
 rintro i m ys H ⟨rfl,hi,p⟩
 obtain ⟨q1,q⟩:=hD i ys H p
 refine ⟨q1,?_⟩
 by_cases hlt:i<xs.length
 .refine .inr ⟨⟨xs,xs[i],q,by simp [hlt]⟩,fun x H' y=>?_⟩
  obtain ⟨e,y⟩:=y
  subst e
  exact hs i x ys _ (y xs q) p
 have e:i=xs.length:=by lia
 subst e
 exact .inl ⟨⟨xs,q,Nat.le_refl _⟩,hd ys H p⟩
end L2
namespace L2
open PySem PySem.Spec PyProof.Rows
theorem dm {lo:Int}{n:Nat}{tt:TT}{te:TE}{cap:List Nat}{σ:St}{H:Hp}{D:Addr}{R:Hp->Prop}(Pv:Nat->List V->Hp->Prop)(h0:Pv 0 [] (upd H D (.lst [])))(hD:∀i ys H,Pv i ys H->H D=some (.lst ys))
  (hs:∀i ys H,i<n->Pv i ys H->tt (some (.int (lo+i))::bE cap σ) H fun b H3 =>
   if b=true then te (some (.int (lo+i))::bE cap σ) H3 fun v H4=>H4 D=some (.lst ys)/\ys.length<sizeLine/\∃ m',m'<n-i/\m'=n-(i+1)/\i+1<=n/\Pv (i+1) (ys++[v]) (upd H4 D (.lst (ys++[v])))
   else ∃ m',m'<n-i/\m'=n-(i+1)/\i+1<=n/\Pv (i+1) ys H3)
  (hd:∀ys H,Pv n ys H->R H) :
  ∃ W:Nat->Nat->List V->Hp->Prop,(∃ m,W 0 m [] (upd H D (.lst [])))/\∀i m ys H,W i m ys H->H D=some (.lst ys) /\
  (((Itr lo n).stop i H/\R H)∨((Itr lo n).go i H/\∀x H',(Itr lo n).yld i H x H'->tt (some x::bE cap σ) H' fun b H3 =>
   if b=true then te (some x::bE cap σ) H3 fun v H4=>H4 D=some (.lst ys)/\ys.length<sizeLine/\∃ m',m'<m/\W (i+1) m' (ys++[v]) (upd H4 D (.lst (ys++[v])))
   else ∃ m',m'<m/\W (i+1) m' ys H3)):=lV (Q:=fun _ H=>R H) Pv h0 hD hs hd
end L2
namespace Gm
open Hg
section
variable {N:Type}[DecidableEq N][Inhabited N]{sl:N->N->Bool}
theorem nodup_len {α:Type}[DecidableEq α]:∀{G R:List α},G.Nodup->(∀e∈G,e∈R)->G.length<=R.length
 | [],R,_,_=>Nat.zero_le _
 | a::l,R,nd,h=>by
  rw [List.nodup_cons] at nd
  have ih:=nodup_len (R:=R.erase a) nd.2 fun e he=>(List.mem_erase_of_ne (fun (z:e=a)=>nd.1 (z▸he))).mpr (h e (List.mem_cons_of_mem _ he))
  have m:=h a List.mem_cons_self
  rw [List.length_erase_of_mem m] at ih
  have:=List.length_pos_of_mem m
  rw [List.length_cons]
  lia
end
section
variable {N:Type}[DecidableEq N]{β:Type}
structure Tw (t t':List (N×β)):Prop where
 n1:(t.map (·.1)).Nodup
 n2:(t'.map (·.1)).Nodup
 mem:∀p,p∈t↔p∈t'
theorem Tw.refl {t:List (N×β)}(n:(t.map (·.1)).Nodup):Tw t t:=⟨n,n,fun _=>Iff.rfl⟩
theorem Tw.get {t t':List (N×β)}(h:Tw t t')(n:N):dget t n=dget t' n:=by
 cases e:dget t n with
 | some b=>exact (dget_of h.n2 ((h.mem _).mp (dget_some e))).symm
 | none =>
  cases e':dget t' n with
  | none=>rfl
  | some b =>
   rw [dget_of h.n1 ((h.mem _).mpr (dget_some e'))] at e
   cases e
theorem gI {t:List (N×β)}(h:(t.map (·.1)).Nodup):t.Nodup:=List.Pairwise.of_map _ (fun _ _ h z=>h (congrArg _ z)) h
theorem Tw.perm {t t':List (N×β)}(h:Tw t t'):t.Perm t':=(List.perm_ext_iff_of_nodup (gI h.n1) (gI h.n2)).mpr h.mem
theorem Tw.len {t t':List (N×β)}(h:Tw t t'):t.length=t'.length:=h.perm.length_eq
theorem Tw.nil {t t':List (N×β)}(h:Tw t t'):t=[]↔t'=[]:=by rw [<-List.length_eq_zero_iff,<-List.length_eq_zero_iff,h.len]
theorem fj {t:List (N×β)}{n m:N}{b c:β}:(m,c)∈dput t n b↔(m=n/\c=b)∨(m≠n/\(m,c)∈t):=⟨dput_mem,fun h=>by
 rcases h with ⟨rfl,rfl⟩ | ⟨h1,h2⟩
 .exact pJ
 exact ui h2 h1⟩
theorem Tw.put {t t':List (N×β)}(h:Tw t t')(n:N)(b:β):Tw (dput t n b) (dput t' n b):=⟨eF h.n1,eF h.n2,fun ⟨m,c⟩=>by rw [fj,fj,h.mem]⟩
theorem Tw.del {t t':List (N×β)}(h:Tw t t')(n:N):Tw (ddel t n) (ddel t' n):=⟨eB h.n1,eB h.n2,fun ⟨m,c⟩=>by rw [ddel_mem,ddel_mem,h.mem]⟩
theorem Tw.chg {t t':List (N×β)}(h:Tw t t')(n:N)(b:β):Tw (dput (ddel t n) n b) (dput t' n b):=⟨eF (eB h.n1),eF h.n2,fun ⟨m,c⟩=>by
 rw [fj,fj,ddel_mem,h.mem]
 constructor
 .rintro (z | ⟨z,_,y⟩)
  .exact .inl z
  .exact .inr ⟨z,y⟩
 rintro (z | ⟨z,y⟩)
 .exact .inl z
 exact .inr ⟨z,z,y⟩⟩
end
end Gm
namespace L2
open PySem
def ltr (i:Nat):Str:=⟨#[97+i]⟩
theorem qD {i:Nat}(h:i<26):atI ("abcdefghijklmnopqrstuvwxyz":Str).cps.toList (i:Int)=some (97+i):=by
 have:∀i:Nat,i<26->atI ("abcdefghijklmnopqrstuvwxyz":Str).cps.toList (i:Int)=some (97+i):=by decide +kernel
 exact this i h
def psV (e:En):List V:=[.int e.w,.int e.s]
def KP (H:Hp)(ks:List (Key×V))(T:List (Str×En)):Prop:=Paired (fun (kv:Key×V) (ne:Str×En)=>kv.1=Sum.inr ne.1/\∃ a,kv.2=.ref a/\H a=some (.tup (psV ne.2))) ks T
section
variable {H H':Hp}{ks:List (Key×V)}{T:List (Str×En)}
theorem KP.nil:KP H [] []:=Paired.nil
theorem KP.len (r:KP H ks T):ks.length=T.length:=Paired.length r
theorem KP.stay (r:KP H ks T)(k:∀b l,H b=some (.tup l)->H' b=some (.tup l)):KP H' ks T:=Paired.mapP r fun p q ⟨a,b,c,d⟩=>⟨a,b,c,k _ _ d⟩
theorem KP.keys (r:KP H ks T):ks.map (·.1)=(T.map (·.1)).map Sum.inr:=by
 induction r with
 | nil=>rfl
 | cons h _ ih=>rw [List.map_cons,List.map_cons,List.map_cons,ih,h.1]
theorem KP.get (r:KP H ks T)(n:Str):(bB ks (Sum.inr n)=none/\Gm.dget T n=none)∨∃ a e,bB ks (Sum.inr n)=some (.ref a)/\Gm.dget T n=some e/\H a=some (.tup (psV e)):=by
 induction r with
 | nil=>exact .inl ⟨rfl,rfl⟩
 | @cons p q l l' h _ ih =>
  obtain ⟨h1,a,h2,h3⟩:=h
  by_cases e:q.1=n
  .refine .inr ⟨a,q.2,?_,?_,h3⟩
   .rw [dq (by rw [h1,e]),h2]
   .unfold Gm.dget
    rw [List.find?_cons,decide_eq_true e]
    rfl
  .have e1:bB (p::l) (Sum.inr n)=bB l (Sum.inr n):=dw (by rw [h1];exact dA e)
   have e2:Gm.dget (q::l') n=Gm.dget l' n:=by unfold Gm.dget;rw [List.find?_cons,decide_eq_false e]
   rw [e1,e2]
   exact ih
theorem KP.put (r:KP H ks T){n:Str}{a:Addr}{e:En}(h:H a=some (.tup (psV e))):KP H (aZ ks (Sum.inr n) (.ref a)) (Gm.dput T n e):=by
 have ha:(ks.any fun kv=>decide (kv.1=Sum.inr n))=T.any fun p=>decide (p.1=n):=by
  induction r with
  | nil=>rfl
  | @cons p q l l' hh _ ih =>
   rw [List.any_cons,List.any_cons,ih,hh.1]
   congr 1
   by_cases z:q.1=n
   .rw [decide_eq_true z,decide_eq_true (by rw [z])]
   .rw [decide_eq_false z,decide_eq_false (dA z)]
 have hm:KP H (ks.map fun kv=>if kv.1=Sum.inr n then (kv.1,V.ref a) else kv) (T.map fun p=>if p.1=n then (p.1,e) else p):=by
  clear ha
  induction r with
  | nil=>exact .nil
  | @cons p q l l' hh _ ih =>
   rw [List.map_cons,List.map_cons]
   refine .cons ?_ ih
   obtain ⟨h1,b,h2,h3⟩:=hh
   by_cases z:q.1=n
   .rw [if_pos z,if_pos (by rw [h1,z])]
    exact ⟨h1,a,rfl,h⟩
   .rw [if_neg z,if_neg (by rw [h1];exact dA z)]
    exact ⟨h1,b,h2,h3⟩
 have hs:KP H (ks++[(Sum.inr n,V.ref a)]) (T++[(n,e)]):=by
  clear ha hm
  induction r with
  | nil=>exact .cons ⟨rfl,a,rfl,h⟩ .nil
  | cons hh _ ih=>exact .cons hh ih
 unfold aZ Gm.dput
 rw [ha]
 split
 .exact hm
 exact hs
theorem KP.drop (r:KP H ks T)(n:Str):KP H (bH ks (Sum.inr n)) (Gm.ddel T n):=by
 unfold Gm.ddel bH
 induction r with
 | nil=>exact .nil
 | @cons p q l l' hh _ ih =>
  rw [List.filter_cons,List.filter_cons]
  by_cases z:q.1=n
  .rw [if_neg (by rw [hh.1,z];simp),if_neg (by simp [z])]
   exact ih
  .rw [if_pos (by rw [hh.1];exact decide_eq_true (dA z)),if_pos (by simp [z])]
   exact .cons hh ih
end
end L2
namespace L2
open PySem PySem.W PySem.Spec PySem.Calls PyProof.Rows
theorem ij {X:Cx}{K:Frag}(h:X.K=K):bQ X (.builtin "len") (fun xs H Q=>∃ p ys,xs=[.ref p]/\(SqL K H p ys∨SqT K H p ys)/\Q (.int ys.length) H):=by subst h;exact aG
theorem wS {X:Cx}{K:Frag}{e:Expr}{es:List Expr}{o:Expr}{to:TE}{t:TA}{name:Str}{apos cpos:Pos}{T id:String}{r:V->List V->Hp->VK->Prop}(hK:X.K=K)(pa:PlainAttrs T)(slot:Slot T name id)(hty:typeOf (.builtin id)=pure (.type "method_descriptor"))(hm:MtR X id r)(ho:QE X o to)(ha:QA X (e::es) t)
  (hbase:attributeBase o name X.env (eval o X.env)=eval o X.env:=by rfl)
  (hfew:((backTo cpos (starEach (e::es) X.env)).all (fun x=>!x.1)&&(backToKw cpos (keywordEach [] X.env)).all (fun x=>x.1.isSome)
   && decide ((e::es).length+([]:List Keyword).length+(if ([]:List Keyword).isEmpty then 0 else 1)<30))=true:=by rfl)
  (hline:(apos.endLine == cpos.line)=true:=by rfl) (hs:starEach (e::es) X.env=(false,eval e X.env)::starEach es X.env:=by rfl) (hplain:(backTo cpos (starEach es X.env)).any (·.1)=false:=by rfl) :
  QE X (.Call (.Attribute o name apos) (e::es) [] cpos) (tBM K T r to t):=by subst hK;exact .mk (vA pa slot hty hm ho.to ha.to hbase hfew hline hs hplain)
end L2
namespace L2
open PySem
theorem cj {α β:Type}{F:α->β->Prop}{l:List α}{l':List β}(r:Paired F l l'):∀{i:Nat} {a:α},l[i]?=some a->∃ b,l'[i]?=some b/\F a b:=by
 induction r with
 | nil=>intro i a h;cases h
 | @cons x y l l' h _ ih =>
  intro i a e
  cases i with
  | zero=>cases e;exact ⟨y,rfl,h⟩
  | succ i=>exact ih e
section
variable {K:W.Frag}{H H':Hp}{sc b:Addr}{xs:List V}
def KSq (K:W.Frag)(a:Addr)(xs:List V):Prop:=∃ (o:Obj) (its:Array Value) (n:Nat),K.lookup a=some o/\o.cls=.type "list"/\o.dict=none/\o.data=.seq its n/\its.size<=sizeLine/\Vals xs its.toList
def Off (K:W.Frag)(sc:Addr)(xs:List V)(b:Addr):Prop:=b≠sc∨KSq K sc xs
theorem SqL.fresh (h:SqL K H sc xs)(e:H b=none):Off K sc xs b:=by
 rcases h with h | h
 .refine .inl fun z=>?_
  rw [z] at e
  rcases h with h | ⟨o,h⟩ <;> (rw [h] at e;cases e)
 exact .inr h
theorem SqL.unlike (h:SqL K H sc xs){u:HO}(e:H b=some u)(n:∀ys,u=.lst ys->ys≠xs)(n2:∀o v,u≠.frz o v):Off K sc xs b:=by
 rcases h with h | h
 .refine .inl fun z=>?_
  rw [z] at e
  rcases h with h | ⟨o,h⟩
  .rw [h] at e;cases e;exact n _ rfl rfl
  .rw [h] at e;cases e;exact n2 _ _ rfl
 exact .inr h
theorem SqL.kept {F:List Addr}(h:SqL K H sc xs)(hF:∀b∈F,Off K sc xs b)(k:Kept F H H'):SqL K H' sc xs:=by
 rcases h with h | h
 .by_cases z:sc∈F
  .rcases hF sc z with q | q
   .exact absurd rfl q
   .exact .inr q
  .refine .inl ?_
   rcases h with h | ⟨o,h⟩
   .exact .inl (k _ _ h z)
   .exact .inr ⟨o,k _ _ h z⟩
 exact .inr h
theorem SqL.same' (h:SqL K H sc xs)(k:Same H H'):SqL K H' sc xs:=h.kept (F:=[]) (fun _ z=>nomatch z) fun b o e _=>k b o e
end
structure Pile (K:W.Frag)(H:Hp)(pl sc:Addr)(ns:List Int):Prop where
 to:∃ a b c e:Int,H pl=some (.lst [.ref sc,.int a,.int b,.int c,.int e])/\0<=a/\0<=c/\c<2147483629
 hs:SqL K H sc (ns.map V.int)
 ln:ns.length<=63
section
variable {K:W.Frag}{H H':Hp}{pl sc b:Addr}{ns:List Int}
theorem tD {x:V}{l:List V}{ns:List Int}(hx:∀i,x≠.int i):(x::l)≠ns.map V.int:=fun z=>by
 cases ns with
 | nil=>cases z
 | cons n ns =>
  rw [List.map_cons] at z
  injection z with z _
  exact hx n z
theorem Pile.offP (P:Pile K H pl sc ns):Off K sc (ns.map V.int) pl:=by
 obtain ⟨a,b,c,e,h,_⟩:=P.to
 exact P.hs.unlike h (fun ys z=>by cases z;exact tD fun i=>by intro z;cases z) (fun _ _ z=>nomatch z)
theorem Pile.kept {F:List Addr}(P:Pile K H pl sc ns)(hF:∀b∈F,b≠pl/\Off K sc (ns.map V.int) b)(k:Kept F H H'):Pile K H' pl sc ns:=by
 obtain ⟨a,b,c,e,h,r⟩:=P.to
 exact ⟨⟨a,b,c,e,k _ _ h (fun z=>(hF _ z).1 rfl),r⟩,P.hs.kept (fun b hb=>(hF b hb).2) k,P.ln⟩
theorem Pile.same (P:Pile K H pl sc ns)(k:Same H H'):Pile K H' pl sc ns:=P.kept (F:=[]) (fun _ z=>nomatch z) fun b o e _=>k b o e
theorem Pile.there (P:Pile K H pl sc ns):∃ u,H pl=some u:=let ⟨_,_,_,_,h,_⟩:=P.to;⟨_,h⟩
theorem Pile.new (P:Pile K H pl sc ns)(e:H b=none):b≠pl/\Off K sc (ns.map V.int) b:=by
 obtain ⟨u,h⟩:=P.there
 exact ⟨(am h e).symm,P.hs.fresh e⟩
theorem Pile.unlike (P:Pile K H pl sc ns){u:HO}(e:H b=some u)(n:∀ys,u≠.lst ys)(n2:∀o v,u≠.frz o v):b≠pl/\Off K sc (ns.map V.int) b:=by
 obtain ⟨a1,b1,c1,e1,h,_⟩:=P.to
 exact ⟨fun z=>by rw [z,h] at e;cases e;exact n _ rfl,P.hs.unlike e (fun ys z=>absurd z (n ys)) n2⟩
theorem Pile.put {a b' c e:Int}(P:Pile K H pl sc ns)(h0:0<=a)(h1:0<=c)(h2:c<2147483629):Pile K (upd H pl (.lst [.ref sc,.int a,.int b',.int c,.int e])) pl sc ns :=
 ⟨⟨a,b',c,e,af,h0,h1,h2⟩,P.hs.kept (F:=[pl]) (fun b hb=>by rw [zm hb];exact P.offP) (Kept.refl.put zl),P.ln⟩
end
def cD (K:W.Frag):Sp:=fun vs H Q _=>∃ (pl sc:Addr) (ns:List Int) (most:Int),vs=[.ref pl,.int most]/\Pile K H pl sc ns/\0<most/\most<2 ^ 120 /\
 ∀x H',0<=x->x<most->Pile K H' pl sc ns->Kept [pl] H H'->(∀b,H b=none->H' b=none)->Q (.int x) H'
end L2
namespace L2
open PySem PySem.W PySem.Spec PySem.Calls PyProof.Rows
section
variable {X:Cx}
theorem rg:SlR X (fun x lo hi H Q=>∃ z,x=.str z/\z.length<=sizeLine/\Q (.str (Txt.slice z lo hi)) H):=by
 intro pins s σ H x v vl vu lo hi sl Q I rx hs pl pu h
 obtain ⟨z,rfl,hz,q⟩:=h
 obtain ⟨t,rfl⟩:=rx
 have fin:∀(l u:Option Int),lo=l->hi=u->∀t' k,EP X pins σ Q (.str (Txt.slice z l u) t') { s with toks:=k }:=fun l u e1 e2 t' k=>by
  subst e1 e2
  exact ⟨.str _,H,I.tok _,⟨t',rfl⟩,q⟩
 cases pl with
 | none =>
  cases pu with
  | none=>exact ⟨"str",_,PySem.F.slot_str_getitem.lookup,typeIs_str _ _ _,wpAny_getItem_str_slice (l:=none) (u:=none) (st:=none) hs rfl (post_val_or_str ⟨Nat.le_trans (Txt.slice_le z _ _) hz,fin none none rfl rfl⟩)⟩
  | int j u=>exact ⟨"str",_,PySem.F.slot_str_getitem.lookup,typeIs_str _ _ _,wpAny_getItem_str_slice (l:=none) (u:=some (j,u)) (st:=none) hs rfl (post_val_or_str ⟨Nat.le_trans (Txt.slice_le z _ _) hz,fin none (some j) rfl rfl⟩)⟩
 | int i u0 =>
  cases pu with
  | none=>exact ⟨"str",_,PySem.F.slot_str_getitem.lookup,typeIs_str _ _ _,wpAny_getItem_str_slice (l:=some (i,u0)) (u:=none) (st:=none) hs rfl (post_val_or_str ⟨Nat.le_trans (Txt.slice_le z _ _) hz,fin (some i) none rfl rfl⟩)⟩
  | int j u=>exact ⟨"str",_,PySem.F.slot_str_getitem.lookup,typeIs_str _ _ _,wpAny_getItem_str_slice (l:=some (i,u0)) (u:=some (j,u)) (st:=none) hs rfl (post_val_or_str ⟨Nat.le_trans (Txt.slice_le z _ _) hz,fin (some i) (some j) rfl rfl⟩)⟩
theorem jy:∀{zs:List Str} {its:List Value},Vals (zs.map V.str) its->∃ l:List (Str×Tok),its=strValues l/\l.map (·.1)=zs
 | [],_,.nil=>⟨[],rfl,rfl⟩
 | z::zs,_,.cons r rs=>by
  obtain ⟨t,rfl⟩:=(show ∃ t,_=Value.str z t from r)
  obtain ⟨l,e1,e2⟩:=jy rs
  exact ⟨(z,t)::l,by rw [e1];rfl,by rw [<-e2];rfl⟩
theorem tW:MtR X "str.join" (fun x xs H Q=>∃ (sep:Str) (p:Addr) (zs:List Str),x=.str sep/\xs=[.ref p]/\SqL X.K H p (zs.map V.str)/\sep.length<=100/\zs.length<=1000/\(∀y∈zs,y.length<=100)/\Q (.str (Txt.join sep zs)) H):=by
 intro pins s σ H x xs v us Q I rx rv h
 obtain ⟨sep,p,zs,rfl,rfl,hp,h1,h2,h3,q⟩:=h
 obtain ⟨t,rfl⟩:=rx
 obtain ⟨u,rfl,ru⟩:=dh rv
 cases ru
 obtain ⟨its,r,pl,hz⟩:=I.list hp
 obtain ⟨l,e1,e2⟩:=jy r
 subst e1
 refine SC.join (l:=l) (texts:=zs) pl.isList e2 ?_ fun t' k=>⟨.str _,H,I.tok _,⟨t',rfl⟩,q⟩
 have m1:zs.length*100<=1000*100:=Nat.mul_le_mul_right _ h2
 have m2:zs.length*sep.length<=1000*100:=Nat.mul_le_mul h2 h1
 have:=StrLaws.joinFits (sep:=sep) (texts:=zs) (B:=100) h3 zk
 unfold JoinOk
 rw [Bool.not_eq_true']
 exact this
theorem sj {zs:List Str}(h:∀y∈zs,y.length<=1):(Txt.join "" zs).length<=zs.length:=by
 have e:Txt.join "" zs=Str.join "" zs:=StrLaws.glued_eq_join "" zs
 rw [e]
 have a:=StrLaws.join_length_le "" zs
 have b:(zs.map (·.length)).sum<=zs.length:=by
  clear a e
  induction zs with
  | nil=>exact Nat.le_refl _
  | cons z zs ih =>
   have h1:=h z List.mem_cons_self
   have h2:=ih fun y hy=>h y (List.mem_cons_of_mem _ hy)
   rw [List.map_cons,List.sum_cons,List.length_cons]
   lia
 have c:(("":Str)).length=0:=rfl
 rw [c] at a
 lia
end
end L2
namespace L2
open PySem
theorem cU {R:Hp->Prop}{H:Hp}{p:Addr}{o:HO}(h:H p=none)(k:∀H1,Same H H1->H1 p=some o->R H1):R (upd H p o):=k _ (ai h) af
end L2
namespace L2
open PySem PyProof.Rows
section
variable {X:Cx}
theorem qr {x y:V}{us:List Value}(r:Vals [x,y] us):∃ u v,us=[u,v]/\RelV x u/\RelV y v:=by
 cases r with
 | cons r1 r2 =>
  cases r2 with
  | cons r3 r4=>cases r4;exact ⟨_,_,rfl,r1,r3⟩
end
end L2
namespace Wb
open PySem L2
abbrev Row:=Str×Str×Int
abbrev Web:=List Row
section
variable {web:Web}{first:Str}{far:Tb}
def rl (c:Tb×Bool)(r:Row):Tb×Bool :=
 match Gm.dget c.1 r.1 with
 | none=>c
 | some u=>match Gm.dget c.1 r.2.1 with
  | none=>(Gm.dput c.1 r.2.1 (u+r.2.2),true)
  | some v=>if u+r.2.2<v then (Gm.dput c.1 r.2.1 (u+r.2.2),true) else c
end
end Wb
namespace L2
open PySem PySem.W PySem.Spec PySem.Calls PyProof.Rows
open PySem.SeqAt (EqAt RcAt RcNeAt)
section
variable {X:Cx}
theorem vd (hu:X.A.units<cLine):OpR X (compareOp .Eq) (fun x y H Q=>∃ (b:Addr) (i' j':Int),y=.ref b/\SqT X.K H b [.int i',.int j']/\((x=.non/\Q (.bl false) H)∨∃ (a:Addr) (i j:Int),x=.ref a/\SqT X.K H a [.int i,.int j]/\Q (.bl (decide (i=i'/\j=j'))) H)):=by
 intro pins s σ H x y v u Q I rx ry h
 obtain ⟨b,i',j',rfl,hb,⟨rfl,q⟩ | ⟨a,i,j,rfl,ha,q⟩⟩:=h
 .cases rx
  cases ry
  obtain ⟨its,r,ht,_⟩:=I.tuple hb
  exact RcAt.none_tuple ht hu X.prog X.w _ _ ⟨.bl false,H,I,rfl,q⟩
 cases rx
 cases ry
 obtain ⟨its,r,ht,_⟩:=I.tuple ha
 obtain ⟨its2,r2,ht2,_⟩:=I.tuple hb
 obtain ⟨u0,u1,rfl,a0,a1⟩:=qr r
 obtain ⟨v0,v1,rfl,b0,b1⟩:=qr r2
 obtain ⟨e0,q0,z0⟩:=cJ (a:=.int i) (c:=.int i') X.A.in1 s trivial a0 b0
 obtain ⟨e1,q1,z1⟩:=cJ (a:=.int j) (c:=.int j') X.A.in1 s trivial a1 b1
 refine SeqAt.eq_tupleAt (e:=fun k=>if k=0 then e0 else e1) ht ht2 hu (fun k h1 h2=>?_) ⟨.bl _,H,I,?_,q⟩
 .match k,h1,h2 with
  | 0,_,_=>exact q0
  | 1,_,_=>exact q1
  | k+2,h1,_=>exact absurd h1 zl
 show Value.bool ((e0&&(e1&&true))&&true)=Value.bool _
 rw [Bool.and_true,Bool.and_true]
 congr 1
 rw [Bool.eq_iff_iff,decide_eq_true_eq,Bool.and_eq_true,z0,z1]
 exact ⟨fun ⟨x,y⟩=>⟨V.int.inj x,V.int.inj y⟩,fun ⟨x,y⟩=>⟨by rw [x],by rw [y]⟩⟩
theorem gr:OpR X (compareOp .In) (fun x y H Q=>∃ (a:Addr) (n:Str) (xs:List Str),x=.str n/\y=.ref a/\SqT X.K H a (xs.map V.str)/\Q (.bl (decide (n∈xs))) H):=by
 intro pins s σ H x y v u Q I rx ry h
 obtain ⟨a,n,xs,rfl,rfl,ha,q⟩:=h
 obtain ⟨t,rfl⟩:=rx
 cases ry
 obtain ⟨its,r,p,_⟩:=I.tuple ha
 have hv:∀y∈its,∃ z∈xs,∃ t,y=Value.str z t:=fun y hy=>by
  obtain ⟨j,hj,ej⟩:=List.getElem_of_mem hy
  obtain ⟨x,ex,rx⟩:=r.at hj
  rw [List.getElem?_map] at ex
  cases e:xs[j]? with
  | none=>rw [e] at ex;cases ex
  | some z =>
   rw [e] at ex
   cases ex
   obtain ⟨t,et⟩:=rx
   exact ⟨z,List.mem_of_getElem? e,t,ej▸et⟩
 have hw:∀z∈xs,∃ t,Value.str z t∈its:=fun z hz=>by
  obtain ⟨j,hj,ej⟩:=List.getElem_of_mem hz
  have e:(xs.map V.str)[j]?=some (V.str z):=by rw [List.getElem?_map,List.getElem?_eq_getElem hj,ej];rfl
  obtain ⟨u,hu,t,et⟩:=r.get e
  exact ⟨t,et▸List.mem_of_getElem? hu⟩
 let e:Value->Bool:=fun y=>match y with | .str z _=>z == n | _=>false
 refine SeqAt.in_tupleAt e p (fun y hy=>?_) ⟨.bl _,H,I,?_,q⟩
 .obtain ⟨z,_,t',rfl⟩:=hv y (by simpa using hy)
  exact EqAt.str_str z t' n t
 have ea:its.toArray.any e=its.any e:=by simp
 show Value.bool (its.toArray.any e)=Value.bool _
 rw [ea]
 congr 1
 rw [Bool.eq_iff_iff,decide_eq_true_eq,List.any_eq_true]
 constructor
 .rintro ⟨y,hy,ey⟩
  obtain ⟨z,hz,t',rfl⟩:=hv y hy
  have ez:z=n:=(dk z n).mp ey
  exact ez▸hz
 intro hn
 obtain ⟨t',ht⟩:=hw n hn
 exact ⟨_,ht,(dk n n).mpr rfl⟩
theorem pX {pos:Pos}{e1 e2 e3 e4 e5 f1 f2 f3 f4 f5:Expr}{a1 a2 a3 a4 a5 b1 b2 b3 b4 b5:TE}(g1:QE X e1 a1)(h1:QE X f1 b1)(g2:QE X e2 a2)(h2:QE X f2 b2)(g3:QE X e3 a3)(h3:QE X f3 b3)(g4:QE X e4 a4)(h4:QE X f4 b4)(g5:QE X e5 a5)(h5:QE X f5 b5) :
  QE X (.Dict [some e1,some e2,some e3,some e4,some e5] [f1,f2,f3,f4,f5] pos) (vW [(a1,b1),(a2,b2),(a3,b3),(a4,b4),(a5,b5)]) :=
 .mk (vc (cZ g1.to h1.to (cZ g2.to h2.to (cZ g3.to h3.to (cZ g4.to h4.to (cZ g5.to h5.to ua))))) rfl rfl zl zl)
end
def stK (r td:Addr)(s:LS)(wk:Nat):List (Key×V):=[(Sum.inr "slack",.int s.slack),(Sum.inr "row",.ref r),(Sum.inr "there",.ref td),(Sum.inr "next",.int s.stamp),(Sum.inr "work",.int wk)]
theorem st_ne:("slack":Str)≠"row"/\("slack":Str)≠"there"/\("slack":Str)≠"next"/\("slack":Str)≠"work"/\("row":Str)≠"there"/\("row":Str)≠"next"/\("row":Str)≠"work"/\("there":Str)≠"next"/\("there":Str)≠"work"/\("next":Str)≠"work":=by decide +kernel
theorem kH {k:Key}{v:V}{l:List (Key×V)}:bB ((k,v)::l) k=some v:=by unfold bB;rw [List.find?_cons_of_pos zl];rfl
theorem dM {a b:Str}{v:V}{l:List (Key×V)}(h:a≠b):bB ((Sum.inr a,v)::l) (Sum.inr b:Key)=bB l (Sum.inr b):=by
 unfold bB
 rw [List.find?_cons_of_neg (by simpa using fun z:a=b=>h z)]
section
variable {r td D:Addr}{s:LS}{wk w2:Nat}
theorem qX:bB (stK r td s wk) (Sum.inr "slack":Key)=some (.int s.slack):=kH
theorem qi:bB (stK r td s wk) (Sum.inr "row":Key)=some (.ref r):=by unfold stK;rw [dM st_ne.1,kH]
theorem rH:bB (stK r td s wk) (Sum.inr "there":Key)=some (.ref td):=by unfold stK;rw [dM st_ne.2.1,dM st_ne.2.2.2.2.1,kH]
theorem tJ:bB (stK r td s wk) (Sum.inr "next":Key)=some (.int s.stamp):=by unfold stK;rw [dM st_ne.2.2.1,dM st_ne.2.2.2.2.2.1,dM st_ne.2.2.2.2.2.2.2.1,kH]
theorem tM:bB (stK r td s wk) (Sum.inr "work":Key)=some (.int wk):=by unfold stK;rw [dM st_ne.2.2.2.1,dM st_ne.2.2.2.2.2.2.1,dM st_ne.2.2.2.2.2.2.2.2.1,dM st_ne.2.2.2.2.2.2.2.2.2,kH]
theorem ju {k:Str}{v:V}(h:k∈(["slack","row","there","next","work"]:List Str)):aZ (stK r td s wk) (Sum.inr k:Key) v=(stK r td s wk).map fun kv=>if kv.1=(Sum.inr k:Key) then (kv.1,v) else kv:=by
 unfold aZ
 rw [if_pos]
 rw [List.any_eq_true]
 simp only [List.mem_cons,List.not_mem_nil,or_false] at h
 unfold stK
 rcases h with rfl | rfl | rfl | rfl | rfl
 .exact ⟨(Sum.inr "slack",.int s.slack),zl,decide_eq_true rfl⟩
 .exact ⟨(Sum.inr "row",.ref r),zl,decide_eq_true rfl⟩
 .exact ⟨(Sum.inr "there",.ref td),zl,decide_eq_true rfl⟩
 .exact ⟨(Sum.inr "next",.int s.stamp),zl,decide_eq_true rfl⟩
 exact ⟨(Sum.inr "work",.int wk),zl,decide_eq_true rfl⟩
theorem v9 {s':LS}(h1:s'.slack=s.slack)(h2:s'.stamp=s.stamp):aZ (stK r td s wk) (Sum.inr "row":Key) (.ref D)=stK D td s' wk:=by
 rw [ju zl]
 unfold stK
 simp only [List.map_cons,List.map_nil]
 rw [if_neg (fun z=>st_ne.1 (Sum.inr.inj z)),if_pos trivial,if_neg (fun z=>st_ne.2.2.2.2.1 (Sum.inr.inj z).symm),if_neg (fun z=>st_ne.2.2.2.2.2.1 (Sum.inr.inj z).symm),if_neg (fun z=>st_ne.2.2.2.2.2.2.1 (Sum.inr.inj z).symm),h1,h2]
theorem vb {s':LS}(h1:s'.slack=s.slack)(h2:s'.stamp=s.stamp+1):aZ (stK r td s wk) (Sum.inr "next":Key) (.int ((s.stamp:Int)+1))=stK r td s' wk:=by
 rw [ju zl]
 unfold stK
 simp only [List.map_cons,List.map_nil]
 rw [if_neg (fun z=>st_ne.2.2.1 (Sum.inr.inj z)),if_neg (fun z=>st_ne.2.2.2.2.2.1 (Sum.inr.inj z)),if_neg (fun z=>st_ne.2.2.2.2.2.2.2.1 (Sum.inr.inj z)),if_pos trivial,if_neg (fun z=>st_ne.2.2.2.2.2.2.2.2.2 (Sum.inr.inj z).symm),h1,h2]
 rfl
theorem tX:aZ (stK r td s wk) (Sum.inr "work":Key) (.int w2)=stK r td s w2:=by
 rw [ju zl]
 unfold stK
 simp only [List.map_cons,List.map_nil]
 rw [if_neg (fun z=>st_ne.2.2.2.1 (Sum.inr.inj z)),if_neg (fun z=>st_ne.2.2.2.2.2.2.1 (Sum.inr.inj z)),if_neg (fun z=>st_ne.2.2.2.2.2.2.2.2.1 (Sum.inr.inj z)),if_neg (fun z=>st_ne.2.2.2.2.2.2.2.2.2 (Sum.inr.inj z)),if_pos trivial]
end
theorem hZ {k:Str}{v:V}{l:List (Key×V)}(h:∀p∈l,p.1≠(Sum.inr k:Key)):aZ l (Sum.inr k:Key) v=l++[(Sum.inr k,v)]:=by
 unfold aZ
 rw [if_neg]
 rw [List.any_eq_true]
 rintro ⟨p,hp,e⟩
 exact h p hp (of_decide_eq_true e)
theorem re {z:Int}{r td:Addr}:fP [] [(Sum.inr "slack",.int z),(Sum.inr "row",.ref r),(Sum.inr "there",.ref td),(Sum.inr "next",.int 0),(Sum.inr "work",.int 0)]=stK r td (Gm.newL z) 0:=by
 have q:∀{a b:Str},a≠b->(Sum.inr a:Key)≠Sum.inr b:=fun h z=>h (Sum.inr.inj z)
 have e0:aZ ([]:List (Key×V)) (Sum.inr "slack") (V.int z)=([(Sum.inr "slack",V.int z)]:List (Key×V)):=hZ (l:=[]) (fun p hp=>nomatch hp)
 have e1:aZ ([(Sum.inr "slack",V.int z)]:List (Key×V)) (Sum.inr "row") (V.ref r)=([(Sum.inr "slack",V.int z),(Sum.inr "row",V.ref r)]:List (Key×V)):=hZ (by
  intro p hp
  simp only [List.mem_cons,List.not_mem_nil,or_false] at hp
  rcases hp with rfl
  .exact q st_ne.1)
 have e2:aZ ([(Sum.inr "slack",V.int z),(Sum.inr "row",V.ref r)]:List (Key×V)) (Sum.inr "there") (V.ref td)=([(Sum.inr "slack",V.int z),(Sum.inr "row",V.ref r),(Sum.inr "there",V.ref td)]:List (Key×V)):=hZ (by
  intro p hp
  simp only [List.mem_cons,List.not_mem_nil,or_false] at hp
  rcases hp with rfl | rfl
  .exact q st_ne.2.1
  .exact q st_ne.2.2.2.2.1)
 have e3:aZ ([(Sum.inr "slack",V.int z),(Sum.inr "row",V.ref r),(Sum.inr "there",V.ref td)]:List (Key×V)) (Sum.inr "next") (V.int 0)=([(Sum.inr "slack",V.int z),(Sum.inr "row",V.ref r),(Sum.inr "there",V.ref td),(Sum.inr "next",V.int 0)]:List (Key×V)):=hZ (by
  intro p hp
  simp only [List.mem_cons,List.not_mem_nil,or_false] at hp
  rcases hp with rfl | rfl | rfl
  .exact q st_ne.2.2.1
  .exact q st_ne.2.2.2.2.2.1
  .exact q st_ne.2.2.2.2.2.2.2.1)
 have e4:aZ ([(Sum.inr "slack",V.int z),(Sum.inr "row",V.ref r),(Sum.inr "there",V.ref td),(Sum.inr "next",V.int 0)]:List (Key×V)) (Sum.inr "work") (V.int 0)=([(Sum.inr "slack",V.int z),(Sum.inr "row",V.ref r),(Sum.inr "there",V.ref td),(Sum.inr "next",V.int 0),(Sum.inr "work",V.int 0)]:List (Key×V)):=hZ (by
  intro p hp
  simp only [List.mem_cons,List.not_mem_nil,or_false] at hp
  rcases hp with rfl | rfl | rfl | rfl
  .exact q st_ne.2.2.2.1
  .exact q st_ne.2.2.2.2.2.2.1
  .exact q st_ne.2.2.2.2.2.2.2.2.1
  .exact q st_ne.2.2.2.2.2.2.2.2.2)
 show (aZ (aZ (aZ (aZ (aZ ([]:List (Key×V)) (Sum.inr "slack":Key) (V.int z)) (Sum.inr "row":Key) (V.ref r)) (Sum.inr "there":Key) (V.ref td)) (Sum.inr "next":Key) (V.int 0)) (Sum.inr "work":Key) (V.int 0))=_
 rw [e0,e1,e2,e3,e4]
 rfl
structure StAt (H:Hp)(st r td:Addr)(s:LS)(wk:Nat):Prop where
 hs:H st=some (.dK (stK r td s wk))
 hr:∃ xs,H r=some (.lst xs)/\RR H xs s.row
 ht:∃ ks,H td=some (.dK ks)/\KP H ks s.there
 ne:st≠td
section
variable {H H':Hp}{st r td:Addr}{s:LS}{wk:Nat}
theorem StAt.slack (O:StAt H st r td s wk):DGet H st (.str "slack") (some (.int s.slack)):=qX (r:=r) (td:=td) (s:=s) (wk:=wk)▸DGet.k (k:=Sum.inr "slack") O.hs
theorem StAt.row (O:StAt H st r td s wk):DGet H st (.str "row") (some (.ref r)):=qi (r:=r) (td:=td) (s:=s) (wk:=wk)▸DGet.k (k:=Sum.inr "row") O.hs
theorem StAt.there (O:StAt H st r td s wk):DGet H st (.str "there") (some (.ref td)):=rH (r:=r) (td:=td) (s:=s) (wk:=wk)▸DGet.k (k:=Sum.inr "there") O.hs
theorem StAt.next (O:StAt H st r td s wk):DGet H st (.str "next") (some (.int s.stamp)):=tJ (r:=r) (td:=td) (s:=s) (wk:=wk)▸DGet.k (k:=Sum.inr "next") O.hs
theorem StAt.work (O:StAt H st r td s wk):DGet H st (.str "work") (some (.int wk)):=tM (r:=r) (td:=td) (s:=s) (wk:=wk)▸DGet.k (k:=Sum.inr "work") O.hs
theorem StAt.stay (O:StAt H st r td s wk)(k:∀b o,(b=st∨b=r∨b=td)->H b=some o->H' b=some o)(t:∀b l,H b=some (.tup l)->H' b=some (.tup l)):StAt H' st r td s wk:=by
 obtain ⟨xs,hx,rr⟩:=O.hr
 obtain ⟨ks,hd,kr⟩:=O.ht
 exact ⟨k _ _ (.inl rfl) O.hs,⟨xs,k _ _ (.inr (.inl rfl)) hx,rr.stay t⟩,⟨ks,k _ _ (.inr (.inr rfl)) hd,kr.stay t⟩,O.ne⟩
theorem StAt.same (O:StAt H st r td s wk)(k:Same H H'):StAt H' st r td s wk:=O.stay (fun b o _ e=>k b o e) fun b l e=>k _ _ e
theorem StAt.notup (O:StAt H st r td s wk):∀b∈[st,r,td],∀xs,¬ H b=some (.tup xs):=by
 obtain ⟨ys,hr,_⟩:=O.hr
 obtain ⟨kt,ht,_⟩:=O.ht
 intro b hb xs z
 simp only [List.mem_cons,List.not_mem_nil,or_false] at hb
 rcases hb with rfl | rfl | rfl
 .rw [O.hs] at z;cases z
 .rw [hr] at z;cases z
 rw [ht] at z;cases z
theorem StAt.apart (O:StAt H st r td s wk):r≠st/\r≠td:=by
 obtain ⟨xs,hx,_⟩:=O.hr
 obtain ⟨ks,hd,_⟩:=O.ht
 exact ⟨bA hx O.hs (by intro z;cases z),bA hx hd (by intro z;cases z)⟩
theorem StAt.tk (O:StAt H st r td s wk){F:List Addr}(k:Kept F H H')(h:∀b∈F,b∈[st,r,td]):∀b zs,H b=some (.tup zs)->H' b=some (.tup zs):=k.tups fun b hb zs=>O.notup b (h b hb) zs
theorem StAt.rowTo (O:StAt H st r td s wk){ys:List V}{es:List En}(h:H' r=some (.lst ys))(rr:RR H' ys es)(k:Kept [r] H H'){lk:Nat}:StAt H' st r td { s with row:=es,looks:=lk } wk:=by
 obtain ⟨ks,hd,kr⟩:=O.ht
 obtain ⟨n1,n2⟩:=O.apart
 exact ⟨k _ _ O.hs (fun z=>n1 (zm z).symm),⟨ys,h,rr⟩,⟨ks,k _ _ hd (fun z=>n2 (zm z).symm),kr.stay (O.tk k fun b hb=>by rw [zm hb];simp)⟩,O.ne⟩
theorem StAt.thereTo (O:StAt H st r td s wk){ks:List (Key×V)}{T:List (Str×En)}(h:H' td=some (.dK ks))(kr:KP H' ks T)(k:Kept [td] H H'):StAt H' st r td { s with there:=T } wk:=by
 obtain ⟨xs,hx,rr⟩:=O.hr
 obtain ⟨n1,n2⟩:=O.apart
 exact ⟨k _ _ O.hs (fun z=>O.ne (zm z)),⟨xs,k _ _ hx (fun z=>n2 (zm z)),rr.stay (O.tk k fun b hb=>by rw [zm hb];simp)⟩,⟨ks,h,kr⟩,O.ne⟩
theorem StAt.dictTo (O:StAt H st r td s wk){s':LS}{wk':Nat}(h:H' st=some (.dK (stK r td s' wk')))(e1:s'.row=s.row)(e2:s'.there=s.there)(k:Kept [st] H H'):StAt H' st r td s' wk':=by
 obtain ⟨xs,hx,rr⟩:=O.hr
 obtain ⟨ks,hd,kr⟩:=O.ht
 obtain ⟨n1,n2⟩:=O.apart
 have t:=O.tk k fun b hb=>by rw [zm hb];simp
 exact ⟨h,⟨xs,k _ _ hx (fun z=>n1 (zm z)),by rw [e1];exact rr.stay t⟩,⟨ks,k _ _ hd (fun z=>O.ne (zm z).symm),by rw [e2];exact kr.stay t⟩,O.ne⟩
theorem StAt.workTo (O:StAt H st r td s wk){lk:Nat}(h:s.looks=wk+lk):StAt (upd H st (.dK (aZ (stK r td s wk) (Sum.inr "work":Key) (.int ((wk:Int)+(lk:Int)))))) st r td s s.looks/\Kept [st] H (upd H st (.dK (aZ (stK r td s wk) (Sum.inr "work":Key) (.int ((wk:Int)+(lk:Int)))))):=by
 have e:aZ (stK r td s wk) (Sum.inr "work":Key) (.int ((wk:Int)+(lk:Int)))=stK r td s s.looks:=by
  rw [h]
  exact tX (w2:=wk+lk)
 rw [e]
 have k:Kept [st] H (upd H st (.dK (stK r td s s.looks))):=Kept.refl.put zl
 exact ⟨O.dictTo af rfl rfl k,k⟩
theorem StAt.dropTo (O:StAt H st r td s wk){ks:List (Key×V)}(n:Str)(hd:H td=some (.dK ks)):StAt (upd H td (.dK (bH ks (Sum.inr n)))) st r td (Gm.dropT s n) wk/\Kept [td] H (upd H td (.dK (bH ks (Sum.inr n)))):=by
 obtain ⟨ks',hd',kr⟩:=O.ht
 rw [hd] at hd'
 cases hd'
 have k:Kept [td] H (upd H td (.dK (bH ks (Sum.inr n)))):=Kept.refl.put zl
 exact ⟨O.thereTo af ((kr.drop n).stay (O.tk k fun b hb=>by rw [zm hb];simp)) k,k⟩
end
end L2
namespace L2
open PySem PySem.Spec PyProof.Rows
open PySem.SeqAt (EqAt RcAt RcNeAt)
def Deed.inN (ns:List V):Deed->Prop
 | .put n _=>V.str n∈ns
 | .drop n=>V.str n∈ns
 | .change n _=>V.str n∈ns
 | _=>True
def InN (ns:List V)(t:Tb):Prop:=∀p∈t,V.str p.1∈ns
theorem InN.plain {ns:List V}{t:Tb}(h:InN ns t){d:Deed}(hd:d.inN ns)(a:Ans):InN ns (qk t d a):=by
 have put:∀n w,V.str n∈ns->InN ns (Gm.dput t n w):=fun n w hn p hp=>by
  obtain ⟨m,c⟩:=p
  rcases Gm.dput_mem hp with ⟨e,_⟩ | ⟨_,e⟩
  .show V.str m∈ns
   rw [e];exact hn
  .exact h _ e
 have del:∀n,InN ns (Gm.ddel t n):=fun n p hp=>by
  obtain ⟨m,c⟩:=p
  exact h _ (Gm.ddel_mem.mp hp).2
 cases d <;> cases a <;> first | exact h | exact put _ _ hd | exact del _
theorem InN.len {ns:List V}{T:List (Str×En)}(h:InN ns (thW T))(nd:(T.map (·.1)).Nodup):T.length<=ns.length:=by
 have n2:((T.map (·.1)).map V.str).Nodup:=by
  rw [List.nodup_iff_pairwise_ne,List.pairwise_map]
  exact (List.nodup_iff_pairwise_ne.mp nd).imp fun n z=>n (V.str.inj z)
 have:=Gm.nodup_len n2 (R:=ns) (fun e he=>by
  obtain ⟨n,hn,rfl⟩:=List.mem_map.mp he
  obtain ⟨p,hp,rfl⟩:=List.mem_map.mp hn
  exact h (p.1,p.2.w) (List.mem_map.mpr ⟨p,hp,rfl⟩))
 rw [List.length_map,List.length_map] at this
 exact this
end L2
namespace L2
open PySem
def Deed.fit (s:LS):Deed->Prop
 | .put n _=>Gm.dget s.there n=none
 | .drop n=>Gm.dget s.there n≠none
 | .change n _=>Gm.dget s.there n≠none
 | .take=>s.there≠[]
 | .least=>s.there≠[]
def stepS (s:LS):Deed->LS
 | .put n w=>Gm.putL slt s n w
 | .drop n=>Gm.dropL slt s n
 | .change n w=>Gm.sweep slt (Gm.enter slt (Gm.dropT s n) n w)
 | .take=>Gm.takeL slt s
 | .least=>Gm.leastL slt s
theorem pd {s:LS}(I:Gm.LInv slt s){d:Deed}(h:d.fit s):Gm.LInv slt (stepS s d):=by
 cases d with
 | put n w=>exact Gm.put_inv slt_slo I
 | drop n=>exact Gm.dropL_inv slt_slo I
 | change n w=>exact Gm.sweep_inv slt_slo (Gm.enter_inv slt_slo (Gm.drop_inv I))
 | take=>exact Gm.take_inv slt_slo I h
 | least=>exact (Gm.least_ok slt_slo I h).inv
structure Sim (s t:LS):Prop where
 row:s.row=t.row
 lk:s.looks=t.looks
 st:s.stamp=t.stamp
 sl:s.slack=t.slack
 tw:Gm.Tw s.there t.there
theorem Sim.holds {s t:LS}(h:Sim s t)(e:En):Gm.holds s.there e=Gm.holds t.there e:=by
 unfold Gm.holds
 rw [h.tw.get]
theorem Sim.len {s t:LS}(h:Sim s t):s.there.length=t.there.length:=h.tw.len
theorem Sim.due {s t:LS}(h:Sim s t):Gm.due s=Gm.due t:=by
 unfold Gm.due
 rw [h.row,h.len,h.sl]
theorem Sim.sweep {s t:LS}(h:Sim s t):Sim (Gm.sweep slt s) (Gm.sweep slt t):=by
 unfold Gm.sweep
 rw [h.due]
 split
 .have ef:s.row.filter (Gm.holds s.there)=t.row.filter (Gm.holds t.there):=by
   rw [h.row]
   exact List.filter_congr fun e _=>h.holds e
  unfold Gm.swept
  rw [ef,h.lk]
  exact ⟨rfl,rfl,h.st,h.sl,h.tw⟩
 exact h
theorem Sim.enter {s t:LS}(h:Sim s t)(n:Str)(w:Int):Sim (Gm.enter slt s n w) (Gm.enter slt t n w):=by
 unfold Gm.enter
 rw [h.row,h.lk,h.st,h.sl]
 exact ⟨rfl,rfl,rfl,rfl,h.tw.put _ _⟩
theorem Sim.enterC {s t:LS}(h:Sim s t)(n:Str)(w:Int):Sim (Gm.enter slt (Gm.dropT s n) n w) (Gm.enter slt t n w):=by
 unfold Gm.enter Gm.dropT
 dsimp only
 rw [h.row,h.lk,h.st,h.sl]
 exact ⟨rfl,rfl,rfl,rfl,h.tw.chg _ _⟩
theorem Sim.drop {s t:LS}(h:Sim s t)(n:Str):Sim (Gm.dropT s n) (Gm.dropT t n):=⟨h.row,h.lk,h.st,h.sl,h.tw.del n⟩
theorem Sim.cut {s t:LS}(h:Sim s t):Sim (Gm.cut slt s) (Gm.cut slt t):=by
 unfold Gm.cut
 rw [h.row,h.lk,h.st,h.sl]
 exact ⟨rfl,rfl,rfl,rfl,h.tw⟩
theorem Sim.clean:∀(f:Nat) {s t:LS},Sim s t->Sim (Gm.clean slt f s) (Gm.clean slt f t)
 | 0,_,_,h=>h
 | f+1,s,t,h=>by
  unfold Gm.clean
  rw [h.row,h.holds]
  split
  .exact h
  .exact Sim.clean f h.cut
theorem Sim.least {s t:LS}(h:Sim s t):Sim (Gm.leastL slt s) (Gm.leastL slt t):=by
 unfold Gm.leastL
 rw [h.row]
 exact Sim.clean _ h
theorem Sim.take {s t:LS}(h:Sim s t):Sim (Gm.takeL slt s) (Gm.takeL slt t):=by
 unfold Gm.takeL
 rw [h.least.row]
 exact (h.least.cut.drop _).sweep
theorem Sim.nil {s t:LS}(h:Sim s t):s.there=[]↔t.there=[]:=h.tw.nil
theorem Sim.step {s t:LS}(h:Sim s t){d:Deed}(f:d.fit s):Sim (stepS s d) (aL t d).1:=by
 cases d with
 | put n w =>
  have e:Gm.dget t.there n=none:=by rw [<-h.tw.get];exact f
  show Sim (Gm.putL slt s n w) (if (Gm.dget t.there n).isSome=true then (t,Ans.clash) else (Gm.putL slt t n w,Ans.non)).1
  rw [e]
  exact (h.enter n w).sweep
 | drop n =>
  have e:(Gm.dget t.there n).isSome=true:=by
   rw [<-h.tw.get]
   cases z:Gm.dget s.there n with
   | none=>exact absurd z f
   | some _=>rfl
  show Sim (Gm.dropL slt s n) (if (Gm.dget t.there n).isSome=true then (Gm.dropL slt t n,Ans.non) else (t,Ans.nothing)).1
  rw [if_pos e]
  exact (h.drop n).sweep
 | change n w =>
  have e:(Gm.dget t.there n).isSome=true:=by
   rw [<-h.tw.get]
   cases z:Gm.dget s.there n with
   | none=>exact absurd z f
   | some _=>rfl
  show Sim (Gm.sweep slt (Gm.enter slt (Gm.dropT s n) n w)) (if (Gm.dget t.there n).isSome=true then (Gm.putL slt t n w,Ans.non) else (t,Ans.nothing)).1
  rw [if_pos e]
  exact (h.enterC n w).sweep
 | take =>
  have e:t.there≠[]:=fun z=>f (h.nil.mpr z)
  show Sim (Gm.takeL slt s) (if t.there=[] then (t,Ans.nothing) else (Gm.takeL slt t,Ans.pair (L2.hd t).w (L2.hd t).n)).1
  rw [if_neg e]
  exact h.take
 | least =>
  have e:t.there≠[]:=fun z=>f (h.nil.mpr z)
  show Sim (Gm.leastL slt s) (if t.there=[] then (t,Ans.nothing) else (Gm.leastL slt t,Ans.pair (L2.hd t).w (L2.hd t).n)).1
  rw [if_neg e]
  exact h.least
theorem Sim.refl {s:LS}(I:Gm.LInv slt s):Sim s s:=⟨rfl,rfl,rfl,rfl,Gm.Tw.refl I.nd⟩
theorem Sim.fit {s t:LS}(h:Sim s t){d:Deed}(f:d.fit s):d.fit t:=by
 cases d with
 | put n w=>exact (h.tw.get n).symm.trans f
 | drop n=>exact fun z=>f ((h.tw.get n).trans z)
 | change n w=>exact fun z=>f ((h.tw.get n).trans z)
 | take=>exact fun z=>f (h.nil.mpr z)
 | least=>exact fun z=>f (h.nil.mpr z)
theorem jY {s:LS}(I:Gm.LInv slt s){d:Deed}(f:d.fit s):(stepS s d).stamp<=s.stamp+1:=by
 rw [((Sim.refl I).step f).st]
 exact lA I d
theorem InN.stepS {nv:List V}{s:LS}(h:InN nv (thW s.there))(I:Gm.LInv slt s){d:Deed}(f:d.fit s)(hd:d.inN nv):InN nv (thW (stepS s d).there):=fun p hp=>by
 obtain ⟨⟨n,e⟩,hq,rfl⟩:=List.mem_map.mp hp
 have m:=(((Sim.refl I).step f).tw.mem (n,e)).mp hq
 have h2:InN nv (thW (aL s d).1.there):=by
  rw [lO I d]
  exact h.plain hd _
 exact h2 (n,e.w) (List.mem_map.mpr ⟨(n,e),m,rfl⟩)
def bu (z:Int)(ds:List Deed):LS:=ds.foldl stepS (Gm.newL z)
def a6 (z:Int)(ds:List Deed):LS:=ds.foldl (fun t d=>(aL t d).1) (Gm.newL z)
theorem bj {z:Int}{ds:List Deed}{d:Deed}:bu z (ds++[d])=stepS (bu z ds) d:=by unfold bu;rw [List.foldl_append];rfl
theorem cH {z:Int}{ds:List Deed}{d:Deed}:a6 z (ds++[d])=(aL (a6 z ds) d).1:=by unfold a6;rw [List.foldl_append];rfl
inductive Fits (z:Int):List Deed->Prop
 | nil:Fits z []
 | snoc {ds:List Deed} {d:Deed}:Fits z ds->d.fit (bu z ds)->Fits z (ds++[d])
theorem Fits.inv {z:Int}{ds:List Deed}(h:Fits z ds):Gm.LInv slt (bu z ds):=by
 induction h with
 | nil=>exact Gm.new_inv
 | snoc _ f ih=>rw [bj];exact pd ih f
theorem Fits.stamp {z:Int}{ds:List Deed}(h:Fits z ds):(bu z ds).stamp<=ds.length:=by
 induction h with
 | nil=>exact Nat.le_refl _
 | snoc h f ih =>
  rw [bj,List.length_append]
  exact Nat.le_trans (jY h.inv f) (Nat.succ_le_succ ih)
theorem Fits.inN {z:Int}{nv:List V}{ds:List Deed}(h:Fits z ds)(hd:∀d∈ds,d.inN nv):InN nv (thW (bu z ds).there):=by
 induction h with
 | nil=>exact fun _ z=>nomatch z
 | snoc h f ih =>
  rw [bj]
  exact (ih fun d m=>hd d (List.mem_append_left _ m)).stepS h.inv f (hd _ zl)
theorem Fits.sim {z:Int}{ds:List Deed}(h:Fits z ds):Sim (bu z ds) (a6 z ds):=by
 induction h with
 | nil=>exact Sim.refl Gm.new_inv
 | snoc _ f ih=>rw [bj,cH];exact ih.step f
theorem Fits.invL {z:Int}{ds:List Deed}(h:Fits z ds):Gm.LInv slt (a6 z ds):=by
 induction h with
 | nil=>exact Gm.new_inv
 | snoc _ _ ih=>rw [cH];exact rO ih _
theorem Fits.at {z:Int}{ds:List Deed}(h:Fits z ds):∀{i:Nat} {d:Deed},ds[i]?=some d->Fits z (ds.take i)/\d.fit (bu z (ds.take i)):=by
 induction h with
 | nil=>intro i d e;cases e
 | @snoc ds x h f ih =>
  intro i d e
  by_cases hi:i<ds.length
  .rw [List.getElem?_append_left hi] at e
   rw [List.take_append_of_le_length (Nat.le_of_lt hi)]
   exact ih e
  .have l:=(List.getElem?_eq_some_iff.mp e).1
   rw [List.length_append] at l
   have l1:i<ds.length+1:=l
   have ei:i=ds.length:=by lia
   subst ei
   rw [List.getElem?_append_right (Nat.le_refl _),Nat.sub_self] at e
   cases e
   rw [List.take_append_of_le_length (Nat.le_refl _),List.take_length]
   exact ⟨h,f⟩
theorem gQ (d:Deed):∃ n more,d.v=V.str n::more:=by cases d <;> exact ⟨_,_,rfl⟩
def DDs (H:Hp)(zs:List V)(ds:List Deed):Prop:=Paired (fun (v:V) (d:Deed)=>∃ a,v=.ref a/\H a=some (.tup d.v)) zs ds
theorem DDs.stay {H H':Hp}{zs:List V}{ds:List Deed}(r:DDs H zs ds)(k:∀b l,H b=some (.tup l)->H' b=some (.tup l)):DDs H' zs ds:=Paired.mapP r fun p q ⟨a,b,c⟩=>⟨a,b,k _ _ c⟩
def mv (f:Str->Int)(ys:List Str)(p:LS×LS):LS×LS:=ys.foldl (fun p n=>(Gm.putL slt p.1 n (f n),Gm.dropL slt p.2 n)) p
end L2
namespace TS
open PySem PyProof.Rows
section
variable {prog:Program}{w:World}{A:Around}{E:Value->Shared->Prop}{s:Shared}{κ:KeyKind}{kd:SortKind}{a₀:Array Keyed}{st:SortSt}
theorem tY (C:Cmp prog w A s κ kd a₀){x y:Keyed}{Q:Option Bool->SortSt->Prop}(hx:x∈a₀.toList)(hy:y∈a₀.toList)(hk:kindOf st=kd)(q:∀b,Q (some b) st):wpS (model prog w) A E s (lt' x y) Q st:=yx C hx hy hk (q _)
theorem gK (C:Cmp prog w A s κ kd a₀)(B:SB kd a₀ st){i j:Nat}{Q:Option Bool->SortSt->Prop}(hi:i<a₀.size)(hj:j<a₀.size)(q:∀b,Q (some b) st):wpS (model prog w) A E s (ltAt' i j) Q st:=wg C B hi hj (q _)
theorem vo (C:Cmp prog w A s κ kd a₀)(B:SB kd a₀ st){lo n nrem:Nat}{Q:C2->SortSt->Prop}(hn:lo+nrem=a₀.size)(h1:1<=n)(h2:n<=nrem)(k:∀m,n<=m->m<=nrem->Q (none,m) st):wpS (model prog w) A E s (clb lo n nrem) Q st:=by
 unfold clb
 refine wpS_forRange (I:=fun x c st'=>st'=st/\c=(none,x)) ?_ ?_ ⟨rfl,rfl⟩
 .rintro x c st' ha hb ⟨rfl,rfl⟩
  dsimp only
  refine wpS_bind (gK C B zk zk fun b=>?_)
  cases b with
  | true=>simp only [if_true];exact wpS_pure (k x ha zk)
  | false=>simp only [Bool.false_eq_true,if_false];exact wpS_pure ⟨rfl,rfl⟩
 rintro c st' ⟨rfl,rfl⟩
 rw [show max n nrem=nrem by lia]
 exact k nrem h2 (Nat.le_refl _)
def wf (kd:SortKind)(a₀:Array Keyed)(nrem:Nat)(st₀:SortSt)(m:Nat)(st:SortSt):Prop:=SB kd a₀ st/\pendingOf st=pendingOf st₀/\1<=m/\m<=nrem
theorem vT (C:Cmp prog w A s κ kd a₀)(B:SB kd a₀ st){st0:SortSt}{lo m nrem:Nat}{Q:Option Nat->SortSt->Prop}(hn:lo+nrem=a₀.size)(p:pendingOf st=pendingOf st0)(hm1:1<=m)(hm2:m<=nrem)(h:∀m st',wf kd a₀ nrem st0 m st'->Q (some m) st'):wpS (model prog w) A E s (trn lo m nrem) Q st:=by
 unfold trn
 refine wpS_bind (dF ?_)
 have B3:SB kd a₀ (setArr st (mirror (arrOf st) lo (lo+m) ((lo+m-lo) / 2))):=B.arr (mirror_perm _ _ _ _)
 exact wpS_bind (vo C B3 hn hm1 hm2 fun x hx1 hx2=>wpS_pure (h x _ ⟨B3,p,zk,hx2⟩))
theorem vj (C:Cmp prog w A s κ kd a₀)(B:SB kd a₀ st){st0:SortSt}{lo n nrem:Nat}{Q:Option Nat->SortSt->Prop}(hn:lo+nrem=a₀.size)(p:pendingOf st=pendingOf st0)(hn1:1<=n)(hn2:n+1<=nrem)(h:∀m st',wf kd a₀ nrem st0 m st'->Q (some m) st'):wpS (model prog w) A E s (fpt lo n nrem) Q st:=by
 unfold fpt
 refine wpS_bind (wpS_lift (wpAny_rule ⟨rfl,?_⟩))
 refine wpS_bind ?_
 unfold fll
 refine wpS_mono (wpS_forRange (I:=fun x c st'=>∃ q,c=(none,x,q)/\SB kd a₀ st'/\pendingOf st'=pendingOf st0)
  (Q:=fun c st'=>∃ x q,c=(none,x,q)/\1<=x/\x<=nrem/\SB kd a₀ st'/\pendingOf st'=pendingOf st0) ?_ ?_ ⟨0,rfl,B,p⟩) ?_
 .rintro x c st' ha hb ⟨q,rfl,B',p'⟩
  dsimp only
  refine wpS_bind (gK C B' zk zk fun b=>?_)
  cases b with
  | true =>
   simp only [if_true]
   by_cases hq0:q>0
   .rw [if_pos hq0]
    exact wpS_bind (dF (wpS_pure ⟨0,rfl,B'.arr (mirror_perm _ _ _ _),p'⟩))
   .rw [if_neg hq0]
    exact wpS_pure ⟨0,rfl,B',p'⟩
  | false =>
   simp only [Bool.false_eq_true,if_false]
   refine wpS_bind (gK C B' zk zk fun b=>?_)
   cases b with
   | true=>simp only [if_true];exact wpS_pure ⟨x,q,rfl,zk,zk,B',p'⟩
   | false=>simp only [Bool.false_eq_true,if_false];exact wpS_pure ⟨q+1,rfl,B',p'⟩
 .rintro c st' ⟨q,rfl,B',p'⟩
  rw [show max (n+1) nrem=nrem by lia]
  exact ⟨nrem,q,rfl,zk,Nat.le_refl _,B',p'⟩
 rintro c st' ⟨x,q,rfl,hx1,hx2,B',p'⟩
 dsimp only
 by_cases hq0:q>0
 .rw [if_pos hq0]
  exact wpS_bind (dF (vT C (B'.arr (mirror_perm _ _ _ _)) hn p' hx1 hx2 h))
 rw [if_neg hq0]
 exact vT C B' hn p' hx1 hx2 h
theorem uX (C:Cmp prog w A s κ kd a₀)(B:SB kd a₀ st){lo nrem:Nat}{Q:Option Nat->SortSt->Prop}(hn:lo+nrem=a₀.size)(h1:1<=nrem)(h:∀m st',wf kd a₀ nrem st m st'->Q (some m) st'):wpS (model prog w) A E s (countRun' lo nrem) Q st:=by
 rw [wd]
 refine wpS_bind (vo C B hn (Nat.le_refl _) h1 fun n hn1 hn2=>?_)
 dsimp only
 by_cases hnn:n=nrem
 .rw [if_pos (by simpa using hnn)]
  exact wpS_pure (h n st ⟨B,rfl,hn1,hn2⟩)
 rw [if_neg (by simpa using hnn)]
 by_cases hg:n>1
 .rw [if_pos hg]
  refine wpS_bind (gK C B zk zk fun b=>?_)
  cases b with
  | true=>simp only [if_true];exact wpS_pure (h n st ⟨B,rfl,hn1,hn2⟩)
  | false =>
   simp only [Bool.false_eq_true,if_false]
   exact wpS_bind (dF (vj C (B.arr (mirror_perm _ _ _ _)) (st0:=st) hn rfl hn1 zk h))
 rw [if_neg hg]
 exact vj C B hn rfl hn1 zk h
theorem xM (C:Cmp prog w A s κ kd a₀)(B:SB kd a₀ st){lo n ok:Nat}{Q:Bool->SortSt->Prop}(hn:lo+n<=a₀.size)(hok:ok<=n)(h1:1<=ok)(h:∀st',SB kd a₀ st'->pendingOf st'=pendingOf st->Q true st'):wpS (model prog w) A E s (binarySort' lo n ok) Q st:=by
 rw [binarySort'_eq]
 refine wpS_bind (wpS_mono (wpS_forRange (I:=fun k c st'=>c=(none,())/\SB kd a₀ st'/\pendingOf st'=pendingOf st)
  (Q:=fun c st'=>c=(none,())/\SB kd a₀ st'/\pendingOf st'=pendingOf st) ?_ (fun _ _ z=>z) ⟨rfl,B,rfl⟩) ?_)
 .rintro k c st' ha hb ⟨rfl,B',p'⟩
  refine wpS_bind (wpS_mono (wpS_forRange (I:=fun x c st2=>st2=st'/\∃ l r,c=(none,l,r)/\l<=r/\r<=k/\r-l<=k-x)
   (Q:=fun c st2=>st2=st'/\∃ l r,c=(none,l,r)/\l<=k) ?_ ?_ ⟨rfl,0,k,rfl,zk,zk,zk⟩) ?_)
  .rintro x c st2 _ hx ⟨rfl,l,r,rfl,h1',h2',h3'⟩
   dsimp only
   by_cases hg:l ≥ r
   .rw [if_pos hg]
    exact wpS_pure ⟨rfl,l,r,rfl,zk⟩
   .rw [if_neg hg]
    refine wpS_bind (gK C B' zk zk fun b=>?_)
    cases b with
    | true=>simp only [if_true];exact wpS_pure ⟨rfl,l,(l+r) / 2,rfl,zk,zk,zk⟩
    | false=>simp only [Bool.false_eq_true,if_false];exact wpS_pure ⟨rfl,(l+r) / 2+1,r,rfl,zk,zk,zk⟩
  .rintro c st2 ⟨rfl,l,r,rfl,h1',h2',h3'⟩
   exact ⟨rfl,l,r,rfl,zk⟩
  .rintro c st2 ⟨rfl,l,r,rfl,hl⟩
   show wpS _ _ _ _ (moveDown' (lo+k) (lo+l) >>= fun _=>pure (ForInStep.yield (none,()))) _ _
   rw [moveDown'_eq]
   exact wpS_bind (wpS_modify (wpS_pure ⟨rfl,B'.arr (bubble_perm _ _ _),p'⟩))
 rintro c st' ⟨rfl,B',p'⟩
 exact wpS_pure (h st' B' p')
theorem yB (C:Cmp prog w A s κ kd a₀)(hk:kindOf st=kd){left:Bool}{key:Keyed}{arr:Array Keyed}{base n hint:Nat}{Q:Option Nat->SortSt->Prop}(hkey:key∈a₀.toList)
  (hf:∀i,i<n->∃ p,arr[base+i]?=some p/\p∈a₀.toList) (hh:hint<n) (h:∀k,k<=n->Q (some k) st):wpS (model prog w) A E s (gal left key arr base n hint) Q st:=by
 have one:∀i,i<n->∀R:Option Bool->SortSt->Prop,(∀b,R (some b) st)->wpS (model prog w) A E s (elem' arr (base+i) >>= fun x=>if left=true then lt' x key else lt' key x >>= fun r=>pure (Option.map (fun b=>!b) r)) R st:=by
  intro i hi R r
  obtain ⟨p,e,m⟩:=hf i hi
  refine wpS_bind (aT e ?_)
  cases left with
  | true=>simp only [if_true];exact tY C m hkey hk r
  | false=>simp only [Bool.false_eq_true,if_false];exact wpS_bind (tY C hkey m hk fun b=>wpS_pure (r _))
 have two:∀{lo hi:Nat} {R:Option (Option Nat)×Nat×Nat->SortSt->Prop},lo<=hi->hi<=n->(∀c k,k<=n->R (none,c,k) st) ->
   wpS (model prog w) A E s (forIn [0:n] ((none,lo,hi):Option (Option Nat)×Nat×Nat) fun _ c=>if c.2.1 ≥ c.2.2 then pure (ForInStep.done (none,c.2.1,c.2.2)) else
    (elem' arr (base+(c.2.1+(c.2.2-c.2.1) / 2)) >>= fun x=>if left=true then lt' x key else lt' key x >>= fun r=>pure (Option.map (fun b=>!b) r)) >>= fun x=>match x with
     | some b=>if b=true then pure (ForInStep.yield (none,c.2.1+(c.2.2-c.2.1) / 2+1,c.2.2)) else pure (ForInStep.yield (none,c.2.1,c.2.1+(c.2.2-c.2.1) / 2))
     | _=>pure (ForInStep.done (some none,c.2.1,c.2.2))) R st:=by
  intro lo hi R h1 h2 r
  refine wpS_forRange (I:=fun x c z=>z=st/\∃ lo hi,c=(none,lo,hi)/\lo<=hi/\hi<=n/\hi-lo<=n-x) ?_ ?_ ⟨rfl,_,_,rfl,h1,h2,zk⟩
  .rintro x c st2 _ hx ⟨rfl,lo,hi,rfl,h1,h2,h3⟩
   dsimp only
   by_cases hg:lo ≥ hi
   .rw [if_pos hg]
    exact wpS_pure (r _ _ h2)
   .rw [if_neg hg]
    refine wpS_bind (one _ zk _ fun b=>?_)
    cases b with
    | true=>simp only [if_true];exact wpS_pure ⟨rfl,_,_,rfl,zk,zk,zk⟩
    | false=>simp only [Bool.false_eq_true,if_false];exact wpS_pure ⟨rfl,_,_,rfl,zk,zk,zk⟩
  .rintro c st2 ⟨rfl,lo,hi,rfl,h1,h2,h3⟩
   exact r _ _ h2
 show wpS (model prog w) A E s (gal left key arr base n hint) Q st
 refine wpS_bind (one hint hh _ fun b=>?_)
 dsimp only
 cases b with
 | true =>
  simp only [if_true]
  refine wpS_bind (wpS_mono (wpS_forRange (I:=fun x c st'=>st'=st/\∃ la o,c=(none,la,o)/\la<o/\x<o/\hint+la<n)
   (Q:=fun c st'=>st'=st/\∃ la o,c=(none,la,o)/\la<o/\hint+la<n) ?_ ?_ ⟨rfl,0,1,rfl,zk,zk,zk⟩) ?_)
  .rintro x c st' _ hx ⟨rfl,la,o,rfl,h1,h2,h3⟩
   dsimp only
   by_cases hg:o ≥ n-hint
   .rw [if_pos hg]
    exact wpS_pure ⟨rfl,la,o,rfl,h1,h3⟩
   .rw [if_neg hg]
    refine wpS_bind (one _ zk _ fun b=>?_)
    cases b with
    | true=>simp only [Bool.not_true,Bool.false_eq_true,if_false];exact wpS_pure ⟨rfl,o,2*o+1,rfl,zk,zk,zk⟩
    | false=>simp only [Bool.not_false,if_true];exact wpS_pure ⟨rfl,la,o,rfl,h1,h3⟩
  .rintro c st' ⟨rfl,la,o,rfl,h1,h2,h3⟩
   exact ⟨rfl,la,o,rfl,h1,h3⟩
  .rintro c st' ⟨rfl,la,o,rfl,h1,h3⟩
   dsimp only
   exact wpS_bind (two zk zk fun c k hk=>wpS_pure (h k hk))
 | false =>
  simp only [Bool.false_eq_true,if_false]
  refine wpS_bind (wpS_mono (wpS_forRange (I:=fun x c st'=>st'=st/\∃ la o,c=(none,la,o)/\la<o/\x<o/\la<=hint)
   (Q:=fun c st'=>st'=st/\∃ la o,c=(none,la,o)/\la<o/\la<=hint) ?_ ?_ ⟨rfl,0,1,rfl,zk,zk,zk⟩) ?_)
  .rintro x c st' _ hx ⟨rfl,la,o,rfl,h1,h2,h3⟩
   dsimp only
   by_cases hg:o ≥ hint+1
   .rw [if_pos hg]
    exact wpS_pure ⟨rfl,la,o,rfl,h1,h3⟩
   .rw [if_neg hg]
    refine wpS_bind (one _ zk _ fun b=>?_)
    cases b with
    | true=>simp only [if_true];exact wpS_pure ⟨rfl,la,o,rfl,h1,h3⟩
    | false=>simp only [Bool.false_eq_true,if_false];exact wpS_pure ⟨rfl,o,2*o+1,rfl,zk,zk,zk⟩
  .rintro c st' ⟨rfl,la,o,rfl,h1,h2,h3⟩
   exact ⟨rfl,la,o,rfl,h1,h3⟩
  .rintro c st' ⟨rfl,la,o,rfl,h1,h3⟩
   dsimp only
   exact wpS_bind (two zk zk fun c k hk=>wpS_pure (h k hk))
theorem fS (C:Cmp prog w A s κ kd a₀)(hk:kindOf st=kd){left:Bool}{key:Keyed}{l:List Keyed}{base n hint:Nat}{Q:Option Nat->SortSt->Prop}(hkey:key∈a₀.toList)(hm:∀p∈l,p∈a₀.toList)(hb:base+n<=l.length)(hh:hint<n)(h:∀k,k<=n->Q (some k) st) :
  wpS (model prog w) A E s (gal left key l.toArray base n hint) Q st:=yB C hk hkey (fun i hi=>⟨l[base+i],by rw [List.getElem?_toArray];exact List.getElem?_eq_getElem zk,hm _ (List.getElem_mem _)⟩) hh h
theorem lH (C:Cmp prog w A s κ kd a₀)(hk:kindOf st=kd){left:Bool}{key:Keyed}{l:List Keyed}{n hint:Nat}{Q:Option Nat->SortSt->Prop}(hkey:key∈a₀.toList)(hm:∀p∈l,p∈a₀.toList)(hb:n<=l.length)(hh:hint<n)(h:∀k,k<=n->Q (some k) st) :
  wpS (model prog w) A E s (gal left key l.toArray 0 n hint) Q st:=fS C hk hkey hm zk hh h
end
def Wp (a b out:List Keyed)(ia ib:Nat):Prop:=out.Perm (a.take ia++b.take ib)
def Vp (a b out:List Keyed)(na nb:Nat):Prop:=out.Perm (a.drop na++b.drop nb)
section
variable {a b out:List Keyed}{ia ib:Nat}
theorem Wp.swap (h:Wp a b out ia ib):Wp b a out ib ia:=List.Perm.trans h List.perm_append_comm
theorem Wp.app (h:Wp a b out ia ib)(k:Nat):Wp a b (out++(b.drop ib).take k) ia (ib+k):=by
 unfold Wp at *
 rw [show b.take (ib+k)=b.take ib++(b.drop ib).take k from List.take_add,<-List.append_assoc]
 exact h.append_right _
theorem Wp.push (h:Wp a b out ia ib){p:Keyed}(hp:b[ib]?=some p):Wp a b (out++[p]) ia (ib+1):=by
 have:=h.app 1
 rwa [qE hp] at this
theorem kK (a1 a2 b1 b2:List Keyed):((a1++b1)++(a2++b2)).Perm ((a1++a2)++(b1++b2)):=by
 rw [List.append_assoc,List.append_assoc]
 refine List.Perm.append_left _ ?_
 rw [<-List.append_assoc,<-List.append_assoc]
 exact List.perm_append_comm.append_right _
theorem Wp.done (h:Wp a b out ia ib):(out++a.drop ia++b.drop ib).Perm (a++b):=by
 rw [List.append_assoc]
 have:=(List.Perm.append h (List.Perm.refl (a.drop ia++b.drop ib))).trans (kK ..)
 rwa [List.take_append_drop,List.take_append_drop] at this
theorem Wp.last (h:Wp a b out ia ib):(out++b.drop ib++a.drop ia).Perm (a++b):=(h.swap.done).trans List.perm_append_comm
theorem Vp.swap (h:Vp a b out ia ib):Vp b a out ib ia:=List.Perm.trans h List.perm_append_comm
theorem Vp.app (h:Vp a b out ia ib){k:Nat}(hk:k<=ib):Vp a b (out++((b.drop k).take (ib-k)).reverse) ia k:=by
 unfold Vp at *
 refine (h.append (List.reverse_perm _)).trans ?_
 rw [List.append_assoc]
 exact List.Perm.append_left _ (List.perm_append_comm.trans (List.Perm.of_eq (qP b hk).symm))
theorem Vp.push (h:Vp a b out ia ib){p:Keyed}{k:Nat}(hk:ib=k+1)(hp:b[k]?=some p):Vp a b (out++[p]) ia k:=by
 have:=h.app (k:=k) zk
 rwa [zf hk hp] at this
theorem Vp.done (h:Vp a b out ia ib):(a.take ia++b.take ib++out.reverse).Perm (a++b):=by
 have:=(List.Perm.append (List.Perm.refl (a.take ia++b.take ib)) ((List.reverse_perm out).trans h)).trans (kK ..)
 rwa [List.take_append_drop,List.take_append_drop] at this
theorem Vp.first (h:Vp a b out ia ib):(b.take ib++a.take ia++out.reverse).Perm (a++b):=(h.swap.done).trans List.perm_append_comm
end
section
variable {prog:Program}{w:World}{A:Around}{E:Value->Shared->Prop}{s:Shared}{κ:KeyKind}{kd:SortKind}{a₀:Array Keyed}{st:SortSt}
theorem xU {a b:List Keyed}{Q:Array Keyed->SortSt->Prop}(C:Cmp prog w A s κ kd a₀)(hk:kindOf st=kd)(ha:∀p∈a,p∈a₀.toList)(hb:∀p∈b,p∈a₀.toList)
  (na:0<a.length) (nb:0<b.length)
  (h:∀r st',St0 st st'->r.toList.Perm (a++b)->Q r st'):wpS (model prog w) A E s (mLo a.toArray b.toArray) Q st:=by
 have atA:∀i,i<a.length->∃ p,a.toArray[i]?=some p/\a[i]?=some p/\p∈a₀.toList:=fun i hi=>⟨a[i],by simp [hi],by simp [hi],ha _ (List.getElem_mem hi)⟩
 have atB:∀i,i<b.length->∃ p,b.toArray[i]?=some p/\b[i]?=some p/\p∈a₀.toList:=fun i hi=>⟨b[i],by simp [hi],by simp [hi],hb _ (List.getElem_mem hi)⟩
 have fD:∀(out:Array Keyed) ia ib,(out++a.toArray.extract ia++b.toArray.extract ib).toList=out.toList++a.drop ia++b.drop ib:=fun out ia ib=>by simp [List.take_of_length_le]
 have fL:∀(out:Array Keyed) ia ib,(out++b.toArray.extract ib++a.toArray.extract ia).toList=out.toList++b.drop ib++a.drop ia:=fun out ia ib=>by simp [List.take_of_length_le]
 have szA:a.toArray.size=a.length:=by simp
 have szB:b.toArray.size=b.length:=by simp
 obtain ⟨b0,eb,eb',mb⟩:=atB 0 nb
 have w0:Wp a b [b0] 0 1:=by
  have e:=qE eb'
  rw [List.drop_zero] at e
  unfold Wp
  rw [e]
  exact List.Perm.refl _
 refine wpS_bind (m:=liftM (rule _)) (wpS_lift (wpAny_rule ⟨rfl,?_⟩))
 dsimp only
 refine wpS_bind (aT eb ?_)
 by_cases g1:1=b.length
 .rw [if_pos (by rw [szB];simpa using g1)]
  refine wpS_pure (h _ _ (St0.refl _) ?_)
  rw [fD];exact w0.done
 rw [if_neg (by rw [szB];simpa using g1)]
 by_cases g2:0+1=a.length
 .rw [if_pos (by rw [szA];simpa using g2)]
  refine wpS_pure (h _ _ (St0.refl _) ?_)
  rw [fL];exact w0.last
 rw [if_neg (by rw [szA];simpa using g2)]
 refine wpS_bind (wpS_get ?_)
 refine wpS_bind (wpS_mono (wpS_forRange (I:=fun x c st'=>∃ out ia ib g,c=(none,out,ia,ib,g)/\Wp a b out.toList ia ib/\ia+1<a.length/\ib<b.length/\x<ia+ib/\St0 st st')
  (Q:=fun c st'=>∃ r z,c=(some r,z)/\r.toList.Perm (a++b)/\St0 st st') ?_ ?_ ⟨_,0,1,_,rfl,w0,zk,zk,zk,St0.refl _⟩) ?_)
 .rintro x c st1 _ hx ⟨out,ia,ib,g,rfl,W,hia,hib,hm,hs⟩
  dsimp only
  refine wpS_bind (wpS_mono (wpS_forRange (I:=fun y c st'=>∃ out' ia' ib' ac bc,c=(none,out',ia',ib',ac,bc)/\Wp a b out'.toList ia' ib'/\ia'+1<a.length/\ib'<b.length/\y+ia+ib<=ia'+ib'/\St0 st st')
   (Q:=fun c st'=>St0 st st'/\((∃ r z,c=(some r,z)/\r.toList.Perm (a++b))∨∃ out' ia' ib' ac bc,c=(none,out',ia',ib',ac,bc)/\Wp a b out'.toList ia' ib'/\ia'+1<a.length/\ib'<b.length/\1+ia+ib<=ia'+ib')) ?_ ?_
   ⟨out,ia,ib,0,0,rfl,W,hia,hib,zk,hs⟩) ?_)
  .rintro y c st2 _ hy ⟨out',ia',ib',ac,bc,rfl,W',hia',hib',hm',hs'⟩
   dsimp only
   obtain ⟨p,ep,ep',mp⟩:=atB ib' hib'
   obtain ⟨q,eq,eq',mq⟩:=atA ia' zk
   refine wpS_bind (aT ep (wpS_bind (aT eq (wpS_bind (tY C mp mq (hs'.1.trans hk) fun bb=>?_)))))
   cases bb with
   | true =>
    simp only [if_true]
    refine wpS_bind (aT ep ?_)
    have W2:Wp a b (out'.push p).toList ia' (ib'+1):=by
     rw [Array.toList_push]
     exact W'.push ep'
    by_cases g3:ib'+1=b.length
    .rw [if_pos (by rw [szB];simpa using g3)]
     refine wpS_pure ⟨hs',.inl ⟨_,_,rfl,?_⟩⟩
     rw [fD];exact W2.done
    .rw [if_neg (by rw [szB];simpa using g3)]
     split
     .exact wpS_pure ⟨hs',.inr ⟨_,_,_,_,_,rfl,W2,hia',zk,zk⟩⟩
     .exact wpS_pure ⟨_,_,_,_,_,rfl,W2,hia',zk,zk,hs'⟩
   | false =>
    simp only [Bool.false_eq_true,if_false]
    refine wpS_bind (aT eq ?_)
    have W2:Wp a b (out'.push q).toList (ia'+1) ib':=by
     rw [Array.toList_push]
     exact (W'.swap.push eq').swap
    by_cases g3:ia'+1+1=a.length
    .rw [if_pos (by rw [szA];simpa using g3)]
     refine wpS_pure ⟨hs',.inl ⟨_,_,rfl,?_⟩⟩
     rw [fL];exact W2.last
    .rw [if_neg (by rw [szA];simpa using g3)]
     split
     .exact wpS_pure ⟨hs',.inr ⟨_,_,_,_,_,rfl,W2,zk,zk,zk⟩⟩
     .exact wpS_pure ⟨_,_,_,_,_,rfl,W2,zk,zk,zk,hs'⟩
  .rintro c st2 ⟨out',ia',ib',ac,bc,rfl,W',hia',hib',hm',hs'⟩
   exfalso
   rw [szA,szB] at hm'
   lia
  .rintro c st2 ⟨hs',⟨r,z,rfl,hr⟩ | ⟨out',ia',ib',ac,bc,rfl,W',hia',hib',hm'⟩⟩
   .dsimp only
    exact wpS_pure ⟨_,_,rfl,hr,hs'⟩
   .dsimp only
    refine wpS_bind (m:=liftM (rule _)) (wpS_lift (wpAny_rule ⟨rfl,?_⟩))
    refine wpS_bind (wpS_mono (wpS_forRange (I:=fun y c st'=>∃ o i j g ac bc,c=(none,o,i,j,g,ac,bc)/\Wp a b o.toList i j/\i+1<a.length/\j<b.length/\y+ia'+ib'<=i+j/\St0 st st')
     (Q:=fun c st'=>St0 st st'/\((∃ r z,c=(some r,z)/\r.toList.Perm (a++b))∨∃ o i j g ac bc,c=(none,o,i,j,g,ac,bc)/\Wp a b o.toList i j/\i+1<a.length/\j<b.length/\ia'+ib'<=i+j)) ?_ ?_
     ⟨out',ia',ib',_,ac,bc,rfl,W',hia',hib',zk,hs'⟩) ?_)
    .rintro y c st3 _ hy ⟨o,i,j,g',ac',bc',rfl,V,hi,hj,hm3,hs3⟩
     dsimp only
     obtain ⟨p,ep,ep',mp⟩:=atB j hj
     by_cases gg:g'>1
     case' pos=>rw [if_pos gg]
     case' neg=>rw [if_neg gg]
     all_goals
      refine wpS_bind (jw hs3 fun st4 hs4=>?_)
      refine wpS_bind (aT ep (wpS_bind (fS C (hs4.1.trans hk) mp ha (by rw [szA];lia) (by rw [szA];lia) fun k hk1=>?_)))
      rw [szA] at hk1
      dsimp only
      by_cases g3:k>0
      .rw [if_pos g3]
       have V1:Wp a b (o++a.toArray.extract i (i+k)).toList (i+k) j:=by
        rw [Array.toList_append,gW]
        exact (V.swap.app k).swap
       by_cases g8:i+k+1=a.length
       .rw [if_pos (by rw [szA];simpa using g8)]
        refine wpS_pure ⟨hs4,.inl ⟨_,_,rfl,?_⟩⟩
        rw [fL];exact V1.last
       rw [if_neg (by rw [szA];simpa using g8)]
       by_cases g9:i+k=a.length
       .rw [if_pos (by rw [szA];simpa using g9)]
        refine wpS_pure ⟨hs4,.inl ⟨_,_,rfl,?_⟩⟩
        rw [fD];exact V1.done
       rw [if_neg (by rw [szA];simpa using g9)]
       refine wpS_bind (aT ep ?_)
       have V2:Wp a b ((o++a.toArray.extract i (i+k)).push p).toList (i+k) (j+1):=by
        rw [Array.toList_push]
        exact V1.push ep'
       by_cases g4:j+1=b.length
       .rw [if_pos (by rw [szB];simpa using g4)]
        refine wpS_pure ⟨hs4,.inl ⟨_,_,rfl,?_⟩⟩
        rw [fD];exact V2.done
       rw [if_neg (by rw [szB];simpa using g4)]
       obtain ⟨q,eq,eq',mq⟩:=atA (i+k) zk
       refine wpS_bind (aT eq (wpS_bind (fS C (hs4.1.trans hk) mq hb (by rw [szB];lia) (by rw [szB];lia) fun k' hk1'=>?_)))
       rw [szB] at hk1'
       dsimp only
       by_cases g6:k'>0
       .rw [if_pos g6]
        have V3:Wp a b ((o++a.toArray.extract i (i+k)).push p++b.toArray.extract (j+1) (j+1+k')).toList (i+k) (j+1+k'):=by
         rw [Array.toList_append,gW]
         exact V2.app k'
        by_cases g7:j+1+k'=b.length
        .rw [if_pos (by rw [szB];simpa using g7)]
         refine wpS_pure ⟨hs4,.inl ⟨_,_,rfl,?_⟩⟩
         rw [fD];exact V3.done
        .rw [if_neg (by rw [szB];simpa using g7)]
         refine wpS_bind (aT eq ?_)
         have V4:Wp a b (((o++a.toArray.extract i (i+k)).push p++b.toArray.extract (j+1) (j+1+k')).push q).toList (i+k+1) (j+1+k'):=by
          rw [Array.toList_push]
          exact (V3.swap.push eq').swap
         by_cases g5:i+k+1+1=a.length
         .rw [if_pos (by rw [szA];simpa using g5)]
          refine wpS_pure ⟨hs4,.inl ⟨_,_,rfl,?_⟩⟩
          rw [fL];exact V4.last
         .rw [if_neg (by rw [szA];simpa using g5)]
          split
          .exact wpS_pure ⟨hs4,.inr ⟨_,_,_,_,_,_,rfl,V4,zk,zk,zk⟩⟩
          .exact wpS_pure ⟨_,_,_,_,_,_,rfl,V4,zk,zk,zk,hs4⟩
       .rw [if_neg g6]
        have e0:k'=0:=by lia
        subst e0
        refine wpS_bind (aT eq ?_)
        have V4:Wp a b (((o++a.toArray.extract i (i+k)).push p).push q).toList (i+k+1) (j+1):=by
         rw [Array.toList_push]
         exact (V2.swap.push eq').swap
        by_cases g5:i+k+1+1=a.length
        .rw [if_pos (by rw [szA];simpa using g5)]
         refine wpS_pure ⟨hs4,.inl ⟨_,_,rfl,?_⟩⟩
         rw [fL];exact V4.last
        .rw [if_neg (by rw [szA];simpa using g5)]
         split
         .exact wpS_pure ⟨hs4,.inr ⟨_,_,_,_,_,_,rfl,V4,zk,zk,zk⟩⟩
         .exact wpS_pure ⟨_,_,_,_,_,_,rfl,V4,zk,zk,zk,hs4⟩
      .rw [if_neg g3]
       have e0:k=0:=by lia
       subst e0
       refine wpS_bind (aT ep ?_)
       have V2:Wp a b (o.push p).toList (i) (j+1):=by
        rw [Array.toList_push]
        exact V.push ep'
       by_cases g4:j+1=b.length
       .rw [if_pos (by rw [szB];simpa using g4)]
        refine wpS_pure ⟨hs4,.inl ⟨_,_,rfl,?_⟩⟩
        rw [fD];exact V2.done
       rw [if_neg (by rw [szB];simpa using g4)]
       obtain ⟨q,eq,eq',mq⟩:=atA (i) zk
       refine wpS_bind (aT eq (wpS_bind (fS C (hs4.1.trans hk) mq hb (by rw [szB];lia) (by rw [szB];lia) fun k' hk1'=>?_)))
       rw [szB] at hk1'
       dsimp only
       by_cases g6:k'>0
       .rw [if_pos g6]
        have V3:Wp a b (o.push p++b.toArray.extract (j+1) (j+1+k')).toList (i) (j+1+k'):=by
         rw [Array.toList_append,gW]
         exact V2.app k'
        by_cases g7:j+1+k'=b.length
        .rw [if_pos (by rw [szB];simpa using g7)]
         refine wpS_pure ⟨hs4,.inl ⟨_,_,rfl,?_⟩⟩
         rw [fD];exact V3.done
        .rw [if_neg (by rw [szB];simpa using g7)]
         refine wpS_bind (aT eq ?_)
         have V4:Wp a b ((o.push p++b.toArray.extract (j+1) (j+1+k')).push q).toList (i+1) (j+1+k'):=by
          rw [Array.toList_push]
          exact (V3.swap.push eq').swap
         by_cases g5:i+1+1=a.length
         .rw [if_pos (by rw [szA];simpa using g5)]
          refine wpS_pure ⟨hs4,.inl ⟨_,_,rfl,?_⟩⟩
          rw [fL];exact V4.last
         .rw [if_neg (by rw [szA];simpa using g5)]
          split
          .exact wpS_pure ⟨hs4,.inr ⟨_,_,_,_,_,_,rfl,V4,zk,zk,zk⟩⟩
          .exact wpS_pure ⟨_,_,_,_,_,_,rfl,V4,zk,zk,zk,hs4⟩
       .rw [if_neg g6]
        have e0:k'=0:=by lia
        subst e0
        refine wpS_bind (aT eq ?_)
        have V4:Wp a b ((o.push p).push q).toList (i+1) (j+1):=by
         rw [Array.toList_push]
         exact (V2.swap.push eq').swap
        by_cases g5:i+1+1=a.length
        .rw [if_pos (by rw [szA];simpa using g5)]
         refine wpS_pure ⟨hs4,.inl ⟨_,_,rfl,?_⟩⟩
         rw [fL];exact V4.last
        .rw [if_neg (by rw [szA];simpa using g5)]
         split
         .exact wpS_pure ⟨hs4,.inr ⟨_,_,_,_,_,_,rfl,V4,zk,zk,zk⟩⟩
         .exact wpS_pure ⟨_,_,_,_,_,_,rfl,V4,zk,zk,zk,hs4⟩
    .rintro c st3 ⟨o,i,j,g',ac',bc',rfl,V,hi,hj,hm3,hs3⟩
     exfalso
     rw [szA,szB] at hm3
     lia
    .rintro c st3 ⟨hs3,⟨r,z,rfl,hr⟩ | ⟨o,i,j,g',ac',bc',rfl,V,hi,hj,hm3⟩⟩
     .dsimp only
      exact wpS_pure ⟨_,_,rfl,hr,hs3⟩
     .dsimp only
      refine wpS_bind (jw hs3 fun st4 hs4=>?_)
      exact wpS_pure ⟨_,_,_,_,rfl,V,hi,hj,zk,hs4⟩
 .rintro c st1 ⟨out,ia,ib,g,rfl,W,hia,hib,hm,hs⟩
  exfalso
  rw [szA,szB] at hm
  lia
 rintro c st1 ⟨r,z,rfl,hr,hs⟩
 exact wpS_pure (h r st1 hs hr)
theorem yh {a b:List Keyed}{Q:Array Keyed->SortSt->Prop}(C:Cmp prog w A s κ kd a₀)(hk:kindOf st=kd)(ha:∀p∈a,p∈a₀.toList)(hb:∀p∈b,p∈a₀.toList)
  (pa:0<a.length) (pb:0<b.length)
  (h:∀r st',St0 st st'->r.toList.Perm (a++b)->Q r st'):wpS (model prog w) A E s (mHi a.toArray b.toArray) Q st:=by
 have atA:∀i,i<a.length->∃ p,a.toArray[i]?=some p/\a[i]?=some p/\p∈a₀.toList:=fun i hi=>⟨a[i],by simp [hi],by simp [hi],ha _ (List.getElem_mem hi)⟩
 have atB:∀i,i<b.length->∃ p,b.toArray[i]?=some p/\b[i]?=some p/\p∈a₀.toList:=fun i hi=>⟨b[i],by simp [hi],by simp [hi],hb _ (List.getElem_mem hi)⟩
 have fD:∀(out:Array Keyed) na nb,(a.toArray.extract 0 na++b.toArray.extract 0 nb++out.reverse).toList=a.take na++b.take nb++out.toList.reverse:=fun out na nb=>by simp
 have fF:∀(out:Array Keyed) na nb,(b.toArray.extract 0 nb++a.toArray.extract 0 na++out.reverse).toList=b.take nb++a.take na++out.toList.reverse:=fun out na nb=>by simp
 have fR:∀(l:List Keyed) (out:Array Keyed) i j,(out++(l.toArray.extract i j).reverse).toList=out.toList++((l.drop i).take (j-i)).reverse:=fun l out i j=>by simp
 have szA:a.toArray.size=a.length:=by simp
 have szB:b.toArray.size=b.length:=by simp
 obtain ⟨al,ea,ea',ma⟩:=atA (a.length-1) zk
 have w0:Vp a b [al] (a.length-1) b.length:=by
  have e:a.drop (a.length-1)=[al]:=by
   obtain ⟨hi,e⟩:=List.getElem?_eq_some_iff.mp ea'
   rw [List.drop_eq_getElem_cons hi,e,List.drop_eq_nil_of_le zk]
  unfold Vp
  rw [e,List.drop_eq_nil_of_le (Nat.le_refl _),List.append_nil]
 refine wpS_bind (m:=liftM (rule _)) (wpS_lift (wpAny_rule ⟨rfl,?_⟩))
 dsimp only
 rw [<-szA] at ea w0
 rw [<-szB] at w0
 refine wpS_bind (aT ea ?_)
 by_cases g1:a.toArray.size-1=0
 .rw [if_pos (by simpa using g1)]
  refine wpS_pure (h _ _ (St0.refl _) ?_)
  rw [fD];exact w0.done
 rw [if_neg (by simpa using g1)]
 by_cases g2:b.toArray.size=1
 .rw [if_pos (by simpa using g2)]
  refine wpS_pure (h _ _ (St0.refl _) ?_)
  rw [fF];exact w0.first
 rw [if_neg (by simpa using g2)]
 refine wpS_bind (wpS_get ?_)
 refine wpS_bind (wpS_mono (wpS_forRange (I:=fun x c st'=>∃ na nb out g,c=(none,na,nb,out,g)/\Vp a b out.toList na nb/\0<na/\na<a.length/\1<nb/\nb<=b.length/\x+na+nb<a.length+b.length/\St0 st st')
  (Q:=fun c st'=>∃ r z,c=(some r,z)/\r.toList.Perm (a++b)/\St0 st st') ?_ ?_ ⟨_,_,_,_,rfl,w0,zk,zk,zk,zk,zk,St0.refl _⟩) ?_)
 .rintro x c st1 _ hx ⟨na,nb,out,g,rfl,W,hia,hia2,hib,hib2,hm,hs⟩
  dsimp only
  refine wpS_bind (wpS_mono (wpS_forRange (I:=fun y c st'=>∃ na' nb' out' ac bc,c=(none,na',nb',out',ac,bc)/\Vp a b out'.toList na' nb'/\0<na'/\na'<a.length/\1<nb'/\nb'<=b.length/\y+na'+nb'<=na+nb/\St0 st st')
   (Q:=fun c st'=>St0 st st'/\((∃ r z,c=(some r,z)/\r.toList.Perm (a++b))∨∃ na' nb' out' ac bc,c=(none,na',nb',out',ac,bc)/\Vp a b out'.toList na' nb'/\0<na'/\na'<a.length/\1<nb'/\nb'<=b.length/\1+na'+nb'<=na+nb)) ?_ ?_
   ⟨na,nb,out,0,0,rfl,W,hia,hia2,hib,hib2,zk,hs⟩) ?_)
  .rintro y c st2 _ hy ⟨na',nb',out',ac,bc,rfl,W',h1',h2',h3',h4',hm',hs'⟩
   dsimp only
   obtain ⟨p,ep,ep',mp⟩:=atB (nb'-1) zk
   obtain ⟨q,eq,eq',mq⟩:=atA (na'-1) zk
   refine wpS_bind (aT ep (wpS_bind (aT eq (wpS_bind (tY C mp mq (hs'.1.trans hk) fun bb=>?_)))))
   cases bb with
   | true =>
    simp only [if_true]
    refine wpS_bind (aT eq ?_)
    have W2:Vp a b (out'.push q).toList (na'-1) nb':=by
     rw [Array.toList_push]
     exact (W'.swap.push zk eq').swap
    by_cases g3:na'-1=0
    .rw [if_pos (by simpa using g3)]
     refine wpS_pure ⟨hs',.inl ⟨_,_,rfl,?_⟩⟩
     rw [fD];exact W2.done
    .rw [if_neg (by simpa using g3)]
     split
     .exact wpS_pure ⟨hs',.inr ⟨_,_,_,_,_,rfl,W2,zk,zk,zk,zk,zk⟩⟩
     .exact wpS_pure ⟨_,_,_,_,_,rfl,W2,zk,zk,zk,zk,zk,hs'⟩
   | false =>
    simp only [Bool.false_eq_true,if_false]
    refine wpS_bind (aT ep ?_)
    have W2:Vp a b (out'.push p).toList na' (nb'-1):=by
     rw [Array.toList_push]
     exact W'.push zk ep'
    by_cases g3:nb'-1=1
    .rw [if_pos (by simpa using g3)]
     refine wpS_pure ⟨hs',.inl ⟨_,_,rfl,?_⟩⟩
     rw [fF];exact W2.first
    .rw [if_neg (by simpa using g3)]
     split
     .exact wpS_pure ⟨hs',.inr ⟨_,_,_,_,_,rfl,W2,zk,zk,zk,zk,zk⟩⟩
     .exact wpS_pure ⟨_,_,_,_,_,rfl,W2,zk,zk,zk,zk,zk,hs'⟩
  .rintro c st2 ⟨na',nb',out',ac,bc,rfl,W',h1',h2',h3',h4',hm',hs'⟩
   exfalso
   rw [szA,szB] at hm'
   lia
  .rintro c st2 ⟨hs',⟨r,z,rfl,hr⟩ | ⟨na',nb',out',ac,bc,rfl,W',h1',h2',h3',h4',hm'⟩⟩
   .dsimp only
    exact wpS_pure ⟨_,_,rfl,hr,hs'⟩
   .dsimp only
    refine wpS_bind (m:=liftM (rule _)) (wpS_lift (wpAny_rule ⟨rfl,?_⟩))
    refine wpS_bind (wpS_mono (wpS_forRange (I:=fun y c st'=>∃ i j o g ac bc,c=(none,i,j,o,g,ac,bc)/\Vp a b o.toList i j/\0<i/\i<a.length/\1<j/\j<=b.length/\y+i+j<=na'+nb'/\St0 st st')
     (Q:=fun c st'=>St0 st st'/\((∃ r z,c=(some r,z)/\r.toList.Perm (a++b))∨∃ i j o g ac bc,c=(none,i,j,o,g,ac,bc)/\Vp a b o.toList i j/\0<i/\i<a.length/\1<j/\j<=b.length/\i+j<=na'+nb')) ?_ ?_
     ⟨na',nb',out',_,ac,bc,rfl,W',h1',h2',h3',h4',zk,hs'⟩) ?_)
    .rintro y c st3 _ hy ⟨i,j,o,g',ac',bc',rfl,V,hi,hi2,hj,hj2,hm3,hs3⟩
     dsimp only
     obtain ⟨p,ep,ep',mp⟩:=atB (j-1) zk
     by_cases gg:g'>1
     case' pos=>rw [if_pos gg]
     case' neg=>rw [if_neg gg]
     all_goals
      refine wpS_bind (jw hs3 fun st4 hs4=>?_)
      refine wpS_bind (aT ep (wpS_bind (lH C (hs4.1.trans hk) mp ha zk zk fun k hk1=>?_)))
      dsimp only
      by_cases g3:i-k>0
      .rw [if_pos g3]
       have V1:Vp a b (o++(a.toArray.extract k i).reverse).toList k j:=by
        rw [fR]
        exact (V.swap.app hk1).swap
       by_cases g9:k=0
       .rw [if_pos (by simpa using g9)]
        refine wpS_pure ⟨hs4,.inl ⟨_,_,rfl,?_⟩⟩
        rw [fD];exact V1.done
       rw [if_neg (by simpa using g9)]
       refine wpS_bind (aT ep ?_)
       have V2:Vp a b ((o++(a.toArray.extract k i).reverse).push p).toList (k) (j-1):=by
        rw [Array.toList_push]
        exact V1.push zk ep'
       by_cases g4:j-1=1
       .rw [if_pos (by simpa using g4)]
        refine wpS_pure ⟨hs4,.inl ⟨_,_,rfl,?_⟩⟩
        rw [fF];exact V2.first
       rw [if_neg (by simpa using g4)]
       obtain ⟨q,eq,eq',mq⟩:=atA (k-1) zk
       refine wpS_bind (aT eq (wpS_bind (lH C (hs4.1.trans hk) mq hb zk zk fun k' hk1'=>?_)))
       dsimp only
       by_cases g6:j-1-k'>0
       .rw [if_pos g6]
        have V3:Vp a b ((o++(a.toArray.extract k i).reverse).push p++(b.toArray.extract k' (j-1)).reverse).toList (k) k':=by
         rw [fR]
         exact V2.app hk1'
        by_cases g7:k'=1
        .rw [if_pos (by simpa using g7)]
         refine wpS_pure ⟨hs4,.inl ⟨_,_,rfl,?_⟩⟩
         rw [fF];exact V3.first
        rw [if_neg (by simpa using g7)]
        by_cases g8:k'=0
        .rw [if_pos (by simpa using g8)]
         refine wpS_pure ⟨hs4,.inl ⟨_,_,rfl,?_⟩⟩
         rw [fD];exact V3.done
        .rw [if_neg (by simpa using g8)]
         refine wpS_bind (aT eq ?_)
         have V4:Vp a b (((o++(a.toArray.extract k i).reverse).push p++(b.toArray.extract k' (j-1)).reverse).push q).toList (k-1) (k'):=by
          rw [Array.toList_push]
          exact (V3.swap.push zk eq').swap
         by_cases g5:k-1=0
         .rw [if_pos (by simpa using g5)]
          refine wpS_pure ⟨hs4,.inl ⟨_,_,rfl,?_⟩⟩
          rw [fD];exact V4.done
         .rw [if_neg (by simpa using g5)]
          split
          .exact wpS_pure ⟨hs4,.inr ⟨_,_,_,_,_,_,rfl,V4,zk,zk,zk,zk,zk⟩⟩
          .exact wpS_pure ⟨_,_,_,_,_,_,rfl,V4,zk,zk,zk,zk,zk,hs4⟩
       .rw [if_neg g6]
        have e0:k'=j-1:=by lia
        subst e0
        refine wpS_bind (aT eq ?_)
        have V4:Vp a b (((o++(a.toArray.extract k i).reverse).push p).push q).toList (k-1) (j-1):=by
         rw [Array.toList_push]
         exact (V2.swap.push zk eq').swap
        by_cases g5:k-1=0
        .rw [if_pos (by simpa using g5)]
         refine wpS_pure ⟨hs4,.inl ⟨_,_,rfl,?_⟩⟩
         rw [fD];exact V4.done
        .rw [if_neg (by simpa using g5)]
         split
         .exact wpS_pure ⟨hs4,.inr ⟨_,_,_,_,_,_,rfl,V4,zk,zk,zk,zk,zk⟩⟩
         .exact wpS_pure ⟨_,_,_,_,_,_,rfl,V4,zk,zk,zk,zk,zk,hs4⟩
      .rw [if_neg g3]
       have e0:k=i:=by lia
       subst e0
       refine wpS_bind (aT ep ?_)
       have V2:Vp a b (o.push p).toList (k) (j-1):=by
        rw [Array.toList_push]
        exact V.push zk ep'
       by_cases g4:j-1=1
       .rw [if_pos (by simpa using g4)]
        refine wpS_pure ⟨hs4,.inl ⟨_,_,rfl,?_⟩⟩
        rw [fF];exact V2.first
       rw [if_neg (by simpa using g4)]
       obtain ⟨q,eq,eq',mq⟩:=atA (k-1) zk
       refine wpS_bind (aT eq (wpS_bind (lH C (hs4.1.trans hk) mq hb zk zk fun k' hk1'=>?_)))
       dsimp only
       by_cases g6:j-1-k'>0
       .rw [if_pos g6]
        have V3:Vp a b (o.push p++(b.toArray.extract k' (j-1)).reverse).toList (k) k':=by
         rw [fR]
         exact V2.app hk1'
        by_cases g7:k'=1
        .rw [if_pos (by simpa using g7)]
         refine wpS_pure ⟨hs4,.inl ⟨_,_,rfl,?_⟩⟩
         rw [fF];exact V3.first
        rw [if_neg (by simpa using g7)]
        by_cases g8:k'=0
        .rw [if_pos (by simpa using g8)]
         refine wpS_pure ⟨hs4,.inl ⟨_,_,rfl,?_⟩⟩
         rw [fD];exact V3.done
        .rw [if_neg (by simpa using g8)]
         refine wpS_bind (aT eq ?_)
         have V4:Vp a b ((o.push p++(b.toArray.extract k' (j-1)).reverse).push q).toList (k-1) (k'):=by
          rw [Array.toList_push]
          exact (V3.swap.push zk eq').swap
         by_cases g5:k-1=0
         .rw [if_pos (by simpa using g5)]
          refine wpS_pure ⟨hs4,.inl ⟨_,_,rfl,?_⟩⟩
          rw [fD];exact V4.done
         .rw [if_neg (by simpa using g5)]
          split
          .exact wpS_pure ⟨hs4,.inr ⟨_,_,_,_,_,_,rfl,V4,zk,zk,zk,zk,zk⟩⟩
          .exact wpS_pure ⟨_,_,_,_,_,_,rfl,V4,zk,zk,zk,zk,zk,hs4⟩
       .rw [if_neg g6]
        have e0:k'=j-1:=by lia
        subst e0
        refine wpS_bind (aT eq ?_)
        have V4:Vp a b ((o.push p).push q).toList (k-1) (j-1):=by
         rw [Array.toList_push]
         exact (V2.swap.push zk eq').swap
        by_cases g5:k-1=0
        .rw [if_pos (by simpa using g5)]
         refine wpS_pure ⟨hs4,.inl ⟨_,_,rfl,?_⟩⟩
         rw [fD];exact V4.done
        .rw [if_neg (by simpa using g5)]
         split
         .exact wpS_pure ⟨hs4,.inr ⟨_,_,_,_,_,_,rfl,V4,zk,zk,zk,zk,zk⟩⟩
         .exact wpS_pure ⟨_,_,_,_,_,_,rfl,V4,zk,zk,zk,zk,zk,hs4⟩
    .rintro c st3 ⟨i,j,o,g',ac',bc',rfl,V,hi,hi2,hj,hj2,hm3,hs3⟩
     exfalso
     rw [szA,szB] at hm3
     lia
    .rintro c st3 ⟨hs3,⟨r,z,rfl,hr⟩ | ⟨i,j,o,g',ac',bc',rfl,V,hi,hi2,hj,hj2,hm3⟩⟩
     .dsimp only
      exact wpS_pure ⟨_,_,rfl,hr,hs3⟩
     .dsimp only
      refine wpS_bind (jw hs3 fun st4 hs4=>?_)
      exact wpS_pure ⟨_,_,_,_,rfl,V,hi,hi2,hj,hj2,zk,hs4⟩
 .rintro c st1 ⟨na,nb,out,g,rfl,W,hia,hia2,hib,hib2,hm,hs⟩
  exfalso
  rw [szA,szB] at hm
  lia
 rintro c st1 ⟨r,z,rfl,hr,hs⟩
 exact wpS_pure (h r st1 hs hr)
theorem yU (C:Cmp prog w A s κ kd a₀)(B:SB kd a₀ st){i sa na pw sb nb pw2:Nat}{Q:Bool->SortSt->Prop}(h1:(pendingOf st)[i]?=some (sa,na,pw))(h2:(pendingOf st)[i+1]?=some (sb,nb,pw2))
  (hsb:sb=sa+na) (pa:1<=na) (pb:1<=nb) (hz:sb+nb<=a₀.size)
  (h:∀st',SB kd a₀ st'->pendingOf st'=((pendingOf st).setIfInBounds i (sa,na+nb,pw)).eraseIdxIfInBounds (i+1)->Q true st'):wpS (model prog w) A E s (mergeAt' i) Q st:=by
 obtain ⟨l,hl⟩:∃ l:List Keyed,arrOf st=l.toArray:=⟨(arrOf st).toList,zl⟩
 have hm:∀p∈l,p∈a₀.toList:=fun p hp=>(Array.perm_iff_toList_perm.mp B.perm).mem_iff.mp (by rw [hl];simpa using hp)
 have hlen:l.length=a₀.size:=by have:=B.size;rw [hl] at this;simpa using this
 obtain ⟨P,X0,Y0,R,el,eP,eX,eY⟩:∃ P X0 Y0 R:List Keyed,l=P++X0++Y0++R/\P.length=sa/\X0.length=na/\Y0.length=nb:=by
  refine ⟨l.take sa,(l.drop sa).take na,(l.drop sb).take nb,l.drop (sb+nb),?_,?_,?_,?_⟩
  .rw [hsb,<-List.take_add,<-List.take_add,List.take_append_drop]
  .rw [List.length_take];lia
  .rw [List.length_take,List.length_drop];lia
  .rw [List.length_take,List.length_drop];lia
 have dX:(l.drop sa).take na=X0:=by
  rw [el,List.append_assoc,List.append_assoc,<-eP,List.drop_left,<-eX,List.take_left]
 have dY:(l.drop sb).take nb=Y0:=by
  have e:sb=(P++X0).length:=by rw [List.length_append];lia
  rw [el,List.append_assoc,e,List.drop_left,<-eY,List.take_left]
 unfold mergeAt'
 refine wpS_bind (m:=get) (wpS_get ?_)
 have h1':((sortPriv% PySem.Builtin.SortState.pending) st)[i]?=some (sa,na,pw):=h1
 have h2':((sortPriv% PySem.Builtin.SortState.pending) st)[i+1]?=some (sb,nb,pw2):=h2
 have hl':(sortPriv% PySem.Builtin.SortState.a) st=l.toArray:=hl
 rw [h1',h2']
 dsimp only
 rw [hl']
 refine wpS_bind (yy ?_)
 have K1:kindOf (SortSt.mk' (kindOf st) l.toArray (((pendingOf st).setIfInBounds i (sa,na+nb,pw)).eraseIdxIfInBounds (i+1)) (gallopOf st) (failedOf st))=kd:=B.kind
 have eY0:∃ y0 Y',Y0=y0::Y':=by
  cases Y0 with
  | nil=>simp at eY;lia
  | cons y Y'=>exact ⟨y,Y',rfl⟩
 obtain ⟨y0,Y',eY1⟩:=eY0
 have my:l[sb]?=some y0:=by
  have e:sb=(P++X0).length:=by rw [List.length_append];lia
  rw [el,List.append_assoc,e,List.getElem?_append_right (Nat.le_refl _),Nat.sub_self,eY1];rfl
 have my0:y0∈a₀.toList:=hm _ (List.mem_of_getElem? my)
 refine wpS_bind (aT (by rw [List.getElem?_toArray];exact my) (wpS_bind (fS (hint:=0) C K1 my0 hm zk zk fun k hk1=>?_)))
 dsimp only
 have here:Q true (SortSt.mk' (kindOf st) l.toArray (((pendingOf st).setIfInBounds i (sa,na+nb,pw)).eraseIdxIfInBounds (i+1)) (gallopOf st) (failedOf st)):=h _ ⟨by have:=B.perm;rwa [hl] at this,B.kind,B.fail⟩ rfl
 by_cases g1:na-k=0
 .rw [if_pos (by simpa using g1)]
  exact wpS_pure here
 rw [if_neg (by simpa using g1)]
 have ⟨xl,exl⟩:∃ xl,X0[na-1]?=some xl:=⟨X0[na-1],List.getElem?_eq_getElem zk⟩
 have mx:l[sa+k+(na-k)-1]?=some xl:=by
  rw [el,List.append_assoc,List.append_assoc,List.getElem?_append_right zk,List.getElem?_append_left zk,show sa+k+(na-k)-1-P.length=na-1 by lia]
  exact exl
 have mxl:xl∈a₀.toList:=hm _ (List.mem_of_getElem? mx)
 refine wpS_bind (aT (by rw [List.getElem?_toArray];exact mx) (wpS_bind (fS (hint:=nb-1) C K1 mxl hm zk zk fun n2 hn1=>?_)))
 have eYt:(l.drop sb).take n2=Y0.take n2:=by
  rw [<-dY,List.take_take,show min n2 nb=n2 by lia]
 dsimp only
 by_cases g2:n2=0
 .rw [if_pos (by simpa using g2)]
  exact wpS_pure here
 rw [if_neg (by simpa using g2)]
 rw [qf,qf]
 have eX2:(l.drop (sa+k)).take (sb-(sa+k))=X0.drop k:=by
  have e:l.drop (sa+k)=(l.drop sa).drop k:=by rw [List.drop_drop]
  rw [e,show sb-(sa+k)=na-k by lia,<-List.drop_take,dX]
 have eY2:(l.drop sb).take (sb+n2-sb)=Y0.take n2:=by rw [show sb+n2-sb=n2 by lia,eYt]
 rw [eX2,eY2]
 have mX:∀p∈X0.drop k,p∈a₀.toList:=fun p hp=>hm p (by rw [el];have:=List.mem_of_mem_drop hp;simp [this])
 have mY:∀p∈Y0.take n2,p∈a₀.toList:=fun p hp=>hm p (by rw [el];have:=List.mem_of_mem_take hp;simp [this])
 have lX:0<(X0.drop k).length:=by rw [List.length_drop];lia
 have lY:0<(Y0.take n2).length:=by rw [List.length_take];lia
 have fin:∀(M:Array Keyed) (st2:SortSt),St0 (SortSt.mk' (kindOf st) l.toArray (((pendingOf st).setIfInBounds i (sa,na+nb,pw)).eraseIdxIfInBounds (i+1)) (gallopOf st) (failedOf st)) st2->M.toList.Perm (X0.drop k++Y0.take n2) ->
   Q true (SortSt.mk' (kindOf st2) (M.toList.zipIdx.foldl (fun (a:Array Keyed) (x:Keyed×Nat)=>a.setIfInBounds (sa+k+x.2) x.1) (arrOf st2)) (pendingOf st2) (gallopOf st2) (failedOf st2)):=by
  intro M st2 hs hP
  have eM:M.toList.length=(X0.drop k++Y0.take n2).length:=hP.length_eq
  have el2:l=(P++X0.take k)++(X0.drop k++Y0.take n2)++(Y0.drop n2++R):=by
   rw [el]
   conv=>lhs;rw [<-List.take_append_drop k X0,<-List.take_append_drop n2 Y0]
   simp only [List.append_assoc]
  have ePk:(P++X0.take k).length=sa+k:=by rw [List.length_append,List.length_take];lia
  have wbe:=uW l M.toList _ _ _ el2 eM
  rw [ePk] at wbe
  have e2:arrOf st2=l.toArray:=hs.2.1
  rw [e2,wbe]
  have pl:((P++X0.take k)++M.toList++(Y0.drop n2++R)).Perm l:=by
   refine List.Perm.trans ?_ (List.Perm.of_eq el2.symm)
   exact (List.Perm.append_left _ hP).append_right _
  refine h _ ⟨?_,hs.1.trans B.kind,hs.2.2.2.trans B.fail⟩ hs.2.2.1
  have p0:=B.perm
  rw [hl] at p0
  exact (Array.perm_iff_toList_perm.mpr (by simpa using pl)).trans p0
 have out:∀(M:Array Keyed) (st2:SortSt),St0 (SortSt.mk' (kindOf st) l.toArray (((pendingOf st).setIfInBounds i (sa,na+nb,pw)).eraseIdxIfInBounds (i+1)) (gallopOf st) (failedOf st)) st2->failedOf st2=none:=fun M st2 hs=>hs.2.2.2.trans B.fail
 by_cases g3:na-k<=n2
 case' pos=>rw [if_pos g3]
 case' neg=>rw [if_neg g3]
 case' pos=>refine wpS_bind (xU C K1 mX mY lX lY fun M st2 hs hP=>?_)
 case' neg=>refine wpS_bind (yh C K1 mX mY lX lY fun M st2 hs hP=>?_)
 all_goals
  refine wpS_bind (wpS_modify (wpS_bind (wpS_get (wpS_pure ?_))))
  have e:=out M st2 hs
  have f:=fin M st2 hs hP
  show Q (failedOf st2).isNone _
  rw [e]
  exact f
end
def Ps:Nat->List (Nat×Nat×Nat)->Nat->Prop
 | a,[],b=>a=b
 | a,r::l,b=>r.1=a/\1<=r.2.1/\Ps (a+r.2.1) l b
theorem Ps.app:∀{p q:List (Nat×Nat×Nat)} {a b:Nat},Ps a (p++q) b↔∃ m,Ps a p m/\Ps m q b
 | [],q,a,b=>⟨fun h=>⟨a,rfl,h⟩,fun ⟨m,e,h⟩=>by cases e;exact h⟩
 | r::p,q,a,b=>⟨fun ⟨h1,h2,h4⟩=>let ⟨m,x,y⟩:=Ps.app.mp h4;⟨m,⟨h1,h2,x⟩,y⟩,fun ⟨m,⟨h1,h2,x⟩,y⟩=>⟨h1,h2,Ps.app.mpr ⟨m,x,y⟩⟩⟩
theorem Ps.len:∀{p:List (Nat×Nat×Nat)} {a b:Nat},Ps a p b->a+p.length<=b
 | [],a,b,h=>by cases h;simp
 | r::p,a,b,⟨h1,h2,h4⟩=>by
  have:=Ps.len h4
  rw [List.length_cons];lia
theorem Ps.modify:∀{p:List (Nat×Nat×Nat)} {a b:Nat},Ps a p b->∀(i:Nat) (f:Nat×Nat×Nat->Nat×Nat×Nat),(∀r,(f r).1=r.1/\(f r).2.1=r.2.1)->Ps a (p.modify i f) b
 | [],a,b,h,i,f,hf=>by cases i <;> exact h
 | r::p,a,b,⟨h1,h2,h4⟩,0,f,hf=>⟨(hf r).1.trans h1,by rw [(hf r).2];exact h2,by rw [(hf r).2];exact h4⟩
 | r::p,a,b,⟨h1,h2,h4⟩,i+1,f,hf=>⟨h1,h2,Ps.modify h4 i f hf⟩
section
variable {prog:Program}{w:World}{A:Around}{E:Value->Shared->Prop}{s:Shared}{κ:KeyKind}{kd:SortKind}{a₀:Array Keyed}{st:SortSt}
theorem l7 (C:Cmp prog w A s κ kd a₀)(B:SB kd a₀ st){i hi:Nat}{Q:Bool->SortSt->Prop}(R:Ps 0 (pendingOf st).toList hi)(hh:hi<=a₀.size)(h2:i+1<(pendingOf st).size)
  (h:∀st',SB kd a₀ st'->Ps 0 (pendingOf st').toList hi->(pendingOf st').size+1=(pendingOf st).size->Q true st') :
  wpS (model prog w) A E s (mergeAt' i) Q st:=by
 obtain ⟨l,hl⟩:∃ l,pendingOf st=l.toArray:=⟨(pendingOf st).toList,zl⟩
 rw [hl] at R h2
 have R0:Ps 0 l hi:=R
 have h2':i+1<l.length:=h2
 obtain ⟨p,⟨sa,na,pw⟩,⟨sb,nb,pw2⟩,q,e,ep⟩:=wC h2'
 rw [e] at R0
 obtain ⟨m,Rp,⟨e1,n1,⟨e2,n2,Rq⟩⟩⟩:=Ps.app.mp R0
 dsimp only at e1 n1 e2 n2 Rq
 have lp:=Rp.len
 have lq:=Rq.len
 have g1:(pendingOf st)[i]?=some (sa,na,pw):=by rw [hl,List.getElem?_toArray,e,<-ep,List.getElem?_append_right (Nat.le_refl _),Nat.sub_self];rfl
 have g2:(pendingOf st)[i+1]?=some (sb,nb,pw2):=by rw [hl,List.getElem?_toArray,e,<-ep,List.getElem?_append_right zk,show p.length+1-p.length=1 by lia];rfl
 subst e1
 refine yU C B g1 g2 zk n1 n2 zk fun st' B' ep'=>?_
 have el:(pendingOf st').toList=p++(sa,na+nb,pw)::q:=by
  rw [ep',hl,e]
  have a1:((p++(sa,na,pw)::(sb,nb,pw2)::q).toArray.setIfInBounds i (sa,na+nb,pw))=(p++(sa,na+nb,pw)::(sb,nb,pw2)::q).toArray:=by
   rw [List.setIfInBounds_toArray,List.set_append_right _ _ zk,show i-p.length=0 by lia];rfl
  rw [a1]
  have a2:i+1<(p++(sa,na+nb,pw)::(sb,nb,pw2)::q).toArray.size:=by simp;lia
  rw [Array.eraseIdxIfInBounds_eq,dif_pos a2]
  rw [List.eraseIdx_toArray]
  rw [List.eraseIdx_append_of_length_le zk,show i+1-p.length=1 by lia]
  rfl
 refine h st' B' ?_ ?_
 .rw [el]
  refine Ps.app.mpr ⟨sa,Rp,rfl,by dsimp only;lia,?_⟩
  dsimp only
  rw [<-Nat.add_assoc]
  exact Rq
 have e3:(pendingOf st').size=(p++(sa,na+nb,pw)::q).length:=by rw [<-el];simp
 rw [e3,hl,e];simp;lia
theorem ya (C:Cmp prog w A s κ kd a₀)(B:SB kd a₀ st)(hp:pendingOf st=#[]){Q:Unit->SortSt->Prop}(h:∀st',SB kd a₀ st'->Q () st'):wpS (model prog w) A E s sortRuns' Q st:=by
 rw [sortRuns'_eq]
 refine wpS_bind (wpS_get ?_)
 dsimp only
 simp only [B.size]
 refine wpS_bind (wpS_mono (wpS_forRange (I:=fun x c st'=>∃ lo,c=(none,lo)/\SB kd a₀ st'/\Ps 0 (pendingOf st').toList lo/\lo<=a₀.size/\(x<=lo∨lo=a₀.size))
  (Q:=fun c st'=>c=(none,a₀.size)/\SB kd a₀ st'/\Ps 0 (pendingOf st').toList a₀.size) ?_ ?_ ⟨0,rfl,B,by rw [hp];rfl,zk,zk⟩) ?_)
 .rintro x c st1 _ hx ⟨lo,rfl,B1,R1,h1,h2⟩
  dsimp only
  by_cases g1:lo ≥ a₀.size
  .rw [if_pos g1]
   have e:lo=a₀.size:=by lia
   subst e
   exact wpS_pure ⟨rfl,B1,R1⟩
  rw [if_neg g1]
  refine wpS_bind (uX C B1 zk zk fun n st2 zz=>?_)
  obtain ⟨B2,p2,n1,n2⟩:=zz
  have R2:Ps 0 (pendingOf st2).toList lo:=by rw [p2];exact R1
  dsimp only
  by_cases g2:n<minRun' a₀.size a₀.size 0
  .rw [if_pos g2]
   refine wpS_bind (wpS_lift (wpAny_rule ⟨rfl,?_⟩))
   refine wpS_bind (xM C B2 zk zk n1 fun st3 B3 p3=>?_)
   simp only [Bool.not_true,Bool.false_eq_true,if_false]
   have R3:Ps 0 (pendingOf st3).toList lo:=by rw [p3];exact R2
   have mn:1<=min (a₀.size-lo) (minRun' a₀.size a₀.size 0):=by lia
   refine wpS_bind (wpS_get ?_)
   have fin:∀st4:SortSt,SB kd a₀ st4->Ps 0 (pendingOf st4).toList lo->
     ∃ lo',(ForInStep.yield ((none:Option Unit),lo+min (a₀.size-lo) (minRun' a₀.size a₀.size 0)))=ForInStep.yield (none,lo')/\SB kd a₀ (setPending st4 ((pendingOf st4).push (lo,min (a₀.size-lo) (minRun' a₀.size a₀.size 0),0)))/\Ps 0 ((pendingOf st4).push (lo,min (a₀.size-lo) (minRun' a₀.size a₀.size 0),0)).toList lo'/\lo'<=a₀.size/\(x+1<=lo'∨lo'=a₀.size):=fun st4 B4 R4=>by
    refine ⟨lo+min (a₀.size-lo) (minRun' a₀.size a₀.size 0),rfl,⟨B4.perm,B4.kind,B4.fail⟩,?_,zk,zk⟩
    rw [Array.toList_push]
    exact Ps.app.mpr ⟨lo,R4,rfl,by dsimp only;lia,rfl⟩
   cases hb:(pendingOf st3).back? with
   | none =>
    dsimp only
    obtain ⟨lo',e1,e2,e3,e4,e5⟩:=fin st3 B3 R3
    exact wpS_bind (wpS_modify (wpS_pure ⟨lo+min (a₀.size-lo) (minRun' a₀.size a₀.size 0),rfl,e2,by cases e1;exact e3,by cases e1;exact e4,by cases e1;exact e5⟩))
   | some bk =>
    obtain ⟨s1,n1,o1⟩:=bk
    dsimp only
    have hpos:0<(pendingOf st3).size:=by
     rcases Nat.eq_zero_or_pos (pendingOf st3).size with z | z
     .rw [Array.eq_empty_of_size_eq_zero z] at hb;cases hb
     .exact z
    refine wpS_bind (wpS_mono (wpS_forRange (I:=fun _ c st'=>c=(none,())/\SB kd a₀ st'/\Ps 0 (pendingOf st').toList lo/\0<(pendingOf st').size)
     (Q:=fun c st'=>c=(none,())/\SB kd a₀ st'/\Ps 0 (pendingOf st').toList lo/\0<(pendingOf st').size) ?_ (fun c st' z=>z) ⟨rfl,B3,R3,hpos⟩) ?_)
    .rintro y c st3 _ _ ⟨rfl,B3,R3,p3⟩
     refine wpS_bind (wpS_get ?_)
     by_cases g2:(pendingOf st3).size>1
     .have g2':(pendingOf st3).size>1:=g2
      rw [if_pos g2']
      have ⟨o,eo⟩:∃ o,(pendingOf st3)[(pendingOf st3).size-2]?=some o:=⟨_,getElem?_pos _ _ zk⟩
      rw [eo]
      obtain ⟨o1,o2,o3⟩:=o
      dsimp only
      split
      .exact wpS_pure ⟨rfl,B3,R3,p3⟩
      .refine wpS_bind (l7 C B3 R3 zk (by have:=g2;lia) fun st4 B4 R4 p4=>?_)
       simp only [Bool.not_true,Bool.false_eq_true,if_false]
       exact wpS_pure ⟨rfl,B4,R4,zk⟩
     .have g2':¬ (pendingOf st3).size>1:=g2
      rw [if_neg g2']
      exact wpS_pure ⟨rfl,B3,R3,p3⟩
    .rintro c st3 ⟨rfl,B3,R3,p3⟩
     dsimp only
     refine wpS_bind (wpS_modify ?_)
     have R4:∀pw,Ps 0 ((pendingOf st3).modify ((pendingOf st3).size-1) fun x=>match x with | (st,len,_)=>(st,len,pw)).toList lo:=fun pw=>by
      rw [Array.toList_modify]
      exact Ps.modify R3 _ _ fun r=>⟨rfl,rfl⟩
     obtain ⟨lo',e1,e2,e3,e4,e5⟩:=fin (setPending st3 ((pendingOf st3).modify ((pendingOf st3).size-1) fun x=>match x with | (st,len,_)=>(st,len,power' a₀.size (2*s1+n1) (2*s1+n1+n1+min (a₀.size-lo) (minRun' a₀.size a₀.size 0)) a₀.size))) ⟨B3.perm,B3.kind,B3.fail⟩ (R4 _)
     refine wpS_bind (wpS_modify (wpS_pure ⟨lo+min (a₀.size-lo) (minRun' a₀.size a₀.size 0),rfl,⟨B3.perm,B3.kind,B3.fail⟩,?_,by cases e1;exact e4,by cases e1;exact e5⟩))
     cases e1
     exact e3
  .rw [if_neg g2]
   refine wpS_bind (wpS_get ?_)
   have fin:∀st4:SortSt,SB kd a₀ st4->Ps 0 (pendingOf st4).toList lo->
     ∃ lo',(ForInStep.yield ((none:Option Unit),lo+n))=ForInStep.yield (none,lo')/\SB kd a₀ (setPending st4 ((pendingOf st4).push (lo,n,0)))/\Ps 0 ((pendingOf st4).push (lo,n,0)).toList lo'/\lo'<=a₀.size/\(x+1<=lo'∨lo'=a₀.size):=fun st4 B4 R4=>by
    refine ⟨lo+n,rfl,⟨B4.perm,B4.kind,B4.fail⟩,?_,zk,zk⟩
    rw [Array.toList_push]
    exact Ps.app.mpr ⟨lo,R4,rfl,by dsimp only;lia,rfl⟩
   cases hb:(pendingOf st2).back? with
   | none =>
    dsimp only
    obtain ⟨lo',e1,e2,e3,e4,e5⟩:=fin st2 B2 R2
    exact wpS_bind (wpS_modify (wpS_pure ⟨lo+n,rfl,e2,by cases e1;exact e3,by cases e1;exact e4,by cases e1;exact e5⟩))
   | some bk =>
    obtain ⟨s1,n1,o1⟩:=bk
    dsimp only
    have hpos:0<(pendingOf st2).size:=by
     rcases Nat.eq_zero_or_pos (pendingOf st2).size with z | z
     .rw [Array.eq_empty_of_size_eq_zero z] at hb;cases hb
     .exact z
    refine wpS_bind (wpS_mono (wpS_forRange (I:=fun _ c st'=>c=(none,())/\SB kd a₀ st'/\Ps 0 (pendingOf st').toList lo/\0<(pendingOf st').size)
     (Q:=fun c st'=>c=(none,())/\SB kd a₀ st'/\Ps 0 (pendingOf st').toList lo/\0<(pendingOf st').size) ?_ (fun c st' z=>z) ⟨rfl,B2,R2,hpos⟩) ?_)
    .rintro y c st3 _ _ ⟨rfl,B3,R3,p3⟩
     refine wpS_bind (wpS_get ?_)
     by_cases g2:(pendingOf st3).size>1
     .have g2':(pendingOf st3).size>1:=g2
      rw [if_pos g2']
      have ⟨o,eo⟩:∃ o,(pendingOf st3)[(pendingOf st3).size-2]?=some o:=⟨_,getElem?_pos _ _ zk⟩
      rw [eo]
      obtain ⟨o1,o2,o3⟩:=o
      dsimp only
      split
      .exact wpS_pure ⟨rfl,B3,R3,p3⟩
      .refine wpS_bind (l7 C B3 R3 zk (by have:=g2;lia) fun st4 B4 R4 p4=>?_)
       simp only [Bool.not_true,Bool.false_eq_true,if_false]
       exact wpS_pure ⟨rfl,B4,R4,zk⟩
     .have g2':¬ (pendingOf st3).size>1:=g2
      rw [if_neg g2']
      exact wpS_pure ⟨rfl,B3,R3,p3⟩
    .rintro c st3 ⟨rfl,B3,R3,p3⟩
     dsimp only
     refine wpS_bind (wpS_modify ?_)
     have R4:∀pw,Ps 0 ((pendingOf st3).modify ((pendingOf st3).size-1) fun x=>match x with | (st,len,_)=>(st,len,pw)).toList lo:=fun pw=>by
      rw [Array.toList_modify]
      exact Ps.modify R3 _ _ fun r=>⟨rfl,rfl⟩
     obtain ⟨lo',e1,e2,e3,e4,e5⟩:=fin (setPending st3 ((pendingOf st3).modify ((pendingOf st3).size-1) fun x=>match x with | (st,len,_)=>(st,len,power' a₀.size (2*s1+n1) (2*s1+n1+n1+n) a₀.size))) ⟨B3.perm,B3.kind,B3.fail⟩ (R4 _)
     refine wpS_bind (wpS_modify (wpS_pure ⟨lo+n,rfl,⟨B3.perm,B3.kind,B3.fail⟩,?_,by cases e1;exact e4,by cases e1;exact e5⟩))
     cases e1
     exact e3
 .rintro c st1 ⟨lo,rfl,B1,R1,h1,h2⟩
  have e:lo=a₀.size:=by lia
  subst e
  exact ⟨rfl,B1,R1⟩
 rintro c st1 ⟨rfl,B1,R1⟩
 dsimp only
 refine wpS_bind (wpS_mono (wpS_forRange (I:=fun x c st'=>c=(none,())/\SB kd a₀ st'/\Ps 0 (pendingOf st').toList a₀.size/\((pendingOf st').size<=1∨(pendingOf st').size+x<=a₀.size))
  (Q:=fun c st'=>c=(none,())/\SB kd a₀ st'/\Ps 0 (pendingOf st').toList a₀.size/\(pendingOf st').size<=1) ?_ ?_ ⟨rfl,B1,R1,?_⟩) ?_)
 .rintro x c st2 _ hx ⟨rfl,B2,R2,h2⟩
  refine wpS_bind (wpS_get ?_)
  by_cases g1:(pendingOf st2).size<=1
  .rw [if_pos g1]
   exact wpS_pure ⟨rfl,B2,R2,g1⟩
  .rw [if_neg g1]
   refine wpS_bind (l7 C B2 R2 (Nat.le_refl _) ?_ fun st3 B3 R3 p3=>?_)
   .have it:∀(c:Prop) [Decidable c] (n:Nat),1<n->(if c then n-2-1 else n-2)+1<n:=fun c _ n h=>by split <;> lia
    exact it _ _ zk
   .simp only [Bool.not_true,Bool.false_eq_true,if_false]
    exact wpS_pure ⟨rfl,B3,R3,zk⟩
 .rintro c st2 ⟨rfl,B2,R2,h2⟩
  exact ⟨rfl,B2,R2,zk⟩
 .have:=R1.len
  right
  simp only [Array.length_toList] at this
  lia
 rintro c st2 ⟨rfl,B2,R2,h2⟩
 exact wpS_pure (h st2 B2)
end
section
variable {prog:Program}{w:World}{A:Around}{E:Value->Shared->Prop}{s:Shared}{κ:KeyKind}{kd:SortKind}
theorem xt {a:Addr}{vs:List Value}{n:Nat}{P:Fin->Shared->Prop}(ho:s.heap.get? a=some (seqObj "list" vs.toArray n))(hn:vs.length<=sizeLine)
  (hkk:∀h':Heap,(∀b o,b≠a->s.heap.get? b=some o->h'.get? b=some o)->2<=vs.length->∀Q:SortKind->Shared->Prop,Q kd { s with heap:=h' }->wpAny (model prog w) A (keyKind' vs.toArray) Q E { s with heap:=h' })
  (hC:∀h':Heap,(∀b o,b≠a->s.heap.get? b=some o->h'.get? b=some o)->2<=vs.length->Cmp prog w A { s with heap:=h' } κ kd (pairsOf vs))
  (h:∀st':SortSt,(arrOf st').Perm (pairsOf vs)->P (.done (.ret .none)) { s with heap:=sortedHeap s.heap a vs ((arrOf st').map (·.2)) }) :
  wpAny (model prog w) A (Builtin.«list.sort» ⟨[.ref a],[]⟩) P E s:=by
 rw [list_sort_plain]
 have ha:a<s.heap.objs.size:=Heap.lt_size ho
 refine wpAny_bind (listItems_at ho rfl ?_)
 refine wpAny_bind (listUpdate_at ho rfl ?_ (hsz:=by simpa using hn))
 obtain ⟨e1,ho1⟩:∃ e1,(s.heap.update a (Obj.mapSeq fun _=>#[])).get? a=some (seqObj "list" #[] e1):=⟨_,get?_update_seq ho (fun _=>#[])⟩
 refine wpAny_bind (seqEpoch_at ho1 rfl ?_)
 refine wpAny_bind (wpAny_newTuple ?_)
 refine wpAny_bind (wpAny_newList ?_)
 refine wpAny_holding ?_
 have ho6:(((s.heap.update a (Obj.mapSeq fun _=>#[])).push (seqObj "tuple" vs.toArray 0)).push (seqObj "list" #[] 0)).get? a=some (seqObj "list" #[] e1):=by
  rw [Heap.get?_push_ne _ _ _ (by rw [size_push',Heap.size_update];exact Nat.ne_of_lt (Nat.lt_succ_of_lt ha)),Heap.get?_push_ne _ _ _ (by rw [Heap.size_update];exact Nat.ne_of_lt ha)]
  exact ho1
 have keep:∀b o,b≠a->s.heap.get? b=some o->(((s.heap.update a (Obj.mapSeq fun _=>#[])).push (seqObj "tuple" vs.toArray 0)).push (seqObj "list" #[] 0)).get? b=some o:=fun b o hb e=>by
  have hlt:=Heap.lt_size e
  rw [Heap.get?_push_ne _ _ _ (by rw [size_push',Heap.size_update];exact Nat.ne_of_lt (Nat.lt_succ_of_lt hlt)),Heap.get?_push_ne _ _ _ (by rw [Heap.size_update];exact Nat.ne_of_lt hlt),Heap.get?_update_ne _ _ _ _ hb]
  exact e
 show wpAny (model prog w) A _ P E { s with heap:=((s.heap.update a (Obj.mapSeq fun _=>#[])).push (seqObj "tuple" vs.toArray 0)).push (seqObj "list" #[] 0) }
 dsimp only
 have hsz:vs.toArray.size=vs.length:=by simp
 by_cases h2:vs.toArray.size<2
 .rw [if_pos h2,if_pos h2]
  refine wpAny_bind (wpAny_pure ?_)
  rw [StateT.run_pure]
  refine wpAny_bind (wpAny_pure ?_)
  dsimp only
  refine wpAny_bind (seqEpoch_at ho6 rfl ?_)
  refine wpAny_bind (listUpdate_at ho6 rfl ?_ (hsz2:=by rw [Array.size_map];show (pairsOf vs).size<=_;rw [pairsOf_size];lia))
  simp only [bne_self_eq_false,Bool.false_eq_true,if_false]
  exact wpAny_pure (h (SortSt.mk' general' (vs.toArray.zip vs.toArray) #[] 7 none) (Array.Perm.refl _))
 rw [if_neg h2,if_neg h2]
 refine wpAny_bind (hkk _ keep zk _ ?_)
 refine wpAny_bind (wpAny_mono (ya (E:=E) (hC _ keep zk) (a₀:=pairsOf vs) (st:=SortSt.mk' kd (vs.toArray.zip vs.toArray) #[] 7 none)
  (Q:=fun _ st'=>SB kd (pairsOf vs) st') ⟨Array.Perm.refl _,rfl,rfl⟩ rfl fun st' a1=>a1) ?_ fun _ _ e=>e)
 rintro ⟨⟨⟩,st'⟩ s' ⟨rfl,B⟩
 dsimp only
 refine wpAny_bind (seqEpoch_at ho6 rfl ?_)
 refine wpAny_bind (listUpdate_at ho6 rfl ?_ (hsz2:=by refine Nat.le_trans (Nat.le_of_eq ((Array.size_map ..).trans (B.perm.size_eq.trans (pairsOf_size _)))) ?_;lia))
 rw [B.fail]
 simp only [bne_self_eq_false,Bool.false_eq_true,if_false]
 exact wpAny_pure (h st' B.perm)
end
end TS
namespace TS
open PySem PyProof.Rows PySem.W
section
variable {prog:Program}{w:World}{A:Around}{E:Value->Shared->Prop}{s:Shared}
theorem sorted_dictP {d:Addr}{kvs:List (L2.Key×Value)}{ep:Nat}{Q:Value->Shared->Prop}(hh:A.handled=none)(nsm:(d == sysModules)=false)(hm:s.heap.DictAt (L2.mixKind prog w) d kvs ep)(hn:kvs.length<=sizeLine)(hS:∀kv∈kvs,∃ x,kv.1=Sum.inr x)
  (h:∀(h1 h3:Heap) (tk:Nat) (vs:List Value) (st':SortSt),vs.length=kvs.length->(∀(i:Nat) v,vs[i]?=some v->∃ k x,kvs[i]?=some (k,x)/\L2.keyIs k v=true)->(arrOf st').Perm (pairsOf vs) ->
   (∀b o,s.heap.get? b=some o->h1.get? b=some o)->(∀b o,h1.get? b=some o->h3.get? b=some o)->(∃ n,h3.get? h1.objs.size=some (seqObj "list" ((arrOf st').map (·.2)) n))->Q (.ref h1.objs.size) { s with heap:=h3,toks:=tk }) :
  wpAny (model prog w) A (call (.builtin "sorted") [.ref d]) Q E s:=by
 refine Calls.call_function_entry kind_sorted plain_sorted entry_sorted (args_sorted1 _) ?_
 unfold Builtin.«sorted»
 refine wpAny_bind (m:=checkCount "sorted" 1 1 _) (wpAny_pure ?_)
 refine wpAny_bind (kdu_collect (kdl_dict (kvs:=kvs) (ep:=ep) nsm) hh hm hn fun h1 tk acc hk hacc=>?_)
 have hlen:acc.toList.length=kvs.length:=by rw [Array.length_toList];exact hacc.1
 have hat:∀(i:Nat) v,acc.toList[i]?=some v->∃ k x,kvs[i]?=some (k,x)/\L2.keyIs k v=true:=fun i v e=>hacc.2 i v (by rw [<-Array.getElem?_toList];exact e)
 have hst:∀v∈acc.toList,∃ x t,v=Value.str x t:=fun v hv=>by
  obtain ⟨i,hi⟩:=List.getElem?_of_mem hv
  obtain ⟨k,x,ek,ik⟩:=hat i v hi
  obtain ⟨y,ey⟩:=hS _ (List.mem_of_getElem? ek)
  dsimp only at ey
  subst ey
  rcases L2.keyIs_shape ik with ⟨_,_,z,_⟩ | ⟨_,t,_,z⟩
  .cases z
  .exact ⟨_,t,z⟩
 refine wpAny_bind (wpAny_newList ?_)
 have hoL:(h1.push (seqObj "list" acc.toList.toArray 0)).get? h1.objs.size=some (seqObj "list" acc.toList.toArray 0):=Heap.get?_push_size _ rfl
 refine wpAny_bind (wpAny_holding (wpAny_call_entry slot_list_sort ⟨_,hoL,rfl⟩ entry_list_sort (xt (s:={ s with heap:=h1.push (seqObj "list" acc.toList.toArray 0),toks:=tk }) (κ:=PyProof.Rows.strKind) (kd:=oneType') hoL zk (fun h' k g Q q=>?_) (fun h' k g=>qQ hst) fun st' a1=>⟨_,rfl,?_⟩) (args_list_sort _)))
 .rw [jg hst g]
  exact wpAny_pure q
 refine wpAny_pure ⟨_,rfl,h h1 _ _ acc.toList st' hlen hat a1 hk (fun b o e1=>?_) (sortedHeap_at hoL)⟩
 rw [sortedHeap_old (Nat.ne_of_lt (Heap.lt_size e1)) (by rw [size_push'];exact Nat.lt_succ_of_lt (Heap.lt_size e1))]
 exact Heap.get?_push_of_some _ e1
end
end TS
namespace L2
open PySem PySem.W PySem.Spec PySem.Calls PyProof.Rows
section
variable {X:Cx}
theorem ii (hc:X.calm=true):bQ X (.builtin "sorted") (fun zs H Q=>∃ (d:Addr) (kvs:List (Key×V)) (ks:List Str),zs=[.ref d]/\H d=some (.dK kvs)/\kvs.map (·.1)=ks.map Sum.inr /\
  ∀(l:Addr) (ys:List Str),H l=none->ys.Perm ks->Q (.ref l) (upd H l (.lst (ys.map V.str)))):=by
 intro pins s σ H zs us Q I r h
 obtain ⟨d,kvs,ks,rfl,hd,hks,q⟩:=h
 obtain ⟨u,rfl,ru⟩:=dh r
 cases ru
 obtain ⟨hz,nsm,vs,rel,dd⟩:=iP I.hok hd
 obtain ⟨ep,da⟩:=dd.dictAt
 have ek:vs.map (·.1)=ks.map Sum.inr:=by rw [<-rel.keys];exact hks
 refine TS.sorted_dictP (I.ok.hd hc) nsm da (by rw [<-rel.length];exact hz) (fun kv hkv=>?_) fun h1 h3 tk us st' hl hat pm k1 k3 ⟨n,hn⟩=>?_
 .have:kv.1∈ks.map Sum.inr:=by rw [<-ek];exact List.mem_map.mpr ⟨kv,hkv,rfl⟩
  obtain ⟨x,_,e⟩:=List.mem_map.mp this
  exact ⟨x,e.symm⟩
 have eus:us.map dj=ks/\∀u∈us,∃ x t,u=Value.str x t:=by
  have lks:us.length=ks.length:=by have:=congrArg List.length ek;rw [List.length_map,List.length_map] at this;lia
  have at':∀(i:Nat) u,us[i]?=some u->∃ x t,u=Value.str x t/\ks[i]?=some x:=fun i u e=>by
   obtain ⟨k,x,e1,e2⟩:=hat i u e
   have e3:(vs.map (·.1))[i]?=some k:=by rw [List.getElem?_map,e1];rfl
   rw [ek,List.getElem?_map] at e3
   cases e4:ks[i]? with
   | none=>rw [e4] at e3;cases e3
   | some y =>
    rw [e4] at e3
    cases e3
    rcases keyIs_shape e2 with ⟨_,_,z,_⟩ | ⟨y',t,z,e5⟩
    .cases z
    .cases z
     exact ⟨_,t,e5,rfl⟩
  refine ⟨List.ext_getElem? fun i=>?_,fun u hu=>?_⟩
  .rw [List.getElem?_map]
   cases e:us[i]? with
   | none=>rw [Option.map_none,eq_comm,List.getElem?_eq_none_iff,<-lks];exact List.getElem?_eq_none_iff.mp e
   | some u =>
    obtain ⟨x,t,rfl,ex⟩:=at' i u e
    rw [ex];rfl
  .obtain ⟨i,hi⟩:=List.getElem?_of_mem hu
   obtain ⟨x,t,e,_⟩:=at' i u hi
   exact ⟨x,t,e⟩
 obtain ⟨eks,hst⟩:=eus
 have pm':(arrOf st').toList.Perm (us.zip us):=by rw [<-pairsOf_toList];exact Array.perm_iff_toList_perm.mp pm
 have mem:∀k∈(arrOf st').toList,k.1=k.2/\∃ x t,k.2=Value.str x t:=fun k hk=>by
  obtain ⟨e1,m⟩:=mem_zip_self (pm'.mem_iff.mp hk)
  exact ⟨e1,e1▸hst _ m⟩
 have vs':∀l:List Keyed,(∀k∈l,∃ x t,k.2=Value.str x t)->Vals ((l.map fun k=>dj k.2).map V.str) (l.map (·.2)):=by
  intro l
  induction l with
  | nil=>intro _;exact .nil
  | cons k l ih =>
   intro f
   obtain ⟨x,t,ex⟩:=f k List.mem_cons_self
   refine .cons ⟨t,?_⟩ (ih fun k' hk'=>f k' (List.mem_cons_of_mem _ hk'))
   show k.2=Value.str (dj k.2) t
   rw [ex];rfl
 have hsz:(arrOf st').toList.length=us.length:=by rw [pm'.length_eq,List.length_zip];lia
 have I1:Inv X pins σ H { s with heap:=h1,toks:=tk }:=I.kept k1
 have pk:((arrOf st').toList.map fun k=>dj k.2).Perm ks:=by
  have e3:(us.zip us).map (fun k:Keyed=>dj k.2)=ks:=by
   rw [<-eks]
   have aux:∀l:List Value,(l.zip l).map (fun k:Keyed=>dj k.2)=l.map dj:=by
    intro l
    induction l with
    | nil=>rfl
    | cons a l ih=>rw [List.zip_cons_cons,List.map_cons,List.map_cons,ih]
   exact aux us
  rw [<-e3]
  exact pm'.map _
 refine ⟨.ref h1.objs.size,upd H h1.objs.size (.lst (((arrOf st').toList.map fun k=>dj k.2).map V.str)),I1.laid (t':=tk) k3 (Nat.le_refl _) ?_,rfl,q _ _ (I1.hok.fresh (Nat.le_refl _)) pk⟩
 refine ⟨by rw [List.length_map,List.length_map,hsz,hl,<-rel.length];exact hz,(arrOf st').toList.map (·.2),n,vs' _ fun k hk=>(mem k hk).2,?_⟩
 rw [hn,<-Array.toList_map]
theorem pN (hc:X.calm=true):bQ X (.builtin "max") (fun xs H Q=>∃ i j k:Int,xs=[.int i,.int j,.int k]/\Q (.int (if k>(if j>i then j else i) then k else (if j>i then j else i))) H):=by
 intro pins s σ H xs us Q I r h
 obtain ⟨i,j,k,rfl,q⟩:=h
 obtain ⟨u,v,w',rfl,⟨t,rfl⟩,⟨t',rfl⟩,⟨t2,rfl⟩⟩:=j5 r
 refine max_three_ints (I.ok.hd hc) fun h' tk kk=>⟨_,H,I.kept kk,?_,q⟩
 by_cases hj:j>i
 .rw [if_pos hj]
  by_cases hk:k>j
  .rw [if_pos hk];simp [hj,hk];exact ⟨_,rfl⟩
  .rw [if_neg hk];simp [hj,hk];exact ⟨_,rfl⟩
 rw [if_neg hj]
 by_cases hk:k>i
 .rw [if_pos hk];simp [hj,hk];exact ⟨_,rfl⟩
 rw [if_neg hk];simp [hj,hk];exact ⟨_,rfl⟩
end
section
variable {P:Program}{w:World}{K:W.Frag}{mg:Str->Option Value}{base:Heap}
theorem Fun.okEQ {x qual:Str}{st:Stmt}{f:Addr}{fd:FuncData}{N ps:List Str}{k:Nat}{sp:Sp}(F:Fun K x qual st f fd)(S:FnScope N ps (ao st))(len:∀vs H Q E,sp vs H Q E->vs.length=ps.length)
  (hbody:∀(cdv:Value) (A:Around) (outer:List Env) (s:Shared) (H:Hp) (vs:List V) (Q:VK) (E:XK),Room k (A.deeper (envOfC qual (ao st) s.heap.objs.size f cdv))->sp vs H Q E ->
   ∃ t,QSs (bq (CXe P w) P w K mg base N qual (ao st) f cdv A outer s H E) (bz st) t/\t { nx:=fun _ H'=>Q .non H',rt:=Q } (dy N vs) H):aA P w K mg base (CXe P w) (k+1) f fd ps sp :=
 F.okE S len fun cdv A outer s H vs Q E hr h=>let ⟨t,a,b⟩:=hbody cdv A outer s H vs Q E hr h;⟨t,a.to,b⟩
theorem wL {N:List Str}{qual:Str}{scope:Scope}{f:Addr}{cd:Value}{A:Around}{outer:List Env}{s₀:Shared}{H₀:Hp}{E:XK}{CX:CXT}:PassesOwn (model (bq CX P w K mg base N qual scope f cd A outer s₀ H₀ E).prog (bq CX P w K mg base N qual scope f cd A outer s₀ H₀ E).w) (bq CX P w K mg base N qual scope f cd A outer s₀ H₀ E).A (bq CX P w K mg base N qual scope f cd A outer s₀ H₀ E).env (bq CX P w K mg base N qual scope f cd A outer s₀ H₀ E).xe:=PassesOwn.leaving
end
end L2
namespace L2
open PySem PySem.Spec PyProof.Rows
section
variable {X:Cx}
def wH:V->List V->Hp->VK->Prop:=fun x vs H Q=>∃ (l:Addr) (xs:List V) (y z:V) (j:Nat),x=.ref l/\vs=[y]/\H l=some (.lst xs)/\fV y=true/\xs.all fV=true/\xs[j]?=some z/\eqV z y=true/\(∀(m:Nat) (z:V),m<j->xs[m]?=some z->eqV z y=false)/\Q (.int j) H
theorem jH:MtM X "list.index" wH:=by
 intro pins s σ H x vs v us Q I rx rv h
 obtain ⟨l,xs,y,z,j,rfl,rfl,hH,fy,fx,ej,eq,lt,q⟩:=h
 cases rx
 obtain ⟨u,rfl,ru⟩:=rv.one
 obtain ⟨hz,its,n,r,hl,e⟩:=I.lstM hH
 have hj:j<its.length:=by rw [<-hl];exact (List.getElem?_eq_some_iff.mp ej).1
 have all:∀x∈xs,fV x=true:=List.all_eq_true.mp fx
 have at_:∀(m:Nat) (hm:m<its.toArray.size) (z:V),xs[m]?=some z->eqU y its.toArray[m]=eqV z y:=fun m hm z ez=>by
  obtain ⟨w,hw,rw'⟩:=r.get ez
  have:its.toArray[m]=w:=by
   have h2:m<its.length:=by simpa using hm
   rw [List.getElem?_eq_getElem h2] at hw
   simpa using Option.some.inj hw
  rw [this]
  exact rQ rw' (all z (List.mem_of_getElem? ez))
 have h3:sizeLine<2 ^ 63-1:=by decide
 have h63:(j:Int)<2 ^ 63-1:=by lia
 refine call_meets F.slot_list_index ⟨_,e,rfl⟩ F.entry_list_index (F.args_list_index_2 _ _) (SeqAt.list_indexAt l its.toArray n none #[] u (eqU y) j (by simpa using hj) h63 ?_ fun m hm hlt=>?_) ⟨e,fun w hw=>?_,?_⟩
 .rw [at_ j (by simpa using hj) z ej];exact eq
 .have h2:m<xs.length:=by rw [hl];simpa using hm
  rw [at_ m hm xs[m] (List.getElem?_eq_getElem h2)]
  exact lt m _ hlt (List.getElem?_eq_getElem h2)
 .exact jJ ru fy r fx w (by simpa using hw)
 exact ⟨.int j,H,I.tok _,⟨_,rfl⟩,q⟩
inductive ES (p:Params):List DictEntry->List (Str×Int)->Prop
 | nil:ES p [] []
 | cons {k:Str} {v:Int} {t u:Tok} {es:List DictEntry} {ks:List (Str×Int)}:ES p es ks->ES p ({ hash:=PyData.keyHash p k,key:=.str k t,val:=.int v u }::es) ((k,v)::ks)
def p9 (w:World)(K:W.Frag)(d:Addr)(ks:List (Str×Int)):Prop:=∃ (es:List DictEntry) (ep:Nat),K.lookup d=some { cls:=.type "dict",data:=.dict es.toArray ep }/\ES w.params es ks
theorem wA {P:Program}{w:World}{k:Key}{x:Str}{t:Tok}:(mixKind P w).is k (.str x t)=decide (k=Sum.inr x):=by
 by_cases h:k=Sum.inr x
 .rw [h,cw,decide_eq_true rfl]
 rw [decide_eq_false h]
 cases e:(mixKind P w).is k (.str x t) with
 | false=>rfl
 | true=>exact absurd ((mixKind P w).inj _ _ _ e (cw P w x t)) h
theorem ES.keys {P:Program}{w:World}{es:List DictEntry}{ks:List (Str×Int)}(h:ES w.params es ks):∀e∈es,∃ k,(mixKind P w).is k e.key=true/\e.hash=(mixKind P w).hash k:=by
 induction h with
 | nil=>intro e he;cases he
 | @cons k v t u es ks _ ih =>
  intro e he
  rcases List.mem_cons.mp he with z | z
  .rw [z];exact ⟨Sum.inr k,cw P w k t,rfl⟩
  .exact ih e z
theorem ES.find {P:Program}{w:World}{es:List DictEntry}{ks:List (Str×Int)}(h:ES w.params es ks){k:Str}{v:Int}(hk:ks.lookup k=some v):∃ u,(es.find? fun e=>(mixKind P w).is (Sum.inr k) e.key).map (·.val)=some (.int v u):=by
 induction h with
 | nil=>cases hk
 | @cons k' v' t u es ks _ ih =>
  rw [List.lookup_cons] at hk
  rw [List.find?_cons]
  show ∃ u',(match (mixKind P w).is (Sum.inr k) (.str k' t) with | true=>_ | false=>_:Option DictEntry).map (·.val)=_
  rw [wA]
  cases e:k == k' with
  | true =>
   rw [e] at hk
   have:k=k':=by simpa using e
   rw [decide_eq_true (by rw [this])]
   exact ⟨u,by rw [<-Option.some.inj hk];rfl⟩
  | false =>
   rw [e] at hk
   have:¬ (Sum.inr k:Key)=Sum.inr k':=fun z=>by cases z;simp at e
   rw [decide_eq_false this]
   exact ih hk
def yc (d:Addr)(ks:List (Str×Int))(td ty:TE):TE:=fun σ H Q=>td σ H fun x H1=>ty σ H1 fun y H2=>∃ (k:Str) (v:Int),x=.ref d/\y=.str k/\ks.lookup k=some v/\Q (.int v) H2
theorem ut {d:Addr}{ks:List (Str×Int)}{o i:Expr}{td ty:TE}{pos:Pos}(S:p9 X.w X.K d ks)(ho:QE X o td)(hi:QE X i ty)(hs:tR i):QE X (.Subscript o i pos) (yc d ks td ty):=by
 refine .mk fun pins s σ H Q I h=>?_
 refine nE PySem.F.slot_dict_getitem.lookup hs (thn (ho.to pins s σ H _ I h) fun u s1 ⟨x,H1,I1,rx,q1⟩=>thn (hi.to pins s1 σ H1 _ I1 q1) fun iv s2 zz=>?_)
 obtain ⟨y,H2,I2,ry,k,v,ex,ey,lk,q2⟩:=zz
 subst ex
 subst ey
 obtain rfl:u=Value.ref d:=rx
 obtain ⟨es,ep,hd,E⟩:=S
 have hg:=I2.kIn d _ hd
 refine ⟨⟨_,hg,rfl⟩,?_⟩
 obtain ⟨u',hf⟩:=E.find (P:=X.prog) lk
 refine wpAny_getItem_of (knd:=mixKind X.prog X.w) (k:=Sum.inr k) (f:=findBy (mixKind X.prog X.w).is es.toArray) (fu (k:=Sum.inr k) ry) ⟨_,es.toArray,ep,hg,⟨rfl,rfl,rfl⟩,rfl,fun e he=>E.keys e (by simpa using he),fun _=>rfl⟩ (v:=.int v u') ?_ ⟨.int v,H2,I2.tok _,⟨u',rfl⟩,q2⟩
 unfold findBy
 rw [List.find?_toArray]
 exact hf
end
section
variable {prog:Program}{w:World}{A:Around}{E:Value->Shared->Prop}{s:Shared}
abbrev oIt (l:Addr):Obj:={ cls:=Value.type "list_iterator",data:=Data.fields #[Value.ref l,Value.int 0 0] }
abbrev vU (a b:Value):Obj:={ cls:=Value.type "tuple",data:=Data.seq #[a,b] }
abbrev y7 (TI TO:Addr):Obj:={ cls:=Value.type "zip",data:=Data.fields #[Value.none,Value.bool false,Value.bool false,Value.ref TI,Value.ref TO] }
abbrev gj (h:Heap)(l1 l2 n:Addr):Heap:=((((h.push (oIt l1)).push (oIt l2)).push (vU (.ref n) (.ref (n+1)))).push (vU .none .none)).push (y7 (n+2) (n+3))
theorem pE {l1 l2:Addr}:MeetsIn prog w (Builtin.«zip.__new__» { pos:=[.type "zip",.ref l1,.ref l2] }) (fun _ R s=>(∃ xs ys,s.heap.IsList l1 xs/\s.heap.IsList l2 ys)/\R (.ok (.ret (.ref (s.heap.objs.size+4)))) { s with heap:=gj s.heap l1 l2 s.heap.objs.size }):=by
 intro A R s ⟨⟨xs,ys,h1,h2⟩,hR⟩
 unfold Builtin.«zip.__new__» Builtin.SmallTypes.newClass
 dsimp only
 refine wpAny_bind (wpAny_bind ?_)
 show wpAny _ _ (pure true) _ _ s
 refine wpAny_pure ?_
 rw [if_neg zj,F.called_zip.sub]
 refine wpAny_bind (wpAny_pure ?_)
 rw [if_neg zj]
 refine wpAny_pure ?_
 rw [if_neg zj]
 refine wpAny_bind ?_
 unfold Builtin.SmallTypes.iterAll
 dsimp only
 rw [List.forIn_cons]
 refine wpAny_bind (wpAny_bind (wpAny_bind (wpAny_holding (wpAny_pyIter_list h1 (wpAny_pure ?_)))))
 dsimp only
 rw [List.forIn_cons]
 have h2':(s.heap.push (oIt l1)).IsList l2 ys:=by
  obtain ⟨o,e,r⟩:=h2
  exact ⟨o,Heap.get?_push_of_some _ e,r⟩
 refine wpAny_bind (wpAny_bind (wpAny_holding (wpAny_pyIter_list h2' (wpAny_pure ?_))))
 dsimp only
 rw [List.forIn_nil]
 refine wpAny_pure (wpAny_pure ?_)
 refine wpAny_bind (wpAny_newTuple ?_ (show 2<=sizeLine by decide))
 refine wpAny_bind (wpAny_newTuple ?_ (show 2<=sizeLine by decide))
 refine wpAny_bind ?_
 unfold Builtin.SmallTypes.newRecord
 dsimp only
 refine wpAny_newObj_type ?_ (show 5<=sizeLine+2 by decide)
 refine wpAny_pure ?_
 simp only [Heap.size_push]
 exact hR
theorem ur {l1 l2:Addr}{xs ys:Array Value}{Q:Value->Shared->Prop}(h1:s.heap.IsList l1 xs)(h2:s.heap.IsList l2 ys)
  (k:Q (.ref (s.heap.objs.size+4)) { s with heap:=gj s.heap l1 l2 s.heap.objs.size }) :
  wpAny (model prog w) A (call (Value.type "zip") [.ref l1,.ref l2]) Q E s:=by
 refine callType_newIn F.called_zip zj rfl (F.newCall_zip_2 _ _) (fun obj=>?_) F.entry_zip_new pE ⟨⟨xs,ys,h1,h2⟩,?_,k⟩
 .exact F.args_object_init_3 _ _ _
 refine ⟨_,Heap.get?_push_at ?_ rfl,rfl⟩
 simp only [Heap.size_push]
end
def Itz (l1 l2:Addr):It :=
  ⟨fun i H=>∃ xs ys x y,H l1=some (.lst xs)/\H l2=some (.lst ys)/\xs[i]?=some x/\ys[i]?=some y,
   fun i H v H'=>∃ T x y,v=.ref T/\H T=none/\H'=upd H T (.tup [x,y])/\∀xs ys,H l1=some (.lst xs)->H l2=some (.lst ys)->xs[i]?=some x/\ys[i]?=some y,
   fun i H=>∃ xs ys,H l1=some (.lst xs)/\H l2=some (.lst ys)/\min xs.length ys.length=i⟩
def tnZ (l1 l2 z TI TO i1 i2:Addr)(i:Nat)(h:Heap):Prop :=
 IsZip h z TI TO .none/\IsPair h TI (.ref i1) (.ref i2)/\(∃ a b,IsPair h TO a b)/\h.IsListIter i1 l1 i/\h.IsListIter i2 l2 i
theorem rq {P:Program}{w:World}{K:PySem.W.Frag}{elts:List Expr}{kt:Nat}{pt:Pos}{l1 l2 z TI TO i1 i2:Addr}(D:ZipApart z TI TO i1 i2 l1 l2) :
  oR P w K (.Tuple elts kt pt) (Itz l1 l2) [z,TI,TO,i1,i2] z (tnZ l1 l2 z TI TO i1 i2) where
 mem:=by simp
 obj:=fun i h ⟨a,b,⟨c1,c2,c⟩,d,e⟩ x hx=>by
  simp only [List.mem_cons,List.not_mem_nil,or_false] at hx
  rcases hx with q | q | q | q | q
  .rw [q];exact ⟨_,a,fun v y=>by cases y⟩
  .rw [q];exact ⟨_,b,fun v y=>by cases y⟩
  .rw [q];exact ⟨_,c,fun v y=>by cases y⟩
  .rw [q];obtain ⟨o,e1,_,dd⟩:=d;exact ⟨o,e1,fun v y=>by rw [dd] at y;cases y⟩
  .rw [q];obtain ⟨o,e1,_,dd⟩:=e;exact ⟨o,e1,fun v y=>by rw [dd] at y;cases y⟩
 keep:=fun i h h' ⟨a,b,⟨c1,c2,c⟩,d,e⟩ k=>⟨k z zl _ a,k TI zl _ b,⟨c1,c2,k TO zl _ c⟩,d.at fun o q=>k i1 zl o q,e.at fun o q=>k i2 zl o q⟩
 item:=by
  intro X hP hw hK hc i pins s σ H E I hf st hg
  subst hP hw hK
  obtain ⟨xs,ys,x,y,hx,hy,ex,ey⟩:=hg
  obtain ⟨z1,its1,n1,r1,_,e1⟩:=I.lstM hx
  obtain ⟨z2,its2,n2,r2,_,e2⟩:=I.lstM hy
  obtain ⟨u,hu,ru⟩:=r1.get ex
  obtain ⟨v,hv,rv⟩:=r2.get ey
  have W:=WalksT.zip2 (prog:=X.prog) (w:=X.w) (A:=X.A) (I.ok.hd hc) z TI TO i1 i2 l1 l2 D its1.toArray its2.toArray
  have L1:∀{h':Heap},h'.get? l1=some { cls:=.type "list",data:=.seq its1.toArray n1 }->h'.IsList l1 its1.toArray:=fun q=>⟨_,q,rfl,_,rfl⟩
  have L2':∀{h':Heap},h'.get? l2=some { cls:=.type "list",data:=.seq its2.toArray n2 }->h'.IsList l2 its2.toArray:=fun q=>⟨_,q,rfl,_,rfl⟩
  obtain ⟨sa,sb,sc,sd,se⟩:=st
  have nH:∀b∈[z,TO,i1,i2],H b=none:=fun b hb=>(hf b (by
   simp only [List.mem_cons,List.not_mem_nil,or_false] at hb ⊢
   rcases hb with q | q | q | q <;> simp [q])).1
  have li1:i<its1.length:=(List.getElem?_eq_some_iff.mp hu).1
  have li2:i<its2.length:=(List.getElem?_eq_some_iff.mp hv).1
  refine W.item i s _ _ (by simp only [List.size_toArray];lia) ⟨sa,sb,sc,sd,se,L1 e1,L2' e2⟩ fun T vals h1 tk hp hT hIs hMid kp=>?_
  obtain ⟨u',v',hu',hv',ev⟩:=hp
  rw [List.getElem?_toArray,hu] at hu'
  rw [List.getElem?_toArray,hv] at hv'
  cases hu'
  cases hv'
  subst ev
  refine ⟨.ref T,rfl,?_⟩
  have nT:=W.apart i T h1 hMid
  refine W.go elts kt pt i T _ _ _ hMid fun h2 st2 kp2=>?_
  have hTn:H T=none:=I.hok.fresh hT
  have kk:∀b o,b∉[z,TO,i1,i2]->s.heap.get? b=some o->h2.get? b=some o:=fun b o nb q=>kp2 b o nb (kp b o nb q)
  have hT2:h2.IsTuple T #[u,v]:=by
   obtain ⟨o,q,r⟩:=hIs
   exact ⟨o,kp2 T o nT q,r⟩
  have ltT:∀b o,s.heap.get? b=some o->b≠T:=fun b o q=>Nat.ne_of_lt (Nat.lt_of_lt_of_le (Heap.lt_size q) hT)
  refine ⟨.ref T,upd H T (.tup [x,y]),?_,rfl,⟨T,x,y,rfl,hTn,rfl,fun xs' ys' hx' hy'=>?_⟩,⟨st2.1,st2.2.1,st2.2.2.1,st2.2.2.2.1,st2.2.2.2.2.1⟩,fun b hb=>?_⟩
  .refine Inv.step (s:=s) (t':=tk) (ch:=[z,TO,i1,i2]) (g':=s.gens) (d':=s.drawn) I (fun b hb=>?_) (fun b o _ _ hc e _=>kk b o hc e) (fun b o _ _ hc e _=>⟨o.slots,kk b o hc e⟩) (fun b o _ e n=>?_) (fun b o hc e=>⟨o,kk b o hc e⟩)
    (fun b l e=>by rw [ak (am e hTn)];exact e) (fun b o l e=>by rw [ak (am e hTn)];exact e) (fun b ps e=>⟨#[],by rw [ak (am e hTn),e];simp⟩) (fun m hm=>?_) (fun b q e=>?_) I.bare
   .obtain ⟨f0,f1,f2,f3,f4,f5⟩:=hf b (by
     simp only [List.mem_cons,List.not_mem_nil,or_false] at hb ⊢
     rcases hb with q | q | q | q <;> simp [q])
    exact ⟨f3,f1,f4,f5⟩
   .rw [ak (ltT b o e)];exact n
   .obtain ⟨o,es,ep,ho,r⟩:=hm
    refine ⟨o,es,ep,kk _ o (fun z'=>?_) ho,r⟩
    exact (hf X.env.locals (by
     simp only [List.mem_cons,List.not_mem_nil,or_false] at z' ⊢
     rcases z' with q | q | q | q <;> simp [q])).2.1 rfl
   .by_cases hb:b=T
    .subst hb
     rw [af] at e
     cases e
     exact ⟨sz2,[u,v],.cons ru (.cons rv .nil),hT2⟩
    .rw [ak hb] at e
     refine (I.hok b q e).stay (fun c ob hc r=>kk c ob (fun z'=>?_) r) (fun c r=>by rw [ak (am r hTn)];exact r) fun c l r=>by rw [ak (am r hTn)];exact r
     have:=nH c z'
     rcases hc with hc | hc
     .rw [hc,e] at this;cases this
     .rw [hc] at this;cases this
  .rw [hx] at hx'
   rw [hy] at hy'
   cases hx'
   cases hy'
   exact ⟨ex,ey⟩
  .have hbn:=(hf b hb).1
   obtain ⟨o,q,_⟩:∃ o,s.heap.get? b=some o/\True:=by
    simp only [List.mem_cons,List.not_mem_nil,or_false] at hb
    rcases hb with q | q | q | q | q
    .rw [q];exact ⟨_,sa,trivial⟩
    .rw [q];exact ⟨_,sb,trivial⟩
    .rw [q];obtain ⟨_,_,sc⟩:=sc;exact ⟨_,sc,trivial⟩
    .rw [q];obtain ⟨o,e1,_⟩:=sd;exact ⟨o,e1,trivial⟩
    .rw [q];obtain ⟨o,e1,_⟩:=se;exact ⟨o,e1,trivial⟩
   rw [ak (ltT b o q)]
   exact hbn
 done:=by
  intro X hP hw hK hc i pins s σ H E I hf st hg
  subst hP hw hK
  obtain ⟨xs,ys,hx,hy,em⟩:=hg
  obtain ⟨z1,its1,n1,r1,lx,e1⟩:=I.lstM hx
  obtain ⟨z2,its2,n2,r2,ly,e2⟩:=I.lstM hy
  have W:=WalksT.zip2 (prog:=X.prog) (w:=X.w) (A:=X.A) (I.ok.hd hc) z TI TO i1 i2 l1 l2 D its1.toArray its2.toArray
  obtain ⟨sa,sb,sc,sd,se⟩:=st
  have en:min its1.toArray.size its2.toArray.size=i:=by simp only [List.size_toArray];lia
  refine W.done s _ _ (by rw [en];exact ⟨sa,sb,sc,sd,se,⟨_,e1,rfl,_,rfl⟩,⟨_,e2,rfl,_,rfl⟩⟩) fun h1 tk kp=>⟨rfl,?_⟩
  have nH:∀b∈[z,TO,i1,i2],H b=none:=fun b hb=>(hf b (by
   simp only [List.mem_cons,List.not_mem_nil,or_false] at hb ⊢
   rcases hb with q | q | q | q <;> simp [q])).1
  refine Inv.step (s:=s) (t':=tk) (ch:=[z,TO,i1,i2]) (g':=s.gens) (d':=s.drawn) I (fun b hb=>?_) (fun b o _ _ hc e _=>kp b o hc e) (fun b o _ _ hc e _=>⟨o.slots,kp b o hc e⟩) (fun b o _ e n=>n) (fun b o hc e=>⟨o,kp b o hc e⟩)
    (fun b l e=>e) (fun b o l e=>e) (fun b ps e=>⟨#[],by rw [e];simp⟩) (fun m hm=>?_) (fun b q e=>?_) I.bare
  .obtain ⟨f0,f1,f2,f3,f4,f5⟩:=hf b (by
    simp only [List.mem_cons,List.not_mem_nil,or_false] at hb ⊢
    rcases hb with q | q | q | q <;> simp [q])
   exact ⟨f3,f1,f4,f5⟩
  .obtain ⟨o,es,ep,ho,r⟩:=hm
   refine ⟨o,es,ep,kp _ o (fun z'=>?_) ho,r⟩
   exact (hf X.env.locals (by
    simp only [List.mem_cons,List.not_mem_nil,or_false] at z' ⊢
    rcases z' with q | q | q | q <;> simp [q])).2.1 rfl
  .refine (I.hok b q e).stay (fun c ob hc r=>kp c ob (fun z'=>?_) r) (fun c r=>r) fun c l r=>r
   have:=nH c z'
   rcases hc with hc | hc
   .rw [hc,e] at this;cases this
   .rw [hc] at this;cases this
 self:=fun A i s Q E st h=>wpAny_pyIter_zip st.1 h
section
variable {X:Cx}
def yM (ta:TA):TI:=fun σ H R=>ta σ H fun vs H1=>∃ (l1 l2:Addr) (xs ys:List V),vs=[.ref l1,.ref l2]/\H1 l1=some (.lst xs)/\H1 l2=some (.lst ys)/\R (Itz l1 l2) H1
theorem wo {a b:Expr}{ta:TA}{p pos:Pos}{elts:List Expr}{kt:Nat}{pt:Pos}(hg:Gl X "zip")(hm:X.mg "zip"=none)(ha:PA X [a,b] ta)(hs:starEach [a,b] X.env=[(false,eval a X.env),(false,eval b X.env)]:=by rfl)(hs2:starEach [b] X.env=[(false,eval b X.env)]:=by rfl) :
  PI X (.Tuple elts kt pt) (.Call (.Name "zip" p) [a,b] [] pos) (yM ta):=by
 intro pins s σ H R I h
 refine Call_ (fQ I hg hm boot_zip (PyProof.Rows.callWith_type1 (thn (ha pos pins s σ H _ I h) fun us s1 ⟨vs,H1,I1,r1,q1⟩=>?_) (by rw [hs,hs2]) (by rw [hs2];rfl)))
 obtain ⟨l1,l2,xs,ys,e,h1,h2,q⟩:=q1
 subst e
 cases r1 with
 | cons r rr =>
  cases rr with
  | cons r' rr =>
   cases rr
   cases r
   cases r'
   obtain ⟨z1,its1,n1,rv1,_,e1⟩:=I1.lstM h1
   obtain ⟨z2,its2,n2,rv2,_,e2⟩:=I1.lstM h2
   refine ur (xs:=its1.toArray) (ys:=its2.toArray) ⟨_,e1,rfl,_,rfl⟩ ⟨_,e2,rfl,_,rfl⟩ ?_
   have lt1:=Heap.lt_size e1
   have lt2:=Heap.lt_size e2
   generalize en:s1.heap.objs.size=n at lt1 lt2 ⊢
   have g:∀{h:Heap} {o:Obj} {m:Addr},m=h.objs.size->o.isFreed=false->(h.push o).get? m=some o:=fun e f=>Heap.get?_push_at e f
   have kp:∀b o,s1.heap.get? b=some o->(gj s1.heap l1 l2 n).get? b=some o:=fun b o e=>Heap.get?_push_of_some _ (Heap.get?_push_of_some _ (Heap.get?_push_of_some _ (Heap.get?_push_of_some _ (Heap.get?_push_of_some _ e))))
   have st:tnZ l1 l2 (n+4) (n+2) (n+3) n (n+1) 0 (gj s1.heap l1 l2 n):=by
    refine ⟨g (by simp only [Heap.size_push,en]) rfl,Heap.get?_push_of_some _ (Heap.get?_push_of_some _ (g (by simp only [Heap.size_push,en]) rfl)),⟨_,_,Heap.get?_push_of_some _ (g (by simp only [Heap.size_push,en]) rfl)⟩,⟨_,Heap.get?_push_of_some _ (Heap.get?_push_of_some _ (Heap.get?_push_of_some _ (Heap.get?_push_of_some _ (g en.symm rfl)))),rfl,rfl⟩,⟨_,Heap.get?_push_of_some _ (Heap.get?_push_of_some _ (Heap.get?_push_of_some _ (g (by simp only [Heap.size_push,en]) rfl))),rfl,rfl⟩⟩
   have D:ZipApart (n+4) (n+2) (n+3) n (n+1) l1 l2:=by
    have k1:@LT.lt Nat _ l1 n:=lt1
    have k2:@LT.lt Nat _ l2 n:=lt2
    have f:∀a b:Nat,a≠b->@Ne Addr a b:=fun _ _ h=>h
    constructor <;> (refine f _ _ ?_;lia)
   refine wpAny_pyIter_zip st.1 ?_
   refine ⟨n+4,[n+4,n+2,n+3,n,n+1],_,_,H1,rfl,I1.kept (t':=s1.toks) kp,rq D,st,fun b hb=>?_,q⟩
   have hb':s1.heap.objs.size<=b:=by
    simp only [List.mem_cons,List.not_mem_nil,or_false] at hb
    rw [en]
    rcases hb with z | z | z | z | z <;> rw [z]
    .exact Nat.le_add_right n 4
    .exact Nat.le_add_right n 2
    .exact Nat.le_add_right n 3
    .exact Nat.le_refl n
    .exact Nat.le_add_right n 1
   exact I1.fpOk hb' (I1.hok.fresh hb')
theorem wz {a b:Expr}{ta:TA}{p pos:Pos}{elts:List Expr}{kt:Nat}{pt:Pos}(hg:Gl X "zip")(hm:X.mg "zip"=none)(ha:QA X [a,b] ta)(hs:starEach [a,b] X.env=[(false,eval a X.env),(false,eval b X.env)]:=by rfl)(hs2:starEach [b] X.env=[(false,eval b X.env)]:=by rfl) :
  QI X (.Tuple elts kt pt) (.Call (.Name "zip" p) [a,b] [] pos) (yM ta):=.mk (wo hg hm ha.to hs hs2)
end
theorem uk {l1 l2:Addr}{n:Nat}{g:TG}{tb:TS}{D:eZ}{σ:St}{H:Hp}(Pv:Nat->St->Hp->Prop)(h0:Pv 0 σ H)
  (hl:∀i σ H,Pv i σ H->∃ xs ys,H l1=some (.lst xs)/\H l2=some (.lst ys)/\xs.length=n/\ys.length=n)
  (hs:∀i σ H xs ys x y T,i<n->Pv i σ H->H l1=some (.lst xs)->H l2=some (.lst ys)->xs[i]?=some x->ys[i]?=some y->H T=none->g (.ref T) σ (upd H T (.tup [x,y])) fun σ2 H2=>tb { D with nx:=fun σ' H'=>Pv (i+1) σ' H',ct:=fun σ' H'=>Pv (i+1) σ' H',bk:=D.nx } σ2 H2)
  (hd:∀σ H,Pv n σ H->D.nx σ H) :
  ∃ W:Nat->Nat->St->Hp->Prop,(∃ m,W 0 m σ H)/\∀i m σ H,W i m σ H ->
   ((Itz l1 l2).stop i H/\D.nx σ H)∨((Itz l1 l2).go i H/\∃ N:St->Hp->Prop,(∀σ' H',N σ' H'->∃ m',m'<m/\W (i+1) m' σ' H')/\∀x H',(Itz l1 l2).yld i H x H'->g x σ H' fun σ2 H2=>tb { D with nx:=N,ct:=N,bk:=D.nx } σ2 H2):=by
 refine ⟨fun i m σ H=>m=n-i/\i<=n/\Pv i σ H,⟨n,zl,Nat.zero_le _,h0⟩,?_⟩
 rintro i m σ H ⟨rfl,hi,p⟩
 obtain ⟨xs,ys,h1,h2,e1,e2⟩:=hl i σ H p
 by_cases hlt:i<n
 .have ex:xs[i]?=some xs[i]:=List.getElem?_eq_getElem zk
  have ey:ys[i]?=some ys[i]:=List.getElem?_eq_getElem zk
  refine .inr ⟨⟨xs,ys,_,_,h1,h2,ex,ey⟩,Pv (i+1),fun σ' H' p'=>⟨n-(i+1),zk,rfl,hlt,p'⟩,?_⟩
  rintro x H' ⟨T,a,b,rfl,hT,rfl,ab⟩
  obtain ⟨ea,eb⟩:=ab xs ys h1 h2
  exact hs i σ H xs ys a b T hlt p h1 h2 ea eb hT
 have e:i=n:=by lia
 subst e
 exact .inl ⟨⟨xs,ys,h1,h2,zk⟩,hd σ H p⟩
end L2
namespace L2
open PySem
section
variable {T:List (Str×En)}{n m:Str}{b:En}
theorem mZ:m∈(Gm.dput T n b).map (·.1)↔m=n∨m∈T.map (·.1):=by
 rw [Gm.dput_keys]
 by_cases h:n∈T.map (·.1)
 .rw [if_pos h]
  exact ⟨.inr,fun z=>z.elim (fun e=>by rw [e];exact h) id⟩
 rw [if_neg h,List.mem_append,List.mem_singleton]
 exact Or.comm
theorem js:m∈(Gm.ddel T n).map (·.1)↔m≠n/\m∈T.map (·.1):=by
 rw [List.mem_map,List.mem_map]
 constructor
 .rintro ⟨⟨a,c⟩,h,rfl⟩
  exact ⟨(Gm.ddel_mem.mp h).1,⟨a,c⟩,(Gm.ddel_mem.mp h).2,rfl⟩
 rintro ⟨h1,⟨a,c⟩,h2,rfl⟩
 exact ⟨⟨a,c⟩,Gm.ddel_mem.mpr ⟨h1,h2⟩,rfl⟩
end
structure Has (z:Int)(ds:List Deed)(S:List Str):Prop where
 fits:Fits z ds
 keys:∀n,n∈(bu z ds).there.map (·.1)↔n∈S
section
variable {z:Int}{ds:List Deed}{S:List Str}{n:Str}{w:Int}
theorem Has.nil:Has z [] []:=⟨.nil,fun _=>⟨fun h=>(nomatch h),fun h=>(nomatch h)⟩⟩
theorem Has.is (h:Has z ds S):Gm.dget (bu z ds).there n≠none↔n∈S:=by
 rw [<-h.keys,ne_eq,Gm.dget_none,Decidable.not_not]
theorem Has.put (h:Has z ds S)(hn:n∉S):Has z (ds++[.put n w]) (S++[n]):=by
 have f:Deed.fit (bu z ds) (.put n w):=Classical.byContradiction fun z=>hn (h.is.mp z)
 refine ⟨h.fits.snoc f,fun m=>?_⟩
 rw [bj]
 show m∈(Gm.sweep slt _).there.map (·.1)↔_
 rw [Gm.sweep_there]
 show m∈(Gm.dput _ n _).map (·.1)↔_
 rw [mZ,h.keys,List.mem_append,List.mem_singleton]
 exact Or.comm
theorem Has.drop (h:Has z ds (n::S))(hn:n∉S):Has z (ds++[.drop n]) S:=by
 have f:Deed.fit (bu z ds) (.drop n):=h.is.mpr List.mem_cons_self
 refine ⟨h.fits.snoc f,fun m=>?_⟩
 rw [bj]
 show m∈(Gm.sweep slt _).there.map (·.1)↔_
 rw [Gm.sweep_there]
 show m∈(Gm.ddel _ n).map (·.1)↔_
 rw [js,h.keys,List.mem_cons]
 constructor
 .rintro ⟨h1,h2 | h2⟩
  .exact absurd h2 h1
  .exact h2
 intro h2
 exact ⟨fun e=>hn (e▸h2),.inr h2⟩
theorem Has.change (h:Has z ds S)(hn:n∈S):Has z (ds++[.change n w]) S:=by
 have f:Deed.fit (bu z ds) (.change n w):=h.is.mpr hn
 refine ⟨h.fits.snoc f,fun m=>?_⟩
 rw [bj]
 show m∈(Gm.sweep slt _).there.map (·.1)↔_
 rw [Gm.sweep_there]
 show m∈(Gm.dput (Gm.ddel _ n) n _).map (·.1)↔_
 rw [mZ,js,h.keys]
 constructor
 .rintro (h1 | ⟨_,h2⟩)
  .rw [h1];exact hn
  .exact h2
 intro h2
 by_cases e:m=n
 .exact .inl e
 exact .inr ⟨e,h2⟩
theorem Has.ne (h:Has z ds S)(hS:S≠[]):(bu z ds).there≠[]:=fun e=>by
 cases S with
 | nil=>exact hS rfl
 | cons a S =>
  have:=(h.keys a).mpr List.mem_cons_self
  rw [e] at this;cases this
theorem Has.least (h:Has z ds S)(hS:S≠[]):Has z (ds++[.least]) S:=by
 have f:Deed.fit (bu z ds) .least:=h.ne hS
 refine ⟨h.fits.snoc f,fun m=>?_⟩
 rw [bj]
 show m∈(Gm.leastL slt _).there.map (·.1)↔_
 rw [(Gm.least_ok slt_slo h.fits.inv (h.ne hS)).there]
 exact h.keys m
theorem Has.take (h:Has z ds S)(hS:S≠[])(nd:S.Nodup):∃ S',Has z (ds++[.take]) S'/\S'.length+1=S.length/\S'.Nodup:=by
 have ne:=h.ne hS
 have f:Deed.fit (bu z ds) .take:=ne
 have lo:=Gm.least_ok slt_slo h.fits.inv ne
 have li:=(Gm.least_is slt_slo h.fits.inv ne)
 generalize hk:(Hg.g (Gm.leastL slt (bu z ds)).row 0).n=k at li
 have mk:k∈S:=by
  have:=(jX h.fits.inv ne).mem
  rw [<-h.keys]
  obtain ⟨p,hp,e⟩:=List.mem_map.mp this
  have e1:p.1=(hd (bu z ds)).n:=congrArg Prod.fst e
  have e2:(hd (bu z ds)).n=k:=hk
  exact List.mem_map.mpr ⟨p,hp,e1.trans e2⟩
 refine ⟨S.erase k,⟨h.fits.snoc f,fun m=>?_⟩,?_,nd.erase k⟩
 .rw [bj]
  show m∈(Gm.takeL slt _).there.map (·.1)↔_
  rw [Gm.take_there,lo.there,js,h.keys,hk,nd.mem_erase_iff]
 rw [List.length_erase_of_mem mk]
 have:=List.length_pos_of_mem mk
 lia
end
theorem Fits.take {z:Int}{ds:List Deed}(h:Fits z ds)(m:Nat):Fits z (ds.take m):=by
 induction h with
 | nil=>rw [List.take_nil];exact .nil
 | @snoc ds d h f ih =>
  by_cases z:m<=ds.length
  .rw [List.take_append_of_le_length z];exact ih
  .rw [List.take_of_length_le (by rw [List.length_append];show ds.length+1<=m;lia)]
   exact h.snoc f
end L2
namespace L2
open PySem PySem.Spec PySem.W PySem.Calls PyProof.Rows
theorem kZ {B h h':Heap}{l:List Env}{e:Addr}{cls a0:Value}(R:Heap.FlyingC B l e cls a0 h)(k:∀b o,h.get? b=some o->h'.get? b=some o):Heap.FlyingC B l e cls a0 h':=by
 obtain ⟨f1,f2,f3,oe,vs,T,oT,ts,he,hc,hd,h1,hn,hne,hT,hdT,h3⟩:=R
 exact ⟨fun b o q=>k b o (f1 b o q),f2,f3.of_keeps fun b o q _=>⟨o,k b o q,rfl⟩,oe,vs,T,oT,ts,k _ _ he,hc,hd,h1,hn,hne,k _ _ hT,hdT,h3⟩
section
variable {X:Cx}
def yT (tb:TSX)(K:W.Frag)(C1 C2:Addr)(ts:TS):TS:=fun D σ H=>tb D (fun c σ' H'=>∃ C:Addr,c=.ref C/\W.exmAny K (.ref C) [.ref C1,.ref C2]=some true/\ts D σ' H') σ H
theorem yH {x1 x2:Str}{kk:Nat}{p1 p2 tp hpos pos:Pos}{body:List Stmt}{tb:TSX}{C1 C2:Addr}{b₀:Stmt}{suite:List Stmt}{ts:TS}(hb:yK X body tb)(hS:X.stack=X.env::X.outer)(hF:X.env.frame=some X.env.locals)
  (hg1:Gl X x1) (hm1:X.mg x1=some (.ref C1)) (hg2:Gl X x2) (hm2:X.mg x2=some (.ref C2)) (hs:∀e,PSs (X.inX e).nox (b₀::suite) ts) (hd1:(x1 == ("__debug__":Str))=false:=by decide) (hd2:(x2 == ("__debug__":Str))=false:=by decide) :
  PS X (.Try body [.ExceptHandler (some (.Tuple [.Name x1 p1,.Name x2 p2] kk tp)) none (b₀::suite) hpos] [] [] pos) (yT tb X.K C1 C2 ts):=by
 intro pins s σ H D I h
 refine wpAny_Try_except (wpAny_mono (hb pins s σ H D _ I h) (fun f s1 hf=>?_) fun v s1 hx=>?_)
 .cases f with
  | next=>exact wpAny_execs_nil hf
  | ret v=>exact hf
  | brk=>exact hf
  | cont=>exact hf
 obtain ⟨σ',e,C,H',B,a0,rfl,fl,kp,kt,hokB,_,_,⟨C',eC,hx,q⟩⟩:=hx
 cases eC
 rw [hS] at fl
 have hfr:X.A.frames=some (X.env::X.outer):=by rw [I.ok.frames,hS]
 refine gh hfr hF fl fun h4 held up4=>?_
 refine jo held fun h5 fl5 up5=>?_
 have I5:=kp h5 s1.toks fl5.1 (up4.trans up5)
 obtain ⟨ob,hob,hobc⟩:=fl5.there
 refine wpAny_handleBy_cons (codeAny_handlers_test (wpAny_Tuple ?_)) (by intro q;cases q)
 refine wpAny_items_cons (cR (I5.inX e) hg1 hm1 ?_ hd1)
 refine wpAny_items_cons (cR (I5.inX e) hg2 hm2 ?_ hd2)
 refine wpAny_items_nil ⟨by size_fits,?_⟩
 have kh:∀q o,h5.get? q=some o->(h5.push { cls:=.type "tuple",data:=.seq [Value.ref C1,.ref C2].toArray }).get? q=some o:=fun _ _ z=>Heap.get?_push_of_some _ z
 have LT:Looks (model X.prog X.w) h5 (typeOf (.ref e)) (.ref C):=by rw [<-hobc];exact (Looks.ld hob).andThen .now
 refine (W.exm_tup2 (I5.kIn.keeps kh) (LT.keeps kh) (Heap.get?_push_size h5 rfl) hx).here (codeAny_handlers_suite ?_)
 refine iX (kZ fl5 kh) fun h6 fl6 up6=>?_
 have I6:=kp h6 s1.toks fl6.1 ((up4.trans up5).trans ((Heap.UpToSlots.of_keeps kh).trans up6))
 refine wpAny_mono (hs e pins _ _ _ _ ((I6.inX e).wish _) q) (fun f s8 hf=>?_) fun _ _ z=>False.elim z
 have hd0:=I.ok.hd
 cases f with
 | next =>
  obtain ⟨σ8,H8,I8,q8⟩:=hf
  exact ⟨_,_,I8.unwish.outX hd0,q8⟩
 | ret u =>
  obtain ⟨v,σ8,H8,I8,r8,q8⟩:=hf
  exact ⟨v,_,_,I8.unwish.outX hd0,r8,q8⟩
 | brk =>
  obtain ⟨σ8,H8,I8,q8⟩:=hf
  exact ⟨_,_,I8.unwish.outX hd0,q8⟩
 | cont =>
  obtain ⟨σ8,H8,I8,q8⟩:=hf
  exact ⟨_,_,I8.unwish.outX hd0,q8⟩
end
end L2
namespace L2
open PySem PySem.Spec PyProof.Rows
open PySem.SeqAt (EqAt RcAt RcNeAt)
section
variable {X:Cx}
theorem pM (hc:X.calm=true):bQ X (.builtin "all") (fun xs H Q=>∃ (p:Addr) (bs:List Bool),xs=[.ref p]/\SqL X.K H p (bs.map V.bl)/\Q (.bl (bs.all id)) H):=by
 intro pins s σ H xs us Q I r h
 obtain ⟨p,bs,rfl,hp,q⟩:=h
 obtain ⟨u,rfl,rx⟩:=dh r
 cases rx
 obtain ⟨its,rv,pl,hz⟩:=I.list hp
 have hl:=pl.isList
 have hlt:p<s.heap.objs.size:=by obtain ⟨_,e,_⟩:=hl;exact Heap.lt_size e
 have hb:∀(i:Nat) (v:Value),its[i]?=some v->∃ b,bs[i]?=some b/\v=.bool b:=fun i v e=>by
  have hi:=(List.getElem?_eq_some_iff.mp e).1
  obtain ⟨x,ex,rx⟩:=rv.at hi
  rw [(List.getElem?_eq_some_iff.mp e).2] at rx
  rw [List.getElem?_map] at ex
  cases e2:bs[i]? with
  | none=>rw [e2] at ex;cases ex
  | some b=>rw [e2] at ex;cases ex;exact ⟨b,rfl,rx⟩
 have ln:its.length=bs.length:=by rw [<-rv.length,List.length_map]
 refine call_all_walk (wpAny_pyIter_list hl ?_)
 refine ⟨s.heap.objs.size,[s.heap.objs.size,p],[s.heap.objs.size],its.toArray.size,_,_,fun i=>(bs[i]?).getD false,rfl,Walks.list (A:=X.A.in1) (by simp [I.ok.hd hc]) _ p (Nat.ne_of_lt hlt) its.toArray,
  ⟨⟨_,Heap.get?_push_size _ rfl,rfl,rfl⟩,hl.push _⟩,fun i v s' Q' E' hP hQ=>?_,fun h' tk hk=>?_⟩
 .obtain ⟨b,e,rfl⟩:=hb i v (by simpa using hP)
  simp only [e,Option.getD_some] at hQ
  exact wpAny_truthy_bool hQ
 have e:((List.range its.toArray.size).all fun i=>(bs[i]?).getD false)=bs.all id:=by
  rw [List.size_toArray,ln,Bool.eq_iff_iff,List.all_eq_true,List.all_eq_true]
  constructor
  .intro h b hb
   obtain ⟨i,hi,e2⟩:=List.getElem_of_mem hb
   have:=h i (List.mem_range.mpr hi)
   rw [List.getElem?_eq_getElem hi,e2] at this
   exact this
  .intro h i hi
   have hi':=List.mem_range.mp hi
   rw [List.getElem?_eq_getElem hi']
   exact h _ (List.getElem_mem hi')
 rw [e]
 refine ⟨.bl _,H,I.kept (t':=tk) (fun b o e=>?_),rfl,q⟩
 exact hk b o (fun z=>by rw [zm z] at e;exact Nat.lt_irrefl _ (Heap.lt_size e)) (Heap.get?_push_of_some _ e)
def RowEq (K:W.Frag)(H:Hp)(u v:V)(b:Bool):Prop:=∃ (p q:Addr) (d:V) (i j i' j':Int),u=.ref p/\v=.ref q/\okV d=true/\SqT K H p [d,.int i,.int j]/\SqT K H q [d,.int i',.int j']/\b=(decide (i=i')&&decide (j=j'))
theorem RowEq.at {pins:List (Addr×Obj)}{σ:St}{H:Hp}{s:Shared}(I:Inv X pins σ H s){x y:V}{b:Bool}(h:RowEq X.K H x y b){v u:Value}(A:Around)(rx:RelV x v)(ry:RelV y u)(hu:A.units+8<cLine):EqAt A s v u b:=by
 obtain ⟨p,q,d,i,j,i',j',rfl,rfl,ok,hp,hq,rfl⟩:=h
 cases rx
 cases ry
 obtain ⟨its,r,ht,_⟩:=I.tuple hp
 obtain ⟨its2,r2,ht2,_⟩:=I.tuple hq
 obtain ⟨u0,u1,u2,rfl,a0,a1,a2⟩:=j5 r
 obtain ⟨v0,v1,v2,rfl,b0,b1,b2⟩:=j5 r2
 have q0:=(Al.same (K:=X.K) (H:=H) (n:=1) ok).eqAt I A.in1 a0 b0 (by show A.units+1+1<cLine;lia)
 obtain ⟨t1,rfl⟩:=a1
 obtain ⟨t1',rfl⟩:=b1
 obtain ⟨t2,rfl⟩:=a2
 obtain ⟨t2',rfl⟩:=b2
 by_cases hpq:p=q
 .subst hpq
  obtain ⟨o1,g1,_,n1,d1⟩:=id ht
  obtain ⟨o2,g2,_,n2,d2⟩:=id ht2
  rw [g1] at g2
  cases g2
  rw [d1] at d2
  injection d2 with e _
  injection e with e
  injection e with _ e
  injection e with e1 e
  injection e with e2 _
  injection e1 with e1 _
  injection e2 with e2 _
  subst e1
  subst e2
  rw [show (decide (i=i)&&decide (j=j))=true by simp]
  exact EqAt.same _
 have z:=RcAt.tuples (e:=fun k=>if k=0 then true else if k=1 then (i == i') else (j == j')) ht ht2 (A:=A) zk (fun k h1 h2=>by
  match k,h1,h2 with
  | 0,_,_=>exact q0
  | 1,_,_=>exact EqAt.int_int (A:=A.in1) (s:=s) i t1 i' t1'
  | 2,_,_=>exact EqAt.int_int (A:=A.in1) (s:=s) j t2 j' t2'
  | k+3,h1,_=>exact absurd h1 zl)
 have e:((List.range (min [u0,Value.int i t1,Value.int j t2].toArray.size [v0,Value.int i' t1',Value.int j' t2'].toArray.size)).all (fun k=>if k=0 then true else if k=1 then (i == i') else (j == j'))&&[u0,Value.int i t1,Value.int j t2].toArray.size == [v0,Value.int i' t1',Value.int j' t2'].toArray.size)=(decide (i=i')&&decide (j=j')):=by
  show ((true&&((i == i')&&((j == j')&&true)))&&true)=_
  simp only [Bool.true_and,Bool.and_true]
  rfl
 rw [e] at z
 exact EqAt.of_refs hpq z
theorem rC (hu:X.A.units+100<cLine):OpR X (compareOp .Eq) (fun x y H Q=>∃ (a b:Addr) (xs ys:List V) (e:Nat->Bool),x=.ref a/\y=.ref b/\SqT X.K H a xs/\SqT X.K H b ys/\xs.length=ys.length/\(∀(i:Nat) (u v:V),xs[i]?=some u->ys[i]?=some v->RowEq X.K H u v (e i))/\Q (.bl ((List.range xs.length).all e)) H):=by
 intro pins s σ H x y v u Q I rx ry h
 obtain ⟨a,b,xs,ys,e,rfl,rfl,ha,hb,hl,al,q⟩:=h
 cases rx
 cases ry
 obtain ⟨its,r,ht,_⟩:=I.tuple ha
 obtain ⟨its2,r2,ht2,_⟩:=I.tuple hb
 have e1:=r.length
 have e2:=r2.length
 refine SeqAt.eq_tupleAt (e:=e) ht ht2 zk (fun j h1 h2=>?_) ⟨.bl ((List.range xs.length).all e),H,I,?_,q⟩
 .obtain ⟨x,ex,rx⟩:=r.at (j:=j) (by simpa using h1)
  obtain ⟨y,ey,ry⟩:=r2.at (j:=j) (by simpa using h2)
  have:=(al j x y ex ey).at I X.A.in1 rx ry (by show X.A.units+1+8<cLine;lia)
  simpa using this
 show Value.bool _=Value.bool _
 rw [List.size_toArray,List.size_toArray,<-e1,<-e2,hl,Nat.min_self,beq_self_eq_true,Bool.and_true]
end
end L2
namespace L2
open PySem PySem.Spec PyProof.Rows
section
variable {X:Cx}
theorem ir:MtM X "list.insert" (fun x vs H Q=>∃ (l:Addr) (xs:List V) (i:Int) (k:Nat) (y:V),x=.ref l/\vs=[.int i,y]/\i=(k:Int)/\H l=some (.lst xs)/\k<=xs.length/\xs.length<=1000/\Q .non (upd H l (.lst (xs.take k++y::xs.drop k)))):=by
 intro pins s σ H x vs v us Q I rx rv h
 obtain ⟨l,xs,i,k,y,rfl,rfl,ei,hH,hk,hx,q⟩:=h
 cases rx
 obtain ⟨u1,u2,rfl,⟨t,rfl⟩,ry⟩:=rK rv
 obtain ⟨z,its,n,r,hl,e⟩:=I.lstM hH
 have hkb:i<2 ^ 63:=Int.lt_of_le_of_lt (show i<=1000 by lia) zj
 have hf:Builtin.List.listFitsIndex i=true:=fitsIndex_both (Int.le_trans zj (show (0:Int)<=i by lia)) hkb
 have hz:its.toArray.size<=sizeLine:=by rw [List.size_toArray,<-hl];exact Nat.le_of_lt (aH hx)
 refine call_meets F.slot_list_insert ⟨_,e,rfl⟩ F.entry_list_insert (F.args_list_insert_3 _ _ _) (AutoSeq1.list_insert_list_int_val_1 l its.toArray n i t u2 (fun y=>by rw [hf] at y;cases y) hz) ⟨e,?_⟩
 refine ⟨.non,_,I.lset (its':=its.take k++u2::its.drop k) hH e ?_ ((r.take k).append (.cons ry (r.drop k))) ?_,rfl,q⟩
 .show (its.toArray.extract 0 (if i<0 then (i+(its.toArray.size:Int)).toNat else min i.toNat its.toArray.size)).push u2++its.toArray.extract (if i<0 then (i+(its.toArray.size:Int)).toNat else min i.toNat its.toArray.size)=_
  rw [if_neg zk,ei,Int.toNat_natCast,List.size_toArray,Nat.min_eq_left zk]
  apply Array.toList_inj.mp
  simp
  exact List.take_of_length_le zl
 rw [List.length_append,List.length_cons,List.length_take,List.length_drop]
 have:=aH (n:=1000) (Nat.le_refl _)
 lia
end
end L2
namespace L2
open PySem PySem.W
def Df (K:Frag)(x:Str)(st:Stmt)(f:Addr):Prop:=nsIn K mainGlobals x=some (some (.ref f))/\∃ fd,Fun K x x st f fd
def Mt (K:Frag)(C:Addr)(x q:Str)(st:Stmt)(f:Addr):Prop:=findIn K (.ref C) x=some (some (.ref f))/\isFn K (.ref f)=true/\∃ fd,Fun K x q st f fd
def Bs (K:Frag)(C:Addr)(x q:Str)(st:Stmt)(f:Addr):Prop:=findCls K (.ref C) (.type "type") x=some (.val (.ref f))/\∃ fd,Fun K x q st f fd
section
variable {K:Frag}{C f:Addr}{x q:Str}{st:Stmt}{fd:FuncData}{oc kV dc pm cd ct:Value}{od an:Option Addr}{sl:Array (Option Value)}
theorem dfI (a:nsIn K mainGlobals x=some (some (.ref f)))(l:K.lookup f=some ⟨oc,od,.func (fnOf x x (bO st) (bz st) (ao st) .none kV dc pm an cd ct),sl⟩)(c:codeIn K cd x=true)(k:keepIn K (.ref f)=true):Df K x st f:=⟨a,_,jn l c k⟩
theorem mtI (a:findIn K (.ref C) x=some (some (.ref f)))(i:isFn K (.ref f)=true)(l:K.lookup f=some ⟨oc,od,.func (fnOf x q (bO st) (bz st) (ao st) .none kV dc pm an cd ct),sl⟩)(c:codeIn K cd q=true)(k:keepIn K (.ref f)=true):Mt K C x q st f:=⟨a,i,_,jn l c k⟩
theorem bsI (a:findCls K (.ref C) (.type "type") x=some (.val (.ref f)))(l:K.lookup f=some ⟨oc,od,.func (fnOf x q (bO st) (bz st) (ao st) .none kV dc pm an cd ct),sl⟩)(c:codeIn K cd q=true)(k:keepIn K (.ref f)=true):Bs K C x q st f:=⟨a,_,jn l c k⟩
def Bd (x q:Str)(st:Stmt)(ps:List Str):Prop:=∀(kV doc pm:Value) (an:Option Addr) (cdv ct:Value) (us:List Value),us.length=ps.length->bindArgs (fnOf x q (bO st) (bz st) (ao st) .none kV doc pm an cdv ct) ⟨us,[]⟩=pure (ps.zip us)
theorem ln1 {P:List Value->Prop}(h:∀a,P [a])(us:List Value)(hl:us.length=1):P us:=by
 obtain ⟨a,rfl⟩:=List.length_eq_one_iff.mp hl
 exact h a
theorem lnS {P:List Value->Prop}{n:Nat}(h:∀a (us:List Value),us.length=n->P (a::us))(us:List Value)(hl:us.length=n+1):P us:=by
 cases us with
 | nil=>cases hl
 | cons a us=>exact h a us (Nat.succ.inj hl)
theorem Df.get {h:Heap}{mg:Str->Option Value}(d:Df K x st f)(X:K.In h)(G:h.Ns mainGlobals mg)(ps:List Str)(b:Bd x x st ps:=by first | exact (fun _ _ _ _ _ _=>ln1 fun _=>rfl) | exact (fun _ _ _ _ _ _=>lnS fun _=>ln1 fun _=>rfl) | exact (fun _ _ _ _ _ _=>lnS fun _=>lnS fun _=>ln1 fun _=>rfl) | exact (fun _ _ _ _ _ _=>lnS fun _=>lnS fun _=>lnS fun _=>ln1 fun _=>rfl)) :
  ∃ fd,Fun K x x st f fd/\Nm K mg x f fd ps:=by
 obtain ⟨a,fd,F⟩:=d
 exact ⟨fd,F,mg_of X G a,F.kp,F.binds b⟩
theorem Mt.get (d:Mt K C x q st f)(ps:List Str)(b:Bd x q st ps:=by first | exact (fun _ _ _ _ _ _=>ln1 fun _=>rfl) | exact (fun _ _ _ _ _ _=>lnS fun _=>ln1 fun _=>rfl) | exact (fun _ _ _ _ _ _=>lnS fun _=>lnS fun _=>ln1 fun _=>rfl) | exact (fun _ _ _ _ _ _=>lnS fun _=>lnS fun _=>lnS fun _=>ln1 fun _=>rfl)) :
  ∃ fd,Fun K x q st f fd/\Binds K fd ps []/\bP K C x f:=by
 obtain ⟨a,i,fd,F⟩:=d
 exact ⟨fd,F,F.binds b,a,i,F.kp⟩
theorem Bs.get (d:Bs K C x q st f)(ps:List Str)(ga:specialIn K (.ref C) "__getattribute__"=some (some (.builtin "type.__getattribute__")))(rd:readsIn K C (.type "type")=true)(b:Bd x q st ps:=by first | exact (fun _ _ _ _ _ _=>ln1 fun _=>rfl) | exact (fun _ _ _ _ _ _=>lnS fun _=>ln1 fun _=>rfl) | exact (fun _ _ _ _ _ _=>lnS fun _=>lnS fun _=>ln1 fun _=>rfl)) :
  ∃ fd,Fun K x q st f fd/\Binds K fd ps []/\ue K C (.type "type") x f:=by
 obtain ⟨a,fd,F⟩:=d
 exact ⟨fd,F,F.binds b,ga,rd,a,F.kp⟩
end
end L2
theorem Kx.fsc {N ps:List PySem.Str}{sc:PySem.Scope}(h:∀nd:N.Nodup,L2.FnScope N ps sc)(nd:N.Nodup:=by decide +kernel):L2.FnScope N ps sc:=h nd
namespace L2
open PySem
theorem Room.mo {a b:Nat}{A:Around}(h:Room b A)(hk:a<=b:=by decide):Room a A:=h.mono hk
theorem qst {X:Cx}{e:Expr}{te:TE}{pos:Pos}(i:Nat){x:Str}{pos':Pos}(hN:X.N.Nodup)(he:QE X e te)(hi:X.N[i]?=some x:=by rfl)(hx:Loc X.env.scope x:=by exact Or.inl rfl)(hs:swapsWith e (some (.Name x pos')) pos.line X.env=pure false:=by rfl)(hf:X.fn x=true∨X.env.scope.names.lookup x=some .local:=by first | exact .inl rfl | exact .inr rfl | assumption):QS X (.Assign [.Name x pos'] e pos) (lv te (dN i)):=ic hN hi hx he hs hf
section
variable {X:Cx}{e:Expr}{es:List Expr}{pos p:Pos}{x:Str}{t:TA}
theorem qcl {CX:CXT}{k k':Nat}{f:Addr}{fd:FuncData}{ps:List Str}{sp:Sp}{E:XK}(F:aA X.prog X.w X.K X.mg X.base CX k f fd ps sp)(hr:Room k' X.A)(D:Nm X.K X.mg x f fd ps)(hx:bM CX X E)(ha:QA X (e::es) t)(hk:k<=k':=by decide)(hg:Gl X x:=by rfl)(hdb:(x == ("__debug__":Str))=false:=by decide)
    (he:starEach (e::es) X.env=(false,eval e X.env)::starEach es X.env:=by rfl) (hpl:(backTo pos (starEach es X.env)).any (·.1)=false:=by rfl):QE X (.Call (.Name x p) (e::es) [] pos) (jP sp [] E t):=u9 F (hr.mono hk) hg D.m D.k D.b .nil hx ha hdb he hpl
theorem qcB {id:String}{r:List V->Hp->VK->Prop}(hc:bQ X (.builtin id) r)(hm:X.mg x=none)(ha:QA X (e::es) t)(hg:Gl X x:=by rfl)(hv:bootBuiltins x=some (.builtin id):=by decide +kernel)(hn:x≠"__name__":=by decide)(hdb:(x == ("__debug__":Str))=false:=by decide)
    (he:starEach (e::es) X.env=(false,eval e X.env)::starEach es X.env:=by rfl) (hpl:(backTo pos (starEach es X.env)).any (·.1)=false:=by rfl):QE X (.Call (.Name x p) (e::es) [] pos) (tCB r t):=jN hc hg hm hv ha hn hdb he hpl
theorem qcT {T:String}{r:List V->Hp->VK->Prop}(hc:bQ X (.type T) r)(hm:X.mg x=none)(ha:QA X (e::es) t)(hg:Gl X x:=by rfl)(hv:bootBuiltins x=some (.type T):=by decide +kernel)(hn:x≠"__name__":=by decide)(hdb:(x == ("__debug__":Str))=false:=by decide)
    (he:starEach (e::es) X.env=(false,eval e X.env)::starEach es X.env:=by rfl) (hpl:(backTo pos (starEach es X.env)).any (·.1)=false:=by rfl):QE X (.Call (.Name x p) (e::es) [] pos) (tCB r t):=pL hc hg hm hv ha hn hdb he hpl
end
theorem pix {b:Expr}(h:∀o i,subscripted b false o i=operate [o,i] (getItem o i):=by exact fun _ _=>rfl):∀o i,subscripted b false o i=operate [o,i] (getItem o i):=h
theorem yf {P:List Value->Prop}(h:∀a,P [a])(us:List Value)(hl:us.length=1):P us:=by
  obtain ⟨a,rfl⟩:=List.length_eq_one_iff.mp hl
  exact h a
theorem yz {P:List Value->Prop}(h:∀a b,P [a,b])(us:List Value)(hl:us.length=2):P us:=by
  cases us with
  | nil=>cases hl
  | cons a us=>exact yf (P:=fun t=>P (a::t)) (h a) us (Nat.succ.inj hl)
theorem yO {P:List Value->Prop}(h:∀a b c,P [a,b,c])(us:List Value)(hl:us.length=3):P us:=by
  cases us with
  | nil=>cases hl
  | cons a us=>exact yz (P:=fun t=>P (a::t)) (h a) us (Nat.succ.inj hl)
theorem ze {P:List Value->Prop}(h:∀a b c d,P [a,b,c,d])(us:List Value)(hl:us.length=4):P us:=by
  cases us with
  | nil=>cases hl
  | cons a us=>exact yO (P:=fun t=>P (a::t)) (h a) us (Nat.succ.inj hl)
theorem Fun.bi {K:W.Frag}{x qual:Str}{st:Stmt}{f:Addr}{fd:FuncData}(F:Fun K x qual st f fd)(ps:List Str)
    (h:∀(kV doc pm:Value) (an:Option Addr) (cdv ct:Value) (us:List Value),us.length=ps.length->bindArgs (W.fnOf x qual (bO st) (bz st) (ao st) .none kV doc pm an cdv ct) ⟨us,[]⟩=pure (ps.zip us):=by first | exact (fun _ _ _ _ _ _=>yf fun _=>rfl) | exact (fun _ _ _ _ _ _=>yz fun _ _=>rfl) | exact (fun _ _ _ _ _ _=>yO fun _ _ _=>rfl) | exact (fun _ _ _ _ _ _=>ze fun _ _ _ _=>rfl)):Binds K fd ps []:=F.binds h
end L2
namespace Kx
open PySem L2
def top (i:Nat):Stmt:=PySem.Challenge.pw_lategone_k17_ledgers_looked_at.main.body.getD i (.Pass ⟨0,0,0,0⟩)
section
variable {P:Program}{w:World}{K:W.Frag}{mg:Str->Option Value}{base:Heap}
open Hm
abbrev pY:Stmt:=top 13
theorem qH:FnScope ["heap","place","other","held"] ["heap","place","other"] (ao pY):=fsc fun nd=>⟨rfl,rfl,rfl,nd,rfl,zi,zi⟩
def lB:Sp:=fun vs H Q _=>∃ (r:Addr) (xs:List V) (i j:Nat),vs=[.ref r,.int i,.int j]/\H r=some (.lst xs)/\i<xs.length/\j<xs.length/\Q .non (upd H r (.lst (sw xs i j)))
theorem tf {f:Addr}{fd:FuncData}(F:Fun K "exchange" "exchange" pY f fd)(T:Bl mg):aA P w K mg base CX0 1 f fd ["heap","place","other"] lB:=by
 have sc:=qH
 refine F.ok qH (fun vs H Q E h=>?_) (fun cdv A outer s H vs Q E hr h=>?_)
 .obtain ⟨r,xs,i,j,rfl,_⟩:=h
  rfl
 obtain ⟨r,xs,i,j,rfl,hx,hi,hj,k⟩:=h
 have hu:=hr.units0
 refine ⟨_,(QSs.to (ae (qst 3 sc.nd (au aw (qv 0) (qv 1) pix))
  (ae (be (au aw (qv 0) (qv 2) pix) (bh (qv 0) (qv 1) aS))
  (aj (be (qv 3) (bh (qv 0) (qv 2) aS)))))),?_⟩
 refine ⟨_,rfl,_,rfl,r,_,_,_,rfl,rfl,SqL.of hx,wu hi,?_⟩
 refine ⟨_,rfl,_,rfl,r,_,_,_,rfl,rfl,SqL.of hx,wu hj,?_⟩
 refine ⟨_,rfl,_,rfl,r,xs,_,i,rfl,rfl,hx,cE zk zk,?_⟩
 refine ⟨_,rfl,_,rfl,_,rfl,r,_,_,j,rfl,rfl,af,cE zk (by rw [List.length_set];lia),?_⟩
 rw [eT]
 exact k
abbrev rR:Stmt:=top 11
theorem sI:FnScope ["heap","start","place","looks","above"] ["heap","start"] (ao rR):=fsc fun nd=>⟨rfl,rfl,rfl,nd,rfl,zi,zi⟩
def sJ:Sp:=fun vs H Q _=>∃ (r:Addr) (xs:List V) (a:Nat) (t:V->List V),vs=[.ref r,.int a]/\H r=some (.lst xs)/\EnR t H xs/\a<xs.length/\xs.length<=1100 /\
 ∀H',H' r=some (.lst (up (ltT t) a xs a 0).1)->(∀b o,H b=some o->b≠r->H' b=some o)->Q (.int (up (ltT t) a xs a 0).2) H'
theorem t9 {f fe:Addr}{fd fde:FuncData}(F:Fun K "lift" "lift" rR f fd)(T:Bl mg)(Gexchange:aA P w K mg base CX0 1 fe fde ["heap","place","other"] lB)(Dexchange:Nm K mg "exchange" fe fde ["heap","place","other"]) :
  aA P w K mg base CX0 2 f fd ["heap","start"] sJ:=by
 have sc:=sI
 refine F.ok sI (fun vs H Q E h=>?_) (fun cdv A outer s H vs Q E hr h=>?_)
 .obtain ⟨r,xs,a,t,rfl,_⟩:=h
  rfl
 obtain ⟨r,xs,a,t,rfl,hx,en,ha,hl,k⟩:=h
 have hu:=hr.units0
 refine ⟨_,(QSs.to (ae (qst 2 sc.nd (qv 1))
  (ae (qst 3 sc.nd ag)
  (ae (cq PassesOwn.never (ar fZ (qv 2) ag (az _)) (ae (qst 4 sc.nd (aq ca (aq bp (qv 2) ag) ag))
  (ae (qst 3 sc.nd (aq aF (qv 3) ag))
  (ae (aR (dR (ar (fJ hu) (au aw (qv 0) (qv 2) pix) (au aw (qv 0) (qv 4) pix) (az _))) (aj (aB (qv 3))) ay)
  (ae (aK (qcl Gexchange hr Dexchange aD (ad (qv 0) (ad (qv 2) (ad (qv 4) ah)))))
  (aj (qst 2 sc.nd (qv 4))))))))
  (aj (aB (qv 3))))))),?_⟩
 refine ⟨_,rfl,?_⟩
 refine ⟨fun m σ H2=>∃ (f p lk:Nat) (bl:Option V) (ys:List V),σ=[some (.ref r),some (.int a),some (.int p),some (.int lk),bl]/\up (ltT t) f ys p lk=up (ltT t) a xs a 0/\p<=f/\p<ys.length/\H2 r=some (.lst ys)/\ys.length=xs.length/\(∀y∈ys,y∈xs)/\(∀b o,H b=some o->b≠r->H2 b=some o)/\m=p,
  ⟨_,a,a,0,none,xs,rfl,rfl,Nat.le_refl _,ha,hx,rfl,fun y h=>h,fun b o e _=>e,rfl⟩,?_⟩
 rintro p σ H2 ⟨f,p',lk,bl,ys,rfl,hd,hf,hp,h2,l2,s2,f2,rfl⟩
 have en2:EnR t H2 ys:=(en.bar hx f2).sub s2
 refine ⟨_,rfl,_,_,rfl,rfl,_,rfl,aE (fun c1=>?_) (fun c1=>⟨_,rfl,?_⟩)⟩
 rotate_left
 .have c1':¬ (p:Int)>0:=by simpa using c1
  rw [mT zk] at hd
  have:=k H2
  rw [<-hd] at this
  exact this h2 f2
 have c1':(p:Int)>0:=by simpa using c1
 obtain ⟨f,rfl⟩:∃ f0,f=f0+1:=⟨f-1,zk⟩
 refine ⟨fun σ' H'=>∃ m',m'<p/\∃ (f p lk:Nat) (bl:Option V) (ys:List V),σ'=[some (.ref r),some (.int a),some (.int p),some (.int lk),bl]/\up (ltT t) f ys p lk=up (ltT t) a xs a 0/\p<=f/\p<ys.length/\H' r=some (.lst ys)/\ys.length=xs.length/\(∀y∈ys,y∈xs)/\(∀b o,H b=some o->b≠r->H' b=some o)/\m'=p,fun σ' H' z=>z,?_⟩
 refine ⟨_,rfl,_,_,rfl,rfl,_,_,rfl,rfl,⟨zj,zj⟩,?_⟩
 refine ⟨_,rfl,_,_,rfl,rfl,?_⟩
 have hq:(p-1) / 2<ys.length:=by lia
 have ea:((p:Int)-1) / 2=(((p-1) / 2:Nat):Int):=by lia
 obtain ⟨b1,e1,g1,m1,t1⟩:=en2.gat hp
 obtain ⟨b2,e2,g2,m2,t2⟩:=en2.gat hq
 rw [e1] at t1
 rw [e2,<-ea] at t2
 refine ⟨_,rfl,_,rfl,r,_,_,_,rfl,rfl,SqL.of h2,t1,_,rfl,_,rfl,r,_,_,_,rfl,rfl,SqL.of h2,t2,b1,b2,_,_,rfl,rfl,SqT.of g1,SqT.of g2,en2.fit _ _,_,rfl,aE (fun c3=>?_) (fun c3=>?_)⟩
 .have q3:ltT t (g ys p) (g ys ((p-1) / 2))=false:=by
   cases q:ltT t (g ys p) (g ys ((p-1) / 2)) with
   | false=>rfl
   | true=>have c4:=(show (!ltT t (g ys p) (g ys ((p-1) / 2)))=true from c3);rw [q] at c4;cases c4
  refine ⟨_,rfl,?_⟩
  rw [nN zk q3] at hd
  have:=k H2
  rw [<-hd] at this
  exact this h2 f2
 have q3:ltT t (g ys p) (g ys ((p-1) / 2))=true:=by
  cases q:ltT t (g ys p) (g ys ((p-1) / 2)) with
  | true=>rfl
  | false=>exact absurd (show (!ltT t (g ys p) (g ys ((p-1) / 2)))=true by rw [q];rfl) c3
 rw [vI zk q3] at hd
 refine ⟨_,rfl,_,rfl,_,rfl,r,ys,p,(p-1) / 2,(by show [V.ref r,V.int (p:Int),V.int (((p:Int)-1) / 2)]=[V.ref r,V.int (p:Int),V.int ((((p-1) / 2:Nat)):Int)];rw [ea]),h2,hp,hq,?_⟩
 refine ⟨_,rfl,(p-1) / 2,zk,f,(p-1) / 2,lk+1,some (.int ((((p-1) / 2:Nat)):Int)),sw ys p ((p-1) / 2),(by show [some (V.ref r),some (V.int a),some (V.int (((p:Int)-1) / 2)),some (V.int ((lk:Int)+1)),some (V.int (((p:Int)-1) / 2))]=_;rw [ea];rfl),hd,zk,by rw [aW];exact hq,af,by rw [aW];exact l2,fun y hy=>s2 y (dZ hp hq y hy),fun b o e nb=>by rw [ak nb];exact f2 b o e nb,rfl⟩
abbrev wT:Stmt:=top 8
theorem vt:FnScope ["heap","entry"] ["heap","entry"] (ao wT):=fsc fun nd=>⟨rfl,rfl,rfl,nd,rfl,zi,zi⟩
def qe:Sp:=fun vs H Q _=>∃ (r:Addr) (xs:List V) (e:V) (t:V->List V),vs=[.ref r,e]/\H r=some (.lst xs)/\EnR t H (xs++[e])/\xs.length<=1000 /\
 ∀H',H' r=some (.lst (up (ltT t) xs.length (xs++[e]) xs.length 0).1)->(∀b o,H b=some o->b≠r->H' b=some o)->Q (.int (up (ltT t) xs.length (xs++[e]) xs.length 0).2) H'
theorem wI {f fe:Addr}{fd fde:FuncData}(F:Fun K "lay_in" "lay_in" wT f fd)(T:Bl mg)(Glift:aA P w K mg base CX0 2 fe fde ["heap","start"] sJ)(Dlift:Nm K mg "lift" fe fde ["heap","start"]) :
  aA P w K mg base CX0 3 f fd ["heap","entry"] qe:=by
 have sc:=vt
 refine F.ok vt (fun vs H Q E h=>?_) (fun cdv A outer s H vs Q E hr h=>?_)
 .obtain ⟨r,xs,e,t,rfl,_⟩:=h
  rfl
 obtain ⟨r,xs,e,t,rfl,hx,en,hl,k⟩:=h
 have hu:=hr.units0
 refine ⟨_,(QSs.to (ae (aK (bJ PySem.F.plainAttrs_list PySem.F.slot_list_append PySem.F.type_list_append aY (qv 0) (ad (qv 1) ah)))
  (aj (aB (qcl Glift hr Dlift aD (ad (qv 0) (ad (aq bp (qcB aG T.z_len (ad (qv 0) ah)) ag) ah))))))),?_⟩
 refine ⟨_,rfl,.inl ⟨rfl,_,SqL.of hx⟩,_,rfl,r,xs,e,rfl,rfl,hx,Nat.lt_of_le_of_lt hl zj,?_⟩
 have l1:(xs++[e]).length=xs.length+1:=by rw [List.length_append];rfl
 refine ⟨_,rfl,_,rfl,r,_,rfl,.inl (SqL.of af),_,_,rfl,rfl,r,xs++[e],xs.length,t,?_,af,en.put hx,zk,zk,fun H' h' f'=>k H' h' fun b o q nb=>f' b o (by rw [ak nb];exact q) nb⟩
 rw [l1]
 show [V.ref r,V.int (((xs.length+1:Nat):Int)-1)]=_
 rw [show ((xs.length+1:Nat):Int)-1=(xs.length:Int) by lia]
abbrev gH:Stmt:=top 12
theorem iG:FnScope ["heap","start","place","looks","beneath"] ["heap","start"] (ao gH):=fsc fun nd=>⟨rfl,rfl,rfl,nd,rfl,zi,zi⟩
def fB:Sp:=fun vs H Q _=>∃ (r:Addr) (xs:List V) (a:Nat) (t:V->List V),vs=[.ref r,.int a]/\H r=some (.lst xs)/\EnR t H xs/\xs.length<=1000 /\
 ∀H',H' r=some (.lst (dn (ltT t) xs.length xs a 0).1)->(∀b o,H b=some o->b≠r->H' b=some o)->Q (.int (dn (ltT t) xs.length xs a 0).2) H'
theorem mw {f fe:Addr}{fd fde:FuncData}(F:Fun K "let_down" "let_down" gH f fd)(T:Bl mg)(Gexchange:aA P w K mg base CX0 1 fe fde ["heap","place","other"] lB)(Dexchange:Nm K mg "exchange" fe fde ["heap","place","other"]) :
  aA P w K mg base CX0 2 f fd ["heap","start"] fB:=by
 have sc:=iG
 refine F.ok iG (fun vs H Q E h=>?_) (fun cdv A outer s H vs Q E hr h=>?_)
 .obtain ⟨r,xs,a,t,rfl,_⟩:=h
  rfl
 obtain ⟨r,xs,a,t,rfl,hx,en,hl,k⟩:=h
 have hu:=hr.units0
 refine ⟨_,(QSs.to (ae (qst 2 sc.nd (qv 1))
  (ae (qst 3 sc.nd ag)
  (ae (cq PassesOwn.never (ar cV (aq aF (aq cz ag (qv 2)) ag) (qcB aG T.z_len (ad (qv 0) ah)) (az _)) (ae (qst 4 sc.nd (aq aF (aq cz ag (qv 2)) ag))
  (ae (aR (ar cV (aq aF (qv 4) ag) (qcB aG T.z_len (ad (qv 0) ah)) (az _)) (ae (qst 3 sc.nd (aq aF (qv 3) ag))
  (aj (aR (ar (fJ hu) (au aw (qv 0) (aq aF (qv 4) ag) pix) (au aw (qv 0) (qv 4) pix) (az _)) (aj (qst 4 sc.nd (aq aF (qv 4) ag))) ay))) ay)
  (ae (qst 3 sc.nd (aq aF (qv 3) ag))
  (ae (aR (dR (ar (fJ hu) (au aw (qv 0) (qv 4) pix) (au aw (qv 0) (qv 2) pix) (az _))) (aj (aB (qv 3))) ay)
  (ae (aK (qcl Gexchange hr Dexchange aD (ad (qv 0) (ad (qv 2) (ad (qv 4) ah)))))
  (aj (qst 2 sc.nd (qv 4)))))))))
  (aj (aB (qv 3))))))),?_⟩
 refine ⟨_,rfl,?_⟩
 refine ⟨fun m σ H2=>∃ (f p lk:Nat) (bl:Option V) (ys:List V),σ=[some (.ref r),some (.int a),some (.int p),some (.int lk),bl]/\dn (ltT t) f ys p lk=dn (ltT t) xs.length xs a 0/\ys.length<=p+f/\H2 r=some (.lst ys)/\ys.length=xs.length/\(∀y∈ys,y∈xs)/\(∀b o,H b=some o->b≠r->H2 b=some o)/\m=ys.length-p,
  ⟨_,xs.length,a,0,none,xs,rfl,rfl,zk,hx,rfl,fun y h=>h,fun b o e _=>e,rfl⟩,?_⟩
 rintro m σ H2 ⟨f,p,lk,bl,ys,rfl,hd,hf,h2,l2,s2,f2,rfl⟩
 have en2:EnR t H2 ys:=(en.bar hx f2).sub s2
 refine ⟨_,rfl,_,_,rfl,rfl,.inl ⟨zj,zj⟩,_,_,rfl,rfl,_,rfl,r,_,rfl,.inl (SqL.of h2),_,_,rfl,rfl,_,rfl,aE (fun c1=>?_) (fun c1=>⟨_,rfl,?_⟩)⟩
 rotate_left
 .have c1':¬ 2*(p:Int)+1<(ys.length:Int):=by simpa using c1
  rw [mW zk] at hd
  have:=k H2
  rw [<-hd] at this
  exact this h2 f2
 have c1':2*(p:Int)+1<(ys.length:Int):=by simpa using c1
 refine ⟨fun σ' H'=>∃ m',m'<ys.length-p/\∃ (f p lk:Nat) (bl:Option V) (zs:List V),σ'=[some (.ref r),some (.int a),some (.int p),some (.int lk),bl]/\dn (ltT t) f zs p lk=dn (ltT t) xs.length xs a 0/\zs.length<=p+f/\H' r=some (.lst zs)/\zs.length=xs.length/\(∀y∈zs,y∈xs)/\(∀b o,H b=some o->b≠r->H' b=some o)/\m'=zs.length-p,fun σ' H' z=>z,?_⟩
 refine ⟨_,rfl,_,_,rfl,rfl,.inl ⟨zj,zj⟩,_,_,rfl,rfl,?_⟩
 refine ⟨_,rfl,_,_,rfl,rfl,_,rfl,r,_,rfl,.inl (SqL.of h2),_,_,rfl,rfl,_,rfl,aE (fun c2=>?_) (fun c2=>?_)⟩
 .have c2':2*(p:Int)+1+1<(ys.length:Int):=by simpa using c2
  refine ⟨_,rfl,_,_,rfl,rfl,?_⟩
  obtain ⟨b3,e3,g3,m3,t3⟩:=en2.gat (show 2*p+2<ys.length by lia)
  obtain ⟨b4,e4,g4,m4,t4⟩:=en2.gat (show 2*p+1<ys.length by lia)
  rw [e3,show ((2*p+2:Nat):Int)=2*(p:Int)+1+1 by lia] at t3
  rw [e4,show ((2*p+1:Nat):Int)=2*(p:Int)+1 by lia] at t4
  have kidsE:kids ys.length p=2:=by unfold kids;rw [if_pos zk]
  have hB2:=n6 (lt:=ltT t) (xs:=ys) (p:=p) zk
  refine ⟨_,rfl,_,rfl,_,_,rfl,rfl,r,_,_,_,rfl,rfl,SqL.of h2,t3,_,rfl,_,rfl,r,_,_,_,rfl,rfl,SqL.of h2,t4,b3,b4,_,_,rfl,rfl,SqT.of g3,SqT.of g4,en2.fit _ _,_,rfl,aE (fun c4=>?_) (fun c4=>?_)⟩
  .refine ⟨_,rfl,_,_,rfl,rfl,?_⟩
   have hB:2*(p:Int)+1+1=((les (ltT t) ys p:Nat):Int):=by rw [hB2,if_pos (show ltT t (g ys (2*p+2)) (g ys (2*p+1))=true from c4)]
   have hles:les (ltT t) ys p<ys.length:=cM zk
   have lo:=dU (lt:=ltT t) (xs:=ys) (p:=p)
   refine ⟨_,rfl,_,_,rfl,rfl,?_⟩
   obtain ⟨b1,e1,g1,m1,t1⟩:=en2.gat hles
   obtain ⟨b2,e2,g2,m2,t2⟩:=en2.gat (show p<ys.length by lia)
   rw [e1] at t1
   rw [e2] at t2
   rw [<-hB] at t1
   refine ⟨_,rfl,_,rfl,r,_,_,_,rfl,rfl,SqL.of h2,t1,_,rfl,_,rfl,r,_,_,_,rfl,rfl,SqL.of h2,t2,b1,b2,_,_,rfl,rfl,SqT.of g1,SqT.of g2,en2.fit _ _,_,rfl,aE (fun c3=>?_) (fun c3=>?_)⟩
   .have q3:ltT t (g ys (les (ltT t) ys p)) (g ys p)=false:=by
     cases q:ltT t (g ys (les (ltT t) ys p)) (g ys p) with
     | false=>rfl
     | true=>have c4:=(show (!ltT t (g ys (les (ltT t) ys p)) (g ys p))=true from c3);rw [q] at c4;cases c4
    refine ⟨_,rfl,?_⟩
    obtain ⟨f,rfl⟩:∃ f0,f=f0+1:=⟨f-1,zk⟩
    rw [eG zk q3,kidsE] at hd
    have:=k H2
    rw [<-hd] at this
    have ez:((lk:Int)+1+1)=((lk+2:Nat):Int):=by lia
    show Q (.int ((lk:Int)+1+1)) H2
    rw [ez]
    exact this h2 f2
   .have q3:ltT t (g ys (les (ltT t) ys p)) (g ys p)=true:=by
     cases q:ltT t (g ys (les (ltT t) ys p)) (g ys p) with
     | true=>rfl
     | false=>exact absurd (show (!ltT t (g ys (les (ltT t) ys p)) (g ys p))=true by rw [q];rfl) c3
    obtain ⟨f,rfl⟩:∃ f0,f=f0+1:=⟨f-1,zk⟩
    rw [jA zk q3,kidsE] at hd
    refine ⟨_,rfl,_,rfl,_,rfl,r,ys,p,les (ltT t) ys p,(by show [V.ref r,V.int (p:Int),V.int (2*(p:Int)+1+1)]=_;rw [hB]),h2,zk,hles,?_⟩
    refine ⟨_,rfl,ys.length-les (ltT t) ys p,zk,f,les (ltT t) ys p,lk+2,some (.int (2*(p:Int)+1+1)),sw ys p (les (ltT t) ys p),?_,hd,by rw [aW];lia,af,by rw [aW];exact l2,fun y hy=>s2 y (dZ zk hles y hy),fun b o e nb=>by rw [ak nb];exact f2 b o e nb,by rw [aW]⟩
    have ez:((lk:Int)+1+1)=((lk+2:Nat):Int):=by lia
    show [some (V.ref r),some (V.int a),some (V.int (2*(p:Int)+1+1)),some (V.int ((lk:Int)+1+1)),some (V.int (2*(p:Int)+1+1))]=_
    rw [ez,hB]
  .have hB:2*(p:Int)+1=((les (ltT t) ys p:Nat):Int):=by rw [hB2,if_neg (show ¬ ltT t (g ys (2*p+2)) (g ys (2*p+1))=true from c4)];lia
   have hles:les (ltT t) ys p<ys.length:=cM zk
   have lo:=dU (lt:=ltT t) (xs:=ys) (p:=p)
   refine ⟨_,rfl,_,_,rfl,rfl,?_⟩
   obtain ⟨b1,e1,g1,m1,t1⟩:=en2.gat hles
   obtain ⟨b2,e2,g2,m2,t2⟩:=en2.gat (show p<ys.length by lia)
   rw [e1] at t1
   rw [e2] at t2
   rw [<-hB] at t1
   refine ⟨_,rfl,_,rfl,r,_,_,_,rfl,rfl,SqL.of h2,t1,_,rfl,_,rfl,r,_,_,_,rfl,rfl,SqL.of h2,t2,b1,b2,_,_,rfl,rfl,SqT.of g1,SqT.of g2,en2.fit _ _,_,rfl,aE (fun c3=>?_) (fun c3=>?_)⟩
   .have q3:ltT t (g ys (les (ltT t) ys p)) (g ys p)=false:=by
     cases q:ltT t (g ys (les (ltT t) ys p)) (g ys p) with
     | false=>rfl
     | true=>have c4:=(show (!ltT t (g ys (les (ltT t) ys p)) (g ys p))=true from c3);rw [q] at c4;cases c4
    refine ⟨_,rfl,?_⟩
    obtain ⟨f,rfl⟩:∃ f0,f=f0+1:=⟨f-1,zk⟩
    rw [eG zk q3,kidsE] at hd
    have:=k H2
    rw [<-hd] at this
    have ez:((lk:Int)+1+1)=((lk+2:Nat):Int):=by lia
    show Q (.int ((lk:Int)+1+1)) H2
    rw [ez]
    exact this h2 f2
   .have q3:ltT t (g ys (les (ltT t) ys p)) (g ys p)=true:=by
     cases q:ltT t (g ys (les (ltT t) ys p)) (g ys p) with
     | true=>rfl
     | false=>exact absurd (show (!ltT t (g ys (les (ltT t) ys p)) (g ys p))=true by rw [q];rfl) c3
    obtain ⟨f,rfl⟩:∃ f0,f=f0+1:=⟨f-1,zk⟩
    rw [jA zk q3,kidsE] at hd
    refine ⟨_,rfl,_,rfl,_,rfl,r,ys,p,les (ltT t) ys p,(by show [V.ref r,V.int (p:Int),V.int (2*(p:Int)+1)]=_;rw [hB]),h2,zk,hles,?_⟩
    refine ⟨_,rfl,ys.length-les (ltT t) ys p,zk,f,les (ltT t) ys p,lk+2,some (.int (2*(p:Int)+1)),sw ys p (les (ltT t) ys p),?_,hd,by rw [aW];lia,af,by rw [aW];exact l2,fun y hy=>s2 y (dZ zk hles y hy),fun b o e nb=>by rw [ak nb];exact f2 b o e nb,by rw [aW]⟩
    have ez:((lk:Int)+1+1)=((lk+2:Nat):Int):=by lia
    show [some (V.ref r),some (V.int a),some (V.int (2*(p:Int)+1)),some (V.int ((lk:Int)+1+1)),some (V.int (2*(p:Int)+1))]=_
    rw [ez,hB]
 have c2':¬ 2*(p:Int)+1+1<(ys.length:Int):=by simpa using c2
 have hB:2*(p:Int)+1=((les (ltT t) ys p:Nat):Int):=by rw [nk zk];lia
 have kidsE:kids ys.length p=1:=by unfold kids;rw [if_neg zk,if_pos zk]
 have hles:les (ltT t) ys p<ys.length:=cM zk
 have lo:=dU (lt:=ltT t) (xs:=ys) (p:=p)
 refine ⟨_,rfl,_,_,rfl,rfl,?_⟩
 obtain ⟨b1,e1,g1,m1,t1⟩:=en2.gat hles
 obtain ⟨b2,e2,g2,m2,t2⟩:=en2.gat (show p<ys.length by lia)
 rw [e1] at t1
 rw [e2] at t2
 rw [<-hB] at t1
 refine ⟨_,rfl,_,rfl,r,_,_,_,rfl,rfl,SqL.of h2,t1,_,rfl,_,rfl,r,_,_,_,rfl,rfl,SqL.of h2,t2,b1,b2,_,_,rfl,rfl,SqT.of g1,SqT.of g2,en2.fit _ _,_,rfl,aE (fun c3=>?_) (fun c3=>?_)⟩
 .have q3:ltT t (g ys (les (ltT t) ys p)) (g ys p)=false:=by
   cases q:ltT t (g ys (les (ltT t) ys p)) (g ys p) with
   | false=>rfl
   | true=>have c4:=(show (!ltT t (g ys (les (ltT t) ys p)) (g ys p))=true from c3);rw [q] at c4;cases c4
  refine ⟨_,rfl,?_⟩
  obtain ⟨f,rfl⟩:∃ f0,f=f0+1:=⟨f-1,zk⟩
  rw [eG zk q3,kidsE] at hd
  have:=k H2
  rw [<-hd] at this
  have ez:((lk:Int)+1)=((lk+1:Nat):Int):=by lia
  show Q (.int ((lk:Int)+1)) H2
  rw [ez]
  exact this h2 f2
 have q3:ltT t (g ys (les (ltT t) ys p)) (g ys p)=true:=by
  cases q:ltT t (g ys (les (ltT t) ys p)) (g ys p) with
  | true=>rfl
  | false=>exact absurd (show (!ltT t (g ys (les (ltT t) ys p)) (g ys p))=true by rw [q];rfl) c3
 obtain ⟨f,rfl⟩:∃ f0,f=f0+1:=⟨f-1,zk⟩
 rw [jA zk q3,kidsE] at hd
 refine ⟨_,rfl,_,rfl,_,rfl,r,ys,p,les (ltT t) ys p,(by show [V.ref r,V.int (p:Int),V.int (2*(p:Int)+1)]=_;rw [hB]),h2,zk,hles,?_⟩
 refine ⟨_,rfl,ys.length-les (ltT t) ys p,zk,f,les (ltT t) ys p,lk+1,some (.int (2*(p:Int)+1)),sw ys p (les (ltT t) ys p),?_,hd,by rw [aW];lia,af,by rw [aW];exact l2,fun y hy=>s2 y (dZ zk hles y hy),fun b o e nb=>by rw [ak nb];exact f2 b o e nb,by rw [aW]⟩
 have ez:((lk:Int)+1)=((lk+1:Nat):Int):=by lia
 show [some (V.ref r),some (V.int a),some (V.int (2*(p:Int)+1)),some (V.int ((lk:Int)+1)),some (V.int (2*(p:Int)+1))]=_
 rw [ez,hB]
abbrev wO:Stmt:=top 9
theorem vO:FnScope ["heap","last"] ["heap"] (ao wO):=fsc fun nd=>⟨rfl,rfl,rfl,nd,rfl,zi,zi⟩
def qy:Sp:=fun vs H Q _=>∃ (r:Addr) (xs:List V) (t:V->List V),vs=[.ref r]/\H r=some (.lst xs)/\EnR t H xs/\0<xs.length/\xs.length<=1000 /\
 ∀H',H' r=some (.lst (cutf (ltT t) xs).1)->(∀b o,H b=some o->b≠r->H' b=some o)->Q (.int (cutf (ltT t) xs).2) H'
theorem xb {f fe:Addr}{fd fde:FuncData}(F:Fun K "cut_first" "cut_first" wO f fd)(T:Bl mg)(Glet_down:aA P w K mg base CX0 2 fe fde ["heap","start"] fB)(Dlet_down:Nm K mg "let_down" fe fde ["heap","start"]) :
  aA P w K mg base CX0 3 f fd ["heap"] qy:=by
 have sc:=vO
 refine F.ok vO (fun vs H Q E h=>?_) (fun cdv A outer s H vs Q E hr h=>?_)
 .obtain ⟨r,xs,t,rfl,_⟩:=h
  rfl
 obtain ⟨r,xs,t,rfl,hx,en,h0,hl,k⟩:=h
 have hu:=hr.units0
 refine ⟨_,(QSs.to (ae (qst 1 sc.nd (qL PySem.F.plainAttrs_list PySem.F.slot_list_pop PySem.F.type_list_pop rX (qv 0)))
  (ae (aR (ar a8 (qcB aG T.z_len (ad (qv 0) ah)) ag (az _)) (aj (aB ag)) ay)
  (ae (be (qv 1) (bh (qv 0) ag aS))
  (aj (aB (qcl Glet_down hr Dlet_down aD (ad (qv 0) (ad ag ah))))))))),?_⟩
 have eg:xs[xs.length-1]?=some (g xs (xs.length-1)):=by rw [g_get zk];exact List.getElem?_eq_getElem _
 have mg':g xs (xs.length-1)∈xs:=List.mem_of_getElem? eg
 refine ⟨_,rfl,.inl ⟨rfl,_,SqL.of hx⟩,r,xs,_,rfl,rfl,hx,eg,?_⟩
 have ld:xs.dropLast.length=xs.length-1:=List.length_dropLast
 refine ⟨_,rfl,r,_,rfl,.inl (SqL.of af),rfl,_,rfl,aE (fun c1=>?_) (fun c1=>?_)⟩
 .have c1':xs.dropLast.length=0:=by
   have:=of_decide_eq_true c1
   have:=V.int.inj this
   lia
  have ec:cutf (ltT t) xs=([],0):=cK zk
  have:=k (upd H r (.lst xs.dropLast))
  rw [ec] at this
  exact this (by rw [af,List.length_eq_zero_iff.mp c1']) fun b o e nb=>by rw [ak nb];exact e
 have c1':xs.dropLast.length≠0:=fun z=>c1 (decide_eq_true (by rw [z];rfl))
 have l2:(xs.dropLast.set 0 (g xs (xs.length-1))).length=xs.dropLast.length:=List.length_set
 refine ⟨_,rfl,_,rfl,r,xs.dropLast,_,0,rfl,rfl,af,cE zk zk,?_⟩
 rw [eT]
 have ec:cutf (ltT t) xs=dn (ltT t) xs.dropLast.length (xs.dropLast.set 0 (g xs (xs.length-1))) 0 0:=by
  unfold cutf
  rw [if_neg (fun z=>c1' (by rw [z];rfl))]
 refine ⟨_,rfl,r,_,0,t,rfl,af,(en.sub fun y hy=>?_).put hx,zk,fun H' h' f'=>?_⟩
 .rcases List.mem_or_eq_of_mem_set hy with z | z
  .exact (List.dropLast_sublist xs).mem z
  .rw [z];exact mg'
 rw [l2,<-ec] at h'
 rw [l2,<-ec]
 exact k H' h' fun b o e nb=>f' b o (by rw [ak nb];exact e) nb
abbrev l0:Stmt:=top 10
theorem nu:FnScope ["heap","looks","place"] ["heap"] (ao l0):=fsc fun nd=>⟨rfl,rfl,rfl,nd,rfl,zi,zi⟩
def ji:Sp:=fun vs H Q _=>∃ (r:Addr) (xs:List V) (t:V->List V),vs=[.ref r]/\H r=some (.lst xs)/\EnR t H xs/\xs.length<=1000 /\
 ∀H',H' r=some (.lst (mk (ltT t) (xs.length / 2) xs 0).1)->(∀b o,H b=some o->b≠r->H' b=some o)->Q (.int (mk (ltT t) (xs.length / 2) xs 0).2) H'
theorem sq {f fn:Addr}{fd fdn:FuncData}(F:Fun K "order" "order" l0 f fd)(T:Bl mg)(Glet_down:aA P w K mg base CX0 2 fn fdn ["heap","start"] fB)(Dlet_down:Nm K mg "let_down" fn fdn ["heap","start"]) :
  aA P w K mg base CX0 3 f fd ["heap"] ji:=by
 have sc:=nu
 refine F.ok nu (fun vs H Q E h=>?_) (fun cdv A outer s H vs Q E hr h=>?_)
 .obtain ⟨r,xs,t,rfl,_⟩:=h
  rfl
 obtain ⟨r,xs,t,rfl,hx,en,hl,k⟩:=h
 have hu:=hr.units0
 refine ⟨_,(QSs.to (ae (qst 1 sc.nd ag)
  (ae (ce PassesOwn.never rfl (iK rfl T.z_range (ad (aq bp (aq ca (qcB aG T.z_len (ad (qv 0) ah)) ag) ag) (ad (jO gy ag) (ad (jO gy ag) ah)))) (aQ (i:=2) sc.nd rfl (Or.inl rfl)) (aj (qst 1 sc.nd (aq aF (qv 1) (qcl Glet_down hr Dlet_down aD (ad (qv 0) (ad (qv 2) ah)))))))
  (aj (aB (qv 1)))))),?_⟩
 refine ⟨_,rfl,r,_,rfl,.inl (SqL.of hx),_,_,rfl,rfl,⟨zj,zj⟩,_,_,rfl,rfl,_,rfl,_,rfl,_,_,rfl,⟨zk,zk,zk,zk⟩,?_⟩
 have en0:((xs.length:Int) / 2-1 - -1).toNat=xs.length / 2:=by lia
 refine gJ (lo:=(xs.length:Int) / 2-1) (n:=((xs.length:Int) / 2-1 - -1).toNat) (fun i σ H4=>∃ (lk:Nat) (o:Option V) (ys:List V),σ=[some (.ref r),some (.int lk),o]/\H4 r=some (.lst ys)/\ys.length=xs.length/\(∀y∈ys,y∈xs)/\(∀b o,H b=some o->b≠r->H4 b=some o)/\mk (ltT t) (xs.length / 2-i) ys lk=mk (ltT t) (xs.length / 2) xs 0)
  ⟨0,none,xs,rfl,hx,rfl,fun y h=>h,fun b o e _=>e,rfl⟩ ?_ ?_
 .rintro i σ H4 hi ⟨lk,o,ys,rfl,h4,l4,s4,f4,m4⟩
  rw [en0] at hi
  have en4:EnR t H4 ys:=(en.bar hx f4).sub s4
  have ei:(xs.length:Int) / 2-1-(i:Int)=((xs.length / 2-1-i:Nat):Int):=by lia
  refine ⟨_,rfl,_,rfl,_,rfl,r,ys,xs.length / 2-1-i,t,(by show [V.ref r,V.int ((xs.length:Int) / 2-1-(i:Int))]=_;rw [ei]),h4,en4,zk,fun H5 h5 f5=>⟨_,_,rfl,rfl,?_⟩⟩
  refine ⟨lk+(dn (ltT t) ys.length ys (xs.length / 2-1-i) 0).2,_,_,rfl,h5,dn_len.trans l4,fun y hy=>s4 y (dn_perm.mem_iff.mp hy),fun b o e nb=>f5 b o (f4 b o e nb) nb,?_⟩
  rw [<-m4,show xs.length / 2-i=(xs.length / 2-(i+1))+1 by lia]
  conv=>rhs;unfold mk
  rw [show xs.length / 2-(i+1)=xs.length / 2-1-i by lia]
 rintro σ H4 ⟨lk,o,ys,rfl,h4,l4,s4,f4,m4⟩
 rw [en0,Nat.sub_self] at m4
 have m5:(ys,lk)=mk (ltT t) (xs.length / 2) xs 0:=m4
 have:=k H4
 rw [<-m5] at this
 exact ⟨_,rfl,this h4 f4⟩
abbrev bmV:List Value:=[.type "ValueError",.type "Exception",.type "BaseException",.type "object"]
structure NT (K:W.Frag)(C:Addr):Prop where
 cl:Cls K C
 th:NoAttr K C "there"
 st:NoAttr K C "stamp"
abbrev sMany:Stmt:=bg (top 6) 1
def spMany (C:Addr):Sp:=fun vs H Q _=>∃ (p dx d:Addr) (fs:List (Str×V)) (ks:List (Key×V)),vs=[.ref p]/\H p=some (.ins C dx fs)/\fs.lookup ("there":Str)=some (.ref d)/\H d=some (.dK ks)/\Q (.int ks.length) H
abbrev lQ:Stmt:=bg (top 6) 3
theorem oB:FnScope ["self","entry"] ["self","entry"] (ao lQ):=fsc fun nd=>⟨rfl,rfl,rfl,nd,rfl,zi,zi⟩
def jh (C:Addr):Sp:=fun vs H Q _=>∃ (p dx d:Addr) (fs:List (Str×V)) (ks:List (Key×V)) (T:List (Str×En)) (a:Addr) (e:En),vs=[.ref p,.ref a]/\H p=some (.ins C dx fs)/\fs.lookup ("there":Str)=some (.ref d)/\H d=some (.dK ks)/\KR H ks T/\H a=some (.tup (enV e))/\Q (.bl (Gm.holds T e)) H
theorem ss {f C:Addr}{fd:FuncData}(F:Fun K "holds" "Named.holds" lQ f fd)(T:Bl mg)(L:NT K C):aA P w K mg base CX0 1 f fd ["self","entry"] (jh C):=by
 have sc:=oB
 refine F.ok oB (fun vs H Q E h=>?_) (fun cdv A outer s H vs Q E hr h=>?_)
 .obtain ⟨p,dx,d,fs,ks,T',a,e,rfl,_⟩:=h
  rfl
 obtain ⟨p,dx,d,fs,ks,T',a,e,rfl,hp,hl,hd,kr,ha,k⟩:=h
 have hu:=hr.units0
 refine ⟨_,(QSs.to (aj (aB (cr (uZ hu) (kG (aX hr) (bf (qv 0) rfl) (au aJ (qv 1) ag pix) ⟨rfl,rfl,rfl,rfl⟩) (qv 1) (az _))))),?_⟩
 refine ⟨_,rfl,p,C,dx,fs,_,rfl,hp,L.cl,L.th,hl,d,rfl,.inl ⟨ks,.inl hd⟩,_,rfl,a,_,_,_,rfl,rfl,SqT.of ha,rfl,_,DGet.k (k:=Sum.inr e.n) hd,_,rfl,a,enV e,rfl,SqT.of ha,mG e,?_⟩
 unfold Gm.holds at k
 rcases kr.get e.n with ⟨e1,e2⟩ | ⟨b,e',e1,e2,hb⟩
 .rw [e2,decide_eq_false (fun z=>nomatch z)] at k
  rw [e1]
  exact .inl ⟨rfl,k⟩
 rw [e2] at k
 rw [e1]
 refine .inr ⟨b,enV e',rfl,SqT.of hb,mG e',?_⟩
 by_cases z:e'=e
 .rw [z] at k ⊢
  rw [decide_eq_true rfl] at k ⊢
  exact k
 rw [decide_eq_false (fun y=>z (Option.some.inj y))] at k
 rw [decide_eq_false (fun y=>z (uf y))]
 exact k
abbrev rG:Stmt:=bg (top 6) 4
theorem qm:FnScope ["self","name"] ["self","name"] (ao rG):=fsc fun nd=>⟨rfl,rfl,rfl,nd,rfl,zi,zi⟩
def lJ (C X:Addr):Sp:=fun vs H Q E=>∃ (p dx d:Addr) (fs:List (Str×V)) (ks:List (Key×V)) (n:Str),vs=[.ref p,.str n]/\H p=some (.ins C dx fs)/\fs.lookup ("there":Str)=some (.ref d)/\H d=some (.dK ks)/\n.length<=1000/\((bB ks (Sum.inr n)).isSome=true->Q .non H)/\((bB ks (Sum.inr n)).isSome=false->E (.ref X) none H)
theorem ve {f C X:Addr}{fd:FuncData}(F:Fun K "need" "Named.need" rG f fd)(T:Bl mg)(L:NT K C)(mNoThing:mg "NoThing"=some (.ref X))(xNoThing:W.excIn K X bmV "ValueError.__new__"=true):aA P w K mg base (CXe P w) 1 f fd ["self","name"] (lJ C X):=by
 have sc:=qm
 refine F.okE qm (fun vs H Q E h=>?_) (fun cdv A outer s H vs Q E hr h=>?_)
 .obtain ⟨p,dx,d,fs,ks,n,rfl,_⟩:=h
  rfl
 obtain ⟨p,dx,d,fs,ks,n,rfl,hp,hl,hd,hn,k,kE⟩:=h
 have hu:=hr.units0
 refine ⟨_,(QSs.to (aj (aR (ip (aX hr) (qv 1) (bf (qv 0) rfl)) (aj (fM PySem.F.excBase_ValueError zi rfl mNoThing xNoThing hr.hd (ad (jB (qv 1) zi) ah))) ay))),?_⟩
 refine ⟨_,rfl,_,rfl,p,C,dx,fs,_,rfl,hp,L.cl,L.th,hl,d,_,rfl,DGet.k (k:=Sum.inr n) hd,_,rfl,?_⟩
 cases e:(bB ks (Sum.inr n:Key)).isSome with
 | false=>exact qb ⟨_,rfl,n,rfl,hn,fun r=>⟨by show 1<=1000;decide,kE e⟩⟩
 | true=>exact gf (k e)
abbrev pR:Stmt:=bg (top 6) 5
theorem pS:FnScope ["self","name"] ["self","name"] (ao pR):=fsc fun nd=>⟨rfl,rfl,rfl,nd,rfl,zi,zi⟩
def pQ (C X:Addr):Sp:=fun vs H Q E=>∃ (p dx d:Addr) (fs:List (Str×V)) (ks:List (Key×V)) (n:Str),vs=[.ref p,.str n]/\H p=some (.ins C dx fs)/\fs.lookup ("there":Str)=some (.ref d)/\H d=some (.dK ks)/\n.length<=1000/\((bB ks (Sum.inr n)).isSome=false->Q .non H)/\((bB ks (Sum.inr n)).isSome=true->E (.ref X) none H)
theorem iY {f C X:Addr}{fd:FuncData}(F:Fun K "need_free" "Named.need_free" pR f fd)(T:Bl mg)(L:NT K C)(mClash:mg "Clash"=some (.ref X))(xClash:W.excIn K X bmV "ValueError.__new__"=true):aA P w K mg base (CXe P w) 1 f fd ["self","name"] (pQ C X):=by
 have sc:=pS
 refine F.okE pS (fun vs H Q E h=>?_) (fun cdv A outer s H vs Q E hr h=>?_)
 .obtain ⟨p,dx,d,fs,ks,n,rfl,_⟩:=h
  rfl
 obtain ⟨p,dx,d,fs,ks,n,rfl,hp,hl,hd,hn,k,kE⟩:=h
 have hu:=hr.units0
 refine ⟨_,(QSs.to (aj (aR (v4 (aX hr) (qv 1) (bf (qv 0) rfl)) (aj (fM PySem.F.excBase_ValueError zi rfl mClash xClash hr.hd (ad (jB (qv 1) zi) ah))) ay))),?_⟩
 refine ⟨_,rfl,_,rfl,p,C,dx,fs,_,rfl,hp,L.cl,L.th,hl,d,_,rfl,DGet.k (k:=Sum.inr n) hd,_,rfl,?_⟩
 cases e:(bB ks (Sum.inr n:Key)).isSome with
 | true=>exact qb ⟨_,rfl,n,rfl,hn,fun r=>⟨by show 1<=1000;decide,kE e⟩⟩
 | false=>exact gf (k e)
abbrev xy:Stmt:=bg (top 6) 6
theorem vC:FnScope ["self"] ["self"] (ao xy):=fsc fun nd=>⟨rfl,rfl,rfl,nd,rfl,zi,zi⟩
def vS (C X:Addr):Sp:=fun vs H Q E=>∃ (p dx d:Addr) (fs:List (Str×V)) (ks:List (Key×V)),vs=[.ref p]/\H p=some (.ins C dx fs)/\fs.lookup ("there":Str)=some (.ref d)/\H d=some (.dK ks)/\(ks≠[]->Q .non H)/\(ks=[]->E (.ref X) none H)
theorem kj {f C X:Addr}{fd:FuncData}(F:Fun K "need_any" "Named.need_any" xy f fd)(T:Bl mg)(L:NT K C)(mNoThing:mg "NoThing"=some (.ref X))(xNoThing:W.excIn K X bmV "ValueError.__new__"=true):aA P w K mg base (CXe P w) 1 f fd ["self"] (vS C X):=by
 have sc:=vC
 refine F.okE vC (fun vs H Q E h=>?_) (fun cdv A outer s H vs Q E hr h=>?_)
 .obtain ⟨p,dx,d,fs,ks,rfl,_⟩:=h
  rfl
 obtain ⟨p,dx,d,fs,ks,rfl,hp,hl,hd,k,kE⟩:=h
 have hu:=hr.units0
 refine ⟨_,(QSs.to (aj (aR (ar a8 (qcB cI T.z_len (ad (bf (qv 0) rfl) ah)) ag (az _)) (aj (fM PySem.F.excBase_ValueError zi rfl mNoThing xNoThing hr.hd (ad av ah))) ay))),?_⟩
 refine ⟨_,rfl,p,C,dx,fs,_,rfl,hp,L.cl,L.th,hl,d,ks,rfl,hd,rfl,_,rfl,aE (fun c1=>?_) (fun c1=>?_)⟩
 .have:=V.int.inj (of_decide_eq_true c1)
  exact ⟨by show 1<=1000;decide,kE (List.length_eq_zero_iff.mp zk)⟩
 exact k fun z=>c1 (decide_eq_true (by rw [z];rfl))
abbrev gu:Stmt:=bg (top 6) 7
theorem iq:FnScope ["self","name","worth","entry"] ["self","name","worth"] (ao gu):=fsc fun nd=>⟨rfl,rfl,rfl,nd,rfl,zi,zi⟩
def iL (C:Addr):Sp:=fun vs H Q _=>∃ (p dx d:Addr) (fs:List (Str×V)) (ks:List (Key×V)) (n:Str) (w st:Int),vs=[.ref p,.str n,.int w]/\H p=some (.ins C dx fs)/\fs.lookup ("there":Str)=some (.ref d)/\H d=some (.dK ks)/\fs.lookup ("stamp":Str)=some (.int st)/\fs.length<=100/\ks.length<=1000 /\
 ∀q,H q=none->Q (.ref q) (upd (upd (upd H q (.tup [.int w,.str n,.int st])) p (.ins C dx (bF ("stamp":Str) (.int (st+1)) fs))) d (.dK (aZ ks (Sum.inr n) (.ref q))))
theorem nM:¬ (("there":Str)="stamp"):=by decide +kernel
theorem kT {f C:Addr}{fd:FuncData}(F:Fun K "stamped" "Named.stamped" gu f fd)(T:Bl mg)(L:NT K C):aA P w K mg base CX0 1 f fd ["self","name","worth"] (iL C):=by
 have sc:=iq
 refine F.ok iq (fun vs H Q E h=>?_) (fun cdv A outer s H vs Q E hr h=>?_)
 .obtain ⟨p,dx,d,fs,ks,n,w,st,rfl,_⟩:=h
  rfl
 obtain ⟨p,dx,d,fs,ks,n,w,st,rfl,hp,hl,hd,hs,hf,hk,k⟩:=h
 have hu:=hr.units0
 have npd:p≠d:=bA hp hd (by intro z;cases z)
 refine ⟨_,(QSs.to (ae (qst 3 sc.nd (aI (ad (qv 2) (ad (qv 1) (ad (bf (qv 0) rfl) ah)))))
  (ae (cG (qv 0) (aq aF (bf (qv 0) rfl) ag) rfl)
  (ae (eQ (aX hr) (bf (qv 0) rfl) (qv 1) (qv 3) rfl)
  (aj (aB (qv 3))))))),?_⟩
 refine ⟨_,rfl,_,rfl,_,rfl,p,C,dx,fs,_,rfl,hp,L.cl,L.st,hs,sz3,fun q hq=>?_⟩
 have hp1:(upd H q (.tup [.int w,.str n,.int st])) p=some (.ins C dx fs):=by rw [ak (am hp hq)];exact hp
 have hd1:(upd H q (.tup [.int w,.str n,.int st])) d=some (.dK ks):=by rw [ak (am hd hq)];exact hd
 refine ⟨_,rfl,p,C,dx,fs,_,rfl,hp1,L.cl,L.st,hs,_,_,rfl,rfl,_,rfl,p,C,dx,fs,rfl,hp1,L.cl,L.st,zk,?_⟩
 have hl2:(bF ("stamp":Str) (.int (st+1)) fs).lookup ("there":Str)=some (.ref d):=by rw [dg,if_neg nM];exact hl
 refine ⟨_,rfl,_,rfl,p,C,dx,_,_,rfl,af,L.cl,L.th,hl2,_,rfl,d,_,rfl,DPut.k (k:=Sum.inr n) (by rw [ak npd.symm];exact hd1) (aH hk),?_⟩
 exact ⟨_,rfl,k q hq⟩
def wOf (T:List (Str×En))(n:Str):Int:=((Gm.dget T n).getD default).w
def PR (H:Hp)(zs:List V)(L:List (Str×Int)):Prop:=Paired (fun (z:V) (nw:Str×Int)=>∃ a,z=.ref a/\H a=some (.tup [.str nw.1,.int nw.2])) zs L
abbrev mH:Stmt:=bg (top 6) 0
theorem nS:FnScope ["self"] ["self"] (ao mH):=fsc fun nd=>⟨rfl,rfl,rfl,nd,rfl,zi,zi⟩
def nK (C:Addr):Sp:=fun vs H Q _=>∃ (p dx:Addr),vs=[.ref p]/\H p=some (.ins C dx [])/\∀d,H d=none->Q .non (upd (upd (upd H d (.dK [])) p (.ins C dx [("there",.ref d)])) p (.ins C dx [("there",.ref d),("stamp",.int 0)]))
theorem fA {f C:Addr}{fd:FuncData}(F:Fun K "__init__" "Named.__init__" mH f fd)(T:Bl mg)(L:NT K C):aA P w K mg base CX0 1 f fd ["self"] (nK C):=by
 have sc:=nS
 refine F.ok nS (fun vs H Q E h=>?_) (fun cdv A outer s H vs Q E hr h=>?_)
 .obtain ⟨p,dx,rfl,_⟩:=h
  rfl
 obtain ⟨p,dx,rfl,hp,k⟩:=h
 have hu:=hr.units0
 refine ⟨_,(QSs.to (ae (cG (qv 0) gP rfl)
  (aj (cG (qv 0) ag rfl)))),?_⟩
 intro d hd
 have npd:p≠d:=am hp hd
 refine ⟨_,rfl,p,C,dx,[],rfl,(by rw [ak npd];exact hp),L.cl,L.th,(by show 0<1000;decide),_,rfl,p,C,dx,_,rfl,af,L.cl,L.st,(by show 1<1000;decide),?_⟩
 have e1:bF ("stamp":Str) (.int 0) (bF ("there":Str) (.ref d) [])=([("there",V.ref d),("stamp",V.int 0)]:List (Str×V)):=by
  show (if ("there":Str)="stamp" then _ else _)=_
  rw [if_neg nM]
  rfl
 rw [e1]
 exact k d hd
structure LT (K:W.Frag)(C:Addr):Prop where
 nt:NT K C
 sk:NoAttr K C "slack"
 en:NoAttr K C "entries"
 lk:NoAttr K C "looks"
theorem LT.cl {C:Addr}(L:LT K C):Cls K C:=L.nt.cl
def lfs (d l:Addr)(s:LS):List (Str×V):=[("there",.ref d),("stamp",.int s.stamp),("slack",.int s.slack),("entries",.ref l),("looks",.int s.looks)]
theorem cm {a b:Str}{v:V}{r:List (Str×V)}(h:¬ b=a):List.lookup a ((b,v)::r)=List.lookup a r:=by
 rw [List.lookup_cons,beq_eq_false_iff_ne.mpr (fun z=>h z.symm)]
theorem jU {a:Str}{v:V}{r:List (Str×V)}:List.lookup a ((a,v)::r)=some v:=by
 rw [List.lookup_cons,beq_self_eq_true]
theorem b9 {a b:Str}{v x:V}{r:List (Str×V)}(h:¬ b=a):bF a v ((b,x)::r)=(b,x)::bF a v r:=if_neg h
theorem qg {a:Str}{v x:V}{r:List (Str×V)}:bF a v ((a,x)::r)=(a,v)::r:=if_pos rfl
theorem d1:¬ (("there":Str)="slack"):=by decide +kernel
theorem d2:¬ (("there":Str)="entries"):=by decide +kernel
theorem d3:¬ (("there":Str)="looks"):=by decide +kernel
theorem d4:¬ (("stamp":Str)="slack"):=by decide +kernel
theorem d5:¬ (("stamp":Str)="entries"):=by decide +kernel
theorem d6:¬ (("stamp":Str)="looks"):=by decide +kernel
theorem d7:¬ (("slack":Str)="entries"):=by decide +kernel
theorem d8:¬ (("slack":Str)="looks"):=by decide +kernel
theorem d9:¬ (("entries":Str)="looks"):=by decide +kernel
section
variable {d l l':Addr}{s:LS}
theorem db:(lfs d l s).lookup ("there":Str)=some (.ref d):=jU
theorem yF:(lfs d l s).lookup ("stamp":Str)=some (.int s.stamp):=by unfold lfs;rw [cm nM,jU]
theorem xS:(lfs d l s).lookup ("slack":Str)=some (.int s.slack):=by unfold lfs;rw [cm d1,cm d4,jU]
theorem hJ:(lfs d l s).lookup ("entries":Str)=some (.ref l):=by unfold lfs;rw [cm d2,cm d5,cm d7,jU]
theorem ox:(lfs d l s).lookup ("looks":Str)=some (.int s.looks):=by unfold lfs;rw [cm d3,cm d6,cm d8,cm d9,jU]
theorem xO {m:Str}(h1:¬ ("there":Str)=m)(h2:¬ ("stamp":Str)=m)(h3:¬ ("slack":Str)=m)(h4:¬ ("entries":Str)=m)(h5:¬ ("looks":Str)=m):(lfs d l s).lookup m=none:=by unfold lfs;rw [cm h1,cm h2,cm h3,cm h4,cm h5];rfl
theorem lfn {m:Str}(h1:¬ ("there":Str)=m:=by decide +kernel)(h2:¬ ("stamp":Str)=m:=by decide +kernel)(h3:¬ ("slack":Str)=m:=by decide +kernel)(h4:¬ ("entries":Str)=m:=by decide +kernel)(h5:¬ ("looks":Str)=m:=by decide +kernel):(lfs d l s).lookup m=none:=xO h1 h2 h3 h4 h5
theorem yl {k:Nat}:bF ("stamp":Str) (.int ((s.stamp:Int)+1)) (lfs d l s)=lfs d l { s with stamp:=s.stamp+1 }:=by unfold lfs;rw [b9 nM,qg];rfl
theorem x9:bF ("entries":Str) (.ref l') (lfs d l s)=lfs d l' s:=by unfold lfs;rw [b9 d2,b9 d5,b9 d7,qg]
theorem p5 {k:Nat}:bF ("looks":Str) (.int ((s.looks:Int)+k)) (lfs d l s)=lfs d l { s with looks:=s.looks+k }:=by
 unfold lfs
 rw [b9 d3,b9 d6,b9 d8,b9 d9,qg]
 show _=[_,_,_,_,(_,V.int ((s.looks+k:Nat):Int))]
 rw [Int.natCast_add]
end
structure LateAt (C:Addr)(H:Hp)(p d l:Addr)(s:LS):Prop where
 ob:∃ dx,H p=some (.ins C dx (lfs d l s))
 dc:∃ ks,H d=some (.dK ks)/\KR H ks s.there
 ls:∃ xs,H l=some (.lst xs)/\RR H xs s.row
section
variable {C p d l:Addr}{H H':Hp}{s:LS}
theorem LateAt.notup (L:LateAt C H p d l s):∀b∈[p,d,l],∀xs,H b≠some (.tup xs):=by
 obtain ⟨dx,h1⟩:=L.ob
 obtain ⟨ks,h2,_⟩:=L.dc
 obtain ⟨xs,h3,_⟩:=L.ls
 intro b hb ys z
 simp only [List.mem_cons,List.not_mem_nil,or_false] at hb
 rcases hb with rfl | rfl | rfl
 .rw [h1] at z;cases z
 .rw [h2] at z;cases z
 rw [h3] at z;cases z
theorem LateAt.npd (L:LateAt C H p d l s):p≠d:=by
 obtain ⟨dx,h1⟩:=L.ob
 obtain ⟨ks,h2,_⟩:=L.dc
 exact bA h1 h2 (by intro z;cases z)
theorem LateAt.npl (L:LateAt C H p d l s):p≠l:=by
 obtain ⟨dx,h1⟩:=L.ob
 obtain ⟨ks,h2,_⟩:=L.ls
 exact bA h1 h2 (by intro z;cases z)
theorem LateAt.ndl (L:LateAt C H p d l s):d≠l:=by
 obtain ⟨dx,h1,_⟩:=L.dc
 obtain ⟨ks,h2,_⟩:=L.ls
 exact bA h1 h2 (by intro z;cases z)
theorem LateAt.stay (L:LateAt C H p d l s)(k:∀b o,b=p∨b=d∨b=l->H b=some o->H' b=some o)(t:∀b l,H b=some (.tup l)->H' b=some (.tup l)):LateAt C H' p d l s:=by
 obtain ⟨dx,h1⟩:=L.ob
 obtain ⟨ks,h2,r2⟩:=L.dc
 obtain ⟨xs,h3,r3⟩:=L.ls
 exact ⟨⟨dx,k _ _ (.inl rfl) h1⟩,⟨ks,k _ _ (.inr (.inl rfl)) h2,r2.stay t⟩,⟨xs,k _ _ (.inr (.inr rfl)) h3,r3.stay t⟩⟩
theorem LateAt.same (L:LateAt C H p d l s)(k:Same H H'):LateAt C H' p d l s:=L.stay (fun b o _ h=>k b o h) fun b l h=>k b _ h
end
def Fr3 (H:Hp)(l l':Addr):Prop:=l'=l∨H l'=none
abbrev lZ:Stmt:=bg (top 15) 8
theorem oy:FnScope ["self","name","worth"] ["self","name","worth"] (ao lZ):=fsc fun nd=>⟨rfl,rfl,rfl,nd,rfl,zi,zi⟩
def i3 (C:Addr):Sp:=fun vs H Q _=>∃ (p d l:Addr) (s:LS) (n:Str) (w:Int),vs=[.ref p,.str n,.int w]/\LateAt C H p d l s/\s.row.length<=1000/\s.there.length<=1000 /\
 ∀H',LateAt C H' p d l (Gm.enter slt s n w)->Kept [p,d,l] H H'->Q .non H'
theorem uc {H:Hp}{r a:Addr}{xs:List V}{es:List En}{e:En}{Q:VK}{E:XK}(h:H r=some (.lst xs))(rr:RR H xs es)(ha:H a=some (.tup (enV e)))(hl:es.length<=1000)
  (k:∀ys H',H' r=some (.lst ys)->RR H' ys (Hg.up lE es.length (es++[e]) es.length 0).1->Kept [r] H H'->Q (.int (Hg.up lE es.length (es++[e]) es.length 0).2) H'):qe [.ref r,.ref a] H Q E:=by
 have rs:=rr.snoc ha
 refine ⟨r,xs,.ref a,bI H,rfl,h,rs.en,by rw [rr.len];exact hl,fun H' h' kp=>?_⟩
 have em:=mK (H:=H) (f:=xs.length) (xs:=xs++[.ref a]) (p:=xs.length) (lk:=0)
 rw [rs.eq,rr.len] at em
 have kk:Kept [r] H H':=fun b o q n=>kp b o q fun z=>n (List.mem_singleton.mpr z)
 have:=k _ H' h' (by
  rw [em,rr.len]
  have r2:=rs.sub (ys:=(up (ltT (bI H)) es.length (xs++[.ref a]) es.length 0).1) fun y hy=>(dH (by rw [List.length_append,rr.len];exact Nat.lt_succ_self _)).mem_iff.mp hy
  exact r2.stay (kk.tups fun b hb ys z=>by rw [zm hb,h] at z;cases z)) kk
 rw [em] at this
 rw [rr.len]
 exact this
theorem rF {f C fa fb:Addr}{fd fda fdb:FuncData}(F:Fun K "enter" "Late.enter" lZ f fd)(T:Bl mg)(L:LT K C)(Glay_in:aA P w K mg base CX0 3 fa fda ["heap","entry"] qe)(Dlay_in:Nm K mg "lay_in" fa fda ["heap","entry"])
  (Mstamped:bP K C "stamped" fb) (Gstamped:aA P w K mg base CX0 1 fb fdb ["self","name","worth"] (iL C)) (Bstamped:Binds K fdb ["self","name","worth"] []):aA P w K mg base CX0 4 f fd ["self","name","worth"] (i3 C):=by
 have sc:=oy
 refine F.ok oy (fun vs H Q E h=>?_) (fun cdv A outer s H vs Q E hr h=>?_)
 .obtain ⟨p,d,l,s,n,w,rfl,_⟩:=h
  rfl
 obtain ⟨p,d,l,s,n,w,rfl,LA,h1,h2,k⟩:=h
 have hu:=hr.units0
 have npd:=LA.npd
 have npl:=LA.npl
 have ndl:=LA.ndl
 obtain ⟨dx,hp⟩:=LA.ob
 obtain ⟨ks,hd,kr⟩:=LA.dc
 obtain ⟨xs,hx,rr⟩:=LA.ls
 refine ⟨_,(QSs.to (aj (cG (qv 0) (aq aF (bf (qv 0) rfl) (qcl Glay_in hr Dlay_in aD (ad (bf (qv 0) rfl) (ad (bT (qv 0) L.cl Mstamped Gstamped hr.mo Bstamped .nil aD (ad (qv 1) (ad (qv 2) ah))) ah)))) rfl))),?_⟩
 refine ⟨_,rfl,p,C,dx,_,_,rfl,hp,L.cl,L.lk,ox,_,rfl,p,C,dx,_,_,rfl,hp,L.cl,L.en,hJ,_,rfl,p,dx,_,rfl,hp,lfn,_,rfl,_,rfl,p,dx,d,_,ks,n,w,s.stamp,rfl,hp,db,hd,yF,by show 5<=100;decide,by rw [kr.len];exact h2,fun q hq=>?_⟩
 have npq:p≠q:=am hp hq
 have ndq:d≠q:=am hd hq
 have nlq:l≠q:=am hx hq
 rw [yl (k:=0)]
 have q2:∀b o,H b=some o->b≠p->b≠d->(upd (upd (upd H q (.tup [.int w,.str n,.int s.stamp])) p (.ins C dx (lfs d l { s with stamp:=s.stamp+1 }))) d (.dK (aZ ks (Sum.inr n) (.ref q)))) b=some o:=fun b o e n1 n2=>by
  rw [ak n2,ak n1,ak (am e hq)];exact e
 have hq2:(upd (upd (upd H q (.tup [.int w,.str n,.int s.stamp])) p (.ins C dx (lfs d l { s with stamp:=s.stamp+1 }))) d (.dK (aZ ks (Sum.inr n) (.ref q)))) q=some (.tup (enV ⟨w,n,(s.stamp:Int)⟩)):=by
  rw [ak ndq.symm,ak npq.symm,af];rfl
 have hp2:(upd (upd (upd H q (.tup [.int w,.str n,.int s.stamp])) p (.ins C dx (lfs d l { s with stamp:=s.stamp+1 }))) d (.dK (aZ ks (Sum.inr n) (.ref q)))) p=some (.ins C dx (lfs d l { s with stamp:=s.stamp+1 })):=by
  rw [ak npd,af]
 have hd2:(upd (upd (upd H q (.tup [.int w,.str n,.int s.stamp])) p (.ins C dx (lfs d l { s with stamp:=s.stamp+1 }))) d (.dK (aZ ks (Sum.inr n) (.ref q)))) d=some (.dK (aZ ks (Sum.inr n) (.ref q))):=af
 have kk2:Kept [p,d,l] H (upd (upd (upd H q (.tup [.int w,.str n,.int s.stamp])) p (.ins C dx (lfs d l { s with stamp:=s.stamp+1 }))) d (.dK (aZ ks (Sum.inr n) (.ref q)))):=fun b o e nb=>q2 b o e (fun z=>nb (z▸by simp)) (fun z=>nb (z▸by simp))
 generalize (upd (upd (upd H q (.tup [.int w,.str n,.int s.stamp])) p (.ins C dx (lfs d l { s with stamp:=s.stamp+1 }))) d (.dK (aZ ks (Sum.inr n) (.ref q))))=H2 at q2 hq2 hp2 hd2 kk2 ⊢
 have t2:=kk2.tups LA.notup
 have hx2:=q2 l _ hx npl.symm ndl.symm
 unfold lL
 dsimp only [List.cons_append,List.nil_append]
 refine uc hx2 (rr.stay t2) hq2 h1 fun ys H3 h3 rr3 k3=>?_
 have pn:p∉[l]:=fun z=>npl (zm z)
 have dn':d∉[l]:=fun z=>ndl (zm z)
 have hp3:=k3 p _ hp2 pn
 have t3:=k3.tups (fun b hb zs z=>by rw [zm hb,hx2] at z;cases z)
 refine ⟨_,_,rfl,rfl,_,rfl,p,C,dx,_,rfl,hp3,L.cl,L.lk,by show 5<1000;decide,?_⟩
 have e6:=p5 (d:=d) (l:=l) (s:={ s with stamp:=s.stamp+1 }) (k:=(Hg.up lE s.row.length (s.row++[⟨w,n,(s.stamp:Int)⟩]) s.row.length 0).2)
 have e7:bF ("looks":Str) (.int ((s.looks:Int)+((Hg.up lE s.row.length (s.row++[⟨w,n,(s.stamp:Int)⟩]) s.row.length 0).2:Nat))) (lfs d l { s with stamp:=s.stamp+1 })=lfs d l (Gm.enter slt s n w):=e6
 rw [e7]
 have t4:∀b zs,H3 b=some (.tup zs)->(upd H3 p (.ins C dx (lfs d l (Gm.enter slt s n w)))) b=some (.tup zs):=fun b zs z=>by rw [ak (bA z hp3 (by intro y;cases y))];exact z
 refine k _ ⟨⟨dx,af⟩,⟨_,by rw [ak npd.symm];exact k3 d _ hd2 dn',((((kr.stay t2).put hq2).stay t3).stay t4)⟩,⟨ys,by rw [ak npl.symm];exact h3,rr3.stay t4⟩⟩ ?_
 exact (kk2.trans (k3.mono fun b hb=>by rw [zm hb];simp)).put zl
abbrev rB:Stmt:=bg (top 15) 9
theorem pV:FnScope ["self"] ["self"] (ao rB):=fsc fun nd=>⟨rfl,rfl,rfl,nd,rfl,zi,zi⟩
def kS (C:Addr):Sp:=fun vs H Q _=>∃ (p d l:Addr) (s:LS),vs=[.ref p]/\LateAt C H p d l s/\0<s.row.length/\s.row.length<=1000/\∀H',LateAt C H' p d l (Gm.cut slt s)->Kept [p,l] H H'->Q .non H'
theorem uU {H:Hp}{r:Addr}{xs:List V}{es:List En}{Q:VK}{E:XK}(h:H r=some (.lst xs))(rr:RR H xs es)(h0:0<es.length)(hl:es.length<=1000)
  (k:∀ys H',H' r=some (.lst ys)->RR H' ys (Hg.cutf lE es).1->Kept [r] H H'->Q (.int (Hg.cutf lE es).2) H'):qy [.ref r] H Q E:=by
 refine ⟨r,xs,bI H,rfl,h,rr.en,by rw [rr.len];exact h0,by rw [rr.len];exact hl,fun H' h' kp=>?_⟩
 have em:=oq (H:=H) (xs:=xs)
 rw [rr.eq] at em
 have kk:Kept [r] H H':=fun b o q n=>kp b o q fun z=>n (List.mem_singleton.mpr z)
 have:=k _ H' h' (by
  rw [em]
  have r2:=rr.sub (ys:=(cutf (ltT (bI H)) xs).1) fun y hy=>(cL (by rw [rr.len];exact h0)).mem_iff.mp (List.mem_cons_of_mem _ hy)
  exact r2.stay (kk.tups fun b hb ys z=>by rw [zm hb,h] at z;cases z)) kk
 rw [em] at this
 exact this
theorem uL {f C fa:Addr}{fd fda:FuncData}(F:Fun K "cut" "Late.cut" rB f fd)(T:Bl mg)(L:LT K C)(Gcut_first:aA P w K mg base CX0 3 fa fda ["heap"] qy)(Dcut_first:Nm K mg "cut_first" fa fda ["heap"]):aA P w K mg base CX0 4 f fd ["self"] (kS C):=by
 have sc:=pV
 refine F.ok pV (fun vs H Q E h=>?_) (fun cdv A outer s H vs Q E hr h=>?_)
 .obtain ⟨p,d,l,s,rfl,_⟩:=h
  rfl
 obtain ⟨p,d,l,s,rfl,LA,h0,h1,k⟩:=h
 have hu:=hr.units0
 have npd:=LA.npd
 have npl:=LA.npl
 have ndl:=LA.ndl
 obtain ⟨dx,hp⟩:=LA.ob
 obtain ⟨ks,hd,kr⟩:=LA.dc
 obtain ⟨xs,hx,rr⟩:=LA.ls
 refine ⟨_,(QSs.to (aj (cG (qv 0) (aq aF (bf (qv 0) rfl) (qcl Gcut_first hr Dcut_first aD (ad (bf (qv 0) rfl) ah))) rfl))),?_⟩
 refine ⟨_,rfl,p,C,dx,_,_,rfl,hp,L.cl,L.lk,ox,_,rfl,p,C,dx,_,_,rfl,hp,L.cl,L.en,hJ,?_⟩
 unfold lL
 dsimp only [List.cons_append,List.nil_append]
 refine uU hx rr h0 h1 fun ys H3 h3 rr3 k3=>?_
 have pn:p∉[l]:=fun z=>npl (zm z)
 have dn':d∉[l]:=fun z=>ndl (zm z)
 have hp3:=k3 p _ hp pn
 have t3:=k3.tups (fun b hb zs z=>by rw [zm hb,hx] at z;cases z)
 refine ⟨_,_,rfl,rfl,_,rfl,p,C,dx,_,rfl,hp3,L.cl,L.lk,by show 5<1000;decide,?_⟩
 have e7:bF ("looks":Str) (.int ((s.looks:Int)+((Hg.cutf lE s.row).2:Nat))) (lfs d l s)=lfs d l (Gm.cut slt s):=p5
 rw [e7]
 have t4:∀b zs,H3 b=some (.tup zs)->(upd H3 p (.ins C dx (lfs d l (Gm.cut slt s)))) b=some (.tup zs):=fun b zs z=>by rw [ak (bA z hp3 (by intro y;cases y))];exact z
 refine k _ ⟨⟨dx,af⟩,⟨ks,by rw [ak npd.symm];exact k3 d _ hd dn',(kr.stay t3).stay t4⟩,⟨ys,by rw [ak npl.symm];exact h3,rr3.stay t4⟩⟩ ?_
 exact (k3.mono fun b hb=>by rw [zm hb];simp).put zl
theorem LateAt.fresh {C p d l l':Addr}{H H2:Hp}{s:LS}(L:LateAt C H2 p d l s)(k:Kept [p,d,l] H H2)(z:H2 l'=none):H l'=none:=by
 obtain ⟨dx,h1⟩:=L.ob
 obtain ⟨ks,h2,_⟩:=L.dc
 obtain ⟨xs,h3,_⟩:=L.ls
 refine k.none z fun hb=>?_
 simp only [List.mem_cons,List.not_mem_nil,or_false] at hb
 rcases hb with rfl | rfl | rfl
 .rw [h1] at z;cases z
 .rw [h2] at z;cases z
 rw [h3] at z;cases z
theorem pq {H:Hp}{r:Addr}{xs:List V}{es:List En}{Q:VK}{E:XK}(h:H r=some (.lst xs))(rr:RR H xs es)(hl:es.length<=1000)
  (k:∀ys H',H' r=some (.lst ys)->RR H' ys (Hg.mk lE (es.length / 2) es 0).1->Kept [r] H H'->Q (.int (Hg.mk lE (es.length / 2) es 0).2) H'):ji [.ref r] H Q E:=by
 refine ⟨r,xs,bI H,rfl,h,rr.en,by rw [rr.len];exact hl,fun H' h' kp=>?_⟩
 have em:=kU (H:=H) (k:=xs.length / 2) (xs:=xs) (lk:=0)
 rw [rr.eq,rr.len] at em
 rw [rr.len] at h' ⊢
 have kk:Kept [r] H H':=fun b o q n=>kp b o q fun z=>n (List.mem_singleton.mpr z)
 have:=k _ H' h' (by
  rw [em]
  have r2:=rr.sub (ys:=(mk (ltT (bI H)) (es.length / 2) xs 0).1) fun y hy=>mk_perm.mem_iff.mp hy
  exact r2.stay (kk.tups fun b hb ys z=>by rw [zm hb,h] at z;cases z)) kk
 rw [em] at this
 exact this
abbrev jf:Stmt:=bg (top 15) 11
theorem ol:FnScope ["self","gone"] ["self"] (ao jf):=fsc fun nd=>⟨rfl,rfl,rfl,nd,rfl,zi,zi⟩
def fq (C:Addr):Sp:=fun vs H Q _=>∃ (p d l:Addr) (s:LS),vs=[.ref p]/\LateAt C H p d l s/\s.row.length<=1000/\∀l' H',LateAt C H' p d l' (Gm.sweep slt s)->Kept [p,d,l] H H'->Fr3 H l l'->Q .non H'
theorem kC {α:Type}{xs:List α}{f:α->Bool}{i:Nat}{x:α}(h:xs[i]?=some x):(xs.take (i+1)).filter f=(xs.take i).filter f++(if f x=true then [x] else []):=by
 rw [List.take_add_one,h,List.filter_append]
 congr 1
 show List.filter f [x]=_
 by_cases z:f x=true
 .rw [if_pos z,List.filter_cons,if_pos z,List.filter_nil]
 rw [if_neg z,List.filter_cons,if_neg z,List.filter_nil]
theorem qp {f C fa fholds:Addr}{fd fda fdholds:FuncData}(F:Fun K "sweep_if_due" "Late.sweep_if_due" jf f fd)(T:Bl mg)(L:LT K C)(Gorder:aA P w K mg base CX0 3 fa fda ["heap"] ji)(Dorder:Nm K mg "order" fa fda ["heap"])(Mholds:bP K C "holds" fholds)(Gholds:aA P w K mg base CX0 1 fholds fdholds ["self","entry"] (jh C))(Bholds:Binds K fdholds ["self","entry"] []):aA P w K mg base CX0 4 f fd ["self"] (fq C):=by
 have sc:=ol
 refine F.ok ol (fun vs H Q E h=>?_) (fun cdv A outer s H vs Q E hr h=>?_)
 .obtain ⟨p,d,l,s,rfl,_⟩:=h
  rfl
 obtain ⟨p,d,l,s,rfl,LA,h1,kQ⟩:=h
 have hu:=hr.units0
 have npd:=LA.npd
 have npl:=LA.npl
 have ndl:=LA.ndl
 obtain ⟨dx,hp⟩:=LA.ob
 obtain ⟨ks,hd,kr⟩:=LA.dc
 obtain ⟨xs,hx,rr⟩:=LA.ls
 refine ⟨_,(QSs.to (ae (qst 1 sc.nd (aq bp (qcB aG T.z_len (ad (bf (qv 0) rfl) ah)) (qcB cI T.z_len (ad (bf (qv 0) rfl) ah))))
  (aj (aR (QW.pt (fz (ar fZ (qv 1) (qcB cI T.z_len (ad (bf (qv 0) rfl) ah)) (az _)) (dI (ar fZ (qv 1) (bf (qv 0) rfl) (az _))))) (ae (cG (qv 0) (cu (Blk.of (N:=["self","gone"]) (esc:=ao jf) (NB:=["self"]) (cap:=[0]) rfl rfl (fun y hy=>bo hy) rfl zi zi zi rfl zi rfl zi) rfl rfl (bS (bf (qv 0) rfl)) (fun C fp s₀ H₀=>(jq (hU (bT (qv 1) L.cl Mholds Gholds hr.mo Bholds .nil aD (ad (qv 0) ah))))) (fun C fp s₀ H₀=>(qv 0))) rfl)
  (aj (cG (qv 0) (aq aF (bf (qv 0) rfl) (qcl Gorder hr Dorder aD (ad (bf (qv 0) rfl) ah))) rfl))) ay)))),?_⟩
 refine ⟨_,rfl,p,C,dx,_,_,rfl,hp,L.cl,L.en,hJ,l,_,rfl,.inl (SqL.of hx),_,rfl,p,C,dx,_,_,rfl,hp,L.cl,L.nt.th,db,d,ks,rfl,hd,_,_,rfl,rfl,?_⟩
 have lx:(xs.length:Int)=s.row.length:=by rw [rr.len]
 have lk:(ks.length:Int)=s.there.length:=by rw [kr.len]
 rw [lx,lk]
 have no:∀(hn:¬ Gm.due s=true),Q .non H:=fun hn=>by
  have e:Gm.sweep slt s=s:=by unfold Gm.sweep;rw [if_neg hn]
  refine kQ l H (by rw [e];exact LA) Kept.refl (.inl rfl)
 refine ⟨_,rfl,_,rfl,p,C,dx,_,_,rfl,hp,L.cl,L.nt.th,db,d,ks,rfl,hd,_,_,rfl,rfl,_,rfl,?_⟩
 rw [lk]
 refine aE (fun c1=>⟨_,rfl,_,rfl,p,C,dx,_,_,rfl,hp,L.cl,L.sk,xS,_,_,rfl,rfl,_,rfl,aE (fun c2=>?_) (fun c2=>no ?_)⟩) (fun c1=>gf (no ?_))
 rotate_left
 .unfold Gm.due
  rw [Bool.and_eq_true]
  exact fun z=>c2 z.2
 .unfold Gm.due
  rw [Bool.and_eq_true]
  exact fun z=>c1 z.1
 have hdue:Gm.due s=true:=by
  unfold Gm.due
  rw [Bool.and_eq_true]
  exact ⟨c1,c2⟩
 refine ⟨_,rfl,p,C,dx,_,_,rfl,hp,L.cl,L.en,hJ,l,rfl,⟨_,SqL.of hx⟩,fun D hD=>?_⟩
 refine bW (K:=K) (a:=l) (xs:=xs) (fun i ys H4=>H4 D=some (.lst ys)/\ys=(xs.take i).filter (fun x=>Gm.holds s.there (tE H x))/\Same H H4) ⟨af,rfl,ai hD⟩ (fun i ys H4 z=>⟨z.1,SqL.of (z.2.2 _ _ hx)⟩) ?_ ?_
 .rintro i x ys H4 hi ⟨h4,e4,s4⟩
  have mx:=List.mem_of_getElem? hi
  have li:i<xs.length:=(List.getElem?_eq_some_iff.mp hi).1
  obtain ⟨a,rfl,ha⟩:=rr.mem x mx
  refine ⟨_,rfl,p,dx,_,rfl,s4 _ _ hp,lfn,_,rfl,p,dx,d,_,ks,s.there,a,tE H (.ref a),rfl,s4 _ _ hp,db,s4 _ _ hd,kr.stay (fun b l h=>s4 _ _ h),s4 _ _ ha,_,rfl,?_⟩
  have ft:=kC (f:=fun x=>Gm.holds s.there (tE H x)) hi
  refine aE (fun c3=>⟨_,rfl,h4,?_,_,zk,rfl,zk,af,?_,cp s4 hD⟩) (fun c3=>⟨_,zk,rfl,zk,h4,?_,s4⟩)
  .rw [e4]
   exact Nat.lt_of_le_of_lt (Nat.le_trans (List.length_filter_le _ _) (List.length_take_le _ _)) (aH (by have:=rr.len;lia))
  .rw [ft,if_pos c3,e4]
  .rw [ft,if_neg c3,List.append_nil,e4]
 rintro ys H4 ⟨h4,e4,s4⟩
 rw [List.take_length] at e4
 have hp4:=s4 _ _ hp
 refine ⟨_,rfl,p,C,dx,_,rfl,hp4,L.cl,L.en,by show 5<1000;decide,?_⟩
 rw [x9]
 have npD:p≠D:=am hp hD
 have ndD:d≠D:=am hd hD
 have t5:∀b zs,H b=some (.tup zs)->(upd H4 p (.ins C dx (lfs d D s))) b=some (.tup zs):=fun b zs z=>by rw [ak (bA z hp (by intro y;cases y))];exact s4 _ _ z
 have r5:RR (upd H4 p (.ins C dx (lfs d D s))) ys (s.row.filter (Gm.holds s.there)):=by
  have r0:=(rr.sub (ys:=ys) fun y hy=>by rw [e4] at hy;exact (List.mem_filter.mp hy).1).stay t5
  have em:ys.map (tE H)=s.row.filter (Gm.holds s.there):=by
   rw [e4,<-rr.eq,List.filter_map]
   rfl
  rw [em] at r0
  exact r0
 have hD5:(upd H4 p (.ins C dx (lfs d D s))) D=some (.lst ys):=by rw [ak npD.symm];exact h4
 have hd5:(upd H4 p (.ins C dx (lfs d D s))) d=some (.dK ks):=by rw [ak npd.symm];exact s4 _ _ hd
 have hp5:(upd H4 p (.ins C dx (lfs d D s))) p=some (.ins C dx (lfs d D s)):=af
 have k5:Kept [p,d,l] H (upd H4 p (.ins C dx (lfs d D s))):=(Kept.of_same s4).put zl
 generalize (upd H4 p (.ins C dx (lfs d D s)))=H5 at t5 r5 hD5 hd5 hp5 k5 ⊢
 refine ⟨_,rfl,p,C,dx,_,_,rfl,hp5,L.cl,L.lk,ox,_,rfl,p,C,dx,_,_,rfl,hp5,L.cl,L.en,hJ,?_⟩
 unfold lL
 dsimp only [List.cons_append,List.nil_append]
 refine pq hD5 r5 (Nat.le_trans (List.length_filter_le _ _) h1) fun zs H6 h6 r6 k6=>?_
 have pn:p∉[D]:=fun z=>npD (zm z)
 have dn':d∉[D]:=fun z=>ndD (zm z)
 have hp6:=k6 p _ hp5 pn
 have t6:=k6.tups (fun b hb zs z=>by rw [zm hb,hD5] at z;cases z)
 refine ⟨_,_,rfl,rfl,_,rfl,p,C,dx,_,rfl,hp6,L.cl,L.lk,by show 5<1000;decide,?_⟩
 have e7:bF ("looks":Str) (.int ((s.looks:Int)+((Hg.mk lE ((s.row.filter (Gm.holds s.there)).length / 2) (s.row.filter (Gm.holds s.there)) 0).2:Nat))) (lfs d D s)=lfs d D (Gm.swept slt s):=p5
 rw [e7]
 have es:Gm.sweep slt s=Gm.swept slt s:=by unfold Gm.sweep;rw [if_pos hdue]
 have t7:∀b zs,H6 b=some (.tup zs)->(upd H6 p (.ins C dx (lfs d D (Gm.swept slt s)))) b=some (.tup zs):=fun b zs z=>by rw [ak (bA z hp6 (by intro y;cases y))];exact z
 refine kQ D _ (by rw [es];exact ⟨⟨dx,af⟩,⟨ks,by rw [ak npd.symm];exact k6 d _ hd5 dn',((kr.stay t5).stay t6).stay t7⟩,⟨zs,by rw [ak npD.symm];exact h6,r6.stay t7⟩⟩) ?_ (.inr hD)
 refine Kept.put (fun b o e nb=>?_) zl
 exact k6 b o (k5 b o e nb) fun z=>by rw [zm z] at e;rw [hD] at e;cases e
abbrev mP:Stmt:=bg (top 15) 0
theorem nI:FnScope ["self","slack"] ["self","slack"] (ao mP):=fsc fun nd=>⟨rfl,rfl,rfl,nd,rfl,zi,zi⟩
def n8 (C:Addr):Sp:=fun vs H Q _=>∃ (p dx:Addr) (z:Int),vs=[.ref p,.int z]/\H p=some (.ins C dx [])/\∀d l H',H d=none->H l=none->LateAt C H' p d l (Gm.newL z)->Kept [p] H H'->Q .non H'
theorem gb {f C CNamed fa:Addr}{mc:Value}{fd fda:FuncData}(F:Fun K "__init__" "Late.__init__" mP f fd)(T:Bl mg)(L:LT K C)(mNamed:mg "Named"=some (.ref CNamed))(MNamed__init__:ue K CNamed mc "__init__" fa)(GNamed__init__:aA P w K mg base CX0 1 fa fda ["self"] (nK C))(BNamed__init__:Binds K fda ["self"] []):aA P w K mg base CX0 2 f fd ["self","slack"] (n8 C):=by
 have sc:=nI
 refine F.ok nI (fun vs H Q E h=>?_) (fun cdv A outer s H vs Q E hr h=>?_)
 .obtain ⟨p,dx,z,rfl,_⟩:=h
  rfl
 obtain ⟨p,dx,z,rfl,hp,kQ⟩:=h
 have hu:=hr.units0
 refine ⟨_,(QSs.to (ae (aK (uj (oJ (v:=.ref CNamed) rfl mNamed rfl) MNamed__init__ GNamed__init__ hr.mo BNamed__init__ .nil aD (ad (qv 0) ah)))
  (ae (cG (qv 0) (qv 1) rfl)
  (ae (cG (qv 0) (aM ah) rfl)
  (aj (cG (qv 0) ag rfl)))))),?_⟩
 refine ⟨_,rfl,p,dx,rfl,hp,fun d hd=>?_⟩
 have npd:p≠d:=am hp hd
 refine ⟨_,rfl,_,rfl,p,C,dx,_,rfl,af,L.cl,L.sk,by show 2<1000;decide,?_⟩
 refine ⟨sz0,fun l hl=>?_⟩
 have hl0:H l=none:=by
  cases q:H l with
  | none=>rfl
  | some o =>
   have h1:l≠p:=fun z=>by rw [z,af] at hl;cases hl
   have h2:l≠d:=fun z=>by rw [z,hd] at q;cases q
   rw [ak h1,ak h1,ak h1,ak h2,q] at hl
   cases hl
 have npl:p≠l:=am hp hl0
 have ndl:d≠l:=fun z=>by rw [<-z,ak npd.symm,ak npd.symm,ak npd.symm,af] at hl;cases hl
 refine ⟨_,rfl,p,C,dx,_,rfl,by rw [ak npl,af],L.cl,L.en,by show 3<1000;decide,?_⟩
 refine ⟨_,rfl,p,C,dx,_,rfl,af,L.cl,L.lk,by show 4<1000;decide,?_⟩
 have e1:bF ("looks":Str) (.int 0) (bF ("entries":Str) (.ref l) (bF ("slack":Str) (.int z) [("there",V.ref d),("stamp",V.int 0)]))=lfs d l (Gm.newL z):=by
  rw [b9 d1,b9 d4]
  show bF ("looks":Str) (.int 0) (bF ("entries":Str) (.ref l) [("there",V.ref d),("stamp",V.int 0),("slack",V.int z)])=_
  rw [b9 d2,b9 d5,b9 d7]
  show bF ("looks":Str) (.int 0) [("there",V.ref d),("stamp",V.int 0),("slack",V.int z),("entries",.ref l)]=_
  rw [b9 d3,b9 d6,b9 d8,b9 d9]
  rfl
 rw [e1]
 refine kQ d l _ hd hl0 ⟨⟨dx,af⟩,⟨[],?_,.nil⟩,⟨[],?_,RR.nil⟩⟩ fun b o e nb=>?_
 .rw [ak npd.symm,ak npd.symm,ak ndl,ak npd.symm,ak npd.symm,ak npd.symm,af]
 .rw [ak npl.symm,ak npl.symm,af]
 have hb:b≠p:=fun z=>nb (List.mem_singleton.mpr z)
 rw [ak hb,ak hb,ak (am e hl0),ak hb,ak hb,ak hb,ak (am e hd)]
 exact e
abbrev mI:Stmt:=bg (top 15) 10
theorem ny:FnScope ["self"] ["self"] (ao mI):=fsc fun nd=>⟨rfl,rfl,rfl,nd,rfl,zi,zi⟩
def jp (C X:Addr):Sp:=fun vs H Q E=>∃ (p d l:Addr) (s:LS),vs=[.ref p]/\LateAt C H p d l s/\Gm.LInv slt s/\s.row.length<=1000 /\
 (s.there≠[]->∀a H',LateAt C H' p d l (Gm.leastL slt s)->H' a=some (.tup (enV (Hg.g (Gm.leastL slt s).row 0)))->Kept [p,d,l] H H'->Q (.ref a) H')/\(s.there=[]->E (.ref X) none H)
theorem gt {f C CN:Addr}{fneed_any fholds fcut:Addr}{fdneed_any fdholds fdcut:FuncData}{fd:FuncData}(F:Fun K "first_there" "Late.first_there" mI f fd)(T:Bl mg)(L:LT K C)(Mneed_any:bP K C "need_any" fneed_any)(Gneed_any:aA P w K mg base (CXe P w) 1 fneed_any fdneed_any ["self"] (vS C CN))(Bneed_any:Binds K fdneed_any ["self"] [])(Mholds:bP K C "holds" fholds)(Gholds:aA P w K mg base CX0 1 fholds fdholds ["self","entry"] (jh C))(Bholds:Binds K fdholds ["self","entry"] [])(Mcut:bP K C "cut" fcut)(Gcut:aA P w K mg base CX0 4 fcut fdcut ["self"] (kS C))(Bcut:Binds K fdcut ["self"] []):aA P w K mg base (CXe P w) 5 f fd ["self"] (jp C CN):=by
 have sc:=ny
 refine F.okE ny (fun vs H Q E h=>?_) (fun cdv A outer s H vs Q E hr h=>?_)
 .obtain ⟨p,d,l,s,rfl,_⟩:=h
  rfl
 obtain ⟨p,d,l,s,rfl,LA,LI,h1,kQ,kE⟩:=h
 have hu:=hr.units0
 have npd:=LA.npd
 have npl:=LA.npl
 have ndl:=LA.ndl
 obtain ⟨dx,hp⟩:=LA.ob
 obtain ⟨ks,hd,kr⟩:=LA.dc
 obtain ⟨xs,hx,rr⟩:=LA.ls
 refine ⟨_,(QSs.to (ae (aK (br (qv 0) L.cl Mneed_any Gneed_any hr.mo Bneed_any .nil (bK fun _ _ z=>z))) (QSs.mk (PSs.nox (QSs.to (ae (cq PassesOwn.never (dR (hU (bT (qv 0) L.cl Mholds Gholds hr.mo Bholds .nil aD (ad (au aw (bf (qv 0) rfl) ag pix) ah)))) (aj (aK (br (qv 0) L.cl Mcut Gcut hr.mo Bcut .nil aD))))
  (aj (aB (au aw (bf (qv 0) rfl) ag pix))))))))),?_⟩
 refine ⟨_,rfl,p,dx,_,rfl,hp,lfn,p,dx,d,_,ks,rfl,hp,db,hd,fun hne=>?_,fun he=>kE ?_⟩
 rotate_left
 .rw [he] at kr
  cases e:s.there with
  | nil=>rfl
  | cons a b=>rw [e] at kr;cases kr
 have hT:s.there≠[]:=fun z=>hne (by rw [z] at kr;cases kr;rfl)
 refine ⟨fun m σ H2=>∃ (f:Nat) (s2:LS),σ=[some (.ref p)]/\LateAt C H2 p d l s2/\Gm.LInv slt s2/\s2.there=s.there/\s2.row.length<=f/\s2.row.length<=s.row.length/\Gm.clean slt f s2=Gm.leastL slt s/\Kept [p,d,l] H H2/\m=s2.row.length,
  ⟨_,s.row.length,s,rfl,LA,LI,rfl,Nat.le_refl _,Nat.le_refl _,rfl,Kept.refl,rfl⟩,?_⟩
 rintro m σ H2 ⟨f,s2,rfl,LA2,LI2,e2,hf,hle,hc,k2,rfl⟩
 obtain ⟨dx2,hp2⟩:=LA2.ob
 obtain ⟨ks2,hd2,kr2⟩:=LA2.dc
 obtain ⟨xs2,hx2,rr2⟩:=LA2.ls
 have h0:=Gm.row_pos LI2 (by rw [e2];exact hT)
 obtain ⟨a,ea,ha,ia⟩:=rr2.at h0
 refine ⟨_,rfl,p,dx2,_,rfl,hp2,lfn,_,rfl,p,C,dx2,_,_,rfl,hp2,L.cl,L.en,hJ,l,_,_,_,rfl,rfl,SqL.of hx2,ia,p,dx2,d,_,ks2,s2.there,a,_,rfl,hp2,db,hd2,kr2,ha,_,rfl,aE (fun c1=>?_) (fun c1=>?_)⟩
 rotate_left
 .have c2:Gm.holds s2.there (Hg.g s2.row 0)=true:=by
   cases z:Gm.holds s2.there (Hg.g s2.row 0) with
   | true=>rfl
   | false=>exact absurd (show (!Gm.holds s2.there (Hg.g s2.row 0))=true by rw [z];rfl) c1
  have ec:Gm.leastL slt s=s2:=by
   rw [<-hc]
   cases f with
   | zero=>rfl
   | succ f=>unfold Gm.clean;rw [if_pos c2]
  refine ⟨_,rfl,p,C,dx2,_,_,rfl,hp2,L.cl,L.en,hJ,l,_,_,_,rfl,rfl,SqL.of hx2,ia,?_⟩
  exact kQ hT a H2 (by rw [ec];exact LA2) (by rw [ec];exact ha) k2
 have c2:¬ Gm.holds s2.there (Hg.g s2.row 0)=true:=fun z=>by
  have c3:(!Gm.holds s2.there (Hg.g s2.row 0))=true:=c1
  rw [z] at c3;cases c3
 obtain ⟨f,rfl⟩:∃ f0,f=f0+1:=⟨f-1,zk⟩
 have hc2:Gm.clean slt f (Gm.cut slt s2)=Gm.leastL slt s:=by
  rw [<-hc]
  conv=>rhs;unfold Gm.clean
  rw [if_neg c2]
 have lc:(Gm.cut slt s2).row.length=s2.row.length-1:=Hg.cutf_len
 refine ⟨fun σ' H'=>∃ m',m'<s2.row.length/\∃ (f:Nat) (s2:LS),σ'=[some (.ref p)]/\LateAt C H' p d l s2/\Gm.LInv slt s2/\s2.there=s.there/\s2.row.length<=f/\s2.row.length<=s.row.length/\Gm.clean slt f s2=Gm.leastL slt s/\Kept [p,d,l] H H'/\m'=s2.row.length,fun σ' H' z=>z,?_⟩
 refine ⟨_,rfl,p,dx2,_,rfl,hp2,lfn,p,d,l,s2,rfl,LA2,h0,zk,fun H3 L3 k3=>?_⟩
 exact ⟨(Gm.cut slt s2).row.length,zk,f,Gm.cut slt s2,rfl,L3,Gm.cut_inv slt_slo LI2 h0 c2,e2,zk,zk,hc2,k2.trans (k3.mono fun b hb=>by simp only [List.mem_cons,List.not_mem_nil,or_false] at hb ⊢;rcases hb with h | h <;> simp [h]),rfl⟩
abbrev qS:Stmt:=bg (top 15) 1
theorem qo:FnScope ["self","name","worth"] ["self","name","worth"] (ao qS):=fsc fun nd=>⟨rfl,rfl,rfl,nd,rfl,zi,zi⟩
def qx (C X:Addr):Sp:=fun vs H Q E=>∃ (p d l:Addr) (s:LS) (n:Str) (w:Int),vs=[.ref p,.str n,.int w]/\LateAt C H p d l s/\s.row.length<=900/\s.there.length<=900/\n.length<=1000 /\
 (Gm.dget s.there n=none->∀l' H',LateAt C H' p d l' (Gm.putL slt s n w)->Kept [p,d,l] H H'->Fr3 H l l'->Q .non H')/\(Gm.dget s.there n≠none->E (.ref X) none H)
theorem vZ {f C CC:Addr}{fneed_free fsweep_if_due fenter:Addr}{fdneed_free fdsweep_if_due fdenter:FuncData}{fd:FuncData}(F:Fun K "put" "Late.put" qS f fd)(T:Bl mg)(L:LT K C)(Mneed_free:bP K C "need_free" fneed_free)(Gneed_free:aA P w K mg base (CXe P w) 1 fneed_free fdneed_free ["self","name"] (pQ C CC))(Bneed_free:Binds K fdneed_free ["self","name"] [])(Msweep_if_due:bP K C "sweep_if_due" fsweep_if_due)(Gsweep_if_due:aA P w K mg base CX0 4 fsweep_if_due fdsweep_if_due ["self"] (fq C))(Bsweep_if_due:Binds K fdsweep_if_due ["self"] [])(Menter:bP K C "enter" fenter)(Genter:aA P w K mg base CX0 4 fenter fdenter ["self","name","worth"] (i3 C))(Benter:Binds K fdenter ["self","name","worth"] []):aA P w K mg base (CXe P w) 5 f fd ["self","name","worth"] (qx C CC):=by
 have sc:=qo
 refine F.okE qo (fun vs H Q E h=>?_) (fun cdv A outer s H vs Q E hr h=>?_)
 .obtain ⟨p,d,l,s,n,w,rfl,_⟩:=h
  rfl
 obtain ⟨p,d,l,s,n,w,rfl,LA,h1,h2,hn,kQ,kE⟩:=h
 have hu:=hr.units0
 have npd:=LA.npd
 have npl:=LA.npl
 have ndl:=LA.ndl
 obtain ⟨dx,hp⟩:=LA.ob
 obtain ⟨ks,hd,kr⟩:=LA.dc
 obtain ⟨xs,hx,rr⟩:=LA.ls
 refine ⟨_,(QSs.to (ae (aK (bT (qv 0) L.cl Mneed_free Gneed_free hr.mo Bneed_free .nil (bK fun _ _ z=>z) (ad (qv 1) ah)))
  (ae (aK (bT (qv 0) L.cl Menter Genter hr.mo Benter .nil aD (ad (qv 1) (ad (qv 2) ah))))
  (aj (aK (br (qv 0) L.cl Msweep_if_due Gsweep_if_due hr.mo Bsweep_if_due .nil aD)))))),?_⟩
 refine ⟨_,rfl,p,dx,_,rfl,hp,lfn,_,rfl,p,dx,d,_,ks,n,rfl,hp,db,hd,hn,fun cs=>?_,fun cs=>?_⟩
 .rcases kr.get n with ⟨e1,e2⟩ | ⟨a,e,e1,e2,ha⟩
  rotate_left
  .rw [e1] at cs;cases cs
  refine ⟨_,rfl,p,dx,_,rfl,hp,lfn,_,rfl,_,rfl,p,d,l,s,n,w,rfl,LA,zk,zk,fun H2 L2 k2=>?_⟩
  obtain ⟨dx2,hp2⟩:=L2.ob
  refine ⟨_,rfl,p,dx2,_,rfl,hp2,lfn,p,d,l,_,rfl,L2,?_,fun l' H3 L3 k3 f3=>?_⟩
  .show (Gm.enter slt s n w).row.length<=1000
   rw [Gm.enter_row_perm.length_eq,List.length_append]
   show s.row.length+1<=1000
   lia
  .exact kQ e2 l' H3 L3 (k2.trans k3) (f3.imp id fun z=>L2.fresh k2 z)
 rcases kr.get n with ⟨e1,e2⟩ | ⟨a,e,e1,e2,ha⟩
 .rw [e1] at cs;cases cs
 exact kE (by rw [e2];intro z;cases z)
abbrev gY:Stmt:=bg (top 15) 3
theorem iF:FnScope ["self","name","worth"] ["self","name","worth"] (ao gY):=fsc fun nd=>⟨rfl,rfl,rfl,nd,rfl,zi,zi⟩
def iw (C X:Addr):Sp:=fun vs H Q E=>∃ (p d l:Addr) (s:LS) (n:Str) (w:Int),vs=[.ref p,.str n,.int w]/\LateAt C H p d l s/\s.row.length<=900/\s.there.length<=900/\n.length<=1000 /\
 (Gm.dget s.there n≠none->∀l' H',LateAt C H' p d l' (Gm.putL slt s n w)->Kept [p,d,l] H H'->Fr3 H l l'->Q .non H')/\(Gm.dget s.there n=none->E (.ref X) none H)
theorem pF {f C CN:Addr}{fneed fsweep_if_due fenter:Addr}{fdneed fdsweep_if_due fdenter:FuncData}{fd:FuncData}(F:Fun K "change" "Late.change" gY f fd)(T:Bl mg)(L:LT K C)(Mneed:bP K C "need" fneed)(Gneed:aA P w K mg base (CXe P w) 1 fneed fdneed ["self","name"] (lJ C CN))(Bneed:Binds K fdneed ["self","name"] [])(Msweep_if_due:bP K C "sweep_if_due" fsweep_if_due)(Gsweep_if_due:aA P w K mg base CX0 4 fsweep_if_due fdsweep_if_due ["self"] (fq C))(Bsweep_if_due:Binds K fdsweep_if_due ["self"] [])(Menter:bP K C "enter" fenter)(Genter:aA P w K mg base CX0 4 fenter fdenter ["self","name","worth"] (i3 C))(Benter:Binds K fdenter ["self","name","worth"] []):aA P w K mg base (CXe P w) 5 f fd ["self","name","worth"] (iw C CN):=by
 have sc:=iF
 refine F.okE iF (fun vs H Q E h=>?_) (fun cdv A outer s H vs Q E hr h=>?_)
 .obtain ⟨p,d,l,s,n,w,rfl,_⟩:=h
  rfl
 obtain ⟨p,d,l,s,n,w,rfl,LA,h1,h2,hn,kQ,kE⟩:=h
 have hu:=hr.units0
 have npd:=LA.npd
 have npl:=LA.npl
 have ndl:=LA.ndl
 obtain ⟨dx,hp⟩:=LA.ob
 obtain ⟨ks,hd,kr⟩:=LA.dc
 obtain ⟨xs,hx,rr⟩:=LA.ls
 refine ⟨_,(QSs.to (ae (aK (bT (qv 0) L.cl Mneed Gneed hr.mo Bneed .nil (bK fun _ _ z=>z) (ad (qv 1) ah)))
  (ae (aK (bT (qv 0) L.cl Menter Genter hr.mo Benter .nil aD (ad (qv 1) (ad (qv 2) ah))))
  (aj (aK (br (qv 0) L.cl Msweep_if_due Gsweep_if_due hr.mo Bsweep_if_due .nil aD)))))),?_⟩
 refine ⟨_,rfl,p,dx,_,rfl,hp,lfn,_,rfl,p,dx,d,_,ks,n,rfl,hp,db,hd,hn,fun cs=>?_,fun cs=>?_⟩
 .rcases kr.get n with ⟨e1,e2⟩ | ⟨a,e,e1,e2,ha⟩
  .rw [e1] at cs;cases cs
  refine ⟨_,rfl,p,dx,_,rfl,hp,lfn,_,rfl,_,rfl,p,d,l,s,n,w,rfl,LA,zk,zk,fun H2 L2 k2=>?_⟩
  obtain ⟨dx2,hp2⟩:=L2.ob
  refine ⟨_,rfl,p,dx2,_,rfl,hp2,lfn,p,d,l,_,rfl,L2,?_,fun l' H3 L3 k3 f3=>?_⟩
  .show (Gm.enter slt s n w).row.length<=1000
   rw [Gm.enter_row_perm.length_eq,List.length_append]
   show s.row.length+1<=1000
   lia
  .exact kQ (by rw [e2];intro z;cases z) l' H3 L3 (k2.trans k3) (f3.imp id fun z=>L2.fresh k2 z)
 rcases kr.get n with ⟨e1,e2⟩ | ⟨a,e,e1,e2,ha⟩
 .exact kE e2
 rw [e1] at cs;cases cs
abbrev kY:Stmt:=bg (top 15) 2
theorem oM:FnScope ["self","name"] ["self","name"] (ao kY):=fsc fun nd=>⟨rfl,rfl,rfl,nd,rfl,zi,zi⟩
def n0 (C X:Addr):Sp:=fun vs H Q E=>∃ (p d l:Addr) (s:LS) (n:Str),vs=[.ref p,.str n]/\LateAt C H p d l s/\s.row.length<=900/\s.there.length<=900/\n.length<=1000 /\
 (Gm.dget s.there n≠none->∀l' H',LateAt C H' p d l' (Gm.dropL slt s n)->Kept [p,d,l] H H'->Fr3 H l l'->Q .non H')/\(Gm.dget s.there n=none->E (.ref X) none H)
theorem sZ {f C CN:Addr}{fneed fsweep_if_due:Addr}{fdneed fdsweep_if_due:FuncData}{fd:FuncData}(F:Fun K "drop" "Late.drop" kY f fd)(T:Bl mg)(L:LT K C)(Mneed:bP K C "need" fneed)(Gneed:aA P w K mg base (CXe P w) 1 fneed fdneed ["self","name"] (lJ C CN))(Bneed:Binds K fdneed ["self","name"] [])(Msweep_if_due:bP K C "sweep_if_due" fsweep_if_due)(Gsweep_if_due:aA P w K mg base CX0 4 fsweep_if_due fdsweep_if_due ["self"] (fq C))(Bsweep_if_due:Binds K fdsweep_if_due ["self"] []):aA P w K mg base (CXe P w) 5 f fd ["self","name"] (n0 C CN):=by
 have sc:=oM
 refine F.okE oM (fun vs H Q E h=>?_) (fun cdv A outer s H vs Q E hr h=>?_)
 .obtain ⟨p,d,l,s,n,rfl,_⟩:=h
  rfl
 obtain ⟨p,d,l,s,n,rfl,LA,h1,h2,hn,kQ,kE⟩:=h
 have hu:=hr.units0
 have npd:=LA.npd
 have npl:=LA.npl
 have ndl:=LA.ndl
 obtain ⟨dx,hp⟩:=LA.ob
 obtain ⟨ks,hd,kr⟩:=LA.dc
 obtain ⟨xs,hx,rr⟩:=LA.ls
 refine ⟨_,(QSs.to (ae (aK (bT (qv 0) L.cl Mneed Gneed hr.mo Bneed .nil (bK fun _ _ z=>z) (ad (qv 1) ah)))
  (ae (aK (eA (bf (qv 0) rfl) (qv 1) ⟨rfl,rfl,rfl,rfl⟩))
  (aj (aK (br (qv 0) L.cl Msweep_if_due Gsweep_if_due hr.mo Bsweep_if_due .nil aD)))))),?_⟩
 refine ⟨_,rfl,p,dx,_,rfl,hp,lfn,_,rfl,p,dx,d,_,ks,n,rfl,hp,db,hd,hn,fun cs=>?_,fun cs=>?_⟩
 .rcases kr.get n with ⟨e1,e2⟩ | ⟨a,e,e1,e2,ha⟩
  .rw [e1] at cs;cases cs
  refine ⟨_,rfl,p,C,dx,_,_,rfl,hp,L.cl,L.nt.th,db,d,rfl,.inl ⟨ks,.inl hd⟩,_,rfl,ks,Sum.inr n,_,hd,rfl,e1,?_⟩
  have tt:∀b zs,H b=some (.tup zs)->(upd H d (.dK (bH ks (Sum.inr n)))) b=some (.tup zs):=fun b zs z=>by rw [ak (bA z hd (by intro y;cases y))];exact z
  have L2:LateAt C (upd H d (.dK (bH ks (Sum.inr n)))) p d l (Gm.dropT s n):=⟨⟨dx,by rw [ak npd];exact hp⟩,⟨_,af,(kr.drop n).stay tt⟩,⟨xs,by rw [ak ndl.symm];exact hx,rr.stay tt⟩⟩
  have k2:Kept [p,d,l] H (upd H d (.dK (bH ks (Sum.inr n)))):=Kept.refl.put zl
  obtain ⟨dx2,hp2⟩:=L2.ob
  refine ⟨_,rfl,p,dx2,_,rfl,hp2,lfn,p,d,l,_,rfl,L2,?_,fun l' H3 L3 k3 f3=>?_⟩
  .show s.row.length<=1000
   lia
  .exact kQ (by rw [e2];intro z;cases z) l' H3 L3 (k2.trans k3) (f3.imp id fun z=>L2.fresh k2 z)
 rcases kr.get n with ⟨e1,e2⟩ | ⟨a,e,e1,e2,ha⟩
 .exact kE e2
 rw [e1] at cs;cases cs
abbrev ja:Stmt:=bg (top 15) 4
theorem j6:FnScope ["self","entry"] ["self"] (ao ja):=fsc fun nd=>⟨rfl,rfl,rfl,nd,rfl,zi,zi⟩
def j8 (C X:Addr):Sp:=fun vs H Q E=>∃ (p d l:Addr) (s:LS),vs=[.ref p]/\LateAt C H p d l s/\Gm.LInv slt s/\s.row.length<=1000 /\
 (s.there≠[]->∀q H',LateAt C H' p d l (Gm.leastL slt s)->H' q=some (.tup [.int (Hg.g (Gm.leastL slt s).row 0).w,.str (Hg.g (Gm.leastL slt s).row 0).n])->Kept [p,d,l] H H'->Q (.ref q) H')/\(s.there=[]->E (.ref X) none H)
theorem qF {f C CN:Addr}{ffirst_there:Addr}{fdfirst_there:FuncData}{fd:FuncData}(F:Fun K "least" "Late.least" ja f fd)(T:Bl mg)(L:LT K C)(Mfirst_there:bP K C "first_there" ffirst_there)(Gfirst_there:aA P w K mg base (CXe P w) 5 ffirst_there fdfirst_there ["self"] (jp C CN))(Bfirst_there:Binds K fdfirst_there ["self"] []):aA P w K mg base (CXe P w) 6 f fd ["self"] (j8 C CN):=by
 have sc:=j6
 refine F.okE j6 (fun vs H Q E h=>?_) (fun cdv A outer s H vs Q E hr h=>?_)
 .obtain ⟨p,d,l,s,rfl,_⟩:=h
  rfl
 obtain ⟨p,d,l,s,rfl,LA,LI,h1,kQ,kE⟩:=h
 have hu:=hr.units0
 have npd:=LA.npd
 have npl:=LA.npl
 have ndl:=LA.ndl
 obtain ⟨dx,hp⟩:=LA.ob
 obtain ⟨ks,hd,kr⟩:=LA.dc
 obtain ⟨xs,hx,rr⟩:=LA.ls
 refine ⟨_,(QSs.to (ae (qst 1 sc.nd (br (qv 0) L.cl Mfirst_there Gfirst_there hr.mo Bfirst_there .nil (bK fun _ _ z=>z)))
  (aj (aB (aI (ad (au aJ (qv 1) ag pix) (ad (au aJ (qv 1) ag pix) ah))))))),?_⟩
 refine ⟨_,rfl,p,dx,_,rfl,hp,lfn,p,d,l,s,rfl,LA,LI,h1,fun hT a H2 L2 ha k2=>?_,kE⟩
 refine ⟨_,rfl,a,_,_,_,rfl,rfl,SqT.of ha,rfl,_,rfl,a,_,_,_,rfl,rfl,SqT.of ha,rfl,sz2,fun q hq=>?_⟩
 exact kQ hT q _ (L2.same (ai hq)) af (k2.new hq)
abbrev mL:Stmt:=bg (top 15) 5
theorem nc:FnScope ["self","entry"] ["self"] (ao mL):=fsc fun nd=>⟨rfl,rfl,rfl,nd,rfl,zi,zi⟩
def oh (C X:Addr):Sp:=fun vs H Q E=>∃ (p d l:Addr) (s:LS),vs=[.ref p]/\LateAt C H p d l s/\Gm.LInv slt s/\s.row.length<=1000 /\
 (s.there≠[]->∀q l' H',LateAt C H' p d l' (Gm.takeL slt s)->H' q=some (.tup [.int (Hg.g (Gm.leastL slt s).row 0).w,.str (Hg.g (Gm.leastL slt s).row 0).n])->Kept [p,d,l] H H'->Fr3 H l l'->Q (.ref q) H')/\(s.there=[]->E (.ref X) none H)
theorem sO {f C CN:Addr}{ffirst_there fcut fsweep_if_due:Addr}{fdfirst_there fdcut fdsweep_if_due:FuncData}{fd:FuncData}(F:Fun K "take" "Late.take" mL f fd)(T:Bl mg)(L:LT K C)(Mfirst_there:bP K C "first_there" ffirst_there)(Gfirst_there:aA P w K mg base (CXe P w) 5 ffirst_there fdfirst_there ["self"] (jp C CN))(Bfirst_there:Binds K fdfirst_there ["self"] [])(Mcut:bP K C "cut" fcut)(Gcut:aA P w K mg base CX0 4 fcut fdcut ["self"] (kS C))(Bcut:Binds K fdcut ["self"] [])(Msweep_if_due:bP K C "sweep_if_due" fsweep_if_due)(Gsweep_if_due:aA P w K mg base CX0 4 fsweep_if_due fdsweep_if_due ["self"] (fq C))(Bsweep_if_due:Binds K fdsweep_if_due ["self"] []):aA P w K mg base (CXe P w) 6 f fd ["self"] (oh C CN):=by
 have sc:=nc
 refine F.okE nc (fun vs H Q E h=>?_) (fun cdv A outer s H vs Q E hr h=>?_)
 .obtain ⟨p,d,l,s,rfl,_⟩:=h
  rfl
 obtain ⟨p,d,l,s,rfl,LA,LI,h1,kQ,kE⟩:=h
 have hu:=hr.units0
 have npd:=LA.npd
 have npl:=LA.npl
 have ndl:=LA.ndl
 obtain ⟨dx,hp⟩:=LA.ob
 obtain ⟨ks,hd,kr⟩:=LA.dc
 obtain ⟨xs,hx,rr⟩:=LA.ls
 refine ⟨_,(QSs.to (ae (qst 1 sc.nd (br (qv 0) L.cl Mfirst_there Gfirst_there hr.mo Bfirst_there .nil (bK fun _ _ z=>z)))
  (ae (aK (br (qv 0) L.cl Mcut Gcut hr.mo Bcut .nil aD))
  (ae (aK (eA (bf (qv 0) rfl) (au aJ (qv 1) ag pix) ⟨rfl,rfl,rfl,rfl⟩))
  (ae (aK (br (qv 0) L.cl Msweep_if_due Gsweep_if_due hr.mo Bsweep_if_due .nil aD))
  (aj (aB (aI (ad (au aJ (qv 1) ag pix) (ad (au aJ (qv 1) ag pix) ah)))))))))),?_⟩
 refine ⟨_,rfl,p,dx,_,rfl,hp,lfn,p,d,l,s,rfl,LA,LI,h1,fun hT a H2 L2 ha k2=>?_,kE⟩
 have cl:=Gm.least_ok slt_slo LI hT
 have hle:(Gm.leastL slt s).row.length<=1000:=Nat.le_trans (Gm.least_len) h1
 obtain ⟨dx2,hp2⟩:=L2.ob
 refine ⟨_,rfl,p,dx2,_,rfl,hp2,lfn,p,d,l,_,rfl,L2,cl.pos,hle,fun H3 L3 k3=>?_⟩
 have k3':Kept [p,d,l] H2 H3:=k3.mono fun b hb=>by simp only [List.mem_cons,List.not_mem_nil,or_false] at hb ⊢;rcases hb with h | h <;> simp [h]
 have ha3:=k3'.tups L2.notup _ _ ha
 obtain ⟨dx3,hp3⟩:=L3.ob
 obtain ⟨ks3,hd3,kr3⟩:=L3.dc
 obtain ⟨xs3,hx3,rr3⟩:=L3.ls
 have hin:=Gm.holds_in cl.hold
 rcases kr3.get (Hg.g (Gm.leastL slt s).row 0).n with ⟨e1,e2⟩ | ⟨b,e',e1,e2,hb⟩
 .have:=Gm.dget_of cl.inv.nd hin
  have e3:Gm.dget (Gm.leastL slt s).there (Hg.g (Gm.leastL slt s).row 0).n=none:=e2
  rw [e3] at this
  cases this
 refine ⟨_,rfl,p,C,dx3,_,_,rfl,hp3,L.cl,L.nt.th,db,d,rfl,.inl ⟨ks3,.inl hd3⟩,_,rfl,a,_,_,_,rfl,rfl,SqT.of ha3,rfl,ks3,Sum.inr (Hg.g (Gm.leastL slt s).row 0).n,_,hd3,rfl,e1,?_⟩
 have tt:∀b zs,H3 b=some (.tup zs)->(upd H3 d (.dK (bH ks3 (Sum.inr (Hg.g (Gm.leastL slt s).row 0).n)))) b=some (.tup zs):=fun b zs z=>by rw [ak (bA z hd3 (by intro y;cases y))];exact z
 have L4:LateAt C (upd H3 d (.dK (bH ks3 (Sum.inr (Hg.g (Gm.leastL slt s).row 0).n)))) p d l (Gm.dropT (Gm.cut slt (Gm.leastL slt s)) (Hg.g (Gm.leastL slt s).row 0).n):=⟨⟨dx3,by rw [ak npd];exact hp3⟩,⟨_,af,(kr3.drop _).stay tt⟩,⟨xs3,by rw [ak ndl.symm];exact hx3,rr3.stay tt⟩⟩
 have k4:Kept [p,d,l] H (upd H3 d (.dK (bH ks3 (Sum.inr (Hg.g (Gm.leastL slt s).row 0).n)))):=(k2.trans k3').put zl
 have ha4:=tt _ _ ha3
 generalize (upd H3 d (.dK (bH ks3 (Sum.inr (Hg.g (Gm.leastL slt s).row 0).n))))=H4 at L4 k4 ha4 ⊢
 obtain ⟨dx4,hp4⟩:=L4.ob
 refine ⟨_,rfl,p,dx4,_,rfl,hp4,lfn,p,d,l,_,rfl,L4,?_,fun l' H5 L5 k5 f5=>?_⟩
 .have lc:(Gm.cut slt (Gm.leastL slt s)).row.length=(Gm.leastL slt s).row.length-1:=Hg.cutf_len
  show (Gm.cut slt (Gm.leastL slt s)).row.length<=1000
  lia
 have ha5:=k5.tups L4.notup _ _ ha4
 have f6:Fr3 H l l':=f5.imp id fun z=>L4.fresh k4 z
 refine ⟨_,rfl,a,_,_,_,rfl,rfl,SqT.of ha5,rfl,_,rfl,a,_,_,_,rfl,rfl,SqT.of ha5,rfl,sz2,fun q hq=>?_⟩
 exact kQ hT q l' _ (L5.same (ai hq)) af ((k4.trans k5).new hq) f6
abbrev mE:Stmt:=top 22
theorem oG:FnScope ["script"] ["script"] (ao mE):=fsc fun nd=>⟨rfl,rfl,rfl,nd,rfl,zi,zi⟩
def q9 (K:W.Frag):Sp:=fun vs H Q _=>∃ (a:Addr) (ns:List Int),vs=[.ref a]/\SqL K H a (ns.map V.int)/\ns.length<=63/\∀pl H',Pile K H' pl a ns->Same H H'->Q (.ref pl) H'
theorem tm {f:Addr}{fd:FuncData}(F:Fun K "_law_pile" "_law_pile" mE f fd)(T:Bl mg):aA P w K mg base CX0 1 f fd ["script"] (q9 K):=by
 have sc:=oG
 refine F.okQ oG (fun vs H Q E h=>?_) (fun cdv A outer s H vs Q E hr h=>?_)
 .obtain ⟨a,ns,rfl,_⟩:=h
  rfl
 obtain ⟨a,ns,rfl,hS,hn,k⟩:=h
 refine ⟨_,(aj (aB (aM (ad (qv 0) (ad ag (ad ag (ad ag (ad ag ah)))))))),?_⟩
 refine ⟨_,rfl,sz5,fun pl hpl=>?_⟩
 exact k pl _ ⟨⟨0,0,30103,0,af,zj,zj,zj⟩,hS.same' (ai hpl),hn⟩ (ai hpl)
abbrev mD:Stmt:=top 23
theorem nW:FnScope ["pile","most","found","cell"] ["pile","most"] (ao mD):=fsc fun nd=>⟨rfl,rfl,rfl,nd,rfl,zi,zi⟩
theorem uo {f:Addr}{fd:FuncData}(F:Fun K "_law_next" "_law_next" mD f fd)(T:Bl mg):aA P w K mg base CX0 1 f fd ["pile","most"] (cD K):=by
 have sc:=nW
 refine F.okQ nW (fun vs H Q E h=>?_) (fun cdv A outer s H vs Q E hr h=>?_)
 .obtain ⟨pl,sc,ns,most,rfl,_⟩:=h
  rfl
 obtain ⟨pl,scr,ns,most,rfl,PL,m0,m1,k⟩:=h
 have hu:=hr.units0
 refine ⟨_,(ae (aR (ar fZ (au aw (qv 0) ag pix) ag (az _)) (ae (qst 2 sc.nd (aq cb (au aw (qv 0) ag pix) (qv 1)))
  (ae (be (aq ca (au aw (qv 0) ag pix) (qv 1)) (bh (qv 0) ag aS))
  (aj (aB (qv 2))))) ay)
  (ae (aR (ar cV (au aw (qv 0) ag pix) (qcB aG T.z_len (ad (au aw (qv 0) ag pix) ah)) (az _)) (ae (qst 3 sc.nd (au aw (au aw (qv 0) ag pix) (au aw (qv 0) ag pix) pix))
  (ae (be (aq aF (au aw (qv 0) ag pix) ag) (bh (qv 0) ag aS))
  (ae (be (aq cb (aq aF (aq cz (au aw (qv 0) ag pix) ag) (qv 3)) ag) (bh (qv 0) ag aS))
  (ae (aR (ar vP (qcB gU T.z_abs (ad (qv 3) ah)) (aq cY ag ag) (az _)) (ae (be (aq ca (qcB gU T.z_abs (ad (qv 3) ah)) (qv 1)) (bh (qv 0) ag aS))
  (aj (aB (aq cb (qcB gU T.z_abs (ad (qv 3) ah)) (qv 1))))) ay)
  (aj (aB (aq cb (qv 3) (qv 1)))))))) ay)
  (ae (be (aq aF (au aw (qv 0) ag pix) ag) (bh (qv 0) ag aS))
  (ae (be (aq cb (aq aF (aq aF (aq cz (au aw (qv 0) ag pix) (au aw (qv 0) ag pix)) (aq cz ag (au aw (qv 0) ag pix))) ag) ag) (bh (qv 0) ag aS))
  (aj (aB (aq cb (aq ca (au aw (qv 0) ag pix) ag) (qv 1)))))))),?_⟩
 obtain ⟨a,b,c,e,hp,a0,c0,c1⟩:=PL.to
 have kn:∀(H1:Hp) (o:HO) (bb:Addr),(∀x,H x=none->H1 x=none)->H bb=none->(upd H1 pl o) bb=none:=fun H1 o bb h1 e=>by
  rw [ak (fun z=>by rw [z,hp] at e;cases e)]
  exact h1 bb e
 refine ⟨_,rfl,pl,_,_,_,rfl,rfl,SqL.of hp,rfl,_,_,rfl,rfl,_,rfl,aE (fun _=>?_) (fun _=>?_)⟩
 .refine ⟨_,rfl,pl,_,_,_,rfl,rfl,SqL.of hp,rfl,_,rfl,_,_,rfl,rfl,m0,?_⟩
  refine ⟨_,rfl,pl,_,_,_,rfl,rfl,SqL.of hp,rfl,_,rfl,_,_,rfl,rfl,⟨m0,zk⟩,_,rfl,pl,_,_,2,rfl,rfl,hp,rfl,?_⟩
  refine ⟨_,rfl,?_⟩
  exact k _ _ (dt m0) (du m0) (PL.put a0 c0 c1) (Kept.refl.put zl) fun bb z=>kn H _ bb (fun _ q=>q) z
 have lm:(ns.map V.int).length=ns.length:=List.length_map ..
 refine ⟨_,rfl,pl,_,_,_,rfl,rfl,SqL.of hp,rfl,_,rfl,pl,_,_,_,rfl,rfl,SqL.of hp,rfl,scr,_,rfl,.inl PL.hs,_,_,rfl,rfl,_,rfl,aE (fun q1=>?_) (fun q1=>?_)⟩
 .have q1':a<(ns.length:Int):=by rw [lm] at q1;exact of_decide_eq_true q1
  refine ⟨_,rfl,pl,_,_,_,rfl,rfl,SqL.of hp,rfl,_,rfl,pl,_,_,_,rfl,rfl,SqL.of hp,rfl,scr,_,_,_,rfl,rfl,PL.hs,wj a0 q1',?_⟩
  generalize ns.getD a.toNat 0=cell
  refine ⟨_,rfl,pl,_,_,_,rfl,rfl,SqL.of hp,rfl,_,_,rfl,rfl,_,rfl,pl,_,_,1,rfl,rfl,hp,rfl,?_⟩
  have P1:Pile K (upd H pl (.lst ([V.ref scr,.int a,.int b,.int c,.int e].set 1 (.int (a+1))))) pl scr ns:=PL.put zk c0 c1
  have k1:Kept [pl] H (upd H pl (.lst ([V.ref scr,.int a,.int b,.int c,.int e].set 1 (.int (a+1))))):=Kept.refl.put zl
  have n1:∀bb,H bb=none->(upd H pl (.lst ([V.ref scr,.int a,.int b,.int c,.int e].set 1 (.int (a+1))))) bb=none:=fun bb=>kn H _ bb (fun _ q=>q)
  have h1:(upd H pl (.lst ([V.ref scr,.int a,.int b,.int c,.int e].set 1 (.int (a+1))))) pl=some (.lst [.ref scr,.int (a+1),.int b,.int c,.int e]):=af
  generalize (upd H pl (.lst ([V.ref scr,.int a,.int b,.int c,.int e].set 1 (.int (a+1)))))=H1 at P1 k1 n1 h1 ⊢
  refine ⟨_,rfl,pl,_,_,_,rfl,rfl,SqL.of h1,rfl,_,_,rfl,rfl,.inr ⟨zj,zj⟩,_,rfl,_,_,rfl,rfl,_,_,rfl,rfl,(by show (0:Int)<_;decide),_,rfl,pl,_,_,3,rfl,rfl,h1,rfl,?_⟩
  have x0:=dt (a:=c*69069+cell) (b:=2147483629) zj
  have x1:=du (a:=c*69069+cell) (b:=2147483629) zj
  have P2:Pile K (upd H1 pl (.lst ([V.ref scr,.int (a+1),.int b,.int c,.int e].set 3 (.int ((c*69069+cell) % 2147483629))))) pl scr ns:=P1.put zk x0 x1
  have k2:Kept [pl] H (upd H1 pl (.lst ([V.ref scr,.int (a+1),.int b,.int c,.int e].set 3 (.int ((c*69069+cell) % 2147483629))))):=k1.put zl
  have n2:∀bb,H bb=none->(upd H1 pl (.lst ([V.ref scr,.int (a+1),.int b,.int c,.int e].set 3 (.int ((c*69069+cell) % 2147483629))))) bb=none:=fun bb=>kn H1 _ bb n1
  have h2:(upd H1 pl (.lst ([V.ref scr,.int (a+1),.int b,.int c,.int e].set 3 (.int ((c*69069+cell) % 2147483629))))) pl=some (.lst [.ref scr,.int (a+1),.int b,.int ((c*69069+cell) % 2147483629),.int e]):=af
  generalize (upd H1 pl (.lst ([V.ref scr,.int (a+1),.int b,.int c,.int e].set 3 (.int ((c*69069+cell) % 2147483629)))))=H2 at P2 k2 n2 h2 ⊢
  refine ⟨_,rfl,_,rfl,_,_,rfl,rfl,⟨zj,zj,zj⟩,_,_,rfl,rfl,_,rfl,aE (fun _=>?_) (fun _=>?_)⟩
  .refine ⟨_,rfl,_,rfl,_,rfl,_,_,rfl,rfl,⟨m0,zk⟩,_,rfl,pl,_,_,2,rfl,rfl,h2,rfl,?_⟩
   refine ⟨_,rfl,_,rfl,_,rfl,_,_,rfl,rfl,m0,?_⟩
   exact k _ _ (dt m0) (du m0) (P2.put zk x0 x1) (k2.put zl) fun bb z=>kn H2 _ bb n2 z
  .exact ⟨_,rfl,_,rfl,_,_,rfl,rfl,m0,k _ _ (dt m0) (du m0) P2 k2 n2⟩
 refine ⟨_,rfl,pl,_,_,_,rfl,rfl,SqL.of hp,rfl,_,_,rfl,rfl,_,rfl,pl,_,_,4,rfl,rfl,hp,rfl,?_⟩
 have P1:Pile K (upd H pl (.lst ([V.ref scr,.int a,.int b,.int c,.int e].set 4 (.int (e+1))))) pl scr ns:=PL.put a0 c0 c1
 have k1:Kept [pl] H (upd H pl (.lst ([V.ref scr,.int a,.int b,.int c,.int e].set 4 (.int (e+1))))):=Kept.refl.put zl
 have n1:∀bb,H bb=none->(upd H pl (.lst ([V.ref scr,.int a,.int b,.int c,.int e].set 4 (.int (e+1))))) bb=none:=fun bb=>kn H _ bb (fun _ q=>q)
 have h1:(upd H pl (.lst ([V.ref scr,.int a,.int b,.int c,.int e].set 4 (.int (e+1))))) pl=some (.lst [.ref scr,.int a,.int b,.int c,.int (e+1)]):=af
 generalize (upd H pl (.lst ([V.ref scr,.int a,.int b,.int c,.int e].set 4 (.int (e+1)))))=H1 at P1 k1 n1 h1 ⊢
 refine ⟨_,rfl,pl,_,_,_,rfl,rfl,SqL.of h1,rfl,_,rfl,pl,_,_,_,rfl,rfl,SqL.of h1,rfl,_,_,rfl,rfl,.inl ⟨zk,zk⟩,_,rfl,pl,_,_,_,rfl,rfl,SqL.of h1,rfl,_,_,rfl,rfl,.inl ⟨zj,zj⟩,_,_,rfl,rfl,_,_,rfl,rfl,_,_,rfl,rfl,(by show (0:Int)<_;decide),_,rfl,pl,_,_,3,rfl,rfl,h1,rfl,?_⟩
 have x0:=dt (a:=c*c+40014*(e+1)+977) (b:=2147483629) zj
 have x1:=du (a:=c*c+40014*(e+1)+977) (b:=2147483629) zj
 have P2:Pile K (upd H1 pl (.lst ([V.ref scr,.int a,.int b,.int c,.int (e+1)].set 3 (.int ((c*c+40014*(e+1)+977) % 2147483629))))) pl scr ns:=P1.put a0 x0 x1
 have k2:Kept [pl] H (upd H1 pl (.lst ([V.ref scr,.int a,.int b,.int c,.int (e+1)].set 3 (.int ((c*c+40014*(e+1)+977) % 2147483629))))):=k1.put zl
 have n2:∀bb,H bb=none->(upd H1 pl (.lst ([V.ref scr,.int a,.int b,.int c,.int (e+1)].set 3 (.int ((c*c+40014*(e+1)+977) % 2147483629))))) bb=none:=fun bb=>kn H1 _ bb n1
 have h2:(upd H1 pl (.lst ([V.ref scr,.int a,.int b,.int c,.int (e+1)].set 3 (.int ((c*c+40014*(e+1)+977) % 2147483629))))) pl=some (.lst [.ref scr,.int a,.int b,.int ((c*c+40014*(e+1)+977) % 2147483629),.int (e+1)]):=af
 generalize (upd H1 pl (.lst ([V.ref scr,.int a,.int b,.int c,.int (e+1)].set 3 (.int ((c*c+40014*(e+1)+977) % 2147483629)))))=H2 at P2 k2 n2 h2 ⊢
 exact ⟨_,rfl,pl,_,_,_,rfl,rfl,SqL.of h2,rfl,_,_,rfl,rfl,⟨zj,zj⟩,_,rfl,_,_,rfl,rfl,m0,k _ _ (dt m0) (du m0) P2 k2 n2⟩
theorem hG {α:Type}:∀{l:List α} {k:Nat} (h:k<l.length),(l[k]::l.eraseIdx k).Perm l
 | a::l,0,_=>List.Perm.refl _
 | a::l,k+1,h=>by
  have hk:k<l.length:=Nat.lt_of_succ_lt_succ h
  have ih:=hG (l:=l) (k:=k) hk
  show (l[k]::a::l.eraseIdx k).Perm (a::l)
  exact (List.Perm.swap _ _ _).trans (ih.cons a)
def jG (xs:List V):Prop:=∀v∈xs,∃ x,v=.str x/\x.length<=20
def nmk (p q:Str)(sh:Nat)(k:Nat):Str:=p++ltr ((sh+k) % 26)++(if k % 2=0 then ("":Str) else ("q":Str))++q++(["","w","ww","v","vw","u","uw","uu"]:List Str).getD (k / 26) ""
theorem yV (a b:Str):(a++b).cps.toList=a.cps.toList++b.cps.toList:=by
 show (a.cps++b.cps).toList=_
 rw [Array.toList_append]
theorem x5 {a b:Str}(h:a.cps.toList=b.cps.toList):a=b:=by
 cases a with
 | mk a =>
  cases b with
  | mk b=>exact congrArg Str.mk (Array.toList_inj.mp h)
theorem wR:∀i j:Nat,i<8->j<8->(["","w","ww","v","vw","u","uw","uu"]:List Str).getD i ""=(["","w","ww","v","vw","u","uw","uu"]:List Str).getD j ""->i=j:=by
 have nd:((["","w","ww","v","vw","u","uw","uu"]:List Str)).Nodup:=by decide +kernel
 intro i j hi hj h
 refine (List.getElem_inj (h₀:=hi) (h₁:=hj) nd).mp ?_
 rw [List.getD_eq_getElem?_getD,List.getD_eq_getElem?_getD,List.getElem?_eq_getElem (show i<((["","w","ww","v","vw","u","uw","uu"]:List Str)).length from hi),List.getElem?_eq_getElem (show j<((["","w","ww","v","vw","u","uw","uu"]:List Str)).length from hj)] at h
 exact h
theorem um {p q:Str}{sh k k':Nat}(hk:k<208)(hk':k'<208)(h:nmk p q sh k=nmk p q sh k'):k=k':=by
 have e:=congrArg (fun x:Str=>x.cps.toList) h
 unfold nmk at e
 simp only [yV,List.append_assoc] at e
 have e1:=List.append_cancel_left e
 have el:∀i,(ltr i).cps.toList=[97+i]:=fun i=>rfl
 rw [el,el] at e1
 simp only [List.cons_append,List.nil_append,List.cons.injEq] at e1
 obtain ⟨e2,e3⟩:=e1
 have m:(sh+k) % 26=(sh+k') % 26:=by lia
 have m2:k % 2=k' % 2:=by lia
 rw [m2] at e3
 have e4:=List.append_cancel_left (List.append_cancel_left e3)
 have:=wR (k / 26) (k' / 26) zk zk (x5 e4)
 lia
theorem uJ {p q:Str}{sh k:Nat}(h:p.length+q.length<=8):(nmk p q sh k).length<=20:=by
 have t1:∀i:Nat,((["","w","ww","v","vw","u","uw","uu"]:List Str).getD i "").length<=2:=by
  intro i
  by_cases hi:i<8
  .match i,hi with
   | 0,_=>decide +kernel
   | 1,_=>decide +kernel
   | 2,_=>decide +kernel
   | 3,_=>decide +kernel
   | 4,_=>decide +kernel
   | 5,_=>decide +kernel
   | 6,_=>decide +kernel
   | 7,_=>decide +kernel
   | i+8,h=>exact absurd h zk
  .rw [List.getD_eq_getElem?_getD,List.getElem?_eq_none (by show ((["","w","ww","v","vw","u","uw","uu"]:List Str)).length<=i;have:((["","w","ww","v","vw","u","uw","uu"]:List Str)).length=8:=rfl;lia)]
   decide +kernel
 have t2:(if k % 2=0 then ("":Str) else ("q":Str)).length<=1:=by split <;> decide +kernel
 have t3:(ltr ((sh+k) % 26)).length=1:=rfl
 have:=t1 (k / 26)
 unfold nmk
 rw [strLen_append,strLen_append,strLen_append,strLen_append,t3]
 lia
abbrev eI:Stmt:=top 24
theorem jF:FnScope ["pile","many","letters","menu","base","at","shift","found","k","sign","tail"] ["pile","many"] (ao eI):=fsc fun nd=>⟨rfl,rfl,rfl,nd,rfl,zi,zi⟩
def kI (K:W.Frag):Sp:=fun vs H Q _=>∃ (pl sr:Addr) (ns:List Int) (many:Nat),vs=[.ref pl,.int many]/\Pile K H pl sr ns/\many<=200 /\
 ∀(l:Addr) (xs:List V) H',H' l=some (.lst xs)->jG xs->xs.Nodup->xs.length=many->Pile K H' pl sr ns->Kept [pl] H H'->H l=none->l≠pl->Off K sr (ns.map V.int) l->Q (.ref l) H'
theorem oP {f fn:Addr}{fd fdn:FuncData}(F:Fun K "_law_names" "_law_names" eI f fd)(T:Bl mg)(G_law_next:aA P w K mg base CX0 1 fn fdn ["pile","most"] (cD K))(D_law_next:Nm K mg "_law_next" fn fdn ["pile","most"]) :
  aA P w K mg base CX0 2 f fd ["pile","many"] (kI K):=by
 have sc:=jF
 refine F.okQ jF (fun vs H Q E h=>?_) (fun cdv A outer s H vs Q E hr h=>?_)
 .obtain ⟨pl,sr,ns,many,rfl,_⟩:=h
  rfl
 obtain ⟨pl,sr,ns,many,rfl,PL,hm,k⟩:=h
 have hu:=hr.units0
 refine ⟨_,(ae (ic (i:=2) sc.nd rfl (Or.inr rfl) av)
  (ae (ic (i:=3) sc.nd rfl (Or.inr rfl) (aM (ck (vs:=[.str "a",.str "b",.str "ab",.str "aa",.str "ba",.str "z",.str "put",.str "heap",.str "least",.str "take",.str "first",.str "zzzzzzzz",.str "abcdefgh",.str "drop"]) zi)))
  (ae (aR (oH (QW.pt (fz (ar ye (qv 1) ag (az _)) (dI (ar a8 (qcl G_law_next hr D_law_next aD (ad (qv 0) (ad ag ah))) ag (az _)))))) (aj (aB (cu (Blk.of (N:=["pile","many","letters","menu","base","at","shift","found","k","sign","tail"]) (esc:=ao eI) (NB:=["menu","pile"]) (cap:=[3,0]) rfl rfl (fun y hy=>bo hy) rfl zi zi zi rfl zi rfl zi) rfl rfl (bX rfl T.z_range (ad (qv 1) ah)) (fun C fp s₀ H₀=>cg) (fun C fp s₀ H₀=>(wS (K:=K) rfl PySem.F.plainAttrs_list PySem.F.slot_list_pop PySem.F.type_list_pop jT (qv 1) (ad (qcl G_law_next hr D_law_next aD (ad (qv 2) (ad (jN (ij (K:=K) rfl) (by rfl) T.z_len zi (ad (qv 1) ah)) ah))) ah)))))) ay)
  (ae (qst 4 sc.nd (bJ PySem.F.plainAttrs_str PySem.F.slot_str_join PySem.F.type_str_join tW av (ad (cu (Blk.of (N:=["pile","many","letters","menu","base","at","shift","found","k","sign","tail"]) (esc:=ao eI) (NB:=["letters","pile"]) (cap:=[2,0]) rfl rfl (fun y hy=>bo hy) rfl zi zi zi rfl zi rfl zi) rfl rfl (bX rfl T.z_range (ad (qcl G_law_next hr D_law_next aD (ad (qv 0) (ad ag ah))) ah)) (fun C fp s₀ H₀=>cg) (fun C fp s₀ H₀=>(au rY (qv 1) (qcl G_law_next hr D_law_next aD (ad (qv 2) (ad ag ah))) pix))) ah)))
  (ae (qst 5 sc.nd (qcl G_law_next hr D_law_next aD (ad (qv 0) (ad (aq aF (qcB jd T.z_len (ad (qv 4) ah)) ag) ah))))
  (ae (qst 6 sc.nd (qcl G_law_next hr D_law_next aD (ad (qv 0) (ad ag ah))))
  (ae (qst 7 sc.nd (aM ah))
  (ae (ce PassesOwn.never rfl (bX rfl T.z_range (ad (qv 1) ah)) (aQ (i:=8) sc.nd rfl (Or.inl rfl)) (ae (qst 9 sc.nd (au rY (qv 2) (aq cb (aq aF (qv 6) (qv 8)) ag) pix))
  (ae (qst 10 sc.nd (au aw (aM (ck (vs:=[.str "",.str "w",.str "ww",.str "v",.str "vw",.str "u",.str "uw",.str "uu"]) zi)) (aq ca (qv 8) ag) pix))
  (aj (aK (bJ PySem.F.plainAttrs_list PySem.F.slot_list_append PySem.F.type_list_append aY (qv 7) (ad (aq cQ (aq cQ (aq cQ (aq cQ (bn rg (qv 4) bG (bx (qv 5))) (qv 9)) (au aw (aM (ad av (ad av ah))) (aq cb (qv 8) ag) pix)) (bn rg (qv 4) (bx (qv 5)) bG)) (qv 10)) ah)))))))
  (aj (aB (qv 7))))))))))),?_⟩
 refine ⟨sz14,fun ml hml=>?_⟩
 have PM:=PL.new hml
 refine cU hml fun H1 s1 g1=>?_--@0
 have P1:=PL.same s1
 have lmenu:([.str "a",.str "b",.str "ab",.str "aa",.str "ba",.str "z",.str "put",.str "heap",.str "least",.str "take",.str "first",.str "zzzzzzzz",.str "abcdefgh",.str "drop"]:List V).length=14:=rfl
 have ndm:([.str "a",.str "b",.str "ab",.str "aa",.str "ba",.str "z",.str "put",.str "heap",.str "least",.str "take",.str "first",.str "zzzzzzzz",.str "abcdefgh",.str "drop"]:List V).Nodup:=by decide +kernel
 have anm:jG [.str "a",.str "b",.str "ab",.str "aa",.str "ba",.str "z",.str "put",.str "heap",.str "least",.str "take",.str "first",.str "zzzzzzzz",.str "abcdefgh",.str "drop"]:=fun v hv=>by
  simp only [List.mem_cons,List.not_mem_nil,or_false] at hv
  rcases hv with h | h | h | h | h | h | h | h | h | h | h | h | h | h <;> exact ⟨_,h,zi⟩
 refine ⟨fun b H'=>(b=true->many<=14)/\Pile K H' pl sr ns/\Kept [pl] H1 H',?_,?_⟩
 .refine ⟨_,rfl,_,_,rfl,rfl,_,rfl,aE (fun c1=>?_) (fun c1=>?_)⟩
  .have c1':(many:Int)<=14:=of_decide_eq_true c1
   exact ⟨_,rfl,pl,sr,ns,2,rfl,P1,zj,zj,fun x H2 x0 x1 P2 K2 N2=>⟨rfl,_,rfl,fun _=>by lia,P2,K2⟩⟩
  .exact ⟨(fun z=>nomatch z),P1,Kept.refl⟩
 rintro b H2 ⟨c1,P2,k12⟩
 have k2:Kept [pl] H H2:=fun c u e n=>k12 c u (s1 _ _ e) n
 have hm2:=k12 _ _ g1 (fun z=>PM.1 (zm z))
 have fresh:∀(H3:Hp) (D:Addr),Kept [pl] H H3->Pile K H3 pl sr ns->H3 D=none->H D=none:=fun H3 D k3 P3 e=>by
  cases q:H D with
  | none=>rfl
  | some u=>rw [k3 _ _ q (fun z=>(P3.new e).1 (zm z))] at e;cases e
 refine aE (fun hb=>?_) (fun hb=>?_)
 .-- out of the menu
  have m14:=c1 hb
  refine ⟨_,rfl,_,rfl,zk,zk,fun D hD=>?_⟩
  have PD:=P2.new hD
  have hD0:=fresh H2 D k2 P2 hD
  have nmD:ml≠D:=am hm2 hD
  refine dm (lo:=0) (n:=many) (fun i ys H4=>H4 D=some (.lst ys)/\∃ ms,H4 ml=some (.lst ms)/\(ys++ms).Perm [.str "a",.str "b",.str "ab",.str "aa",.str "ba",.str "z",.str "put",.str "heap",.str "least",.str "take",.str "first",.str "zzzzzzzz",.str "abcdefgh",.str "drop"]/\ys.length=i/\Pile K H4 pl sr ns/\Kept [pl] H H4) ⟨af,_,ai hD _ _ hm2,List.Perm.refl _,rfl,P2.same (ai hD),k2.new hD⟩ (fun i ys H4 z=>z.1) ?_ ?_
  .rintro i ys H4 hi ⟨h4,ms,hms,pm,ly,P4,k4⟩
   have lm:ys.length+ms.length=14:=by have:=pm.length_eq;rw [List.length_append] at this;exact this
   unfold gS
   dsimp only
   rw [if_pos rfl]
   refine ⟨_,rfl,.inl ⟨rfl,ms,SqL.of hms⟩,_,rfl,_,rfl,ml,ms,rfl,.inl (SqL.of hms),pl,sr,ns,(ms.length:Nat),rfl,P4,zk,zk,fun y H5 y0 y1 P5 K5 N5=>?_⟩
   have hms5:=K5 _ _ hms (fun z=>PM.1 (zm z))
   have h5:=K5 _ _ h4 (fun z=>PD.1 (zm z))
   have hk:y.toNat<ms.length:=by lia
   refine ⟨ml,ms,y,y.toNat,ms[y.toNat],rfl,rfl,hms5,zk,zk,PySem.StrLaws.seqIndex_nonneg y0 y1,List.getElem?_eq_getElem hk,?_⟩
   refine ⟨by rw [ak nmD.symm];exact h5,by rw [ly];exact aH zk,_,zk,rfl,zk,af,ms.eraseIdx y.toNat,by rw [ak nmD,af],?_,by rw [List.length_append,ly];rfl,?_,?_⟩
   .rw [List.append_assoc]
    exact ((hG hk).append_left ys).trans pm
   .exact P5.kept (F:=[ml,D]) (fun c hc=>by
     rcases List.mem_cons.mp hc with z | z
     .rw [z];exact PM
     .rw [zm z];exact PD) ((Kept.refl.put zl).put zl)
   .exact ((k4.trans K5).newer hml).newer hD0
  .rintro ys H4 ⟨h4,ms,hms,pm,ly,P4,k4⟩
   refine k D ys H4 h4 (fun v hv=>anm v (pm.mem_iff.mp (List.mem_append_left _ hv))) ?_ ly P4 k4 hD0 PD.1 PD.2
   have:=pm.nodup_iff.mpr ndm
   exact (List.nodup_append.mp this).1
 -- made ones
 have LET:("abcdefghijklmnopqrstuvwxyz":Str).length<=sizeLine:=by decide +kernel
 refine ⟨rfl,_,rfl,pl,sr,ns,5,rfl,P2,zj,zj,fun n5 H3 n50 n51 P3 K3 N3=>?_⟩
 obtain ⟨m5,rfl⟩:∃ m5:Nat,n5=m5:=⟨n5.toNat,zk⟩
 have k3:=k2.trans K3
 refine ⟨_,rfl,zk,zk,fun D hD=>?_⟩
 have PD:=P3.new hD
 have hD0:=fresh H3 D k3 P3 hD
 refine dm (lo:=0) (n:=m5) (fun i ys H4=>H4 D=some (.lst ys)/\(∃ zs:List Str,ys=zs.map V.str/\zs.length=i/\∀y∈zs,y.length<=1)/\Pile K H4 pl sr ns/\Kept [pl] H H4) ⟨af,⟨[],rfl,rfl,fun _ z=>nomatch z⟩,P3.same (ai hD),k3.new hD⟩ (fun i ys H4 z=>z.1) ?_ ?_
 .rintro i ys H4 hi ⟨h4,⟨zs,rfl,lz,al⟩,P4,k4⟩
  unfold gS
  dsimp only
  rw [if_pos rfl]
  refine ⟨_,rfl,_,rfl,pl,sr,ns,26,rfl,P4,zj,zj,fun y H5 y0 y1 P5 K5 N5=>?_⟩
  obtain ⟨yn,rfl⟩:∃ yn:Nat,y=yn:=⟨y.toNat,zk⟩
  refine ⟨_,_,_,rfl,rfl,LET,qD zk,?_⟩
  have h5:=K5 _ _ h4 (fun z=>PD.1 (zm z))
  refine ⟨h5,by rw [List.length_map,lz];exact aH zk,_,zk,rfl,zk,af,⟨zs++[ltr yn],by rw [List.map_append];rfl,by rw [List.length_append,lz];rfl,fun z hz=>?_⟩,?_,(k4.trans K5).newer hD0⟩
  .rcases List.mem_append.mp hz with q | q
   .exact al z q
   .rw [zm q];exact Nat.le_refl 1
  .exact P5.kept (F:=[D]) (fun c hc=>by rw [zm hc];exact PD) (Kept.refl.put zl)
 rintro ys H4 ⟨h4,⟨zs,rfl,lz,al⟩,P4,k4⟩
 refine ⟨"",D,zs,rfl,rfl,SqL.of h4,zi,zk,fun y hy=>Nat.le_trans (al y hy) zj,?_⟩
 have lb:(Txt.join (Str.ofString "") zs).length<=zs.length:=sj al
 revert lb
 generalize Txt.join (Str.ofString "") zs=bs
 intro lb
 have LB:bs.length<=sizeLine:=Nat.le_of_lt (aH zk)
 refine ⟨_,rfl,_,rfl,bs,rfl,LB,_,_,rfl,rfl,pl,sr,ns,((bs.length:Nat):Int)+1,rfl,P4,zk,zk,fun at' H5 at0 at1 P5 K5 N5=>?_⟩
 refine ⟨_,rfl,pl,sr,ns,26,rfl,P5,zj,zj,fun sf H6 sf0 sf1 P6 K6 N6=>?_⟩
 obtain ⟨sh,rfl⟩:∃ sh:Nat,sf=sh:=⟨sf.toNat,zk⟩
 have k6:=(k4.trans K5).trans K6
 refine ⟨sz0,fun fl hfl=>?_⟩
 have PF:=P6.new hfl
 have hf0:=fresh H6 fl k6 P6 hfl
 have lp:=Txt.slice_le bs none (some at')
 have lq:=Txt.slice_le bs (some at') none
 have LS:∀k,(nmk (Txt.slice bs none (some at')) (Txt.slice bs (some at') none) sh k).length<=20:=fun k=>uJ zk
 generalize hp:Txt.slice bs none (some at')=p at lp LS
 generalize hq:Txt.slice bs (some at') none=q at lq LS
 refine cU hfl fun H7 s7 g7=>?_--@1
 refine ⟨_,rfl,_,rfl,zk,zk,dB (lo:=0) (n:=many) (fun i σ H8=>∃ (o8 o9 o10:Option V),σ=[some (.ref pl),some (.int many),some (.str "abcdefghijklmnopqrstuvwxyz"),some (.ref ml),some (.str bs),some (.int at'),some (.int sh),some (.ref fl),o8,o9,o10]/\H8 fl=some (.lst ((List.range i).map fun k=>V.str (nmk p q sh k)))/\Pile K H8 pl sr ns/\Kept [pl] H H8)
  ⟨none,none,none,rfl,g7,P6.same s7,k6.trans (Kept.of_same s7)⟩ ?_ ?_⟩
 .rintro i σ H8 hi ⟨o8,o9,o10,rfl,h8,P8,k8⟩
  have ei:(0:Int)+(i:Int)=(i:Int):=by lia
  rw [ei]
  have e1:((sh:Int)+(i:Int)) % 26=(((sh+i) % 26:Nat):Int):=by lia
  have a1:=qD (i:=(sh+i) % 26) zk
  rw [<-e1] at a1
  refine ⟨_,rfl,_,rfl,_,rfl,_,_,rfl,rfl,_,_,rfl,rfl,(by show (0:Int)<26;decide),_,_,_,rfl,rfl,LET,a1,?_⟩
  refine ⟨sz8,fun l8 hl8=>?_⟩
  have s9:=ai (o:=.lst [.str "",.str "w",.str "ww",.str "v",.str "vw",.str "u",.str "uw",.str "uu"]) hl8
  have g9:=af (H:=H8) (a:=l8) (o:=.lst [.str "",.str "w",.str "ww",.str "v",.str "vw",.str "u",.str "uw",.str "uu"])
  generalize upd H8 l8 (.lst [.str "",.str "w",.str "ww",.str "v",.str "vw",.str "u",.str "uw",.str "uu"])=H9 at s9 g9 ⊢
  have e2:(i:Int) / 26=((i / 26:Nat):Int):=by lia
  have a2:atI ([.str "",.str "w",.str "ww",.str "v",.str "vw",.str "u",.str "uw",.str "uu"]:List V) ((i:Int) / 26)=some (V.str ((["","w","ww","v","vw","u","uw","uu"]:List Str).getD (i / 26) "")):=by
   rw [e2]
   refine aU ?_
   have hj:i / 26<8:=by lia
   generalize i / 26=j at hj
   match j,hj with
   | 0,_=>rfl
   | 1,_=>rfl
   | 2,_=>rfl
   | 3,_=>rfl
   | 4,_=>rfl
   | 5,_=>rfl
   | 6,_=>rfl
   | 7,_=>rfl
   | j+8,h=>exact absurd h zk
  refine ⟨_,rfl,_,_,rfl,rfl,⟨zj,zj⟩,l8,_,_,_,rfl,rfl,SqL.of g9,a2,?_⟩
  have h9:=s9 _ _ h8
  have tl2:((["","w","ww","v","vw","u","uw","uu"]:List Str).getD (i / 26) "").length<=20:=by
   have:=LS i
   unfold nmk at this
   rw [strLen_append] at this
   lia
  generalize ht:(["","w","ww","v","vw","u","uw","uu"]:List Str).getD (i / 26) ""=tt at tl2 a2
  have t3:(ltr ((sh+i) % 26)).length=1:=rfl
  refine ⟨_,rfl,.inl ⟨rfl,_,SqL.of h9⟩,_,rfl,_,rfl,_,rfl,bs,rfl,LB,_,rfl,_,_,rfl,rfl,?z1,?_⟩
  case z1=>rw [hp];show p.length+(ltr ((sh+i) % 26)).length<=sizeLine;exact Nat.le_of_lt (aH zk)
  refine ⟨sz2,fun l2 hl2=>?_⟩
  have sA:=ai (o:=.lst [.str "",.str "q"]) hl2
  have gA:=af (H:=H9) (a:=l2) (o:=.lst [.str "",.str "q"])
  generalize upd H9 l2 (.lst [.str "",.str "q"])=HA at sA gA ⊢
  have a3:atI ([.str "",.str "q"]:List V) ((i:Int) % 2)=some (V.str (if i % 2=0 then ("":Str) else ("q":Str))):=by
   have e3:(i:Int) % 2=((i % 2:Nat):Int):=by lia
   rw [e3]
   refine aU ?_
   rcases Nat.mod_two_eq_zero_or_one i with z | z <;> rw [z] <;> rfl
  have t4:(if i % 2=0 then ("":Str) else ("q":Str)).length<=1:=by split <;> decide +kernel
  refine ⟨_,rfl,_,_,rfl,rfl,(by show (0:Int)<2;decide),l2,_,_,_,rfl,rfl,SqL.of gA,a3,_,_,rfl,rfl,?z2,?_⟩
  case z2=>rw [hp,strLen_append];show p.length+(ltr ((sh+i) % 26)).length+_<=sizeLine;exact Nat.le_of_lt (aH zk)
  refine ⟨_,rfl,_,rfl,_,rfl,bs,rfl,LB,_,_,rfl,rfl,?z3,_,rfl,_,_,rfl,rfl,?z4,?_⟩
  case z3=>rw [hp,hq,strLen_append,strLen_append];show p.length+(ltr ((sh+i) % 26)).length+_+_<=sizeLine;exact Nat.le_of_lt (aH zk)
  case z4=>rw [hp,hq,strLen_append,strLen_append,strLen_append];show p.length+(ltr ((sh+i) % 26)).length+_+_+_<=sizeLine;exact Nat.le_of_lt (aH zk)
  have hA:=sA _ _ h9
  have kA:Kept [pl] H HA:=k8.trans (Kept.of_same (s9.trans sA))
  have PA:=(P8.same s9).same sA
  refine ⟨fl,_,_,rfl,rfl,hA,by rw [List.length_map,List.length_range];exact aH zk,?_⟩
  refine ⟨_,_,_,rfl,?_,PA.kept (F:=[fl]) (fun c hc=>by rw [zm hc];exact PF) (Kept.refl.put zl),kA.newer hf0⟩
  rw [af,List.range_succ,List.map_append]
  have en:nmk p q sh i=Txt.slice bs none (some at')++⟨#[97+(sh+i) % 26]⟩++(if i % 2=0 then ("":Str) else ("q":Str))++Txt.slice bs (some at') none++tt:=by
   unfold nmk
   rw [hp,hq,ht]
   rfl
  rw [List.map_cons,List.map_nil,en]
 rintro σ H8 ⟨o8,o9,o10,rfl,h8,P8,k8⟩
 refine ⟨_,rfl,k fl _ H8 h8 (fun v hv=>?_) ?_ (by rw [List.length_map,List.length_range]) P8 k8 hf0 PF.1 PF.2⟩
 .obtain ⟨j,_,rfl⟩:=List.mem_map.mp hv
  exact ⟨_,rfl,LS j⟩
 rw [List.nodup_iff_pairwise_ne,List.pairwise_map]
 refine List.Pairwise.imp_of_mem (R:=fun x y=>x≠y) (fun {x y} hx hy n z=>n ?_) (List.nodup_iff_pairwise_ne.mp List.nodup_range)
 have:=List.mem_range.mp hx
 have:=List.mem_range.mp hy
 exact um zk zk (V.str.inj z)
abbrev jb:Stmt:=top 34
theorem ku:FnScope ["pile","way"] ["pile"] (ao jb):=fsc fun nd=>⟨rfl,rfl,rfl,nd,rfl,zi,zi⟩
def gM (K:W.Frag):Sp:=fun vs H Q _=>∃ (pl sr:Addr) (ns:List Int),vs=[.ref pl]/\Pile K H pl sr ns/\∀x H',Pile K H' pl sr ns->Kept [pl] H H'->Q (.int x) H'
theorem pO {f fn:Addr}{fd fdn:FuncData}(F:Fun K "_law_worth" "_law_worth" jb f fd)(T:Bl mg)(G_law_next:aA P w K mg base CX0 1 fn fdn ["pile","most"] (cD K))(D_law_next:Nm K mg "_law_next" fn fdn ["pile","most"]) :
  aA P w K mg base CX0 2 f fd ["pile"] (gM K):=by
 have sc:=ku
 refine F.okQ ku (fun vs H Q E h=>?_) (fun cdv A outer s H vs Q E hr h=>?_)
 .obtain ⟨pl,sr,ns,rfl,_⟩:=h
  rfl
 obtain ⟨pl,sr,ns,rfl,PL,k⟩:=h
 have hu:=hr.units0
 refine ⟨_,(ae (qst 1 sc.nd (qcl G_law_next hr D_law_next aD (ad (qv 0) (ad ag ah))))
  (ae (aR (ar cV (qv 1) ag (az _)) (aj (aB (aq bp (qcl G_law_next hr D_law_next aD (ad (qv 0) (ad (au aw (aM (ck (vs:=[.int 3,.int 7,.int 40]) zi)) (aq cb (qv 1) ag) pix) ah))) (au aw (aM (ck (vs:=[.int 1,.int 3,.int 0]) zi)) (aq cb (qv 1) ag) pix)))) ay)
  (aj (aB (aq aF (aq bp (qcl G_law_next hr D_law_next aD (ad (qv 0) (ad (aq bp (aq cz ag (aq cY ag ag)) ag) ah))) (aq cY ag ag)) ag))))),?_⟩
 refine ⟨_,rfl,pl,sr,ns,8,rfl,PL,zj,zj,fun x H1 x0 x1 P1 K1 N1=>?_⟩
 refine ⟨_,rfl,_,_,rfl,rfl,_,rfl,aE (fun q0=>?_) (fun q0=>?_)⟩
 .have m0:0<=x % 3:=dt zj
  have m1:x % 3<3:=du zj
  refine ⟨_,rfl,sz3,fun l1 hl1=>?_⟩
  have s2:=ai (o:=.lst [.int 3,.int 7,.int 40]) hl1
  have g2:=af (H:=H1) (a:=l1) (o:=.lst [.int 3,.int 7,.int 40])
  generalize upd H1 l1 (.lst [.int 3,.int 7,.int 40])=H2 at s2 g2 ⊢
  obtain ⟨v,ev,mv⟩:=cC (l:=([.int 3,.int 7,.int 40]:List V)) (i:=x % 3) m0 m1
  obtain ⟨m,rfl,p0,p1⟩:∃ m:Int,v=.int m/\0<m/\m<2 ^ 120:=by
   simp only [List.mem_cons,List.not_mem_nil,or_false] at mv
   rcases mv with h | h | h <;> exact ⟨_,h,zj,zj⟩
  refine ⟨_,rfl,_,_,rfl,rfl,(by show (0:Int)<3;decide),l1,_,_,_,rfl,rfl,SqL.of g2,ev,pl,sr,ns,m,rfl,P1.same s2,p0,p1,fun y H3 y0 y1 P3 K3 N3=>?_⟩
  refine ⟨sz3,fun l2 hl2=>?_⟩
  have s4:=ai (o:=.lst [.int 1,.int 3,.int 0]) hl2
  have g4:=af (H:=H3) (a:=l2) (o:=.lst [.int 1,.int 3,.int 0])
  generalize upd H3 l2 (.lst [.int 1,.int 3,.int 0])=H4 at s4 g4 ⊢
  obtain ⟨v2,ev2,mv2⟩:=cC (l:=([.int 1,.int 3,.int 0]:List V)) (i:=x % 3) m0 m1
  obtain ⟨m2,rfl⟩:∃ m:Int,v2=.int m:=by
   simp only [List.mem_cons,List.not_mem_nil,or_false] at mv2
   rcases mv2 with h | h | h <;> exact ⟨_,h⟩
  refine ⟨_,rfl,_,_,rfl,rfl,(by show (0:Int)<3;decide),l2,_,_,_,rfl,rfl,SqL.of g4,ev2,_,_,rfl,rfl,?_⟩
  exact k _ H4 (P3.same s4) (((K1.trans (Kept.of_same s2)).trans K3).trans (Kept.of_same s4))
 refine ⟨_,rfl,_,_,rfl,rfl,⟨zj,zj,zj⟩,_,_,rfl,rfl,.inl ⟨zj,zj⟩,_,_,rfl,rfl,pl,sr,ns,_,rfl,P1,zj,zj,fun y H3 y0 y1 P3 K3 N3=>?_⟩
 refine ⟨_,_,rfl,rfl,⟨zj,zj,zj⟩,_,_,rfl,rfl,_,_,rfl,rfl,?_⟩
 exact k _ H3 P3 (K1.trans K3)
abbrev pW:Stmt:=top 26
theorem qz:FnScope ["row","k","looks","low"] ["row","k"] (ao pW):=fsc fun nd=>⟨rfl,rfl,rfl,nd,rfl,zi,zi⟩
def mt:Sp:=fun vs H Q _=>∃ (r:Addr) (xs:List V) (a:Nat) (t:V->List V),vs=[.ref r,.int a]/\H r=some (.lst xs)/\EnR t H xs/\xs.length<=1000 /\
 ∀H',H' r=some (.lst (dn (ltT t) xs.length xs a 0).1)->(∀b o,H b=some o->b≠r->H' b=some o)->Q (.int (dn (ltT t) xs.length xs a 0).2) H'
theorem uQ {f:Addr}{fd:FuncData}(F:Fun K "_law_let_down" "_law_let_down" pW f fd)(T:Bl mg):aA P w K mg base CX0 1 f fd ["row","k"] mt:=by
 have sc:=qz
 refine F.ok qz (fun vs H Q E h=>?_) (fun cdv A outer s H vs Q E hr h=>?_)
 .obtain ⟨r,xs,a,t,rfl,_⟩:=h
  rfl
 obtain ⟨r,xs,a,t,rfl,hx,en,hl,k⟩:=h
 have hu:=hr.units0
 refine ⟨_,(QSs.to (ae (qst 2 sc.nd ag)
  (ae (cq PassesOwn.never (ar cV (aq aF (aq cz ag (qv 1)) ag) (qcB aG T.z_len (ad (qv 0) ah)) (az _)) (ae (qst 3 sc.nd (aq aF (aq cz ag (qv 1)) ag))
  (ae (aR (ar cV (aq aF (qv 3) ag) (qcB aG T.z_len (ad (qv 0) ah)) (az _)) (ae (qst 2 sc.nd (aq aF (qv 2) ag))
  (aj (qst 3 sc.nd (aq aF (qv 3) (qcT ci T.z_int (ad (cr (fJ hu) (au aw (qv 0) (aq aF (qv 3) ag) pix) (au aw (qv 0) (qv 3) pix) (az _)) ah)))))) ay)
  (ae (qst 2 sc.nd (aq aF (qv 2) ag))
  (ae (aR (dR (ar (fJ hu) (au aw (qv 0) (qv 3) pix) (au aw (qv 0) (qv 1) pix) (az _))) (aj (aB (qv 2))) ay)
  (ae (be (aI (ad (au aw (qv 0) (qv 1) pix) (ad (au aw (qv 0) (qv 3) pix) ah))) (dW rfl (aN (bh (qv 0) (qv 3) aS) (aN (bh (qv 0) (qv 1) aS) b8))))
  (aj (qst 1 sc.nd (qv 3)))))))))
  (aj (aB (qv 2)))))),?_⟩
 refine ⟨fun m σ H2=>∃ (f p lk:Nat) (bl:Option V) (ys:List V),σ=[some (.ref r),some (.int p),some (.int lk),bl]/\dn (ltT t) f ys p lk=dn (ltT t) xs.length xs a 0/\ys.length<=p+f/\H2 r=some (.lst ys)/\ys.length=xs.length/\(∀y∈ys,y∈xs)/\(∀b o,H b=some o->b≠r->H2 b=some o)/\m=ys.length-p,
  ⟨_,xs.length,a,0,none,xs,rfl,rfl,zk,hx,rfl,fun y h=>h,fun b o e _=>e,rfl⟩,?_⟩
 rintro m σ H2 ⟨f,p,lk,bl,ys,rfl,hd,hf,h2,l2,s2,f2,rfl⟩
 have en2:EnR t H2 ys:=(en.bar hx f2).sub s2
 refine ⟨_,rfl,_,_,rfl,rfl,.inl ⟨zj,zj⟩,_,_,rfl,rfl,_,rfl,r,_,rfl,.inl (SqL.of h2),_,_,rfl,rfl,_,rfl,aE (fun c1=>?_) (fun c1=>⟨_,rfl,?_⟩)⟩
 rotate_left
 .have c1':¬ 2*(p:Int)+1<(ys.length:Int):=by simpa using c1
  rw [mW zk] at hd
  have:=k H2
  rw [<-hd] at this
  exact this h2 f2
 have c1':2*(p:Int)+1<(ys.length:Int):=by simpa using c1
 refine ⟨fun σ' H'=>∃ m',m'<ys.length-p/\∃ (f p lk:Nat) (bl:Option V) (zs:List V),σ'=[some (.ref r),some (.int p),some (.int lk),bl]/\dn (ltT t) f zs p lk=dn (ltT t) xs.length xs a 0/\zs.length<=p+f/\H' r=some (.lst zs)/\zs.length=xs.length/\(∀y∈zs,y∈xs)/\(∀b o,H b=some o->b≠r->H' b=some o)/\m'=zs.length-p,fun σ' H' z=>z,?_⟩
 refine ⟨_,rfl,_,_,rfl,rfl,.inl ⟨zj,zj⟩,_,_,rfl,rfl,?_⟩
 refine ⟨_,rfl,_,_,rfl,rfl,_,rfl,r,_,rfl,.inl (SqL.of h2),_,_,rfl,rfl,_,rfl,aE (fun c2=>?_) (fun c2=>?_)⟩
 .have c2':2*(p:Int)+1+1<(ys.length:Int):=by simpa using c2
  refine ⟨_,rfl,_,_,rfl,rfl,?_⟩
  obtain ⟨b3,e3,g3,m3,t3⟩:=en2.gat (show 2*p+2<ys.length by lia)
  obtain ⟨b4,e4,g4,m4,t4⟩:=en2.gat (show 2*p+1<ys.length by lia)
  rw [e3,show ((2*p+2:Nat):Int)=2*(p:Int)+1+1 by lia] at t3
  rw [e4,show ((2*p+1:Nat):Int)=2*(p:Int)+1 by lia] at t4
  refine ⟨_,rfl,_,rfl,_,rfl,_,_,rfl,rfl,r,_,_,_,rfl,rfl,SqL.of h2,t3,_,rfl,_,rfl,r,_,_,_,rfl,rfl,SqL.of h2,t4,b3,b4,_,_,rfl,rfl,SqT.of g3,SqT.of g4,en2.fit _ _,.inr ⟨_,rfl,_,_,rfl,rfl,?_⟩⟩
  have hB:2*(p:Int)+1+(if cP (t (g ys (2*p+2))) (t (g ys (2*p+1)))=true then 1 else 0)=((les (ltT t) ys p:Nat):Int):=(n6 (lt:=ltT t) zk).symm
  have kidsE:kids ys.length p=2:=by unfold kids;rw [if_pos zk]
  have hles:les (ltT t) ys p<ys.length:=cM zk
  have lo:=dU (lt:=ltT t) (xs:=ys) (p:=p)
  refine ⟨_,rfl,_,_,rfl,rfl,?_⟩
  obtain ⟨b1,e1,g1,m1,t1⟩:=en2.gat hles
  obtain ⟨b2,e2,g2,m2,t2⟩:=en2.gat (show p<ys.length by lia)
  rw [e1] at t1
  rw [e2] at t2
  rw [<-hB] at t1
  refine ⟨_,rfl,_,rfl,r,_,_,_,rfl,rfl,SqL.of h2,t1,_,rfl,_,rfl,r,_,_,_,rfl,rfl,SqL.of h2,t2,b1,b2,_,_,rfl,rfl,SqT.of g1,SqT.of g2,en2.fit _ _,_,rfl,aE (fun c3=>?_) (fun c3=>?_)⟩
  .have q3:ltT t (g ys (les (ltT t) ys p)) (g ys p)=false:=by
    cases q:ltT t (g ys (les (ltT t) ys p)) (g ys p) with
    | false=>rfl
    | true=>have c4:=(show (!ltT t (g ys (les (ltT t) ys p)) (g ys p))=true from c3);rw [q] at c4;cases c4
   refine ⟨_,rfl,?_⟩
   obtain ⟨f,rfl⟩:∃ f0,f=f0+1:=⟨f-1,zk⟩
   rw [eG zk q3,kidsE] at hd
   have:=k H2
   rw [<-hd] at this
   have ez:((lk:Int)+1+1)=((lk+2:Nat):Int):=by lia
   show Q (.int ((lk:Int)+1+1)) H2
   rw [ez]
   exact this h2 f2
  .have q3:ltT t (g ys (les (ltT t) ys p)) (g ys p)=true:=by
    cases q:ltT t (g ys (les (ltT t) ys p)) (g ys p) with
    | true=>rfl
    | false=>exact absurd (show (!ltT t (g ys (les (ltT t) ys p)) (g ys p))=true by rw [q];rfl) c3
   obtain ⟨f,rfl⟩:∃ f0,f=f0+1:=⟨f-1,zk⟩
   rw [jA zk q3,kidsE] at hd
   refine ⟨_,rfl,_,rfl,r,_,_,_,rfl,rfl,SqL.of h2,t2,_,rfl,_,rfl,r,_,_,_,rfl,rfl,SqL.of h2,t1,sz2,fun p2 hp=>?_⟩
   have hrp:r≠p2:=am h2 hp
   refine ⟨p2,_,rfl,SqT.of af,rfl,_,_,rfl,_,rfl,_,rfl,r,ys,_,_,rfl,rfl,by rw [ak hrp];exact h2,cE zk (by rw [hB];lia),_,_,rfl,_,rfl,_,rfl,r,_,_,_,rfl,rfl,af,cE zk (by rw [List.length_set];lia),rfl,?_⟩
   have esw:(ys.set (2*(p:Int)+1+(if cP (t (g ys (2*p+2))) (t (g ys (2*p+1)))=true then 1 else 0)).toNat (.ref b2)).set (p:Int).toNat (.ref b1)=sw ys p (les (ltT t) ys p):=by
    unfold sw
    rw [e1,e2,hB,Int.toNat_natCast,Int.toNat_natCast]
    exact List.set_comm _ _ zk
   rw [eT,esw]
   refine ⟨_,rfl,ys.length-les (ltT t) ys p,zk,f,les (ltT t) ys p,lk+2,some (.int (2*(p:Int)+1+(if cP (t (g ys (2*p+2))) (t (g ys (2*p+1)))=true then 1 else 0))),sw ys p (les (ltT t) ys p),?_,hd,by rw [aW];lia,af,by rw [aW];exact l2,fun y hy=>s2 y (dZ zk hles y hy),?_,by rw [aW]⟩
   .have ez:((lk:Int)+1+1)=((lk+2:Nat):Int):=by lia
    show [some (V.ref r),some (V.int (2*(p:Int)+1+(if cP (t (g ys (2*p+2))) (t (g ys (2*p+1)))=true then 1 else 0))),some (V.int ((lk:Int)+1+1)),some (V.int (2*(p:Int)+1+(if cP (t (g ys (2*p+2))) (t (g ys (2*p+1)))=true then 1 else 0)))]=_
    rw [ez,hB]
   .intro b o e nb
    rw [ak nb]
    have q:=f2 b o e nb
    rw [ak (am q hp)];exact q
 have c2':¬ 2*(p:Int)+1+1<(ys.length:Int):=by simpa using c2
 have hB:2*(p:Int)+1=((les (ltT t) ys p:Nat):Int):=by rw [nk zk];lia
 have kidsE:kids ys.length p=1:=by unfold kids;rw [if_neg zk,if_pos zk]
 have hles:les (ltT t) ys p<ys.length:=cM zk
 have lo:=dU (lt:=ltT t) (xs:=ys) (p:=p)
 refine ⟨_,rfl,_,_,rfl,rfl,?_⟩
 obtain ⟨b1,e1,g1,m1,t1⟩:=en2.gat hles
 obtain ⟨b2,e2,g2,m2,t2⟩:=en2.gat (show p<ys.length by lia)
 rw [e1] at t1
 rw [e2] at t2
 rw [<-hB] at t1
 refine ⟨_,rfl,_,rfl,r,_,_,_,rfl,rfl,SqL.of h2,t1,_,rfl,_,rfl,r,_,_,_,rfl,rfl,SqL.of h2,t2,b1,b2,_,_,rfl,rfl,SqT.of g1,SqT.of g2,en2.fit _ _,_,rfl,aE (fun c3=>?_) (fun c3=>?_)⟩
 .have q3:ltT t (g ys (les (ltT t) ys p)) (g ys p)=false:=by
   cases q:ltT t (g ys (les (ltT t) ys p)) (g ys p) with
   | false=>rfl
   | true=>have c4:=(show (!ltT t (g ys (les (ltT t) ys p)) (g ys p))=true from c3);rw [q] at c4;cases c4
  refine ⟨_,rfl,?_⟩
  obtain ⟨f,rfl⟩:∃ f0,f=f0+1:=⟨f-1,zk⟩
  rw [eG zk q3,kidsE] at hd
  have:=k H2
  rw [<-hd] at this
  have ez:((lk:Int)+1)=((lk+1:Nat):Int):=by lia
  show Q (.int ((lk:Int)+1)) H2
  rw [ez]
  exact this h2 f2
 have q3:ltT t (g ys (les (ltT t) ys p)) (g ys p)=true:=by
  cases q:ltT t (g ys (les (ltT t) ys p)) (g ys p) with
  | true=>rfl
  | false=>exact absurd (show (!ltT t (g ys (les (ltT t) ys p)) (g ys p))=true by rw [q];rfl) c3
 obtain ⟨f,rfl⟩:∃ f0,f=f0+1:=⟨f-1,zk⟩
 rw [jA zk q3,kidsE] at hd
 refine ⟨_,rfl,_,rfl,r,_,_,_,rfl,rfl,SqL.of h2,t2,_,rfl,_,rfl,r,_,_,_,rfl,rfl,SqL.of h2,t1,sz2,fun p2 hp=>?_⟩
 have hrp:r≠p2:=am h2 hp
 refine ⟨p2,_,rfl,SqT.of af,rfl,_,_,rfl,_,rfl,_,rfl,r,ys,_,_,rfl,rfl,by rw [ak hrp];exact h2,cE zk (by rw [hB];lia),_,_,rfl,_,rfl,_,rfl,r,_,_,_,rfl,rfl,af,cE zk (by rw [List.length_set];lia),rfl,?_⟩
 have esw:(ys.set (2*(p:Int)+1).toNat (.ref b2)).set (p:Int).toNat (.ref b1)=sw ys p (les (ltT t) ys p):=by
  unfold sw
  rw [e1,e2,hB,Int.toNat_natCast,Int.toNat_natCast]
  exact List.set_comm _ _ zk
 rw [eT,esw]
 refine ⟨_,rfl,ys.length-les (ltT t) ys p,zk,f,les (ltT t) ys p,lk+1,some (.int (2*(p:Int)+1)),sw ys p (les (ltT t) ys p),?_,hd,by rw [aW];lia,af,by rw [aW];exact l2,fun y hy=>s2 y (dZ zk hles y hy),?_,by rw [aW]⟩
 .have ez:((lk:Int)+1)=((lk+1:Nat):Int):=by lia
  show [some (V.ref r),some (V.int (2*(p:Int)+1)),some (V.int ((lk:Int)+1)),some (V.int (2*(p:Int)+1))]=_
  rw [ez,hB]
 intro b o e nb
 rw [ak nb]
 have q:=f2 b o e nb
 rw [ak (am q hp)];exact q
abbrev jj:Stmt:=top 25
theorem jK:FnScope ["row","k","looks","up"] ["row"] (ao jj):=fsc fun nd=>⟨rfl,rfl,rfl,nd,rfl,zi,zi⟩
def jW:Sp:=fun vs H Q _=>∃ (r:Addr) (xs:List V) (es:List En),vs=[.ref r]/\H r=some (.lst xs)/\RR H xs es/\0<es.length/\es.length<=1000 /\
 ∀ys H',H' r=some (.lst ys)->RR H' ys (Hg.up lE (es.length-1) es (es.length-1) 0).1->Kept [r] H H'->Q (.int (Hg.up lE (es.length-1) es (es.length-1) 0).2) H'
theorem pf {f:Addr}{fd:FuncData}(F:Fun K "_law_raised" "_law_raised" jj f fd)(T:Bl mg):aA P w K mg base CX0 1 f fd ["row"] jW:=by
 have sc:=jK
 refine F.ok jK (fun vs H Q E h=>?_) (fun cdv A outer s H vs Q E hr h=>?_)
 .obtain ⟨r,xs,es,rfl,_⟩:=h
  rfl
 obtain ⟨r,xs,es,rfl,hx,rr,h0,hl,k⟩:=h
 have hu:=hr.units0
 have lx:=rr.len
 have em:=mK (H:=H) (f:=xs.length-1) (xs:=xs) (p:=xs.length-1) (lk:=0)
 rw [rr.eq] at em
 obtain ⟨t,et⟩:∃ t,t=bI H:=⟨_,rfl⟩
 rw [<-et] at em
 have nt5:∀H',Kept [r] H H'->∀b zs,H b=some (.tup zs)->H' b=some (.tup zs):=fun H' kk=>kk.tups (fun b hb zs z=>by rw [zm hb,hx] at z;cases z)
 have fin:∀H',H' r=some (.lst (up (ltT t) (xs.length-1) xs (xs.length-1) 0).1)->Kept [r] H H'->Q (.int (up (ltT t) (xs.length-1) xs (xs.length-1) 0).2) H':=fun H' h1 kk=>by
  have e2:(up (ltT t) (xs.length-1) xs (xs.length-1) 0).2=(Hg.up lE (es.length-1) es (es.length-1) 0).2:=by rw [<-lx,em]
  rw [e2]
  refine k _ H' h1 ?_ kk
  rw [<-lx,em]
  have r2:=rr.sub (ys:=(up (ltT t) (xs.length-1) xs (xs.length-1) 0).1) fun y hy=>(dH zk).mem_iff.mp hy
  exact r2.stay (nt5 H' kk)
 refine ⟨_,(QSs.to (ae (qst 1 sc.nd (aq bp (qcB aG T.z_len (ad (qv 0) ah)) ag))
  (ae (qst 2 sc.nd ag)
  (ae (cq PassesOwn.never (ar fZ (qv 1) ag (az _)) (ae (qst 2 sc.nd (aq aF (qv 2) ag))
  (ae (qst 3 sc.nd (aq ca (aq bp (qv 1) ag) ag))
  (ae (aR (dR (ar (fJ hu) (au aw (qv 0) (qv 1) pix) (au aw (qv 0) (qv 3) pix) (az _))) (aj (aB (qv 2))) ay)
  (ae (be (aI (ad (au aw (qv 0) (qv 3) pix) (ad (au aw (qv 0) (qv 1) pix) ah))) (dW rfl (aN (bh (qv 0) (qv 1) aS) (aN (bh (qv 0) (qv 3) aS) b8))))
  (aj (qst 1 sc.nd (qv 3))))))))
  (aj (aB (qv 2))))))),?_⟩
 refine ⟨_,rfl,r,_,rfl,.inl (SqL.of hx),_,_,rfl,rfl,?_⟩
 have ea0:(xs.length:Int)-1=((xs.length-1:Nat):Int):=by lia
 refine ⟨fun m σ H2=>∃ (f p lk:Nat) (ys:List V) (ou:Option V),σ=[some (.ref r),some (.int p),some (.int lk),ou]/\up (ltT t) f ys p lk=up (ltT t) (xs.length-1) xs (xs.length-1) 0/\p<=f/\p<ys.length/\H2 r=some (.lst ys)/\ys.length=xs.length/\(∀y∈ys,y∈xs)/\Kept [r] H H2/\m=p,
  ⟨_,xs.length-1,xs.length-1,0,xs,none,(by show [some (V.ref r),some (V.int ((xs.length:Int)-1)),some (V.int 0),none]=_;rw [ea0];rfl),rfl,Nat.le_refl _,zk,hx,rfl,fun y h=>h,Kept.refl,rfl⟩,?_⟩
 rintro p σ H2 ⟨f,p',lk,ys,ou,rfl,hdd,hf,hp,h2,l2,s2,kk2,rfl⟩
 have en2:EnR t H2 ys:=by
  refine ⟨by rw [et];exact dG H,fun y hy=>?_⟩
  obtain ⟨a,e1,e2⟩:=rr.en.mem y (s2 y hy)
  rw [<-et] at e2
  exact ⟨a,e1,nt5 H2 kk2 _ _ e2⟩
 refine ⟨_,rfl,_,_,rfl,rfl,_,rfl,aE (fun c1=>?_) (fun c1=>?_)⟩
 rotate_left
 .have c1':¬ (p:Int)>0:=by simpa using c1
  rw [mT zk] at hdd
  have:=fin H2
  rw [<-hdd] at this
  exact ⟨_,rfl,this h2 kk2⟩
 have c1':(p:Int)>0:=by simpa using c1
 obtain ⟨f,rfl⟩:∃ f0,f=f0+1:=⟨f-1,zk⟩
 have hq':(p-1) / 2<ys.length:=by lia
 have ea:((p:Int)-1) / 2=(((p-1) / 2:Nat):Int):=by lia
 obtain ⟨b1,e1,g1,m1,t1⟩:=en2.gat hp
 obtain ⟨b2,e2,g2,m2,t2⟩:=en2.gat hq'
 rw [e1] at t1
 rw [e2,<-ea] at t2
 refine ⟨fun σ H2=>∃ m',m'<p/\∃ (f p lk:Nat) (ys:List V) (ou:Option V),σ=[some (.ref r),some (.int p),some (.int lk),ou]/\up (ltT t) f ys p lk=up (ltT t) (xs.length-1) xs (xs.length-1) 0/\p<=f/\p<ys.length/\H2 r=some (.lst ys)/\ys.length=xs.length/\(∀y∈ys,y∈xs)/\Kept [r] H H2/\m'=p,fun σ' H' z=>z,?_⟩
 refine ⟨_,rfl,_,_,rfl,rfl,?_⟩
 refine ⟨_,rfl,_,_,rfl,rfl,_,_,rfl,rfl,⟨zj,zj⟩,?_⟩
 refine ⟨_,rfl,_,rfl,r,_,_,_,rfl,rfl,SqL.of h2,t1,_,rfl,_,rfl,r,_,_,_,rfl,rfl,SqL.of h2,t2,b1,b2,_,_,rfl,rfl,SqT.of g1,SqT.of g2,en2.fit _ _,_,rfl,aE (fun c3=>?_) (fun c3=>?_)⟩
 .have q3:ltT t (g ys p) (g ys ((p-1) / 2))=false:=by
   cases q:ltT t (g ys p) (g ys ((p-1) / 2)) with
   | false=>rfl
   | true=>have c4:=(show (!ltT t (g ys p) (g ys ((p-1) / 2)))=true from c3);rw [q] at c4;cases c4
  rw [nN zk q3] at hdd
  have:=fin H2
  rw [<-hdd] at this
  exact ⟨_,rfl,this h2 kk2⟩
 have q3:ltT t (g ys p) (g ys ((p-1) / 2))=true:=by
  cases q:ltT t (g ys p) (g ys ((p-1) / 2)) with
  | true=>rfl
  | false=>exact absurd (show (!ltT t (g ys p) (g ys ((p-1) / 2)))=true by rw [q];rfl) c3
 rw [vI zk q3] at hdd
 refine ⟨_,rfl,_,rfl,r,_,_,_,rfl,rfl,SqL.of h2,t2,_,rfl,_,rfl,r,_,_,_,rfl,rfl,SqL.of h2,t1,sz2,fun p2 hp2=>?_⟩
 have hrp:r≠p2:=am h2 hp2
 refine ⟨p2,_,rfl,SqT.of af,rfl,_,_,rfl,_,rfl,_,rfl,r,ys,_,_,rfl,rfl,by rw [ak hrp];exact h2,cE zk zk,_,_,rfl,_,rfl,_,rfl,r,_,_,_,rfl,rfl,af,cE zk (by rw [List.length_set,ea];lia),rfl,?_⟩
 have esw:(ys.set (p:Int).toNat (.ref b2)).set (((p:Int)-1) / 2).toNat (.ref b1)=sw ys p ((p-1) / 2):=by
  unfold sw
  rw [e1,e2,ea]
  rfl
 rw [eT,esw]
 refine ⟨_,rfl,(p-1) / 2,zk,f,(p-1) / 2,lk+1,sw ys p ((p-1) / 2),some (.int (((p:Int)-1) / 2)),?_,hdd,zk,by rw [aW];exact hq',af,by rw [aW];exact l2,fun y hy=>s2 y (dZ hp hq' y hy),?_,rfl⟩
 .show [some (V.ref r),some (V.int (((p:Int)-1) / 2)),some (V.int ((lk:Int)+1)),some (V.int (((p:Int)-1) / 2))]=_
  rw [ea]
  rfl
 exact (kk2.new hp2).put zl
abbrev wZ:Stmt:=top 27
theorem vy:FnScope ["row","last"] ["row"] (ao wZ):=fsc fun nd=>⟨rfl,rfl,rfl,nd,rfl,zi,zi⟩
def vY:Sp:=fun vs H Q _=>∃ (r:Addr) (xs:List V) (es:List En),vs=[.ref r]/\H r=some (.lst xs)/\RR H xs es/\0<es.length/\es.length<=1000 /\
 ∀ys H',H' r=some (.lst ys)->RR H' ys (Hg.cutf lE es).1->Kept [r] H H'->Q (.int (Hg.cutf lE es).2) H'
theorem xD {f fn:Addr}{fd fdn:FuncData}(F:Fun K "_law_off" "_law_off" wZ f fd)(T:Bl mg)(G_law_let_down:aA P w K mg base CX0 1 fn fdn ["row","k"] mt)(D_law_let_down:Nm K mg "_law_let_down" fn fdn ["row","k"]):aA P w K mg base CX0 2 f fd ["row"] vY:=by
 have sc:=vy
 refine F.ok vy (fun vs H Q E h=>?_) (fun cdv A outer s H vs Q E hr h=>?_)
 .obtain ⟨r,xs,es,rfl,_⟩:=h
  rfl
 obtain ⟨r,xs,es,rfl,hx,rr,h0,hl,k⟩:=h
 have hu:=hr.units0
 have lx:=rr.len
 have eg:xs[xs.length-1]?=some (g xs (xs.length-1)):=by rw [g_get zk];exact List.getElem?_eq_getElem _
 have mg':g xs (xs.length-1)∈xs:=List.mem_of_getElem? eg
 have ld:xs.dropLast.length=xs.length-1:=List.length_dropLast
 have em:=oq (H:=H) (xs:=xs)
 rw [rr.eq] at em
 have r2:=rr.sub (ys:=(cutf (ltT (bI H)) xs).1) fun y hy=>(cL (by rw [rr.len];exact h0)).mem_iff.mp (List.mem_cons_of_mem _ hy)
 have fin:∀H',H' r=some (.lst (cutf (ltT (bI H)) xs).1)->Kept [r] H H'->Q (.int (cutf (ltT (bI H)) xs).2) H':=fun H' h1 kk=>by
  have tk:=kk.tups (fun b hb zs z=>by rw [zm hb,hx] at z;cases z)
  have e2:(cutf (ltT (bI H)) xs).2=(Hg.cutf lE es).2:=by rw [em]
  rw [e2]
  exact k _ H' h1 (by rw [em];exact r2.stay tk) kk
 refine ⟨_,(QSs.to (ae (qst 1 sc.nd (qL PySem.F.plainAttrs_list PySem.F.slot_list_pop PySem.F.type_list_pop rX (qv 0)))
  (ae (aR (ar (eU hu) (qv 0) (aM ah) (az _)) (aj (aB ag)) ay)
  (ae (be (qv 1) (bh (qv 0) ag aS))
  (aj (aB (qcl G_law_let_down hr D_law_let_down aD (ad (qv 0) (ad ag ah))))))))),?_⟩
 refine ⟨_,rfl,.inl ⟨rfl,_,SqL.of hx⟩,r,xs,_,rfl,rfl,hx,eg,?_⟩
 refine ⟨_,rfl,sz0,fun q hq=>?_⟩
 have nrq:r≠q:=am (af (H:=H) (a:=r) (o:=.lst xs.dropLast)) hq
 have hq0:H q=none:=by rw [<-ak nrq.symm (H:=H) (o:=.lst xs.dropLast)];exact hq
 have hxd:(upd (upd H r (.lst xs.dropLast)) q (.lst [])) r=some (.lst xs.dropLast):=by rw [ak nrq];exact af
 have kk0:Kept [r] H (upd (upd H r (.lst xs.dropLast)) q (.lst [])):=((Kept.refl.put zl).newer hq0)
 have tk0:∀b zs,H b=some (.tup zs)->(upd (upd H r (.lst xs.dropLast)) q (.lst [])) b=some (.tup zs):=fun b zs z=>by
  rw [ak (am z hq0),ak (bA z hx (by intro y;cases y))];exact z
 have hqd:(upd (upd H r (.lst xs.dropLast)) q (.lst [])) q=some (.lst []):=af
 generalize upd (upd H r (.lst xs.dropLast)) q (.lst [])=H2 at hxd kk0 tk0 hqd
 refine ⟨r,q,xs.dropLast,rfl,rfl,SqL.of hxd,SqL.of hqd,_,rfl,aE (fun c1=>?_) (fun c1=>?_)⟩
 .have c1':xs.dropLast=[]:=of_decide_eq_true c1
  have ec:cutf (ltT (bI H)) xs=([],0):=cK (by have:xs.dropLast.length=0:=(by rw [c1'];rfl);lia)
  have:=fin H2 (by rw [ec,hxd,c1']) kk0
  rw [ec] at this
  exact this
 have c1':xs.dropLast≠[]:=fun z=>c1 (decide_eq_true z)
 have c2:xs.dropLast.length≠0:=fun z=>c1' (List.length_eq_zero_iff.mp z)
 have l2:(xs.dropLast.set 0 (g xs (xs.length-1))).length=xs.dropLast.length:=List.length_set
 have ec:cutf (ltT (bI H)) xs=dn (ltT (bI H)) xs.dropLast.length (xs.dropLast.set 0 (g xs (xs.length-1))) 0 0:=by
  unfold cutf
  rw [if_neg c1']
 refine ⟨_,rfl,_,rfl,r,xs.dropLast,_,0,rfl,rfl,hxd,cE zk zk,?_⟩
 have en2:EnR (bI H) (upd H2 r (.lst (xs.dropLast.set 0 (g xs (xs.length-1))))) (xs.dropLast.set 0 (g xs (xs.length-1))):=by
  refine EnR.put ⟨dG H,fun x hx2=>?_⟩ hxd
  have hm:x∈xs:=by
   rcases List.mem_or_eq_of_mem_set hx2 with z | z
   .exact (List.dropLast_sublist xs).mem z
   .rw [z];exact mg'
  obtain ⟨a,e1,e2⟩:=rr.en.mem x hm
  exact ⟨a,e1,tk0 _ _ e2⟩
 refine ⟨_,rfl,r,_,0,bI H,rfl,af,en2,zk,fun H' h' f'=>?_⟩
 rw [l2,<-ec] at h'
 rw [l2,<-ec]
 refine fin _ h' ?_
 intro b o e hb
 refine f' b o ?_ fun z=>hb (by rw [z];simp)
 rw [ak fun z=>hb (by rw [z];simp)]
 exact kk0 b o e hb
abbrev wX:Stmt:=top 28
theorem vV:FnScope ["slack"] ["slack"] (ao wX):=fsc fun nd=>⟨rfl,rfl,rfl,nd,rfl,zi,zi⟩
def nO:Sp:=fun vs H Q _=>∃ (z:Int),vs=[.int z]/\∀st r td H',H st=none->H r=none->H td=none->StAt H' st r td (Gm.newL z) 0->Same H H'->Q (.ref st) H'
theorem v7 {f:Addr}{fd:FuncData}(F:Fun K "_law_new" "_law_new" wX f fd)(T:Bl mg):aA P w K mg base CX0 1 f fd ["slack"] nO:=by
 have sc:=vV
 refine F.ok vV (fun vs H Q E h=>?_) (fun cdv A outer s H vs Q E hr h=>?_)
 .obtain ⟨z,rfl,_⟩:=h
  rfl
 obtain ⟨z,rfl,k⟩:=h
 have hu:=hr.units0
 refine ⟨_,(QSs.to (aj (aB (pX av (qv 0) av (aM ah) av gP av ag av ag)))),?_⟩
 refine fun st hst=>?_
 have s1:=ai (o:=.dK []) hst
 have g1:=af (H:=H) (a:=st) (o:=.dK [])
 generalize upd H st (.dK [])=H1 at s1 g1 ⊢
 refine ⟨_,rfl,sz0,fun r hr1=>?_⟩
 have s2:=ai (o:=.lst []) hr1
 have g2:=af (H:=H1) (a:=r) (o:=.lst [])
 generalize upd H1 r (.lst [])=H2 at s2 g2 ⊢
 refine fun td htd=>?_
 refine cU htd fun H3 s3 g3=>?_--@2
 have n1:st≠r:=am g1 hr1
 have n2:st≠td:=am (s2 _ _ g1) htd
 have n3:r≠td:=am g2 htd
 refine ⟨s3 _ _ (s2 _ _ g1),[(Sum.inr "slack",.int z),(Sum.inr "row",.ref r),(Sum.inr "there",.ref td),(Sum.inr "next",.int 0),(Sum.inr "work",.int 0)],rfl,by show 5<=15;decide,?_⟩
 rw [re]
 have old:∀{b:Addr} {X Y:Hp},Same X Y->Y b=none->X b=none:=fun {b X Y} sm h=>by
  cases e:X b with
  | none=>rfl
  | some o=>rw [sm b o e] at h;cases h
 refine k st r td _ hst (old s1 hr1) (old (s1.trans s2) htd) ⟨af,⟨[],by rw [ak n1.symm];exact s3 _ _ g2,RR.nil⟩,⟨[],by rw [ak n2.symm];exact g3,KP.nil⟩,n2⟩ fun b o e=>?_
 rw [ak (am e hst)]
 exact s3 _ _ (s2 _ _ (s1 _ _ e))
abbrev g0:Stmt:=top 29
theorem iu:FnScope ["state","entry"] ["state","entry"] (ao g0):=fsc fun nd=>⟨rfl,rfl,rfl,nd,rfl,zi,zi⟩
def fH:Sp:=fun vs H Q _=>∃ (st r td a:Addr) (s:LS) (wk:Nat) (e:En),vs=[.ref st,.ref a]/\StAt H st r td s wk/\H a=some (.tup (enV e))/\(∀n x,(n,x)∈s.there->x.n=n)/\∀H',Same H H'->Q (.bl (Gm.holds s.there e)) H'
theorem mr {f:Addr}{fd:FuncData}(F:Fun K "_law_is_there" "_law_is_there" g0 f fd)(T:Bl mg):aA P w K mg base CX0 1 f fd ["state","entry"] fH:=by
 have sc:=iu
 refine F.ok iu (fun vs H Q E h=>?_) (fun cdv A outer s H vs Q E hr h=>?_)
 .obtain ⟨st,r,td,a,s,wk,e,rfl,_⟩:=h
  rfl
 obtain ⟨st,r,td,a,s,wk,e,rfl,O,ha,nm,k⟩:=h
 have hu:=hr.units0
 obtain ⟨ks,hd,kr⟩:=O.ht
 refine ⟨_,(QSs.to (aj (aB (cr (vd hu) (kG (aX hr) (aO (aX hr) (qv 0) av pix) (au aJ (qv 1) ag pix) ⟨rfl,rfl,rfl,rfl⟩) (aI (ad (au aJ (qv 1) ag pix) (ad (au aJ (qv 1) ag pix) ah))) (az _))))),?_⟩
 refine ⟨_,rfl,st,_,rfl,O.there,td,rfl,.inl ⟨ks,.inl hd⟩,_,rfl,a,_,_,_,rfl,rfl,SqT.of ha,rfl,_,DGet.k (k:=Sum.inr e.n) hd,?_⟩
 have fin:Gm.holds s.there e=decide (Gm.dget s.there e.n=some e):=rfl
 refine ⟨_,rfl,a,_,_,_,rfl,rfl,SqT.of ha,rfl,_,rfl,a,_,_,_,rfl,rfl,SqT.of ha,rfl,sz2,fun t ht=>?_⟩
 have s1:=ai (o:=.tup [.int e.w,.int e.s]) ht
 have g1:=af (H:=H) (a:=t) (o:=.tup [.int e.w,.int e.s])
 generalize upd H t (.tup [.int e.w,.int e.s])=H1 at s1 g1 ⊢
 refine ⟨t,e.w,e.s,rfl,SqT.of g1,?_⟩
 rcases kr.get e.n with ⟨e1,e2⟩ | ⟨b,x,e1,e2,hb⟩
 .rw [e1]
  have h0:Gm.holds s.there e=false:=by rw [fin,e2];exact decide_eq_false (fun z=>nomatch z)
  have:=k H1 s1
  rw [h0] at this
  exact .inl ⟨rfl,this⟩
 rw [e1]
 refine .inr ⟨b,x.w,x.s,rfl,SqT.of (s1 _ _ hb),?_⟩
 have xn:=nm _ _ (Gm.dget_some e2)
 have h0:Gm.holds s.there e=decide (x.w=e.w/\x.s=e.s):=by
  rw [fin,e2,Bool.eq_iff_iff,decide_eq_true_eq,decide_eq_true_eq]
  constructor
  .intro z
   cases Option.some.inj z
   exact ⟨rfl,rfl⟩
  .rintro ⟨z1,z2⟩
   congr 1
   obtain ⟨xw,xn',xs⟩:=x
   obtain ⟨ew,en',es⟩:=e
   cases z1;cases z2;cases xn
   rfl
 have:=k H1 s1
 rw [h0] at this
 exact this
abbrev lT:Stmt:=top 30
theorem oK:FnScope ["state","name","worth"] ["state","name","worth"] (ao lT):=fsc fun nd=>⟨rfl,rfl,rfl,nd,rfl,zi,zi⟩
def oE:Sp:=fun vs H Q _=>∃ (st r td:Addr) (s:LS) (wk:Nat) (n:Str) (w:Int),vs=[.ref st,.str n,.int w]/\StAt H st r td s wk/\s.row.length<=900/\s.there.length<=900 /\
 ∀(lk:Nat) H',(Gm.enter slt s n w).looks=s.looks+lk->StAt H' st r td (Gm.enter slt s n w) wk->Kept [st,r,td] H H'->Q (.int lk) H'
theorem rV {f fr:Addr}{fd fdr:FuncData}(F:Fun K "_law_added" "_law_added" lT f fd)(T:Bl mg)(G_law_raised:aA P w K mg base CX0 1 fr fdr ["row"] jW)(D_law_raised:Nm K mg "_law_raised" fr fdr ["row"]):aA P w K mg base CX0 2 f fd ["state","name","worth"] oE:=by
 have sc:=oK
 refine F.ok oK (fun vs H Q E h=>?_) (fun cdv A outer s H vs Q E hr h=>?_)
 .obtain ⟨st,r,td,s,wk,n,w,rfl,_⟩:=h
  rfl
 obtain ⟨st,r,td,s,wk,n,w,rfl,O,h1,h2,k⟩:=h
 have hu:=hr.units0
 obtain ⟨ks,hd,kr⟩:=O.ht
 obtain ⟨xs,hx,rr⟩:=O.hr
 have lx:=rr.len
 have lk:=kr.len
 have nrd:r≠td:=bA hx hd (by intro z;cases z)
 have nrs:r≠st:=bA hx O.hs (by intro z;cases z)
 refine ⟨_,(QSs.to (ae (aK (bJ PySem.F.plainAttrs_list PySem.F.slot_list_append PySem.F.type_list_append aY (aO (aX hr) (qv 0) av pix) (ad (aI (ad (qv 2) (ad (qv 1) (ad (aO (aX hr) (qv 0) av pix) ah)))) ah)))
  (ae (eQ (aX hr) (aO (aX hr) (qv 0) av pix) (qv 1) (aI (ad (qv 2) (ad (aO (aX hr) (qv 0) av pix) ah))) rfl)
  (ae (eQ (aX hr) (qv 0) av (aq aF (aO (aX hr) (qv 0) av pix) ag) rfl)
  (aj (aB (qcl G_law_raised hr D_law_raised aD (ad (aO (aX hr) (qv 0) av pix) ah)))))))),?_⟩
 refine ⟨_,rfl,st,_,rfl,O.row,.inl ⟨rfl,xs,SqL.of hx⟩,_,rfl,_,rfl,_,rfl,st,_,rfl,O.next,sz3,fun e he=>?_⟩
 have se:=ai (o:=.tup [.int w,.str n,.int s.stamp]) he
 have ge:(upd H e (.tup [.int w,.str n,.int s.stamp])) e=some (.tup (enV ⟨w,n,(s.stamp:Int)⟩)):=af
 generalize upd H e (.tup [.int w,.str n,.int s.stamp])=H1 at se ge ⊢
 have O1:=O.same se
 have hx1:=se _ _ hx
 have rr1:=(rr.stay fun b l h=>se _ _ h).snoc ge
 refine ⟨r,xs,_,rfl,rfl,hx1,aH zk,?_⟩
 have k2:Kept [r] H1 (upd H1 r (.lst (xs++[.ref e]))):=Kept.refl.put zl
 have t2:=O1.tk k2 fun b hb=>by rw [zm hb];simp
 have O2:=O1.rowTo (H':=upd H1 r (.lst (xs++[.ref e]))) (lk:=s.looks) af (rr1.stay t2) k2
 have g2:=af (H:=H1) (a:=r) (o:=.lst (xs++[.ref e]))
 generalize upd H1 r (.lst (xs++[.ref e]))=H2 at k2 t2 O2 g2 ⊢
 have K2:Kept [st,r,td] H H2:=(Kept.of_same se).trans (k2.mono fun b hb=>by rw [zm hb];simp)
 refine ⟨_,rfl,_,rfl,st,_,rfl,O2.next,sz2,fun t ht=>?_⟩
 have s3:=ai (o:=.tup [.int w,.int s.stamp]) ht
 have g3:(upd H2 t (.tup [.int w,.int s.stamp])) t=some (.tup (psV ⟨w,n,(s.stamp:Int)⟩)):=af
 generalize upd H2 t (.tup [.int w,.int s.stamp])=H3 at s3 g3 ⊢
 have O3:=O2.same s3
 obtain ⟨ks3,hd3,kr3⟩:=O3.ht
 have lk3:=kr3.len
 have lk3':ks3.length=s.there.length:=lk3
 refine ⟨_,rfl,st,_,rfl,O3.there,_,rfl,td,_,rfl,DPut.k (k:=Sum.inr n) hd3 (aH zk),?_⟩
 have k4:Kept [td] H3 (upd H3 td (.dK (aZ ks3 (Sum.inr n) (.ref t)))):=Kept.refl.put zl
 have t4:=O3.tk k4 fun b hb=>by rw [zm hb];simp
 have O4:=O3.thereTo (H':=upd H3 td (.dK (aZ ks3 (Sum.inr n) (.ref t)))) af ((kr3.stay t4).put (t4 _ _ g3)) k4
 generalize upd H3 td (.dK (aZ ks3 (Sum.inr n) (.ref t)))=H4 at k4 t4 O4 ⊢
 have K4:Kept [st,r,td] H H4:=(K2.trans (Kept.of_same s3)).trans (k4.mono fun b hb=>by rw [zm hb];simp)
 obtain ⟨s4,e4⟩:∃ s4:LS,s4={ s with row:=s.row++[⟨w,n,(s.stamp:Int)⟩],there:=Gm.dput s.there n ⟨w,n,(s.stamp:Int)⟩ }:=⟨_,rfl⟩
 have O4':StAt H4 st r td s4 wk:=by rw [e4];exact O4
 refine ⟨_,rfl,st,_,rfl,O4'.next,_,_,rfl,rfl,_,rfl,st,_,rfl,DPut.k (k:=Sum.inr "next") O4'.hs (by show 5<sizeLine;decide),?_⟩
 have ep:aZ (stK r td s4 wk) (Sum.inr "next":Key) (.int ((s4.stamp:Int)+1))=stK r td { s4 with stamp:=s4.stamp+1 } wk:=vb rfl rfl
 have k5:Kept [st] H4 (upd H4 st (.dK (aZ (stK r td s4 wk) (Sum.inr "next") (.int ((s4.stamp:Int)+1))))):=Kept.refl.put zl
 have O5:=O4'.dictTo (H':=upd H4 st (.dK (aZ (stK r td s4 wk) (Sum.inr "next") (.int ((s4.stamp:Int)+1))))) (s':={ s4 with stamp:=s4.stamp+1 }) (wk':=wk) (by rw [af,ep]) rfl rfl k5
 generalize upd H4 st (.dK (aZ (stK r td s4 wk) (Sum.inr "next") (.int ((s4.stamp:Int)+1))))=H5 at k5 O5 ⊢
 have K5:Kept [st,r,td] H H5:=K4.trans (k5.mono fun b hb=>by rw [zm hb];simp)
 obtain ⟨xs5,hx5,rr5⟩:=O5.hr
 have er:s4.row=s.row++[⟨w,n,(s.stamp:Int)⟩]:=by rw [e4]
 have el:s4.row.length-1=s.row.length:=by rw [er,List.length_append];rfl
 have el0:s4.row.length=s.row.length+1:=by rw [er,List.length_append];rfl
 refine ⟨_,rfl,st,_,rfl,O5.row,r,xs5,s4.row,rfl,hx5,rr5,zk,zk,fun ys H6 h6 rr6 k6=>?_⟩
 have O6:=O5.rowTo (lk:=(Gm.enter slt s n w).looks) h6 rr6 k6
 have es:({ ({ s4 with stamp:=s4.stamp+1 }:LS) with row:=(Hg.up lE (s4.row.length-1) s4.row (s4.row.length-1) 0).1,looks:=(Gm.enter slt s n w).looks }:LS)=Gm.enter slt s n w:=by
  rw [el,er,e4]
  rfl
 rw [es] at O6
 refine k _ H6 ?_ O6 (K5.trans (k6.mono fun b hb=>by rw [zm hb];simp))
 rw [el,er]
 rfl
theorem i9 {α:Type}{xs:List α}{f:α->Bool}{i:Nat}{x:α}(h:xs[i]?=some x):(xs.take (i+1)).filter f=(xs.take i).filter f++(if f x=true then [x] else []):=by
 rw [List.take_add_one,h,List.filter_append]
 congr 1
 show List.filter f [x]=_
 rw [List.filter_cons]
 rfl
abbrev gp:Stmt:=top 31
theorem kb:FnScope ["state","row","gone","looks","k"] ["state"] (ao gp):=fsc fun nd=>⟨rfl,rfl,rfl,nd,rfl,zi,zi⟩
def kF:Sp:=fun vs H Q _=>∃ (st r td:Addr) (s:LS) (wk:Nat),vs=[.ref st]/\StAt H st r td s wk/\(∀n x,(n,x)∈s.there->x.n=n)/\s.row.length<=1000 /\
 ∀(lk:Nat) (r':Addr) (H':Hp),(Gm.sweep slt s).looks=s.looks+lk->StAt H' st r' td (Gm.sweep slt s) wk->Kept [st,r,td] H H'->(r'=r∨H r'=none)->Q (.int lk) H'
theorem pG {f fg fh:Addr}{fd fdg fdh:FuncData}(F:Fun K "_law_swept" "_law_swept" gp f fd)(T:Bl mg)(G_law_is_there:aA P w K mg base CX0 1 fg fdg ["state","entry"] fH)(D_law_is_there:Nm K mg "_law_is_there" fg fdg ["state","entry"])
  (G_law_let_down:aA P w K mg base CX0 1 fh fdh ["row","k"] mt) (D_law_let_down:Nm K mg "_law_let_down" fh fdh ["row","k"]):aA P w K mg base CX0 2 f fd ["state"] kF:=by
 have sc:=kb
 refine F.ok kb (fun vs H Q E h=>?_) (fun cdv A outer s_ H vs Q E hr h=>?_)
 .obtain ⟨st,r,td,s,wk,rfl,_⟩:=h
  rfl
 obtain ⟨st,r,td,s,wk,rfl,O,nm,hl,k⟩:=h
 have hu:=hr.units0
 obtain ⟨ks,hd,kr⟩:=O.ht
 obtain ⟨xs,hx,rr⟩:=O.hr
 have lx:=rr.len
 have lk':=kr.len
 refine ⟨_,(QSs.to (ae (qst 1 sc.nd (aO (aX hr) (qv 0) av pix))
  (ae (qst 2 sc.nd (aq bp (qcB aG T.z_len (ad (qv 1) ah)) (qcB cI T.z_len (ad (aO (aX hr) (qv 0) av pix) ah))))
  (ae (qst 3 sc.nd ag)
  (ae (aR (QW.pt (fz (ar fZ (qv 2) (qcB cI T.z_len (ad (aO (aX hr) (qv 0) av pix) ah)) (az _)) (dI (ar fZ (qv 2) (aO (aX hr) (qv 0) av pix) (az _))))) (ae (eQ (aX hr) (qv 0) av (cu (Blk.of (N:=["state","row","gone","looks","k"]) (esc:=ao gp) (NB:=["state"]) (cap:=[0]) rfl rfl (fun y hy=>bo hy) rfl zi zi zi rfl zi rfl zi) rfl rfl (bS (qv 1)) (fun C fp s₀ H₀=>(jq (hU (qcl G_law_is_there hr D_law_is_there aD (ad (qv 1) (ad (qv 0) ah)))))) (fun C fp s₀ H₀=>(qv 0))) rfl)
  (aj (ce PassesOwn.never rfl (iK rfl T.z_range (ad (aq bp (aq ca (qcB aG T.z_len (ad (aO (aX hr) (qv 0) av pix) ah)) ag) ag) (ad (jO gy ag) (ad (jO gy ag) ah)))) (aQ (i:=4) sc.nd rfl (Or.inl rfl)) (aj (qst 3 sc.nd (aq aF (qv 3) (qcl G_law_let_down hr D_law_let_down aD (ad (aO (aX hr) (qv 0) av pix) (ad (qv 4) ah))))))))) ay)
  (aj (aB (qv 3)))))))),?_⟩
 refine ⟨_,rfl,st,_,rfl,O.row,?_⟩
 refine ⟨_,rfl,r,_,rfl,.inl (SqL.of hx),_,rfl,st,_,rfl,O.there,td,ks,rfl,hd,_,_,rfl,rfl,?_⟩
 have hdue:Gm.due s=(decide ((xs.length:Int)-(ks.length:Int)>(ks.length:Int))&&decide ((xs.length:Int)-(ks.length:Int)>s.slack)):=by
  unfold Gm.due
  rw [lx,lk']
 have no:¬ Gm.due s=true->Q (.int ((0:Nat):Int)) H:=fun hn=>by
  have e:Gm.sweep slt s=s:=by unfold Gm.sweep;rw [if_neg hn]
  exact k 0 r H (by rw [e];rfl) (by rw [e];exact O) Kept.refl (.inl rfl)
 refine ⟨_,rfl,_,rfl,st,_,rfl,O.there,td,ks,rfl,hd,_,_,rfl,rfl,_,rfl,aE (fun c1=>?_) (fun c1=>?_)⟩
 rotate_left
 .refine gf ⟨_,rfl,no fun z=>?_⟩
  rw [hdue,Bool.and_eq_true] at z
  exact c1 z.1
 refine ⟨_,rfl,_,rfl,st,_,rfl,O.slack,_,_,rfl,rfl,_,rfl,aE (fun c2=>?_) (fun c2=>?_)⟩
 rotate_left
 .refine ⟨_,rfl,no fun z=>?_⟩
  rw [hdue,Bool.and_eq_true] at z
  exact c2 z.2
 have hdu:Gm.due s=true:=by
  rw [hdue,Bool.and_eq_true]
  exact ⟨c1,c2⟩
 refine ⟨_,rfl,r,rfl,⟨_,SqL.of hx⟩,fun D hD=>?_⟩
 refine bW (K:=K) (a:=r) (xs:=xs) (fun i ys H4=>H4 D=some (.lst ys)/\ys=(xs.take i).filter (fun x=>Gm.holds s.there (tE H x))/\Same H H4) ⟨af,rfl,ai hD⟩ (fun i ys H4 z=>⟨z.1,SqL.of (z.2.2 _ _ hx)⟩) ?_ ?_
 .rintro i x ys H4 hi ⟨h4,e4,s4⟩
  have mx:=List.mem_of_getElem? hi
  have li:i<xs.length:=(List.getElem?_eq_some_iff.mp hi).1
  obtain ⟨a,rfl,ha⟩:=rr.mem x mx
  have ft:=i9 (f:=fun x=>Gm.holds s.there (tE H x)) hi
  have ly:ys.length<=xs.length:=by rw [e4];exact Nat.le_trans (List.length_filter_le _ _) (List.length_take_le' _ _)
  refine ⟨_,rfl,_,rfl,st,r,td,a,s,wk,tE H (.ref a),rfl,O.same s4,s4 _ _ ha,nm,fun H5 s5=>⟨_,rfl,aE (fun c3=>⟨_,rfl,s5 _ _ h4,aH zk,_,zk,rfl,zk,af,?_,cp (s4.trans s5) hD⟩) (fun c3=>⟨_,zk,rfl,zk,s5 _ _ h4,?_,s4.trans s5⟩)⟩⟩
  .rw [ft,if_pos c3,e4]
  .rw [ft,if_neg c3,List.append_nil,e4]
 rintro ys H4 ⟨h4,e4,s4⟩
 rw [List.take_length] at e4
 have ly:ys.length<=xs.length:=by rw [e4];exact List.length_filter_le _ _
 have r4:RR H4 ys (s.row.filter (Gm.holds s.there)):=by
  have r0:=(rr.sub (ys:=ys) fun y hy=>by rw [e4] at hy;exact (List.mem_filter.mp hy).1).stay fun b l h=>s4 _ _ h
  have em:ys.map (tE H)=s.row.filter (Gm.holds s.there):=by
   rw [e4,<-rr.eq,List.filter_map]
   rfl
  rw [em] at r0
  exact r0
 refine ⟨_,rfl,st,_,rfl,DPut.k (k:=Sum.inr "row") (s4 _ _ O.hs) (by show 5<sizeLine;decide),?_⟩
 obtain ⟨s1,e1⟩:∃ s1:LS,s1={ s with row:=s.row.filter (Gm.holds s.there) }:=⟨_,rfl⟩
 have et1:s1.there=s.there:=by rw [e1]
 have er1:s1.row=s.row.filter (Gm.holds s.there):=by rw [e1]
 have ep:aZ (stK r td s wk) (Sum.inr "row":Key) (.ref D)=stK D td s1 wk:=v9 (by rw [e1]) (by rw [e1])
 rw [ep]
 have nsD:st≠D:=am O.hs hD
 have k5:Kept [st] H4 (upd H4 st (.dK (stK D td s1 wk))):=Kept.refl.put zl
 have t5:=(O.same s4).tk k5 fun b hb=>by rw [zm hb];simp
 have O5:StAt (upd H4 st (.dK (stK D td s1 wk))) st D td s1 wk:=⟨af,⟨ys,by rw [ak nsD.symm];exact h4,by rw [er1];exact r4.stay t5⟩,⟨ks,by rw [ak O.ne.symm];exact s4 _ _ hd,by rw [et1];exact (kr.stay fun b l h=>s4 _ _ h).stay t5⟩,O.ne⟩
 have K5:Kept [st,r,td] H (upd H4 st (.dK (stK D td s1 wk))):=(Kept.of_same s4).trans (k5.mono fun b hb=>by rw [zm hb];simp)
 generalize upd H4 st (.dK (stK D td s1 wk))=H5 at k5 t5 O5 K5 ⊢
 obtain ⟨zs,hz,rz⟩:=O5.hr
 have lz:=rz.len
 have lz1:zs.length<=1000:=by
  rw [lz,er1]
  exact Nat.le_trans (List.length_filter_le _ _) hl
 have en:=rz.en
 obtain ⟨t,et⟩:∃ t,t=bI H5:=⟨_,rfl⟩
 rw [<-et] at en
 refine ⟨_,rfl,st,_,rfl,O5.row,D,_,rfl,.inl (SqL.of hz),_,_,rfl,rfl,⟨zj,zj⟩,_,_,rfl,rfl,_,rfl,_,rfl,_,_,rfl,⟨zk,zk,zk,zk⟩,?_⟩
 have en0:((zs.length:Int) / 2-1 - -1).toNat=zs.length / 2:=by lia
 refine gJ (lo:=(zs.length:Int) / 2-1) (n:=((zs.length:Int) / 2-1 - -1).toNat) (fun i σ H6=>∃ (lk:Nat) (o:Option V) (us:List V) (og:V),σ=[some (.ref st),some (.ref r),some og,some (.int lk),o]/\H6 D=some (.lst us)/\us.length=zs.length/\(∀y∈us,y∈zs)/\Kept [D] H5 H6/\mk (ltT t) (zs.length / 2-i) us lk=mk (ltT t) (zs.length / 2) zs 0)
  ⟨0,none,zs,_,rfl,hz,rfl,fun y h=>h,Kept.refl,rfl⟩ ?_ ?_
 .rintro i σ H6 hi ⟨lk,o,us,og,rfl,h6,l6,s6,f6,m6⟩
  rw [en0] at hi
  have nb:∀b o,H5 b=some o->b≠D->H6 b=some o:=fun b o e n=>f6 b o e (fun z=>n (zm z))
  have en6:EnR t H6 us:=(en.bar hz nb).sub s6
  have ei:(zs.length:Int) / 2-1-(i:Int)=((zs.length / 2-1-i:Nat):Int):=by lia
  have hs6:DGet H6 st (.str "row") (some (.ref D)):=qi (r:=D) (td:=td) (s:=s1) (wk:=wk)▸DGet.k (k:=Sum.inr "row") (nb _ _ O5.hs nsD)
  refine ⟨_,rfl,_,rfl,st,_,rfl,hs6,_,rfl,D,us,zs.length / 2-1-i,t,(by show [V.ref D,V.int ((zs.length:Int) / 2-1-(i:Int))]=_;rw [ei]),h6,en6,zk,fun H7 h7 f7=>⟨_,_,rfl,rfl,?_⟩⟩
  refine ⟨lk+(dn (ltT t) us.length us (zs.length / 2-1-i) 0).2,_,_,og,rfl,h7,dn_len.trans l6,fun y hy=>s6 y (dn_perm.mem_iff.mp hy),f6.trans fun b o e nb=>f7 b o e fun z=>nb (List.mem_singleton.mpr z),?_⟩
  rw [<-m6,show zs.length / 2-i=(zs.length / 2-(i+1))+1 by lia]
  conv=>rhs;unfold mk
  rw [show zs.length / 2-(i+1)=zs.length / 2-1-i by lia]
 rintro σ H6 ⟨lk,o,us,og,rfl,h6,l6,s6,f6,m6⟩
 rw [en0,Nat.sub_self] at m6
 have m5:(us,lk)=mk (ltT t) (zs.length / 2) zs 0:=m6
 have em:=kU (H:=H5) (k:=zs.length / 2) (xs:=zs) (lk:=0)
 rw [rz.eq,<-et,<-m5,lz,er1] at em
 have ru:RR H6 us (us.map (tE H5)):=(rz.sub s6).stay (O5.tk f6 fun b hb=>by rw [zm hb];simp)
 have es:Gm.sweep slt s={ s1 with row:=us.map (tE H5),looks:=s.looks+lk }:=by
  unfold Gm.sweep
  rw [if_pos hdu]
  unfold Gm.swept
  have e2:Hg.mk (Gm.ltE slt) ((s.row.filter (Gm.holds s.there)).length / 2) (s.row.filter (Gm.holds s.there)) 0=(us.map (tE H5),lk):=em
  rw [e2,e1]
 have O6:=O5.rowTo (lk:=s.looks+lk) h6 ru f6
 refine ⟨_,rfl,k lk D H6 (by rw [es]) (by rw [es];exact O6) ?_ (.inr hD)⟩
 intro b o e nb
 exact f6 b o (K5 b o e nb) fun z=>am e hD (zm z)
def rwd:Deed->Str
 | .put _ _=>"Clash"
 | _=>"NoThing"
abbrev gq:Stmt:=top 32
theorem iy:FnScope ["state","deed"] ["state","deed"] (ao gq):=fsc fun nd=>⟨rfl,rfl,rfl,nd,rfl,zi,zi⟩
def fv:Sp:=fun vs H Q _=>∃ (st r td q:Addr) (s:LS) (wk:Nat) (dd:Deed),vs=[.ref st,.ref q]/\StAt H st r td s wk/\H q=some (.tup dd.v)/\∀(c:Str) (H':Hp),Same H H'->(c=""->dd.fit s)->(c≠""->¬ dd.fit s/\c=rwd dd)->Q (.str c) H'
theorem lW {f:Addr}{fd:FuncData}(F:Fun K "_law_refused" "_law_refused" gq f fd)(T:Bl mg):aA P w K mg base CX0 1 f fd ["state","deed"] fv:=by
 have sc:=iy
 refine F.okQ iy (fun vs H Q E h=>?_) (fun cdv A outer s_ H vs Q E hr h=>?_)
 .obtain ⟨st,r,td,q,s,wk,dd,rfl,_⟩:=h
  rfl
 obtain ⟨st,r,td,q,s,wk,dd,rfl,O,hq,k⟩:=h
 have hu:=hr.units0
 refine ⟨_,(ae (aR (ar a8 (au aJ (qv 1) ag pix) av (az _)) (aj (aB (au aw (aM (ad av (ad av ah))) (qcT ci T.z_int (ad (qc (aX hr) (au aJ (qv 1) ag pix) (aO (aX hr) (qv 0) av pix)) ah)) pix))) ay)
  (ae (aR (ar gr (au aJ (qv 1) ag pix) (aI (ad av (ad av ah))) rfl) (aj (aB (au aw (aM (ad av (ad av ah))) (qcT ci T.z_int (ad (qc (aX hr) (au aJ (qv 1) ag pix) (aO (aX hr) (qv 0) av pix)) ah)) pix))) ay)
  (aj (aB (au aw (aM (ad av (ad av ah))) (qcT ci T.z_int (ad (cr (ub hu) (aO (aX hr) (qv 0) av pix) gP (az _)) ah)) pix))))),?_⟩
 cases dd with
 | put n w =>
  refine ⟨_,rfl,q,_,_,_,rfl,rfl,SqT.of hq,rfl,rfl,_,rfl,aE (fun _=>?_) (fun c=>absurd zi c)⟩
  refine ⟨sz2,fun l1 hl1=>?_⟩
  have s5:=ai (H:=H) (o:=.lst [.str "",.str "Clash"]) hl1
  have g5:=af (H:=H) (a:=l1) (o:=.lst [.str "",.str "Clash"])
  generalize upd H l1 (.lst [.str "",.str "Clash"])=H5 at s5 g5 ⊢
  have O5:=O.same s5
  have hq5:=s5 _ _ hq
  obtain ⟨ks5,hd5,kr5⟩:=O5.ht
  refine ⟨_,rfl,q,_,_,_,rfl,rfl,SqT.of hq5,rfl,_,rfl,st,_,rfl,O5.there,td,_,rfl,DGet.k (k:=Sum.inr n) hd5,.inr ⟨_,rfl,?_⟩⟩
  rcases kr5.get n with ⟨e1,e2⟩ | ⟨b,e',e1,e2,hb⟩
  .rw [e1]
   exact ⟨l1,_,_,_,rfl,rfl,SqL.of g5,rfl,k _ H5 s5 (fun _=>e2) (fun h=>absurd rfl h)⟩
  .rw [e1]
   exact ⟨l1,_,_,_,rfl,rfl,SqL.of g5,rfl,k _ H5 s5 (fun h=>absurd h zi) (fun _=>⟨fun z=>(by have z2:Gm.dget s.there n=none:=z;rw [z2] at e2;cases e2),rfl⟩)⟩
 | drop n =>
  refine ⟨_,rfl,q,_,_,_,rfl,rfl,SqT.of hq,rfl,rfl,_,rfl,aE (fun c=>absurd c zi) (fun _=>?_)⟩
  refine ⟨_,rfl,q,_,_,_,rfl,rfl,SqT.of hq,rfl,sz2,fun l1 hl1=>⟨l1,_,["drop","change"],rfl,rfl,SqT.of af,_,rfl,?_⟩⟩
  have s1:=ai (H:=H) (o:=.tup [.str "drop",.str "change"]) hl1
  generalize upd H l1 (.tup [.str "drop",.str "change"])=H1 at s1 ⊢
  refine aE (fun _=>?_) (fun c=>absurd zi c)
  refine ⟨sz2,fun l1 hl1=>?_⟩
  have s5:=ai (H:=H1) (o:=.lst [.str "NoThing",.str ""]) hl1
  have g5:=af (H:=H1) (a:=l1) (o:=.lst [.str "NoThing",.str ""])
  generalize upd H1 l1 (.lst [.str "NoThing",.str ""])=H5 at s5 g5 ⊢
  have O5:=(O.same s1).same s5
  have hq5:=s5 _ _ (s1 _ _ hq)
  obtain ⟨ks5,hd5,kr5⟩:=O5.ht
  refine ⟨_,rfl,q,_,_,_,rfl,rfl,SqT.of hq5,rfl,_,rfl,st,_,rfl,O5.there,td,_,rfl,DGet.k (k:=Sum.inr n) hd5,.inr ⟨_,rfl,?_⟩⟩
  rcases kr5.get n with ⟨e1,e2⟩ | ⟨b,e',e1,e2,hb⟩
  .rw [e1]
   exact ⟨l1,_,_,_,rfl,rfl,SqL.of g5,rfl,k _ H5 (s1.trans s5) (fun h=>absurd h zi) (fun _=>⟨fun z=>z e2,rfl⟩)⟩
  .rw [e1]
   exact ⟨l1,_,_,_,rfl,rfl,SqL.of g5,rfl,k _ H5 (s1.trans s5) (fun _ z=>by rw [e2] at z;cases z) (fun h=>absurd rfl h)⟩
 | change n w =>
  refine ⟨_,rfl,q,_,_,_,rfl,rfl,SqT.of hq,rfl,rfl,_,rfl,aE (fun c=>absurd c zi) (fun _=>?_)⟩
  refine ⟨_,rfl,q,_,_,_,rfl,rfl,SqT.of hq,rfl,sz2,fun l1 hl1=>⟨l1,_,["drop","change"],rfl,rfl,SqT.of af,_,rfl,?_⟩⟩
  have s1:=ai (H:=H) (o:=.tup [.str "drop",.str "change"]) hl1
  generalize upd H l1 (.tup [.str "drop",.str "change"])=H1 at s1 ⊢
  refine aE (fun _=>?_) (fun c=>absurd zi c)
  refine ⟨sz2,fun l1 hl1=>?_⟩
  have s5:=ai (H:=H1) (o:=.lst [.str "NoThing",.str ""]) hl1
  have g5:=af (H:=H1) (a:=l1) (o:=.lst [.str "NoThing",.str ""])
  generalize upd H1 l1 (.lst [.str "NoThing",.str ""])=H5 at s5 g5 ⊢
  have O5:=(O.same s1).same s5
  have hq5:=s5 _ _ (s1 _ _ hq)
  obtain ⟨ks5,hd5,kr5⟩:=O5.ht
  refine ⟨_,rfl,q,_,_,_,rfl,rfl,SqT.of hq5,rfl,_,rfl,st,_,rfl,O5.there,td,_,rfl,DGet.k (k:=Sum.inr n) hd5,.inr ⟨_,rfl,?_⟩⟩
  rcases kr5.get n with ⟨e1,e2⟩ | ⟨b,e',e1,e2,hb⟩
  .rw [e1]
   exact ⟨l1,_,_,_,rfl,rfl,SqL.of g5,rfl,k _ H5 (s1.trans s5) (fun h=>absurd h zi) (fun _=>⟨fun z=>z e2,rfl⟩)⟩
  .rw [e1]
   exact ⟨l1,_,_,_,rfl,rfl,SqL.of g5,rfl,k _ H5 (s1.trans s5) (fun _ z=>by rw [e2] at z;cases z) (fun h=>absurd rfl h)⟩
 | take =>
  refine ⟨_,rfl,q,_,_,_,rfl,rfl,SqT.of hq,rfl,rfl,_,rfl,aE (fun c=>absurd c zi) (fun _=>?_)⟩
  refine ⟨_,rfl,q,_,_,_,rfl,rfl,SqT.of hq,rfl,sz2,fun l1 hl1=>⟨l1,_,["drop","change"],rfl,rfl,SqT.of af,_,rfl,?_⟩⟩
  have s1:=ai (H:=H) (o:=.tup [.str "drop",.str "change"]) hl1
  generalize upd H l1 (.tup [.str "drop",.str "change"])=H1 at s1 ⊢
  refine aE (fun c=>absurd c zi) (fun _=>?_)
  have O1:=O.same s1
  refine ⟨sz2,fun l1 hl1=>?_⟩
  have s5:=ai (H:=H1) (o:=.lst [.str "",.str "NoThing"]) hl1
  have g5:=af (H:=H1) (a:=l1) (o:=.lst [.str "",.str "NoThing"])
  generalize upd H1 l1 (.lst [.str "",.str "NoThing"])=H5 at s5 g5 ⊢
  have O5:=O1.same s5
  obtain ⟨ks5,hd5,kr5⟩:=O5.ht
  refine ⟨_,rfl,st,_,rfl,O5.there,fun e1 he1=>⟨td,e1,_,rfl,rfl,ai he1 _ _ hd5,af,.inr ⟨_,rfl,?_⟩⟩⟩
  have s6:=ai (H:=H5) (o:=.dK []) he1
  have g6:=s6 _ _ g5
  generalize upd H5 e1 (.dK [])=H6 at s6 g6 ⊢
  have s16:=(s1.trans s5).trans s6
  by_cases z:ks5=[]
  .rw [decide_eq_true z]
   exact ⟨l1,_,_,_,rfl,rfl,SqL.of g6,rfl,k _ H6 s16 (fun h=>absurd h zi) (fun _=>⟨fun y=>y (by rw [z] at kr5;cases e:s.there with | nil=>rfl | cons a b=>rw [e] at kr5;cases kr5),rfl⟩)⟩
  .rw [decide_eq_false z]
   refine ⟨l1,_,_,_,rfl,rfl,SqL.of g6,rfl,k _ H6 s16 (fun _ y=>z ?_) (fun h=>absurd rfl h)⟩
   rw [y] at kr5
   cases kr5
   rfl
 | least =>
  refine ⟨_,rfl,q,_,_,_,rfl,rfl,SqT.of hq,rfl,rfl,_,rfl,aE (fun c=>absurd c zi) (fun _=>?_)⟩
  refine ⟨_,rfl,q,_,_,_,rfl,rfl,SqT.of hq,rfl,sz2,fun l1 hl1=>⟨l1,_,["drop","change"],rfl,rfl,SqT.of af,_,rfl,?_⟩⟩
  have s1:=ai (H:=H) (o:=.tup [.str "drop",.str "change"]) hl1
  generalize upd H l1 (.tup [.str "drop",.str "change"])=H1 at s1 ⊢
  refine aE (fun c=>absurd c zi) (fun _=>?_)
  have O1:=O.same s1
  refine ⟨sz2,fun l1 hl1=>?_⟩
  have s5:=ai (H:=H1) (o:=.lst [.str "",.str "NoThing"]) hl1
  have g5:=af (H:=H1) (a:=l1) (o:=.lst [.str "",.str "NoThing"])
  generalize upd H1 l1 (.lst [.str "",.str "NoThing"])=H5 at s5 g5 ⊢
  have O5:=O1.same s5
  obtain ⟨ks5,hd5,kr5⟩:=O5.ht
  refine ⟨_,rfl,st,_,rfl,O5.there,fun e1 he1=>⟨td,e1,_,rfl,rfl,ai he1 _ _ hd5,af,.inr ⟨_,rfl,?_⟩⟩⟩
  have s6:=ai (H:=H5) (o:=.dK []) he1
  have g6:=s6 _ _ g5
  generalize upd H5 e1 (.dK [])=H6 at s6 g6 ⊢
  have s16:=(s1.trans s5).trans s6
  by_cases z:ks5=[]
  .rw [decide_eq_true z]
   exact ⟨l1,_,_,_,rfl,rfl,SqL.of g6,rfl,k _ H6 s16 (fun h=>absurd h zi) (fun _=>⟨fun y=>y (by rw [z] at kr5;cases e:s.there with | nil=>rfl | cons a b=>rw [e] at kr5;cases kr5),rfl⟩)⟩
  .rw [decide_eq_false z]
   refine ⟨l1,_,_,_,rfl,rfl,SqL.of g6,rfl,k _ H6 s16 (fun _ y=>z ?_) (fun h=>absurd rfl h)⟩
   rw [y] at kr5
   cases kr5
   rfl
abbrev qh:Stmt:=top 33
theorem rm:FnScope ["state","deed","looks"] ["state","deed"] (ao qh):=fsc fun nd=>⟨rfl,rfl,rfl,nd,rfl,zi,zi⟩
def jl:Sp:=fun vs H Q _=>∃ (st r td q:Addr) (s:LS) (dd:Deed),vs=[.ref st,.ref q]/\StAt H st r td s s.looks/\Gm.LInv slt s/\s.stamp<=890/\H q=some (.tup dd.v)/\dd.fit s /\
 ∀(lk:Nat) (r':Addr) (H':Hp),(stepS s dd).looks=s.looks+lk->StAt H' st r' td (stepS s dd) (stepS s dd).looks->Kept [st,r,td] H H'->(r'=r∨H r'=none)->Q (.int lk) H'
theorem uz {f fi fa fo fs:Addr}{fd fdi fda fdo fds:FuncData}(F:Fun K "_law_done" "_law_done" qh f fd)(T:Bl mg)(G_law_is_there:aA P w K mg base CX0 1 fi fdi ["state","entry"] fH)(D_law_is_there:Nm K mg "_law_is_there" fi fdi ["state","entry"])
  (G_law_added:aA P w K mg base CX0 2 fa fda ["state","name","worth"] oE) (D_law_added:Nm K mg "_law_added" fa fda ["state","name","worth"]) (G_law_off:aA P w K mg base CX0 2 fo fdo ["row"] vY) (D_law_off:Nm K mg "_law_off" fo fdo ["row"])
  (G_law_swept:aA P w K mg base CX0 2 fs fds ["state"] kF) (D_law_swept:Nm K mg "_law_swept" fs fds ["state"]):aA P w K mg base CX0 3 f fd ["state","deed"] jl:=by
 have sc:=rm
 refine F.okQ rm (fun vs H Q E h=>?_) (fun cdv A outer s_ H vs Q E hr h=>?_)
 .obtain ⟨st,r,td,q,s,dd,rfl,_⟩:=h
  rfl
 obtain ⟨st,r,td,q,s,dd,rfl,O,LI,hs,hq,ft,k⟩:=h
 have hu:=hr.units0
 have hu1:=hr.u100
 obtain ⟨ks,hd,kr⟩:=O.ht
 obtain ⟨xs,hx,rr⟩:=O.hr
 have h1:=LI.len
 have h2:=LI.tl
 have nq:q∉[st,r,td]:=fun z=>O.notup q z _ hq
 have old:∀{H1:Hp} {s1:LS} {w1:Nat},StAt H1 st r td s1 w1->Kept [st,r,td] H H1->∀{b:Addr},H1 b=none->H b=none:=fun {H1 s1 w1} O1 kk {b} hb=>by
  cases e:H b with
  | none=>rfl
  | some o =>
   by_cases z:b∈[st,r,td]
   .obtain ⟨ys,f2,_⟩:=O1.hr
    obtain ⟨kt,f3,_⟩:=O1.ht
    have f1:=O1.hs
    simp only [List.mem_cons,List.not_mem_nil,or_false] at z
    rcases z with y | y | y
    .rw [y,f1] at hb;cases hb
    .rw [y,f2] at hb;cases hb
    .rw [y,f3] at hb;cases hb
   .rw [kk b o e z] at hb;cases hb
 refine ⟨_,(ae (qst 2 sc.nd ag)
  (ae (aR (ar a8 (au aJ (qv 1) ag pix) av (az _)) (aj (qst 2 sc.nd (qcl G_law_added hr D_law_added aD (ad (qv 0) (ad (au aJ (qv 1) ag pix) (ad (au aJ (qv 1) ag pix) ah)))))) ay)
  (ae (aR (ar gr (au aJ (qv 1) ag pix) (aI (ad av (ad av ah))) rfl) (aj (aK (eA (aO (aX hr) (qv 0) av pix) (au aJ (qv 1) ag pix) ⟨rfl,rfl,rfl,rfl⟩))) ay)
  (ae (aR (ar a8 (au aJ (qv 1) ag pix) av (az _)) (aj (qst 2 sc.nd (qcl G_law_added hr D_law_added aD (ad (qv 0) (ad (au aJ (qv 1) ag pix) (ad (au aJ (qv 1) ag pix) ah)))))) ay)
  (ae (aR (ar gr (au aJ (qv 1) ag pix) (aI (ad av (ad av ah))) rfl) (aj (cq PassesOwn.never (dR (hU (qcl G_law_is_there hr D_law_is_there aD (ad (qv 0) (ad (au aw (aO (aX hr) (qv 0) av pix) ag pix) ah))))) (aj (qst 2 sc.nd (aq aF (qv 2) (qcl G_law_off hr D_law_off aD (ad (aO (aX hr) (qv 0) av pix) ah))))))) ay)
  (ae (aR (ar a8 (au aJ (qv 1) ag pix) av (az _)) (ae (aK (eA (aO (aX hr) (qv 0) av pix) (au aJ (au aw (aO (aX hr) (qv 0) av pix) ag pix) ag pix) ⟨rfl,rfl,rfl,rfl⟩))
  (aj (qst 2 sc.nd (aq aF (qv 2) (qcl G_law_off hr D_law_off aD (ad (aO (aX hr) (qv 0) av pix) ah)))))) ay)
  (ae (aR (ar jL (au aJ (qv 1) ag pix) av (az _)) (aj (qst 2 sc.nd (aq aF (qv 2) (qcl G_law_swept hr D_law_swept aD (ad (qv 0) ah))))) ay)
  (ae (eQ (aX hr) (qv 0) av (aq aF (aO (aX hr) (qv 0) av pix) (qv 2)) rfl)
  (aj (aB (qv 2))))))))))),?_⟩
 cases dd with
 | put n w =>
  have f1:Gm.dget s.there n=none:=ft
  refine ⟨_,rfl,q,_,_,_,rfl,rfl,SqT.of hq,rfl,rfl,_,rfl,aE (fun _=>?_) (fun c=>absurd zi c)⟩
  refine ⟨_,rfl,_,rfl,q,_,_,_,rfl,rfl,SqT.of hq,rfl,_,rfl,q,_,_,_,rfl,rfl,SqT.of hq,rfl,st,r,td,s,s.looks,n,w,rfl,O,zk,zk,fun lk1 H1 e1 O1 k1=>?_⟩
  have hq1:=k1 _ _ hq nq
  refine ⟨_,rfl,q,_,_,_,rfl,rfl,SqT.of hq1,rfl,sz2,fun l2 hl2=>⟨l2,_,["drop","change"],rfl,rfl,SqT.of af,_,rfl,?_⟩⟩
  have s2:=ai (H:=H1) (o:=.tup [.str "drop",.str "change"]) hl2
  generalize upd H1 l2 (.tup [.str "drop",.str "change"])=H2 at s2 ⊢
  refine aE (fun c=>absurd c zi) (fun _=>?_)
  have hq2:=s2 _ _ hq1
  refine ⟨_,rfl,q,_,_,_,rfl,rfl,SqT.of hq2,rfl,rfl,_,rfl,aE (fun c=>absurd c zi) (fun _=>?_)⟩
  refine ⟨_,rfl,q,_,_,_,rfl,rfl,SqT.of hq2,rfl,sz2,fun l3 hl3=>⟨l3,_,["take","least"],rfl,rfl,SqT.of af,_,rfl,?_⟩⟩
  have s3:=ai (H:=H2) (o:=.tup [.str "take",.str "least"]) hl3
  generalize upd H2 l3 (.tup [.str "take",.str "least"])=H3 at s3 ⊢
  refine aE (fun c=>absurd c zi) (fun _=>?_)
  have s13:=s2.trans s3
  have hq3:=s13 _ _ hq1
  refine ⟨_,rfl,q,_,_,_,rfl,rfl,SqT.of hq3,rfl,rfl,_,rfl,aE (fun c=>absurd c zi) (fun _=>?_)⟩
  have I1:=Gm.enter_inv slt_slo LI (n:=n) (w:=w)
  refine ⟨_,rfl,q,_,_,_,rfl,rfl,SqT.of hq3,rfl,rfl,_,rfl,aE (fun _=>?_) (fun c=>absurd zi c)⟩
  have O8:StAt _ st r td (Gm.enter slt s n w) s.looks:=O1.same s13
  have K8:=k1.trans (Kept.of_same s13)
  refine ⟨_,rfl,_,rfl,st,r,td,(Gm.enter slt s n w),s.looks,rfl,O8,(fun n x hx=>(I1.inr n x hx).1),(by rw [Gm.enter_row_perm.length_eq,List.length_append];show s.row.length+1<=1000;lia),fun lk9 r9 H9 hk9 O9 k9 f9=>⟨_,_,rfl,rfl,?_⟩⟩
  have K9:Kept [st,r,td] H H9:=K8.trans k9
  have fr9:r9=r∨H r9=none:=f9.imp id (old O8 K8)
  have hlk:(stepS s (.put n w)).looks=s.looks+(lk1+lk9):=by show (Gm.sweep slt (Gm.enter slt s n w)).looks=_;rw [hk9];lia
  refine ⟨_,rfl,st,_,rfl,O9.work,_,rfl,_,_,rfl,rfl,_,rfl,st,_,rfl,DPut.k (k:=Sum.inr "work") O9.hs (by show 5<sizeLine;decide),?_⟩
  obtain ⟨OW,kW⟩:=O9.workTo hlk
  exact ⟨_,rfl,k _ _ _ hlk OW (K9.trans (kW.mono fun b hb=>by rw [zm hb];simp)) fr9⟩
 | drop n =>
  have f1:Gm.dget s.there n≠none:=ft
  refine ⟨_,rfl,q,_,_,_,rfl,rfl,SqT.of hq,rfl,rfl,_,rfl,aE (fun c=>absurd c zi) (fun _=>?_)⟩
  refine ⟨_,rfl,q,_,_,_,rfl,rfl,SqT.of hq,rfl,sz2,fun l1 hl1=>⟨l1,_,["drop","change"],rfl,rfl,SqT.of af,_,rfl,?_⟩⟩
  have s1:=ai (H:=H) (o:=.tup [.str "drop",.str "change"]) hl1
  generalize upd H l1 (.tup [.str "drop",.str "change"])=H1 at s1 ⊢
  refine aE (fun _=>?_) (fun c=>absurd zi c)
  have O1:=O.same s1
  have hq1:=s1 _ _ hq
  have hd1:=s1 _ _ hd
  rcases kr.get n with ⟨_,e2⟩ | ⟨b,e',e1,e2,hb⟩
  .exact absurd e2 f1
  refine ⟨_,rfl,st,_,rfl,O1.there,td,rfl,.inl ⟨_,.inl hd1⟩,_,rfl,q,_,_,_,rfl,rfl,SqT.of hq1,rfl,_,Sum.inr n,_,hd1,rfl,e1,?_⟩
  obtain ⟨O2,k2⟩:=O1.dropTo n hd1
  generalize upd H1 td (.dK (bH ks (Sum.inr n)))=H2 at O2 k2 ⊢
  have K2:Kept [st,r,td] H H2:=(Kept.of_same s1).trans (k2.mono (fun b hb=>by rw [zm hb];simp))
  have hq2:=K2 _ _ hq nq
  have ID:=Gm.drop_inv LI (n:=n)
  refine ⟨_,rfl,q,_,_,_,rfl,rfl,SqT.of hq2,rfl,rfl,_,rfl,aE (fun c=>absurd c zi) (fun _=>?_)⟩
  refine ⟨_,rfl,q,_,_,_,rfl,rfl,SqT.of hq2,rfl,sz2,fun l4 hl4=>⟨l4,_,["take","least"],rfl,rfl,SqT.of af,_,rfl,?_⟩⟩
  have s4:=ai (H:=H2) (o:=.tup [.str "take",.str "least"]) hl4
  generalize upd H2 l4 (.tup [.str "take",.str "least"])=H4 at s4 ⊢
  refine aE (fun c=>absurd c zi) (fun _=>?_)
  have hq4:=s4 _ _ hq2
  refine ⟨_,rfl,q,_,_,_,rfl,rfl,SqT.of hq4,rfl,rfl,_,rfl,aE (fun c=>absurd c zi) (fun _=>?_)⟩
  have e3':(Gm.dropT s n).looks=s.looks+0:=rfl
  refine ⟨_,rfl,q,_,_,_,rfl,rfl,SqT.of hq4,rfl,rfl,_,rfl,aE (fun _=>?_) (fun c=>absurd zi c)⟩
  have O8:StAt _ st r td (Gm.dropT s n) s.looks:=O2.same s4
  have K8:=K2.trans (Kept.of_same s4)
  refine ⟨_,rfl,_,rfl,st,r,td,(Gm.dropT s n),s.looks,rfl,O8,(fun n x hx=>(ID.inr n x hx).1),(by show s.row.length<=1000;lia),fun lk9 r9 H9 hk9 O9 k9 f9=>⟨_,_,rfl,rfl,?_⟩⟩
  have K9:Kept [st,r,td] H H9:=K8.trans k9
  have fr9:r9=r∨H r9=none:=f9.imp id (old O8 K8)
  have hlk:(stepS s (.drop n)).looks=s.looks+(0+lk9):=by show (Gm.sweep slt (Gm.dropT s n)).looks=_;rw [hk9];lia
  refine ⟨_,rfl,st,_,rfl,O9.work,_,rfl,_,_,rfl,rfl,_,rfl,st,_,rfl,DPut.k (k:=Sum.inr "work") O9.hs (by show 5<sizeLine;decide),?_⟩
  obtain ⟨OW,kW⟩:=O9.workTo hlk
  exact ⟨_,rfl,k _ _ _ hlk OW (K9.trans (kW.mono fun b hb=>by rw [zm hb];simp)) fr9⟩
 | change n w =>
  have f1:Gm.dget s.there n≠none:=ft
  refine ⟨_,rfl,q,_,_,_,rfl,rfl,SqT.of hq,rfl,rfl,_,rfl,aE (fun c=>absurd c zi) (fun _=>?_)⟩
  refine ⟨_,rfl,q,_,_,_,rfl,rfl,SqT.of hq,rfl,sz2,fun l1 hl1=>⟨l1,_,["drop","change"],rfl,rfl,SqT.of af,_,rfl,?_⟩⟩
  have s1:=ai (H:=H) (o:=.tup [.str "drop",.str "change"]) hl1
  generalize upd H l1 (.tup [.str "drop",.str "change"])=H1 at s1 ⊢
  refine aE (fun _=>?_) (fun c=>absurd zi c)
  have O1:=O.same s1
  have hq1:=s1 _ _ hq
  have hd1:=s1 _ _ hd
  rcases kr.get n with ⟨_,e2⟩ | ⟨b,e',e1,e2,hb⟩
  .exact absurd e2 f1
  refine ⟨_,rfl,st,_,rfl,O1.there,td,rfl,.inl ⟨_,.inl hd1⟩,_,rfl,q,_,_,_,rfl,rfl,SqT.of hq1,rfl,_,Sum.inr n,_,hd1,rfl,e1,?_⟩
  obtain ⟨O2,k2⟩:=O1.dropTo n hd1
  generalize upd H1 td (.dK (bH ks (Sum.inr n)))=H2 at O2 k2 ⊢
  have K2:Kept [st,r,td] H H2:=(Kept.of_same s1).trans (k2.mono (fun b hb=>by rw [zm hb];simp))
  have hq2:=K2 _ _ hq nq
  have ID:=Gm.drop_inv LI (n:=n)
  refine ⟨_,rfl,q,_,_,_,rfl,rfl,SqT.of hq2,rfl,rfl,_,rfl,aE (fun _=>?_) (fun c=>absurd zi c)⟩
  refine ⟨_,rfl,_,rfl,q,_,_,_,rfl,rfl,SqT.of hq2,rfl,_,rfl,q,_,_,_,rfl,rfl,SqT.of hq2,rfl,st,r,td,Gm.dropT s n,s.looks,n,w,rfl,O2,by show s.row.length<=900;lia,Nat.le_trans ID.tl (by show s.stamp<=900;lia),fun lk1 H3 e3 O3 k3=>?_⟩
  have K3:=K2.trans k3
  have hq3:=K3 _ _ hq nq
  refine ⟨_,rfl,q,_,_,_,rfl,rfl,SqT.of hq3,rfl,sz2,fun l4 hl4=>⟨l4,_,["take","least"],rfl,rfl,SqT.of af,_,rfl,?_⟩⟩
  have s4:=ai (H:=H3) (o:=.tup [.str "take",.str "least"]) hl4
  generalize upd H3 l4 (.tup [.str "take",.str "least"])=H4 at s4 ⊢
  refine aE (fun c=>absurd c zi) (fun _=>?_)
  have hq4:=s4 _ _ hq3
  refine ⟨_,rfl,q,_,_,_,rfl,rfl,SqT.of hq4,rfl,rfl,_,rfl,aE (fun c=>absurd c zi) (fun _=>?_)⟩
  have I1:=Gm.enter_inv slt_slo ID (n:=n) (w:=w)
  have e3':(Gm.enter slt (Gm.dropT s n) n w).looks=s.looks+lk1:=e3
  refine ⟨_,rfl,q,_,_,_,rfl,rfl,SqT.of hq4,rfl,rfl,_,rfl,aE (fun _=>?_) (fun c=>absurd zi c)⟩
  have O8:StAt _ st r td (Gm.enter slt (Gm.dropT s n) n w) s.looks:=O3.same s4
  have K8:=K3.trans (Kept.of_same s4)
  refine ⟨_,rfl,_,rfl,st,r,td,(Gm.enter slt (Gm.dropT s n) n w),s.looks,rfl,O8,(fun n x hx=>(I1.inr n x hx).1),(by rw [Gm.enter_row_perm.length_eq,List.length_append];show s.row.length+1<=1000;lia),fun lk9 r9 H9 hk9 O9 k9 f9=>⟨_,_,rfl,rfl,?_⟩⟩
  have K9:Kept [st,r,td] H H9:=K8.trans k9
  have fr9:r9=r∨H r9=none:=f9.imp id (old O8 K8)
  have hlk:(stepS s (.change n w)).looks=s.looks+(lk1+lk9):=by show (Gm.sweep slt (Gm.enter slt (Gm.dropT s n) n w)).looks=_;rw [hk9];lia
  refine ⟨_,rfl,st,_,rfl,O9.work,_,rfl,_,_,rfl,rfl,_,rfl,st,_,rfl,DPut.k (k:=Sum.inr "work") O9.hs (by show 5<sizeLine;decide),?_⟩
  obtain ⟨OW,kW⟩:=O9.workTo hlk
  exact ⟨_,rfl,k _ _ _ hlk OW (K9.trans (kW.mono fun b hb=>by rw [zm hb];simp)) fr9⟩
 | take =>
  have tne:s.there≠[]:=ft
  refine ⟨_,rfl,q,_,_,_,rfl,rfl,SqT.of hq,rfl,rfl,_,rfl,aE (fun c=>absurd c zi) (fun _=>?_)⟩
  refine ⟨_,rfl,q,_,_,_,rfl,rfl,SqT.of hq,rfl,sz2,fun l1 hl1=>⟨l1,_,["drop","change"],rfl,rfl,SqT.of af,_,rfl,?_⟩⟩
  have s1:=ai (H:=H) (o:=.tup [.str "drop",.str "change"]) hl1
  generalize upd H l1 (.tup [.str "drop",.str "change"])=H1 at s1 ⊢
  refine aE (fun c=>absurd c zi) (fun _=>?_)
  have hq1:=s1 _ _ hq
  refine ⟨_,rfl,q,_,_,_,rfl,rfl,SqT.of hq1,rfl,rfl,_,rfl,aE (fun c=>absurd c zi) (fun _=>?_)⟩
  refine ⟨_,rfl,q,_,_,_,rfl,rfl,SqT.of hq1,rfl,sz2,fun l2 hl2=>⟨l2,_,["take","least"],rfl,rfl,SqT.of af,_,rfl,?_⟩⟩
  have s2:=ai (H:=H1) (o:=.tup [.str "take",.str "least"]) hl2
  generalize upd H1 l2 (.tup [.str "take",.str "least"])=H2 at s2 ⊢
  refine aE (fun _=>?_) (fun c=>absurd zi c)
  have s12:=s1.trans s2
  have hq2:=s12 _ _ hq
  refine ⟨fun m σ H5=>∃ (f lk:Nat) (s2:LS),σ=[some (.ref st),some (.ref q),some (.int lk)]/\StAt H5 st r td s2 s.looks/\Gm.LInv slt s2/\s2.there=s.there/\s2.row.length<=f/\s2.row.length<=s.row.length/\Gm.clean slt f s2=Gm.leastL slt s/\s2.looks=s.looks+lk/\Kept [st,r,td] H H5/\m=s2.row.length,⟨_,s.row.length,0,s,rfl,O.same s12,LI,rfl,Nat.le_refl _,Nat.le_refl _,rfl,rfl,Kept.of_same s12,rfl⟩,?_⟩
  rintro m σ H5 ⟨f,lk,s2,rfl,O5,LI5,e5,hf,hle,hc,hlk2,K5,rfl⟩
  obtain ⟨xs5,hx5,rr5⟩:=O5.hr
  have h0:=Gm.row_pos LI5 (by rw [e5];exact tne)
  obtain ⟨a,ea,ha,ia⟩:=rr5.at h0
  refine ⟨_,rfl,_,rfl,st,_,rfl,O5.row,r,_,_,_,rfl,rfl,SqL.of hx5,ia,st,r,td,a,s2,s.looks,_,rfl,O5,ha,(fun n x hx=>(LI5.inr n x hx).1),fun H6 s6=>⟨_,rfl,?_⟩⟩
  have O6:=O5.same s6
  have K6:=K5.trans (Kept.of_same s6)
  have hx6:=s6 _ _ hx5
  have rr6:=rr5.stay fun b l h=>s6 _ _ h
  cases c2:Gm.holds s2.there (Hg.g s2.row 0) with
  | false =>
   have c3:¬ Gm.holds s2.there (Hg.g s2.row 0)=true:=by rw [c2];exact Bool.false_ne_true
   obtain ⟨f,rfl⟩:∃ f0,f=f0+1:=⟨f-1,zk⟩
   have hc2:Gm.clean slt f (Gm.cut slt s2)=Gm.leastL slt s:=by
    rw [<-hc]
    conv=>rhs;unfold Gm.clean
    rw [if_neg c3]
   have lc:(Gm.cut slt s2).row.length=s2.row.length-1:=Hg.cutf_len
   refine qb ?_
   refine ⟨fun σ H5=>∃ m,m<s2.row.length/\∃ (f lk:Nat) (s2:LS),σ=[some (.ref st),some (.ref q),some (.int lk)]/\StAt H5 st r td s2 s.looks/\Gm.LInv slt s2/\s2.there=s.there/\s2.row.length<=f/\s2.row.length<=s.row.length/\Gm.clean slt f s2=Gm.leastL slt s/\s2.looks=s.looks+lk/\Kept [st,r,td] H H5/\m=s2.row.length,fun σ' H' z=>z,?_⟩
   refine ⟨_,rfl,_,rfl,st,_,rfl,O6.row,r,_,_,rfl,hx6,rr6,h0,zk,fun ys H7 h7 rr7 k7=>⟨_,_,rfl,rfl,?_⟩⟩
   have O7:StAt H7 st r td (Gm.cut slt s2) s.looks:=O6.rowTo (lk:=(Gm.cut slt s2).looks) h7 rr7 k7
   have lk7:(Gm.cut slt s2).looks=s.looks+(lk+(Hg.cutf lE s2.row).2):=by
    show s2.looks+(Hg.cutf lE s2.row).2=_
    lia
   exact ⟨(Gm.cut slt s2).row.length,zk,f,lk+(Hg.cutf lE s2.row).2,Gm.cut slt s2,rfl,O7,Gm.cut_inv slt_slo LI5 h0 c3,e5,zk,zk,hc2,lk7,K6.trans (k7.mono (fun b hb=>by rw [zm hb];simp)),rfl⟩
  | true =>
  refine gf ?_
  have ec:Gm.leastL slt s=s2:=by
   rw [<-hc]
   cases f with
   | zero=>rfl
   | succ f=>unfold Gm.clean;rw [if_pos c2]
  have hq6:=K6 _ _ hq nq
  refine ⟨_,rfl,q,_,_,_,rfl,rfl,SqT.of hq6,rfl,rfl,_,rfl,aE (fun _=>?_) (fun c=>absurd zi c)⟩
  obtain ⟨ks6,hd6,kr6⟩:=O6.ht
  have hin:=Gm.holds_in c2
  rcases kr6.get (Hg.g s2.row 0).n with ⟨e1,e2⟩ | ⟨b,e',e1,e2,hb⟩
  .have:=Gm.dget_of LI5.nd hin
   rw [e2] at this
   cases this
  refine ⟨_,rfl,st,_,rfl,O6.there,td,rfl,.inl ⟨_,.inl hd6⟩,_,rfl,st,_,rfl,O6.row,r,_,_,_,rfl,rfl,SqL.of hx6,ia,a,_,_,_,rfl,rfl,SqT.of (s6 _ _ ha),rfl,_,Sum.inr (Hg.g s2.row 0).n,_,hd6,rfl,e1,?_⟩
  obtain ⟨O7,k7⟩:=O6.dropTo (Hg.g s2.row 0).n hd6
  generalize upd H6 td (.dK (bH ks6 (Sum.inr (Hg.g s2.row 0).n)))=H7 at O7 k7 ⊢
  have K7:=K6.trans (k7.mono (fun b hb=>by rw [zm hb];simp))
  obtain ⟨xs7,hx7,rr7⟩:=O7.hr
  refine ⟨_,rfl,_,rfl,st,_,rfl,O7.row,r,_,_,rfl,hx7,rr7,h0,by show s2.row.length<=1000;lia,fun ys H8 h8 rr8 k8=>⟨_,_,rfl,rfl,?_⟩⟩
  have OC:StAt H8 st r td (Gm.dropT (Gm.cut slt s2) (Hg.g s2.row 0).n) s.looks:=O7.rowTo (lk:=(Gm.cut slt s2).looks) h8 rr8 k8
  have KC:=K7.trans (k8.mono (fun b hb=>by rw [zm hb];simp))
  have hq8:=KC _ _ hq nq
  have lc:(Gm.cut slt s2).row.length=s2.row.length-1:=Hg.cutf_len
  have IC:Gm.LInv slt (Gm.dropT (Gm.cut slt s2) (Hg.g s2.row 0).n):=Gm.cut_take_inv slt_slo LI5 h0
  have eST:stepS s .take=Gm.sweep slt (Gm.dropT (Gm.cut slt s2) (Hg.g s2.row 0).n):=by show Gm.takeL slt s=_;unfold Gm.takeL;rw [ec]
  have lkc:(Gm.dropT (Gm.cut slt s2) (Hg.g s2.row 0).n).looks=s.looks+(lk+(Hg.cutf lE s2.row).2):=by
   show s2.looks+(Hg.cutf lE s2.row).2=_
   lia
  refine ⟨_,rfl,q,_,_,_,rfl,rfl,SqT.of hq8,rfl,rfl,_,rfl,aE (fun _=>?_) (fun c=>absurd zi c)⟩
  have O8:StAt _ st r td (Gm.dropT (Gm.cut slt s2) (Hg.g s2.row 0).n) s.looks:=OC
  have K8:=KC
  refine ⟨_,rfl,_,rfl,st,r,td,(Gm.dropT (Gm.cut slt s2) (Hg.g s2.row 0).n),s.looks,rfl,O8,(fun n x hx=>(IC.inr n x hx).1),(by show (Gm.cut slt s2).row.length<=1000;lia),fun lk9 r9 H9 hk9 O9 k9 f9=>⟨_,_,rfl,rfl,?_⟩⟩
  have K9:Kept [st,r,td] H H9:=K8.trans k9
  have fr9:r9=r∨H r9=none:=f9.imp id (old O8 K8)
  have hlk:(stepS s .take).looks=s.looks+((lk+(Hg.cutf lE s2.row).2)+lk9):=by rw [eST,hk9];lia
  rw [<-eST] at O9
  refine ⟨_,rfl,st,_,rfl,O9.work,_,rfl,_,_,rfl,rfl,_,rfl,st,_,rfl,DPut.k (k:=Sum.inr "work") O9.hs (by show 5<sizeLine;decide),?_⟩
  obtain ⟨OW,kW⟩:=O9.workTo hlk
  exact ⟨_,rfl,k _ _ _ hlk OW (K9.trans (kW.mono fun b hb=>by rw [zm hb];simp)) fr9⟩
 | least =>
  have tne:s.there≠[]:=ft
  refine ⟨_,rfl,q,_,_,_,rfl,rfl,SqT.of hq,rfl,rfl,_,rfl,aE (fun c=>absurd c zi) (fun _=>?_)⟩
  refine ⟨_,rfl,q,_,_,_,rfl,rfl,SqT.of hq,rfl,sz2,fun l1 hl1=>⟨l1,_,["drop","change"],rfl,rfl,SqT.of af,_,rfl,?_⟩⟩
  have s1:=ai (H:=H) (o:=.tup [.str "drop",.str "change"]) hl1
  generalize upd H l1 (.tup [.str "drop",.str "change"])=H1 at s1 ⊢
  refine aE (fun c=>absurd c zi) (fun _=>?_)
  have hq1:=s1 _ _ hq
  refine ⟨_,rfl,q,_,_,_,rfl,rfl,SqT.of hq1,rfl,rfl,_,rfl,aE (fun c=>absurd c zi) (fun _=>?_)⟩
  refine ⟨_,rfl,q,_,_,_,rfl,rfl,SqT.of hq1,rfl,sz2,fun l2 hl2=>⟨l2,_,["take","least"],rfl,rfl,SqT.of af,_,rfl,?_⟩⟩
  have s2:=ai (H:=H1) (o:=.tup [.str "take",.str "least"]) hl2
  generalize upd H1 l2 (.tup [.str "take",.str "least"])=H2 at s2 ⊢
  refine aE (fun _=>?_) (fun c=>absurd zi c)
  have s12:=s1.trans s2
  have hq2:=s12 _ _ hq
  refine ⟨fun m σ H5=>∃ (f lk:Nat) (s2:LS),σ=[some (.ref st),some (.ref q),some (.int lk)]/\StAt H5 st r td s2 s.looks/\Gm.LInv slt s2/\s2.there=s.there/\s2.row.length<=f/\s2.row.length<=s.row.length/\Gm.clean slt f s2=Gm.leastL slt s/\s2.looks=s.looks+lk/\Kept [st,r,td] H H5/\m=s2.row.length,⟨_,s.row.length,0,s,rfl,O.same s12,LI,rfl,Nat.le_refl _,Nat.le_refl _,rfl,rfl,Kept.of_same s12,rfl⟩,?_⟩
  rintro m σ H5 ⟨f,lk,s2,rfl,O5,LI5,e5,hf,hle,hc,hlk2,K5,rfl⟩
  obtain ⟨xs5,hx5,rr5⟩:=O5.hr
  have h0:=Gm.row_pos LI5 (by rw [e5];exact tne)
  obtain ⟨a,ea,ha,ia⟩:=rr5.at h0
  refine ⟨_,rfl,_,rfl,st,_,rfl,O5.row,r,_,_,_,rfl,rfl,SqL.of hx5,ia,st,r,td,a,s2,s.looks,_,rfl,O5,ha,(fun n x hx=>(LI5.inr n x hx).1),fun H6 s6=>⟨_,rfl,?_⟩⟩
  have O6:=O5.same s6
  have K6:=K5.trans (Kept.of_same s6)
  have hx6:=s6 _ _ hx5
  have rr6:=rr5.stay fun b l h=>s6 _ _ h
  cases c2:Gm.holds s2.there (Hg.g s2.row 0) with
  | false =>
   have c3:¬ Gm.holds s2.there (Hg.g s2.row 0)=true:=by rw [c2];exact Bool.false_ne_true
   obtain ⟨f,rfl⟩:∃ f0,f=f0+1:=⟨f-1,zk⟩
   have hc2:Gm.clean slt f (Gm.cut slt s2)=Gm.leastL slt s:=by
    rw [<-hc]
    conv=>rhs;unfold Gm.clean
    rw [if_neg c3]
   have lc:(Gm.cut slt s2).row.length=s2.row.length-1:=Hg.cutf_len
   refine qb ?_
   refine ⟨fun σ H5=>∃ m,m<s2.row.length/\∃ (f lk:Nat) (s2:LS),σ=[some (.ref st),some (.ref q),some (.int lk)]/\StAt H5 st r td s2 s.looks/\Gm.LInv slt s2/\s2.there=s.there/\s2.row.length<=f/\s2.row.length<=s.row.length/\Gm.clean slt f s2=Gm.leastL slt s/\s2.looks=s.looks+lk/\Kept [st,r,td] H H5/\m=s2.row.length,fun σ' H' z=>z,?_⟩
   refine ⟨_,rfl,_,rfl,st,_,rfl,O6.row,r,_,_,rfl,hx6,rr6,h0,zk,fun ys H7 h7 rr7 k7=>⟨_,_,rfl,rfl,?_⟩⟩
   have O7:StAt H7 st r td (Gm.cut slt s2) s.looks:=O6.rowTo (lk:=(Gm.cut slt s2).looks) h7 rr7 k7
   have lk7:(Gm.cut slt s2).looks=s.looks+(lk+(Hg.cutf lE s2.row).2):=by
    show s2.looks+(Hg.cutf lE s2.row).2=_
    lia
   exact ⟨(Gm.cut slt s2).row.length,zk,f,lk+(Hg.cutf lE s2.row).2,Gm.cut slt s2,rfl,O7,Gm.cut_inv slt_slo LI5 h0 c3,e5,zk,zk,hc2,lk7,K6.trans (k7.mono (fun b hb=>by rw [zm hb];simp)),rfl⟩
  | true =>
  refine gf ?_
  have ec:Gm.leastL slt s=s2:=by
   rw [<-hc]
   cases f with
   | zero=>rfl
   | succ f=>unfold Gm.clean;rw [if_pos c2]
  have hq6:=K6 _ _ hq nq
  refine ⟨_,rfl,q,_,_,_,rfl,rfl,SqT.of hq6,rfl,rfl,_,rfl,aE (fun c=>absurd c zi) (fun _=>?_)⟩
  refine ⟨_,rfl,q,_,_,_,rfl,rfl,SqT.of hq6,rfl,rfl,_,rfl,aE (fun c=>absurd c zi) (fun _=>?_)⟩
  have O9:StAt H6 st r td (stepS s .least) s.looks:=by show StAt H6 st r td (Gm.leastL slt s) s.looks;rw [ec];exact O6
  have hlk:(stepS s .least).looks=s.looks+lk:=by show (Gm.leastL slt s).looks=_;rw [ec];exact hlk2
  have K9:=K6
  have fr9:r=r∨H r=none:=.inl rfl
  refine ⟨_,rfl,st,_,rfl,O9.work,_,rfl,_,_,rfl,rfl,_,rfl,st,_,rfl,DPut.k (k:=Sum.inr "work") O9.hs (by show 5<sizeLine;decide),?_⟩
  obtain ⟨OW,kW⟩:=O9.workTo hlk
  exact ⟨_,rfl,k _ _ _ hlk OW (K9.trans (kW.mono fun b hb=>by rw [zm hb];simp)) fr9⟩
theorem df {H:Hp}{pl sr b:Addr}{ns:List Int}{u:HO}(P:Pile K H pl sr ns)(e:H b=some u)(n:∀ys,u≠.lst ys):b≠pl:=by
 obtain ⟨_,_,_,_,h,_⟩:=P.to
 exact fun z=>by subst z;rw [e] at h;cases h;exact n _ rfl
theorem cy {H H':Hp}{pl sr:Addr}{ns:List Int}(P:Pile K H pl sr ns)(k:Kept [pl] H H'):∀b l,H b=some (.tup l)->H' b=some (.tup l):=fun b l e=>k _ _ e (fun z=>df P e (fun _ z=>nomatch z) (zm z))
theorem _root_.L2.StAt.pl {H H':Hp}{pl sr st r td:Addr}{ns:List Int}{s:LS}{wk:Nat}(O:StAt H st r td s wk)(P:Pile K H pl sr ns)(n:r≠pl)(k:Kept [pl] H H'):StAt H' st r td s wk:=by
 obtain ⟨ks,hd,_⟩:=O.ht
 refine O.stay (fun b o hb e=>?_) (cy P k)
 rcases hb with rfl | rfl | rfl
 .exact k _ _ e (fun z=>df P O.hs (fun _ z=>nomatch z) (zm z))
 .exact k _ _ e (fun z=>n (zm z))
 exact k _ _ e (fun z=>df P hd (fun _ z=>nomatch z) (zm z))
abbrev i6:Stmt:=top 35
theorem oz:FnScope ["pile","state","names","there","away","way","name","kinds"] ["pile","state","names"] (ao i6):=fsc fun nd=>⟨rfl,rfl,rfl,nd,rfl,zi,zi⟩
def oA (K:W.Frag):Sp:=fun vs H Q _=>∃ (pl sr:Addr) (is:List Int) (st r td nl:Addr) (s:LS) (wk:Nat) (nv:List V),vs=[.ref pl,.ref st,.ref nl]/\Pile K H pl sr is/\StAt H st r td s wk/\H nl=some (.lst nv)/\jG nv/\nv.length<=200/\InN nv (thW s.there)/\s.there.length<=200/\r≠pl/\nl≠pl /\
 ∀(q:Addr) (dd:Deed) (H':Hp),H' q=some (.tup dd.v)->dd.inN nv->Pile K H' pl sr is->Kept [pl] H H'->Q (.ref q) H'
theorem rW {f fn fw:Addr}{fd fdn fdw:FuncData}(F:Fun K "_law_deed" "_law_deed" i6 f fd)(T:Bl mg)(G_law_next:aA P w K mg base CX0 1 fn fdn ["pile","most"] (cD K))(D_law_next:Nm K mg "_law_next" fn fdn ["pile","most"])
  (G_law_worth:aA P w K mg base CX0 2 fw fdw ["pile"] (gM K)) (D_law_worth:Nm K mg "_law_worth" fw fdw ["pile"]):aA P w K mg base CX0 3 f fd ["pile","state","names"] (oA K):=by
 have sc:=oz
 refine F.okQ oz (fun vs H Q E h=>?_) (fun cdv A outer s_ H vs Q E hr h=>?_)
 .obtain ⟨pl,sr,is,st,r,td,nl,s,wk,nv,rfl,_⟩:=h
  rfl
 obtain ⟨pl,sr,is,st,r,td,nl,s,wk,nv,rfl,PL,O,hn,an,ln,inn,lt,nrp,nnp,k⟩:=h
 have hu:=hr.units0
 obtain ⟨ks,hd,kr⟩:=O.ht
 refine ⟨_,(ae (qst 3 sc.nd (qcB (ii rfl) T.z_sorted (ad (aO (aX hr) (qv 1) av pix) ah)))
  (ae (cT (i:=4) sc.nd rfl (Or.inl rfl) (Blk.of (N:=["pile","state","names","there","away","way","name","kinds"]) (esc:=ao i6) (NB:=["state"]) (cap:=[1]) rfl rfl (fun y hy=>bo hy) rfl zi zi zi rfl zi rfl zi) rfl rfl (bS (qv 2)) (fun C fp s₀ H₀=>(jq (ip (aX hr) (qv 0) (aO (aX hr) (qv 1) av pix)))) (fun C fp s₀ H₀=>(qv 0)))
  (ae (qst 5 sc.nd (qcl G_law_next hr D_law_next aD (ad (qv 0) (ad ag ah))))
  (ae (bR (QW.pt (fz (ar (eU hu) (qv 3) (aM ah) (az _)) (dI (ar fZ (qv 5) ag (az _))))) (aj (qst 5 sc.nd ag)) ay)
  (ae (bR (QW.pt (fz (ar cV (qv 5) ag (az _)) (dI (ar (rP hu) (qv 4) (aM ah) (az _))))) (aj (aB (aI (ad av (ad (au aw (qv 4) (qcl G_law_next hr D_law_next aD (ad (qv 0) (ad (qcB aG T.z_len (ad (qv 4) ah)) ah))) pix) (ad (qcl G_law_worth hr D_law_worth aD (ad (qv 0) ah)) ah)))))) ay)
  (ae (aR (ar (eU hu) (qv 3) (aM ah) (az _)) (aj (aB (aI (ad av ah)))) ay)
  (ae (qst 6 sc.nd (au aw (qv 3) (qcl G_law_next hr D_law_next aD (ad (qv 0) (ad (qcB aG T.z_len (ad (qv 3) ah)) ah))) pix))
  (ae (qst 7 sc.nd (aM (ad (aI (ad av (ad (qv 6) (ad (qcl G_law_worth hr D_law_worth aD (ad (qv 0) ah)) ah)))) (ad (aI (ad av (ad (qv 6) ah))) (ad (aI (ad av ah)) (ad (aI (ad av ah)) (ad (aI (ad av (ad (qv 6) ah))) ah)))))))
  (aj (aB (au aw (qv 7) (aq cb (qv 5) ag) pix))))))))))),?_⟩
 refine ⟨_,rfl,st,_,rfl,O.there,td,ks,s.there.map (·.1),rfl,hd,kr.keys,fun tl ys htl pm=>?_⟩
 refine cU htl fun H1 s1 g1=>?_--@0
 have O1:=O.same s1
 have P1:=PL.same s1
 have ntl:tl≠pl:=by
  obtain ⟨u,e⟩:=PL.there
  exact (am e htl).symm
 have ly:ys.length=s.there.length:=by rw [pm.length_eq,List.length_map]
 have yin:∀y∈ys,V.str y∈nv:=fun y hy=>by
  obtain ⟨p,hp,rfl⟩:=List.mem_map.mp (pm.mem_iff.mp hy)
  exact inn (p.1,p.2.w) (List.mem_map.mpr ⟨p,hp,rfl⟩)
 refine ⟨_,rfl,nl,rfl,⟨_,SqL.of (s1 _ _ hn)⟩,fun D hD=>?_⟩
 refine bW (K:=K) (a:=nl) (xs:=nv) (fun i us H4=>H4 D=some (.lst us)/\(∀y∈us,y∈nv)/\us.length<=i/\Same H1 H4) ⟨af,(fun _ h=>nomatch h),Nat.le_refl _,ai hD⟩ (fun i us H4 z=>⟨z.1,SqL.of (z.2.2.2 _ _ (s1 _ _ hn))⟩) ?_ ?_
 .rintro i x us H4 hi ⟨h4,m4,l4,s4⟩
  have mx:=List.mem_of_getElem? hi
  have li:i<nv.length:=(List.getElem?_eq_some_iff.mp hi).1
  obtain ⟨n,rfl,_⟩:=an x mx
  have O4:=O1.same s4
  obtain ⟨ks4,hd4,kr4⟩:=O4.ht
  refine ⟨_,rfl,_,rfl,st,_,rfl,O4.there,td,_,rfl,DGet.k (k:=Sum.inr n) hd4,_,rfl,aE (fun _=>⟨_,rfl,h4,aH zk,_,zk,rfl,zk,af,?_,?_,cp s4 hD⟩) (fun _=>⟨_,zk,rfl,zk,h4,m4,zk,s4⟩)⟩
  .intro y hy
   rcases List.mem_append.mp hy with z | z
   .exact m4 y z
   .rw [zm z];exact mx
  .rw [List.length_append];show us.length+1<=_;lia
 rintro us H4 ⟨h4,m4,l4,s4⟩
 have nD:D≠pl:=by
  obtain ⟨u,e⟩:=P1.there
  exact (am e hD).symm
 have K4:Kept [pl] H H4:=Kept.of_same (s1.trans s4)
 have no:∀b,b≠pl->b∉[pl]:=fun b n z=>n (zm z)
 have big:∀m:Nat,m<=200->(m:Int)<2 ^ 120:=fun m h=>Int.lt_of_le_of_lt (show (m:Int)<=200 by lia) zj
 have lus:us.length<=200:=by lia
 refine ⟨_,rfl,pl,sr,is,10,rfl,(P1.same s4),zj,zj,fun x H5 x0 x1 P5 K5 N5=>?_⟩
 refine ⟨fun σ' H'=>∃ wy:Int,σ'=[some (.ref pl),some (.ref st),some (.ref nl),some (.ref tl),some (.ref D),some (.int wy),none,none]/\0<=wy/\wy<10/\Pile K H' pl sr is/\Kept [pl] H H'/\H' tl=some (.lst (ys.map V.str))/\H' D=some (.lst us),?_,?_⟩
 .refine ⟨_,rfl,sz0,fun z hz=>?_⟩
  have s6:=ai (o:=.lst []) hz
  have g6:=af (H:=H5) (a:=z) (o:=.lst [])
  generalize upd H5 z (.lst [])=H6 at s6 g6 ⊢
  have K6:=(K4.trans K5).trans (Kept.of_same s6)
  have P6:=P5.same s6
  have t6:=K6
  have e1:=s6 _ _ (K5 _ _ (s4 _ _ g1) (no _ ntl))
  have e2:=s6 _ _ (K5 _ _ h4 (no _ nD))
  refine ⟨tl,z,_,rfl,rfl,SqL.of e1,SqL.of g6,_,rfl,aE (fun c=>⟨_,rfl,_,_,rfl,rfl,_,rfl,aE (fun _=>?_) (fun _=>?_)⟩) (fun c=>gf ?_)⟩
  .exact ⟨1,rfl,zj,zj,P6,K6,e1,e2⟩
  .exact ⟨x,rfl,x0,x1,P6,K6,e1,e2⟩
  .exact ⟨x,rfl,x0,x1,P6,K6,e1,e2⟩
 rintro σ' H6 ⟨wy,rfl,w0,w1,P6,K6,e1,e2⟩
 refine ⟨fun σ' H'=>∃ wy:Int,σ'=[some (.ref pl),some (.ref st),some (.ref nl),some (.ref tl),some (.ref D),some (.int wy),none,none]/\0<=wy/\wy<10/\Pile K H' pl sr is/\Kept [pl] H H'/\H' tl=some (.lst (ys.map V.str))/\H' D=some (.lst us),?_,?_⟩
 .refine ⟨_,rfl,_,_,rfl,rfl,_,rfl,aE (fun c=>?_) (fun c=>gf ⟨wy,rfl,w0,w1,P6,K6,e1,e2⟩)⟩
  refine ⟨_,rfl,sz0,fun z hz=>?_⟩
  have s7:=ai (o:=.lst []) hz
  have g7:=af (H:=H6) (a:=z) (o:=.lst [])
  generalize upd H6 z (.lst [])=H7 at s7 g7 ⊢
  have K7:=K6.trans (Kept.of_same s7)
  have P7:=P6.same s7
  refine ⟨D,z,us,rfl,rfl,SqL.of (s7 _ _ e2),SqL.of g7,_,rfl,aE (fun c2=>?_) (fun c2=>⟨wy,rfl,w0,w1,P7,K7,s7 _ _ e1,s7 _ _ e2⟩)⟩
  have u0:0<us.length:=by
   cases us with
   | nil=>exact absurd c2 zi
   | cons _ _=>exact Nat.succ_pos _
  refine ⟨_,rfl,_,rfl,_,rfl,D,_,rfl,.inl (SqL.of (s7 _ _ e2)),pl,sr,is,_,rfl,P7,zk,big _ lus,fun y H8 y0 y1 P8 K8 N8=>?_⟩
  obtain ⟨v,ev,mv⟩:=cC (l:=us) (i:=y) y0 y1
  obtain ⟨n,rfl,_⟩:=an v (m4 _ mv)
  refine ⟨D,_,_,_,rfl,rfl,SqL.of (K8 _ _ (s7 _ _ e2) (no _ nD)),ev,_,rfl,pl,sr,is,rfl,P8,fun w H9 P9 K9=>⟨sz3,fun q hq=>?_⟩⟩
  exact k q (.put n w) _ af (m4 _ mv) (P9.same (ai hq)) (((K7.trans K8).trans K9).new hq)
 rintro σ' H7 ⟨wy,rfl,w0,w1,P7,K7,e1,e2⟩
 refine ⟨_,rfl,sz0,fun z hz=>?_⟩
 have s8:=ai (o:=.lst []) hz
 have g8:=af (H:=H7) (a:=z) (o:=.lst [])
 generalize upd H7 z (.lst [])=H8 at s8 g8 ⊢
 have K8:=K7.trans (Kept.of_same s8)
 have P8:=P7.same s8
 have e8:=s8 _ _ e1
 refine ⟨tl,z,_,rfl,rfl,SqL.of e8,SqL.of g8,_,rfl,aE (fun c=>?_) (fun c=>?_)⟩
 .refine ⟨sz1,fun q hq=>?_⟩
  exact k q .least _ af trivial (P8.same (ai hq)) (K8.new hq)
 have y0':0<ys.length:=by
  cases ys with
  | nil=>exact absurd zi c
  | cons _ _=>exact Nat.succ_pos _
 have lm:(ys.map V.str).length=ys.length:=List.length_map ..
 refine ⟨_,rfl,_,rfl,_,rfl,tl,_,rfl,.inl (SqL.of e8),pl,sr,is,_,rfl,P8,zk,big _ zk,fun y H9 y0 y1 P9 K9 N9=>?_⟩
 obtain ⟨v,ev,mv⟩:=cC (l:=ys.map V.str) (i:=y) y0 y1
 obtain ⟨n,hn',rfl⟩:=List.mem_map.mp mv
 have nin:=yin n hn'
 have KA:=K8.trans K9
 refine ⟨tl,_,_,_,rfl,rfl,SqL.of (K9 _ _ e8 (no _ ntl)),ev,?_⟩
 refine ⟨_,rfl,_,rfl,pl,sr,is,rfl,P9,fun w HA PA KA2=>?_⟩
 refine ⟨sz3,fun t1 ht1=>?_⟩
 have q1:=ai (H:=HA) (o:=.tup [.str "change",.str n,.int w]) ht1
 have r1:=af (H:=HA) (a:=t1) (o:=.tup [.str "change",.str n,.int w])
 generalize upd HA t1 (.tup [.str "change",.str n,.int w])=HB at q1 r1 ⊢
 refine ⟨_,rfl,sz2,fun t2 ht2=>?_⟩
 refine cU ht2 fun HC q2 r2=>?_--@5
 refine ⟨sz1,fun t3 ht3=>?_⟩
 refine cU ht3 fun HD q3 r3=>?_--@6
 refine ⟨sz1,fun t4 ht4=>?_⟩
 have q4:=ai (H:=HD) (o:=.tup [.str "least"]) ht4
 have r4:=af (H:=HD) (a:=t4) (o:=.tup [.str "least"])
 generalize upd HD t4 (.tup [.str "least"])=HE at q4 r4 ⊢
 refine ⟨_,rfl,sz2,fun t5 ht5=>?_⟩
 refine cU ht5 fun HF q5 r5=>?_--@8
 refine ⟨sz5,fun kl hkl=>?_⟩
 refine cU hkl fun HG q6 r6=>?_--@9
 have m0:0<=wy % 5:=dt zj
 have m1:wy % 5<5:=du zj
 obtain ⟨v,ev,mv⟩:=cC (l:=([.ref t1,.ref t2,.ref t3,.ref t4,.ref t5]:List V)) (i:=wy % 5) m0 m1
 have sall:Same HA HG:=((((q1.trans q2).trans q3).trans q4).trans q5).trans q6
 have PG:=PA.same sall
 have KG:=(KA.trans KA2).trans (Kept.of_same sall)
 refine ⟨_,rfl,_,rfl,_,_,rfl,rfl,(by show (0:Int)<5;decide),kl,_,_,_,rfl,rfl,SqL.of r6,ev,?_⟩
 simp only [List.mem_cons,List.not_mem_nil,or_false] at mv
 rcases mv with h | h | h | h | h
 .subst h;exact k t1 (.change n w) HG (q6 _ _ (q5 _ _ (q4 _ _ (q3 _ _ (q2 _ _ r1))))) nin PG KG
 .subst h;exact k t2 (.drop n) HG (q6 _ _ (q5 _ _ (q4 _ _ (q3 _ _ r2)))) nin PG KG
 .subst h;exact k t3 .take HG (q6 _ _ (q5 _ _ (q4 _ _ r3))) trivial PG KG
 .subst h;exact k t4 .least HG (q6 _ _ (q5 _ _ r4)) trivial PG KG
 subst h;exact k t5 (.drop n) HG (q6 _ _ r5) nin PG KG
abbrev xz:Stmt:=top 36
theorem vp:FnScope ["pile","names","slack","many","state","deeds","looks","most","k","deed","ahead"] ["pile","names","slack","many"] (ao xz):=fsc fun nd=>⟨rfl,rfl,rfl,nd,rfl,zi,zi⟩
def vB (K:W.Frag):Sp:=fun vs H Q _=>∃ (pl sr:Addr) (is:List Int) (nl:Addr) (nv:List V) (z:Int) (many:Nat),vs=[.ref pl,.ref nl,.int z,.int many]/\Pile K H pl sr is/\H nl=some (.lst nv)/\jG nv/\nv.length<=200/\nl≠pl/\many<=300 /\
 ∀(o dl ll st r td:Addr) (ds:List Deed) (dz lz:List V) (m:Int) (H':Hp),H' o=some (.lst [.ref dl,.ref st,.ref ll,.int m])->Fits z ds->(∀d∈ds,d.inN nv)->ds.length<=many->H' dl=some (.lst dz)->DDs H' dz ds->StAt H' st r td (bu z ds) (bu z ds).looks->Pile K H' pl sr is->Kept [pl] H H'->H o=none->H dl=none->H st=none->H td=none->H r=none->r≠dl->Q (.ref o) H'
theorem w5 {f fn fd_ fr fo:Addr}{fd fdn fdd fdr fdo:FuncData}(F:Fun K "_law_run" "_law_run" xz f fd)(T:Bl mg)(z_max:mg "max"=none)(G_law_new:aA P w K mg base CX0 1 fn fdn ["slack"] nO)(D_law_new:Nm K mg "_law_new" fn fdn ["slack"])
  (G_law_deed:aA P w K mg base CX0 3 fd_ fdd ["pile","state","names"] (oA K)) (D_law_deed:Nm K mg "_law_deed" fd_ fdd ["pile","state","names"]) (G_law_refused:aA P w K mg base CX0 1 fr fdr ["state","deed"] fv) (D_law_refused:Nm K mg "_law_refused" fr fdr ["state","deed"])
  (G_law_done:aA P w K mg base CX0 3 fo fdo ["state","deed"] jl) (D_law_done:Nm K mg "_law_done" fo fdo ["state","deed"]):aA P w K mg base CX0 4 f fd ["pile","names","slack","many"] (vB K):=by
 have sc:=vp
 refine F.okQ vp (fun vs H Q E h=>?_) (fun cdv A outer s_ H vs Q E hr h=>?_)
 .obtain ⟨pl,sr,is,nl,nv,z,many,rfl,_⟩:=h
  rfl
 obtain ⟨pl,sr,is,nl,nv,z,many,rfl,PL,hn,an,ln,nnp,lm,k⟩:=h
 have hu:=hr.units0
 have hu1:=hr.u100
 refine ⟨_,(ae (qst 4 sc.nd (qcl G_law_new hr D_law_new aD (ad (qv 2) ah)))
  (ae (qst 5 sc.nd (aM ah))
  (ae (qst 6 sc.nd (aM ah))
  (ae (qst 7 sc.nd ag)
  (ae (ce PassesOwn.never rfl (bX rfl T.z_range (ad (qv 3) ah)) (aQ (i:=8) sc.nd rfl (Or.inl rfl)) (ae (qst 9 sc.nd (qcl G_law_deed hr D_law_deed aD (ad (qv 0) (ad (qv 4) (ad (qv 1) ah)))))
  (aj (aR (ar a8 (qcl G_law_refused hr D_law_refused aD (ad (qv 4) (ad (qv 9) ah))) av (az _)) (ae (qst 10 sc.nd (qcB aG T.z_len (ad (aO (aX hr) (qv 4) av pix) ah)))
  (ae (aK (bJ PySem.F.plainAttrs_list PySem.F.slot_list_append PySem.F.type_list_append aY (qv 6) (ad (qcl G_law_done hr D_law_done aD (ad (qv 4) (ad (qv 9) ah))) ah)))
  (ae (qst 7 sc.nd (qcB (pN rfl) z_max (ad (qv 7) (ad (aq aF (qv 10) (qcT ci T.z_int (ad (cr gr (au aJ (qv 9) ag pix) (aI (ad av (ad av ah))) rfl) ah))) (ad (qcB aG T.z_len (ad (aO (aX hr) (qv 4) av pix) ah)) ah)))))
  (aj (aK (bJ PySem.F.plainAttrs_list PySem.F.slot_list_append PySem.F.type_list_append aY (qv 5) (ad (qv 9) ah))))))) ay))))
  (aj (aB (aM (ad (qv 5) (ad (qv 4) (ad (qv 6) (ad (qv 7) ah)))))))))))),?_⟩
 refine ⟨_,rfl,z,rfl,fun st r td H1 hst hr0 htd O1 s1=>?_⟩
 refine ⟨sz0,fun dl hdl=>?_⟩
 refine cU hdl fun H2 s2 g2=>?_--@0
 refine ⟨sz0,fun ll hll=>?_⟩
 refine cU hll fun H3 s3 g3=>?_--@1
 have s13:=s2.trans s3
 have s03:=s1.trans s13
 have old:∀{b:Addr} {X Y:Hp},Same X Y->Y b=none->X b=none:=fun {b X Y} sm h=>by
  cases e:X b with
  | none=>rfl
  | some o=>rw [sm b o e] at h;cases h
 have fdl:H dl=none:=old s1 hdl
 have fll:H ll=none:=old (s1.trans s2) hll
 obtain ⟨xr,hxr,_⟩:=O1.hr
 have n1:r≠dl:=am hxr hdl
 have n2:r≠ll:=am (s2 _ _ hxr) hll
 have n3:dl≠ll:=am g2 hll
 obtain ⟨up,hup⟩:=PL.there
 have npd:dl≠pl:=(am hup fdl).symm
 have npl:ll≠pl:=(am hup fll).symm
 have no:∀b,b≠pl->b∉[pl]:=fun b n z=>n (zm z)
 refine ⟨_,rfl,_,rfl,zk,zk,dB (lo:=0) (n:=many) (fun i σ H4=>∃ (r:Addr) (ds:List Deed) (dz lz:List V) (m:Int) (o8 o9 o10:Option V),σ=[some (.ref pl),some (.ref nl),some (.int z),some (.int many),some (.ref st),some (.ref dl),some (.ref ll),some (.int m),o8,o9,o10]/\Fits z ds/\(∀d∈ds,d.inN nv)/\ds.length<=i/\H4 dl=some (.lst dz)/\DDs H4 dz ds/\H4 ll=some (.lst lz)/\lz.length=ds.length/\StAt H4 st r td (bu z ds) (bu z ds).looks/\Pile K H4 pl sr is/\Kept [pl] H H4/\H r=none/\r≠dl/\r≠ll) ⟨r,[],[],[],0,none,none,none,rfl,.nil,(fun _ h=>nomatch h),Nat.le_refl _,s3 _ _ g2,.nil,g3,rfl,O1.same s13,PL.same s03,Kept.of_same s03,hr0,n1,n2⟩ ?_ ?_⟩
 .rintro i σ H4 hi ⟨r,ds,dz,lz,m,o8,o9,o10,rfl,ft,din,lds,h4d,dd4,h4l,llz,O4,P4,K4,fr4,nr1,nr2⟩
  have I4:=ft.inv
  have st4:=ft.stamp
  have tl4:=I4.tl
  have nrp:r≠pl:=(am hup fr4).symm
  have hn4:=K4 _ _ hn (no _ nnp)
  refine ⟨_,rfl,_,rfl,_,rfl,pl,sr,is,st,r,td,nl,bu z ds,_,nv,rfl,P4,O4,hn4,an,ln,ft.inN din,Nat.le_trans ((ft.inN din).len I4.nd) ln,nrp,nnp,fun q dd H5 hq inn P5 K5=>?_⟩
  have O5:=O4.pl P4 nrp K5
  have K45:=K4.trans K5
  have t5:=cy P4 K5
  have h5d:=K5 _ _ h4d (no _ npd)
  have h5l:=K5 _ _ h4l (no _ npl)
  have dd5:=dd4.stay t5
  refine ⟨_,rfl,_,rfl,st,r,td,q,bu z ds,_,dd,rfl,O5,hq,fun c H6 s6 fit _=>⟨rfl,_,rfl,aE (fun c1=>?_) (fun c1=>?_)⟩⟩
  rotate_left
  .exact ⟨r,ds,dz,lz,m,_,_,_,rfl,ft,din,zk,s6 _ _ h5d,dd5.stay (fun b l h=>s6 _ _ h),s6 _ _ h5l,llz,O5.same s6,P5.same s6,K45.trans (Kept.of_same s6),fr4,nr1,nr2⟩
  have fit':=fit (V.str.inj (of_decide_eq_true c1))
  have O6:=O5.same s6
  have hq6:=s6 _ _ hq
  obtain ⟨xs6,hx6,rr6⟩:=O6.hr
  have h6d:=s6 _ _ h5d
  have h6l:=s6 _ _ h5l
  have dd6:=dd5.stay fun b l h=>s6 _ _ h
  have P6:=P5.same s6
  have K6:=K45.trans (Kept.of_same s6)
  refine ⟨_,rfl,st,_,rfl,O6.row,r,_,rfl,.inl (SqL.of hx6),?_⟩
  refine ⟨_,rfl,.inl ⟨rfl,lz,SqL.of h6l⟩,_,rfl,_,rfl,st,r,td,q,bu z ds,dd,rfl,O6,I4,zk,hq6,fit',fun lk r' H7 elk O7 k7 f7=>?_⟩
  obtain ⟨kt6,hd6,_⟩:=O6.ht
  have nl6:∀{b:Addr} {ys:List V},H6 b=some (.lst ys)->b≠r->b∉[st,r,td]:=fun {b ys} e n z=>by
   simp only [List.mem_cons,List.not_mem_nil,or_false] at z
   rcases z with y | y | y
   .rw [y,O6.hs] at e;cases e
   .exact n y
   .rw [y,hd6] at e;cases e
  have h7l:=k7 _ _ h6l (nl6 h6l nr2.symm)
  have h7d:=k7 _ _ h6d (nl6 h6d nr1.symm)
  have t7:=O6.tk k7 fun b hb=>hb
  have P7:Pile K H7 pl sr is:=P6.kept (F:=[st,r,td]) (fun b hb=>by
   simp only [List.mem_cons,List.not_mem_nil,or_false] at hb
   rcases hb with y | y | y
   .rw [y];exact P6.unlike O6.hs (fun _ z=>nomatch z) (fun _ _ z=>nomatch z)
   .rw [y];exact PL.new fr4
   .rw [y];exact P6.unlike hd6 (fun _ z=>nomatch z) (fun _ _ z=>nomatch z)) k7
  have K7:Kept [pl] H H7:=fun b o e nb=>k7 b o (K6 b o e nb) fun z=>by
   simp only [List.mem_cons,List.not_mem_nil,or_false] at z
   rcases z with y | y | y
   .rw [y,hst] at e;cases e
   .rw [y,fr4] at e;cases e
   .rw [y,htd] at e;cases e
  have nr1':r'≠dl:=by
   rcases f7 with y | y
   .rw [y];exact nr1
   .exact (am h6d y).symm
  have nr2':r'≠ll:=by
   rcases f7 with y | y
   .rw [y];exact nr2
   .exact (am h6l y).symm
  have fr7:H r'=none:=by
   rcases f7 with y | y
   .rw [y];exact fr4
   .cases e:H r' with
    | none=>rfl
    | some o =>
     by_cases w:r'=pl
     .obtain ⟨_,_,_,_,hp6,_⟩:=P6.to
      rw [w,hp6] at y;cases y
     .rw [K6 _ _ e (no _ w)] at y;cases y
  refine ⟨ll,lz,_,rfl,rfl,h7l,aH zk,?_⟩
  have k8:Kept [ll] H7 (upd H7 ll (.lst (lz++[.int lk]))):=Kept.refl.put zl
  have g8:=af (H:=H7) (a:=ll) (o:=.lst (lz++[.int lk]))
  generalize upd H7 ll (.lst (lz++[.int lk]))=H8 at k8 g8 ⊢
  have wl:∀{G1 G2:Hp} {b:Addr} {ys:List V},G1 b=some (.lst ys)->Kept [b] G1 G2->∀c l,G1 c=some (.tup l)->G2 c=some (.tup l):=fun {G1 G2 b ys} e kk c l h=>kk _ _ h (fun z=>by rw [zm z,e] at h;cases h)
  have stW:∀{G1 G2:Hp} {b:Addr} {ys:List V} {sx:LS} {wx:Nat},StAt G1 st r' td sx wx->G1 b=some (.lst ys)->r'≠b->Kept [b] G1 G2->StAt G2 st r' td sx wx:=fun {G1 G2 b ys sx wx} OO e n kk=>by
   obtain ⟨kt,hd',_⟩:=OO.ht
   refine OO.stay (fun c o hc h=>kk _ _ h fun z=>?_) (wl e kk)
   have z':=zm z
   rcases hc with y | y | y
   .rw [<-z',y,OO.hs] at e;cases e
   .exact n (y.symm.trans z')
   .rw [<-z',y,hd'] at e;cases e
  have O8:=stW O7 h7l nr2' k8
  have P8:Pile K H8 pl sr is:=P7.kept (F:=[ll]) (fun b hb=>by rw [zm hb];exact PL.new fll) k8
  have K8:Kept [pl] H H8:=fun b o e nb=>k8 b o (K7 b o e nb) fun z=>by rw [zm z,fll] at e;cases e
  have h8d:=k8 _ _ h7d (fun z=>n3 (zm z))
  have t8:=wl h7l k8
  have hq8:=t8 _ _ (t7 _ _ hq6)
  have dd8:=(dd6.stay t7).stay t8
  obtain ⟨dn,more,edv⟩:=gQ dd
  have hq8':=hq8
  rw [edv] at hq8'
  have i0:atI (V.str dn::more) 0=some (V.str dn):=aU (j:=0) rfl
  refine ⟨_,rfl,_,rfl,_,rfl,q,_,_,_,rfl,rfl,SqT.of hq8',i0,sz2,fun t ht=>?_⟩
  have s9:=ai (o:=.tup [.str "put",.str "change"]) ht
  have g9:=af (H:=H8) (a:=t) (o:=.tup [.str "put",.str "change"])
  generalize upd H8 t (.tup [.str "put",.str "change"])=H9 at s9 g9 ⊢
  have O9:=O8.same s9
  obtain ⟨xs9,hx9,_⟩:=O9.hr
  refine ⟨t,dn,["put","change"],rfl,rfl,SqT.of g9,.inr ⟨_,rfl,_,_,rfl,rfl,_,rfl,st,_,rfl,O9.row,r',_,rfl,.inl (SqL.of hx9),_,_,_,rfl,?_⟩⟩
  have h9d:=s9 _ _ h8d
  have ldz:dz.length=ds.length:=Paired.length dd4
  refine ⟨_,rfl,.inl ⟨rfl,dz,SqL.of h9d⟩,_,rfl,dl,dz,_,rfl,rfl,h9d,aH zk,?_⟩
  have kA:Kept [dl] H9 (upd H9 dl (.lst (dz++[.ref q]))):=Kept.refl.put zl
  have gA:=af (H:=H9) (a:=dl) (o:=.lst (dz++[.ref q]))
  generalize upd H9 dl (.lst (dz++[.ref q]))=HA at kA gA ⊢
  have OA:=stW O9 h9d nr1' kA
  have tA:=wl h9d kA
  have PA:Pile K HA pl sr is:=(P8.same s9).kept (F:=[dl]) (fun b hb=>by rw [zm hb];exact PL.new fdl) kA
  have KA:Kept [pl] H HA:=fun b o e nb=>kA b o (s9 _ _ (K8 b o e nb)) fun z=>by rw [zm z,fdl] at e;cases e
  refine ⟨r',ds++[dd],_,_,_,_,_,_,rfl,.snoc ft fit',fun d hd=>?_,by rw [List.length_append];show ds.length+1<=i+1;lia,gA,?_,kA _ _ (s9 _ _ g8) (fun z=>n3 (zm z).symm),by rw [List.length_append,List.length_append,llz];rfl,by rw [bj];exact OA,PA,KA,fr7,nr1',nr2'⟩
  .rcases List.mem_append.mp hd with y | y
   .exact din d y
   .rw [zm y];exact inn
  .exact Paired.snoc ((dd8.stay fun b l h=>s9 _ _ h).stay tA) ⟨q,rfl,tA _ _ (s9 _ _ hq8)⟩
 rintro σ H4 ⟨r,ds,dz,lz,m,o8,o9,o10,rfl,ft,din,lds,h4d,dd4,h4l,llz,O4,P4,K4,fr4,nr1,nr2⟩
 refine ⟨_,rfl,_,rfl,_,rfl,_,rfl,sz4,fun o ho=>?_⟩
 have s5:=ai (o:=.lst [.ref dl,.ref st,.ref ll,.int m]) ho
 have fo:H o=none:=by
  cases e:H o with
  | none=>rfl
  | some u =>
   by_cases w:o=pl
   .obtain ⟨_,_,_,_,hp4,_⟩:=P4.to
    rw [w,hp4] at ho;cases ho
   .rw [K4 _ _ e (no _ w)] at ho;cases ho
 exact k o dl ll st r td ds dz lz m _ af ft din lds (s5 _ _ h4d) (dd4.stay fun b l h=>s5 _ _ h) (O4.same s5) (P4.same s5) (K4.trans (Kept.of_same s5)) fo fdl hst htd fr4 nr1
abbrev lU:Stmt:=top 37
theorem n9:FnScope ["pile","way","slack"] ["pile"] (ao lU):=fsc fun nd=>⟨rfl,rfl,rfl,nd,rfl,zi,zi⟩
def nj (K:W.Frag):Sp:=fun vs H Q _=>∃ (pl sr:Addr) (is:List Int),vs=[.ref pl]/\Pile K H pl sr is/\∀(o:Addr) (mn cn:Nat) (z:Int) (H':Hp),H' o=some (.lst [.int mn,.int cn,.int z])->1<=mn->mn<=64->cn<=180->0<=z->Pile K H' pl sr is->Kept [pl] H H'->Q (.ref o) H'
theorem sy {f fn:Addr}{fd fdn:FuncData}(F:Fun K "_law_sizes" "_law_sizes" lU f fd)(T:Bl mg)(G_law_next:aA P w K mg base CX0 1 fn fdn ["pile","most"] (cD K))(D_law_next:Nm K mg "_law_next" fn fdn ["pile","most"]):aA P w K mg base CX0 2 f fd ["pile"] (nj K):=by
 have sc:=n9
 refine F.okQ n9 (fun vs H Q E h=>?_) (fun cdv A outer s_ H vs Q E hr h=>?_)
 .obtain ⟨pl,sr,is,rfl,_⟩:=h
  rfl
 obtain ⟨pl,sr,is,rfl,PL,k⟩:=h
 have hu:=hr.units0
 refine ⟨_,(ae (qst 1 sc.nd (qcl G_law_next hr D_law_next aD (ad (qv 0) (ad ag ah))))
  (ae (qst 2 sc.nd (au aw (aM (ad ag (ad ag (ad ag (ad ag (ad ag (ad ag (ad ag (ad (aq bp (aq cY ag ag) ag) ah))))))))) (qcl G_law_next hr D_law_next aD (ad (qv 0) (ad ag ah))) pix))
  (ae (aR (ar a8 (qv 1) ag (az _)) (aj (aB (aM (ad (aq aF ag (qcl G_law_next hr D_law_next aD (ad (qv 0) (ad ag ah)))) (ad (aq aF ag (qcl G_law_next hr D_law_next aD (ad (qv 0) (ad ag ah)))) (ad (qv 2) ah)))))) ay)
  (aj (aB (aM (ad (aq aF ag (qcl G_law_next hr D_law_next aD (ad (qv 0) (ad ag ah)))) (ad (aq aF ag (qcl G_law_next hr D_law_next aD (ad (qv 0) (ad ag ah)))) (ad (qv 2) ah))))))))),?_⟩
 refine ⟨_,rfl,pl,sr,is,8,rfl,PL,zj,zj,fun x H1 x0 x1 P1 K1 N1=>?_⟩
 refine ⟨_,_,rfl,rfl,⟨zj,zj,zj⟩,_,_,rfl,rfl,sz8,fun l1 hl1=>?_⟩
 have s2:=ai (o:=.lst [.int 0,.int 0,.int 1,.int 2,.int 5,.int 40,.int 100,.int ((10:Int) ^ (30:Int).toNat-1)]) hl1
 have g2:=af (H:=H1) (a:=l1) (o:=.lst [.int 0,.int 0,.int 1,.int 2,.int 5,.int 40,.int 100,.int ((10:Int) ^ (30:Int).toNat-1)])
 generalize upd H1 l1 (.lst [.int 0,.int 0,.int 1,.int 2,.int 5,.int 40,.int 100,.int ((10:Int) ^ (30:Int).toNat-1)])=H2 at s2 g2 ⊢
 have nl1:l1≠pl:=by
  obtain ⟨u,e⟩:=P1.there
  exact (am e hl1).symm
 refine ⟨_,rfl,pl,sr,is,8,rfl,(P1.same s2),zj,zj,fun y H3 y0 y1 P3 K3 N3=>?_⟩
 obtain ⟨v,ev,mv⟩:=cC (l:=([.int 0,.int 0,.int 1,.int 2,.int 5,.int 40,.int 100,.int ((10:Int) ^ (30:Int).toNat-1)]:List V)) (i:=y) y0 y1
 obtain ⟨z,rfl,z0⟩:∃ z:Int,v=.int z/\0<=z:=by
  simp only [List.mem_cons,List.not_mem_nil,or_false] at mv
  rcases mv with h | h | h | h | h | h | h | h <;> exact ⟨_,h,zj⟩
 refine ⟨l1,_,_,_,rfl,rfl,SqL.of (K3 _ _ g2 (fun q=>nl1 (zm q))),ev,?_⟩
 have K13:=(K1.trans (Kept.of_same s2)).trans K3
 refine ⟨_,rfl,rfl,_,rfl,aE (fun _=>?_) (fun _=>?_)⟩
 .refine ⟨_,rfl,pl,sr,is,45,rfl,P3,zj,zj,fun u H4 u0 u1 P4 K4 N4=>?_⟩
  refine ⟨_,_,rfl,rfl,_,rfl,pl,sr,is,60,rfl,P4,zj,zj,fun t H5 t0 t1 P5 K5 N5=>?_⟩
  refine ⟨_,_,rfl,rfl,_,rfl,sz3,fun o ho=>?_⟩
  have e1:(20:Int)+u=(((20+u).toNat:Nat):Int):=by lia
  have e2:(120:Int)+t=(((120+t).toNat:Nat):Int):=by lia
  have g6:=af (H:=H5) (a:=o) (o:=.lst [.int (20+u),.int (120+t),.int z])
  refine k o (20+u).toNat (120+t).toNat z _ ?_ zk zk zk z0 (P5.same (ai ho)) (((K13.trans K4).trans K5).new ho)
  rw [<-e1,<-e2]
  exact g6
 refine ⟨_,rfl,pl,sr,is,12,rfl,P3,zj,zj,fun u H4 u0 u1 P4 K4 N4=>?_⟩
 refine ⟨_,_,rfl,rfl,_,rfl,pl,sr,is,50,rfl,P4,zj,zj,fun t H5 t0 t1 P5 K5 N5=>?_⟩
 refine ⟨_,_,rfl,rfl,_,rfl,sz3,fun o ho=>?_⟩
 have e1:(1:Int)+u=(((1+u).toNat:Nat):Int):=by lia
 have e2:(5:Int)+t=(((5+t).toNat:Nat):Int):=by lia
 have g6:=af (H:=H5) (a:=o) (o:=.lst [.int (1+u),.int (5+t),.int z])
 refine k o (1+u).toNat (5+t).toNat z _ ?_ zk zk zk z0 (P5.same (ai ho)) (((K13.trans K4).trans K5).new ho)
 rw [<-e1,<-e2]
 exact g6
def _root_.L2.Deed.sh:Deed->Prop
 | .put n _=>n.length<=20
 | .drop n=>n.length<=20
 | .change n _=>n.length<=20
 | _=>True
theorem yC {nv:List V}(an:jG nv){d:Deed}(h:d.inN nv):d.sh:=by
 have q:∀n:Str,V.str n∈nv->n.length<=20:=fun n m=>by
  obtain ⟨x,e,l⟩:=an _ m
  cases e
  exact l
 cases d <;> first | exact q _ h | trivial
abbrev lG:Stmt:=bg (top 15) 7
theorem nZ:FnScope ["self"] ["self"] (ao lG):=fsc fun nd=>⟨rfl,rfl,rfl,nd,rfl,zi,zi⟩
def mS (C:Addr):Sp:=fun vs H Q _=>∃ (p d l:Addr) (s:LS),vs=[.ref p]/\LateAt C H p d l s/\Q (.int s.looks) H
theorem uq {f C:Addr}{fd:FuncData}(F:Fun K "work" "Late.work" lG f fd)(T:Bl mg)(L:LT K C):aA P w K mg base CX0 1 f fd ["self"] (mS C):=by
 have sc:=nZ
 refine F.ok nZ (fun vs H Q E h=>?_) (fun cdv A outer s H vs Q E hr h=>?_)
 .obtain ⟨p,d,l,s,rfl,_⟩:=h
  rfl
 obtain ⟨p,d,l,s,rfl,LA,kQ⟩:=h
 obtain ⟨dx,hp⟩:=LA.ob
 refine ⟨_,(QSs.to (aj (aB (bf (qv 0) rfl)))),?_⟩
 exact ⟨_,rfl,p,C,dx,_,_,rfl,hp,L.cl,L.lk,ox,kQ⟩
def xOf (CC CN:Addr):Deed->Addr
 | .put _ _=>CC
 | _=>CN
abbrev mF:Stmt:=top 20
theorem nU:FnScope ["heap","deed"] ["heap","deed"] (ao mF):=fsc fun nd=>⟨rfl,rfl,rfl,nd,rfl,zi,zi⟩
def m8 (C CC CN:Addr):Sp:=fun vs H Q E=>∃ (p d l q:Addr) (s:LS) (dd:Deed),vs=[.ref p,.ref q]/\LateAt C H p d l s/\Gm.LInv slt s/\s.stamp<=800/\H q=some (.tup dd.v)/\dd.sh /\
 (dd.fit s->∀v l' H',LateAt C H' p d l' (aL s dd).1->Kept [p,d,l] H H'->Fr3 H l l'->Q v H')/\(¬ dd.fit s->E (.ref (xOf CC CN dd)) none H)
theorem qJ {f C CC CN fput fdrop fchange ftake fleast:Addr}{fd fdput fddrop fdchange fdtake fdleast:FuncData}(F:Fun K "carry_out" "carry_out" mF f fd)(T:Bl mg)(L:LT K C)
  (Mput:bP K C "put" fput) (Gput:aA P w K mg base (CXe P w) 5 fput fdput ["self","name","worth"] (qx C CC)) (Bput:Binds K fdput ["self","name","worth"] [])
  (Mdrop:bP K C "drop" fdrop) (Gdrop:aA P w K mg base (CXe P w) 5 fdrop fddrop ["self","name"] (n0 C CN)) (Bdrop:Binds K fddrop ["self","name"] [])
  (Mchange:bP K C "change" fchange) (Gchange:aA P w K mg base (CXe P w) 5 fchange fdchange ["self","name","worth"] (iw C CN)) (Bchange:Binds K fdchange ["self","name","worth"] [])
  (Mtake:bP K C "take" ftake) (Gtake:aA P w K mg base (CXe P w) 6 ftake fdtake ["self"] (oh C CN)) (Btake:Binds K fdtake ["self"] [])
  (Mleast:bP K C "least" fleast) (Gleast:aA P w K mg base (CXe P w) 6 fleast fdleast ["self"] (j8 C CN)) (Bleast:Binds K fdleast ["self"] []) :
  aA P w K mg base (CXe P w) 7 f fd ["heap","deed"] (m8 C CC CN):=by
 have sc:=nU
 refine F.okEQ nU (fun vs H Q E h=>?_) (fun cdv A outer s_ H vs Q E hr h=>?_)
 .obtain ⟨p,d,l,q,s,dd,rfl,_⟩:=h
  rfl
 obtain ⟨p,d,l,q,s,dd,rfl,LA,LI,st,hq,shd,kQ,kE⟩:=h
 have hu:=hr.units0
 refine ⟨_,(ae (aR (ar a8 (au aJ (qv 1) ag pix) av (az _)) (aj (aB (bT (qv 0) L.cl Mput Gput hr.mo Bput .nil (bK fun _ _ z=>z) (ad (au aJ (qv 1) ag pix) (ad (au aJ (qv 1) ag pix) ah))))) ay)
  (ae (aR (ar a8 (au aJ (qv 1) ag pix) av (az _)) (aj (aB (bT (qv 0) L.cl Mdrop Gdrop hr.mo Bdrop .nil (bK fun _ _ z=>z) (ad (au aJ (qv 1) ag pix) ah)))) ay)
  (ae (aR (ar a8 (au aJ (qv 1) ag pix) av (az _)) (aj (aB (bT (qv 0) L.cl Mchange Gchange hr.mo Bchange .nil (bK fun _ _ z=>z) (ad (au aJ (qv 1) ag pix) (ad (au aJ (qv 1) ag pix) ah))))) ay)
  (ae (aR (ar a8 (au aJ (qv 1) ag pix) av (az _)) (aj (aB (br (qv 0) L.cl Mtake Gtake hr.mo Btake .nil (bK fun _ _ z=>z)))) ay)
  (aj (aB (br (qv 0) L.cl Mleast Gleast hr.mo Bleast .nil (bK fun _ _ z=>z)))))))),?_⟩
 obtain ⟨dx,hp⟩:=LA.ob
 have r1:=LI.len
 have r2:=LI.tl
 have nn:∀{n:Str},Gm.dget s.there n≠none->(Gm.dget s.there n).isSome=true:=fun {n} h=>by
  cases y:Gm.dget s.there n with
  | none=>exact absurd y h
  | some _=>rfl
 cases dd with
 | put n w =>
  refine ⟨_,rfl,q,_,_,_,rfl,rfl,SqT.of hq,rfl,rfl,_,rfl,aE (fun _=>?_) (fun c=>absurd zi c)⟩
  refine ⟨_,rfl,p,dx,_,rfl,hp,lfn,_,rfl,q,_,_,_,rfl,rfl,SqT.of hq,rfl,_,rfl,q,_,_,_,rfl,rfl,SqT.of hq,rfl,p,d,l,s,n,w,rfl,LA,zk,zk,Nat.le_trans shd zj,fun fr l' H3 L3 k3 f3=>?_,fun cs=>kE cs⟩
  refine kQ fr _ l' H3 ?_ k3 f3
  show LateAt C H3 p d l' (if (Gm.dget s.there n).isSome=true then (s,Ans.clash) else (Gm.putL slt s n w,Ans.non)).1
  rw [fr];exact L3
 | drop n =>
  refine ⟨_,rfl,q,_,_,_,rfl,rfl,SqT.of hq,rfl,rfl,_,rfl,aE (fun c=>absurd c zi) (fun _=>?_)⟩
  refine ⟨_,rfl,q,_,_,_,rfl,rfl,SqT.of hq,rfl,rfl,_,rfl,aE (fun _=>?_) (fun c=>absurd zi c)⟩
  refine ⟨_,rfl,p,dx,_,rfl,hp,lfn,_,rfl,q,_,_,_,rfl,rfl,SqT.of hq,rfl,p,d,l,s,n,rfl,LA,zk,zk,Nat.le_trans shd zj,fun fr l' H3 L3 k3 f3=>?_,fun cs=>kE fun z=>z cs⟩
  refine kQ fr _ l' H3 ?_ k3 f3
  show LateAt C H3 p d l' (if (Gm.dget s.there n).isSome=true then (Gm.dropL slt s n,Ans.non) else (s,Ans.nothing)).1
  rw [if_pos (nn fr)];exact L3
 | change n w =>
  refine ⟨_,rfl,q,_,_,_,rfl,rfl,SqT.of hq,rfl,rfl,_,rfl,aE (fun c=>absurd c zi) (fun _=>?_)⟩
  refine ⟨_,rfl,q,_,_,_,rfl,rfl,SqT.of hq,rfl,rfl,_,rfl,aE (fun c=>absurd c zi) (fun _=>?_)⟩
  refine ⟨_,rfl,q,_,_,_,rfl,rfl,SqT.of hq,rfl,rfl,_,rfl,aE (fun _=>?_) (fun c=>absurd zi c)⟩
  refine ⟨_,rfl,p,dx,_,rfl,hp,lfn,_,rfl,q,_,_,_,rfl,rfl,SqT.of hq,rfl,_,rfl,q,_,_,_,rfl,rfl,SqT.of hq,rfl,p,d,l,s,n,w,rfl,LA,zk,zk,Nat.le_trans shd zj,fun fr l' H3 L3 k3 f3=>?_,fun cs=>kE fun z=>z cs⟩
  refine kQ fr _ l' H3 ?_ k3 f3
  show LateAt C H3 p d l' (if (Gm.dget s.there n).isSome=true then (Gm.putL slt s n w,Ans.non) else (s,Ans.nothing)).1
  rw [if_pos (nn fr)];exact L3
 | take =>
  refine ⟨_,rfl,q,_,_,_,rfl,rfl,SqT.of hq,rfl,rfl,_,rfl,aE (fun c=>absurd c zi) (fun _=>?_)⟩
  refine ⟨_,rfl,q,_,_,_,rfl,rfl,SqT.of hq,rfl,rfl,_,rfl,aE (fun c=>absurd c zi) (fun _=>?_)⟩
  refine ⟨_,rfl,q,_,_,_,rfl,rfl,SqT.of hq,rfl,rfl,_,rfl,aE (fun c=>absurd c zi) (fun _=>?_)⟩
  refine ⟨_,rfl,q,_,_,_,rfl,rfl,SqT.of hq,rfl,rfl,_,rfl,aE (fun _=>?_) (fun c=>absurd zi c)⟩
  refine ⟨_,rfl,p,dx,_,rfl,hp,lfn,p,d,l,s,rfl,LA,LI,zk,fun fr q' l' H3 L3 hq3 k3 f3=>?_,fun cs=>kE fun z=>z cs⟩
  refine kQ fr _ l' H3 ?_ k3 f3
  show LateAt C H3 p d l' (if s.there=[] then (s,Ans.nothing) else (Gm.takeL slt s,Ans.pair (_root_.L2.hd s).w (_root_.L2.hd s).n)).1
  rw [if_neg fr];exact L3
 | least =>
  refine ⟨_,rfl,q,_,_,_,rfl,rfl,SqT.of hq,rfl,rfl,_,rfl,aE (fun c=>absurd c zi) (fun _=>?_)⟩
  refine ⟨_,rfl,q,_,_,_,rfl,rfl,SqT.of hq,rfl,rfl,_,rfl,aE (fun c=>absurd c zi) (fun _=>?_)⟩
  refine ⟨_,rfl,q,_,_,_,rfl,rfl,SqT.of hq,rfl,rfl,_,rfl,aE (fun c=>absurd c zi) (fun _=>?_)⟩
  refine ⟨_,rfl,q,_,_,_,rfl,rfl,SqT.of hq,rfl,rfl,_,rfl,aE (fun c=>absurd c zi) (fun _=>?_)⟩
  refine ⟨_,rfl,p,dx,_,rfl,hp,lfn,p,d,l,s,rfl,LA,LI,zk,fun fr q' H3 L3 hq3 k3=>?_,fun cs=>kE fun z=>z cs⟩
  refine kQ fr _ l H3 ?_ k3 (.inl rfl)
  show LateAt C H3 p d l (if s.there=[] then (s,Ans.nothing) else (Gm.leastL slt s,Ans.pair (_root_.L2.hd s).w (_root_.L2.hd s).n)).1
  rw [if_neg fr];exact L3
theorem rL {s t:LS}(h:Sim s t):Sim t s:=⟨h.row.symm,h.lk.symm,h.st.symm,h.sl.symm,⟨h.tw.n2,h.tw.n1,fun p=>(h.tw.mem p).symm⟩⟩
def bD:Deed->Nat
 | .put _ _=>0
 | .drop _=>1
 | .change _ _=>2
 | .take=>3
 | .least=>4
def paysK:List (Str×Int):=[("put",0),("drop",1),("change",2),("take",3),("least",4)]
theorem wG (d:Deed):∃ n more,d.v=.str n::more/\paysK.lookup n=some ((bD d:Nat):Int)/\bD d<5:=by
 cases d <;> exact ⟨_,_,rfl,rfl,by simp only [bD];decide⟩
structure LSt where
 t:LS
 p:Int
 rows:List (Int×Int)
def bL (fs:List Int)(a:LSt)(d:Deed):LSt :=
 ⟨(aL a.t d).1,a.p+fs.getD (bD d) 0-(((aL a.t d).1.looks:Int)-(a.t.looks:Int)),a.rows++[(((aL a.t d).1.looks:Int)-(a.t.looks:Int),a.p+fs.getD (bD d) 0-(((aL a.t d).1.looks:Int)-(a.t.looks:Int)))]⟩
def led (z:Int)(fs:List Int)(ds:List Deed):LSt:=ds.foldl (bL fs) ⟨Gm.newL z,0,[]⟩
theorem eV {z:Int}{fs:List Int}{ds:List Deed}{d:Deed}:led z fs (ds++[d])=bL fs (led z fs ds) d:=by unfold led;rw [List.foldl_append];rfl
theorem kL {z:Int}{fs:List Int}(ds:List Deed):(led z fs ds).t=a6 z ds:=by
 unfold led a6
 suffices h:∀(a:LSt),(ds.foldl (bL fs) a).t=ds.foldl (fun t d=>(aL t d).1) a.t from h _
 induction ds with
 | nil=>intro a;rfl
 | cons d ds ih=>intro a;exact ih _
theorem dD {z:Int}{fs:List Int}(ds:List Deed):(led z fs ds).rows.length=ds.length:=by
 unfold led
 suffices h:∀(a:LSt),(ds.foldl (bL fs) a).rows.length=a.rows.length+ds.length by
  have:=h ⟨Gm.newL z,0,[]⟩
  rw [this];exact Nat.zero_add _
 induction ds with
 | nil=>intro a;rfl
 | cons d ds ih =>
  intro a
  rw [List.foldl_cons,ih,List.length_cons]
  show (a.rows++[_]).length+_=_
  rw [List.length_append]
  show a.rows.length+1+_=_
  lia
structure LedAt (H:Hp)(zs dz:List V)(rows:List (Int×Int)):Prop where
 len:zs.length=rows.length
 at_:∀(i:Nat) (v x:V) (r:Int×Int),zs[i]?=some v->dz[i]?=some x->rows[i]?=some r->∃ a:Addr,v=.ref a/\H a=some (.tup [x,.int r.1,.int r.2])
theorem LedAt.nil {H:Hp}{dz:List V}:LedAt H [] dz []:=⟨rfl,fun i v x r e=>by cases e⟩
theorem LedAt.stay {H H':Hp}{zs dz:List V}{rows:List (Int×Int)}(h:LedAt H zs dz rows)(k:∀b l,H b=some (.tup l)->H' b=some (.tup l)):LedAt H' zs dz rows:=⟨h.len,fun i v x r e1 e2 e3=>by
 obtain ⟨a,e,ha⟩:=h.at_ i v x r e1 e2 e3
 exact ⟨a,e,k _ _ ha⟩⟩
theorem LedAt.snoc {H:Hp}{zs dz:List V}{rows:List (Int×Int)}{x:V}{r:Int×Int}{a:Addr}(h:LedAt H zs dz rows)(hx:dz[zs.length]?=some x)(ha:H a=some (.tup [x,.int r.1,.int r.2])):LedAt H (zs++[.ref a]) dz (rows++[r]):=by
 refine ⟨by rw [List.length_append,List.length_append,h.len];rfl,fun i v y q e1 e2 e3=>?_⟩
 by_cases z:i<zs.length
 .rw [List.getElem?_append_left z] at e1
  rw [List.getElem?_append_left (by rw [<-h.len];exact z)] at e3
  exact h.at_ i v y q e1 e2 e3
 have lk:=(List.getElem?_eq_some_iff.mp e1).1
 rw [List.length_append] at lk
 have h1:([V.ref a]:List V).length=1:=rfl
 have ek:i=zs.length:=by lia
 subst ek
 rw [List.getElem?_append_right (Nat.le_refl _),Nat.sub_self] at e1
 rw [h.len,List.getElem?_append_right (Nat.le_refl _),Nat.sub_self] at e3
 rw [hx] at e2
 cases e1
 cases e2
 cases e3
 exact ⟨a,rfl,ha⟩
def su (H:Hp)(a:Addr)(xs:List V):Prop:=H a=some (.lst xs)∨H a=some (.tup xs)
theorem tI {K:PySem.W.Frag}{a:Addr}{xs:List V}{g:TG}{tb:TS}{D:eZ}{σ:St}{H:Hp}(ha:su H a xs)(Pv:Nat->St->Hp->Prop)(h0:Pv 0 σ H)(kp:∀i σ' H',Pv i σ' H'->∀o,H a=some o->H' a=some o)
  (hs:∀i x σ H,xs[i]?=some x->Pv i σ H->g x σ H fun σ2 H2=>tb { D with nx:=Pv (i+1),ct:=Pv (i+1),bk:=D.nx } σ2 H2) (hd:∀σ H,Pv xs.length σ H->D.nx σ H) :
  ((∃ xs,SqL K H a xs)/\∃ W:Nat->Nat->St->Hp->Prop,(∃ m,W 0 m σ H)/\∀i m σ H,W i m σ H ->
   ((Itl K a).stop i H/\D.nx σ H)∨((Itl K a).go i H/\∃ N:St->Hp->Prop,(∀σ' H',N σ' H'->∃ m',m'<m/\W (i+1) m' σ' H')/\∀x H',(Itl K a).yld i H x H'->g x σ H' fun σ2 H2=>tb { D with nx:=N,ct:=N,bk:=D.nx } σ2 H2)) ∨
  ((∃ xs,SqT K H a xs)/\∃ W:Nat->Nat->St->Hp->Prop,(∃ m,W 0 m σ H)/\∀i m σ H,W i m σ H ->
   ((Itt K a).stop i H/\D.nx σ H)∨((Itt K a).go i H/\∃ N:St->Hp->Prop,(∀σ' H',N σ' H'->∃ m',m'<m/\W (i+1) m' σ' H')/\∀x H',(Itt K a).yld i H x H'->g x σ H' fun σ2 H2=>tb { D with nx:=N,ct:=N,bk:=D.nx } σ2 H2)):=by
 rcases ha with h | h
 .exact .inl ⟨⟨_,SqL.of h⟩,cX Pv h0 (fun i σ' H' _ p=>SqL.of (kp i σ' H' p _ h)) hs hd⟩
 exact .inr ⟨⟨_,SqT.of h⟩,uE Pv h0 (fun i σ' H' _ p=>SqT.of (kp i σ' H' p _ h)) hs hd⟩
abbrev gX:Stmt:=top 19
theorem iz:FnScope ["deeds","slack","tariff","heap","purse","lines","deed","before","work"] ["deeds","slack","tariff"] (ao gX):=fsc fun nd=>⟨rfl,rfl,rfl,nd,rfl,zi,zi⟩
def yg (z:Int)(ds:List Deed)(A:Prop)(B:Deed->Prop):Prop:=(Fits z ds/\A)∨∃ as b cs,ds=as++b::cs/\Fits z as/\¬ b.fit (bu z as)/\B b
def iJ (C CC CN:Addr):Sp:=fun vs H Q E=>∃ (dl fl:Addr) (dz:List V) (ds:List Deed) (fs:List Int) (z:Int),vs=[.ref dl,.int z,.ref fl]/\su H dl dz/\DDs H dz ds/\(∀x∈ds,x.sh)/\ds.length<=700/\H fl=some (.tup (fs.map V.int))/\fs.length=5 /\
 yg z ds (∀q zs H',H' q=some (.tup zs)->LedAt H' zs dz (led z fs ds).rows->Same H H'->Q (.ref q) H') (fun b=>∀H',Same H H'->E (.ref (xOf CC CN b)) none H')
theorem kN {f C CC CN dP fI fc fwork:Addr}{fd fdI fdc fdwork:FuncData}(F:Fun K "written" "written" gX f fd)(T:Bl mg)(L:LT K C)(mPAYS:mg "PAYS"=some (.ref dP))(SP:p9 w K dP paysK)(mLate:mg "Late"=some (.ref C))(MkLate:Mk K C fI)(GLate__init__:aA P w K mg base CX0 2 fI fdI ["self","slack"] (n8 C))(BLate__init__:Binds K fdI ["self","slack"] [])
  (Mwork:bP K C "work" fwork) (Gwork:aA P w K mg base CX0 1 fwork fdwork ["self"] (mS C)) (Bwork:Binds K fdwork ["self"] [])
  (Gcarry_out:aA P w K mg base (CXe P w) 7 fc fdc ["heap","deed"] (m8 C CC CN)) (Dcarry_out:Nm K mg "carry_out" fc fdc ["heap","deed"]) :
  aA P w K mg base (CXe P w) 8 f fd ["deeds","slack","tariff"] (iJ C CC CN):=by
 have sc:=iz
 refine F.okEQ iz (fun vs H Q E h=>?_) (fun cdv A outer s_ H vs Q E hr h=>?_)
 .obtain ⟨dl,fl,dz,ds,fs,z,rfl,_⟩:=h
  rfl
 obtain ⟨dl,fl,dz,ds,fs,z,rfl,hdl,dd0,sh,lds,hfl,lfs,md⟩:=h
 have hu:=hr.units0
 have ldz:dz.length=ds.length:=Paired.length dd0
 refine ⟨_,(ae (qst 3 sc.nd (tG MkLate GLate__init__ hr.mo rfl mLate BLate__init__ .nil aD (ad (qv 1) ah)))
  (ae (qst 4 sc.nd ag)
  (ae (qst 5 sc.nd (aM ah))
  (ae (ce wL rfl (wP (qv 0)) (aQ (i:=6) sc.nd rfl (Or.inl rfl)) (ae (qst 7 sc.nd (br (qv 3) L.cl Mwork Gwork hr.mo Bwork .nil aD))
  (ae (aK (qcl Gcarry_out hr Dcarry_out (bK fun _ _ z=>z) (ad (qv 3) (ad (qv 6) ah))))
  (ae (qst 8 sc.nd (aq bp (br (qv 3) L.cl Mwork Gwork hr.mo Bwork .nil aD) (qv 7)))
  (ae (qst 4 sc.nd (aq bp (aq aF (qv 4) (au aJ (qv 2) (ut SP (oJ (v:=.ref dP) rfl mPAYS rfl) (au aJ (qv 6) ag pix) pix) pix)) (qv 8)))
  (aj (aK (bJ PySem.F.plainAttrs_list PySem.F.slot_list_append PySem.F.type_list_append aY (qv 5) (ad (aI (ad (qv 6) (ad (qv 8) (ad (qv 4) ah)))) ah)))))))))
  (aj (aB (qcT bZ T.z_tuple (ad (qv 5) ah)))))))),?_⟩
 refine ⟨_,rfl,fun p dx hp hdx ndx=>?_⟩
 refine ⟨p,dx,z,rfl,af,fun d l H1 hd0 hl0 LA1 k1=>⟨rfl,?_⟩⟩
 have fr:∀b o,H b=some o->(upd (upd H dx (.own p)) p (.ins C dx [])) b=some o:=fun b o e=>by rw [ak (am e hp),ak (am e hdx)];exact e
 have s1:Same H H1:=fun b o e=>k1 b o (fr b o e) (fun z=>am e hp (zm z))
 have nd:H d=none:=by
  cases e:H d with
  | none=>rfl
  | some o=>rw [fr _ _ e] at hd0;cases hd0
 have nl:H l=none:=by
  cases e:H l with
  | none=>rfl
  | some o=>rw [fr _ _ e] at hl0;cases hl0
 refine ⟨sz0,fun tl htl=>?_⟩
 have s2:=ai (o:=.lst []) htl
 have g2:=af (H:=H1) (a:=tl) (o:=.lst [])
 have LA2:=LA1.same s2
 have ntl:H tl=none:=by
  cases e:H tl with
  | none=>rfl
  | some o=>rw [s1 _ _ e] at htl;cases htl
 have ntl2:tl≠l:=by
  obtain ⟨_,e,_⟩:=LA1.ls
  exact fun q=>by rw [q,e] at htl;cases htl
 replace s1:=s1.trans s2
 generalize upd H1 tl (.lst [])=H2 at s2 g2 LA2 s1 ⊢
 have sq2:su H2 dl dz:=hdl.imp (s1 _ _) (s1 _ _)
 refine ⟨_,rfl,dl,rfl,tI sq2 (fun i σ H3=>∃ (l3:Addr) (zs:List V) (o6 o7 o8:Option V),σ=[some (.ref dl),some (.int z),some (.ref fl),some (.ref p),some (.int (led z fs (ds.take i)).p),some (.ref tl),o6,o7,o8]/\Fits z (ds.take i)/\LateAt C H3 p d l3 (a6 z (ds.take i))/\H3 tl=some (.lst zs)/\LedAt H3 zs dz (led z fs (ds.take i)).rows/\Same H H3/\H l3=none/\tl≠l3)
  ⟨l,[],none,none,none,rfl,.nil,LA2,g2,LedAt.nil,s1,nl,ntl2⟩ (fun i σ' H' ⟨_,_,_,_,_,_,_,_,_,_,z,_⟩ o e=>?_) ?_ ?_⟩
 .rcases hdl with h | h
  .rw [s1 _ _ h] at e;cases e;exact z _ _ h
  .rw [s1 _ _ h] at e;cases e;exact z _ _ h
 .rintro i x σ H3 hx ⟨l3,zs,o6,o7,o8,rfl,ft,LA3,h3,led3,s3,nl3,ntl3⟩
  obtain ⟨de,ede,q,rfl,hq0⟩:=cj dd0 hx
  have hi:i<ds.length:=(List.getElem?_eq_some_iff.mp ede).1
  have et:ds.take (i+1)=ds.take i++[de]:=by rw [List.take_add_one,ede];rfl
  have sim:=ft.sim
  have IL:=ft.invL
  have st:=ft.stamp
  rw [sim.st] at st
  have lti:(ds.take i).length<=i:=List.length_take_le _ _
  have shd:=sh de (List.mem_of_getElem? ede)
  have hq:=s3 _ _ hq0
  obtain ⟨dx3,hp3⟩:=LA3.ob
  refine ⟨_,rfl,p,dx3,_,rfl,hp3,lfn,p,d,l3,_,rfl,LA3,?_⟩
  refine ⟨_,rfl,_,rfl,p,d,l3,q,_,de,rfl,LA3,IL,zk,hq,shd,fun fit v l4 H4 LA4 k4 f4=>?_,fun nf=>?_⟩
  .have Lt:(led z fs (ds.take i)).t=a6 z (ds.take i):=kL _
   have fitS:de.fit (bu z (ds.take i)):=by
    exact (rL sim).fit fit
   have ft':Fits z (ds.take (i+1)):=by rw [et];exact ft.snoc fitS
   have eL:led z fs (ds.take (i+1))=bL fs (led z fs (ds.take i)) de:=by rw [et,eV]
   have eR:a6 z (ds.take (i+1))=(aL (a6 z (ds.take i)) de).1:=by rw [et,cH]
   have s4:Same H H4:=fun b o e=>k4 b o (s3 b o e) fun zz=>by
    simp only [List.mem_cons,List.not_mem_nil,or_false] at zz
    rcases zz with y | y | y
    .rw [y,hp] at e;cases e
    .rw [y,nd] at e;cases e
    .rw [y,nl3] at e;cases e
   have nin:tl∉[p,d,l3]:=fun zz=>by
    simp only [List.mem_cons,List.not_mem_nil,or_false] at zz
    obtain ⟨_,hd3,_⟩:=LA3.dc
    rcases zz with y | y | y
    .rw [y,hp3] at h3;cases h3
    .rw [y,hd3] at h3;cases h3
    .exact ntl3 y
   have h4:=k4 _ _ h3 nin
   have tk:∀b l,H3 b=some (.tup l)->H4 b=some (.tup l):=k4.tups LA3.notup
   have led4:=led3.stay tk
   have hq4:=tk _ _ hq
   have hfl4:=s4 _ _ hfl
   have nl4:H l4=none:=by
    rcases f4 with y | y
    .rw [y];exact nl3
    .cases e:H l4 with
     | none=>rfl
     | some o=>rw [s3 _ _ e] at y;cases y
   have ntl4:tl≠l4:=by
    rcases f4 with y | y
    .rw [y];exact ntl3
    .exact fun zz=>by rw [<-zz,h3] at y;cases y
   obtain ⟨dx4,hp4⟩:=LA4.ob
   refine ⟨_,rfl,p,dx4,_,rfl,hp4,lfn,p,d,l4,_,rfl,LA4,_,rfl,_,_,rfl,rfl,?_⟩
   obtain ⟨n,more,ev,lk,l5⟩:=wG de
   rw [ev] at hq4
   have efs:(fs.map V.int)[bD de]?=some (.int (fs.getD (bD de) 0)):=by
    rw [List.getElem?_map,List.getD_eq_getElem?_getD,List.getElem?_eq_getElem zk];rfl
   refine ⟨_,rfl,_,rfl,_,rfl,q,_,_,_,rfl,rfl,SqT.of hq4,(by exact aU (j:=0) rfl),n,_,rfl,rfl,lk,fl,_,_,_,rfl,rfl,SqT.of hfl4,aU efs,_,_,rfl,rfl,_,rfl,_,_,rfl,rfl,?_⟩
   have lzs:zs.length=i:=by rw [led4.len,dD,List.length_take];lia
   refine ⟨_,rfl,.inl ⟨rfl,_,SqL.of h4⟩,_,rfl,_,rfl,_,rfl,sz3,fun a ha=>?_⟩
   have s5:=ai (o:=.tup [.ref q,.int (((aL (a6 z (ds.take i)) de).1.looks:Int)-((a6 z (ds.take i)).looks:Int)),.int ((led z fs (ds.take i)).p+fs.getD (bD de) 0-(((aL (a6 z (ds.take i)) de).1.looks:Int)-((a6 z (ds.take i)).looks:Int)))]) ha
   refine ⟨tl,_,_,rfl,rfl,s5 _ _ h4,aH zk,?_⟩
   have tk6:∀(H5:Hp) b l,H5 tl=some (.lst zs)->H5 b=some (.tup l)->(upd H5 tl (.lst (zs++[.ref a]))) b=some (.tup l):=fun H5 b l e1 e2=>by rw [ak (bA e2 e1 (by intro y;cases y))];exact e2
   refine ⟨l4,zs++[.ref a],some (.ref q),some (.int ((a6 z (ds.take i)).looks:Int)),some (.int (((aL (a6 z (ds.take i)) de).1.looks:Int)-((a6 z (ds.take i)).looks:Int))),?_,ft',?_,af,?_,fun b o e=>?_,nl4,ntl4⟩
   .rw [eL];unfold bL;rw [Lt];rfl
   .rw [eR]
    refine (LA4.same s5).stay (fun b o hb e=>?_) (fun b l e=>tk6 _ b l (s5 _ _ h4) e)
    rw [ak (fun y=>?_)]
    .exact e
    .obtain ⟨_,hd4,_⟩:=LA4.dc
     rcases hb with w | w | w
     .rw [<-y,w,hp4] at h4;cases h4
     .rw [<-y,w,hd4] at h4;cases h4
     .exact ntl4 (y.symm.trans w)
   .rw [eL];unfold bL;rw [Lt]
    exact ((led4.stay fun b l e=>s5 b _ e).snoc (by rw [lzs];exact hx) af).stay (fun b l e=>tk6 _ b l (s5 _ _ h4) e)
   .rw [ak (am e ntl)]
    exact s5 _ _ (s4 b o e)
  .rcases md with ⟨fa,_⟩ | ⟨as,b,cs,rfl,fa,nb,kE⟩
   .exact absurd (sim.fit (fa.at ede).2) nf
   .have ei:i=as.length:=by
     rcases Nat.lt_trichotomy i as.length with y | y | y
     .rw [List.getElem?_append_left y] at ede
      have f:=(fa.at ede).2
      rw [List.take_append_of_le_length (Nat.le_of_lt y)] at sim nf
      exact absurd (sim.fit f) nf
     .exact y
     .have eb:((as++b::cs).take i)[as.length]?=some b:=by
       rw [List.getElem?_take,if_pos y,List.getElem?_append_right (Nat.le_refl _),Nat.sub_self];rfl
      have f:=(ft.at eb).2
      rw [List.take_take,Nat.min_eq_left (Nat.le_of_lt y),List.take_left] at f
      exact absurd f nb
    subst ei
    rw [List.getElem?_append_right (Nat.le_refl _),Nat.sub_self] at ede
    have eb:b=de:=Option.some.inj ede
    rw [<-eb]
    exact kE _ s3
 rintro σ H3 ⟨l3,zs,o6,o7,o8,rfl,ft,LA3,h3,led3,s3,nl3,ntl3⟩
 rw [ldz,List.take_length] at ft led3
 rcases md with ⟨_,k⟩ | ⟨as,b,cs,rfl,fa,nf,_⟩
 .refine ⟨_,rfl,tl,_,rfl,.inl ⟨SqL.of h3,fun q hq=>?_⟩⟩
  have s4:=ai (o:=.tup zs) hq
  exact k q zs _ af (led3.stay fun b l e=>s4 b _ e) (s3.trans s4)
 have:=(ft.at (i:=as.length) (d:=b) (by rw [List.getElem?_append_right (Nat.le_refl _),Nat.sub_self];rfl)).2
 rw [List.take_left] at this
 exact absurd this nf
theorem gz {H:Hp}{zs:List V}{ds:List Deed}(h:DDs H zs ds){v:V}{d:Deed}(k:∃ a,v=.ref a/\H a=some (.tup d.v)):DDs H (zs++[v]) (ds++[d]):=by
 induction h with
 | nil=>exact .cons k .nil
 | cons r _ ih=>exact .cons r ih
theorem u7 {H:Hp}{zs zs':List V}{ds ds':List Deed}(h:DDs H zs ds)(h':DDs H zs' ds'):DDs H (zs++zs') (ds++ds'):=by
 induction h with
 | nil=>exact h'
 | cons r _ ih=>exact .cons r ih
def Wn (ns:List Str)(B:Nat)(wy:Int)(j:Nat)(ds:List Deed):Prop :=
 (wy=0/\(∀z,Has z ds ns)/\ds.length<=B+j)∨(wy=1/\(∀z,Has z ds (ns.drop j))/\ds.length<=B+j)∨(wy=2/\(∀z,Has z ds ns)/\ds.length<=B+2*j) ∨
 (wy=3/\(∀z,∃ S,Has z ds S/\S.length=ns.length-j/\S.Nodup)/\ds.length<=B+j)
abbrev j7:Stmt:=top 38
theorem sP:FnScope ["pile","names","deeds","turn","way","name"] ["pile","names"] (ao j7):=fsc fun nd=>⟨rfl,rfl,rfl,nd,rfl,zi,zi⟩
def sQ (K:W.Frag):Sp:=fun vs H Q _=>∃ (pl sr:Addr) (is:List Int) (nl:Addr) (ns:List Str),vs=[.ref pl,.ref nl]/\Pile K H pl sr is/\H nl=some (.lst (ns.map V.str))/\ns.Nodup/\ns.length<=200/\nl≠pl /\
 ∀(dl:Addr) (dz:List V) (ds:List Deed) (H':Hp),H' dl=some (.lst dz)->DDs H' dz ds->(∀z,Fits z ds)->(∀d∈ds,d.inN (ns.map V.str))->ds.length<=3000->Pile K H' pl sr is->Kept [pl] H H'->Q (.ref dl) H'
theorem uB {f fn fw_:Addr}{fd fdn fdw:FuncData}(F:Fun K "_law_worn" "_law_worn" j7 f fd)(T:Bl mg)(G_law_next:aA P w K mg base CX0 1 fn fdn ["pile","most"] (cD K))(D_law_next:Nm K mg "_law_next" fn fdn ["pile","most"])
  (G_law_worth:aA P w K mg base CX0 2 fw_ fdw ["pile"] (gM K)) (D_law_worth:Nm K mg "_law_worth" fw_ fdw ["pile"]):aA P w K mg base CX0 3 f fd ["pile","names"] (sQ K):=by
 have sc:=sP
 refine F.okQ sP (fun vs H Q E h=>?_) (fun cdv A outer s_ H vs Q E hr h=>?_)
 .obtain ⟨pl,sr,is,nl,ns,rfl,_⟩:=h
  rfl
 obtain ⟨pl,sr,is,nl,ns,rfl,PL,hnl,nd,ln,nnp,k⟩:=h
 have hu:=hr.units0
 refine ⟨_,(ae (cT (i:=2) sc.nd rfl (Or.inl rfl) (Blk.of (N:=["pile","names","deeds","turn","way","name"]) (esc:=ao j7) (NB:=["pile"]) (cap:=[0]) rfl rfl (fun y hy=>bo hy) rfl zi zi zi rfl zi rfl zi) rfl rfl (bS (qv 1)) (fun C fp s₀ H₀=>cg) (fun C fp s₀ H₀=>(aI (ad av (ad (qv 0) (ad (qcl G_law_worth hr D_law_worth aD (ad (qv 1) ah)) ah))))))
  (ae (ce PassesOwn.never rfl (bX rfl T.z_range (ad (aq aF ag (qcl G_law_next hr D_law_next aD (ad (qv 0) (ad ag ah)))) ah)) (aQ (i:=3) sc.nd rfl (Or.inl rfl)) (ae (qst 4 sc.nd (qcl G_law_next hr D_law_next aD (ad (qv 0) (ad ag ah))))
  (ae (ce PassesOwn.never rfl (bS (qv 1)) (aQ (i:=5) sc.nd rfl (Or.inl rfl)) (ae (aR (ar a8 (qv 4) ag (az _)) (aj (aK (bJ PySem.F.plainAttrs_list PySem.F.slot_list_append PySem.F.type_list_append aY (qv 2) (ad (aI (ad av (ad (qv 5) (ad (qcl G_law_worth hr D_law_worth aD (ad (qv 0) ah)) ah)))) ah)))) ay)
  (ae (aR (ar a8 (qv 4) ag (az _)) (aj (aK (bJ PySem.F.plainAttrs_list PySem.F.slot_list_append PySem.F.type_list_append aY (qv 2) (ad (aI (ad av (ad (qv 5) ah))) ah)))) ay)
  (ae (aR (ar a8 (qv 4) ag (az _)) (ae (aK (bJ PySem.F.plainAttrs_list PySem.F.slot_list_append PySem.F.type_list_append aY (qv 2) (ad (aI (ad av (ad (qv 5) (ad (aq aF (aq cY ag ag) (qv 3)) ah)))) ah)))
  (aj (aK (bJ PySem.F.plainAttrs_list PySem.F.slot_list_append PySem.F.type_list_append aY (qv 2) (ad (aI (ad av ah)) ah))))) ay)
  (aj (aR (ar a8 (qv 4) ag (az _)) (aj (aK (bJ PySem.F.plainAttrs_list PySem.F.slot_list_append PySem.F.type_list_append aY (qv 2) (ad (aI (ad av ah)) ah)))) ay))))))
  (aj (aR (oH (QW.pt (nJ (ar a8 (qv 4) ag (az _)) (kO (ar a8 (qv 4) ag (az _)))))) (aj (qst 2 sc.nd (aq jv (qv 2) (cu (Blk.of (N:=["pile","names","deeds","turn","way","name"]) (esc:=ao j7) (NB:=["pile"]) (cap:=[0]) rfl rfl (fun y hy=>bo hy) rfl zi zi zi rfl zi rfl zi) rfl rfl (bS (qv 1)) (fun C fp s₀ H₀=>cg) (fun C fp s₀ H₀=>(aI (ad av (ad (qv 0) (ad (qcl G_law_worth hr D_law_worth aD (ad (qv 1) ah)) ah))))))))) ay)))))
  (aj (aB (qv 2))))),?_⟩
 have no:∀b,b≠pl->b∉[pl]:=fun b n z=>n (zm z)
 have lm:(ns.map V.str).length=ns.length:=List.length_map ..
 refine ⟨_,rfl,nl,rfl,⟨_,SqL.of hnl⟩,fun D hD=>?_⟩
 have offD:=PL.new hD
 refine bW (K:=K) (a:=nl) (xs:=ns.map V.str) (fun i ys H8=>∃ ds':List Deed,DDs H8 ys ds'/\(∀z,Has z ([]++ds') (ns.take i))/\(∀x∈ds',x.inN (ns.map V.str))/\ds'.length=i/\H8 D=some (.lst ys)/\Pile K H8 pl sr is/\Kept [pl] H H8) ⟨[],.nil,(fun z=>by rw [List.append_nil];exact (fun _=>Has.nil) z),(fun _ h=>nomatch h),rfl,af,PL.same (ai hD),Kept.of_same (ai hD)⟩ (fun i ys H8 h'=>by obtain ⟨_,_,_,_,_,z,_,kz⟩:=h';exact ⟨z,SqL.of (kz _ _ hnl (no nl nnp))⟩) ?_ ?_
 .rintro i x ys H8 hx ⟨ds',dd8,has8,in8,ld8,h8,P8,K8⟩
  unfold gS
  dsimp only
  rw [if_pos rfl]
  rw [List.getElem?_map] at hx
  cases en:ns[i]? with
  | none=>rw [en] at hx;cases hx
  | some n =>
   rw [en] at hx
   cases hx
   obtain ⟨hi,hin⟩:=List.getElem?_eq_some_iff.mp en
   refine ⟨_,rfl,_,rfl,pl,sr,is,rfl,P8,fun w H9 P9 K9=>?_⟩
   refine ⟨sz3,fun a ha=>?_⟩
   have s10:=ai (o:=.tup [.str "put",.str n,.int w]) ha
   have h10:=s10 _ _ (K9 _ _ h8 (no D offD.1))
   have lys:ys.length=i:=by rw [Paired.length dd8];exact ld8
   have tk:∀b l,H8 b=some (.tup l)->(upd H9 a (.tup [.str "put",.str n,.int w])) b=some (.tup l):=fun b l e=>s10 _ _ (K9 _ _ e (no b (df P8 e (fun _ z=>nomatch z))))
   refine ⟨h10,Nat.lt_of_le_of_lt (show ys.length<=1000 by lia) zj,_,zk,rfl,zk,ds'++[.put n w],?_,fun z=>?_,fun x hx=>?_,by rw [List.length_append,ld8];rfl,af,?_,?_⟩
   .refine DDs.stay (gz (d:=.put n w) (dd8.stay tk) ⟨a,rfl,af⟩) fun b l e=>?_
    rw [ak (bA e h10 (by intro y;cases y))];exact e
   .rw [<-List.append_assoc,List.take_add_one,en]
    refine (has8 z).put fun hm=>?_
    obtain ⟨j,hj,ej⟩:=List.mem_take_iff_getElem.mp hm
    have:=(List.getElem_inj (h₀:=by lia) (h₁:=hi) nd).mp (ej.trans hin.symm)
    lia
   .rcases List.mem_append.mp hx with hx | hx
    .exact in8 x hx
    .rw [zm hx]
     exact List.mem_map.mpr ⟨n,List.mem_of_getElem? en,rfl⟩
   .exact (P9.same s10).kept (F:=[D]) (fun b hb=>by rw [zm hb];exact offD) (Kept.refl.put zl)
   .exact ((K8.trans K9).trans (Kept.of_same s10)).newer hD
 rintro ys H1 ⟨ds1,dd1,has1,in1,ld1,h1,P1,K1⟩
 rw [lm] at has1 ld1
 rw [List.take_length] at has1
 have hD1:=h1
 have has0:∀z,Has z ds1 ns:=has1
 refine ⟨_,rfl,pl,sr,is,4,rfl,P1,zj,zj,fun tn H2 t0 t1 P2 K2 N2=>⟨_,_,rfl,rfl,_,rfl,zk,zk,?_⟩⟩
 have K02:=K1.trans K2
 refine dB (lo:=0) (n:=((1:Int)+tn).toNat) (fun i σ H3=>∃ (dl:Addr) (dz:List V) (ds:List Deed) (o3 o4 o5:Option V),σ=[some (.ref pl),some (.ref nl),some (.ref dl),o3,o4,o5]/\H3 dl=some (.lst dz)/\DDs H3 dz ds/\(∀z,Has z ds ns)/\(∀d∈ds,d.inN (ns.map V.str))/\ds.length<=200+400*i/\Pile K H3 pl sr is/\Kept [pl] H H3/\H dl=none/\(dl≠pl/\Off K sr (is.map V.int) dl))
  ⟨D,ys,ds1,none,none,none,rfl,K2 _ _ h1 (no D offD.1),DDs.stay dd1 (fun b l e=>K2 _ _ e (no b (df P1 e (fun _ z=>nomatch z)))),has0,in1,zk,P2,K02,hD,offD⟩ ?_ ?_
 .rintro i σ H3 hi ⟨dl,dz,ds,o3,o4,o5,rfl,h3,dd3,has3,in3,ld3,P3,K3,fdl,offd⟩
  have hi4:i<4:=by lia
  refine ⟨_,rfl,pl,sr,is,4,rfl,P3,zj,zj,fun wy H4 w0 w1 P4 K4 N4=>?_⟩
  have hnl4:=(K3.trans K4) _ _ hnl (no nl nnp)
  refine ⟨_,rfl,nl,rfl,⟨_,SqL.of hnl4⟩,?_⟩
  have dd4:DDs H4 dz ds:=DDs.stay dd3 (fun b l e=>K4 _ _ e (no b (df P3 e (fun _ z=>nomatch z))))
  have h4:=K4 _ _ h3 (no dl offd.1)
  have st0:Wn ns (200+400*i) wy 0 ds:=by
   have:wy=0∨wy=1∨wy=2∨wy=3:=by lia
   rcases this with y | y | y | y
   .exact .inl ⟨y,has3,zk⟩
   .exact .inr (.inl ⟨y,has3,zk⟩)
   .exact .inr (.inr (.inl ⟨y,has3,zk⟩))
   .exact .inr (.inr (.inr ⟨y,fun z=>⟨ns,has3 z,zk,nd⟩,zk⟩))
  refine cX (K:=K) (a:=nl) (xs:=ns.map V.str) (fun j σ H5=>∃ (dz:List V) (ds:List Deed) (o5:Option V),σ=[some (.ref pl),some (.ref nl),some (.ref dl),some (.int (0+(i:Int))),some (.int wy),o5]/\H5 dl=some (.lst dz)/\DDs H5 dz ds/\Wn ns (200+400*i) wy j ds/\(∀d∈ds,d.inN (ns.map V.str))/\Pile K H5 pl sr is/\Kept [pl] H H5)
   ⟨dz,ds,o5,rfl,h4,dd4,st0,in3,P4,K3.trans K4⟩ (fun j σ H5 _ h'=>by obtain ⟨_,_,_,_,_,_,_,_,_,z⟩:=h';exact SqL.of (z _ _ hnl (no nl nnp))) ?_ ?_
  .rintro j x σ H5 hx ⟨dz5,ds5,o55,rfl,h5,dd5,wn5,in5,P5,K5⟩
   rw [List.getElem?_map] at hx
   cases en:ns[j]? with
   | none=>rw [en] at hx;cases hx
   | some n =>
    rw [en] at hx
    cases hx
    obtain ⟨hj,hjn⟩:=List.getElem?_eq_some_iff.mp en
    have hin:n∈ns:=List.mem_of_getElem? en
    have nin:V.str n∈ns.map V.str:=List.mem_map.mpr ⟨n,hin,rfl⟩
    have nne:ns≠[]:=fun z=>by rw [z] at hin;cases hin
    have app:∀{H6:Hp} {dz:List V} {ds:List Deed} {a:Addr} {d:Deed},H6 dl=some (.lst dz)->DDs H6 dz ds->Pile K H6 pl sr is->Kept [pl] H H6->H6 a=none ->
      (upd H6 a (.tup d.v)) dl=some (.lst dz)/\(upd (upd H6 a (.tup d.v)) dl (.lst (dz++[.ref a]))) dl=some (.lst (dz++[.ref a]))/\DDs (upd (upd H6 a (.tup d.v)) dl (.lst (dz++[.ref a]))) (dz++[.ref a]) (ds++[d])/\Pile K (upd (upd H6 a (.tup d.v)) dl (.lst (dz++[.ref a]))) pl sr is/\Kept [pl] H (upd (upd H6 a (.tup d.v)) dl (.lst (dz++[.ref a]))):=by
     intro H6 dz ds a d h6 dd6 P6 K6 ha
     have s7:=ai (o:=.tup d.v) ha
     have h7:=s7 _ _ h6
     refine ⟨h7,af,DDs.stay (gz (d:=d) (DDs.stay dd6 fun b l e=>s7 b _ e) ⟨a,rfl,af⟩) (fun b l e=>?_),(P6.same s7).kept (F:=[dl]) (fun b hb=>by rw [zm hb];exact offd) (Kept.refl.put zl),(K6.trans (Kept.of_same s7)).newer fdl⟩
     rw [ak (bA e h7 (by intro y;cases y))];exact e
    have addn:∀{d:Deed},d.inN (ns.map V.str)->∀x∈ds5++[d],x.inN (ns.map V.str):=fun {d} hd x hx=>by
     rcases List.mem_append.mp hx with hx | hx
     .exact in5 x hx
     .rw [zm hx];exact hd
    have l5:dz5.length=ds5.length:=Paired.length dd5
    have sml:ds5.length<=3000->∀m,m<=1->dz5.length+m<sizeLine:=fun h m hm=>Nat.lt_of_le_of_lt (show dz5.length+m<=3001 by lia) zj
    rcases wn5 with ⟨rfl,hs5,ln5⟩ | ⟨rfl,hs5,ln5⟩ | ⟨rfl,hs5,ln5⟩ | ⟨rfl,hs5,ln5⟩
    .refine ⟨_,rfl,rfl,_,rfl,aE (fun _=>?_) (fun c=>absurd rfl c)⟩
     refine ⟨_,rfl,.inl ⟨rfl,_,SqL.of h5⟩,_,rfl,_,rfl,pl,sr,is,rfl,P5,fun w H6 P6 K6=>?_⟩
     refine ⟨sz3,fun a ha=>?_⟩
     obtain ⟨h7,g7,dd7,P7,K7⟩:=app (d:=.change n w) (K6 _ _ h5 (no dl offd.1)) (DDs.stay dd5 (fun b l e=>K6 _ _ e (no b (df P5 e (fun _ z=>nomatch z))))) P6 (K5.trans K6) ha
     refine ⟨dl,_,_,rfl,rfl,h7,sml zk 0 zk,?_⟩
     refine ⟨_,rfl,rfl,_,rfl,aE (fun c=>absurd c zj) (fun _=>?_)⟩
     refine ⟨_,rfl,rfl,_,rfl,aE (fun c=>absurd c zj) (fun _=>?_)⟩
     refine ⟨_,rfl,rfl,_,rfl,aE (fun c=>absurd c zj) (fun _=>?_)⟩
     exact ⟨_,ds5++[Deed.change n w],_,rfl,g7,dd7,.inl ⟨rfl,fun z=>(hs5 z).change hin,by rw [List.length_append];show ds5.length+1<=_;lia⟩,addn (d:=Deed.change n w) nin,P7,K7⟩
    .refine ⟨_,rfl,rfl,_,rfl,aE (fun c=>absurd c zj) (fun _=>?_)⟩
     refine ⟨_,rfl,rfl,_,rfl,aE (fun _=>?_) (fun c=>absurd rfl c)⟩
     refine ⟨_,rfl,.inl ⟨rfl,_,SqL.of h5⟩,_,rfl,sz2,fun a ha=>?_⟩
     obtain ⟨h7,g7,dd7,P7,K7⟩:=app (d:=.drop n) h5 dd5 P5 K5 ha
     refine ⟨dl,_,_,rfl,rfl,h7,sml zk 0 zk,?_⟩
     refine ⟨_,rfl,rfl,_,rfl,aE (fun c=>absurd c zj) (fun _=>?_)⟩
     refine ⟨_,rfl,rfl,_,rfl,aE (fun c=>absurd c zj) (fun _=>?_)⟩
     refine ⟨_,ds5++[Deed.drop n],_,rfl,g7,dd7,.inr (.inl ⟨rfl,fun z=>?_,by rw [List.length_append];show ds5.length+1<=_;lia⟩),addn (d:=Deed.drop n) nin,P7,K7⟩
     have h8:=hs5 z
     rw [List.drop_eq_getElem_cons hj,hjn] at h8
     refine h8.drop fun hm=>?_
     obtain ⟨m,hm1,hm2⟩:=List.getElem_of_mem hm
     rw [List.getElem_drop] at hm2
     have:=(List.getElem_inj (h₀:=by rw [List.length_drop] at hm1;lia) (h₁:=hj) nd).mp (hm2.trans hjn.symm)
     lia
    .refine ⟨_,rfl,rfl,_,rfl,aE (fun c=>absurd c zj) (fun _=>?_)⟩
     refine ⟨_,rfl,rfl,_,rfl,aE (fun c=>absurd c zj) (fun _=>?_)⟩
     refine ⟨_,rfl,rfl,_,rfl,aE (fun _=>?_) (fun c=>absurd rfl c)⟩
     refine ⟨_,rfl,.inl ⟨rfl,_,SqL.of h5⟩,_,rfl,_,_,rfl,rfl,⟨zj,zj,zj⟩,_,rfl,_,_,rfl,rfl,sz3,fun a ha=>?_⟩
     obtain ⟨h7,g7,dd7,P7,K7⟩:=app (d:=.change n ((10:Int) ^ (20:Int).toNat+(0+(i:Int)))) h5 dd5 P5 K5 ha
     refine ⟨dl,_,_,rfl,rfl,h7,sml zk 0 zk,?_⟩
     refine ⟨_,rfl,.inl ⟨rfl,_,SqL.of g7⟩,sz1,fun a2 ha2=>?_⟩
     obtain ⟨h9,g9,dd9,P9,K9⟩:=app (d:=.least) g7 dd7 P7 K7 ha2
     refine ⟨dl,_,_,rfl,rfl,h9,by rw [List.length_append];exact sml zk 1 zk,?_⟩
     refine ⟨_,rfl,rfl,_,rfl,aE (fun c=>absurd c zj) (fun _=>?_)⟩
     refine ⟨_,ds5++[Deed.change n ((10:Int) ^ (20:Int).toNat+(0+(i:Int)))]++[Deed.least],_,rfl,g9,dd9,.inr (.inr (.inl ⟨rfl,fun z=>((hs5 z).change hin).least nne,by rw [List.length_append,List.length_append];show ds5.length+1+1<=_;lia⟩)),fun x hx=>?_,P9,K9⟩
     rcases List.mem_append.mp hx with hx | hx
     .exact addn (d:=Deed.change n ((10:Int) ^ (20:Int).toNat+(0+(i:Int)))) nin x hx
     .rw [zm hx];trivial
    .refine ⟨_,rfl,rfl,_,rfl,aE (fun c=>absurd c zj) (fun _=>?_)⟩
     refine ⟨_,rfl,rfl,_,rfl,aE (fun c=>absurd c zj) (fun _=>?_)⟩
     refine ⟨_,rfl,rfl,_,rfl,aE (fun c=>absurd c zj) (fun _=>?_)⟩
     refine ⟨_,rfl,rfl,_,rfl,aE (fun _=>?_) (fun c=>absurd rfl c)⟩
     refine ⟨_,rfl,.inl ⟨rfl,_,SqL.of h5⟩,sz1,fun a ha=>?_⟩
     obtain ⟨h7,g7,dd7,P7,K7⟩:=app (d:=.take) h5 dd5 P5 K5 ha
     refine ⟨dl,_,_,rfl,rfl,h7,sml zk 0 zk,?_⟩
     refine ⟨_,ds5++[Deed.take],_,rfl,g7,dd7,.inr (.inr (.inr ⟨rfl,fun z=>?_,by rw [List.length_append];show ds5.length+1<=_;lia⟩)),addn (d:=Deed.take) trivial,P7,K7⟩
     obtain ⟨S,h8,lS,ndS⟩:=hs5 z
     obtain ⟨S',h9,lS',nd'⟩:=h8.take (fun y=>by rw [y] at lS;have:([]:List Str).length=0:=rfl;lia) ndS
     exact ⟨S',h9,zk,nd'⟩
  .rintro σ H5 ⟨dz5,ds5,o55,rfl,h5,dd5,wn5,in5,P5,K5⟩
   rw [lm] at wn5
   have l5:dz5.length=ds5.length:=Paired.length dd5
   refine ⟨fun b H6=>H6=H5/\((b=true/\(∀z,Has z ds5 [])/\ds5.length<=200+400*i+ns.length)∨(b=false/\(∀z,Has z ds5 ns)/\ds5.length<=200+400*i+2*ns.length)),?_,?_⟩
   .rcases wn5 with ⟨rfl,hs5,ln5⟩ | ⟨rfl,hs5,ln5⟩ | ⟨rfl,hs5,ln5⟩ | ⟨rfl,hs5,ln5⟩
    .refine ⟨_,rfl,rfl,_,rfl,aE (fun c=>absurd c zj) (fun _=>?_)⟩
     exact ⟨_,rfl,rfl,_,rfl,rfl,.inr ⟨rfl,hs5,zk⟩⟩
    .refine ⟨_,rfl,rfl,_,rfl,aE (fun _=>?_) (fun c=>absurd rfl c)⟩
     exact ⟨rfl,.inl ⟨rfl,fun z=>by have:=hs5 z;rw [List.drop_length] at this;exact this,zk⟩⟩
    .refine ⟨_,rfl,rfl,_,rfl,aE (fun c=>absurd c zj) (fun _=>?_)⟩
     exact ⟨_,rfl,rfl,_,rfl,rfl,.inr ⟨rfl,hs5,zk⟩⟩
    .refine ⟨_,rfl,rfl,_,rfl,aE (fun c=>absurd c zj) (fun _=>?_)⟩
     refine ⟨_,rfl,rfl,_,rfl,rfl,.inl ⟨rfl,fun z=>?_,zk⟩⟩
     obtain ⟨S,h8,lS,_⟩:=hs5 z
     have:S=[]:=List.length_eq_zero_iff.mp zk
     rw [this] at h8;exact h8
   rintro b H6 ⟨rfl,⟨rfl,hs5,ln5⟩ | ⟨rfl,hs5,ln5⟩⟩
   .refine qb ?_
    have hnl5:=K5 _ _ hnl (no nl nnp)
    refine ⟨_,rfl,_,rfl,nl,rfl,⟨_,SqL.of hnl5⟩,fun D hD=>?_⟩
    have offD:=P5.new hD
    have hD0:H D=none:=by
     cases e:H D with
     | none=>rfl
     | some o=>rw [K5 _ _ e (no D offD.1)] at hD;cases hD
    refine bW (K:=K) (a:=nl) (xs:=ns.map V.str) (fun i ys H8=>∃ ds':List Deed,DDs H8 ys ds'/\(∀z,Has z (ds5++ds') (ns.take i))/\(∀x∈ds',x.inN (ns.map V.str))/\ds'.length=i/\H8 D=some (.lst ys)/\Pile K H8 pl sr is/\Kept [pl] H6 H8) ⟨[],.nil,(fun z=>by rw [List.append_nil];exact (hs5) z),(fun _ h=>nomatch h),rfl,af,P5.same (ai hD),Kept.of_same (ai hD)⟩ (fun i ys H8 h'=>by obtain ⟨_,_,_,_,_,z,_,kz⟩:=h';exact ⟨z,SqL.of (kz _ _ hnl5 (no nl nnp))⟩) ?_ ?_
    .rintro i x ys H8 hx ⟨ds',dd8,has8,in8,ld8,h8,P8,K8⟩
     unfold gS
     dsimp only
     rw [if_pos rfl]
     rw [List.getElem?_map] at hx
     cases en:ns[i]? with
     | none=>rw [en] at hx;cases hx
     | some n =>
      rw [en] at hx
      cases hx
      obtain ⟨hi,hin⟩:=List.getElem?_eq_some_iff.mp en
      refine ⟨_,rfl,_,rfl,pl,sr,is,rfl,P8,fun w H9 P9 K9=>?_⟩
      refine ⟨sz3,fun a ha=>?_⟩
      have s10:=ai (o:=.tup [.str "put",.str n,.int w]) ha
      have h10:=s10 _ _ (K9 _ _ h8 (no D offD.1))
      have lys:ys.length=i:=by rw [Paired.length dd8];exact ld8
      have tk:∀b l,H8 b=some (.tup l)->(upd H9 a (.tup [.str "put",.str n,.int w])) b=some (.tup l):=fun b l e=>s10 _ _ (K9 _ _ e (no b (df P8 e (fun _ z=>nomatch z))))
      refine ⟨h10,Nat.lt_of_le_of_lt (show ys.length<=1000 by lia) zj,_,zk,rfl,zk,ds'++[.put n w],?_,fun z=>?_,fun x hx=>?_,by rw [List.length_append,ld8];rfl,af,?_,?_⟩
      .refine DDs.stay (gz (d:=.put n w) (dd8.stay tk) ⟨a,rfl,af⟩) fun b l e=>?_
       rw [ak (bA e h10 (by intro y;cases y))];exact e
      .rw [<-List.append_assoc,List.take_add_one,en]
       refine (has8 z).put fun hm=>?_
       obtain ⟨j,hj,ej⟩:=List.mem_take_iff_getElem.mp hm
       have:=(List.getElem_inj (h₀:=by lia) (h₁:=hi) nd).mp (ej.trans hin.symm)
       lia
      .rcases List.mem_append.mp hx with hx | hx
       .exact in8 x hx
       .rw [zm hx]
        exact List.mem_map.mpr ⟨n,List.mem_of_getElem? en,rfl⟩
      .exact (P9.same s10).kept (F:=[D]) (fun b hb=>by rw [zm hb];exact offD) (Kept.refl.put zl)
      .exact ((K8.trans K9).trans (Kept.of_same s10)).newer hD
    rintro ys H7 ⟨ds',dd7,has7,in7,ld7,h7,P7,K7⟩
    rw [lm] at has7 ld7
    rw [List.take_length] at has7
    have h5':=K7 _ _ h5 (no dl offd.1)
    have lys:ys.length=ns.length:=by rw [Paired.length dd7];exact ld7
    refine ⟨dl,D,_,_,rfl,rfl,h5',h7,Nat.le_trans (show dz5.length+ys.length<=3000 by lia) zj,fun q hq=>?_⟩
    have s8:=ai (o:=.lst (dz5++ys)) hq
    have hq0:H q=none:=by
     cases e:H q with
     | none=>rfl
     | some o=>rw [K7 _ _ (K5 _ _ e (no q (P7.new hq).1)) (no q (P7.new hq).1)] at hq;cases hq
    refine ⟨q,dz5++ys,ds5++ds',_,_,_,rfl,af,u7 (DDs.stay dd5 fun b l e=>s8 _ _ (K7 _ _ e (no b (df P5 e (fun _ z=>nomatch z))))) (DDs.stay dd7 fun b l e=>s8 _ _ e),has7,fun x hx=>?_,by rw [List.length_append];lia,P7.same s8,(K5.trans K7).trans (Kept.of_same s8),hq0,P7.new hq⟩
    rcases List.mem_append.mp hx with hx | hx
    .exact in5 x hx
    .exact in7 x hx
   .refine gf ?_
    exact ⟨dl,dz5,ds5,_,_,_,rfl,h5,dd5,hs5,in5,zk,P5,K5,fdl,offd⟩
 rintro σ H3 ⟨dl,dz,ds,o3,o4,o5,rfl,h3,dd3,has3,in3,ld3,P3,K3,fdl,offd⟩
 exact ⟨_,rfl,k dl dz ds H3 h3 dd3 (fun z=>(has3 z).fits) in3 zk P3 K3⟩
theorem qV {xs:List V}(h:jG xs):∃ ns:List Str,xs=ns.map V.str:=by
 induction xs with
 | nil=>exact ⟨[],rfl⟩
 | cons v xs ih =>
  obtain ⟨ns,e⟩:=ih fun v hv=>h v (List.mem_cons_of_mem _ hv)
  obtain ⟨x,ex,_⟩:=h v List.mem_cons_self
  exact ⟨x::ns,by rw [e,ex];rfl⟩
theorem ph {ns:List Str}(h:(ns.map V.str).Nodup):ns.Nodup:=(List.pairwise_map.mp h).imp fun hne e=>hne (by rw [e])
theorem jS {H:Hp}{zs:List V}{ds:List Deed}(h:DDs H zs ds):∀m:Nat,DDs H (zs.take m) (ds.take m):=by
 induction h with
 | nil=>intro m;rw [List.take_nil,List.take_nil];exact .nil
 | cons r _ ih =>
  intro m
  cases m with
  | zero=>exact .nil
  | succ m=>exact .cons r (ih m)
theorem eJ {xs:List V}{m:Nat}:a7 xs none (some (m:Int))=xs.take m:=by
 unfold a7
 have e2:HT.sIx xs.length 0 none=0:=rfl
 rw [HT.sIx_nat,e2,List.drop_zero,Nat.sub_zero]
 by_cases y:m<=xs.length
 .rw [Nat.min_eq_left y]
 rw [Nat.min_eq_right zk,List.take_of_length_le (Nat.le_refl _),List.take_of_length_le zk]
theorem jZ {a b:List V}(h:∀v∈a,v∈b){d:Deed}(k:d.inN a):d.inN b:=by
 cases d with
 | put n w=>exact h _ k
 | drop n=>exact h _ k
 | change n w=>exact h _ k
 | take=>trivial
 | least=>trivial
abbrev mj:Stmt:=top 39
theorem nh:FnScope ["pile","most","many","count","slack","way","names"] ["pile","most"] (ao mj):=fsc fun nd=>⟨rfl,rfl,rfl,nd,rfl,zi,zi⟩
def mR (K:W.Frag):Sp:=fun vs H Q _=>∃ (pl sr:Addr) (is:List Int) (mo:Nat),vs=[.ref pl,.int mo]/\Pile K H pl sr is/\180<=mo/\mo<=600 /\
 ∀(o nl dl:Addr) (nv dz:List V) (ds:List Deed) (z:Int) (H':Hp),H' o=some (.lst [.ref nl,.int z,.ref dl])->H' nl=some (.lst nv)->jG nv->nv.Nodup->1<=nv.length->nv.length<=200->H' dl=some (.lst dz)->DDs H' dz ds->Fits z ds->(∀d∈ds,d.inN nv)->ds.length<=mo->0<=z->Pile K H' pl sr is->Kept [pl] H H'->nl≠pl->dl≠pl->H nl=none->H dl=none->Q (.ref o) H'
theorem sL {f fs fn fm fw_ fr:Addr}{fd fds fdn fdm fdw fdr:FuncData}(F:Fun K "_law_drawn" "_law_drawn" mj f fd)(T:Bl mg)(G_law_sizes:aA P w K mg base CX0 2 fs fds ["pile"] (nj K))(D_law_sizes:Nm K mg "_law_sizes" fs fds ["pile"])(G_law_next:aA P w K mg base CX0 1 fn fdn ["pile","most"] (cD K))(D_law_next:Nm K mg "_law_next" fn fdn ["pile","most"])
  (G_law_names:aA P w K mg base CX0 2 fm fdm ["pile","many"] (kI K)) (D_law_names:Nm K mg "_law_names" fm fdm ["pile","many"]) (G_law_worn:aA P w K mg base CX0 3 fw_ fdw ["pile","names"] (sQ K)) (D_law_worn:Nm K mg "_law_worn" fw_ fdw ["pile","names"])
  (G_law_run:aA P w K mg base CX0 4 fr fdr ["pile","names","slack","many"] (vB K)) (D_law_run:Nm K mg "_law_run" fr fdr ["pile","names","slack","many"]):aA P w K mg base CX0 5 f fd ["pile","most"] (mR K):=by
 have sc:=nh
 refine F.okQ nh (fun vs H Q E h=>?_) (fun cdv A outer s_ H vs Q E hr h=>?_)
 .obtain ⟨pl,sr,is,mo,rfl,_⟩:=h
  rfl
 obtain ⟨pl,sr,is,mo,rfl,PL,m0,m1,k⟩:=h
 have hu:=hr.units0
 refine ⟨_,(ae (be (qcl G_law_sizes hr D_law_sizes aD (ad (qv 0) ah)) (me rfl (aN (aQ (i:=2) sc.nd rfl (Or.inl rfl)) (aN (aQ (i:=3) sc.nd rfl (Or.inl rfl)) (aN (aQ (i:=4) sc.nd rfl (Or.inl rfl)) b8)))))
  (ae (qst 5 sc.nd (qcl G_law_next hr D_law_next aD (ad (qv 0) (ad ag ah))))
  (ae (bR (ar a8 (qv 5) ag (az _)) (aj (qst 2 sc.nd ag)) ay)
  (ae (qst 6 sc.nd (qcl G_law_names hr D_law_names aD (ad (qv 0) (ad (qv 2) ah))))
  (ae (aR (ar a8 (qv 5) ag (az _)) (aj (aB (aM (ad (qv 6) (ad (qv 4) (ad (bn b7 (qcl G_law_worn hr D_law_worn aD (ad (qv 0) (ad (qv 6) ah))) bG (bx (qv 1))) ah)))))) ay)
  (ae (aR (ar cV (qv 5) ag (az _)) (aj (aB (aM (ad (qv 6) (ad (qv 4) (ad (bn b7 (qcl G_law_worn hr D_law_worn aD (ad (qv 0) (ad (bn b7 (qv 6) bG (bx ag)) ah))) bG (bx (qv 1))) ah)))))) ay)
  (aj (aB (aM (ad (qv 6) (ad (qv 4) (ad (au aw (qcl G_law_run hr D_law_run aD (ad (qv 0) (ad (qv 6) (ad (qv 4) (ad (qv 3) ah))))) ag pix) ah)))))))))))),?_⟩
 have no:∀b,b≠pl->b∉[pl]:=fun b n z=>n (zm z)
 refine ⟨_,rfl,pl,sr,is,rfl,PL,fun o mn cn z H1 ho mn1 mn2 cn2 z0 P1 K1=>?_⟩
 refine ⟨o,_,rfl,SqL.of ho,rfl,_,_,rfl,_,_,rfl,_,_,rfl,rfl,?_⟩
 refine ⟨_,rfl,pl,sr,is,16,rfl,P1,zj,zj,fun wy H2 w0 w1 P2 K2 N2=>?_⟩
 replace K2:=K1.trans K2
 refine ⟨fun σ' H'=>∃ mn':Nat,σ'=[some (.ref pl),some (.int mo),some (.int mn'),some (.int cn),some (.int z),some (.int wy),none]/\H'=H2/\1<=mn'/\mn'<=200,?_,?_⟩
 .refine ⟨_,rfl,rfl,_,rfl,aE (fun _=>⟨200,rfl,rfl,zj,zj⟩) (fun _=>⟨mn,rfl,rfl,mn1,zk⟩)⟩
 rintro σ' H' ⟨mn',rfl,rfl,mm1,mm2⟩
 refine ⟨_,rfl,_,rfl,pl,sr,is,mn',rfl,P2,mm2,fun nl xs H3 h3 an nd lx P3 K3 f3 nnp off=>?_⟩
 replace K3:=K2.trans K3
 obtain ⟨ns,rfl⟩:=qV an
 have ndn:=ph nd
 rw [List.length_map] at lx
 have fnl:H nl=none:=by
  cases e:H nl with
  | none=>rfl
  | some u=>rw [K2 _ _ e (no nl nnp)] at f3;cases f3
 refine ⟨_,rfl,rfl,_,rfl,aE (fun _=>?_) (fun _=>?_)⟩
 .refine ⟨_,rfl,_,rfl,_,rfl,_,rfl,pl,sr,is,nl,ns,rfl,P3,h3,ndn,zk,nnp,fun dl dz ds H4 h4 dd ft ind ld P4 K4=>?_⟩
  refine ⟨_,rfl,(mo:Int),rfl,dl,_,rfl,SqL.of h4,fun r hr5=>?_⟩
  have h3':=K4 _ _ h3 (no nl nnp)
  have s5:=ai (o:=.lst (a7 dz none (some (mo:Int)))) hr5
  have g5:(upd H4 r (.lst (a7 dz none (some (mo:Int))))) r=some (.lst (dz.take mo)):=by rw [af,eJ]
  generalize upd H4 r (.lst (a7 dz none (some (mo:Int))))=H5 at s5 g5 ⊢
  refine ⟨sz3,fun o2 ho2=>?_⟩
  have s6:=ai (o:=.lst [.ref nl,.int z,.ref r]) ho2
  have K6:=(K4.trans (Kept.of_same s5)).trans (Kept.of_same s6)
  have K06:=K3.trans K6
  refine k o2 nl r (ns.map V.str) (dz.take mo) (ds.take mo) z _ af (s6 _ _ (s5 _ _ h3')) an nd (by rw [List.length_map];lia) (by rw [List.length_map];lia) (s6 _ _ g5) (jS (DDs.stay dd fun b l e=>s6 _ _ (s5 _ _ e)) mo) ((ft z).take mo) (fun d hd=>jZ (fun v h=>h) (ind d (List.mem_of_mem_take hd))) (List.length_take_le _ _) z0 ((P4.same s5).same s6) K06 nnp ?_ fnl ?_
  .exact (P4.new hr5).1
  .cases e:H r with
   | none=>rfl
   | some u=>rw [K4 _ _ (K3 _ _ e (no r (P4.new hr5).1)) (no r (P4.new hr5).1)] at hr5;cases hr5
 refine ⟨_,rfl,_,_,rfl,rfl,_,rfl,aE (fun _=>?_) (fun _=>?_)⟩
 .refine ⟨_,rfl,_,rfl,_,rfl,_,rfl,30,rfl,nl,_,rfl,SqL.of h3,fun n2 hn2=>?_⟩
  have e30:a7 (ns.map V.str) none (some 30)=(ns.take 30).map V.str:=by
   have:a7 (ns.map V.str) none (some ((30:Nat):Int))=(ns.map V.str).take 30:=eJ
   rw [List.map_take];exact this
  have sA:=ai (o:=.lst (a7 (ns.map V.str) none (some 30))) hn2
  have gA:(upd H3 n2 (.lst (a7 (ns.map V.str) none (some 30)))) n2=some (.lst ((ns.take 30).map V.str)):=by rw [af,e30]
  generalize upd H3 n2 (.lst (a7 (ns.map V.str) none (some 30)))=HA at sA gA ⊢
  have nn2:=(P3.new hn2).1
  replace P3:=P3.same sA
  replace h3:=sA _ _ h3
  replace K3:=K3.trans (Kept.of_same sA)
  refine ⟨pl,sr,is,n2,ns.take 30,rfl,P3,gA,ndn.sublist (List.take_sublist _ _),Nat.le_trans (List.length_take_le _ _) zj,nn2,fun dl dz ds H4 h4 dd ft ind ld P4 K4=>?_⟩
  refine ⟨_,rfl,(mo:Int),rfl,dl,_,rfl,SqL.of h4,fun r hr5=>?_⟩
  have h3':=K4 _ _ h3 (no nl nnp)
  have s5:=ai (o:=.lst (a7 dz none (some (mo:Int)))) hr5
  have g5:(upd H4 r (.lst (a7 dz none (some (mo:Int))))) r=some (.lst (dz.take mo)):=by rw [af,eJ]
  generalize upd H4 r (.lst (a7 dz none (some (mo:Int))))=H5 at s5 g5 ⊢
  refine ⟨sz3,fun o2 ho2=>?_⟩
  have s6:=ai (o:=.lst [.ref nl,.int z,.ref r]) ho2
  have K6:=(K4.trans (Kept.of_same s5)).trans (Kept.of_same s6)
  have K06:=K3.trans K6
  refine k o2 nl r (ns.map V.str) (dz.take mo) (ds.take mo) z _ af (s6 _ _ (s5 _ _ h3')) an nd (by rw [List.length_map];lia) (by rw [List.length_map];lia) (s6 _ _ g5) (jS (DDs.stay dd fun b l e=>s6 _ _ (s5 _ _ e)) mo) ((ft z).take mo) (fun d hd=>jZ (fun v h=>by rw [List.map_take] at h;exact List.mem_of_mem_take h) (ind d (List.mem_of_mem_take hd))) (List.length_take_le _ _) z0 ((P4.same s5).same s6) K06 nnp ?_ fnl ?_
  .exact (P4.new hr5).1
  .cases e:H r with
   | none=>rfl
   | some u=>rw [K4 _ _ (K3 _ _ e (no r (P4.new hr5).1)) (no r (P4.new hr5).1)] at hr5;cases hr5
 refine ⟨_,rfl,_,rfl,_,rfl,_,rfl,_,rfl,_,rfl,pl,sr,is,nl,ns.map V.str,z,cn,rfl,P3,h3,an,by rw [List.length_map];lia,nnp,zk,fun o2 dl ll st r td ds dz lz m H4 ho2 ft ind ld h4 dd O4 P4 K4 fo fdl fst ftd fr nrd=>?_⟩
 refine ⟨o2,_,_,_,rfl,rfl,SqL.of ho2,rfl,sz3,fun o3 ho3=>?_⟩
 have s6:=ai (o:=.lst [.ref nl,.int z,.ref dl]) ho3
 have h3':=K4 _ _ h3 (no nl nnp)
 have ndl:dl≠pl:=(P3.new fdl).1
 refine k o3 nl dl (ns.map V.str) dz ds z _ af (s6 _ _ h3') an nd (by rw [List.length_map];lia) (by rw [List.length_map];lia) (s6 _ _ h4) (DDs.stay dd fun b l e=>s6 _ _ e) ft ind zk z0 (P4.same s6) ((K3.trans K4).trans (Kept.of_same s6)) nnp ndl fnl ?_
 cases e:H dl with
 | none=>rfl
 | some u=>rw [K3 _ _ e (no dl ndl)] at fdl;cases fdl
def cF (a:LS×List Int)(d:Deed):LS×List Int:=((aL a.1 d).1,a.2++[((aL a.1 d).1.looks:Int)-(a.1.looks:Int)])
def wks (z:Int)(ds:List Deed):List Int:=(ds.foldl cF (Gm.newL z,[])).2
theorem yZ {z:Int}(ds:List Deed):(ds.foldl cF (Gm.newL z,[])).1=a6 z ds:=by
 unfold a6
 suffices h:∀(a:LS×List Int),(ds.foldl cF a).1=ds.foldl (fun t d=>(aL t d).1) a.1 from h _
 induction ds with
 | nil=>intro a;rfl
 | cons d ds ih=>intro a;exact ih _
theorem kq {z:Int}{ds:List Deed}{d:Deed}:wks z (ds++[d])=wks z ds++[((a6 z (ds++[d])).looks:Int)-((a6 z ds).looks:Int)]:=by
 unfold wks
 rw [List.foldl_append,cH]
 show (ds.foldl cF (Gm.newL z,[])).2++[((aL (ds.foldl cF (Gm.newL z,[])).1 d).1.looks:Int)-((ds.foldl cF (Gm.newL z,[])).1.looks:Int)]=_
 rw [yZ]
theorem jt {z:Int}(ds:List Deed):(wks z ds).length=ds.length:=by
 unfold wks
 suffices h:∀(a:LS×List Int),(ds.foldl cF a).2.length=a.2.length+ds.length by
  have:=h (Gm.newL z,[])
  rw [this];exact Nat.zero_add _
 induction ds with
 | nil=>intro a;rfl
 | cons d ds ih =>
  intro a
  rw [List.foldl_cons,ih,List.length_cons]
  show (a.2++[_]).length+_=_
  rw [List.length_append]
  show a.2.length+1+_=_
  lia
def hiR (z:Int)(ds:List Deed)(m:Int):Prop:=∀(i:Nat) (d:Deed),ds[i]?=some d->((bu z (ds.take i)).row.length:Int)+(match d with | .put _ _=>1 | .change _ _=>1 | _=>0)<=m
abbrev i7:Stmt:=top 40
theorem jD:FnScope ["deeds","slack","state","looks","most","deed"] ["deeds","slack"] (ao i7):=fsc fun nd=>⟨rfl,rfl,rfl,nd,rfl,zi,zi⟩
def kJ:Sp:=fun vs H Q _=>∃ (dl:Addr) (dz:List V) (ds:List Deed) (z:Int),vs=[.ref dl,.int z]/\H dl=some (.lst dz)/\DDs H dz ds/\Fits z ds/\ds.length<=700 /\
 ∀(o ll:Addr) (m:Int) (H':Hp),H' o=some (.lst [.ref ll,.int m])->H' ll=some (.lst ((wks z ds).map V.int))->hiR z ds m->0<=m->m<=1000->H ll=none->Same H H'->Q (.ref o) H'
theorem oQ {f fn fd_:Addr}{fd fdn fdd:FuncData}(F:Fun K "_law_looked" "_law_looked" i7 f fd)(T:Bl mg)(z_max:mg "max"=none)(G_law_new:aA P w K mg base CX0 1 fn fdn ["slack"] nO)(D_law_new:Nm K mg "_law_new" fn fdn ["slack"])
  (G_law_done:aA P w K mg base CX0 3 fd_ fdd ["state","deed"] jl) (D_law_done:Nm K mg "_law_done" fd_ fdd ["state","deed"]):aA P w K mg base CX0 4 f fd ["deeds","slack"] kJ:=by
 have sc:=jD
 refine F.okQ jD (fun vs H Q E h=>?_) (fun cdv A outer s_ H vs Q E hr h=>?_)
 .obtain ⟨dl,dz,ds,z,rfl,_⟩:=h
  rfl
 obtain ⟨dl,dz,ds,z,rfl,hdl,dd0,ft,lds,k⟩:=h
 have hu:=hr.units0
 have ldz:dz.length=ds.length:=Paired.length dd0
 refine ⟨_,(ae (qst 2 sc.nd (qcl G_law_new hr D_law_new aD (ad (qv 1) ah)))
  (ae (qst 3 sc.nd (aM ah))
  (ae (qst 4 sc.nd ag)
  (ae (ce PassesOwn.never rfl (bS (qv 0)) (aQ (i:=5) sc.nd rfl (Or.inl rfl)) (ae (qst 4 sc.nd (qcB (pC rfl) z_max (ad (qv 4) (ad (aq aF (qcB aG T.z_len (ad (aO (aX hr) (qv 2) av pix) ah)) (qcT ci T.z_int (ad (cr gr (au aJ (qv 5) ag pix) (aI (ad av (ad av ah))) rfl) ah))) ah))))
  (aj (aK (bJ PySem.F.plainAttrs_list PySem.F.slot_list_append PySem.F.type_list_append aY (qv 3) (ad (qcl G_law_done hr D_law_done aD (ad (qv 2) (ad (qv 5) ah))) ah))))))
  (aj (aB (aM (ad (qv 3) (ad (qv 4) ah))))))))),?_⟩
 refine ⟨_,rfl,z,rfl,fun st r0 td H1 hst hr0 htd O1 s1=>?_⟩
 refine ⟨sz0,fun ll hll=>?_⟩
 have s2:=ai (o:=.lst []) hll
 have g2:=af (H:=H1) (a:=ll) (o:=.lst [])
 have fll:H ll=none:=by
  cases e:H ll with
  | none=>rfl
  | some o=>rw [s1 _ _ e] at hll;cases hll
 obtain ⟨xr,hxr,_⟩:=O1.hr
 have nrl:r0≠ll:=am hxr hll
 generalize upd H1 ll (.lst [])=H2 at s2 g2 ⊢
 have O2:=O1.same s2
 replace s2:=s1.trans s2
 refine ⟨_,rfl,dl,rfl,⟨_,SqL.of (s2 _ _ hdl)⟩,?_⟩
 refine cX (K:=K) (a:=dl) (xs:=dz) (fun i σ H3=>∃ (r:Addr) (m:Int) (o5:Option V),σ=[some (.ref dl),some (.int z),some (.ref st),some (.ref ll),some (.int m),o5]/\StAt H3 st r td (bu z (ds.take i)) (bu z (ds.take i)).looks/\H3 ll=some (.lst ((wks z (ds.take i)).map V.int))/\hiR z (ds.take i) m/\0<=m/\m<=i+1/\Same H H3/\H r=none/\r≠ll)
  ⟨r0,0,none,rfl,O2,g2,(fun i d e=>by rw [List.take_zero] at e;cases e),zj,zj,s2,hr0,nrl⟩ (fun i σ H3 _ h'=>by obtain ⟨_,_,_,_,_,_,_,_,_,z,_⟩:=h';exact SqL.of (z _ _ hdl)) ?_ ?_
 .rintro i x σ H3 hx ⟨r,m,o5,rfl,O3,h3,hi3,m0,m1,s3,fr,nr⟩
  obtain ⟨de,ede,q,rfl,hq0⟩:=cj dd0 hx
  obtain ⟨fti,fit⟩:=ft.at ede
  have hi:i<ds.length:=(List.getElem?_eq_some_iff.mp ede).1
  have et:ds.take (i+1)=ds.take i++[de]:=by rw [List.take_add_one,ede];rfl
  have sim:=fti.sim
  have IS:=fti.inv
  have stp:=fti.stamp
  have lti:(ds.take i).length=i:=by rw [List.length_take];lia
  have hq:=s3 _ _ hq0
  obtain ⟨xs3,hx3,rr3⟩:=O3.hr
  have lx3:=rr3.len
  have lr:=IS.len
  obtain ⟨n,more,ev⟩:=gQ de
  have hqv:=hq
  rw [ev] at hqv
  refine ⟨_,rfl,_,rfl,st,_,rfl,O3.row,r,_,rfl,.inl (SqL.of hx3),?_⟩
  refine ⟨_,rfl,q,_,_,_,rfl,rfl,SqT.of hqv,(by exact aU (j:=0) rfl),sz2,fun l4 hl4=>⟨l4,n,["put","change"],rfl,rfl,SqT.of af,?_⟩⟩
  refine cU hl4 fun H4 s4 _=>?_--@0
  refine .inr ⟨_,rfl,_,_,rfl,rfl,m,_,rfl,?_⟩
  have O4:=O3.same s4
  have hq4:=s4 _ _ hq
  have h4:=s4 _ _ h3
  refine ⟨_,rfl,.inl ⟨rfl,_,SqL.of h4⟩,_,rfl,_,rfl,st,r,td,q,bu z (ds.take i),de,rfl,O4,IS,zk,hq4,fit,fun lk r' H5 elk O5 k5 f5=>?_⟩
  obtain ⟨kt4,hd4,_⟩:=O4.ht
  have nin:ll∉[st,r,td]:=fun zz=>by
   simp only [List.mem_cons,List.not_mem_nil,or_false] at zz
   rcases zz with y | y | y
   .rw [y,O4.hs] at h4;cases h4
   .exact nr y.symm
   .rw [y,hd4] at h4;cases h4
  have h5:=k5 _ _ h4 nin
  have lw:((wks z (ds.take i)).map V.int).length=i:=by rw [List.length_map,jt,lti]
  refine ⟨ll,_,_,rfl,rfl,h5,aH (by rw [lw];lia),?_⟩
  have eS:bu z (ds.take (i+1))=stepS (bu z (ds.take i)) de:=by rw [et,bj]
  have sim2:=(fti.snoc fit).sim
  rw [<-et] at sim2
  have s4':Same H H4:=s3.trans s4
  have s5:Same H H5:=fun b o e=>k5 b o (s4' b o e) fun zz=>by
   simp only [List.mem_cons,List.not_mem_nil,or_false] at zz
   rcases zz with y | y | y
   .rw [y,hst] at e;cases e
   .rw [y,fr] at e;cases e
   .rw [y,htd] at e;cases e
  have fr':H r'=none:=by
   rcases f5 with y | y
   .rw [y];exact fr
   .cases e:H r' with
    | none=>rfl
    | some o=>rw [s4' _ _ e] at y;cases y
  have nr':r'≠ll:=by
   rcases f5 with y | y
   .rw [y];exact nr
   .exact (am h4 y).symm
  have tk:∀b l,H5 b=some (.tup l)->(upd H5 ll (.lst ((wks z (ds.take i)).map V.int++[.int lk]))) b=some (.tup l):=fun b l e=>by rw [ak (bA e h5 (by intro y;cases y))];exact e
  have lkx:((a6 z (ds.take (i+1))).looks:Int)-((a6 z (ds.take i)).looks:Int)=(lk:Int):=by
   rw [<-sim2.lk,<-sim.lk,eS,elk];lia
  obtain ⟨mm,emm,a1,a2,a3⟩:∃ mm:Int,(if ((xs3.length:Int)+(if decide (n∈(["put","change"]:List Str))=true then 1 else 0))>m then ((xs3.length:Int)+(if decide (n∈(["put","change"]:List Str))=true then 1 else 0)) else m)=mm/\m<=mm/\(xs3.length:Int)+(if decide (n∈(["put","change"]:List Str))=true then 1 else 0)<=mm/\mm<=(i:Int)+2:=by
   refine ⟨_,rfl,?_,?_,?_⟩
   .split <;> lia
   .split <;> lia
   .have b1:(if decide (n∈(["put","change"]:List Str))=true then (1:Int) else 0)<=1:=by split <;> decide
    split <;> lia
  refine ⟨r',mm,_,by rw [<-emm];rfl,?_,by rw [af,et,kq,<-et,lkx,List.map_append];rfl,fun j d e=>?_,zk,zk,fun b o e=>by rw [ak (am e fll)];exact s5 b o e,fr',nr'⟩
  .rw [eS]
   obtain ⟨kt5,hd5,_⟩:=O5.ht
   refine O5.stay (fun b o hb e=>?_) tk
   rw [ak (fun y=>?_)]
   .exact e
   .rcases hb with w | w | w
    .rw [<-y,w,O5.hs] at h5;cases h5
    .exact nr' (w.symm.trans y)
    .rw [<-y,w,hd5] at h5;cases h5
  .by_cases hj:j<i
   .rw [et,List.getElem?_append_left zk] at e
    have:=hi3 j d e
    rw [et,List.take_append_of_le_length zk]
    lia
   .have lj:=(List.getElem?_eq_some_iff.mp e).1
    rw [et,List.length_append,lti] at lj
    have h1:([de]:List Deed).length=1:=rfl
    have ej:j=i:=by lia
    subst ej
    rw [et,List.getElem?_append_right zk,lti,Nat.sub_self] at e
    have ed:de=d:=Option.some.inj e
    subst ed
    rw [List.take_take,Nat.min_eq_left zk,<-lx3]
    refine Int.le_trans ?_ a2
    cases de <;> (have e1:=(List.cons.inj ev).1;have e2:=V.str.inj e1;subst e2;exact Int.le_of_eq (by first | rfl | (congr 1)))
 rintro σ H3 ⟨r,m,o5,rfl,O3,h3,hi3,m0,m1,s3,fr,nr⟩
 rw [ldz,List.take_length] at h3 hi3
 refine ⟨_,rfl,_,rfl,sz2,fun o ho=>?_⟩
 have s4:=ai (o:=.lst [.ref ll,.int m]) ho
 exact k o ll m _ af (s4 _ _ h3) hi3 m0 zk fll (s3.trans s4)
theorem tZ {z:Int}(as bs:List Deed):∃ more,wks z (as++bs)=wks z as++more:=by
 unfold wks
 rw [List.foldl_append]
 suffices h:∀(a:LS×List Int),∃ more,(bs.foldl cF a).2=a.2++more from h _
 induction bs with
 | nil=>intro a;exact ⟨[],(List.append_nil _).symm⟩
 | cons d bs ih =>
  intro a
  obtain ⟨more,e⟩:=ih (cF a d)
  exact ⟨[((aL a.1 d).1.looks:Int)-(a.1.looks:Int)]++more,by rw [List.foldl_cons,e];unfold cF;rw [List.append_assoc]⟩
theorem wn {z:Int}{ds:List Deed}{i:Nat}{d:Deed}(h:ds[i]?=some d):(wks z ds)[i]?=some (((aL (a6 z (ds.take i)) d).1.looks:Int)-((a6 z (ds.take i)).looks:Int)):=by
 obtain ⟨hi,e⟩:=List.getElem?_eq_some_iff.mp h
 have e1:ds=(ds.take i++[d])++ds.drop (i+1):=by
  rw [<-e,List.append_assoc,List.singleton_append,<-List.drop_eq_getElem_cons hi,List.take_append_drop]
 obtain ⟨more,em⟩:=tZ (z:=z) (ds.take i++[d]) (ds.drop (i+1))
 rw [<-e1,kq] at em
 have l:(wks z (ds.take i)).length=i:=by rw [jt,List.length_take];lia
 rw [em,List.append_assoc,List.getElem?_append_right zk,l,Nat.sub_self,cH]
 rfl
abbrev nY:Stmt:=top 41
theorem rh:FnScope ["pile","bound","fee","fees","way"] ["pile","bound"] (ao nY):=fsc fun nd=>⟨rfl,rfl,rfl,nd,rfl,zi,zi⟩
def pT (K:W.Frag):Sp:=fun vs H Q _=>∃ (pl sr:Addr) (is:List Int) (b:Int),vs=[.ref pl,.int b]/\Pile K H pl sr is/\∀(q:Addr) (fs:List Int) (H':Hp),H' q=some (.tup (fs.map V.int))->fs.length=5->Pile K H' pl sr is->Kept [pl] H H'->Q (.ref q) H'
theorem tj {f fn:Addr}{fd fdn:FuncData}(F:Fun K "_law_fees" "_law_fees" nY f fd)(T:Bl mg)(G_law_next:aA P w K mg base CX0 1 fn fdn ["pile","most"] (cD K))(D_law_next:Nm K mg "_law_next" fn fdn ["pile","most"]):aA P w K mg base CX0 2 f fd ["pile","bound"] (pT K):=by
 have sc:=rh
 refine F.okQ rh (fun vs H Q E h=>?_) (fun cdv A outer s_ H vs Q E hr h=>?_)
 .obtain ⟨pl,sr,is,b,rfl,_⟩:=h
  rfl
 obtain ⟨pl,sr,is,b,rfl,PL,k⟩:=h
 have hu:=hr.units0
 have no:∀b,b≠pl->b∉[pl]:=fun b n z=>n (zm z)
 refine ⟨_,(ae (qst 2 sc.nd (aq aF (aq cz ag (qv 1)) ag))
  (ae (qst 3 sc.nd (aI (ad (qv 2) (ad (qv 2) (ad (aq cz ag (qv 2)) (ad (qv 2) (ad ag ah)))))))
  (ae (ic (i:=4) sc.nd rfl (Or.inr rfl) (qcl G_law_next hr D_law_next aD (ad (qv 0) (ad ag ah))))
  (ae (bR (ar cV (qv 4) ag (az _)) (aj (qst 3 sc.nd (qcT bZ T.z_tuple (ad (cu (Blk.of (N:=["pile","bound","fee","fees","way"]) (esc:=ao nY) (NB:=["pile","way"]) (cap:=[0,4]) rfl rfl (fun y hy=>bo hy) rfl zi zi zi rfl zi rfl zi) rfl rfl (bX rfl T.z_range (ad ag ah)) (fun C fp s₀ H₀=>cg) (fun C fp s₀ H₀=>(qcl G_law_next hr D_law_next aD (ad (qv 1) (ad (au (qt (K:=K) rfl) (aM (ad ag (ad (aq cY ag ag) ah))) (qv 2) pix) ah))))) ah)))) ay)
  (aj (aB (qv 3))))))),?_⟩
 refine ⟨_,rfl,_,_,rfl,rfl,.inl ⟨zj,zj⟩,_,_,rfl,rfl,?_⟩
 refine ⟨_,rfl,_,rfl,_,rfl,_,_,rfl,rfl,.inl ⟨zj,zj⟩,_,rfl,sz5,fun q hq=>?_⟩
 refine cU hq fun H1 s1 g1=>?_--@0
 refine ⟨_,rfl,pl,sr,is,6,rfl,PL.same s1,zj,zj,fun wy H2 w0 w1 P2 K2 N2=>?_⟩
 have g2:=K2 _ _ g1 (no q (PL.new hq).1)
 replace K2:=(Kept.of_same s1).trans K2
 refine ⟨fun σ' H'=>∃ (q:Addr) (fs:List Int),σ'=[some (.ref pl),some (.int b),some (.int (3*b+5)),some (.ref q),some (.int wy)]/\H' q=some (.tup (fs.map V.int))/\fs.length=5/\Pile K H' pl sr is/\Kept [pl] H H',?_,?_⟩
 .refine ⟨_,rfl,_,_,rfl,rfl,_,rfl,aE (fun c=>?_) (fun _=>⟨q,[3*b+5,3*b+5,2*(3*b+5),3*b+5,0],rfl,g2,rfl,P2,K2⟩)⟩
  have wl:wy<2:=of_decide_eq_true c
  refine ⟨5,rfl,zj,zj,fun D hD=>?_⟩
  have offD:=P2.new hD
  refine dm (lo:=0) (n:=5) (fun i ys H8=>∃ fs:List Int,ys=fs.map V.int/\fs.length=i/\H8 D=some (.lst ys)/\Pile K H8 pl sr is/\Kept [pl] H2 H8) ⟨[],rfl,rfl,af,P2.same (ai hD),Kept.of_same (ai hD)⟩ (fun i ys H8 h'=>by obtain ⟨_,_,_,z,_⟩:=h';exact z) ?_ ?_
  .rintro i ys H8 hi ⟨fs,rfl,lf,h8,P8,K8⟩
   unfold gS
   dsimp only
   rw [if_pos rfl]
   refine ⟨_,rfl,_,_,rfl,rfl,⟨zj,zj,zj⟩,sz2,fun l hl=>?_⟩
   obtain ⟨v,ev,mv⟩:=cC (l:=([.int 30,.int ((10:Int) ^ (30:Int).toNat)]:List V)) (i:=wy) w0 (by show wy<2;exact wl)
   obtain ⟨mo,rfl,o1,o2⟩:∃ i:Int,v=.int i/\0<i/\i<2 ^ 120:=by
    simp only [List.mem_cons,List.not_mem_nil,or_false] at mv
    rcases mv with h | h
    .exact ⟨_,h,zj,zj⟩
    .exact ⟨_,h,zj,zj⟩
   have s9:=ai (o:=.lst [.int 30,.int ((10:Int) ^ (30:Int).toNat)]) hl
   refine ⟨_,rfl,l,_,_,_,rfl,rfl,SqL.of af,ev,pl,sr,is,mo,rfl,P8.same s9,o1,o2,fun x H9 x0 x1 P9 K9 N9=>?_⟩
   refine ⟨K9 _ _ (s9 _ _ h8) (no D offD.1),aH (by rw [List.length_map];lia),_,zk,rfl,hi,fs++[x],by rw [List.map_append];rfl,by rw [List.length_append,lf];rfl,af,P9.kept (F:=[D]) (fun b hb=>by rw [zm hb];exact offD) (Kept.refl.put zl),((K8.trans (Kept.of_same s9)).trans K9).newer hD⟩
  rintro ys H8 ⟨fs,rfl,lf,h8,P8,K8⟩
  refine ⟨D,_,rfl,.inl ⟨SqL.of h8,fun qn hqn=>?_⟩⟩
  have s9:=ai (o:=.tup (fs.map V.int)) hqn
  exact ⟨qn,fs,rfl,af,lf,P8.same s9,(K2.trans K8).trans (Kept.of_same s9)⟩
 rintro σ' H' ⟨q,fs,rfl,hq,lf,P3,K3⟩
 exact ⟨_,rfl,k q fs H' hq lf P3 K3⟩
def gd:List V:=[.str "put",.str "drop",.str "change",.str "take",.str "least"]
theorem qd (d:Deed):∃ n more,d.v=.str n::more/\gd[bD d]?=some (.str n)/\eqV (.str n) (.str n)=true/\(∀(m:Nat) (z:V),m<bD d->gd[m]?=some z->eqV z (.str n)=false):=by
 have sm:∀n:Str,eqV (.str n) (.str n)=true:=fun n=>by show (n == n)=true;simp
 cases d with
 | put n w=>exact ⟨_,_,rfl,rfl,sm _,fun m z hm=>absurd hm (Nat.not_lt_zero _)⟩
 | drop n =>
  refine ⟨_,_,rfl,rfl,sm _,fun m z hm e=>?_⟩
  have hm':m<1:=hm
  match m,hm' with
  | 0,_=>cases e;decide +kernel
 | change n w =>
  refine ⟨_,_,rfl,rfl,sm _,fun m z hm e=>?_⟩
  have hm':m<2:=hm
  match m,hm' with
  | 0,_=>cases e;decide +kernel
  | 1,_=>cases e;decide +kernel
 | take =>
  refine ⟨_,_,rfl,rfl,sm _,fun m z hm e=>?_⟩
  have hm':m<3:=hm
  match m,hm' with
  | 0,_=>cases e;decide +kernel
  | 1,_=>cases e;decide +kernel
  | 2,_=>cases e;decide +kernel
 | least =>
  refine ⟨_,_,rfl,rfl,sm _,fun m z hm e=>?_⟩
  have hm':m<4:=hm
  match m,hm' with
  | 0,_=>cases e;decide +kernel
  | 1,_=>cases e;decide +kernel
  | 2,_=>cases e;decide +kernel
  | 3,_=>cases e;decide +kernel
abbrev gL:Stmt:=top 42
theorem iR:FnScope ["deeds","looks","fees","purse","found","deed","work"] ["deeds","looks","fees"] (ao gL):=fsc fun nd=>⟨rfl,rfl,rfl,nd,rfl,zi,zi⟩
def iH:Sp:=fun vs H Q _=>∃ (dl ll fl:Addr) (dz:List V) (ds:List Deed) (fs:List Int) (z:Int),vs=[.ref dl,.ref ll,.ref fl]/\H dl=some (.lst dz)/\DDs H dz ds/\H ll=some (.lst ((wks z ds).map V.int))/\H fl=some (.tup (fs.map V.int))/\fs.length=5/\ds.length<=700 /\
 ∀q zs H',H' q=some (.lst zs)->LedAt H' zs dz (led z fs ds).rows->H q=none->Same H H'->Q (.ref q) H'
theorem lD {f:Addr}{fd:FuncData}(F:Fun K "_law_ledger" "_law_ledger" gL f fd)(T:Bl mg)(z_zip:mg "zip"=none):aA P w K mg base CX0 1 f fd ["deeds","looks","fees"] iH:=by
 have sc:=iR
 refine F.okQ iR (fun vs H Q E h=>?_) (fun cdv A outer s_ H vs Q E hr h=>?_)
 .obtain ⟨dl,ll,fl,dz,ds,fs,z,rfl,_⟩:=h
  rfl
 obtain ⟨dl,ll,fl,dz,ds,fs,z,rfl,hdl,dd0,hll,hfl,lfs,lds,k⟩:=h
 have hu:=hr.units0
 have ldz:dz.length=ds.length:=Paired.length dd0
 refine ⟨_,(ae (qst 3 sc.nd ag)
  (ae (qst 4 sc.nd (aM ah))
  (ae (ce PassesOwn.never rfl (wz rfl z_zip (ad (qv 0) (ad (qv 1) ah))) (dW rfl (aN (aQ (i:=5) sc.nd rfl (Or.inl rfl)) (aN (aQ (i:=6) sc.nd rfl (Or.inl rfl)) b8))) (ae (qst 3 sc.nd (aq bp (aq aF (qv 3) (au aJ (qv 2) (bJ PySem.F.plainAttrs_list PySem.F.slot_list_index PySem.F.type_list_index jH (aM (ck (vs:=[.str "put",.str "drop",.str "change",.str "take",.str "least"]) zi)) (ad (au aJ (qv 5) ag pix) ah)) pix)) (qv 6)))
  (aj (aK (bJ PySem.F.plainAttrs_list PySem.F.slot_list_append PySem.F.type_list_append aY (qv 4) (ad (aI (ad (qv 5) (ad (qv 6) (ad (qv 3) ah)))) ah))))))
  (aj (aB (qv 4)))))),?_⟩
 refine ⟨sz0,fun tl htl=>?_⟩
 refine cU htl fun H1 s1 g1=>?_--@1
 refine ⟨_,rfl,_,rfl,dl,ll,_,_,rfl,s1 _ _ hdl,s1 _ _ hll,?_⟩
 refine uk (n:=ds.length) (fun i σ H2=>∃ (zs:List V) (o5 o6:Option V),σ=[some (.ref dl),some (.ref ll),some (.ref fl),some (.int (led z fs (ds.take i)).p),some (.ref tl),o5,o6]/\H2 tl=some (.lst zs)/\LedAt H2 zs dz (led z fs (ds.take i)).rows/\Same H H2) ⟨[],none,none,rfl,g1,LedAt.nil,s1⟩
  (fun i σ H2 h'=>by obtain ⟨_,_,_,_,_,_,s⟩:=h';exact ⟨_,_,s _ _ hdl,s _ _ hll,ldz,by rw [List.length_map,jt]⟩) ?_ ?_
 .rintro i σ H2 xs ys x y T0 hi ⟨zs,o5,o6,rfl,h2,led2,s2⟩ hx hy ex ey hT
  rw [s2 _ _ hdl] at hx
  rw [s2 _ _ hll] at hy
  cases hx
  cases hy
  obtain ⟨de,ede,q,rfl,hq0⟩:=cj dd0 ex
  have et:ds.take (i+1)=ds.take i++[de]:=by rw [List.take_add_one,ede];rfl
  rw [List.getElem?_map,wn ede] at ey
  have ey':V.int (((aL (a6 z (ds.take i)) de).1.looks:Int)-((a6 z (ds.take i)).looks:Int))=y:=Option.some.inj ey
  subst ey'
  have s3:=ai (o:=.tup [.ref q,.int (((aL (a6 z (ds.take i)) de).1.looks:Int)-((a6 z (ds.take i)).looks:Int))]) hT
  have g3:=af (H:=H2) (a:=T0) (o:=.tup [.ref q,.int (((aL (a6 z (ds.take i)) de).1.looks:Int)-((a6 z (ds.take i)).looks:Int))])
  generalize upd H2 T0 (.tup [.ref q,.int (((aL (a6 z (ds.take i)) de).1.looks:Int)-((a6 z (ds.take i)).looks:Int))])=H3 at s3 g3 ⊢
  refine ⟨T0,_,rfl,SqT.of g3,rfl,_,_,rfl,_,_,rfl,rfl,?_⟩
  replace s3':=s2.trans s3
  obtain ⟨n,more,ev,i5,ee,lt5⟩:=qd de
  have l5:bD de<5:=by have:=(List.getElem?_eq_some_iff.mp i5).1;exact this
  have hq3:=s3' _ _ hq0
  rw [ev] at hq3
  refine ⟨_,rfl,_,rfl,sz5,fun l hl=>?_⟩
  have s4:=ai (o:=.lst gd) hl
  have g4:=af (H:=H3) (a:=l) (o:=.lst gd)
  have efs:(fs.map V.int)[bD de]?=some (.int (fs.getD (bD de) 0)):=by
   rw [List.getElem?_map,List.getD_eq_getElem?_getD,List.getElem?_eq_getElem zk];rfl
  refine ⟨.inl ⟨rfl,_,SqL.of g4⟩,_,rfl,q,_,_,_,rfl,rfl,SqT.of (s4 _ _ hq3),(by exact aU (j:=0) rfl),l,gd,_,_,bD de,rfl,rfl,g4,rfl,zi,i5,ee,lt5,fl,_,_,_,rfl,rfl,SqT.of (s4 _ _ (s3' _ _ hfl)),aU efs,_,_,rfl,rfl,_,rfl,_,_,rfl,rfl,?_⟩
  have s4':=s3'.trans s4
  have h4:=s4 _ _ (s3 _ _ h2)
  have led4:=led2.stay fun b l e=>s4 b _ (s3 b _ e)
  change dN 3 _ _ (upd H3 l (.lst gd)) _
  generalize upd H3 l (.lst gd)=H4 at s4 g4 s4' h4 led4 ⊢
  have Lt:(led z fs (ds.take i)).t=a6 z (ds.take i):=kL _
  have eL:led z fs (ds.take (i+1))=bL fs (led z fs (ds.take i)) de:=by rw [et,eV]
  have lzs:zs.length=i:=by rw [led4.len,dD,List.length_take];lia
  refine ⟨_,rfl,.inl ⟨rfl,_,SqL.of h4⟩,_,rfl,_,rfl,_,rfl,sz3,fun a ha=>?_⟩
  have s5:=ai (o:=.tup [.ref q,.int (((aL (a6 z (ds.take i)) de).1.looks:Int)-((a6 z (ds.take i)).looks:Int)),.int ((led z fs (ds.take i)).p+fs.getD (bD de) 0-(((aL (a6 z (ds.take i)) de).1.looks:Int)-((a6 z (ds.take i)).looks:Int)))]) ha
  refine ⟨tl,_,_,rfl,rfl,s5 _ _ h4,aH zk,?_⟩
  have tk6:∀(H5:Hp) b l,H5 tl=some (.lst zs)->H5 b=some (.tup l)->(upd H5 tl (.lst (zs++[.ref a]))) b=some (.tup l):=fun H5 b l e1 e2=>by rw [ak (bA e2 e1 (by intro y;cases y))];exact e2
  refine ⟨zs++[.ref a],some (.ref q),some (.int (((aL (a6 z (ds.take i)) de).1.looks:Int)-((a6 z (ds.take i)).looks:Int))),?_,af,?_,fun b o e=>?_⟩
  .rw [eL];unfold bL;rw [Lt];rfl
  .rw [eL];unfold bL;rw [Lt]
   exact ((led4.stay fun b l e=>s5 b _ e).snoc (by rw [lzs];exact ex) af).stay (fun b l e=>tk6 _ b l (s5 _ _ h4) e)
  .rw [ak (am e htl)]
   exact s5 _ _ (s4' b o e)
 rintro σ H2 ⟨zs,o5,o6,rfl,h2,led2,s2⟩
 rw [List.take_length] at led2
 exact ⟨_,rfl,k tl zs H2 h2 led2 htl s2⟩
abbrev eh:=Deed×Int×Int
def LgAt (H:Hp)(zs:List V)(rs:List eh):Prop:=Paired (fun (v:V) (r:eh)=>∃ a q:Addr,v=.ref a/\H a=some (.tup [.ref q,.int r.2.1,.int r.2.2])/\H q=some (.tup r.1.v)) zs rs
theorem LgAt.stay {H H':Hp}{zs:List V}{rs:List eh}(r:LgAt H zs rs)(k:∀b l,H b=some (.tup l)->H' b=some (.tup l)):LgAt H' zs rs:=Paired.mapP r fun _ _ h=>by
 obtain ⟨a,q,e,h1,h2⟩:=h
 exact ⟨a,q,e,k _ _ h1,k _ _ h2⟩
theorem uP (z:Int)(ds:List Deed):Fits z ds∨∃ as b cs,ds=as++b::cs/\Fits z as/\¬ b.fit (bu z as):=by
 have h:∀n,Fits z (ds.take n)∨∃ as b cs,ds=as++b::cs/\Fits z as/\¬ b.fit (bu z as):=by
  intro n
  induction n with
  | zero=>exact .inl (by rw [List.take_zero];exact .nil)
  | succ n ih =>
   rcases ih with f | y
   .by_cases hn:n<ds.length
    .have et:ds.take (n+1)=ds.take n++[ds[n]]:=by rw [List.take_add_one,List.getElem?_eq_getElem hn];rfl
     by_cases c:(ds[n]).fit (bu z (ds.take n))
     .exact .inl (by rw [et];exact f.snoc c)
     .exact .inr ⟨ds.take n,ds[n],ds.drop (n+1),by rw [<-List.drop_eq_getElem_cons hn,List.take_append_drop],f,c⟩
    .exact .inl (by rw [List.take_of_length_le zk];rw [List.take_of_length_le zk] at f;exact f)
   .exact .inr y
 have:=h ds.length
 rw [List.take_length] at this
 exact this
theorem ng {K:W.Frag}{C CC CN:Addr}{d1 d2:ClassData}{b1 b2:Bool}(x1:W.subIn K (.ref CC) (.type "BaseException")=some true)(x2:W.subIn K (.ref CN) (.type "BaseException")=some true)(c1:W.clsIn K CC=some d1)(c2:W.clsIn K CN=some d2)
  (t1:W.typeIn K (.ref CC)=some (.type "type")) (t2:W.typeIn K (.ref CN)=some (.type "type")) (s1:W.subIn K (.ref C) (.ref CC)=some b1) (s2:W.subIn K (.ref C) (.ref CN)=some b2):W.exmAny K (.ref C) [.ref CC,.ref CN]=some (b1 || b2):=by
 have e1:W.exmOne K (.ref C) (.ref CC)=some b1:=by unfold W.exmOne;rw [x1,if_pos zj];unfold W.kitCls;dsimp only;rw [c1,t1,if_pos zl];exact s1
 have e2:W.exmOne K (.ref C) (.ref CN)=some b2:=by unfold W.exmOne;rw [x2,if_pos zj];unfold W.kitCls;dsimp only;rw [c2,t2,if_pos zl];exact s2
 unfold W.exmAny W.exmAny W.exmAny
 rw [e1,e2]
 dsimp only
 rw [Bool.or_false]
structure Rt (z:Int)(fs:List Int)(rs:List eh):Prop where
 fits:Fits z (rs.map (·.1))
 rows:(led z fs (rs.map (·.1))).rows=rs.map (·.2)
 pos:∀r∈rs,0<=r.2.2
abbrev hW:Stmt:=top 18
theorem nP:FnScope ["ledger","slack","tariff","deeds","right"] ["ledger","slack","tariff"] (ao hW):=fsc fun nd=>⟨rfl,rfl,rfl,nd,rfl,zi,zi⟩
def nQ:Sp:=fun vs H Q _=>∃ (a fl:Addr) (zs:List V) (rs:List eh) (fs:List Int) (z:Int),vs=[.ref a,.int z,.ref fl]/\H a=some (.tup zs)/\LgAt H zs rs/\(∀r∈rs,r.1.sh)/\rs.length<=700/\H fl=some (.tup (fs.map V.int))/\fs.length=5 /\
 ∀b H',(b=true↔Rt z fs rs)->Same H H'->Q (.bl b) H'
theorem sv {f C CC CN fw_:Addr}{fd fdw:FuncData}(F:Fun K "ledger_shown" "ledger_shown" hW f fd)(T:Bl mg)(z_all:mg "all"=none)(mClash:mg "Clash"=some (.ref CC))(mNoThing:mg "NoThing"=some (.ref CN))(xC:W.exmAny K (.ref CC) [.ref CC,.ref CN]=some true)(xN:W.exmAny K (.ref CN) [.ref CC,.ref CN]=some true)
  (Gwritten:aA P w K mg base (CXe P w) 8 fw_ fdw ["deeds","slack","tariff"] (iJ C CC CN)) (Dwritten:Nm K mg "written" fw_ fdw ["deeds","slack","tariff"]):aA P w K mg base CX0 9 f fd ["ledger","slack","tariff"] nQ:=by
 have sc:=nP
 refine F.okQ nP (fun vs H Q E h=>?_) (fun cdv A outer s_ H vs Q E hr h=>?_)
 .obtain ⟨a,fl,zs,rs,fs,z,rfl,_⟩:=h
  rfl
 obtain ⟨a,fl,zs,rs,fs,z,rfl,ha,lg,sh,lr,hfl,lf,k⟩:=h
 have hu:=hr.units0
 have hu1:=hr.u100
 have lz:zs.length=rs.length:=Paired.length lg
 refine ⟨_,(ae (cT (i:=3) sc.nd rfl (Or.inl rfl) (Blk.of (N:=["ledger","slack","tariff","deeds","right"]) (esc:=ao hW) (NB:=[]) (cap:=[]) rfl rfl (fun y hy=>bo hy) rfl zi zi zi rfl zi rfl zi) rfl rfl (sR (qv 0)) (fun C fp s₀ H₀=>cg) (fun C fp s₀ H₀=>(au (cv (K:=K) rfl) (qv 0) ag pix)))
  (ae (QS.mk (yH (sT (uv (i:=4) sc.nd rfl (Or.inl rfl) (p6 Gwritten hr.mo rfl Dwritten.m Dwritten.k Dwritten.b .nil (QA.to (ad (qv 3) (ad (qv 1) (ad (qv 2) ah))))))) rfl rfl rfl mClash rfl mNoThing (fun e=>QSs.to (aj (aB gT)))))
  (aj (aB (xA (cr (rC hu1) (qv 0) (qv 4) (az _)) (wQ (qcB (pM rfl) z_all (ad (cu (Blk.of (N:=["ledger","slack","tariff","deeds","right"]) (esc:=ao hW) (NB:=[]) (cap:=[]) rfl rfl (fun y hy=>bo hy) rfl zi zi zi rfl zi rfl zi) rfl rfl (sR (qv 4)) (fun C fp s₀ H₀=>cg) (fun C fp s₀ H₀=>(cr vP (au (cv (K:=K) rfl) (qv 0) ag pix) ag (az _)))) ah)))))))),?_⟩
 refine ⟨_,rfl,a,rfl,⟨_,SqT.of ha⟩,fun D hD=>?_⟩
 refine iD (K:=K) (a:=a) (xs:=zs) (fun i ys H1=>H1 D=some (.lst ys)/\DDs H ys ((rs.map (·.1)).take i)/\(∀(j:Nat) (v u:V),ys[j]?=some v->zs[j]?=some u->∃ (p q:Addr) (r:eh),rs[j]?=some r/\u=.ref p/\v=.ref q/\H p=some (.tup [.ref q,.int r.2.1,.int r.2.2]))/\Same H H1) ⟨af,by rw [List.take_zero];exact .nil,(fun j v u e=>nomatch e),ai hD⟩ (fun i ys H1 z=>⟨z.1,SqT.of (z.2.2.2 _ _ ha)⟩) ?_ ?_
 .rintro i x ys H1 hi ⟨h1,dd1,fr1,s1⟩
  have li:=(List.getElem?_eq_some_iff.mp hi).1
  obtain ⟨r,er,p,q,rfl,hp,hq⟩:=cj lg hi
  have ly:ys.length=i:=by have:=Paired.length dd1;rw [List.length_take,List.length_map] at this;lia
  unfold gS
  dsimp only
  rw [if_pos rfl]
  refine ⟨_,rfl,p,_,_,_,rfl,rfl,SqT.of (s1 _ _ hp),(by exact aU (j:=0) rfl),h1,aH zk,_,zk,rfl,zk,af,?_,fun j v u ev eu=>?_,cp s1 hD⟩
  .rw [List.take_add_one,List.getElem?_map,er]
   exact Paired.snoc dd1 ⟨q,rfl,hq⟩
  .by_cases hj:j<ys.length
   .rw [List.getElem?_append_left hj] at ev
    exact fr1 j v u ev eu
   .have lj:=(List.getElem?_eq_some_iff.mp ev).1
    rw [List.length_append] at lj
    have lj':j<ys.length+1:=lj
    have ej:j=i:=by lia
    subst ej
    rw [List.getElem?_append_right zk,ly,Nat.sub_self] at ev
    rw [hi] at eu
    cases eu
    cases ev
    exact ⟨p,q,r,er,rfl,rfl,hp⟩
 rintro ys H1 ⟨h1,dd1,fr1,s1⟩
 rw [lz,List.take_of_length_le (by rw [List.length_map];exact Nat.le_refl _)] at dd1
 have ly:ys.length=rs.length:=by have:=Paired.length dd1;rw [List.length_map] at this;exact this
 refine ⟨_,rfl,_,rfl,_,rfl,D,fl,ys,rs.map (·.1),fs,z,rfl,.inl h1,DDs.stay dd1 fun b l e=>s1 b _ e,?_,by rw [List.length_map];exact lr,s1 _ _ hfl,lf,?_⟩
 .intro x hx
  obtain ⟨r,hr,rfl⟩:=List.mem_map.mp hx
  exact sh r hr
 rcases uP z (rs.map (·.1)) with ft | ⟨as,b,cs,e,fa,nb⟩
 .refine .inl ⟨ft,fun q us H2 hq led2 s2=>?_⟩
  have ll:=dD (z:=z) (fs:=fs) (rs.map (·.1))
  rw [List.length_map] at ll
  have lu:=led2.len
  generalize el:(led z fs (rs.map (·.1))).rows=rw at led2 ll lu
  have s2':=s1.trans s2
  have lm:(rs.map (·.2)).length=rs.length:=List.length_map ..
  have all_e:(List.range zs.length).all (fun i=>decide ((rs.map (·.2))[i]?=rw[i]?))=true↔rw=rs.map (·.2):=by
   rw [List.all_eq_true]
   constructor
   .intro h
    refine List.ext_getElem? fun i=>?_
    by_cases hi:i<zs.length
    .exact (of_decide_eq_true (h i (List.mem_range.mpr hi))).symm
    .rw [List.getElem?_eq_none zk,List.getElem?_eq_none zk]
   .intro h i _
    rw [h]
    exact decide_eq_true rfl
  refine ⟨_,rfl,_,rfl,a,q,zs,us,fun i=>decide ((rs.map (·.2))[i]?=rw[i]?),rfl,rfl,SqT.of (s2' _ _ ha),SqT.of hq,zk,fun i u v eu ev=>?_,_,rfl,?_⟩
  .have li:=(List.getElem?_eq_some_iff.mp eu).1
   obtain ⟨p,q1,r,er,rfl,eq1,hp⟩:=fr1 i _ u (List.getElem?_eq_getElem zk) eu
   obtain ⟨r2,e2⟩:∃ r2,rw[i]?=some r2:=⟨_,List.getElem?_eq_getElem zk⟩
   obtain ⟨p2,rfl,hp2⟩:=led2.at_ i v _ _ ev (List.getElem?_eq_getElem zk) e2
   rw [eq1] at hp2
   refine ⟨p,p2,.ref q1,r.2.1,r.2.2,_,_,rfl,rfl,rfl,SqT.of (s2' _ _ hp),SqT.of hp2,?_⟩
   dsimp only
   rw [e2,List.getElem?_map,er]
   show decide (some r.2=some r2)=_
   rw [Bool.eq_iff_iff,Bool.and_eq_true,decide_eq_true_eq,decide_eq_true_eq,decide_eq_true_eq]
   constructor
   .intro h;cases h;exact ⟨rfl,rfl⟩
   .rintro ⟨h1,h2⟩;rw [show r.2=r2 from Prod.ext h1 h2]
  .refine aE (fun c=>?_) (fun c=>?_)
   .have er:=all_e.mp c
    refine ⟨_,rfl,q,rfl,⟨_,SqT.of hq⟩,fun D2 hD2=>?_⟩
    refine iD (K:=K) (a:=q) (xs:=us) (fun i ys H3=>H3 D2=some (.lst ys)/\ys=((rs.take i).map fun r=>V.bl (decide (0<=r.2.2)))/\Same H2 H3) ⟨af,by rw [List.take_zero];rfl,ai hD2⟩ (fun i ys H3 z=>⟨z.1,SqT.of (z.2.2 _ _ hq)⟩) ?_ ?_
    .rintro i x vs H3 hi ⟨h3,rfl,s3⟩
     have li:=(List.getElem?_eq_some_iff.mp hi).1
     obtain ⟨r2,e2⟩:∃ r2,rw[i]?=some r2:=⟨_,List.getElem?_eq_getElem zk⟩
     obtain ⟨p2,rfl,hp2⟩:=led2.at_ i x _ _ hi (List.getElem?_eq_getElem zk) e2
     rw [er,List.getElem?_map] at e2
     obtain ⟨r,e3,rfl⟩:=Option.map_eq_some_iff.mp e2
     unfold gS
     dsimp only
     rw [if_pos rfl]
     refine ⟨_,rfl,p2,_,_,_,rfl,rfl,SqT.of (s3 _ _ hp2),(by exact aU (j:=2) rfl),_,_,rfl,rfl,h3,aH (by rw [List.length_map,List.length_take];lia),_,zk,rfl,zk,af,?_,cp s3 hD2⟩
     rw [List.take_add_one,e3,List.map_append]
     rfl
    rintro vs H3 ⟨h3,rfl,s3⟩
    rw [show us.length=rs.length by lia,List.take_length] at h3
    refine ⟨D2,rs.map fun r=>decide (0<=r.2.2),rfl,SqL.of (by rw [h3,List.map_map];rfl),k _ _ ⟨fun h=>⟨ft,el.trans er,fun r hr=>?_⟩,fun r=>?_⟩ (s2'.trans s3)⟩
    .exact of_decide_eq_true (List.all_eq_true.mp h _ (List.mem_map.mpr ⟨r,hr,rfl⟩))
    .rw [List.all_eq_true]
     intro b hb
     obtain ⟨y,hy,rfl⟩:=List.mem_map.mp hb
     exact decide_eq_true (r.pos y hy)
   .refine k false _ ⟨(fun z=>nomatch z),fun r=>absurd (all_e.mpr ?_) c⟩ s2'
    rw [<-el];exact r.rows
 refine .inr ⟨as,b,cs,e,fa,nb,fun H2 s2=>⟨_,rfl,?_,?_⟩⟩
 .cases b <;> first | exact xC | exact xN
 refine k false _ ⟨(fun z=>nomatch z),fun r=>absurd ?_ nb⟩ (s1.trans s2)
 have:=(r.fits.at (i:=as.length) (d:=b) (by rw [e,List.getElem?_append_right (Nat.le_refl _),Nat.sub_self];rfl)).2
 rw [e,List.take_left] at this
 exact this
structure OkR (z:Int)(fs:List Int)(ds:List Deed)(r:eh):Prop where
 fit:r.1.fit (bu z ds)
 wk:r.2.1=((aL (a6 z ds) r.1).1.looks:Int)-((a6 z ds).looks:Int)
 pu:r.2.2=(led z fs ds).p+fs.getD (bD r.1) 0-r.2.1
 po:0<=r.2.2
theorem jV {z:Int}{fs:List Int}{ds:List Deed}{d:Deed}:(led z fs (ds++[d])).rows=(led z fs ds).rows++[(((aL (a6 z ds) d).1.looks:Int)-((a6 z ds).looks:Int),(led z fs ds).p+fs.getD (bD d) 0-(((aL (a6 z ds) d).1.looks:Int)-((a6 z ds).looks:Int)))]:=by
 rw [eV];unfold bL;rw [kL]
theorem Rt.snoc {z:Int}{fs:List Int}{rs:List eh}{r:eh}(h:Rt z fs rs)(o:OkR z fs (rs.map (·.1)) r):Rt z fs (rs++[r]):=by
 have em:(rs++[r]).map (·.1)=rs.map (·.1)++[r.1]:=List.map_append
 refine ⟨by rw [em];exact h.fits.snoc o.fit,?_,fun x hx=>?_⟩
 .rw [em,jV,h.rows,<-o.wk,<-o.pu,List.map_append]
  rfl
 rcases List.mem_append.mp hx with y | y
 .exact h.pos x y
 rw [zm y];exact o.po
theorem Rt.back {z:Int}{fs:List Int}{rs:List eh}{r:eh}(h:Rt z fs (rs++[r])):Rt z fs rs/\OkR z fs (rs.map (·.1)) r:=by
 have em:(rs++[r]).map (·.1)=rs.map (·.1)++[r.1]:=List.map_append
 have hf:=h.fits
 have hw:=h.rows
 rw [em] at hf hw
 have hf2:=hf.at (i:=(rs.map (·.1)).length) (d:=r.1) (by rw [List.getElem?_append_right (Nat.le_refl _),Nat.sub_self];rfl)
 rw [List.take_left] at hf2
 rw [jV,List.map_append] at hw
 obtain ⟨e1,e2⟩:=List.append_inj hw (by rw [dD,List.length_map,List.length_map])
 have e3:=(List.cons.inj e2).1
 have w1:r.2.1=((aL (a6 z (rs.map (·.1))) r.1).1.looks:Int)-((a6 z (rs.map (·.1))).looks:Int):=(congrArg Prod.fst e3).symm
 refine ⟨⟨hf2.1,e1,fun x hx=>h.pos x (List.mem_append_left _ hx)⟩,hf2.2,w1,?_,h.pos r zl⟩
 rw [w1]
 exact (congrArg Prod.snd e3).symm
theorem Rt.front {z:Int}{fs:List Int}:∀{bs as:List eh},Rt z fs (as++bs)->Rt z fs as
 | [],as,h=>by rw [List.append_nil] at h;exact h
 | b::bs,as,h=>(Rt.front (bs:=bs) (as:=as++[b]) (by rw [List.append_assoc];exact h)).back.1
theorem Rt.at {z:Int}{fs:List Int}{rs:List eh}(h:Rt z fs rs){i:Nat}{r:eh}(e:rs[i]?=some r):OkR z fs ((rs.take i).map (·.1)) r:=by
 have et:rs.take (i+1)=rs.take i++[r]:=by rw [List.take_add_one,e];rfl
 have:Rt z fs (rs.take (i+1)++rs.drop (i+1)):=by rw [List.take_append_drop];exact h
 have:=this.front
 rw [et] at this
 exact this.back.2
abbrev wa:Stmt:=top 43
theorem vG:FnScope ["told","slack","fees","state","purse","deed","work","left"] ["told","slack","fees"] (ao wa):=fsc fun nd=>⟨rfl,rfl,rfl,nd,rfl,zi,zi⟩
def vM:Sp:=fun vs H Q _=>∃ (a fl:Addr) (zs:List V) (rs:List eh) (fs:List Int) (z:Int),vs=[.ref a,.int z,.ref fl]/\H a=some (.lst zs)/\LgAt H zs rs/\rs.length<=700/\H fl=some (.tup (fs.map V.int))/\fs.length=5 /\
 ∀b H',(b=true↔Rt z fs rs)->Same H H'->Q (.bl b) H'
theorem xG {f fn fr fd_:Addr}{fd fdn fdr fdd:FuncData}(F:Fun K "_law_is_right" "_law_is_right" wa f fd)(T:Bl mg)(G_law_new:aA P w K mg base CX0 1 fn fdn ["slack"] nO)(D_law_new:Nm K mg "_law_new" fn fdn ["slack"])
  (G_law_refused:aA P w K mg base CX0 1 fr fdr ["state","deed"] fv) (D_law_refused:Nm K mg "_law_refused" fr fdr ["state","deed"]) (G_law_done:aA P w K mg base CX0 3 fd_ fdd ["state","deed"] jl) (D_law_done:Nm K mg "_law_done" fd_ fdd ["state","deed"]):aA P w K mg base CX0 4 f fd ["told","slack","fees"] vM:=by
 have sc:=vG
 refine F.okQ vG (fun vs H Q E h=>?_) (fun cdv A outer s_ H vs Q E hr h=>?_)
 .obtain ⟨a,fl,zs,rs,fs,z,rfl,_⟩:=h
  rfl
 obtain ⟨a,fl,zs,rs,fs,z,rfl,ha,lg,lr,hfl,lf,k⟩:=h
 have hu:=hr.units0
 have lz:zs.length=rs.length:=Paired.length lg
 refine ⟨_,(ae (qst 3 sc.nd (qcl G_law_new hr D_law_new aD (ad (qv 1) ah)))
  (ae (qst 4 sc.nd ag)
  (ae (ce PassesOwn.never rfl (bS (qv 0)) (dW rfl (aN (aQ (i:=5) sc.nd rfl (Or.inl rfl)) (aN (aQ (i:=6) sc.nd rfl (Or.inl rfl)) (aN (aQ (i:=7) sc.nd rfl (Or.inl rfl)) b8)))) (ae (aR (ar jL (qcl G_law_refused hr D_law_refused aD (ad (qv 3) (ad (qv 5) ah))) av (az _)) (aj (aB gT)) ay)
  (ae (aR (ar jL (qcl G_law_done hr D_law_done aD (ad (qv 3) (ad (qv 5) ah))) (qv 6) (az _)) (aj (aB gT)) ay)
  (ae (qst 4 sc.nd (aq bp (aq aF (qv 4) (au aJ (qv 2) (bJ PySem.F.plainAttrs_list PySem.F.slot_list_index PySem.F.type_list_index jH (aM (ck (vs:=[.str "put",.str "drop",.str "change",.str "take",.str "least"]) zi)) (ad (au aJ (qv 5) ag pix) ah)) pix)) (qv 6)))
  (aj (aR (QW.pt (nJ (ar jL (qv 7) (qv 4) (az _)) (kO (ar cV (qv 7) ag (az _))))) (aj (aB gT)) ay))))))
  (aj (aB gT))))),?_⟩
 refine ⟨_,rfl,z,rfl,fun st r0 td H1 hst hr0 htd O1 s1=>?_⟩
 refine ⟨_,rfl,a,rfl,⟨_,SqL.of (s1 _ _ ha)⟩,?_⟩
 refine cX (K:=K) (a:=a) (xs:=zs) (fun i σ H3=>∃ (r:Addr) (o5 o6 o7:Option V),σ=[some (.ref a),some (.int z),some (.ref fl),some (.ref st),some (.int (led z fs ((rs.take i).map (·.1))).p),o5,o6,o7]/\Rt z fs (rs.take i)/\StAt H3 st r td (bu z ((rs.take i).map (·.1))) (bu z ((rs.take i).map (·.1))).looks/\Same H H3/\H r=none)
  ⟨r0,none,none,none,rfl,⟨.nil,rfl,(fun r h=>nomatch h)⟩,O1,s1,hr0⟩ (fun i σ H3 _ h'=>by obtain ⟨_,_,_,_,_,_,_,z,_⟩:=h';exact SqL.of (z _ _ ha)) ?_ ?_
 .rintro i x σ H3 hx ⟨r,o5,o6,o7,rfl,rt,O3,s3,frn⟩
  obtain ⟨rw,erw,p,q,rfl,hp0,hq0⟩:=cj lg hx
  have hi:i<rs.length:=(List.getElem?_eq_some_iff.mp erw).1
  have et:rs.take (i+1)=rs.take i++[rw]:=by rw [List.take_add_one,erw];rfl
  have em:(rs.take (i+1)).map (·.1)=((rs.take i).map (·.1))++[rw.1]:=by rw [et,List.map_append];rfl
  have stp:=rt.fits.stamp
  have lti:((rs.take i).map (·.1)).length=i:=by rw [List.length_map,List.length_take];lia
  have sim:=rt.fits.sim
  have IS:=rt.fits.inv
  have lst:=kL (z:=z) (fs:=fs) ((rs.take i).map (·.1))
  have nrt:¬ OkR z fs ((rs.take i).map (·.1)) rw->∀H',Same H H'->Q (.bl false) H':=fun n H' s=>k false H' ⟨(fun y=>nomatch y),fun y=>absurd (y.at erw) n⟩ s
  generalize hD:((rs.take i).map (·.1))=ds at *
  have hq:=s3 _ _ hq0
  refine ⟨p,_,rfl,SqT.of (s3 _ _ hp0),rfl,_,_,rfl,_,_,rfl,_,_,rfl,rfl,?_⟩
  refine ⟨_,rfl,_,rfl,st,r,td,q,_,_,rw.1,rfl,O3,hq,fun c H4 s4 c1 c2=>⟨rfl,_,rfl,aE (fun y=>?_) (fun y=>?_)⟩⟩
  .have hc:c≠"":=fun e=>by rw [e] at y;exact absurd y zj
   exact nrt (fun o=>(c2 hc).1 o.fit) _ (s3.trans s4)
  have fit:=c1 (Decidable.not_not.mp fun n=>y (by rw [decide_eq_false (fun e=>n (V.str.inj e))];rfl))
  clear c1 c2 y
  have s4':=s3.trans s4
  have O4:=O3.same s4
  refine ⟨_,rfl,_,rfl,st,r,td,q,_,rw.1,rfl,O4,IS,zk,s4 _ _ hq,fit,fun lk r' H5 elk O5 k5 f5=>?_⟩
  have s5:Same H H5:=fun b o e=>k5 b o (s4' b o e) fun zz=>by
   simp only [List.mem_cons,List.not_mem_nil,or_false] at zz
   rcases zz with y | y | y
   .rw [y,hst] at e;cases e
   .rw [y,frn] at e;cases e
   .rw [y,htd] at e;cases e
  have fr':H r'=none:=by
   rcases f5 with y | y
   .rw [y];exact frn
   .cases e:H r' with
    | none=>rfl
    | some o=>rw [s4' _ _ e] at y;cases y
  have lkx:(lk:Int)=((aL (a6 z ds) rw.1).1.looks:Int)-((a6 z ds).looks:Int):=by
   rw [<-(sim.step fit).lk,<-sim.lk,elk];lia
  refine ⟨_,rfl,rfl,_,rfl,aE (fun y=>?_) (fun y=>?_)⟩
  .refine nrt (fun o=>?_) _ s5
   rw [o.wk,<-lkx] at y
   exact absurd y zl
  have wk:rw.2.1=(lk:Int):=by
   by_cases e:rw.2.1=(lk:Int)
   .exact e
   .exact absurd (show (!decide (V.int (lk:Int)=V.int rw.2.1))=true by rw [decide_eq_false (fun h=>e (V.int.inj h).symm)];rfl) y
  clear y
  obtain ⟨n,more,ev,i5,ee,lt5⟩:=qd rw.1
  have l5:bD rw.1<5:=(List.getElem?_eq_some_iff.mp i5).1
  have hq5:=s5 _ _ hq0
  rw [ev] at hq5
  have efs:(fs.map V.int)[bD rw.1]?=some (.int (fs.getD (bD rw.1) 0)):=by
   rw [List.getElem?_map,List.getD_eq_getElem?_getD,List.getElem?_eq_getElem zk];rfl
  refine ⟨_,rfl,_,rfl,sz5,fun l hl=>?_⟩
  have s6:=ai (o:=.lst gd) hl
  have g6:=af (H:=H5) (a:=l) (o:=.lst gd)
  refine ⟨.inl ⟨rfl,_,SqL.of g6⟩,_,rfl,q,_,_,_,rfl,rfl,SqT.of (s6 _ _ hq5),(by exact aU (j:=0) rfl),l,gd,_,_,bD rw.1,rfl,rfl,g6,rfl,zi,i5,ee,lt5,fl,_,_,_,rfl,rfl,SqT.of (s6 _ _ (s5 _ _ hfl)),aU efs,_,_,rfl,rfl,_,rfl,_,_,rfl,rfl,?_⟩
  change dN 4 _ _ (upd H5 l (.lst gd)) _
  have O6:=O5.same s6
  replace s6:=s5.trans s6
  generalize upd H5 l (.lst gd)=H6 at s6 O6 ⊢
  refine ⟨_,rfl,_,rfl,rfl,_,rfl,aE (fun y=>?_) (fun y=>?_)⟩
  .refine nrt (fun o=>?_) _ s6
   rw [o.pu] at y
   exact absurd y zl
  have pu:rw.2.2=(led z fs ds).p+fs.getD (bD rw.1) 0-rw.2.1:=by
   by_cases e:rw.2.2=(led z fs ds).p+fs.getD (bD rw.1) 0-rw.2.1
   .exact e
   .exact absurd (show (!decide (V.int rw.2.2=V.int ((led z fs ds).p+fs.getD (bD rw.1) 0-rw.2.1)))=true by rw [decide_eq_false (fun h=>e (V.int.inj h))];rfl) y
  clear y
  refine ⟨_,rfl,_,_,rfl,rfl,_,rfl,aE (fun y=>?_) (fun y=>?_)⟩
  .exact nrt (fun o=>absurd (show rw.2.2<0 from of_decide_eq_true y) (by have:=o.po;lia)) _ s6
  have po:0<=rw.2.2:=by
   by_cases e:rw.2.2<0
   .exact absurd (decide_eq_true e) y
   .lia
  have ok:OkR z fs ds rw:=⟨fit,by rw [wk,lkx],pu,po⟩
  refine ⟨r',some (.ref q),some (.int rw.2.1),some (.int rw.2.2),?_,?_,?_,s6,fr'⟩
  .rw [em,eV]
   unfold bL
   rw [kL,<-lkx,<-wk]
   rfl
  .rw [et]
   exact rt.snoc (by rw [hD];exact ok)
  .rw [em,bj]
   exact O6
 rintro σ H3 ⟨r,o5,o6,o7,rfl,rt,O3,s3,fr⟩
 rw [lz,List.take_length] at rt
 exact k true _ ⟨fun _=>rt,fun _=>rfl⟩ s3
def RowN (nv:List V)(H:Hp)(v:V):Prop:=∃ (a q:Addr) (d:Deed) (i j:Int),v=.ref a/\H a=some (.tup [.ref q,.int i,.int j])/\H q=some (.tup d.v)/\d.inN nv
theorem RowN.stay {nv:List V}{H H':Hp}{v:V}(h:RowN nv H v)(k:∀b l,H b=some (.tup l)->H' b=some (.tup l)):RowN nv H' v:=by
 obtain ⟨a,q,d,i,j,e,h1,h2,h3⟩:=h
 exact ⟨a,q,d,i,j,e,k _ _ h1,k _ _ h2,h3⟩
abbrev a9 (nv:List V)(H:Hp)(zs:List V):Prop:=∀v∈zs,RowN nv H v
theorem fK {nv:List V}{H:Hp}{xs ys:List V}(h:a9 nv H xs)(h':a9 nv H ys):a9 nv H (xs++ys):=fun v hv=>(List.mem_append.mp hv).elim (h v) (h' v)
theorem bY {nv:List V}{H:Hp}{xs:List V}(h:a9 nv H xs)(lo hi:Option Int):a9 nv H (a7 xs lo hi)/\(a7 xs lo hi).length<=xs.length:=by
 unfold a7
 refine ⟨fun v hv=>h v (List.mem_of_mem_drop (List.mem_of_mem_take hv)),?_⟩
 rw [List.length_take,List.length_drop]
 lia
theorem dC {nv:List V}{H:Hp}{xs:List V}(h:a9 nv H xs){v:V}(hv:RowN nv H v)(i:Nat):a9 nv H (xs.set i v):=fun x hx=>by
 rcases List.mem_or_eq_of_mem_set hx with y | y
 .exact h x y
 rw [y];exact hv
theorem cx {n i:Nat}(h:i<n):ixN n (i:Int)=some i:=by
 unfold ixN
 rw [if_pos zk,if_pos zk]
 rfl
theorem gl {H:Hp}{l:Addr}{xs ys:List V}(h:H l=some (.lst xs)):∀b t,H b=some (.tup t)->(upd H l (.lst ys)) b=some (.tup t):=fun b t e=>by rw [ak (bA e h (by intro y;cases y))];exact e
theorem ix {K:PySem.W.Frag}{c D:Addr}{cs nv:List V}{cap:List Nat}{σ:St}{te:TE}{o:Int}{H:Hp}{R:Hp->Prop}(g4:H c=some (.lst cs))(hD:H D=none)(r4:a9 nv H cs)(lc:cs.length<=900)
  (tt:∀(a q:Addr) (x y:Int) (H:Hp) (Q:VK),H a=some (.tup [.ref q,.int x,.int y])->(∀t,H t=none->Q (.ref t) (upd H t (.tup [.ref q,.int x,.int (y-o)])))->te (some (.ref a)::bE cap σ) H Q) (k:∀ys H5,H5 D=some (.lst ys)->a9 nv H5 ys->ys.length<=cs.length->Same H H5->R H5) :
  ∃ W:Nat->Nat->List V->Hp->Prop,(∃ m,W 0 m [] (upd H D (.lst [])))/\∀i m ys H,W i m ys H->H D=some (.lst ys) /\
  (((Itl K c).stop i H/\R H)∨((Itl K c).go i H/\∀x H',(Itl K c).yld i H x H'->gS (some x::bE cap σ) H' fun b H3 =>
   if b=true then te (some x::bE cap σ) H3 fun v H4=>H4 D=some (.lst ys)/\ys.length<sizeLine/\∃ m',m'<m/\W (i+1) m' (ys++[v]) (upd H4 D (.lst (ys++[v])))
   else ∃ m',m'<m/\W (i+1) m' ys H3)):=by
 refine bW (K:=K) (a:=c) (xs:=cs) (fun i ys H5=>H5 D=some (.lst ys)/\a9 nv H5 ys/\ys.length<=i/\Same H H5) ⟨af,(fun v hv=>nomatch hv),Nat.le_refl _,ai hD⟩ (fun i ys H5 z=>⟨z.1,SqL.of (z.2.2.2 _ _ g4)⟩) ?_ fun ys H5 z=>k ys H5 z.1 z.2.1 z.2.2.1 z.2.2.2
 rintro m x ys H5 hx ⟨h5,r5,l5,s5⟩
 have lm:=(List.getElem?_eq_some_iff.mp hx).1
 obtain ⟨a,q,d,x1,y1,rfl,ha,hq,hd⟩:=r4 x (List.mem_of_getElem? hx)
 unfold gS
 dsimp only
 rw [if_pos rfl]
 refine tt a q x1 y1 H5 _ (s5 _ _ ha) fun t ht=>?_
 have s6:=ai (o:=.tup [.ref q,.int x1,.int (y1-o)]) ht
 refine ⟨s6 _ _ h5,aH zk,_,zk,rfl,zk,af,fun v hv=>?_,by rw [List.length_append];show ys.length+1<=_;lia,cp (s5.trans s6) hD⟩
 refine RowN.stay ?_ (gl (s6 _ _ h5))
 rcases List.mem_append.mp hv with y | y
 .exact (r5 v y).stay fun b t e=>s6 b _ e
 rw [zm y]
 exact ⟨t,q,d,x1,y1-o,rfl,af,s6 _ _ (s5 _ _ hq),hd⟩
abbrev eW:Stmt:=top 44
theorem io:FnScope ["found","at","later","off","rows","between"] ["found","at","later","off"] (ao eW):=fsc fun nd=>⟨rfl,rfl,rfl,nd,rfl,zi,zi⟩
def iT:Sp:=fun vs H Q _=>∃ (f:Addr) (i j:Nat) (o:Int) (zs nv:List V),vs=[.ref f,.int i,.int j,.int o]/\H f=some (.lst zs)/\a9 nv H zs/\i<zs.length/\j<zs.length/\zs.length<=200/\∀q ys H',H' q=some (.lst ys)->H q=none->a9 nv H' ys->ys.length<=600->Same H H'->Q (.ref q) H'
theorem mf {f:Addr}{fd:FuncData}(F:Fun K "_law_against" "_law_against" eW f fd)(T:Bl mg):aA P w K mg base CX0 1 f fd ["found","at","later","off"] iT:=by
 have sc:=io
 refine F.okQ io (fun vs H Q E h=>?_) (fun cdv A outer s_ H vs Q E hr h=>?_)
 .obtain ⟨f,i,j,o,zs,nv,rfl,_⟩:=h
  rfl
 obtain ⟨f,i,j,o,zs,nv,rfl,hf,rn,hi,hj,lz,k⟩:=h
 have hu:=hr.units0
 refine ⟨_,(ae (qst 4 sc.nd (qcT eE T.z_list (ad (qv 0) ah)))
  (ae (be (aI (ad (au aJ (au aw (qv 4) (qv 1) pix) ag pix) (ad (aq aF (au aJ (au aw (qv 4) (qv 1) pix) ag pix) (qv 3)) (ad (au aJ (au aw (qv 4) (qv 1) pix) ag pix) ah)))) (bh (qv 4) (qv 1) aS))
  (ae (be (aI (ad (au aJ (au aw (qv 4) (qv 2) pix) ag pix) (ad (aq bp (au aJ (au aw (qv 4) (qv 2) pix) ag pix) (qv 3)) (ad (au aJ (au aw (qv 4) (qv 2) pix) ag pix) ah)))) (bh (qv 4) (qv 2) aS))
  (ae (cT (i:=5) sc.nd rfl (Or.inl rfl) (Blk.of (N:=["found","at","later","off","rows","between"]) (esc:=ao eW) (NB:=["off"]) (cap:=[3]) rfl rfl (fun y hy=>bo hy) rfl zi zi zi rfl zi rfl zi) rfl rfl (bS (bn b7 (qv 4) (bx (qv 1)) (bx (qv 2)))) (fun C fp s₀ H₀=>cg) (fun C fp s₀ H₀=>(aI (ad (au (cv (K:=K) rfl) (qv 0) ag pix) (ad (au (cv (K:=K) rfl) (qv 0) ag pix) (ad (aq bp (au (cv (K:=K) rfl) (qv 0) ag pix) (qv 1)) ah))))))
  (aj (aB (aq jv (aq jv (bn b7 (qv 4) bG (bx (qv 1))) (qv 5)) (bn b7 (qv 4) (bx (qv 2)) bG)))))))),?_⟩
 refine ⟨_,rfl,f,_,rfl,.inl (SqL.of hf),fun l hl=>?_⟩
 have s1:=ai (o:=.lst zs) hl
 have g1:=af (H:=H) (a:=l) (o:=.lst zs)
 have r1:a9 nv (upd H l (.lst zs)) zs:=fun v hv=>(rn v hv).stay fun b t e=>s1 b _ e
 generalize upd H l (.lst zs)=H1 at s1 g1 r1 ⊢
 have put:∀{H1:Hp} {xs:List V} {m:Nat} {R:Hp->Prop},H1 l=some (.lst xs)->a9 nv H1 xs->Same H H1->m<xs.length->∀(q:Addr) (a b:Int) (d:Deed),H1 q=some (.tup d.v)->d.inN nv->∀t,H1 t=none->(∀H2 ys,H2 l=some (.lst ys)->a9 nv H2 ys->ys.length=xs.length->Same H H2->R H2)->R (upd (upd H1 t (.tup [.ref q,.int a,.int b])) l (.lst (xs.set m (.ref t)))):=fun {H1 xs m R} h r s hm q a b d hq hd t ht kk=>by
  have s2:=ai (o:=.tup [.ref q,.int a,.int b]) ht
  have h2:=s2 _ _ h
  have tk:=gl (ys:=xs.set m (.ref t)) h2
  refine kk _ _ af (fun v hv=>?_) (List.length_set ..) (cp (s.trans s2) hl)
  refine RowN.stay (dC (fun v hv=>(r v hv).stay fun b t e=>s2 b _ e) ⟨t,q,d,a,b,rfl,af,s2 _ _ hq,hd⟩ m v hv) tk
 have at':∀{H1:Hp} {xs:List V} {m:Nat},a9 nv H1 xs->m<xs.length->∃ (a q:Addr) (d:Deed) (x y:Int),xs[m]?=some (.ref a)/\H1 a=some (.tup [.ref q,.int x,.int y])/\H1 q=some (.tup d.v)/\d.inN nv:=fun {H1 xs m} r hm=>by
  obtain ⟨a,q,d,x,y,e,h1,h2,h3⟩:=r _ (List.getElem_mem hm)
  exact ⟨a,q,d,x,y,by rw [List.getElem?_eq_getElem hm,e],h1,h2,h3⟩
 obtain ⟨p,q,d,x,y,ep,hp,hq,hd⟩:=at' r1 hi
 refine ⟨_,rfl,_,rfl,l,_,_,_,rfl,rfl,SqL.of g1,aU ep,p,_,_,_,rfl,rfl,SqT.of hp,rfl,?_⟩
 refine ⟨_,rfl,_,rfl,l,_,_,_,rfl,rfl,SqL.of g1,aU ep,p,_,_,_,rfl,rfl,SqT.of hp,rfl,_,rfl,_,_,rfl,rfl,?_⟩
 refine ⟨_,rfl,_,rfl,l,_,_,_,rfl,rfl,SqL.of g1,aU ep,p,_,_,_,rfl,rfl,SqT.of hp,rfl,sz3,fun t ht=>?_⟩
 refine ⟨_,rfl,_,rfl,l,_,_,i,rfl,rfl,ai ht _ _ g1,cx hi,?_⟩
 refine put g1 r1 s1 hi q (x+o) y d hq hd t ht (R:=fun H2=>_) fun H2 ys g2 r2 ly s2=>?_
 obtain ⟨p2,q2,d2,x2,y2,ep2,hp2,hq2,hd2⟩:=at' r2 (m:=j) zk
 refine ⟨_,rfl,_,rfl,l,_,_,_,rfl,rfl,SqL.of g2,aU ep2,p2,_,_,_,rfl,rfl,SqT.of hp2,rfl,?_⟩
 refine ⟨_,rfl,_,rfl,l,_,_,_,rfl,rfl,SqL.of g2,aU ep2,p2,_,_,_,rfl,rfl,SqT.of hp2,rfl,_,rfl,_,_,rfl,rfl,?_⟩
 refine ⟨_,rfl,_,rfl,l,_,_,_,rfl,rfl,SqL.of g2,aU ep2,p2,_,_,_,rfl,rfl,SqT.of hp2,rfl,sz3,fun t2 ht2=>?_⟩
 refine ⟨_,rfl,_,rfl,l,_,_,j,rfl,rfl,ai ht2 _ _ g2,cx zk,?_⟩
 refine put g2 r2 s2 zk q2 (x2-o) y2 d2 hq2 hd2 t2 ht2 (R:=fun H2=>_) fun H3 us g3 r3 lu s3=>?_
 clear put at' hp hq ep hp2 hq2 ep2 g1 r1 s1 g2 r2 s2 ht ht2
 obtain ⟨rc,lc⟩:=bY r3 (some (i:Int)) (some (j:Int))
 refine ⟨_,rfl,_,rfl,(i:Int),rfl,_,rfl,(j:Int),rfl,l,_,rfl,SqL.of g3,fun c hc=>?_⟩
 have s4:=ai (o:=.lst (a7 us (some (i:Int)) (some (j:Int)))) hc
 have g4:=af (H:=H3) (a:=c) (o:=.lst (a7 us (some (i:Int)) (some (j:Int))))
 generalize upd H3 c (.lst (a7 us (some (i:Int)) (some (j:Int))))=H4 at s4 g4 ⊢
 generalize a7 us (some (i:Int)) (some (j:Int))=cs at *
 have r4:a9 nv H4 cs:=fun v hv=>(rc v hv).stay fun b t e=>s4 b _ e
 refine ⟨c,rfl,⟨_,SqL.of g4⟩,fun D hD=>?_⟩
 refine ix (o:=o) g4 hD r4 zk (fun a q x1 y1 H5 Q ha kk=>?_) fun ys H5 h5 r5 l5 s5=>?_
 .refine ⟨_,rfl,a,_,_,_,rfl,rfl,SqT.of ha,rfl,?_⟩
  refine ⟨_,rfl,a,_,_,_,rfl,rfl,SqT.of ha,rfl,?_⟩
  exact ⟨_,rfl,a,_,_,_,rfl,rfl,SqT.of ha,rfl,_,rfl,_,_,rfl,rfl,sz3,kk⟩
 have s45:=s4.trans s5
 replace s45:=s3.trans s45
 have g5:=s5 _ _ (s4 _ _ g3)
 replace r3:a9 nv H5 us:=fun v hv=>(r3 v hv).stay fun b t e=>s5 b _ (s4 b _ e)
 obtain ⟨ra,la⟩:=bY r3 none (some (i:Int))
 obtain ⟨rb,lb⟩:=bY r3 (some (j:Int)) none
 refine ⟨_,rfl,_,rfl,(i:Int),rfl,l,_,rfl,SqL.of g5,fun c1 hc1=>?_⟩
 have s6:=ai (o:=.lst (a7 us none (some (i:Int)))) hc1
 have g6:=af (H:=H5) (a:=c1) (o:=.lst (a7 us none (some (i:Int))))
 generalize upd H5 c1 (.lst (a7 us none (some (i:Int))))=H6 at s6 g6 ⊢
 refine ⟨_,rfl,c1,D,_,_,rfl,rfl,g6,s6 _ _ h5,Nat.le_of_lt (aH zk),fun c2 hc2=>?_⟩
 have s7:=ai (o:=.lst (a7 us none (some (i:Int))++ys)) hc2
 have g7:=af (H:=H6) (a:=c2) (o:=.lst (a7 us none (some (i:Int))++ys))
 generalize upd H6 c2 (.lst (a7 us none (some (i:Int))++ys))=H7 at s7 g7 ⊢
 refine ⟨_,rfl,_,rfl,(j:Int),rfl,l,_,rfl,SqL.of (s7 _ _ (s6 _ _ g5)),fun c3 hc3=>?_⟩
 have s8:=ai (o:=.lst (a7 us (some (j:Int)) none)) hc3
 have g8:=af (H:=H7) (a:=c3) (o:=.lst (a7 us (some (j:Int)) none))
 generalize upd H7 c3 (.lst (a7 us (some (j:Int)) none))=H8 at s8 g8 ⊢
 have s68:=(s6.trans s7).trans s8
 refine ⟨c2,c3,_,_,rfl,rfl,s8 _ _ g7,g8,Nat.le_of_lt (aH (by rw [List.length_append];lia)),fun c4 hc4=>?_⟩
 have s9:=ai (o:=.lst (a7 us none (some (i:Int))++ys++a7 us (some (j:Int)) none)) hc4
 have s59:=s68.trans s9
 refine k c4 _ _ af ?_ (fun v hv=>RowN.stay (fK (fK ra r5) rb v hv) fun b t e=>s59 b _ e) (by rw [List.length_append,List.length_append];lia) (s45.trans s59)
 cases e:H c4 with
 | none=>rfl
 | some u=>rw [s68 _ _ (s45 _ _ e)] at hc4;cases hc4
structure Spo (K:W.Frag)(H:Hp)(pl sr:Addr)(is:List Int)(nv:List V)(q:Addr)(d:Deed)(i:Nat)(b:Prop)(m:Nat)(H':Hp)(f:Addr):Prop where
 ls:∃ zs,H' f=some (.lst zs)/\a9 nv H' zs/\zs.length<=m/\(b->i<zs.length)
 pi:Pile K H' pl sr is
 kp:Kept [pl] H H'
 fr:H f=none
 hq:H' q=some (.tup d.v)
theorem Spo.chg {K:W.Frag}{H H1 H2:Hp}{pl sr q f f':Addr}{is:List Int}{nv ys:List V}{d:Deed}{i m m':Nat}{b b':Prop}(S:Spo K H pl sr is nv q d i b m H1 f)(P0:Pile K H pl sr is)(s:Same H1 H2)(ff:H f'=none)(hf:H2 f'=none∨∃ zs,H2 f'=some (.lst zs))(r:a9 nv H2 ys)(l:ys.length<=m')(bd:b'->i<ys.length):Spo K H pl sr is nv q d i b' m' (upd H2 f' (.lst ys)) f':=by
 have tk:∀b t,H2 b=some (.tup t)->(upd H2 f' (.lst ys)) b=some (.tup t):=fun b t e=>by
  rw [ak (fun z=>by subst z;rcases hf with y | ⟨_,y⟩ <;> (rw [y] at e;cases e))]
  exact e
 refine ⟨⟨ys,af,fun v hv=>(r v hv).stay tk,l,bd⟩,?_,(S.kp.trans (Kept.of_same s)).newer ff,ff,tk _ _ (s _ _ S.hq)⟩
 exact (S.pi.same s).kept (F:=[f']) (fun b hb=>by rw [zm hb];exact P0.new ff) (Kept.refl.put zl)
theorem Spo.next {K:W.Frag}{H H1 H2:Hp}{pl sr q f:Addr}{is:List Int}{nv:List V}{d:Deed}{i m:Nat}{b:Prop}(S:Spo K H pl sr is nv q d i b m H1 f)(P0:Pile K H pl sr is)(P:Pile K H2 pl sr is)(k:Kept [pl] H1 H2):Spo K H pl sr is nv q d i b m H2 f:=by
 obtain ⟨zs,g,r,l,bd⟩:=S.ls
 have tk:=cy S.pi k
 exact ⟨⟨zs,k _ _ g (fun y=>(P0.new S.fr).1 (zm y)),fun v hv=>(r v hv).stay tk,l,bd⟩,P,S.kp.trans k,S.fr,tk _ _ S.hq⟩
theorem Spo.same {K:W.Frag}{H H1 H2:Hp}{pl sr q f:Addr}{is:List Int}{nv:List V}{d:Deed}{i m:Nat}{b:Prop}(S:Spo K H pl sr is nv q d i b m H1 f)(s:Same H1 H2):Spo K H pl sr is nv q d i b m H2 f:=by
 obtain ⟨zs,g,r,l,bd⟩:=S.ls
 exact ⟨⟨zs,s _ _ g,fun v hv=>(r v hv).stay fun b t e=>s b _ e,l,bd⟩,S.pi.same s,S.kp.trans (Kept.of_same s),S.fr,s _ _ S.hq⟩
theorem Spo.old {K:W.Frag}{H H1:Hp}{pl sr q f c:Addr}{is:List Int}{nv:List V}{d:Deed}{i m:Nat}{b:Prop}(S:Spo K H pl sr is nv q d i b m H1 f)(h:H1 c=none):H c=none:=by
 cases e:H c with
 | none=>rfl
 | some u =>
  by_cases z:c=pl
  .obtain ⟨u,e⟩:=S.pi.there
   rw [z,e] at h;cases h
  .rw [S.kp _ _ e fun y=>z (zm y)] at h;cases h
abbrev gk:Stmt:=top 45
theorem jz:FnScope ["pile","told","names","found","at","deed","work","purse","off","way","name","other"] ["pile","told","names"] (ao gk):=fsc fun nd=>⟨rfl,rfl,rfl,nd,rfl,zi,zi⟩
def jC (K:W.Frag):Sp:=fun vs H Q _=>∃ (pl sr:Addr) (is:List Int) (tl nl:Addr) (nv zs:List V),vs=[.ref pl,.ref tl,.ref nl]/\Pile K H pl sr is/\H nl=some (.lst nv)/\jG nv/\1<=nv.length/\nv.length<=200/\nl≠pl/\H tl=some (.lst zs)/\a9 nv H zs/\zs.length<=200 /\
 ∀(f:Addr) (ys:List V) (H':Hp),H' f=some (.lst ys)->a9 nv H' ys->ys.length<=600->Pile K H' pl sr is->Kept [pl] H H'->H f=none->Q (.ref f) H'
theorem oO {f fn fa:Addr}{fd fdn fda:FuncData}(F:Fun K "_law_spoilt" "_law_spoilt" gk f fd)(T:Bl mg)(G_law_next:aA P w K mg base CX0 1 fn fdn ["pile","most"] (cD K))(D_law_next:Nm K mg "_law_next" fn fdn ["pile","most"])
  (G_law_against:aA P w K mg base CX0 1 fa fda ["found","at","later","off"] iT) (D_law_against:Nm K mg "_law_against" fa fda ["found","at","later","off"]):aA P w K mg base CX0 2 f fd ["pile","told","names"] (jC K):=by
 have sc:=jz
 refine F.okQ jz (fun vs H Q E h=>?_) (fun cdv A outer s_ H vs Q E hr h=>?_)
 .obtain ⟨pl,sr,is,tl,nl,nv,zs,rfl,_⟩:=h
  rfl
 obtain ⟨pl,sr,is,tl,nl,nv,zs,rfl,P0,hnl,an,n1,n2,nnp,htl,rn,lz,k⟩:=h
 have hu:=hr.units0
 have no:∀b,b≠pl->b∉[pl]:=fun b n z=>n (zm z)
 refine ⟨_,(ae (qst 3 sc.nd (qcT eE T.z_list (ad (qv 1) ah)))
  (ae (aR (ar (eU hu) (qv 3) (aM ah) (az _)) (aj (aB (aM (ad (aI (ad (aI (ad av ah)) (ad ag (ad ag ah)))) ah)))) ay)
  (ae (qst 4 sc.nd (qcl G_law_next hr D_law_next aD (ad (qv 0) (ad (qcB aG T.z_len (ad (qv 3) ah)) ah))))
  (ae (be (au aw (qv 3) (qv 4) pix) (dW rfl (aN (aQ (i:=5) sc.nd rfl (Or.inl rfl)) (aN (aQ (i:=6) sc.nd rfl (Or.inl rfl)) (aN (aQ (i:=7) sc.nd rfl (Or.inl rfl)) b8)))))
  (ae (ic (i:=8) sc.nd rfl (Or.inr rfl) (au aw (aM (ad ag (ad (jO gy ag) (ad ag (ad (aq cY ag ag) ah))))) (qcl G_law_next hr D_law_next aD (ad (qv 0) (ad ag ah))) pix))
  (ae (qst 9 sc.nd (qcl G_law_next hr D_law_next aD (ad (qv 0) (ad ag ah))))
  (ae (aR (ar a8 (qv 9) ag (az _)) (aj (aB (qcl G_law_against hr D_law_against aD (ad (qv 3) (ad (qv 4) (ad (aq aF (qv 4) (qcl G_law_next hr D_law_next aD (ad (qv 0) (ad (aq bp (qcB aG T.z_len (ad (qv 3) ah)) (qv 4)) ah)))) (ad (qv 8) ah))))))) ay)
  (ae (bR (ar a8 (qv 9) ag (az _)) (aj (be (aI (ad (qv 5) (ad (aq aF (qv 6) (qv 8)) (ad (qv 7) ah)))) (bh (qv 3) (qv 4) aS))) ay)
  (ae (bR (ar a8 (qv 9) ag (az _)) (aj (be (aI (ad (qv 5) (ad (qv 6) (ad (aq aF (qv 7) (qv 8)) ah)))) (bh (qv 3) (qv 4) aS))) ay)
  (ae (bR (ar a8 (qv 9) ag (az _)) (ae (be (aI (ad (qv 5) (ad (aq aF (qv 6) (qv 8)) (ad (aq bp (qv 7) (qv 8)) ah)))) (bh (qv 3) (qv 4) aS))
  (aj (qst 3 sc.nd (aq jv (bn b7 (qv 3) bG (bx (aq aF (qv 4) ag))) (cu (Blk.of (N:=["pile","told","names","found","at","deed","work","purse","off","way","name","other"]) (esc:=ao gk) (NB:=["off"]) (cap:=[8]) rfl rfl (fun y hy=>bo hy) rfl zi zi zi rfl zi rfl zi) rfl rfl (bS (bn b7 (qv 3) (bx (aq aF (qv 4) ag)) bG)) (fun C fp s₀ H₀=>cg) (fun C fp s₀ H₀=>(aI (ad (au (cv (K:=K) rfl) (qv 0) ag pix) (ad (au (cv (K:=K) rfl) (qv 0) ag pix) (ad (aq bp (au (cv (K:=K) rfl) (qv 0) ag pix) (qv 1)) ah)))))))))) ay)
  (ae (bR (ar a8 (qv 9) ag (az _)) (aj (aK (bJ PySem.F.plainAttrs_list PySem.F.slot_list_pop PySem.F.type_list_pop jT (qv 3) (ad (qv 4) ah)))) ay)
  (ae (bR (ar a8 (qv 9) ag (az _)) (aj (aK (bJ PySem.F.plainAttrs_list PySem.F.slot_list_insert PySem.F.type_list_insert ir (qv 3) (ad (qv 4) (ad (au aw (qv 3) (qv 4) pix) ah))))) ay)
  (ae (bR (QW.pt (fz (ar a8 (qv 9) ag (az _)) (dI (ar cV (aq aF (qv 4) ag) (qcB aG T.z_len (ad (qv 3) ah)) (az _))))) (aj (be (aI (ad (au aw (qv 3) (aq aF (qv 4) ag) pix) (ad (au aw (qv 3) (qv 4) pix) ah))) (dW rfl (aN (bh (qv 3) (qv 4) aS) (aN (bh (qv 3) (aq aF (qv 4) ag) aS) b8))))) ay)
  (ae (qst 10 sc.nd (au aw (qv 2) (qcl G_law_next hr D_law_next aD (ad (qv 0) (ad (qcB aG T.z_len (ad (qv 2) ah)) ah))) pix))
  (ae (qst 11 sc.nd (au aw (aM (ad (aI (ad av (ad (qv 10) (ad ag ah)))) (ad (aI (ad av (ad (qv 10) ah))) (ad (aI (ad av (ad (qv 10) (ad ag ah)))) (ad (aI (ad av ah)) (ad (aI (ad av ah)) ah)))))) (qcl G_law_next hr D_law_next aD (ad (qv 0) (ad ag ah))) pix))
  (ae (bR (ar a8 (qv 9) ag (az _)) (aj (be (aI (ad (qv 11) (ad (qv 6) (ad (qv 7) ah)))) (bh (qv 3) (qv 4) aS))) ay)
  (ae (bR (ar a8 (qv 9) ag (az _)) (aj (aK (bJ PySem.F.plainAttrs_list PySem.F.slot_list_insert PySem.F.type_list_insert ir (qv 3) (ad (qv 4) (ad (aI (ad (qv 11) (ad ag (ad (qv 7) ah)))) ah))))) ay)
  (ae (bR (ar a8 (qv 9) ag (az _)) (aj (qst 3 sc.nd (bn b7 (qv 3) bG (bx (qv 4))))) ay)
  (ae (bR (ar a8 (qv 9) ag (az _)) (aj (qst 3 sc.nd (bn b7 (qv 3) (bx (qv 4)) bG))) ay)
  (aj (aB (qv 3)))))))))))))))))))))),?_⟩
 refine ⟨_,rfl,tl,_,rfl,.inl (SqL.of htl),fun f0 hf0=>?_⟩
 refine cU hf0 fun H1 s1 g1=>?_--@0
 refine ⟨_,rfl,sz0,fun e0 he0=>?_⟩
 have s2:=ai (o:=.lst []) he0
 have g2:=af (H:=H1) (a:=e0) (o:=.lst [])
 generalize upd H1 e0 (.lst [])=H2 at s2 g2 ⊢
 refine ⟨f0,e0,zs,rfl,rfl,SqL.of (s2 _ _ g1),SqL.of g2,_,rfl,aE (fun c=>?_) (fun c=>?_)⟩
 .refine ⟨sz1,fun q hq=>⟨sz3,fun t ht=>⟨sz1,fun l hl=>?_⟩⟩⟩
  have s3:=ai (o:=.tup [.str "take"]) hq
  have s4:=ai (o:=.tup [.ref q,.int 0,.int 0]) ht
  have s5:=ai (o:=.lst [.ref t]) hl
  have s25:=(((s1.trans s2).trans s3).trans s4)
  refine k l [.ref t] _ af (fun v hv=>?_) (by show 1<=600;decide) (P0.same (s25.trans s5)) (Kept.of_same (s25.trans s5)) ?_
  .rw [zm hv]
   exact ⟨t,q,.take,0,0,rfl,s5 _ _ af,s5 _ _ (s4 _ _ af),trivial⟩
  .cases e:H l with
   | none=>rfl
   | some u=>rw [s25 _ _ e] at hl;cases hl
 have z0:0<zs.length:=by
  cases zs with
  | nil=>exact absurd (decide_eq_true rfl) c
  | cons _ _=>exact Nat.succ_pos _
 have P2:=P0.same (s1.trans s2)
 have big:∀m:Nat,m<=200->(m:Int)<2 ^ 120:=fun m h=>Int.lt_of_le_of_lt (show (m:Int)<=200 by lia) zj
 have f0p:=(P0.new hf0).1
 refine ⟨_,rfl,_,rfl,f0,_,rfl,.inl (SqL.of (s2 _ _ g1)),pl,sr,is,_,rfl,P2,zk,big _ lz,fun i' H3 i0 i1 P3 K3 N3=>?_⟩
 obtain ⟨i,ei⟩:∃ i:Nat,i'=(i:Int):=⟨i'.toNat,(Int.toNat_of_nonneg i0).symm⟩
 subst ei
 have hi:i<zs.length:=by lia
 have g3:=K3 _ _ (s2 _ _ g1) (no f0 f0p)
 have tk3:∀b l,H b=some (.tup l)->H3 b=some (.tup l):=fun b l e=>K3 _ _ ((s1.trans s2) _ _ e) (no b (df P0 e (fun _ z=>nomatch z)))
 have r3:a9 nv H3 zs:=fun v hv=>(rn v hv).stay tk3
 obtain ⟨p,q,d,x,y,ep,hp,hq,hd⟩:=r3 _ (List.getElem_mem hi)
 refine ⟨_,rfl,_,rfl,f0,_,_,_,rfl,rfl,SqL.of g3,aU (List.getElem?_eq_getElem hi),?_⟩
 rw [ep]
 refine ⟨p,_,rfl,SqT.of hp,rfl,_,_,rfl,_,_,rfl,_,_,rfl,rfl,?_⟩
 refine ⟨_,rfl,_,_,rfl,rfl,⟨zj,zj,zj⟩,sz4,fun l1 hl1=>?_⟩
 have s4:=ai (o:=.lst [.int 1,.int (-1),.int 2,.int ((10:Int) ^ (20:Int).toNat)]) hl1
 have g4:=af (H:=H3) (a:=l1) (o:=.lst [.int 1,.int (-1),.int 2,.int ((10:Int) ^ (20:Int).toNat)])
 generalize upd H3 l1 (.lst [.int 1,.int (-1),.int 2,.int ((10:Int) ^ (20:Int).toNat)])=H4 at s4 g4 ⊢
 have P4:=P3.same s4
 refine ⟨_,rfl,pl,sr,is,4,rfl,P4,zj,zj,fun u H5 u0 u1 P5 K5 N5=>?_⟩
 obtain ⟨v,ev,mv⟩:=cC (l:=([.int 1,.int (-1),.int 2,.int ((10:Int) ^ (20:Int).toNat)]:List V)) (i:=u) u0 u1
 obtain ⟨off,rfl⟩:∃ off:Int,v=.int off:=by
  simp only [List.mem_cons,List.not_mem_nil,or_false] at mv
  rcases mv with h | h | h | h <;> exact ⟨_,h⟩
 refine ⟨l1,_,_,_,rfl,rfl,SqL.of (K5 _ _ g4 (no l1 (P3.new hl1).1)),ev,?_⟩
 refine ⟨_,rfl,pl,sr,is,11,rfl,P5,zj,zj,fun wy H6 wy0 wy1 P6 K6 N6=>?_⟩
 have K36:Kept [pl] H3 H6:=((Kept.of_same s4).trans K5).trans K6
 have tk6:∀b l,H3 b=some (.tup l)->H6 b=some (.tup l):=fun b l e=>K36 _ _ e (no b (df P3 e (fun _ z=>nomatch z)))
 have g6:=K36 _ _ g3 (no f0 f0p)
 have r6:a9 nv H6 zs:=fun v hv=>(r3 v hv).stay tk6
 have S:Spo K H pl sr is nv q d i True zs.length H6 f0:=⟨⟨zs,g6,r6,Nat.le_refl _,fun _=>hi⟩,P6,((Kept.of_same (s1.trans s2)).trans K3).trans K36,hf0,tk6 _ _ hq⟩
 clear g1 g2 g3 g4 s1 s2 s4 K3 K5 K6 N3 N5 N6 P2 P3 P4 P5 tk3 r3 K36 tk6 hq hp mv ev hl1 he0
 refine ⟨_,rfl,rfl,_,rfl,aE (fun _=>?_) (fun _=>?_)⟩
 .refine ⟨_,rfl,_,rfl,_,rfl,_,rfl,_,rfl,f0,_,rfl,.inl (SqL.of g6),_,rfl,_,_,rfl,rfl,pl,sr,is,_,rfl,P6,zk,Int.lt_of_le_of_lt (show (zs.length:Int)-(i:Int)<=200 by lia) zj,fun e H7 e0 e1 P7 K7 N7=>?_⟩
  have tk7:=cy P6 K7
  refine ⟨_,_,rfl,rfl,_,rfl,f0,i,i+e.toNat,off,zs,nv,?_,K7 _ _ g6 (no f0 f0p),(fun v hv=>(r6 v hv).stay tk7),hi,zk,lz,fun f ys H8 h8 fr8 r8 l8 s8=>?_⟩
  .rw [show ((i+e.toNat:Nat):Int)=(i:Int)+e by lia]
   rfl
  .refine k f ys H8 h8 r8 l8 (P7.same s8) ((S.kp.trans K7).trans (Kept.of_same s8)) ?_
   exact (S.next P0 P7 K7).old fr8
 obtain ⟨J,jI,jE⟩:∃ J:Prop->Nat->St->Hp->Prop,(∀b m f H',Spo K H pl sr is nv q d i b m H' f->J b m [some (.ref pl),some (.ref tl),some (.ref nl),some (.ref f),some (.int (i:Int)),some (.ref q),some (.int x),some (.int y),some (.int off),some (.int wy),none,none] H')/\∀b m σ' H',J b m σ' H'->∃ f,σ'=[some (.ref pl),some (.ref tl),some (.ref nl),some (.ref f),some (.int (i:Int)),some (.ref q),some (.int x),some (.int y),some (.int off),some (.int wy),none,none]/\Spo K H pl sr is nv q d i b m H' f:=⟨fun b m σ' H'=>∃ f,σ'=[some (.ref pl),some (.ref tl),some (.ref nl),some (.ref f),some (.int (i:Int)),some (.ref q),some (.int x),some (.int y),some (.int off),some (.int wy),none,none]/\Spo K H pl sr is nv q d i b m H' f,fun b m f H' S=>⟨f,rfl,S⟩,fun _ _ _ _ h=>h⟩
 have row:∀{b m H1 f q0 d0} (S:Spo K H pl sr is nv q0 d0 i b m H1 f) (q':Addr) (d':Deed) (a c:Int),H1 q'=some (.tup d'.v)->d'.inN nv->∀t,H1 t=none->∀zs,H1 f=some (.lst zs)->Spo K H pl sr is nv q0 d0 i b m (upd (upd H1 t (.tup [.ref q',.int a,.int c])) f (.lst (zs.set i (.ref t)))) f:=fun {b m H1 f q0 d0} S q' d' a c h1 h2 t ht zs hz=>by
  obtain ⟨zs',g,r,l,bd⟩:=S.ls
  rw [hz] at g
  cases g
  have s:=ai (o:=.tup [.ref q',.int a,.int c]) ht
  exact S.chg P0 s S.fr (.inr ⟨zs,s _ _ hz⟩) (dC (fun v hv=>(r v hv).stay fun b t e=>s b _ e) ⟨t,q',d',a,c,rfl,af,s _ _ h1,h2⟩ i) (by rw [List.length_set];exact l) (fun h=>by rw [List.length_set];exact bd h)
 have ins:∀{H1:Hp} {ys:List V} {v:V} {k:Nat},a9 nv H1 ys->RowN nv H1 v->a9 nv H1 (ys.take k++v::ys.drop k):=fun {H1 ys v k} r hv x hx=>by
  rcases List.mem_append.mp hx with y | y
  .exact r x (List.mem_of_mem_take y)
  .rcases List.mem_cons.mp y with y | y
   .rw [y];exact hv
   .exact r x (List.mem_of_mem_drop y)
 have insl:∀{ys:List V} {v:V} {k:Nat},k<ys.length->(ys.take k++v::ys.drop k).length=ys.length+1:=fun {ys v k} h=>by
  rw [List.length_append,List.length_cons,List.length_take,List.length_drop];lia
 have wid:∀{b m m' H1 f q0 d0},Spo K H pl sr is nv q0 d0 i b m H1 f->m<=m'->Spo K H pl sr is nv q0 d0 i b m' H1 f:=fun {b m m' H1 f q0 d0} S h=>⟨by obtain ⟨zs,g,r,l,bd⟩:=S.ls;exact ⟨zs,g,r,Nat.le_trans l h,bd⟩,S.pi,S.kp,S.fr,S.hq⟩
 refine ⟨J True zs.length,⟨_,rfl,rfl,_,rfl,aE (fun c=>?_) (fun _=>jI _ _ _ _ S)⟩,fun σ' H' h=>?_⟩
 .refine ⟨_,rfl,_,rfl,_,rfl,_,_,rfl,rfl,_,rfl,sz3,fun t ht=>?_⟩
  exact ⟨_,rfl,_,rfl,f0,_,_,i,rfl,rfl,ai ht _ _ g6,cx hi,jI _ _ _ _ (row S q d (x+off) y S.hq hd t ht zs g6)⟩
 clear g6 r6 P6 S
 obtain ⟨f1,rfl,S⟩:=jE _ _ _ _ h
 clear h
 refine ⟨J True zs.length,⟨_,rfl,rfl,_,rfl,aE (fun c=>?_) (fun _=>jI _ _ _ _ S)⟩,fun σ' H' h=>?_⟩
 .obtain ⟨ys,g,r,l,bd⟩:=S.ls
  refine ⟨_,rfl,_,rfl,_,rfl,_,rfl,_,_,rfl,rfl,sz3,fun t ht=>?_⟩
  exact ⟨_,rfl,_,rfl,f1,_,_,i,rfl,rfl,ai ht _ _ g,cx (bd trivial),jI _ _ _ _ (row S q d x (y+off) S.hq hd t ht ys g)⟩
 clear S
 obtain ⟨f1,rfl,S⟩:=jE _ _ _ _ h
 clear h
 refine ⟨J True (2*zs.length),⟨_,rfl,rfl,_,rfl,aE (fun c=>?_) (fun _=>jI _ _ _ _ (wid S zk))⟩,fun σ' H' h=>?_⟩
 .obtain ⟨ys,g,r,l,bd⟩:=S.ls
  refine ⟨_,rfl,_,rfl,_,rfl,_,_,rfl,rfl,_,rfl,_,rfl,_,_,rfl,rfl,sz3,fun t ht=>?_⟩
  refine ⟨_,rfl,_,rfl,f1,_,_,i,rfl,rfl,ai ht _ _ g,cx (bd trivial),?_⟩
  have S2:=row S q d (x+off) (y-off) S.hq hd t ht ys g
  generalize upd (upd H' t (.tup [.ref q,.int (x+off),.int (y-off)])) f1 (.lst (ys.set i (.ref t)))=H2 at S2 ⊢
  obtain ⟨us,g2,r2,l2,bd2⟩:=S2.ls
  have bi:=bd2 trivial
  obtain ⟨ra,la⟩:=bY r2 none (some ((i:Int)+1))
  obtain ⟨rb,lb⟩:=bY r2 (some ((i:Int)+1)) none
  have lt:(a7 us none (some ((i:Int)+1))).length=i+1:=by rw [show (i:Int)+1=((i+1:Nat):Int) by lia,eJ,List.length_take];lia
  refine ⟨_,rfl,_,rfl,_,_,rfl,rfl,_,rfl,f1,_,rfl,SqL.of g2,fun c1 hc1=>?_⟩
  have s3:=ai (o:=.lst (a7 us none (some ((i:Int)+1)))) hc1
  have g3:=af (H:=H2) (a:=c1) (o:=.lst (a7 us none (some ((i:Int)+1))))
  generalize upd H2 c1 (.lst (a7 us none (some ((i:Int)+1))))=H3 at s3 g3 ⊢
  refine ⟨_,rfl,_,rfl,_,_,rfl,rfl,_,rfl,f1,_,rfl,SqL.of (s3 _ _ g2),fun c2 hc2=>?_⟩
  have s4:=ai (o:=.lst (a7 us (some ((i:Int)+1)) none)) hc2
  have g4:=af (H:=H3) (a:=c2) (o:=.lst (a7 us (some ((i:Int)+1)) none))
  generalize upd H3 c2 (.lst (a7 us (some ((i:Int)+1)) none))=H4 at s4 g4 ⊢
  have s24:=s3.trans s4
  refine ⟨c2,rfl,⟨_,SqL.of g4⟩,fun D hD=>?_⟩
  refine ix (o:=off) g4 hD (fun v hv=>(rb v hv).stay fun b t e=>s24 b _ e) zk (fun a q x1 y1 H5 Q ha kk=>?_) fun ws H5 h5 r5 l5 s5=>?_
  .refine ⟨_,rfl,a,_,_,_,rfl,rfl,SqT.of ha,rfl,?_⟩
   refine ⟨_,rfl,a,_,_,_,rfl,rfl,SqT.of ha,rfl,?_⟩
   exact ⟨_,rfl,a,_,_,_,rfl,rfl,SqT.of ha,rfl,_,rfl,_,_,rfl,rfl,sz3,kk⟩
  have s25:=s24.trans s5
  refine ⟨c1,D,_,_,rfl,rfl,s5 _ _ (s4 _ _ g3),h5,Nat.le_of_lt (aH zk),fun c3 hc3=>?_⟩
  exact jI _ _ _ _ (S2.chg P0 s25 ((S2.same s25).old hc3) (.inl hc3) (fK (fun v hv=>(ra v hv).stay fun b t e=>s25 b _ e) r5) (by rw [List.length_append];lia) (fun _=>by rw [List.length_append];lia))
 clear S
 obtain ⟨f1,rfl,S⟩:=jE _ _ _ _ h
 clear h
 refine ⟨J (wy≠3) (2*zs.length),⟨_,rfl,rfl,_,rfl,aE (fun c=>?_) (fun _=>jI _ _ _ _ ⟨(let ⟨ys,g,r,l,bd⟩:=S.ls;⟨ys,g,r,l,fun _=>bd trivial⟩),S.pi,S.kp,S.fr,S.hq⟩)⟩,fun σ' H' h=>?_⟩
 .obtain ⟨ys,g,r,l,bd⟩:=S.ls
  have bi:=bd trivial
  refine ⟨_,rfl,.inl ⟨rfl,_,SqL.of g⟩,_,rfl,f1,ys,(i:Int),i,ys[i],rfl,rfl,g,zk,zk,PySem.StrLaws.seqIndex_nonneg zk zk,List.getElem?_eq_getElem bi,?_⟩
  exact jI _ _ _ _ (S.chg P0 (Same.refl _) S.fr (.inr ⟨ys,g⟩) (fun v hv=>r v (List.mem_of_mem_eraseIdx hv)) (Nat.le_trans (List.length_eraseIdx_le ..) l) (fun h=>absurd (V.int.inj (of_decide_eq_true c)) h))
 clear S
 obtain ⟨f1,rfl,S⟩:=jE _ _ _ _ h
 clear h
 refine ⟨J (wy≠3) (2*zs.length+1),⟨_,rfl,rfl,_,rfl,aE (fun c=>?_) (fun _=>jI _ _ _ _ (wid S zk))⟩,fun σ' H' h=>?_⟩
 .have hw:wy≠3:=by rw [V.int.inj (of_decide_eq_true c)];decide
  obtain ⟨ys,g,r,l,bd⟩:=S.ls
  have bi:=bd hw
  refine ⟨_,rfl,.inl ⟨rfl,_,SqL.of g⟩,_,rfl,_,rfl,_,rfl,f1,_,_,_,rfl,rfl,SqL.of g,aU (List.getElem?_eq_getElem bi),f1,ys,(i:Int),i,ys[i],rfl,rfl,rfl,g,zk,zk,?_⟩
  exact jI _ _ _ _ (S.chg P0 (Same.refl _) S.fr (.inr ⟨ys,g⟩) (ins r (r _ (List.getElem_mem bi))) (by rw [insl bi];lia) (fun _=>by rw [insl bi];lia))
 clear S
 obtain ⟨f1,rfl,S⟩:=jE _ _ _ _ h
 clear h
 refine ⟨J (wy≠3) (2*zs.length+1),⟨_,rfl,rfl,_,rfl,aE (fun c=>?_) (fun _=>gf (jI _ _ _ _ S))⟩,fun σ' H' h=>?_⟩
 .have hw:wy≠3:=by rw [V.int.inj (of_decide_eq_true c)];decide
  obtain ⟨ys,g,r,l,bd⟩:=S.ls
  have bi:=bd hw
  refine ⟨_,rfl,_,_,rfl,rfl,_,rfl,f1,_,rfl,.inl (SqL.of g),_,_,rfl,rfl,_,rfl,aE (fun c2=>?_) (fun _=>jI _ _ _ _ S)⟩
  have b2:i+1<ys.length:=by have:(i:Int)+1<(ys.length:Int):=of_decide_eq_true c2;lia
  have e1:((i:Int)+1)=((i+1:Nat):Int):=by lia
  refine ⟨_,rfl,_,rfl,_,_,rfl,rfl,f1,_,_,_,rfl,rfl,SqL.of g,(by rw [e1];exact aU (List.getElem?_eq_getElem b2)),?_⟩
  refine ⟨_,rfl,_,rfl,f1,_,_,_,rfl,rfl,SqL.of g,aU (List.getElem?_eq_getElem bi),sz2,fun t ht=>?_⟩
  have s2:=ai (o:=.tup [ys[i+1],ys[i]]) ht
  refine ⟨t,_,rfl,SqT.of af,rfl,_,_,rfl,_,rfl,_,rfl,f1,_,_,i,rfl,rfl,s2 _ _ g,cx bi,?_⟩
  refine ⟨_,_,rfl,_,rfl,_,rfl,_,_,rfl,rfl,f1,_,_,i+1,rfl,rfl,af,(by rw [e1];exact cx (by rw [List.length_set];exact b2)),rfl,?_⟩
  have S1:=S.chg (b':=wy≠3) (m':=2*zs.length+1) P0 s2 S.fr (.inr ⟨ys,s2 _ _ g⟩) (dC (fun v hv=>(r v hv).stay fun b t e=>s2 b _ e) ((r _ (List.getElem_mem b2)).stay fun b t e=>s2 b _ e) i) (by rw [List.length_set];exact l) (fun _=>by rw [List.length_set];exact bi)
  obtain ⟨ws,gw,rw_,lw,bw⟩:=S1.ls
  rw [af] at gw
  cases gw
  exact jI _ _ _ _ (S1.chg P0 (Same.refl _) S1.fr (.inr ⟨_,af⟩) (dC rw_ (((r _ (List.getElem_mem bi)).stay fun b t e=>s2 b _ e).stay (gl (s2 _ _ g))) (i+1)) (by rw [List.length_set];exact lw) (fun h=>by rw [List.length_set];exact bw h))
 clear S
 obtain ⟨f1,rfl,S⟩:=jE _ _ _ _ h
 clear h
 have hn1:=S.kp _ _ hnl (no nl nnp)
 refine ⟨_,rfl,_,rfl,_,rfl,nl,_,rfl,.inl (SqL.of hn1),pl,sr,is,_,rfl,S.pi,zk,big _ n2,fun u1 H7 u10 u11 P7 K7 N7=>?_⟩
 obtain ⟨v,ev,mv⟩:=cC (l:=nv) (i:=u1) u10 u11
 obtain ⟨n,rfl,_⟩:=an v mv
 refine ⟨nl,_,_,_,rfl,rfl,SqL.of (K7 _ _ hn1 (no nl nnp)),ev,?_⟩
 replace S:=S.next P0 P7 K7
 clear P7 K7 N7 hn1 ev
 refine ⟨_,rfl,sz3,fun t1 ht1=>?_⟩
 have q1:=ai (H:=H7) (o:=.tup [.str "put",.str n,.int 3]) ht1
 have r1:=af (H:=H7) (a:=t1) (o:=.tup [.str "put",.str n,.int 3])
 generalize upd H7 t1 (.tup [.str "put",.str n,.int 3])=HB at q1 r1 ⊢
 refine ⟨_,rfl,sz2,fun t2 ht2=>?_⟩
 have q2:=ai (H:=HB) (o:=.tup [.str "drop",.str n]) ht2
 have r2:=af (H:=HB) (a:=t2) (o:=.tup [.str "drop",.str n])
 generalize upd HB t2 (.tup [.str "drop",.str n])=HC at q2 r2 ⊢
 refine ⟨_,rfl,sz3,fun t3 ht3=>?_⟩
 refine cU ht3 fun HD q3 r3=>?_--@7
 refine ⟨sz1,fun t4 ht4=>?_⟩
 refine cU ht4 fun HE q4 r4=>?_--@8
 refine ⟨sz1,fun t5 ht5=>?_⟩
 refine cU ht5 fun HF q5 r5=>?_--@9
 refine ⟨sz5,fun kl hkl=>?_⟩
 have q6:=ai (H:=HF) (o:=.lst [.ref t1,.ref t2,.ref t3,.ref t4,.ref t5]) hkl
 have r6:=af (H:=HF) (a:=kl) (o:=.lst [.ref t1,.ref t2,.ref t3,.ref t4,.ref t5])
 generalize upd HF kl (.lst [.ref t1,.ref t2,.ref t3,.ref t4,.ref t5])=HG at q6 r6 ⊢
 replace S:=S.same ((((q1.trans q2).trans q3).trans q4).trans q5)
 have nkl:kl≠pl:=by
  obtain ⟨u,e⟩:=S.pi.there
  exact (am e hkl).symm
 replace S:=S.same q6
 refine ⟨_,rfl,pl,sr,is,5,rfl,S.pi,zj,zj,fun u2 HH u20 u21 P8 K8 N8=>?_⟩
 obtain ⟨v,ev,mv2⟩:=cC (l:=([.ref t1,.ref t2,.ref t3,.ref t4,.ref t5]:List V)) (i:=u2) u20 u21
 refine ⟨kl,_,_,_,rfl,rfl,SqL.of (K8 _ _ r6 (no kl nkl)),ev,?_⟩
 have tk8:=cy S.pi K8
 obtain ⟨od,dd,rfl,hod,ind⟩:∃ (od:Addr) (dd:Deed),v=.ref od/\HH od=some (.tup dd.v)/\dd.inN nv:=by
  simp only [List.mem_cons,List.not_mem_nil,or_false] at mv2
  rcases mv2 with h | h | h | h | h
  .exact ⟨t1,.put n 3,h,tk8 _ _ (q6 _ _ (q5 _ _ (q4 _ _ (q3 _ _ (q2 _ _ r1))))),mv⟩
  .exact ⟨t2,.drop n,h,tk8 _ _ (q6 _ _ (q5 _ _ (q4 _ _ (q3 _ _ r2)))),mv⟩
  .exact ⟨t3,.change n 3,h,tk8 _ _ (q6 _ _ (q5 _ _ (q4 _ _ r3))),mv⟩
  .exact ⟨t4,.take,h,tk8 _ _ (q6 _ _ (q5 _ _ r4)),trivial⟩
  .exact ⟨t5,.least,h,tk8 _ _ (q6 _ _ r5),trivial⟩
 replace S:=S.next P0 P8 K8
 replace S:Spo K H pl sr is nv od dd i (wy≠3) (2*zs.length+1) HH f1:=⟨S.ls,S.pi,S.kp,S.fr,hod⟩
 clear q1 q2 q3 q4 q5 q6 r1 r2 r3 r4 r5 r6 P8 K8 N8 tk8 hod ev mv2 jI jE J
 obtain ⟨J,jI,jE⟩:∃ J:Prop->Nat->St->Hp->Prop,(∀b m f H',Spo K H pl sr is nv od dd i b m H' f->J b m [some (.ref pl),some (.ref tl),some (.ref nl),some (.ref f),some (.int (i:Int)),some (.ref q),some (.int x),some (.int y),some (.int off),some (.int wy),some (.str n),some (.ref od)] H')/\∀b m σ' H',J b m σ' H'->∃ f,σ'=[some (.ref pl),some (.ref tl),some (.ref nl),some (.ref f),some (.int (i:Int)),some (.ref q),some (.int x),some (.int y),some (.int off),some (.int wy),some (.str n),some (.ref od)]/\Spo K H pl sr is nv od dd i b m H' f:=⟨fun b m σ' H'=>∃ f,σ'=[some (.ref pl),some (.ref tl),some (.ref nl),some (.ref f),some (.int (i:Int)),some (.ref q),some (.int x),some (.int y),some (.int off),some (.int wy),some (.str n),some (.ref od)]/\Spo K H pl sr is nv od dd i b m H' f,fun b m f H' S=>⟨f,rfl,S⟩,fun _ _ _ _ h=>h⟩
 refine ⟨J (wy≠3) (2*zs.length+1),⟨_,rfl,rfl,_,rfl,aE (fun c=>?_) (fun _=>jI _ _ _ _ S)⟩,fun σ' H' h=>?_⟩
 .have hw:wy≠3:=by rw [V.int.inj (of_decide_eq_true c)];decide
  obtain ⟨ys,g,r,l,bd⟩:=S.ls
  refine ⟨_,rfl,_,rfl,_,rfl,sz3,fun t ht=>?_⟩
  exact ⟨_,rfl,_,rfl,f1,_,_,i,rfl,rfl,ai ht _ _ g,cx (bd hw),jI _ _ _ _ (row S od dd x y S.hq ind t ht ys g)⟩
 clear S
 obtain ⟨f1,rfl,S⟩:=jE _ _ _ _ h
 clear h
 refine ⟨J False (2*zs.length+2),⟨_,rfl,rfl,_,rfl,aE (fun c=>?_) (fun _=>jI _ _ _ _ ⟨(let ⟨ys,g,r,l,bd⟩:=S.ls;⟨ys,g,r,zk,fun h=>h.elim⟩),S.pi,S.kp,S.fr,S.hq⟩)⟩,fun σ' H' h=>?_⟩
 .have hw:wy≠3:=by rw [V.int.inj (of_decide_eq_true c)];decide
  obtain ⟨ys,g,r,l,bd⟩:=S.ls
  have bi:=bd hw
  refine ⟨_,rfl,.inl ⟨rfl,_,SqL.of g⟩,_,rfl,_,rfl,_,rfl,sz3,fun t ht=>?_⟩
  have s2:=ai (o:=.tup [.ref od,.int 0,.int y]) ht
  refine ⟨f1,ys,(i:Int),i,.ref t,rfl,rfl,rfl,s2 _ _ g,zk,zk,?_⟩
  exact jI _ _ _ _ (S.chg P0 s2 S.fr (.inr ⟨ys,s2 _ _ g⟩) (ins (fun v hv=>(r v hv).stay fun b t e=>s2 b _ e) ⟨t,od,dd,0,y,rfl,af,s2 _ _ S.hq,ind⟩) (by rw [insl bi];lia) (fun h=>h.elim))
 clear S
 obtain ⟨f1,rfl,S⟩:=jE _ _ _ _ h
 clear h
 refine ⟨J False (2*zs.length+2),⟨_,rfl,rfl,_,rfl,aE (fun c=>?_) (fun _=>jI _ _ _ _ S)⟩,fun σ' H' h=>?_⟩
 .obtain ⟨ys,g,r,l,bd⟩:=S.ls
  obtain ⟨ra,la⟩:=bY r none (some (i:Int))
  exact ⟨_,rfl,_,rfl,(i:Int),rfl,f1,_,rfl,SqL.of g,fun c1 hc1=>jI _ _ _ _ (S.chg P0 (Same.refl _) (S.old hc1) (.inl hc1) ra zk (fun h=>h.elim))⟩
 clear S
 obtain ⟨f1,rfl,S⟩:=jE _ _ _ _ h
 clear h
 refine ⟨J False (2*zs.length+2),⟨_,rfl,rfl,_,rfl,aE (fun c=>?_) (fun _=>jI _ _ _ _ S)⟩,fun σ' H' h=>?_⟩
 .obtain ⟨ys,g,r,l,bd⟩:=S.ls
  obtain ⟨ra,la⟩:=bY r (some (i:Int)) none
  exact ⟨_,rfl,_,rfl,(i:Int),rfl,f1,_,rfl,SqL.of g,fun c1 hc1=>jI _ _ _ _ (S.chg P0 (Same.refl _) (S.old hc1) (.inl hc1) ra zk (fun h=>h.elim))⟩
 clear S
 obtain ⟨f1,rfl,S⟩:=jE _ _ _ _ h
 clear h
 obtain ⟨ys,g,r,l,bd⟩:=S.ls
 exact ⟨_,rfl,k f1 ys H' g r zk S.pi S.kp S.fr⟩
theorem m9 {nv:List V}{H:Hp}:∀{ys:List V},a9 nv H ys->∃ rs,LgAt H ys rs/\∀r∈rs,r.1.inN nv
 | [],_=>⟨[],.nil,(fun _ h=>nomatch h)⟩
 | y::ys,h=>by
  obtain ⟨a,q,d,i,j,e,h1,h2,h3⟩:=h y List.mem_cons_self
  obtain ⟨rs,lg,ni⟩:=m9 (ys:=ys) fun v hv=>h v (List.mem_cons_of_mem _ hv)
  refine ⟨(d,i,j)::rs,.cons ⟨a,q,e,h1,h2⟩ lg,fun r hr=>?_⟩
  rcases List.mem_cons.mp hr with y | y
  .rw [y];exact h3
  .exact ni r y
theorem qq {nv:List V}{H:Hp}{zs dz:List V}{ds:List Deed}{rows:List (Int×Int)}(h:LedAt H zs dz rows)(dd:DDs H dz ds)(hl:rows.length=ds.length)(ni:∀d∈ds,d.inN nv):a9 nv H zs:=fun v hv=>by
 obtain ⟨i,hi,e⟩:=List.getElem_of_mem hv
 have l:=h.len
 have ld:dz.length=ds.length:=Paired.length dd
 obtain ⟨d,ed,q,eq,hq⟩:=cj dd (List.getElem?_eq_getElem (l:=dz) (i:=i) zk)
 obtain ⟨a,ea,ha⟩:=h.at_ i _ _ _ (List.getElem?_eq_getElem hi) (List.getElem?_eq_getElem (l:=dz) zk) (List.getElem?_eq_getElem (l:=rows) zk)
 rw [eq] at ha
 exact ⟨a,q,d,_,_,by rw [<-e,ea],ha,hq,ni d (List.mem_of_getElem? ed)⟩
def RowK (nv:List V)(pl rl:Addr)(H:Hp)(v:V):Prop:=∃ (a so fl:Addr) (z:Int) (fs:List Int) (ys:List V),v=.ref a/\H a=some (.tup [.ref so,.int z,.ref fl])/\H so=some (.lst ys)/\a9 nv H ys/\ys.length<=600/\H fl=some (.tup (fs.map V.int))/\fs.length=5/\so≠pl/\so≠rl
theorem RowK.stay {nv:List V}{pl rl:Addr}{H H':Hp}{v:V}(h:RowK nv pl rl H v)(tk:∀b l,H b=some (.tup l)->H' b=some (.tup l))(lk:∀b l,H b=some (.lst l)->b≠pl->b≠rl->H' b=some (.lst l)):RowK nv pl rl H' v:=by
 obtain ⟨a,so,fl,z,fs,ys,e,h1,h2,h3,h4,h5,h6,h7,h8⟩:=h
 exact ⟨a,so,fl,z,fs,ys,e,tk _ _ h1,lk _ _ h2 h7 h8,fun v hv=>(h3 v hv).stay tk,h4,tk _ _ h5,h6,h7,h8⟩
structure Wq (K:W.Frag)(pl a:Addr)(is:List Int)(nv:List V)(nl tl fl rl:Addr)(zs:List V)(fs:List Int)(n:Nat)(H:Hp):Prop where
 pi:Pile K H pl a is
 hn:H nl=some (.lst nv)
 ht:H tl=some (.lst zs)
 rn:a9 nv H zs
 hf:H fl=some (.tup (fs.map V.int))
 rs:∃ us,H rl=some (.lst us)/\(∀v∈us,RowK nv pl rl H v)/\us.length<=n
 ap:nl≠pl/\tl≠pl/\rl≠pl/\nl≠rl/\tl≠rl
theorem Wq.next {K:PySem.W.Frag}{pl a nl tl fl rl:Addr}{is:List Int}{nv zs:List V}{fs:List Int}{n:Nat}{H H1:Hp}(W:Wq K pl a is nv nl tl fl rl zs fs n H)(P:Pile K H1 pl a is)(k:Kept [pl] H H1):Wq K pl a is nv nl tl fl rl zs fs n H1:=by
 have tk:=cy W.pi k
 have lk:∀b l,H b=some (.lst l)->b≠pl->H1 b=some (.lst l):=fun b l e n=>k _ _ e fun y=>n (zm y)
 obtain ⟨us,hr,ru,lu⟩:=W.rs
 obtain ⟨a1,a2,a3,a4,a5⟩:=W.ap
 exact ⟨P,lk _ _ W.hn a1,lk _ _ W.ht a2,fun v hv=>(W.rn v hv).stay tk,tk _ _ W.hf,⟨us,lk _ _ hr a3,fun v hv=>(ru v hv).stay tk fun b l e n _=>lk b l e n,lu⟩,a1,a2,a3,a4,a5⟩
theorem Wq.same {K:PySem.W.Frag}{pl a nl tl fl rl:Addr}{is:List Int}{nv zs:List V}{fs:List Int}{n:Nat}{H H1:Hp}(W:Wq K pl a is nv nl tl fl rl zs fs n H)(s:Same H H1):Wq K pl a is nv nl tl fl rl zs fs n H1:=W.next (W.pi.same s) (Kept.of_same s)
theorem Wq.push {K:PySem.W.Frag}{pl a nl tl fl rl:Addr}{is:List Int}{nv zs:List V}{fs:List Int}{n:Nat}{H:Hp}{us:List V}{v:V}(W:Wq K pl a is nv nl tl fl rl zs fs n H)(hr:H rl=some (.lst us))(hv:RowK nv pl rl H v)(off:Off K a (is.map V.int) rl):Wq K pl a is nv nl tl fl rl zs fs (n+1) (upd H rl (.lst (us++[v]))):=by
 obtain ⟨us',hr',ru,lu⟩:=W.rs
 rw [hr] at hr'
 cases hr'
 obtain ⟨a1,a2,a3,a4,a5⟩:=W.ap
 have tk:=gl (ys:=us++[v]) hr
 have lk:∀b l,H b=some (.lst l)->b≠rl->(upd H rl (.lst (us++[v]))) b=some (.lst l):=fun b l e n=>by rw [ak n];exact e
 refine ⟨W.pi.kept (F:=[rl]) (fun b hb=>by rw [zm hb];exact ⟨a3,off⟩) (Kept.refl.put zl),lk _ _ W.hn a4,lk _ _ W.ht a5,fun v hv=>(W.rn v hv).stay tk,tk _ _ W.hf,⟨_,af,fun x hx=>?_,by rw [List.length_append];exact Nat.succ_le_succ lu⟩,a1,a2,a3,a4,a5⟩
 rcases List.mem_append.mp hx with y | y
 .exact (ru x y).stay tk fun b l e _ n=>lk b l e n
 rw [zm y];exact hv.stay tk fun b l e _ n=>lk b l e n
abbrev jk:Stmt:=top 46
theorem vq:FnScope ["script","pile","names","slack","deeds","looks","most","bound","fees","told","rows","turn","some","room","pays","handed","found"] ["script"] (ao jk):=fsc fun nd=>⟨rfl,rfl,rfl,nd,rfl,zi,zi⟩
def oI (K:W.Frag):Sp:=fun vs H Q _=>∃ (a:Addr) (ns:List Int),vs=[.ref a]/\SqL K H a (ns.map V.int)/\ns.length<=63/\∀H',Q (.bl true) H'
theorem v5 {f a_law_pile a_law_next a_law_drawn a_law_looked a_law_fees a_law_ledger aledger_shown a_law_spoilt a_law_is_right:Addr}{fd f_law_pile f_law_next f_law_drawn f_law_looked f_law_fees f_law_ledger fledger_shown f_law_spoilt f_law_is_right:FuncData}(F:Fun K "law" "law" jk f fd)(T:Bl mg)
  (G_law_pile:aA P w K mg base CX0 1 a_law_pile f_law_pile ["script"] (q9 K)) (D_law_pile:Nm K mg "_law_pile" a_law_pile f_law_pile ["script"])
  (G_law_next:aA P w K mg base CX0 1 a_law_next f_law_next ["pile","most"] (cD K)) (D_law_next:Nm K mg "_law_next" a_law_next f_law_next ["pile","most"])
  (G_law_drawn:aA P w K mg base CX0 5 a_law_drawn f_law_drawn ["pile","most"] (mR K)) (D_law_drawn:Nm K mg "_law_drawn" a_law_drawn f_law_drawn ["pile","most"])
  (G_law_looked:aA P w K mg base CX0 4 a_law_looked f_law_looked ["deeds","slack"] kJ) (D_law_looked:Nm K mg "_law_looked" a_law_looked f_law_looked ["deeds","slack"])
  (G_law_fees:aA P w K mg base CX0 2 a_law_fees f_law_fees ["pile","bound"] (pT K)) (D_law_fees:Nm K mg "_law_fees" a_law_fees f_law_fees ["pile","bound"])
  (G_law_ledger:aA P w K mg base CX0 1 a_law_ledger f_law_ledger ["deeds","looks","fees"] iH) (D_law_ledger:Nm K mg "_law_ledger" a_law_ledger f_law_ledger ["deeds","looks","fees"])
  (Gledger_shown:aA P w K mg base CX0 9 aledger_shown fledger_shown ["ledger","slack","tariff"] nQ) (Dledger_shown:Nm K mg "ledger_shown" aledger_shown fledger_shown ["ledger","slack","tariff"])
  (G_law_spoilt:aA P w K mg base CX0 2 a_law_spoilt f_law_spoilt ["pile","told","names"] (jC K)) (D_law_spoilt:Nm K mg "_law_spoilt" a_law_spoilt f_law_spoilt ["pile","told","names"])
  (G_law_is_right:aA P w K mg base CX0 4 a_law_is_right f_law_is_right ["told","slack","fees"] vM) (D_law_is_right:Nm K mg "_law_is_right" a_law_is_right f_law_is_right ["told","slack","fees"]) :
  aA P w K mg base CX0 11 f fd ["script"] (oI K):=by
 have sc:=vq
 refine F.okQ vq (fun vs H Q E h=>?_) (fun cdv A outer s_ H vs Q E hr h=>?_)
 .obtain ⟨a,ns,rfl,_⟩:=h
  rfl
 obtain ⟨a,is,rfl,hS,hn0,k⟩:=h
 have hu:=hr.units0
 have hu1:=hr.u100
 refine ⟨_,(ae (qst 1 sc.nd (qcl G_law_pile hr D_law_pile aD (ad (qv 0) ah)))
  (ae (be (qcl G_law_drawn hr D_law_drawn aD (ad (qv 1) (ad ag ah))) (me rfl (aN (aQ (i:=2) sc.nd rfl (Or.inl rfl)) (aN (aQ (i:=3) sc.nd rfl (Or.inl rfl)) (aN (aQ (i:=4) sc.nd rfl (Or.inl rfl)) b8)))))
  (ae (be (qcl G_law_looked hr D_law_looked aD (ad (qv 4) (ad (qv 3) ah))) (me rfl (aN (aQ (i:=5) sc.nd rfl (Or.inl rfl)) (aN (aQ (i:=6) sc.nd rfl (Or.inl rfl)) b8))))
  (ae (qst 7 sc.nd ag)
  (ae (cq PassesOwn.never (ar cV (aq xH ag (qv 7)) (qv 6) (az _)) (aj (qst 7 sc.nd (aq aF (qv 7) ag))))
  (ae (qst 8 sc.nd (qcl G_law_fees hr D_law_fees aD (ad (qv 1) (ad (qv 7) ah))))
  (ae (qst 9 sc.nd (qcl G_law_ledger hr D_law_ledger aD (ad (qv 4) (ad (qv 5) (ad (qv 8) ah)))))
  (ae (qst 10 sc.nd (aM (ad (aI (ad (qv 9) (ad (qv 3) (ad (qv 8) ah)))) (ad (aI (ad (qv 9) (ad (aq aF (aq aF (aq cb (qv 3) (aq cY ag ag)) ag) (qcl G_law_next hr D_law_next aD (ad (qv 1) (ad ag ah)))) (ad (qv 8) ah)))) ah))))
  (ae (aK (bJ PySem.F.plainAttrs_list PySem.F.slot_list_append PySem.F.type_list_append aY (qv 10) (ad (aI (ad (qv 9) (ad (qv 3) (ad (aq nC (aq nC (bn rE (qv 8) bG (bx ag)) (aI (ad (aq aF (au aJ (qv 8) ag pix) ag) ah))) (bn rE (qv 8) (bx ag) bG)) ah)))) ah)))
  (ae (ce PassesOwn.never rfl (bX rfl T.z_range (ad ag ah)) (aQ (i:=11) sc.nd rfl (Or.inl rfl)) (aj (aK (bJ PySem.F.plainAttrs_list PySem.F.slot_list_append PySem.F.type_list_append aY (qv 10) (ad (aI (ad (qcl G_law_spoilt hr D_law_spoilt aD (ad (qv 1) (ad (qv 9) (ad (qv 2) ah)))) (ad (qv 3) (ad (qv 8) ah)))) ah)))))
  (ae (ce PassesOwn.never rfl (bS (qv 10)) (dW rfl (aN (aQ (i:=12) sc.nd rfl (Or.inl rfl)) (aN (aQ (i:=13) sc.nd rfl (Or.inl rfl)) (aN (aQ (i:=14) sc.nd rfl (Or.inl rfl)) b8)))) (ae (qst 15 sc.nd (qcT bZ T.z_tuple (ad (qv 12) ah)))
  (ae (qst 16 sc.nd (qcl Gledger_shown hr Dledger_shown aD (ad (qv 15) (ad (qv 13) (ad (qv 14) ah)))))
  (aj (aR (QW.pt (nJ (dR (hU (qcB qB T.z_isinstance (ad (qv 16) (ad (uS (v:=.ty "bool") (u:=.type "bool") (by rfl) T.z_bool zi (by rfl)) ah))))) (nJ (ar jL (qv 16) (qcl G_law_is_right hr D_law_is_right aD (ad (qv 12) (ad (qv 13) (ad (qv 14) ah)))) (az _)) (kO (ar (uH hu1) (qv 15) (qcT bZ T.z_tuple (ad (qv 12) ah)) (az _)))))) (aj (aB gT)) ay)))))
  (aj (aB gT))))))))))))),?_⟩
 refine ⟨_,rfl,a,is,rfl,hS,hn0,fun pl H1 P1 s1=>?_⟩
 have no:∀b,b≠pl->b∉[pl]:=fun b n z=>n (zm z)
 refine ⟨_,rfl,pl,a,is,200,rfl,P1,zj,zj,fun o nl dl nv dz ds z H2 ho hnl an nd n1 n2 hdl dd ft ind ld z0 P2 K2 nnp ndp fnl fdl=>?_⟩
 have ldz:dz.length=ds.length:=Paired.length dd
 refine ⟨o,_,rfl,SqL.of ho,rfl,_,_,rfl,_,_,rfl,_,_,rfl,rfl,?_⟩
 refine ⟨_,rfl,_,rfl,dl,dz,ds,z,rfl,hdl,dd,ft,zk,fun o3 ll m H3 ho3 hll hiR m0 m1 fll s3=>?_⟩
 refine ⟨o3,_,rfl,SqL.of ho3,rfl,_,_,rfl,_,_,rfl,rfl,?_⟩
 have P3:=P2.same s3
 replace hnl:=s3 _ _ hnl
 replace hdl:=s3 _ _ hdl
 replace dd:=DDs.stay dd fun b l e=>s3 b _ e
 obtain ⟨up,hup⟩:=P2.there
 have nlp:ll≠pl:=(am hup fll).symm
 clear ho ho3 fll hup hiR s3
 refine ⟨fun c σ H4=>H4=H3/\∃ b:Nat,σ=[some (.ref a),some (.ref pl),some (.ref nl),some (.int z),some (.ref dl),some (.ref ll),some (.int m),some (.int (b:Int)),none,none,none,none,none,none,none,none,none]/\b<=10/\c=10-b,⟨10,rfl,0,rfl,zj,rfl⟩,?_⟩
 rintro c σ H4 ⟨rfl,b,rfl,b10,rfl⟩
 refine ⟨_,rfl,_,_,rfl,rfl,⟨zk,zk,zj⟩,_,rfl,_,_,rfl,rfl,_,rfl,aE (fun c1=>?_) (fun c1=>?_)⟩
 .have c2:(1:Int)*2 ^ ((b:Int).toNat)<m:=of_decide_eq_true c1
  have hb:b<10:=by
   by_cases y:b<10
   .exact y
   .have e:b=10:=by lia
    subst e
    exact absurd (Int.lt_of_lt_of_le c2 m1) zj
  refine ⟨fun σ' H'=>∃ c',c'<10-b/\H'=H4/\∃ b:Nat,σ'=[some (.ref a),some (.ref pl),some (.ref nl),some (.int z),some (.ref dl),some (.ref ll),some (.int m),some (.int (b:Int)),none,none,none,none,none,none,none,none,none]/\b<=10/\c'=10-b,fun σ' H' z=>z,?_⟩
  exact ⟨_,rfl,_,_,rfl,rfl,10-(b+1),zk,rfl,b+1,rfl,zk,rfl⟩
 clear c1
 refine ⟨_,rfl,_,rfl,pl,a,is,(b:Int),rfl,P3,fun fl fs H5 hfl lf P5 K5=>?_⟩
 have tk5:=cy P3 K5
 replace hnl:=K5 _ _ hnl (no nl nnp)
 replace hdl:=K5 _ _ hdl (no dl ndp)
 replace hll:=K5 _ _ hll (no ll nlp)
 replace dd:=DDs.stay dd tk5
 clear K5 tk5 P3
 refine ⟨_,rfl,_,rfl,_,rfl,dl,ll,fl,dz,ds,fs,z,rfl,hdl,dd,hll,hfl,lf,zk,fun tl zs H6 h6 led6 f6 s6=>?_⟩
 have rn6:=qq led6 (DDs.stay dd fun b l e=>s6 b _ e) (dD _) ind
 have lz6:zs.length<=200:=by have:=led6.len;rw [dD] at this;lia
 have tlp:tl≠pl:=(P5.new f6).1
 replace hnl:=s6 _ _ hnl
 replace hfl:=s6 _ _ hfl
 have P6:=P5.same s6
 clear led6 hll hdl dd s6 f6
 obtain ⟨x0,x1,x2,x3,x4,rfl⟩:∃ x0 x1 x2 x3 x4,fs=[x0,x1,x2,x3,x4]:=by
  match fs,lf with
  | [x0,x1,x2,x3,x4],_=>exact ⟨_,_,_,_,_,rfl⟩
 replace hfl:H6 fl=some (.tup [V.int x0,.int x1,.int x2,.int x3,.int x4]):=hfl
 refine ⟨_,rfl,_,rfl,_,rfl,sz3,fun t1 ht1=>?_⟩
 have s7:=ai (o:=.tup [.ref tl,.int z,.ref fl]) ht1
 have g7:=af (H:=H6) (a:=t1) (o:=.tup [.ref tl,.int z,.ref fl])
 generalize upd H6 t1 (.tup [.ref tl,.int z,.ref fl])=H7 at s7 g7 ⊢
 have P7:=P6.same s7
 refine ⟨_,rfl,_,rfl,_,_,rfl,rfl,⟨zj,zj,zj⟩,_,_,rfl,rfl,(by show (0:Int)<_;decide),_,_,rfl,rfl,_,rfl,pl,a,is,9,rfl,P7,zj,zj,fun u H8 u0 u1 P8 K8 N8=>?_⟩
 refine ⟨_,_,rfl,rfl,_,rfl,sz3,fun t2 ht2=>?_⟩
 have tk8:=cy P7 K8
 have s9:=ai (o:=.tup [.ref tl,.int (z % (10:Int) ^ (9:Int).toNat+1+u),.ref fl]) ht2
 have g9:=af (H:=H8) (a:=t2) (o:=.tup [.ref tl,.int (z % (10:Int) ^ (9:Int).toNat+1+u),.ref fl])
 generalize upd H8 t2 (.tup [.ref tl,.int (z % (10:Int) ^ (9:Int).toNat+1+u),.ref fl])=H9 at s9 g9 ⊢
 generalize (z % (10:Int) ^ (9:Int).toNat+1+u)=z2 at s9 g9
 have h9:=s9 _ _ (K8 _ _ (s7 _ _ h6) (no tl tlp))
 refine ⟨sz2,fun rl hrl=>?_⟩
 have sA:=ai (o:=.lst [.ref t1,.ref t2]) hrl
 have gA:=af (H:=H9) (a:=rl) (o:=.lst [.ref t1,.ref t2])
 generalize upd H9 rl (.lst [.ref t1,.ref t2])=HA at sA gA ⊢
 have tkA:∀b l,H6 b=some (.tup l)->HA b=some (.tup l):=fun b l e=>sA _ _ (s9 _ _ (tk8 _ _ (s7 _ _ e)))
 have rlp:=(P8.same s9).new hrl
 have rnA:a9 nv HA zs:=fun v hv=>(rn6 v hv).stay tkA
 have tlr:tl≠rl:=am h9 hrl
 have nA:=s9 _ _ (K8 _ _ (s7 _ _ hnl) (no nl nnp))
 have nlr:nl≠rl:=am nA hrl
 have WA:Wq K pl a is nv nl tl fl rl zs [x0,x1,x2,x3,x4] 2 HA:=⟨(P8.same s9).same sA,sA _ _ nA,sA _ _ h9,rnA,tkA _ _ hfl,⟨_,gA,fun v hv=>by
  simp only [List.mem_cons,List.not_mem_nil,or_false] at hv
  rcases hv with y | y
  .exact ⟨t1,tl,fl,z,[x0,x1,x2,x3,x4],zs,y,sA _ _ (s9 _ _ (tk8 _ _ g7)),sA _ _ h9,rnA,zk,tkA _ _ hfl,rfl,tlp,tlr⟩
  .exact ⟨t2,tl,fl,z2,[x0,x1,x2,x3,x4],zs,y,sA _ _ g9,sA _ _ h9,rnA,zk,tkA _ _ hfl,rfl,tlp,tlr⟩,by show 2<=2;decide⟩,nnp,tlp,rlp.1,nlr,tlr⟩
 clear s7 g7 P7 P8 K8 N8 tk8 s9 g9 h9 sA tkA rnA nA hnl hfl h6 rn6 P6
 have hfA:HA fl=some (.tup [V.int x0,.int x1,.int x2,.int x3,.int x4]):=WA.hf
 refine ⟨_,rfl,.inl ⟨rfl,_,SqL.of gA⟩,_,rfl,_,rfl,_,rfl,1,rfl,fl,_,rfl,SqT.of hfA,(by show ¬ (HT.sIx 5 0 none=0/\HT.sIx 5 5 (some 1)=5);decide),fun c1 hc1=>?_⟩
 have sB:=ai (o:=.tup (a7 [V.int x0,.int x1,.int x2,.int x3,.int x4] none (some 1))) hc1
 have gB:(upd HA c1 (.tup (a7 [V.int x0,.int x1,.int x2,.int x3,.int x4] none (some 1)))) c1=some (.tup [.int x0]):=af
 generalize upd HA c1 (.tup (a7 [V.int x0,.int x1,.int x2,.int x3,.int x4] none (some 1)))=HB at sB gB ⊢
 refine ⟨_,rfl,fl,_,_,_,rfl,rfl,SqT.of (sB _ _ hfA),rfl,_,_,rfl,rfl,sz1,fun c2 hc2=>?_⟩
 have sC:=ai (o:=.tup [.int (x1+1)]) hc2
 have gC:=af (H:=HB) (a:=c2) (o:=.tup [.int (x1+1)])
 generalize upd HB c2 (.tup [.int (x1+1)])=HC at sC gC ⊢
 refine ⟨c1,c2,_,_,rfl,rfl,SqT.of (sC _ _ gB),SqT.of gC,(fun y=>nomatch y),sz2,(fun y=>nomatch y),fun _ c3 hc3=>?_⟩
 have sD:=ai (o:=.tup ([.int x0]++[.int (x1+1)])) hc3
 have gD:=af (H:=HC) (a:=c3) (o:=.tup ([.int x0]++[.int (x1+1)]))
 generalize upd HC c3 (.tup ([.int x0]++[.int (x1+1)]))=HD at sD gD ⊢
 have sBD:=(sB.trans sC).trans sD
 refine ⟨_,rfl,2,rfl,fl,_,rfl,SqT.of (sBD _ _ hfA),(by show ¬ (HT.sIx 5 0 (some 2)=0/\HT.sIx 5 5 none=5);decide),fun c4 hc4=>?_⟩
 have sE:=ai (o:=.tup (a7 [V.int x0,.int x1,.int x2,.int x3,.int x4] (some 2) none)) hc4
 have gE:(upd HD c4 (.tup (a7 [V.int x0,.int x1,.int x2,.int x3,.int x4] (some 2) none))) c4=some (.tup [.int x2,.int x3,.int x4]):=af
 generalize upd HD c4 (.tup (a7 [V.int x0,.int x1,.int x2,.int x3,.int x4] (some 2) none))=HE at sE gE ⊢
 refine ⟨c3,c4,_,_,rfl,rfl,SqT.of (sE _ _ gD),SqT.of gE,(fun y=>nomatch y),sz5,(fun y=>nomatch y),fun _ c5 hc5=>?_⟩
 have sF:=ai (o:=.tup ([.int x0]++[.int (x1+1)]++[.int x2,.int x3,.int x4])) hc5
 have gF:(upd HE c5 (.tup ([.int x0]++[.int (x1+1)]++[.int x2,.int x3,.int x4]))) c5=some (.tup (([x0,x1+1,x2,x3,x4]:List Int).map V.int)):=af
 generalize upd HE c5 (.tup ([.int x0]++[.int (x1+1)]++[.int x2,.int x3,.int x4]))=HF at sF gF ⊢
 refine ⟨sz3,fun c6 hc6=>?_⟩
 refine cU hc6 fun HG sG gG=>?_--@5
 have WG:=WA.same (((sBD.trans sE).trans sF).trans sG)
 obtain ⟨us,hus,_,lus⟩:=WG.rs
 refine ⟨rl,_,_,rfl,rfl,hus,aH zk,?_⟩
 have WH:=WG.push hus ⟨c6,tl,c5,z,_,zs,rfl,gG,WG.ht,WG.rn,zk,sG _ _ gF,rfl,tlp,tlr⟩ rlp.2
 clear sB gB sC gC sD gD sE gE sF gF sG gG hfA sBD gA WA WG
 generalize upd HG rl (.lst (us++[.ref c6]))=HH at WH ⊢
 refine ⟨5,rfl,zj,zj,dB (lo:=0) (n:=5) (fun i σ H'=>∃ o:Option V,σ=[some (.ref a),some (.ref pl),some (.ref nl),some (.int z),some (.ref dl),some (.ref ll),some (.int m),some (.int (b:Int)),some (.ref fl),some (.ref tl),some (.ref rl),o,none,none,none,none,none]/\Wq K pl a is nv nl tl fl rl zs [x0,x1,x2,x3,x4] (3+i) H') ⟨none,rfl,WH⟩ ?_ ?_⟩
 .rintro i σ H' hi ⟨o,rfl,W⟩
  obtain ⟨us,hus,_,lus⟩:=W.rs
  refine ⟨_,rfl,.inl ⟨rfl,_,SqL.of hus⟩,_,rfl,_,rfl,_,rfl,pl,a,is,tl,nl,nv,zs,rfl,W.pi,W.hn,an,n1,n2,nnp,W.ht,W.rn,lz6,fun sf ys HJ hsf rsf lsf PJ KJ fsf=>?_⟩
  have sfp:=(W.pi.new fsf).1
  have sfr:sf≠rl:=(am hus fsf).symm
  refine ⟨_,rfl,_,rfl,sz3,fun t ht=>?_⟩
  have sK:=ai (o:=.tup [.ref sf,.int z,.ref fl]) ht
  have WK:=(W.next PJ KJ).same sK
  have husK:=sK _ _ (KJ _ _ hus (no rl rlp.1))
  refine ⟨rl,_,_,rfl,rfl,husK,aH zk,some (.int (0+(i:Int))),rfl,?_⟩
  exact WK.push husK ⟨t,sf,fl,z,[x0,x1,x2,x3,x4],ys,rfl,af,sK _ _ hsf,fun v hv=>(rsf v hv).stay fun b t e=>sK b _ e,lsf,WK.hf,rfl,sfp,sfr⟩ rlp.2
 rintro σ H' ⟨o,rfl,W⟩
 obtain ⟨us,hus,ru,lus⟩:=W.rs
 refine ⟨_,rfl,rl,rfl,⟨_,SqL.of hus⟩,?_⟩
 refine cX (K:=K) (a:=rl) (xs:=us) (fun i σ H2=>∃ o1 o2 o3 o4 o5:Option V,σ=[some (.ref a),some (.ref pl),some (.ref nl),some (.int z),some (.ref dl),some (.ref ll),some (.int m),some (.int (b:Int)),some (.ref fl),some (.ref tl),some (.ref rl),o,o1,o2,o3,o4,o5]/\Same H' H2) ⟨none,none,none,none,none,rfl,Same.refl _⟩ (fun i σ H2 _ h'=>by obtain ⟨_,_,_,_,_,_,s⟩:=h';exact SqL.of (s _ _ hus)) ?_ ?_
 .rintro i x σ H2 hx ⟨o1,o2,o3,o4,o5,rfl,s2⟩
  obtain ⟨c,so,fl2,z3,fs,ys,rfl,hc,hso,rns,lys,hfl,lf,_,_⟩:=ru x (List.mem_of_getElem? hx)
  obtain ⟨rs,lg,ni⟩:=m9 rns
  have lr:ys.length=rs.length:=Paired.length lg
  refine ⟨c,_,rfl,SqT.of (s2 _ _ hc),rfl,_,_,rfl,_,_,rfl,_,_,rfl,rfl,?_⟩
  refine ⟨_,rfl,so,_,rfl,.inl ⟨SqL.of (s2 _ _ hso),fun hd hhd=>?_⟩⟩
  refine cU hhd fun H3 s3 g3=>?_--@6
  replace s3:=s2.trans s3
  refine ⟨_,rfl,_,rfl,_,rfl,hd,fl2,ys,rs,fs,z3,rfl,g3,lg.stay (fun b l e=>s3 b _ e),(fun r hr=>yC an (ni r hr)),zk,s3 _ _ hfl,lf,fun b1 H4 e1 s4=>?_⟩
  have s34:=s3.trans s4
  refine ⟨_,rfl,_,_,_,true,rfl,.bl _,rfl,_,rfl,gf ?_⟩
  refine ⟨_,rfl,_,rfl,_,rfl,_,rfl,so,fl2,ys,rs,fs,z3,rfl,s34 _ _ hso,lg.stay (fun b l e=>s34 b _ e),zk,s34 _ _ hfl,lf,fun b2 H5 e2 s5=>?_⟩
  have eb:b1=b2:=by rw [Bool.eq_iff_iff,e1,e2]
  subst eb
  refine ⟨rfl,_,rfl,aE (fun y=>absurd y zl) (fun _=>?_)⟩
  have s35:=s34.trans s5
  refine ⟨_,rfl,_,rfl,so,_,rfl,.inl ⟨SqL.of (s35 _ _ hso),fun q5 h5=>?_⟩⟩
  have s6:=ai (o:=.tup ys) h5
  refine ⟨.tup (SqT.of (s6 _ _ (s5 _ _ (s4 _ _ g3)))) (SqT.of af) (AlL.same fun x hx=>?_),_,rfl,gf ?_⟩
  .obtain ⟨_,_,_,_,_,e,_⟩:=rns x hx
   rw [e];rfl
  .exact ⟨_,_,_,_,_,rfl,s35.trans s6⟩
 rintro σ H2 ⟨o1,o2,o3,o4,o5,rfl,s2⟩
 exact k _
end
section
variable {P:Program}{w:World}{K:W.Frag}{mg:Str->Option Value}{base:Heap}
open PySem.W
theorem all_mk {l:OpenLaw}{w:World}{K:Frag}{h:Heap}{mg:Str->Option Value}{fa C CB CC CN f_aa f_ab f_ac f_ad f_ae f_af f_ag f_ah f_ai f_aj f_ak f_al f_am f_an f_ao f_ap f_aq f_ar f_as f_at f_au f_av f_aw f_ax f_ay f_az f_ba f_bb f_bc f_bd f_be f_bf f_bg f_bh f_bi f_bj f_bk f_bl f_bm f_bn f_bo f_bp f_bq f_br f_bs f_bt f_bu f_bv f_bw f_bx f_by:Addr}(X:K.In h)(G:h.Ns mainGlobals mg)(hfa:mg "law"=some (.ref fa))
   {dP:Addr} {ep:Nat} {t0 u0 t1 u1 t2 u2 t3 u3 t4 u4:Tok} {cl_CC cl_CN:ClassData} {od_by an_by:Option Addr} {sl_by:Array (Option Value)} {oc_by kV_by dc_by pm_by cd_by ct_by:Value}
  (aC:nsIn K mainGlobals "Late"=some (some (.ref C)))
  (aCB:nsIn K mainGlobals "Named"=some (some (.ref CB)))
  (aCC:nsIn K mainGlobals "Clash"=some (some (.ref CC)))
  (aCN:nsIn K mainGlobals "NoThing"=some (some (.ref CN)))
  (h_aa:Df K "exchange" pY f_aa)
  (h_ab:Df K "lift" rR f_ab)
  (h_ac:Df K "lay_in" wT f_ac)
  (h_ad:Df K "let_down" gH f_ad)
  (h_ae:Df K "cut_first" wO f_ae)
  (h_af:Df K "order" l0 f_af)
  (h_ag:Bs K CB "__init__" "Named.__init__" mH f_ag)
  (h_ah:Mt K C "holds" "Named.holds" lQ f_ah)
  (h_ai:Mt K C "need" "Named.need" rG f_ai)
  (h_aj:Mt K C "need_free" "Named.need_free" pR f_aj)
  (h_ak:Mt K C "need_any" "Named.need_any" xy f_ak)
  (h_al:Mt K C "stamped" "Named.stamped" gu f_al)
  (h_am:Mt K C "__init__" "Late.__init__" mP f_am)
  (h_an:Mt K C "enter" "Late.enter" lZ f_an)
  (h_ao:Mt K C "cut" "Late.cut" rB f_ao)
  (h_ap:Mt K C "sweep_if_due" "Late.sweep_if_due" jf f_ap)
  (h_aq:Mt K C "first_there" "Late.first_there" mI f_aq)
  (h_ar:Mt K C "put" "Late.put" qS f_ar)
  (h_as:Mt K C "drop" "Late.drop" kY f_as)
  (h_at:Mt K C "change" "Late.change" gY f_at)
  (h_au:Mt K C "least" "Late.least" ja f_au)
  (h_av:Mt K C "take" "Late.take" mL f_av)
  (h_aw:Mt K C "work" "Late.work" lG f_aw)
  (h_ax:Df K "_law_pile" mE f_ax)
  (h_ay:Df K "_law_next" mD f_ay)
  (h_az:Df K "_law_names" eI f_az)
  (h_ba:Df K "_law_worth" jb f_ba)
  (h_bb:Df K "_law_let_down" pW f_bb)
  (h_bc:Df K "_law_raised" jj f_bc)
  (h_bd:Df K "_law_off" wZ f_bd)
  (h_be:Df K "_law_new" wX f_be)
  (h_bf:Df K "_law_is_there" g0 f_bf)
  (h_bg:Df K "_law_added" lT f_bg)
  (h_bh:Df K "_law_swept" gp f_bh)
  (h_bi:Df K "_law_refused" gq f_bi)
  (h_bj:Df K "_law_done" qh f_bj)
  (h_bk:Df K "_law_deed" i6 f_bk)
  (h_bl:Df K "_law_run" xz f_bl)
  (h_bm:Df K "_law_sizes" lU f_bm)
  (h_bn:Df K "carry_out" mF f_bn)
  (h_bo:Df K "written" gX f_bo)
  (h_bp:Df K "ledger_shown" hW f_bp)
  (h_bq:Df K "_law_worn" j7 f_bq)
  (h_br:Df K "_law_drawn" mj f_br)
  (h_bs:Df K "_law_looked" i7 f_bs)
  (h_bt:Df K "_law_fees" nY f_bt)
  (h_bu:Df K "_law_ledger" gL f_bu)
  (h_bv:Df K "_law_is_right" wa f_bv)
  (h_bw:Df K "_law_against" eW f_bw)
  (h_bx:Df K "_law_spoilt" gk f_bx)
  (a_by:nsIn K mainGlobals "law"=some (some (.ref f_by)))
  (l_by:K.lookup f_by=some ⟨oc_by,od_by,.func (fnOf "law" "law" (bO jk) (bz jk) (ao jk) .none kV_by dc_by pm_by an_by cd_by ct_by),sl_by⟩)
  (c_by:codeIn K cd_by "law"=true)
  (k_by:keepIn K (.ref f_by)=true)
  (z_len:nsIn K mainGlobals "len"=some none)
  (z_sum:nsIn K mainGlobals "sum"=some none)
  (z_abs:nsIn K mainGlobals "abs"=some none)
  (z_range:nsIn K mainGlobals "range"=some none)
  (z_list:nsIn K mainGlobals "list"=some none)
  (z_tuple:nsIn K mainGlobals "tuple"=some none)
  (z_int:nsIn K mainGlobals "int"=some none)
  (z_bool:nsIn K mainGlobals "bool"=some none)
  (z_sorted:nsIn K mainGlobals "sorted"=some none)
  (z_isinstance:nsIn K mainGlobals "isinstance"=some none)
  (z_max:nsIn K mainGlobals "max"=some none)
  (z_all:nsIn K mainGlobals "all"=some none)
  (z_zip:nsIn K mainGlobals "zip"=some none)
  (pg:W.plainGet K C Str.empty=true)
  (hd:W.hasDictIn K C=true)
  (po:W.plainOver K C=true)
  (sa:findIn K (.ref C) "__setattr__"=some (some (.builtin "object.__setattr__")))
  (mk:makesIn K C=true)
  (kc:keepIn K (.ref C)=true)
  (ga:specialIn K (.ref CB) "__getattribute__"=some (some (.builtin "type.__getattribute__")))
  (rd:W.readsIn K CB (.type "type")=true)
  (n_there:findIn K (.ref C) "there"=some none)
  (n_stamp:findIn K (.ref C) "stamp"=some none)
  (n_slack:findIn K (.ref C) "slack"=some none)
  (n_entries:findIn K (.ref C) "entries"=some none)
  (n_looks:findIn K (.ref C) "looks"=some none)
  (aP:nsIn K mainGlobals "PAYS"=some (some (.ref dP)))
  (lP:K.lookup dP=some { cls:=.type "dict",data:=.dict #[{ hash:=PyData.keyHash w.params "put",key:=.str "put" t0,val:=.int 0 u0 },{ hash:=PyData.keyHash w.params "drop",key:=.str "drop" t1,val:=.int 1 u1 },{ hash:=PyData.keyHash w.params "change",key:=.str "change" t2,val:=.int 2 u2 },{ hash:=PyData.keyHash w.params "take",key:=.str "take" t3,val:=.int 3 u3 },{ hash:=PyData.keyHash w.params "least",key:=.str "least" t4,val:=.int 4 u4 }] ep })
  (bC:subIn K (.ref CC) (.type "BaseException")=some true)
  (bN:subIn K (.ref CN) (.type "BaseException")=some true)
  (clCC:W.clsIn K CC=some cl_CC)
  (tpCC:W.typeIn K (.ref CC)=some (.type "type"))
  (clCN:W.clsIn K CN=some cl_CN)
  (tpCN:W.typeIn K (.ref CN)=some (.type "type"))
  (sCCCC:subIn K (.ref CC) (.ref CC)=some true)
  (sCCCN:subIn K (.ref CC) (.ref CN)=some false)
  (sCNCC:subIn K (.ref CN) (.ref CC)=some false)
  (sCNCN:subIn K (.ref CN) (.ref CN)=some true)
  (xCC:W.excIn K CC bmV "ValueError.__new__"=true)
  (xCN:W.excIn K CN bmV "ValueError.__new__"=true) :
  ∃ fd:FuncData,(∀(s:Shared) (v:Value),BindsTo s fd ⟨[v],[]⟩ [("script",v)])/\∀base:Heap,K.In base->base.Ns mainGlobals mg->aA l.prog w K mg base CX0 11 fa fd ["script"] (oI K):=by
 have e:=hfa.symm.trans (mg_of X G a_by)
 cases e
 have T:Bl mg:=⟨mg_none_of X G z_len,mg_none_of X G z_sum,mg_none_of X G z_abs,mg_none_of X G z_range,mg_none_of X G z_list,mg_none_of X G z_tuple,mg_none_of X G z_int,mg_none_of X G z_bool,mg_none_of X G z_sorted,mg_none_of X G z_isinstance⟩
 have Z_max:=mg_none_of X G z_max
 have Z_all:=mg_none_of X G z_all
 have Z_zip:=mg_none_of X G z_zip
 have L:LT K C:=⟨⟨⟨pg,hd,po,sa⟩,n_there,n_stamp⟩,n_slack,n_entries,n_looks⟩
 have mCC:=mg_of X G aCC
 have mCN:=mg_of X G aCN
 have mCB:=mg_of X G aCB
 have mC:=mg_of X G aC
 have mPAYS:=mg_of X G aP
 have SP:p9 w K dP paysK:=⟨_,ep,lP,.cons (.cons (.cons (.cons (.cons .nil))))⟩
 have xmC:=ng bC bN clCC clCN tpCC tpCN sCCCC sCCCN
 have xmN:=ng bC bN clCC clCN tpCC tpCN sCNCC sCNCN
 obtain ⟨_,F_aa,D_aa⟩:=h_aa.get X G ["heap","place","other"]
 obtain ⟨_,F_ab,D_ab⟩:=h_ab.get X G ["heap","start"]
 obtain ⟨_,F_ac,D_ac⟩:=h_ac.get X G ["heap","entry"]
 obtain ⟨_,F_ad,D_ad⟩:=h_ad.get X G ["heap","start"]
 obtain ⟨_,F_ae,D_ae⟩:=h_ae.get X G ["heap"]
 obtain ⟨_,F_af,D_af⟩:=h_af.get X G ["heap"]
 obtain ⟨_,F_ag,B_ag,M_ag⟩:=h_ag.get ["self"] ga rd
 obtain ⟨_,F_ah,B_ah,M_ah⟩:=h_ah.get ["self","entry"]
 obtain ⟨_,F_ai,B_ai,M_ai⟩:=h_ai.get ["self","name"]
 obtain ⟨_,F_aj,B_aj,M_aj⟩:=h_aj.get ["self","name"]
 obtain ⟨_,F_ak,B_ak,M_ak⟩:=h_ak.get ["self"]
 obtain ⟨_,F_al,B_al,M_al⟩:=h_al.get ["self","name","worth"]
 obtain ⟨_,F_am,B_am,N_am⟩:=h_am.get ["self","slack"]
 have M_am:Mk K C f_am:=⟨mk,N_am.at_,N_am.fn,kc⟩
 obtain ⟨_,F_an,B_an,M_an⟩:=h_an.get ["self","name","worth"]
 obtain ⟨_,F_ao,B_ao,M_ao⟩:=h_ao.get ["self"]
 obtain ⟨_,F_ap,B_ap,M_ap⟩:=h_ap.get ["self"]
 obtain ⟨_,F_aq,B_aq,M_aq⟩:=h_aq.get ["self"]
 obtain ⟨_,F_ar,B_ar,M_ar⟩:=h_ar.get ["self","name","worth"]
 obtain ⟨_,F_as,B_as,M_as⟩:=h_as.get ["self","name"]
 obtain ⟨_,F_at,B_at,M_at⟩:=h_at.get ["self","name","worth"]
 obtain ⟨_,F_au,B_au,M_au⟩:=h_au.get ["self"]
 obtain ⟨_,F_av,B_av,M_av⟩:=h_av.get ["self"]
 obtain ⟨_,F_aw,B_aw,M_aw⟩:=h_aw.get ["self"]
 obtain ⟨_,F_ax,D_ax⟩:=h_ax.get X G ["script"]
 obtain ⟨_,F_ay,D_ay⟩:=h_ay.get X G ["pile","most"]
 obtain ⟨_,F_az,D_az⟩:=h_az.get X G ["pile","many"]
 obtain ⟨_,F_ba,D_ba⟩:=h_ba.get X G ["pile"]
 obtain ⟨_,F_bb,D_bb⟩:=h_bb.get X G ["row","k"]
 obtain ⟨_,F_bc,D_bc⟩:=h_bc.get X G ["row"]
 obtain ⟨_,F_bd,D_bd⟩:=h_bd.get X G ["row"]
 obtain ⟨_,F_be,D_be⟩:=h_be.get X G ["slack"]
 obtain ⟨_,F_bf,D_bf⟩:=h_bf.get X G ["state","entry"]
 obtain ⟨_,F_bg,D_bg⟩:=h_bg.get X G ["state","name","worth"]
 obtain ⟨_,F_bh,D_bh⟩:=h_bh.get X G ["state"]
 obtain ⟨_,F_bi,D_bi⟩:=h_bi.get X G ["state","deed"]
 obtain ⟨_,F_bj,D_bj⟩:=h_bj.get X G ["state","deed"]
 obtain ⟨_,F_bk,D_bk⟩:=h_bk.get X G ["pile","state","names"]
 obtain ⟨_,F_bl,D_bl⟩:=h_bl.get X G ["pile","names","slack","many"]
 obtain ⟨_,F_bm,D_bm⟩:=h_bm.get X G ["pile"]
 obtain ⟨_,F_bn,D_bn⟩:=h_bn.get X G ["heap","deed"]
 obtain ⟨_,F_bo,D_bo⟩:=h_bo.get X G ["deeds","slack","tariff"]
 obtain ⟨_,F_bp,D_bp⟩:=h_bp.get X G ["ledger","slack","tariff"]
 obtain ⟨_,F_bq,D_bq⟩:=h_bq.get X G ["pile","names"]
 obtain ⟨_,F_br,D_br⟩:=h_br.get X G ["pile","most"]
 obtain ⟨_,F_bs,D_bs⟩:=h_bs.get X G ["deeds","slack"]
 obtain ⟨_,F_bt,D_bt⟩:=h_bt.get X G ["pile","bound"]
 obtain ⟨_,F_bu,D_bu⟩:=h_bu.get X G ["deeds","looks","fees"]
 obtain ⟨_,F_bv,D_bv⟩:=h_bv.get X G ["told","slack","fees"]
 obtain ⟨_,F_bw,D_bw⟩:=h_bw.get X G ["found","at","later","off"]
 obtain ⟨_,F_bx,D_bx⟩:=h_bx.get X G ["pile","told","names"]
 have F_by:=jn (st:=jk) l_by c_by k_by
 refine ⟨fnOf "law" "law" (bO jk) (bz jk) (ao jk) .none kV_by dc_by pm_by an_by cd_by ct_by,fun s v=>.of_eq rfl,fun base _ _=>?_⟩
 have G_aa:=tf (P:=l.prog) (w:=w) (base:=base) F_aa T
 have G_ab:=t9 (P:=l.prog) (w:=w) (base:=base) F_ab T G_aa D_aa
 have G_ac:=wI (P:=l.prog) (w:=w) (base:=base) F_ac T G_ab D_ab
 have G_ad:=mw (P:=l.prog) (w:=w) (base:=base) F_ad T G_aa D_aa
 have G_ae:=xb (P:=l.prog) (w:=w) (base:=base) F_ae T G_ad D_ad
 have G_af:=sq (P:=l.prog) (w:=w) (base:=base) F_af T G_ad D_ad
 have G_ag:=fA (P:=l.prog) (w:=w) (base:=base) F_ag T L.nt
 have G_ah:=ss (P:=l.prog) (w:=w) (base:=base) F_ah T L.nt
 have G_ai:=ve (P:=l.prog) (w:=w) (base:=base) F_ai T L.nt mCN xCN
 have G_aj:=iY (P:=l.prog) (w:=w) (base:=base) F_aj T L.nt mCC xCC
 have G_ak:=kj (P:=l.prog) (w:=w) (base:=base) F_ak T L.nt mCN xCN
 have G_al:=kT (P:=l.prog) (w:=w) (base:=base) F_al T L.nt
 have G_am:=gb (P:=l.prog) (w:=w) (base:=base) F_am T L mCB M_ag G_ag B_ag
 have G_an:=rF (P:=l.prog) (w:=w) (base:=base) F_an T L G_ac D_ac M_al G_al B_al
 have G_ao:=uL (P:=l.prog) (w:=w) (base:=base) F_ao T L G_ae D_ae
 have G_ap:=qp (P:=l.prog) (w:=w) (base:=base) F_ap T L G_af D_af M_ah G_ah B_ah
 have G_aq:=gt (P:=l.prog) (w:=w) (base:=base) F_aq T L M_ak G_ak B_ak M_ah G_ah B_ah M_ao G_ao B_ao
 have G_ar:=vZ (P:=l.prog) (w:=w) (base:=base) F_ar T L M_aj G_aj B_aj M_ap G_ap B_ap M_an G_an B_an
 have G_as:=sZ (P:=l.prog) (w:=w) (base:=base) F_as T L M_ai G_ai B_ai M_ap G_ap B_ap
 have G_at:=pF (P:=l.prog) (w:=w) (base:=base) F_at T L M_ai G_ai B_ai M_ap G_ap B_ap M_an G_an B_an
 have G_au:=qF (P:=l.prog) (w:=w) (base:=base) F_au T L M_aq G_aq B_aq
 have G_av:=sO (P:=l.prog) (w:=w) (base:=base) F_av T L M_aq G_aq B_aq M_ao G_ao B_ao M_ap G_ap B_ap
 have G_aw:=uq (P:=l.prog) (w:=w) (base:=base) F_aw T L
 have G_ax:=tm (P:=l.prog) (w:=w) (base:=base) F_ax T
 have G_ay:=uo (P:=l.prog) (w:=w) (base:=base) F_ay T
 have G_az:=oP (P:=l.prog) (w:=w) (base:=base) F_az T G_ay D_ay
 have G_ba:=pO (P:=l.prog) (w:=w) (base:=base) F_ba T G_ay D_ay
 have G_bb:=uQ (P:=l.prog) (w:=w) (base:=base) F_bb T
 have G_bc:=pf (P:=l.prog) (w:=w) (base:=base) F_bc T
 have G_bd:=xD (P:=l.prog) (w:=w) (base:=base) F_bd T G_bb D_bb
 have G_be:=v7 (P:=l.prog) (w:=w) (base:=base) F_be T
 have G_bf:=mr (P:=l.prog) (w:=w) (base:=base) F_bf T
 have G_bg:=rV (P:=l.prog) (w:=w) (base:=base) F_bg T G_bc D_bc
 have G_bh:=pG (P:=l.prog) (w:=w) (base:=base) F_bh T G_bf D_bf G_bb D_bb
 have G_bi:=lW (P:=l.prog) (w:=w) (base:=base) F_bi T
 have G_bj:=uz (P:=l.prog) (w:=w) (base:=base) F_bj T G_bf D_bf G_bg D_bg G_bd D_bd G_bh D_bh
 have G_bk:=rW (P:=l.prog) (w:=w) (base:=base) F_bk T G_ay D_ay G_ba D_ba
 have G_bl:=w5 (P:=l.prog) (w:=w) (base:=base) F_bl T Z_max G_be D_be G_bk D_bk G_bi D_bi G_bj D_bj
 have G_bm:=sy (P:=l.prog) (w:=w) (base:=base) F_bm T G_ay D_ay
 have G_bn:=qJ (P:=l.prog) (w:=w) (base:=base) F_bn T L M_ar G_ar B_ar M_as G_as B_as M_at G_at B_at M_av G_av B_av M_au G_au B_au
 have G_bo:=kN (P:=l.prog) (w:=w) (base:=base) F_bo T L mPAYS SP mC M_am G_am B_am M_aw G_aw B_aw G_bn D_bn
 have G_bp:=sv (P:=l.prog) (w:=w) (base:=base) F_bp T Z_all mCC mCN xmC xmN G_bo D_bo
 have G_bq:=uB (P:=l.prog) (w:=w) (base:=base) F_bq T G_ay D_ay G_ba D_ba
 have G_br:=sL (P:=l.prog) (w:=w) (base:=base) F_br T G_bm D_bm G_ay D_ay G_az D_az G_bq D_bq G_bl D_bl
 have G_bs:=oQ (P:=l.prog) (w:=w) (base:=base) F_bs T Z_max G_be D_be G_bj D_bj
 have G_bt:=tj (P:=l.prog) (w:=w) (base:=base) F_bt T G_ay D_ay
 have G_bu:=lD (P:=l.prog) (w:=w) (base:=base) F_bu T Z_zip
 have G_bv:=xG (P:=l.prog) (w:=w) (base:=base) F_bv T G_be D_be G_bi D_bi G_bj D_bj
 have G_bw:=mf (P:=l.prog) (w:=w) (base:=base) F_bw T
 have G_bx:=oO (P:=l.prog) (w:=w) (base:=base) F_bx T G_ay D_ay G_bw D_bw
 exact v5 F_by T G_ax D_ax G_ay D_ay G_br D_br G_bs D_bs G_bt D_bt G_bu D_bu G_bp D_bp G_bx D_bx G_bv D_bv
theorem walk {l:OpenLaw}{q:Program}{loose:List Str}{XP:(Str->Option Value)->Heap->Prop}{YP:World->Heap->Prop}{d:DefRec}{K:Params->Frag}(hn:l.most=some 63)(hdf:d.params.defaults=[])
  (hY:∀(w:World) (h:Heap),YP w h->(K w.params).In h)
  (F:∀(w:World) (mg:Str->Option Value) (fa:Addr) (h:Heap),(K w.params).In h->h.Ns mainGlobals mg->mg d.name=some (.ref fa) ->
   ∃ fd:FuncData,(∀(s:Shared) (u:Value),BindsTo s fd ⟨[u],[]⟩ [("script",u)])/\∀base:Heap,(K w.params).In base->base.Ns mainGlobals mg->aA l.prog w (K w.params) mg base CX0 11 fa fd ["script"] (oI (K w.params))) :
  W.WalkO q loose XP YP l.row.toRowW d [] (fun f vs=>PySem.call f vs) :=
 L2.walk_of (n:=63) (k:=11) (x:="script") (CX:=fun _=>CX0) (sp:=fun w=>oI (K w.params)) hn zj hdf ⟨rfl,zj,zj⟩ hY F (fun _ _ a ns hl _ hS=>⟨a,ns,rfl,hS,hl,fun _=>rfl⟩) fun _ _ _ _ _ z=>z
end
end Kx
section
open PySem PySem.W PyProof.Rows L2
set_option maxRecDepth 100000 in
set_option maxHeartbeats 0 in
theorem PySem.Challenge.cw_lategone_k17_ledgers_looked_at_holds : PySem.Challenge.rw_lategone_k17_ledgers_looked_at.Holds := by
 w_on;o_law;k_head;(case hw=>w_witness2)
 k_fill
 refine Kx.walk (l:=PySem.Challenge.rw_lategone_k17_ledgers_looked_at) rfl rfl (fun w h Y=>W.kIn_of Y) ?F
 case F =>
  intro w mg fa h KX G hmg
  refine' Kx.all_mk KX G hmg ?aC ?aCB ?aCC ?aCN ?h_aa ?h_ab ?h_ac ?h_ad ?h_ae ?h_af ?h_ag ?h_ah ?h_ai ?h_aj ?h_ak ?h_al ?h_am ?h_an ?h_ao ?h_ap ?h_aq ?h_ar ?h_as ?h_at ?h_au ?h_av ?h_aw ?h_ax ?h_ay ?h_az ?h_ba ?h_bb ?h_bc ?h_bd ?h_be ?h_bf ?h_bg ?h_bh ?h_bi ?h_bj ?h_bk ?h_bl ?h_bm ?h_bn ?h_bo ?h_bp ?h_bq ?h_br ?h_bs ?h_bt ?h_bu ?h_bv ?h_bw ?h_bx ?a_by ?l_by ?c_by ?k_by ?z_len ?z_sum ?z_abs ?z_range ?z_list ?z_tuple ?z_int ?z_bool ?z_sorted ?z_isinstance ?z_max ?z_all ?z_zip ?pg ?hd ?po ?sa ?mk ?kc ?ga ?rd ?n_there ?n_stamp ?n_slack ?n_entries ?n_looks ?aP ?lP ?bC ?bN ?clCC ?tpCC ?clCN ?tpCN ?sCCCC ?sCCCN ?sCNCC ?sCNCN ?xCC ?xCN
  (case aC|aCB|aCC|aCN=>k_is)
  (case h_aa|h_ab|h_ac|h_ad|h_ae|h_af=>(refine' dfI ?a ?l ?c ?k);(case a=>k_is);(case l=>k_is);(case c=>k_is);(case k=>k_is))
  (case h_ag=>(refine' bsI ?a ?l ?c ?k);(case a=>k_is);(case l=>k_is);(case c=>k_is);(case k=>k_is))
  (case h_ah|h_ai|h_aj|h_ak|h_al|h_am|h_an|h_ao|h_ap|h_aq|h_ar|h_as|h_at|h_au|h_av|h_aw=>(refine' mtI ?a ?i ?l ?c ?k);(case a=>k_is);(case i=>k_is);(case l=>k_is);(case c=>k_is);(case k=>k_is))
  (case h_ax|h_ay|h_az|h_ba|h_bb|h_bc|h_bd|h_be|h_bf|h_bg|h_bh|h_bi|h_bj|h_bk|h_bl|h_bm|h_bn|h_bo|h_bp|h_bq|h_br|h_bs|h_bt|h_bu|h_bv|h_bw|h_bx=>(refine' dfI ?a ?l ?c ?k);(case a=>k_is);(case l=>k_is);(case c=>k_is);(case k=>k_is))
  (case a_by|l_by|c_by|k_by|z_len|z_sum|z_abs|z_range|z_list|z_tuple|z_int|z_bool|z_sorted|z_isinstance|z_max|z_all|z_zip|pg|hd|po|sa|mk|kc|ga|rd|n_there|n_stamp|n_slack|n_entries|n_looks|aP|lP|bC|bN|clCC|tpCC|clCN|tpCN|sCCCC|sCCCN|sCNCC|sCNCN=>k_is)
  (case xCC=>k_exc)
  (case xCN=>k_exc)
#print axioms PySem.Challenge.cw_lategone_k17_ledgers_looked_at_holds
end
