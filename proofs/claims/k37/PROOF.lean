import PyProof.Rows.All
import Wide.All
import OpenK.AllK
import Wide.FinOn
import Lean
import PyProof.EqAt
import PyProof.EqKinds
import PyProof.TupleCall
import PyProof.LongRange
import KE.KDictLaws
import KE.KDictList
import KE.KDictOf
import KE.KDictSum
import KE.KEqDict
import KE.KIntText
import KE.KRevSl
import KE.KTryMore
import KE.LcSums
import OpenK.KWalk
import PyProof.AttrMissHeap
import PyProof.CallStr
import PyProof.ConsumeWalk
import PyProof.DictValues
import PyProof.DictWalks
import PyProof.InstEq
import PyProof.NeKinds
import PyProof.Rows.ReprOcc
import PyProof.Rows.RuleIs
import PyProof.Rows.SetFrom
import PyProof.Rows.SortKey
import PyProof.Rows.SortRuns
import PyProof.Rows.SortShellK
import PyProof.Rows.StrIntSpec
import PyProof.Rows.StrJoinRep
import PyProof.Rows.StrNews
import PyProof.Rows.StrRules
import PyProof.SetRoads
import PyProof.StrBlock2
import PyProof.StrBlockI
import PyProof.StrCalls
import PyProof.StrCalls2
import PyProof.StrLawsChain
import PyProof.StrLawsIdx
import PyProof.StrLawsJoin
import PyProof.StrLawsTight
import PyProof.StrLoop
import PyProof.StrWalks
import PyProof.WalkInts
import PySem.Challenge.RW_lategone_k37_desk_join
set_option Elab.async false
set_option linter.all false
set_option maxRecDepth 100000
set_option maxHeartbeats 4000000

namespace PySem.W.Fast
def tw11880093045853686172:=0
def tw6818517021138456740:=0
def tw16764574971850912054:=0
def tw6970899203257815460:=0
def tw2182647369172911257:=0
def tw6885212169517118324:=0
def tw17973392739663461727:=0
def tw15298808174392560897:=0
def tw6505062256975140704:=0
def tw7486322834833552344:=0
def tw9169855467758358590:=0
def tw3864752953929058941:=0
def tw722248822700690410:=0
def tw8392364627024842866:=0
def tw8702980401818287070:=0
def tw17389619088957128222:=0
def tw6388197635065668158:=0
def tw9760590291941374609:=0
def tw5809160571264187300:=0
def tw5313060936100831375:=0
def tw10186939628842100023:=0
def tw1700559712577554680:=0
def tw3331862017697780566:=0
def tw6647079402018034729:=0
def tw5946257540087557400:=0
def tw4016634606337831729:=0
def tw5899521774203702600:=0
def tw10768302584182452965:=0
def tw10809013525171991944:=0
def tw16731580656333852790:=0
def tw15071912067462777528:=0
def tw5968721815223582624:=0
def tw13530793073273835:=0
def tw3643698504014205047:=0
def tw7644735169615460128:=0
def tw3270504372842726419:=0
def tw15762740264061005036:=0
def tw12409324604607706365:=0
def tw15023556188362468014:=0
def tw16415980527725800278:=0
def tw887934037055295639:=0
def tw4736484996377619416:=0
def tw2095565451945325942:=0
def tw16145377109235152396:=0
def tw1142888816329884864:=0
def tw13479153902683429255:=0
def tw2051279459770069128:=0
def tw18369690362850393703:=0
def tw12043706740480448253:=0
def tw12307618013980641246:=0
def tw12010549555990008304:=0
def tw1908661674498521141:=0
def tw9742378281876853263:=0
def tw7430098629413479868:=0
def tw1666316891074956028:=0
def tw4253090963604196709:=0
def tw5589492210617510620:=0
def tw9559141824163470799:=0
def tw1157770788487676745:=0
def tw11002796412131508381:=0
def tw16113147083375572794:=0
def tw5670585422199663023:=0
def tw6971221066411792130:=0
def tw15574018498541662555:=0
def tw12163136217496393528:=0
def tw5884947304131322129:=0
def tw15415107723396384403:=0
def tw4806995735356491110:=0
def tw8661786572489292368:=0
def tw5225716172162552084:=0
def tw9773343743299399533:=0
def tw21383008871407905:=0
def tw4570444053341452531:=0
def tw11298987403619179877:=0
def tw5259383416448372626:=0
def tw11261321310677550090:=0
def tw10742709782524539822:=0
def tw11310108804950203563:=0
def tw9268007924297408247:=0
def tw2222417077057209599:=0
def tw1019656295997865500:=0
def tw16062694138513727462:=0
def tw17828597172962217906:=0
def tw13803838751464394392:=0
def tw8963635698201908025:=0
def tw16505205598352699429:=0
def tw17164362984592137902:=0
def tw5046337320615860572:=0
def tw2244238467973576546:=0
def tw17119110388545096471:=0
def tw1069841221375646190:=0
def tw3054830330222872858:=0
def tw14303221435196364160:=0
def tw11330499515532337741:=0
def tw10252631353046832175:=0
def tw15604347980393906858:=0
def tw6149490382186024507:=0
def tw1404634099911616500:=0
def tw18245344098508551484:=0
def tw16900840555468380398:=0
def tw17326904382680461233:=0
def tw410851218038272810:=0
def tw14389734393930650775:=0
def tw296195572213408587:=0
def tw12698892578652193401:=0
def tw5637945483265955381:=0
def tw17553053140299306045:=0
def tw14933063916038755025:=0
def tw17225588483331988657:=0
def tw13525577040856219537:=0
def tw17819010279597742228:=0
def tw5120025968750592960:=0
def tw3099282483089574244:=0
def tw9004254133993105039:=0
def tw15708315554994876232:=0
def tw5401748513953919109:=0
def tw17076176879674509772:=0
def tw16630667866796114992:=0
def tw2791363970784974109:=0
def tw12126011479714526221:=0
def tw176354474296810760:=0
def tw13745963444177659729:=0
def tw2287133280310138844:=0
def tw4405789200595778892:=0
def tw12420064268089903629:=0
def tw9251390305404464733:=0
def tw9550650317268163904:=0
def tw15874781838810892660:=0
def tw2097351031997197415:=0
def tw15190756343986164905:=0
def tw1376991033721520763:=0
def tw12328181220324015865:=0
def tw1744929783243529191:=0
def tw17334503520244484199:=0
def tw3990031980928360056:=0
def tw18392987001929276726:=0
def tw13582070201618100733:=0
def tw3468870428084410354:=0
def tw15712019131453306872:=0
def tw17771934490967080657:=0
def tw17097061150021986676:=0
def tw8665316032154688769:=0
def tw15700806032542968834:=0
def tw5180563145149003446:=0
def tw8379024760179271986:=0
def tw7517921624525563320:=0
def tw3867221164393222661:=0
def tw11280727267250416610:=0
def tw14642870310589185219:=0
def tw4720932116211531920:=0
def tw875653895495437044:=0
def tw17731019988286313189:=0
def tw14059815736643442958:=0
def tw9510406377213094110:=0
def tw2986867880865166113:=0
def tw1753154125970555361:=0
def tw11688799978308872506:=0
def tw15434650174855406686:=0
def tw17518978561045738710:=0
def tw5660072678248637818:=0
def tw5742989608242629488:=0
def tw9398333666386228869:=0
def tw5784126351571026607:=0
def tw2686567886073136646:=0
def tw12035548480896873992:=0
def tw2762823560161659472:=0
def tw14659613710674903730:=0
def tw2496535846781900537:=0
def tw17800207208290856414:=0
def tw2332238600509623:=0
def tw273182972254872722:=0
def tw1930631179278148100:=0
def tw6572882013911526071:=0
def tw5138567504588467060:=0
def tw345261401512327349:=0
def tw14720173923626407369:=0
def tw13351849583859539351:=0
def tw4807365661953730198:=0
def tw7130651690983667794:=0
def tw15185675702366325312:=0
def tw17380892814481718783:=0
def tw1458202116403835716:=0
def tw15541857584063820571:=0
def tw1556402740156010700:=0
def tw2368273163786312730:=0
def tw6411541787554623633:=0
def tw3173532962947889404:=0
def tw10677956098836679278:=0
def tw17458188480710426719:=0
def tw4085642126613961546:=0
def tw5542167816566862190:=0
def tw16156458754901801238:=0
def tw177050630720694256:=0
def tw16554113047770415435:=0
def tw5733584106916923053:=0
def tw8502841172402563491:=0
def tw1634428069942521345:=0
def tw947224456372436795:=0
def tw9293672689639054243:=0
def tw6524823175501281148:=0
def tw16543748992114332102:=0
def tw6916520418571673629:=0
def tw3737683785553135916:=0
def tw2919883874752750234:=0
def tw3793229669830323713:=0
def tw6342362888822331188:=0
def tw18070695238467218424:=0
def tw7313076585540169724:=0
def tw9459136233846546347:=0
def tw17106055705093605141:=0
def tw2984143665890117245:=0
def tw18053912354483330050:=0
def tw5118950971478959138:=0
def tw6090217230504446332:=0
def tw792108449909061496:=0
def tw4687395074299299121:=0
def tw15873087276477497950:=0
def tw12625937801777692153:=0
def tw13294118800167266030:=0
def tw2807704724469323844:=0
def tw10399268715456202718:=0
def tw3674788079250272667:=0
def tw3109229466900719996:=0
def tw815331837299069037:=0
def tw11746211589902316082:=0
def tw9092866105471588513:=0
def tw9991266355465573994:=0
def tw868723139596544513:=0
def tw9467100312704261128:=0
def tw11829236092926947431:=0
def tw4054410186430428613:=0
def tw5954068675632662654:=0
def tw10279643269767412444:=0
def tw4802268964364970230:=0
def tw15348997409652774967:=0
def tw12678106667143863206:=0
def tw15168019908845152957:=0
def tw15321549299812780123:=0
def tw12146386085066523512:=0
def tw5228424740333641142:=0
def tw14240590867716528540:=0
def tw12677941167171597345:=0
def tw17371029055004326168:=0
def tw2523040248546483449:=0
def tw15741172423100399607:=0
def tw9746863040617442730:=0
def tw6348191713122144861:=0
def tw3721181646630140355:=0
def tw4601093073197762892:=0
def tw5308324403419379272:=0
def tw2088280789180319140:=0
def tw16572038832013644248:=0
def tw15010449320151738146:=0
def tw15270476501992805306:=0
def tw14319239691883837081:=0
def tw1192378630602988601:=0
def tw13438180128641708099:=0
def tw8361854706931383869:=0
def tw1391594117594973050:=0
def tw28569408551240303:=0
def tw7505884642092163994:=0
def tw8295904329488660221:=0
def tw9891397383005810819:=0
def tw9938505234885238260:=0
def tw6142926084458308951:=0
def tw2949301330618219400:=0
def tw8190008684871550037:=0
def tw9072316179632331941:=0
def tw3536408588449610087:=0
def tw8685636089492039953:=0
def tw2731225656535642850:=0
def tw2886595201097086791:=0
def tw4238762759049618977:=0
def tw2764365871070421731:=0
def tw14552934404478663670:=0
def tw16783566676364127473:=0
def tw8638275230624335965:=0
def tw4439068489087741150:=0
def tw9630021347151152171:=0
def tw623896848248968369:=0
def tw11729599162615738355:=0
def tw14534239100042894424:=0
def tw9958506385889856463:=0
def tw14999739103888897142:=0
def tw5993091832613377486:=0
def tw6757970391331343228:=0
def tw11447468270735680127:=0
def tw15116368534385359593:=0
def tw13869295558970343219:=0
def tw3081813926117683197:=0
def tw17152240446781991203:=0
def tw5086050004426004569:=0
def tw6836555108896089852:=0
def tw7475641364091683871:=0
def tw2813484101486763522:=0
def tw7318633525265203103:=0
def tw12817909338869628387:=0
def tw17104705277313984344:=0
def tw10401103270547425782:=0
def tw389995873455136943:=0
def tw8886238358667274241:=0
def tw14279427518152037609:=0
def tw10674284323418488834:=0
def tw6456455065349435889:=0
def tw3742767951690387599:=0
def tw6428365852928100681:=0
def tw17130082152626958186:=0
def tw2577530167769708361:=0
def tw4725259296340983927:=0
def tw18446595166009663651:=0
def tw11879653813741197499:=0
def tw7749172220627506105:=0
def tw12615169562930608487:=0
def tw296238678927650994:=0
def tw2835000974267388563:=0
def tw15947563204577284232:=0
def tw12519420776024437032:=0
def tw15998119504484614377:=0
def tw2582609078076444919:=0
def tw7031681812485807846:=0
def tw5946767278742310112:=0
def tw13599715750445102482:=0
def tw6236728949959328896:=0
def tw5971353713608957539:=0
def tw11033711104870957816:=0
def tw4141295334298095302:=0
def tw454659199766042548:=0
def tw127550576798334481:=0
def tw15581493675272288004:=0
def tw17520749699705585987:=0
def tw15491704756985871637:=0
def tw111920572535525617:=0
def tw14171984955504580370:=0
def tw1504152773371237105:=0
def tw14487411135378047777:=0
def tw17676930367386235676:=0
def tw15952726027499679562:=0
def tw831081835613685973:=0
def tw16839149704658402532:=0
def tw11505137061385625400:=0
def tw668133141981128957:=0
def tw50964867044545809:=0
def tw789512224667657032:=0
def tw6462463984816129884:=0
def tw11267222093870795248:=0
def tw1089641102244396569:=0
def tw12387358037590086345:=0
def tw10489853690215184364:=0
def tw16527852433901470955:=0
def tw16434730007417302000:=0
def tw4510120790371904525:=0
def tw13769251593392704041:=0
def tw1302175082883504592:=0
def tw1763177919382177633:=0
def tw11648070844583494073:=0
def tw13374509141426227410:=0
def tw11838591160732402926:=0
def tw11825553143959015186:=0
def tw6650215785746527623:=0
def tw4160465667725019058:=0
def tw5178523269289320659:=0
def tw4114335831659217196:=0
def tw3615284852971045115:=0
def tw12986484283176344899:=0
def tw13275451257688217213:=0
def tw18311238735960615619:=0
def tw15260413009070548080:=0
def tw17527065616089039989:=0
def tw6338114047326607884:=0
def tw13364508011970304651:=0
def tw6315856986115643683:=0
def tw6768528738504462788:=0
def tw2857029370336711353:=0
def tw17639603614557818407:=0
def tw18007958741585372552:=0
def tw10328811412651213125:=0
def tw9281886429037644:=0
def tw8297357805077043315:=0
def tw15535402353423213654:=0
def tw6296573226393251985:=0
def tw15172316539507767689:=0
def tw2553383510935152403:=0
def tw2399870974972573304:=0
def tw2569754307301403611:=0
def tw13522485502687024665:=0
def tw8273354621482711427:=0
def tw8551682353491468072:=0
def tw15059392138120905769:=0
def tw12543026805818356759:=0
def tw1526750275753348008:=0
def tw2590334556076524692:=0
def tw16660929079448446892:=0
def tw8308550114118859026:=0
def tw5132745860246711549:=0
def tw8787279009327520058:=0
def tw17495637302086524734:=0
def tw13530171680037752717:=0
def tw2933483578138324855:=0
def tw12392703903419261440:=0
def tw10399331738376733111:=0
def tw6400217830739065237:=0
def tw3503225656708062629:=0
def tw13269392969827002996:=0
def tw6950804304397540449:=0
def tw1156093128589513536:=0
def tw5435935136367169575:=0
def tw4003349481444890956:=0
def tw16147469228869370125:=0
def tw1598485948385231507:=0
def tw9007331786866648940:=0
def tw3438804675763762701:=0
def tw11384632227317214716:=0
def tw16596527940002861737:=0
def tw4059935829038628645:=0
def tw14032168950075771481:=0
def tw10415574897702940:=0
def tw6533108726877372892:=0
def tw5803761338322445625:=0
def tw2164991576532395023:=0
def tw8980773662747232967:=0
def tw16058199262762687444:=0
def tw13319040209285153171:=0
def tw8847871536795771234:=0
def tw5629620596868443401:=0
def tw7021930762825958845:=0
def tw8618363287987948989:=0
def tw11113904547837090961:=0
def tw7235306254138071660:=0
def tw8323786353182034682:=0
def tw16465231113854956241:=0
def tw6075056453886973696:=0
def tw13750531384990600954:=0
def tw140416361991638622:=0
def tw7699960649146354158:=0
def tw8309542850585139367:=0
def tw4674605910945547377:=0
def tw9556710659557863378:=0
def tw14485524050046277092:=0
def tw15761817509581167594:=0
def tw5249148725293668593:=0
def tw11644148028645598176:=0
def tw3564148162076048235:=0
def tw1861344264209847393:=0
def tw8102057391448259600:=0
def tw7211790345364863523:=0
def tw279810620868743999:=0
def tw5189501330609594393:=0
def tw173730834365096510:=0
def tw2868880249044080831:=0
def tw6127377840845495751:=0
def tw697096611442317148:=0
def tw16147233271127582009:=0
def tw1036527393690888351:=0
def tw14652720883720124989:=0
def tw1412468471742993257:=0
def tw1904301965485934239:=0
def tw16271373007033072264:=0
def tw11220290645801026758:=0
def tw16283652720485944959:=0
def tw14166431204743716809:=0
def tw10452740023994226569:=0
def tw9516812968801413314:=0
def tw6896428698755357135:=0
def tw5306903853369610980:=0
def tw108775681465860846:=0
def tw6496448445759924502:=0
def tw9847898742155097415:=0
def tw14405154916440972258:=0
def tw4185666574131885853:=0
def tw8013928457484501586:=0
def tw16617286191423869342:=0
def tw13487438817463948455:=0
def tw12263513862776147046:=0
def tw14879861287168666992:=0
def tw3819223531815269544:=0
def tw3486171657214808946:=0
def tw13458799419770181503:=0
def tw12335355787052646804:=0
def tw669057987398553467:=0
def tw1701197918162639696:=0
def tw2351989654410387914:=0
def tw6288568391001086723:=0
def tw12533460327081950937:=0
def tw8515390151477894915:=0
def tw15610604379956652547:=0
def tw10048502707195830977:=0
def tw7235359194641374880:=0
def tw12658432500773033832:=0
def tw668248365188940860:=0
def tw11704666890989961698:=0
def tw153592901010756151:=0
def tw13033316710755510470:=0
def tw6883128811227177795:=0
def tw14182980499018681587:=0
def tw8368816488355492683:=0
def tw9451457082934305586:=0
def tw13637455122833158166:=0
def tw13766683966119279298:=0
end PySem.W.Fast
section
end
variable {fd fda fdn fdsweep_if_due fdfirst_there fdw fde fds fdneed fdenter fd2 fdholds fdcut fdneed_free fdI:PySem.FuncData}{pins pins':List (PySem.Addr×PySem.Obj)}{Q E:PySem.Value->PySem.Shared->Prop}{f C a b e p d D CN CC fsweep_if_due fa CL fn ffirst_there fneed fenter fe fcut td:PySem.Addr}{s:PySem.Shared}{K:PySem.W.Frag}{i n m lo ep nrem:Nat}{x z qual:PySem.Str}{cap:List Nat}{A:PySem.Around}{w:PySem.World}{forms:List (PySem.Str×PySem.Addr)}{us vs its args ws its':List PySem.Value}{u a0 cls:PySem.Value}{outer:List PySem.Env}{pos cpos pos' apos px:PySem.Pos}{N ps NB ys ns loose:List PySem.Str}{base h h':PySem.Heap}{tg iter elt value:PySem.Expr}{scope:PySem.Scope}{ifs:List PySem.Expr}{mg mA:PySem.Str->Option PySem.Value}{env:PySem.Env}{st:PySem.Stmt}{use:Option (PySem.Value->PySem.Sem Unit)}{prog q:PySem.Program}{kw:List (PySem.Str×PySem.Value)}{L every:List (Int×PySem.Str)}{osl:Array (Option PySem.Value)}{YP:PySem.World->PySem.Heap->Prop}{ch fp:List PySem.Addr}{items:Array PySem.Value}{body:List PySem.Stmt}{hadNext:Bool}{hi:Option Int}{B:Prop}{pl:PySem.Sem Bool}{oe:PySem.Obj}{newId:String}
def ah:=@List.not_mem_nil
def ax:=@List.mem_cons
def bt:=@List.getElem?_eq_getElem
def Dg:=@List.length_map
def Dh:=@PySem.wpAny_bind
def Di:=@if_neg
def Dj:=@Nat.le_refl
def Dk:=@decide_eq_true
def Dm:=@if_pos
def Dp:=@of_decide_eq_true
def Dq:=@Nat.le_trans
def Dr:=@List.mem_cons_of_mem
def Ds:=@List.length_append
def Dt:=@PySem.Heap.get?_push_of_some
def Du:=@List.mem_append
def Dv:=@or_false
def Dw:=@List.length_cons
def Dx:=@PySem.wpAny_pure
def Dy:=@Bool.false_ne_true
def Dz:=@List.getElem?_eq_some_iff
def DD:=@List.size_toArray
def DE:=@List.mem_append_right
def DF:=@decide_eq_false
def DG:=@List.mem_map
def DH:=@List.map_cons
def DI:=@List.mem_singleton
def DJ:=@Option.some.inj
def DL:=@List.length_eq_zero_iff
def DM:=@PySem.Heap.lt_size
def DN:=@List.getElem?_map
def DO:=@List.mem_cons_self
def DP:=@Bool.and_eq_true
def DQ:=@PySem.Heap.get?_push_size
def DS:=@List.getD_eq_getElem?_getD
def DT:=@List.mem_append_left
def DV:=@List.mem_of_getElem?
def DW:=@Nat.lt_of_lt_of_le
def DY:=@Nat.lt_of_le_of_lt
def DZ:=@Nat.ne_of_lt
def D4:=@List.map_append
def D5:=@List.filter_cons
def D6:=@Nat.zero_le
def D7:=@List.mem_filter
def D8:=@PySem.PassesOwn.never
def D9:=@List.take_length
def Ea:=@PySem.Heap.get?_update_other
def Eb:=@Sum.inr.inj
def Ec:=@List.length_filter_le
def Ed:=@decide_eq_true_eq
def Ee:=@List.getElem_mem
def Ef:=@List.take_add_one
def Eg:=@PySem.F.plainAttrs_list
def Eh:=@List.length_dropLast
def Ei:=@List.nodup_cons
def Ej:=@Int.toNat_natCast
def Ek:=@PyProof.Rows.slot_tuple_getitem
def El:=@Bool.false_eq_true
def Em:=@List.mem_filterMap
def Eo:=@List.length_replicate
def Ep:=@Array.getElem?_eq_some_iff
def Er:=@PyProof.Rows.wpS_bind
def Es:=@List.length_take
def Et:=@List.lookup_cons
def Eu:=@List.take_of_length_le
def Ew:=@PySem.wpAny_mono
def Ex:=@PySem.F.slot_list_append
def Ey:=@PySem.F.type_list_append
def Ez:=@List.append_nil
def EA:=@List.length_set
def EB:=@Nat.lt_trans
def EC:=@PySem.F.slot_dict_get
def ED:=@List.map_congr_left
def EE:=@List.pairwise_map
def EF:=@List.getElem?_append_left
def EG:=@Nat.lt_succ_self
def EH:=@List.cons_append
def EI:=@List.append_assoc
def EJ:=@List.nodup_append
def EK:=@List.length_range
def EL:=@Bool.eq_iff_iff
def EM:=@List.find?_cons
def EN:=@List.any_eq_true
def EO:=@List.cons_ne_nil
def ER:=@List.getElem?_append_right
def ES:=@PySem.Calls.callWith_builtin
def ET:=@Nat.le_succ
def EU:=@PySem.wpAny_newObj_type
def EV:=@List.getElem_of_mem
def EW:=@Array.getElem?_setIfInBounds_ne
def EX:=@PyProof.Rows.wpS_pure
def EY:=@PySem.Paired.length
def EZ:=@List.length_nil
def E1:=@PySem.Calls.spliced_cons
def E2:=@Nat.succ_le_succ
def E3:=@PySem.lookup_relabel_local
def E4:=@PySem.Calls.evalArgs_plain
def E5:=@PySem.wpAny_holding
def E6:=@PySem.F.plainAttrs_dict
def E7:=@PyProof.Rows.KeyOrd.kle_refl
def E8:=@beq_eq_false_iff_ne
def E9:=@Array.length_toList
def Fb:=@PySem.F.entry_dict_get
def Fc:=@Ne.symm
def Fd:=@List.perm_ext_iff_of_nodup
def Fe:=@PyProof.Rows.KeyOrd.kle_trans
def Ff:=@Nat.le_add_right
def Fg:=@Nat.lt_irrefl
def Fh:=@PySem.Heap.get?_update_self
def Fi:=@List.zip_cons_cons
def Fj:=@PySem.Obj.data_mapFields
def Fm:=@PySem.tupleKind_room_in1
def Fn:=@List.mem_range
def Fp:=@PySem.wpAny_truthy_bool
def Fq:=@PySem.wpAny_passesOwn
def Fs:=@List.Pairwise.imp_of_mem
def Ft:=@PySem.F.slot_str_getitem
def Fu:=@PySem.Heap.get?_push_ne
def Fv:=@not_or
def Fx:=@PySem.mem_of_lookup
def Fy:=@PySem.wpAny_field
def Fz:=@List.getElem?_cons_succ
def FA:=@List.filter_sublist
def FC:=@PySem.wpAny_getItem_str_slice
def FD:=@List.all_eq_true
def FE:=@List.take_append_of_le_length
def FF:=@if_false
def FG:=@PySem.wpAny_Call_Name_kw
def FH:=@Nat.le_of_lt
def FI:=@PyProof.Rows.callWith_type1
def FJ:=@PySem.wpAny_execs_nil
def FK:=@List.getElem?_eq_none
def FL:=@List.perm_append_comm
def FN:=@PySem.Obj.isFreed_of_fields
def FP:=@List.contains_iff_mem
def FQ:=@PySem.Calls.spliced_nil
def FR:=@PySem.typeIs_str
def FT:=@Nat.lt_succ_of_lt
def FU:=@List.cons.inj
def FV:=@Array.perm_iff_toList_perm
def FX:=@List.nodup_iff_pairwise_ne
def FY:=@PySem.F.excBase_ValueError
def FZ:=@PySem.W.kia_one
def F4:=@PySem.wpAny_setField
def Ga:=@beq_self_eq_true
def Gb:=@PySem.Heap.size_update
def Gd:=@List.toList_toArray
def Ge:=@PySem.F.args_tuple_add_2
def Gf:=@List.map_nil
def Gg:=@PySem.call_meetsIn
def Gh:=@Int.zero_add
def Gi:=@PySem.F.entry_tuple_add
def Gj:=@PySem.F.args_tuple_lt_2
def Gk:=@Bool.true_and
def Gn:=@Option.isSome_some
def Gp:=@PySem.F.args_dict_get_3
def Gq:=@Int.eq_ofNat_of_zero_le
def Gr:=@List.filter_append
def Gs:=@PySem.F.slot_tuple_add
def Gu:=@PySem.richCompare_meets_room
def Gv:=@PySem.F.entry_tuple_lt
def Gw:=@PySem.wpAny_rule
def Gx:=@PyProof.Rows.KeyOrd.kle_of_klt
def Gy:=@beq_iff_eq
def Gz:=@Bool.not_eq_true'
def GA:=@PySem.wpAny_Call_method
def GB:=@Classical.not_not
def GC:=@List.nodup_nil
def GD:=@List.drop_zero
def GF:=@PyProof.Rows.wpS_forRange
def GH:=@Array.getElem?_toList
def GI:=@PySem.F.slot_tuple_lt
def GJ:=@PySem.F.type_dict_get
def GK:=@List.take_append_drop
def GL:=@List.mem_of_mem_erase
def GN:=@PyProof.Rows.pairsOf_size
def GO:=@PySem.wpAny_call_entry
def GP:=@List.dropLast_concat_getLast
def GQ:=@List.dropLast_cons_of_ne_nil
def GR:=@List.any_cons
def GS:=@Bool.and_true
def GU:=@if_true
def GV:=@List.filterMap_cons
def GW:=@Bool.or_eq_true
def GX:=@Option.map_some
def GY:=@PySem.post_val_or_str
def GZ:=@Array.toList_append
def G0:=@List.filter_nil
def G7:=@PySem.Calls.Name_function_global
def G8:=@PyProof.Rows.assignInOrder_cons
def G9:=@Nat.le_of_eq
def Ha:=@PySem.codeAny_mono
def Hb:=@of_decide_eq_false
def Hc:=@Int.emod_lt_of_pos
def Hd:=@PySem.Txt.slice_le
def He:=@PyProof.Rows.pairsOf_toList
def Hf:=@List.drop_eq_getElem_cons
def Hh:=@PySem.Calls.call_function_entry
def Hi:=@List.mem_or_eq_of_mem_set
def Hj:=@Classical.byContradiction
def Hk:=@Option.isSome_iff_exists
def Hl:=@PySem.SeqAt.EqAt.same
def Hn:=@Option.isSome_map
def Ho:=@List.Perm.eq_of_pairwise
def Hq:=@List.length_erase_of_mem
def Hr:=@List.take_append_getElem
def Hs:=@PySem.F.slot_dict_values
def Ht:=@List.eq_of_mem_replicate
def Hu:=@Int.mul_one
def Hv:=@PySem.wpAny_standAt
def Hw:=@Prod.mk.injEq
def Hy:=@List.getLast_eq_getElem
def Hz:=@PySem.Paired.snoc
def HP:=@PySem.F.args_dict_get_2
def HR:=@List.length_drop
def HS:=@PySem.noFill_tuple_add
def HW:=@Nat.le_of_not_lt
def Ia:=@PySem.wpAny_execs_cons
def Ib:=@List.Sublist.map
def Ic:=@List.getElem?_set_self
def Ie:=@Option.map_eq_some_iff
def Ig:=@Nat.div_div_eq_div_mul
def Ih:=@List.length_pos_of_mem
def Ii:=@List.length_eq_one_iff
def Ij:=@PySem.F.plainAttrs_str
def Ik:=@Nat.ne_of_gt
def Il:=@List.of_mem_zip
def Im:=@Int.emod_nonneg
def Io:=@PySem.W.callWith_K
def Ip:=@PySem.F.slot_dict_pop
def Iq:=@PySem.W.methodCall_KW
def Ir:=@Nat.le_div_iff_mul_le
def Iu:=@List.map_map
def Iv:=@List.filter_map
def Iw:=@Nat.succ.inj
def Iy:=@Bool.and_eq_false_iff
def Iz:=@PySem.F.slot_list_pop
def IA:=@PySem.F.type_list_pop
def IB:=@List.dropLast_sublist
def IC:=@List.nil_append
def ID:=@Int.lt_trans
def IE:=@PySem.call_meets
def IF:=@List.getElem?_set_ne
def IH:=@List.mem_erase_of_ne
def II:=@List.perm_cons_erase
def IJ:=@List.getElem?_of_mem
def IK:=@Nat.mul_le_mul_right
def IM:=@PySem.Heap.size_push
def IP:=@List.take_zero
def IQ:=@PySem.sizeLine_eq
def IS:=@List.not_lt
def IT:=@Nat.log2_lt
def IU:=@List.map_eq_nil_iff
def IV:=@Int.mul_add
def IW:=@List.getElem?_range
def IX:=@Bool.false_or
def IZ:=@List.set_comm
def Ja:=@Nat.zero_add
def Jb:=@List.map_set
def Jc:=@Nat.sub_self
def Jd:=@Int.le_refl
theorem L2.sz0:0<=PySem.sizeLine:=by decide
theorem L2.sz1:1<=PySem.sizeLine:=by decide
theorem L2.sz10:10<=PySem.sizeLine:=by decide
theorem L2.sz2:2<=PySem.sizeLine:=by decide
theorem L2.sz3:3<=PySem.sizeLine:=by decide
theorem L2.sz4:4<=PySem.sizeLine:=by decide
theorem L2.sz5:5<=PySem.sizeLine:=by decide
theorem aaa0(h:True:=by decide +kernel):True:=h
def aaa:=aaa0._auto_1
theorem aab0(h:True:=by decide):True:=h
def aab:=aab0._auto_1
theorem aac0(h:True:=by first | exact .inl rfl | exact .inr rfl | assumption):True:=h
def aac:=aac0._auto_1
theorem aad0(h:True:=by rfl):True:=h
def aad:=aad0._auto_1
theorem aae0(h:True:=by intro vs H Q E h;repeat (first | (obtain ⟨rfl,_⟩:=h;rfl) | obtain ⟨_,h⟩:=h)):True:=h
def aae:=aae0._auto_1
theorem aaf0(h:True:=by intro _;rfl):True:=h
def aaf:=aaf0._auto_1
theorem C9 {p:Prop}(h:autoParam (p) aaa):p:=h
theorem Db {p:Prop}(h:autoParam (p) aab):p:=h
theorem nqz {p:Prop}(h:p:=by intro z;cases z):p:=h
theorem nqd {p:Prop}(h:p:=by show (0:Int)<_;decide):p:=h
theorem Dc {p:Prop}(h:p:=by lia):p:=h
theorem Dd {p:Prop}(h:p:=by simp):p:=h
theorem De {α:Type _}{a b:α}(h:a∈[b]):a=b:=List.mem_singleton.mp h
namespace TS
open PySem PyProof.Rows
def kf (J:KeyKind)(p:Keyed):J.α:=(J.keyOf p.1).getD J.dflt
def Lb (J:KeyKind)(p q:Keyed):Bool:=J.blt (kf J p) (kf J q)
def Le (J:KeyKind)(p q:Keyed):Prop:=Lb J q p=false
section ord
variable {J:KeyKind}{p q r:Keyed}
theorem Le.refl (p:Keyed):Le J p p:=J.irrefl _
end ord
structure Cmp (prog:Program)(w:World)(A:Around)(s:Shared)(J:KeyKind)(kd:SortKind)(a₀:Array Keyed):Prop where
 on:∀x y:Keyed,x∈a₀.toList->y∈a₀.toList->∀(E:Value->Shared->Prop) (Q:Bool->Shared->Prop),Q (Lb J x y) s->wpAny (model prog w) A (keyLt' kd x.1 y.1) Q E s
structure SB (kd:SortKind)(a₀:Array Keyed)(st:SortSt):Prop where
 perm:(arrOf st).Perm a₀
 kind:kindOf st=kd
 fail:failedOf st=none
theorem zK {J:KeyKind}{xs:Array Keyed}{p:Keyed}(h:xs[i]?=some p):KK J xs i=kf J p:=by unfold KK;rw [h];rfl
section
variable {kd:SortKind}{a₀:Array Keyed}{st:SortSt}{J:KeyKind}
theorem SB.size (B:SB kd a₀ st):(arrOf st).size=a₀.size:=B.perm.size_eq
theorem SB.at (B:SB kd a₀ st)(h:i<a₀.size):∃ p,(arrOf st)[i]?=some p/\p∈a₀.toList/\KK J (arrOf st) i=kf J p:=by
 have h':i<(arrOf st).size:=by rw [B.size];exact h
 have e:(arrOf st)[i]?=some (arrOf st)[i]:=getElem?_pos _ i h';exact ⟨_,e,(FV.mp B.perm).mem_iff.mp Dd,zK e⟩
theorem SB.arr (B:SB kd a₀ st){xs:Array Keyed}(h:xs.Perm (arrOf st)):SB kd a₀ (setArr st xs):=⟨h.trans B.perm,B.kind,B.fail⟩
end
section
variable {prog:Program}{w:World}{A:Around}{E:Value->Shared->Prop}{s:Shared}{J:KeyKind}{kd:SortKind}{a₀:Array Keyed}{st:SortSt}
theorem vJ {arr:Array Keyed}{p:Keyed}{Q:Keyed->SortSt->Prop}(h:arr[i]?=some p)(q:Q p st):wpS (model prog w) A E s (elem' arr i) Q st:=by rw [elem'_eq,h];exact EX q
theorem C7 (C:Cmp prog w A s J kd a₀){x y:Keyed}{Q:Option Bool->SortSt->Prop}(t:x∈a₀.toList)(o:y∈a₀.toList)(hk:kindOf st=kd)(q:Q (some (Lb J x y)) st):
  wpS (model prog w) A E s (lt' x y) Q st:=by
 rw [lt'_eq];refine Er (wpS_get ?_);rw [hk];refine Er (wpS_lift (wpAny_attempt (C.on x y t o _ _ ⟨rfl,?_⟩)));exact EX q
theorem jG (C:Cmp prog w A s J kd a₀)(B:SB kd a₀ st){j:Nat}{Q:Option Bool->SortSt->Prop}(hi:i<a₀.size)(l:j<a₀.size)(q:Q (some (J.blt (KK J (arrOf st) i) (KK J (arrOf st) j))) st):wpS (model prog w) A E s (ltAt' i j) Q st:=by obtain ⟨x,o,O,T⟩:=B.at (J:=J) hi;obtain ⟨y,c,r,t⟩:=B.at (J:=J) l;rw [ltAt'_eq];refine Er (wpS_get ?_);show wpS _ _ _ _ (do let x <-elem' (arrOf st) i;let y <-elem' (arrOf st) j;lt' x y) Q st;refine Er (vJ o (Er (vJ c (C7 C O r B.kind ?_))));rw [T,t] at q;exact q
def Up (J:KeyKind)(xs:Array Keyed)(lo n:Nat):Prop:=∀i j,lo<=i->i<=j->j<lo+n->J.kle (KK J xs i) (KK J xs j)
def Dn (J:KeyKind)(xs:Array Keyed)(lo n:Nat):Prop:=∀i j,lo<=i->i<=j->j<lo+n->J.kle (KK J xs j) (KK J xs i)
def Kp (lo:Nat)(xs ys:Array Keyed):Prop:=∀k,k<lo->xs[k]?=ys[k]?
theorem Kp.trans {x y z:Array Keyed}(a:Kp lo x y)(b:Kp lo y z):Kp lo x z:=fun k h=>(a k h).trans (b k h)
theorem Kp.refl {x:Array Keyed}:Kp lo x x:=fun _ _=>rfl
theorem eX {xs:Array Keyed}{j:Nat}(t:j<=xs.size)(o:lo<=i):Kp lo (mirror xs i j ((j-i) / 2)) xs:=fun k h=>by rw [getElem?_mirror_all t,Di Dc]
theorem vk {xs:Array Keyed}{t d:Nat}(o:t<xs.size)(hd:d<=t)(r:lo<=t-d):Kp lo (bubble xs t d) xs:=fun k h=>by rw [getElem?_bubble o d hd,Di Dc,Di Dc]
theorem AY {xs:Array Keyed}:Up J xs lo 1:=fun i j a b c=>by
 have e:i=j:=by lia
 subst e;exact E7 _
theorem Up.snoc {xs:Array Keyed}(h:Up J xs lo n)(r:1<=n)(o:J.blt (KK J xs (lo+n)) (KK J xs (lo+n-1))=false):Up J xs lo (n+1):=fun i j a b c=>by
 by_cases t:j<lo+n
 .exact h i j a b t
 have e:j=lo+n:=by lia
 subst e;by_cases hi:i=lo+n
 .subst hi;exact E7 _
 exact Fe (h i (lo+n-1) a Dc Dc) o
theorem Dn.snoc {xs:Array Keyed}(h:Dn J xs lo n)(r:1<=n)(o:J.kle (KK J xs (lo+n)) (KK J xs (lo+n-1))):Dn J xs lo (n+1):=fun i j a b c=>by
 by_cases t:j<lo+n
 .exact h i j a b t
 have e:j=lo+n:=by lia
 subst e;by_cases hi:i=lo+n
 .subst hi;exact E7 _
 exact Fe o (h i (lo+n-1) a Dc Dc)
theorem Dn.same {xs ys:Array Keyed}(h:Dn J xs lo n)(e:∀k,KK J ys k=KK J xs k):Dn J ys lo n:=fun i j a b c=>by rw [e,e];exact h i j a b c
theorem Dn.turn {xs:Array Keyed}(h:Dn J xs lo n)(t:lo+n<=xs.size):Up J (mirror xs lo (lo+n) ((lo+n-lo) / 2)) lo n:=fun i j a b c=>by rw [KK_mirror t,KK_mirror t,Dm Dc,Dm Dc];exact h _ _ Dc Dc Dc
def Run (J:KeyKind)(kd:SortKind)(a₀:Array Keyed)(lo nrem:Nat)(st₀:SortSt)(m:Nat)(st:SortSt):Prop :=
 SB kd a₀ st/\pendingOf st=pendingOf st₀/\Kp lo (arrOf st) (arrOf st₀)/\1<=m/\m<=nrem/\Up J (arrOf st) lo m
theorem eY {j:Nat}{Q:Unit->SortSt->Prop}(h:Q () (setArr st (mirror (arrOf st) i j ((j-i) / 2)))):wpS (model prog w) A E s (reverseSlice' i j) Q st:=by rw [reverseSlice'_eq];exact wpS_modify h
abbrev C2:=Option (Option Nat)×Nat
abbrev C3:=Option (Option Nat)×Nat×Nat
def clb (lo n nrem:Nat):StateT SortSt Sem C2 :=
 forIn [n:nrem] ((none,n):C2) fun _ c=>ltAt' (lo+c.2) (lo+c.2-1) >>= fun x=>match x with
  | some b=>if b=true then pure (ForInStep.done (none,c.2)) else pure (ForInStep.yield (none,c.2+1))
  | _=>pure (ForInStep.done (some none,c.2))
def trn (lo m nrem:Nat):StateT SortSt Sem (Option Nat) :=
 reverseSlice' lo (lo+m) >>= fun _=>clb lo m nrem >>= fun d=>match d.1 with
  | some r=>pure r
  | none=>pure (some d.2)
def fll (lo n nrem:Nat):StateT SortSt Sem C3 :=
 forIn [n:nrem] ((none,n,0):C3) fun _ c=>ltAt' (lo+c.2.1) (lo+c.2.1-1) >>= fun x=>match x with
  | some b=>if b=true then
     if c.2.2>0 then reverseSlice' (lo+c.2.1-(c.2.2+1)) (lo+c.2.1) >>= fun _=>pure (ForInStep.yield (none,c.2.1+1,0))
     else pure (ForInStep.yield (none,c.2.1+1,0))
    else ltAt' (lo+c.2.1-1) (lo+c.2.1) >>= fun y=>match y with
     | some b'=>if b'=true then pure (ForInStep.done (none,c.2.1,c.2.2)) else pure (ForInStep.yield (none,c.2.1+1,c.2.2+1))
     | _=>pure (ForInStep.done (some none,c.2.1,c.2.2))
  | _=>pure (ForInStep.done (some none,c.2.1,c.2.2))
def fpt (lo n nrem:Nat):StateT SortSt Sem (Option Nat) :=
 liftM (rule "list.sort.descending-run") >>= fun _=>fll lo (n+1) nrem >>= fun c=>match c.1 with
  | some r=>pure r
  | none=>if c.2.2>0 then reverseSlice' (lo+c.2.1-(c.2.2+1)) (lo+c.2.1) >>= fun _=>trn lo c.2.1 nrem else trn lo c.2.1 nrem
theorem AC (lo nrem:Nat):countRun' lo nrem=clb lo 1 nrem >>= fun c=>match c.1 with
  | some r=>pure r
  | none=>if (c.2 == nrem)=true then pure (some c.2) else
    if c.2>1 then ltAt' lo (lo+c.2-1) >>= fun x=>match x with
     | some b=>if b=true then pure (some c.2) else reverseSlice' lo (lo+c.2) >>= fun _=>fpt lo c.2 nrem
     | _=>pure none
    else fpt lo c.2 nrem:=by
 have t:∀n,(liftM (rule "list.sort.descending-run") >>= fun _=>forIn [n+1:nrem] ((none,n+1,0):C3) (fun _ c=>ltAt' (lo+c.2.1) (lo+c.2.1-1) >>= fun x=>match x with
  | some b=>if b=true then
     if c.2.2>0 then reverseSlice' (lo+c.2.1-(c.2.2+1)) (lo+c.2.1) >>= fun _=>pure (ForInStep.yield (none,c.2.1+1,0))
     else pure (ForInStep.yield (none,c.2.1+1,0))
    else ltAt' (lo+c.2.1-1) (lo+c.2.1) >>= fun y=>match y with
     | some b'=>if b'=true then pure (ForInStep.done (none,c.2.1,c.2.2)) else pure (ForInStep.yield (none,c.2.1+1,c.2.2+1))
     | _=>pure (ForInStep.done (some none,c.2.1,c.2.2))
  | _=>pure (ForInStep.done (some none,c.2.1,c.2.2))) >>= fun c=>match c.1 with
  | some r=>pure r
  | none=>if c.2.2>0 then reverseSlice' (lo+c.2.1-(c.2.2+1)) (lo+c.2.1) >>= fun _=>trn lo c.2.1 nrem else trn lo c.2.1 nrem)=fpt lo n nrem:=fun n=>rfl
 rw [countRun'_eq];dsimp only;unfold clb;congr 1;funext c;obtain ⟨r,n⟩:=c;cases r with
 | some r=>rfl
 | none =>
  dsimp only;split
  .rfl
  .split
   .congr 1;funext x;cases x with
    | none=>rfl
    | some b =>
     dsimp only;split
     .rfl
     .congr 1;funext _;rw [<-t n];congr 1;funext _;congr 1;funext c;obtain ⟨r,m,q⟩:=c;cases r with
      | some r=>rfl
      | none =>
       dsimp only;unfold trn clb;split
       .congr 1;funext _;congr 1;funext _;congr 1;funext d;obtain ⟨r,m⟩:=d;cases r <;> rfl
       .congr 1;funext _;congr 1;funext d;obtain ⟨r,m⟩:=d;cases r <;> rfl
   .rw [<-t n];congr 1;funext _;congr 1;funext c;obtain ⟨r,m,q⟩:=c;cases r with
    | some r=>rfl
    | none =>
     dsimp only;unfold trn clb;split
     .congr 1;funext _;congr 1;funext _;congr 1;funext d;obtain ⟨r,m⟩:=d;cases r <;> rfl
     .congr 1;funext _;congr 1;funext d;obtain ⟨r,m⟩:=d;cases r <;> rfl
theorem zR (C:Cmp prog w A s J kd a₀)(B:SB kd a₀ st){Q:C2->SortSt->Prop}(T:lo+nrem=a₀.size)(O:1<=n)(l:n<=nrem)(u:Up J (arrOf st) lo n)(k:∀m,n<=m->m<=nrem->Up J (arrOf st) lo m->(m=nrem∨J.blt (KK J (arrOf st) (lo+m)) (KK J (arrOf st) (lo+m-1))=true)->Q (none,m) st):
  wpS (model prog w) A E s (clb lo n nrem) Q st:=by
 unfold clb;refine GF (I:=fun x c t=>t=st/\c=(none,x)/\Up J (arrOf st) lo x) ?_ ?_ ⟨rfl,rfl,u⟩
 .rintro x c t r y ⟨rfl,rfl,o⟩;dsimp only;refine Er (jG C B Dc Dc ?_);cases e:J.blt (KK J (arrOf t) (lo+x)) (KK J (arrOf t) (lo+x-1)) with
  | true=>simp only [GU];exact EX (k x r Dc o (.inr e))
  | false=>simp only [El,FF];exact EX ⟨rfl,rfl,o.snoc Dc e⟩
 rintro c t ⟨rfl,rfl,o⟩;rw [show max n nrem=nrem by lia] at o ⊢;exact k nrem l (Dj _) o (.inl rfl)
theorem zL (C:Cmp prog w A s J kd a₀)(B:SB kd a₀ st){st0:SortSt}{Q:Option Nat->SortSt->Prop}(T:lo+nrem=a₀.size)(p:pendingOf st=pendingOf st0)(kp:Kp lo (arrOf st) (arrOf st0))(o:1<=m)(l:m<=nrem)(d2:Dn J (arrOf st) lo m)(h:∀m t,Run J kd a₀ lo nrem st0 m t->Q (some m) t):wpS (model prog w) A E s (trn lo m nrem) Q st:=by
 unfold trn;have sz:lo+m<=(arrOf st).size:=by rw [B.size];lia
 refine Er (eY ?_);have c:SB kd a₀ (setArr st (mirror (arrOf st) lo (lo+m) ((lo+m-lo) / 2))):=B.arr (mirror_perm _ _ _ _);refine Er (zR C c T o l (d2.turn sz) fun x y r O _=>?_);exact EX (h x _ ⟨c,p,(eX sz (Dj _)).trans kp,Dc,r,O⟩)
theorem zM (C:Cmp prog w A s J kd a₀)(B:SB kd a₀ st){st0:SortSt}{Q:Option Nat->SortSt->Prop}(M:lo+nrem=a₀.size)(p:pendingOf st=pendingOf st0)(kp:Kp lo (arrOf st) (arrOf st0))(F:1<=n)(W:n+1<=nrem)(d:Dn J (arrOf st) lo (n+1))(h:∀m t,Run J kd a₀ lo nrem st0 m t->Q (some m) t):wpS (model prog w) A E s (fpt lo n nrem) Q st:=by
 unfold fpt;refine Er (wpS_lift (Gw ⟨rfl,?_⟩));refine Er ?_;unfold fll;refine wpS_mono (GF (I:=fun x c t=>∃ q,c=(none,x,q)/\SB kd a₀ t/\pendingOf t=pendingOf st0/\Kp lo (arrOf t) (arrOf st0)/\Dn J (arrOf t) lo x/\q+1<=x /\
   ∀i,lo+x-(q+1)<=i->i<lo+x->KK J (arrOf t) i=KK J (arrOf t) (lo+x-1))
  (Q:=fun c t=>∃ x q,c=(none,x,q)/\1<=x/\x<=nrem/\SB kd a₀ t/\pendingOf t=pendingOf st0/\Kp lo (arrOf t) (arrOf st0)/\Dn J (arrOf t) lo x/\q+1<=x /\
   ∀i,lo+x-(q+1)<=i->i<lo+x->KK J (arrOf t) i=KK J (arrOf t) (lo+x-1)) ?_ ?_ ⟨0,rfl,B,p,kp,d,Dc,fun i a b=>by congr 1;lia⟩) ?_
 .rintro x c t G Y ⟨q,rfl,o,l,y,T,H,O⟩;dsimp only;have sz:lo+x<=(arrOf t).size:=by rw [o.size];lia
  refine Er (jG C o Dc Dc ?_);cases e:J.blt (KK J (arrOf t) (lo+x)) (KK J (arrOf t) (lo+x-1)) with
  | true =>
   simp only [GU];have d2:Dn J (arrOf t) lo (x+1):=T.snoc Dc (Gx e);by_cases r:q>0
   .rw [Dm r];refine Er (eY (EX ⟨0,rfl,o.arr (mirror_perm _ _ _ _),l,(eX sz Dc).trans y,d2.same (KK_mirror_equal sz O),Dc,fun i a b=>by congr 1;lia⟩))
   .rw [Di r];exact EX ⟨0,rfl,o,l,y,d2,Dc,fun i a b=>by congr 1;lia⟩
  | false =>
   simp only [El,FF];refine Er (jG C o Dc Dc ?_);cases e2:J.blt (KK J (arrOf t) (lo+x-1)) (KK J (arrOf t) (lo+x)) with
   | true=>simp only [GU];exact EX ⟨x,q,rfl,Dc,Dc,o,l,y,T,H,O⟩
   | false =>
    simp only [El,FF];have U:KK J (arrOf t) (lo+x)=KK J (arrOf t) (lo+x-1):=J.total _ _ e e2;refine EX ⟨q+1,rfl,o,l,y,T.snoc Dc (by rw [U];exact E7 _),Dc,fun i a b=>?_⟩;rw [show lo+(x+1)-1=lo+x by lia];by_cases hi:i=lo+x
    .rw [hi]
    .rw [U];exact O i Dc Dc
 .rintro c t ⟨q,rfl,o,l,y,T,H,O⟩;rw [show max (n+1) nrem=nrem by lia] at T H O ⊢;exact ⟨nrem,q,rfl,Dc,Dj _,o,l,y,T,H,O⟩
 rintro c t ⟨x,q,rfl,S,R,o,l,y,T,H,O⟩;dsimp only;have sz:lo+x<=(arrOf t).size:=by rw [o.size];lia
 by_cases r:q>0
 .rw [Dm r];exact Er (eY (zL C (o.arr (mirror_perm _ _ _ _)) M l ((eX sz Dc).trans y) S R (T.same (KK_mirror_equal sz O)) h))
 rw [Di r];exact zL C o M l y S R T h
theorem yZ (C:Cmp prog w A s J kd a₀)(B:SB kd a₀ st){Q:Option Nat->SortSt->Prop}(y:lo+nrem=a₀.size)(I:1<=nrem)(h:∀m l,Run J kd a₀ lo nrem st m l->Q (some m) l):wpS (model prog w) A E s (countRun' lo nrem) Q st:=by
 rw [AC];refine Er (zR C B y (Dj _) I AY fun n t r u or=>?_);dsimp only;by_cases o:n=nrem
 .rw [Dm (by simpa using o)];exact EX (h n st ⟨B,rfl,Kp.refl,t,r,u⟩)
 rw [Di (by simpa using o)];have lt:=or.resolve_left o;by_cases T:n>1
 .rw [Dm T];refine Er (jG C B Dc Dc ?_);cases e:J.blt (KK J (arrOf st) lo) (KK J (arrOf st) (lo+n-1)) with
  | true=>simp only [GU];exact EX (h n st ⟨B,rfl,Kp.refl,t,r,u⟩)
  | false =>
   simp only [El,FF];have sz:lo+n<=(arrOf st).size:=by rw [B.size];lia
   have all:∀k,lo<=k->k<lo+n->KK J (arrOf st) k=KK J (arrOf st) (lo+n-1):=fun k a b =>
    KeyOrd.kle_antisymm (u k (lo+n-1) a Dc Dc) (Fe e (u lo k (Dj _) a b))
   refine Er (eY (zM C (B.arr (mirror_perm _ _ _ _)) (st0:=st) y rfl (eX sz (Dj _)) t Dc ?_ h));refine Dn.same (xs:=arrOf st) (Dn.snoc (fun i j a b c=>?_) t (Gx lt)) (KK_mirror_equal sz all);rw [all i a Dc,all j Dc c];exact E7 _
 rw [Di T];have O:n=1:=by lia
 subst O;refine zM C B y rfl Kp.refl (Dj _) Dc (Dn.snoc (fun i j a b c=>?_) (Dj _) (Gx lt)) h;have e:i=j:=by lia
 subst e;exact E7 _
theorem Cl (C:Cmp prog w A s J kd a₀)(B:SB kd a₀ st){ok:Nat}{Q:Bool->SortSt->Prop}(hn:lo+n<=a₀.size)(P:ok<=n)(h1:1<=ok)(u:Up J (arrOf st) lo ok)(h:∀t,SB kd a₀ t->pendingOf t=pendingOf st->Kp lo (arrOf t) (arrOf st)->Up J (arrOf t) lo n->Q true t):wpS (model prog w) A E s (binarySort' lo n ok) Q st:=by
 rw [binarySort'_eq];refine Er (wpS_mono (GF (I:=fun k c t=>c=(none,())/\SB kd a₀ t/\pendingOf t=pendingOf st/\Kp lo (arrOf t) (arrOf st)/\Up J (arrOf t) lo (min k n))
  (Q:=fun c t=>c=(none,())/\SB kd a₀ t/\pendingOf t=pendingOf st/\Kp lo (arrOf t) (arrOf st)/\Up J (arrOf t) lo n) ?_ ?_ ⟨rfl,B,rfl,Kp.refl,?_⟩) ?_)
 .rintro k c t ha hb ⟨rfl,T,S,H,y⟩;rw [show min k n=k by lia] at y;refine Er (wpS_mono (GF (I:=fun x c o=>o=t/\∃ l r,c=(none,l,r)/\l<=r/\r<=k/\r-l<=k-x /\
    (∀i,i<l->J.kle (KK J (arrOf t) (lo+i)) (KK J (arrOf t) (lo+k)))/\∀i,r<=i->i<k->J.klt (KK J (arrOf t) (lo+k)) (KK J (arrOf t) (lo+i)))
   (Q:=fun c o=>o=t/\∃ l r,c=(none,l,r)/\l<=k /\
    (∀i,i<l->J.kle (KK J (arrOf t) (lo+i)) (KK J (arrOf t) (lo+k)))/\∀i,l<=i->i<k->J.klt (KK J (arrOf t) (lo+k)) (KK J (arrOf t) (lo+i))) ?_ ?_
   ⟨rfl,0,k,rfl,Dc,Dc,Dc,fun i hi=>by lia,fun i a b=>by lia⟩) ?_)
  .rintro x c o _ Z ⟨rfl,l,r,rfl,R,O,U,a,b⟩;dsimp only;by_cases M:l ≥ r
   .rw [Dm M];have e:l=r:=by lia
    subst e;exact EX ⟨rfl,l,l,rfl,O,a,b⟩
   .rw [Di M];refine Er (jG C T Dc Dc ?_);cases e:J.blt (KK J (arrOf o) (lo+k)) (KK J (arrOf o) (lo+(l+r) / 2)) with
    | true =>
     simp only [GU];refine EX ⟨rfl,l,(l+r) / 2,rfl,Dc,Dc,Dc,a,fun i c d=>?_⟩;exact KeyOrd.klt_of_klt_of_kle e (y _ _ Dc Dc Dc)
    | false =>
     simp only [El,FF];refine EX ⟨rfl,(l+r) / 2+1,r,rfl,Dc,Dc,Dc,fun i c=>?_,b⟩;exact Fe (y (lo+i) (lo+(l+r) / 2) Dc Dc Dc) (show J.kle _ _ from e)
  .rintro c o ⟨rfl,l,r,rfl,R,O,U,a,b⟩;have e:l=r:=by lia
   subst e;exact ⟨rfl,l,l,rfl,O,a,b⟩
  .rintro c o ⟨rfl,l,r,rfl,hl,a,b⟩;show wpS _ _ _ _ (moveDown' (lo+k) (lo+l) >>= fun _=>pure (ForInStep.yield (none,()))) _ _;rw [moveDown'_eq];have sz:lo+k<(arrOf o).size:=by rw [T.size];lia
   refine Er (wpS_modify (EX ⟨rfl,T.arr (bubble_perm _ _ _),S,(vk sz Dc Dc).trans H,?_⟩));rw [show min (k+1) n=k+1 by lia];intro i j hi Y X;show J.kle (KK J (bubble (arrOf o) (lo+k) (lo+k-(lo+l))) i) (KK J (bubble (arrOf o) (lo+k) (lo+k-(lo+l))) j);rw [KK_bubble sz Dc,KK_bubble sz Dc,show lo+k-(lo+k-(lo+l))=lo+l by lia];have W:∀i,lo<=i->i<lo+l->J.kle (KK J (arrOf o) i) (KK J (arrOf o) (lo+k)):=fun i c d=>by
    have:=a (i-lo) Dc
    rwa [show lo+(i-lo)=i by lia] at this
   have F:∀i,lo+l<=i->i<lo+k->J.kle (KK J (arrOf o) (lo+k)) (KK J (arrOf o) i):=fun i c d=>by
    have:=Gx (b (i-lo) Dc Dc)
    rwa [show lo+(i-lo)=i by lia] at this
   repeat' split
   all_goals first
    | (exfalso;lia)
    | exact E7 _
    | exact W _ Dc Dc
    | exact F _ Dc Dc
    | exact y _ _ Dc Dc Dc
 .rintro c t ⟨G,T,S,H,y⟩;refine ⟨G,T,S,H,?_⟩
  rwa [show min (max (max ok 1) n) n=n by lia] at y
 .rw [show min (max ok 1) n=ok by lia];exact u
 rintro c t ⟨rfl,T,S,H,y⟩;exact EX (h t T S H y)
end
section
variable {J:KeyKind}{a b out:List Keyed}{ia ib:Nat}
theorem Ar (l:a.Pairwise (Le J)){j:Nat}{x y:Keyed}(r:a[i]?=some x)(c:a[j]?=some y)(h:i<=j):Le J x y:=by
 obtain ⟨hi,o⟩:=Dz.mp r;obtain ⟨T,t⟩:=Dz.mp c;rcases Nat.lt_or_ge i j with q | q
 .have:=List.pairwise_iff_getElem.mp l i j hi T q;rw [o,t] at this;exact this
 have e:i=j:=by lia
 subst e;rw [o] at t;subst t;exact Le.refl _
end
section
variable {J:KeyKind}
theorem iQ {l:List Keyed}(h:i<l.length):KK J l.toArray i=kf J l[i]:=zK (by simp [h])
theorem up_iff {l:List Keyed}(h:lo+n<=l.length):Up J l.toArray lo n↔((l.drop lo).take n).Pairwise (Le J):=by
 have len:((l.drop lo).take n).length=n:=by rw [Es,HR];lia
 constructor
 .intro u;refine List.pairwise_iff_getElem.mpr fun i j hi c o=>?_;rw [len] at hi c;have:=u (lo+i) (lo+j) Dc Dc Dc;rw [iQ Dc,iQ Dc] at this;rw [List.getElem_take,List.getElem_drop,List.getElem_take,List.getElem_drop];exact this
 intro p i j O y T;rw [iQ Dc,iQ Dc];have r:((l.drop lo).take n)[i-lo]?=some l[i]:=by rw [List.getElem?_take,Dm Dc,List.getElem?_drop,show lo+(i-lo)=i by lia];exact bt Dc
 have t:((l.drop lo).take n)[j-lo]?=some l[j]:=by rw [List.getElem?_take,Dm Dc,List.getElem?_drop,show lo+(j-lo)=j by lia];exact bt Dc
 exact Ar p r t Dc
end
end TS

namespace L2
open PySem PySem.Spec PyProof.Rows
abbrev Key:=Sum Int Str
def keyIs:Key->Value->Bool
 | .inl k,v=>Value.isInt k v
 | .inr x,v=>Value.isStrOf x v
def Cp (w:World):Key->Int
 | .inl k=>hashInt k
 | .inr x=>hashStr w x
theorem keyIs_shape:∀{k:Key} {v:Value},keyIs k v=true->(∃ i t,k=Sum.inl i/\v=Value.int i t)∨(∃ x t,k=Sum.inr x/\v=Value.str x t)
 | .inl i,v,h=>by
  obtain ⟨t,e⟩:=Value.isInt_shape (k:=i) (v:=v) h;exact .inl ⟨i,t,rfl,e⟩
 | .inr x,v,h=>by obtain ⟨t,e⟩:=Value.isStrOf_shape (x:=x) (v:=v) h;exact .inr ⟨x,t,rfl,e⟩
theorem ut (i:Int)(t:Tok):keyIs (.inl i) (.int i t)=true:=by simp [keyIs,Value.isInt]
theorem ue (x:Str)(t:Tok):keyIs (.inr x) (.str x t)=true:=by simp [keyIs,Value.isStrOf]
theorem AW (a b:Int):decide ((Sum.inl a:Key)=Sum.inl b)=(a == b):=by
 by_cases e:a=b
 .subst e;simp
 have h:¬ (Sum.inl a:Key)=Sum.inl b:=fun q=>e (Sum.inl.inj q);rw [DF h];exact (E8.mpr e).symm
theorem Av (a b:Str):decide ((Sum.inr a:Key)=Sum.inr b)=decide (a=b):=by
 by_cases e:a=b
 .subst e;simp
 have h:¬ (Sum.inr a:Key)=Sum.inr b:=fun q=>e (Eb q);rw [DF h,DF e]
theorem AD (a:Int)(b:Str):decide ((Sum.inl a:Key)=Sum.inr b)=false:=DF (fun q=>nomatch q)
theorem AR (a:Str)(b:Int):decide ((Sum.inr a:Key)=Sum.inl b)=false:=DF (fun q=>nomatch q)
def mixKind (prog:Program)(w:World):PySem.KeyKind prog w Key where
 is:=keyIs
 hash:=Cp w
 inj:=fun v a b ha hb=>by
  rcases keyIs_shape ha with ⟨i,t,rfl,rfl⟩ | ⟨x,t,rfl,rfl⟩
  .rcases keyIs_shape hb with ⟨j,u,rfl,e⟩ | ⟨y,u,rfl,e⟩
   .injection e with e1 _;rw [e1]
   .exact nomatch e
  .rcases keyIs_shape hb with ⟨j,u,rfl,e⟩ | ⟨y,u,rfl,e⟩
   .exact nomatch e
   .injection e with e1 _;rw [e1]
 byValue:=fun k v h=>by
  rcases keyIs_shape h with ⟨i,t,rfl,rfl⟩ | ⟨x,t,rfl,rfl⟩ <;> rfl
 pyHash:=fun hv h=>by
  rcases keyIs_shape hv with ⟨i,t,rfl,rfl⟩ | ⟨x,t,rfl,rfl⟩
  .exact wpAny_pyHash_int h
  .exact wpAny_pyHash_str h
 eqBool:=fun hu hv h=>by
  rcases keyIs_shape hu with ⟨i,t,rfl,rfl⟩ | ⟨x,t,rfl,rfl⟩
  .rcases keyIs_shape hv with ⟨j,u,rfl,rfl⟩ | ⟨y,u,rfl,rfl⟩
   .rw [AW] at h;exact wpAny_eqBool_int h
   .rw [AD] at h;exact SeqAt.EqAt.int_str i t y u _ _ _ _ h
  .rcases keyIs_shape hv with ⟨j,u,rfl,rfl⟩ | ⟨y,u,rfl,rfl⟩
   .rw [AR] at h;exact SeqAt.EqAt.str_int x t j u _ _ _ _ h
   .rw [Av] at h;exact wpAny_eqBool_str h
 «strs»:=fun k x t v h=>by
  rcases keyIs_shape h with ⟨i,u,rfl,e⟩ | ⟨y,u,rfl,e⟩
  .exact nomatch e
  .injection e with e1 _;subst e1;cases v <;> rfl
theorem nD (prog:Program)(w:World)(i:Int)(t:Tok):(mixKind prog w).is (.inl i) (.int i t)=true:=ut i t
theorem dm (prog:Program)(w:World)(x:Str)(t:Tok):(mixKind prog w).is (.inr x) (.str x t)=true:=ue x t
inductive V where
 | non | bl (b:Bool) | int (i:Int) | str (x:Str) | byt (b:Array UInt8) | flt (b:UInt64) | ref (a:Addr) | ty (n:String)
 deriving DecidableEq
def RelV:V->Value->Prop
 | .non,u=>u=Value.none
 | .bl b,u=>u=Value.bool b
 | .int i,u=>∃ t,u=Value.int i t
 | .str x,u=>∃ t,u=Value.str x t
 | .byt b,u=>∃ t,u=Value.bytes b t
 | .flt b,u=>∃ t,u=Value.float b t
 | .ref a,u=>u=Value.ref a
 | .ty n,u=>u=Value.type n
abbrev Vals:List V->List Value->Prop:=Paired RelV
theorem Vals.length {xs:List V}(r:Vals xs us):xs.length=us.length:=EY r
theorem Vals.get:∀{xs:List V} {us:List Value} {i:Nat} {x:V},Vals xs us->xs[i]?=some x->∃ u,us[i]?=some u/\RelV x u
 | _,_,_,_,.nil,e=>by simp at e
 | _,_,0,_,.cons r _,e=>by simp at e;subst e;exact ⟨_,rfl,r⟩
 | _,_,i+1,x,.cons _ t,e=>by obtain ⟨u,l,o⟩:=Vals.get (i:=i) (x:=x) t (by simpa using e);exact ⟨u,by simpa using l,o⟩
theorem Vals.set {x:V}(r:RelV x u):∀{xs:List V} {us:List Value} (i:Nat),Vals xs us->Vals (xs.set i x) (us.set i u)
 | _,_,_,.nil=>.nil
 | _,_,0,.cons _ t=>.cons r t
 | _,_,i+1,.cons q t=>.cons q (Vals.set r i t)
theorem Vals.append:∀{xs ys:List V} {us ws:List Value},Vals xs us->Vals ys ws->Vals (xs++ys) (us++ws)
 | _,_,_,_,.nil,s=>s
 | _,_,_,_,.cons r t,s=>.cons r (Vals.append t s)
theorem Vals.take:∀{xs:List V} {us:List Value} (n:Nat),Vals xs us->Vals (xs.take n) (us.take n)
 | _,_,0,_=>.nil
 | _,_,_+1,.nil=>.nil
 | _,_,n+1,.cons r t=>.cons r (Vals.take n t)
theorem Vals.drop:∀{xs:List V} {us:List Value} (n:Nat),Vals xs us->Vals (xs.drop n) (us.drop n)
 | _,_,0,r=>r
 | _,_,_+1,.nil=>.nil
 | _,_,n+1,.cons _ t=>Vals.drop n t
def RelO:Option V->Option Value->Prop
 | some v,some u=>RelV v u
 | none,none=>True
 | _,_=>False
def KV {J:Type}:List (J×V)->List (J×Value)->Prop:=Paired fun (p:J×V) (q:J×Value)=>p.1=q.1/\RelV p.2 q.2
def kV:Key->V
 | .inl i=>.int i
 | .inr x=>.str x
inductive HO where
 /-- a list -/
 | lst (xs:List V)
 /-- a tuple (never changes) -/
 | tup (xs:List V)
 /-- a dict whose keys are ints and texts;one whose keys are tuples of ints and texts (the empty one is both) -/
 | dK (kvs:List (Key×V)) | dT (kvs:List (List Key×V))
 /-- a set of ints: its members,its size -/
 | set (S:Int->Bool) (n:Nat)
 /-- an instance of the class at C,its dict at dx,its attributes -/
 | ins (C dx:Addr) (fs:List (Str×V))
 /-- the dict of the instance at x -/
 | own (x:Addr)
 /-- the dict of an exception -/
 | xd (fs:List (Str×V))
 /-- a bound method,f of x -/
 | met (f x:Addr)
 /-- a range object lo,lo+1,.. below hi -/
 | rng (lo hi:Int)
 /-- a thing that is known to the object (the script;a dict while a loop walks it): read,never written while it is so -/
 | frz (o:Obj) (u:HO)
 /-- a code object's table -/
 | tbl (ps:Array Value)
 /-- any other thing,by what is true of its one object (a def of one's own: SetO a S n:=HO.ext fun h=>..) -/
 | ext (φ:Heap->Prop)
abbrev Hp:=Addr->Option HO
def upd (H:Hp)(a:Addr)(o:HO):Hp:=fun b=>if b=a then some o else H b
theorem ad {H:Hp}{o:HO}:upd H a o a=some o:=by unfold upd;rw [Dm rfl]
theorem af {H:Hp}{o:HO}(h:b≠a):upd H a o b=H b:=by unfold upd;rw [Di h]
theorem gg {H:Hp}{o u:HO}:upd (upd H a o) a u=upd H a u:=by funext b;unfold upd;split <;> rfl
theorem aL {H:Hp}{o u:HO}(h:H a=some o)(h':H b=some u)(d:o≠u):a≠b:=by intro e;subst e;rw [h] at h';exact d (DJ h')
theorem am {H:Hp}{o:HO}(h:H a=some o)(h':H b=none):a≠b:=by intro e;subst e;rw [h] at h';cases h'
section
variable (P:Program)(w:World)
def ObjOk (H:Hp)(h:Heap)(a:Addr):HO->Prop
 | .lst xs=>xs.length<=sizeLine/\∃ (its:List Value) (n:Nat),Vals xs its/\h.get? a=some { cls:=.type "list",data:=.seq its.toArray n }
 | .tup xs=>xs.length<=sizeLine/\∃ its:List Value,Vals xs its/\IsTup h a its.toArray
 | .dK kvs=>kvs.length<=sizeLine/\(a == sysModules)=false/\∃ vs,KV kvs vs/\h.DictOf (mixKind P w) a vs
 | .dT kvs=>kvs.length<=sizeLine/\(a == sysModules)=false/\∃ xs:List (List Key×Addr×Value),
   Paired (fun (p:List Key×V) (q:List Key×Addr×Value)=>p.1=q.1/\H q.2.1=some (.tup (p.1.map kV))/\RelV p.2 q.2.2) kvs xs /\
   ∃ o es ep,h.get? a=some o/\o.ExactDict/\o.data=.dict es ep/\es.toList=xs.map (entryOfKey (tupleKind (mixKind P w)))/\(xs.map (·.1)).Nodup
 | .set S n=>h.SetOf (intKind P w) a S n
 | .ins C dx fs=>H dx=some (.own a)/\fs.length<=1000/\dx≠a/\h.get? a=some (W.instObj C dx) /\
   ∃ mA,h.Ns1 dx mA/\(∀f,RelO (fs.lookup f) (mA f))/\PySem.Within mA (fs.map (·.1))
 | .own _=>∃ o,h.get? a=some o
 | .xd fs=>∃ mA,h.Ns1 a mA/\∀f,RelO (fs.lookup f) (mA f)
 | .rng lo hi=>∃ t u v,h.get? a=some { cls:=.type "range",data:=.fields #[.int lo t,.int hi u,.int 1 v] }
 | .frz o u=>h.get? a=some o/\ObjOk H h a u
 | .tbl ps=>h.get? a=some { cls:=.none,data:=.fields ps }
 | .met f x=>h.get? a=some (W.methodObj (.ref f) (.ref x))
 | .ext φ=>φ h/\(∃ o,h.get? a=some o)/\∀h1 h2:Heap,φ h1->(∀o,h1.get? a=some o->h2.get? a=some o)->φ h2
def HOk (H:Hp)(h:Heap):Prop:=∀a o,H a=some o->ObjOk P w H h a o
end
section
variable {P:Program}{w:World}{H H':Hp}{h h':Heap}{a:Addr}{o:HO}
theorem ObjOk.lt (x:ObjOk P w H h a o):a<h.objs.size:=by
 cases o with
 | lst xs=>obtain ⟨_,_,_,_,e⟩:=x;exact DM e
 | tup xs=>obtain ⟨_,_,_,p⟩:=x;exact p.lt
 | dK kvs=>obtain ⟨_,_,_,_,o,_,_,e,_⟩:=x;exact DM e
 | dT kvs=>obtain ⟨_,_,_,_,o,_,_,e,_⟩:=x;exact DM e
 | set S n=>obtain ⟨o,_,_,_,e,_⟩:=x;exact DM e
 | ins C dx fs=>obtain ⟨_,_,_,e,_⟩:=x;exact DM e
 | own y=>obtain ⟨_,e⟩:=x;exact DM e
 | xd fs=>obtain ⟨_,⟨_,_,_,e,_⟩,_⟩:=x;exact DM e
 | rng lo hi=>obtain ⟨_,_,_,e⟩:=x;exact DM e
 | frz ob u=>obtain ⟨e,_⟩:=x;exact DM e
 | tbl ps=>exact DM (show h.get? a=some _ from x)
 | met f y=>exact DM (show h.get? a=some _ from x)
 | ext φ=>obtain ⟨_,⟨_,e⟩,_⟩:=x;exact DM e
theorem Paired.mapP {α β:Type}{F G:α->β->Prop}:∀{l₁:List α} {l₂:List β},Paired F l₁ l₂->(∀a b,F a b->G a b)->Paired G l₁ l₂
 | _,_,.nil,_=>.nil
 | _,_,.cons r t,f=>.cons (f _ _ r) (Paired.mapP t f)
theorem ObjOk.stay (x:ObjOk P w H h a o)(k:∀b u,(b=a∨H b=some (.own a))->h.get? b=some u->h'.get? b=some u)(M:∀b,H b=some (.own a)->H' b=some (.own a))(R:∀b xs,H b=some (.tup xs)->H' b=some (.tup xs)):ObjOk P w H' h' a o:=by
 induction o with
 | lst xs=>obtain ⟨z,its,n,r,e⟩:=x;exact ⟨z,its,n,r,k _ _ (.inl rfl) e⟩
 | tup xs=>obtain ⟨z,its,r,l,e,c⟩:=x;exact ⟨z,its,r,l,k _ _ (.inl rfl) e,c⟩
 | dK kvs=>obtain ⟨z,y,vs,r,l,T,ep,e,c⟩:=x;exact ⟨z,y,vs,r,l,T,ep,k _ _ (.inl rfl) e,c⟩
 | dT kvs =>
  obtain ⟨z,y,xs,r,l,T,ep,e,c⟩:=x;exact ⟨z,y,xs,Paired.mapP r fun p q z=>⟨z.1,R _ _ z.2.1,z.2.2⟩,l,T,ep,k _ _ (.inl rfl) e,c⟩
 | set S n=>obtain ⟨l,T,ep,t,e,c⟩:=x;exact ⟨l,T,ep,t,k _ _ (.inl rfl) e,c⟩
 | ins C dx fs =>
  obtain ⟨d,z,I,e,mA,⟨O,T,ep,U,c⟩,r⟩:=x;exact ⟨M _ d,z,I,k _ _ (.inl rfl) e,mA,⟨O,T,ep,k _ _ (.inr d) U,c⟩,r⟩
 | own y=>obtain ⟨l,e⟩:=x;exact ⟨l,k _ _ (.inl rfl) e⟩
 | xd fs=>obtain ⟨mA,⟨O,T,ep,e,c⟩,r⟩:=x;exact ⟨mA,⟨O,T,ep,k _ _ (.inl rfl) e,c⟩,r⟩
 | rng lo hi=>obtain ⟨t,u,v,e⟩:=x;exact ⟨t,u,v,k _ _ (.inl rfl) e⟩
 | frz l u ih=>obtain ⟨e,q⟩:=x;exact ⟨k _ _ (.inl rfl) e,ih q⟩
 | tbl ps =>
  have e:h.get? a=some { cls:=.none,data:=.fields ps }:=x;show h'.get? a=some { cls:=.none,data:=.fields ps };exact k a _ (.inl rfl) e
 | met f y =>
  have e:h.get? a=some (W.methodObj (.ref f) (.ref y)):=x;show h'.get? a=some (W.methodObj (.ref f) (.ref y));exact k a _ (.inl rfl) e
 | ext φ=>obtain ⟨p,⟨o,e⟩,st⟩:=x;exact ⟨st _ _ p fun o q=>k _ _ (.inl rfl) q,⟨o,k _ _ (.inl rfl) e⟩,st⟩
theorem HOk.lt (x:HOk P w H h)(e:H a=some o):a<h.objs.size:=(x a o e).lt
theorem HOk.fresh (x:HOk P w H h)(e:h.objs.size<=a):H a=none:=by
 cases q:H a with
 | none=>rfl
 | some u=>exact absurd (DW (x.lt q) e) (Fg _)
theorem HOk.kept (x:HOk P w H h)(k:∀b u,h.get? b=some u->h'.get? b=some u):HOk P w H h':=fun a o e =>
 (x a o e).stay (fun b u _ q=>k b u q) (fun _ q=>q) fun _ _ q=>q
theorem HOk.laid (x:HOk P w H h)(k:∀b u,h.get? b=some u->h'.get? b=some u)(l:h.objs.size<=a)(new:ObjOk P w (upd H a o) h' a o):HOk P w (upd H a o) h':=fun b u e=>by
 have r:=x.fresh l;by_cases t:b=a
 .subst t;rw [ad] at e;cases e;exact new
 rw [af t] at e;exact (x b u e).stay (fun c v _ q=>k c v q) (fun c q=>by rw [af (am q r)];exact q) fun c y q=>by rw [af (am q r)];exact q
end
def Rd (H:Hp)(a:Addr)(u:HO):Prop:=H a=some u∨∃ o,H a=some (.frz o u)
theorem Rd.ok {P:Program}{H:Hp}{u:HO}(r:Rd H a u)(x:HOk P w H h):ObjOk P w H h a u:=by
 rcases r with r | ⟨o,r⟩
 .exact x a u r
 obtain ⟨_,q⟩:=x a _ r;exact q
def Mut:Option HO->Prop
 | some (.lst _)=>True
 | some (.dK _)=>True
 | some (.dT _)=>True
 | some (.set _ _)=>True
 | some (.ins _ _ _)=>True
 | some (.ext _)=>True
 | _=>False
section
variable {P:Program}{w:World}{H:Hp}{h h':Heap}{x e:Addr}{o':HO}
theorem HOk.write (ok:HOk P w H h)(T:Mut (H x))(U:e=x∨H e=some (.own x))(k:∀b u,b≠e->h.get? b=some u->h'.get? b=some u)(S:∃ u,h'.get? e=some u)(new:ObjOk P w (upd H x o') h' x o'):HOk P w (upd H x o') h':=fun b u q=>by
 have o:∀c y,H c=some (.own y)->c≠x:=fun c y r z=>by subst z;rw [r] at T;exact T
 have l:∀c O,H c=some (.tup O)->c≠x:=fun c O r z=>by subst z;rw [r] at T;exact T
 by_cases I:b=x
 .subst I;rw [ad] at q;cases q;exact new
 rw [af I] at q;by_cases t:b=e
 .have R:H b=some (.own x):=by
   rcases U with z | z
   .exact absurd (t.trans z) I
   .rw [t];exact z
  rw [q] at R;cases R;obtain ⟨v,M⟩:=S;exact ⟨v,by rw [t];exact M⟩
 refine (ok b u q).stay (fun c v hc r=>k c v ?_ r) (fun c r=>by rw [af (o c b r)];exact r) fun c O r=>by rw [af (l c O r)];exact r
 rcases hc with rfl | hc
 .exact t
 rintro rfl;rcases U with z | z
 .exact o c b hc z
 rw [hc] at z;cases z;exact I rfl
end
structure Un (fs ex:List Addr)(H H':Hp)(h h':Heap):Prop where
 keep:∀b o,h.get? b=some o->H b=none->b∉fs->b∉ex->h'.get? b=some o
 slot:∀b o,h.get? b=some o->H b=none->b∈fs->b∉ex->∃ sl,h'.get? b=some { o with slots:=sl }
 free:∀b o,h.get? b=some o->H b=none->b∉ex->H' b=none
 there:∀b o,h.get? b=some o->b∉ex->∃ o',h'.get? b=some o'
 tups:∀b xs,H b=some (.tup xs)->H' b=some (.tup xs)
 frzs:∀b o u,H b=some (.frz o u)->H' b=some (.frz o u)
 tbls:∀b ps,H b=some (.tbl ps)->∃ more,H' b=some (.tbl (ps++more))
section
variable {fs fs' ex ex':List Addr}{H H1 H2:Hp}{h h1 h2 h':Heap}{a x e:Addr}{o:HO}
theorem Un.any (u:Un fs ex H H1 h h1){t:Obj}(q:h.get? b=some t)(n:H b=none)(r:b∉ex):∃ sl,h1.get? b=some { t with slots:=sl }:=by
 by_cases l:b∈fs
 .exact u.slot b t q n l r
 exact ⟨t.slots,u.keep b t q n l r⟩
theorem Un.kept (k:∀b u,h.get? b=some u->h'.get? b=some u):Un fs ex H H h h' :=
 ⟨fun b t q _ _ _=>k b t q,fun b t q _ _ _=>⟨t.slots,k b t q⟩,fun _ _ _ n _=>n,fun b t q _=>⟨t,k b t q⟩,fun _ _ q=>q,fun _ _ _ q=>q,fun _ ps q=>⟨#[],by rw [q];simp⟩⟩
theorem Un.refl:Un fs ex H H h h:=Un.kept fun _ _ q=>q
theorem Un.laid (k:∀b u,h.get? b=some u->h'.get? b=some u)(r:h.objs.size<=a)(t:H a=none):Un fs ex H (upd H a o) h h' where
 keep:=fun b u q _ _ _=>k b u q
 slot:=fun b u q _ _ _=>⟨u.slots,k b u q⟩
 free:=fun b u q n _=>by rw [af (DZ (DW (DM q) r))];exact n
 there:=fun b u q _=>⟨u,k b u q⟩
 tups:=fun b l q=>by rw [af (am q t)];exact q
 frzs:=fun b u l q=>by rw [af (am q t)];exact q
 tbls:=fun b ps q=>⟨#[],by rw [af (am q t),q];simp⟩
theorem Un.write (l:Mut (H x))(S:e=x∨H e=some (.own x))(k:∀b u,b≠e->h.get? b=some u->h'.get? b=some u)(y:∃ u,h'.get? e=some u):Un fs ex H (upd H x o) h h':=by
 have T:∀b,H b=none->b≠x:=fun b n z=>by subst z;rw [n] at l;exact l
 have O:∀b,H b=none->b≠e:=fun b n z=>by
  subst z;rcases S with r | r
  .exact T b n r
  .rw [n] at r;cases r
 have c:∀b u,H b=some u->¬ Mut (some u)->b≠x:=fun b u q I z=>by subst z;rw [q] at l;exact I l
 refine ⟨fun b u q n _ _=>k b u (O b n) q,fun b u q n _ _=>⟨u.slots,k b u (O b n) q⟩,fun b u q n _=>by rw [af (T b n)];exact n,fun b u q _=>?_,
  fun b R q=>by rw [af (c b _ q fun z=>z)];exact q,fun b u R q=>by rw [af (c b _ q fun z=>z)];exact q,fun b ps q=>⟨#[],by rw [af (c b _ q fun z=>z),q];simp⟩⟩
 by_cases t:b=e
 .subst t;exact y
 exact ⟨u,k b u t q⟩
end
def trk (h:Heap)(H:Hp):List Addr:=(List.range h.objs.size).filter fun a=>(H a).isSome
def lI (h:Heap)(H:Hp):Heap:=W.hideAll h (trk h H)
theorem uy (h:Heap)(H:Hp):(lI h H).objs.size=h.objs.size:=W.hideAll_size _ _
theorem xZ {H:Hp}{o:Obj}(e:h.get? b=some o)(n:H b=none):(lI h H).get? b=some o :=
 W.hideAll_get _ e fun t=>by have q:(H b).isSome=true:=(D7.mp t).2;rw [n] at q;simp at q
theorem yY {H:Hp}{o:Obj}(e:(lI h H).get? b=some o):h.get? b=some o/\H b=none:=by
 have t:h.get? b=some o:=W.of_hideAll (trk h H) e;refine ⟨t,?_⟩;cases q:H b with
 | none=>rfl
 | some x =>
  have r:b∈trk h H:=D7.mpr ⟨Fn.mpr (DM t),by simp [q]⟩;have z:(lI h H).get? b=none:=W.hideAll_none (trk h H) r;rw [z] at e;cases e
def y9 (g h:Heap)(L:Addr):List (Addr×Obj):=(List.range h.objs.size).filterMap fun a=>if a=L∨(g.get? a).isSome=true then none else (h.get? a).map fun o=>(a,o)
def rest (g h:Heap)(L d:Addr):List (Addr×Obj):=(y9 g h L).filter fun p=>decide (p.1≠d)
structure Mod (K:W.Frag)(mg:Str->Option Value)(base:Heap):Prop where
 kin:K.In base
 glob:base.Ns mainGlobals mg
 blt:∃ mb,base.Ns builtinsNs mb/\∀x:Str,x≠"__name__"->mb x=bootBuiltins x
 nolimit:base.NoLimit
structure Cx where
 prog:Program
 w:World
 K:W.Frag
 mg:Str->Option Value
 base:Heap
 A:Around
 N:List Str
 s₀:Shared
 H₀:Hp
 env:Env
 outer:List Env
 stack:List Env
 ex:List Addr
 fn:Str->Bool
 calm:Bool
 pn:List (Addr×Obj)
 xe:Value->Shared->Prop
def frs (l:List Env):List Addr:=l.filterMap (·.frame)
abbrev Cx.fs (X:Cx):List Addr:=frs X.outer
def Vis (sc:Scope)(x:Str):Prop:=sc.names.lookup x=some .local∨sc.names.lookup x=some .cell∨sc.names.lookup x=some .free
def Loc (sc:Scope)(x:Str):Prop:=sc.names.lookup x=some .local∨sc.names.lookup x=some .cell
def CJ (env:Env)(h:Heap)(m:Str->Option Value)(x:Str)(u:Value):Prop :=
 (env.kindOf x=some .local/\m x=some u)∨((env.kindOf x=some .cell∨env.kindOf x=some .free)/\∃ c,env.cells.lookup x=some c/\h.IsCell c (some u))
structure Cx.Ok (X:Cx):Prop where
 mod:Mod X.K X.mg X.base
 kind:X.env.scope.kind=.function
 glob:X.env.globals=mainGlobals
 blt:X.env.builtins=builtinsNs
 above:X.s₀.heap.objs.size<=X.env.locals
 inj:∀x y c,X.env.cells.lookup x=some c->X.env.cells.lookup y=some c->x=y
 has:∀x,(X.env.kindOf x=some .cell∨X.env.kindOf x=some .free)->∃ c,X.env.cells.lookup x=some c
 cab:∀x c,X.fn x=true->X.env.cells.lookup x=some c->X.s₀.heap.objs.size<=c
 hd:X.calm=true->X.A.handled=none
 frames:X.A.frames=some X.stack
 stk:X.stack=X.outer∨(X.stack=X.env::X.outer/\X.env.frame=some X.env.locals)
 exf:∀b∈X.ex,b≠X.env.locals/\∀x c,X.env.cells.lookup x=some c->c≠b
 bs:∀b o,X.base.get? b=some o->X.s₀.heap.get? b=some o/\X.H₀ b=none
 bsz:X.base.objs.size<=X.s₀.heap.objs.size
 noex:∀b o,X.base.get? b=some o->b∉X.ex
 exfs:∀b∈X.ex,b∉X.fs
 funs:X.s₀.heap.FunFrames X.base X.outer
 frf:∀b∈X.fs,X.H₀ b=none
structure Inv (X:Cx)(pins:List (Addr×Obj))(Z:List (Option V))(H:Hp)(s:Shared):Prop where
 ok:X.Ok
 os:s.os=X.s₀.os
 bare:AllBare s.gens
 base:Un X.fs X.ex X.H₀ H X.s₀.heap s.heap
 loc:∃ m,s.heap.Ns X.env.locals m/\∀(i:Nat) (x:Str) (v:V),X.N[i]?=some x->Z[i]?=some (some v)->Vis X.env.scope x->∃ u,RelV v u/\CJ X.env s.heap m x u
 cell:∀x c,X.env.cells.lookup x=some c->∃ v,s.heap.IsCell c v
 free:H X.env.locals=none
 freeC:∀x c,X.env.cells.lookup x=some c->H c=none
 pin:∀p∈X.pn++pins,s.heap.get? p.1=some p.2/\H p.1=none/\p.1≠X.env.locals/\p.1∉X.fs/\∀v,p.2.data≠.cell v
 hok:HOk X.prog X.w H s.heap
 len:Z.length=X.N.length
section
variable {X:Cx}{pins:List (Addr×Obj)}{Z:List (Option V)}{H H':Hp}{s:Shared}{h':Heap}
theorem Cx.Ok.nofr (ok:X.Ok){o:Obj}(e:X.base.get? b=some o):b∉X.fs:=fun t=>by have:=(ok.funs.mem t).1;rw [e] at this;cases this
theorem Inv.bs (I:Inv X pins Z H s):∀b o,X.base.get? b=some o->s.heap.get? b=some o/\H b=none:=fun b o e =>
 ⟨I.base.keep b o (I.ok.bs b o e).1 (I.ok.bs b o e).2 (I.ok.nofr e) (I.ok.noex b o e),I.base.free b o (I.ok.bs b o e).1 (I.ok.bs b o e).2 (I.ok.noex b o e)⟩
theorem Inv.bk (I:Inv X pins Z H s):∀b o,X.base.get? b=some o->s.heap.get? b=some o:=fun b o e=>(I.bs b o e).1
theorem Inv.mod (I:Inv X pins Z H s):Mod X.K X.mg X.base:=I.ok.mod
theorem Inv.kIn (I:Inv X pins Z H s):X.K.In s.heap:=I.ok.mod.kin.keeps I.bk
theorem Inv.lt (I:Inv X pins Z H s):X.env.locals<s.heap.objs.size:=let ⟨_,hn,_⟩:=I.loc;hn.lt
theorem Inv.sz (I:Inv X pins Z H s):X.s₀.heap.objs.size<=s.heap.objs.size:=Dq I.ok.above (FH I.lt)
theorem Inv.nofs (I:Inv X pins Z H s)(h:s.heap.objs.size<=a):a∉X.fs:=fun t=>by obtain ⟨_,o,r,_⟩:=I.ok.funs.mem t;exact absurd (DW (DM r) (Dq I.sz h)) (Fg _)
theorem Inv.cne (I:Inv X pins Z H s):∀x c,X.env.cells.lookup x=some c->c≠X.env.locals:=fun x c e z=>by obtain ⟨v,o,l,hd⟩:=I.cell x c e;obtain ⟨m,⟨y,T,ep,r,t,_⟩,_⟩:=I.loc;rw [z,r] at l;cases l;rw [t] at hd;cases hd
theorem Inv.funs (I:Inv X pins Z H s):s.heap.FunFrames X.base X.outer:=by
 have all:∀(l:List Env),(∀b∈frs l,b∈X.fs)->X.s₀.heap.FunFrames X.base l->s.heap.FunFrames X.base l:=by
  intro l
  induction l with
  | nil=>intro _ _;trivial
  | cons env r ih =>
   intro T U;obtain ⟨hk,⟨L,o,c,S,R,hd⟩,O⟩:=U;have t:L∈X.fs:=T L (by unfold frs;rw [GV,c];exact DO);obtain ⟨M,e⟩:=I.base.slot L o R (I.ok.frf L t) t fun z=>I.ok.exfs L z t;exact ⟨hk,⟨L,_,c,S,e,hd⟩,ih (fun b y=>T b (by unfold frs;rw [GV,c];exact Dr _ y)) O⟩
 exact all X.outer (fun _ y=>y) I.ok.funs
theorem Inv.stack (I:Inv X pins Z H s):s.heap.FunFrames X.base X.stack:=by
 rcases I.ok.stk with e | ⟨e,t⟩
 .rw [e];exact I.funs
 rw [e];obtain ⟨m,o,_⟩:=I.loc;refine .cons (by rw [I.ok.kind];decide) t o ?_ I.funs;exact Heap.get?_none_of_le (Dq I.ok.bsz I.ok.above)
theorem Inv.stkSub (I:Inv X pins Z H s):∀b∈frs X.stack,b∈X.env.locals::X.fs:=fun b t=>by
 rcases I.ok.stk with e | ⟨e,o⟩
 .rw [e] at t;exact Dr _ t
 rw [e] at t;unfold frs at t;rw [GV,o] at t;exact t
theorem Inv.stkFree (I:Inv X pins Z H s):∀b∈frs X.stack,H b=none:=fun b hb=>by
 rcases ax.mp (I.stkSub b hb) with e | hb
 .rw [e];exact I.free
 obtain ⟨_,o,t,_⟩:=I.ok.funs.mem hb;exact I.base.free b o t (I.ok.frf b hb) fun z=>I.ok.exfs b z hb
theorem Inv.step {g':Array GenState}{t':Nat}{d':Drawn}(I:Inv X pins Z H s)(O:∀b∈ch,(b∈X.ex∨X.s₀.heap.objs.size<=b)/\b≠X.env.locals/\(∀x c,X.env.cells.lookup x=some c->c≠b)/\∀p∈X.pn++pins,p.1≠b)(S:∀b o,b≠X.env.locals->b∉X.fs->b∉ch->s.heap.get? b=some o->H b=none->h'.get? b=some o)(M:∀b o,b≠X.env.locals->b∈X.fs->b∉ch->s.heap.get? b=some o->H b=none->∃ sl,h'.get? b=some { o with slots:=sl })(free:∀b o,b∉ch->s.heap.get? b=some o->H b=none->H' b=none)(there:∀b o,b∉ch->s.heap.get? b=some o->∃ J,h'.get? b=some J)(tups:∀b xs,H b=some (.tup xs)->H' b=some (.tup xs))(et:∀b o u,H b=some (.frz o u)->H' b=some (.frz o u))(ee:∀b ps,H b=some (.tbl ps)->∃ G,H' b=some (.tbl (ps++G)))(ns:∀m,s.heap.Ns X.env.locals m->h'.Ns X.env.locals m)(eo:HOk X.prog X.w H' h')(hg:AllBare g'):
  Inv X pins Z H' { s with heap:=h',gens:=g',drawn:=d',toks:=t' }:=by
 have P:∀b o,X.s₀.heap.get? b=some o->b≠X.env.locals:=fun b o e=>DZ (DW (DM e) I.ok.above);have U:∀b o,X.s₀.heap.get? b=some o->b∉X.ex->b∉ch:=fun b o e t W=>by
  rcases (O b W).1 with z | z
  .exact t z
  .exact absurd (DW (DM e) z) (Fg _)
 have y:∀x c,X.env.cells.lookup x=some c->∀v,s.heap.IsCell c v->h'.IsCell c v:=fun x c e v ⟨o,F,hd⟩=>by
  have T:c∉ch:=fun z=>(O c z).2.2.1 x c e rfl;by_cases hc:c∈X.fs
  .obtain ⟨sl,q⟩:=M c o (I.cne x c e) hc T F (I.freeC x c e);exact ⟨_,q,hd⟩
  .exact ⟨o,S c o (I.cne x c e) hc T F (I.freeC x c e),hd⟩
 refine ⟨I.ok,I.os,hg,⟨fun b o e n W t=>?_,fun b o e n W t=>?_,fun b o e n t=>?_,fun b o e t=>?_,fun b xs e=>tups b xs (I.base.tups b xs e),fun b o xs e=>et b o xs (I.base.frzs b o xs e),fun b ps e=>?_⟩,?_,fun x c e=>?_,?_,fun x c e=>?_,fun p hp=>?_,eo,I.len⟩
 .exact S b o (P b o e) W (U b o e t) (I.base.keep b o e n W t) (I.base.free b o e n t)
 .obtain ⟨sl,R⟩:=I.base.slot b o e n W t;obtain ⟨ea,Y⟩:=M b _ (P b o e) W (U b o e t) R (I.base.free b o e n t);exact ⟨ea,Y⟩
 .obtain ⟨J,R⟩:=I.base.there b o e t;exact free b J (U b o e t) R (I.base.free b o e n t)
 .obtain ⟨J,R⟩:=I.base.there b o e t;exact there b J (U b o e t) R
 .obtain ⟨m1,R⟩:=I.base.tbls b ps e;obtain ⟨m2,Y⟩:=ee b _ R;exact ⟨m1++m2,by rw [Y,Array.append_assoc]⟩
 .obtain ⟨m,hn,hl⟩:=I.loc;refine ⟨m,ns m hn,fun i x v R Y e3=>?_⟩;obtain ⟨u,r,l⟩:=hl i x v R Y e3;refine ⟨u,r,?_⟩;rcases l with l | ⟨k,c,e,z⟩
  .exact .inl l
  .exact .inr ⟨k,c,e,y x c e _ z⟩
 .obtain ⟨v,z⟩:=I.cell x c e;exact ⟨v,y x c e v z⟩
 .obtain ⟨m,⟨o,_,_,F,_⟩,_⟩:=I.loc;exact free _ o (fun z=>(O _ z).2.1 rfl) F I.free
 .obtain ⟨v,o,F,hd⟩:=I.cell x c e;exact free c o (fun z=>(O c z).2.2.1 x c e rfl) F (I.freeC x c e)
 obtain ⟨e,n,ne,nf,d⟩:=I.pin p hp;have T:p.1∉ch:=fun z=>(O p.1 z).2.2.2 p hp rfl;exact ⟨S p.1 p.2 ne nf T e n,free p.1 p.2 T e n,ne,nf,d⟩
theorem Inv.un {t':Nat}(I:Inv X pins Z H s)(u:Un X.fs [] H H' s.heap h')(c:HOk X.prog X.w H' h'):Inv X pins Z H' { s with heap:=h',toks:=t' }:=by
 obtain ⟨m,⟨o,F,ep,O,r⟩,_⟩:=id I.loc;obtain ⟨W,S⟩:=u.any O I.free Dd;exact I.step (g':=s.gens) (d':=s.drawn) (ch:=[]) (fun _ z=>nomatch z) (fun b o _ l _ e n=>u.keep b o e n l Dd) (fun b o _ l _ e n=>u.slot b o e n l Dd) (fun b o _ e n=>u.free b o e n Dd) (fun b o _ e=>u.there b o e Dd) u.tups u.frzs u.tbls (fun G R=>by
  obtain ⟨M,T,y,t,U⟩:=R;rw [O] at t;cases t;exact ⟨_,T,y,S,U⟩) c I.bare
theorem Inv.call {g':Array GenState}{t':Nat}{d':Drawn}(I:Inv X pins Z H s)(u:Un (frs X.stack) ch H H' s.heap h')(O:HOk X.prog X.w H' h')(W:AllBare g')(y:∀b∈ch,(b∈X.ex∨X.s₀.heap.objs.size<=b)/\b≠X.env.locals/\(∀x c,X.env.cells.lookup x=some c->c≠b)/\∀p∈X.pn++pins,p.1≠b):
  Inv X pins Z H' { s with heap:=h',gens:=g',drawn:=d',toks:=t' }:=by
 obtain ⟨m,⟨o,J,ep,U,r⟩,_⟩:=id I.loc;obtain ⟨P,T⟩:=u.any U I.free fun z=>(y _ z).2.1 rfl;exact I.step (ch:=ch) y (fun b o T M t e n=>u.keep b o e n (fun z=>(ax.mp (I.stkSub b z)).elim T M) t) (fun b o _ _ t e n=>u.any e n t) (fun b o t e n=>u.free b o e n t) (fun b o t e=>u.there b o e t) u.tups u.frzs u.tbls (fun m' F=>by
  obtain ⟨Y,R,S,l,G⟩:=F;rw [U] at l;cases l;exact ⟨_,R,S,T,G⟩) O W
theorem Inv.turned {t':Nat}{t:Addr}(I:Inv X pins Z H s)(k:∀b o,b≠t->s.heap.get? b=some o->h'.get? b=some o)(S:H t=none)(T:t≠X.env.locals)(R:t∈X.ex∨X.s₀.heap.objs.size<=t)(O:∀x c,X.env.cells.lookup x=some c->c≠t)(G:∀p∈X.pn++pins,p.1≠t):Inv X pins Z H { s with heap:=h',toks:=t' }:=by
 have y:∀b u,H b=some u->b≠t:=fun b u e z=>by rw [z,S] at e;cases e
 refine I.step (g':=s.gens) (d':=s.drawn) (ch:=[t]) (fun b F=>?_) (fun b o _ _ l e _=>k b o (fun z=>l (by simp [z])) e) (fun b o _ _ l e _=>⟨o.slots,k b o (fun z=>l (by simp [z])) e⟩) (fun _ _ _ _ n=>n)
  (fun b o l e=>⟨o,k b o (fun z=>l (by simp [z])) e⟩) (fun _ _ e=>e) (fun _ _ _ e=>e) (fun b ps e=>⟨#[],by rw [e];simp⟩) (fun m U=>?_) (fun b u e=>?_) I.bare
 .have e:b=t:=by simpa using F
  subst e;exact ⟨R,T,O,G⟩
 .obtain ⟨o,W,ep,M,r⟩:=U;exact ⟨o,W,ep,k _ o (Fc T) M,r⟩
 refine (I.hok b u e).stay (fun c v l q=>k c v ?_ q) (fun _ q=>q) fun _ _ q=>q;rcases l with z | z
 .rw [z];exact y b u e
 exact y c _ z
theorem Inv.tok (I:Inv X pins Z H s)(t:Nat):Inv X pins Z H { s with toks:=t }:=I.un (h':=s.heap) (t':=t) Un.refl I.hok
theorem Inv.kept {t':Nat}(I:Inv X pins Z H s)(k:∀b u,s.heap.get? b=some u->h'.get? b=some u):Inv X pins Z H { s with heap:=h',toks:=t' }:=I.un (Un.kept k) (I.hok.kept k)
theorem Inv.laid {o:HO}{t':Nat}(I:Inv X pins Z H s)(k:∀b u,s.heap.get? b=some u->h'.get? b=some u)(t:s.heap.objs.size<=a)(new:ObjOk X.prog X.w (upd H a o) h' a o):
  Inv X pins Z (upd H a o) { s with heap:=h',toks:=t' }:=I.un (Un.laid k t (I.hok.fresh t)) (I.hok.laid k t new)
theorem Inv.write {x:Addr}{o:HO}{t':Nat}(I:Inv X pins Z H s)(r:Mut (H x))(l:e=x∨H e=some (.own x))(k:∀b u,b≠e->s.heap.get? b=some u->h'.get? b=some u)(t:∃ u,h'.get? e=some u)(new:ObjOk X.prog X.w (upd H x o) h' x o):Inv X pins Z (upd H x o) { s with heap:=h',toks:=t' }:=I.un (Un.write r l k t) (I.hok.write r l k t new)
theorem Inv.weak {t:List (Option V)}(I:Inv X pins Z H s)(c:t.length=Z.length)(w:∀(i:Nat) v,t[i]?=some (some v)->Z[i]?=some (some v)):Inv X pins t H s :=
 ⟨I.ok,I.os,I.bare,I.base,let ⟨m,hn,hl'⟩:=I.loc;⟨m,hn,fun i x v r o l=>hl' i x v r (w i v o) l⟩,I.cell,I.free,I.freeC,I.pin,I.hok,c.trans I.len⟩
theorem Inv.pins_of (I:Inv X pins Z H s)(h:∀p∈pins',s.heap.get? p.1=some p.2/\H p.1=none/\p.1≠X.env.locals/\p.1∉X.fs/\∀v,p.2.data≠.cell v):Inv X pins' Z H s :=
 ⟨I.ok,I.os,I.bare,I.base,I.loc,I.cell,I.free,I.freeC,fun p t=>(Du.mp t).elim (fun z=>I.pin p (DT _ z)) (h p),I.hok,I.len⟩
theorem oW (r:N.Nodup){j:Nat}(a:N[i]?=some x)(b:N[j]?=some x):i=j:=by obtain ⟨c,o⟩:=Dz.mp a;obtain ⟨l,t⟩:=Dz.mp b;exact (List.getElem_inj r).mp (o.trans t.symm)
theorem kU {M:Model}{v:V}{Q:Unit->Shared->Prop}(I:Inv X pins Z H s)(hN:X.N.Nodup)(hi:X.N[i]?=some x)(O:Loc X.env.scope x)(r:RelV v u)(h:∀s',Inv X pins (Z.set i (some v)) H s'->(∃ a,Heap.SameBut a s.heap s'.heap/\(a=X.env.locals∨X.env.cells.lookup x=some a))->Q () s')(hf:autoParam (X.fn x=true∨X.env.scope.names.lookup x=some .local) aac):wpAny M A (storeName X.env x u) Q E s:=by
 obtain ⟨m,hn,hl⟩:=id I.loc;have et:(X.env.scope.kind == .class || (X.env.scope.kind == .module&&X.env.locals != X.env.globals))=false:=by rw [I.ok.kind];rfl
 have G:i<Z.length:=by rw [I.len];exact (Dz.mp hi).1
 have cne:=I.cne;have T:∀{a:Addr} {h':Heap},(∃ o,s.heap.get? a=some o/\H a=none)->Heap.SameBut a s.heap h'->HOk X.prog X.w H h':=fun {a h'} ha t b ob e=>by
  obtain ⟨_,_,S⟩:=ha;refine (I.hok b ob e).stay (fun c w' hc q=>(t.2 c ?_).trans q) (fun _ q=>q) fun _ _ q=>q;rintro rfl;rcases hc with rfl | hc
  .rw [S] at e;cases e
  .rw [S] at hc;cases hc
 rcases O with hk | hk
 .refine wpAny_storeName_local hk hn (fun h' ea t=>?_) et;obtain ⟨oL,_,_,eo,_⟩:=id hn;refine h _ ⟨I.ok,I.os,I.bare,⟨fun b o e n F O=>?_,fun b o e n F O=>?_,I.base.free,fun b o e O=>?_,I.base.tups,I.base.frzs,I.base.tbls⟩,⟨_,ea,fun j y v' l R e3=>?_⟩,fun y c e=>?_,I.free,I.freeC,fun p hp=>?_,T ⟨oL,eo,I.free⟩ t,by simpa using I.len⟩ ⟨_,t,.inl rfl⟩
  .exact (t.2 b (DZ (DW (DM e) I.ok.above))).trans (I.base.keep b o e n F O)
  .obtain ⟨sl,l⟩:=I.base.slot b o e n F O;exact ⟨sl,(t.2 b (DZ (DW (DM e) I.ok.above))).trans l⟩
  .obtain ⟨o',l⟩:=I.base.there b o e O;exact ⟨o',(t.2 b (DZ (DW (DM e) I.ok.above))).trans l⟩
  .by_cases U:j=i
   .subst U;rw [hi] at l;cases l;rw [Ic G] at R;cases R;exact ⟨u,r,.inl ⟨hk,Dd⟩⟩
   .rw [IF (Fc U)] at R;obtain ⟨u',r',q⟩:=hl j y v' l R e3;refine ⟨u',r',?_⟩;rcases q with ⟨k,e⟩ | ⟨k,c,e,z⟩
    .refine .inl ⟨k,?_⟩;have:y≠x:=fun e=>U (oW hN l (e▸hi));simp [this,e]
    .exact .inr ⟨k,c,e,z.sameBut t (cne y c e)⟩
  .obtain ⟨w',z⟩:=I.cell y c e;exact ⟨w',z.sameBut t (cne y c e)⟩
  .obtain ⟨e,n,ne,nf,d⟩:=I.pin p hp;exact ⟨(t.2 p.1 ne).trans e,n,ne,nf,d⟩
 have W:X.fn x=true:=by
  rcases hf with z | z
  .exact z
  .rw [z] at hk;cases hk
 obtain ⟨c,hc⟩:=I.ok.has x (.inl hk);obtain ⟨w',z⟩:=I.cell x c hc;refine wpAny_storeName_cell I.ok.kind hk hc z (fun h' P t=>?_);obtain ⟨oc,Y,ee⟩:=id z;refine h { s with heap:=h' } ⟨I.ok,I.os,I.bare,⟨fun b o e n F O=>?_,fun b o e n F O=>?_,I.base.free,fun b o e O=>?_,I.base.tups,I.base.frzs,I.base.tbls⟩,⟨m,hn.sameBut t (Fc (cne x c hc)),fun j y v' l R e3=>?_⟩,fun y c' e=>?_,I.free,I.freeC,fun p hp=>?_,T ⟨oc,Y,I.freeC x c hc⟩ t,by simpa using I.len⟩ ⟨c,t,.inr hc⟩
 .exact (t.2 b (DZ (DW (DM e) (I.ok.cab x c W hc)))).trans (I.base.keep b o e n F O)
 .obtain ⟨sl,l⟩:=I.base.slot b o e n F O;exact ⟨sl,(t.2 b (DZ (DW (DM e) (I.ok.cab x c W hc)))).trans l⟩
 .obtain ⟨o',l⟩:=I.base.there b o e O;exact ⟨o',(t.2 b (DZ (DW (DM e) (I.ok.cab x c W hc)))).trans l⟩
 .by_cases U:j=i
  .subst U;rw [hi] at l;cases l;rw [Ic G] at R;cases R;exact ⟨u,r,.inr ⟨.inl hk,c,hc,P⟩⟩
  .rw [IF (Fc U)] at R;obtain ⟨u',r',q⟩:=hl j y v' l R e3;refine ⟨u',r',?_⟩;rcases q with q | ⟨k,c',e,z'⟩
   .exact .inl q
   .refine .inr ⟨k,c',e,z'.sameBut t ?_⟩;rintro rfl;exact U (oW hN l (I.ok.inj _ _ _ e hc▸hi))
 .by_cases J:c'=c
  .subst J;exact ⟨_,P⟩
  .obtain ⟨w2,z2⟩:=I.cell y c' e;exact ⟨w2,z2.sameBut t J⟩
 obtain ⟨e,n,ne,nf,d⟩:=I.pin p hp;refine ⟨(t.2 p.1 ?_).trans e,n,ne,nf,d⟩;intro q;rw [q,Y] at e;have q':oc=p.2:=DJ e;exact d w' (by rw [<-q'];exact ee)
theorem eM {M:Model}{v:V}{Q:Unit->Shared->Prop}(I:Inv X pins Z H s)(c:X.N.Nodup)(hi:X.N[i]?=some x)(o:Loc X.env.scope x)(r:RelV v u)(h:∀s',Inv X pins (Z.set i (some v)) H s'->Q () s')(t:autoParam (X.fn x=true∨X.env.scope.names.lookup x=some .local) aac):wpAny M A (storeName X.env x u) Q E s :=
 kU I c hi o r (fun s' l _=>h s' l) t
theorem Inv.call' {s':Shared}(I:Inv X pins Z H s)(y:s'.os=s.os)(u:Un (frs X.stack) ch H H' s.heap s'.heap)(o:HOk X.prog X.w H' s'.heap)(l:AllBare s'.gens)(t:∀b∈ch,(b∈X.ex∨X.s₀.heap.objs.size<=b)/\b≠X.env.locals/\(∀x c,X.env.cells.lookup x=some c->c≠b)/\∀p∈X.pn++pins,p.1≠b):Inv X pins Z H' s':=by obtain ⟨h',g',d',t',r⟩:=s';have e:r=s.os:=y;subst e;exact I.call (g':=g') (t':=t') (d':=d') u o l t
end
abbrev XK:=Value->Option Addr->Hp->Prop
abbrev St:=List (Option V)
abbrev VK:=V->Hp->Prop
abbrev TE:=St->Hp->VK->Prop
abbrev TT:=St->Hp->(Bool->Hp->Prop)->Prop
abbrev TA:=St->Hp->(List V->Hp->Prop)->Prop
structure gO where
 nx:St->Hp->Prop
 rt:VK
 bk:St->Hp->Prop:=fun _ _=>False
 ct:St->Hp->Prop:=fun _ _=>False
abbrev TS:=gO->St->Hp->Prop
def EP (X:Cx)(pins:List (Addr×Obj))(Z:St)(Q:VK)(u:Value)(s':Shared):Prop:=∃ v H',Inv X pins Z H' s'/\RelV v u/\Q v H'
def TP (X:Cx)(pins:List (Addr×Obj))(Z:St)(Q:Bool->Hp->Prop)(b:Bool)(s':Shared):Prop:=∃ H',Inv X pins Z H' s'/\Q b H'
def AP (X:Cx)(pins:List (Addr×Obj))(Z:St)(Q:List V->Hp->Prop)(us:List Value)(s':Shared):Prop:=∃ vs H',Inv X pins Z H' s'/\Vals vs us/\Q vs H'
def SP (X:Cx)(pins:List (Addr×Obj))(D:gO)(f:Flow)(s':Shared):Prop :=
 match f with
 | .next=>∃ σ' H',Inv X pins σ' H' s'/\D.nx σ' H'
 | .brk=>∃ σ' H',Inv X pins σ' H' s'/\D.bk σ' H'
 | .cont=>∃ σ' H',Inv X pins σ' H' s'/\D.ct σ' H'
 | .ret u=>∃ v σ' H',Inv X pins σ' H' s'/\RelV v u/\D.rt v H'
def PE (X:Cx)(e:Expr)(t:TE):Prop :=
 ∀(pins:List (Addr×Obj)) (s:Shared) (Z:St) (H:Hp) (Q:VK),Inv X pins Z H s->t Z H Q->wpAny (model X.prog X.w) X.A (eval e X.env) (EP X pins Z Q) X.xe s
def PT (X:Cx)(e:Expr)(t:TT):Prop :=
 ∀(pins:List (Addr×Obj)) (s:Shared) (Z:St) (H:Hp) (Q:Bool->Hp->Prop),Inv X pins Z H s->t Z H Q->wpAny (model X.prog X.w) X.A (isTrue e X.env (eval e X.env)) (TP X pins Z Q) X.xe s
def PW (X:Cx)(e:Expr)(t:TT):Prop :=
 ∀(whole:Sem Value) (pins:List (Addr×Obj)) (s:Shared) (Z:St) (H:Hp) (Q:Bool->Hp->Prop),Inv X pins Z H s->t Z H Q->wpAny (model X.prog X.w) X.A (isTrue e X.env whole) (TP X pins Z Q) X.xe s
theorem PW.pt {X:Cx}{e:Expr}{t:TT}(h:PW X e t):PT X e t:=h _
def PA (X:Cx)(es:List Expr)(t:TA):Prop :=
 ∀(pos:Pos) (pins:List (Addr×Obj)) (s:Shared) (Z:St) (H:Hp) (Q:List V->Hp->Prop),Inv X pins Z H s->t Z H Q->wpAny (model X.prog X.w) X.A (spliced (backTo pos (starEach es X.env))) (AP X pins Z Q) X.xe s
def PS (X:Cx)(st:Stmt)(t:TS):Prop :=
 ∀(pins:List (Addr×Obj)) (s:Shared) (Z:St) (H:Hp) (D:gO),Inv X pins Z H s->t D Z H->wpAny (model X.prog X.w) X.A (exec st X.env) (SP X pins D) X.xe s
def PSs (X:Cx)(st:List Stmt)(t:TS):Prop :=
 ∀(pins:List (Addr×Obj)) (s:Shared) (Z:St) (H:Hp) (D:gO),Inv X pins Z H s->t D Z H->wpAny (model X.prog X.w) X.A (execs st X.env) (SP X pins D) X.xe s
theorem thn {α:Type}{t:Sem α}{Q o:α->Shared->Prop}{M:Model}(h:wpAny M A t Q E s)(r:∀a s,Q a s->o a s):wpAny M A t o E s:=Ew h r fun _ _ x=>x
section
variable {X:Cx}
def onO (o:Option (Option V))(f:V->Prop):Prop:=Option.casesOn (motive:=fun _=>Prop) o False fun x=>Option.casesOn (motive:=fun _=>Prop) x False f
theorem AU {o:Option (Option V)}{f:V->Prop}(h:onO o f):∃ v,o=some (some v)/\f v:=by
 rcases o with _ | _ | v
 .exact h.elim
 .exact h.elim
 exact ⟨v,rfl,h⟩
def onI (x:V)(f:Int->Prop):Prop:=V.casesOn (motive:=fun _=>Prop) x False (fun _=>False) f (fun _=>False) (fun _=>False) (fun _=>False) (fun _=>False) fun _=>False
theorem dN {x:V}{f:Int->Prop}(h:onI x f):∃ i,x=.int i/\f i:=by
 cases x with
 | int i=>exact ⟨i,rfl,h⟩
 | _=>exact h.elim
def onR (x:V)(f:Addr->Prop):Prop:=V.casesOn (motive:=fun _=>Prop) x False (fun _=>False) (fun _=>False) (fun _=>False) (fun _=>False) (fun _=>False) f fun _=>False
theorem xc {x:V}{f:Addr->Prop}(h:onR x f):∃ i,x=.ref i/\f i:=by
 cases x with
 | ref i=>exact ⟨i,rfl,h⟩
 | _=>exact h.elim
def Ct (i:Nat):TE:=fun Z H Q=>onO Z[i]? fun v=>Q v H
def tC (v:V):TE:=fun _ H Q=>Q v H
theorem wx {i j pos}:PE X (.Constant (.int i) j pos) (tC (.int i)):=fun _ _ _ H _ I h=>wpAny_Constant_int ⟨.int i,H,I.tok _,⟨_,rfl⟩,h⟩
theorem qb {x j pos}:PE X (.Constant (.str x) j pos) (tC (.str x)):=fun _ _ _ H _ I h=>Calls.Constant_str ⟨.str x,H,I.tok _,⟨_,rfl⟩,h⟩
def Gl (X:Cx)(x:Str):Prop:=X.env.kindOf x=some .globalImplicit
theorem fj {Z:St}{H:Hp}(I:Inv X pins Z H s)(t:Gl X x)(o:X.mg x=some u)(h:Q u s)(hd:autoParam ((x == ("__debug__":Str))=false) aab):wpAny (model X.prog X.w) X.A (eval (.Name x pos) X.env) Q E s :=
 G7 I.ok.kind t (Calls.loadGlobal_global (by rw [I.ok.glob];exact I.mod.glob.keeps I.bk) o h) hd
theorem i9 {Z:St}{H:Hp}(I:Inv X pins Z H s)(l:Gl X x)(o:X.mg x=none)(t:bootBuiltins x=some u)(h:Q u s)(c:autoParam (x≠"__name__") aab)(hd:autoParam ((x == ("__debug__":Str))=false) aab):wpAny (model X.prog X.w) X.A (eval (.Name x pos) X.env) Q E s:=by obtain ⟨T,y,r⟩:=I.mod.blt;exact G7 I.ok.kind l (Calls.loadGlobal_builtin (by rw [I.ok.glob];exact I.mod.glob.keeps I.bk) o (by rw [I.ok.blt];exact y.keeps I.bk) ((r x c).trans t) h) hd
variable {a b:Expr}{ta tb:TE}{pos:Pos}
def PC (X:Cx)(op:CmpOp)(a b:Expr)(t:TE):Prop :=
 ∀(pins:List (Addr×Obj)) (s:Shared) (Z:St) (H:Hp) (Q:VK),Inv X pins Z H s->t Z H Q ->
  wpAny (model X.prog X.w) X.A (eval a X.env) (fun v s₁=>wpAny (model X.prog X.w) X.A (eval b X.env) (fun u s₂=>wpAny (model X.prog X.w) X.A (compareOp op v u) (EP X pins Z Q) X.xe s₂) X.xe s₁) X.xe s
def tB (t:TE):TT:=fun Z H Q=>t Z H fun x H1=>∃ c,x=.bl c/\Q c H1
theorem wJ {op:CmpOp}{t:TE}(h:PC X op a b t)(o:behindInMarks op b=false:=by first | exact nobehind _ Db Db | rfl):PT X (.Compare a [op] [b] pos) (tB t):=by intro pins s Z H Q I l;refine wpAny_isTrue_Compare1 (thn (h pins s Z H _ I l) fun v U o=>thn o fun u W T=>thn T fun c M S=>?_) o;obtain ⟨x,r,R,O,y⟩:=S;obtain ⟨d,rfl,q⟩:=y;cases O;exact Fp ⟨r,R,q⟩
variable {tA tB':TT}{rest:List Expr}
def Cz (t u:TT):TT:=fun Z H Q=>t Z H fun c H1=>if c=true then u Z H1 Q else Q false H1
def tOr (t u:TT):TT:=fun Z H Q=>t Z H fun c H1=>if c=true then Q true H1 else u Z H1 Q
def CK (t:TT):TT:=fun Z H Q=>t Z H fun c H1=>Q (!c) H1
def BM (ta tb:TE):TE:=fun Z H Q=>ta Z H fun x H1=>∃ c,x=.bl c/\if c=true then tb Z H1 Q else Q (.bl false) H1
def tIf (t:TT)(ta tb:TE):TE:=fun Z H Q=>t Z H fun c H1=>if c=true then ta Z H1 Q else tb Z H1 Q
end
def SqL (K:W.Frag)(H:Hp)(a:Addr)(xs:List V):Prop :=
 Rd H a (.lst xs) ∨
  ∃ (o:Obj) (its:Array Value) (n:Nat),K.lookup a=some o/\o.cls=.type "list"/\o.dict=none/\o.data=.seq its n/\its.size<=sizeLine/\Vals xs its.toList
def SqT (K:W.Frag)(H:Hp)(a:Addr)(xs:List V):Prop :=
 Rd H a (.tup xs) ∨
  ∃ (o:Obj) (its:Array Value) (n:Nat),K.lookup a=some o/\o.cls=.type "tuple"/\o.data=.seq its n/\its.size<=sizeLine/\Vals xs its.toList
def C6:Value->Option V
 | .none=>some .non
 | .bool b=>some (.bl b)
 | .int i _=>some (.int i)
 | .str x _=>some (.str x)
 | .bytes b _=>some (.byt b)
 | .float b _=>some (.flt b)
 | .ref a=>some (.ref a)
 | .type n=>some (.ty n)
 | _=>none
theorem RelV.abs {x:V}(r:RelV x u):C6 u=some x:=by
 cases x with
 | non=>cases r;rfl
 | bl _=>cases r;rfl
 | int _=>obtain ⟨t,rfl⟩:=r;rfl
 | str _=>obtain ⟨t,rfl⟩:=r;rfl
 | byt _=>obtain ⟨t,rfl⟩:=r;rfl
 | flt _=>obtain ⟨t,rfl⟩:=r;rfl
 | ref _=>cases r;rfl
 | ty _=>cases r;rfl
theorem RelV.inj {x y:V}(r:RelV x u)(q:RelV y u):x=y:=DJ (r.abs.symm.trans q.abs)
theorem Vals.inj:∀{xs ys:List V} {us:List Value},Vals xs us->Vals ys us->xs=ys
 | _,_,_,.nil,.nil=>rfl
 | _,_,_,.cons r t,.cons r' t'=>by rw [r.inj r',Vals.inj t t']
section
variable {X:Cx}{pins:List (Addr×Obj)}{Z:St}{H:Hp}{s:Shared}{a:Addr}{xs ys:List V}
theorem SqL.of (h:H a=some (.lst xs)):SqL K H a xs:=.inl (.inl h)
theorem SqT.of (h:H a=some (.tup xs)):SqT K H a xs:=.inl (.inl h)
theorem Inv.list (I:Inv X pins Z H s)(h:SqL X.K H a xs):∃ its:List Value,Vals xs its/\PlainL s.heap a its.toArray/\xs.length<=sizeLine:=by
 rcases h with h | ⟨o,its,n,hk,l,hd,t,c,r⟩
 .obtain ⟨z,its,n,r,e⟩:=h.ok I.hok;exact ⟨its,r,⟨_,n,e,rfl,rfl,rfl⟩,z⟩
 refine ⟨its.toList,r,⟨o,n,I.kIn a o hk,l,hd,by simpa using t⟩,?_⟩;have e:=r.length;simp only [E9] at e;lia
theorem Inv.tuple (I:Inv X pins Z H s)(h:SqT X.K H a xs):∃ its:List Value,Vals xs its/\IsTup s.heap a its.toArray/\xs.length<=sizeLine:=by
 rcases h with h | ⟨o,its,n,hk,l,t,c,r⟩
 .obtain ⟨z,its,r,p⟩:=h.ok I.hok;exact ⟨its,r,p,z⟩
 refine ⟨its.toList,r,⟨o,I.kIn a o hk,l,n,by simpa using t⟩,?_⟩;have e:=r.length;simp only [E9] at e;lia
theorem Inv.list_inj (I:Inv X pins Z H s)(h:SqL X.K H a xs)(h':SqL X.K H a ys):xs=ys:=by
 obtain ⟨its,r,⟨o,n,e,_,_,d⟩,_⟩:=I.list h;obtain ⟨its',c,⟨y,T,l,_,_,t⟩,_⟩:=I.list h';rw [e] at l;cases l;rw [d] at t;injection t with d1 _;have:its=its':=by simpa using congrArg Array.toList d1
 subst this;exact r.inj c
theorem Inv.tuple_inj (I:Inv X pins Z H s)(h:SqT X.K H a xs)(h':SqT X.K H a ys):xs=ys:=by
 obtain ⟨its,r,⟨o,e,_,n,d⟩,_⟩:=I.tuple h;obtain ⟨its',c,⟨y,l,_,T,t⟩,_⟩:=I.tuple h';rw [e] at l;cases l;rw [d] at t;injection t with d1 _;have:its=its':=by simpa using congrArg Array.toList d1
 subst this;exact r.inj c
end
abbrev Cx.wish (X:Cx)(E:Value->Shared->Prop):Cx:={ X with xe:=E }
abbrev Cx.nox (X:Cx):Cx:=X.wish fun _ _=>False
theorem Cx.Ok.wish {X:Cx}(ok:X.Ok)(E:Value->Shared->Prop):(X.wish E).Ok :=
 ⟨ok.mod,ok.kind,ok.glob,ok.blt,ok.above,ok.inj,ok.has,ok.cab,ok.hd,ok.frames,ok.stk,ok.exf,ok.bs,ok.bsz,ok.noex,ok.exfs,ok.funs,ok.frf⟩
theorem Cx.Ok.unwish {X:Cx}(ok:(X.wish E).Ok):X.Ok :=
 ⟨ok.mod,ok.kind,ok.glob,ok.blt,ok.above,ok.inj,ok.has,ok.cab,ok.hd,ok.frames,ok.stk,ok.exf,ok.bs,ok.bsz,ok.noex,ok.exfs,ok.funs,ok.frf⟩
section
variable {X:Cx}{pins:List (Addr×Obj)}{Z:St}{H:Hp}{s:Shared}{E:Value->Shared->Prop}
theorem Inv.wish (I:Inv X pins Z H s)(E:Value->Shared->Prop):Inv (X.wish E) pins Z H s:=⟨I.ok.wish E,I.os,I.bare,I.base,I.loc,I.cell,I.free,I.freeC,I.pin,I.hok,I.len⟩
theorem Inv.unwish (I:Inv (X.wish E) pins Z H s):Inv X pins Z H s:=⟨I.ok.unwish,I.os,I.bare,I.base,I.loc,I.cell,I.free,I.freeC,I.pin,I.hok,I.len⟩
theorem SP.unwish {D:gO}{f:Flow}{s':Shared}(h:SP (X.wish E) pins D f s'):SP X pins D f s':=by
 cases f with
 | next=>obtain ⟨t,o,I,q⟩:=h;exact ⟨t,o,I.unwish,q⟩
 | brk=>obtain ⟨t,o,I,q⟩:=h;exact ⟨t,o,I.unwish,q⟩
 | cont=>obtain ⟨t,o,I,q⟩:=h;exact ⟨t,o,I.unwish,q⟩
 | ret u=>obtain ⟨v,t,o,I,r,q⟩:=h;exact ⟨v,t,o,I.unwish,r,q⟩
theorem PSs.nox {st:List Stmt}{t:TS}(h:PSs X.nox st t):PSs X st t:=fun pins s Z H D I o =>
 Ew (h pins s Z H D (I.wish _) o) (fun _ _ q=>q.unwish) fun _ _ z=>False.elim z
end
section
variable {X:Cx}{st:Stmt}{rest:List Stmt}{t u:TS}{e:Expr}{te:TE}{pos:Pos}
def BU:TS:=fun D Z H=>D.nx Z H
def CS (t u:TS):TS:=fun D Z H=>t { D with nx:=u D } Z H
def Bt:TS:=fun D Z H=>D.bk Z H
def BK:TS:=fun D Z H=>D.ct Z H
theorem ps_continue:PS X (.Continue pos) BK:=fun _ _ Z H _ I h=>wpAny_Continue ⟨Z,H,I,h⟩
theorem Inv.quiet {Z:St}{H:Hp}(I:Inv X pins Z H s):interactive X.env=false:=by simp [interactive,I.ok.kind]
def Bw (te:TE):TS:=fun D Z H=>te Z H fun _ H1=>D.nx Z H1
def C5 (te:TE):TS:=fun D Z H=>te Z H D.rt
def BL (c:TT)(t u:TS):TS:=fun D Z H=>c Z H fun b H1=>if b=true then t D Z H1 else u D Z H1
theorem zP {c:Expr}{a b:List Stmt}{y:TT}(S:PT X c y)(O:PSs X a t)(U:PSs X b u):PS X (.If c a b pos) (BL y t u):=by
 intro pins s Z H D I h;refine wpAny_If (thn (S pins s Z H _ I h) fun d r R=>?_);obtain ⟨o,T,l⟩:=R;cases d with
 | true=>exact O pins r Z o D T l
 | false=>exact U pins r Z o D T l
def tNever:TS:=fun _ _ _=>False
end
abbrev TG:=V->St->Hp->(St->Hp->Prop)->Prop
abbrev TGs:=List V->St->Hp->(St->Hp->Prop)->Prop
def PG (X:Cx)(target:Expr)(t:TG):Prop :=
 ∀(pins:List (Addr×Obj)) (s:Shared) (Z:St) (H:Hp) (v:V) (u:Value) (Q:St->Hp->Prop),Inv X pins Z H s->RelV v u->t v Z H Q ->
  wpAny (model X.prog X.w) X.A (assign target X.env u) (fun _ s'=>∃ σ' H',Inv X pins σ' H' s'/\Q σ' H') X.xe s
def PGs (X:Cx)(ts:List Expr)(t:TGs):Prop :=
 ∀(pins:List (Addr×Obj)) (s:Shared) (Z:St) (H:Hp) (vs:List V) (us:List Value) (Q:St->Hp->Prop),Inv X pins Z H s->Vals vs us->t vs Z H Q ->
  wpAny (model X.prog X.w) X.A (assignInOrder ((assignEach ts X.env).map (·.2)) us) (fun _ s'=>∃ σ' H',Inv X pins σ' H' s'/\Q σ' H') X.xe s
abbrev AN:=V->V->V->Hp->(Hp->Prop)->Prop
def BZ (X:Cx)(t:AN):Prop :=
 ∀(pins:List (Addr×Obj)) (s:Shared) (Z:St) (H:Hp) (o i v:V) (ov iv u:Value) (Q:Hp->Prop),Inv X pins Z H s->RelV o ov->RelV i iv->RelV v u->t o i v H Q ->
  wpAny (model X.prog X.w) X.A (setItem ov iv u) (fun _ s'=>∃ H',Inv X pins Z H' s'/\Q H') X.xe s
section
variable {X:Cx}{pos:Pos}
def iY (i:Nat):TG:=fun v Z H Q=>Q (Z.set i (some v)) H
theorem iH (c:X.N.Nodup)(hi:X.N[i]?=some x)(o:Loc X.env.scope x)(t:autoParam (X.fn x=true∨X.env.scope.names.lookup x=some .local) aac):PG X (.Name x pos) (iY i):=by intro pins s Z H v u Q I r h;exact wpAny_assign_Name (eM I c hi o r (fun y l=>⟨_,H,l,h⟩) t)
def Ba:TGs:=fun vs Z H Q=>vs=[]/\Q Z H
def sj (t:TG)(u:TGs):TGs:=fun vs Z H Q=>∃ v r,vs=v::r/\t v Z H fun σ' H'=>u r σ' H' Q
theorem rV:PGs X [] Ba:=by intro pins s Z H vs us Q I r h;obtain ⟨e,h⟩:=h;subst e;cases r;exact assignInOrder_nil ⟨Z,H,I,h⟩
theorem jh {e:Expr}{o:List Expr}{t:TG}{u:TGs}(R:PG X e t)(S:PGs X o u)(U:autoParam ((assignEach (e::o) X.env).map (·.2)=assign e X.env::(assignEach o X.env).map (·.2)) aad):PGs X (e::o) (sj t u):=by
 intro pins s Z H vs us Q I r h;obtain ⟨v,F,c,h⟩:=h;subst c;cases r with
 | cons r rr =>
  rw [U];refine G8 (thn (R pins s Z H _ _ _ I r h) fun _ T M=>?_);obtain ⟨y,l,W,O⟩:=M;exact S pins T y l _ _ Q W rr O
def AE (K:W.Frag)(n:Nat)(t:TGs):TG:=fun v Z H Q=>∃ a xs,v=.ref a/\SqT K H a xs/\xs.length=n/\t xs Z H Q
theorem vq {l:List Expr}{k:Nat}{t:TGs}(W:X.calm=true)(h:PGs X l t)(M:autoParam ((assignEach l X.env).length=n) aad)(y:autoParam ((assignEach l X.env).findIdx? (·.1)=none) aad):PG X (.Tuple l k pos) (AE X.K n t):=by intro pins s Z H v u Q I r c;obtain ⟨a,F,S,R,G,c⟩:=c;subst S;cases r;obtain ⟨its,T,U,P⟩:=I.tuple R;refine assign_Tuple_tuple (I.ok.hd W) U (by simp [M,<-G,T.length]) y fun h' O=>?_;have Y:Inv X pins Z H { s with heap:=h' }:=I.kept (t':=s.toks) fun b o e=>O b o (DZ (DM e)) e;exact h pins _ Z H F _ Q Y (by simpa using T) c
def Cr (to ti:TE)(t:AN):TG:=fun v Z H Q=>to Z H fun o H1=>ti Z H1 fun i H2=>t o i v H2 fun H3=>Q Z H3
def yE (te:TE)(g:TG):TS:=fun D Z H=>te Z H fun x H1=>g x Z H1 D.nx
def Cw (i j:Nat)(ta:TA):TS:=fun D Z H=>ta Z H fun vs H1=>∃ v w,vs=[v,w]/\D.nx ((Z.set i (some v)).set j (some w)) H1
def Ak (c:TT)(tb:TS):TS:=fun D Z H=>∃ W:Nat->St->Hp->Prop,(∃ m,W m Z H)/\∀m Z H,W m Z H ->
 c Z H fun b H1=>if b=true then ∃ N:St->Hp->Prop,(∀σ' H',N σ' H'->∃ m',m'<m/\W m' σ' H')/\tb { D with nx:=N,ct:=N,bk:=D.nx } Z H1 else D.nx Z H1
end
structure It where
 go:Nat->Hp->Prop
 yld:Nat->Hp->V->Hp->Prop
 stop:Nat->Hp->Prop
def om (X:Cx)(pins:List (Addr×Obj))(H:Hp)(b:Addr):Prop :=
 H b=none/\b≠X.env.locals/\b∉X.fs/\(b∈X.ex∨X.s₀.heap.objs.size<=b)/\(∀x c,X.env.cells.lookup x=some c->c≠b)/\∀p∈X.pn++pins,p.1≠b
theorem Inv.fpOk {X:Cx}{Z:St}{H H':Hp}(I:Inv X pins Z H s)(t:s.heap.objs.size<=b)(r:H' b=none):om X pins H' b:=by
 refine ⟨r,Ik (DW I.lt t),I.nofs t,.inr (Dq I.sz t),fun x c e z=>?_,fun p o z=>?_⟩
 .obtain ⟨v,q⟩:=I.cell x c e;exact absurd (DW q.lt (by rw [z];exact t)) (Fg _)
 exact absurd (DW (DM (I.pin p o).1) (by rw [z];exact t)) (Fg _)
structure nE (P:Program)(w:World)(K:W.Frag)(tg:Expr)(J:It)(fp:List Addr)(it:Addr)(tn:Nat->Heap->Prop):Prop where
 mem:it∈fp
 obj:∀i h,tn i h->∀b∈fp,∃ o,h.get? b=some o/\∀v,o.data≠.cell v
 keep:∀i h h',tn i h->(∀b∈fp,∀o,h.get? b=some o->h'.get? b=some o)->tn i h'
 item:∀(X:Cx),X.prog=P->X.w=w->X.K=K->X.calm=true->∀(i:Nat) (pins:List (Addr×Obj)) (s:Shared) (Z:St) (H:Hp) (E:Value->Shared->Prop),Inv X pins Z H s->(∀b∈fp,om X pins H b)->tn i s.heap->J.go i H ->
  wpAny (model P w) X.A (pyNext (.ref it)) (fun r s1=>∃ u,r=some u /\
   wpAny (model P w) X.A (letOwnedTupleGo tg (.ref it) u) (fun _ s2=>∃ x H',Inv X pins Z H' s2/\RelV x u/\J.yld i H x H'/\tn (i+1) s2.heap/\∀b∈fp,H' b=none) E s1) E s
 done:∀(X:Cx),X.prog=P->X.w=w->X.K=K->X.calm=true->∀(i:Nat) (pins:List (Addr×Obj)) (s:Shared) (Z:St) (H:Hp) (E:Value->Shared->Prop),Inv X pins Z H s->(∀b∈fp,om X pins H b)->tn i s.heap->J.stop i H ->
  wpAny (model P w) X.A (pyNext (.ref it)) (fun r s1=>r=none/\Inv X pins Z H s1) E s
 self:∀(A:Around) (i:Nat) (s:Shared) (Q:Value->Shared->Prop) (E:Value->Shared->Prop),tn i s.heap->Q (.ref it) s->wpAny (model P w) A (pyIter (.ref it)) Q E s
abbrev TI:=St->Hp->(It->Hp->Prop)->Prop
def PIE (X:Cx)(pins:List (Addr×Obj))(Z:St)(tg:Expr)(R:It->Hp->Prop)(itv:Value)(s2:Shared):Prop :=
 ∃ (it:Addr) (fp:List Addr) (tn:Nat->Heap->Prop) (J:It) (H':Hp),itv=.ref it/\Inv X pins Z H' s2/\nE X.prog X.w X.K tg J fp it tn/\tn 0 s2.heap/\(∀b∈fp,om X pins H' b)/\R J H'
def PI (X:Cx)(tg iter:Expr)(wi:TI):Prop :=
 ∀(pins:List (Addr×Obj)) (s:Shared) (Z:St) (H:Hp) (R:It->Hp->Prop),Inv X pins Z H s->wi Z H R ->
  wpAny (model X.prog X.w) X.A (eval iter X.env) (fun v s1=>wpAny (model X.prog X.w) X.A (pyIter v) (PIE X pins Z tg R) X.xe s1) X.xe s
theorem jw {M:Model}{r:Addr}{o:Obj}{n:String}{vs:Array Value}{Q:Unit->Shared->Prop}(l:s.heap.get? r=some o)(y:o.cls=.type n)(hd:o.data=.fields vs)(c:["enumerate","zip","dict_itemiterator","dict_reverseitemiterator","odict_iterator","itertools.zip_longest","itertools.pairwise"].contains n=false)(t:Q () s):wpAny M A (letOwnedTupleGo tg (.ref r) u) Q E s:=by
  unfold letOwnedTupleGo;cases tg <;> first
    | exact Dx t
    | (cases u <;> first
        | exact Dx t
        | (refine Dh (wpAny_load l ?_)
           rw [y,hd];show wpAny M A (if (["enumerate","zip","dict_itemiterator","dict_reverseitemiterator","odict_iterator","itertools.zip_longest","itertools.pairwise"].contains n&&vs[0]? == some (rawInt _))=true then _ else _) Q E s;rw [Di (by intro h;rw [c,Bool.false_and] at h;cases h)];exact Dx t))
def Itl (K:W.Frag)(a:Addr):It :=
 ⟨fun i H=>∃ xs x,SqL K H a xs/\xs[i]?=some x,fun i H x H'=>H'=H/\∀xs,SqL K H a xs->xs[i]?=some x,fun i H=>∃ xs,SqL K H a xs/\xs.length<=i⟩
def Itt (K:W.Frag)(a:Addr):It :=
 ⟨fun i H=>∃ xs x,SqT K H a xs/\xs[i]?=some x,fun i H x H'=>H'=H/\∀xs,SqT K H a xs->xs[i]?=some x,fun i H=>∃ xs,SqT K H a xs/\xs.length<=i⟩
def Itr (lo:Int)(n:Nat):It:=⟨fun i _=>i<n,fun i H x H'=>H'=H/\x=.int (lo+i),fun i _=>n<=i⟩
theorem uw {P:Program}(a t:Addr):nE P w K tg (Itl K a) [t] t (fun i h=>h.IsListIter t a i) where
 mem:=by simp
 obj:=fun i h st b r=>by
  have e:b=t:=by simpa using r
  subst e;obtain ⟨o,e,c,d⟩:=st;exact ⟨o,e,fun v z=>by rw [d] at z;cases z⟩
 keep:=fun i h h' st k=>st.at fun o e=>k t Dd o e
 item:=by
  intro X F Y M hc i pins s Z H E I T st U;subst F Y M;obtain ⟨xs,x,y,G⟩:=U;obtain ⟨its,O,p,hz⟩:=I.list y;obtain ⟨u,hu,ru⟩:=O.get G;obtain ⟨S,W,f2,R,f4,J⟩:=T t Dd;refine wpAny_pyNext_list_item st p.isList (x:=u) (by simpa using hu) fun h' l sb=>?_;have I1:Inv X pins Z H { s with heap:=h' }:=I.turned (t':=s.toks) (fun b o r e=>(sb.2 b r).trans e) S W R f4 J;obtain ⟨o,e,c,d⟩:=id l;exact ⟨u,rfl,jw (s:={ s with heap:=h' }) e c d Db ⟨x,H,I1,ru,⟨rfl,fun ys hy=>by rw [I.list_inj hy y];exact G⟩,l,fun b r=>(T b r).1⟩⟩
 done:=by
  intro X F Y M hc i pins s Z H E I T st U;subst F Y M;obtain ⟨xs,y,G⟩:=U;obtain ⟨its,O,p,hz⟩:=I.list y;obtain ⟨S,W,f2,R,f4,J⟩:=T t Dd;have hl:=O.length;exact wpAny_pyNext_list_end (I.ok.hd hc) st p.isList (by simp;lia) fun h' eb=>⟨rfl,I.turned (t':=s.toks) (fun b o r e=>eb b o r e) S W R f4 J⟩
 self:=fun _ _ _ _ _ st h=>wpAny_pyIter_listiter st h
theorem qz {P:Program}(a t:Addr):nE P w K tg (Itt K a) [t] t (fun i h=>h.IsTupleIter t a i) where
 mem:=by simp
 obj:=fun i h st b r=>by
  have e:b=t:=by simpa using r
  subst e;obtain ⟨o,e,c,d⟩:=st;exact ⟨o,e,fun v z=>by rw [d] at z;cases z⟩
 keep:=fun i h h' st k=>st.at fun o e=>k t Dd o e
 item:=by
  intro X F Y M hc i pins s Z H E I T st U;subst F Y M;obtain ⟨xs,x,y,G⟩:=U;obtain ⟨its,O,p,hz⟩:=I.tuple y;obtain ⟨u,hu,ru⟩:=O.get G;obtain ⟨S,W,f2,R,f4,J⟩:=T t Dd;refine wpAny_pyNext_tuple_item st (show s.heap.IsTuple a its.toArray from p) (x:=u) (by simpa using hu) fun h' l sb=>?_;have I1:Inv X pins Z H { s with heap:=h' }:=I.turned (t':=s.toks) (fun b o r e=>(sb.2 b r).trans e) S W R f4 J;obtain ⟨o,e,c,d⟩:=id l;exact ⟨u,rfl,jw (s:={ s with heap:=h' }) e c d Db ⟨x,H,I1,ru,⟨rfl,fun ys hy=>by rw [I.tuple_inj hy y];exact G⟩,l,fun b r=>(T b r).1⟩⟩
 done:=by
  intro X F Y M hc i pins s Z H E I T st U;subst F Y M;obtain ⟨xs,y,G⟩:=U;obtain ⟨its,O,p,hz⟩:=I.tuple y;obtain ⟨S,W,f2,R,f4,J⟩:=T t Dd;have hl:=O.length;exact wpAny_pyNext_tuple_end (I.ok.hd hc) st (show s.heap.IsTuple a its.toArray from p) (by simp;lia) fun h' eb=>⟨rfl,I.turned (t':=s.toks) (fun b o r e=>eb b o r e) S W R f4 J⟩
 self:=fun _ _ _ _ _ st h=>wpAny_pyIter_tupleiter st h
theorem qH {P:Program}{K:PySem.W.Frag}(r:Addr)(lo:Int)(n:Nat):nE P w K tg (Itr lo n) [r] r (fun i h=>IsRangeIter h r (lo+(i:Nat)*1) ((n:Int)-(i:Nat)) 1) where
 mem:=by simp
 obj:=fun i h st b l=>by
  have e:b=r:=by simpa using l
  subst e;exact ⟨_,st,fun v z=>by
   have z':Data.fields _=Data.cell v:=z;cases z'⟩
 keep:=fun i h h' st k=>k r Dd _ st
 item:=by
  intro X F G R M i pins s Z H E I y st S;subst F G R;obtain ⟨T,U,f2,O,J,Y⟩:=y r Dd;have W:=Walks.range (prog:=X.prog) (w:=X.w) (I.ok.hd M) r lo 1 n;refine W.item i s _ _ S st fun v h' tk hv c kk=>?_;obtain ⟨t,rfl⟩:=hv;have I1:Inv X pins Z H { s with heap:=h',toks:=tk }:=I.turned (fun b o l e=>kk b o (by simpa using l) e) T U O J Y;refine ⟨_,rfl,jw (s:={ s with heap:=h',toks:=tk }) (n:="range_iterator") c rfl rfl Db ⟨.int (lo+i),H,I1,⟨t,?_⟩,⟨rfl,rfl⟩,c,fun b l=>(y b l).1⟩⟩;rw [Hu]
 done:=by
  intro X F G R M i pins s Z H E I y st S;subst F G R;obtain ⟨T,U,f2,O,J,Y⟩:=y r Dd;exact wpAny_pyNext_range_end (I.ok.hd M) st (by have:n<=i:=S;lia) fun h' eb=>⟨rfl,I.turned (t':=s.toks) (fun b o l e=>eb b o l e) T U O J Y⟩
 self:=fun _ _ _ _ _ st h=>wpAny_pyIter_rangeiter st h
section
variable {X:Cx}{tg:Expr}
def Cf (K:W.Frag)(tl:TE):TI:=fun Z H R=>tl Z H fun x H1=>∃ a,x=.ref a/\(∃ xs,SqL K H1 a xs)/\R (Itl K a) H1
def CZ (K:W.Frag)(tl:TE):TI:=fun Z H R=>tl Z H fun x H1=>∃ a,x=.ref a/\(∃ xs,SqT K H1 a xs)/\R (Itt K a) H1
theorem vE {Z:St}{H:Hp}{R:It->Hp->Prop}{lo hi:Int}{t u v:Tok}{tk:Nat}(I:Inv X pins Z H s)(y:-(2 ^ 62)<=lo)(c:lo<2 ^ 62)(U:-(2 ^ 62)<=hi)(O:hi<2 ^ 62)(q:R (Itr lo (hi-lo).toNat) H):wpAny (model X.prog X.w) X.A (pyIter (.ref s.heap.objs.size)) (PIE X pins Z tg R) E { s with heap:=s.heap.push { cls:=.type "range",data:=.fields #[.int lo t,.int hi u,.int 1 v] },toks:=tk }:=by
 refine wpAny_pyIter_range (IsRange.new ..) (small_one y c U O) ?_;have r:Inv X pins Z H { s with heap:=s.heap.push { cls:=.type "range",data:=.fields #[.int lo t,.int hi u,.int 1 v] },toks:=tk }:=I.kept fun b o e=>Dt _ e;refine ⟨(s.heap.push { cls:=.type "range",data:=.fields #[.int lo t,.int hi u,.int 1 v] }).objs.size,[(s.heap.push { cls:=.type "range",data:=.fields #[.int lo t,.int hi u,.int 1 v] }).objs.size],_,_,H,rfl,
  r.kept (t':=tk) fun b o e=>Dt _ e,qH _ lo (hi-lo).toNat,?_,fun b S=>?_,q⟩
 .have l:lo+((0:Nat):Int)*1=lo:=by simp
  have T:(((hi-lo).toNat:Nat):Int)-((0:Nat):Int)=Builtin.Range.rangeSize lo hi 1:=by rw [rangeSize_one];split <;> lia
  show IsRangeIter _ _ (lo+((0:Nat):Int)*1) ((((hi-lo).toNat:Nat):Int)-((0:Nat):Int)) 1;rw [l,T];exact DQ _ rfl
 have e:b=(s.heap.push { cls:=.type "range",data:=.fields #[.int lo t,.int hi u,.int 1 v] }).objs.size:=by simpa using S
 subst e;exact r.fpOk (Dj _) (r.hok.fresh (Dj _))
def BO (ta:TA):TI:=fun Z H R=>ta Z H fun vs H1=>∃ j:Int,vs=[.int j]/\-(2 ^ 62)<=j/\j<2 ^ 62/\R (Itr 0 j.toNat) H1
def FW (J:It)(g:TG)(tb:TS)(D:gO)(Z:St)(H0:Hp):Prop:=∃ W:Nat->Nat->St->Hp->Prop,(∃ m,W 0 m Z H0)/\∀i m Z H,W i m Z H ->
 (J.stop i H/\D.nx Z H)∨(J.go i H/\∃ N:St->Hp->Prop,(∀σ' H',N σ' H'->∃ m',m'<m/\W (i+1) m' σ' H')/\∀x H',J.yld i H x H'->g x Z H' fun σ2 H2=>tb { D with nx:=N,ct:=N,bk:=D.nx } σ2 H2)
def CF (wi:TI)(g:TG)(tb:TS):TS:=fun D Z H=>wi Z H fun J H1=>FW J g tb D Z H1
def jy (fp:List Addr)(h:Heap):List (Addr×Obj):=fp.filterMap fun b=>(h.get? b).map fun o=>(b,o)
theorem dM {o:Obj}(t:b∈fp)(e:h.get? b=some o):(b,o)∈jy fp h:=Em.mpr ⟨b,t,by rw [e];rfl⟩
theorem uv {p:Addr×Obj}(l:p∈jy fp h):p.1∈fp/\h.get? p.1=some p.2:=by
 obtain ⟨b,r,e⟩:=Em.mp l;cases q:h.get? b with
 | none=>rw [q] at e;cases e
 | some o =>
  rw [q] at e;have t:(b,o)=p:=DJ e;subst t;exact ⟨r,q⟩
theorem Inv.pinned {Z:St}{H:Hp}(I:Inv X pins Z H s)(T:∀b∈fp,om X pins H b)(O:∀b∈fp,∃ o,s.heap.get? b=some o/\∀v,o.data≠.cell v):Inv X (pins++jy fp s.heap) Z H s :=
 I.pins_of fun p S=>(Du.mp S).elim (fun z=>I.pin p (DE _ z)) fun z=>by obtain ⟨r,e⟩:=uv z;obtain ⟨c,y,l,_⟩:=T p.1 r;obtain ⟨o,t,d⟩:=O p.1 r;rw [e] at t;cases t;exact ⟨e,c,y,l,d⟩
theorem Inv.unpinned {pl:List (Addr×Obj)}{Z:St}{H:Hp}(I:Inv X (pins++pl) Z H s):Inv X pins Z H s:=I.pins_of fun p t=>I.pin p (DE _ (DT _ t))
end
theorem nJ {xs:List V}{g:TG}{r:TS}{D:gO}{Z:St}{H:Hp}(t:Nat->St->Hp->Prop)(R:t 0 Z H)(S:∀i Z H,i<=xs.length->t i Z H->SqL K H a xs)(I:∀i x Z H,xs[i]?=some x->t i Z H->g x Z H fun T l=>r { D with nx:=t (i+1),ct:=t (i+1),bk:=D.nx } T l)(hd:∀Z H,t xs.length Z H->D.nx Z H):
  FW (Itl K a) g r D Z H:=by
 refine ⟨fun i m Z H=>m=xs.length-i/\i<=xs.length/\t i Z H,⟨xs.length,Dd,D6 _,R⟩,?_⟩;rintro i m Z H ⟨rfl,hi,p⟩;have q:=S i Z H hi p;by_cases o:i<xs.length
 .refine .inr ⟨⟨xs,xs[i],q,by simp [o]⟩,t (i+1),fun U O c=>⟨xs.length-(i+1),Dc,rfl,o,c⟩,fun x O y=>?_⟩;obtain ⟨e,y⟩:=y;subst e;exact I i x Z _ (y xs q) p
 have e:i=xs.length:=by lia
 subst e;exact .inl ⟨⟨xs,q,Dj _⟩,hd Z H p⟩
theorem gI {xs:List V}{g:TG}{r:TS}{D:gO}{Z:St}{H:Hp}(t:Nat->St->Hp->Prop)(R:t 0 Z H)(S:∀i Z H,i<=xs.length->t i Z H->SqT K H a xs)(I:∀i x Z H,xs[i]?=some x->t i Z H->g x Z H fun T l=>r { D with nx:=t (i+1),ct:=t (i+1),bk:=D.nx } T l)(hd:∀Z H,t xs.length Z H->D.nx Z H):
  FW (Itt K a) g r D Z H:=by
 refine ⟨fun i m Z H=>m=xs.length-i/\i<=xs.length/\t i Z H,⟨xs.length,Dd,D6 _,R⟩,?_⟩;rintro i m Z H ⟨rfl,hi,p⟩;have q:=S i Z H hi p;by_cases o:i<xs.length
 .refine .inr ⟨⟨xs,xs[i],q,by simp [o]⟩,t (i+1),fun U O c=>⟨xs.length-(i+1),Dc,rfl,o,c⟩,fun x O y=>?_⟩;obtain ⟨e,y⟩:=y;subst e;exact I i x Z _ (y xs q) p
 have e:i=xs.length:=by lia
 subst e;exact .inl ⟨⟨xs,q,Dj _⟩,hd Z H p⟩
theorem cR {lo:Int}{g:TG}{r:TS}{D:gO}{Z:St}{H:Hp}(t:Nat->St->Hp->Prop)(S:t 0 Z H)(I:∀i Z H,i<n->t i Z H->g (.int (lo+i)) Z H fun T l=>r { D with nx:=t (i+1),ct:=t (i+1),bk:=D.nx } T l)(hd:∀Z H,t n Z H->D.nx Z H):
  FW (Itr lo n) g r D Z H:=by
 refine ⟨fun i m Z H=>m=n-i/\i<=n/\t i Z H,⟨n,Dd,D6 _,S⟩,?_⟩;rintro i m Z H ⟨rfl,hi,p⟩;by_cases o:i<n
 .refine .inr ⟨o,t (i+1),fun R O c=>⟨n-(i+1),Dc,rfl,o,c⟩,fun x O y=>?_⟩;obtain ⟨e,y⟩:=y;subst e y;exact I i Z _ o p
 have e:i=n:=by lia
 subst e;exact .inl ⟨Dj _,hd Z H p⟩
abbrev R2:=V->V->Hp->VK->Prop
def OpR (X:Cx)(f:Value->Value->Sem Value)(r:R2):Prop :=
 ∀(pins:List (Addr×Obj)) (s:Shared) (Z:St) (H:Hp) (x y:V) (v u:Value) (Q:VK),Inv X pins Z H s->RelV x v->RelV y u->r x y H Q ->
  wpAny (model X.prog X.w) X.A (f v u) (EP X pins Z Q) X.xe s
def UnR (X:Cx)(f:Value->Sem Value)(r:V->Hp->VK->Prop):Prop :=
 ∀(pins:List (Addr×Obj)) (s:Shared) (Z:St) (H:Hp) (x:V) (v:Value) (Q:VK),Inv X pins Z H s->RelV x v->r x H Q ->
  wpAny (model X.prog X.w) X.A (f v) (EP X pins Z Q) X.xe s
def cv (X:Cx)(f:Value)(r:List V->Hp->VK->Prop):Prop :=
 ∀(pins:List (Addr×Obj)) (s:Shared) (Z:St) (H:Hp) (xs:List V) (us:List Value) (Q:VK),Inv X pins Z H s->Vals xs us->r xs H Q ->
  wpAny (model X.prog X.w) X.A (call f us) (EP X pins Z Q) X.xe s
def tOp (r:R2)(ta tb:TE):TE:=fun Z H Q=>ta Z H fun x H1=>tb Z H1 fun y H2=>r x y H2 Q
def tUn (r:V->Hp->VK->Prop)(ta:TE):TE:=fun Z H Q=>ta Z H fun x H1=>r x H1 Q
def rI (C:Int->Int->Prop)(g:Int->Int->V):R2:=fun x y H Q=>onI x fun i=>onI y fun j=>C i j/\Q (g i j) H
def rI0 (g:Int->Int->V):R2:=fun x y H Q=>onI x fun i=>onI y fun j=>Q (g i j) H
def rU (g:Int->V):V->Hp->VK->Prop:=fun x H Q=>onI x fun i=>Q (g i) H
section
variable {X:Cx}{a b c:Expr}{ta tb tc:TE}{pos:Pos}
theorem AF (F:PE X a ta)(J:PE X b tb){Z:St}{H:Hp}{R:V->V->Hp->Prop}(I:Inv X pins Z H s)(h:ta Z H fun x r=>tb Z r fun y t=>R x y t){f:Value->Value->Sem Value}(Y:∀v u o x y t,Inv X pins Z t o->RelV x v->RelV y u->R x y t->wpAny (model X.prog X.w) X.A (f v u) Q X.xe o):
  wpAny (model X.prog X.w) X.A (eval a X.env) (fun v S=>wpAny (model X.prog X.w) X.A (eval b X.env) (fun u U=>wpAny (model X.prog X.w) X.A (f v u) Q X.xe U) X.xe S) X.xe s:=by
 refine thn (F pins s Z H _ I h) fun v M l=>?_;obtain ⟨x,r,I1,P,W⟩:=l;refine thn (J pins M Z r _ I1 W) fun u o l=>?_;obtain ⟨y,t,T,G,O⟩:=l;exact Y v u o x y t T P G O
theorem opI {f:Value->Value->Sem Value}{C:Int->Int->Prop}{g:Int->Int->Int}(o:∀(i j:Int) (t u:Tok) (s:Shared) (Q:Value->Shared->Prop) (E:Value->Shared->Prop),C i j->Q (.int (g i j) s.toks) { s with toks:=s.toks+1 }->wpAny (model X.prog X.w) X.A (f (.int i t) (.int j u)) Q E s):
  OpR X f (rI C fun i j=>.int (g i j)):=by
 intro pins s Z H x y v u Q I l O h;obtain ⟨i,rfl,z⟩:=dN h;obtain ⟨j,rfl,r,q⟩:=dN z;obtain ⟨t,rfl⟩:=l;obtain ⟨T,rfl⟩:=O;exact o i j t T s _ _ r ⟨.int (g i j),H,I.tok _,⟨_,rfl⟩,q⟩
theorem BW {f:Value->Value->Sem Value}{g:Int->Int->Int}(o:∀(i j:Int) (t u:Tok) (s:Shared) (Q:Value->Shared->Prop) (E:Value->Shared->Prop),Q (.int (g i j) s.toks) { s with toks:=s.toks+1 }->wpAny (model X.prog X.w) X.A (f (.int i t) (.int j u)) Q E s):
  OpR X f (rI0 fun i j=>.int (g i j)):=by
 intro pins s Z H x y v u Q I r T h;obtain ⟨i,rfl,z⟩:=dN h;obtain ⟨j,rfl,q⟩:=dN z;obtain ⟨t,rfl⟩:=r;obtain ⟨l,rfl⟩:=T;exact o i j t l s _ _ ⟨.int (g i j),H,I.tok _,⟨_,rfl⟩,q⟩
theorem zi {f:Value->Value->Sem Value}{g:Int->Int->Bool}(o:∀(i j:Int) (t u:Tok) (s:Shared) (Q:Value->Shared->Prop) (E:Value->Shared->Prop),Q (.bool (g i j)) s->wpAny (model X.prog X.w) X.A (f (.int i t) (.int j u)) Q E s):
  OpR X f (rI0 fun i j=>.bl (g i j)):=by
 intro pins s Z H x y v u Q I r T h;obtain ⟨i,rfl,z⟩:=dN h;obtain ⟨j,rfl,q⟩:=dN z;obtain ⟨t,rfl⟩:=r;obtain ⟨l,rfl⟩:=T;exact o i j t l s _ _ ⟨.bl (g i j),H,I,rfl,q⟩
def CU (i j:Int):Prop:=0<=j/\j<=1000000/\i.natAbs<2 ^ 64
def CMul (i j:Int):Prop:=(-(2 ^ 64)<i/\i<2 ^ 64)∨(-(2 ^ 64)<j/\j<2 ^ 64)
theorem CMul.ok {i j:Int}(h:CMul i j):IntMulOk i j:=by
 rcases h with ⟨o,t⟩ | ⟨o,t⟩
 .exact .of_left (intBits_le_64 o t)
 exact .of_right (intBits_le_64 o t)
theorem aN:OpR X (binaryOp .Add) (rI0 fun i j=>.int (i+j)):=BW fun _ _ _ _ _ _ _ q=>add_int q
theorem cb:OpR X (binaryOp .Sub) (rI0 fun i j=>.int (i-j)):=BW fun _ _ _ _ _ _ _ q=>sub_int q
theorem bU:OpR X (binaryOp .Mult) (rI CMul fun i j=>.int (i*j)):=opI fun _ _ _ _ _ _ _ t q=>mul_int q t.ok
theorem bb:OpR X (binaryOp .Mod) (rI (fun _ j=>0<j) fun i j=>.int (i % j)):=opI fun i j _ _ _ _ _ t q=>by have o:(0:Int)<j:=t;exact mod_int' Dc (by rw [Int.fmod_eq_emod_of_nonneg i Dc];exact q)
theorem lK:OpR X (binaryOp .Pow) (rI CU fun i j=>.int (i ^ j.toNat)):=opI fun _ _ _ _ _ _ _ t q=>pow_int_small t.1 t.2.1 t.2.2 q
theorem unI {f:Value->Sem Value}{g:Int->Int}(o:∀(i:Int) (t:Tok) (s:Shared) (Q:Value->Shared->Prop) (E:Value->Shared->Prop),Q (.int (g i) s.toks) { s with toks:=s.toks+1 }->wpAny (model X.prog X.w) X.A (f (.int i t)) Q E s):
  UnR X f (rU fun i=>.int (g i)):=by
 intro pins s Z H x v Q I r h;obtain ⟨i,rfl,q⟩:=dN h;obtain ⟨t,rfl⟩:=r;exact o i t s _ _ ⟨.int (g i),H,I.tok _,⟨_,rfl⟩,q⟩
theorem hG:UnR X (unaryOp .USub) (rU fun i=>.int (-i)):=unI fun _ _ _ _ _ q=>neg_int q
end
def B5:V->V->Bool
 | .non,.non=>true | .non,.int _=>true | .int _,.non=>true | .non,.bl _=>true | .bl _,.non=>true | .non,.str _=>true | .str _,.non=>true
 | .int _,.int _=>true | .bl _,.bl _=>true | .str _,.str _=>true | .byt _,.byt _=>true
 | .int _,.str _=>true | .str _,.int _=>true | .bl _,.str _=>true | .str _,.bl _=>true
 | _,_=>false
def rEq:R2:=fun x y H Q=>B5 x y=true/\Q (.bl (decide (x=y))) H
def rNe:R2:=fun x y H Q=>B5 x y=true/\Q (.bl (!decide (x=y))) H
theorem rK {i j:Int}:decide (V.int i=V.int j)=(i == j):=by rw [EL];simp
theorem we {i j:Bool}:decide (V.bl i=V.bl j)=(i == j):=by rw [EL];simp
theorem rE {i j:Str}:decide (V.str i=V.str j)=(i == j):=by rw [EL];simp
theorem rn {i j:Array UInt8}:decide (V.byt i=V.byt j)=(i.toList == j.toList):=by rw [EL];cases i;cases j;simp
section
variable {X:Cx}{a b c:Expr}{ta tb tc:TE}{pos:Pos}
theorem a9 {Z:St}{H:Hp}{Q:VK}{k t:Bool}(I:Inv X pins Z H s)(q:Q (.bl k) H)(e:k=t):EP X pins Z Q (.bool t) s:=by subst e;exact ⟨.bl k,H,I,rfl,q⟩
theorem bA:OpR X (compareOp .Eq) rEq:=by
 intro pins s Z H x y v u Q I T o h;obtain ⟨l,q⟩:=h;cases x with
 | non =>
  cases T;cases y with
  | non=>cases o;exact PySem.EqNone.eq_none_none (a9 I q Dd)
  | bl j=>cases o;exact PySem.EqNone.eq_none_bool (a9 I q Dd)
  | int j=>obtain ⟨r,rfl⟩:=o;exact PySem.EqNone.eq_none_int (a9 I q Dd)
  | str j=>obtain ⟨r,rfl⟩:=o;exact PySem.EqNone.eq_none_str (a9 I q Dd)
  | _=>exact absurd (show false=true from l) Dy
 | bl i =>
  cases T;cases y with
  | non=>cases o;exact PySem.EqNone.eq_bool_none (a9 I q Dd)
  | bl j=>cases o;exact eq_bool (a9 I q we)
  | str j=>obtain ⟨r,rfl⟩:=o;exact PySem.EqMixed.eq_bool_str (a9 I q Dd)
  | _=>exact absurd (show false=true from l) Dy
 | int i =>
  obtain ⟨t,rfl⟩:=T;cases y with
  | non=>cases o;exact PySem.EqNone.eq_int_none (a9 I q Dd)
  | int j=>obtain ⟨r,rfl⟩:=o;exact eq_int (a9 I q rK)
  | str j=>obtain ⟨r,rfl⟩:=o;exact PySem.EqMixed.eq_int_str (a9 I q Dd)
  | _=>exact absurd (show false=true from l) Dy
 | str i =>
  obtain ⟨t,rfl⟩:=T;cases y with
  | non=>cases o;exact PySem.EqNone.eq_str_none (a9 I q Dd)
  | bl j=>cases o;exact PySem.EqMixed.eq_str_bool (a9 I q Dd)
  | int j=>obtain ⟨r,rfl⟩:=o;exact PySem.EqMixed.eq_str_int (a9 I q Dd)
  | str j=>obtain ⟨r,rfl⟩:=o;exact eq_str (a9 I q rE)
  | _=>exact absurd (show false=true from l) Dy
 | byt i =>
  obtain ⟨t,rfl⟩:=T;cases y with
  | byt j=>obtain ⟨r,rfl⟩:=o;exact W.eq_bytes (a9 I q rn)
  | _=>exact absurd (show false=true from l) Dy
 | _=>cases y <;> exact absurd (show false=true from l) Dy
theorem B7:OpR X (compareOp .NotEq) rNe:=by
 intro pins s Z H x y v u Q I T o h;obtain ⟨l,q⟩:=h;cases x with
 | non =>
  cases T;cases y with
  | non=>cases o;exact PySem.EqNone.ne_none_none (a9 I q Dd)
  | bl j=>cases o;exact PySem.EqNone.ne_none_bool (a9 I q Dd)
  | int j=>obtain ⟨r,rfl⟩:=o;exact PySem.EqNone.ne_none_int (a9 I q Dd)
  | str j=>obtain ⟨r,rfl⟩:=o;exact PySem.EqNone.ne_none_str (a9 I q Dd)
  | _=>exact absurd (show false=true from l) Dy
 | bl i =>
  cases T;cases y with
  | non=>cases o;exact PySem.EqNone.ne_bool_none (a9 I q Dd)
  | bl j=>cases o;exact ne_bool (a9 I q (congrArg not we))
  | str j=>obtain ⟨r,rfl⟩:=o;exact PySem.EqMixed.ne_bool_str (a9 I q Dd)
  | _=>exact absurd (show false=true from l) Dy
 | int i =>
  obtain ⟨t,rfl⟩:=T;cases y with
  | non=>cases o;exact PySem.EqNone.ne_int_none (a9 I q Dd)
  | int j=>obtain ⟨r,rfl⟩:=o;exact ne_int (a9 I q (congrArg not rK))
  | str j=>obtain ⟨r,rfl⟩:=o;exact PySem.EqMixed.ne_int_str (a9 I q Dd)
  | _=>exact absurd (show false=true from l) Dy
 | str i =>
  obtain ⟨t,rfl⟩:=T;cases y with
  | non=>cases o;exact PySem.EqNone.ne_str_none (a9 I q Dd)
  | bl j=>cases o;exact PySem.EqMixed.ne_str_bool (a9 I q Dd)
  | int j=>obtain ⟨r,rfl⟩:=o;exact PySem.EqMixed.ne_str_int (a9 I q Dd)
  | str j=>obtain ⟨r,rfl⟩:=o;exact ne_str (a9 I q (congrArg not rE))
  | _=>exact absurd (show false=true from l) Dy
 | byt i =>
  obtain ⟨t,rfl⟩:=T;cases y with
  | byt j=>obtain ⟨r,rfl⟩:=o;exact W.ne_bytes (a9 I q (congrArg not rn))
  | _=>exact absurd (show false=true from l) Dy
 | _=>cases y <;> exact absurd (show false=true from l) Dy
theorem dI:OpR X (compareOp .Lt) (rI0 fun i j=>.bl (decide (i<j))):=zi fun _ _ _ _ _ _ _ q=>lt_int q
theorem vW:OpR X (compareOp .LtE) (rI0 fun i j=>.bl (decide (i<=j))):=zi fun _ _ _ _ _ _ _ q=>le_int q
theorem im:OpR X (compareOp .Gt) (rI0 fun i j=>.bl (decide (j<i))):=zi fun _ _ _ _ _ _ _ q=>gt_int q
theorem BI:OpR X (compareOp .GtE) (rI0 fun i j=>.bl (decide (j<=i))):=zi fun _ _ _ _ _ _ _ q=>ge_int q
theorem qW:OpR X (compareOp .Is) (fun x y H Q=>y=.non/\Q (.bl (decide (x=.non))) H):=by
 intro pins s Z H x y v u Q I o r h;obtain ⟨rfl,q⟩:=h;cases r;refine is_none_gen (a9 I q ?_);cases x <;> first
  | (cases o;rfl)
  | (obtain ⟨t,rfl⟩:=o;rfl)
theorem yz:OpR X (compareOp .IsNot) (fun x y H Q=>y=.non/\Q (.bl (!decide (x=.non))) H):=by
 intro pins s Z H x y v u Q I o r h;obtain ⟨rfl,q⟩:=h;cases r;refine isnot_none_gen (a9 I q ?_);cases x <;> first
  | (cases o;rfl)
  | (obtain ⟨t,rfl⟩:=o;rfl)
theorem aG (b:Expr){op:CmpOp}(h:autoParam (op≠.In) aab)(t:autoParam (op≠.NotIn) aab):behindInMarks op b=false:=by
 have r:(op == CmpOp.In)=false:=by cases op <;> first | rfl | exact absurd rfl h
 have o:(op == CmpOp.NotIn)=false:=by cases op <;> first | rfl | exact absurd rfl t
 cases b <;> simp [behindInMarks,r,o]
def Cn (t:TE):TT:=fun Z H Q=>t Z H fun x H'=>∃ k,x=.bl k/\Q k H'
def A0 (r r':R2)(ta tb tc:TE):TE:=fun Z H Q=>ta Z H fun x H1=>tb Z H1 fun y H2=>r x y H2 fun z H3=>∃ k,z=.bl k /\
 (if k=true then tc Z H3 fun w' H4=>r' y w' H4 Q else Q (.bl false) H3)
theorem hW:(sizeLine:Nat)<2 ^ 63:=by rw [IQ];decide
theorem dR:OpR X (binaryOp .Add) (fun x y H Q=>∃ i j,x=.str i/\y=.str j/\i.length+j.length<=sizeLine/\Q (.str (i++j)) H):=by intro pins s Z H x y v u Q I r T h;obtain ⟨i,j,rfl,rfl,o,q⟩:=h;obtain ⟨t,rfl⟩:=r;obtain ⟨l,rfl⟩:=T;exact add_str (fun l tk=>⟨.str (i++j),H,I.tok _,⟨_,rfl⟩,q⟩) o
theorem fQ {x:V}(r:Vals [x] us):∃ u,us=[u]/\RelV x u:=by
 cases r with
 | cons r1 r2=>cases r2;exact ⟨_,rfl,r1⟩
theorem xz {x y:V}(r:Vals [x,y] us):∃ u w',us=[u,w']/\RelV x u/\RelV y w':=by
 cases r with
 | cons r1 r2 =>
  cases r2 with
  | cons r3 r4=>cases r4;exact ⟨_,_,rfl,r1,r3⟩
theorem ve (l:X.calm=true):cv X (.builtin "max") (fun xs H Q=>∃ i j,xs=[.int i,.int j]/\Q (.int (if j>i then j else i)) H):=by
 intro pins s Z H xs us Q I r h;obtain ⟨i,j,rfl,q⟩:=h;obtain ⟨u,y,rfl,⟨t,rfl⟩,⟨T,rfl⟩⟩:=xz r;refine max_two_ints (I.ok.hd l) fun h' tk k=>⟨_,H,I.kept k,?_,q⟩;by_cases o:j>i
 .rw [Dm o,Dm o];exact ⟨_,rfl⟩
 rw [Di o,Di o];exact ⟨_,rfl⟩
theorem vg (l:X.calm=true):cv X (.builtin "min") (fun xs H Q=>∃ i j,xs=[.int i,.int j]/\Q (.int (if j<i then j else i)) H):=by
 intro pins s Z H xs us Q I r h;obtain ⟨i,j,rfl,q⟩:=h;obtain ⟨u,y,rfl,⟨t,rfl⟩,⟨T,rfl⟩⟩:=xz r;refine min_two_ints (I.ok.hd l) fun h' tk k=>⟨_,H,I.kept k,?_,q⟩;by_cases o:j<i
 .rw [Dm o,Dm o];exact ⟨_,rfl⟩
 rw [Di o,Di o];exact ⟨_,rfl⟩
theorem ko:cv X (.type "int") (fun xs H Q=>(∃ i,xs=[.int i]/\Q (.int i) H)∨∃ k,xs=[.bl k]/\Q (.int (if k then 1 else 0)) H):=by
 intro pins s Z H xs us Q I r h;rcases h with ⟨i,rfl,q⟩ | ⟨k,rfl,q⟩
 .obtain ⟨u,rfl,t,rfl⟩:=fQ r;exact call_int_int ⟨.int i,H,I,⟨_,rfl⟩,q⟩
 obtain ⟨u,rfl,o⟩:=fQ r;cases o;exact call_int_bool ⟨.int (if k then 1 else 0),H,I.tok _,⟨_,rfl⟩,q⟩
end
structure ObjM (h:Heap)(x dx C:Addr)(mA:Str->Option Value):Prop where
 obj:h.get? x=some (W.instObj C dx)
 ns:h.Ns1 dx mA
 ne:dx≠x
theorem uN {l:Addr}(n:h.Ns1 l mA):∃ c,h.get? l=some c/\∀name,W.lookIn name c=some (mA name):=by
 obtain ⟨o,T,ep,S,hd,hk,_,H⟩:=n;refine ⟨o,S,fun name=>?_⟩;have e:=H name;unfold nsFind findBy at e;rw [<-Array.find?_toList] at e;unfold W.lookIn;rw [hd];dsimp only;split
 .rename_i y q;rw [q] at e;exact congrArg some e
 rename_i q;rw [q] at e;have a:T.toList.any (·.refKey)=false:=by rw [List.any_eq_false];intro y I;obtain ⟨z,t,r⟩:=hk y (Array.mem_toList_iff.mp I);simp [DictEntry.refKey,r]
 have O:¬ T.toList.any (·.refKey)=true:=by rw [a];exact Dy
 rw [Di O];exact congrArg some e
theorem ObjM.look {x o:Addr}(I:ObjM h x o C mA):∃ t,W.InstAt h x (W.instObj C o) C (some t)/\∀name,W.lookIn name t=some (mA name) :=
 let ⟨t,ho,hl⟩:=uN I.ns
 ⟨t,⟨I.obj,rfl,rfl,ho⟩,hl⟩
section
variable {prog:Program}{w:World}{A:Around}{E:Value->Shared->Prop}{s:Shared}{K:W.Frag}{x dx C f:Addr}{mA:Str->Option Value}{name:Str}{v:Value}
theorem zm {t:Bool}(X:K.In s.heap)(I:ObjM s.heap x dx C mA)(y:W.plainGet K C name=true)(r:W.hasDictIn K C=true)(c:W.findIn K (.ref C) name=some none)(l:mA name=some v)(o:W.handedIn v=true)(h:Q v { s with toks:=s.toks+1 }):
  wpAny (model prog w) A (getAttr (.ref x) name t) Q E s:=by
 obtain ⟨O,J,T⟩:=I.look;exact W.get_value X J (W.plainGet_of y).1 (W.findObj_own r c rfl (by rw [T,l])) o h
theorem wE {Q:Value×List Value->Shared->Prop}(X:K.In s.heap)(I:ObjM s.heap x dx C mA)(t:W.plainGet K C name=true)(o:W.findIn K (.ref C) name=some (some (.ref f)))(c:W.isFn K (.ref f)=true)(l:mA name=none)(h:Q (.ref f,[.ref x]) s):
  wpAny (model prog w) A (getMethod (.ref x) name pl) Q E s:=by
 obtain ⟨r,J,y⟩:=I.look;exact W.method_fn X J (W.plainGet_of t).1 (W.plainGet_of t).2 o (Gy.mp c) (by show (W.lookIn name r).map (·.isSome)=some false;rw [y,l];rfl) h
theorem yR {Q:Unit->Shared->Prop}(X:K.In s.heap)(I:ObjM s.heap x dx C mA)(P:W.findIn K (.ref C) "__setattr__"=some (some (.builtin "object.__setattr__")))(Y:W.plainOver K C=true)(U:W.takerIn K C name=some none)(H:W.hasDictIn K C=true)(R:PySem.Within mA ns)(hsz:ns.length<=sizeLine)(h:∀h',ObjM h' x dx C (fun y=>if y=name then some v else mA y)->Heap.SameBut dx s.heap h'->Q () { s with heap:=h',toks:=s.toks+2 }):
  wpAny (model prog w) A (setAttr (.ref x) name v) Q E s:=by
 obtain ⟨od,J,hl⟩:=I.look;refine W.set_plain X J P (W.osa_open (s:={ s with toks:=s.toks+1 }) (r:=none) X J Y U fun b=>?_);obtain ⟨cd,M,l⟩:=W.any_some H;have S:s.heap.get? x=some ⟨.ref C,some dx,.plain,#[]⟩:=I.obj;refine Dh (Dx (Dh (Dh (wpAny_loadPart S (Dh (W.Looks.here (s:={ s with toks:=s.toks+1 }) (W.looks_clsIn X M) ?_))))));rw [l];refine Dx (a:=some dx) (Dh (Dx (Dh ?_)));refine wpAny_nsSet1 (s:={ s with toks:=s.toks+1 }) I.ns fun h' t o=>?_;obtain ⟨Z,F,G,T,c,O⟩:=t.count (PySem.Within.cons name v R);refine Dh (wpAny_lookBehind T (by rw [c];exact pastItsLine_dict (Dq O (by rw [Dw];lia))) ?_);exact Dx (h _ ⟨(o.2 _ (Fc I.ne)).trans I.obj,t,I.ne⟩ o)
theorem wI {R:Result->Shared->Prop}(X:K.In s.heap)(l:W.makesIn K C=true)(hi:W.findIn K (.ref C) "__init__"=some (some (.ref f)))(r:W.typeIn K (.ref f)=some (.type "function"))(h:codeAny (model prog w) (A.under (.builtin "type.__call__" ⟨.ref C::vs,kw⟩)) (.call (.ref f) ⟨.ref (s.heap.objs.size+1)::vs,kw⟩) (W.InitBack (s.heap.objs.size+1) R)
   { s with heap:=(s.heap.push W.emptyDict).push (W.instObj C s.heap.objs.size) }):
  codeAny (model prog w) A (.call (.ref C) ⟨vs,kw⟩) R s:=by
 obtain ⟨c,g,d,t,y⟩:=s;exact W.make_core (W.makes_of X l) (W.looks_findIn X hi) (fun o=>W.bind_fn X o r) (.inl rfl) h
end
def bN (f:Str)(v:V):List (Str×V)->List (Str×V)
 | []=>[(f,v)]
 | (g,x)::r=>if g=f then (g,v)::r else (g,x)::bN f v r
theorem eT (f g:Str)(v:V):∀fs:List (Str×V),(bN f v fs).lookup g=if g=f then some v else fs.lookup g
 | []=>by
  show List.lookup g [(f,v)]=_;by_cases h:g=f
  .have t:(g == f)=true:=Gy.mpr h;simp only [List.lookup,t,Dm h]
  .have t:(g == f)=false:=E8.mpr h;simp only [List.lookup,t,Di h]
 | (k,x)::r=>by
  have o:=eT f g v r;rw [show bN f v ((k,x)::r)=(if k=f then (k,v)::r else (k,x)::bN f v r) from rfl];by_cases hk:k=f
  .rw [Dm hk];by_cases h:g=k
   .have t:(g == k)=true:=Gy.mpr h;simp only [List.lookup,t,Dm (h.trans hk)]
   .have t:(g == k)=false:=E8.mpr h;simp only [List.lookup,t,Di (fun e:g=f=>h (e.trans hk.symm))]
  .rw [Di hk];by_cases h:g=k
   .have t:(g == k)=true:=Gy.mpr h;simp only [List.lookup,t,Di (fun e:g=f=>hk (h.symm.trans e))]
   .have t:(g == k)=false:=E8.mpr h;simp only [List.lookup,t];exact o
theorem ie (f:Str)(v:V):∀fs:List (Str×V),f∈(bN f v fs).map (·.1)/\∀g,g∈fs.map (·.1)->g∈(bN f v fs).map (·.1)
 | []=>⟨by simp [bN],fun g h=>by simp at h⟩
 | (k,x)::r=>by
  obtain ⟨o,t⟩:=ie f v r;rw [show bN f v ((k,x)::r)=(if k=f then (k,v)::r else (k,x)::bN f v r) from rfl];by_cases hk:k=f
  .rw [Dm hk];subst hk;exact ⟨Dd,fun g h=>by simpa using h⟩
  .rw [Di hk];refine ⟨?_,fun g h=>?_⟩
   .rw [DH];exact Dr _ o
   .rw [DH] at h ⊢;rcases ax.mp h with e | e
    .exact List.mem_cons.mpr (.inl e)
    .exact Dr _ (t g e)
theorem ij (f:Str)(v:V):∀fs:List (Str×V),(bN f v fs).length<=fs.length+1
 | []=>by simp [bN]
 | (k,x)::r=>by
  have t:=ij f v r;rw [show bN f v ((k,x)::r)=(if k=f then (k,v)::r else (k,x)::bN f v r) from rfl];by_cases hk:k=f
  .rw [Dm hk,Dw,Dw];lia
  .rw [Di hk,Dw,Dw];lia
theorem RelO.some_of {v:V}{o:Option Value}(r:RelO (some v) o):∃ u,o=some u/\RelV v u:=by
 cases o with
 | none=>exact (show False from r).elim
 | some u=>exact ⟨u,rfl,r⟩
theorem RelO.none_of {o:Option Value}(r:RelO none o):o=none:=by
 cases o with
 | none=>rfl
 | some u=>exact (show False from r).elim
theorem uX {v:V}(r:RelV v u):W.handedIn u=true:=by
 cases v with
 | non=>cases (show u=Value.none from r);rfl
 | bl b=>cases (show u=Value.bool b from r);rfl
 | int i=>obtain ⟨t,e⟩:=(show ∃ t,u=Value.int i t from r);cases e;rfl
 | str x=>obtain ⟨t,e⟩:=(show ∃ t,u=Value.str x t from r);cases e;rfl
 | byt b=>obtain ⟨t,e⟩:=(show ∃ t,u=Value.bytes b t from r);cases e;rfl
 | flt b=>obtain ⟨t,e⟩:=(show ∃ t,u=Value.float b t from r);cases e;rfl
 | ref a=>cases (show u=Value.ref a from r);rfl
 | ty n=>cases (show u=Value.type n from r);rfl
section
variable {P:Program}{w:World}{H H':Hp}{h h':Heap}{a C dx:Addr}{fs fs':List (Str×V)}
theorem eV (t:HOk P w H h)(e:H a=some (.ins C dx fs)):∃ mA,ObjM h a dx C mA/\(∀f,RelO (fs.lookup f) (mA f))/\PySem.Within mA (fs.map (·.1))/\fs.length<=1000/\H dx=some (.own a):=by obtain ⟨d,z,o,l,mA,n,r,q⟩:=(show ObjOk P w H h a (.ins C dx fs) from t a _ e);exact ⟨mA,⟨l,n,o⟩,r,q,z,d⟩
end
structure Cls (K:W.Frag)(C:Addr):Prop where
 pg:W.plainGet K C Str.empty=true
 hd:W.hasDictIn K C=true
 po:W.plainOver K C=true
 sa:W.findIn K (.ref C) "__setattr__"=some (some (.builtin "object.__setattr__"))
theorem Cls.get (c:Cls K C)(f:Str):W.plainGet K C f=true:=c.pg
def NoAttr (K:W.Frag)(C:Addr)(f:Str):Prop:=W.findIn K (.ref C) f=some none
theorem NoAttr.taker {f:Str}(n:NoAttr K C f):W.takerIn K C f=some none:=by unfold W.takerIn;rw [show W.findIn K (.ref C) f=some none from n];rfl
structure bp (K:W.Frag)(C:Addr)(m:Str)(f:Addr):Prop where
 at_:W.findIn K (.ref C) m=some (some (.ref f))
 fn:W.isFn K (.ref f)=true
 kp:W.keepIn K (.ref f)=true
section
variable {X:Cx}{pins:List (Addr×Obj)}{Z:St}{H:Hp}{s:Shared}{a C dx:Addr}{fs:List (Str×V)}{f:Str}{v:V}{A:Around}{E:Value->Shared->Prop}
theorem pS {b:Bool}(I:Inv X pins Z H s)(e:H a=some (.ins C dx fs))(c:Cls X.K C)(n:NoAttr X.K C f)(l:fs.lookup f=some v)(h:∀u s',Inv X pins Z H s'->RelV v u->Q u s'):wpAny (model X.prog X.w) A (getAttr (.ref a) f b) Q E s:=by obtain ⟨mA,O,r,_,_,_⟩:=eV I.hok e;obtain ⟨u,y,t⟩:=RelO.some_of (v:=v) (o:=mA f) (by rw [<-l];exact r f);exact zm I.kIn O (c.get f) c.hd n y (uX t) (h u _ (I.tok _) t)
theorem fT {m:Str}{g:Addr}{Q:Value×List Value->Shared->Prop}(I:Inv X pins Z H s)(e:H a=some (.ins C dx fs))(c:Cls X.K C)(k:bp X.K C m g)(l:fs.lookup m=none)(h:Q (.ref g,[.ref a]) s):wpAny (model X.prog X.w) A (getMethod (.ref a) m pl) Q E s:=by obtain ⟨mA,O,r,_,_,_⟩:=eV I.hok e;have t:mA m=none:=RelO.none_of (by rw [<-l];exact r m);exact wE I.kIn O (c.get m) k.at_ k.fn t h
theorem p5 {y:V}{Q:Unit->Shared->Prop}(I:Inv X pins Z H s)(e:H a=some (.ins C dx fs))(c:Cls X.K C)(n:NoAttr X.K C f)(F:fs.length<1000)(W:RelV y u)(h:∀s',Inv X pins Z (upd H a (.ins C dx (bN f y fs))) s'->Q () s'):wpAny (model X.prog X.w) A (setAttr (.ref a) f u) Q E s:=by
 obtain ⟨mA,O,r,l,_,T⟩:=eV I.hok e;have S:(fs.map (·.1)).length<=sizeLine:=by rw [Dg,IQ];lia
 refine yR I.kIn O c.sa c.po n.taker c.hd l S fun h' t U=>h _ ?_;have hd:∃ o,h'.get? dx=some o:=let ⟨o,_,_,e',_⟩:=t.ns;⟨o,e'⟩;refine I.write (x:=a) (e:=dx) (by rw [e];exact True.intro) (.inr T) (fun b q M z=>(U.2 b M).trans z) hd ?_;refine ⟨by rw [af O.ne];exact T,?_,O.ne,t.obj,_,t.ns,fun g=>?_,fun g R=>?_⟩
 .have:=ij f y fs;lia
 .show RelO ((bN f y fs).lookup g) (if g=f then some u else mA g);rw [eT];by_cases q:g=f
  .rw [Dm q,Dm q];exact W
  .rw [Di q,Di q];exact r g
 by_cases q:g=f
 .rw [q];exact (ie f y fs).1
 refine (ie f y fs).2 g (l g fun z=>R ?_);show (if g=f then some u else mA g)=none;rw [Di q];exact z
theorem Inv.made (I:Inv X pins Z H s):Inv X pins Z (upd (upd H s.heap.objs.size (.own (s.heap.objs.size+1))) (s.heap.objs.size+1) (.ins C s.heap.objs.size []))
  { s with heap:=(s.heap.push W.emptyDict).push (W.instObj C s.heap.objs.size) }:=by
 have t:(s.heap.push W.emptyDict).get? s.heap.objs.size=some W.emptyDict:=DQ s.heap rfl;have l:((s.heap.push W.emptyDict).push (W.instObj C s.heap.objs.size)).get? (s.heap.objs.size+1)=some (W.instObj C s.heap.objs.size):=by
  have:=DQ (s.heap.push W.emptyDict) (o:=W.instObj C s.heap.objs.size) rfl
  rwa [IM] at this
 have T:(s.heap.push W.emptyDict).Ns s.heap.objs.size (fun _=>none):=⟨W.emptyDict,#[],_,t,rfl,(fun e S=>absurd S Dd),fun _=>rfl⟩;have O:=I.laid (a:=s.heap.objs.size) (o:=.own (s.heap.objs.size+1)) (h':=s.heap.push W.emptyDict) (t':=s.toks) (fun b u q=>Dt _ q) (Dj _) ⟨_,t⟩;refine O.laid (a:=s.heap.objs.size+1) (o:=.ins C s.heap.objs.size []) (t':=s.toks) (fun b u q=>Dt _ q) (G9 (IM _ _)) ?_;have r:s.heap.objs.size≠s.heap.objs.size+1:=DZ (EG _);refine ⟨by rw [af r,ad],D6 _,r,l,fun _=>none,(Heap.Ns1.of_empty T).at fun o q=>Dt _ q,fun _=>True.intro,fun y c=>absurd rfl c⟩
theorem zC {e:Expr}{f:Str}(r:attributeBase e f env (eval e env)=eval e env)(h:wpAny (model prog w) A (eval e env) (fun o t=>wpAny (model prog w) A (getAttr o f true) Q E t) E s):wpAny (model prog w) A (eval (.Attribute e f pos) env) Q E s :=
 Attribute_any_ h (by rw [arm_eval_Attribute,r])
end
def B9 (K:W.Frag)(ta:TE)(f:Str):TE:=fun Z H Q=>ta Z H fun x H1=>∃ a C dx fs v,x=.ref a/\H1 a=some (.ins C dx fs)/\Cls K C/\NoAttr K C f/\fs.lookup f=some v/\Q v H1
def Cq (K:W.Frag)(ta tv:TE)(f:Str):TS:=fun D Z H=>tv Z H fun y H1=>ta Z H1 fun x H2=>∃ a C dx fs,x=.ref a/\H2 a=some (.ins C dx fs)/\Cls K C/\NoAttr K C f/\fs.length<1000 /\
 D.nx Z (upd H2 a (.ins C dx (bN f y fs)))
section
variable {X:Cx}{pins:List (Addr×Obj)}{Z:St}{H:Hp}{s:Shared}{A:Around}{E:Value->Shared->Prop}{Q:Value->Shared->Prop}{c:Value}{b:Bool}
inductive gk (K:W.Frag)(H:Hp):V->Value->Prop where
 | non:gk K H .non (.type "NoneType")
 | bl (x:Bool):gk K H (.bl x) (.type "bool")
 | int (i:Int):gk K H (.int i) (.type "int")
 | str (x:Str):gk K H (.str x) (.type "str")
 | flt (x:UInt64):gk K H (.flt x) (.type "float")
 | lst {a:Addr} {xs:List V} (e:H a=some (.lst xs)):gk K H (.ref a) (.type "list")
 | frz {a:Addr} {o:Obj} {xs:List V} (e:H a=some (.frz o (.lst xs))):gk K H (.ref a) (.type "list")
 | tup {a:Addr} {xs:List V} (e:H a=some (.tup xs)):gk K H (.ref a) (.type "tuple")
 | dK {a:Addr} {kvs:List (Key×V)} (e:H a=some (.dK kvs)):gk K H (.ref a) (.type "dict")
 | dT {a:Addr} {kvs:List (List Key×V)} (e:H a=some (.dT kvs)):gk K H (.ref a) (.type "dict")
 | ins {a C dx:Addr} {fs:List (Str×V)} (e:H a=some (.ins C dx fs)) (cl:Cls K C) (ha:W.findIn K (.ref C) "__class__"=some (some (.builtin "object.__class__")))
   (hn:W.specialIn K (.builtin "object.__class__") "__get__"=some (some (.builtin "getset_descriptor.__get__"))) (htk:W.takesIn K (.builtin "object.__class__")=some true)
   (hm:W.mroIn K C (.type "object")=some true):gk K H (.ref a) (.ref C)
theorem uZ {x:V}{t:Value}(I:Inv X pins Z H s)(r:RelV x u)(ty:gk X.K H x t)(e:W.kitOne X.K t c=some b)(h:∀tk,Q (.bool b) { s with toks:=tk }):
  wpAny (model X.prog X.w) A (call (.builtin "isinstance") [u,c]) Q E s:=by
 cases ty with
 | non=>cases (show u=Value.none from r);exact FZ W.kitx_none I.kIn True.intro e (fun z=>nomatch z) h
 | bl y=>cases (show u=Value.bool y from r);exact FZ W.kitx_bool I.kIn True.intro e (fun z=>nomatch z) h
 | int i=>obtain ⟨t,q⟩:=(show ∃ t,u=Value.int i t from r);cases q;exact FZ W.kitx_int I.kIn True.intro e (fun z=>nomatch z) h
 | str y=>obtain ⟨t,q⟩:=(show ∃ t,u=Value.str y t from r);cases q;exact FZ W.kitx_str I.kIn True.intro e (fun z=>nomatch z) h
 | flt y=>obtain ⟨t,q⟩:=(show ∃ t,u=Value.float y t from r);cases q;exact FZ W.kitx_float I.kIn True.intro e (fun z=>nomatch z) h
 | @lst a T ea =>
  cases (show u=Value.ref a from r);obtain ⟨_,_,n,_,l⟩:=(show ObjOk X.prog X.w H s.heap a (.lst T) from I.hok a _ ea);exact FZ W.kitx_list I.kIn ⟨_,l,rfl⟩ e (fun z=>nomatch z) h
 | @frz a ob T ea =>
  cases (show u=Value.ref a from r);obtain ⟨_,_,_,n,_,l⟩:=(show ObjOk X.prog X.w H s.heap a (.frz ob (.lst T)) from I.hok a _ ea);exact FZ W.kitx_list I.kIn ⟨_,l,rfl⟩ e (fun z=>nomatch z) h
 | @tup a T ea =>
  cases (show u=Value.ref a from r);obtain ⟨_,_,_,p⟩:=(show ObjOk X.prog X.w H s.heap a (.tup T) from I.hok a _ ea);obtain ⟨o,l,S,_⟩:=p;exact FZ W.kitx_tuple I.kIn ⟨o,l,S⟩ e (fun z=>nomatch z) h
 | @dK a kvs ea =>
  cases (show u=Value.ref a from r);obtain ⟨_,_,vs,_,p⟩:=(show ObjOk X.prog X.w H s.heap a (.dK kvs) from I.hok a _ ea);obtain ⟨o,R,ep,l,S,_⟩:=p;exact FZ W.kitx_dict I.kIn ⟨o,l,S.1⟩ e (fun z=>nomatch z) h
 | @dT a kvs ea =>
  cases (show u=Value.ref a from r);obtain ⟨_,_,T,_,o,R,ep,l,S,_⟩:=(show ObjOk X.prog X.w H s.heap a (.dT kvs) from I.hok a _ ea);exact FZ W.kitx_dict I.kIn ⟨o,l,S.1⟩ e (fun z=>nomatch z) h
 | @ins a C dx fs ea cl ha hn htk hm =>
  cases (show u=Value.ref a from r);obtain ⟨mA,O,_⟩:=eV I.hok ea;obtain ⟨U,J,_⟩:=O.look;exact FZ (W.kitx_own (cl.get _) cl.hd ha hn htk hm) I.kIn J e (fun z=>nomatch z) h
end
structure Room (k:Nat)(A:Around):Prop where
 hd:A.handled=none
 dp:A.depth+3*k+5<recursionLimit
 un:A.units+16*k+200<cLine
theorem Room.mono {j k:Nat}(r:Room k A)(h:j<=k):Room j A:=⟨r.hd,by have:=r.dp;lia,by have:=r.un;lia⟩
theorem Room.deeper {k:Nat}(r:Room (k+1) A)(env:Env):Room k (A.deeper env) :=
 ⟨r.hd,by have:=r.dp;show A.depth+1+3*k+5<_;lia,by have:=r.un;show A.units+3+16*k+200<_;lia⟩
theorem rf:(A.under (.builtin "type.__call__" ⟨.ref C::us,kw⟩)).depth=A.depth+1:=by
 first | rfl | simp [Around.under,Code.weight,Code.isCreation,Code.isGuard,Code.isCaller,Code.frames,Code.isFrame,guardIds]
theorem qY:(A.under (.builtin "type.__call__" ⟨.ref C::us,kw⟩)).units=A.units+1:=by
 first | rfl | simp [Around.under,Code.cUnits,Code.frames,Code.isFrame]
theorem Room.make {k:Nat}(r:Room (k+1) A)(C:Addr)(us:List Value)(kw:List (Str×Value)):Room k (A.under (.builtin "type.__call__" ⟨.ref C::us,kw⟩)) :=
 ⟨r.hd,by have:=r.dp;rw [rf];lia,by have:=r.un;rw [qY];lia⟩
theorem Room.depth {k:Nat}(r:Room k A):A.depth<recursionLimit:=by have:=r.dp;lia
theorem Room.units {k:Nat}(r:Room k A):A.units+64<cLine:=by have:=r.un;lia
theorem Room.units0 {k:Nat}(r:Room k A):A.units<cLine:=by have:=r.un;lia
def p8:TA:=fun _ H Q=>Q [] H
def zJ (ta:TE)(tr:TA):TA:=fun Z H Q=>ta Z H fun x H1=>tr Z H1 fun xs H2=>Q (x::xs) H2
section
variable {X:Cx}{e:Expr}{es:List Expr}{te:TE}{t:TA}{pos:Pos}
theorem wZ:PA X [] p8:=fun _ _ _ _ H Q I h=>FQ ⟨[],H,I,.nil,h⟩
theorem rq (S:PE X e te)(y:PA X es t)(M:autoParam (starEach (e::es) X.env=(false,eval e X.env)::starEach es X.env) aad):PA X (e::es) (zJ te t):=by intro pos pins s Z H Q I h;rw [M];show wpAny _ _ (spliced ((false,eval e X.env)::backTo pos (starEach es X.env))) _ _ s;refine E1 (thn (S pins s Z H _ I h) fun u T F=>?_);obtain ⟨x,o,G,U,O⟩:=F;exact thn (y pos pins T Z o _ G O) fun us Y ⟨W,l,r,R,c⟩=>⟨x::W,l,r,.cons U R,c⟩
def CI (t:TA):TE:=fun Z H Q=>t Z H fun xs H1=>xs.length<=sizeLine/\∀p,H1 p=none->Q (.ref p) (upd H1 p (.tup xs))
def CH (t:TA):TE:=fun Z H Q=>t Z H fun xs H1=>xs.length<=sizeLine/\∀p,H1 p=none->Q (.ref p) (upd H1 p (.lst xs))
end
abbrev Sp:=List V->Hp->VK->XK->Prop
abbrev CXT:=List Env->Hp->Shared->XK->Value->Shared->Prop
structure Env0 (P:Program)(w:World)(K:W.Frag)(mg:Str->Option Value)(base:Heap)(A:Around)(outer:List Env)(s:Shared)(H:Hp):Prop where
 frames:A.frames=some outer
 mod:Mod K mg base
 bs:∀b o,base.get? b=some o->s.heap.get? b=some o/\H b=none
 bsz:base.objs.size<=s.heap.objs.size
 funs:s.heap.FunFrames base outer
 frf:∀b∈frs outer,H b=none
 hok:HOk P w H s.heap
 bare:AllBare s.gens
def CE (outer:List Env)(P:Program)(w:World)(H:Hp)(s:Shared)(Q:VK)(u:Value)(s':Shared):Prop :=
 ∃ v H',s'.os=s.os/\AllBare s'.gens/\Un (frs outer) [] H H' s.heap s'.heap/\HOk P w H' s'.heap/\RelV v u/\Q v H'
def CR (CX:CXT)(outer:List Env)(P:Program)(w:World)(H:Hp)(s:Shared)(Q:VK)(E:XK)(r:Result)(s':Shared):Prop :=
 match r with
 | .ok (.ret u)=>CE outer P w H s Q u s'
 | .ok _=>False
 | .error e=>CX outer H s E e s'
structure au (P:Program)(w:World)(K:W.Frag)(mg:Str->Option Value)(base:Heap)(CX:CXT)(k:Nat)(f:Addr)(fd:FuncData)(ps:List Str)(sp:Sp):Prop where
 len:∀vs H Q E,sp vs H Q E->vs.length=ps.length
 run:∀(A:Around) (outer:List Env) (s:Shared) (H:Hp) (args:Args) (us:List Value) (vs:List V) (Q:VK) (E:XK),Room k A->Env0 P w K mg base A outer s H->BindsTo s fd args (ps.zip us)->Vals vs us->sp vs H Q E ->
  codeAny (model P w) A (.call (.ref f) args) (CR CX outer P w H s Q E) s
theorem Env0.make {P:Program}{H:Hp}(e:Env0 P w K mg base A outer s H)(C:Addr)(us:List Value)(kw:List (Str×Value)):
  Env0 P w K mg base (A.under (.builtin "type.__call__" ⟨.ref C::us,kw⟩)) outer s H:=⟨by first | exact e.frames | (simpa [Around.under,Code.envs,Code.isFrame,pushEnvs] using e.frames),e.mod,e.bs,e.bsz,e.funs,e.frf,e.hok,e.bare⟩
section
variable {X:Cx}{pins:List (Addr×Obj)}{Z:St}{H:Hp}{s s':Shared}
theorem Inv.env0 (I:Inv X pins Z H s):Env0 X.prog X.w X.K X.mg X.base X.A X.stack s H :=
 ⟨I.ok.frames,I.ok.mod,I.bs,Dq I.ok.bsz I.sz,I.stack,I.stkFree,I.hok,I.bare⟩
theorem Inv.after {Q:VK}(I:Inv X pins Z H s)(h:CE X.stack X.prog X.w H s Q u s'):EP X pins Z Q u s':=by obtain ⟨v,O,T,o,un,c,r,q⟩:=h;obtain ⟨y,g,d,t,l⟩:=s';obtain rfl:l=s.os:=T;exact ⟨v,O,I.call (h':=y) (g':=g) (d':=d) (t':=t) (ch:=[]) un c o (fun b z=>absurd z Dd),r,q⟩
end
def yh (sp:Sp)(dvs:List V)(E:XK)(t:TA):TE:=fun Z H Q=>t Z H fun vs H1=>sp (vs++dvs) H1 Q E
def zV (C:Addr)(m:Str)(sp:Sp)(dvs:List V)(E:XK)(ta:TE)(t:TA):TE:=fun Z H Q=>ta Z H fun x H1=>∃ a dx fs,x=.ref a/\H1 a=some (.ins C dx fs)/\fs.lookup m=none /\
 t Z H1 fun vs H2=>sp (x::(vs++dvs)) H2 Q E
def z8 (C:Addr)(sp:Sp)(dvs:List V)(E:XK)(t:TA):TE:=fun Z H Q=>t Z H fun vs H1=>∀x dx,H1 x=none->H1 dx=none->dx≠x ->
 sp (.ref x::(vs++dvs)) (upd (upd H1 dx (.own x)) x (.ins C dx [])) (fun v H2=>v=.non/\Q (.ref x) H2) E
def Binds (K:W.Frag)(fd:FuncData)(ps:List Str)(ds:List Value):Prop :=
 ∀(s:Shared) (us:List Value),K.In s.heap->(us++ds).length=ps.length->BindsTo s fd ⟨us,[]⟩ (ps.zip (us++ds))
theorem Binds.all (h:∀us:List Value,us.length=ps.length->bindArgs fd ⟨us,[]⟩=pure (ps.zip us)):Binds K fd ps []:=fun s us _ t=>by rw [Ez] at t ⊢;exact .of_eq (h us t)
def cM (CX:CXT)(X:Cx)(E:XK):Prop:=∀(pins:List (Addr×Obj)) (Z:St) (H:Hp) (s:Shared) (e:Value) (s':Shared),Inv X pins Z H s->CX X.stack H s E e s'->X.xe e s'
section
variable {X:Cx}{CX:CXT}{k:Nat}{f C:Addr}{fd:FuncData}{ps:List Str}{sp:Sp}{dvs:List V}{ds:List Value}{E:XK}{x m:Str}{p pos apos:Pos}{e o:Expr}{es:List Expr}{ta:TE}{t:TA}
theorem mT {Z:St}{H:Hp}{Q:VK}{vs:List V}(F:au X.prog X.w X.K X.mg X.base CX k f fd ps sp)(T:Room k X.A)(S:Binds X.K fd ps ds)(hd:Vals dvs ds)(y:cM CX X E)(I:Inv X pins Z H s)(r:Vals vs us)(h:sp (vs++dvs) H Q E):wpAny (model X.prog X.w) X.A (call (.ref f) us) (EP X pins Z Q) X.xe s:=by
 have c:Vals (vs++dvs) (us++ds):=r.append hd;have R:(us++ds).length=ps.length:=by rw [<-c.length];exact F.len _ _ _ _ h
 refine wpAny_call (Ha (F.run X.A X.stack s H ⟨us,[]⟩ (us++ds) (vs++dvs) Q E T I.env0 (S s us I.kIn R) c h) fun r O l=>?_);cases r with
 | error e=>exact y pins Z H s e O I l
 | ok fl =>
  cases fl with
  | ret u=>exact I.after l
  | next=>exact False.elim l
  | brk=>exact False.elim l
  | cont=>exact False.elim l
structure Mk (K:W.Frag)(C f:Addr):Prop where
 makes:W.makesIn K C=true
 init:W.findIn K (.ref C) "__init__"=some (some (.ref f))
 fn:W.isFn K (.ref f)=true
 kp:W.keepIn K (.ref C)=true
theorem nC {Z:St}{H:Hp}{Q:VK}{vs:List V}(M:Mk X.K C f)(F:au X.prog X.w X.K X.mg X.base CX k f fd ps sp)(W:Room (k+1) X.A)(hb:Binds X.K fd ps ds)(hd:Vals dvs ds)(U:cM CX X E)(I:Inv X pins Z H s)(r:Vals vs us)(h:∀x y,H x=none->H y=none->y≠x->sp (.ref x::(vs++dvs)) (upd (upd H y (.own x)) x (.ins C y [])) (fun v R=>v=.non/\Q (.ref x) R) E):
  wpAny (model X.prog X.w) X.A (call (.ref C) us) (EP X pins Z Q) X.xe s:=by
 have T:=h (s.heap.objs.size+1) s.heap.objs.size (I.hok.fresh (ET _)) (I.hok.fresh (Dj _)) (DZ (EG _));have c:=Inv.made (C:=C) I;have O:Vals (V.ref (s.heap.objs.size+1)::(vs++dvs)) (Value.ref (s.heap.objs.size+1)::(us++ds)):=.cons rfl (r.append hd);have hl:(Value.ref (s.heap.objs.size+1)::us++ds).length=ps.length:=by have e:=O.length;rw [F.len _ _ _ _ T] at e;exact e.symm
 refine wpAny_call (wI (f:=f) I.kIn M.makes M.init (Gy.mp M.fn) (Ha (F.run _ X.stack _ _ ⟨Value.ref (s.heap.objs.size+1)::us,[]⟩ (Value.ref (s.heap.objs.size+1)::(us++ds)) _ _ E (W.make C us [])
  (c.env0.make C us []) (hb _ (Value.ref (s.heap.objs.size+1)::us) c.kIn hl) O T) fun r J l=>?_))
 cases r with
 | error e=>exact U pins Z _ _ e J c l
 | ok fl =>
  cases fl with
  | ret u =>
   obtain ⟨v,G,P,S,ev,Y⟩:=c.after l;subst ev;exact ⟨S,⟨V.ref (s.heap.objs.size+1),G,P,rfl,Y⟩⟩
  | next=>exact False.elim l
  | brk=>exact False.elim l
  | cont=>exact False.elim l
end
structure av (N P:List Str)(sc:Scope):Prop where
 kind:sc.kind=.function
 co:sc.isCoroutine=false
 gen:sc.isGenerator=false
 nd:N.Nodup
 pre:N.take P.length=P
 par:∀x∈P,sc.names.lookup x=some .local∨sc.names.lookup x=some .cell
 nofree:∀y∈sc.names,y.2≠.free
theorem fs0 {P:List Str}{t:Scope}(a:autoParam (t.kind=.function) aad)(b:autoParam (t.isCoroutine=false) aad)(c:autoParam (t.isGenerator=false) aad)(d:autoParam (N.Nodup) aaa)(e:autoParam (N.take P.length=P) aad)(f:autoParam (∀x∈P,t.names.lookup x=some .local∨t.names.lookup x=some .cell) aaa)(g:autoParam (∀y∈t.names,y.2≠.free) aaa):av N P t:=⟨a,b,c,d,e,f,g⟩
theorem jU {t:Str->Option NameKind}{x:Str}:∀{binds:List (Str×Value)} {m:Str->Option Value},(∀v,(x,v)∉binds)->bindL t binds m x=m x
 | [],_,_=>rfl
 | (n,v)::r,m,h=>by
  unfold bindL;rw [jU fun w o=>h w (Dr _ o)];split
  .have:x≠n:=by rintro rfl;exact h v DO
   simp [this]
  .rfl
theorem kS {t:Str->Option NameKind}{x:Str}:∀{binds:List (Str×Value)} {m:Str->Option Value},(∀v,(x,v)∉binds)->bindC t binds m x=m x
 | [],_,_=>rfl
 | (n,v)::r,m,h=>by
  unfold bindC;rw [kS fun w o=>h w (Dr _ o)];split
  .rfl
  .have:x≠n:=by rintro rfl;exact h v DO
   simp [this]
theorem jV {t:Str->Option NameKind}{x:Str}{v:Value}:∀{P:List Str} {vs:List Value} {i:Nat} {m:Str->Option Value},P.Nodup->P[i]?=some x->vs[i]?=some v->t x=some .local ->
  bindL t (P.zip vs) m x=some v
 | [],_,_,_,_,h,_,_=>by simp at h
 | _::_,[],_,_,_,_,h,_=>by simp at h
 | p::P,w::vs,0,m,nd,h1,h2,hk=>by
  simp at h1 h2;subst h1;subst h2;show bindL t ((p,w)::P.zip vs) m p=_;unfold bindL;rw [jU fun v o=>(Ei.mp nd).1 (Il o).1,Dm hk];simp
 | p::P,w::vs,i+1,m,nd,h1,h2,hk=>by show bindL t ((p,w)::P.zip vs) m x=_;unfold bindL;exact jV (i:=i) (Ei.mp nd).2 (by simpa using h1) (by simpa using h2) hk
theorem kq {t:Str->Option NameKind}{x:Str}{v:Value}:∀{P:List Str} {vs:List Value} {i:Nat} {m:Str->Option Value},P.Nodup->P[i]?=some x->vs[i]?=some v->t x≠some .local ->
  bindC t (P.zip vs) m x=some v
 | [],_,_,_,_,h,_,_=>by simp at h
 | _::_,[],_,_,_,_,h,_=>by simp at h
 | p::P,w::vs,0,m,nd,h1,h2,hk=>by
  simp at h1 h2;subst h1;subst h2;show bindC t ((p,w)::P.zip vs) m p=_;unfold bindC;rw [kS fun v o=>(Ei.mp nd).1 (Il o).1,Di hk];simp
 | p::P,w::vs,i+1,m,nd,h1,h2,hk=>by show bindC t ((p,w)::P.zip vs) m x=_;unfold bindC;exact kq (i:=i) (Ei.mp nd).2 (by simpa using h1) (by simpa using h2) hk
def start (N:List Str)(vs:List V):St:=vs.map some++List.replicate (N.length-vs.length) none
def bM (CX:CXT)(P:Program)(w:World)(K:W.Frag)(mg:Str->Option Value)(base:Heap)(N:List Str)(qual:Str)(scope:Scope)(f:Addr)(cd:Value)(A:Around)(outer:List Env)(s:Shared)(H:Hp)(E:XK):Cx where
 prog:=P
 w:=w
 K:=K
 mg:=mg
 base:=base
 A:=A.deeper (envOfC qual scope s.heap.objs.size f cd)
 N:=N
 s₀:=s
 H₀:=H
 env:=envOfC qual scope s.heap.objs.size f cd
 outer:=outer
 stack:=envOfC qual scope s.heap.objs.size f cd::outer
 ex:=[]
 calm:=true
 fn:=fun _=>true
 pn:=[]
 xe:=fun e s'=>wpAny (model P w) (A.deeper (envOfC qual scope s.heap.objs.size f cd)) (leaving (envOfC qual scope s.heap.objs.size f cd) e) (fun _ s''=>CX outer H s E e s'') (fun e' s''=>CX outer H s E e' s'') s'
theorem bH {t:Scope}(h:t.names.lookup x=some .cell):∃ c,(cellsFrom n t.names []).lookup x=some c:=by have q:=W.cellsFrom_some t.names n [] (.inl h);exact Hk.mp q
theorem uz {CX:CXT}{P:Program}{I:Value}{U:Shared}{H:Hp}{E:XK}{vs:List V}(S:av N ps scope)(hd:A.handled=none)(o:Env0 P w K mg base A outer s H)(J:vs.length=ps.length)(r:Vals vs us)(x:InCallC s s.heap.objs.size (bindL (envOfC qual scope s.heap.objs.size f I).kindOf (ps.zip us) fun _=>none) (cellsFrom (s.heap.objs.size+1) scope.names []) (bindC (envOfC qual scope s.heap.objs.size f I).kindOf (ps.zip us) fun _=>none) U):
  Inv (bM CX P w K mg base N qual scope f I A outer s H E) [] (start N vs) H U:=by
 have F:ps.length<=N.length:=by have:=congrArg List.length S.pre;rw [Es] at this;lia
 obtain ⟨R,tk,rfl,hk⟩:=x.done;have l:∀b:Addr,b∉(bM CX P w K mg base N qual scope f I A outer s H E).ex:=fun b z=>absurd (show b∈([]:List Addr) from z) Dd;refine ⟨⟨o.mod,S.kind,rfl,rfl,Dj _,fun y z c R t=>?_,fun y hy=>?_,fun y c _ h=>?_,fun _=>hd,Around.frames_deeper o.frames,.inr ⟨rfl,rfl⟩,fun b z=>absurd z (l b),o.bs,o.bsz,fun b _ _=>l b,fun b z=>absurd z (l b),o.funs,o.frf⟩,
  rfl,o.bare,Un.kept hk,⟨_,x.toInCall.ns,fun i y v R t Y=>?_⟩,fun y c h=>⟨_,x.cell y c h⟩,o.hok.fresh (Dj _),fun y c h=>?_,fun p O=>absurd (show p∈([]:List (Addr×Obj)) from O) Dd,o.hok.kept hk,?_⟩
 .exact name_of_addr x.apart (Fx R) (Fx t)
 .have hy:scope.names.lookup y=some .cell∨scope.names.lookup y=some .free:=hy;rcases hy with hy | hy
  .exact bH hy
  .exact absurd rfl (S.nofree _ (Fx hy))
 .exact FH (x.above y c (Fx h))
 .have hi:i<vs.length:=by
   unfold start at t;by_cases hi:i<vs.length
   .exact hi
   .rw [ER (by simpa using hi)] at t;rw [List.getElem?_replicate] at t;split at t <;> cases t
  have G:vs[i]?=some v:=by
   unfold start at t;rw [EF (by simpa using hi),DN] at t;cases e:vs[i]? with
   | none=>rw [e] at t;cases t
   | some a=>rw [e] at t;cases t;rfl
  obtain ⟨u,M,W⟩:=r.get G;have O:ps[i]?=some y:=by rw [<-S.pre,List.getElem?_take_of_lt Dc];exact R
  have T:ps.Nodup:=by rw [<-S.pre];exact S.nd.sublist (List.take_sublist _ _)
  refine ⟨u,W,?_⟩;rcases S.par y (DV O) with k | k
  .exact .inl ⟨k,jV T O M k⟩
  .obtain ⟨c,e⟩:=bH (n:=s.heap.objs.size+1) k;refine .inr ⟨.inl k,c,e,?_⟩;have q:=x.cell y c e;rw [kq T O M (by show scope.names.lookup y≠_;rw [k];decide)] at q;exact q
 .exact o.hok.fresh (FH (x.above y c (Fx h)))
 unfold start;show _=N.length;rw [Ds,Dg,Eo];lia
theorem zO {CX:CXT}{P:Program}{k:Nat}{name:Str}{c:Arguments}{dV kV M pm l ct oc:Value}{an od:Option Addr}{sp:Sp}(lk:K.lookup f=some ⟨oc,od,.func (W.fnOf name qual c body scope dV kV M pm an l ct),osl⟩)(Z:W.codeIn K l qual=true)(S:av N ps scope)(len:∀vs H Q E,sp vs H Q E->vs.length=ps.length)(T:∀(A:Around) (outer:List Env) (s:Shared) (H:Hp) (vs:List V) (Q:VK) (E:XK),Room k (A.deeper (envOfC qual scope s.heap.objs.size f l))->sp vs H Q E ->
   ∃ t,PSs (bM CX P w K mg base N qual scope f l A outer s H E) body t/\t { nx:=fun _ H'=>Q .non H',rt:=Q } (start N vs) H):
  au P w K mg base CX (k+1) f (W.fnOf name qual c body scope dV kV M pm an l ct) ps sp:=by
 refine ⟨len,fun A outer s H args us vs Q E hr U hb r F=>?_⟩;have hl:=len _ _ _ _ F;have KX:K.In s.heap:=U.mod.kin.keeps fun b o e=>(U.bs b o e).1;have ee:s.heap.NoLimit:=U.mod.nolimit.keeps fun b o e=>(U.bs b o e).1;have O:∀y∈ps.zip us,scope.names.lookup y.1=some .local∨(scope.names.lookup y.1=some .cell/\((cellsFrom (s.heap.objs.size+1) scope.names []).lookup y.1).isSome=true):=fun ⟨n,v⟩ hy=>by
  rcases S.par n (Il hy).1 with q | q
  .exact .inl q
  .exact .inr ⟨q,W.cellsFrom_some _ _ _ (.inl q)⟩
 refine codeAny_call_function hr.depth (KX _ _ lk) rfl S.co S.gen rfl (W.codeRec_of KX Z) (hb _ _ _ _ ?_);refine wpAny_newFunctionEnv_cells S.kind O fun env he s1 x=>?_;subst he;refine ⟨ee.keeps x.toInCall.keep,codeAny_func ?_⟩;obtain ⟨t,ht,hq⟩:=T A outer s H vs Q E (hr.deeper _) F;have I:Inv (bM CX P w K mg base N qual scope f l A outer s H E) [] (start N vs) H s1:=uz S hr.hd U hl r x;refine Ew (ht [] s1 (start N vs) H _ I hq) (fun fl s' R=>?_) fun e s' R=>R;have G:∀{Y:St} {H':Hp} {v:V} {u:Value},Inv (bM CX P w K mg base N qual scope f l A outer s H E) [] Y H' s'->RelV v u->Q v H'->CE outer P w H s Q u s' :=
  fun {Y H' v u} J X q=>⟨v,H',J.os,J.bare,J.base,J.hok,X,q⟩
 cases fl with
 | ret u =>
  obtain ⟨v,Y,H',J,X,q⟩:=R;exact G J X q
 | next =>
  obtain ⟨Y,H',J,q⟩:=R;exact G (v:=V.non) (u:=Value.none) J rfl q
 | brk =>
  obtain ⟨_,_,_,q⟩:=R;exact False.elim q
 | cont =>
  obtain ⟨_,_,_,q⟩:=R;exact False.elim q
section
variable {X:Cx}{x:Str}{p pos:Pos}{e:Expr}{es:List Expr}{t:TA}{id T:String}{r:List V->Hp->VK->Prop}
def tCB (r:List V->Hp->VK->Prop)(t:TA):TE:=fun Z H Q=>t Z H fun vs H1=>r vs H1 Q
end
end L2
variable {H H':L2.Hp}{xs zs l:List L2.V}{Z:L2.St}{ks kvs js:List (L2.Key×L2.V)}{X:L2.Cx}{te:L2.TE}{tt tA:L2.TT}{r:List L2.V->L2.Hp->L2.VK->Prop}{o:L2.HO}{wi:L2.TI}{t:L2.V->List L2.V}{sp:L2.Sp}{y:L2.V}{trs:List (L2.TE×L2.TE)}{tb:L2.TS}{ta:L2.TA}{r':L2.V->Option Int->Option Int->L2.Hp->L2.VK->Prop}
namespace HT
open PySem PyProof.Rows
section
variable {prog:Program}{w:World}{A:Around}{E:Value->Shared->Prop}{s:Shared}
theorem cat_tup {t:Addr}(ht:IsTup s.heap t vs.toArray)(hb:IsTup s.heap b ws.toArray)(P:vs≠[])(h1:ws=[]->Q (.ref t) s)(h2:ws≠[]->Q (.ref s.heap.objs.size) { s with heap:=s.heap.push { cls:=.type "tuple",data:=.seq (vs++ws).toArray } })(hsz:vs.length+ws.length<=sizeLine):wpAny (model prog w) A (binaryOp .Add (.ref t) (.ref b)) Q E s:=by
 obtain ⟨⟨cls,W,data,F⟩,U,Y,n,hd⟩:=id ht;obtain ⟨⟨J,T,M,S⟩,c,I,G,O⟩:=id hb;simp only at Y hd I O;subst Y hd I O;have e:vs.toArray++ws.toArray=(vs++ws).toArray:=by simp
 by_cases R:ws=[]
 .exact concat_meets ⟨_,U,rfl⟩ ⟨_,c,rfl⟩ HS seq_tuple_add Gs Gi (Ge _ _)
   (tuple_addW1 t b vs.toArray ws.toArray n G W T F S (by simpa using P) (by simp [R])) ⟨U,c,h1 R⟩
 refine concat_meets ⟨_,U,rfl⟩ ⟨_,c,rfl⟩ HS seq_tuple_add Gs Gi (Ge _ _)
  (tuple_addW2 t b vs.toArray ws.toArray n G W T F S (by simpa using P) (by simpa using R) (by rw [DD,DD];exact hsz)) ⟨U,c,?_⟩
 rw [e];exact h2 R
def sIx (n d:Nat):Option Int->Nat
 | none=>d
 | some v=>if v<0 then (v+(n:Int)).toNat else min v.toNat n
theorem sIx_nat (n d k:Nat):sIx n d (some (k:Int))=min k n:=by show (if (k:Int)<0 then ((k:Int)+(n:Int)).toNat else min (k:Int).toNat n)=min k n;rw [Di Dc,Ej]
theorem vp (n d:Nat)(hd:d<=n)(o:Option Int):sIx n d o<=n:=by
 cases o with
 | none=>exact hd
 | some v =>
  show (if v<0 then (v+(n:Int)).toNat else min v.toNat n)<=n;by_cases c:v<0
  .rw [Dm c];lia
  .rw [Di c];exact Nat.min_le_right _ _
theorem tD (v:Int)(n d:Nat):(if v<0 then max (v+(n:Int)) 0 else min v (n:Int))=((sIx n d (some v):Nat):Int):=by
 show (if v<0 then max (v+(n:Int)) 0 else min v (n:Int))=(((if v<0 then (v+(n:Int)).toNat else min v.toNat n):Nat):Int);by_cases c:v<0
 .simp only [Dm c];lia
 simp only [Di c];lia
theorem pJ (lo hi:Option Int)(n:Nat):Builtin.Slice.sliceAdjust lo hi 1 (n:Int)=(((sIx n 0 lo:Nat):Int),((sIx n n hi:Nat):Int)):=by
 have c:¬ ((1:Int)<0):=by lia
 unfold Builtin.Slice.sliceAdjust;simp only [c,FF];refine Prod.ext ?_ ?_
 .cases lo with
  | none=>rfl
  | some v=>exact tD v n 0
 cases hi with
 | none=>rfl
 | some v=>exact tD v n n
theorem qj (i j:Nat):Builtin.Slice.slicePlaces (i:Int) (j:Int) 1=j-i:=by
 unfold Builtin.Slice.slicePlaces;have c:(1:Int)>0:=by lia
 simp only [c,GU,Int.ediv_one];split <;> lia
theorem jk {v:Value}{o:Option Int}{Q:Option Int->Shared->Prop}(p:IsPart v o)(h:Q o s):wpAny (model prog w) A (Builtin.Slice.slicePartIndex v) Q E s:=by
 cases p with
 | none=>exact slicePart_none h
 | int i t=>exact slicePart_int h
theorem dC {sl:Addr}{O I:Value}{lo:Option Int}{Q:Int×Int×Nat->Shared->Prop}(R:s.heap.IsSliceOf sl O I .none)(pl:IsPart O lo)(U:IsPart I hi)(h:Q (((sIx n 0 lo:Nat):Int),1,sIx n n hi-sIx n 0 lo) s):wpAny (model prog w) A (Builtin.Slice.sliceApplied (.ref sl) (pure (n:Int))) Q E s:=by obtain ⟨M,T,S,c⟩:=id R;unfold Builtin.Slice.sliceApplied Builtin.Slice.sliceFields;refine Dh (Dh (Fy T c (x:=O) rfl (Dh (Fy T c (x:=I) rfl (Dh (Fy T c (x:=.none) rfl (Dx ?_)))))));refine Dh (slicePart_none ?_);show wpAny _ _ (if ((1:Int) == 0)=true then _ else _) _ _ s;rw [Di Db];refine Dh (jk pl (Dh (jk U (Dh (Dx ?_)))));show wpAny _ _ (match Builtin.Slice.sliceAdjust lo hi 1 (n:Int) with | (lo,hi)=>pure (lo,(1:Int),Builtin.Slice.slicePlaces lo hi 1)) _ _ s;rw [pJ lo hi n];show wpAny _ _ (pure (((sIx n 0 lo:Nat):Int),(1:Int),Builtin.Slice.slicePlaces ((sIx n 0 lo:Nat):Int) ((sIx n n hi:Nat):Int) 1)) _ _ s;rw [qj];exact Dx h
theorem xx (xs:Array Value)(i k:Nat):((List.range k).filterMap fun (m:Nat)=>xs[((i:Int)+(m:Int)*1).toNat]?).toArray=((xs.toList.drop i).take k).toArray:=by
 have e:(fun (m:Nat)=>xs[((i:Int)+(m:Int)*1).toNat]?)=fun m=>xs[i+m]?:=by
  funext m;have:((i:Int)+(m:Int)*1).toNat=i+m:=by lia
  rw [this]
 rw [e];have:=pick_run xs i k;rw [List.filterMap_map] at this;have c:((fun x=>xs[x]?) ∘ fun x=>i+x)=fun m=>xs[i+m]?:=rfl;rw [c] at this;rw [this]
theorem getItem_tuple_cut {t sl:Addr}{U W:Value}{lo:Option Int}(T:IsTup s.heap t items)(M:s.heap.IsSliceOf sl U W .none)(pl:IsPart U lo)(P:IsPart W hi)(F:¬ (sIx items.size 0 lo=0/\sIx items.size items.size hi=items.size))(h:Q (.ref s.heap.objs.size) { s with heap:=s.heap.push { cls:=.type "tuple",data:=.seq ((items.toList.drop (sIx items.size 0 lo)).take (sIx items.size items.size hi-sIx items.size 0 lo)).toArray } })(hsz:items.size<=sizeLine):wpAny (model prog w) A (getItem (.ref t) (.ref sl)) Q E s:=by
 have c:sizeOk (.seq ((items.toList.drop (sIx items.size 0 lo)).take (sIx items.size items.size hi-sIx items.size 0 lo)).toArray):=by show ((items.toList.drop (sIx items.size 0 lo)).take (sIx items.size items.size hi-sIx items.size 0 lo)).toArray.size<=sizeLine;rw [DD,Es,HR,E9];lia
 have hj:sIx items.size items.size hi<=items.size:=vp _ _ (Dj _) hi;obtain ⟨Y,O,R,G⟩:=id M;have I:s.TypeIs (.ref sl) "slice":=⟨Y,O,R⟩;unfold getItem
 try with_reducible refine E5 ?_
 first | refine Dh (Dx ?_) | skip
 refine Dh (wpAny_sequenceKey T.typeIs Db ?_);refine Dh (wpAny_callSpecial?_slot (name:=Str.ofString "__getitem__") T.typeIs Ek
  (GO Ek T.typeIs entry_tuple_getitem ?_ (args_tuple_getitem _ _)))
 show wpAny _ _ (Builtin.Tuple.tupleItemsOf (.ref t) >>= _) _ _ s;refine Dh (tupleItemsOf_ T ?_);refine Dh (wpAny_typeOf I ?_);rw [Dm Db];refine Dh (dC M pl P ?_);have S:¬ ((((sIx items.size 0 lo:Nat):Int) == 0&&(1:Int) == 1&&(sIx items.size items.size hi-sIx items.size 0 lo) == items.size)=true):=by intro q;rw [DP,DP] at q;have q1:((sIx items.size 0 lo:Nat):Int)=0:=eq_of_beq q.1.1;have J:sIx items.size items.size hi-sIx items.size 0 lo=items.size:=eq_of_beq q.2;exact F ⟨Dc,Dc⟩
 show wpAny _ _ (if (((sIx items.size 0 lo:Nat):Int) == 0&&(1:Int) == 1&&(sIx items.size items.size hi-sIx items.size 0 lo) == items.size)=true then _ else _) _ _ s;rw [Di S,xx]
 first
  | exact Dh (m:=Builtin.Tuple.tupleExact _) (EU (Dx ⟨_,rfl,Dx h⟩) c)
  | exact Dh (m:=Builtin.Tuple.tupleExact _) (EU (Dh (Dx (Dx ⟨_,rfl,Dx h⟩))) c)
  | exact Dh (Dh (m:=Builtin.Tuple.tupleExact _) (EU (Dx (Dx ⟨_,rfl,Dx h⟩)) c))
  | exact Dh (Dh (m:=Builtin.Tuple.tupleExact _) (EU (Dx ⟨_,rfl,Dx h⟩) c))
end
end HT
namespace L2
open PySem PySem.Spec PyProof.Rows
abbrev TO:=St->Hp->(Option Int->Hp->Prop)->Prop
def PO (X:Cx)(e:Option Expr)(t:TO):Prop :=
 ∀(pins:List (Addr×Obj)) (s:Shared) (Z:St) (H:Hp) (Q:Option Int->Hp->Prop),Inv X pins Z H s->t Z H Q ->
  wpAny (model X.prog X.w) X.A (evalPart e X.env) (fun u s'=>∃ o H',Inv X pins Z H' s'/\IsPart u o/\Q o H') X.xe s
def yw:TO:=fun _ H Q=>Q none H
def B4 (t:TE):TO:=fun Z H Q=>t Z H fun x H1=>∃ i,x=.int i/\Q (some i) H1
section
variable {X:Cx}{e:Expr}{te:TE}{lo hi:Option Expr}{tl th:TO}{pos p2:Pos}
def SlR (X:Cx)(r:V->Option Int->Option Int->Hp->VK->Prop):Prop :=
 ∀(pins:List (Addr×Obj)) (s:Shared) (Z:St) (H:Hp) (x:V) (v vl vu:Value) (lo hi:Option Int) (sl:Addr) (Q:VK),Inv X pins Z H s->RelV x v->s.heap.IsSliceOf sl vl vu .none->IsPart vl lo->IsPart vu hi->r x lo hi H Q ->
  ∃ T id,typeLookup (.type T) "__getitem__"=pure (some (.builtin id))/\s.TypeIs v T/\wpAny (model X.prog X.w) X.A (getItem v (.ref sl)) (EP X pins Z Q) X.xe s
theorem SlR.or {r:V->Option Int->Option Int->Hp->VK->Prop}(h:SlR X r)(h':SlR X r'):SlR X (fun x lo hi H Q=>r x lo hi H Q∨r' x lo hi H Q):=by
 intro pins s Z H x v T U lo hi c Q I O S pl R q;rcases q with q | q
 .exact h pins s Z H x v T U lo hi c Q I O S pl R q
 exact h' pins s Z H x v T U lo hi c Q I O S pl R q
def tSl (r:V->Option Int->Option Int->Hp->VK->Prop)(te:TE)(tl th:TO):TE:=fun Z H Q=>te Z H fun x H1=>tl Z H1 fun l H2=>th Z H2 fun u H3=>r x l u H3 Q
def eK (xs:List V)(lo hi:Option Int):List V:=(xs.drop (HT.sIx xs.length 0 lo)).take (HT.sIx xs.length xs.length hi-HT.sIx xs.length 0 lo)
theorem ig (xs:List V)(lo hi:Option Int):(eK xs lo hi).length<=xs.length:=by unfold eK;rw [Es,HR];lia
def A8 (K:W.Frag):V->Option Int->Option Int->Hp->VK->Prop:=fun x lo hi H Q=>∃ a xs,x=.ref a/\SqT K H a xs /\
 ¬ (HT.sIx xs.length 0 lo=0/\HT.sIx xs.length xs.length hi=xs.length)/\∀p,H p=none->Q (.ref p) (upd H p (.tup (eK xs lo hi)))
theorem sl_tup:SlR X (A8 X.K):=by
 intro pins s Z H x v G Y lo hi F Q I U M pl W h;obtain ⟨a,xs,rfl,S,R,q⟩:=h;cases U;obtain ⟨its,r,T,O⟩:=I.tuple S;have c:its.toArray.size=xs.length:=by rw [DD];exact r.length.symm
 refine ⟨"tuple",_,Ek.lookup,T.typeIs,?_⟩;refine HT.getItem_tuple_cut T M pl W (by rw [c];exact R) ?_ (by rw [c];exact O);rw [c];refine ⟨.ref s.heap.objs.size,_,I.laid (t':=s.toks) (o:=.tup (eK xs lo hi)) (fun b P q=>Dt _ q) (Dj _) ?_,rfl,q _ (I.hok.fresh (Dj _))⟩;exact ⟨Dq (ig xs lo hi) O,_,(r.drop (HT.sIx xs.length 0 lo)).take (HT.sIx xs.length xs.length hi-HT.sIx xs.length 0 lo),IsTup.new _ _⟩
def B8 (K:W.Frag):R2:=fun x y H Q=>∃ a b xs ys,x=.ref a/\y=.ref b/\SqT K H a xs/\SqT K H b ys/\xs≠[]/\xs.length+ys.length<=sizeLine /\
 (ys=[]->Q (.ref a) H)/\(ys≠[]->∀p,H p=none->Q (.ref p) (upd H p (.tup (xs++ys))))
theorem Vals.nil_iff (r:Vals xs us):us=[]↔xs=[]:=by
 cases r with
 | nil=>simp
 | cons _ _=>simp
theorem zv:OpR X (binaryOp .Add) (B8 X.K):=by intro pins s Z H x y v u Q I M W h;obtain ⟨a,b,xs,ys,rfl,rfl,Y,P,F,O,U,R⟩:=h;cases M;cases W;obtain ⟨its,T,G,_⟩:=I.tuple Y;obtain ⟨S,c,p2,_⟩:=I.tuple P;refine HT.cat_tup G p2 (fun z=>F (T.nil_iff.mp z)) (fun z=>⟨.ref a,H,I,rfl,U (c.nil_iff.mp z)⟩) (fun z=>?_) (by rw [<-T.length,<-c.length];exact O);refine ⟨.ref s.heap.objs.size,_,I.laid (t':=s.toks) (o:=.tup (xs++ys)) (fun b J q=>Dt _ q) (Dj _) ?_,rfl,R (fun w=>z (c.nil_iff.mpr w)) _ (I.hok.fresh (Dj _))⟩;exact ⟨by rw [Ds];exact O,_,T.append c,IsTup.new _ _⟩
end
def ixN (n:Nat)(i:Int):Option Nat:=if 0<=i then (if i<n then some i.toNat else none) else if -(n:Int)<=i then some (i+n).toNat else none
def atI {α:Type}(xs:List α)(i:Int):Option α:=(ixN xs.length i).bind fun j=>xs[j]?
theorem tM {i:Int}{j:Nat}(h:ixN n i=some j):seqIndex? i n=some j/\j<n/\-(n:Int)<=i/\i<n:=by
 unfold ixN at h;by_cases T:0<=i
 .rw [Dm T] at h;by_cases c:i<n
  .rw [Dm c] at h;have e:i.toNat=j:=DJ h;exact ⟨by rw [seqIndex_of T c,e],Dc,Dc,c⟩
  .rw [Di c] at h;cases h
 rw [Di T] at h;by_cases c:-(n:Int)<=i
 .rw [Dm c] at h;have e:(i+n).toNat=j:=DJ h;exact ⟨by rw [seqIndex_neg Dc c,e],Dc,c,Dc⟩
 rw [Di c] at h;cases h
theorem l0 {α:Type}{xs:List α}{i:Int}{v:α}(h:atI xs i=some v):∃ j,seqIndex? i xs.length=some j/\xs[j]?=some v/\j<xs.length/\-(xs.length:Int)<=i/\i<xs.length:=by
 unfold atI at h;cases e:ixN xs.length i with
 | none=>rw [e] at h;cases h
 | some j =>
  rw [e] at h;obtain ⟨I,c,O,T⟩:=tM e;exact ⟨j,I,h,c,O,T⟩
theorem aW {α:Type}{xs:List α}{j:Nat}{v:α}(h:xs[j]?=some v):atI xs (j:Int)=some v:=by
 have c:j<xs.length:=(Dz.mp h).1;have e:ixN xs.length (j:Int)=some j:=by unfold ixN;rw [Dm Dc,Dm Dc];simp
 unfold atI;rw [e];exact h
def zE (b:Expr):Prop:=∀o i,subscripted b false o i=operate [o,i] (getItem o i)
def IxR (X:Cx)(r:R2):Prop :=
 ∀(value slice:Expr) (pins:List (Addr×Obj)) (s:Shared) (Z:St) (H:Hp) (x y:V) (v u:Value) (Q:VK),Inv X pins Z H s->RelV x v->RelV y u->r x y H Q ->
  subscripted slice false v u=operate [v,u] (getItem v u)->wpAny (model X.prog X.w) X.A (subscriptTail value slice v u) (EP X pins Z Q) X.xe s
def MtR (X:Cx)(id:String)(r:V->List V->Hp->VK->Prop):Prop :=
 ∀(pins:List (Addr×Obj)) (s:Shared) (Z:St) (H:Hp) (x:V) (xs:List V) (v:Value) (us:List Value) (Q:VK),Inv X pins Z H s->RelV x v->Vals xs us->r x xs H Q ->
  wpAny (model X.prog X.w) X.A (call (.builtin id) (v::us)) (EP X pins Z Q) X.xe s
section
variable {X:Cx}{a b:Expr}{ta tb:TE}{pos:Pos}
def B0 (K:W.Frag):R2:=fun x y H Q=>onR x fun p=>onI y fun i=>∃ xs v,SqL K H p xs/\atI xs i=some v/\Q v H
def B6 (K:W.Frag):R2:=fun x y H Q=>onR x fun p=>onI y fun i=>∃ xs v,SqT K H p xs/\atI xs i=some v/\Q v H
def Cy:R2:=fun x y H Q=>∃ z i c,x=.str z/\y=.int i/\z.length<=sizeLine/\atI z.cps.toList i=some c/\Q (.str ⟨#[c]⟩) H
theorem aM:IxR X (B0 X.K):=by
 intro value S pins s Z H x y v u Q I P J h U;obtain ⟨p,rfl,y⟩:=xc h;obtain ⟨i,rfl,xs,z,G,he,q⟩:=dN y;cases P;obtain ⟨t,rfl⟩:=J;obtain ⟨its,r,pl,hz⟩:=I.list G;obtain ⟨j,T,Y,h3,h4,F⟩:=l0 he;obtain ⟨w,W,R⟩:=r.get Y;have hl:=r.length;have hn:=hW;have c:EP X pins Z Q w s:=⟨z,H,I,R,q⟩;by_cases M:0<=i
 .have O:i.toNat=j:=by rw [seqIndex_of M F] at T;exact DJ T
  exact item_listR pl.isList M Dc (by rw [O];simpa using W) c U
 have O:(i+(its.toArray.size:Int)).toNat=j:=by rw [seqIndex_neg Dc h4] at T;rw [DD,<-hl];exact DJ T
 exact subscriptTail_builtinR (x:=w) pl.isList.typeIs slot_list_getitem.lookup
  (wpAny_getItem_list_neg (Q:=fun r s'=>r=w/\EP X pins Z Q r s') pl.isList Dc (by rw [DD] <;> lia) Dc (by rw [O];simpa using W) ⟨rfl,c⟩) U
theorem aI:IxR X (B6 X.K):=by
 intro value c pins s Z H x y v u Q I U W h M;obtain ⟨p,rfl,y⟩:=xc h;obtain ⟨i,rfl,xs,z,S,Y,q⟩:=dN y;cases U;obtain ⟨t,rfl⟩:=W;obtain ⟨its,r,pl,hz⟩:=I.tuple S;obtain ⟨j,G,R,h3,h4,h5⟩:=l0 Y;obtain ⟨w,F,T⟩:=r.get R;have J:=r.length;have hn:=hW;have O:EP X pins Z Q w s:=⟨z,H,I,T,q⟩;exact subscriptTail_builtinR (x:=w) pl.typeIs slot_tuple_getitem.lookup
  (getItem_tuple (j:=j) (Q:=fun r P=>r=w/\EP X pins Z Q r P) pl Dc Dc (by rw [DD,<-J];exact G) (by simpa using F) ⟨rfl,O⟩) M
theorem vN:IxR X Cy:=by
 intro value T pins s Z H x y v u Q I W G h F;obtain ⟨z,i,c,rfl,rfl,hz,Y,q⟩:=h;obtain ⟨t,rfl⟩:=W;obtain ⟨t',rfl⟩:=G;obtain ⟨j,O,U,h3,P,R⟩:=l0 Y;have J:z.cps.toList.length=z.length:=by simp [Str.length]
 rw [J] at O P R;have hn:=hW;exact tail_any (FR s z t) slot_str_getitem.lookup (getItem_str (c:=c) (by
  have S:decide (i < -(2 ^ 63:Int))=false:=DF Dc;have M:decide (i ≥ 2 ^ 63)=false:=DF Dc;rw [S,M,Bool.or_false]) (by rw [O];simpa using U) ⟨.str ⟨#[c]⟩,H,I.tok _,⟨_,rfl⟩,q⟩) F
theorem qC (its:List Value)(n j:Nat)(u:Value):Obj.mapSeq (·.setIfInBounds j u) { cls:=.type "list",data:=.seq its.toArray n }={ cls:=.type "list",data:=.seq (its.set j u).toArray n }:=by simp [Obj.mapSeq]
theorem Inv.lst (I:Inv X pins Z H s)(h:H p=some (.lst xs)):
  ∃ (its:List Value) (n:Nat),Vals xs its/\s.heap.get? p=some { cls:=.type "list",data:=.seq its.toArray n }/\xs.length<=sizeLine:=by
 obtain ⟨z,its,n,r,e⟩:=I.hok p _ h;exact ⟨its,n,r,e,z⟩
theorem Inv.lstUpd {ys:List V}{n':Nat}{f:Obj->Obj}(I:Inv X pins Z H s)(h:H p=some (.lst xs))(T:s.heap.get? p=some { cls:=.type "list",data:=.seq its.toArray n })(c:f { cls:=.type "list",data:=.seq its.toArray n }={ cls:=.type "list",data:=.seq its'.toArray n' })(r:Vals ys its')(O:ys.length<=sizeLine)(t:Nat):
  Inv X pins Z (upd H p (.lst ys)) { s with heap:=s.heap.update p f,toks:=t }:=by
 have e:(s.heap.update p f).get? p=some { cls:=.type "list",data:=.seq its'.toArray n' }:=by rw [Fh f T (by rw [c] <;> rfl),c]
 refine I.write (x:=p) (e:=p) (by rw [h];trivial) (.inl rfl) (fun b u S q=>(Ea _ _ (Fc S)).trans q) ⟨_,e⟩ ?_;exact ⟨O,its',n',r,e⟩
def Bz:V->V->V->Hp->(Hp->Prop)->Prop:=fun o i v H Q=>∃ p xs k j,o=.ref p/\i=.int k/\H p=some (.lst xs)/\ixN xs.length k=some j/\Q (upd H p (.lst (xs.set j v)))
theorem bO:BZ X Bz:=by
 intro pins s Z H o i v ov iv u Q I P J G h;obtain ⟨p,xs,k,j,rfl,rfl,M,Y,q⟩:=h;cases P;obtain ⟨t,rfl⟩:=J;obtain ⟨its,n,r,T,hz⟩:=I.lst M;obtain ⟨c,h2,S,F⟩:=tM Y;have O:=r.length;have hn:=hW;have U:Inv X pins Z (upd H p (.lst (xs.set j v))) { s with heap:=s.heap.update p (Obj.mapSeq (·.setIfInBounds j u)) } :=
  I.lstUpd M T (qC its n j u) (r.set G j) (by rw [EA];exact hz) s.toks
 by_cases R:0<=k
 .have hk:k.toNat=j:=by rw [seqIndex_of R F] at c;exact DJ c
  exact W.ki_setAt T R Dc (by rw [DD,<-O];exact F) (by rw [hk];exact ⟨_,U,q⟩)
 have hk:(k+(its.toArray.size:Int)).toNat=j:=by rw [seqIndex_neg Dc S] at c;rw [DD,<-O];exact DJ c
 exact W.ki_setBack T Dc (by rw [DD,<-O];exact S) Dc (by rw [hk];exact ⟨_,U,q⟩)
theorem mZ (lo hi:Option Int)(n:Nat):(sliceBounds lo hi none n).1=((HT.sIx n 0 lo:Nat):Int)/\(sliceBounds lo hi none n).2.1=((HT.sIx n n hi:Nat):Int)/\(sliceBounds lo hi none n).2.2=1:=by
 refine ⟨?_,?_,rfl⟩
 .cases lo with
  | none=>simp [sliceBounds,HT.sIx]
  | some i =>
   simp only [sliceBounds,HT.sIx,Option.getD_none,show (1:Int)>0 by decide,GU];by_cases h:i<0
   .simp only [h,GU] <;> lia
   .simp only [h,FF] <;> lia
 cases hi with
 | none=>simp [sliceBounds,HT.sIx]
 | some i =>
  simp only [sliceBounds,HT.sIx,Option.getD_none,show (1:Int)>0 by decide,GU];by_cases h:i<0
  .simp only [h,GU] <;> lia
  .simp only [h,FF] <;> lia
theorem jN (its:List Value)(lo hi:Option Int):slicePick its.toArray lo hi none=((its.drop (HT.sIx its.length 0 lo)).take (HT.sIx its.length its.length hi-HT.sIx its.length 0 lo)).toArray:=by obtain ⟨O,c,T⟩:=mZ lo hi its.toArray.size;unfold slicePick;rw [O,c,T];simp only [sliceRange_one,pick_run,DD] <;> rfl
def C8 (K:W.Frag):V->Option Int->Option Int->Hp->VK->Prop:=fun x lo hi H Q=>∃ a xs,x=.ref a/\SqL K H a xs/\∀p,H p=none->Q (.ref p) (upd H p (.lst (eK xs lo hi)))
theorem y0:SlR X (C8 X.K):=by intro pins s Z H x v F G lo hi W Q I R U pl M h;obtain ⟨a,xs,rfl,O,q⟩:=h;cases R;obtain ⟨its,r,T,S⟩:=I.list O;have c:=r.length;refine ⟨"list",_,slot_list_getitem.lookup,T.isList.typeIs,?_⟩;refine wpAny_getItem_list_slice T.isList U pl M .none Dd ?_ (by rw [DD] <;> lia);rw [jN,<-c];refine ⟨.ref s.heap.objs.size,_,I.laid (t':=s.toks) (o:=.lst (eK xs lo hi)) (fun b Y q=>Dt _ q) (Dj _) ?_,rfl,q _ (I.hok.fresh (Dj _))⟩;exact ⟨Dq (ig xs lo hi) S,_,0,(r.drop (HT.sIx xs.length 0 lo)).take (HT.sIx xs.length xs.length hi-HT.sIx xs.length 0 lo),DQ _ rfl⟩
theorem aK:cv X (.builtin "len") (fun xs H Q=>∃ p ys,xs=[.ref p]/\(SqL X.K H p ys∨SqT X.K H p ys)/\Q (.int ys.length) H):=by
 intro pins s Z H xs us Q I r h;obtain ⟨p,ys,rfl,hq,q⟩:=h;obtain ⟨u,rfl,O⟩:=fQ r;cases O;have S:=hW;rcases hq with hq | hq
 .obtain ⟨its,r',pl,T⟩:=I.list hq;have c:=r'.length;exact Calls.call_len_list pl.isList (by simp only [DD] <;> lia) ⟨.int ys.length,H,I.tok _,⟨s.toks+1,by rw [DD,c]⟩,q⟩
 obtain ⟨its,r',pl,T⟩:=I.tuple hq;have c:=r'.length;exact len_tuple pl (by simp only [DD] <;> lia) ⟨.int ys.length,H,I.tok _,⟨s.toks+1,by rw [DD,c]⟩,q⟩
theorem gz:cv X (.builtin "len") (fun xs H Q=>∃ z,xs=[.str z]/\z.length<=sizeLine/\Q (.int z.length) H):=by intro pins s Z H xs us Q I r h;obtain ⟨z,rfl,c,q⟩:=h;obtain ⟨u,rfl,t,rfl⟩:=fQ r;have T:=hW;exact len_str Dc ⟨.int z.length,H,I.tok _,⟨_,rfl⟩,q⟩
theorem kX:cv X (.type "list") (fun xs H Q=>∃ p ys,xs=[.ref p]/\(SqL X.K H p ys∨SqT X.K H p ys)/\∀l,H l=none->Q (.ref l) (upd H l (.lst ys))):=by
 intro pins s Z H xs us Q I r h;obtain ⟨p,ys,rfl,hq,q⟩:=h;obtain ⟨u,rfl,W⟩:=fQ r;cases W;have O:∀(its:List Value),Vals ys its->ys.length<=sizeLine->∀(h':Heap) (c:Nat),(∀b M,s.heap.get? b=some M->h'.get? b=some M) ->
   h'.get? s.heap.objs.size=some { cls:=.type "list",dict:=none,data:=.seq its.toArray c,slots:=#[] }->EP X pins Z Q (.ref s.heap.objs.size) { s with heap:=h' }:=fun its r' T h' c kp e =>
  ⟨.ref s.heap.objs.size,_,I.laid (t':=s.toks) kp (Dj _) (show ObjOk X.prog X.w _ h' _ (.lst ys) from ⟨T,its,c,r',e⟩),rfl,q _ (I.hok.fresh (Dj _))⟩
 rcases hq with hq | hq
 .obtain ⟨its,r',pl,T⟩:=I.list hq;have S:=r'.length;obtain ⟨o,U,R,n,hd⟩:=pl.isList;exact call_list_seq p (.inl rfl) U R hd (fun h' c kp e=>O its r' T h' c kp e) (by simp only [DD] <;> lia)
 obtain ⟨its,r',pl,T⟩:=I.tuple hq;have S:=r'.length;obtain ⟨o,U,R,n,hd⟩:=pl;exact call_list_seq p (.inr rfl) U R hd (fun h' c kp e=>O its r' T h' c kp e) (by simp only [DD] <;> lia)
theorem cI:cv X (.type "tuple") (fun xs H Q=>∃ p ys,xs=[.ref p]/\((SqL X.K H p ys/\∀l,H l=none->Q (.ref l) (upd H l (.tup ys)))∨(SqT X.K H p ys/\Q (.ref p) H))):=by
 intro pins s Z H xs us Q I r h;obtain ⟨p,ys,rfl,h⟩:=h;obtain ⟨u,rfl,U⟩:=fQ r;cases U;rcases h with ⟨c,q⟩ | ⟨c,q⟩
 .obtain ⟨its,r',pl,T⟩:=I.list c;have O:=r'.length;refine call_tuple_list pl.isList (fun h' kp=>?_) (by simp only [DD] <;> lia);have S:Inv X pins Z H { s with heap:=h' }:=I.kept (t':=s.toks) kp;have R:Inv X pins Z (upd H h'.objs.size (.tup ys)) { s with heap:=h'.push { cls:=.type "tuple",data:=.seq its.toArray } } :=
   S.laid (t':=s.toks) (fun b o e=>Dt _ e) (Dj _) (show ObjOk X.prog X.w _ _ _ (.tup ys) from ⟨T,its,r',IsTup.new _ _⟩)
  exact ⟨.ref h'.objs.size,_,R,rfl,q _ (S.hok.fresh (Dj _))⟩
 obtain ⟨its,r',pl,T⟩:=I.tuple c;exact call_tuple_same pl ⟨.ref p,H,I,rfl,q⟩
def tyV (K:W.Frag)(T:String)(x:V)(H:Hp):Prop:=match x with
 | .str _=>T="str"
 | .int _=>T="int"
 | .ref p=>(T="list"/\∃ xs,SqL K H p xs)∨(T="tuple"/\∃ o,K.lookup p=some o/\o.cls=.type "tuple"/\o.dict=none) ∨
   (T="dict"/\((∃ kvs,H p=some (.dK kvs))∨∃ kvs,H p=some (.dT kvs)))∨(T="set"/\∃ S n,H p=some (.set S n))
 | _=>False
theorem vt {T:String}{x:V}{v:Value}(I:Inv X pins Z H s)(r:RelV x v)(ty:tyV X.K T x H):
  s.TypeIs v T/\∀a,v=.ref a->∃ U,s.heap.get? a=some U/\U.dict=none:=by
 cases x with
 | str z =>
  obtain ⟨t,rfl⟩:=r;cases (show T="str" from ty);exact ⟨FR s z t,fun _ e=>nomatch e⟩
 | int i =>
  obtain ⟨t,rfl⟩:=r;cases (show T="int" from ty);exact ⟨typeIs_int s i t,fun _ e=>nomatch e⟩
 | ref p =>
  cases r;rcases ty with ⟨rfl,xs,M⟩ | ⟨rfl,o,hk,W,hd⟩ | ⟨rfl,hk⟩ | ⟨rfl,S,n,hk⟩
  .obtain ⟨its,_,pl,_⟩:=I.list M;refine ⟨pl.isList.typeIs,fun a e=>?_⟩;cases e;obtain ⟨o,n,e,c,hd,_⟩:=pl;exact ⟨o,e,hd⟩
  .refine ⟨⟨o,I.kIn p o hk,W⟩,fun a e=>?_⟩;cases e;exact ⟨o,I.kIn _ o hk,hd⟩
  .have z:∃ o,s.heap.get? p=some o/\o.ExactDict:=by
    rcases hk with ⟨kvs,hk⟩ | ⟨kvs,hk⟩
    .obtain ⟨_,_,_,_,o,_,_,e,O,_⟩:=I.hok p _ hk;exact ⟨o,e,O⟩
    .obtain ⟨_,_,_,_,o,_,_,e,O,_⟩:=I.hok p _ hk;exact ⟨o,e,O⟩
   obtain ⟨o,e,O⟩:=z;refine ⟨⟨o,e,O.1⟩,fun a R=>?_⟩;cases R;exact ⟨o,e,O.2.1⟩
  .obtain ⟨o,_,_,_,e,O,_⟩:=I.hok p _ hk;refine ⟨⟨o,e,O.1⟩,fun a R=>?_⟩;cases R;exact ⟨o,e,O.2.1⟩
 | _=>exact False.elim ty
def Cv (K:W.Frag)(T:String)(r:V->List V->Hp->VK->Prop)(to:TE):TE:=fun Z H Q=>to Z H fun x H1=>tyV K T x H1/\r x [] H1 Q
def tBM (K:W.Frag)(T:String)(r:V->List V->Hp->VK->Prop)(to:TE)(t:TA):TE:=fun Z H Q=>to Z H fun x H1=>tyV K T x H1/\t Z H1 fun xs H2=>r x xs H2 Q
variable {o e:Expr}{es:List Expr}{to:TE}{t:TA}{name:Str}{apos cpos:Pos}{T id:String}{r:V->List V->Hp->VK->Prop}
end
def MtM (X:Cx)(id:String)(r:V->List V->Hp->VK->Prop):Prop :=
 ∀(pins:List (Addr×Obj)) (s:Shared) (Z:St) (H:Hp) (x:V) (xs:List V) (v:Value) (us:List Value) (Q:VK),Inv X pins Z H s->RelV x v->Vals xs us->r x xs H Q ->
  wpAny (model X.prog X.w) X.A (call (.builtin id) (v::us)) (EP X pins Z Q) X.xe s
theorem Vals.one:∀{x:V} {us:List Value},Vals [x] us->∃ u,us=[u]/\RelV x u
 | _,_,.cons r .nil=>⟨_,rfl,r⟩
theorem Vals.zero:∀{us:List Value},Vals [] us->us=[]
 | _,.nil=>rfl
theorem Vals.dropLast (h:Vals xs us):Vals xs.dropLast us.dropLast:=by
 induction h with
 | nil=>exact .nil
 | cons r t ih =>
  cases t with
  | nil=>exact .nil
  | cons q t'=>exact .cons r ih
theorem pL {α:Type}(l:List α):l.eraseIdx (l.length-1)=l.dropLast:=by
 induction l with
 | nil=>rfl
 | cons a r ih =>
  cases r with
  | nil=>rfl
  | cons b r =>
   have e:(a::b::r).length-1=((b::r).length-1)+1:=by have T:(a::b::r).length=r.length+2:=rfl;have c:(b::r).length=r.length+1:=rfl;lia
   rw [e,List.eraseIdx_cons_succ,ih]
   all_goals rfl
section
variable {X:Cx}{pins:List (Addr×Obj)}{Z:St}{H:Hp}{s:Shared}{l b:Addr}{xs ys zs:List V}
theorem Inv.lset {f:Array Value->Array Value}{t':Nat}(I:Inv X pins Z H s)(T:H l=some (.lst xs))(e:s.heap.get? l=some { cls:=.type "list",data:=.seq its.toArray n })(c:f its.toArray=its'.toArray)(O:Vals ys its')(S:ys.length<=sizeLine):
  Inv X pins Z (upd H l (.lst ys)) { s with heap:=s.heap.update l (Obj.mapSeq f),toks:=t' }:=by
 have q:=PySem.IsL.update e f;rw [c] at q;refine I.write (x:=l) (e:=l) (by rw [T];exact trivial) (.inl rfl) (fun M u R U=>(Ea s.heap (Obj.mapSeq f) (Fc R)).trans U) ⟨_,q⟩ ?_;exact ⟨S,its',_,O,q⟩
theorem Inv.lnew {t':Nat}(I:Inv X pins Z H s)(c:Vals ys its)(T:ys.length<=sizeLine):
  Inv X pins Z (upd H s.heap.objs.size (.lst ys)) { s with heap:=s.heap.push { cls:=.type "list",data:=.seq its.toArray },toks:=t' } :=
 I.laid (fun _ _ q=>Dt _ q) (Dj _) ⟨T,its,0,c,DQ _ rfl⟩
theorem Inv.fresh (I:Inv X pins Z H s):H s.heap.objs.size=none:=I.hok.fresh (Dj _)
theorem Inv.lstM (I:Inv X pins Z H s)(c:H l=some (.lst xs)):xs.length<=sizeLine/\∃ (its:List Value) (n:Nat),Vals xs its/\xs.length=its.length/\s.heap.get? l=some { cls:=.type "list",data:=.seq its.toArray n }:=by obtain ⟨z,its,n,r,e⟩:=I.hok l _ c;exact ⟨z,its,n,r,r.length,e⟩
end
section
variable {X:Cx}
def zA:V->List V->Hp->VK->Prop:=fun x vs H Q=>∃ l xs y,x=.ref l/\vs=[y]/\H l=some (.lst xs)/\xs.length<sizeLine/\Q .non (upd H l (.lst (xs++[y])))
theorem cg:MtM X "list.append" zA:=by intro pins s Z H x vs v us Q I S T h;obtain ⟨l,xs,y,rfl,rfl,c,R,q⟩:=h;cases S;obtain ⟨u,rfl,O⟩:=T.one;obtain ⟨z,its,n,r,U,e⟩:=I.lstM c;refine IE F.slot_list_append ⟨_,e,rfl⟩ F.entry_list_append (F.args_list_append_2 _ _) (PySem.list_append l its.toArray n u (by rw [DD];lia)) ⟨e,?_⟩;refine ⟨.non,_,I.lset (its':=its++[u]) c e Dd (r.append (.cons O .nil)) ?_,rfl,q⟩;rw [Ds,List.length_singleton];lia
def Cs:V->List V->Hp->VK->Prop:=fun x vs H Q=>∃ l xs y,x=.ref l/\vs=[]/\H l=some (.lst xs)/\xs[xs.length-1]?=some y/\Q y (upd H l (.lst xs.dropLast))
theorem xO:MtM X "list.pop" Cs:=by
 intro pins s Z H x vs v us Q I M S h;obtain ⟨l,xs,y,rfl,rfl,O,U,q⟩:=h;cases M;have T:=S.zero;subst T;obtain ⟨z,its,n,r,W,e⟩:=I.lstM O;obtain ⟨u,G,R⟩:=r.get U;have c:its.toArray[its.toArray.size-1]?=some u:=by show its.toArray[its.length-1]?=some u;rw [<-GH,<-W];exact G
 refine IE F.slot_list_pop ⟨_,e,rfl⟩ F.entry_list_pop (F.args_list_pop_1 _) (MeetsSeq.list_pop_last l its.toArray n u c (by rw [DD];lia)) ⟨e,?_⟩;refine ⟨y,_,I.lset (its':=its.dropLast) O e ?_ r.dropLast ?_,R,q⟩
 .show its.toArray.eraseIdxIfInBounds (its.toArray.size-1)=its.dropLast.toArray;rw [DD,List.eraseIdxIfInBounds_toArray,pL]
 rw [Eh];lia
def CD:R2:=fun x y H Q=>∃ l b xs zs,x=.ref l/\y=.ref b/\H l=some (.lst xs)/\H b=some (.lst zs)/\xs.length+zs.length<=sizeLine/\∀p,H p=none->Q (.ref p) (upd H p (.lst (xs++zs)))
theorem Aj:OpR X (binaryOp .Add) CD:=by
 intro pins s Z H x y v u Q I R U h;obtain ⟨l,b,xs,zs,rfl,rfl,M,O,P,q⟩:=h;cases R;cases U;obtain ⟨z,its,n,r,J,e⟩:=I.lstM M;obtain ⟨Y,c,G,W,F,S⟩:=I.lstM O;refine PySem.P.add_list e S ?_ (by rw [DD,DD];lia);have T:its.toArray++c.toArray=(its++c).toArray:=by simp
 rw [T];exact ⟨.ref _,_,I.lnew (t':=s.toks) (r.append W) (by rw [Ds];lia),rfl,q _ I.fresh⟩
end
end L2
namespace Att
open PySem PySem.W PySem.Calls PyProof.Rows
theorem iy {P:Params}:∀(ns:List Int) (vs:List Value),WellAll P h vs (ns.map WData.int)->IntsAre vs ns:=by
 intro ns
 induction ns with
 | nil =>
  intro vs w;rw [Gf] at w;cases w;exact .nil
 | cons n ns ih =>
  intro vs w;rw [DH] at w;cases w with
  | cons a b =>
   cases a;exact .cons _ _ (ih _ b)
theorem vi {l:OpenLaw}(G:l.most=some n){P:Params}{args:List WData}{c:List Value}(T:l.row.toRowW.claim.pre args=true)(U:WellAll P h c args):
  ∃ a vs ns,c=[Value.ref a]/\args=[WData.list (ns.map WData.int)]/\h.get? a=some { cls:=.type "list",data:=.seq vs.toArray }/\IntsAre vs ns/\ns.length<=n:=by
 have R:WShape.hasAll [] args [.list .int]=true:=(pre_splitW T).1;have M:l.pre.holds [] { args:=args }=true:=(pre_splitW T).2;obtain ⟨d,r,rfl,Y,F⟩:=hasAllW_cons R;obtain rfl:=hasAllW_nil F;obtain ⟨xs,rfl,J⟩:=hasW_list Y;obtain ⟨ns,rfl⟩:=items_int J;have O:ns.length<=n:=by
  unfold OpenLaw.pre at M;have S:(WTm.not (.lt (.lit (.int (n:Int))) (.len (.arg 0)))).holds [] { args:=[.list (ns.map .int)] }=true:=by have S:=(holds_andW M).1;rw [G] at S;exact S
  have I:=condW_of S (w_not (w_lt w_lit (w_len_list (w_arg rfl))));rw [Dg] at I;refine HW fun q=>?_;have W:(n:Int)<((ns.length:Nat):Int):=by lia
  first
   | (rw [Dk W] at I;exact absurd I Db)
   | (simp at I;lia)
 cases U with
 | cons w1 w2 =>
  cases w2;cases w1 with
  | list ho hall=>exact ⟨_,_,ns,rfl,rfl,ho,iy ns _ hall,O⟩
theorem va (l:OpenLaw)(args:List WData):l.row.toRowW.claim.post args (.bool true) args=true :=
 postW_of (r:=l.row.toRowW) (X:=(true == true))
  (show WShape.has [] (.bool true) .bool=true by first | rfl | decide | simp [WShape.has,WShape.arms,WShape.armsAll])
  (show (WTm.eq .res (.lit (.bool true))).value [] { args:=args,res:=some (.bool true),after:=args }=some (.bool (true == true)) from w_eq_bool (w_res rfl) w_lit) rfl
theorem attach_call {l:OpenLaw}{XP:(Str->Option Value)->Heap->Prop}{d:DefRec}(hn:l.most=some n)(M:d.params.defaults=[])(call:∀(w:World) (W c:Shared) (mg P:Str->Option Value) (fa:Addr) (o:Obj) (pm U T:Value) (a:Addr) (vs:List Value) (ns:List Int),
   Ground q loose [] XP w W mg P c.heap->YP w c.heap ->
   c.heap.get? fa=some o->o.data=.func (docDef d.name d.params d.body d.scope pm U T)->c.heap.CodeRec U d.name->mg d.name=some (.ref fa) ->
   c.heap.get? a=some { cls:=.type "list",data:=.seq vs.toArray }->IntsAre vs ns->ns.length<=n->c.gens=#[] ->
   codeAny (model l.prog w) callerA (.call (.ref fa) ⟨[.ref a],[]⟩) (fun r s'=>r=.ok (.ret (.bool true))/\OldK c.heap s'.heap/\s'.os=c.os/\AllBare s'.gens) c):
  WalkO q loose XP YP l.row.toRowW d [] (fun f vs=>PySem.call f vs):=by
 intro w W c mg P G Y fa o pm U T dV kV ho hd F hD ee hg args et as I ea ei J eo;obtain rfl:dV=.none:=Dflts.none hD M;obtain rfl:kV=.none:=Dflts.noKw hD;obtain ⟨a,vs,ns,rfl,rfl,S,O,R⟩:=vi hn I J;refine enter_call (Ha (call w W c mg P fa o pm U T a vs ns G Y ho (fd_plain hd) F ee S O R hg) fun r s' hq=>?_);obtain ⟨rfl,h2,h3,h4⟩:=hq;exact ⟨.inl ⟨.bool true,.bool true,[],rfl,fun _=>rfl,.bool true,va l _,fun _=>⟨List.Pairwise.nil,fun _ hm=>(nomatch hm)⟩⟩,h2,h3,h4⟩
end Att
namespace L2
open PySem PySem.Spec PyProof.Rows
theorem jR:∀{vs:List Value} {ns:List Int},IntsAre vs ns->Vals (ns.map V.int) vs
 | _,_,.nil=>.nil
 | _,_,.cons n t h=>.cons ⟨t,rfl⟩ (jR h)
def Ao (H:Hp):Prop:=∀b,H b=none∨∃ o xs,H b=some (.frz o (.lst xs))
theorem xE {P:Program}{mb:Str->Option Value}{CX:CXT}{k:Nat}{c:Shared}{ns:List Int}(KX:K.In c.heap)(J:c.heap.Ns mainGlobals mg)(O:c.heap.Ns builtinsNs mb)(ei:∀x:Str,x≠"__name__"->mb x=bootBuiltins x)(ee:c.heap.NoLimit)(hg:c.gens=#[])(ha:c.heap.get? a=some { cls:=.type "list",data:=.seq vs.toArray })(hi:IntsAre vs ns)(hl:ns.length<=sizeLine)(hr:Room k callerA)(F:∀base:Heap,K.In base->base.Ns mainGlobals mg->au P w K mg base CX k fa fd [x] sp)(R:∀(s:Shared) (u:Value),BindsTo s fd ⟨[u],[]⟩ [(x,u)])(eh:∀H:Hp,Ao H->SqL K H a (ns.map V.int)->sp [.ref a] H (fun v _=>v=.bl true) fun _ _ _=>False)(eo:∀H e s',CX [] H c (fun _ _ _=>False) e s'->False):
  codeAny (model P w) callerA (.call (.ref fa) ⟨[.ref a],[]⟩) (fun r s'=>r=.ok (.ret (.bool true))/\OldK c.heap s'.heap/\s'.os=c.os/\AllBare s'.gens) c:=by
 have rv:=jR hi;have et:=hi.length;have S:∀H:Hp,Ao H->SqL K H a (ns.map V.int)->HOk P w H c.heap->(∀b,H b≠none->b=a)->(H a≠none->K.lookup a=none) ->
   codeAny (model P w) callerA (.call (.ref fa) ⟨[.ref a],[]⟩) (fun r s'=>r=.ok (.ret (.bool true))/\OldK c.heap s'.heap/\s'.os=c.os/\AllBare s'.gens) c:=by
  intro H hO hS G hA hK;have T:∀{b:Addr} {o:Obj},c.heap.get? b=some o->H b=none->(lI c.heap H).get? b=some o:=fun e n=>xZ e n;have ea:∀{b:Addr} {o:Obj} {es:Array DictEntry} {ep:Nat},c.heap.get? b=some o->o.data=.dict es ep->H b=none:=fun {b o es ep} e d=>by
   cases q:H b with
   | none=>rfl
   | some u =>
    have e':b=a:=hA b (by rw [q];simp);subst e';rw [ha] at e;cases e;have d':Data.seq vs.toArray _=Data.dict es ep:=d;cases d'
  have I:∀{b:Addr} {m:Str->Option Value},c.heap.Ns b m->(lI c.heap H).Ns b m:=fun {b m} ⟨o,es,ep,e,d,r⟩=>⟨o,es,ep,T e (ea e d),d,r⟩;have Y:K.In (lI c.heap H):=fun b o e=>T (KX b o e) (by
   cases q:H b with
   | none=>rfl
   | some u =>
    have e':b=a:=hA b (by rw [q];simp);subst e';rw [hK (by rw [q];simp)] at e;cases e)
  have hM:Mod K mg (lI c.heap H):=⟨Y,I J,⟨mb,I O,ei⟩,let ⟨mc,h1,h2⟩:=ee;⟨mc,I h1,h2⟩⟩;have e0:Env0 P w K mg (lI c.heap H) callerA [] c H:=⟨rfl,hM,fun b o e=>yY e,G9 (uy _ _),trivial,fun b O=>absurd (show b∈([]:List Addr) from O) Dd,G,.of_eq hg⟩;refine Ha ((F _ Y (I J)).run callerA [] c H ⟨[.ref a],[]⟩ [.ref a] [.ref a] _ _ hr e0 (R c (.ref a)) (.cons rfl .nil) (eh H hO hS)) fun r s' h=>?_;cases r with
  | error e=>exact (eo H e s' h).elim
  | ok fl =>
   cases fl with
   | next=>exact False.elim h
   | brk=>exact False.elim h
   | cont=>exact False.elim h
   | ret u =>
    obtain ⟨v,H',os,U,un,W,r',q⟩:=h;have q':v=.bl true:=q;subst q';obtain rfl:u=Value.bool true:=r';refine ⟨rfl,OldK.of_keep fun b o e=>?_,os,U⟩;cases q:H b with
    | none=>exact un.keep b o e q (by intro z;exact absurd (show b∈([]:List Addr) from z) Dd) Dd
    | some u =>
     rcases hO b with z | ⟨ob,xs,z⟩
     .rw [q] at z;cases z
     .have z2:=un.frzs b ob _ z;obtain ⟨e1,_⟩:=G b _ z;obtain ⟨e2,_⟩:=W b _ z2;rw [e] at e1;cases e1;exact e2
 cases hk:K.lookup a with
 | some o =>
  have e:=KX a o hk;rw [ha] at e;cases e;refine S (fun _=>none) (fun _=>.inl rfl) (.inr ⟨_,vs.toArray,_,hk,rfl,rfl,rfl,by rw [DD,et];exact hl,by simpa using rv⟩) (fun b u z=>by have M:(none:Option HO)=some u:=z;cases M) (fun b z=>absurd rfl z) fun z=>absurd rfl z
 | none =>
  refine S (fun b=>if b=a then some (.frz { cls:=.type "list",data:=.seq vs.toArray } (.lst (ns.map V.int))) else none) (fun b=>?_) (.inl (.inr ⟨{ cls:=.type "list",data:=.seq vs.toArray },Dm rfl⟩)) (fun b u z=>?_) (fun b z=>?_) fun _=>hk
  .by_cases O:b=a
   .exact .inr ⟨_,_,Dm O⟩
   .exact .inl (Di O)
  .by_cases O:b=a
   .have M:=(Dm O).symm.trans z;cases M;subst O;exact ⟨ha,by rw [Dg];exact hl,vs,_,rv,ha⟩
   .have M:=(Di O).symm.trans z;cases M
  .by_cases O:b=a
   .exact O
   .exact absurd (Di O) z
theorem walk_of {l:W.OpenLaw}{k:Nat}{XP:(Str->Option Value)->Heap->Prop}{d:DefRec}{K:Params->W.Frag}{CX:World->CXT}{sp:World->Sp}(hn:l.most=some n)(M:n<=sizeLine)(I:d.params.defaults=[])(hr:Room k callerA)(hY:∀(w:World) (h:Heap),YP w h->(K w.params).In h)(F:∀(w:World) (mg:Str->Option Value) (fa:Addr) (h:Heap),(K w.params).In h->h.Ns mainGlobals mg->mg d.name=some (.ref fa) ->
   ∃ fd:FuncData,(∀(s:Shared) (u:Value),BindsTo s fd ⟨[u],[]⟩ [(x,u)]) /\
    ∀base:Heap,(K w.params).In base->base.Ns mainGlobals mg->au l.prog w (K w.params) mg base (CX w) k fa fd [x] (sp w))(R:∀(w:World) (H:Hp) (a:Addr) (ns:List Int),ns.length<=n->Ao H->SqL (K w.params) H a (ns.map V.int)->sp w [.ref a] H (fun v _=>v=.bl true) fun _ _ _=>False)(S:∀(w:World) (H:Hp) (s:Shared) (e:Value) (s':Shared),CX w [] H s (fun _ _ _=>False) e s'->False):
  W.WalkO q loose XP YP l.row.toRowW d [] (fun f vs=>PySem.call f vs):=by
 refine Att.attach_call hn I fun w s₀ s₁ mg mb fa o pm cd et a vs ns G Y ho hd ee U O T c J=>?_;have P:=hY w _ Y;obtain ⟨fd,hb,hF⟩:=F w mg fa _ P G.T.g U;exact xE P G.T.g G.T.b G.T.builtins G.T.nolimit J O T (Dq c M) hr hF hb (fun H hO hS=>R w H a ns c hO hS) fun H e s'=>S w H s₁ e s'
def a7 (s:Stmt)(j:Nat):Stmt:=match s with
 | .ClassDef _ _ _ body _ _ _ _ _ _ _=>body.getD j (.Pass ⟨0,0,0,0⟩)
 | _=>.Pass ⟨0,0,0,0⟩
def cq (s:Stmt):Arguments:=match s with
 | .FunctionDef _ a _ _ _ _ _ _ _ _=>a
 | _=>{ posonlyargs:=[],args:=[],vararg:=none,kwonlyargs:=[],kw_defaults:=[],kwarg:=none,defaults:=[] }
def bz (s:Stmt):List Stmt:=match s with
 | .FunctionDef _ _ b _ _ _ _ _ _ _=>b
 | _=>[]
def ak (s:Stmt):Scope:=match s with
 | .FunctionDef _ _ _ _ _ _ sc _ _ _=>sc
 | _=>{ kind:=.function,names:=[],isGenerator:=false,isCoroutine:=false }
abbrev CX0:CXT:=fun _ _ _ _ _ _=>False
abbrev E0:XK:=fun _ _ _=>False
theorem aB:cM CX0 X E0:=fun _ _ _ _ _ _ _ h=>h.elim
structure Fun (K:W.Frag)(x qual:Str)(st:Stmt)(f:Addr)(fd:FuncData):Prop where
 ex:∃ (oc:Value) (od:Option Addr) (kV doc pm:Value) (an:Option Addr) (cdv ct:Value) (osl:Array (Option Value)),
  fd=W.fnOf x qual (cq st) (bz st) (ak st) .none kV doc pm an cdv ct/\K.lookup f=some ⟨oc,od,.func fd,osl⟩/\W.codeIn K cdv qual=true
 kp:W.keepIn K (.ref f)=true
section
variable {P:Program}{w:World}{K:W.Frag}{mg:Str->Option Value}{base:Heap}
theorem Fun.ok {k:Nat}(F:Fun K x qual st f fd)(S:av N ps (ak st))(T:∀(c:Value) (A:Around) (outer:List Env) (s:Shared) (H:Hp) (vs:List V) (Q:VK) (E:XK),Room k (A.deeper (envOfC qual (ak st) s.heap.objs.size f c))->sp vs H Q E ->
   ∃ t,PSs (bM CX0 P w K mg base N qual (ak st) f c A outer s H E).nox (bz st) t/\t { nx:=fun _ H'=>Q .non H',rt:=Q } (start N vs) H)(len:autoParam (∀vs H Q E,sp vs H Q E->vs.length=ps.length) aae):au P w K mg base CX0 (k+1) f fd ps sp:=by
 obtain ⟨W,Y,kV,U,pm,J,c,G,osl,rfl,R,O⟩:=F.ex;refine zO R O S len fun A outer s H vs Q E M I=>?_;obtain ⟨t,h,q⟩:=T c A outer s H vs Q E M I;exact ⟨t,h.nox,q⟩
theorem Fun.binds (F:Fun K x qual st f fd)(h:∀(kV T S:Value) (O:Option Addr) (c I:Value) (us:List Value),us.length=ps.length->bindArgs (W.fnOf x qual (cq st) (bz st) (ak st) .none kV T S O c I) ⟨us,[]⟩=pure (ps.zip us)):Binds K fd ps []:=by obtain ⟨U,M,kV,T,S,O,c,I,osl,rfl,G,R⟩:=F.ex;exact .all (h kV T S O c I)
theorem mP {U:Value}{M S:Option Addr}{kV O R T I:Value}(l:K.lookup f=some ⟨U,M,.func (W.fnOf x qual (cq st) (bz st) (ak st) .none kV O R S T I),osl⟩)(c:W.codeIn K T qual=true)(k:W.keepIn K (.ref f)=true):Fun K x qual st f (W.fnOf x qual (cq st) (bz st) (ak st) .none kV O R S T I):=⟨⟨U,M,kV,O,R,S,T,I,osl,rfl,l,c⟩,k⟩
end
theorem aO {k:Nat}(c:Room k A):A.units+1<cLine:=DY (Nat.add_le_add_left (by decide:1<=64) _) c.units
theorem aZ (h:n<=1000):n<sizeLine:=DY h Db
theorem bW {A:Prop}(h:B):if false=true then A else B:=by rw [Di Dy];exact h
theorem iq {A:Prop}(h:A):if true=true then A else B:=by rw [Dm rfl];exact h
theorem aS {c A:Prop}[Decidable c](O:c->A)(T:¬ c->B):if c then A else B:=by
 by_cases h:c
 .rw [Dm h];exact O h
 rw [Di h];exact T h
def Same (H H':Hp):Prop:=∀b o,H b=some o->H' b=some o
theorem Same.refl (H:Hp):Same H H:=fun _ _ h=>h
theorem Same.trans {T O:Hp}(a:Same H T)(b:Same T O):Same H O:=fun c o h=>b c o (a c o h)
theorem Same.free (e:Same H H'){l:Addr}(h:H' l=Option.none):H l=Option.none:=by
 cases q:H l with
 | none=>rfl
 | some o =>
  rw [e l o q] at h;cases h
def ltV:V->V->Bool
 | .int a,.int b=>decide (a<b)
 | .str a,.str b=>decide (a.cps.toList<b.cps.toList)
 | _,_=>false
def y8:V->V->Prop
 | .int _,.int _=>True
 | .str _,.str _=>True
 | _,_=>False
def bw:List V->List V->Bool
 | [],[]=>false
 | [],_::_=>true
 | _::_,[]=>false
 | x::xs,y::ys=>if x=y then bw xs ys else ltV x y
theorem aP (x y:V)(xs ys:List V):bw (x::xs) (y::ys)=if x=y then bw xs ys else ltV x y:=rfl
def oO:List V->List V->Prop
 | x::xs,y::ys=>y8 x y/\oO xs ys
 | _,_=>True
theorem dh (a c:Str):((a == c)=true)↔a=c:=by simp
theorem bY {a c:V}{v:Value}(A:Around)(s:Shared)(h:y8 a c)(I:RelV a v)(O:RelV c u):∃ e,SeqAt.EqAt A s v u e/\(e=true↔a=c):=by
 cases a with
 | int i =>
  cases c with
  | int j =>
   obtain ⟨t,rfl⟩:=I;obtain ⟨T,rfl⟩:=O;exact ⟨_,SeqAt.EqAt.int_int i t j T,Dd⟩
  | _=>exact h.elim
 | str i =>
  cases c with
  | str j =>
   obtain ⟨t,rfl⟩:=I;obtain ⟨T,rfl⟩:=O;exact ⟨_,SeqAt.EqAt.str_str i t j T,Dd⟩
  | _=>exact h.elim
 | _=>exact h.elim
theorem jp {a c:V}{v:Value}(A:Around)(s:Shared)(h:y8 a c)(I:RelV a v)(O:RelV c u)(prog:Program)(w:World)(q:Q (.bool (ltV a c)) s):
  wpAny (model prog w) A (richCompare .Lt v u) Q E s:=by
 cases a with
 | int i =>
  cases c with
  | int j =>
   obtain ⟨t,rfl⟩:=I;obtain ⟨T,rfl⟩:=O;exact (PyProof.Rows.lt_int q:wpAny (model prog w) A (compareOp .Lt (.int i t) (.int j T)) Q E s)
  | _=>exact h.elim
 | str i =>
  cases c with
  | str j =>
   obtain ⟨t,rfl⟩:=I;obtain ⟨T,rfl⟩:=O;exact (PySem.P.lt_str q:wpAny (model prog w) A (compareOp .Lt (.str i t) (.str j T)) Q E s)
  | _=>exact h.elim
 | _=>exact h.elim
section
open PySem.SeqAt
open PySem.AutoSeq1 (wpAny_loadPart')
open PySem.MeetsSeq PySem.MeetsSeq2 PySem.MeetsSeq3
theorem i4 (l b:Addr)(items T:Array Value)(n n2:Nat)(dd eo:Option Addr)(sl es:Array (Option Value))(xs ys:List V)(hi:Vals xs items.toList)(hj:Vals ys T.toList)(hf:oO xs ys):
  Meets (Builtin.«tuple.__lt__» ⟨[.ref l,.ref b],[]⟩)
   (fun _ R s=>s.heap.get? l=some { cls:=.type "tuple",dict:=dd,data:=.seq items n,slots:=sl }/\s.heap.get? b=some { cls:=.type "tuple",dict:=eo,data:=.seq T n2,slots:=es } /\
    R (.ok (.ret (.bool (bw xs ys)))) s) :=
 .of_wp fun prog w A R s h=>by
  obtain ⟨hp,g,d,tk,os⟩:=s;obtain ⟨hl,hb,h⟩:=h;have f2:=AutoSeq1.sub_tuple_tuple;have z1:items.size=xs.length:=by rw [hi.length];simp
  have z2:T.size=ys.length:=by rw [hj.length];simp
  wp_walk using wpAny_loadPart' hl,wpAny_loadPart' hb,wpAny_forIn_list _ (fun rest b s'=>b.1=none/\s'=⟨hp,g,d,tk,os⟩/\∃ (vs ws:List Value) (S I:List V),rest=vs.zip ws /\
   Vals S vs/\Vals I ws/\oO S I/\S.length+T.size=I.length+items.size/\R (.ok (.ret (.bool (bw S I)))) ⟨hp,g,d,tk,os⟩) _
  case turn =>
   rintro ⟨y,x⟩ rest b s' ⟨G,rfl,vs,ws,S,I,M,J,U,ee,O,Y⟩;cases J with
   | nil=>rw [List.zip_nil_left] at M;cases M
   | @cons a v as vs' ra hvi' =>
    cases U with
    | nil=>rw [List.zip_nil_right] at M;cases M
    | @cons c u cs ws' rc hwi' =>
     rw [Fi] at M;injection M with hyx hrest;injection hyx with hy hx;subst hy hx;simp only [Dw] at O;obtain ⟨et,ea⟩:y8 a c/\oO as cs:=ee;obtain ⟨e,he,W⟩:=bY A.in1 ⟨hp,g,d,tk,os⟩ et ra rc;refine Dh (he prog w _ _ ?_);cases e with
     | true =>
      have P:=W.mp rfl;have F:R (.ok (.ret (.bool (bw as cs)))) ⟨hp,g,d,tk,os⟩:=by
       subst P;rw [aP,Dm rfl] at Y;exact Y
      wp_walk
      exact ⟨rfl,rfl,_,_,_,_,hrest,hvi',hwi',ea,Dc,F⟩
     | false =>
      have P:¬ a=c:=fun q=>absurd (W.mpr q) Dy;have F:R (.ok (.ret (.bool (ltV a c)))) ⟨hp,g,d,tk,os⟩:=by rw [aP,Di (by intro q;exact P q)] at Y;exact Y
      have ei:=fun E Q h=>jp (E:=E) (Q:=Q) A.in1 ⟨hp,g,d,tk,os⟩ et ra rc prog w h
      wp_walk using ei
      exact ⟨_,rfl,by simpa using F⟩
  case fin =>
   rintro ⟨b1,b2⟩ s' ⟨G,rfl,vs,ws,S,I,M,J,U,ee,O,Y⟩;simp only at G;subst G;have hv:bw S I=decide (items.size<T.size):=by
    cases J with
    | nil =>
     cases U with
     | nil =>
      simp only [EZ] at O;rw [show bw [] []=false from rfl];exact (DF Dc).symm
     | cons ru hw =>
      simp only [EZ,Dw] at O;exact (Dk Dc).symm
    | cons ra hv =>
     cases U with
     | nil =>
      simp only [EZ,Dw] at O;exact (DF Dc).symm
     | cons ru hw =>
      rw [Fi] at M;cases M
   rw [hv] at Y
   wp_walk
   exact ⟨_,rfl,by simpa [Builtin.Tuple.tupleCompareSizes] using Y⟩
  case h =>
   exact ⟨rfl,rfl,items.toList,T.toList,xs,ys,rfl,hi,hj,hf,Dc,h⟩
end
def CA (K:W.Frag):R2:=fun x y H Q=>∃ a b xs ys,x=.ref a/\y=.ref b/\SqT K H a xs/\SqT K H b ys/\oO xs ys/\Q (.bl (bw xs ys)) H
theorem lW (hu:X.A.units<cLine):OpR X (compareOp .Lt) (CA X.K):=by
 intro pins s Z H x y v u Q I rx ry h;obtain ⟨a,b,xs,ys,rfl,rfl,ha,hb,hf,q⟩:=h;cases rx;cases ry;obtain ⟨its,r1,p1,_⟩:=I.tuple ha;obtain ⟨G,r2,P,_⟩:=I.tuple hb;obtain ⟨⟨cls,dd,Y,sl⟩,W,M,n,hd⟩:=id p1;obtain ⟨⟨F,S,R,U⟩,c,O,J,T⟩:=id P;simp only at M hd O T;subst M hd O T;exact Gu (op:=.Lt) ⟨_,W,rfl⟩ ⟨_,c,rfl⟩ GI Gv (Gj _ _) (i4 a b _ _ n J dd S sl U xs ys r1 r2 hf)
  ⟨W,c,show Value.bool (bw xs ys)≠Value.notImplemented/\EP X pins Z Q (.bool (bw xs ys)) s from ⟨(fun x=>nomatch x),.bl _,H,I,rfl,q⟩⟩ hu
def jb (A B:KeyOrd):KeyOrd where
 α:=A.α×B.α
 blt p q:=A.blt p.1 q.1 || (!A.blt q.1 p.1&&B.blt p.2 q.2)
 irrefl a:=by rw [A.irrefl,B.irrefl];rfl
 trans a b c h1 h2:=by
  rw [GW,DP,Gz] at *;rcases h1 with h1 | ⟨h1,k1⟩
  .rcases h2 with h2 | ⟨h2,k2⟩
   .exact .inl (A.trans _ _ _ h1 h2)
   .exact .inl (KeyOrd.klt_of_klt_of_kle (O:=A) h1 h2)
  .rcases h2 with h2 | ⟨h2,k2⟩
   .exact .inl (KeyOrd.klt_of_kle_of_klt (O:=A) h1 h2)
   .exact .inr ⟨Fe (O:=A) h1 h2,B.trans _ _ _ k1 k2⟩
 negTrans a b c h:=by
  rw [GW,DP,Gz] at *;rw [GW,DP,Gz];rcases h with h | ⟨h,k⟩
  .cases e:A.blt a.1 b.1 with
   | true=>exact .inl (.inl rfl)
   | false =>
    cases e2:A.blt b.1 c.1 with
    | true=>exact .inr (.inl rfl)
    | false =>
     rcases A.negTrans _ b.1 _ h with z | z
     .rw [z] at e;cases e
     .rw [z] at e2;cases e2
  .cases e:A.blt a.1 b.1 with
   | true=>exact .inl (.inl rfl)
   | false =>
    cases e2:A.blt b.1 c.1 with
    | true=>exact .inr (.inl rfl)
    | false =>
     have e3:A.blt b.1 a.1=false:=Fe (O:=A) h e2;have e4:A.blt c.1 b.1=false:=Fe (O:=A) e h;rcases B.negTrans _ b.2 _ k with z | z
     .exact .inl (.inr ⟨e3,z⟩)
     .exact .inr (.inr ⟨e4,z⟩)
 total a b h1 h2:=by rw [Bool.or_eq_false_iff] at h1 h2;obtain ⟨a1,b1⟩:=h1;obtain ⟨a2,b2⟩:=h2;rw [a2] at b1;rw [a1] at b2;exact Prod.ext (A.total _ _ a1 a2) (B.total _ _ (by simpa using b1) (by simpa using b2))
def ja:KeyOrd where
 α:=Int
 blt a b:=decide (a<b)
 irrefl a:=by simp
 trans a b c h1 h2:=by simp only [Ed] at *;lia
 negTrans a b c h:=by simp only [Ed] at *;lia
 total a b h1 h2:=by simp only [decide_eq_false_iff_not] at *;lia
def enOrd:KeyOrd:=jb ja (jb strKind.toKeyOrd ja)
def bX:List V->enOrd.α
 | [.int i,.str x,.int j]=>(i,x.cps.toList,j)
 | _=>((0:Int),([]:List Nat),(0:Int))
def eI (l:List V):Prop:=∃ i x j,l=[.int i,.str x,.int j]
theorem cF {a b:Str}(h:a.cps.toList=b.cps.toList):a=b:=by
 cases a with | mk c=>cases b with | mk d=>congr 1;exact Array.toList_inj.mp h
theorem fq {a b:List V}(M:eI a)(F:eI b):enOrd.blt (bX a) (bX b)=bw a b:=by
 obtain ⟨i,x,j,rfl⟩:=M;obtain ⟨O,c,S,rfl⟩:=F;show (decide (i<O) || (!decide (O<i)&&(decide (x.cps.toList<c.cps.toList) || (!decide (c.cps.toList<x.cps.toList)&&decide (j<S)))))=_;rw [aP];by_cases R:i=O
 .subst R;rw [Dm rfl,aP];simp only [Int.lt_irrefl,decide_false,IX,Bool.not_false,Gk];by_cases T:x=c
  .subst T;rw [Dm rfl,aP];have e:decide (x.cps.toList<x.cps.toList)=false:=by simpa using List.lt_irrefl x.cps.toList
   rw [e];simp only [IX,Bool.not_false,Gk];by_cases I:j=S
   .subst I;rw [Dm rfl];simp [bw]
   .rw [Di (by intro z;cases z;exact I rfl)];rfl
  .rw [Di (by intro z;cases z;exact T rfl)];show _=decide (x.cps.toList<c.cps.toList);cases e:decide (x.cps.toList<c.cps.toList) with
   | true=>rfl
   | false =>
    have U:¬ x.cps.toList<c.cps.toList:=Hb e;have W:c.cps.toList<x.cps.toList:=by
     rcases Classical.em (c.cps.toList<x.cps.toList) with z | z
     .exact z
     .exact absurd (cF (List.le_antisymm (IS.mp z) (IS.mp U))) T
    rw [Dk W];rfl
 rw [Di (by intro z;cases z;exact R rfl)];show _=decide (i<O);by_cases T:i<O
 .rw [Dk T];rfl
 have I:O<i:=by lia
 rw [DF T,Dk I];rfl
def gE:Value->V
 | .ref a=>.ref a
 | _=>.non
theorem AT {a b:List V}(c:eI a)(T:eI b):oO a b:=by obtain ⟨i,x,j,rfl⟩:=c;obtain ⟨I,O,S,rfl⟩:=T;exact ⟨trivial,trivial,trivial,trivial⟩
section
variable {X:Cx}
theorem zS {x z:V}(r:Vals [x,y,z] us):∃ u v w,us=[u,v,w]/\RelV x u/\RelV y v/\RelV z w:=by
 cases r with
 | cons r1 r2 =>
  cases r2 with
  | cons r3 r4 =>
   cases r4 with
   | cons r5 r6=>cases r6;exact ⟨_,_,_,rfl,r1,r3,r5⟩
end
def Cx.blk (X:Cx)(scope:Scope)(cl:List (Str×Addr))(C:Addr)(NB:List Str)(fp:List Addr)(s₀:Shared)(H₀:Hp):Cx :=
 { X with N:=NB,s₀:=s₀,H₀:=H₀,env:=compEnvC scope cl C X.env,outer:=X.stack,ex:=X.ex++fp,fn:=fun _=>false,pn:=[],xe:=fun _ _=>False }
structure Bx (X:Cx)(scope:Scope)(cl:List (Str×Addr))(NB:List Str)(cap:List Nat):Prop where
 clos:closureFor scope X.env=pure cl
 nocell:∀y∈scope.names,y.2≠.cell
 kind:scope.kind=.function
 names:∀y∈scope.names,y.2=.local->scope.names.lookup y.1=some .local
 cells:∀y c,cl.lookup y=some c->X.env.cells.lookup y=some c
 has:∀y,((relabel scope X.env).names.lookup y=some .cell∨(relabel scope X.env).names.lookup y=some .free)->∃ c,cl.lookup y=some c
 len:cap.length=NB.length
 cap:∀(j i:Nat),cap[j]?=some i->∃ y,NB[j]?=some y/\X.N[i]?=some y/\Vis X.env.scope y/\(X.env.kindOf y=some .cell∨X.env.kindOf y=some .free)/\((relabel scope X.env).names.lookup y=some .cell∨(relabel scope X.env).names.lookup y=some .free)
structure Blk (X:Cx)(scope:Scope)(cl:List (Str×Addr))(x:Str)(NB:List Str)(cap:List Nat):Prop where
 c:Bx X scope cl NB cap
 own:scope.names.lookup x=some .local
 nd:(x::NB).Nodup
def bR (cap:List Nat)(Z:St):St:=cap.map fun i=>Z[i]?.join
def CW (J:It)(tt:TT)(te:TE)(cap:List Nat)(Z:St)(H0:Hp)(D:Addr)(R:Hp->Prop):Prop:=∃ W:Nat->Nat->List V->Hp->Prop,(∃ m,W 0 m [] (upd H0 D (.lst [])))/\∀i m ys H,W i m ys H->H D=some (.lst ys) /\
  ((J.stop i H/\R H)∨(J.go i H/\∀x H',J.yld i H x H'->tt (some x::bR cap Z) H' fun b H3 =>
   if b=true then te (some x::bR cap Z) H3 fun v H4=>H4 D=some (.lst ys)/\ys.length<sizeLine/\∃ m',m'<m/\W (i+1) m' (ys++[v]) (upd H4 D (.lst (ys++[v])))
   else ∃ m',m'<m/\W (i+1) m' ys H3))
def xY (wi:TI)(tt:TT)(te:TE)(cap:List Nat):TE:=fun Z H Q=>wi Z H fun J H1=>∀D,H1 D=none ->
 CW J tt te cap Z H1 D (fun H=>Q (.ref D) H)
def PTs (X:Cx)(ifs:List Expr)(t:TT):Prop :=
 ∀(pins:List (Addr×Obj)) (s:Shared) (Z:St) (H:Hp) (Q:Bool->Hp->Prop),Inv X pins Z H s->t Z H Q ->
  wpAny (model X.prog X.w) X.A (forIn ifs true fun c r=>if r=true then do let ok <-isTrue c X.env (eval c X.env);pure (ForInStep.yield ok) else pure (ForInStep.yield r)) (TP X pins Z Q) X.xe s
def AG:TT:=fun _ H Q=>Q true H
theorem cY {τ:St}{A B:Hp->Prop}(h:A H):AG τ H fun b c=>if b=true then A c else B c:=by show if true=true then A H else B H;rw [Dm rfl];exact h
theorem mG {R:Result->Shared->Prop}{T:Expr}{U O:Value}(I:Nat->Shared->Prop)(turn:∀n s,I n s->wpAny (model prog w) A (pyNext U) (fun r W=>match r with
   | none=>R (.ok .next) W
   | some v=>wpAny (model prog w) A (letOwnedTupleGo T U v) (fun _ S=>wpAny (model prog w) A (assign T env v) (fun _ G =>
     wpAny (model prog w) A (forIn ifs true fun c r=>if r=true then do let ok <-isTrue c env (eval c env);pure (ForInStep.yield ok) else pure (ForInStep.yield r)) (fun ok M =>
      if ok=true then wpAny (model prog w) A (eval elt env) (fun x P =>
       wpAny (model prog w) A (call (.builtin "list.append") [O,x]) (fun _ J=>∃ m,m<n/\I m J) (fun _ _=>False) P) (fun _ _=>False) M
      else ∃ m,m<n/\I m M) (fun _ _=>False) G) (fun _ _=>False) S) (fun _ _=>False) W) (fun _ _=>False) s)(n:Nat)(h:I n s):codeAny (model prog w) A (.compLoop (.ListComp elt [⟨T,iter,ifs,0⟩] scope pos) 0 U O env) R s:=by
 refine codeAny_loop rfl I (fun n s hI=>?_) n h;show wpAny _ A ((compTurn (.ListComp elt [⟨T,iter,ifs,0⟩] scope pos) 0 U O env).onRaise (fun x=>do noteFrame x env;theTreesLotGoes x)) _ _ s;refine wpAny_noted ?_;rw [compTurn_list];refine Dh (Hv (Dh (Ew (turn n s hI) (fun r W h₁=>?_) fun _ _ z=>z.elim)));cases r with
 | none=>exact Dx h₁
 | some v =>
  refine Dh (Ew h₁ (fun _ S F=>?_) fun _ _ z=>z.elim);refine Dh (Ew F (fun _ G h₂=>Dh (Ew h₂ (fun ok M Y=>?_) fun _ _ z=>z.elim)) fun _ _ z=>z.elim);cases ok with
  | false=>exact Dx ⟨rfl,Y⟩
  | true =>
   exact Dh (Dh (Ew Y (fun x P h₄=>Dh (Ew h₄ (fun _ J h₅=>Dx (Dx ⟨rfl,h₅⟩)) fun _ _ z=>z.elim)) fun _ _ z=>z.elim))
structure Bb (X:Cx)(pins:List (Addr×Obj))(H:Hp)(C:Addr)(s:Shared):Prop where
 ns:∃ m,s.heap.Ns C m
 fp:om X pins H C
theorem rQ {τ:St}{j:Nat}{v:V}(e:(ns.map (fun _=>none)++τ)[j]?=some (some v)):ns.length<=j/\τ[j-ns.length]?=some (some v):=by
 by_cases c:j<ns.length
 .rw [EF (by rw [Dg];exact c),DN,bt c] at e;cases e
 rw [ER (by rw [Dg];lia),Dg] at e;exact ⟨Dc,e⟩
theorem jz {gt:TG}{cl:List (Str×Addr)}{Q:VK}{R:Value->Shared->Prop}{A:It->Hp->Prop}(B:Bx X scope cl NB cap)(hc:X.calm=true)(et:X.ex=[])(hi:PI X tg iter wi)(hg:∀C fp s₀ H₀,PG (X.blk scope cl C (ns++NB) fp s₀ H₀) tg gt)(ht:∀C fp s₀ H₀,PTs (X.blk scope cl C (ns++NB) fp s₀ H₀) ifs tt)(he:∀C fp s₀ H₀,PE (X.blk scope cl C (ns++NB) fp s₀ H₀) elt te)(hs:∀v,foldedSetIterable iter X.env v=pure v)(I:Inv X pins Z H s)(h:wi Z H A)(hA:∀J H1,A J H1->∀D,H1 D=none->∃ W:Nat->Nat->List V->Hp->Prop,(∃ m,W 0 m [] (upd H1 D (.lst [])))/\∀i m ys H,W i m ys H->H D=some (.lst ys) /\
   ((J.stop i H/\Q (.ref D) H)∨(J.go i H/\∀x H',J.yld i H x H'->gt x (ns.map (fun _=>none)++bR cap Z) H' fun τ H6=>∃ pr:St,pr.length=ns.length/\τ=pr++bR cap Z/\H6=H'/\tt τ H' fun b H3 =>
    if b=true then te τ H3 fun v H4=>H4 D=some (.lst ys)/\ys.length<sizeLine/\∃ m',m'<m/\W (i+1) m' (ys++[v]) (upd H4 D (.lst (ys++[v])))
    else ∃ m',m'<m/\W (i+1) m' ys H3)))(eG:∀(D C:Addr) (H':Hp) (s':Shared),Inv X pins Z H' s'->Bb X pins H' C s'->Q (.ref D) H'->compPost (model X.prog X.w) X.A X.xe use R (.ref D) C (.ok .next) s'):
  wpAny (model X.prog X.w) X.A (comprehension (.ListComp elt [⟨tg,iter,ifs,0⟩] scope pos) scope X.env pos' (newList []) false (eval iter X.env) use) R X.xe s:=by
 refine wpAny_comprehension_free (use:=use) rfl hs B.clos B.kind B.names (thn (hi pins s Z H _ I h) fun v s1 h1=>thn h1 fun e5 s2 h2=>?_);obtain ⟨it,fp,tn,J,H2,e,I2,T,ek,f2,h2⟩:=h2;subst e;refine EU (wpAny_newFunctionEnv B.nocell (by intro y hy;simp at hy) (fun h₁ G F=>?_) B.kind);dsimp only at G F ⊢;have S:=I2.lnew (ys:=[]) (its:=[]) (t':=s2.toks) .nil (D6 _);have hD:=I2.fresh;obtain ⟨W,⟨m0,w0⟩,turn⟩:=hA _ _ h2 _ hD;generalize eD:s2.heap.objs.size=D at hD S W w0 turn ⊢;generalize ey:s2.heap.push { cls:=.type "list",dict:=none,data:=.seq ([]:List Value).toArray }=G3 at G F S ⊢;generalize eW:upd H2 D (.lst [])=H3 at S w0;have hC:G3.objs.size=D+1:=by rw [<-ey,IM,eD]
 generalize eC:G3.objs.size=C at G F hC ⊢;have ee:∀b o,G3.get? b=some o->h₁.get? b=some o:=fun b o e =>
  F.extBut b o (by rw [<-eC];exact DZ (DM e)) (Dt _ e)
 have ed:∀b o,s2.heap.get? b=some o->G3.get? b=some o:=fun b o e=>by rw [<-ey];exact Dt _ e
 have er:∀b∈fp,b<D:=fun b O=>by obtain ⟨o,e,_⟩:=T.obj 0 _ ek b O;rw [<-eD];exact DM e
 have ew:∀b∈fp,b∉frs X.stack:=fun b O z=>by
  obtain ⟨f0,f1,ef,_⟩:=f2 b O;rcases ax.mp (I2.stkSub b z) with q | q
  .exact f1 q
  .exact ef q
 let Y:Cx:=X.blk scope cl C (ns++NB) fp { s2 with heap:=G3,toks:=s2.toks } H3;have eZ:Y.Ok:=by
  refine ⟨S.ok.mod,B.kind,S.ok.glob,S.ok.blt,?_,?_,B.has,?_,S.ok.hd,S.ok.frames,.inl rfl,?_,S.bs,?_,?_,?_,S.stack,S.stkFree⟩
  .show G3.objs.size<=C;lia
  .intro y z c e1 e2;exact S.ok.inj y z c (B.cells y c e1) (B.cells z c e2)
  .intro y c z;cases z
  .intro b O;have U:b∈fp:=by have:b∈X.ex++fp:=O;rw [et] at this;simpa using this
   refine ⟨?_,fun y c e=>(f2 b U).2.2.2.2.1 y c (B.cells y c e)⟩;show b≠C;exact DZ (DW (er b U) (by rw [hC];exact ET _))
  .show X.base.objs.size<=G3.objs.size;exact Dq S.ok.bsz S.sz
  .intro b o e O;have U:b∈fp:=by have:b∈X.ex++fp:=O;rw [et] at this;simpa using this
   rcases (f2 b U).2.2.2.1 with z | z
   .rw [et] at z;cases z
   .exact absurd (DW (DW (DM e) S.ok.bsz) z) (Fg _)
  .intro b O;have U:b∈fp:=by have:b∈X.ex++fp:=O;rw [et] at this;simpa using this
   exact ew b U
 have IY:Inv Y [] (ns.map (fun _=>none)++bR cap Z) H3 { s2 with heap:=h₁,toks:=s2.toks }:=by
  refine ⟨eZ,rfl,S.bare,Un.kept ee,⟨_,G,?_⟩,?_,?_,?_,?_,S.hok.kept ee,?_⟩
  .intro j y v e1 e2 hv;obtain ⟨lj,M⟩:=rQ e2;have eg:NB[j-ns.length]?=some y:=(ER lj).symm.trans e1;generalize j-ns.length=j at eg M
   .unfold bR at M;rw [DN] at M;cases ec:cap[j]? with
    | none=>rw [ec] at M;cases M
    | some i =>
     rw [ec] at M;have e3:Z[i]?.join=some v:=DJ M;have e4:Z[i]?=some (some v):=by
      cases q:Z[i]? with
      | none=>rw [q] at e3;cases e3
      | some z=>rw [q] at e3;exact congrArg some e3
     obtain ⟨y',n1,n2,n3,n4,n5⟩:=B.cap j i ec;rw [eg] at n1;cases n1;obtain ⟨m,hn,hl⟩:=S.loc;obtain ⟨u,r,lk⟩:=hl i y v n2 e4 n3;refine ⟨u,r,.inr ⟨n5,?_⟩⟩;obtain ⟨c,ej⟩:=B.has y n5;refine ⟨c,ej,?_⟩;rcases lk with ⟨k1,_⟩ | ⟨_,c',eS,ez⟩
     .rcases n4 with n4 | n4 <;> (rw [n4] at k1;cases k1)
     .rw [B.cells y c ej] at eS;cases eS;obtain ⟨o,ho,hd⟩:=ez;exact ⟨o,ee c o ho,hd⟩
  .intro y c e;obtain ⟨v,o,ho,hd⟩:=S.cell y c (B.cells y c e);exact ⟨v,o,ee c o ho,hd⟩
  .exact S.hok.fresh (show G3.objs.size<=C by lia)
  .intro y c e;exact S.freeC y c (B.cells y c e)
  .intro p hp;cases hp
  .show (ns.map (fun _=>none)++bR cap Z).length=(ns++NB).length;unfold bR;rw [Ds,Ds,Dg,Dg,B.len]
 have ei:∀{H':Hp},(∀b∈fp,H' b=none)->∀b∈fp,om Y [] H' b:=fun {H'} hn b O=>by
  refine ⟨hn b O,?_,ew b O,.inl ?_,fun y c e=>(f2 b O).2.2.2.2.1 y c (B.cells y c e),fun p hp=>by cases hp⟩
  .show b≠C;exact DZ (DW (er b O) (by rw [hC];exact ET _))
  .show b∈X.ex++fp;exact DE _ O
 have eA:tn 0 h₁:=T.keep _ _ _ ek fun b O o e=>ee b o (ed b o e);have eH:∀b∈fp,H3 b=none:=fun b O=>by rw [<-eW,af (DZ (er b O))];exact (f2 b O).1
 have es:∀(H':Hp) (s':Shared),Inv Y [] (ns.map (fun _=>none)++bR cap Z) H' s'->Q (.ref D) H'->compPost (model X.prog X.w) X.A X.xe use R (.ref D) C (.ok .next) s':=by
  intro H' s' I' q;obtain ⟨m,hn,_⟩:=id I'.loc;have u:=I'.base;have I5:Inv X pins Z H' s':=by
   refine S.call' (s':=s') (ch:=X.ex++fp) I'.os u I'.hok I'.bare fun b O=>?_;have U:b∈fp:=by rw [et] at O;simpa using O
   obtain ⟨f0,f1,ef,f3,f4,f5⟩:=f2 b U;exact ⟨f3,f1,f4,f5⟩
  exact eG D C H' s' I5 ⟨⟨m,hn⟩,S.fpOk (show G3.objs.size<=C by rw [eC];exact Dj _) I'.free⟩ q
 have eo:∀s₄:Shared,s₄={ s2 with heap:=h₁,toks:=s2.toks } ->
   codeAny (model X.prog X.w) X.A (.compLoop (.ListComp elt [⟨tg,iter,ifs,0⟩] scope pos) 0 (.ref it) (.ref D) (compEnvC scope cl C X.env)) (compPost (model X.prog X.w) X.A X.xe use R (.ref D) C) s₄:=by
  rintro s₄ rfl;refine mG (fun n s'=>∃ i ys H',Inv Y [] (ns.map (fun _=>none)++bR cap Z) H' s'/\tn i s'.heap/\(∀b∈fp,H' b=none)/\W i n ys H') ?_ m0 ⟨0,[],H3,IY,eA,eH,w0⟩;rintro n s3 ⟨i,ys,H',I',el,eb,w'⟩;obtain ⟨e0,tr⟩:=turn i n ys H' w';rcases tr with ⟨eN,q⟩ | ⟨go,step⟩
  .refine thn (T.done Y rfl rfl rfl hc i [] s3 _ H' (fun _ _=>False) I' (ei eb) el eN) fun r s4 ⟨hr,I4⟩=>?_;subst hr;exact es H' s4 I4 q
  .refine thn (T.item Y rfl rfl rfl hc i [] s3 _ H' (fun _ _=>False) I' (ei eb) el go) fun r s4 P=>?_;obtain ⟨u,hr,h4⟩:=P;subst hr;refine thn h4 fun _ s5 P=>?_;obtain ⟨v,H5,I5,r5,y5,eh,eL⟩:=P;have eB:=I5.pinned (ei eL) (T.obj _ _ eh);have ea:∀{pr:St} {H7:Hp} {s7:Shared},pr.length=ns.length->Inv Y ([]++jy fp s5.heap) (pr++bR cap Z) H7 s7->Inv Y [] (ns.map (fun _=>none)++bR cap Z) H7 s7/\tn (i+1) s7.heap/\∀b∈fp,H7 b=none:=fun {pr H7 s7} lp I7=>by
    refine ⟨I7.unpinned.weak (by rw [Ds,Ds,Dg,lp]) fun j z e=>?_,T.keep _ _ _ eh fun b O o e=>(I7.pin (b,o) (DE _ (DE _ (dM O e)))).1,fun b O=>?_⟩
    .obtain ⟨lj,e⟩:=rQ e;rw [ER Dc,lp];exact e
    .obtain ⟨o,e,d⟩:=T.obj _ _ eh b O;exact (I7.pin (b,o) (DE _ (DE _ (dM O e)))).2.1
   refine thn (hg C fp _ _ _ s5 _ H5 v u _ eB r5 (step v H5 y5)) fun _ s6 P=>?_;obtain ⟨σ6,H6,I6,pr,lp,e6,eF,step⟩:=P;subst e6 eF;refine thn (ht C fp _ _ _ s6 _ H6 _ I6 step) fun ok s7 P=>?_;obtain ⟨H7,I7,q7⟩:=P;cases ok with
   | false =>
    simp only [El,FF] at q7 ⊢;obtain ⟨m',hm,w7⟩:=q7;obtain ⟨a,b,c⟩:=ea lp I7;exact ⟨m',hm,i+1,ys,H7,a,b,c,w7⟩
   | true =>
    simp only [GU] at q7 ⊢;refine thn (he C fp _ _ _ s7 _ H7 _ I7 q7) fun u8 s8 P=>?_;obtain ⟨v8,H8,I8,r8,q8⟩:=P;obtain ⟨d8,l8,m',hm,w8⟩:=q8;refine thn (cg (X:=Y) _ s8 _ H8 (.ref D) [v8] (.ref D) [u8] (fun _ H9=>H9=upd H8 D (.lst (ys++[v8]))) I8 rfl (.cons r8 .nil) ⟨D,ys,v8,rfl,rfl,d8,l8,rfl⟩) fun _ s9 P=>?_;obtain ⟨_,H9,I9,_,e9⟩:=P;subst e9;obtain ⟨a,b,c⟩:=ea lp I9;exact ⟨m',hm,i+1,ys++[v8],_,a,b,c,w8⟩
 refine codeAny_compStart_list (eo _ ?_) (T.self _ 0 _ _ _ ?_ (eo _ ?_))
 .rfl
 .exact eA
 rfl
theorem kC {cl:List (Str×Addr)}{Q:VK}{R:Value->Shared->Prop}(B:Blk X scope cl x NB cap)(F:X.calm=true)(O:X.ex=[])(hi:PI X (.Name x px) iter wi)(M:∀C fp c T,PTs (X.blk scope cl C (x::NB) fp c T) ifs tt)(he:∀C fp c T,PE (X.blk scope cl C (x::NB) fp c T) elt te)(Y:∀v,foldedSetIterable iter X.env v=pure v)(I:Inv X pins Z H s)(h:xY wi tt te cap Z H Q)(S:∀(D C:Addr) (H':Hp) (s':Shared),Inv X pins Z H' s'->Bb X pins H' C s'->Q (.ref D) H'->compPost (model X.prog X.w) X.A X.xe use R (.ref D) C (.ok .next) s'):
  wpAny (model X.prog X.w) X.A (comprehension (.ListComp elt [⟨.Name x px,iter,ifs,0⟩] scope pos) scope X.env pos' (newList []) false (eval iter X.env) use) R X.xe s:=by
 refine jz (ns:=[x]) B.c F O hi (fun C fp c T=>iH (i:=0) B.nd rfl (.inl (E3 B.own)) (.inr (E3 B.own))) M he Y I h (fun J H1 a D G=>?_) S;obtain ⟨W,P,st⟩:=a D G;exact ⟨W,P,fun i m ys H' w=>⟨(st i m ys H' w).1,(st i m ys H' w).2.imp id fun z=>⟨z.1,fun x U y=>⟨[some x],rfl,rfl,rfl,z.2 x U y⟩⟩⟩⟩
section
variable {X:Cx}
theorem wY (R:X.A.units<cLine):OpR X (compareOp .Eq) (fun x y H Q=>∃ a b xs,x=.ref a/\y=.ref b/\SqL X.K H a xs/\SqL X.K H b []/\Q (.bl (decide (xs=[]))) H):=by
 intro pins s Z H x y v u Q I F Y h;obtain ⟨a,b,xs,rfl,rfl,U,G,q⟩:=h;cases F;cases Y;obtain ⟨its,S,c,_⟩:=I.list U;obtain ⟨T,M,O,_⟩:=I.list G;cases M;cases xs with
 | nil =>
  cases S;exact SeqAt.eq_listAt (e:=fun _=>true) c.isList O.isList rfl R (fun j W _=>absurd W Dd) ⟨.bl true,H,I,rfl,by simpa using q⟩
 | cons z zs =>
  cases S with
  | cons _ _=>exact SeqAt.eq_list_lengthsAt c.isList O.isList Dd R ⟨.bl false,H,I,rfl,by simpa using q⟩
theorem nQ (R:X.A.units<cLine):OpR X (compareOp .NotEq) (fun x y H Q=>∃ a b xs,x=.ref a/\y=.ref b/\SqL X.K H a xs/\SqL X.K H b []/\Q (.bl (!decide (xs=[]))) H):=by
 intro pins s Z H x y v u Q I F Y h;obtain ⟨a,b,xs,rfl,rfl,U,G,q⟩:=h;cases F;cases Y;obtain ⟨its,S,c,_⟩:=I.list U;obtain ⟨T,M,O,_⟩:=I.list G;cases M;cases xs with
 | nil =>
  cases S;exact SeqAt.RcNeAt.lists (e:=fun _=>true) c.isList O.isList rfl R (fun j W _=>absurd W Dd) _ _ _ _ ⟨.bl false,H,I,rfl,by simpa using q⟩
 | cons z zs =>
  cases S with
  | cons _ _=>exact SeqAt.RcNeAt.lists_lengths c.isList O.isList Dd R _ _ _ _ ⟨.bl true,H,I,rfl,by simpa using q⟩
theorem xf:cv X (.builtin "isinstance") (fun zs H Q=>∃ x T t b,zs=[x,.ty T]/\gk X.K H x t/\W.kitOne X.K t (.type T)=some b/\Q (.bl b) H):=by intro pins s Z H zs us Q I r h;obtain ⟨x,T,t,b,rfl,ty,e,q⟩:=h;obtain ⟨u,S,rfl,O,c⟩:=xz r;cases c;exact uZ I O ty e fun tk=>⟨.bl b,H,I.tok _,rfl,q⟩
end
def BH (_ j:Int):Prop:=0<j/\j<2 ^ 200
theorem bo:OpR X (binaryOp .FloorDiv) (rI BH fun i j=>.int (i / j)):=opI fun i j _ _ _ _ _ c q=>by
 have S:(0:Int)<j:=c.1;have O:j<2 ^ 200:=c.2;rw [<-Int.fdiv_eq_ediv_of_nonneg i Dc] at q;refine floordiv_int Dc q (.inl (PyProof.noPylong_of_log2 ?_));have T:j.natAbs<2 ^ 200:=by lia
 have I:j.natAbs.log2<200:=(IT Dc).mpr T;lia
structure Bl (mg:Str->Option Value):Prop where
 z_len:mg "len"=none
 z_sum:mg "sum"=none
 z_abs:mg "abs"=none
 z_range:mg "range"=none
 z_list:mg "list"=none
 z_tuple:mg "tuple"=none
 z_int:mg "int"=none
 z_bool:mg "bool"=none
 z_sorted:mg "sorted"=none
 z_isinstance:mg "isinstance"=none
structure Nm (K:W.Frag)(mg:Str->Option Value)(x:Str)(a:Addr)(fd:FuncData)(ps:List Str):Prop where
 m:mg x=some (.ref a)
 k:W.keepIn K (.ref a)=true
 b:Binds K fd ps []
theorem xy {c:List Int}{i:Int}(O:0<=i)(I:i<c.length):atI (c.map V.int) i=some (.int (c.getD i.toNat 0)):=by
 have T:i.toNat<c.length:=by lia
 have e:(c.map V.int)[i.toNat]?=some (.int (c.getD i.toNat 0)):=by rw [DN,bt T];simp [List.getD,bt T]
 have:=aW e
 rwa [Int.toNat_of_nonneg O] at this
theorem cy {i:Int}(c:0<=i)(T:i<n):ixN n i=some i.toNat:=by unfold ixN;rw [Dm c,Dm T]
theorem br {a b:Int}(h:0<b):0<=a % b:=Im _ Dc
theorem bn {a b:Int}(h:0<b):a % b<b:=Hc _ h
def bx (names:List (Str×NameKind)):List Str:=(names.filter fun y=>y.2 == .free).map (·.1)
def yL (scope:Scope)(env:Env):List (Str×Addr):=(bx scope.names).reverse.map fun n=>(n,(env.cells.lookup n).getD 0)
theorem i8 {g:Str->Addr}{y:Str}{c:Addr}:∀{l:List Str},(l.map fun n=>(n,g n)).lookup y=some c->y∈l/\c=g y
 | [],h=>by cases h
 | a::l,h=>by
  rw [DH,Et] at h;cases e:y == a with
  | true =>
   rw [e] at h;have T:y=a:=by simpa using e
   subst T;exact ⟨DO,(DJ h).symm⟩
  | false =>
   rw [e] at h;obtain ⟨m,q⟩:=i8 h;exact ⟨Dr _ m,q⟩
theorem eQ {g:Str->Addr}{y:Str}:∀{l:List Str},y∈l->(l.map fun n=>(n,g n)).lookup y=some (g y)
 | [],h=>by cases h
 | a::l,h=>by
  rw [DH,Et];cases e:y == a with
  | true =>
   have c:y=a:=by simpa using e
   subst c;rfl
  | false =>
   rcases ax.mp h with z | z
   .subst z;simp at e
   .exact eQ z
theorem fY (env:Env):∀(O:List (Str×NameKind)) (T:List (Str×Addr)),(∀n∈bx O,∃ c,env.cells.lookup n=some c) ->
  (forIn O T fun y R=>if (y.2 == NameKind.free)=true then (do let c <-cellOf env y.1;pure (ForInStep.yield ((y.1,c)::R))) else pure (ForInStep.yield R):Sem (List (Str×Addr))) =
   pure ((bx O).reverse.map (fun n=>(n,(env.cells.lookup n).getD 0))++T)
 | [],T,_=>by rw [List.forIn_nil];rfl
 | (n,k)::r,T,h=>by
  rw [List.forIn_cons];cases e:k == NameKind.free with
  | true =>
   have I:bx ((n,k)::r)=n::bx r:=by unfold bx;rw [List.filter_cons_of_pos (by simpa using e)];rfl
   rw [I] at h ⊢;obtain ⟨c,S⟩:=h n DO;simp only [e,GU];have M:cellOf env n=pure c:=by unfold cellOf;rw [S]
   rw [M];have U:=fY env r ((n,c)::T) fun m W=>h m (Dr _ W);show (forIn r ((n,c)::T) _:Sem (List (Str×Addr)))=_;rw [U,List.reverse_cons,D4,EI];rw [DH,Gf,S];rfl
  | false =>
   have I:bx ((n,k)::r)=bx r:=by unfold bx;rw [List.filter_cons_of_neg (by simpa using e)]
   rw [I] at h ⊢;simp only [e,El,FF];exact fY env r T h
theorem rh (scope:Scope)(env:Env)(h:∀n∈bx scope.names,∃ c,env.cells.lookup n=some c):closureFor scope env=pure (yL scope env):=by have:=fY env scope.names [] h;rw [Ez] at this;simp only [closureFor];rw [this];rfl
theorem uk {c:List (Str×NameKind)}{y:Str}(h:(y,NameKind.free)∈c):y∈bx c:=by unfold bx;exact DG.mpr ⟨(y,.free),D7.mpr ⟨h,by rfl⟩,rfl⟩
theorem xD {c:List (Str×NameKind)}{y:Str}(h:y∈bx c):(y,NameKind.free)∈c:=by
 unfold bx at h;obtain ⟨⟨a,k⟩,T,e⟩:=DG.mp h;obtain ⟨I,O⟩:=D7.mp T;cases e;have:k=.free:=by simpa using O
 rw [<-this];exact I
theorem cQ {env:Env}:∀{c:List (Str×NameKind)} {y:Str} {k:NameKind},
  (c.map fun (n,k)=>if (k == NameKind.free&&env.scope.kind == .function&&env.kindOf n == some .cell) then (n,NameKind.cell) else (n,k)).lookup y=some k->(k=.cell∨k=.free)->(∀z∈c,z.2≠.cell)->(y,NameKind.free)∈c
 | [],y,k,h,_,_=>by cases h
 | (n,k0)::r,y,k,h,hk,hn=>by
  rw [DH] at h;dsimp only at h;by_cases O:(k0 == NameKind.free&&env.scope.kind == .function&&env.kindOf n == some .cell)=true
  .rw [Dm O,Et] at h;have R:k0=.free:=by rw [DP,DP] at O;simpa using O.1.1
   cases e:y == n with
   | true =>
    have S:y=n:=by simpa using e
    subst S;subst R;exact DO
   | false =>
    rw [e] at h;exact Dr _ (cQ h hk fun z I=>hn z (Dr _ I))
  .rw [Di O,Et] at h;cases e:y == n with
   | true =>
    have S:y=n:=by simpa using e
    subst S;rw [e] at h;have T:k0=k:=DJ h;have:=hn (y,k0) DO;rcases hk with z | z
    .rw [z] at T;exact absurd T this
    .rw [z] at T;rw [T];exact DO
   | false =>
    rw [e] at h;exact Dr _ (cQ h hk fun z I=>hn z (Dr _ I))
theorem dQ {env:Env}:∀{c:List (Str×NameKind)} {y:Str},c.lookup y=some .free ->
  (c.map fun (n,k)=>if (k == NameKind.free&&env.scope.kind == .function&&env.kindOf n == some .cell) then (n,NameKind.cell) else (n,k)).lookup y=some .cell ∨
  (c.map fun (n,k)=>if (k == NameKind.free&&env.scope.kind == .function&&env.kindOf n == some .cell) then (n,NameKind.cell) else (n,k)).lookup y=some .free
 | [],y,h=>by cases h
 | (n,k0)::r,y,h=>by
  rw [Et] at h;rw [DH];dsimp only;by_cases T:(k0 == NameKind.free&&env.scope.kind == .function&&env.kindOf n == some .cell)=true
  .rw [Dm T,Et];cases e:y == n with
   | true=>exact .inl rfl
   | false=>rw [e] at h;exact dQ h
  .rw [Di T,Et];cases e:y == n with
   | true=>rw [e] at h;exact .inr h
   | false=>rw [e] at h;exact dQ h
theorem Blk.of {esc:Scope}(W:X.N=N)(R:X.env.scope=esc)(hX:∀y,esc.names.lookup y=some .cell->∃ c,X.env.cells.lookup y=some c)(hk:scope.kind=.function)(O:∀y∈scope.names,y.2≠.cell)(P:∀y∈scope.names,y.2=.local->scope.names.lookup y.1=some .local)(h3:∀y∈scope.names,y.2=.free->esc.names.lookup y.1=some .cell)(hl:cap.length=NB.length)(h4:∀p∈NB.zip cap,N[p.2]?=some p.1/\esc.names.lookup p.1=some .cell/\scope.names.lookup p.1=some .free)(G:scope.names.lookup x=some .local)(nd:(x::NB).Nodup):
  Blk X scope (yL scope X.env) x NB cap:=by
 have T:∀n∈bx scope.names,∃ c,X.env.cells.lookup n=some c:=fun n J=>hX n (h3 _ (xD J) rfl);refine ⟨⟨rh scope X.env T,O,hk,P,fun y c e=>?_,fun y e=>?_,hl,fun j i e=>?_⟩,G,nd⟩
 .unfold yL at e;obtain ⟨m,q⟩:=i8 e;obtain ⟨c',U⟩:=T y (List.mem_reverse.mp m);rw [U] at q;rw [U,q];rfl
 .have hm:(y,NameKind.free)∈scope.names:=by
   rcases e with e | e
   .exact cQ e (.inl rfl) O
   .exact cQ e (.inr rfl) O
  exact ⟨_,eQ (List.mem_reverse.mpr (uk hm))⟩
 have hj:j<cap.length:=(Dz.mp e).1;have I:j<NB.length:=by lia
 have S:NB[j]?=some NB[j]:=bt I;have F:(NB.zip cap)[j]?=some (NB[j],i):=by rw [List.getElem?_zip_eq_some];exact ⟨S,e⟩
 obtain ⟨Y,M,a3⟩:=h4 _ (DV F);refine ⟨NB[j],S,by rw [W];exact Y,.inr (.inl (by rw [R];exact M)),.inl (by show X.env.scope.names.lookup _=_;rw [R];exact M),?_⟩;exact dQ a3
theorem pw {lo:Int}{Q:VK}(c:Nat->List V->Hp->Prop)(U:c 0 [] (upd H D (.lst [])))(S:∀i ys H,c i ys H->H D=some (.lst ys))(R:∀i ys H,i<n->c i ys H->tt (some (.int (lo+i))::bR cap Z) H fun b O =>
   if b=true then te (some (.int (lo+i))::bR cap Z) O fun v I=>I D=some (.lst ys)/\ys.length<sizeLine/\∃ m',m'<n-i/\m'=n-(i+1)/\i+1<=n/\c (i+1) (ys++[v]) (upd I D (.lst (ys++[v])))
   else ∃ m',m'<n-i/\m'=n-(i+1)/\i+1<=n/\c (i+1) ys O)(hd:∀ys H,c n ys H->Q (.ref D) H):
  CW (Itr lo n) tt te cap Z H D (fun H=>Q (.ref D) H):=by
 refine ⟨fun i m ys H=>m=n-i/\i<=n/\c i ys H,⟨n,Dd,D6 _,U⟩,?_⟩;rintro i m ys H ⟨rfl,hi,p⟩;refine ⟨S i ys H p,?_⟩;by_cases T:i<n
 .refine .inr ⟨T,fun x H' y=>?_⟩;obtain ⟨e,y⟩:=y;subst e y;exact R i ys _ T p
 have e:i=n:=by lia
 subst e;exact .inl ⟨Dj _,hd ys H p⟩
theorem vz (h:X.K=K):IxR X (B0 K):=by subst h;exact aM
def qx:Expr->Option V
 | .Constant (.int i) _ _=>some (.int i)
 | .Constant (.str x) _ _=>some (.str x)
 | _=>none
def gK:List Expr->Option (List V)
 | []=>some []
 | e::es=>match qx e,gK es with
  | some v,some vs=>some (v::vs)
  | _,_=>none
theorem j8 {X:Cx}:∀{c:List Expr} {vs:List V},gK c=some vs->PA X c (fun _ H Q=>Q vs H)
 | [],vs,h=>by
  cases h;exact wZ
 | e::c,vs,h=>by
  unfold gK at h;cases e1:qx e with
  | none=>rw [e1] at h;cases h
  | some v =>
   cases e2:gK c with
   | none=>rw [e1,e2] at h;cases h
   | some ws =>
    rw [e1,e2] at h;cases h;have O:=j8 (X:=X) e2;have T:PE X e (tC v)/\starEach (e::c) X.env=(false,eval e X.env)::starEach c X.env:=by
     unfold qx at e1;split at e1
     .cases e1;exact ⟨wx,rfl⟩
     .cases e1;exact ⟨qb,rfl⟩
     .cases e1
    exact rq T.1 O T.2
end L2
namespace L2
open PySem
theorem ar (h:H p=none):Same H (upd H p o):=fun b u e=>by rw [af (am e h)];exact e
@[elab_as_elim] theorem gnew {R:Hp->Prop} {H:Hp} {a:Addr} {o:HO} (h:H a=none) (k:∀c,Same H c->c a=some o->R c):R (upd H a o):=k _ (ar h) ad
theorem cn {c A:Prop}[Decidable c](k:B)(h:autoParam (¬ c) aaa):if c then A else B:=by rw [Di h];exact k
theorem dW {c A:Prop}[Decidable c](k:A)(h:autoParam (c) aaa):if c then A else B:=by rw [Dm h];exact k
theorem nV (s:Same H H')(h:H p=none):Same H (upd H' p o):=fun b u e=>by rw [af (am e h)];exact s b u e
end L2
namespace L2
open PySem PySem.Spec PyProof.Rows
@[irreducible] def QE (X:Cx) (e:Expr) (t:TE):Prop:=PE X e t
@[irreducible] def QT (X:Cx) (e:Expr) (t:TT):Prop:=PT X e t
@[irreducible] def QW (X:Cx) (e:Expr) (t:TT):Prop:=PW X e t
@[irreducible] def QA (X:Cx) (es:List Expr) (t:TA):Prop:=PA X es t
@[irreducible] def QS (X:Cx) (st:Stmt) (t:TS):Prop:=PS X st t
@[irreducible] def QSs (X:Cx) (st:List Stmt) (t:TS):Prop:=PSs X st t
@[irreducible] def QG (X:Cx) (e:Expr) (t:TG):Prop:=PG X e t
@[irreducible] def QGs (X:Cx) (e:List Expr) (t:TGs):Prop:=PGs X e t
@[irreducible] def QI (X:Cx) (tg iter:Expr) (wi:TI):Prop:=PI X tg iter wi
@[irreducible] def QTs (X:Cx) (ifs:List Expr) (t:TT):Prop:=PTs X ifs t
@[irreducible] def QO (X:Cx) (e:Option Expr) (t:TO):Prop:=PO X e t
section
variable {X:Cx}{e a b c:Expr}{es:List Expr}{t te ta tb tc:TE}{tt:TT}{pos:Pos}
theorem QE.mk {t:TE}(h:PE X e t):QE X e t:=by unfold QE;exact h
theorem QE.to {t:TE}(h:QE X e t):PE X e t:=by unfold QE at h;exact h
theorem QT.mk {t:TT}(h:PT X e t):QT X e t:=by unfold QT;exact h
theorem QT.to {t:TT}(h:QT X e t):PT X e t:=by unfold QT at h;exact h
theorem QW.mk {t:TT}(h:PW X e t):QW X e t:=by unfold QW;exact h
theorem QW.to {t:TT}(h:QW X e t):PW X e t:=by unfold QW at h;exact h
theorem QA.mk {t:TA}(h:PA X es t):QA X es t:=by unfold QA;exact h
theorem QA.to {t:TA}(h:QA X es t):PA X es t:=by unfold QA at h;exact h
theorem QS.mk {t:TS}(h:PS X st t):QS X st t:=by unfold QS;exact h
theorem QS.to {t:TS}(h:QS X st t):PS X st t:=by unfold QS at h;exact h
theorem QSs.mk {st:List Stmt}{t:TS}(h:PSs X st t):QSs X st t:=by unfold QSs;exact h
theorem QSs.to {st:List Stmt}{t:TS}(h:QSs X st t):PSs X st t:=by unfold QSs at h;exact h
theorem QG.mk {t:TG}(h:PG X e t):QG X e t:=by unfold QG;exact h
theorem QG.to {t:TG}(h:QG X e t):PG X e t:=by unfold QG at h;exact h
theorem QGs.mk {t:TGs}(h:PGs X es t):QGs X es t:=by unfold QGs;exact h
theorem QGs.to {t:TGs}(h:QGs X es t):PGs X es t:=by unfold QGs at h;exact h
theorem QI.mk (h:PI X tg e wi):QI X tg e wi:=by unfold QI;exact h
theorem QI.to (h:QI X tg e wi):PI X tg e wi:=by unfold QI at h;exact h
theorem QTs.mk {t:TT}(h:PTs X es t):QTs X es t:=by unfold QTs;exact h
theorem QTs.to {t:TT}(h:QTs X es t):PTs X es t:=by unfold QTs at h;exact h
theorem QO.mk {o:Option Expr}{t:TO}(h:PO X o t):QO X o t:=by unfold QO;exact h
theorem QO.to {o:Option Expr}{t:TO}(h:QO X o t):PO X o t:=by unfold QO at h;exact h
theorem qv (i:Nat)(U:autoParam (X.N[i]?=some x) aad)(W:Vis X.env.scope x:=by first | exact Or.inl rfl | exact Or.inr (Or.inl rfl) | exact Or.inr (Or.inr rfl))(hd:autoParam ((x == ("__debug__":Str))=false) aab)(S:autoParam ((x == ("__classdict__":Str))=false) aab):QE X (.Name x pos) (Ct i):=.mk (by
 intro pins s Z H Q I h;obtain ⟨v,e,h⟩:=AU h;obtain ⟨m,M,G⟩:=I.loc;obtain ⟨u,r,l⟩:=G i x v U e W;have O:EP X pins Z Q u s:=⟨v,H,I,r,h⟩;rcases l with ⟨hk,F⟩ | ⟨hk,c,R,T⟩
 .exact wpAny_Name (wpAny_loadName_local I.ok.kind hk M F O) hd
 rcases hk with hk | hk
 .exact wpAny_Name (wpAny_loadName_cell I.ok.kind hk R T O) hd
 exact wpAny_Name (wpAny_loadName_free I.ok.kind hk R T O S) hd)
theorem ai {i j}:QE X (.Constant (.int i) j pos) (tC (.int i)):=.mk wx
theorem gi {b j}:QE X (.Constant (.bool b) j pos) (tC (.bl b)):=.mk (fun _ _ _ H _ I h=>Constant_bool ⟨.bl b,H,I,rfl,h⟩)
theorem eE {j}:QE X (.Constant .none j pos) (tC .non):=.mk (fun _ _ _ H _ I h=>Constant_none ⟨.non,H,I,rfl,h⟩)
theorem aq {x j}:QE X (.Constant (.str x) j pos) (tC (.str x)):=.mk qb
theorem yI {v:V}(S:Gl X x)(O:X.mg x=none)(T:bootBuiltins x=some u)(r:RelV v u)(R:autoParam (x≠"__name__") aab)(hd:autoParam ((x == ("__debug__":Str))=false) aab):QE X (.Name x pos) (tC v):=.mk (fun _ _ _ H _ I h=>i9 I S O T ⟨v,H,I,r,h⟩ R hd)
theorem ao {op:Operator}{r:R2}(W:OpR X (binaryOp op) r)(T:QE X a ta)(O:QE X b tb):QE X (.BinOp a op b pos) (tOp r ta tb):=.mk (by
 have T:=T.to;have O:=O.to;intro pins s Z H Q I h;exact wpAny_BinOp (AF T O I h fun v u U x y R S M F q=>W pins U Z R x y v u Q S M F q))
theorem kI {op:UnaryOp}{r:V->Hp->VK->Prop}(M:UnR X (unaryOp op) r)(T:QE X a ta):QE X (.UnaryOp op a pos) (tUn r ta):=.mk (by
 have T:=T.to;intro pins s Z H Q I h;exact UnaryOp_ (thn (T pins s Z H _ I h) fun v R ⟨x,O,W,U,S⟩=>M pins R Z O x v Q W U S))
theorem cP {op:CmpOp}{r:R2}(W:OpR X (compareOp op) r)(T:QE X a ta)(O:QE X b tb)(F:behindInMarks op b=false):QE X (.Compare a [op] [b] pos) (tOp r ta tb):=.mk (by
 have T:=T.to;have O:=O.to;intro pins s Z H Q I h;exact wpAny_Compare1 (AF T O I h fun v u U x y R S M G q=>W pins U Z R x y v u Q S M G q) F)
theorem aA {r:R2}(U:IxR X r)(T:QE X a ta)(O:QE X b tb)(F:zE b):QE X (.Subscript a b pos) (tOp r ta tb):=.mk (by
 have T:=T.to;have O:=O.to;intro pins s Z H Q I h;exact Subscript_ (AF T O I h fun v u M x y R S W G q=>U a b pins M Z R x y v u Q S W G q (F _ _)))
theorem dE {r:V->Option Int->Option Int->Hp->VK->Prop}{lo hi:Option Expr}{tl Y:TO}{G:Pos}(hr:SlR X r)(M:QE X e te)(F:QO X lo tl)(U:QO X hi Y):QE X (.Subscript e (.Slice lo hi none G) pos) (tSl r te tl Y):=.mk (by
 have M:=M.to;have F:=F.to;have U:=U.to;intro pins s Z H Q I h;refine Subscript_ (thn (M pins s Z H _ I h) fun v s1 W=>?_);obtain ⟨x,H1,I1,r1,q1⟩:=W;refine wpAny_Slice (thn (F pins s1 Z H1 _ I1 q1) fun S s2 ⟨l,J,I2,pl,q2⟩=>thn (U pins s2 Z J _ I2 q2) fun R O W=>?_);obtain ⟨u,P,I3,pu,q3⟩:=W;rw [evalPart_none];refine Dx ?_;have I4:Inv X pins Z P { O with heap:=O.heap.push { cls:=.type "slice",data:=.fields #[S,R,.none] } }:=I3.kept (t':=O.toks) fun b ob q=>Dt _ q;obtain ⟨T,id,hT,ht,hg⟩:=hr pins { O with heap:=O.heap.push { cls:=.type "slice",data:=.fields #[S,R,.none] } } Z P x v S R l u O.heap.objs.size Q I4 r1 (Heap.IsSliceOf.new ..) pl pu q3;show wpAny (model X.prog X.w) X.A (subscriptTail e (.Slice lo hi none G) v (.ref O.heap.objs.size)) (EP X pins Z Q) X.xe { O with heap:=O.heap.push { cls:=.type "slice",data:=.fields #[S,R,.none] } };exact tail_any (ops:=[.ref O.heap.objs.size,v]) ht hT hg (by with_unfolding_all rfl))
theorem fC:QO X none yw:=.mk (by
 intro pins s Z H Q I h;rw [evalPart_none];exact Dx ⟨none,H,I,.none,h⟩)
theorem fz (h:QE X e te):QO X (some e) (B4 te):=.mk (by
 have h:=h.to;intro pins s Z H Q I O;rw [evalPart_some];refine thn (h pins s Z H _ I O) fun u W U=>?_;obtain ⟨x,T,M,R,S⟩:=U;obtain ⟨i,rfl,q⟩:=S;obtain ⟨t,rfl⟩:=R;exact ⟨some i,T,M,.int i t,q⟩)
theorem bu {t:TA}(h:QA X es t):QE X (.List es pos) (CH t):=.mk (by
 have h:=h.to;intro pins s Z H Q I R;refine wpAny_List_spliced (thn (h pos pins s Z H _ I R) fun us T ⟨xs,O,S,r,z,q⟩=>⟨by rw [<-r.length];exact z,?_⟩);have U:O T.heap.objs.size=none:=S.hok.fresh (Dj _);refine ⟨.ref T.heap.objs.size,upd O T.heap.objs.size (.lst xs),S.laid (t':=T.toks) (fun b u e=>Dt _ e) (Dj _) ?_,rfl,q _ U⟩;exact ⟨z,us,0,r,DQ _ rfl⟩)
theorem be {t:TA}{x1}(h:QA X es t):QE X (.Tuple es x1 pos) (CI t):=.mk (by
 have h:=h.to;intro pins s Z H Q I R;refine wpAny_Tuple_spliced (thn (h pos pins s Z H _ I R) fun us T ⟨xs,O,S,r,z,q⟩=>⟨by rw [<-r.length];exact z,?_⟩);have U:O T.heap.objs.size=none:=S.hok.fresh (Dj _);refine ⟨.ref T.heap.objs.size,upd O T.heap.objs.size (.tup xs),S.laid (t':=T.toks) (fun b u e=>Dt _ e) (Dj _) ?_,rfl,q _ U⟩;exact ⟨z,us,r,⟨_,DQ _ rfl,rfl,_,rfl⟩⟩)
theorem ag:QA X [] p8:=.mk wZ
theorem aa {t:TA}(I:QE X e te)(T:QA X es t)(O:autoParam (starEach (e::es) X.env=(false,eval e X.env)::starEach es X.env) aad):QA X (e::es) (zJ te t):=.mk (rq I.to T.to O)
theorem jQ {vs:List V}(h:gK es=some vs):QA X es (fun _ H Q=>Q vs H):=.mk (j8 h)
theorem xT {R:String}{p:Pos}{t:TA}(P:cv X (.builtin R) r)(F:Gl X x)(hm:X.mg x=none)(J:bootBuiltins x=some (.builtin R))(O:QA X (e::es) t)(G:autoParam (x≠"__name__") aab)(S:autoParam ((x == ("__debug__":Str))=false) aab)(Y:autoParam (starEach (e::es) X.env=(false,eval e X.env)::starEach es X.env) aad)(T:autoParam ((backTo pos (starEach es X.env)).any (·.1)=false) aad):QE X (.Call (.Name x p) (e::es) [] pos) (tCB r t):=.mk (by
 have O:=O.to;intro pins s Z H Q I h;refine FG (i9 I F hm J ?_ G S);exact PyProof.Rows.callWith_builtin1 (thn (O pos pins s Z H _ I h) fun us W ⟨vs,U,I1,r1,M⟩=>P pins W Z U vs us Q I1 r1 M) Y T)
theorem ui {T:String}{p:Pos}{t:TA}(P:cv X (.type T) r)(F:Gl X x)(hm:X.mg x=none)(J:bootBuiltins x=some (.type T))(S:QA X (e::es) t)(G:autoParam (x≠"__name__") aab)(R:autoParam ((x == ("__debug__":Str))=false) aab)(Y:autoParam (starEach (e::es) X.env=(false,eval e X.env)::starEach es X.env) aad)(O:autoParam ((backTo pos (starEach es X.env)).any (·.1)=false) aad):QE X (.Call (.Name x p) (e::es) [] pos) (tCB r t):=.mk (by
 have S:=S.to;intro pins s Z H Q I h;refine FG (i9 I F hm J ?_ G R);exact FI (thn (S pos pins s Z H _ I h) fun us W ⟨vs,U,I1,r1,M⟩=>P pins W Z U vs us Q I1 r1 M) Y O)
theorem iL {CX:CXT}{k:Nat}{T:List V}{U:List Value}{E:XK}{p:Pos}{t:TA}(F:au X.prog X.w X.K X.mg X.base CX k f fd ps sp)(P:Room k X.A)(G:Gl X x)(hm:X.mg x=some (.ref f))(hk:W.keepIn X.K (.ref f)=true)(hb:Binds X.K fd ps U)(hd:Vals T U)(Y:cM CX X E)(S:QA X (e::es) t)(R:autoParam ((x == ("__debug__":Str))=false) aab)(J:autoParam (starEach (e::es) X.env=(false,eval e X.env)::starEach es X.env) aad)(O:autoParam ((backTo pos (starEach es X.env)).any (·.1)=false) aad):
  QE X (.Call (.Name x p) (e::es) [] pos) (yh sp T E t):=.mk (by
 have S:=S.to;intro pins s Z H Q I h;refine FG (fj I G hm ?_ R);refine Io (h₀:=X.base) I.ok.mod.kin hk (thn (S pos pins s Z H _ I h) fun us s1 ⟨vs,H1,M,r,q⟩=>⟨M.kIn,?_⟩) J O;exact mT F P hb hd Y M r q)
theorem gN {o:Expr}{to:TE}{t:TA}{name:Str}{T W:String}{r:V->List V->Hp->VK->Prop}(pa:PlainAttrs T)(M:Slot T name W)(F:typeOf (.builtin W)=pure (.type "method_descriptor"))(hm:MtR X W r)(G:QE X o to)(Y:QA X (e::es) t)(S:autoParam (attributeBase o name X.env (eval o X.env)=eval o X.env) aad)(U:autoParam (((backTo cpos (starEach (e::es) X.env)).all (fun x=>!x.1)&&(backToKw cpos (keywordEach [] X.env)).all (fun x=>x.1.isSome)
   && decide ((e::es).length+([]:List Keyword).length+(if ([]:List Keyword).isEmpty then 0 else 1)<30))=true) aad)(R:autoParam ((apos.endLine == cpos.line)=true) aad)(hs:autoParam (starEach (e::es) X.env=(false,eval e X.env)::starEach es X.env) aad)(O:autoParam ((backTo cpos (starEach es X.env)).any (·.1)=false) aad):
  QE X (.Call (.Attribute o name apos) (e::es) [] cpos) (tBM X.K T r to t):=.mk (by
 have G:=G.to;have Y:=Y.to;intro pins s Z H Q I h;refine wpAny_Call_method_late S U R rfl (thn (G pins s Z H _ I h) fun v s1 zz=>?_);obtain ⟨x,H1,J,P,ty,q1⟩:=zz;obtain ⟨h1,h2⟩:=vt J P ty;refine ⟨T,W,pa,M,F,h1,h2,?_⟩;have hA:=Y cpos pins s1 Z H1 _ J q1;rw [hs] at hA ⊢;refine ES (by show (false || (backTo cpos (starEach es X.env)).any (·.1))=false;rw [O] <;> rfl) (E4 ?_);exact thn hA fun us s2 ⟨vs,H2,I2,r2,q2⟩=>hm pins s2 Z H2 x vs v us Q I2 P r2 q2)
theorem di {cl:List (Str×Addr)}(B:Blk X scope cl x NB cap)(J:X.calm=true)(M:X.ex=[])(hi:QI X (.Name x px) iter wi)(S:∀C fp T O,QTs (X.blk scope cl C (x::NB) fp T O) ifs tt)(U:∀C fp T O,QE (X.blk scope cl C (x::NB) fp T O) elt te)(hs:autoParam (∀v,foldedSetIterable iter X.env v=pure v) aaf):QE X (.ListComp elt [⟨.Name x px,iter,ifs,0⟩] scope pos) (xY wi tt te cap):=.mk (by
 have hi:=hi.to;have S:=(fun C fp T O=>(S C fp T O).to);have U:=(fun C fp T O=>(U C fp T O).to);intro pins s Z H Q I h;rw [eval_ListComp];refine kC (use:=none) (R:=EP X pins Z Q) B J M hi S U hs I h fun D C H' s' I' G q=>?_;obtain ⟨m,hn⟩:=G.ns;obtain ⟨F,P,f2,Y,f4,f5⟩:=G.fp;refine ⟨m,hn,fun h' W=>⟨.ref D,H',?_,rfl,q⟩⟩;exact I'.turned (t':=s'.toks) (fun b o hb e=>(W.2 b hb).trans e) F P Y f4 f5)
theorem aw {op:CmpOp}{r:R2}(G:OpR X (compareOp op) r)(T:QE X a ta)(O:QE X b tb)(hm:behindInMarks op b=false):QT X (.Compare a [op] [b] pos) (Cn (tOp r ta tb)):=.mk (by
 have T:=T.to;have O:=O.to;intro pins s Z H Q I h;refine wpAny_isTrue_Compare1 (thn (T pins s Z H _ I h) fun v W ⟨x,P,Y,F,M⟩=>thn (O pins W Z P _ Y M) fun u s2 ⟨y,S,J,r2,R⟩ =>
  thn (G pins s2 Z S x y v u _ J F r2 R) fun c s3 ⟨z,H3,I3,U,k,e,q3⟩=>?_) hm
 subst e;cases U;exact Fp ⟨H3,I3,q3⟩)
theorem cD (T:QT X a tA):QT X (.UnaryOp .Not a pos) (CK tA):=.mk (by
 have T:=T.to;intro pins s Z H Q I h;exact isTrue_not (T pins s Z H (fun c O=>Q (!c) O) I h))
theorem ca {t:TE}(h:QE X e t)(U:autoParam (∀T,isTrue e X.env T=(do let v <-T;standAt e.pos;holding [v] (truthy v))) aaf):QT X e (tB t):=.mk (by
 have h:=h.to;intro pins s Z H Q I S;refine isTrue_plain (thn (h pins s Z H _ I S) fun v G W=>?_) (U _);obtain ⟨x,O,F,M,R⟩:=W;obtain ⟨d,rfl,q⟩:=R;cases M;exact Fp ⟨O,F,q⟩)
theorem QW.pt {t:TT}(h:QW X e t):QT X e t:=.mk h.to.pt
theorem cG (T:QT X a tA):QW X (.BoolOp .And [a] pos) tA:=.mk (by
 have T:=T.to;intro S pins s Z H Q I h;refine isTrue_and (thn (T pins s Z H Q I h) fun c O e=>?_);cases c with
 | true=>exact isTrue_and_nil e
 | false=>exact e)
theorem wP (T:QT X a tA):QW X (.BoolOp .Or [a] pos) tA:=.mk (by
 have T:=T.to;intro S pins s Z H Q I h;refine isTrue_or (thn (T pins s Z H Q I h) fun c O e=>?_);cases c with
 | false=>exact isTrue_or_nil e
 | true=>exact e)
theorem dA {T:TT}{rest:List Expr}(O:QT X a tA)(S:QW X (.BoolOp .And (b::rest) pos) T):QW X (.BoolOp .And (a::b::rest) pos) (Cz tA T):=.mk (by
 have O:=O.to;have S:=S.to;intro F pins s Z H Q I h;refine isTrue_and (thn (O pins s Z H _ I h) fun c W G=>?_);obtain ⟨R,M,U⟩:=G;cases c with
 | true=>exact S F pins W Z R Q M U
 | false=>exact ⟨R,M,U⟩)
theorem zI {T:TT}{rest:List Expr}(O:QT X a tA)(S:QW X (.BoolOp .Or (b::rest) pos) T):QW X (.BoolOp .Or (a::b::rest) pos) (tOr tA T):=.mk (by
 have O:=O.to;have S:=S.to;intro F pins s Z H Q I h;refine isTrue_or (thn (O pins s Z H _ I h) fun c W G=>?_);obtain ⟨R,M,U⟩:=G;cases c with
 | true=>exact ⟨R,M,U⟩
 | false=>exact S F pins W Z R Q M U)
theorem dO:QTs X [] AG:=.mk (fun pins s Z H Q I h=>wpAny_tests_nil ⟨H,I,h⟩)
theorem mS {t:TT}(h:QT X c t):QTs X [c] t:=.mk (by
 have h:=h.to;exact fun pins s Z H Q I T=>wpAny_tests_one (h pins s Z H Q I T))
theorem cC {ta:TA}{p:Pos}(U:Gl X "range")(W:X.mg "range"=none)(O:QA X [a] ta)(F:autoParam (starEach [a] X.env=[(false,eval a X.env)]) aad):QI X tg (.Call (.Name "range" p) [a] [] pos) (BO ta):=.mk (by
 have O:=O.to;intro pins s Z H R I h;refine Call_ (i9 I U W boot_range (FI (thn (O pos pins s Z H _ I h) fun us J G=>?_) F rfl));obtain ⟨vs,P,Y,M,T⟩:=G;obtain ⟨j,e,T,S,q⟩:=T;subst e;cases M with
 | cons r rr =>
  cases rr;obtain ⟨t,rfl⟩:=r;exact call_range_1 (vE Y Dc Dc T S (by simpa using q)))
theorem fL (h:QE X e te):QI X tg e (Cf X.K te):=.mk (by
 have Y:=h.to;intro pins s Z H R I h;refine thn (Y pins s Z H _ I h) fun v T F=>?_;obtain ⟨x,S,O,W,U⟩:=F;obtain ⟨a,e,⟨xs,M⟩,q⟩:=U;subst e;cases W;obtain ⟨its,P,p,J⟩:=O.list M;refine wpAny_pyIter_list p.isList ?_;refine ⟨T.heap.objs.size,[T.heap.objs.size],_,_,S,rfl,O.kept (t':=T.toks) fun b o e=>Dt _ e,uw a _,⟨_,DQ _ rfl,rfl,rfl⟩,fun b G=>?_,q⟩;have e:b=T.heap.objs.size:=by simpa using G
 subst e;exact O.fpOk (Dj _) (O.hok.fresh (Dj _)))
theorem iS (h:QE X e te):QI X tg e (CZ X.K te):=.mk (by
 have Y:=h.to;intro pins s Z H R I h;refine thn (Y pins s Z H _ I h) fun v T F=>?_;obtain ⟨x,S,O,W,U⟩:=F;obtain ⟨a,e,⟨xs,M⟩,q⟩:=U;subst e;cases W;obtain ⟨its,P,p,J⟩:=O.tuple M;refine wpAny_pyIter_tuple (show T.heap.IsTuple a its.toArray from p) ?_;refine ⟨T.heap.objs.size,[T.heap.objs.size],_,_,S,rfl,O.kept (t':=T.toks) fun b o e=>Dt _ e,qz a _,⟨_,DQ _ rfl,rfl,rfl⟩,fun b G=>?_,q⟩;have e:b=T.heap.objs.size:=by simpa using G
 subst e;exact O.fpOk (Dj _) (O.hok.fresh (Dj _)))
theorem bQ (I:X.N.Nodup)(hi:X.N[i]?=some x)(O:Loc X.env.scope x)(T:autoParam (X.fn x=true∨X.env.scope.names.lookup x=some .local) aac):QG X (.Name x pos) (iY i):=.mk (iH I hi O T)
theorem df {o i:Expr}{to U:TE}{t:AN}(R:QE X o to)(hi:QE X i U)(P:BZ X t)(ha:autoParam (∀v,assign (.Subscript o i pos) X.env v=(do
   let T <-holding [v] (eval o X.env);let O <-holding [v,T] (eval i X.env)
   standAt pos
   holding [v,T,O] (setItem T O v)
   release [v,T,O] [])) aaf):QG X (.Subscript o i pos) (Cr to U t):=.mk (by
 have R:=R.to;have hi:=hi.to;intro pins s Z H v u Q I r h;rw [ha];refine Dh (E5 (thn (R pins s Z H _ I h) fun T F S=>?_));obtain ⟨x,H1,J,Y,G⟩:=S;refine Dh (E5 (thn (hi pins F Z H1 _ J G) fun O s2 S=>?_));obtain ⟨y,M,I2,r2,W⟩:=S;refine Dh (Hv (Dh (E5 (thn (P pins s2 Z M x y v T O u _ I2 Y r2 r W) fun _ s3 S=>?_))));obtain ⟨H3,I3,q3⟩:=S;exact wpAny_release ⟨Z,H3,I3,q3⟩)
theorem kW:QGs X [] Ba:=.mk rV
theorem dH {t:TG}{u:TGs}(I:QG X e t)(T:QGs X es u)(O:autoParam ((assignEach (e::es) X.env).map (·.2)=assign e X.env::(assignEach es X.env).map (·.2)) aad):QGs X (e::es) (sj t u):=.mk (jh I.to T.to O)
theorem pM {k:Nat}{t:TGs}(I:X.calm=true)(h:QGs X es t)(O:autoParam ((assignEach es X.env).length=n) aad)(T:autoParam ((assignEach es X.env).findIdx? (·.1)=none) aad):QG X (.Tuple es k pos) (AE X.K n t):=.mk (vq I h.to O T)
section
variable {st:Stmt}{rest body:List Stmt}{s u:TS}
theorem aE:QSs X [] BU:=.mk (fun _ _ Z H _ I h=>FJ ⟨Z,H,I,h⟩)
theorem ac (O:QS X st s)(T:QSs X rest u):QSs X (st::rest) (CS s u):=.mk (by
 have O:=O.to;have T:=T.to;intro pins s Z H D I h;refine Ia (thn (O pins s Z H { D with nx:=u D } I h) fun f U q=>?_);cases f with
 | next =>
  obtain ⟨R,H',S,q⟩:=q;exact T pins U R H' D S q
 | ret v=>exact q
 | brk=>exact q
 | cont=>exact q)
theorem aj (T:QS X st s):QSs X [st] s:=.mk (by
 have T:=T.to;intro pins s Z H D I h;refine Ia (thn (T pins s Z H D I h) fun f O q=>?_);cases f with
 | next=>exact FJ q
 | ret v=>exact q
 | brk=>exact q
 | cont=>exact q)
theorem aH (T:QE X e te)(R:autoParam (swapsWith e none pos.line X.env=pure false) aad):QS X (.Expr e pos) (Bw te):=.mk (by
 have T:=T.to;intro pins s Z H D I h;exact wpAny_Expr_any (thn (T pins s Z H _ I h) fun v W ⟨x,O,U,M,S⟩=>⟨Z,O,U,S⟩) I.quiet R)
theorem aD (T:QE X e te):QS X (.Return (some e) pos) (C5 te):=.mk (by
 have T:=T.to;intro pins s Z H D I h;exact wpAny_Return_some (thn (T pins s Z H _ I h) fun v M ⟨x,O,U,S,R⟩=>⟨x,Z,O,U,S,R⟩))
theorem aT {T O:List Stmt}(R:QT X c tt)(S:QSs X T s)(I:QSs X O u):QS X (.If c T O pos) (BL tt s u):=.mk (zP R.to S.to I.to)
theorem vC (U:X.N.Nodup)(hi:X.N[i]?=some x)(R:Loc X.env.scope x)(T:QE X e te)(G:autoParam (swapsWith e (some (.Name x pos')) pos.line X.env=pure false) aad)(W:autoParam (X.fn x=true∨X.env.scope.names.lookup x=some .local) aac):
  QS X (.Assign [.Name x pos'] e pos) (yE te (iY i)):=.mk (by
 have T:=T.to;intro pins s Z H D I h;refine wpAny_Assign_Name (thn (T pins s Z H _ I h) fun v J Y=>?_) G;obtain ⟨y,O,P,F,M⟩:=Y;exact eM P U hi R F (fun s2 S=>⟨_,O,S,M⟩) W)
theorem qg {y:Str}{U T:Pos}{cl:List (Str×Addr)}(hN:X.N.Nodup)(M:X.N[i]?=some y)(hx:Loc X.env.scope y)(B:Blk X scope cl x NB cap)(hc:X.calm=true)(J:X.ex=[])(hi:QI X (.Name x px) iter wi)(W:∀C fp O S,QTs (X.blk scope cl C (x::NB) fp O S) ifs tt)(he:∀C fp O S,QE (X.blk scope cl C (x::NB) fp O S) elt te)(F:autoParam (swapsWith (.ListComp elt [⟨.Name x px,iter,ifs,0⟩] scope pos) (some (.Name y U)) T.line X.env=pure true) aad)(hs:autoParam (∀v,foldedSetIterable iter X.env v=pure v) aaf)(hf:autoParam (X.fn y=true∨X.env.scope.names.lookup y=some .local) aac):
  QS X (.Assign [.Name y U] (.ListComp elt [⟨.Name x px,iter,ifs,0⟩] scope pos) T) (yE (xY wi tt te cap) (iY i)):=.mk (by
 have hi:=hi.to;have W:=(fun C fp O S=>(W C fp O S).to);have he:=(fun C fp O S=>(he C fp O S).to);intro pins s Z H D I h;rw [exec_Assign_Name_used _ _ _ _ F];refine Dh (Hv (Dh ?_));show wpAny _ X.A (do let _ <-comprehension (.ListComp elt [⟨.Name x px,iter,ifs,0⟩] scope pos) scope X.env _ (newList []) false (eval iter X.env) (some (assign (.Name y U) X.env))) _ _ s;refine Dh (Ew (kC (use:=some (assign (.Name y U) X.env)) (R:=fun _ s'=>SP X pins D .next s') B hc J hi W he hs I h fun L C H' s' I' G q=>?_) (fun _ s' hq=>Dx (Dx hq)) fun _ _ e=>e);obtain ⟨m,hn⟩:=G.ns;obtain ⟨f0,f1,f2,f3,f4,f5⟩:=G.fp;refine wpAny_assign_Name (kU (v:=.ref L) I' hN M hx rfl (fun P Y zz=>?_) hf);obtain ⟨a,sb,ha⟩:=zz;have hC:C≠a:=by
  rcases ha with z | z
  .rw [z];exact f1
  .exact fun e=>f4 y a z e.symm
 refine ⟨m,hn.sameBut sb hC,fun h' ee=>⟨_,H',?_,q⟩⟩;exact Y.turned (t':=P.toks) (fun b o hb e=>(ee.2 b hb).trans e) f0 f1 f3 f4 f5)
theorem eJ {g:TG}(O:QE X e te)(T:QG X tg g)(G:autoParam (swapsWithSole [tg] e pos.line X.env=pure false) aad)(R:autoParam (swappedStores [tg] e X.env=pure none) aad)(W:autoParam ((assignEach [tg] X.env).map (·.2)=[assign tg X.env]) aad):QS X (.Assign [tg] e pos) (yE te g):=.mk (by
 have O:=O.to;have T:=T.to;intro pins s Z H D I h;refine wpAny_Assign_stores (thn (O pins s Z H _ I h) fun v U Y=>?_) G R;obtain ⟨x,S,P,F,M⟩:=Y;rw [W];exact thn (T pins U Z S x v _ P F M) fun _ J q=>q)
theorem cE {g:TG}(hp:PassesOwn (model X.prog X.w) X.A X.env X.xe)(hc:X.calm=true)(hi:QI X tg iter wi)(hg:QG X tg g)(O:QSs X body s)(hs:autoParam (∀x,foldedSetIterable iter X.env x=pure x) aaf):QS X (.For tg iter body [] pos) (CF wi g s):=.mk (by
 have hi:=hi.to;have hg:=hg.to;have O:=O.to;intro pins s Z H D I h;refine wpAny_For (thn (hi pins s Z H _ I h) fun v s1 h1=>thn h1 fun eh s2 h2=>?_) hs;obtain ⟨it,fp,tn,J,H2,e,I2,T,ea,f2,W,⟨m0,w0⟩,turn⟩:=h2;subst e;have F:∀{H':Hp},(∀b∈fp,H' b=none)->∀b∈fp,om X pins H' b:=fun hn b O=>⟨hn b O,(f2 b O).2⟩;refine codeAny_forLoop_any (fun n s'=>∃ i σ' H',Inv X pins σ' H' s'/\tn i s'.heap/\(∀b∈fp,H' b=none)/\W i n σ' H') ?_ m0 ⟨0,Z,H2,I2,ea,fun b O=>(f2 b O).1,w0⟩;rintro n s3 ⟨i,σ3,H3,I3,ee,et,w3⟩;rcases turn i n σ3 H3 w3 with ⟨P,qn⟩ | ⟨go,N,hN,step⟩
 .refine Fq hp (thn (T.done X rfl rfl rfl hc i pins s3 σ3 H3 X.xe I3 (F et) ee P) fun r s4 ⟨hr,I4⟩=>?_);subst hr;exact FJ ⟨σ3,H3,I4,qn⟩
 refine Fq hp (thn (T.item X rfl rfl rfl hc i pins s3 σ3 H3 X.xe I3 (F et) ee go) fun r s4 zz=>?_);obtain ⟨u,hr,h4⟩:=zz;subst hr;refine Fq hp (thn h4 fun _ s5 zz=>?_);obtain ⟨x,H5,I5,r5,y5,Y,eo⟩:=zz;have ei:=I5.pinned (F eo) (T.obj _ _ Y);refine Fq hp (thn (hg _ s5 σ3 H5 x u _ ei r5 (step x H5 y5)) fun _ s6 zz=>?_);obtain ⟨σ6,H6,I6,q6⟩:=zz;refine Fq hp (thn (O _ s6 σ6 H6 _ I6 q6) fun f s7 G=>?_);have U:∀{S:St} {R:Hp},Inv X (pins++jy fp s5.heap) S R s7->N S R->∃ m,m<n/\∃ i σ' H',Inv X pins σ' H' s7/\tn i s7.heap/\(∀b∈fp,H' b=none)/\W i m σ' H':=fun {S R} M n7=>by obtain ⟨m',hm,w7⟩:=hN S R n7;refine ⟨m',hm,i+1,S,R,M.unpinned,T.keep _ _ _ Y fun b O o e=>(M.pin (b,o) (DE _ (DE _ (dM O e)))).1,fun b O=>?_,w7⟩;obtain ⟨o,e,d⟩:=T.obj _ _ Y b O;exact (M.pin (b,o) (DE _ (DE _ (dM O e)))).2.1
 cases f with
 | next=>obtain ⟨S,R,M,n7⟩:=G;exact U M n7
 | cont=>obtain ⟨S,R,M,n7⟩:=G;exact U M n7
 | brk=>obtain ⟨S,R,M,G⟩:=G;exact ⟨S,R,M.unpinned,G⟩
 | ret v=>obtain ⟨x7,S,R,M,r7,G⟩:=G;exact ⟨x7,S,R,M.unpinned,r7,G⟩)
theorem cU (hp:PassesOwn (model X.prog X.w) X.A X.env X.xe)(G:QT X c tt)(M:QSs X body s):QS X (.While c body [] pos) (Ak tt s):=.mk (by
 have G:=G.to;have M:=M.to;intro pins s Z H D I h;obtain ⟨W,⟨m0,w0⟩,turn⟩:=h;refine wpAny_While (codeAny_whileLoop (fun n s'=>∃ σ' H',Inv X pins σ' H' s'/\W n σ' H') ?_ m0 ⟨Z,H,I,w0⟩);rintro n s1 ⟨R,H1,I1,w1⟩;refine Fq hp (thn (G pins s1 R H1 _ I1 (turn n R H1 w1)) fun b s2 zz=>?_);obtain ⟨H2,I2,S⟩:=zz;cases b with
 | true =>
  obtain ⟨N,hN,S⟩:=S;rw [Dm rfl];refine Fq hp (thn (M pins s2 R H2 _ I2 S) fun f s3 U=>?_);cases f with
  | next =>
   obtain ⟨T,O,P,F⟩:=U;obtain ⟨m',J,Y⟩:=hN T O F;exact ⟨m',J,T,O,P,Y⟩
  | cont =>
   obtain ⟨T,O,P,F⟩:=U;obtain ⟨m',J,Y⟩:=hN T O F;exact ⟨m',J,T,O,P,Y⟩
  | brk=>exact U
  | ret v=>exact U
 | false =>
  rw [Di Dy];exact FJ ⟨R,H2,I2,S⟩)
end
end
end L2
namespace L2
open PySem PySem.Spec PyProof.Rows
open PySem.SeqAt (EqAt RcAt RcNeAt)
def okV:V->Bool
 | .byt _=>false
 | .flt _=>false
 | _=>true
inductive Al (K:W.Frag)(H:Hp):Nat->V->V->Prop
 | same {n:Nat} {x:V}:okV x=true->Al K H n x x
 | tup {n:Nat} {a b:Addr} {xs ys:List V}:SqT K H a xs->SqT K H b ys->xs.length=ys.length->(∀(i:Nat) (x y:V),xs[i]?=some x->ys[i]?=some y->Al K H n x y)->Al K H (n+1) (.ref a) (.ref b)
 | lst {n:Nat} {a b:Addr} {xs ys:List V}:SqL K H a xs->SqL K H b ys->xs.length=ys.length->(∀(i:Nat) (x y:V),xs[i]?=some x->ys[i]?=some y->Al K H n x y)->Al K H (n+1) (.ref a) (.ref b)
theorem Vals.at {xs:List V}{us:List Value}(r:Vals xs us){j:Nat}(h:j<us.length):∃ x,xs[j]?=some x/\RelV x us[j]:=by
 have O:j<xs.length:=by rw [r.length];exact h
 have e:xs[j]?=some xs[j]:=bt O;obtain ⟨u,c,T⟩:=r.get e;rw [bt h] at c;cases c;exact ⟨_,e,T⟩
section
variable {X:Cx}
theorem Al.eqAt (I:Inv X pins Z H s){x:V}(h:Al X.K H n x y):∀{v u:Value} (A:Around),RelV x v->RelV y u->A.units+n<cLine->EqAt A s v u true:=by
 induction h with
 | @same n x hk =>
  intro v u A c T M;cases x with
  | non=>cases c;cases T;exact Hl _
  | bl b=>cases c;cases T;exact Hl _
  | int i =>
   obtain ⟨t,rfl⟩:=c;obtain ⟨J,rfl⟩:=T;have:=EqAt.int_int (A:=A) (s:=s) i t i J
   rwa [Ga] at this
  | str i =>
   obtain ⟨t,rfl⟩:=c;obtain ⟨J,rfl⟩:=T;have:=EqAt.str_str (A:=A) (s:=s) i t i J
   rwa [Ga] at this
  | byt b=>cases hk
  | flt b=>cases hk
  | ref a=>cases c;cases T;exact Hl _
  | ty a=>cases c;cases T;exact Hl _
 | @tup n a b xs ys ha hb hl hs ih =>
  intro v u A c T M;cases c;cases T;by_cases S:a=b
  .subst S;exact Hl _
  obtain ⟨its,r,G,_⟩:=I.tuple ha;obtain ⟨O,U,R,_⟩:=I.tuple hb;have e1:=r.length;have e2:=U.length;have q:=RcAt.tuples (e:=fun _=>true) G R (A:=A) (DY (Ff _ _) M) (fun j P Y=>by
   obtain ⟨x,W,c⟩:=r.at (j:=j) (by simpa using P);obtain ⟨y,F,T⟩:=U.at (j:=j) (by simpa using Y);have:=ih j x y W F A.in1 c T (by show A.units+1+n<cLine;lia);simpa using this)
  have z:((List.range (min its.toArray.size O.toArray.size)).all (fun _=>true)&&its.toArray.size == O.toArray.size)=true:=by simp;lia
  rw [z] at q;exact EqAt.of_refs S q
 | @lst n a b xs ys ha hb hl hs ih =>
  intro v u A c T M;cases c;cases T;by_cases S:a=b
  .subst S;exact Hl _
  obtain ⟨its,r,G,_⟩:=I.list ha;obtain ⟨O,U,R,_⟩:=I.list hb;have e1:=r.length;have e2:=U.length;have q:=RcAt.lists (e:=fun _=>true) G.isList R.isList (A:=A) (by simp;lia) (DY (Ff _ _) M) (fun j P Y=>by
   obtain ⟨x,W,c⟩:=r.at (j:=j) (by simpa using P);obtain ⟨y,F,T⟩:=U.at (j:=j) (by simpa using Y);have:=ih j x y W F A.in1 c T (by show A.units+1+n<cLine;lia);simpa using this)
  have z:((List.range its.toArray.size).all (fun _=>true))=true:=by simp
  rw [z] at q;exact EqAt.of_refs S q
def AlL (K:W.Frag)(H:Hp)(n:Nat)(xs ys:List V):Prop:=xs.length=ys.length/\∀(i:Nat) (x y:V),xs[i]?=some x->ys[i]?=some y->Al K H n x y
def BQ (K:W.Frag)(b:Bool):R2:=fun x y H Q=>∃ p q xs ys,x=.ref p/\y=.ref q/\SqT K H p xs/\SqT K H q ys/\AlL K H 8 xs ys/\Q (.bl b) H
def BD (K:W.Frag)(b:Bool):R2:=fun x y H Q=>∃ p q xs ys,x=.ref p/\y=.ref q/\SqL K H p xs/\SqL K H q ys/\AlL K H 8 xs ys/\Q (.bl b) H
theorem A5 (hu:X.A.units+100<cLine):OpR X (compareOp .Eq) (BQ X.K true):=by
 intro pins s Z H x y v u Q I c T h;obtain ⟨a,b,xs,ys,rfl,rfl,Y,J,⟨hl,W⟩,q⟩:=h;cases c;cases T;obtain ⟨its,r,M,_⟩:=I.tuple Y;obtain ⟨S,R,O,_⟩:=I.tuple J;have e1:=r.length;have e2:=R.length;refine SeqAt.eq_tupleAt (e:=fun _=>true) M O Dc (fun j P U=>?_) ⟨.bl true,H,I,?_,q⟩
 .obtain ⟨x,F,c⟩:=r.at (j:=j) (by simpa using P);obtain ⟨y,G,T⟩:=R.at (j:=j) (by simpa using U);have:=(W j x y F G).eqAt I X.A.in1 c T (by show X.A.units+1+8<cLine;lia);simpa using this
 show Value.bool _=Value.bool true;simp;lia
theorem AH (hu:X.A.units+100<cLine):OpR X (compareOp .NotEq) (BQ X.K false):=by
 intro pins s Z H x y v u Q I c T h;obtain ⟨a,b,xs,ys,rfl,rfl,Y,J,⟨hl,W⟩,q⟩:=h;cases c;cases T;obtain ⟨its,r,M,_⟩:=I.tuple Y;obtain ⟨S,R,O,_⟩:=I.tuple J;have e1:=r.length;have e2:=R.length;refine SeqAt.RcNeAt.tuples (e:=fun _=>true) M O Dc (fun j P U=>?_) _ _ _ _ ⟨.bl false,H,I,?_,q⟩
 .obtain ⟨x,F,c⟩:=r.at (j:=j) (by simpa using P);obtain ⟨y,G,T⟩:=R.at (j:=j) (by simpa using U);have:=(W j x y F G).eqAt I X.A.in1 c T (by show X.A.units+1+8<cLine;lia);simpa using this
 show Value.bool _=Value.bool false;simp;lia
theorem yM (hu:X.A.units+100<cLine):OpR X (compareOp .Eq) (BD X.K true):=by
 intro pins s Z H x y v u Q I c T h;obtain ⟨a,b,xs,ys,rfl,rfl,Y,J,⟨hl,W⟩,q⟩:=h;cases c;cases T;obtain ⟨its,r,M,_⟩:=I.list Y;obtain ⟨S,R,O,_⟩:=I.list J;have e1:=r.length;have e2:=R.length;refine SeqAt.eq_listAt (e:=fun _=>true) M.isList O.isList (by simp;lia) Dc (fun j P U=>?_) ⟨.bl true,H,I,?_,q⟩
 .obtain ⟨x,F,c⟩:=r.at (j:=j) (by simpa using P);obtain ⟨y,G,T⟩:=R.at (j:=j) (by simpa using U);have:=(W j x y F G).eqAt I X.A.in1 c T (by show X.A.units+1+8<cLine;lia);simpa using this
 show Value.bool _=Value.bool true;simp
theorem zo (hu:X.A.units+100<cLine):OpR X (compareOp .NotEq) (BD X.K false):=by
 intro pins s Z H x y v u Q I c T h;obtain ⟨a,b,xs,ys,rfl,rfl,Y,J,⟨hl,W⟩,q⟩:=h;cases c;cases T;obtain ⟨its,r,M,_⟩:=I.list Y;obtain ⟨S,R,O,_⟩:=I.list J;have e1:=r.length;have e2:=R.length;refine SeqAt.RcNeAt.lists (e:=fun _=>true) M.isList O.isList (by simp;lia) Dc (fun j P U=>?_) _ _ _ _ ⟨.bl false,H,I,?_,q⟩
 .obtain ⟨x,F,c⟩:=r.at (j:=j) (by simpa using P);obtain ⟨y,G,T⟩:=R.at (j:=j) (by simpa using U);have:=(W j x y F G).eqAt I X.A.in1 c T (by show X.A.units+1+8<cLine;lia);simpa using this
 show Value.bool _=Value.bool false;simp
end
theorem Room.u100 {k:Nat}(r:Room k A):A.units+100<cLine:=by have:=r.un;lia
theorem AlL.same (h:∀x∈xs,okV x=true):AlL K H n xs xs:=⟨rfl,fun i x y T c=>by
 rw [T] at c;cases c;exact .same (h x (DV T))⟩
end L2
namespace Hm
open PySem L2
abbrev g (xs:List V)(i:Nat):V:=xs.getD i .non
def sw (xs:List V)(i j:Nat):List V:=(xs.set i (g xs j)).set j (g xs i)
structure Od (lt:V->V->Bool):Prop where
 as:∀a b,lt a b=true->lt b a=false
 nt:∀a b c,lt a b=false->lt b c=false->lt a c=false
theorem Od.irr {lt:V->V->Bool}(o:Od lt)(a:V):lt a a=false:=by
 cases e:lt a a with
 | false=>rfl
 | true=>have:=o.as a a e;rw [e] at this;exact this
theorem nu {k:Nat}{v:V}:g (xs.set i v) k=if i=k/\k<xs.length then v else g xs k:=by
 simp only [g,DS,List.getElem?_set];by_cases h:i=k
 .subst h;by_cases c:i<xs.length
  .simp [c]
  .simp [c,FK (HW c)]
 simp [h]
theorem aX {j:Nat}:(sw xs i j).length=xs.length:=by simp [sw]
theorem dZ {j k:Nat}(hi:i<xs.length)(O:j<xs.length):g (sw xs i j) k=if k=j then g xs i else if k=i then g xs j else g xs k:=by
 unfold sw;rw [nu,nu,EA];by_cases T:k=j
 .subst T;simp [O]
 rw [Di (by intro z;exact T z.1.symm),Di T];by_cases c:k=i
 .subst c;simp [hi]
 rw [Di (by intro z;exact c z.1.symm),Di c]
theorem g_get (h:i<xs.length):g xs i=xs[i]:=by simp [g,DS,h]
theorem fE {j:Nat}(hi:i<xs.length)(c:j<xs.length):(sw xs i j).Perm xs:=by unfold sw;rw [g_get hi,g_get c];exact List.set_set_perm hi c
def les (lt:V->V->Bool)(xs:List V)(p:Nat):Nat:=if 2*p+2<xs.length/\lt (g xs (2*p+2)) (g xs (2*p+1))=true then 2*p+2 else 2*p+1
def kids (n p:Nat):Nat:=if 2*p+2<n then 2 else if 2*p+1<n then 1 else 0
def dn (lt:V->V->Bool):Nat->List V->Nat->Nat->List V×Nat
 | 0,xs,_,lk=>(xs,lk)
 | f+1,xs,p,lk=>if 2*p+1<xs.length then
   if lt (g xs (les lt xs p)) (g xs p)=true then dn lt f (sw xs p (les lt xs p)) (les lt xs p) (lk+kids xs.length p) else (xs,lk+kids xs.length p)
  else (xs,lk)
def up (lt:V->V->Bool):Nat->List V->Nat->Nat->List V×Nat
 | 0,xs,_,lk=>(xs,lk)
 | f+1,xs,p,lk=>if 0<p then
   if lt (g xs p) (g xs ((p-1) / 2))=true then up lt f (sw xs p ((p-1) / 2)) ((p-1) / 2) (lk+1) else (xs,lk+1)
  else (xs,lk)
theorem dL {lt:V->V->Bool}{p:Nat}:2*p+1<=les lt xs p:=by unfold les;split <;> lia
theorem qX {lt:V->V->Bool}{p:Nat}:les lt xs p<=2*p+2:=by unfold les;split <;> lia
theorem dw {lt:V->V->Bool}{p:Nat}(h:2*p+1<xs.length):les lt xs p<xs.length:=by unfold les;split <;> lia
theorem mW {lt:V->V->Bool}(o:Od lt){p k:Nat}(hk:k<xs.length)(c:k=2*p+1∨k=2*p+2):lt (g xs k) (g xs (les lt xs p))=false:=by
 unfold les;split
 .rename_i h;rcases c with rfl | rfl
  .exact o.as _ _ h.2
  .exact o.irr _
 rename_i h;rcases c with rfl | rfl
 .exact o.irr _
 cases e:lt (g xs (2*p+2)) (g xs (2*p+1)) with
 | false=>rfl
 | true=>exact absurd ⟨hk,e⟩ h
theorem dn_len {lt:V->V->Bool}:∀{f:Nat} {xs:List V} {p lk:Nat},(dn lt f xs p lk).1.length=xs.length
 | 0,xs,p,lk=>rfl
 | f+1,xs,p,lk=>by
  unfold dn;split
  .split
   .rw [dn_len,aX]
   .rfl
  .rfl
theorem dn_perm {lt:V->V->Bool}:∀{f:Nat} {xs:List V} {p lk:Nat},(dn lt f xs p lk).1.Perm xs
 | 0,xs,p,lk=>.refl _
 | f+1,xs,p,lk=>by
  unfold dn;split
  .rename_i h;split
   .exact dn_perm.trans (fE Dc (dw h))
   .exact .refl _
  .exact .refl _
theorem lC {lt:V->V->Bool}:∀{f:Nat} {xs:List V} {p lk:Nat},dn lt f xs p lk=((dn lt f xs p 0).1,lk+(dn lt f xs p 0).2)
 | 0,xs,p,lk=>by simp [dn]
 | f+1,xs,p,lk=>by
  unfold dn;split
  .split
   .rw [lC (lk:=lk+_),lC (lk:=0+_)];simp [Nat.add_assoc]
   .simp
  .simp
theorem dJ {lt:V->V->Bool}:∀{f:Nat} {xs:List V} {p lk:Nat},p<xs.length->(up lt f xs p lk).1.Perm xs
 | 0,xs,p,lk,_=>.refl _
 | f+1,xs,p,lk,hp=>by
  unfold up;split
  .split
   .exact (dJ (by rw [aX];lia)).trans (fE Dc Dc)
   .exact .refl _
  .exact .refl _
def HF (lt:V->V->Bool)(q:Nat)(xs:List V):Prop:=∀k,0<k->k<xs.length->q<=(k-1) / 2->lt (g xs k) (g xs ((k-1) / 2))=false
def IsH (lt:V->V->Bool)(xs:List V):Prop:=∀k,0<k->k<xs.length->lt (g xs k) (g xs ((k-1) / 2))=false
theorem HF.zero {lt:V->V->Bool}(h:HF lt 0 xs):IsH lt xs:=fun k a b=>h k a b (D6 _)
theorem fy {lt:V->V->Bool}(o:Od lt){q:Nat}:∀{f:Nat} {xs:List V} {p lk:Nat},xs.length<=p+f->q<=p ->
  (∀k,0<k->k<xs.length->q<=(k-1) / 2->(k-1) / 2≠p->lt (g xs k) (g xs ((k-1) / 2))=false) ->
  (p=q∨(0<p/\q<=(p-1) / 2/\∀k,0<k->k<xs.length->(k-1) / 2=p->lt (g xs k) (g xs ((p-1) / 2))=false))->HF lt q (dn lt f xs p lk).1
 | 0,xs,p,lk,hf,hq,h1,I=>by
  intro k k0 k1 k2;exact h1 k k0 k1 k2 (by have:k<xs.length:=k1;lia)
 | f+1,xs,p,lk,hf,hq,h1,I=>by
  unfold dn;split
  .rename_i hc;have Y:=dL (lt:=lt) (xs:=xs) (p:=p);have G:=qX (lt:=lt) (xs:=xs) (p:=p);have O:=dw (lt:=lt) hc;have M:=fun k hk W=>mW o (xs:=xs) (p:=p) (k:=k) hk W;split
   .rename_i hl;generalize les lt xs p=b at *;have c:p<xs.length:=by lia
    refine fy o (by rw [aX];lia) Dc (fun k k0 k1 k2 F=>?_) (.inr ⟨Dc,Dc,fun k k0 k1 k2=>?_⟩)
    .rw [aX] at k1;rw [dZ c O,dZ c O];by_cases S:k=b
     .subst S;have T:(k-1) / 2=p:=by lia
      rw [Dm rfl,T,Di Dc,Dm rfl];exact o.as _ _ hl
     .rw [Di S,Di (by lia:¬ (k-1) / 2=b)];by_cases T:(k-1) / 2=p
      .rw [Di Dc,Dm T];exact M k k1 Dc
      .rw [Di T];by_cases U:k=p
       .subst U;rw [Dm rfl];rcases I with I | ⟨_,_,I⟩
        .lia
        .exact I b Dc O Dc
       .rw [Di U];exact h1 k k0 k1 k2 T
    .rw [aX] at k1;have S:(b-1) / 2=p:=by lia
     rw [S,dZ c O,dZ c O,Di Dc,Di Dc,Di Dc,Dm rfl];have:=h1 k k0 k1 Dc Dc
     rwa [k2] at this
   .rename_i hl;intro k k0 k1 k2;by_cases T:(k-1) / 2=p
    .rw [T];have R:lt (g xs (les lt xs p)) (g xs p)=false:=by simpa using hl
     exact o.nt _ _ _ (M k k1 Dc) R
    .exact h1 k k0 k1 k2 T
  .intro k k0 k1 k2;exact h1 k k0 k1 k2 (by have:k<xs.length:=k1;lia)
theorem gF {lt:V->V->Bool}(o:Od lt):∀{f:Nat} {xs:List V} {p lk:Nat},p<=f->p<xs.length ->
  (∀k,0<k->k<xs.length->k≠p->lt (g xs k) (g xs ((k-1) / 2))=false) ->
  (∀k,0<k->k<xs.length->(k-1) / 2=p->0<p->lt (g xs k) (g xs ((p-1) / 2))=false)->IsH lt (up lt f xs p lk).1
 | 0,xs,p,lk,hf,hp,h1,h2=>fun k k0 k1=>h1 k k0 k1 Dc
 | f+1,xs,p,lk,hf,hp,h1,h2=>by
  unfold up;split
  .rename_i hc;split
   .rename_i hl;generalize M:(p-1) / 2=a at *;have T:a<xs.length:=by lia
    refine gF o Dc (by rw [aX];lia) (fun k k0 k1 S=>?_) (fun k k0 k1 S W=>?_)
    .rw [aX] at k1;rw [dZ hp T,dZ hp T,Di S];by_cases c:k=p
     .subst c;rw [Dm rfl,M,Dm rfl];exact o.as _ _ hl
     .rw [Di c];by_cases R:(k-1) / 2=a
      .rw [Dm R];have O:=h1 k k0 k1 c;rw [R] at O;exact o.nt _ _ _ O (o.as _ _ hl)
      .rw [Di R];by_cases I:(k-1) / 2=p
       .rw [Dm I];exact h2 k k0 k1 I hc
       .rw [Di I];exact h1 k k0 k1 c
    .rw [aX] at k1;rw [dZ hp T,dZ hp T,Di Dc,Di (by lia:¬ (a-1) / 2=a),Di (by lia:¬ (a-1) / 2=p)];have U:=h1 a Dc T Dc;by_cases c:k=p
     .rw [Dm c];exact U
     .rw [Di c];have O:=h1 k k0 k1 c;rw [S] at O;exact o.nt _ _ _ O U
   .rename_i hl;intro k k0 k1;by_cases c:k=p
    .subst c;simpa using hl
    .exact h1 k k0 k1 c
  .intro k k0 k1;exact h1 k k0 k1 Dc
def mk (lt:V->V->Bool):Nat->List V->Nat->List V×Nat
 | 0,xs,lk=>(xs,lk)
 | k+1,xs,lk=>mk lt k (dn lt xs.length xs k 0).1 (lk+(dn lt xs.length xs k 0).2)
theorem mk_perm {lt:V->V->Bool}:∀{k:Nat} {xs:List V} {lk:Nat},(mk lt k xs lk).1.Perm xs
 | 0,_,_=>.refl _
 | k+1,xs,lk=>by unfold mk;exact mk_perm.trans dn_perm
end Hm
namespace L2
open PySem
def uF:Option HO->List V
 | some (.tup [.int i,.str n,.int j])=>[.int i,.str n,.int j]
 | _=>[.int 0,.str "",.int 0]
theorem tw (o:Option HO):eI (uF o):=by
 unfold uF;split
 .exact ⟨_,_,_,rfl⟩
 exact ⟨_,_,_,rfl⟩
def bZ (H:Hp):V->List V
 | .ref a=>uF (H a)
 | _=>[.int 0,.str "",.int 0]
theorem gh (H:Hp)(x:V):eI (bZ H x):=by
 unfold bZ;split
 .exact tw _
 exact ⟨_,_,_,rfl⟩
theorem yt (h:H a=some (.tup l))(e:eI l):bZ H (.ref a)=l:=by obtain ⟨i,n,j,rfl⟩:=e;show uF (H a)=_;rw [h];rfl
def ltT (t:V->List V)(a b:V):Bool:=bw (t a) (t b)
theorem kR {a b:List V}(S:eI a)(R:eI b)(h:bX a=bX b):a=b:=by obtain ⟨i,x,j,rfl⟩:=S;obtain ⟨O,c,I,rfl⟩:=R;have h':((i,x.cps.toList,j):Int×List Nat×Int)=(O,c.cps.toList,I):=h;simp only [Hw] at h';obtain ⟨rfl,T,rfl⟩:=h';rw [cF T]
structure EnR (t:V->List V)(H:Hp)(xs:List V):Prop where
 tot:∀x,eI (t x)
 mem:∀x∈xs,∃ a,x=.ref a/\H a=some (.tup (t x))
section
variable {t:V->List V}{H H':Hp}{xs ys:List V}
theorem EnR.sub (e:EnR t H xs)(s:∀y∈ys,y∈xs):EnR t H ys:=⟨e.tot,fun x c=>e.mem x (s x c)⟩
theorem EnR.move (e:EnR t H xs)(s:∀b l,H b=some (.tup l)->H' b=some (.tup l)):EnR t H' xs:=⟨e.tot,fun x c=>by
 obtain ⟨a,rfl,h⟩:=e.mem x c;exact ⟨a,rfl,s _ _ h⟩⟩
theorem EnR.put (e:EnR t H xs)(h:H p=some (.lst zs)):EnR t (upd H p o) xs:=e.move fun b l q=>by rw [af (aL q h nqz)];exact q
theorem EnR.fit (e:EnR t H xs)(x y:V):oO (t x) (t y):=AT (e.tot _) (e.tot _)
theorem EnR.gat (e:EnR t H xs)(h:i<xs.length):∃ a,Hm.g xs i=.ref a/\H a=some (.tup (t (Hm.g xs i)))/\Hm.g xs i∈xs/\atI xs (i:Int)=some (Hm.g xs i):=by
 have c:Hm.g xs i∈xs:=by rw [Hm.g_get h];exact Ee h
 obtain ⟨a,T,O⟩:=e.mem _ c;refine ⟨a,T,O,c,aW ?_⟩;rw [Hm.g_get h];exact bt h
end
theorem hU (h:i<xs.length):atI xs (i:Int)=some (Hm.g xs i):=aW (by rw [Hm.g_get h];exact bt h)
theorem uq {t':V->List V}(h:∀x∈xs,t' x=t x)(i:Hm.IsH (ltT t) xs):Hm.IsH (ltT t') xs:=fun k I c=>by
 have T:Hm.g xs k∈xs:=by rw [Hm.g_get c];exact Ee c
 have O:Hm.g xs ((k-1) / 2)∈xs:=by rw [Hm.g_get Dc];exact Ee Dc
 have:=i k I c;unfold ltT at this ⊢;rw [h _ T,h _ O];exact this
end L2
namespace Hm
open PySem L2
variable {lt:V->V->Bool}{xs:List V}{f p lk:Nat}
theorem si (h:¬ 2*p+1<xs.length):dn lt f xs p lk=(xs,lk):=by
 cases f with
 | zero=>rfl
 | succ f=>unfold dn;rw [Di h]
theorem gc (h:2*p+1<xs.length)(q:lt (g xs (les lt xs p)) (g xs p)=false):dn lt (f+1) xs p lk=(xs,lk+kids xs.length p):=by unfold dn;rw [Dm h,Di (by rw [q];exact Dy)]
theorem nM (h:2*p+1<xs.length)(q:lt (g xs (les lt xs p)) (g xs p)=true):dn lt (f+1) xs p lk=dn lt f (sw xs p (les lt xs p)) (les lt xs p) (lk+kids xs.length p):=by
 conv=>lhs;unfold dn
 rw [Dm h,Dm q]
theorem up_stop (h:¬ 0<p):up lt f xs p lk=(xs,lk):=by
 cases f with
 | zero=>rfl
 | succ f=>unfold up;rw [Di h]
theorem up_stay (h:0<p)(q:lt (g xs p) (g xs ((p-1) / 2))=false):up lt (f+1) xs p lk=(xs,lk+1):=by unfold up;rw [Dm h,Di (by rw [q];exact Dy)]
theorem up_go (h:0<p)(q:lt (g xs p) (g xs ((p-1) / 2))=true):up lt (f+1) xs p lk=up lt f (sw xs p ((p-1) / 2)) ((p-1) / 2) (lk+1):=by
 conv=>lhs;unfold up
 rw [Dm h,Dm q]
theorem tG (h:2*p+2<xs.length):(les lt xs p:Int)=2*(p:Int)+1+(if lt (g xs (2*p+2)) (g xs (2*p+1))=true then 1 else 0):=by
 unfold les;by_cases q:lt (g xs (2*p+2)) (g xs (2*p+1))=true
 .rw [Dm ⟨h,q⟩,Dm q];lia
 rw [Di (fun z=>q z.2),Di q];lia
theorem tU (h:¬ 2*p+2<xs.length):les lt xs p=2*p+1:=by unfold les;rw [Di (fun z=>h z.1)]
theorem fX {j:Nat}(hi:i<xs.length)(c:j<xs.length):∀y∈sw xs i j,y∈xs:=fun y T=>(fE hi c).mem_iff.mp T
end Hm
namespace L2
open PySem
theorem uQ {Q:VK}(c:Nat->List V->Hp->Prop)(M:c 0 [] (upd H D (.lst [])))(R:∀i ys H,c i ys H->H D=some (.lst ys)/\SqL K H a xs)(U:∀i x ys H,xs[i]?=some x->c i ys H->tt (some x::bR cap Z) H fun b O =>
   if b=true then te (some x::bR cap Z) O fun v I=>I D=some (.lst ys)/\ys.length<sizeLine/\∃ m',m'<xs.length-i/\m'=xs.length-(i+1)/\i+1<=xs.length/\c (i+1) (ys++[v]) (upd I D (.lst (ys++[v])))
   else ∃ m',m'<xs.length-i/\m'=xs.length-(i+1)/\i+1<=xs.length/\c (i+1) ys O)(hd:∀ys H,c xs.length ys H->Q (.ref D) H):
  CW (Itl K a) tt te cap Z H D (fun H=>Q (.ref D) H):=by
 refine ⟨fun i m ys H=>m=xs.length-i/\i<=xs.length/\c i ys H,⟨xs.length,Dd,D6 _,M⟩,?_⟩;rintro i m ys H ⟨rfl,hi,p⟩;obtain ⟨S,q⟩:=R i ys H p;refine ⟨S,?_⟩;by_cases T:i<xs.length
 .refine .inr ⟨⟨xs,xs[i],q,by simp [T]⟩,fun x H' y=>?_⟩;obtain ⟨e,y⟩:=y;subst e;exact U i x ys _ (y xs q) p
 have e:i=xs.length:=by lia
 subst e;exact .inl ⟨⟨xs,q,Dj _⟩,hd ys H p⟩
end L2
namespace L2
open PySem PySem.Spec PyProof.Rows
def Itd (lo:Int)(n:Nat):It:=⟨fun i _=>i<n,fun i H x H'=>H'=H/\x=.int (lo-i),fun i _=>n<=i⟩
theorem vQ (a b:Int):Builtin.Range.rangeSize a b (-1)=((a-b).toNat:Int):=by
 unfold Builtin.Range.rangeSize;rw [Di Db];split
 .rw [show -(-1:Int)=1 by decide,Int.ediv_one];lia
 lia
theorem w5 {a b:Int}(I:-(2 ^ 62)<=a)(T:a<2 ^ 62)(O:-(2 ^ 62)<=b)(c:b<2 ^ 62):Builtin.Range.small a b (-1)=true:=by unfold Builtin.Range.small;rw [vQ];simp only [Builtin.Range.rangeFitsLong,DP,GW,Ed,Gy,show ¬ ((-1:Int)>0) by decide,FF];lia
theorem nK {P:Program}{K:PySem.W.Frag}(c:Addr)(lo:Int)(n:Nat):nE P w K tg (Itd lo n) [c] c (fun i h=>IsRangeIter h c (lo+(i:Nat)*(-1)) ((n:Int)-(i:Nat)) (-1)) where
 mem:=by simp
 obj:=fun i h st b T=>by
  have e:b=c:=by simpa using T
  subst e;exact ⟨_,st,fun v z=>by
   have z':Data.fields _=Data.cell v:=z;cases z'⟩
 keep:=fun i h h' st k=>k c Dd _ st
 item:=by
  intro X J hw F Y i pins s Z H E I S st M;subst J hw F;obtain ⟨R,G,f2,U,f4,f5⟩:=S c Dd;have W:=Walks.range (prog:=X.prog) (w:=X.w) (I.ok.hd Y) c lo (-1) n;refine W.item i s _ _ M st fun v h' tk hv O kk=>?_;obtain ⟨t,rfl⟩:=hv;have I1:Inv X pins Z H { s with heap:=h',toks:=tk }:=I.turned (fun b o T e=>kk b o (by simpa using T) e) R G U f4 f5;refine ⟨_,rfl,jw (s:={ s with heap:=h',toks:=tk }) (n:="range_iterator") O rfl rfl Db ⟨.int (lo-i),H,I1,⟨t,?_⟩,⟨rfl,rfl⟩,O,fun b T=>(S b T).1⟩⟩;rw [show lo+(i:Int)*(-1)=lo-i by lia]
 done:=by
  intro X J hw F Y i pins s Z H E I S st M;subst J hw F;obtain ⟨R,G,f2,U,f4,f5⟩:=S c Dd;exact wpAny_pyNext_range_end (I.ok.hd Y) st (by have:n<=i:=M;lia) fun h' eb=>⟨rfl,I.turned (t':=s.toks) (fun b o T e=>eb b o T e) R G U f4 f5⟩
 self:=fun _ _ _ _ _ st h=>wpAny_pyIter_rangeiter st h
section
variable {X:Cx}{tg:Expr}
theorem uG {R:It->Hp->Prop}{lo hi:Int}{t u v:Tok}{tk:Nat}(I:Inv X pins Z H s)(S:-(2 ^ 62)<=lo)(O:lo<2 ^ 62)(F:-(2 ^ 62)<=hi)(M:hi<2 ^ 62)(q:R (Itd lo (lo-hi).toNat) H):wpAny (model X.prog X.w) X.A (pyIter (.ref s.heap.objs.size)) (PIE X pins Z tg R) E { s with heap:=s.heap.push { cls:=.type "range",data:=.fields #[.int lo t,.int hi u,.int (-1) v] },toks:=tk }:=by
 refine wpAny_pyIter_range (IsRange.new ..) (w5 S O F M) ?_;have c:Inv X pins Z H { s with heap:=s.heap.push { cls:=.type "range",data:=.fields #[.int lo t,.int hi u,.int (-1) v] },toks:=tk }:=I.kept fun b o e=>Dt _ e;refine ⟨(s.heap.push { cls:=.type "range",data:=.fields #[.int lo t,.int hi u,.int (-1) v] }).objs.size,[(s.heap.push { cls:=.type "range",data:=.fields #[.int lo t,.int hi u,.int (-1) v] }).objs.size],_,_,H,rfl,
  c.kept (t':=tk) fun b o e=>Dt _ e,nK _ lo (lo-hi).toNat,?_,fun b W=>?_,q⟩
 .have T:lo+((0:Nat):Int)*(-1)=lo:=by simp
  have U:(((lo-hi).toNat:Nat):Int)-((0:Nat):Int)=Builtin.Range.rangeSize lo hi (-1):=by rw [vQ];lia
  show IsRangeIter _ _ (lo+((0:Nat):Int)*(-1)) ((((lo-hi).toNat:Nat):Int)-((0:Nat):Int)) (-1);rw [T,U];exact DQ _ rfl
 have e:b=(s.heap.push { cls:=.type "range",data:=.fields #[.int lo t,.int hi u,.int (-1) v] }).objs.size:=by simpa using W
 subst e;exact c.fpOk (Dj _) (c.hok.fresh (Dj _))
def BC (ta:TA):TI:=fun Z H R=>ta Z H fun vs H1=>∃ i j:Int,vs=[.int i,.int j,.int (-1)]/\(-(2 ^ 62)<=i/\i<2 ^ 62/\-(2 ^ 62)<=j/\j<2 ^ 62)/\R (Itd i (i-j).toNat) H1
theorem kK {a b c:Expr}{p:Pos}(F:Gl X "range")(P:X.mg "range"=none)(S:QA X [a,b,c] ta)(J:autoParam (starEach [a,b,c] X.env=[(false,eval a X.env),(false,eval b X.env),(false,eval c X.env)]) aad)(T:autoParam (starEach [b,c] X.env=[(false,eval b X.env),(false,eval c X.env)]) aad):
  QI X tg (.Call (.Name "range" p) [a,b,c] [] pos) (BC ta):=.mk (by
 have S:=S.to;intro pins s Z H R I h;refine Call_ (i9 I F P boot_range (FI (thn (S pos pins s Z H _ I h) fun us s1 ⟨vs,H1,I1,Y,O⟩=>?_) (by rw [J,T]) (by rw [T];rfl)));obtain ⟨i,j,e,⟨O,M,W,G⟩,q⟩:=O;subst e;cases Y with
 | cons r rr =>
  cases rr with
  | cons r' rr =>
   cases rr with
   | cons r'' rr =>
    cases rr;obtain ⟨t,rfl⟩:=r;obtain ⟨t',rfl⟩:=r';obtain ⟨U,rfl⟩:=r'';exact call_range_3 Db (uG I1 O M W G q) (.inl (PyProof.noPylong_small Db)))
theorem jF {lo:Int}{g:TG}{D:gO}(c:Nat->St->Hp->Prop)(U:c 0 Z H)(R:∀i Z H,i<n->c i Z H->g (.int (lo-i)) Z H fun S O=>tb { D with nx:=c (i+1),ct:=c (i+1),bk:=D.nx } S O)(hd:∀Z H,c n Z H->D.nx Z H):
  FW (Itd lo n) g tb D Z H:=by
 refine ⟨fun i m Z H=>m=n-i/\i<=n/\c i Z H,⟨n,Dd,D6 _,U⟩,?_⟩;rintro i m Z H ⟨rfl,hi,p⟩;by_cases T:i<n
 .refine .inr ⟨T,c (i+1),fun M H' I=>⟨n-(i+1),Dc,rfl,T,I⟩,fun x H' y=>?_⟩;obtain ⟨e,y⟩:=y;subst e y;exact R i Z _ T p
 have e:i=n:=by lia
 subst e;exact .inl ⟨Dj _,hd Z H p⟩
end
end L2
namespace L2
open PySem
theorem fW {R:Hp->Prop}(c:Nat->List V->Hp->Prop)(U:c 0 [] (upd H D (.lst [])))(I:∀i ys H,c i ys H->H D=some (.lst ys)/\SqL K H a xs)(S:∀i x ys H,xs[i]?=some x->c i ys H->tt (some x::bR cap Z) H fun b T =>
   if b=true then te (some x::bR cap Z) T fun v O=>O D=some (.lst ys)/\ys.length<sizeLine/\∃ m',m'<xs.length-i/\m'=xs.length-(i+1)/\i+1<=xs.length/\c (i+1) (ys++[v]) (upd O D (.lst (ys++[v])))
   else ∃ m',m'<xs.length-i/\m'=xs.length-(i+1)/\i+1<=xs.length/\c (i+1) ys T)(hd:∀ys H,c xs.length ys H->R H):
  CW (Itl K a) tt te cap Z H D R :=
 uQ (Q:=fun _ H=>R H) c U I S hd
end L2
namespace Hm
open PySem L2
def lgs (n:Nat):Nat->Nat
 | 0=>0
 | k+1=>lgs n k+(n / (k+1)).log2
theorem i6 {lt:V->V->Bool}(o:Od lt)(h:IsH lt xs):∀k,k<xs.length->lt (g xs k) (g xs 0)=false:=fun k=>by
 induction k using Nat.strongRecOn with
 | _ k ih =>
  intro hk;by_cases c:k=0
  .subst c;exact o.irr _
  .exact o.nt _ _ _ (h k Dc hk) (ih ((k-1) / 2) Dc Dc)
theorem iU {lt:V->V->Bool}(o:Od lt)(h:IsH lt xs)(c:y∈xs):lt y (g xs 0)=false:=by obtain ⟨k,hk,e⟩:=EV c;rw [<-e,<-g_get hk];exact i6 o h k hk
def cutf (lt:V->V->Bool)(xs:List V):List V×Nat :=
 if xs.dropLast=[] then ([],0) else dn lt xs.dropLast.length (xs.dropLast.set 0 (g xs (xs.length-1))) 0 0
theorem cT (h:2<=xs.length):∃ c,xs=g xs 0::c++[g xs (xs.length-1)]/\xs.dropLast=g xs 0::c:=by
 cases xs with
 | nil=>simp at h
 | cons a l =>
  have T:l≠[]:=by intro e;rw [e] at h;simp at h
  refine ⟨l.dropLast,?_,?_⟩
  .show a::l=a::l.dropLast++[g (a::l) l.length];have:g (a::l) l.length=l.getLast T:=by
    rw [g_get Dd];rw [Hy];rw [List.getElem_cons];have:l.length≠0:=by intro e;exact T (DL.mp e)
    simp [this]
   rw [this,EH,GP]
  .show (a::l).dropLast=a::l.dropLast;exact GQ T
theorem cX {lt:V->V->Bool}(h:xs.length=1):cutf lt xs=([],0):=by unfold cutf;rw [Dm];rw [<-DL,Eh,h]
theorem dY {lt:V->V->Bool}{c:List V}(e:xs.dropLast=g xs 0::c):cutf lt xs=dn lt (c.length+1) (g xs (xs.length-1)::c) 0 0:=by unfold cutf;rw [Di (by rw [e];simp),e];rfl
theorem cS {lt:V->V->Bool}(h:0<xs.length):(g xs 0::(cutf lt xs).1).Perm xs:=by
 by_cases T:2<=xs.length
 .obtain ⟨c,e,O⟩:=cT T;rw [dY O];refine (List.Perm.cons _ dn_perm).trans ?_
  conv=>rhs;rw [e]
  rw [EH];refine List.Perm.cons _ ?_;exact (FL (l₁:=[g xs (xs.length-1)]) (l₂:=c))
 rw [cX Dc];cases xs with
 | nil=>simp at h
 | cons a l =>
  have:l=[]:=DL.mp (by rw [Dw] at T;lia);subst this;exact .refl _
theorem eU {lt:V->V->Bool}(o:Od lt)(h:IsH lt xs)(G:0<xs.length):IsH lt (cutf lt xs).1:=by
 by_cases M:2<=xs.length
 .obtain ⟨c,e,U⟩:=cT M;rw [dY U];have len:xs.length=c.length+2:=by have:=congrArg List.length U;rw [Eh,Dw] at this;lia
  have I:∀k,k<c.length->g (g xs (xs.length-1)::c) (k+1)=g xs (k+1):=fun k hk=>by
   have S:(g xs 0::c++[g xs (xs.length-1)])[k+1]?=some c[k]:=by rw [EH,Fz,EF hk,bt hk]
   rw [<-e] at S;show (g xs (xs.length-1)::c).getD (k+1) .non=xs.getD (k+1) .non;rw [DS,DS,S,Fz,bt hk]
  refine HF.zero (fy o (by rw [Dw];lia) (Dj _) (fun k W O _ F=>?_) (.inl rfl));rw [Dw] at O;obtain ⟨T,rfl⟩:∃ T,k=T+1:=⟨k-1,Dc⟩;obtain ⟨j,R⟩:∃ j,(T+1-1) / 2=j+1:=⟨(T+1-1) / 2-1,Dc⟩;rw [R,I T Dc,I j Dc];have:=h (T+1) Dc Dc
  rwa [R] at this
 rw [cX Dc];intro k W O;exact absurd O Dd
end Hm
namespace L2
open PySem PySem.Spec PyProof.Rows
open PySem.SeqAt (EqAt RcAt RcNeAt)
theorem pZ {o:Expr}{to:TE}{name:Str}{T R:String}{r:V->List V->Hp->VK->Prop}(Y:PlainAttrs T)(S:Slot T name R)(U:typeOf (.builtin R)=pure (.type "method_descriptor"))(hm:MtR X R r)(M:QE X o to)(c:autoParam (attributeBase o name X.env (eval o X.env)=eval o X.env) aad)(O:autoParam ((apos.endLine == cpos.line)=true) aad):QE X (.Call (.Attribute o name apos) [] [] cpos) (Cv X.K T r to):=.mk (by
 have M:=M.to;intro pins s Z H Q I h;refine wpAny_Call_method0_late c O (thn (M pins s Z H _ I h) fun v P zz=>?_);obtain ⟨x,G,F,W,ty,J⟩:=zz;obtain ⟨h1,h2⟩:=vt F W ty;exact ⟨T,R,Y,S,U,h1,h2,ES rfl (PySem.evalArgs_none (hm pins P Z G x [] v [] Q F W .nil J))⟩)
theorem dG:QS X st (fun _ _ _=>False):=.mk (fun _ _ _ _ _ _ h=>h.elim)
end L2
namespace PySem
open Sem (wp)
namespace Heap
def TracedC (h base:Heap)(e:Addr)(cls a0:Value):Prop :=
 ∃ oe vs T oT ts,h.get? e=some oe/\(oe.cls=cls/\(vs[0]?=some a0/\vs[2]?=some .none))/\oe.data=.fields vs/\vs[1]?=some (.ref T)/\base.get? T=none/\T≠e/\h.get? T=some oT/\oT.data=.fields ts/\ts[3]?=some .none
def TracedAtC (h base:Heap)(e:Addr)(cls a0 fl:Value):Prop :=
 ∃ oe vs T oT ts,h.get? e=some oe/\(oe.cls=cls/\(vs[0]?=some a0/\vs[2]?=some .none))/\oe.data=.fields vs/\vs[1]?=some (.ref T)/\base.get? T=none/\T≠e/\h.get? T=some oT/\oT.data=.fields ts/\ts[3]?=some fl
theorem TracedC.at (x:h.TracedC base e cls a0):h.TracedAtC base e cls a0 .none:=x
def NotedC (base:Heap)(l:List Env)(e:Addr)(cls a0 fl:Value)(h h':Heap):Prop :=
 base.StaysIn h'/\h'.FunFrames base l/\h'.TracedAtC base e cls a0 fl/\∀b o,h.get? b=some o->(∀vs,o.data≠.fields vs)->∃ sl,h'.get? b=some { o with slots:=sl }
end Heap
section
variable {M:Model}{A:Around}{E:Value->Shared->Prop}{s:Shared}
def Heap.LeftC (base:Heap)(l:List Env)(e:Addr)(cls a0:Value)(h h':Heap):Prop :=
 base.StaysIn h'/\h'.FunFrames base l/\h'.TracedC base e cls a0 /\
  ∀b o,h.get? b=some o->(∀vs,o.data≠.fields vs)->∃ sl,h'.get? b=some { o with slots:=sl }
theorem dU {L:Addr}{vs:Array Value}{S:Value}{Q:Unit->Shared->Prop}(er:A.frames=some (env::outer))(hl:s.heap.FunFrames base (env::outer))(hf:env.frame=some L)(he:s.heap.get? e=some oe)(ed:base.StaysIn s.heap)(eh:base.get? e=none)(hd:oe.data=.fields vs)(hsz:1<vs.size)(h0:vs[0]?=some a0/\vs[2]?=some .none)(h:∀h',Heap.LeftC base (env::outer) e oe.cls a0 s.heap h'->Q () { s with heap:=h' }):
  wpAny M A (do let a <-frameOf env;let pl <-entryPlaceOf L hadNext;let b <-EntryCells.newEntry S a .none (rawInt L) .none pl;setField (.ref e) 1 b) (fun _ s'=>wpAny M A (setFlight (.ref e) none) Q E s') E s:=by
 have et:e∉(env::outer).filterMap (·.frame):=fun hm=>by obtain ⟨_,o,ho,I⟩:=hl.mem hm;rw [he] at ho;injection ho with ho;subst ho;exact I vs hd
 refine Dh (wpAny_frameOf_fun er hl hf fun T W=>?_);refine Dh (wpAny_entryPlaceOf fun pl Y=>?_);unfold EntryCells.newEntry newFields;refine Dh (EU ?_ (Y.sizeOk5 _ _ _ _ _));have eo:T.get? e=some oe:=(W.2.1 e et).trans he;have J:base.StaysIn T:=fun b o O=>(W.2.1 b fun hm=>by rw [(hl.mem hm).1] at O;cases O).trans (ed b o O);have ea:=Dt (h:=T) { cls:=.type "traceback",dict:=none,data:=.fields ([S,.ref L,.none,rawInt L,.none]++(if pl.isEmpty then List.replicate 6 Value.none else pl)).toArray } eo;refine F4 ea hd hsz ?_;have F:T.objs.size≠e:=Ik (DM eo);have G:=Fj hd (·.setIfInBounds 1 (Value.ref T.objs.size));have ee:=Fh (Obj.mapFields (·.setIfInBounds 1 (Value.ref T.objs.size))) ea (FN G);have P:=(Ea (T.push { cls:=.type "traceback",dict:=none,data:=.fields ([S,.ref L,.none,rawInt L,.none]++(if pl.isEmpty then List.replicate 6 Value.none else pl)).toArray })
  (Obj.mapFields (·.setIfInBounds 1 (Value.ref T.objs.size))) (Fc F)).trans (DQ T rfl)
 unfold setFlight;refine Dh (Fy ee G (x:=.ref T.objs.size) (by simp [hsz]) ?_);rw [Dm (show (Value.ref T.objs.size != Value.none)=true from by simp)];refine F4 P rfl (by simp only [DD,Ds,Dw,EZ] <;> lia) (h _ ?_);have U:∀b o,b≠e->T.get? b=some o ->
   (((T.push { cls:=.type "traceback",dict:=none,data:=.fields ([S,.ref L,.none,rawInt L,.none]++(if pl.isEmpty then List.replicate 6 Value.none else pl)).toArray }).update e (Obj.mapFields (·.setIfInBounds 1 (Value.ref T.objs.size)))).update T.objs.size
    (Obj.mapFields (·.setIfInBounds 3 ((none:Option Addr).elim Value.none fun f=>rawInt f)))).get? b=some o:=fun b o es R=>by
  have ei:T.objs.size≠b:=Ik (DM R);rw [Ea _ _ ei,Ea _ _ (Fc es)];exact Dt _ R
 have c:∀b o,s.heap.get? b=some o->(∀vs,o.data≠.fields vs)->b≠e:=fun b o R I q=>by rw [q,he] at R;injection R with R;subst R;exact I vs hd
 refine ⟨fun b o O=>U b o (fun q=>by rw [q,eh] at O;cases O) (J b o O),hl.of_keeps fun b o R I=>?_,?_,fun b o R I=>?_⟩
 .obtain ⟨sl,hs⟩:=W.2.2 b o R;exact ⟨_,U b _ (c b o R I) hs,rfl⟩
 .refine ⟨_,_,T.objs.size,_,_,?_,⟨Obj.cls_mapFields _ _,by rw [EW Db];exact h0.1,by rw [EW Db];exact h0.2⟩,G,by simp [hsz],J.fresh,F,Fh _ P (FN (Fj rfl _)),Fj rfl _,by first | (simp;done) | (rcases Y with rfl | ⟨_,_,_,_,_,_,_,rfl⟩ <;> simp)⟩;rw [Ea _ _ F];exact ee
 obtain ⟨sl,hs⟩:=W.2.2 b o R;exact ⟨sl,U b _ (c b o R I) hs⟩
theorem eu {L:Addr}{vs:Array Value}{Q:Unit->Shared->Prop}(O:A.frames=some (env::outer))(U:s.heap.FunFrames base (env::outer))(I:env.frame=some L)(S:s.heap.get? e=some oe)(c:base.StaysIn s.heap)(T:base.get? e=none)(hd:oe.data=.fields vs)(R:vs[1]?=some .none)(W:vs[0]?=some a0/\vs[2]?=some .none)(h:∀h',Heap.LeftC base (env::outer) e oe.cls a0 s.heap h'->Q () { s with heap:=h' }):wpAny M A (leaving env (.ref e)) Q E s:=by unfold leaving noteFrame;simp only [I];refine Dh (Dh (Fy S hd R ?_));rw [Di Db];exact dU O U I S c T hd (Ep.mp R).1 W h
theorem fO {L:Addr}{Q:Unit->Shared->Prop}(P:A.frames=some (env::outer))(hl:s.heap.FunFrames base (env::outer))(hf:env.frame=some L)(ht:s.heap.TracedC base e cls a0)(J:base.StaysIn s.heap)(G:base.get? e=none)(h:∀h',Heap.LeftC base (env::outer) e cls a0 s.heap h'->Q () { s with heap:=h' }):wpAny M A (leaving env (.ref e)) Q E s:=by
 obtain ⟨oe,vs,T,oT,ts,he,⟨W,h0⟩,hd,h1,ee,F,Y,U,h3⟩:=ht;subst W;unfold leaving noteFrame;simp only [hf];refine Dh (Dh (Fy he hd h1 ?_));rw [Dm (show (Value.ref T != Value.none)=true from by simp)];refine Dh (Fy Y U h3 ?_);rw [Di (show ¬ ((Value.none == rawInt L)=true) from by simp [rawInt])];refine Dh (F4 Y U (Ep.mp h3).1 ?_);have O:∀b,b≠T->(s.heap.update T (Obj.mapFields (·.setIfInBounds 3 Value.none))).get? b=s.heap.get? b:=fun b S=>Ea _ _ (Fc S);have c:∀b o,s.heap.get? b=some o->(∀vs,o.data≠.fields vs)->b≠T:=fun b o S I q=>by rw [q,Y] at S;injection S with S;subst S;exact I ts U
 refine dU P (hl.of_keeps fun b o S I=>⟨o,(O b (c b o S I)).trans S,rfl⟩) hf ((O e (Fc F)).trans he)
  (fun b o R=>(O b fun q=>by rw [q,ee] at R;cases R).trans (J b o R)) G hd (Ep.mp h1).1 h0
  fun h' ⟨x1,x2,x3,x4⟩=>h h' ⟨x1,x2,x3,fun b o S I=>x4 b o ((O b (c b o S I)).trans S) I⟩
def Heap.FlyingC (base:Heap)(l:List Env)(e:Addr)(cls a0:Value)(h:Heap):Prop :=
 base.StaysIn h/\base.get? e=none/\h.FunFrames base l/\h.TracedC base e cls a0
theorem Heap.FlyingC.there {l:List Env}(x:Heap.FlyingC base l e cls a0 h):∃ c,h.get? e=some c/\c.cls=cls:=by obtain ⟨_,_,_,oe,_,_,_,_,T,O,_⟩:=x;exact ⟨oe,T,O.1⟩
theorem hZ {L:Addr}{Q:Unit->Shared->Prop}(T:A.frames=some (env::outer))(I:env.frame=some L)(c:Heap.FlyingC base (env::outer) e cls a0 s.heap)(R:∀h',Heap.FlyingC base outer e cls a0 h'->s.heap.UpToSlots h'->Q () { s with heap:=h' }):wpAny M A (leaving env (.ref e)) Q E s:=by obtain ⟨P,O,W,J⟩:=c;refine fO T W I J P O fun h' S=>?_;obtain ⟨F,⟨_,_,Y⟩,U,G⟩:=S;exact R h' ⟨F,O,Y,U⟩ G
theorem mH {L:Addr}{vs:Array Value}{I:Value}{Q:Unit->Shared->Prop}(eh:A.frames=some (env::outer))(hl:s.heap.FunFrames base (env::outer))(hf:env.frame=some L)(he:s.heap.get? e=some oe)(er:base.StaysIn s.heap)(es:base.get? e=none)(hd:oe.data=.fields vs)(hsz:1<vs.size)(h0:vs[0]?=some a0/\vs[2]?=some .none)(h:∀h',Heap.NotedC base (env::outer) e oe.cls a0 (rawInt L) s.heap h'->Q () { s with heap:=h' }):
  wpAny M A (do let a <-frameOf env;let pl <-entryPlaceOf L hadNext;let b <-EntryCells.newEntry I a .none (rawInt L) .none pl;setField (.ref e) 1 b) Q E s:=by
 have J:e∉(env::outer).filterMap (·.frame):=fun hm=>by obtain ⟨_,o,ho,O⟩:=hl.mem hm;rw [he] at ho;injection ho with ho;subst ho;exact O vs hd
 refine Dh (wpAny_frameOf_fun eh hl hf fun S W=>?_);refine Dh (wpAny_entryPlaceOf fun pl F=>?_);unfold EntryCells.newEntry newFields;refine Dh (EU ?_ (F.sizeOk5 _ _ _ _ _));have et:S.get? e=some oe:=(W.2.1 e J).trans he;have Y:base.StaysIn S:=fun b o T=>(W.2.1 b fun hm=>by rw [(hl.mem hm).1] at T;cases T).trans (er b o T);have ee:=Dt (h:=S) { cls:=.type "traceback",dict:=none,data:=.fields ([I,.ref L,.none,rawInt L,.none]++(if pl.isEmpty then List.replicate 6 Value.none else pl)).toArray } et;refine F4 ee hd hsz (h _ ?_);have G:S.objs.size≠e:=Ik (DM et);have P:=Fj hd (·.setIfInBounds 1 (Value.ref S.objs.size));have eo:=Fh (Obj.mapFields (·.setIfInBounds 1 (Value.ref S.objs.size))) ee (FN P);have ea:=(Ea (S.push { cls:=.type "traceback",dict:=none,data:=.fields ([I,.ref L,.none,rawInt L,.none]++(if pl.isEmpty then List.replicate 6 Value.none else pl)).toArray })
  (Obj.mapFields (·.setIfInBounds 1 (Value.ref S.objs.size))) (Fc G)).trans (DQ S rfl)
 have U:∀b o,b≠e->S.get? b=some o ->
   ((S.push { cls:=.type "traceback",dict:=none,data:=.fields ([I,.ref L,.none,rawInt L,.none]++(if pl.isEmpty then List.replicate 6 Value.none else pl)).toArray }).update e (Obj.mapFields (·.setIfInBounds 1 (Value.ref S.objs.size)))).get? b=some o :=
  fun b o ei R=>by rw [Ea _ _ (Fc ei)];exact Dt _ R
 have c:∀b o,s.heap.get? b=some o->(∀vs,o.data≠.fields vs)->b≠e:=fun b o R O q=>by rw [q,he] at R;injection R with R;subst R;exact O vs hd
 refine ⟨fun b o T=>U b o (fun q=>by rw [q,es] at T;cases T) (Y b o T),hl.of_keeps fun b o R O=>?_,?_,fun b o R O=>?_⟩
 .obtain ⟨sl,hs⟩:=W.2.2 b o R;exact ⟨_,U b _ (c b o R O) hs,rfl⟩
 .exact ⟨_,_,S.objs.size,_,_,eo,⟨Obj.cls_mapFields _ _,by rw [EW Db];exact h0.1,by rw [EW Db];exact h0.2⟩,P,by simp [hsz],Y.fresh,G,ea,rfl,by first | (simp;done) | (rcases F with rfl | ⟨_,_,_,_,_,_,_,rfl⟩ <;> simp)⟩
 obtain ⟨sl,hs⟩:=W.2.2 b o R;exact ⟨sl,U b _ (c b o R O) hs⟩
theorem fM {L:Addr}{Q:Unit->Shared->Prop}(P:A.frames=some (env::outer))(hl:s.heap.FunFrames base (env::outer))(hf:env.frame=some L)(ht:s.heap.TracedC base e cls a0)(J:base.StaysIn s.heap)(G:base.get? e=none)(h:∀h',Heap.NotedC base (env::outer) e cls a0 (rawInt L) s.heap h'->Q () { s with heap:=h' }):wpAny M A (noteFrame (.ref e) env) Q E s:=by
 obtain ⟨oe,vs,T,oT,ts,he,⟨W,h0⟩,hd,h1,ee,F,Y,U,h3⟩:=ht;subst W;unfold noteFrame;simp only [hf];refine Dh (Fy he hd h1 ?_);rw [Dm (show (Value.ref T != Value.none)=true from by simp)];refine Dh (Fy Y U h3 ?_);rw [Di (show ¬ ((Value.none == rawInt L)=true) from by simp [rawInt])];refine Dh (F4 Y U (Ep.mp h3).1 ?_);have O:∀b,b≠T->(s.heap.update T (Obj.mapFields (·.setIfInBounds 3 Value.none))).get? b=s.heap.get? b:=fun b S=>Ea _ _ (Fc S);have c:∀b o,s.heap.get? b=some o->(∀vs,o.data≠.fields vs)->b≠T:=fun b o S I q=>by rw [q,Y] at S;injection S with S;subst S;exact I ts U
 refine mH P (hl.of_keeps fun b o S I=>⟨o,(O b (c b o S I)).trans S,rfl⟩) hf ((O e (Fc F)).trans he)
  (fun b o R=>(O b fun q=>by rw [q,ee] at R;cases R).trans (J b o R)) G hd (Ep.mp h1).1 h0
  fun h' ⟨x1,x2,x3,x4⟩=>h h' ⟨x1,x2,x3,fun b o S I=>x4 b o ((O b (c b o S I)).trans S) I⟩
theorem cu {l:List Env}{fl:Value}{Q:Unit->Shared->Prop}(J:base.StaysIn s.heap)(hl:s.heap.FunFrames base l)(ht:s.heap.TracedAtC base e cls a0 fl)(h:∀h',base.StaysIn h'->h'.FunFrames base l->h'.TracedC base e cls a0->(∀b o,s.heap.get? b=some o->(∀vs,o.data≠.fields vs)->h'.get? b=some o)->Q () { s with heap:=h' }):
  wpAny M A (setFlight (.ref e) none) Q E s:=by
 obtain ⟨oe,vs,T,oT,ts,he,Y,hd,h1,G,F,P,R,h3⟩:=ht;have U:3<ts.size:=(Ep.mp h3).1;have O:∀b,b≠T->(s.heap.update T (Obj.mapFields (·.setIfInBounds 3 ((none:Option Addr).elim Value.none fun f=>rawInt f)))).get? b=s.heap.get? b :=
  fun b I=>Ea _ _ (Fc I)
 have c:∀b o,s.heap.get? b=some o->(∀vs,o.data≠.fields vs)->b≠T:=fun b o I S q=>by rw [q,P] at I;injection I with I;subst I;exact S ts R
 unfold setFlight;refine Dh (Fy he hd h1 ?_);rw [Dm (show (Value.ref T != Value.none)=true from by simp)];refine F4 P R U (h _ (fun b o W=>(O b fun q=>by rw [q,G] at W;cases W).trans (J b o W))
  (hl.of_keeps fun b o I S=>⟨o,(O b (c b o I S)).trans I,rfl⟩) ?_ fun b o I S=>(O b (c b o I S)).trans I)
 exact ⟨oe,vs,T,_,_,(O e (Fc F)).trans he,Y,hd,h1,G,F,Fh _ P (FN (Fj R _)),Fj R _,by simp [U]⟩
def Heap.HeldC (base:Heap)(l:List Env)(e:Addr)(cls a0:Value)(L:Addr)(h:Heap):Prop :=
 base.StaysIn h/\base.get? e=none/\h.FunFrames base l/\h.TracedAtC base e cls a0 (rawInt L)
theorem iu {L:Addr}{Q:Unit->Shared->Prop}(T:A.frames=some (env::outer))(I:env.frame=some L)(c:Heap.FlyingC base (env::outer) e cls a0 s.heap)(R:∀h',Heap.HeldC base (env::outer) e cls a0 L h'->s.heap.UpToSlots h'->Q () { s with heap:=h' }):wpAny M A (noteFrame (.ref e) env) Q E s:=by obtain ⟨P,O,W,J⟩:=c;refine fM T W I J P O fun h' S=>?_;obtain ⟨G,Y,U,F⟩:=S;exact R h' ⟨G,O,Y,U⟩ F
theorem mX {l:List Env}{L:Addr}{Q:Unit->Shared->Prop}(c:Heap.HeldC base l e cls a0 L s.heap)(F:∀h',Heap.FlyingC base l e cls a0 h'->s.heap.UpToSlots h'->Q () { s with heap:=h' }):wpAny M A (setFlight (.ref e) none) Q E s:=by obtain ⟨W,O,S,P⟩:=c;exact cu W S P fun h' I R T G=>F h' ⟨I,O,R,T⟩ fun b o Y U=>⟨o.slots,G b o Y U⟩
theorem fV {L:Addr}{Q:Unit->Shared->Prop}(I:A.frames=some (env::outer))(J:env.frame=some L)(T:base.StaysIn h)(hl:h.FunFrames base (env::outer))(c:Heap.MadeExcOf h s.heap e cls args)(hQ:∀h' t,Heap.FlyingC base outer e cls (.ref t) h'->h'.TupAt t args->base.get? t=none->s.heap.UpToSlots h'->Q () { s with heap:=h' }):wpAny M A (leaving env (.ref e)) Q E s:=by
 obtain ⟨t,P,S,G⟩:=c.there;have fresh:∀b,h.get? b=none->base.get? b=none:=fun b O=>by
  cases hq:base.get? b with
  | none=>rfl
  | some o'=>have:=T b o' hq;rw [O] at this;cases this
 refine eu (a0:=.ref t) I (hl.of_keeps fun b o O _=>⟨o,c.keeps b o O,rfl⟩) J P (fun b o O=>c.keeps b o (T b o O)) (fresh e c.new) rfl rfl ⟨rfl,rfl⟩ fun h' U=>?_;obtain ⟨F,⟨_,_,Y⟩,W,R⟩:=U;exact hQ h' t ⟨F,fresh e c.new,Y,W⟩ (Heap.TupAt.of_slots ⟨_,_,G,rfl,rfl⟩ R) (fresh t S) R
end
end PySem
namespace L2
open PySem PySem.Spec PyProof.Rows
theorem mO {M:Model}{l:List Env}{Q:Unit->Shared->Prop}(c:Heap.FlyingC base l e cls a0 s.heap)(F:∀h',Heap.FlyingC base l e cls a0 h'->s.heap.UpToSlots h'->Q () { s with heap:=h' }):wpAny M A (setFlight (.ref e) none) Q E s:=by obtain ⟨W,O,S,P⟩:=c;exact cu W S P.at fun h' I R T G=>F h' ⟨I,O,R,T⟩ fun b o Y U=>⟨o.slots,G b o Y U⟩
structure Ground (P:Program)(w:World)(fs:List Addr)(H H':Hp)(h B:Heap):Prop where
 ok:HOk P w H' B
 old:∀b o,h.get? b=some o->H b=none->b∉fs->B.get? b=some o
 there:∀b o,h.get? b=some o->b∉fs->∃ o',B.get? b=some o'
def CXe (P:Program)(w:World):CXT:=fun outer H s E v s'=>∃ (e C:Addr) (H':Hp) (B:Heap) (a0:Value),v=.ref e/\s'.os=s.os/\AllBare s'.gens/\Un (frs outer) [] H H' s.heap s'.heap /\
 Ground P w (frs outer) H H' s.heap B/\Heap.FlyingC B outer e (.ref C) a0 s'.heap/\E (.ref C) none H'
theorem HOk.get {P:Program}(x:HOk P w H h)(e:H a=some o):∃ c,h.get? a=some c:=by
 have q:=x a o e;cases o with
 | lst xs=>obtain ⟨_,_,_,_,e⟩:=q;exact ⟨_,e⟩
 | tup xs=>obtain ⟨_,_,_,c,e,_⟩:=q;exact ⟨_,e⟩
 | dK kvs=>obtain ⟨_,_,_,_,o,_,_,e,_⟩:=q;exact ⟨_,e⟩
 | dT kvs=>obtain ⟨_,_,_,_,o,_,_,e,_⟩:=q;exact ⟨_,e⟩
 | set S n=>obtain ⟨o,_,_,_,e,_⟩:=q;exact ⟨_,e⟩
 | ins C dx fs=>obtain ⟨_,_,_,e,_⟩:=q;exact ⟨_,e⟩
 | own y=>obtain ⟨_,e⟩:=q;exact ⟨_,e⟩
 | xd fs=>obtain ⟨_,⟨_,_,_,e,_⟩,_⟩:=q;exact ⟨_,e⟩
 | rng lo hi=>obtain ⟨_,_,_,e⟩:=q;exact ⟨_,e⟩
 | frz c u=>obtain ⟨e,_⟩:=q;exact ⟨_,e⟩
 | tbl ps=>exact ⟨_,show h.get? a=some _ from q⟩
 | met f y=>exact ⟨_,show h.get? a=some _ from q⟩
 | ext φ=>obtain ⟨_,e,_⟩:=q;exact e
section
variable {X:Cx}{pins:List (Addr×Obj)}{Z:St}{H H':Hp}{s s':Shared}{B:Heap}
def Kp (X:Cx)(pins:List (Addr×Obj))(Z:St)(H':Hp)(s':Shared)(B:Heap):Prop:=∀h' t',B.StaysIn h'->s'.heap.UpToSlots h'->Inv X pins Z H' { s' with heap:=h',toks:=t' }
theorem Inv.kp (I:Inv X pins Z H s)(Y:s'.os=s.os)(T:AllBare s'.gens)(U:Un (frs X.stack) [] H H' s.heap s'.heap)(G:Ground X.prog X.w (frs X.stack) H H' s.heap B):Kp X pins Z H' s' B:=fun h' t' st up=>by
 have R:∀b∈frs X.stack,∀o,s.heap.get? b=some o->∃ M,h'.get? b=some { o with slots:=M }:=fun b c o e=>by obtain ⟨_,O,S,hd⟩:=I.stack.mem c;rw [e] at S;cases S;obtain ⟨M,W⟩:=U.slot b o e (I.stkFree b c) c Dd;exact up b { o with slots:=M } W hd
 have F:Un (frs X.stack) [] H H' s.heap h':=⟨fun b o e n c _=>st b o (G.old b o e n c),fun b o e n c _=>R b c o e,U.free,fun b o e _=>by
  by_cases c:b∈frs X.stack
  .obtain ⟨M,q⟩:=R b c o e;exact ⟨_,q⟩
  .obtain ⟨O,q⟩:=G.there b o e c;exact ⟨O,st b O q⟩,U.tups,U.frzs,U.tbls⟩
 obtain ⟨P,g,d,t,O⟩:=s';obtain rfl:O=s.os:=Y;have:=I.call (h':=h') (g':=g) (d':=d) (t':=t') (ch:=[]) F (G.ok.kept st) T (fun b z=>absurd z Dd);exact this
def Kt (X:Cx)(pins:List (Addr×Obj))(Z:St)(H':Hp)(s':Shared)(B:Heap):Prop:=∀h' t' e o,B.StaysIn h'->s'.heap.UpToSlots h'->B.get? e=none->e∉frs X.stack->ObjOk X.prog X.w (upd H' e o) h' e o->Inv X pins Z (upd H' e o) { s' with heap:=h',toks:=t' }
theorem Inv.kt (I:Inv X pins Z H s)(os:s'.os=s.os)(S:AllBare s'.gens)(U:Un (frs X.stack) [] H H' s.heap s'.heap)(G:Ground X.prog X.w (frs X.stack) H H' s.heap B):Kt X pins Z H' s' B:=fun h' t' e o st up hn hf new=>by
 have M:∀b∈frs X.stack,∀o,s.heap.get? b=some o->∃ P,h'.get? b=some { o with slots:=P }:=fun b T o e=>by obtain ⟨_,W,R,hd⟩:=I.stack.mem T;rw [e] at R;cases R;obtain ⟨P,Y⟩:=U.slot b o e (I.stkFree b T) T Dd;exact up b { o with slots:=P } Y hd
 have F:∀b u,H' b=some u->b≠e:=fun b u q z=>by obtain ⟨J,O⟩:=G.ok.get q;rw [z,hn] at O;cases O
 have U2:Un (frs X.stack) [] H (upd H' e o) s.heap h':=⟨fun b o e n T _=>st b o (G.old b o e n T),fun b o e n T _=>M b T o e,fun b o1 Y n hx=>by
  have T:b≠e:=fun z=>by subst z;have:=G.old b o1 Y n hf;rw [hn] at this;cases this
  rw [af T];exact U.free b o1 Y n hx,fun b o e _=>by
  by_cases T:b∈frs X.stack
  .obtain ⟨P,q⟩:=M b T o e;exact ⟨_,q⟩
  .obtain ⟨W,q⟩:=G.there b o e T;exact ⟨W,st b W q⟩,fun b xs q=>by rw [af (F b _ (U.tups b xs q))];exact U.tups b xs q,fun b J u q=>by rw [af (F b _ (U.frzs b J u q))];exact U.frzs b J u q,fun b ps q=>by
   obtain ⟨m,O⟩:=U.tbls b ps q;exact ⟨m,by rw [af (F b _ O)];exact O⟩⟩
 have hk:HOk X.prog X.w (upd H' e o) h':=fun b u q=>by
  by_cases T:b=e
  .subst T;rw [ad] at q;cases q;exact new
  .rw [af T] at q;exact (G.ok b u q).stay (fun c v _ z=>st c v z) (fun c z=>by rw [af (F c _ z)];exact z) fun c xs z=>by rw [af (F c _ z)];exact z
 obtain ⟨hh,g,d,t,W⟩:=s';obtain rfl:W=s.os:=os;have:=I.call (h':=h') (g':=g) (d':=d) (t':=t') (ch:=[]) U2 hk S (fun b z=>absurd z Dd);exact this
def XP (X:Cx)(pins:List (Addr×Obj))(Z:St)(E:XK)(v:Value)(s':Shared):Prop:=∃ (e C:Addr) (H':Hp) (B:Heap) (a0:Value),v=.ref e/\Heap.FlyingC B X.stack e (.ref C) a0 s'.heap /\
 Kp X pins Z H' s' B/\Kt X pins Z H' s' B/\HOk X.prog X.w H' B/\(∀b o,X.s₀.heap.get? b=some o->X.H₀ b=none->b∉X.ex->b∉frs X.stack->B.get? b=some o)/\(∀b o,X.s₀.heap.get? b=some o->b∉X.ex->b∉frs X.stack->∃ o',B.get? b=some o')/\E (.ref C) none H'
theorem Inv.xp {E:XK}{v:Value}(I:Inv X pins Z H s)(h:CXe X.prog X.w X.stack H s E v s'):XP X pins Z E v s':=by
 have S:∀b∈X.fs,b∈frs X.stack:=fun b T=>by
  rcases I.ok.stk with e | ⟨e,_⟩
  .rw [e];exact T
  .rw [e];obtain ⟨env,Y,F⟩:=Em.mp T;exact Em.mpr ⟨env,Dr _ Y,F⟩
 obtain ⟨e,C,H',B,a0,rfl,R,c,U,G,P,q⟩:=h;refine ⟨e,C,H',B,a0,rfl,P,I.kp R c U G,I.kt R c U G,G.ok,fun b o e n O T=>?_,fun b o e O T=>?_,q⟩
 .exact G.old b o (I.base.keep b o e n (fun z=>T (S b z)) O) (I.base.free b o e n O) T
 obtain ⟨W,M⟩:=I.base.there b o e O;exact G.there b W M T
end
section
variable {P:Program}{w:World}{K:W.Frag}{mg:Str->Option Value}{base:Heap}{N:List Str}{qual:Str}{scope:Scope}{f:Addr}{cd:Value}{A:Around}{outer:List Env}{s₀:Shared}{H₀:Hp}{E:XK}
theorem oq (I:Inv (bM (CXe P w) P w K mg base N qual scope f cd A outer s₀ H₀ E) pins Z H s)(hx:Heap.MadeExcOf s.heap h' e (.ref C) args)(q:E (.ref C) none H):(bM (CXe P w) P w K mg base N qual scope f cd A outer s₀ H₀ E).xe (.ref e) { s with heap:=h' }:=by
 have Y:∀env∈(bM (CXe P w) P w K mg base N qual scope f cd A outer s₀ H₀ E).stack,∀b,env.frame=some b->b∈frs (bM (CXe P w) P w K mg base N qual scope f cd A outer s₀ H₀ E).stack:=fun env he b hb=>Em.mpr ⟨env,he,hb⟩;have U:∀b,b∈frs (bM (CXe P w) P w K mg base N qual scope f cd A outer s₀ H₀ E).stack->b=s₀.heap.objs.size∨b∈frs outer:=fun b hb=>by
  obtain ⟨env,he,F⟩:=Em.mp hb;rcases ax.mp he with rfl | he
  .exact .inl (DJ F).symm
  .exact .inr (Em.mpr ⟨env,he,F⟩)
 refine fV (base:=W.hideAll s.heap (frs (bM (CXe P w) P w K mg base N qual scope f cd A outer s₀ H₀ E).stack)) (s:={ s with heap:=h' }) I.ok.frames rfl (fun b o q=>W.of_hideAll _ q) (W.funFrames_hide I.stack Y) hx fun h2 t fl _ _ up=>?_;have ee:s.heap.UpToSlots h2:=(Heap.UpToSlots.of_keeps hx.keeps).trans up;have st:=fl.1;have c:∀b o,s.heap.get? b=some o->b∉frs (bM (CXe P w) P w K mg base N qual scope f cd A outer s₀ H₀ E).stack->(W.hideAll s.heap (frs (bM (CXe P w) P w K mg base N qual scope f cd A outer s₀ H₀ E).stack)).get? b=some o:=fun b o e nb=>W.hideAll_get _ e nb;have G:∀b o,s₀.heap.get? b=some o->b∉frs outer->b∉frs (bM (CXe P w) P w K mg base N qual scope f cd A outer s₀ H₀ E).stack:=fun b o e nb hb=>by
  rcases U b hb with rfl | z
  .exact absurd (DM e) (Fg _)
  .exact nb z
 have R:∀b∈frs outer,∀o,s.heap.get? b=some o->∃ sl,h2.get? b=some { o with slots:=sl }:=fun b hb o e=>by
  have J:b∈frs (bM (CXe P w) P w K mg base N qual scope f cd A outer s₀ H₀ E).stack:=by obtain ⟨env,he,F⟩:=Em.mp hb;exact Em.mpr ⟨env,Dr _ he,F⟩
  obtain ⟨_,T,S,hd⟩:=I.stack.mem J;rw [e] at S;cases S;exact ee b o e hd
 have M:HOk P w H (W.hideAll s.heap (frs (bM (CXe P w) P w K mg base N qual scope f cd A outer s₀ H₀ E).stack)):=fun a o ea=>(I.hok a o ea).stay (fun b u hb q=>c b u q fun z=>by
  have:=I.stkFree b z;rcases hb with rfl | hb
  .rw [ea] at this;cases this
  .rw [hb] at this;cases this) (fun _ q=>q) fun _ _ q=>q
 refine ⟨e,C,H,W.hideAll s.heap (frs (bM (CXe P w) P w K mg base N qual scope f cd A outer s₀ H₀ E).stack),.ref t,rfl,I.os,I.bare,⟨fun b o e n hb _=>?_,fun b o e n hb _=>?_,I.base.free,fun b o e _=>?_,I.base.tups,I.base.frzs,I.base.tbls⟩,⟨M,fun b o e n hb=>c b o (I.base.keep b o e n hb (ah)) (G b o e hb),fun b o e hb=>?_⟩,fl,q⟩
 .exact st b o (c b o (I.base.keep b o e n hb ah) (G b o e hb))
 .obtain ⟨sl,O⟩:=I.base.slot b o e n hb ah;obtain ⟨et,e2⟩:=R b hb _ O;exact ⟨et,e2⟩
 .obtain ⟨T,O⟩:=I.base.there b o e ah;by_cases hb:b∈frs outer
  .obtain ⟨sl,e2⟩:=R b hb T O;exact ⟨_,e2⟩
  .exact ⟨T,st b T (c b T O (G b o e hb))⟩
 obtain ⟨T,O⟩:=I.base.there b o e ah;exact ⟨T,c b T O (G b o e hb)⟩
end
def w6 (K:W.Frag)(C:Addr)(v:Value):Bool:=match K.lookup C with
 | some ⟨_,_,.cls cd,_⟩=>cd.mro.contains v
 | _=>false
theorem Aw {c:List Value}(T:K.In h)(z:W.excIn K C c newId=true):
  ∃ tl S nm q bs b1 J G b4 P Y k0 k1 k2 k3 k5 mN,h.get? C=some (excClassObj nm q C S bs tl b1 J G b4 P Y k0 k1 k2 k3 k5 newId)/\h.Ns S mN/\mN "__init__"=none/\OwnTail h c tl/\∀v,w6 K C v=(Value.ref C::tl).contains v:=by
 unfold W.excIn at z;split at z
 case h_2=>cases z
 rename_i dc cl so hlk;split at z
 case h_2=>cases z
 rename_i C1 tl a0 a1 a2 a3 nw a5 hmr hso;simp only [DP,Gy,Gz] at z;obtain ⟨⟨⟨⟨⟨U,M⟩,R⟩,F⟩,O⟩,I⟩:=z;subst U M;cases cl with
 | mk c1 c2 c3 c4 c5 c6 c7 c8 c9 cA cB =>
  dsimp only at hmr R O I;subst hmr R;cases so with
  | mk l =>
   have hl:l=[a0,a1,a2,a3,some (.builtin nw),a5]:=hso;subst hl;refine ⟨tl,_,_,_,_,_,_,_,_,_,_,_,_,_,_,_,_,T _ _ hlk,.of_isNs (W.isNs_of_in T O),W.nsMap_none_of_in T O I,W.tail_of_in T F,fun v=>?_⟩;unfold w6;rw [hlk]
section
variable {P:Program}{w:World}{K:W.Frag}{mg:Str->Option Value}{base:Heap}{N:List Str}{qual:Str}{scope:Scope}{f:Addr}{cd:Value}{A:Around}{outer:List Env}{s₀:Shared}{H₀:Hp}{E:XK}
def AS (E:XK)(C:Addr)(ta:TA):TS:=fun _ Z H=>ta Z H fun vs H1=>vs.length<=1000/\E (.ref C) none H1
end
abbrev TEX:=St->Hp->VK->XK->Prop
abbrev XS:=Value->St->Hp->Prop
abbrev TSX:=gO->XS->St->Hp->Prop
def PEX (X:Cx)(e:Expr)(t:TEX):Prop :=
 ∀(pins:List (Addr×Obj)) (s:Shared) (Z:St) (H:Hp) (Q:VK) (E:XK),Inv X pins Z H s->t Z H Q E->wpAny (model X.prog X.w) X.A (eval e X.env) (EP X pins Z Q) (XP X pins Z E) s
def XSP (X:Cx)(pins:List (Addr×Obj))(E:XS)(v:Value)(s':Shared):Prop:=∃ σ',XP X pins σ' (fun c _ H'=>E c σ' H') v s'
def PSX (X:Cx)(st:Stmt)(t:TSX):Prop :=
 ∀(pins:List (Addr×Obj)) (s:Shared) (Z:St) (H:Hp) (D:gO) (E:XS),Inv X pins Z H s->t D E Z H->wpAny (model X.prog X.w) X.A (exec st X.env) (SP X pins D) (XSP X pins E) s
def BP (X:Cx)(st:List Stmt)(t:TSX):Prop :=
 ∀(pins:List (Addr×Obj)) (s:Shared) (Z:St) (H:Hp) (D:gO) (E:XS),Inv X pins Z H s->t D E Z H->wpAny (model X.prog X.w) X.A (execs st X.env) (SP X pins D) (XSP X pins E) s
section
variable {X:Cx}{k:Nat}{f:Addr}{fd:FuncData}{ps:List Str}{sp:Sp}{dvs:List V}{ds:List Value}{x:Str}{p pos:Pos}{e:Expr}{es:List Expr}{t:TA}{te:TEX}
theorem yV {Q:VK}{E:XK}{vs:List V}(F:au X.prog X.w X.K X.mg X.base (CXe X.prog X.w) k f fd ps sp)(S:Room k X.A)(O:Binds X.K fd ps ds)(hd:Vals dvs ds)(I:Inv X pins Z H s)(r:Vals vs us)(h:sp (vs++dvs) H Q E):wpAny (model X.prog X.w) X.A (call (.ref f) us) (EP X pins Z Q) (XP X pins Z E) s:=by
 have T:Vals (vs++dvs) (us++ds):=r.append hd;have R:(us++ds).length=ps.length:=by rw [<-T.length];exact F.len _ _ _ _ h
 refine wpAny_call (Ha (F.run X.A X.stack s H ⟨us,[]⟩ (us++ds) (vs++dvs) Q E S I.env0 (O s us I.kIn R) T h) fun r U c=>?_);cases r with
 | error e=>exact I.xp c
 | ok fl =>
  cases fl with
  | ret u=>exact I.after c
  | next=>exact False.elim c
  | brk=>exact False.elim c
  | cont=>exact False.elim c
def BF (te:TEX)(i:Nat):TSX:=fun D E Z H=>te Z H (fun v H'=>D.nx (Z.set i (some v)) H') fun c _ H'=>E c Z H'
theorem yW (S:X.N.Nodup)(hi:X.N[i]?=some x)(O:Loc X.env.scope x)(M:PEX X e te)(G:autoParam (swapsWith e (some (.Name x pos')) pos.line X.env=pure false) aad)(W:autoParam (X.fn x=true∨X.env.scope.names.lookup x=some .local) aac):
  PSX X (.Assign [.Name x pos'] e pos) (BF te i):=by
 intro pins s Z H D E I h;refine wpAny_Assign_Name (Ew (M pins s Z H _ _ I h) (fun v R Y=>?_) fun v R q=>⟨Z,q⟩) G;obtain ⟨y,c,P,F,U⟩:=Y;exact eM P S hi O F (fun J T=>⟨_,c,T,U⟩) W
theorem wH {t:TSX}(c:PSX X st t):BP X [st] t:=by
 intro pins s Z H D E I h;refine Ia (thn (c pins s Z H D E I h) fun f T q=>?_);cases f with
 | next=>exact FJ q
 | ret v=>exact q
 | brk=>exact q
 | cont=>exact q
abbrev Cx.inX (X:Cx)(e:Addr):Cx:={ X with A:=X.A.mark (some (.ref e)),calm:=false }
theorem Cx.Ok.inX (ok:X.Ok)(e:Addr):(X.inX e).Ok :=
 ⟨ok.mod,ok.kind,ok.glob,ok.blt,ok.above,ok.inj,ok.has,ok.cab,(fun z=>by cases z),ok.frames,ok.stk,ok.exf,ok.bs,ok.bsz,ok.noex,ok.exfs,ok.funs,ok.frf⟩
theorem Cx.Ok.outX {e:Addr}(ok:(X.inX e).Ok)(hd:X.calm=true->X.A.handled=none):X.Ok :=
 ⟨ok.mod,ok.kind,ok.glob,ok.blt,ok.above,ok.inj,ok.has,ok.cab,hd,ok.frames,ok.stk,ok.exf,ok.bs,ok.bsz,ok.noex,ok.exfs,ok.funs,ok.frf⟩
theorem Inv.inX (I:Inv X pins Z H s)(e:Addr):Inv (X.inX e) pins Z H s:=⟨I.ok.inX e,I.os,I.bare,I.base,I.loc,I.cell,I.free,I.freeC,I.pin,I.hok,I.len⟩
theorem Inv.outX {e:Addr}(I:Inv (X.inX e) pins Z H s)(hd:X.calm=true->X.A.handled=none):Inv X pins Z H s:=⟨I.ok.outX hd,I.os,I.bare,I.base,I.loc,I.cell,I.free,I.freeC,I.pin,I.hok,I.len⟩
end
end L2
namespace L2
open PySem PySem.W PySem.Spec PySem.Calls PyProof.Rows PySem.Builtin PySem.Builtin.ObjectAttr PySem.Builtin.Getset_descriptor
section
variable {X:Cx}
theorem iJ {v:V}(T:Gl X x)(c:X.mg x=some u)(r:RelV v u)(hd:autoParam ((x == ("__debug__":Str))=false) aab):QE X (.Name x pos) (tC v):=.mk (fun _ _ _ H _ I h=>fj I T c ⟨v,H,I,r,h⟩ hd)
end
section
variable {P:Program}{w:World}{K:Frag}{mg:Str->Option Value}{base:Heap}
theorem Fun.okE {k:Nat}(F:Fun K x qual st f fd)(S:av N ps (ak st))(len:∀vs H Q E,sp vs H Q E->vs.length=ps.length)(T:∀(c:Value) (A:Around) (outer:List Env) (s:Shared) (H:Hp) (vs:List V) (Q:VK) (E:XK),Room k (A.deeper (envOfC qual (ak st) s.heap.objs.size f c))->sp vs H Q E ->
   ∃ t,PSs (bM (CXe P w) P w K mg base N qual (ak st) f c A outer s H E) (bz st) t/\t { nx:=fun _ H'=>Q .non H',rt:=Q } (start N vs) H):au P w K mg base (CXe P w) (k+1) f fd ps sp:=by
 obtain ⟨W,Y,kV,U,pm,J,c,G,osl,rfl,R,O⟩:=F.ex;exact zO R O S len fun A outer s H vs Q E M I=>T c A outer s H vs Q E M I
end
section
variable {P:Program}{w:World}{K:Frag}{mg:Str->Option Value}{base:Heap}{N:List Str}{qual:Str}{scope:Scope}{f:Addr}{cd:Value}{A:Around}{outer:List Env}{s₀:Shared}{H₀:Hp}{E:XK}
theorem hV {e:Expr}{T:List Expr}{Y:Pos}{B c:String}{bm:List Value}(R:ExcBaseFacts B newId c bm)(hB:bm.contains (.type B)=true)(hg:Gl (bM (CXe P w) P w K mg base N qual scope f cd A outer s₀ H₀ E) x)(hm:mg x=some (.ref C))(hC:excIn K C bm newId=true)(hh:A.handled=none)(U:QA (bM (CXe P w) P w K mg base N qual scope f cd A outer s₀ H₀ E) (e::T) ta)(W:autoParam (starEach (e::T) (bM (CXe P w) P w K mg base N qual scope f cd A outer s₀ H₀ E).env=(false,eval e (bM (CXe P w) P w K mg base N qual scope f cd A outer s₀ H₀ E).env)::starEach T (bM (CXe P w) P w K mg base N qual scope f cd A outer s₀ H₀ E).env) aad)(S:autoParam ((backTo cpos (starEach T (bM (CXe P w) P w K mg base N qual scope f cd A outer s₀ H₀ E).env)).any (·.1)=false) aad)(hd:autoParam ((x == ("__debug__":Str))=false) aab):
  QS (bM (CXe P w) P w K mg base N qual scope f cd A outer s₀ H₀ E) (.Raise (some (.Call (.Name x Y) (e::T) [] cpos)) none pos) (AS E C ta):=.mk (by
 have U:=U.to;intro pins s Z H D I h;obtain ⟨J,N1,nm,q,bs,b1,b2,b3,b4,b5,b6,k0,k1,k2,k3,k5,mN,oC,oN,oi,F,_⟩:=Aw I.ok.mod.kin hC;have M:=U cpos pins s Z H _ I h;refine wpAny_Raise_call_subU (C:=C) (nm:=nm) (q:=q) (N:=N1) (bs:=bs) (bm:=J) (hdct:=b1) (sn:=b2) (sub:=b3) (ab:=b4) (col:=b5) (dd:=b6) (k0:=k0) (k1:=k1) (k2:=k2) (k3:=k3) (k5:=k5) R hB R (mN:=mN) (F.hasType R.hasBase) hh ?_ oi (fj I hg hm ⟨rfl,?_⟩ hd)
 .rw [W];show (false || (backTo cpos (starEach T (bM (CXe P w) P w K mg base N qual scope f cd A outer s₀ H₀ E).env)).any (·.1))=false;rw [S];rfl
 rw [W] at M ⊢;refine E4 (thn M fun us s1 zz=>?_);obtain ⟨vs,H1,O,r,hz,G⟩:=zz;have hl:us.length<=sizeLine:=by rw [<-r.length];exact Dq hz Db
 exact ⟨rfl,hl,O.bk _ _ oC,oN.keeps O.bk,F.keeps O.bk,fun h' e' hx=>oq O hx G⟩)
end
end L2
namespace Hm
open PySem L2
def wd (lt:V->V->Bool)(xs:List V):Nat->Nat->List Nat
 | 0,_=>[]
 | f+1,p=>if 2*p+1<xs.length then les lt xs p::wd lt xs f (les lt xs p) else []
variable {lt:V->V->Bool}
end Hm
namespace L2
open PySem PySem.Spec PyProof.Rows
section
variable {J:Type}[DecidableEq J]
def aU (kvs:List (J×V))(k:J):Option V:=(kvs.find? fun kv=>decide (kv.1=k)).map (·.2)
def aQ (kvs:List (J×V))(k:J)(v:V):List (J×V) :=
 if (kvs.any fun kv=>decide (kv.1=k))=true then kvs.map (fun kv=>if kv.1=k then (kv.1,v) else kv) else kvs++[(k,v)]
def cr (kvs:List (J×V))(k:J):List (J×V):=kvs.filter fun kv=>decide (kv.1≠k)
theorem bF {p:J×V}{r:List (J×V)}{k:J}(e:p.1=k):aU (p::r) k=some p.2:=by simp [aU,EM,e]
theorem bE {p:J×V}{r:List (J×V)}{k:J}(e:¬ p.1=k):aU (p::r) k=aU r k:=by simp [aU,EM,e]
theorem gp (k:J):∀kvs:List (J×V),(kvs.any fun c=>decide (c.1=k))=(aU kvs k).isSome
 | []=>rfl
 | p::r=>by
  rw [GR];by_cases e:p.1=k
  .simp only [bF e,Dk e,Bool.true_or,Gn]
  .rw [bE e,DF e,IX];exact gp k r
theorem ph (k j:J)(y:V):∀kvs:List (J×V),aU (kvs.map fun c=>if c.1=k then (c.1,y) else c) j=(aU kvs j).map fun x=>if j=k then y else x
 | []=>rfl
 | p::r=>by
  have T:=ph k j y r;rw [DH];by_cases h:p.1=k
  .rw [Dm h];by_cases e:p.1=j
   .rw [bF (p:=(p.1,y)) e,bF e,GX,Dm (e.symm.trans h)]
   .rw [bE (p:=(p.1,y)) e,bE e,T]
  .rw [Di h];by_cases e:p.1=j
   .rw [bF (p:=p) e,bF e,GX,Di (fun z=>h (e.trans z))]
   .rw [bE (p:=p) e,bE e,T]
theorem jZ (k j:J)(y:V):∀kvs:List (J×V),aU kvs k=none->aU (kvs++[(k,y)]) j=if j=k then some y else aU kvs j
 | [],_=>by
  by_cases e:k=j
  .rw [Dm e.symm];exact bF (p:=(k,y)) e
  .rw [Di (fun z=>e z.symm)];exact bE (p:=(k,y)) e
 | p::r,hn=>by
  rw [EH];have hk:¬ p.1=k:=fun z=>by rw [bF z] at hn;cases hn
  rw [bE hk] at hn;have c:=jZ k j y r hn;by_cases e:p.1=j
  .rw [bF e,bF e,Di (fun z=>hk (e.trans z))]
  .rw [bE e,bE e,c]
theorem dD (kvs:List (J×V))(k j:J)(y:V):aU (aQ kvs k y) j=if j=k then some y else aU kvs j:=by
 unfold aQ;by_cases a:(kvs.any fun T=>decide (T.1=k))=true
 .rw [Dm a,ph];rw [gp] at a;by_cases e:j=k
  .obtain ⟨x,c⟩:=Hk.mp a;rw [Dm e,e,c,GX,Dm rfl]
  .rw [Di e];cases aU kvs j with
   | none=>rfl
   | some x=>rw [GX,Di e]
 rw [Di a];refine jZ k j y kvs ?_;rw [gp] at a;cases q:aU kvs k with
 | none=>rfl
 | some x=>rw [q] at a;exact (a rfl).elim
theorem bd (kvs:List (J×V))(k:J)(v:V):(aQ kvs k v).length<=kvs.length+1:=by
 unfold aQ;split
 .rw [Dg];lia
 rw [Ds,Dw,EZ];lia
theorem RelO.isSome_eq {o:Option V}{u:Option Value}(r:RelO o u):o.isSome=u.isSome:=by
 cases o with
 | none=>cases u with
  | none=>rfl
  | some _=>exact (show False from r).elim
 | some _=>cases u with
  | none=>exact (show False from r).elim
  | some _=>rfl
theorem RelO.getD {o:Option V}{u:Option Value}{d:V}{d':Value}(r:RelO o u)(c:RelV d d'):RelV (o.getD d) (u.getD d'):=by
 cases o with
 | none=>cases u with
  | none=>exact c
  | some _=>exact (show False from r).elim
 | some _=>cases u with
  | none=>exact (show False from r).elim
  | some _=>exact r
theorem KV.val {kvs:List (J×V)}{vs:List (J×Value)}(r:KV kvs vs)(k:J):RelO (aU kvs k) (valueAt vs k):=by
 unfold KV at r
 induction r with
 | nil=>exact True.intro
 | @cons p q ps qs h t ih =>
  obtain ⟨T,O⟩:=h;by_cases e:p.1=k
  .have c:q.1=k:=T.symm.trans e;have b:valueAt (q::qs) k=some q.2:=by simp [valueAt,EM,c]
   rw [bF e,b];exact O
  .have c:¬ q.1=k:=fun z=>e (T.trans z);have b:valueAt (q::qs) k=valueAt qs k:=by simp [valueAt,EM,c]
   rw [bE e,b];exact ih
theorem KV.any {kvs:List (J×V)}{vs:List (J×Value)}(r:KV kvs vs)(k:J):(kvs.any fun c=>decide (c.1=k))=vs.any fun c=>decide (c.1=k):=by
 unfold KV at r
 induction r with
 | nil=>rfl
 | cons h t ih=>rw [GR,GR,ih,h.1]
theorem KV.repl {kvs:List (J×V)}{vs:List (J×Value)}(r:KV kvs vs)(k:J)(I:RelV y u):
  KV (kvs.map fun c=>if c.1=k then (c.1,y) else c) (vs.map fun c=>if c.1=k then (c.1,u) else c):=by
 unfold KV at r ⊢
 induction r with
 | nil=>exact .nil
 | @cons p q ps qs h t ih =>
  rw [DH,DH];refine .cons ?_ ih;obtain ⟨T,O⟩:=h;by_cases e:p.1=k
  .rw [Dm e,Dm (T.symm.trans e)];exact ⟨T,I⟩
  .rw [Di e,Di (fun z=>e (T.trans z))];exact ⟨T,O⟩
theorem KV.put {kvs:List (J×V)}{vs:List (J×Value)}(r:KV kvs vs)(k:J)(c:RelV y u):KV (aQ kvs k y) (stored vs k u):=by
 unfold aQ stored;rw [r.any k];by_cases e:(vs.any fun T=>decide (T.1=k))=true
 .rw [Dm e,Dm e];exact r.repl k c
 rw [Di e,Di e];exact Hz r ⟨rfl,c⟩
theorem KV.drop {kvs:List (J×V)}{vs:List (J×Value)}(r:KV kvs vs)(k:J):KV (cr kvs k) (without vs k):=by
 unfold KV at r ⊢;unfold cr without
 induction r with
 | nil=>exact .nil
 | @cons p q ps qs h t ih =>
  obtain ⟨c,T⟩:=h;rw [D5,D5];by_cases e:p.1=k
  .have a:¬ decide (p.1≠k)=true:=by simp [e]
   have b:¬ decide (q.1≠k)=true:=by simp [c.symm.trans e]
   rw [Di a,Di b];exact ih
  .have O:¬ q.1=k:=fun z=>e (c.trans z);have a:decide (p.1≠k)=true:=by simp [e]
   have b:decide (q.1≠k)=true:=by simp [O]
   rw [Dm a,Dm b];exact .cons ⟨c,T⟩ ih
theorem KV.keys {kvs:List (J×V)}{vs:List (J×Value)}(r:KV kvs vs):kvs.map (·.1)=vs.map (·.1):=by
 unfold KV at r
 induction r with
 | nil=>rfl
 | cons h t ih=>rw [DH,DH,ih,h.1]
theorem KV.length {kvs:List (J×V)}{vs:List (J×Value)}(r:KV kvs vs):kvs.length=vs.length:=EY r
theorem vG (kvs:List (J×V))(k:J):(cr kvs k).length<=kvs.length:=Ec _ _
end
theorem fP {P:Program}{k:Key}(r:RelV (kV k) u):(mixKind P w).is k u=true:=by
 cases k with
 | inl i=>obtain ⟨t,e⟩:=(show ∃ t,u=Value.int i t from r);subst e;exact nD P w i t
 | inr x=>obtain ⟨t,e⟩:=(show ∃ t,u=Value.str x t from r);subst e;exact dm P w x t
theorem kT {P:Program}{w:World}:∀{ks:List Key} {us:List Value},Vals (ks.map kV) us->ItemsAre (mixKind P w) ks us
 | [],_,r=>by rw [Gf] at r;cases r;exact .nil
 | k::ks,_,r=>by
  rw [DH] at r;cases r with
  | cons h t=>exact .cons (fP h) (kT t)
abbrev KT (H:Hp):List (List Key×V)->List (List Key×Addr×Value)->Prop:=Paired fun p q=>p.1=q.1/\H q.2.1=some (.tup (p.1.map kV))/\RelV p.2 q.2.2
theorem KT.val {kvs:List (List Key×V)}{xs:List (List Key×Addr×Value)}(r:KT H kvs xs)(k:List Key):RelO (aU kvs k) ((atKey xs k).map (·.2)):=by
 induction r with
 | nil=>exact True.intro
 | @cons p q ps qs h t ih =>
  obtain ⟨T,_,O⟩:=h;by_cases e:p.1=k
  .have c:q.1=k:=T.symm.trans e;have b:atKey (q::qs) k=some q.2:=by simp [atKey,EM,c]
   rw [bF e,b];exact O
  .have c:¬ q.1=k:=fun z=>e (T.trans z);have b:atKey (q::qs) k=atKey qs k:=by simp [atKey,EM,c]
   rw [bE e,b];exact ih
theorem KT.repl {kvs:List (List Key×V)}{xs:List (List Key×Addr×Value)}(r:KT H kvs xs)(k:List Key)(I:RelV y u):
  KT H (kvs.map fun T=>if T.1=k then (T.1,y) else T) (xs.map (putAt k u)):=by
 induction r with
 | nil=>exact .nil
 | @cons p q ps qs h t ih =>
  rw [DH,DH];refine .cons ?_ ih;obtain ⟨c,O,S⟩:=h;unfold putAt;by_cases e:p.1=k
  .rw [Dm e,Dm (c.symm.trans e)];exact ⟨c,O,I⟩
  .rw [Di e,Di (fun z=>e (c.trans z))];exact ⟨c,O,S⟩
theorem KT.put {kvs:List (List Key×V)}{xs:List (List Key×Addr×Value)}(r:KT H kvs xs)(k:List Key)(O:H b=some (.tup (k.map kV)))(c:RelV y u):
  KT H (aQ kvs k y) (storedH xs k b u):=by
 have e:(kvs.any fun T=>decide (T.1=k))=(atKey xs k).isSome:=by rw [gp,(r.val k).isSome_eq,Hn]
 unfold aQ storedH;rw [e];by_cases q:(atKey xs k).isSome=true
 .rw [Dm q,Dm q];exact r.repl k c
 rw [Di q,Di q];exact Hz r ⟨rfl,O,c⟩
theorem KT.keeps {kvs:List (List Key×V)}{xs:List (List Key×Addr×Value)}(r:KT H kvs xs)(c:∀b ys,H b=some (.tup ys)->H' b=some (.tup ys)):KT H' kvs xs :=
 Paired.mapP r fun _ _ z=>⟨z.1,c _ _ z.2.1,z.2.2⟩
section
variable {P:Program}{w:World}{H:Hp}{h:Heap}{a:Addr}
theorem zT {u:HO}(ok:HOk P w H h)(e:Rd H a u):ObjOk P w H h a u:=e.ok ok
theorem gG (ok:HOk P w H h)(e:Rd H a (.dK kvs)):kvs.length<=sizeLine/\(a == sysModules)=false/\∃ vs,KV kvs vs/\h.DictOf (mixKind P w) a vs :=
 show ObjOk P w H h a (.dK kvs) from zT ok e
theorem iT (ok:HOk P w H h)(e:H a=some (.dK kvs)):kvs.length<=sizeLine/\(a == sysModules)=false/\∃ vs,KV kvs vs/\h.DictOf (mixKind P w) a vs:=gG ok (.inl e)
theorem fU {ks:List Key}(ok:HOk P w H h)(e:H a=some (.tup (ks.map kV))):(tupleKind (mixKind P w)).is h ks a:=by obtain ⟨_,its,r,o,O,c,n,T⟩:=(show ObjOk P w H h a (.tup (ks.map kV)) from ok a _ e);exact ⟨o,its.toArray,n,O,c,T,by simpa using kT r⟩
theorem ip {kvs:List (List Key×V)}(ok:HOk P w H h)(e:Rd H a (.dT kvs)):kvs.length<=sizeLine/\(a == sysModules)=false /\
  ∃ xs,KT H kvs xs/\h.DictOfH (tupleKind (mixKind P w)) a xs:=by
 obtain ⟨z,y,xs,r,o,I,ep,O,T,R,S,c⟩:=(show ObjOk P w H h a (.dT kvs) from zT ok e);refine ⟨z,y,xs,r,o,I,ep,O,T,R,S,fun x hx=>?_,c⟩;have all:∀{l:List (List Key×V)} {m:List (List Key×Addr×Value)},KT H l m->∀x∈m,(tupleKind (mixKind P w)).is h x.1 x.2.1:=by
  intro l m q
  induction q with
  | nil=>intro x hx;exact nomatch hx
  | @cons p q ps qs hq t ih =>
   intro x hx;rcases ax.mp hx with e | hx
   .subst e;exact fU ok (by rw [<-hq.1];exact hq.2.1)
   .exact ih x hx
 exact all r x hx
theorem BN {kvs:List (List Key×V)}(ok:HOk P w H h)(e:H a=some (.dT kvs)):kvs.length<=sizeLine/\(a == sysModules)=false /\
  ∃ xs,KT H kvs xs/\h.DictOfH (tupleKind (mixKind P w)) a xs:=ip ok (.inl e)
end
def DGet (H:Hp)(a:Addr)(y:V)(r:Option V):Prop :=
 (∃ kvs k,Rd H a (.dK kvs)/\y=kV k/\r=aU kvs k)∨∃ kvs k b,Rd H a (.dT kvs)/\y=.ref b/\H b=some (.tup (k.map kV))/\r=aU kvs k
def DPut (H:Hp)(a:Addr)(y v:V)(H':Hp):Prop :=
 (∃ kvs k,H a=some (.dK kvs)/\y=kV k/\kvs.length<sizeLine/\H'=upd H a (.dK (aQ kvs k v))) ∨
 ∃ kvs k b,H a=some (.dT kvs)/\y=.ref b/\H b=some (.tup (k.map kV))/\kvs.length<sizeLine/\H'=upd H a (.dT (aQ kvs k v))
theorem DGet.k {H:Hp}{a:Addr}{kvs:List (Key×V)}{k:Key}(e:H a=some (.dK kvs)):DGet H a (kV k) (aU kvs k):=.inl ⟨kvs,k,.inl e,rfl,rfl⟩
theorem DPut.k {H:Hp}{a:Addr}{kvs:List (Key×V)}{k:Key}{v:V}(e:H a=some (.dK kvs))(c:kvs.length<sizeLine):DPut H a (kV k) v (upd H a (.dK (aQ kvs k v))):=.inl ⟨kvs,k,e,rfl,c,rfl⟩
section
variable {X:Cx}{pins:List (Addr×Obj)}{Z:St}{H:Hp}{s:Shared}{a:Addr}{y v:V}{u r:Value}{o:Option V}{A:Around}{E:Value->Shared->Prop}
theorem Inv.big (I:Inv X pins Z H s):sysModules<s.heap.objs.size:=by have h:mainGlobals<s.heap.objs.size:=(I.mod.glob.keeps I.bk).lt;exact EB Db h
theorem uj (G:A.units+1<cLine)(I:Inv X pins Z H s)(g:DGet H a y (some v))(M:RelV y u)(h:∀w' s',Inv X pins Z H s'->RelV v w'->Q w' s'):
  wpAny (model X.prog X.w) A (getItem (.ref a) u) Q E s:=by
 rcases g with ⟨kvs,k,e,S,l⟩ | ⟨kvs,k,b,e,S,W,l⟩
 .subst S;obtain ⟨z,hd,vs,T,R⟩:=gG I.hok e;obtain ⟨w',O,c⟩:=RelO.some_of (v:=v) (o:=valueAt vs k) (by rw [l];exact T.val k);exact wpAny_getItem_of (fP M) R.mapOf O (h w' _ (I.tok _) c)
 subst S;cases (show u=Value.ref b from M);obtain ⟨z,hd,xs,T,R⟩:=ip I.hok e;obtain ⟨w',O,c⟩:=RelO.some_of (v:=v) (o:=(atKey xs k).map (·.2)) (by rw [l];exact T.val k);obtain ⟨p,F,U⟩:=Ie.mp O;refine wpAny_getItem_heap (Fm G) (fU I.hok W) R F ?_;rw [U];exact h w' _ (I.tok _) c
theorem C4 (U:A.units+1<cLine)(I:Inv X pins Z H s)(g:DGet H a y o)(S:RelV y u)(h:∀s',Inv X pins Z H s'->Q (.bool o.isSome) s'):
  wpAny (model X.prog X.w) A (compareOp .In u (.ref a)) Q E s:=by
 rcases g with ⟨kvs,k,e,T,l⟩ | ⟨kvs,k,b,e,T,R,l⟩
 .subst T;obtain ⟨z,hd,vs,c,O⟩:=gG I.hok e;refine wpAny_in_of (fP S) hd O.mapOf ?_;rw [<-(c.val k).isSome_eq,<-l];exact h _ (I.tok _)
 subst T;cases (show u=Value.ref b from S);obtain ⟨z,hd,xs,c,O⟩:=ip I.hok e;refine wpAny_in_heap (Fm U) (fU I.hok R) hd O ?_;have q:=(c.val k).isSome_eq;rw [Hn] at q;rw [<-q,<-l];exact h _ (I.tok _)
theorem yP (U:A.units+1<cLine)(I:Inv X pins Z H s)(g:DGet H a y o)(S:RelV y u)(h:∀s',Inv X pins Z H s'->Q (.bool (!o.isSome)) s'):
  wpAny (model X.prog X.w) A (compareOp .NotIn u (.ref a)) Q E s:=by
 rcases g with ⟨kvs,k,e,T,l⟩ | ⟨kvs,k,b,e,T,R,l⟩
 .subst T;obtain ⟨z,hd,vs,c,O⟩:=gG I.hok e;refine wpAny_notIn_of (fP S) hd O.mapOf ?_;rw [<-(c.val k).isSome_eq,<-l];exact h _ (I.tok _)
 subst T;cases (show u=Value.ref b from S);obtain ⟨z,hd,xs,c,O⟩:=ip I.hok e;refine wpAny_notIn_heap (Fm U) (fU I.hok R) hd O ?_;have q:=(c.val k).isSome_eq;rw [Hn] at q;rw [<-q,<-l];exact h _ (I.tok _)
theorem iO {t':Nat}{c:HO}(I:Inv X pins Z H s)(S:Mut (H a))(T:Heap.SameBut a s.heap h')(R:∃ q,h'.get? a=some q)(new:ObjOk X.prog X.w (upd H a c) h' a c):
  Inv X pins Z (upd H a c) { s with heap:=h',toks:=t' } :=
 I.write (x:=a) (e:=a) S (.inl rfl) (fun b q O z=>(T.2 b O).trans z) R new
theorem qi {P:Program}{vs:List (Key×Value)}(z:kvs.length<=sizeLine)(hd:(a == sysModules)=false)(c:KV kvs vs)(dd:h'.DictOf (mixKind P w) a vs):
  ObjOk P w H' h' a (.dK kvs):=⟨z,hd,vs,c,dd⟩
theorem uU {Q:Unit->Shared->Prop}(hu:A.units+1<cLine)(I:Inv X pins Z H s)(g:DPut H a y v H')(J:RelV y u)(Y:RelV v r)(h:∀s',Inv X pins Z H' s'->Q () s'):
  wpAny (model X.prog X.w) A (setItem (.ref a) u r) Q E s:=by
 rcases g with ⟨kvs,k,e,U,l,M⟩ | ⟨kvs,k,b,e,U,P,l,M⟩
 .subst U M;obtain ⟨z,hd,vs,T,F⟩:=iT I.hok e;have W:vs.length<=sizeLine:=by rw [<-T.length];exact z
  have G:(aQ kvs k v).length<=sizeLine:=by have:=bd kvs k v;lia
  refine wpAny_setItem_pairs (hsz:=W) (fP J) F fun h' O R=>h _ ?_;have he:∃ q,h'.get? a=some q:=let ⟨q,_,_,S,_⟩:=O;⟨q,S⟩;exact iO I (by rw [e];exact True.intro) R he (qi G hd (T.put k Y) O)
 subst U M;cases (show u=Value.ref b from J);obtain ⟨z,hd,xs,T,F⟩:=BN I.hok e;have W:xs.length<=sizeLine:=by rw [<-EY T];exact z
 have G:(aQ kvs k v).length<=sizeLine:=by have:=bd kvs k v;lia
 refine wpAny_setItem_heap (hsz:=W) (Fm hu) (fU I.hok P) F fun h' O R=>h _ ?_;obtain ⟨q,es,ep,S,h2,h3,h4,_,h5⟩:=O;refine iO I (by rw [e];exact True.intro) R ⟨q,S⟩ ⟨G,hd,_,(T.put k P Y).keeps fun c ys ec=>?_,q,es,ep,S,h2,h3,h4,h5⟩;rw [af (aL ec e (fun z=>nomatch z))];exact ec
end
section
variable {X:Cx}{pins:List (Addr×Obj)}{Z:St}{H:Hp}{s:Shared}{a:Addr}{kvs:List (Key×V)}{k:Key}{u:Value}{A:Around}{E:Value->Shared->Prop}
theorem Ce {v:V}{c:List Value}(I:Inv X pins Z H s)(e:H a=some (.dK kvs))(R:RelV (kV k) u)(l:aU kvs k=some v)(M:c=[]∨∃ x,c=[x])(h:∀w' s',Inv X pins Z (upd H a (.dK (cr kvs k))) s'->RelV v w'->Q w' s'):wpAny (model X.prog X.w) A (call (.builtin "dict.pop") (.ref a::u::c)) Q E s:=by
 obtain ⟨z,hd,vs,T,U⟩:=iT I.hok e;obtain ⟨w',W,S⟩:=RelO.some_of (v:=v) (o:=valueAt vs k) (by rw [<-l];exact T.val k);have Y:(keyPart u).isSome=true:=by
  cases k with
  | inl i=>obtain ⟨t,q⟩:=(show ∃ t,u=Value.int i t from R);subst q;rfl
  | inr x=>obtain ⟨t,q⟩:=(show ∃ t,u=Value.str x t from R);subst q;rfl
 have F:argsOk "dict.pop" ⟨.ref a::u::c,[]⟩:=by
  rcases M with q | ⟨x,q⟩
  .subst q;exact PySem.F.args_dict_pop_2 _ _
  .subst q;exact PySem.F.args_dict_pop_3 _ _ _
 refine Gg Ip U.typeIs PySem.F.entry_dict_pop F (meets_dict_pop_there (mixKind X.prog X.w) a (fP R) c M Y)
  ⟨vs,w',U,by rw [<-T.length];exact z,W,fun h' O P=>h w' _ ?_ S⟩
 have G:∃ q,h'.get? a=some q:=let ⟨q,_,_,hq,_⟩:=O;⟨q,hq⟩;exact iO I (by rw [e];exact True.intro) P G (qi (Dq (vG kvs k) z) hd (T.drop k) O)
theorem BJ (I:Inv X pins Z H s)(e:Rd H a (.dK kvs))(h:∀t s',Inv X pins Z H s'->Q (.int kvs.length t) s'):wpAny (model X.prog X.w) A (call (.builtin "len") [.ref a]) Q E s:=by obtain ⟨z,hd,vs,c,T⟩:=gG I.hok e;refine call_len_dict hd T (by rw [<-c.length];rw [IQ] at z;lia) ?_;rw [<-c.length];exact h _ _ (I.tok _)
end
def Cg (i:Expr):Prop:=∀ov iv,subscripted i false ov iv=operate [ov,iv] (getItem ov iv)
theorem zt {c:Expr}{T F:String}(Y:typeLookup (.type T) "__getitem__"=pure (some (.builtin F)))(G:Cg c)(h:wpAny (model prog w) A (eval value env) (fun o U=>wpAny (model prog w) A (eval c env) (fun i I=>I.TypeIs o T/\wpAny (model prog w) A (getItem o i) Q E I) E U) E s):
  wpAny (model prog w) A (eval (.Subscript value c pos) env) Q E s:=by
 refine Subscript_ (Ew h (fun o U W=>Ew W (fun i I S=>?_) fun _ _ x=>x) fun _ _ x=>x);obtain ⟨R,S⟩:=S;unfold subscriptTail;refine Dh ?_;rw [getitemInPython_of_ne R.not_modules];refine Dh (wpAny_specialOf R Y ?_);have O:wpAny (model prog w) A (subscripted c false o i) (fun r M=>wpAny (model prog w) A (letTemporaryGo value o r >>= fun _=>pure r) Q E M) E I:=by
  rw [G o i];exact wpAny_operating (Ew S (fun r M P=>Dh (wpAny_letTemporaryGo (Dx P))) fun _ _ x=>x)
 first
  | exact Dx (Dh O)
  | exact Dh (Dx (Dh O))
  | exact Dh O
theorem ot {o:Option V}(I:Inv X pins Z H s)(g:DGet H a y o):s.TypeIs (.ref a) "dict":=by
 rcases g with ⟨kvs,k,e,_,_⟩ | ⟨kvs,k,b,e,_,_,_⟩
 .obtain ⟨_,_,vs,_,c⟩:=gG I.hok e;exact c.typeIs
 obtain ⟨_,_,xs,_,c⟩:=ip I.hok e;exact c.typeIs
def By (td ty:TE):TE:=fun Z H Q=>td Z H fun x H1=>ty Z H1 fun y H2=>∃ a v,x=.ref a/\DGet H2 a y (some v)/\Q v H2
def Bi (ty td:TE):TE:=fun Z H Q=>ty Z H fun y H1=>td Z H1 fun x H2=>∃ a o,x=.ref a/\DGet H2 a y o/\Q (.bl o.isSome) H2
def tf (ty td:TE):TE:=fun Z H Q=>ty Z H fun y H1=>td Z H1 fun x H2=>∃ a o,x=.ref a/\DGet H2 a y o/\Q (.bl (!o.isSome)) H2
def Cj (td ty tv:TE):TS:=fun D Z H=>tv Z H fun v H1=>td Z H1 fun x H2=>ty Z H2 fun y H3=>∃ a H4,x=.ref a/\DPut H3 a y v H4/\D.nx Z H4
section
variable {X:Cx}{o i e value:Expr}{pos pos' tpos:Pos}{td ty tv:TE}
theorem wK (O:X.A.units+1<cLine)(hi:PE X i ty)(Y:PE X o td):PC X .In i o (Bi ty td):=by intro pins s Z H Q I h;refine thn (hi pins s Z H _ I h) fun iv W ⟨y,c,I1,J,M⟩=>thn (Y pins W Z c _ I1 M) fun u s2 P=>?_;obtain ⟨x,S,T,G,a,ov,R,g,U⟩:=P;subst R;obtain rfl:u=Value.ref a:=G;exact C4 O T g J fun s3 F=>⟨.bl ov.isSome,S,F,rfl,U⟩
theorem u7 (O:X.A.units+1<cLine)(hi:PE X i ty)(Y:PE X o td):PC X .NotIn i o (tf ty td):=by intro pins s Z H Q I h;refine thn (hi pins s Z H _ I h) fun iv W ⟨y,c,I1,J,M⟩=>thn (Y pins W Z c _ I1 M) fun u s2 P=>?_;obtain ⟨x,S,T,G,a,ov,R,g,U⟩:=P;subst R;obtain rfl:u=Value.ref a:=G;exact yP O T g J fun s3 F=>⟨.bl (!ov.isSome),S,F,rfl,U⟩
end
theorem m8 {P:Program}(h:Heap)(c:sysModules<h.objs.size):ObjOk P w H (h.push { cls:=.type "dict",data:=.dict #[] }) h.objs.size (.dK []) :=
 ⟨D6 _,E8.mpr (Fc (DZ c)),[],.nil,Heap.DictOf.new h⟩
def Bu:TE:=fun _ H Q=>∀p,H p=none->Q (.ref p) (upd H p (.dK []))
def qK:List (TE×TE)->St->Hp->(List (V×V)->Hp->Prop)->Prop
 | [],_,H,Q=>Q [] H
 | (tk,tv)::r,Z,H,Q=>tk Z H fun x H1=>tv Z H1 fun y H2=>qK r Z H2 fun ps H3=>Q ((x,y)::ps) H3
abbrev VV:List (V×V)->List (Value×Value)->Prop:=Paired fun p q=>RelV p.1 q.1/\RelV p.2 q.2
def PPs (X:Cx)(pos:Pos)(keys:List (Option Expr))(values:List Expr)(trs:List (TE×TE)):Prop :=
 ∀(pins:List (Addr×Obj)) (s:Shared) (Z:St) (H:Hp) (Q:List (V×V)->Hp->Prop),Inv X pins Z H s->qK trs Z H Q ->
  wpAny (model X.prog X.w) X.A (evalPairs (pairTrees keys values X.env pos)) (fun vs s'=>∃ ps H',Inv X pins Z H' s'/\VV ps vs/\Q ps H') X.xe s
theorem yX:PPs X pos [] [] []:=fun pins s Z H Q I h=>pairTrees_nil_walk ⟨[],H,I,.nil,h⟩
theorem eO {k v:Expr}{ks:List (Option Expr)}{vs:List Expr}{tk T:TE}(hk:PE X k tk)(hv:PE X v T)(M:PPs X pos ks vs trs):
  PPs X pos (some k::ks) (v::vs) ((tk,T)::trs):=fun pins s Z H Q I h =>
 pairTrees_cons_walk (thn (hk pins s Z H _ I h) fun u W ⟨x,O,I1,rx,F⟩=>thn (hv pins W Z O _ I1 F) fun w2 P ⟨y,R,S,ry,U⟩ =>
  thn (M pins P Z R _ S U) fun ws s3 ⟨ps,Y,J,c,G⟩=>⟨(x,y)::ps,Y,J,.cons ⟨rx,ry⟩ c,G⟩)
def gX (kvs more:List (Key×V)):List (Key×V):=more.foldl (fun acc kv=>aQ acc kv.1 kv.2) kvs
theorem KV.merge:∀{c:List (Key×V)} {T:List (Key×Value)} {kvs:List (Key×V)} {vs:List (Key×Value)},KV c T->KV kvs vs->KV (gX kvs c) (merged vs T):=by
 intro c T kvs vs r;unfold KV at r
 induction r generalizing kvs vs with
 | nil=>intro q;exact q
 | @cons p q ps qs h t ih =>
  intro O;have e:KV (aQ kvs p.1 p.2) (stored vs q.1 q.2):=by have:=O.put p.1 h.2;rw [<-h.1];exact this
  exact ih e
theorem fR:∀(c kvs:List (Key×V)),(gX kvs c).length<=kvs.length+c.length
 | [],kvs=>by show kvs.length<=kvs.length+0;lia
 | p::r,kvs=>by have O:=fR r (aQ kvs p.1 p.2);have T:=bd kvs p.1 p.2;show (gX (aQ kvs p.1 p.2) r).length<=_;rw [Dw];lia
theorem jr {P:Program}{w:World}:∀{kvs:List (Key×V)} {ws:List (Value×Value)},VV (kvs.map fun O=>(kV O.1,O.2)) ws->∃ T,Carries (mixKind P w) ws T/\KV kvs T
 | [],_,r=>by rw [Gf] at r;cases r;exact ⟨[],True.intro,.nil⟩
 | p::kvs,_,r=>by
  rw [DH] at r;cases r with
  | @cons a b as bs h t =>
   obtain ⟨T,c,q⟩:=jr (P:=P) (w:=w) t;obtain ⟨S,I⟩:=b;exact ⟨(p.1,I)::T,⟨fP h.1,rfl,c⟩,.cons ⟨rfl,h.2⟩ q⟩
def zU (trs:List (TE×TE)):TE:=fun Z H Q=>∀p,H p=none->qK trs Z (upd H p (.dK [])) fun ps H2=>H2 p=some (.dK [])/\∃ kvs:List (Key×V),ps=kvs.map (fun kv=>(kV kv.1,kv.2))/\kvs.length<=15/\Q (.ref p) (upd H2 p (.dK (gX [] kvs)))
theorem yU {keys:List (Option Expr)}{T:List Expr}(h:PPs X pos keys T trs)(O:keys.all (·.isSome)=true)(hl:keys.length=T.length)(h0:keys≠[])(R:keys.length<=15):PE X (.Dict keys T pos) (zU trs):=by
 intro pins s Z H Q I q;have hn:=I.hok.fresh (Dj s.heap.objs.size);have I1:=I.laid (a:=s.heap.objs.size) (o:=.dK []) (h':=s.heap.push { cls:=.type "dict",data:=.dict #[] }) (t':=s.toks) (fun _ _ q=>Dt _ q) (Dj _) (m8 s.heap I.big);refine wpAny_Dict_walk (knd:=mixKind X.prog X.w) O hl h0 R (thn (h pins _ Z _ _ I1 (q _ hn)) fun ws s2 zz=>?_);obtain ⟨ps,H2,M,U,e,kvs,ep,lk,F⟩:=zz;subst ep;obtain ⟨rs,c,G⟩:=jr (P:=X.prog) (w:=X.w) U;obtain ⟨z,hd,J,W,dd⟩:=iT M.hok e;cases W;refine ⟨rs,c,dd,fun h' S Y=>⟨.ref s.heap.objs.size,_,?_,rfl,F⟩⟩;have hz:(gX [] kvs).length<=sizeLine:=by have h1:=fR kvs [];rw [EZ] at h1;rw [IQ];lia
 have he:∃ q,h'.get? s.heap.objs.size=some q:=let ⟨q,_,_,hq,_⟩:=S;⟨q,hq⟩;exact iO M (by rw [e];exact True.intro) Y he (qi hz hd (G.merge .nil) S)
structure M1 (X:Cx)(o:Expr)(m:Str)(apos:Pos)(e:Expr)(cpos:Pos):Prop where
 base:attributeBase o m X.env (eval o X.env)=eval o X.env
 few:((backTo cpos (starEach [e] X.env)).all (fun x=>!x.1)&&(backToKw cpos (keywordEach [] X.env)).all (fun x=>x.1.isSome)
  && decide (([e]:List Expr).length+([]:List Keyword).length+(if ([]:List Keyword).isEmpty then 0 else 1)<30))=true
 line:(apos.endLine == cpos.line)=true
 trees:backTo cpos (starEach [e] X.env)=[(false,eval e X.env)]
structure M2 (X:Cx)(o:Expr)(m:Str)(apos:Pos)(e f:Expr)(cpos:Pos):Prop where
 base:attributeBase o m X.env (eval o X.env)=eval o X.env
 few:((backTo cpos (starEach [e,f] X.env)).all (fun x=>!x.1)&&(backToKw cpos (keywordEach [] X.env)).all (fun x=>x.1.isSome)
  && decide (([e,f]:List Expr).length+([]:List Keyword).length+(if ([]:List Keyword).isEmpty then 0 else 1)<30))=true
 line:(apos.endLine == cpos.line)=true
 trees:backTo cpos (starEach [e,f] X.env)=[(false,eval e X.env),(false,eval f X.env)]
def IsD (H:Hp)(a:Addr):Prop:=(∃ kvs,Rd H a (.dK kvs))∨∃ kvs,Rd H a (.dT kvs)
theorem pI (I:Inv X pins Z H s)(d:IsD H a):
  s.TypeIs (.ref a) "dict"/\(∀b,Value.ref a=.ref b->∃ c,s.heap.get? b=some c/\c.dict=none)/\(a == sysModules)=false:=by
 rcases d with ⟨kvs,e⟩ | ⟨kvs,e⟩
 .obtain ⟨_,hd,vs,_,T⟩:=gG I.hok e;refine ⟨T.typeIs,fun b q=>?_,hd⟩;cases q;obtain ⟨c,_,_,S,O,_⟩:=T;exact ⟨c,S,O.2.1⟩
 obtain ⟨_,hd,xs,_,T⟩:=ip I.hok e;refine ⟨T.typeIs,fun b q=>?_,hd⟩;cases q;obtain ⟨c,_,_,S,O,_⟩:=T;exact ⟨c,S,O.2.1⟩
section
variable {X:Cx}{pins:List (Addr×Obj)}{Z:St}{H:Hp}{s:Shared}{a:Addr}{y d:V}{u r:Value}{o:Option V}{A:Around}{E:Value->Shared->Prop}
theorem AQ (U:A.units+1<cLine)(I:Inv X pins Z H s)(g:DGet H a y o)(S:RelV y u)(h:∀w' s',Inv X pins Z H s'->RelV (o.getD .non) w'->Q w' s'):
  wpAny (model X.prog X.w) A (call (.builtin "dict.get") [.ref a,u]) Q E s:=by
 rcases g with ⟨kvs,k,e,O,l⟩ | ⟨kvs,k,b,e,O,R,l⟩
 .subst O;obtain ⟨z,hd,vs,c,T⟩:=gG I.hok e;refine Gg EC T.typeIs Fb (HP _ _) (meets_dict_get (mixKind X.prog X.w) a (fP S) hd) ⟨_,T.mapOf,h _ _ (I.tok _) ?_⟩;rw [l];exact (c.val k).getD rfl
 subst O;cases (show u=Value.ref b from S);obtain ⟨z,hd,xs,c,T⟩:=ip I.hok e;refine Gg EC T.typeIs Fb (HP _ _) (meetsH_dict_get (tupleKind (mixKind X.prog X.w)) a b hd) ⟨Fm U,k,xs,fU I.hok R,T,h _ _ (I.tok _) ?_⟩;rw [l];exact (c.val k).getD rfl
theorem A4 (M:A.units+1<cLine)(I:Inv X pins Z H s)(g:DGet H a y o)(R:RelV y u)(S:RelV d r)(h:∀w' s',Inv X pins Z H s'->RelV (o.getD d) w'->Q w' s'):
  wpAny (model X.prog X.w) A (call (.builtin "dict.get") [.ref a,u,r]) Q E s:=by
 rcases g with ⟨kvs,k,e,O,l⟩ | ⟨kvs,k,b,e,O,U,l⟩
 .subst O;obtain ⟨z,hd,vs,c,T⟩:=gG I.hok e;refine Gg EC T.typeIs Fb (Gp _ _ _) (meets_dict_get_default (mixKind X.prog X.w) a (fP R) hd r) ⟨_,T.mapOf,h _ _ (I.tok _) ?_⟩;rw [l];exact (c.val k).getD S
 subst O;cases (show u=Value.ref b from R);obtain ⟨z,hd,xs,c,T⟩:=ip I.hok e;refine Gg EC T.typeIs Fb (Gp _ _ _) (meetsH_dict_get_default (tupleKind (mixKind X.prog X.w)) a b hd r) ⟨Fm M,k,xs,fU I.hok U,T,h _ _ (I.tok _) ?_⟩;rw [l];exact (c.val k).getD S
end
def Bg (td ty:TE):TE:=fun Z H Q=>td Z H fun x H1=>∃ a,x=.ref a/\IsD H1 a/\ty Z H1 fun y H2=>∃ o,DGet H2 a y o/\Q (o.getD .non) H2
def AJ (td ty tx:TE):TE:=fun Z H Q=>td Z H fun x H1=>∃ a,x=.ref a/\IsD H1 a/\ty Z H1 fun y H2=>tx Z H2 fun z H3=>∃ o,DGet H3 a y o/\Q (o.getD z) H3
def AO (td ty:TE):TE:=fun Z H Q=>td Z H fun x H1=>∃ a,x=.ref a/\IsD H1 a/\ty Z H1 fun y H2=>∃ kvs k v,H2 a=some (.dK kvs)/\y=kV k/\aU kvs k=some v/\Q v (upd H2 a (.dK (cr kvs k)))
section
variable {X:Cx}
theorem bP:cv X (.builtin "len") (fun xs H Q=>∃ a kvs,xs=[V.ref a]/\H a=some (.dK kvs)/\Q (.int kvs.length) H):=by intro pins s Z H xs us Q I r h;obtain ⟨a,kvs,rfl,O,q⟩:=h;obtain ⟨u,rfl,c⟩:=fQ r;cases c;exact BJ I (.inl O) fun t S T=>⟨.int kvs.length,H,T,⟨t,rfl⟩,q⟩
end
end L2
namespace L2
open PySem PySem.W PySem.Spec PySem.Calls PyProof.Rows
section
variable {P:Program}{w:World}{K:Frag}{mg:Str->Option Value}{base:Heap}{N:List Str}{qual:Str}{scope:Scope}{f:Addr}{cd:Value}{A:Around}{outer:List Env}{s₀:Shared}{H₀:Hp}{E:XK}
theorem bq {M:XK}(G:∀c H',M c none H'->E c none H'):cM (CXe P w) (bM (CXe P w) P w K mg base N qual scope f cd A outer s₀ H₀ E) M:=by
 intro pins Z H s v s' I h;obtain ⟨e,C,H',B,a0,rfl,Y,kp,kt,R,o1,J,q⟩:=I.xp h;have S:∀b,b∈frs (envOfC qual scope s₀.heap.objs.size f cd::outer)->b=s₀.heap.objs.size∨b∈frs outer:=fun b T=>by
  obtain ⟨env,he,W⟩:=Em.mp T;rcases ax.mp he with rfl | he
  .exact .inl (DJ W).symm
  .exact .inr (Em.mpr ⟨env,he,W⟩)
 have F:∀b o,s₀.heap.get? b=some o->b∉frs outer->b∉frs (envOfC qual scope s₀.heap.objs.size f cd::outer):=fun b o e nb T=>by
  rcases S b T with rfl | z
  .exact absurd (DM e) (Fg _)
  .exact nb z
 refine hZ I.ok.frames rfl Y fun h' O up=>?_;have U:=kp h' s'.toks O.1 up;exact ⟨e,C,H',B,a0,rfl,U.os,U.bare,U.base,⟨R,fun b o e n T=>o1 b o e n ah (F b o e T),fun b o e T=>J b o e ah (F b o e T)⟩,O,G _ _ q⟩
end
section
variable {X:Cx}
def Au (C:Addr)(m:Str)(sp:Sp)(dvs:List V)(ta:TE)(t:TA):TEX:=fun Z H Q E=>ta Z H fun x H1=>∃ a dx fs,x=.ref a/\H1 a=some (.ins C dx fs)/\fs.lookup m=none /\
 t Z H1 fun vs H2=>sp (x::(vs++dvs)) H2 Q E
section
variable {C f:Addr}{m:Str}{k:Nat}{fd:FuncData}{ps:List Str}{sp:Sp}{dvs:List V}{ds:List Value}{o e:Expr}{es:List Expr}{ta:TE}{t:TA}{apos pos:Pos}{pl:Sem Bool}
theorem xt (he:PE X.nox o ta)(c:Cls X.K C)(U:bp X.K C m f)(F:au X.prog X.w X.K X.mg X.base (CXe X.prog X.w) k f fd ps sp)(hr:Room k X.A)(hb:Binds X.K fd ps ds)(hd:Vals dvs ds)(ha:PA X.nox (e::es) t)(O:autoParam (starEach (e::es) X.env=(false,eval e X.env)::starEach es X.env) aad)(T:autoParam ((backTo pos (starEach es X.env)).any (·.1)=false) aad)(Y:autoParam (eval (.Call (.Attribute o m apos) (e::es) [] pos) X.env=(do
   let ov <-eval o X.env
   standAt apos.atName
   let (f,first) <-holding [ov] (getMethod ov m pl)
   callWith pos f first (backTo pos (starEach (e::es) X.env)) (backToKw pos (keywordEach [] X.env)))) aad):
  PEX X (.Call (.Attribute o m apos) (e::es) [] pos) (Au C m sp dvs ta t):=by
 intro pins s Z H Q E I h;refine Iq (pl:=pl) (Ew (he pins s Z H _ (I.wish _) h) (fun u G zz=>?_) fun _ _ z=>False.elim z) Y;obtain ⟨x,J,S,P,a,dx,fs,ex,W,l,q⟩:=zz;subst ex;obtain rfl:u=Value.ref a:=P;refine fT S.unwish W c U l ?_;refine Io (first:=[.ref a]) (h₀:=X.base) I.ok.mod.kin U.kp (Ew (ha pos pins G Z J _ S q) (fun us s2 ⟨vs,H2,R,r,M⟩=>⟨R.kIn,?_⟩) fun _ _ z=>False.elim z) O T;exact yV (us:=.ref a::us) (vs:=.ref a::vs) F hr hb hd R.unwish (.cons rfl r) M
end
def Ch (t:TE):TE:=fun Z H Q=>t Z H fun x H1=>∃ n:Str,x=.str n/\n.length<=1000/\∀r,Q (.str r) H1
theorem jA {a b:Str}(c:a.length<=1000)(T:b.length<=1000):(a++b).length<=sizeLine:=by rw [strLen_append];exact Dq (Nat.add_le_add c T) Db
end
end L2
namespace L2
open PySem PySem.Spec PyProof.Rows
open PySem.SeqAt (EqAt RcAt RcNeAt)
section
variable {X:Cx}
theorem At {H:Hp}{i W j U:Int}{n n':Str}(r:Vals [.int i,.str n,.int j] us)(r':Vals [.int W,.str n',.int U] vs):
  ∃ e:Nat->Bool,(∀k (T:k<us.toArray.size) (O:k<vs.toArray.size),EqAt A s us.toArray[k] vs.toArray[k] (e k))/\us.length=3/\vs.length=3/\(((List.range 3).all e)=decide ([V.int i,.str n,.int j]=[.int W,.str n',.int U])):=by
 obtain ⟨u0,u1,u2,rfl,a0,G,a2⟩:=zS r;obtain ⟨v0,v1,v2,rfl,b0,b1,b2⟩:=zS r';obtain ⟨R,P,z0⟩:=bY (a:=.int i) (c:=.int W) A s trivial a0 b0;obtain ⟨I,Y,J⟩:=bY (a:=.str n) (c:=.str n') A s trivial G b1;obtain ⟨S,F,z2⟩:=bY (a:=.int j) (c:=.int U) A s trivial a2 b2;refine ⟨fun k=>if k=0 then R else if k=1 then I else S,fun k T O=>?_,rfl,rfl,?_⟩
 .match k,T,O with
  | 0,_,_=>exact P
  | 1,_,_=>exact Y
  | 2,_,_=>exact F
  | k+3,T,_=>exact absurd T Dd
 rw [EL,Ed];have el:(List.range 3).all (fun k=>if k=0 then R else if k=1 then I else S)=(R&&(I&&S)):=by show (R&&(I&&(S&&true)))=_;rw [GS]
 rw [el,DP,DP,z0,J,z2];constructor
 .rintro ⟨M,T,O⟩;rw [M,T,O]
 intro h;injection h with M h;injection h with T h;injection h with O _;exact ⟨M,T,O⟩
theorem yA (F:X.A.units<cLine):OpR X (compareOp .Eq) (fun x y H Q=>∃ a b xs ys,x=.ref a/\y=.ref b/\SqT X.K H a xs/\SqT X.K H b ys/\eI xs/\eI ys/\Q (.bl (decide (xs=ys))) H):=by intro pins s Z H x y v u Q I S M h;obtain ⟨a,b,xs,ys,rfl,rfl,G,J,⟨i,n,j,rfl⟩,⟨i',n',j',rfl⟩,q⟩:=h;cases S;cases M;obtain ⟨its,r,O,_⟩:=I.tuple G;obtain ⟨T,Y,c,_⟩:=I.tuple J;obtain ⟨e,P,R,U,W⟩:=At (H:=H) (s:=s) (A:=X.A.in1) r Y;refine SeqAt.eq_tupleAt (e:=e) O c F P ⟨.bl _,H,I,?_,q⟩;show Value.bool _=Value.bool _;rw [DD,DD,R,U,<-W];show Value.bool ((List.range 3).all e&&true)=_;rw [GS]
end
end L2
namespace L2
open PySem PySem.W PySem.Spec PySem.Calls PyProof.Rows
section
variable {X:Cx}{pins:List (Addr×Obj)}{Z:St}{H:Hp}{s:Shared}{d:Addr}{kvs:List (Key×V)}
theorem oo {P:Program}{u:HO}(T:HOk P w H h)(e:H d=some o)(I:∀y,o≠.own y)(nt:∀xs,o≠.tup xs)(new:ObjOk P w (upd H d u) h d u):HOk P w (upd H d u) h:=fun b v q=>by
 by_cases O:b=d
 .subst O;rw [ad] at q;cases q;exact new
 rw [af O] at q;refine (T b v q).stay (fun _ _ _ z=>z) (fun c z=>?_) fun c xs z=>?_
 .rw [af (fun y=>by subst y;rw [e] at z;cases z;exact I _ rfl)];exact z
 rw [af (fun y=>by subst y;rw [e] at z;cases z;exact nt _ rfl)];exact z
theorem tz {P:Program}{kvs:List (Key×V)}(x:ObjOk P w H h d (.dK kvs)):ObjOk P w H' h d (.dK kvs):=x
theorem Inv.freeze (I:Inv X pins Z H s)(e:H d=some (.dK kvs)):∃ o,s.heap.get? d=some o/\Inv X pins Z (upd H d (.frz o (.dK kvs))) s:=by
 obtain ⟨o,T⟩:=I.hok.get e;have c:∀b u,H b=some u->(∀k,u≠.dK k)->b≠d:=fun b u q n z=>by subst z;rw [e] at q;cases q;exact n _ rfl
 refine ⟨o,T,I.step (h':=s.heap) (g':=s.gens) (d':=s.drawn) (t':=s.toks) (ch:=[]) (fun _ z=>nomatch z) (fun b o _ _ _ e _=>e) (fun b o _ _ _ e _=>⟨o.slots,e⟩) (fun b o _ _ n=>?_) (fun b o _ e=>⟨o,e⟩) (fun b xs q=>?_) (fun b o u q=>?_) (fun b ps q=>⟨#[],?_⟩) (fun m O=>O) ?_ I.bare⟩
 .rw [af (fun z=>by subst z;rw [e] at n;cases n)];exact n
 .rw [af (c b _ q (fun _ z=>nomatch z))];exact q
 .rw [af (c b _ q (fun _ z=>nomatch z))];exact q
 .rw [af (c b _ q (fun _ z=>nomatch z)),q];simp
 exact oo I.hok e (fun _ z=>nomatch z) (fun _ z=>nomatch z) ⟨T,tz (I.hok d _ e)⟩
theorem Inv.thaw {o:Obj}(I:Inv X pins Z H s)(e:H d=some (.frz o (.dK kvs)))(n:∀o u,X.H₀ d≠some (.frz o u)):Inv X pins Z (upd H d (.dK kvs)) s:=by
 have O:∀b,H b=none->(upd H d (.dK kvs)) b=none:=fun b q=>by rw [af (fun z=>by subst z;rw [e] at q;cases q)];exact q
 refine ⟨I.ok,I.os,I.bare,⟨I.base.keep,I.base.slot,fun b S U M R=>O b (I.base.free b S U M R),I.base.there,fun b xs q=>?_,fun b S u q=>?_,fun b ps q=>?_⟩,I.loc,I.cell,O _ I.free,fun x c q=>O _ (I.freeC x c q),fun p Y=>?_,?_,I.len⟩
 .have T:=I.base.tups b xs q;rw [af (fun z=>by subst z;rw [e] at T;cases T)];exact T
 .have T:=I.base.frzs b S u q;rw [af (fun z=>by subst z;exact n _ _ q)];exact T
 .obtain ⟨m,T⟩:=I.base.tbls b ps q;exact ⟨m,by rw [af (fun z=>by subst z;rw [e] at T;cases T)];exact T⟩
 .obtain ⟨W,F,G⟩:=I.pin p Y;exact ⟨W,O _ F,G⟩
 exact oo I.hok e (fun _ z=>nomatch z) (fun _ z=>nomatch z) (tz (I.hok d _ e).2)
end
def Ca (H0:Hp)(t:TE):TE:=fun Z H Q=>t Z H fun v H1=>∃ d o kvs,H1 d=some (.frz o (.dK kvs))/\(∀o u,H0 d≠some (.frz o u))/\Q v (upd H1 d (.dK kvs))
theorem uY {k:Key}{v:Value}(h:keyIs k v=true):RelV (kV k) v:=by
 rcases keyIs_shape h with ⟨i,t,rfl,rfl⟩ | ⟨x,t,rfl,rfl⟩
 .exact ⟨t,rfl⟩
 exact ⟨t,rfl⟩
def Itk (d:Addr)(o:Obj)(kvs:List (Key×V)):It :=
 ⟨fun i H=>i<kvs.length/\H d=some (.frz o (.dK kvs)),fun i H x H'=>H'=H/\(kvs.map fun kv=>kV kv.1)[i]?=some x,fun i H=>kvs.length<=i/\H d=some (.frz o (.dK kvs))⟩
theorem KV.at {J:Type}{kvs:List (J×V)}{vs:List (J×Value)}(r:KV kvs vs){p:J×V}(h:kvs[i]?=some p):∃ v,vs[i]?=some (p.1,v):=by
 induction r generalizing i with
 | nil=>cases h
 | @cons a b l l' h1 _ ih =>
  cases i with
  | zero =>
   cases h;exact ⟨b.2,by show some b=_;rw [h1.1]⟩
  | succ i=>exact ih h
theorem uf {P:Program}{K:Frag}{G:Addr}{o:Obj}{es:Array DictEntry}(U:o.data=.dict es ep):nE P w K tg (Itk d o kvs) [G] G (fun i h=>h.IsKeyIter G d i kvs.length ep) where
 mem:=DI.mpr rfl
 obj:=fun i h st b F=>by
  obtain rfl:=De F;obtain ⟨o,e,c,d⟩:=st;exact ⟨o,e,fun v z=>by rw [d] at z;cases z⟩
 keep:=fun i h h' st k=>st.at fun o e=>k G (DI.mpr rfl) o e
 item:=by
  intro X hP hw hK hc i pins s Z H E I J st hg;subst hP hw hK;obtain ⟨hi,hd⟩:=hg;obtain ⟨Y,_,ee,vs,O,o2,ea,et,S,W,T,rest⟩:=(show _/\ObjOk X.prog X.w H s.heap d (.dK kvs) from I.hok d _ hd);rw [Y] at S;cases S;rw [U] at T;cases T;obtain ⟨f0,f1,f2,f3,f4,f5⟩:=J G (DI.mpr rfl);obtain ⟨v,hv⟩:=O.at (bt hi);have R:=st;rw [O.length] at R;refine wpAny_pyNext_dict_item R ⟨o,es,Y,W,U,rest⟩ hv fun key h' hk M sb=>?_;rw [<-O.length] at M;have I1:Inv X pins Z H { s with heap:=h' }:=I.turned (t':=s.toks) (fun b o F e=>(sb.2 b F).trans e) f0 f1 f3 f4 f5;obtain ⟨oi,e,c,dd⟩:=id M;refine ⟨key,rfl,jw (s:={ s with heap:=h' }) e c dd Db ⟨_,H,I1,uY hk,⟨rfl,?_⟩,M,fun b F=>(J b F).1⟩⟩;rw [DN,bt hi];rfl
 done:=by
  intro X hP hw hK hc i pins s Z H E I J st hg;subst hP hw hK;obtain ⟨hi,hd⟩:=hg;obtain ⟨Y,_,ee,vs,O,o2,ea,et,S,W,T,rest⟩:=(show _/\ObjOk X.prog X.w H s.heap d (.dK kvs) from I.hok d _ hd);rw [Y] at S;cases S;rw [U] at T;cases T;obtain ⟨f0,f1,f2,f3,f4,f5⟩:=J G (DI.mpr rfl);have R:=st;rw [O.length] at R;exact wpAny_pyNext_dict_end (I.ok.hd hc) R ⟨o,es,Y,W,U,rest⟩ (FK (by rw [<-O.length];exact hi)) fun h' eb=>⟨rfl,I.turned (t':=s.toks) (fun b o F e=>eb b o F e) f0 f1 f3 f4 f5⟩
 self:=fun _ _ _ _ _ st h=>wpAny_pyIter_keyiter st h
def Cc (td:TE):TI:=fun Z H R=>td Z H fun x H1=>∃ d kvs,x=.ref d/\H1 d=some (.dK kvs)/\∀o,R (Itk d o kvs) (upd H1 d (.frz o (.dK kvs)))
theorem vn {o:Obj}{Q:VK}(c:Nat->List V->Hp->Prop)(F:c 0 [] (upd H D (.lst [])))(M:∀i ys H,c i ys H->H D=some (.lst ys)/\H d=some (.frz o (.dK kvs)))(W:∀i k v ys H,kvs[i]?=some (k,v)->c i ys H->tt (some (kV k)::bR cap Z) H fun b I =>
   if b=true then te (some (kV k)::bR cap Z) I fun v S=>S D=some (.lst ys)/\ys.length<sizeLine/\∃ m',m'<kvs.length-i/\m'=kvs.length-(i+1)/\i+1<=kvs.length/\c (i+1) (ys++[v]) (upd S D (.lst (ys++[v])))
   else ∃ m',m'<kvs.length-i/\m'=kvs.length-(i+1)/\i+1<=kvs.length/\c (i+1) ys I)(hd:∀ys H,c kvs.length ys H->Q (.ref D) H):
  CW (Itk d o kvs) tt te cap Z H D (fun H=>Q (.ref D) H):=by
 refine ⟨fun i m ys H=>m=kvs.length-i/\i<=kvs.length/\c i ys H,⟨kvs.length,rfl,D6 _,F⟩,?_⟩;rintro i m ys H ⟨rfl,hi,p⟩;obtain ⟨U,O⟩:=M i ys H p;refine ⟨U,?_⟩;by_cases T:i<kvs.length
 .refine .inr ⟨⟨T,O⟩,fun x H' y=>?_⟩;obtain ⟨e,y⟩:=y;subst e;obtain ⟨k,v⟩:∃ R:Key×V,kvs[i]?=some R:=⟨_,bt T⟩;obtain ⟨k,z⟩:=k;rw [DN,v] at y;cases y;exact W i k z ys _ v p
 have e:i=kvs.length:=by lia
 subst e;exact .inl ⟨⟨Dj _,O⟩,hd ys H p⟩
structure AB (K:Frag)(C:Addr)(mc:Value)(m:Str)(f:Addr):Prop where
 ga:specialIn K (.ref C) "__getattribute__"=some (some (.builtin "type.__getattribute__"))
 rd:readsIn K C mc=true
 fc:findCls K (.ref C) mc m=some (.val (.ref f))
 kp:keepIn K (.ref f)=true
end L2
namespace L2
open PySem PySem.W PySem.Spec PySem.Calls PyProof.Rows
open PySem.SeqAt (EqAt RcAt RcNeAt)
section
variable {X:Cx}
theorem zf (U:X.A.units<cLine):OpR X (compareOp .Eq) (fun x y H Q=>∃ a b kvs,x=.ref a/\y=.ref b/\H a=some (.dK kvs)/\H b=some (.dK [])/\Q (.bl (decide (kvs=[]))) H):=by
 intro pins s Z H x y v u Q I O R h;obtain ⟨a,b,kvs,rfl,rfl,F,c,q⟩:=h;cases O;cases R;obtain ⟨_,W,vs,S,d1⟩:=iT I.hok F;obtain ⟨_,T,M,G,d2⟩:=iT I.hok c;cases G;refine keq_eq (r:=true) W T d1 d2 U (fun Y=>?_) ⟨.bl _,H,I,?_,q⟩
 .obtain rfl:=DL.mp Y;exact .nil
 show Value.bool _=Value.bool _;congr 1;rw [EL,Ed,GS,Gy];show vs.length=0↔_;rw [<-S.length];exact DL
theorem rS (R:X.A.units<cLine):OpR X (compareOp .Eq) (fun x y H Q=>∃ b ys,y=.ref b/\SqT X.K H b ys/\eI ys/\((x=.non/\Q (.bl false) H)∨∃ a xs,x=.ref a/\SqT X.K H a xs/\eI xs/\Q (.bl (decide (xs=ys))) H)):=by
 intro pins s Z H x y v u Q I T S h;obtain ⟨b,ys,rfl,O,en,⟨rfl,q⟩ | ⟨a,xs,rfl,U,c,q⟩⟩:=h
 .cases T;cases S;obtain ⟨its,r,M,_⟩:=I.tuple O;exact RcAt.none_tuple M R X.prog X.w _ _ ⟨.bl false,H,I,rfl,q⟩
 exact yA R pins s Z H _ _ v u Q I T S ⟨a,b,xs,ys,rfl,rfl,U,O,c,en,q⟩
inductive AlT (K:Frag)(H:Hp):V->V->Prop
 | non:AlT K H .non .non
 | str (n:Str):AlT K H (.str n) (.str n)
 | int (i:Int):AlT K H (.int i) (.int i)
 | tup {p q:Addr} {xs ys:List V}:SqT K H p xs->SqT K H q ys->AlL K H 8 xs ys->AlT K H (.ref p) (.ref q)
 | lst {p q:Addr} {xs ys:List V}:SqL K H p xs->SqL K H q ys->AlL K H 8 xs ys->AlT K H (.ref p) (.ref q)
theorem zG (S:X.A.units+100<cLine):OpR X (compareOp .Eq) (fun x y H Q=>AlT X.K H x y/\Q (.bl true) H):=by
 intro pins s Z H x y v u Q I c T ⟨a,q⟩;cases a with
 | non=>cases c;cases T;exact RcAt.none_none X.prog X.w _ _ ⟨.bl true,H,I,rfl,q⟩
 | str n =>
  obtain ⟨t,rfl⟩:=c;obtain ⟨O,rfl⟩:=T;exact RcAt.str_str n t n O X.prog X.w _ _ ⟨.bl true,H,I,by rw [(dh n n).mpr rfl];rfl,q⟩
 | int i =>
  obtain ⟨t,rfl⟩:=c;obtain ⟨O,rfl⟩:=T;exact RcAt.int_int i t i O X.prog X.w _ _ ⟨.bl true,H,I,by rw [Ga];rfl,q⟩
 | tup h1 h2 al=>exact A5 S pins s Z H _ _ v u Q I c T ⟨_,_,_,_,rfl,rfl,h1,h2,al,q⟩
 | lst h1 h2 al=>exact yM S pins s Z H _ _ v u Q I c T ⟨_,_,_,_,rfl,rfl,h1,h2,al,q⟩
theorem lO (S:X.A.units+100<cLine):OpR X (compareOp .NotEq) (fun x y H Q=>AlT X.K H x y/\Q (.bl false) H):=by
 intro pins s Z H x y v u Q I c T ⟨a,q⟩;cases a with
 | non=>cases c;cases T;exact RcNeAt.none_none X.prog X.w _ _ ⟨.bl false,H,I,rfl,q⟩
 | str n =>
  obtain ⟨t,rfl⟩:=c;obtain ⟨O,rfl⟩:=T;exact RcNeAt.str_str n t n O X.prog X.w _ _ ⟨.bl false,H,I,by rw [(dh n n).mpr rfl];rfl,q⟩
 | int i =>
  obtain ⟨t,rfl⟩:=c;obtain ⟨O,rfl⟩:=T;exact RcNeAt.int_int i t i O X.prog X.w _ _ ⟨.bl false,H,I,by rw [Ga];rfl,q⟩
 | tup h1 h2 al=>exact AH S pins s Z H _ _ v u Q I c T ⟨_,_,_,_,rfl,rfl,h1,h2,al,q⟩
 | lst h1 h2 al=>exact zo S pins s Z H _ _ v u Q I c T ⟨_,_,_,_,rfl,rfl,h1,h2,al,q⟩
end
end L2
namespace TS
open PySem PyProof.Rows PySem.W
section
variable {prog:Program}{w:World}{A:Around}{E:Value->Shared->Prop}{s:Shared}
theorem vI (M:∀v∈vs,∃ x t,v=Value.str x t):Cmp prog w A s PyProof.Rows.strKind oneType' (pairsOf vs):=by
 have O:∀p∈(pairsOf vs).toList,∃ x t,p.1=Value.str x t:=fun p I=>by rw [He] at I;exact M _ (mem_zip_self I).2
 refine ⟨fun x y S R E Q q=>?_⟩;obtain ⟨a,ta,c⟩:=O x S;obtain ⟨b,tb,T⟩:=O y R;have U:Lb PyProof.Rows.strKind x y=decide (a.cps.toList<b.cps.toList):=by unfold Lb kf;rw [c,T];rfl
 rw [U] at q;rw [c,T,keyLt'_oneType];exact oneLt_str q
theorem mY (T:∀v∈vs,∃ x t,v=Value.str x t)(c:2<=vs.length):keyKind' vs.toArray=pure oneType':=by
 match vs,c with
 | v1::v2::r,_=>exact keyKind_strs (strsAre_map _ T)
end
end TS
namespace L2
open PySem PySem.W PySem.Spec PySem.Calls PyProof.Rows
def slt (a b:Str):Bool:=decide (a.cps.toList<b.cps.toList)
def dz:Value->Str
 | .str x _=>x
 | _=>default
def prV (k:Int×Str):List V:=[.int k.1,.str k.2]
def ltP (a b:Int×Str):Bool:=bw (prV a) (prV b)
theorem Ap {a b:Int×Str}:ltP a b=bw [.int a.1,.str a.2,.int 0] [.int b.1,.str b.2,.int 0]:=by
 unfold ltP prV;rw [aP,aP,aP,aP,aP];by_cases h:V.int a.1=V.int b.1
 .rw [Dm h,Dm h];by_cases c:V.str a.2=V.str b.2
  .rw [Dm c,Dm c,Dm rfl]
  .rw [Di c,Di c]
 rw [Di h,Di h]
theorem zD {ys:List V}(h1:IsTup s.heap a us.toArray)(P:IsTup s.heap b vs.toArray)(r1:Vals xs us)(r2:Vals ys vs)(hf:oO xs ys)(hu:A.units<cLine)(q:Q (.bool (bw xs ys)) s):
  wpAny (model prog w) A (richCompare .Lt (.ref a) (.ref b)) Q E s:=by
 obtain ⟨⟨cls,G,U,Y⟩,F,M,n,hd⟩:=id h1;obtain ⟨⟨W,S,I,R⟩,c,O,J,T⟩:=id P;simp only at M hd O T;subst M hd O T;exact Gu (op:=.Lt) ⟨_,F,rfl⟩ ⟨_,c,rfl⟩ GI Gv (Gj _ _) (i4 a b _ _ n J G S Y R xs ys r1 r2 hf) ⟨F,c,show Value.bool (bw xs ys)≠Value.notImplemented/\Q (.bool (bw xs ys)) s from ⟨(fun x=>nomatch x),q⟩⟩ hu
section
variable {X:Cx}{e o i a b:Expr}{te to ti ta tb:TE}{pos pos':Pos}{f:Str}
theorem aY (T:QE X e te)(M:attributeBase e f X.env (eval e X.env)=eval e X.env):QE X (.Attribute e f pos) (B9 X.K te f):=.mk (by
 have T:=T.to;intro pins s Z H Q I h;refine zC M (thn (T pins s Z H _ I h) fun u P G=>?_);obtain ⟨x,O,Y,F,a,C,dx,fs,v,U,W,c,n,l,q⟩:=G;subst U;obtain rfl:u=Value.ref a:=F;exact pS Y W c n l fun J s2 S R=>⟨v,O,S,R,q⟩)
theorem cN {S:TE}(T:QE X o to)(O:QE X value S)(F:swapsWith value (some (.Attribute o f pos')) pos.line X.env=pure false):QS X (.Assign [.Attribute o f pos'] value pos) (Cq X.K to S f):=.mk (by
 have T:=T.to;have O:=O.to;intro pins s Z H D I h;refine plainObj_wpAny_Assign_Attribute (thn (O pins s Z H _ I h) fun u M ⟨y,P,Y,G,q⟩=>thn (T pins M Z P _ Y q) fun ov s2 zz=>?_) F;obtain ⟨x,H2,J,W,a,C,dx,fs,ex,U,c,n,l,R⟩:=zz;subst ex;obtain rfl:ov=Value.ref a:=W;exact p5 J U c n l G fun s3 I3=>⟨Z,_,I3,R⟩)
theorem eP:QE X (.Dict [] [] pos) Bu:=.mk (fun pins s Z H Q I h =>
 wpAny_Dict_empty ⟨.ref s.heap.objs.size,_,I.laid (a:=s.heap.objs.size) (o:=.dK []) (t':=s.toks) (fun _ _ q=>Dt _ q) (Dj _) (m8 s.heap I.big),rfl,h _ (I.hok.fresh (Dj _))⟩)
theorem aJ (P:X.A.units+1<cLine)(c:QE X o to)(hi:QE X i ti)(F:Cg i):QE X (.Subscript o i pos) (By to ti):=.mk (by
 have c:=c.to;have hi:=hi.to;intro pins s Z H Q I h;refine zt PySem.F.slot_dict_getitem.lookup F (thn (c pins s Z H _ I h) fun u M ⟨x,J,Y,W,U⟩=>thn (hi pins M Z J _ Y U) fun iv s2 zz=>?_);obtain ⟨y,S,O,G,a,v,ex,g,R⟩:=zz;subst ex;obtain rfl:u=Value.ref a:=W;exact ⟨ot O g,uj P O g G fun w' s3 I3 T=>⟨v,S,I3,T,R⟩⟩)
theorem AX (S:X.A.units+1<cLine)(hi:QE X i ti)(T:QE X o to)(O:autoParam (behindInMarks .In o=false) aad):QE X (.Compare i [.In] [o] pos) (Bi ti to):=.mk (by
 have h:=(wK S hi.to T.to);exact fun pins s Z H Q I c=>wpAny_Compare1 (h pins s Z H Q I c) O)
theorem vO (T:X.A.units+1<cLine)(hi:QE X i ti)(c:QE X o to)(O:autoParam (behindInMarks .In o=false) aad):QT X (.Compare i [.In] [o] pos) (tB (Bi ti to)):=.mk (wJ (wK T hi.to c.to) O)
theorem kz (T:X.A.units+1<cLine)(hi:QE X i ti)(c:QE X o to)(O:autoParam (behindInMarks .NotIn o=false) aad):QT X (.Compare i [.NotIn] [o] pos) (tB (tf ti to)):=.mk (wJ (u7 T hi.to c.to) O)
theorem cH {O:TE}(J:X.A.units+1<cLine)(c:QE X o to)(hi:QE X i ti)(T:QE X value O)(G:swapsWith value (some (.Subscript o i pos')) pos.line X.env=pure false):QS X (.Assign [.Subscript o i pos'] value pos) (Cj to ti O):=.mk (by
 have c:=c.to;have hi:=hi.to;have T:=T.to;intro pins s Z H D I h;refine wpAny_Assign_Subscript (thn (T pins s Z H _ I h) fun r W ⟨v,H1,P,S,M⟩=>thn (c pins W Z H1 _ P M) fun u s2 ⟨x,R,I2,F,U⟩=>thn (hi pins s2 Z R _ I2 U) fun iv s3 zz=>?_) G;obtain ⟨y,H3,I3,Y,a,H4,ex,g,q3⟩:=zz;subst ex;obtain rfl:u=Value.ref a:=F;exact uU J I3 g Y S fun s4 I4=>⟨Z,H4,I4,q3⟩)
theorem nY (P:X.A.units+1<cLine)(c:QE X o to)(O:QE X e te)(m:M1 X o "get" apos e cpos):QE X (.Call (.Attribute o "get" apos) [e] [] cpos) (Bg to te):=.mk (by
 have c:=c.to;have O:=O.to;intro pins s Z H Q I h;refine GA m.base m.few m.line E6 EC GJ (thn (c pins s Z H _ I h) fun u M zz=>?_);obtain ⟨x,J,S,G,a,ex,d,W⟩:=zz;subst ex;obtain rfl:u=Value.ref a:=G;obtain ⟨t1,F,_⟩:=pI S d;refine ⟨t1,F,?_⟩;rw [m.trees];refine ES rfl (E4 (E1 (thn (O pins M Z J _ S W) fun iv s2 ⟨y,R,I2,Y,ov,g,U⟩=>FQ ?_)));exact AQ P I2 g Y fun w' s3 I3 T=>⟨_,R,I3,T,U⟩)
theorem gH (c:QE X o to)(O:QE X e te)(m:M1 X o "pop" apos e cpos):QE X (.Call (.Attribute o "pop" apos) [e] [] cpos) (AO to te):=.mk (by
 have c:=c.to;have O:=O.to;intro pins s Z H Q I h;refine GA m.base m.few m.line E6 Ip PySem.F.type_dict_pop (thn (c pins s Z H _ I h) fun u M zz=>?_);obtain ⟨x,J,S,G,a,ex,d,W⟩:=zz;subst ex;obtain rfl:u=Value.ref a:=G;obtain ⟨t1,F,_⟩:=pI S d;refine ⟨t1,F,?_⟩;rw [m.trees];refine ES rfl (E4 (E1 (thn (O pins M Z J _ S W) fun iv s2 ⟨y,H2,P,Y,kvs,k,v,U,ey,l,R⟩=>FQ ?_)));subst ey;exact Ce P U Y l (.inl rfl) fun w' s3 I3 T=>⟨v,_,I3,T,R⟩)
theorem oK {c:Str}{j:Nat}{T:Pos}(h:QE X e te)(R:c.length<=1000):QE X (.JoinedStr [.FormattedValue e (-1) none T,.Constant (.str c) j cpos] pos) (Ch te):=.mk (by
 have h:=h.to;intro pins s Z H Q I F;refine JoinedStr_many (joinParts_cons (FormattedValue_plain (thn (h pins s Z H _ I F) fun u W S=>?_)));obtain ⟨x,U,Y,G,n,J,hn,q⟩:=S;subst J;obtain ⟨t0,rfl⟩:=G;have O:(Str.empty++n).length<=1000:=by rw [strLen_append];show 0+n.length<=1000;lia
 refine formatField_str (fun t' tk=>⟨Dq O Db,?_⟩) (Dq hn Db);refine joinParts_cons (thn (qb (X:=X) (x:=c) (j:=j) (pos:=cpos) pins { W with toks:=tk } Z U (fun v H'=>v=.str c/\H'=U) (Y.tok _) ⟨rfl,rfl⟩) fun u s2 S=>?_);obtain ⟨y,M,P,r2,ey,eH⟩:=S;subst ey eH;obtain ⟨t2,rfl⟩:=r2;exact ⟨jA O R,joinParts_nil ⟨.str _,M,P.tok _,⟨_,rfl⟩,q _⟩ (jA O R)⟩)
theorem rZ (h:QE X e te):QE X e (Ca X.H₀ te):=.mk (by
 have h:=h.to;exact fun pins s Z H Q I q =>
 thn (h pins s Z H _ I q) fun u R ⟨v,S,O,r,d,o,kvs,c,n,T⟩=>⟨v,_,O.thaw c n,r,T⟩)
theorem zB (h:QE X e te):QI X tg e (Cc te):=.mk (by
 have hl:=h.to;intro pins s Z H R I h;refine thn (hl pins s Z H _ I h) fun v O zz=>?_;obtain ⟨x,Y,F,G,d,kvs,e,hd,q⟩:=zz;subst e;cases G;obtain ⟨o,W,U⟩:=F.freeze hd;obtain ⟨_,S,vs,M,o2,J,ep,T,P,c,rest⟩:=(show ObjOk X.prog X.w Y O.heap d (.dK kvs) from F.hok d _ hd);rw [W] at T;cases T;refine wpAny_pyIter_dict S ⟨o,J,W,P,c,rest⟩ ?_;refine ⟨O.heap.objs.size,[O.heap.objs.size],_,_,_,rfl,U.kept (t':=O.toks) fun b o e=>Dt _ e,uf c,⟨_,DQ _ rfl,rfl,?_⟩,fun b hb=>?_,q o⟩
 .show Data.fields _=_;rw [M.length];rfl
 obtain rfl:=De hb;exact U.fpOk (Dj _) (U.hok.fresh (Dj _)))
theorem xj {rest:List Expr}(O:QE X a ta)(S:QE X (.BoolOp .And (b::rest) pos) tb):QE X (.BoolOp .And (a::b::rest) pos) (BM ta tb):=.mk (by
 have O:=O.to;have S:=S.to;intro pins s Z H Q I h;refine BoolOp_and (thn (O pins s Z H _ I h) fun v M F=>?_);obtain ⟨x,R,U,W,T⟩:=F;obtain ⟨c,rfl,T⟩:=T;cases W;refine Fp ?_;cases c with
 | true=>exact S pins M Z R Q U T
 | false=>exact ⟨.bl false,R,U,rfl,T⟩)
theorem v7 {op}(h:QE X a ta):QE X (.BoolOp op [a] pos) ta:=.mk (by
 have h:=h.to;exact fun pins s Z H Q I c=>BoolOp_one (h pins s Z H Q I c))
section
variable {CX:CXT}{k:Nat}{g C:Addr}{mc:Value}{fd:FuncData}{ps:List Str}{sp:Sp}{dvs:List V}{ds:List Value}{E:XK}{m x:Str}{p apos:Pos}{es:List Expr}{t:TA}{pl:Sem Bool}
theorem aV (ho:QE X o to)(c:Cls X.K C)(M:bp X.K C m g)(F:au X.prog X.w X.K X.mg X.base CX k g fd ps sp)(hr:Room k X.A)(hb:Binds X.K fd ps ds)(hd:Vals dvs ds)(hx:cM CX X E)(O:QA X (e::es) t)(S:autoParam (starEach (e::es) X.env=(false,eval e X.env)::starEach es X.env) aad)(T:autoParam ((backTo pos (starEach es X.env)).any (·.1)=false) aad)(P:autoParam (eval (.Call (.Attribute o m apos) (e::es) [] pos) X.env=(do
   let ov <-eval o X.env
   standAt apos.atName
   let (f,first) <-holding [ov] (getMethod ov m pl)
   callWith pos f first (backTo pos (starEach (e::es) X.env)) (backToKw pos (keywordEach [] X.env)))) aad):
  QE X (.Call (.Attribute o m apos) (e::es) [] pos) (zV C m sp dvs E to t):=.mk (by
 have he:=ho.to;have O:=O.to;intro pins s Z H Q I h;refine Iq (pl:=pl) (thn (he pins s Z H _ I h) fun u Y zz=>?_) P;obtain ⟨x,H1,R,J,a,dx,fs,ex,G,l,q⟩:=zz;subst ex;obtain rfl:u=Value.ref a:=J;refine fT R G c M l ?_;refine Io (first:=[.ref a]) (h₀:=X.base) I.ok.mod.kin M.kp (thn (O pos pins Y Z H1 _ R q) fun us s2 ⟨vs,H2,U,r,W⟩=>⟨U.kIn,?_⟩) S T;exact mT (us:=.ref a::us) (vs:=.ref a::vs) F hr hb hd hx U (.cons rfl r) W)
theorem bg (J:QE X o to)(c:Cls X.K C)(O:bp X.K C m g)(F:au X.prog X.w X.K X.mg X.base CX k g fd ps sp)(M:Room k X.A)(hb:Binds X.K fd ps ds)(hd:Vals dvs ds)(S:cM CX X E)(G:autoParam (eval (.Call (.Attribute o m apos) [] [] pos) X.env=(do
   let ov <-eval o X.env
   standAt apos.atName
   let (f,first) <-holding [ov] (getMethod ov m pl)
   callWith pos f first (backTo pos (starEach [] X.env)) (backToKw pos (keywordEach [] X.env)))) aad):
  QE X (.Call (.Attribute o m apos) [] [] pos) (zV C m sp dvs E to p8):=.mk (by
 have Y:=J.to;intro pins s Z H Q I h;refine Iq (pl:=pl) (thn (Y pins s Z H _ I h) fun u s1 zz=>?_) G;obtain ⟨x,H1,T,P,a,dx,fs,R,U,l,q⟩:=zz;subst R;obtain rfl:u=Value.ref a:=P;refine fT T U c O l ?_;exact W.callWith_K0 (first:=[.ref a]) T.kIn O.kp (mT (us:=[.ref a]) (vs:=[.ref a]) F M hb hd S T (.cons rfl .nil) q))
theorem tQ (M:Mk X.K C g)(F:au X.prog X.w X.K X.mg X.base CX k g fd ps sp)(U:Room (k+1) X.A)(W:Gl X x)(Y:X.mg x=some (.ref C))(P:Binds X.K fd ps ds)(hd:Vals dvs ds)(R:cM CX X E)(T:QA X (e::es) t)(O:autoParam ((x == ("__debug__":Str))=false) aab)(G:autoParam (starEach (e::es) X.env=(false,eval e X.env)::starEach es X.env) aad)(c:autoParam ((backTo pos (starEach es X.env)).any (·.1)=false) aad):
  QE X (.Call (.Name x p) (e::es) [] pos) (z8 C sp dvs E t):=.mk (by
 have T:=T.to;intro pins s Z H Q I h;refine FG (fj I W Y ?_ O);refine Io (h₀:=X.base) I.ok.mod.kin M.kp (thn (T pos pins s Z H _ I h) fun us s1 ⟨vs,J,S,r,q⟩=>⟨S.kIn,?_⟩) G c;exact nC M F U P hd R S r q)
theorem yf (M:Mk X.K C g)(F:au X.prog X.w X.K X.mg X.base CX k g fd ps sp)(O:Room (k+1) X.A)(S:Gl X x)(R:X.mg x=some (.ref C))(U:Binds X.K fd ps ds)(hd:Vals dvs ds)(T:cM CX X E)(c:autoParam ((x == ("__debug__":Str))=false) aab):QE X (.Call (.Name x p) [] [] pos) (z8 C sp dvs E p8):=.mk (by
 intro pins s Z H Q I h;refine FG (fj I S R ?_ c);exact W.callWith_K0 I.kIn M.kp (nC (us:=[]) M F O U hd T I .nil h))
theorem zc (T:QE X o (tC (.ref C)))(M:AB X.K C mc m g)(F:au X.prog X.w X.K X.mg X.base CX k g fd ps sp)(hr:Room k X.A)(hb:Binds X.K fd ps ds)(hd:Vals dvs ds)(hx:cM CX X E)(S:QA X (e::es) t)(R:autoParam (starEach (e::es) X.env=(false,eval e X.env)::starEach es X.env) aad)(c:autoParam ((backTo pos (starEach es X.env)).any (·.1)=false) aad)(Y:autoParam (eval (.Call (.Attribute o m apos) (e::es) [] pos) X.env=(do
   let ov <-eval o X.env
   standAt apos.atName
   let (f,first) <-holding [ov] (getMethod ov m pl)
   callWith pos f first (backTo pos (starEach (e::es) X.env)) (backToKw pos (keywordEach [] X.env)))) aad):
  QE X (.Call (.Attribute o m apos) (e::es) [] pos) (yh sp dvs E t):=.mk (by
 have T:=T.to;have S:=S.to;intro pins s Z H Q I h;refine methodCall_KW (pl:=pl) (thn (T pins s Z H (fun v H'=>v=.ref C/\H'=H) I ⟨rfl,rfl⟩) fun u G zz=>?_) Y;obtain ⟨x,J,O,P,ex,eH⟩:=zz;subst ex eH;obtain rfl:u=Value.ref C:=P;refine method_cls O.kIn M.ga (cls_value O.kIn M.rd M.fc rfl ?_);have I2:=O.tok (G.toks+1);refine callWith_K (h₀:=X.base) I.ok.mod.kin M.kp (thn (S pos pins _ Z J _ I2 h) fun us s2 ⟨vs,H2,U,r,W⟩=>⟨U.kIn,?_⟩) R c;exact mT F hr hb hd hx U r W)
end
end
theorem zg {K:Frag}{e:Expr}{f:Str}(h:X.K=K)(T:QE X e te)(c:attributeBase e f X.env (eval e X.env)=eval e X.env):QE X (.Attribute e f pos) (B9 K te f):=by subst h;exact aY T c
theorem sS {K:Frag}(h:X.K=K):IxR X (B6 K):=by subst h;exact aI
end L2
namespace Hg
section
variable {α:Type}[Inhabited α]
abbrev g (xs:List α)(i:Nat):α:=xs.getD i default
def sw (xs:List α)(i j:Nat):List α:=(xs.set i (g xs j)).set j (g xs i)
structure Od (lt:α->α->Bool):Prop where
 as:∀a b,lt a b=true->lt b a=false
 nt:∀a b c,lt a b=false->lt b c=false->lt a c=false
theorem Od.irr {lt:α->α->Bool}(o:Od lt)(a:α):lt a a=false:=by
 cases e:lt a a with
 | false=>rfl
 | true=>have:=o.as a a e;rw [e] at this;exact this
theorem nu {xs:List α}{k:Nat}{v:α}:g (xs.set i v) k=if i=k/\k<xs.length then v else g xs k:=by
 simp only [g,DS,List.getElem?_set];by_cases h:i=k
 .subst h;by_cases c:i<xs.length
  .simp [c]
  .simp [c,FK (HW c)]
 simp [h]
theorem aX {xs:List α}{j:Nat}:(sw xs i j).length=xs.length:=by simp [sw]
theorem dZ {xs:List α}{j k:Nat}(hi:i<xs.length)(O:j<xs.length):g (sw xs i j) k=if k=j then g xs i else if k=i then g xs j else g xs k:=by
 unfold sw;rw [nu,nu,EA];by_cases T:k=j
 .subst T;simp [O]
 rw [Di (by intro z;exact T z.1.symm),Di T];by_cases c:k=i
 .subst c;simp [hi]
 rw [Di (by intro z;exact c z.1.symm),Di c]
theorem g_get {xs:List α}(h:i<xs.length):g xs i=xs[i]:=by simp [g,DS,h]
theorem fE {xs:List α}{j:Nat}(hi:i<xs.length)(c:j<xs.length):(sw xs i j).Perm xs:=by unfold sw;rw [g_get hi,g_get c];exact List.set_set_perm hi c
def les (lt:α->α->Bool)(xs:List α)(p:Nat):Nat:=if 2*p+2<xs.length/\lt (g xs (2*p+2)) (g xs (2*p+1))=true then 2*p+2 else 2*p+1
def kids (n p:Nat):Nat:=if 2*p+2<n then 2 else if 2*p+1<n then 1 else 0
def dn (lt:α->α->Bool):Nat->List α->Nat->Nat->List α×Nat
 | 0,xs,_,lk=>(xs,lk)
 | f+1,xs,p,lk=>if 2*p+1<xs.length then
   if lt (g xs (les lt xs p)) (g xs p)=true then dn lt f (sw xs p (les lt xs p)) (les lt xs p) (lk+kids xs.length p) else (xs,lk+kids xs.length p)
  else (xs,lk)
def up (lt:α->α->Bool):Nat->List α->Nat->Nat->List α×Nat
 | 0,xs,_,lk=>(xs,lk)
 | f+1,xs,p,lk=>if 0<p then
   if lt (g xs p) (g xs ((p-1) / 2))=true then up lt f (sw xs p ((p-1) / 2)) ((p-1) / 2) (lk+1) else (xs,lk+1)
  else (xs,lk)
theorem dL {lt:α->α->Bool}{xs:List α}{p:Nat}:2*p+1<=les lt xs p:=by unfold les;split <;> lia
theorem qX {lt:α->α->Bool}{xs:List α}{p:Nat}:les lt xs p<=2*p+2:=by unfold les;split <;> lia
theorem dw {lt:α->α->Bool}{xs:List α}{p:Nat}(h:2*p+1<xs.length):les lt xs p<xs.length:=by unfold les;split <;> lia
theorem mW {lt:α->α->Bool}(o:Od lt){xs:List α}{p k:Nat}(hk:k<xs.length)(c:k=2*p+1∨k=2*p+2):lt (g xs k) (g xs (les lt xs p))=false:=by
 unfold les;split
 .rename_i h;rcases c with rfl | rfl
  .exact o.as _ _ h.2
  .exact o.irr _
 rename_i h;rcases c with rfl | rfl
 .exact o.irr _
 cases e:lt (g xs (2*p+2)) (g xs (2*p+1)) with
 | false=>rfl
 | true=>exact absurd ⟨hk,e⟩ h
theorem dn_len {lt:α->α->Bool}:∀{f:Nat} {xs:List α} {p lk:Nat},(dn lt f xs p lk).1.length=xs.length
 | 0,xs,p,lk=>rfl
 | f+1,xs,p,lk=>by
  unfold dn;split
  .split
   .rw [dn_len,aX]
   .rfl
  .rfl
theorem dn_perm {lt:α->α->Bool}:∀{f:Nat} {xs:List α} {p lk:Nat},(dn lt f xs p lk).1.Perm xs
 | 0,xs,p,lk=>.refl _
 | f+1,xs,p,lk=>by
  unfold dn;split
  .rename_i h;split
   .exact dn_perm.trans (fE Dc (dw h))
   .exact .refl _
  .exact .refl _
theorem dJ {lt:α->α->Bool}:∀{f:Nat} {xs:List α} {p lk:Nat},p<xs.length->(up lt f xs p lk).1.Perm xs
 | 0,xs,p,lk,_=>.refl _
 | f+1,xs,p,lk,hp=>by
  unfold up;split
  .split
   .exact (dJ (by rw [aX];lia)).trans (fE Dc Dc)
   .exact .refl _
  .exact .refl _
def HF (lt:α->α->Bool)(q:Nat)(xs:List α):Prop:=∀k,0<k->k<xs.length->q<=(k-1) / 2->lt (g xs k) (g xs ((k-1) / 2))=false
def IsH (lt:α->α->Bool)(xs:List α):Prop:=∀k,0<k->k<xs.length->lt (g xs k) (g xs ((k-1) / 2))=false
theorem HF.zero {lt:α->α->Bool}{xs:List α}(h:HF lt 0 xs):IsH lt xs:=fun k a b=>h k a b (D6 _)
theorem fy {lt:α->α->Bool}(o:Od lt){q:Nat}:∀{f:Nat} {xs:List α} {p lk:Nat},xs.length<=p+f->q<=p ->
  (∀k,0<k->k<xs.length->q<=(k-1) / 2->(k-1) / 2≠p->lt (g xs k) (g xs ((k-1) / 2))=false) ->
  (p=q∨(0<p/\q<=(p-1) / 2/\∀k,0<k->k<xs.length->(k-1) / 2=p->lt (g xs k) (g xs ((p-1) / 2))=false))->HF lt q (dn lt f xs p lk).1
 | 0,xs,p,lk,hf,hq,h1,I=>by
  intro k k0 k1 k2;exact h1 k k0 k1 k2 (by have:k<xs.length:=k1;lia)
 | f+1,xs,p,lk,hf,hq,h1,I=>by
  unfold dn;split
  .rename_i hc;have Y:=dL (lt:=lt) (xs:=xs) (p:=p);have G:=qX (lt:=lt) (xs:=xs) (p:=p);have O:=dw (lt:=lt) hc;have M:=fun k hk W=>mW o (xs:=xs) (p:=p) (k:=k) hk W;split
   .rename_i hl;generalize les lt xs p=b at *;have c:p<xs.length:=by lia
    refine fy o (by rw [aX];lia) Dc (fun k k0 k1 k2 F=>?_) (.inr ⟨Dc,Dc,fun k k0 k1 k2=>?_⟩)
    .rw [aX] at k1;rw [dZ c O,dZ c O];by_cases S:k=b
     .subst S;have T:(k-1) / 2=p:=by lia
      rw [Dm rfl,T,Di Dc,Dm rfl];exact o.as _ _ hl
     .rw [Di S,Di (by lia:¬ (k-1) / 2=b)];by_cases T:(k-1) / 2=p
      .rw [Di Dc,Dm T];exact M k k1 Dc
      .rw [Di T];by_cases U:k=p
       .subst U;rw [Dm rfl];rcases I with I | ⟨_,_,I⟩
        .lia
        .exact I b Dc O Dc
       .rw [Di U];exact h1 k k0 k1 k2 T
    .rw [aX] at k1;have S:(b-1) / 2=p:=by lia
     rw [S,dZ c O,dZ c O,Di Dc,Di Dc,Di Dc,Dm rfl];have:=h1 k k0 k1 Dc Dc
     rwa [k2] at this
   .rename_i hl;intro k k0 k1 k2;by_cases T:(k-1) / 2=p
    .rw [T];have R:lt (g xs (les lt xs p)) (g xs p)=false:=by simpa using hl
     exact o.nt _ _ _ (M k k1 Dc) R
    .exact h1 k k0 k1 k2 T
  .intro k k0 k1 k2;exact h1 k k0 k1 k2 (by have:k<xs.length:=k1;lia)
theorem gF {lt:α->α->Bool}(o:Od lt):∀{f:Nat} {xs:List α} {p lk:Nat},p<=f->p<xs.length ->
  (∀k,0<k->k<xs.length->k≠p->lt (g xs k) (g xs ((k-1) / 2))=false) ->
  (∀k,0<k->k<xs.length->(k-1) / 2=p->0<p->lt (g xs k) (g xs ((p-1) / 2))=false)->IsH lt (up lt f xs p lk).1
 | 0,xs,p,lk,hf,hp,h1,h2=>fun k k0 k1=>h1 k k0 k1 Dc
 | f+1,xs,p,lk,hf,hp,h1,h2=>by
  unfold up;split
  .rename_i hc;split
   .rename_i hl;generalize M:(p-1) / 2=a at *;have T:a<xs.length:=by lia
    refine gF o Dc (by rw [aX];lia) (fun k k0 k1 S=>?_) (fun k k0 k1 S W=>?_)
    .rw [aX] at k1;rw [dZ hp T,dZ hp T,Di S];by_cases c:k=p
     .subst c;rw [Dm rfl,M,Dm rfl];exact o.as _ _ hl
     .rw [Di c];by_cases R:(k-1) / 2=a
      .rw [Dm R];have O:=h1 k k0 k1 c;rw [R] at O;exact o.nt _ _ _ O (o.as _ _ hl)
      .rw [Di R];by_cases I:(k-1) / 2=p
       .rw [Dm I];exact h2 k k0 k1 I hc
       .rw [Di I];exact h1 k k0 k1 c
    .rw [aX] at k1;rw [dZ hp T,dZ hp T,Di Dc,Di (by lia:¬ (a-1) / 2=a),Di (by lia:¬ (a-1) / 2=p)];have U:=h1 a Dc T Dc;by_cases c:k=p
     .rw [Dm c];exact U
     .rw [Di c];have O:=h1 k k0 k1 c;rw [S] at O;exact o.nt _ _ _ O U
   .rename_i hl;intro k k0 k1;by_cases c:k=p
    .subst c;simpa using hl
    .exact h1 k k0 k1 c
  .intro k k0 k1;exact h1 k k0 k1 Dc
def mk (lt:α->α->Bool):Nat->List α->Nat->List α×Nat
 | 0,xs,lk=>(xs,lk)
 | k+1,xs,lk=>mk lt k (dn lt xs.length xs k 0).1 (lk+(dn lt xs.length xs k 0).2)
theorem mk_perm {lt:α->α->Bool}:∀{k:Nat} {xs:List α} {lk:Nat},(mk lt k xs lk).1.Perm xs
 | 0,_,_=>.refl _
 | k+1,xs,lk=>by unfold mk;exact mk_perm.trans dn_perm
theorem tN {lt:α->α->Bool}(o:Od lt):∀{k:Nat} {xs:List α} {lk:Nat},HF lt k xs->IsH lt (mk lt k xs lk).1
 | 0,_,_,h=>h.zero
 | k+1,xs,lk,h=>by unfold mk;refine tN o (fy o Dc (Dj _) (fun j T c I O=>h j T c Dc) (.inl rfl))
theorem yD {lt:α->α->Bool}{xs:List α}:HF lt (xs.length / 2) xs:=fun k T O c=>by lia
variable {lt:α->α->Bool}{xs:List α}{f p lk:Nat}
theorem up_stop (h:¬ 0<p):up lt f xs p lk=(xs,lk):=by
 cases f with
 | zero=>rfl
 | succ f=>unfold up;rw [Di h]
theorem up_stay (h:0<p)(q:lt (g xs p) (g xs ((p-1) / 2))=false):up lt (f+1) xs p lk=(xs,lk+1):=by unfold up;rw [Dm h,Di (by rw [q];exact Dy)]
theorem up_go (h:0<p)(q:lt (g xs p) (g xs ((p-1) / 2))=true):up lt (f+1) xs p lk=up lt f (sw xs p ((p-1) / 2)) ((p-1) / 2) (lk+1):=by
 conv=>lhs;unfold up
 rw [Dm h,Dm q]
theorem ku (h:2<=n):n.log2=(n / 2).log2+1:=by rw [Nat.log2_def,Dm h]
theorem vD (h:¬ 2<=n):n.log2=0:=by rw [Nat.log2_def,Di h]
theorem oJ {lt:α->α->Bool}:∀{f:Nat} {xs:List α} {p lk:Nat},(up lt f xs p lk).2<=lk+(p+1).log2
 | 0,xs,p,lk=>Ff _ _
 | f+1,xs,p,lk=>by
  unfold up;split
  .rename_i h;have e:=ku (n:=p+1) Dc;rw [show (p+1) / 2=(p-1) / 2+1 by lia] at e;split
   .have:=oJ (lt:=lt) (f:=f) (xs:=sw xs p ((p-1) / 2)) (p:=(p-1) / 2) (lk:=lk+1);lia
   .show lk+1<=_;lia
  .exact Ff _ _
theorem nU {lt:α->α->Bool}:∀{f:Nat} {xs:List α} {p lk k:Nat},xs.length<2 ^ (k+1)*(p+1)->(dn lt f xs p lk).2<=lk+2*k
 | 0,xs,p,lk,k,_=>Ff _ _
 | f+1,xs,p,lk,k,h=>by
  unfold dn;split
  .rename_i hc;have k2:kids xs.length p<=2:=by unfold kids;(repeat' split) <;> lia
   cases k with
   | zero=>lia
   | succ k =>
    split
    .have T:=dL (lt:=lt) (xs:=xs) (p:=p);have c:(sw xs p (les lt xs p)).length<2 ^ (k+1)*(les lt xs p+1):=by rw [aX];refine DW h ?_;rw [show 2 ^ (k+1+1)*(p+1)=2 ^ (k+1)*(2*(p+1)) by rw [Nat.pow_succ (n:=2) (m:=k+1),Nat.mul_assoc]];exact Nat.mul_le_mul_left _ Dc
     have:=nU (lt:=lt) (f:=f) (lk:=lk+kids xs.length p) c;lia
    .show lk+kids xs.length p<=_;lia
  .exact Ff _ _
theorem j4 {lt:α->α->Bool}{f:Nat}{xs:List α}{p lk:Nat}:(dn lt f xs p lk).2<=lk+2*(xs.length / (p+1)).log2:=nU (by
 have:=Nat.lt_log2_self (n:=xs.length / (p+1));exact (Nat.div_lt_iff_lt_mul Dc).mp this)
def lgs (n:Nat):Nat->Nat
 | 0=>0
 | k+1=>lgs n k+(n / (k+1)).log2
theorem oY {lt:α->α->Bool}:∀{k:Nat} {xs:List α} {lk:Nat},(mk lt k xs lk).2<=lk+2*lgs xs.length k
 | 0,_,_=>Ff _ _
 | k+1,xs,lk=>by unfold mk lgs;have c:=oY (lt:=lt) (k:=k) (xs:=(dn lt xs.length xs k 0).1) (lk:=lk+(dn lt xs.length xs k 0).2);rw [dn_len] at c;have T:=j4 (lt:=lt) (f:=xs.length) (xs:=xs) (p:=k) (lk:=0);lia
theorem nF {n:Nat}:∀{k:Nat},k<=n / 2->lgs n k=k+lgs (n / 2) k
 | 0,_=>rfl
 | k+1,h=>by unfold lgs;rw [nF Dc];have c:2<=n / (k+1):=(Ir Dc).mpr Dc;rw [ku c,Ig,Nat.mul_comm (k+1) 2,<-Ig];lia
theorem sW {m:Nat}:∀{k:Nat},m / 2<=k->lgs m k=lgs m (m / 2)
 | 0,h=>by rw [show m / 2=0 by lia]
 | k+1,h=>by
  by_cases e:m / 2=k+1
  .rw [e]
  .conv=>lhs;unfold lgs
   rw [sW Dc,vD (by
    intro z;have:=(Ir Dc).mp z;lia)]
   rfl
theorem Be:∀(n:Nat),lgs n (n / 2)<=n:=fun n=>by
 induction n using Nat.strongRecOn with
 | _ n ih =>
  by_cases h:n=0
  .subst h;exact Dj _
  .rw [nF (Dj _),sW Dc];have:=ih (n / 2) Dc;lia
theorem vo {lt:α->α->Bool}{xs:List α}:(mk lt (xs.length / 2) xs 0).2<=2*xs.length:=by have:=oY (lt:=lt) (k:=xs.length / 2) (xs:=xs) (lk:=0);have:=Be xs.length;lia
theorem i6 {lt:α->α->Bool}(o:Od lt){xs:List α}(h:IsH lt xs):∀k,k<xs.length->lt (g xs k) (g xs 0)=false:=fun k=>by
 induction k using Nat.strongRecOn with
 | _ k ih =>
  intro hk;by_cases c:k=0
  .subst c;exact o.irr _
  .exact o.nt _ _ _ (h k Dc hk) (ih ((k-1) / 2) Dc Dc)
theorem iU {lt:α->α->Bool}(o:Od lt){xs:List α}(h:IsH lt xs){y:α}(c:y∈xs):lt y (g xs 0)=false:=by obtain ⟨k,hk,e⟩:=EV c;rw [<-e,<-g_get hk];exact i6 o h k hk
def cutf (lt:α->α->Bool)(xs:List α):List α×Nat :=
 if xs.dropLast=[] then ([],0) else dn lt xs.dropLast.length (xs.dropLast.set 0 (g xs (xs.length-1))) 0 0
theorem cT {xs:List α}(h:2<=xs.length):∃ c,xs=g xs 0::c++[g xs (xs.length-1)]/\xs.dropLast=g xs 0::c:=by
 cases xs with
 | nil=>simp at h
 | cons a l =>
  have T:l≠[]:=by intro e;rw [e] at h;simp at h
  refine ⟨l.dropLast,?_,?_⟩
  .show a::l=a::l.dropLast++[g (a::l) l.length];have:g (a::l) l.length=l.getLast T:=by
    rw [g_get Dd];rw [Hy];rw [List.getElem_cons];have:l.length≠0:=by intro e;exact T (DL.mp e)
    simp [this]
   rw [this,EH,GP]
  .show (a::l).dropLast=a::l.dropLast;exact GQ T
theorem cX {lt:α->α->Bool}{xs:List α}(h:xs.length=1):cutf lt xs=([],0):=by unfold cutf;rw [Dm];rw [<-DL,Eh,h]
theorem dY {lt:α->α->Bool}{xs c:List α}(e:xs.dropLast=g xs 0::c):cutf lt xs=dn lt (c.length+1) (g xs (xs.length-1)::c) 0 0:=by unfold cutf;rw [Di (by rw [e];simp),e];rfl
theorem cutf_len {lt:α->α->Bool}{xs:List α}:(cutf lt xs).1.length=xs.length-1:=by
 unfold cutf;split
 .rename_i h;have:=congrArg List.length h;rw [Eh] at this;exact this.symm
 rw [dn_len,EA,Eh]
theorem cS {lt:α->α->Bool}{xs:List α}(h:0<xs.length):(g xs 0::(cutf lt xs).1).Perm xs:=by
 by_cases T:2<=xs.length
 .obtain ⟨c,e,O⟩:=cT T;rw [dY O];refine (List.Perm.cons _ dn_perm).trans ?_
  conv=>rhs;rw [e]
  rw [EH];refine List.Perm.cons _ ?_;exact (FL (l₁:=[g xs (xs.length-1)]) (l₂:=c))
 rw [cX Dc];cases xs with
 | nil=>simp at h
 | cons a l =>
  have:l=[]:=DL.mp (by rw [Dw] at T;lia);subst this;exact .refl _
theorem eU {lt:α->α->Bool}(o:Od lt){xs:List α}(h:IsH lt xs)(G:0<xs.length):IsH lt (cutf lt xs).1:=by
 by_cases M:2<=xs.length
 .obtain ⟨c,e,U⟩:=cT M;rw [dY U];have len:xs.length=c.length+2:=by have:=congrArg List.length U;rw [Eh,Dw] at this;lia
  have I:∀k,k<c.length->g (g xs (xs.length-1)::c) (k+1)=g xs (k+1):=fun k hk=>by
   have S:(g xs 0::c++[g xs (xs.length-1)])[k+1]?=some c[k]:=by rw [EH,Fz,EF hk,bt hk]
   rw [<-e] at S;show (g xs (xs.length-1)::c).getD (k+1) default=xs.getD (k+1) default;rw [DS,DS,S,Fz,bt hk]
  refine HF.zero (fy o (by rw [Dw];lia) (Dj _) (fun k W O _ F=>?_) (.inl rfl));rw [Dw] at O;obtain ⟨T,rfl⟩:∃ T,k=T+1:=⟨k-1,Dc⟩;obtain ⟨j,R⟩:∃ j,(T+1-1) / 2=j+1:=⟨(T+1-1) / 2-1,Dc⟩;rw [R,I T Dc,I j Dc];have:=h (T+1) Dc Dc
  rwa [R] at this
 rw [cX Dc];intro k W O;exact absurd O Dd
theorem qL {lt:α->α->Bool}{xs:List α}:(cutf lt xs).2<=2*xs.length.log2:=by
 unfold cutf;split
 .exact D6 _
 have:=j4 (lt:=lt) (f:=xs.dropLast.length) (xs:=xs.dropLast.set 0 (g xs (xs.length-1))) (p:=0) (lk:=0);rw [EA,Ja,Nat.div_one] at this;have T:xs.dropLast.length=xs.length-1:=Eh;rw [show xs.dropLast.length.log2=(xs.length-1).log2 by rw [T]] at this;have m:(xs.length-1).log2<=xs.length.log2:=by
  by_cases c:xs.length-1=0
  .rw [c];exact D6 _
  .have O:=Nat.lt_log2_self (n:=xs.length);have:=(IT c (k:=xs.length.log2+1)).mpr Dc;lia
 lia
end
end Hg
namespace Gm
open Hg
structure En (N:Type) where
 w:Int
 n:N
 s:Int
 deriving DecidableEq
instance {N:Type} [Inhabited N]:Inhabited (En N):=⟨⟨0,default,0⟩⟩
structure Slo {N:Type}(sl:N->N->Bool):Prop where
 irr:∀a,sl a a=false
 tr:∀a b c,sl a b=true->sl b c=true->sl a c=true
 tot:∀a b,a≠b->sl a b=true∨sl b a=true
section
variable {N:Type}[DecidableEq N][Inhabited N](sl:N->N->Bool)
def ltE (a b:En N):Bool:=if a.w=b.w then if a.n=b.n then decide (a.s<b.s) else sl a.n b.n else decide (a.w<b.w)
variable {sl}
theorem Slo.as (o:Slo sl){a b:N}(h:sl a b=true):sl b a=false:=by
 cases e:sl b a with
 | false=>rfl
 | true=>have:=o.tr a b a h e;rw [o.irr] at this;cases this
theorem Slo.nt (o:Slo sl){a b c:N}(h:sl a b=false)(h':sl b c=false):sl a c=false:=by
 cases e:sl a c with
 | false=>rfl
 | true =>
  by_cases T:a=b
  .subst T;rw [h'] at e;cases e
  .by_cases O:b=c
   .subst O;rw [h] at e;cases e
   .have I:=(o.tot a b T).resolve_left (by rw [h];exact Dy);have S:=(o.tot b c O).resolve_left (by rw [h'];exact Dy);have:=o.tr c b a S I;have:=o.as this;rw [this] at e;cases e
theorem ltE_iff {a b:En N}:ltE sl a b=true↔a.w<b.w∨(a.w=b.w/\((a.n≠b.n/\sl a.n b.n=true)∨(a.n=b.n/\a.s<b.s))):=by
 unfold ltE;by_cases h:a.w=b.w
 .rw [Dm h];by_cases c:a.n=b.n
  .rw [Dm c,Ed];constructor
   .intro z;exact .inr ⟨h,.inr ⟨c,z⟩⟩
   .rintro (z | ⟨_,⟨z,_⟩ | ⟨_,z⟩⟩)
    .lia
    .exact absurd c z
    .exact z
  .rw [Di c];constructor
   .intro z;exact .inr ⟨h,.inl ⟨c,z⟩⟩
   .rintro (z | ⟨_,⟨_,z⟩ | ⟨z,_⟩⟩)
    .lia
    .exact z
    .exact absurd z c
 rw [Di h,Ed];constructor
 .intro z;exact .inl z
 rintro (z | ⟨z,_⟩)
 .exact z
 exact absurd z h
theorem od_ltE (o:Slo sl):Od (ltE sl) where
 as:=fun a b h=>by
  cases e:ltE sl b a with
  | false=>rfl
  | true =>
   rw [ltE_iff] at h e;rcases h with h | ⟨O,⟨T,Y⟩ | ⟨T,Y⟩⟩ <;> rcases e with e | ⟨P,⟨R,U⟩ | ⟨R,U⟩⟩ <;> try omega
   .rw [o.as Y] at U;cases U
   .exact absurd R.symm T
   .exact absurd T.symm R
 nt:=fun a b c h h'=>by
  cases e:ltE sl a c with
  | false=>rfl
  | true =>
   have O:¬ ltE sl a b=true:=by rw [h];exact Dy
   have T:¬ ltE sl b c=true:=by rw [h'];exact Dy
   rw [ltE_iff] at O T e;exfalso;have w1:b.w<=a.w:=by
    rcases Int.lt_or_le a.w b.w with z | z
    .exact absurd (.inl z) O
    .exact z
   have w2:c.w<=b.w:=by
    rcases Int.lt_or_le b.w c.w with z | z
    .exact absurd (.inl z) T
    .exact z
   rcases e with e | ⟨P,R⟩
   .lia
   .have S:a.w=b.w:=by lia
    have I:b.w=c.w:=by lia
    have W:sl a.n b.n=false:=by
     cases z:sl a.n b.n with
     | false=>rfl
     | true =>
      by_cases q:a.n=b.n
      .rw [q,o.irr] at z;cases z
      .exact absurd (.inr ⟨S,.inl ⟨q,z⟩⟩) O
    have M:sl b.n c.n=false:=by
     cases z:sl b.n c.n with
     | false=>rfl
     | true =>
      by_cases q:b.n=c.n
      .rw [q,o.irr] at z;cases z
      .exact absurd (.inr ⟨I,.inl ⟨q,z⟩⟩) T
    have J:=o.nt W M;rcases R with ⟨_,z⟩ | ⟨G,z2⟩
    .rw [J] at z;cases z
    .have:a.n=b.n:=by
      by_cases q:a.n=b.n
      .exact q
      .have F:=(o.tot _ _ q).resolve_left (by rw [W];exact Dy);rw [<-G] at M;rw [M] at F;cases F
     have e4:b.n=c.n:=this.symm.trans G;have s1:¬ a.s<b.s:=fun z=>O (.inr ⟨S,.inr ⟨this,z⟩⟩);have s2:¬ b.s<c.s:=fun z=>T (.inr ⟨I,.inr ⟨e4,z⟩⟩);lia
end
section
variable {N β γ:Type}[DecidableEq N]
def dget (L:List (N×β))(n:N):Option β:=(L.find? fun p=>decide (p.1=n)).map (·.2)
def dput (L:List (N×β))(n:N)(b:β):List (N×β):=if L.any (fun p=>decide (p.1=n)) then L.map (fun p=>if p.1=n then (p.1,b) else p) else L++[(n,b)]
def ddel (L:List (N×β))(n:N):List (N×β):=L.filter fun p=>decide (p.1≠n)
theorem dget_some {L:List (N×β)}{n:N}{b:β}(h:dget L n=some b):(n,b)∈L:=by unfold dget at h;obtain ⟨p,c,rfl⟩:=Ie.mp h;have O:=List.mem_of_find?_eq_some c;have T:=List.find?_some c;simp at T;subst T;exact O
theorem dget_of {L:List (N×β)}(c:(L.map (·.1)).Nodup){n:N}{b:β}(h:(n,b)∈L):dget L n=some b:=by
 induction L with
 | nil=>cases h
 | cons p r ih =>
  rw [DH,Ei] at c;unfold dget;rw [EM];by_cases e:p.1=n
  .rw [Dk e];rcases ax.mp h with rfl | h
   .rfl
   .exact absurd (DG.mpr ⟨_,h,e.symm⟩) c.1
  .rw [DF e];rcases ax.mp h with rfl | h
   .exact absurd rfl e
   .exact ih c.2 h
theorem dget_none {L:List (N×β)}{n:N}:dget L n=none↔n∉L.map (·.1):=by
 unfold dget;rw [Option.map_eq_none_iff,List.find?_eq_none];constructor
 .intro h z;obtain ⟨p,c,e⟩:=DG.mp z;have:=h p c;simp [e] at this
 intro h p c;simp;intro e;exact h (DG.mpr ⟨p,c,e⟩)
theorem dput_keys {L:List (N×β)}{n:N}{b:β}:(dput L n b).map (·.1)=if n∈L.map (·.1) then L.map (·.1) else L.map (·.1)++[n]:=by
 unfold dput;by_cases h:L.any (fun p=>decide (p.1=n))=true
 .rw [Dm h];have:n∈L.map (·.1):=by obtain ⟨p,c,e⟩:=EN.mp h;exact DG.mpr ⟨p,c,Dp e⟩
  rw [Dm this,Iu];apply ED;intro p _;show (if p.1=n then (p.1,b) else p).1=p.1;split <;> rfl
 rw [Di h];have:¬ n∈L.map (·.1):=fun z=>h (by
  obtain ⟨p,c,e⟩:=DG.mp z;exact EN.mpr ⟨p,c,Dk e⟩)
 rw [Di this,D4];rfl
theorem lT {L:List (N×β)}{n:N}{b:β}(T:(L.map (·.1)).Nodup):((dput L n b).map (·.1)).Nodup:=by
 rw [dput_keys];split
 .exact T
 rename_i h;rw [EJ];refine ⟨T,Ei.mpr ⟨ah,GC⟩,?_⟩;intro a I c O;rw [DI] at O;subst O;intro z;subst z;exact h I
theorem dput_mem {L:List (N×β)}{n m:N}{b c:β}(h:(m,c)∈dput L n b):(m=n/\c=b)∨(m≠n/\(m,c)∈L):=by
 unfold dput at h;split at h
 .obtain ⟨p,T,e⟩:=DG.mp h;split at e
  .rename_i q;cases e;exact .inl ⟨q,rfl⟩
  .rename_i q;subst e;exact .inr ⟨q,T⟩
 rename_i hn;rcases Du.mp h with h | h
 .refine .inr ⟨fun z=>hn (EN.mpr ⟨_,h,Dk z⟩),h⟩
 rw [DI] at h;cases h;exact .inl ⟨rfl,rfl⟩
theorem zF {L:List (N×β)}{n m:N}{b c:β}(h:(m,c)∈L)(T:m≠n):(m,c)∈dput L n b:=by
 unfold dput;split
 .exact DG.mpr ⟨_,h,by rw [Di T]⟩
 exact Du.mpr (.inl h)
theorem uM {L:List (N×β)}{n:N}{b:β}:(n,b)∈dput L n b:=by
 unfold dput;split
 .rename_i h;obtain ⟨p,c,e⟩:=EN.mp h;have e:=Dp e;exact DG.mpr ⟨p,c,by rw [Dm e,e]⟩
 exact Du.mpr (.inr (DI.mpr rfl))
theorem ddel_mem {L:List (N×β)}{n m:N}{c:β}:(m,c)∈ddel L n↔m≠n/\(m,c)∈L:=by unfold ddel;rw [D7];simp;exact And.comm
theorem ddel_nd {L:List (N×β)}{n:N}(c:(L.map (·.1)).Nodup):((ddel L n).map (·.1)).Nodup :=
 (Ib _ FA).nodup c
theorem dput_map {L:List (N×β)}{n:N}{b:β}{f:β->γ}:(dput L n b).map (fun p=>(p.1,f p.2))=dput (L.map fun p=>(p.1,f p.2)) n (f b):=by
 unfold dput;have e:(L.map fun p=>(p.1,f p.2)).any (fun p=>decide (p.1=n))=L.any (fun p=>decide (p.1=n)):=by rw [List.any_map];rfl
 rw [e];split
 .rw [Iu,Iu];apply ED;intro p _;show ((if p.1=n then (p.1,b) else p).1,f (if p.1=n then (p.1,b) else p).2)=if p.1=n then (p.1,f b) else (p.1,f p.2);split <;> rfl
 rw [D4];rfl
theorem ddel_map {L:List (N×β)}{n:N}{f:β->γ}:(ddel L n).map (fun p=>(p.1,f p.2))=ddel (L.map fun p=>(p.1,f p.2)) n:=by unfold ddel;rw [Iv];rfl
theorem xU {L:List (N×β)}{n:N}{b:β}:(dput L n b).length<=L.length+1:=by
 unfold dput;split
 .rw [Dg];lia
 rw [Ds];exact Dj _
theorem oP {L:List (N×β)}{n:N}:(ddel L n).length<=L.length:=Ec _ _
end
structure LS (N:Type) where
 slack:Int
 there:List (N×En N)
 stamp:Nat
 row:List (En N)
 looks:Nat
section
variable {N:Type}[DecidableEq N][Inhabited N](sl:N->N->Bool)
def holds (T:List (N×En N))(e:En N):Bool:=decide (dget T e.n=some e)
def enter (s:LS N)(n:N)(w:Int):LS N :=
 { s with there:=dput s.there n ⟨w,n,(s.stamp:Int)⟩,stamp:=s.stamp+1,row:=(up (ltE sl) s.row.length (s.row++[⟨w,n,(s.stamp:Int)⟩]) s.row.length 0).1,looks:=s.looks+(up (ltE sl) s.row.length (s.row++[⟨w,n,(s.stamp:Int)⟩]) s.row.length 0).2 }
def cut (s:LS N):LS N:={ s with row:=(cutf (ltE sl) s.row).1,looks:=s.looks+(cutf (ltE sl) s.row).2 }
def clean:Nat->LS N->LS N
 | 0,s=>s
 | f+1,s=>if holds s.there (g s.row 0) then s else clean f (cut sl s)
def due (s:LS N):Bool:=decide ((s.row.length:Int)-s.there.length>s.there.length)&&decide ((s.row.length:Int)-s.there.length>s.slack)
def swept (s:LS N):LS N:={ s with row:=(mk (ltE sl) ((s.row.filter (holds s.there)).length / 2) (s.row.filter (holds s.there)) 0).1,looks:=s.looks+(mk (ltE sl) ((s.row.filter (holds s.there)).length / 2) (s.row.filter (holds s.there)) 0).2 }
def sweep (s:LS N):LS N:=if due s=true then swept sl s else s
def putL (s:LS N)(n:N)(w:Int):LS N:=sweep sl (enter sl s n w)
def dropT (s:LS N)(n:N):LS N:={ s with there:=ddel s.there n }
def dropL (s:LS N)(n:N):LS N:=sweep sl (dropT s n)
def leastL (s:LS N):LS N:=clean sl s.row.length s
def takeL (s:LS N):LS N:=sweep sl (dropT (cut sl (leastL sl s)) (g (leastL sl s).row 0).n)
def newL (slack:Int):LS N:=⟨slack,[],0,[],0⟩
structure LInv (s:LS N):Prop where
 nd:(s.there.map (·.1)).Nodup
 inr:∀n e,(n,e)∈s.there->e.n=n/\e∈s.row
 st:(s.row.map (·.s)).Nodup
 lts:∀e∈s.row,e.s<(s.stamp:Int)
 hp:IsH (ltE sl) s.row
 len:s.row.length<=s.stamp
 tl:s.there.length<=s.stamp
variable {sl}
theorem new_inv {z:Int}:LInv sl (newL (N:=N) z):=⟨GC,(fun _ _ h=>nomatch h),GC,(fun _ h=>nomatch h),(fun _ _ h=>absurd h (Nat.not_lt_zero _)),Dj _,Dj _⟩
theorem LInv.held {s:LS N}(I:LInv sl s){n:N}{e:En N}(h:(n,e)∈s.there):holds s.there e=true:=by unfold holds;rw [Ed,(I.inr n e h).1];exact dget_of I.nd h
theorem holds_in {T:List (N×En N)}{e:En N}(h:holds T e=true):(e.n,e)∈T:=dget_some (Dp h)
theorem zW {α:Type}[Inhabited α]{xs:List α}{e:α}{k:Nat}(h:k<xs.length):g (xs++[e]) k=g xs k:=by simp only [g,DS,EF h]
theorem w4 {α:Type}[Inhabited α]{lt:α->α->Bool}(o:Od lt){xs:List α}(h:IsH lt xs){e:α}:IsH lt (up lt xs.length (xs++[e]) xs.length 0).1:=by
 have S:(xs++[e]).length=xs.length+1:=by rw [Ds];rfl
 refine gF o (Dj _) Dc (fun k c T O=>?_) (fun k c T O I=>by lia);rw [zW Dc,zW Dc];exact h k c Dc
theorem enter_row_perm {s:LS N}{n:N}{w:Int}:(enter sl s n w).row.Perm (s.row++[⟨w,n,(s.stamp:Int)⟩]):=dJ (by rw [Ds];exact EG _)
theorem enter_inv (o:Slo sl){s:LS N}(I:LInv sl s){n:N}{w:Int}:LInv sl (enter sl s n w) where
 nd:=lT I.nd
 inr:=fun m e h=>by
  have p:=enter_row_perm (sl:=sl) (s:=s) (n:=n) (w:=w);rcases dput_mem h with ⟨rfl,rfl⟩ | ⟨_,h⟩
  .exact ⟨rfl,p.mem_iff.mpr (Du.mpr (.inr (DI.mpr rfl)))⟩
  .obtain ⟨R,S⟩:=I.inr m e h;exact ⟨R,p.mem_iff.mpr (Du.mpr (.inl S))⟩
 st:=by
  have p:=(enter_row_perm (sl:=sl) (s:=s) (n:=n) (w:=w)).map (·.s);refine p.nodup_iff.mpr ?_;rw [D4,EJ];refine ⟨I.st,Ei.mpr ⟨ah,GC⟩,?_⟩;intro a O c T;obtain ⟨e,U,rfl⟩:=DG.mp O;rw [DH,Gf,DI] at T;have:=I.lts e U;subst T;exact Int.ne_of_lt this
 lts:=fun e h=>by
  have p:=enter_row_perm (sl:=sl) (s:=s) (n:=n) (w:=w);rcases Du.mp (p.mem_iff.mp h) with h | h
  .have:=I.lts e h;show e.s<((s.stamp+1:Nat):Int);lia
  .rw [DI] at h;subst h;show (s.stamp:Int)<((s.stamp+1:Nat):Int);lia
 hp:=w4 (od_ltE o) I.hp
 len:=by
  have:=(enter_row_perm (sl:=sl) (s:=s) (n:=n) (w:=w)).length_eq;rw [Ds] at this;have l:=I.len;show _<=s.stamp+1;rw [this];exact E2 l
 tl:=Dq xU (E2 I.tl)
theorem LInv.root {s:LS N}(I:LInv sl s)(o:Slo sl){e:En N}(h:e∈s.row):ltE sl e (g s.row 0)=false:=iU (od_ltE o) I.hp h
theorem cut_inv (o:Slo sl){s:LS N}(I:LInv sl s)(T:0<s.row.length)(O:¬ holds s.there (g s.row 0)=true):LInv sl (cut sl s):=by
 have p:=cS (lt:=ltE sl) T;have sub:∀e∈(cutf (ltE sl) s.row).1,e∈s.row:=fun e c=>p.mem_iff.mp (Dr _ c);refine ⟨I.nd,fun n e h=>?_,?_,fun e c=>I.lts e (sub e c),eU (od_ltE o) I.hp T,?_,I.tl⟩
 .obtain ⟨R,S⟩:=I.inr n e h;refine ⟨R,?_⟩;rcases ax.mp (p.mem_iff.mpr S) with z | z
  .exact absurd (z▸I.held h) O
  .exact z
 .have:=(p.map (·.s)).nodup_iff.mpr I.st;rw [DH,Ei] at this;exact this.2
 show (cutf (ltE sl) s.row).1.length<=s.stamp;rw [cutf_len];have:=I.len;lia
theorem cut_take_inv (o:Slo sl){s:LS N}(I:LInv sl s)(O:0<s.row.length):LInv sl (dropT (cut sl s) (g s.row 0).n):=by
 have p:=cS (lt:=ltE sl) O;have sub:∀e∈(cutf (ltE sl) s.row).1,e∈s.row:=fun e c=>p.mem_iff.mp (Dr _ c);refine ⟨ddel_nd I.nd,fun n e h=>?_,?_,fun e c=>I.lts e (sub e c),eU (od_ltE o) I.hp O,?_,Dq oP I.tl⟩
 .obtain ⟨R,h⟩:=ddel_mem.mp h;obtain ⟨T,S⟩:=I.inr n e h;refine ⟨T,?_⟩;rcases ax.mp (p.mem_iff.mpr S) with z | z
  .exact absurd (T.symm.trans (congrArg (·.n) z)) R
  .exact z
 .have:=(p.map (·.s)).nodup_iff.mpr I.st;rw [DH,Ei] at this;exact this.2
 show (cutf (ltE sl) s.row).1.length<=s.stamp;rw [cutf_len];have:=I.len;lia
theorem drop_inv {s:LS N}(I:LInv sl s){n:N}:LInv sl (dropT s n):=⟨ddel_nd I.nd,fun m e h=>I.inr m e (ddel_mem.mp h).2,I.st,I.lts,I.hp,I.len,Dq oP I.tl⟩
theorem swept_perm {s:LS N}:(swept sl s).row.Perm (s.row.filter (holds s.there)):=mk_perm
theorem vm (o:Slo sl){s:LS N}(I:LInv sl s):LInv sl (swept sl s):=by
 have p:=swept_perm (sl:=sl) (s:=s);have sub:∀e∈(swept sl s).row,e∈s.row:=fun e c=>(D7.mp (p.mem_iff.mp c)).1;refine ⟨I.nd,fun n e h=>?_,?_,fun e c=>I.lts e (sub e c),tN (od_ltE o) yD,?_,I.tl⟩
 .obtain ⟨O,T⟩:=I.inr n e h;exact ⟨O,p.mem_iff.mpr (D7.mpr ⟨T,I.held h⟩)⟩
 .refine (p.map (·.s)).nodup_iff.mpr ?_;exact (Ib _ FA).nodup I.st
 rw [p.length_eq];exact Dq (Ec _ _) I.len
theorem ic (o:Slo sl){s:LS N}(I:LInv sl s):LInv sl (sweep sl s):=by
 unfold sweep;split
 .exact vm o I
 exact I
theorem sweep_there {s:LS N}:(sweep sl s).there=s.there:=by unfold sweep;split <;> rfl
theorem sweep_stamp {s:LS N}:(sweep sl s).stamp=s.stamp:=by unfold sweep;split <;> rfl
structure rT (s s':LS N):Prop where
 inv:LInv sl s'
 there:s'.there=s.there
 stamp:s'.stamp=s.stamp
 slack:s'.slack=s.slack
 pos:0<s'.row.length
 hold:holds s'.there (g s'.row 0)=true
theorem row_pos {s:LS N}(I:LInv sl s)(h:s.there≠[]):0<s.row.length:=by
 cases e:s.there with
 | nil=>exact absurd e h
 | cons p r=>exact Ih (I.inr p.1 p.2 (by rw [e];exact DO)).2
theorem nW (o:Slo sl):∀{f:Nat} {s:LS N},LInv sl s->s.there≠[]->s.row.length<=f->rT (sl:=sl) s (clean sl f s)
 | 0,s,I,h,hf=>absurd (row_pos I h) Dc
 | f+1,s,I,h,hf=>by
  unfold clean;have T:=row_pos I h;split
  .rename_i hh;exact ⟨I,rfl,rfl,rfl,T,hh⟩
  .rename_i hh;have c:=nW o (f:=f) (cut_inv o I T hh) h (by show (cutf (ltE sl) s.row).1.length<=f;rw [cutf_len];lia);exact ⟨c.inv,c.there,c.stamp,c.slack,c.pos,c.hold⟩
theorem least_ok (o:Slo sl){s:LS N}(I:LInv sl s)(h:s.there≠[]):rT (sl:=sl) s (leastL sl s):=nW o I h (Dj _)
theorem kG:∀{f:Nat} {s:LS N},(clean sl f s).row.length<=s.row.length
 | 0,s=>Dj _
 | f+1,s=>by
  unfold clean;split
  .exact Dj _
  .refine Dq kG ?_;show (cutf (ltE sl) s.row).1.length<=_;rw [cutf_len];lia
theorem least_len {s:LS N}:(leastL sl s).row.length<=s.row.length:=kG
theorem put_inv (o:Slo sl){s:LS N}(I:LInv sl s){n:N}{w:Int}:LInv sl (putL sl s n w):=ic o (enter_inv o I)
theorem dropL_inv (o:Slo sl){s:LS N}(I:LInv sl s){n:N}:LInv sl (dropL sl s n):=ic o (drop_inv I)
theorem take_inv (o:Slo sl){s:LS N}(I:LInv sl s)(h:s.there≠[]):LInv sl (takeL sl s):=ic o (cut_take_inv o (least_ok o I h).inv (least_ok o I h).pos)
structure Cd (T:List (N×En N))(e:En N):Prop where
 mem:(e.n,e)∈T
 le:∀n e',(n,e')∈T->ltE sl e' e=false
theorem least_is (o:Slo sl){s:LS N}(I:LInv sl s)(h:s.there≠[]):Cd (sl:=sl) s.there (g (leastL sl s).row 0):=by have c:=least_ok o I h;refine ⟨by have:=holds_in c.hold;rw [c.there] at this;exact this,fun n T h'=>?_⟩;exact c.inv.root o (c.inv.inr n T (by rw [c.there];exact h')).2
theorem take_there {s:LS N}:(takeL sl s).there=ddel (leastL sl s).there (g (leastL sl s).row 0).n:=sweep_there
end
end Gm
namespace L2
open PySem
instance:Inhabited Str:=⟨""⟩
abbrev En:=Gm.En Str
abbrev LS:=Gm.LS Str
def enV (e:En):List V:=[.int e.w,.str e.n,.int e.s]
theorem p6 (e:En):eI (enV e):=⟨_,_,_,rfl⟩
def yB:List V->En
 | [.int w,.str n,.int s]=>⟨w,n,s⟩
 | _=>⟨0,"",0⟩
theorem A7 (e:En):yB (enV e)=e:=rfl
theorem pB (h:eI l):enV (yB l)=l:=by obtain ⟨i,n,j,rfl⟩:=h;rfl
theorem ma {a b:En}(h:enV a=enV b):a=b:=by have:=congrArg yB h;exact this
abbrev lE:En->En->Bool:=Gm.ltE slt
theorem slt_slo:Gm.Slo slt where
 irr:=fun a=>DF (List.lt_irrefl _)
 tr:=fun a b c O T=>Dk (List.lt_trans (Dp O) (Dp T))
 tot:=fun a b h=>by
  by_cases O:a.cps.toList<b.cps.toList
  .exact .inl (Dk O)
  .by_cases T:b.cps.toList<a.cps.toList
   .exact .inr (Dk T)
   .exact absurd (cF (List.le_antisymm (IS.mp T) (IS.mp O))) h
theorem mf (a b:En):bw (enV a) (enV b)=lE a b:=by
 unfold enV;rw [aP,aP,aP];show _=Gm.ltE slt a b;unfold Gm.ltE;by_cases h:a.w=b.w
 .rw [Dm (by rw [h]),Dm h];by_cases c:a.n=b.n
  .rw [Dm (by rw [c]),Dm c];by_cases T:a.s=b.s
   .rw [Dm (by rw [T])];show false=_;rw [T];exact (DF (Int.lt_irrefl _)).symm
   .rw [Di (fun z=>T (V.int.inj z))];rfl
  .rw [Di (fun z=>c (V.str.inj z)),Di c];rfl
 rw [Di (fun z=>h (V.int.inj z)),Di h];rfl
def tE (H:Hp)(x:V):En:=yB (bZ H x)
theorem Bf (H:Hp):tE H .non=default:=rfl
theorem qo (H:Hp)(x y:V):ltT (bZ H) x y=lE (tE H x) (tE H y):=by rw [<-mf];unfold tE ltT;rw [pB (gh H x),pB (gh H y)]
theorem wy {e:En}(h:H a=some (.tup (enV e))):tE H (.ref a)=e:=by unfold tE;rw [yt h (p6 e),A7]
structure RR (H:Hp)(xs:List V)(es:List En):Prop where
 mem:∀x∈xs,∃ a,x=.ref a/\H a=some (.tup (enV (tE H x)))
 eq:xs.map (tE H)=es
section
variable {H H':Hp}{xs ys:List V}{es fs:List En}
theorem RR.en (r:RR H xs es):EnR (bZ H) H xs:=⟨gh H,fun x c=>by
 obtain ⟨a,rfl,h⟩:=r.mem x c;exact ⟨a,rfl,by rw [<-pB (gh H (.ref a))];exact h⟩⟩
theorem RR.len (r:RR H xs es):xs.length=es.length:=by rw [<-r.eq,Dg]
theorem RR.stay (r:RR H xs es)(k:∀b l,H b=some (.tup l)->H' b=some (.tup l)):RR H' xs es:=by
 have e:∀x∈xs,tE H' x=tE H x:=fun x c=>by obtain ⟨a,rfl,h⟩:=r.mem x c;exact wy (k _ _ h)
 refine ⟨fun x c=>?_,?_⟩
 .obtain ⟨a,rfl,h⟩:=r.mem x c;exact ⟨a,rfl,by rw [e _ c];exact k _ _ h⟩
 rw [<-r.eq];exact ED e
theorem RR.nil:RR H [] []:=⟨(fun _ h=>nomatch h),rfl⟩
theorem RR.sub (r:RR H xs es)(s:∀y∈ys,y∈xs):RR H ys (ys.map (tE H)):=⟨fun x c=>r.mem x (s x c),rfl⟩
theorem RR.snoc (r:RR H xs es){e:En}(h:H a=some (.tup (enV e))):RR H (xs++[.ref a]) (es++[e]):=by
 refine ⟨fun x c=>?_,?_⟩
 .rcases Du.mp c with z | z
  .exact r.mem x z
  .rw [De z];exact ⟨a,rfl,by rw [wy h];exact h⟩
 rw [D4,r.eq];show es++[tE H (.ref a)]=_;rw [wy h]
theorem RR.at (r:RR H xs es)(hi:i<es.length):∃ a,Hm.g xs i=.ref a/\H a=some (.tup (enV (Hg.g es i)))/\atI xs (i:Int)=some (.ref a):=by
 have c:i<xs.length:=by rw [r.len];exact hi
 have m:Hm.g xs i∈xs:=by rw [Hm.g_get c];exact Ee c
 obtain ⟨a,T,h⟩:=r.mem _ m;have O:Hg.g es i=tE H (Hm.g xs i):=by rw [Hg.g_get hi,Hm.g_get c];have:=r.eq;subst this;rw [List.getElem_map]
 refine ⟨a,T,by rw [O];exact h,?_⟩;rw [<-T];exact hU c
end
section
variable {H:Hp}{xs:List V}
theorem gM (i:Nat):Hg.g (xs.map (tE H)) i=tE H (Hm.g xs i):=by
 unfold Hg.g Hm.g;rw [DS,DS,DN];cases xs[i]? with
 | none=>exact (Bf H).symm
 | some x=>rfl
theorem xa (i j:Nat):Hg.sw (xs.map (tE H)) i j=(Hm.sw xs i j).map (tE H):=by unfold Hg.sw Hm.sw;rw [gM,gM,Jb,Jb]
theorem y7 (p:Nat):Hg.les lE (xs.map (tE H)) p=Hm.les (ltT (bZ H)) xs p:=by unfold Hg.les Hm.les;rw [gM,gM,Dg,qo]
theorem qh:∀{f:Nat} {xs:List V} {p lk:Nat},Hg.dn lE f (xs.map (tE H)) p lk=((Hm.dn (ltT (bZ H)) f xs p lk).1.map (tE H),(Hm.dn (ltT (bZ H)) f xs p lk).2)
 | 0,xs,p,lk=>rfl
 | f+1,xs,p,lk=>by
  unfold Hg.dn Hm.dn;rw [y7,Dg,gM,gM,qo,xa];have kd:Hg.kids xs.length p=Hm.kids xs.length p:=rfl;rw [kd];split
  .split
   .exact qh
   .rfl
  .rfl
theorem qE:∀{f:Nat} {xs:List V} {p lk:Nat},Hg.up lE f (xs.map (tE H)) p lk=((Hm.up (ltT (bZ H)) f xs p lk).1.map (tE H),(Hm.up (ltT (bZ H)) f xs p lk).2)
 | 0,xs,p,lk=>rfl
 | f+1,xs,p,lk=>by
  unfold Hg.up Hm.up;rw [gM,gM,qo,xa];split
  .split
   .exact qE
   .rfl
  .rfl
theorem qq:∀{k:Nat} {xs:List V} {lk:Nat},Hg.mk lE k (xs.map (tE H)) lk=((Hm.mk (ltT (bZ H)) k xs lk).1.map (tE H),(Hm.mk (ltT (bZ H)) k xs lk).2)
 | 0,xs,lk=>rfl
 | k+1,xs,lk=>by unfold Hg.mk Hm.mk;rw [Dg,qh];exact qq
theorem tR:Hg.cutf lE (xs.map (tE H))=((Hm.cutf (ltT (bZ H)) xs).1.map (tE H),(Hm.cutf (ltT (bZ H)) xs).2):=by
 unfold Hg.cutf Hm.cutf;rw [gM,Dg,<-List.map_dropLast,<-Jb,Dg,qh];by_cases h:xs.dropLast=[]
 .rw [Dm h,Dm (by rw [h];rfl)];rfl
 rw [Di h,Di (fun z=>h (IU.mp z))]
end
def Kept (F:List Addr)(H H':Hp):Prop:=∀b o,H b=some o->b∉F->H' b=some o
section
variable {F G:List Addr}{H H1 H2:Hp}
theorem Kept.refl:Kept F H H:=fun _ _ h _=>h
theorem Kept.trans (a:Kept F H H1)(b:Kept F H1 H2):Kept F H H2:=fun x o h n=>b x o (a x o h n) n
theorem Kept.mono (a:Kept F H H1)(s:∀b∈F,b∈G):Kept G H H1:=fun x o h n=>a x o h fun z=>n (s x z)
theorem Kept.of_same (s:Same H H1):Kept F H H1:=fun b o h _=>s b o h
theorem Kept.new (k:Kept F H H1)(h:H1 p=none):Kept F H (upd H1 p o):=fun b u e n=>by have:=k b u e n;rw [af (am this h)];exact this
theorem Kept.newer (k:Kept F H H1)(h:H p=none):Kept F H (upd H1 p o):=fun b u e n=>by rw [af (am e h)];exact k b u e n
theorem Kept.put (k:Kept F H H1)(h:p∈F):Kept F H (upd H1 p o):=fun b u e n=>by rw [af (fun z=>by subst z;exact n h)];exact k b u e n
theorem Kept.none (k:Kept F H H1){b:Addr}(h:H1 b=none)(c:b∉F):H b=none:=by
 cases q:H b with
 | none=>rfl
 | some o=>have:=k b o q c;rw [h] at this;cases this
theorem Kept.tups (k:Kept F H H1)(c:∀b∈F,∀xs,H b≠some (.tup xs)):∀b l,H b=some (.tup l)->H1 b=some (.tup l):=fun b l h=>k b _ h fun z=>c b z l h
end
def KR (H:Hp)(ks:List (Key×V))(T:List (Str×En)):Prop:=Paired (fun (kv:Key×V) (ne:Str×En)=>kv.1=Sum.inr ne.1/\∃ a,kv.2=.ref a/\H a=some (.tup (enV ne.2))) ks T
section
variable {H H':Hp}{ks:List (Key×V)}{T:List (Str×En)}
theorem KR.nil:KR H [] []:=Paired.nil
theorem KR.len (r:KR H ks T):ks.length=T.length:=EY r
theorem KR.stay (r:KR H ks T)(k:∀b l,H b=some (.tup l)->H' b=some (.tup l)):KR H' ks T:=Paired.mapP r fun p q ⟨a,b,c,d⟩=>⟨a,b,c,k _ _ d⟩
theorem KR.keys (r:KR H ks T):ks.map (·.1)=(T.map (·.1)).map Sum.inr:=by
 induction r with
 | nil=>rfl
 | cons h _ ih=>rw [DH,DH,DH,ih,h.1]
theorem lM {a b:Str}(h:¬ a=b):¬ (Sum.inr a:Key)=Sum.inr b:=fun z=>h (Eb z)
theorem KR.get (r:KR H ks T)(n:Str):(aU ks (Sum.inr n)=none/\Gm.dget T n=none)∨∃ a e,aU ks (Sum.inr n)=some (.ref a)/\Gm.dget T n=some e/\H a=some (.tup (enV e)):=by
 induction r with
 | nil=>exact .inl ⟨rfl,rfl⟩
 | @cons p q l l' h _ ih =>
  obtain ⟨c,a,S,R⟩:=h;by_cases e:q.1=n
  .refine .inr ⟨a,q.2,?_,?_,R⟩
   .rw [bF (by rw [c,e]),S]
   .unfold Gm.dget;rw [EM,Dk e];rfl
  .have I:aU (p::l) (Sum.inr n)=aU l (Sum.inr n):=bE (by rw [c];exact lM e);have O:Gm.dget (q::l') n=Gm.dget l' n:=by unfold Gm.dget;rw [EM,DF e]
   rw [I,O];exact ih
theorem KR.put (r:KR H ks T){n:Str}{e:En}(h:H a=some (.tup (enV e))):KR H (aQ ks (Sum.inr n) (.ref a)) (Gm.dput T n e):=by
 have I:(ks.any fun c=>decide (c.1=Sum.inr n))=T.any fun p=>decide (p.1=n):=by
  induction r with
  | nil=>rfl
  | @cons p q l l' hh _ ih =>
   rw [GR,GR,ih,hh.1];congr 1;by_cases z:q.1=n
   .rw [Dk z,Dk (by rw [z])]
   .rw [DF z,DF (lM z)]
 have S:KR H (ks.map fun c=>if c.1=Sum.inr n then (c.1,V.ref a) else c) (T.map fun p=>if p.1=n then (p.1,e) else p):=by
  clear I
  induction r with
  | nil=>exact .nil
  | @cons p q l l' hh _ ih =>
   rw [DH,DH];refine .cons ?_ ih;obtain ⟨O,b,R,M⟩:=hh;by_cases z:q.1=n
   .rw [Dm z,Dm (by rw [O,z])];exact ⟨O,a,rfl,h⟩
   .rw [Di z,Di (by rw [O];exact lM z)];exact ⟨O,b,R,M⟩
 have U:KR H (ks++[(Sum.inr n,V.ref a)]) (T++[(n,e)]):=by
  clear I S
  induction r with
  | nil=>exact .cons ⟨rfl,a,rfl,h⟩ .nil
  | cons hh _ ih=>exact .cons hh ih
 unfold aQ Gm.dput;rw [I];split
 .exact S
 exact U
theorem KR.drop (r:KR H ks T)(n:Str):KR H (cr ks (Sum.inr n)) (Gm.ddel T n):=by
 unfold Gm.ddel cr
 induction r with
 | nil=>exact .nil
 | @cons p q l l' hh _ ih =>
  rw [D5,D5];by_cases z:q.1=n
  .rw [Di (by rw [hh.1,z];simp),Di (by simp [z])];exact ih
  .rw [Dm (by rw [hh.1];exact Dk (lM z)),Dm (by simp [z])];exact .cons hh ih
end
inductive Deed where
 | put (n:Str) (w:Int) | drop (n:Str) | change (n:Str) (w:Int) | take | least
inductive Ans where
 | non | clash | nothing | pair (w:Int) (n:Str)
def Deed.v:Deed->List V
 | .put n w=>[.str "put",.str n,.int w]
 | .drop n=>[.str "drop",.str n]
 | .change n w=>[.str "change",.str n,.int w]
 | .take=>[.str "take"]
 | .least=>[.str "least"]
def Deed.ok:Deed->Prop
 | .put n _=>n.length<=10
 | .drop n=>n.length<=10
 | .change n _=>n.length<=10
 | _=>True
def uT (H:Hp):Ans->V->Prop
 | .non,v=>v=.non
 | .clash,v=>v=.str "clash"
 | .nothing,v=>v=.str "nothing"
 | .pair w n,v=>∃ a,v=.ref a/\H a=some (.tup [.int w,.str n])
def hd (s:LS):En:=Hg.g (Gm.leastL slt s).row 0
def ay (s:LS):Deed->LS×Ans
 | .put n w=>if (Gm.dget s.there n).isSome=true then (s,.clash) else (Gm.putL slt s n w,.non)
 | .drop n=>if (Gm.dget s.there n).isSome=true then (Gm.dropL slt s n,.non) else (s,.nothing)
 | .change n w=>if (Gm.dget s.there n).isSome=true then (Gm.putL slt s n w,.non) else (s,.nothing)
 | .take=>if s.there=[] then (s,.nothing) else (Gm.takeL slt s,.pair (hd s).w (hd s).n)
 | .least=>if s.there=[] then (s,.nothing) else (Gm.leastL slt s,.pair (hd s).w (hd s).n)
theorem xA {s:LS}(I:Gm.LInv slt s)(d:Deed):Gm.LInv slt (ay s d).1:=by
 cases d with
 | put n w=>unfold ay;dsimp only;split;exact I;exact Gm.put_inv slt_slo I
 | drop n=>unfold ay;dsimp only;split;exact Gm.dropL_inv slt_slo I;exact I
 | change n w=>unfold ay;dsimp only;split;exact Gm.put_inv slt_slo I;exact I
 | take=>unfold ay;dsimp only;split;exact I;rename_i h;exact Gm.take_inv slt_slo I h
 | least=>unfold ay;dsimp only;split;exact I;rename_i h;exact (Gm.least_ok slt_slo I h).inv
theorem rg {s:LS}(I:Gm.LInv slt s)(d:Deed):(ay s d).1.stamp<=s.stamp+1:=by
 cases d with
 | put n w =>
  unfold ay;dsimp only;split
  .exact ET _
  .show (Gm.sweep slt _).stamp<=_;rw [Gm.sweep_stamp];exact Dj _
 | drop n =>
  unfold ay;dsimp only;split
  .show (Gm.sweep slt _).stamp<=_;rw [Gm.sweep_stamp];exact ET _
  .exact ET _
 | change n w =>
  unfold ay;dsimp only;split
  .show (Gm.sweep slt _).stamp<=_;rw [Gm.sweep_stamp];exact Dj _
  .exact ET _
 | take =>
  unfold ay;dsimp only;split
  .exact ET _
  .rename_i h;show (Gm.sweep slt _).stamp<=_;rw [Gm.sweep_stamp];show (Gm.leastL slt s).stamp<=_;rw [(Gm.least_ok slt_slo I h).stamp];exact ET _
 | least =>
  unfold ay;dsimp only;split
  .exact ET _
  .rename_i h;rw [(Gm.least_ok slt_slo I h).stamp];exact ET _
abbrev Tb:=List (Str×Int)
def thW (T:List (Str×En)):Tb:=T.map fun p=>(p.1,p.2.w)
theorem tO {T:List (Str×En)}{n:Str}{e:En}:thW (Gm.dput T n e)=Gm.dput (thW T) n e.w:=Gm.dput_map
theorem sP {T:List (Str×En)}{n:Str}:thW (Gm.ddel T n)=Gm.ddel (thW T) n:=Gm.ddel_map
def AK (t:Tb):Deed->Ans->Tb
 | .put n w,.non=>Gm.dput t n w
 | .drop n,.non=>Gm.ddel t n
 | .change n w,.non=>Gm.dput t n w
 | .take,.pair _ n=>Gm.ddel t n
 | _,_=>t
theorem jC {s:LS}(I:Gm.LInv slt s)(d:Deed):thW (ay s d).1.there=AK (thW s.there) d (ay s d).2:=by
 cases d with
 | put n w =>
  unfold ay;dsimp only;split
  .rfl
  .show thW (Gm.sweep slt _).there=_;rw [Gm.sweep_there];exact tO
 | drop n =>
  unfold ay;dsimp only;split
  .show thW (Gm.sweep slt _).there=_;rw [Gm.sweep_there];exact sP
  .rfl
 | change n w =>
  unfold ay;dsimp only;split
  .show thW (Gm.sweep slt _).there=_;rw [Gm.sweep_there];exact tO
  .rfl
 | take =>
  unfold ay;dsimp only;split
  .rfl
  .rename_i h;rw [Gm.take_there,(Gm.least_ok slt_slo I h).there];exact sP
 | least =>
  unfold ay;dsimp only;split
  .rfl
  .rename_i h;rw [(Gm.least_ok slt_slo I h).there];rfl
structure Az (t:Tb)(w:Int)(n:Str):Prop where
 mem:(n,w)∈t
 le:∀m v,(m,v)∈t->ltP (v,m) (w,n)=false
theorem lZ {a b:Int×Str}:ltP a b=true↔a.1<b.1∨(a.1=b.1/\slt a.2 b.2=true):=by
 unfold ltP prV;rw [aP,aP];by_cases h:a.1=b.1
 .rw [Dm (by rw [h])];by_cases c:a.2=b.2
  .rw [Dm (by rw [c])];constructor
   .intro z;cases z
   .rintro (z | ⟨_,z⟩)
    .lia
    .rw [c,slt_slo.irr] at z;cases z
  .rw [Di (fun z=>c (V.str.inj z))];constructor
   .intro z;exact .inr ⟨h,z⟩
   .rintro (z | ⟨_,z⟩)
    .lia
    .exact z
 rw [Di (fun z=>h (V.int.inj z))];constructor
 .intro z;exact .inl (Dp z)
 rintro (z | ⟨z,_⟩)
 .exact Dk z
 exact absurd z h
theorem m7 {s:LS}(I:Gm.LInv slt s)(h:s.there≠[]):Az (thW s.there) (hd s).w (hd s).n:=by
 have l:=Gm.least_is slt_slo I h;refine ⟨DG.mpr ⟨_,l.mem,rfl⟩,fun m v U=>?_⟩;obtain ⟨⟨T,e⟩,O,M⟩:=DG.mp U;cases M;have q:=l.le T e O;cases z:ltP (e.w,T) ((hd s).w,(hd s).n) with
 | false=>rfl
 | true =>
  have en:=(I.inr T e O).1;rw [lZ] at z;have:Gm.ltE slt e (hd s)=true:=Gm.ltE_iff.mpr (by
   rcases z with z | ⟨R,c⟩
   .exact .inl z
   .refine .inr ⟨R,.inl ⟨fun y=>?_,by rw [en];exact c⟩⟩;dsimp only at c;rw [<-en,y,slt_slo.irr] at c;cases c)
  have S:Gm.ltE slt e (hd s)=false:=q;rw [S] at this;cases this
theorem pF {a b ks:List Str}(c:a.Perm ks)(S:b.Perm ks)(I:a.Pairwise fun x y=>slt y x=false)(R:b.Pairwise fun x y=>slt y x=false):a=b:=by
 refine Ho (le:=fun x y=>slt y x=false) (fun x y _ _ O T=>?_) I R (c.trans S.symm);by_cases z:x=y
 .exact z
 rcases slt_slo.tot _ _ z with q | q
 .rw [T] at q;cases q
 rw [O] at q;cases q
end L2
variable {dd:L2.Deed}{es:List L2.En}{s':L2.LS}
namespace L2
open PySem PySem.Spec PyProof.Rows
section
variable {P:Program}{w:World}{K:W.Frag}{mg:Str->Option Value}{base:Heap}
theorem Fun.okQ {k:Nat}(F:Fun K x qual st f fd)(S:av N ps (ak st))(T:∀(c:Value) (A:Around) (outer:List Env) (s:Shared) (H:Hp) (vs:List V) (Q:VK) (E:XK),Room k (A.deeper (envOfC qual (ak st) s.heap.objs.size f c))->sp vs H Q E ->
   ∃ t,QSs (bM CX0 P w K mg base N qual (ak st) f c A outer s H E).nox (bz st) t/\t { nx:=fun _ H'=>Q .non H',rt:=Q } (start N vs) H)(len:autoParam (∀vs H Q E,sp vs H Q E->vs.length=ps.length) aae):au P w K mg base CX0 (k+1) f fd ps sp :=
 F.ok S (fun c A outer s H vs Q E O h=>let ⟨t,a,b⟩:=T c A outer s H vs Q E O h;⟨t,a.to,b⟩) len
end
theorem pA {o:Obj}{R:Hp->Prop}(c:Nat->List V->Hp->Prop)(U:c 0 [] (upd H D (.lst [])))(I:∀i ys H,c i ys H->H D=some (.lst ys)/\H d=some (.frz o (.dK kvs)))(S:∀i k v ys H,kvs[i]?=some (k,v)->c i ys H->tt (some (kV k)::bR cap Z) H fun b T =>
   if b=true then te (some (kV k)::bR cap Z) T fun v O=>O D=some (.lst ys)/\ys.length<sizeLine/\∃ m',m'<kvs.length-i/\m'=kvs.length-(i+1)/\i+1<=kvs.length/\c (i+1) (ys++[v]) (upd O D (.lst (ys++[v])))
   else ∃ m',m'<kvs.length-i/\m'=kvs.length-(i+1)/\i+1<=kvs.length/\c (i+1) ys T)(hd:∀ys H,c kvs.length ys H->R H):
  CW (Itk d o kvs) tt te cap Z H D R:=vn (Q:=fun _ H=>R H) c U I S hd
section
variable {X:Cx}
def CM (c:TT)(t u:TS):TS:=fun D Z H=>∃ J:St->Hp->Prop,(c Z H fun b H1=>if b=true then t { D with nx:=J } Z H1 else u { D with nx:=J } Z H1)/\∀σ' H',J σ' H'->D.nx σ' H'
theorem ms {c:Expr}{a b:List Stmt}{R:TT}{t u:TS}(O:QT X c R)(T:QSs X a t)(S:QSs X b u):QS X (.If c a b pos) (CM R t u):=.mk (by
 have O:=O.to;have T:=T.to;have S:=S.to;intro pins s Z H D I ⟨J,h,j⟩;refine thn (zP O T S pins s Z H { D with nx:=J } I h) fun f s' q=>?_;cases f with
 | next=>obtain ⟨M,H',U,z⟩:=q;exact ⟨M,H',U,j _ _ z⟩
 | ret v=>exact q
 | brk=>exact q
 | cont=>exact q)
theorem AV {P:Program}{k:Key}{t:Tok}:(mixKind P w).is k (.str x t)=decide (k=Sum.inr x):=by
 by_cases h:k=Sum.inr x
 .rw [h,dm,Dk rfl]
 rw [DF h];cases e:(mixKind P w).is k (.str x t) with
 | false=>rfl
 | true=>exact absurd ((mixKind P w).inj _ _ _ e (dm P w x t)) h
end
end L2
namespace L2
open PySem PySem.W PySem.Spec PyProof.Rows
theorem dq {P:Program}:cM (CXe P w) X E0:=fun _ _ _ _ _ _ _ h=>by obtain ⟨_,_,_,_,_,_,_,_,_,_,_,z⟩:=h;exact z.elim
end L2
namespace L2
open PySem PySem.W PySem.Spec PySem.Calls PyProof.Rows
theorem uu {R:Hp->Prop}(c:Nat->List V->Hp->Prop)(W:c 0 [] (upd H D (.lst [])))(U:∀i ys H,c i ys H->H D=some (.lst ys)/\SqT K H a xs)(M:∀i x ys H,xs[i]?=some x->c i ys H->tt (some x::bR cap Z) H fun b O =>
   if b=true then te (some x::bR cap Z) O fun v I=>I D=some (.lst ys)/\ys.length<sizeLine/\∃ m',m'<xs.length-i/\m'=xs.length-(i+1)/\i+1<=xs.length/\c (i+1) (ys++[v]) (upd I D (.lst (ys++[v])))
   else ∃ m',m'<xs.length-i/\m'=xs.length-(i+1)/\i+1<=xs.length/\c (i+1) ys O)(hd:∀ys H,c xs.length ys H->R H):
  CW (Itt K a) tt te cap Z H D R:=by
 refine ⟨fun i m ys H=>m=xs.length-i/\i<=xs.length/\c i ys H,⟨xs.length,Dd,D6 _,W⟩,?_⟩;rintro i m ys H ⟨rfl,hi,p⟩;obtain ⟨S,q⟩:=U i ys H p;refine ⟨S,?_⟩;by_cases T:i<xs.length
 .refine .inr ⟨⟨xs,xs[i],q,by simp [T]⟩,fun x H' y=>?_⟩;obtain ⟨e,y⟩:=y;subst e;exact M i x ys _ (y xs q) p
 have e:i=xs.length:=by lia
 subst e;exact .inl ⟨⟨xs,q,Dj _⟩,hd ys H p⟩
end L2
namespace L2
open PySem PySem.Spec PyProof.Rows
theorem ii {lo:Int}{R:Hp->Prop}(c:Nat->List V->Hp->Prop)(U:c 0 [] (upd H D (.lst [])))(I:∀i ys H,c i ys H->H D=some (.lst ys))(S:∀i ys H,i<n->c i ys H->tt (some (.int (lo+i))::bR cap Z) H fun b T =>
   if b=true then te (some (.int (lo+i))::bR cap Z) T fun v O=>O D=some (.lst ys)/\ys.length<sizeLine/\∃ m',m'<n-i/\m'=n-(i+1)/\i+1<=n/\c (i+1) (ys++[v]) (upd O D (.lst (ys++[v])))
   else ∃ m',m'<n-i/\m'=n-(i+1)/\i+1<=n/\c (i+1) ys T)(hd:∀ys H,c n ys H->R H):
  CW (Itr lo n) tt te cap Z H D R:=pw (Q:=fun _ H=>R H) c U I S hd
structure Blk2 (X:Cx)(scope:Scope)(cl:List (Str×Addr))(x x2:Str)(NB:List Str)(cap:List Nat):Prop where
 b:Blk X scope cl x NB cap
 own2:scope.names.lookup x2=some .local
 nd:(x::x2::NB).Nodup
def CW2 (K:PySem.W.Frag)(J:It)(tt:TT)(te:TE)(cap:List Nat)(Z:St)(H0:Hp)(D:Addr)(R:Hp->Prop):Prop:=∃ W:Nat->Nat->List V->Hp->Prop,(∃ m,W 0 m [] (upd H0 D (.lst [])))/\∀i m ys H,W i m ys H->H D=some (.lst ys) /\
  ((J.stop i H/\R H)∨(J.go i H/\∀x H',J.yld i H x H'->∃ a v1 v2,x=.ref a/\SqT K H' a [v1,v2]/\tt (some v1::some v2::bR cap Z) H' fun b H3 =>
   if b=true then te (some v1::some v2::bR cap Z) H3 fun v H4=>H4 D=some (.lst ys)/\ys.length<sizeLine/\∃ m',m'<m/\W (i+1) m' (ys++[v]) (upd H4 D (.lst (ys++[v])))
   else ∃ m',m'<m/\W (i+1) m' ys H3))
def xP (K:W.Frag)(wi:TI)(tt:TT)(te:TE)(cap:List Nat):TE:=fun Z H Q=>wi Z H fun J H1=>∀D,H1 D=none ->
 CW2 K J tt te cap Z H1 D (fun H=>Q (.ref D) H)
theorem qT {c:Str}{S pt:Pos}{kt:Nat}{cl:List (Str×Addr)}{Q:VK}{R:Value->Shared->Prop}(B:Blk2 X scope cl x c NB cap)(P:X.calm=true)(F:X.ex=[])(hi:PI X (.Tuple [.Name x px,.Name c S] kt pt) iter wi)(ht:∀C fp T O,PTs (X.blk scope cl C (x::c::NB) fp T O) ifs tt)(he:∀C fp T O,PE (X.blk scope cl C (x::c::NB) fp T O) elt te)(hs:∀v,foldedSetIterable iter X.env v=pure v)(I:Inv X pins Z H s)(h:xP X.K wi tt te cap Z H Q)(G:∀(D C:Addr) (H':Hp) (s':Shared),Inv X pins Z H' s'->Bb X pins H' C s'->Q (.ref D) H'->compPost (model X.prog X.w) X.A X.xe use R (.ref D) C (.ok .next) s'):
  wpAny (model X.prog X.w) X.A (comprehension (.ListComp elt [⟨(.Tuple [.Name x px,.Name c S] kt pt),iter,ifs,0⟩] scope pos) scope X.env pos' (newList []) false (eval iter X.env) use) R X.xe s:=by
 refine jz (ns:=[x,c]) (gt:=AE X.K 2 (sj (iY 0) (sj (iY 1) Ba))) B.b.c P F hi (fun C fp T O=>vq (X:=X.blk scope cl C (x::c::NB) fp T O) P (jh (iH (i:=0) B.nd rfl (.inl (E3 B.b.own)) (.inr (E3 B.b.own))) (jh (iH (i:=1) B.nd rfl (.inl (E3 B.own2)) (.inr (E3 B.own2))) rV))) ht he hs I h (fun J H1 a D hD=>?_) G;obtain ⟨W,w0,st⟩:=a D hD;refine ⟨W,w0,fun i m ys H' w=>⟨(st i m ys H' w).1,(st i m ys H' w).2.imp id fun z=>⟨z.1,fun x Y y=>?_⟩⟩⟩;obtain ⟨ta,v1,M,rfl,U,step⟩:=z.2 x Y y;exact ⟨ta,[v1,M],rfl,U,rfl,v1,[M],rfl,M,[],rfl,rfl,[some v1,some M],rfl,rfl,rfl,step⟩
theorem Blk2.of {esc:Scope}{T:Str}(I:X.N=N)(U:X.env.scope=esc)(W:∀y,esc.names.lookup y=some .cell->∃ c,X.env.cells.lookup y=some c)(hk:scope.kind=.function)(M:∀y∈scope.names,y.2≠.cell)(R:∀y∈scope.names,y.2=.local->scope.names.lookup y.1=some .local)(Y:∀y∈scope.names,y.2=.free->esc.names.lookup y.1=some .cell)(P:cap.length=NB.length)(F:∀p∈NB.zip cap,N[p.2]?=some p.1/\esc.names.lookup p.1=some .cell/\scope.names.lookup p.1=some .free)(S:scope.names.lookup x=some .local)(G:scope.names.lookup T=some .local)(O:(x::T::NB).Nodup):
  Blk2 X scope (yL scope X.env) x T NB cap:=by
 exact ⟨Blk.of I U W hk M R Y P F S (O.sublist (.cons₂ _ (List.sublist_cons_self ..))),G,O⟩
theorem wu {S:Str}{O pt:Pos}{kt:Nat}{cl:List (Str×Addr)}(B:Blk2 X scope cl x S NB cap)(hc:X.calm=true)(W:X.ex=[])(hi:QI X (.Tuple [.Name x px,.Name S O] kt pt) iter wi)(U:∀C fp c T,QTs (X.blk scope cl C (x::S::NB) fp c T) ifs tt)(M:∀C fp c T,QE (X.blk scope cl C (x::S::NB) fp c T) elt te)(hs:autoParam (∀v,foldedSetIterable iter X.env v=pure v) aaf):QE X (.ListComp elt [⟨.Tuple [.Name x px,.Name S O] kt pt,iter,ifs,0⟩] scope pos) (xP X.K wi tt te cap):=.mk (by
 have hi:=hi.to;have U:=(fun C fp c T=>(U C fp c T).to);have M:=(fun C fp c T=>(M C fp c T).to);intro pins s Z H Q I h;rw [eval_ListComp];refine qT (use:=none) (R:=EP X pins Z Q) B hc W hi U M hs I h fun D C H' s' I' G q=>?_;obtain ⟨m,hn⟩:=G.ns;obtain ⟨Y,J,f2,P,f4,f5⟩:=G.fp;refine ⟨m,hn,fun h' F=>⟨.ref D,H',?_,rfl,q⟩⟩;exact I'.turned (t':=s'.toks) (fun b o hb e=>(F.2 b hb).trans e) Y J P f4 f5)
end L2
namespace L2
open PySem
theorem oE {R:Hp->Prop}(c:Nat->List V->Hp->Prop)(F:c 0 [] (upd H D (.lst [])))(M:∀i ys H,c i ys H->H D=some (.lst ys)/\SqL K H a xs)(W:∀i x ys H,xs[i]?=some x->c i ys H->∃ b v1 O,x=.ref b/\SqT K H b [v1,O]/\tt (some v1::some O::bR cap Z) H fun b I =>
   if b=true then te (some v1::some O::bR cap Z) I fun v S=>S D=some (.lst ys)/\ys.length<sizeLine/\∃ m',m'<xs.length-i/\m'=xs.length-(i+1)/\i+1<=xs.length/\c (i+1) (ys++[v]) (upd S D (.lst (ys++[v])))
   else ∃ m',m'<xs.length-i/\m'=xs.length-(i+1)/\i+1<=xs.length/\c (i+1) ys I)(hd:∀ys H,c xs.length ys H->R H):
  CW2 K (Itl K a) tt te cap Z H D R:=by
 refine ⟨fun i m ys H=>m=xs.length-i/\i<=xs.length/\c i ys H,⟨xs.length,Dd,D6 _,F⟩,?_⟩;rintro i m ys H ⟨rfl,hi,p⟩;obtain ⟨U,q⟩:=M i ys H p;refine ⟨U,?_⟩;by_cases T:i<xs.length
 .refine .inr ⟨⟨xs,xs[i],q,by simp [T]⟩,fun x H' y=>?_⟩;obtain ⟨e,y⟩:=y;subst e;exact W i x ys _ (y xs q) p
 have e:i=xs.length:=by lia
 subst e;exact .inl ⟨⟨xs,q,Dj _⟩,hd ys H p⟩
end L2
namespace Gm
open Hg
section
variable {N:Type}[DecidableEq N][Inhabited N]{sl:N->N->Bool}
theorem LInv.rnd {s:LS N}(I:LInv sl s):s.row.Nodup:=List.Pairwise.of_map _ (fun _ _ h z=>h (congrArg _ z)) I.st
theorem nodup_len {α:Type}[DecidableEq α]:∀{G R:List α},G.Nodup->(∀e∈G,e∈R)->G.length<=R.length
 | [],R,_,_=>D6 _
 | a::l,R,nd,h=>by rw [Ei] at nd;have T:=nodup_len (R:=R.erase a) nd.2 fun e c=>(IH (fun (z:e=a)=>nd.1 (z▸c))).mpr (h e (Dr _ c));have m:=h a DO;rw [Hq m] at T;have:=Ih m;rw [Dw];lia
theorem LInv.kept {s:LS N}(I:LInv sl s):(s.row.filter (holds s.there)).length=s.there.length:=by
 have O:(s.row.filter (holds s.there)).Nodup:=I.rnd.filter _;have S:(s.there.map (·.2)).Nodup:=by rw [FX,EE];refine Fs (R:=fun a b=>a.1≠b.1) (fun {a b} ha hb h z=>h ?_) (EE.mp I.nd);rw [<-(I.inr a.1 a.2 ha).1,<-(I.inr b.1 b.2 hb).1,z]
 have p:(s.row.filter (holds s.there)).Perm (s.there.map (·.2)):=(Fd O S).mpr fun e=>by
  rw [D7,DG];constructor
  .rintro ⟨c,T⟩;exact ⟨_,holds_in T,rfl⟩
  .rintro ⟨⟨n,U⟩,c,rfl⟩;obtain ⟨T,M⟩:=I.inr n U c;exact ⟨M,I.held c⟩
 rw [p.length_eq,Dg]
theorem uO {s:LS N}(I:LInv sl s):(swept sl s).row.length=s.there.length:=by rw [swept_perm.length_eq];exact I.kept
theorem dget_put {L:List (N×En N)}{n m:N}{b:En N}(T:(L.map (·.1)).Nodup):dget (dput L n b) m=if m=n then some b else dget L m:=by
 by_cases h:m=n
 .subst h;rw [Dm rfl];exact dget_of (lT T) uM
 rw [Di h];cases e:dget L m with
 | none =>
  rw [dget_none] at e ⊢;intro z;obtain ⟨⟨S,c⟩,I,O⟩:=DG.mp z;cases O;rcases dput_mem I with ⟨q,_⟩ | ⟨_,q⟩
  .exact h q
  .exact e (DG.mpr ⟨_,q,rfl⟩)
 | some c=>exact dget_of (lT T) (zF (dget_some e) h)
end
end Gm
namespace L2
open PySem
theorem uJ {α β:Type}{F:α->β->Prop}{l:List α}{c:List β}(r:Paired F l c):∀{i:Nat} {a:α},l[i]?=some a->∃ b,c[i]?=some b/\F a b:=by
 induction r with
 | nil=>intro i a h;cases h
 | @cons x y l c h _ ih =>
  intro i a e;cases i with
  | zero=>cases e;exact ⟨y,rfl,h⟩
  | succ i=>exact ih e
def prs (T:List (Str×En)):List (Int×Str):=T.map fun p=>(p.2.w,p.1)
theorem yr {a b ks:List (Int×Str)}(I:a.Perm ks)(M:b.Perm ks)(U:a.Pairwise fun x y=>ltP y x=false)(W:b.Pairwise fun x y=>ltP y x=false):a=b:=by
 refine Ho (le:=fun x y=>ltP y x=false) (fun x y _ _ R S=>?_) U W (I.trans M.symm);have O:¬ ltP y x=true:=by rw [R];exact Dy
 have c:¬ ltP x y=true:=by rw [S];exact Dy
 rw [lZ] at O c;have T:x.1=y.1:=by
  rcases Int.lt_trichotomy x.1 y.1 with z | z | z
  .exact absurd (.inl z) c
  .exact z
  .exact absurd (.inl z) O
 refine Prod.ext T ?_;by_cases z:x.2=y.2
 .exact z
 rcases slt_slo.tot _ _ z with q | q
 .exact absurd (.inr ⟨T,q⟩) c
 exact absurd (.inr ⟨T.symm,q⟩) O
theorem vd {T:List (Str×En)}(c:(T.map (·.1)).Nodup){n:Str}{e:En}(h:(n,e)∈T):((n,e)::Gm.ddel T n).Perm T:=by
 induction T with
 | nil=>cases h
 | cons p T ih =>
  rw [DH,Ei] at c;rcases ax.mp h with q | q
  .subst q;have O:Gm.ddel ((n,e)::T) n=T:=by unfold Gm.ddel;rw [D5,Di Dd];rw [List.filter_eq_self];intro p S;exact Dk fun z=>c.1 (DG.mpr ⟨p,S,z⟩)
   rw [O]
  .have I:p.1≠n:=fun z=>c.1 (DG.mpr ⟨_,q,z.symm⟩);have O:Gm.ddel (p::T) n=p::Gm.ddel T n:=by unfold Gm.ddel;rw [D5,Dm (Dk I)]
   rw [O];exact (List.Perm.swap _ _ _).trans ((ih c.2 q).cons p)
section
variable {K:W.Frag}{H H':Hp}{sc b:Addr}{xs:List V}
def KSq (K:W.Frag)(a:Addr)(xs:List V):Prop:=∃ (o:Obj) (its:Array Value) (n:Nat),K.lookup a=some o/\o.cls=.type "list"/\o.dict=none/\o.data=.seq its n/\its.size<=sizeLine/\Vals xs its.toList
def Off (K:W.Frag)(sc:Addr)(xs:List V)(b:Addr):Prop:=b≠sc∨KSq K sc xs
theorem SqL.kept {F:List Addr}(h:SqL K H sc xs)(c:∀b∈F,Off K sc xs b)(k:Kept F H H'):SqL K H' sc xs:=by
 rcases h with h | h
 .by_cases z:sc∈F
  .rcases c sc z with q | q
   .exact absurd rfl q
   .exact .inr q
  .refine .inl ?_;rcases h with h | ⟨o,h⟩
   .exact .inl (k _ _ h z)
   .exact .inr ⟨o,k _ _ h z⟩
 exact .inr h
theorem SqL.same' (h:SqL K H sc xs)(k:Same H H'):SqL K H' sc xs:=h.kept (F:=[]) (fun _ z=>nomatch z) fun b o e _=>k b o e
end
end L2
namespace L2
open PySem PySem.W PySem.Spec PySem.Calls PyProof.Rows
section
variable {X:Cx}
theorem Bk:SlR X (fun x lo hi H Q=>∃ z,x=.str z/\z.length<=sizeLine/\Q (.str (Txt.slice z lo hi)) H):=by
 intro pins s Z H x v G Y lo hi F Q I W O pl R h;obtain ⟨z,rfl,T,q⟩:=h;obtain ⟨t,rfl⟩:=W;have c:∀(l u:Option Int),lo=l->hi=u->∀S k,EP X pins Z Q (.str (Txt.slice z l u) S) { s with toks:=k }:=fun l u U M S k=>by subst U M;exact ⟨.str _,H,I.tok _,⟨S,rfl⟩,q⟩
 cases pl with
 | none =>
  cases R with
  | none=>exact ⟨"str",_,Ft.lookup,FR _ _ _,FC (l:=none) (u:=none) (st:=none) O rfl (GY ⟨Dq (Hd z _ _) T,c none none rfl rfl⟩)⟩
  | int j u=>exact ⟨"str",_,Ft.lookup,FR _ _ _,FC (l:=none) (u:=some (j,u)) (st:=none) O rfl (GY ⟨Dq (Hd z _ _) T,c none (some j) rfl rfl⟩)⟩
 | int i u0 =>
  cases R with
  | none=>exact ⟨"str",_,Ft.lookup,FR _ _ _,FC (l:=some (i,u0)) (u:=none) (st:=none) O rfl (GY ⟨Dq (Hd z _ _) T,c (some i) none rfl rfl⟩)⟩
  | int j u=>exact ⟨"str",_,Ft.lookup,FR _ _ _,FC (l:=some (i,u0)) (u:=some (j,u)) (st:=none) O rfl (GY ⟨Dq (Hd z _ _) T,c (some i) (some j) rfl rfl⟩)⟩
end
end L2
namespace L2
open PySem PyProof.Rows
def prOrd:KeyOrd:=jb ja strKind.toKeyOrd
def sE (p:Int×Str):prOrd.α:=(p.1,p.2.cps.toList)
theorem jX {a b:Int×Str}:prOrd.blt (sE a) (sE b)=ltP a b:=by have h:=fq (a:=[.int a.1,.str a.2,.int 0]) (b:=[.int b.1,.str b.2,.int 0]) ⟨_,_,_,rfl⟩ ⟨_,_,_,rfl⟩;rw [Ap,<-h];show (decide (a.1<b.1) || (!decide (b.1<a.1)&&decide (a.2.cps.toList<b.2.cps.toList)))=(decide (a.1<b.1) || (!decide (b.1<a.1)&&(decide (a.2.cps.toList<b.2.cps.toList) || (!decide (b.2.cps.toList<a.2.cps.toList)&&decide ((0:Int)<0)))));rw [show decide ((0:Int)<0)=false from by decide,Bool.and_false,Bool.or_false]
def lU (key:V->Int×Str):KeyKind:={ prOrd with keyOf:=fun v=>some (sE (key (gE v))),dflt:=sE (0,"") }
section
variable {X:Cx}
def PrL (K:W.Frag)(H:Hp)(key:V->Int×Str)(xs:List V):Prop:=∀x∈xs,∃ a,x=.ref a/\SqT K H a (prV (key x))
theorem iX {x:V}(r:Vals [x,y] us):∃ u v,us=[u,v]/\RelV x u/\RelV y v:=by
 cases r with
 | cons r1 r2 =>
  cases r2 with
  | cons r3 r4=>cases r4;exact ⟨_,_,rfl,r1,r3⟩
theorem uP (I:Inv X pins Z H s){key:V->Int×Str}(r:Vals xs vs)(he:PrL X.K H key xs)(h':Heap)(kp:∀b o,s.heap.get? b=some o->h'.get? b=some o)(A:Around):TS.Cmp X.prog X.w A { s with heap:=h' } (lU key) (tuples' true) (pairsOf vs):=by
 refine ⟨fun x y hx hy E Q q=>?_⟩;have M:∀p:Keyed,p∈(pairsOf vs).toList->∃ a its,p.1=.ref a/\Vals (prV (key (.ref a))) its/\IsTup h' a its.toArray:=fun p hp=>by rw [He] at hp;obtain ⟨O,m⟩:=mem_zip_self hp;obtain ⟨j,hj,ej⟩:=EV m;have S:∃ x,xs[j]?=some x:=⟨xs[j]'(by rw [r.length];exact hj),bt _⟩;obtain ⟨x,S⟩:=S;obtain ⟨u,hu,ru⟩:=r.get S;rw [bt hj,ej] at hu;cases hu;obtain ⟨a,F,hq⟩:=he x (DV S);subst F;obtain ⟨its,rv,it,_⟩:=I.tuple hq;refine ⟨a,its,ru,rv,?_⟩;obtain ⟨o,J,rest⟩:=it;exact ⟨o,kp a o J,rest⟩
 obtain ⟨a,its,F,G,ta⟩:=M x hx;obtain ⟨b,its',eb,rb,tb⟩:=M y hy;have eL:TS.Lb (lU key) x y=ltP (key (.ref a)) (key (.ref b)):=by unfold TS.Lb TS.kf;rw [F,eb];exact jX
 rw [eL] at q;rw [F,eb];generalize key (.ref a)=ka at G q;generalize key (.ref b)=kb at rb q;obtain ⟨i,n⟩:=ka;obtain ⟨i',n'⟩:=kb;unfold ltP at q;unfold prV at G rb q;obtain ⟨u1,u2,rfl,r1,r2⟩:=iX G;obtain ⟨w1,w2,rfl,q1,q2⟩:=iX rb;obtain ⟨o,J,hc,nn,hd⟩:=ta;obtain ⟨o',P,et,eo,Y⟩:=tb;refine W.kat_lt (s:={ s with heap:=h' }) J hd P Y ?_;show W.KatLex _ _ _ _ _ Q [(u1,w1),(u2,w2)] 0 _;refine W.kat_cons ?_;obtain ⟨e,ee,R⟩:=bY A { s with heap:=h' } (a:=.int i) (c:=.int i') trivial r1 q1;refine ee _ _ _ _ (W.kat_go (fun O=>W.kat_yes ?_) (fun O=>W.kat_no ?_))
 .rw [aP,Dm (R.mp O)] at q;refine W.kat_cons ?_;obtain ⟨e',U,T⟩:=bY A { s with heap:=h' } (a:=.str n) (c:=.str n') trivial r2 q2;refine U _ _ _ _ (W.kat_go (fun O=>W.kat_yes ?_) (fun O=>W.kat_no ?_))
  .rw [aP,Dm (T.mp O)] at q;exact W.kat_nil (by simpa [bw] using q)
  .rw [aP,Di (fun z=>by rw [T.mpr z] at O;cases O)] at q;exact W.kat_one _ _ (show wpAny _ _ (richCompare .Lt u2 w2) _ _ _ from jp A _ (a:=.str n) (c:=.str n') trivial r2 q2 _ _ q)
 rw [aP,Di (fun z=>by rw [R.mpr z] at O;cases O)] at q;obtain ⟨t,rfl⟩:=r1;obtain ⟨t',rfl⟩:=q1;exact oneLt_int q
theorem rY {pins:List (Addr×Obj)}{Z:St}{H:Hp}{s:Shared}(I:Inv X pins Z H s){key:V->Int×Str}(h':Heap)(kp:∀b o,s.heap.get? b=some o->h'.get? b=some o):∀{xs:List V} {vs:List Value},Vals xs vs->PrL X.K H key xs ->
  ∃ fs,W.KatTups h' vs fs/\fs.length=vs.length/\∀v∈fs,∃ i t,v=Value.int i t
 | _,_,.nil,_=>⟨[],W.KatTups.nil,rfl,fun v c=>by cases c⟩
 | x::xs,v::vs,.cons r t,he=>by
  obtain ⟨fs,k,l,f⟩:=rY I h' kp t fun y M=>he y (Dr _ M);obtain ⟨a,rfl,S⟩:=he x DO;cases r;obtain ⟨its,T,O,_⟩:=I.tuple S;obtain ⟨P,G,rfl,⟨tt,rfl⟩,Y⟩:=iX T;obtain ⟨o,U,R,F,hd⟩:=O;refine ⟨.int (key (.ref a)).1 tt::fs,W.KatTups.cons (kp a o U) R hd rfl k,by simp [l],fun v c=>?_⟩;rcases ax.mp c with z | z
  .exact ⟨_,tt,z⟩
  .exact f v z
end
end L2
namespace L2
open PySem
def wG (T:List (Str×En))(n:Str):Int:=((Gm.dget T n).getD default).w
structure Jn (s t:LS)(ys:List Str)(i:Nat)(a b:LS):Prop where
 ia:Gm.LInv slt a
 ib:Gm.LInv slt b
 ga:∀n,(Gm.dget a.there n).map (·.w)=if n∈ys.take i then some (wG t.there n) else (Gm.dget s.there n).map (·.w)
 gb:∀n,Gm.dget b.there n=if n∈ys.drop i then Gm.dget t.there n else none
 la:a.there.length=s.there.length+i
 lb:b.there.length+i=t.there.length
 st:a.stamp=s.stamp+i
 sb:b.stamp=t.stamp
theorem get_mem {T:List (Str×En)}{n:Str}:(Gm.dget T n).isSome=true↔n∈T.map (·.1):=by
 cases e:Gm.dget T n with
 | none=>exact ⟨(fun z=>nomatch z),fun z=>absurd z (Gm.dget_none.mp e)⟩
 | some x=>exact ⟨fun _=>DG.mpr ⟨_,Gm.dget_some e,rfl⟩,fun _=>rfl⟩
theorem Jn.start {s t:LS}(I:Gm.LInv slt s)(J:Gm.LInv slt t)(c:ys.Perm (t.there.map (·.1))):Jn s t ys 0 s t:=by
 refine ⟨I,J,fun n=>by rw [IP,Di ah],fun n=>?_,rfl,rfl,rfl,rfl⟩;rw [GD];by_cases h:n∈ys
 .rw [Dm h]
 rw [Di h];exact Gm.dget_none.mpr fun z=>h (c.mem_iff.mpr z)
theorem zx {T:List (Str×En)}{n m:Str}(S:(T.map (·.1)).Nodup):Gm.dget (Gm.ddel T n) m=if m=n then none else Gm.dget T m:=by
 by_cases h:m=n
 .rw [Dm h];refine Gm.dget_none.mpr fun z=>?_;obtain ⟨⟨I,e⟩,O,c⟩:=DG.mp z;cases c;exact (Gm.ddel_mem.mp O).1 h
 rw [Di h];cases e:Gm.dget T m with
 | none =>
  refine Gm.dget_none.mpr fun z=>?_;obtain ⟨⟨I,R⟩,O,c⟩:=DG.mp z;cases c;exact Gm.dget_none.mp e (DG.mpr ⟨_,(Gm.ddel_mem.mp O).2,rfl⟩)
 | some x=>exact Gm.dget_of (Gm.ddel_nd S) (Gm.ddel_mem.mpr ⟨h,Gm.dget_some e⟩)
theorem Jn.next {s t a b:LS}(J:Jn s t ys i a b)(hi:i<ys.length)(W:ys.Nodup)(P:ys.Perm (t.there.map (·.1)))(R:∀n∈ys,Gm.dget s.there n=none):
  (Gm.dget b.there ys[i]).isSome=true/\(Gm.dget a.there ys[i]).isSome=false/\Jn s t ys (i+1) (Gm.putL slt a ys[i] (wG t.there ys[i])) (Gm.dropL slt b ys[i]):=by
 have hd:ys.drop i=ys[i]::ys.drop (i+1):=Hf hi;have I:ys.take (i+1)=ys.take i++[ys[i]]:=(Hr hi).symm;have nt:ys[i]∉ys.take i:=fun z=>by have h:=W;rw [<-GK i ys,EJ] at h;exact h.2.2 _ z _ (by rw [hd];exact DO) rfl
 have O:ys[i]∉ys.drop (i+1):=fun z=>by have h:=W;rw [<-GK i ys,EJ,hd,Ei] at h;exact h.2.1.1 z
 have U:ys[i]∈ys:=Ee hi;have F:(Gm.dget b.there ys[i]).isSome=true:=by rw [J.gb,Dm (by rw [hd];exact DO)];exact get_mem.mpr (P.mem_iff.mp U)
 have M:Gm.dget a.there ys[i]=none:=by
  have:=J.ga ys[i];rw [Di nt,R _ U] at this;cases e:Gm.dget a.there ys[i] with
  | none=>rfl
  | some x=>rw [e] at this;cases this
 have Y:=get_mem.mp F;refine ⟨F,by rw [M];rfl,Gm.put_inv slt_slo J.ia,Gm.dropL_inv slt_slo J.ib,fun n=>?_,fun n=>?_,?_,?_,?_,?_⟩
 .show (Gm.dget (Gm.putL slt a ys[i] (wG t.there ys[i])).there n).map (·.w)=_;have c:(Gm.putL slt a ys[i] (wG t.there ys[i])).there=Gm.dput a.there ys[i] ⟨wG t.there ys[i],ys[i],(a.stamp:Int)⟩:=Gm.sweep_there;rw [c,Gm.dget_put J.ia.nd];by_cases h:n=ys[i]
  .rw [Dm h,Dm (by rw [I,h];exact DE _ DO),h];rfl
  .rw [Di h,J.ga];by_cases T:n∈ys.take i
   .rw [Dm T,Dm (by rw [I];exact DT _ T)]
   .rw [Di T,Di (by
     rw [I];intro z;rcases Du.mp z with q | q
     .exact T q
     .exact h (De q))]
 .have c:(Gm.dropL slt b ys[i]).there=Gm.ddel b.there ys[i]:=Gm.sweep_there;rw [c,zx J.ib.nd];by_cases h:n=ys[i]
  .rw [Dm h,Di (by rw [h];exact O)]
  .rw [Di h,J.gb];by_cases T:n∈ys.drop (i+1)
   .rw [Dm T,Dm (by rw [hd];exact Dr _ T)]
   .rw [Di T,Di (by
     rw [hd];intro z;rcases ax.mp z with q | q
     .exact h q
     .exact T q)]
 .have c:(Gm.putL slt a ys[i] (wG t.there ys[i])).there=Gm.dput a.there ys[i] ⟨wG t.there ys[i],ys[i],(a.stamp:Int)⟩:=Gm.sweep_there;have S:(Gm.dput a.there ys[i] ⟨wG t.there ys[i],ys[i],(a.stamp:Int)⟩).length=a.there.length+1:=by have:=congrArg List.length (Gm.dput_keys (L:=a.there) (n:=ys[i]) (b:=(⟨wG t.there ys[i],ys[i],(a.stamp:Int)⟩:En)));rw [Di (Gm.dget_none.mp M),Ds,Dg,Dg] at this;exact this
  rw [c,S,J.la];lia
 .have c:(Gm.dropL slt b ys[i]).there=Gm.ddel b.there ys[i]:=Gm.sweep_there;obtain ⟨⟨m',e⟩,G,T⟩:=DG.mp Y;have S:=(vd J.ib.nd (n:=ys[i]) (e:=e) (by rw [<-T];exact G)).length_eq;rw [Dw] at S;have:=J.lb;rw [c];lia
 .have c:(Gm.putL slt a ys[i] (wG t.there ys[i])).stamp=a.stamp+1:=Gm.sweep_stamp;rw [c,J.st];lia
 have c:(Gm.dropL slt b ys[i]).stamp=b.stamp:=Gm.sweep_stamp;rw [c,J.sb]
structure wg (s t a b:LS):Prop where
 ia:Gm.LInv slt a
 ib:Gm.LInv slt b
 pm:(thW a.there).Perm (thW s.there++thW t.there)
 nb:b.there=[]
 st:a.stamp=s.stamp+t.there.length
 sb:b.stamp=t.stamp
theorem pG {s:LS}(I:Gm.LInv slt s):(thW s.there).Nodup:=by have h:=I.nd;unfold thW;rw [FX,EE] at h ⊢;exact h.imp fun n z=>n (by injection z)
theorem gf {s:LS}(I:Gm.LInv slt s){n:Str}{w:Int}:(n,w)∈thW s.there↔(Gm.dget s.there n).map (·.w)=some w:=by
 constructor
 .intro h;obtain ⟨⟨m,e⟩,T,c⟩:=DG.mp h;cases c;rw [Gm.dget_of I.nd T];rfl
 intro h;cases e:Gm.dget s.there n with
 | none=>rw [e] at h;cases h
 | some x =>
  rw [e] at h;cases h;exact DG.mpr ⟨_,Gm.dget_some e,rfl⟩
theorem Jn.done {s t a b:LS}(J:Jn s t ys ys.length a b)(I:Gm.LInv slt s)(O:Gm.LInv slt t)(T:ys.Perm (t.there.map (·.1)))(c:∀n∈ys,Gm.dget s.there n=none):wg s t a b:=by
 have U:ys.length=t.there.length:=by rw [T.length_eq,Dg]
 have G:=J.lb;refine ⟨J.ia,J.ib,?_,DL.mp Dc,by rw [J.st,U],J.sb⟩;have F:∀n,n∈ys->(Gm.dget t.there n).map (·.w)=some (wG t.there n):=fun n h=>by
  have:=get_mem.mpr (T.mem_iff.mp h);unfold wG;cases e:Gm.dget t.there n with
  | none=>rw [e] at this;cases this
  | some x=>rfl
 refine (Fd (pG J.ia) ?_).mpr fun p=>?_
 .rw [EJ];refine ⟨pG I,pG O,fun x R y M z=>?_⟩;subst z;obtain ⟨n,w⟩:=x;have S:=(gf I).mp R;have W:n∈ys:=by
   refine T.mem_iff.mpr (get_mem.mp ?_);have:=(gf O).mp M;cases e:Gm.dget t.there n with
   | none=>rw [e] at this;cases this
   | some x=>rfl
  rw [c n W] at S;cases S
 obtain ⟨n,w⟩:=p;rw [gf J.ia,J.ga,D9,Du,gf I,gf O];by_cases h:n∈ys
 .rw [Dm h,F n h,c n h];constructor
  .intro z;exact .inr z
  .rintro (z | z)
   .cases z
   .exact z
 rw [Di h];have:Gm.dget t.there n=none:=Gm.dget_none.mpr fun z=>h (T.mem_iff.mpr z);rw [this];constructor
 .intro z;exact .inl z
 rintro (z | z)
 .exact z
 cases z
end L2
namespace L2
open PySem PySem.W PySem.Spec PySem.Calls PyProof.Rows
section
variable {X:Cx}
def vx (v d:Addr):HO:=.ext fun h=>h.IsValuesView v d
theorem vf:MtR X "dict.values" (fun x xs H Q=>∃ (d:Addr) (kvs:List (Key×V)),x=.ref d/\xs=[]/\H d=some (.dK kvs)/\∀v,H v=none->Q (.ref v) (upd H v (vx v d))):=by intro pins s Z H x xs v us Q I T c h;obtain ⟨d,kvs,rfl,rfl,hd,q⟩:=h;cases T;cases c;obtain ⟨z,O,vs,S,dd⟩:=iT I.hok hd;refine Gg Hs dd.typeIs PySem.F.entry_dict_values (PySem.F.args_dict_values_1 _) (meets_dict_values (mixKind X.prog X.w) d O) ⟨⟨vs,dd⟩,?_⟩;have g:(s.heap.push { cls:=.type "dict_values",data:=.fields #[.ref d] }).get? s.heap.objs.size=some { cls:=.type "dict_values",data:=.fields #[.ref d] }:=DQ _ rfl;refine ⟨.ref s.heap.objs.size,_,I.laid (o:=vx s.heap.objs.size d) (fun b o e=>Dt _ e) (Dj _) ?_,rfl,q _ (I.hok.fresh (Dj _))⟩;exact ⟨⟨_,g,rfl,rfl⟩,⟨_,g⟩,fun U R ⟨o,e,r⟩ k=>⟨o,k o e,r⟩⟩
end
end L2
namespace Wb
open PySem L2
abbrev Row:=Str×Str×Int
abbrev Web:=List Row
section
variable {web:Web}{first:Str}{far:Tb}
def rl (c:Tb×Bool)(r:Row):Tb×Bool :=
 match Gm.dget c.1 r.1 with
 | none=>c
 | some u=>match Gm.dget c.1 r.2.1 with
  | none=>(Gm.dput c.1 r.2.1 (u+r.2.2),true)
  | some v=>if u+r.2.2<v then (Gm.dput c.1 r.2.1 (u+r.2.2),true) else c
end
end Wb
namespace L2
open PySem PySem.W PySem.Spec PySem.Calls PyProof.Rows
section
variable {X:Cx}{o e f:Expr}{apos cpos:Pos}{td ty tx:TE}
theorem ju (J:X.A.units+1<cLine)(c:QE X o td)(O:QE X e ty)(S:QE X f tx)(m:M2 X o "get" apos e f cpos):QE X (.Call (.Attribute o "get" apos) [e,f] [] cpos) (AJ td ty tx):=.mk (by
 have c:=c.to;have O:=O.to;have S:=S.to;intro pins s Z H Q I h;refine GA m.base m.few m.line E6 EC GJ (thn (c pins s Z H _ I h) fun u W zz=>?_);obtain ⟨x,H1,R,Y,a,ex,d,F⟩:=zz;subst ex;obtain rfl:u=Value.ref a:=Y;obtain ⟨t1,G,_⟩:=pI R d;refine ⟨t1,G,?_⟩;rw [m.trees];refine ES rfl (E4 (E1 (thn (O pins W Z H1 _ R F) fun iv s2 ⟨y,U,I2,P,M⟩ =>
  E1 (thn (S pins s2 Z U _ I2 M) fun fv s3 ⟨z,H3,I3,rz,ov,g,q3⟩=>FQ ?_))))
 exact A4 J I3 g P rz fun w' s4 I4 T=>⟨_,H3,I4,T,q3⟩)
end
inductive ESr (p:Params):List DictEntry->List (Str×Addr)->Prop
 | nil:ESr p [] []
 | cons {k:Str} {v:Addr} {t:Tok} {es:List DictEntry} {ks:List (Str×Addr)}:ESr p es ks->ESr p ({ hash:=PyData.keyHash p k,key:=.str k t,val:=.ref v }::es) ((k,v)::ks)
def wa (w:World)(K:W.Frag)(d:Addr)(ks:List (Str×Addr)):Prop:=∃ (es:List DictEntry) (ep:Nat),K.lookup d=some { cls:=.type "dict",data:=.dict es.toArray ep }/\ESr w.params es ks
theorem ESr.keys {P:Program}{es:List DictEntry}{ks:List (Str×Addr)}(h:ESr w.params es ks):∀e∈es,∃ k,(mixKind P w).is k e.key=true/\e.hash=(mixKind P w).hash k:=by
 induction h with
 | nil=>intro e c;cases c
 | @cons k v t es ks _ ih =>
  intro e c;rcases ax.mp c with z | z
  .rw [z];exact ⟨Sum.inr k,dm P w k t,rfl⟩
  .exact ih e z
theorem ESr.find {P:Program}{es:List DictEntry}{ks:List (Str×Addr)}(h:ESr w.params es ks)(k:Str):(es.find? fun e=>(mixKind P w).is (Sum.inr k) e.key).map (·.val)=(ks.lookup k).map Value.ref:=by
 induction h with
 | nil=>rfl
 | @cons k' v' t es ks _ ih =>
  rw [Et,EM];show (match (mixKind P w).is (Sum.inr k) (.str k' t) with | true=>_ | false=>_:Option DictEntry).map (·.val)=_;rw [AV];cases e:k == k' with
  | true =>
   have:k=k':=by simpa using e
   rw [Dk (by rw [this])];rfl
  | false =>
   have:¬ (Sum.inr k:Key)=Sum.inr k':=fun z=>by cases z;simp at e
   rw [DF this];exact ih
def Ci (d:Addr)(ks:List (Str×Addr))(td ty tx:TE):TE:=fun Z H Q=>td Z H fun x H1=>x=.ref d/\ty Z H1 fun y H2=>tx Z H2 fun z H3=>∃ k:Str,y=.str k/\Q (((ks.lookup k).map V.ref).getD z) H3
theorem zu {ks:List (Str×Addr)}{o e f:Expr}{td ty U:TE}(S:wa X.w X.K d ks)(hd:(d == sysModules)=false)(ho:QE X o td)(T:QE X e ty)(hf:QE X f U)(m:M2 X o "get" apos e f cpos):QE X (.Call (.Attribute o "get" apos) [e,f] [] cpos) (Ci d ks td ty U):=by
 refine .mk fun pins s Z H Q I h=>?_;refine GA m.base m.few m.line E6 EC GJ (thn (ho.to pins s Z H _ I h) fun u Y zz=>?_);obtain ⟨x,H1,R,J,ex,P⟩:=zz;subst ex;obtain rfl:u=Value.ref d:=J;obtain ⟨es,ep,hk,E⟩:=S;have O:=R.kIn d _ hk;refine ⟨⟨_,O,rfl⟩,fun b q=>by cases q;exact ⟨_,O,rfl⟩,?_⟩;rw [m.trees];refine ES rfl (E4 (E1 (thn (T.to pins Y Z H1 _ R P) fun iv s2 ⟨y,W,I2,ry,F⟩ =>
  E1 (thn (hf.to pins s2 Z W _ I2 F) fun fv s3 ⟨z,H3,M,rz,k,ey,q3⟩=>FQ ?_))))
 subst ey;have c:=M.kIn d _ hk;refine Gg EC ⟨_,c,rfl⟩ Fb (Gp _ _ _) (meets_dict_get_default (mixKind X.prog X.w) d (fP (k:=Sum.inr k) ry) hd fv)
  ⟨findBy (mixKind X.prog X.w).is es.toArray,⟨_,es.toArray,ep,c,⟨rfl,rfl,rfl⟩,rfl,fun e T=>E.keys e (by simpa using T),fun _=>rfl⟩,⟨_,H3,M.tok _,?_,q3⟩⟩
 have G:findBy (mixKind X.prog X.w).is es.toArray (Sum.inr k)=(ks.lookup k).map Value.ref:=by unfold findBy;rw [List.find?_toArray];exact E.find k
 rw [G];cases ks.lookup k with
 | none=>exact rz
 | some a=>exact rfl
section
variable {X:Cx}{a b c:Expr}{ta tb tc:TE}{tA:TT}{pos:Pos}
theorem qG (O:QT X c tA)(T:QE X a ta)(S:QE X b tb):QE X (.IfExp c a b pos) (tIf tA ta tb):=.mk (by
 have O:=O.to;have T:=T.to;have S:=S.to;intro pins s Z H Q I h;refine wpAny_IfExp (thn (O pins s Z H _ I h) fun d U F=>?_);obtain ⟨R,W,M⟩:=F;cases d with
 | true=>exact T pins U Z R Q W M
 | false=>exact S pins U Z R Q W M)
theorem yi {op T:CmpOp}{r r':R2}(ho:OpR X (compareOp op) r)(O:OpR X (compareOp T) r')(R:QE X a ta)(U:QE X b tb)(S:QE X c tc)(hm:lastMarks [op,T] [b,c]=false:=by with_unfolding_all rfl):QE X (.Compare a [op,T] [b,c] pos) (A0 r r' ta tb tc):=.mk (by
 have R:=R.to;have U:=U.to;have S:=S.to;intro pins s Z H Q I h;refine Compare_chain (thn (R pins s Z H _ I h) fun v s1 ⟨x,H1,I1,r1,q1⟩=>chain_link (thn (U pins s1 Z H1 _ I1 q1) fun u s2 ⟨y,Y,I2,W,P⟩ =>
  thn (ho pins s2 Z Y x y v u _ I2 r1 W P) fun d s3 ⟨z,F,G,J,k,e,M⟩=>?_)) hm
 subst e;cases J;refine Fp ?_;cases k with
 | false=>exact ite_ff ⟨.bl false,F,G,rfl,M⟩
 | true=>exact ite_tt (chain_last (thn (S pins s3 Z F _ G M) fun w' s4 ⟨z',H4,I4,r4,q4⟩=>O pins s4 Z H4 y z' u w' Q I4 W r4 q4)))
theorem ba:OpR X (binaryOp .Add) (fun x y H Q=>∃ z u:Str,x=.str z/\y=.str u/\z.length+u.length<=sizeLine/\Q (.str (z++u)) H):=by intro pins s Z H x y v u Q I O S h;obtain ⟨z,w,rfl,rfl,T,q⟩:=h;obtain ⟨t,rfl⟩:=O;obtain ⟨U,rfl⟩:=S;exact PyProof.Rows.add_str (fun R tk=>⟨.str _,H,I.tok tk,⟨_,rfl⟩,q⟩) T
end
end L2
namespace L2
open PySem PySem.W PySem.Spec PySem.Calls PyProof.Rows PySem.Builtin PySem.Builtin.Str
theorem xK {l:List (Str×Tok)}{xs:List Str}(h:l.map (·.1)=xs):Vals (xs.map V.str) (strValues l):=by
 subst h
 induction l with
 | nil=>exact .nil
 | cons p l ih=>exact .cons ⟨p.2,rfl⟩ ih
section
variable {X:Cx}
theorem wm:MtR X "str.split" (fun x xs H Q=>∃ (z y:Str),x=.str z/\xs=[.str y]/\0<y.length/\z.length+2<=sizeLine/\∀l,H l=none->Q (.ref l) (upd H l (.lst ((Txt.split z y).map V.str)))):=by
 intro pins s Z H x vs v us Q I M U h;obtain ⟨z,y,rfl,rfl,Y,G,q⟩:=h;obtain ⟨t,rfl⟩:=M;obtain ⟨u,rfl,W⟩:=U.one;obtain ⟨S,rfl⟩:=W;have T:(y.length == 0)=false:=by rw [beq_eq_false_iff_ne];lia
 have R:(Txt.split z y).length<=sizeLine:=Dq (split_le z y) G;have c:∀(l:List (Str×Tok)) (k:Nat),l.map (·.1)=Txt.split z y->EP X pins Z Q (.ref s.heap.objs.size) { s with heap:=s.heap.push { cls:=.type "list",data:=.seq (strValues l).toArray },toks:=k }:=fun l k e =>
  ⟨.ref _,_,I.lnew (xK e) (by rw [Dg];exact R),rfl,q _ I.fresh⟩
 cases h1:(decide (z.length<y.length) || decide (strKind z<strKind y)) with
 | true =>
  refine IE F.slot_str_split (FR _ _ _) F.entry_str_split (F.args_str_split_2 _ _) (meets_str_split_cannot_occur z y t S h1) ?_;exact c [(z,t)] s.toks (Dm h1).symm
 | false =>
  have O:Txt.split z y=if (occurrences z y 0 z.length (z.length+1)).isEmpty=true then [z] else partsBetween z (occurrences z y 0 z.length (z.length+1)) y.length:=Di (by rw [h1];exact Dy);cases hf:(occurrences z y 0 z.length (z.length+1)).isEmpty with
  | true =>
   refine IE F.slot_str_split (FR _ _ _) F.entry_str_split (F.args_str_split_2 _ _) (meets_str_split_not_found z y t S h1 T hf) ?_;exact c [(z,t)] s.toks (by rw [O,Dm hf];rfl)
  | false =>
   rw [Di (by rw [hf];exact Dy)] at O;refine IE F.slot_str_split (FR _ _ _) F.entry_str_split (F.args_str_split_2 _ _) (meets_str_split_sep z y t S h1 T hf Dc (by rw [<-O];exact R)) ?_;have:=c (numbered s.toks (partsBetween z (occurrences z y 0 z.length (z.length+1)) y.length)) (s.toks+(partsBetween z (occurrences z y 0 z.length (z.length+1)) y.length).length) (by rw [numbered_texts,O]);rw [<-strsFrom_eq] at this;exact this
theorem uI:MtR X "str.startswith" (fun x xs H Q=>∃ (z y:Str),x=.str z/\xs=[.str y]/\Q (.bl (decide (0+y.length<=z.length)&&subAt z y 0)) H):=by intro pins s Z H x vs v us Q I O c h;obtain ⟨z,y,rfl,rfl,q⟩:=h;obtain ⟨t,rfl⟩:=O;obtain ⟨u,rfl,T⟩:=c.one;obtain ⟨S,rfl⟩:=T;exact call_gives F.slot_str_startswith (FR _ _ _) F.entry_str_startswith (F.args_str_startswith_2 _ _) (gives_str_startswith z y t S) ⟨.bl _,H,I,rfl,q⟩
theorem bv:cv X (.type "str") (fun xs H Q=>(∃ i:Int,xs=[.int i]/\i.natAbs.log2<1920/\Q (.str (toString i)) H)∨∃ z:Str,xs=[.str z]/\Q (.str z) H):=by
 intro pins s Z H xs us Q I T h;rcases h with ⟨i,rfl,hi,q⟩ | ⟨z,rfl,q⟩
 .obtain ⟨u,rfl,c⟩:=T.one;obtain ⟨t,rfl⟩:=c;exact PySem.P.str_of_int hi ⟨.str _,H,I.tok _,⟨_,rfl⟩,q⟩
 obtain ⟨u,rfl,c⟩:=T.one;obtain ⟨t,rfl⟩:=c;exact PySem.P.str_of_str ⟨.str _,H,I,⟨_,rfl⟩,q⟩
theorem j6:cv X (.type "int") (fun xs H Q=>∃ (z:Str) (n:Int),xs=[.str z]/\PySem.intText? z=some n/\z.length<=640/\Q (.int n) H):=by intro pins s Z H xs us Q I c h;obtain ⟨z,n,rfl,O,S,q⟩:=h;obtain ⟨u,rfl,T⟩:=c.one;obtain ⟨t,rfl⟩:=T;exact KIN.call_text O S ⟨.int n,H,I.tok _,⟨_,rfl⟩,q⟩
end
def sgn (c:Nat):Str:=⟨#[c]⟩
def Its (z:Str):It:=⟨fun i _=>∃ c,z.cps[i]?=some c,fun i H x H'=>H'=H/\∃ c,z.cps[i]?=some c/\x=.str (sgn c),fun i _=>z.length<=i⟩
theorem x0 {P:Program}(z:Str)(t:Tok)(T:Addr):nE P w K tg (Its z) [T] T (fun i h=>h.IsStrIter T "str_ascii_iterator" z t i) where
 mem:=by simp
 obj:=fun i h st b O=>by
  have e:b=T:=by simpa using O
  subst e;obtain ⟨o,e,c,d⟩:=st;exact ⟨o,e,fun v z=>by rw [d] at z;cases z⟩
 keep:=fun i h h' st k=>by
  obtain ⟨o,e,r⟩:=st;exact ⟨o,k T Dd o e,r⟩
 item:=by
  intro X Y J F hc i pins s Z H E I R st W;subst Y J F;obtain ⟨c,hx⟩:=W;obtain ⟨U,G,f2,M,f4,f5⟩:=R T Dd;refine wpAny_pyNext_ascii_item st hx fun h' S sb=>?_;have I1:Inv X pins Z H { s with heap:=h',toks:=s.toks+1 }:=I.turned (t':=s.toks+1) (fun b o O e=>(sb.2 b O).trans e) U G M f4 f5;obtain ⟨o,e,c',d⟩:=id S;exact ⟨_,rfl,jw (s:={ s with heap:=h',toks:=s.toks+1 }) e c' d Db ⟨.str (sgn c),H,I1,⟨_,rfl⟩,⟨rfl,c,hx,rfl⟩,S,fun b O=>(R b O).1⟩⟩
 done:=by
  intro X Y J F hc i pins s Z H E I R st W;subst Y J F;obtain ⟨U,G,f2,M,f4,f5⟩:=R T Dd;exact wpAny_pyNext_ascii_end (I.ok.hd hc) st (Array.getElem?_eq_none (show z.cps.size<=i from W)) fun h' eb=>⟨rfl,I.turned (t':=s.toks) (fun b o O e=>eb b o O e) U G M f4 f5⟩
 self:=fun _ _ _ _ _ st h=>wpAny_pyIter_striter_ascii st h
section
variable {X:Cx}
def C0 (tl:TE):TI:=fun Z H R=>tl Z H fun x H1=>∃ z:Str,x=.str z/\z.cps.all (·<128)=true/\R (Its z) H1
theorem AZ {l:Expr}{tl:TE}(T:QE X l tl):QI X tg l (C0 tl):=.mk (by
 have T:=T.to;intro pins s Z H R I h;refine thn (T pins s Z H _ I h) fun v c W=>?_;obtain ⟨x,S,O,M,z,rfl,U,q⟩:=W;obtain ⟨t,rfl⟩:=M;refine wpAny_pyIter_ascii U ?_;refine ⟨c.heap.objs.size,[c.heap.objs.size],_,_,S,rfl,O.kept (t':=c.toks) fun b o e=>Dt _ e,x0 z t _,⟨_,DQ _ rfl,rfl,rfl⟩,fun b F=>?_,q⟩;have e:b=c.heap.objs.size:=by simpa using F
 subst e;exact O.fpOk (Dj _) (O.hok.fresh (Dj _)))
theorem wz:OpR X (compareOp .In) (fun x y H Q=>∃ z u:Str,x=.str z/\y=.str u/\Q (.bl (!(occurrences u z 0 u.length 1).isEmpty)) H):=by intro pins s Z H x y v u Q I c T h;obtain ⟨z,w,rfl,rfl,q⟩:=h;obtain ⟨t,rfl⟩:=c;obtain ⟨O,rfl⟩:=T;exact PySem.P.in_str ⟨.bl _,H,I,rfl,q⟩
end
theorem uH {R:Hp->Prop}(T:Nat->List V->Hp->Prop)(W:T 0 [] (upd H D (.lst [])))(U:∀i ys H,T i ys H->H D=some (.lst ys))(M:∀i c ys H,z.cps[i]?=some c->T i ys H->tt (some (.str (sgn c))::bR cap Z) H fun b I =>
   if b=true then te (some (.str (sgn c))::bR cap Z) I fun v S=>S D=some (.lst ys)/\ys.length<sizeLine/\∃ m',m'<z.length-i/\m'=z.length-(i+1)/\i+1<=z.length/\T (i+1) (ys++[v]) (upd S D (.lst (ys++[v])))
   else ∃ m',m'<z.length-i/\m'=z.length-(i+1)/\i+1<=z.length/\T (i+1) ys I)(hd:∀ys H,T z.length ys H->R H):
  CW (Its z) tt te cap Z H D R:=by
 refine ⟨fun i m ys H=>m=z.length-i/\i<=z.length/\T i ys H,⟨z.length,Dd,D6 _,W⟩,?_⟩;rintro i m ys H ⟨rfl,hi,p⟩;refine ⟨U i ys H p,?_⟩;by_cases O:i<z.length
 .refine .inr ⟨⟨z.cps[i]'O,Array.getElem?_eq_getElem O⟩,fun x H' y=>?_⟩;obtain ⟨rfl,c,e,rfl⟩:=y;exact M i c ys _ e p
 have e:i=z.length:=by lia
 subst e;exact .inl ⟨Dj _,hd ys H p⟩
end L2
namespace L2
open PySem PySem.Spec PyProof.Rows
open PySem.SeqAt (EqAt RcAt RcNeAt)
section
variable {X:Cx}
theorem uC (G:X.calm=true):cv X (.builtin "all") (fun xs H Q=>∃ (p:Addr) (bs:List Bool),xs=[.ref p]/\SqL X.K H p (bs.map V.bl)/\Q (.bl (bs.all id)) H):=by
 intro pins s Z H xs us Q I r h;obtain ⟨p,bs,rfl,J,q⟩:=h;obtain ⟨u,rfl,S⟩:=fQ r;cases S;obtain ⟨its,W,pl,hz⟩:=I.list J;have U:=pl.isList;have R:p<s.heap.objs.size:=by obtain ⟨_,e,_⟩:=U;exact DM e
 have M:∀(i:Nat) (v:Value),its[i]?=some v->∃ b,bs[i]?=some b/\v=.bool b:=fun i v e=>by
  have hi:=(Dz.mp e).1;obtain ⟨x,T,S⟩:=W.at hi;rw [(Dz.mp e).2] at S;rw [DN] at T;cases O:bs[i]? with
  | none=>rw [O] at T;cases T
  | some b=>rw [O] at T;cases T;exact ⟨b,rfl,S⟩
 have P:its.length=bs.length:=by rw [<-W.length,Dg]
 refine call_all_walk (wpAny_pyIter_list U ?_);refine ⟨s.heap.objs.size,[s.heap.objs.size,p],[s.heap.objs.size],its.toArray.size,_,_,fun i=>(bs[i]?).getD false,rfl,Walks.list (A:=X.A.in1) (by simp [I.ok.hd G]) _ p (DZ R) its.toArray,
  ⟨⟨_,DQ _ rfl,rfl,rfl⟩,U.push _⟩,fun i v s' Q' E' Y F=>?_,fun h' tk hk=>?_⟩
 .obtain ⟨b,e,rfl⟩:=M i v (by simpa using Y);simp only [e,Option.getD_some] at F;exact Fp F
 have e:((List.range its.toArray.size).all fun i=>(bs[i]?).getD false)=bs.all id:=by
  rw [DD,P,EL,FD,FD];constructor
  .intro h b M;obtain ⟨i,hi,O⟩:=EV M;have:=h i (Fn.mpr hi);rw [bt hi,O] at this;exact this
  .intro h i hi;have c:=Fn.mp hi;rw [bt c];exact h _ (Ee c)
 rw [e];refine ⟨.bl _,H,I.kept (t':=tk) (fun b o e=>?_),rfl,q⟩;exact hk b o (fun z=>by rw [De z] at e;exact Fg _ (DM e)) (Dt _ e)
end
end L2
namespace L2
open PySem PySem.W PySem.Spec PySem.Calls PyProof.Rows
open PySem.SeqAt (EqAt RcAt)
structure Bp (A:Around)(s:Shared)(v u:Value)(e l:Bool):Prop where
 eq:EqAt A s v u e
 lt:e=false->∀(prog:Program) (w:World) (E:Value->Shared->Prop) (Q:Value->Shared->Prop),Q (.bool l) s->wpAny (model prog w) A (richCompare .Lt v u) Q E s
inductive CmpL (A:Around)(s:Shared):List Value->List Value->List (Bool×Bool)->Prop
 | nil:CmpL A s [] [] []
 | cons {v u:Value} {e l:Bool} {vs ws:List Value} {r:List (Bool×Bool)}:Bp A s v u e l->CmpL A s vs ws r->CmpL A s (v::vs) (u::ws) ((e,l)::r)
def me:List (Bool×Bool)->Bool
 | []=>false
 | (e,l)::r=>if e then me r else l
theorem CmpL.len {r:List (Bool×Bool)}(h:CmpL A s vs ws r):vs.length=ws.length:=by
 induction h with
 | nil=>rfl
 | cons _ _ ih=>rw [Dw,Dw,ih]
section
open PySem.SeqAt
open PySem.AutoSeq1 (wpAny_loadPart')
open PySem.MeetsSeq PySem.MeetsSeq2 PySem.MeetsSeq3
theorem pY (l b:Addr)(items T:Array Value)(n n2:Nat)(dd G:Option Addr)(sl J:Array (Option Value))(Y:List (Bool×Bool)):
  Meets (Builtin.«tuple.__lt__» ⟨[.ref l,.ref b],[]⟩)
   (fun A R s=>s.heap.get? l=some { cls:=.type "tuple",dict:=dd,data:=.seq items n,slots:=sl }/\s.heap.get? b=some { cls:=.type "tuple",dict:=G,data:=.seq T n2,slots:=J }/\CmpL A.in1 s items.toList T.toList Y /\
    R (.ok (.ret (.bool (me Y)))) s):=fun prog w A R s h=>by
  obtain ⟨F,g,d,tk,W⟩:=s;obtain ⟨hl,hb,hc,h⟩:=h;have f2:=AutoSeq1.sub_tuple_tuple;have zz:items.size=T.size:=by have:=hc.len;simpa using this
  wp_walk using wpAny_loadPart' hl,wpAny_loadPart' hb,wpAny_forIn_list _ (fun rest b s'=>b.1=none/\s'=⟨F,g,d,tk,W⟩/\∃ (vs ws:List Value) (c:List (Bool×Bool)),rest=vs.zip ws /\
   CmpL A.in1 ⟨F,g,d,tk,W⟩ vs ws c/\R (.ok (.ret (.bool (me c)))) ⟨F,g,d,tk,W⟩) _
  case turn =>
   rintro ⟨y,x⟩ rest b s' ⟨S,rfl,vs,ws,c,U,I,M⟩;cases I with
   | nil=>rw [List.zip_nil_left] at U;cases U
   | @cons v u e l vs' ws' r cc hcl' =>
    rw [Fi] at U;injection U with hyx hrest;injection hyx with hy hx;subst hy hx;refine Dh (cc.eq prog w _ _ ?_);cases e with
    | true =>
     have O:R (.ok (.ret (.bool (me r)))) ⟨F,g,d,tk,W⟩:=M
     wp_walk
     exact ⟨rfl,rfl,_,_,_,hrest,hcl',O⟩
    | false =>
     have O:R (.ok (.ret (.bool l))) ⟨F,g,d,tk,W⟩:=M;have P:=fun E Q h=>cc.lt rfl prog w E Q h
     wp_walk using P
     exact O
  case fin =>
   rintro ⟨b1,b2⟩ s' ⟨S,rfl,vs,ws,c,U,I,M⟩;simp only at S;subst S;have hv:me c=false:=by
    cases I with
    | nil=>rfl
    | cons _ _=>rw [Fi] at U;cases U
   rw [hv] at M
   wp_walk
   simpa [Builtin.Tuple.tupleCompareSizes,zz] using M
  case h =>
   exact ⟨rfl,rfl,items.toList,T.toList,Y,rfl,hc,h⟩
end
def PlT (K:Frag)(H:Hp)(a:Addr)(l:List V):Prop:=∃ (e:Addr) (w:Int) (n:Str) (z i:Int),SqT K H a [.ref e,.int i]/\SqT K H e [.int w,.str n,.int z]/\l=[.int w,.str n,.int z,.int i]
theorem AI {w w' z z' i j:Int}{n n':Str}:bw [.int w,.str n,.int z,.int i] [.int w',.str n',.int z',.int j]=if ([V.int w,.str n,.int z]:List V)=[.int w',.str n',.int z'] then decide (i<j) else bw [.int w,.str n,.int z] [.int w',.str n',.int z']:=by
 rw [aP (xs:=[.str n,.int z,.int i]),aP (xs:=[.str n,.int z])];by_cases O:V.int w=V.int w'
 .rw [Dm O,Dm O,aP (xs:=[.int z,.int i]),aP (xs:=[.int z])];by_cases c:V.str n=V.str n'
  .rw [Dm c,Dm c,aP (x:=.int z) (xs:=[.int i]),aP (x:=.int z) (xs:=[])];by_cases T:V.int z=V.int z'
   .rw [Dm T,Dm T,Dm (by rw [O,c,T]),aP];by_cases I:V.int i=V.int j
    .rw [Dm I];have:i=j:=V.int.inj I;subst this;simp;rfl
    .rw [Di I];rfl
   .rw [Di T,Di T,Di (fun q=>T (by injection q with _ q;injection q with _ q;injection q with q _))]
  .rw [Di c,Di c,Di (fun q=>c (by injection q with _ q;injection q with q _))]
 rw [Di O,Di O,Di (fun q=>O (by injection q with q _))]
section
variable {X:Cx}
theorem yo {i j F G:Int}{U:Str}(p1:IsTup s.heap a us.toArray)(p2:IsTup s.heap b vs.toArray)(I:Vals [.int i,.str x,.int j] us)(O:Vals [.int F,.str U,.int G] vs)(A:Around)(hu:A.units<cLine):EqAt A s (.ref a) (.ref b) (decide (([V.int i,.str x,.int j]:List V)=[.int F,.str U,.int G])):=by
 cases I with
 | @cons _ v1 _ _ a1 I=>cases I with
  | @cons _ v2 _ _ a2 I=>cases I with
   | @cons _ v3 _ _ a3 I=>cases I;cases O with
    | @cons _ u1 _ _ b1 O=>cases O with
     | @cons _ u2 _ _ b2 O=>cases O with
      | @cons _ u3 _ _ b3 O =>
       cases O;by_cases W:a=b
       .subst W;have:([V.int i,.str x,.int j]:List V)=[.int F,.str U,.int G]:=by
         obtain ⟨o,T,S,n,Y⟩:=p1;obtain ⟨o',R,ee,n',M⟩:=p2;rw [T] at R;cases R;rw [Y] at M;have e:[v1,v2,v3]=[u1,u2,u3]:=by injection M with q _;simpa using congrArg Array.toList q
         injection e with q1 e;injection e with P e;injection e with q3 e;obtain ⟨_,rfl⟩:=a1;obtain ⟨_,rfl⟩:=a2;obtain ⟨_,rfl⟩:=a3;obtain ⟨_,rfl⟩:=b1;obtain ⟨_,rfl⟩:=b2;obtain ⟨_,rfl⟩:=b3;cases q1;cases P;cases q3;rfl
        rw [Dk this];exact Hl _
       .refine EqAt.of_refs W ?_;obtain ⟨J,q1,z1⟩:=bY (a:=.int i) (c:=.int F) A.in1 s trivial a1 b1;obtain ⟨e2,P,z2⟩:=bY (a:=.str x) (c:=.str U) A.in1 s trivial a2 b2;obtain ⟨e3,q3,z3⟩:=bY (a:=.int j) (c:=.int G) A.in1 s trivial a3 b3;have h:=RcAt.tuples (e:=fun k=>if k=0 then J else if k=1 then e2 else e3) p1 p2 hu (fun k T S=>by
         match k,T,S with
         | 0,_,_=>exact q1
         | 1,_,_=>exact P
         | 2,_,_=>exact q3
         | k+3,T,_=>exact absurd T Dd)
        have e:((List.range (min [v1,v2,v3].toArray.size [u1,u2,u3].toArray.size)).all (fun k=>if k=0 then J else if k=1 then e2 else e3)&&[v1,v2,v3].toArray.size == [u1,u2,u3].toArray.size)=decide (([V.int i,.str x,.int j]:List V)=[.int F,.str U,.int G]):=by
         show ((J&&(e2&&(e3&&true)))&&true)=_;rw [GS,GS,EL,Ed,DP,DP,z1,z2,z3];constructor
         .rintro ⟨T,S,Y⟩;rw [T,S,Y]
         .intro q;injection q with T q;injection q with S q;injection q with Y q;exact ⟨T,S,Y⟩
        rw [e] at h;exact h
def RwP (h:Heap)(a:Addr)(l:List V):Prop:=∃ (e:Addr) (w:Int) (n:Str) (z i:Int) (us vs:List Value),IsTup h a us.toArray/\Vals [.ref e,.int i] us/\IsTup h e vs.toArray/\Vals [.int w,.str n,.int z] vs/\l=[.int w,.str n,.int z,.int i]
theorem Af {wd:World}{m:List V}(h1:RwP s.heap a l)(h2:RwP s.heap b m)(hu:A.units+1<cLine)(q:Q (.bool (bw l m)) s):
  wpAny (model prog wd) A (richCompare .Lt (.ref a) (.ref b)) Q E s:=by
 obtain ⟨e,w,n,z,i,us,vs,p1,r1,t1,s1,rfl⟩:=h1;obtain ⟨e',T,I,O,j,ea,eo,p2,r2,t2,s2,rfl⟩:=h2;obtain ⟨v0,v1,rfl,a0,J⟩:=iX r1;obtain ⟨u0,u1,rfl,b0,b1⟩:=iX r2;cases a0;cases b0;obtain ⟨⟨cls,dd,et,sl⟩,ho,hc,n1,hd⟩:=id p1;obtain ⟨⟨ee,G,Y,P⟩,S,U,n2,R⟩:=id p2;simp only at hc hd U R;subst hc hd U R;have M:A.in1.units<cLine:=hu;obtain ⟨W,q1,z1⟩:=bY (a:=.int i) (c:=.int j) A.in1 s trivial J b1;have c0:Bp A.in1 s (.ref e) (.ref e') (decide (([V.int w,.str n,.int z]:List V)=[.int T,.str I,.int O])) (bw [.int w,.str n,.int z] [.int T,.str I,.int O]) :=
  ⟨yo t1 t2 s1 s2 A.in1 M,fun _ prog wd E Q F=>zD t1 t2 s1 s2 ⟨trivial,trivial,trivial,trivial⟩ M F⟩
 have c1:Bp A.in1 s v1 u1 W (decide (i<j)):=⟨q1,fun _ prog wd E Q F=>jp (a:=.int i) (c:=.int j) A.in1 s trivial J b1 prog wd F⟩;have er:me [(decide (([V.int w,.str n,.int z]:List V)=[.int T,.str I,.int O]),bw [.int w,.str n,.int z] [.int T,.str I,.int O]),(W,decide (i<j))]=bw [.int w,.str n,.int z,.int i] [.int T,.str I,.int O,.int j]:=by
  rw [AI];unfold me;by_cases h:([V.int w,.str n,.int z]:List V)=[.int T,.str I,.int O]
  .rw [Dk h,Dm rfl,Dm h];unfold me;cases W with
   | true =>
    have:=V.int.inj (z1.mp rfl);subst this;simp [me]
   | false=>rfl
  .rw [DF h,Di Dy,Di h]
 exact Gu (op:=.Lt) ⟨_,ho,rfl⟩ ⟨_,S,rfl⟩ GI Gv (Gj _ _) (pY a b _ _ n1 n2 dd G sl P _)
  ⟨ho,S,.cons c0 (.cons c1 .nil),show Value.bool _≠Value.notImplemented/\Q (.bool _) s from ⟨(fun x=>nomatch x),by rw [er];exact q⟩⟩ (Nat.lt_of_succ_lt hu)
theorem Inv.rwP (I:Inv X pins Z H s)(h:PlT X.K H a l):RwP s.heap a l:=by obtain ⟨e,w,n,z,i,R,M,rfl⟩:=h;obtain ⟨its,T,O,_⟩:=I.tuple R;obtain ⟨c,S,U,_⟩:=I.tuple M;exact ⟨e,w,n,z,i,its,c,O,T,U,S,rfl⟩
theorem Bn (R:X.A.units<cLine-2):OpR X (compareOp .Lt) (fun x y H Q=>∃ a b l m,x=.ref a/\y=.ref b/\PlT X.K H a l/\PlT X.K H b m/\Q (.bl (bw l m)) H):=by intro pins s Z H x y v u Q I T S h;obtain ⟨a,b,l,m,rfl,rfl,c,O,q⟩:=h;cases T;cases S;exact Af (Q:=EP X pins Z Q) (I.rwP c) (I.rwP O) Dc ⟨.bl _,H,I,rfl,q⟩
def jP (l:List V):Prop:=∃ (w:Int) (n:Str) (z i:Int),l=[.int w,.str n,.int z,.int i]
def plOrd:KeyOrd:=jb enOrd ja
def dS:List V->plOrd.α
 | [.int w,.str n,.int z,.int i]=>(bX [.int w,.str n,.int z],i)
 | _=>(bX [.int 0,.str "",.int 0],(0:Int))
theorem cz {a b:List V}(U:jP a)(I:jP b):plOrd.blt (dS a) (dS b)=bw a b:=by
 obtain ⟨w,n,z,i,rfl⟩:=U;obtain ⟨c,O,T,j,rfl⟩:=I;rw [AI];have R:=fq (a:=[.int w,.str n,.int z]) (b:=[.int c,.str O,.int T]) ⟨_,_,_,rfl⟩ ⟨_,_,_,rfl⟩;have M:=fq (a:=[.int c,.str O,.int T]) (b:=[.int w,.str n,.int z]) ⟨_,_,_,rfl⟩ ⟨_,_,_,rfl⟩;show (jb enOrd ja).blt (bX [.int w,.str n,.int z],i) (bX [.int c,.str O,.int T],j)=_;by_cases h:([V.int w,.str n,.int z]:List V)=[.int c,.str O,.int T]
 .rw [Dm h,h];have S:=enOrd.irrefl (bX [.int c,.str O,.int T]);show (enOrd.blt (bX [.int c,.str O,.int T]) (bX [.int c,.str O,.int T]) || (!enOrd.blt (bX [.int c,.str O,.int T]) (bX [.int c,.str O,.int T])&&decide (i<j)))=_;rw [S];simp
 rw [Di h,<-R];show (enOrd.blt (bX [.int w,.str n,.int z]) (bX [.int c,.str O,.int T]) || (!enOrd.blt (bX [.int c,.str O,.int T]) (bX [.int w,.str n,.int z])&&decide (i<j)))=_;cases q:enOrd.blt (bX [.int w,.str n,.int z]) (bX [.int c,.str O,.int T]) with
 | true=>rfl
 | false =>
  cases q2:enOrd.blt (bX [.int c,.str O,.int T]) (bX [.int w,.str n,.int z]) with
  | true=>rfl
  | false=>exact absurd (kR ⟨_,_,_,rfl⟩ ⟨_,_,_,rfl⟩ (enOrd.total _ _ q q2)) h
theorem yp (h:∀x,jP (t x)):Hm.Od (ltT t) where
 as a b e:=by
  unfold ltT at e ⊢;rw [<-cz (h _) (h _)] at e ⊢;cases q:plOrd.blt (dS (t b)) (dS (t a)) with
  | false=>rfl
  | true=>have:=plOrd.trans _ _ _ e q;rw [plOrd.irrefl] at this;cases this
 nt a b c e f:=by
  unfold ltT at e f ⊢;rw [<-cz (h _) (h _)] at e f ⊢;cases q:plOrd.blt (dS (t a)) (dS (t c)) with
  | false=>rfl
  | true =>
   rcases plOrd.negTrans _ (dS (t b)) _ q with z | z
   .rw [e] at z;cases z
   .rw [f] at z;cases z
end
end L2
namespace L2
open PySem
def kP (row:List En)(i:Nat):List V:=enV (Hg.g row i)++[.int i]
theorem jY (row:List En)(i:Nat):jP (kP row i):=⟨_,_,_,_,rfl⟩
def ltI (row:List En)(i j:Nat):Bool:=bw (kP row i) (kP row j)
theorem Bo {row:List En}{j:Nat}(h:ltI row i j=true):ltI row j i=false:=by
 unfold ltI at h ⊢;rw [<-cz (jY _ _) (jY _ _)] at h ⊢;cases q:plOrd.blt (dS (kP row j)) (dS (kP row i)) with
 | false=>rfl
 | true=>have:=plOrd.trans _ _ _ h q;rw [plOrd.irrefl] at this;cases this
theorem qp {row:List En}{j:Nat}:ltI row i j=if Hg.g row i=Hg.g row j then decide (i<j) else bw (enV (Hg.g row i)) (enV (Hg.g row j)):=by
 unfold ltI kP;generalize Hg.g row i=a;generalize Hg.g row j=b;have h:=AI (w:=a.w) (n:=a.n) (z:=a.s) (i:=i) (w':=b.w) (n':=b.n) (z':=b.s) (j:=j);show bw [.int a.w,.str a.n,.int a.s,.int i] [.int b.w,.str b.n,.int b.s,.int j]=_;rw [h];by_cases e:a=b
 .subst e;rw [Dm rfl,Dm rfl];congr 1;exact propext Int.ofNat_lt
 rw [Di e,Di (show ¬ ([V.int a.w,V.str a.n,V.int a.s]:List V)=[V.int b.w,V.str b.n,V.int b.s] from fun q=>e (ma (a:=a) (b:=b) q))];rfl
theorem yS {row:List En}{j:Nat}(h:ltI row i j=false)(h':ltI row j i=false):i=j:=by
 rw [qp] at h h';by_cases e:Hg.g row i=Hg.g row j
 .rw [Dm e] at h;rw [Dm e.symm] at h';have a:=Hb h;have b:=Hb h';lia
 rw [Di e] at h;rw [Di (fun q=>e q.symm)] at h';have en:∀x:En,eI (enV x):=fun x=>⟨_,_,_,rfl⟩;rw [<-fq (en _) (en _)] at h h';exact absurd (ma (kR ⟨_,_,_,rfl⟩ ⟨_,_,_,rfl⟩ (enOrd.total _ _ h h'))) e
def eR (n i:Nat):List Nat:=[2*i+1,2*i+2].filter fun j=>decide (j<n)
def bf (row:List En)(hold:En->Bool)(ps:List Nat):List En:=(ps.map (Hg.g row)).filter hold
inductive Fst (row:List En)(hold:En->Bool)(k:Nat):List Nat->List Nat->Prop
 | start:Fst row hold k ([0].filter fun j=>decide (j<row.length)) []
 | step {P ps:List Nat} {i:Nat}:Fst row hold k P ps->(bf row hold ps).length<k->i∈P->(∀j∈P,ltI row j i=false)->Fst row hold k (P.erase i++eR row.length i) (ps++[i])
section
variable {row:List En}{hold:En->Bool}{k:Nat}{P P' ps ps':List Nat}
theorem Fst.one (h:Fst row hold k P ps):∀{P' ps':List Nat},Fst row hold k P' ps'->ps'.length=ps.length->ps=ps'/\P=P':=by
 induction h with
 | start =>
  intro P' ps' h' e;cases h' with
  | start=>exact ⟨rfl,rfl⟩
  | step _ _ _ _=>rw [Ds] at e;simp at e
 | @step P ps i h g m mn ih =>
  intro P' ps' h' e;cases h' with
  | start=>rw [Ds] at e;simp at e
  | @step P2 ps2 j h2 g2 m2 mn2 =>
   rw [Ds,Ds] at e;obtain ⟨rfl,rfl⟩:=ih h2 (by simpa using e);have:i=j:=yS (mn2 i m) (mn j m2);subst this;exact ⟨rfl,rfl⟩
theorem Fst.pre (h:Fst row hold k P ps):∀m,m<ps.length->∃ P',Fst row hold k P' (ps.take m)/\(bf row hold (ps.take m)).length<k/\P'≠[]:=by
 induction h with
 | start=>intro m c;cases c
 | @step P ps i h g mi mn ih =>
  intro m c;rw [Ds] at c;by_cases e:m<ps.length
  .rw [FE (FH e)];exact ih m e
  .have:m=ps.length:=by simp at c;lia
   subst this;rw [FE (Dj _),D9];exact ⟨P,h,g,fun z=>by rw [z] at mi;cases mi⟩
def ya (row:List En)(hold:En->Bool)(k:Nat)(P ps:List Nat):Prop:=Fst row hold k P ps/\(k<=(bf row hold ps).length∨P=[])
structure Cu (row:List En)(P ps:List Nat):Prop where
 nd:(P++ps).Nodup
 lt:∀j∈P++ps,j<row.length
 up:∀j∈P++ps,j=0∨(j-1) / 2∈ps
theorem Fst.inv (h:Fst row hold k P ps):Cu row P ps:=by
 induction h with
 | start =>
  refine ⟨?_,fun j c=>?_,fun j c=>?_⟩
  .rw [Ez];exact FA.nodup (Ei.mpr ⟨ah,GC⟩)
  .rw [Ez] at c;exact Dp (D7.mp c).2
  .rw [Ez] at c;exact .inl (De (D7.mp c).1)
 | @step P ps i h g mi mn ih =>
  have U:P.Nodup:=(EJ.mp ih.nd).1;have F:ps.Nodup:=(EJ.mp ih.nd).2.1;have I:=(EJ.mp ih.nd).2.2;have O:∀j∈eR row.length i,(j-1) / 2=i/\0<j/\j<row.length:=fun j c=>by obtain ⟨a,b⟩:=D7.mp c;have b:=Dp b;simp only [ax,ah,Dv] at a;rcases a with rfl | rfl <;> refine ⟨Dc,Dc,b⟩
  have S:i∉ps:=fun z=>I i mi i z rfl;have fresh:∀j∈eR row.length i,j∉P++ps:=fun j c z=>by
   obtain ⟨a,b,_⟩:=O j c;rcases ih.up j z with q | q
   .lia
   .rw [a] at q;exact S q
  have R:(eR row.length i).Nodup:=FA.nodup Dd;refine ⟨?_,fun j c=>?_,fun j c=>?_⟩
  .have Y:(P.erase i++eR row.length i++(ps++[i])).Perm (eR row.length i++(P++ps)):=by have W:(P.erase i++[i]).Perm P:=(FL).trans (II mi).symm;refine List.Perm.trans ?_ ((W.append_right ps).append_left (eR row.length i));rw [EI];refine List.perm_append_comm.trans ?_;rw [EI];refine List.Perm.append_left _ ?_;rw [EI,EI];refine (FL).trans ?_;rw [EI];exact List.perm_append_comm_assoc _ _ _
   refine Y.nodup_iff.mpr ?_;rw [EJ];exact ⟨R,ih.nd,fun a M b G e=>fresh a M (e▸G)⟩
  .simp only [Du,DI] at c;rcases c with (z | z) | z | z
   .exact ih.lt j (DT _ (GL z))
   .exact (O j z).2.2
   .exact ih.lt j (DE _ z)
   .rw [z];exact ih.lt i (DT _ mi)
  .have T:j∈P++ps->j=0∨(j-1) / 2∈ps++[i]:=fun z=>(ih.up j z).imp id (DT _);simp only [Du,DI] at c;rcases c with (z | z) | z | z
   .exact T (DT _ (GL z))
   .exact .inr (by rw [(O j z).1];simp)
   .exact T (DE _ z)
   .rw [z] at T ⊢;exact T (DT _ mi)
theorem Fst.len (h:Fst row hold k P ps):P.length+ps.length<=row.length:=by have I:=h.inv;have l:(P++ps).length<=(List.range row.length).length:=Gm.nodup_len I.nd (fun e c=>Fn.mpr (I.lt e c));rw [Ds,EK] at l;exact l
end
end L2
namespace L2
open PySem PySem.W PySem.Spec PySem.Calls PyProof.Rows
open PySem.SeqAt (EqAt RcAt)
def PlH (H:Hp)(a:Addr)(l:List V):Prop:=∃ (e:Addr) (w:Int) (n:Str) (z i:Int),H a=some (.tup [.ref e,.int i])/\H e=some (.tup [.int w,.str n,.int z])/\l=[.int w,.str n,.int z,.int i]
theorem PlH.to {K:Frag}(h:PlH H a l):PlT K H a l:=by obtain ⟨e,w,n,z,i,O,c,T⟩:=h;exact ⟨e,w,n,z,i,SqT.of O,SqT.of c,T⟩
theorem PlH.stay (h:PlH H a l)(k:∀b l,H b=some (.tup l)->H' b=some (.tup l)):PlH H' a l:=by obtain ⟨e,w,n,z,i,O,c,T⟩:=h;exact ⟨e,w,n,z,i,k _ _ O,k _ _ c,T⟩
def vL (H:Hp):Option HO->List V
 | some (.tup [.ref e,.int i])=>uF (H e)++[.int i]
 | _=>[.int 0,.str "",.int 0,.int 0]
def cL (H:Hp):V->List V
 | .ref a=>vL H (H a)
 | _=>[.int 0,.str "",.int 0,.int 0]
theorem fK (H:Hp)(x:V):jP (cL H x):=by
 unfold cL;split
 .unfold vL;split
  .obtain ⟨i,n,j,e⟩:=tw (H _);rw [e];exact ⟨_,_,_,_,rfl⟩
  .exact ⟨_,_,_,_,rfl⟩
 exact ⟨_,_,_,_,rfl⟩
theorem ud (h:PlH H a l):cL H (.ref a)=l:=by obtain ⟨e,w,n,z,i,T,c,rfl⟩:=h;show vL H (H a)=_;rw [T];show uF (H e)++[.int i]=_;rw [c];rfl
structure EnP (t:V->List V)(H:Hp)(xs:List V):Prop where
 tot:∀x,jP (t x)
 mem:∀x∈xs,∃ a,x=.ref a/\PlH H a (t x)
section
variable {t:V->List V}{H H':Hp}{xs ys:List V}
theorem EnP.sub (e:EnP t H xs)(s:∀y∈ys,y∈xs):EnP t H ys:=⟨e.tot,fun x c=>e.mem x (s x c)⟩
theorem EnP.move (e:EnP t H xs)(s:∀b l,H b=some (.tup l)->H' b=some (.tup l)):EnP t H' xs:=⟨e.tot,fun x c=>by
 obtain ⟨a,rfl,h⟩:=e.mem x c;exact ⟨a,rfl,h.stay s⟩⟩
theorem EnP.gat (e:EnP t H xs)(h:i<xs.length):∃ a,Hm.g xs i=.ref a/\PlH H a (t (Hm.g xs i))/\Hm.g xs i∈xs/\atI xs (i:Int)=some (Hm.g xs i):=by
 have c:Hm.g xs i∈xs:=by rw [Hm.g_get h];exact Ee h
 obtain ⟨a,T,O⟩:=e.mem _ c;refine ⟨a,T,O,c,aW ?_⟩;rw [Hm.g_get h];exact bt h
theorem EnP.key (e:EnP t H xs){x:V}(c:x∈xs):cL H x=t x:=by obtain ⟨a,rfl,h⟩:=e.mem x c;exact ud h
end
theorem jJ {a b:Nat}(h:a+100<b):a<b-2:=by lia
section
variable {X:Cx}
theorem xq {a:List V}(c:jP a):bw a a=false:=by rw [<-cz c c];exact plOrd.irrefl _
theorem zr {a b c:List V}(T:jP a)(O:jP b)(I:jP c)(h:bw a b=false)(h':bw b c=false):bw a c=false:=by
 rw [<-cz T O] at h;rw [<-cz O I] at h';rw [<-cz T I];cases q:plOrd.blt (dS a) (dS c) with
 | false=>rfl
 | true =>
  rcases plOrd.negTrans _ (dS b) _ q with z | z
  .rw [h] at z;cases z
  .rw [h'] at z;cases z
end
end L2
namespace L2
open PySem PySem.W PySem.Spec PySem.Calls PyProof.Rows
inductive EnG (t:V->List V)(H:Hp)(xs:List V):Prop
 | e:EnR t H xs->EnG t H xs
 | p:EnP t H xs->EnG t H xs
instance {t:V->List V} {H:Hp} {xs:List V}:Coe (EnR t H xs) (EnG t H xs):=⟨.e⟩
instance {t:V->List V} {H:Hp} {xs:List V}:Coe (EnP t H xs) (EnG t H xs):=⟨.p⟩
section
variable {t:V->List V}{H H':Hp}{xs ys:List V}
theorem EnG.sub (e:EnG t H xs)(s:∀y∈ys,y∈xs):EnG t H ys:=by
 cases e with
 | e e=>exact .e (e.sub s)
 | p e=>exact .p (e.sub s)
theorem EnG.move (e:EnG t H xs)(s:∀b l,H b=some (.tup l)->H' b=some (.tup l)):EnG t H' xs:=by
 cases e with
 | e e=>exact .e (e.move s)
 | p e=>exact .p (e.move s)
theorem EnG.put (e:EnG t H xs)(h:H p=some (.lst zs)):EnG t (upd H p o) xs:=e.move fun b l q=>by rw [af (aL q h nqz)];exact q
theorem EnG.bar (e:EnG t H xs){r:Addr}(h:H r=some (.lst zs))(s:∀b o,H b=some o->b≠r->H' b=some o):EnG t H' xs:=e.move fun b l q =>
 s b _ q (aL q h nqz)
theorem pH (W:X.A.units<cLine-2):OpR X (compareOp .Lt) (fun x y H Q=>∃ (t:V->List V) (xs:List V) (i j:Nat),EnG t H xs/\i<xs.length/\j<xs.length/\x=Hm.g xs i/\y=Hm.g xs j/\Q (.bl (ltT t x y)) H):=by
 intro pins s Z H x y v u Q I U M h;obtain ⟨t,xs,i,j,en,hi,R,rfl,rfl,q⟩:=h;cases en with
 | e en =>
  obtain ⟨a,c,O,_,_⟩:=en.gat hi;obtain ⟨b,T,S,_,_⟩:=en.gat R;exact lW Dc pins s Z H _ _ v u Q I U M ⟨a,b,_,_,c,T,SqT.of O,SqT.of S,en.fit _ _,q⟩
 | p en =>
  obtain ⟨a,c,O,_,_⟩:=en.gat hi;obtain ⟨b,T,S,_,_⟩:=en.gat R;exact Bn W pins s Z H _ _ v u Q I U M ⟨a,b,_,_,c,T,O.to,S.to,q⟩
end
end L2
namespace TS
open PySem PyProof.Rows
section
variable {prog:Program}{w:World}{A:Around}{E:Value->Shared->Prop}{s:Shared}{J:KeyKind}{kd:SortKind}{a₀:Array Keyed}{st:SortSt}
theorem mR (c:1<=n)(h:n<64):minRun' n n 0=n:=by obtain ⟨m,rfl⟩:∃ m,n=m+1:=⟨n-1,Dc⟩;rw [minRun'_succ,Dm h]
theorem yT (C:Cmp prog w A s J kd a₀)(B:SB kd a₀ st)(hp:pendingOf st=#[])(ee:a₀.size<64){Q:Unit->SortSt->Prop}(h:∀T,SB kd a₀ T->Up J (arrOf T) 0 a₀.size->Q () T):wpS (model prog w) A E s sortRuns' Q st:=by
 rw [sortRuns'_eq];refine Er (wpS_get ?_);dsimp only;simp only [B.size];refine Er (wpS_mono (GF (I:=fun x c T=>∃ lo,c=(none,lo)/\SB kd a₀ T/\((lo=0/\x=0/\pendingOf T=#[])∨(lo=a₀.size/\(pendingOf T).size<=1/\Up J (arrOf T) 0 a₀.size)))
  (Q:=fun c T=>c=(none,a₀.size)/\SB kd a₀ T/\(pendingOf T).size<=1/\Up J (arrOf T) 0 a₀.size) ?_ ?_ ⟨0,rfl,B,.inl ⟨rfl,rfl,hp⟩⟩) ?_)
 .rintro x c F _ hx ⟨lo,rfl,W,P⟩;dsimp only;by_cases g1:lo ≥ a₀.size
  .rw [Dm g1];rcases P with ⟨U,_,S⟩ | ⟨U,e1,S⟩
   .have ez:a₀.size=0:=by lia
    have el:lo=a₀.size:=by lia
    rw [el];exact EX ⟨rfl,W,by rw [S];exact D6 _,fun i j _ _ hj=>by lia⟩
   .rw [U];exact EX ⟨rfl,W,e1,S⟩
  rw [Di g1];obtain ⟨U,_,S⟩:lo=0/\x=0/\pendingOf F=#[]:=by
   rcases P with z | ⟨z,_⟩
   .exact z
   .lia
  subst U;have hm:minRun' a₀.size a₀.size 0=a₀.size:=mR Dc ee;refine Er (yZ C W Dc Dc fun n O zz=>?_);obtain ⟨M,R,k2,n1,n2,G⟩:=zz;dsimp only;by_cases g2:n<minRun' a₀.size a₀.size 0
  .rw [Dm g2];refine Er (wpS_lift (Gw ⟨rfl,?_⟩));refine Er (Cl C M Dc Dc n1 G fun Y B3 p3 k3 U3=>?_);simp only [Bool.not_true,El,FF];refine Er (wpS_get ?_);have hb:(pendingOf Y).back?=none:=by rw [p3,R,S];rfl
   rw [hb];dsimp only;have em:min (a₀.size-0) (minRun' a₀.size a₀.size 0)=a₀.size:=by lia
   rw [em] at U3;refine Er (wpS_modify (EX ⟨a₀.size,?_,⟨B3.perm,B3.kind,B3.fail⟩,.inr ⟨rfl,?_,U3⟩⟩))
   .rw [em,Ja]
   .show ((pendingOf Y).push _).size<=1;rw [Array.size_push,p3,R,S];exact Dj _
  .rw [Di g2];have en:n=a₀.size:=by lia
   subst en;refine Er (wpS_get ?_);have hb:(pendingOf O).back?=none:=by rw [R,S];rfl
   rw [hb];dsimp only;refine Er (wpS_modify (EX ⟨a₀.size,by rw [Ja],⟨M.perm,M.kind,M.fail⟩,.inr ⟨rfl,?_,G⟩⟩));show ((pendingOf O).push _).size<=1;rw [Array.size_push,R,S];exact Dj _
 .rintro c F ⟨lo,rfl,W,P⟩;rcases P with ⟨U,ex,S⟩ | ⟨U,e1,S⟩
  .have ez:a₀.size=0:=by lia
   refine ⟨by rw [U,ez],W,by rw [S];exact D6 _,fun i j _ _ hj=>by lia⟩
  .exact ⟨by rw [U],W,e1,S⟩
 rintro c F ⟨rfl,W,p1,U1⟩;dsimp only;refine Er (wpS_mono (GF (I:=fun x c T=>c=(none,())/\SB kd a₀ T/\(pendingOf T).size<=1/\Up J (arrOf T) 0 a₀.size)
  (Q:=fun c T=>c=(none,())/\SB kd a₀ T/\(pendingOf T).size<=1/\Up J (arrOf T) 0 a₀.size) ?_ (fun c T z=>z) ⟨rfl,W,p1,U1⟩) ?_)
 .rintro x c O _ hx ⟨rfl,M,R,G⟩;refine Er (wpS_get ?_);rw [Dm (show (pendingOf O).size<=1 from R)];exact EX ⟨rfl,M,R,G⟩
 rintro c O ⟨rfl,M,R,G⟩;exact EX (h O M G)
end
section
variable {prog:Program}{w:World}{A:Around}{E:Value->Shared->Prop}{s:Shared}{J:KeyKind}{kd:SortKind}
theorem Co {P:Fin->Shared->Prop}(M:s.heap.get? a=some (seqObj "list" vs.toArray n))(hn:vs.length<=sizeLine)(F:vs.length<64)(G:∀h':Heap,(∀b o,b≠a->s.heap.get? b=some o->h'.get? b=some o)->2<=vs.length->∀Q:SortKind->Shared->Prop,Q kd { s with heap:=h' }->wpAny (model prog w) A (keyKind' vs.toArray) Q E { s with heap:=h' })(hC:∀h':Heap,(∀b o,b≠a->s.heap.get? b=some o->h'.get? b=some o)->2<=vs.length->Cmp prog w A { s with heap:=h' } J kd (pairsOf vs))(h:∀c:SortSt,(arrOf c).Perm (pairsOf vs)->Up J (arrOf c) 0 (pairsOf vs).size->P (.done (.ret .none)) { s with heap:=sortedHeap s.heap a vs ((arrOf c).map (·.2)) }):
  wpAny (model prog w) A (Builtin.«list.sort» ⟨[.ref a],[]⟩) P E s:=by
 rw [list_sort_plain];have Y:a<s.heap.objs.size:=DM M;refine Dh (listItems_at M rfl ?_);refine Dh (listUpdate_at M rfl ?_ (hsz:=by simpa using hn));obtain ⟨W,S⟩:∃ W,(s.heap.update a (Obj.mapSeq fun _=>#[])).get? a=some (seqObj "list" #[] W):=⟨_,get?_update_seq M (fun _=>#[])⟩;refine Dh (seqEpoch_at S rfl ?_);refine Dh (wpAny_newTuple ?_);refine Dh (wpAny_newList ?_);refine E5 ?_;have T:(((s.heap.update a (Obj.mapSeq fun _=>#[])).push (seqObj "tuple" vs.toArray 0)).push (seqObj "list" #[] 0)).get? a=some (seqObj "list" #[] W):=by rw [Fu _ _ _ (by rw [size_push',Gb];exact DZ (FT Y)),Fu _ _ _ (by rw [Gb];exact DZ Y)];exact S
 have O:∀b o,b≠a->s.heap.get? b=some o->(((s.heap.update a (Obj.mapSeq fun _=>#[])).push (seqObj "tuple" vs.toArray 0)).push (seqObj "list" #[] 0)).get? b=some o:=fun b o hb e=>by have I:=DM e;rw [Fu _ _ _ (by rw [size_push',Gb];exact DZ (FT I)),Fu _ _ _ (by rw [Gb];exact DZ I),Heap.get?_update_ne _ _ _ _ hb];exact e
 show wpAny (model prog w) A _ P E { s with heap:=((s.heap.update a (Obj.mapSeq fun _=>#[])).push (seqObj "tuple" vs.toArray 0)).push (seqObj "list" #[] 0) };dsimp only;have hsz:vs.toArray.size=vs.length:=by simp
 by_cases R:vs.toArray.size<2
 .rw [Dm R,Dm R];refine Dh (Dx ?_);rw [StateT.run_pure];refine Dh (Dx ?_);dsimp only;refine Dh (seqEpoch_at T rfl ?_);refine Dh (listUpdate_at T rfl ?_ (hsz2:=by rw [Array.size_map];show (pairsOf vs).size<=_;rw [GN];lia));simp only [bne_self_eq_false,El,FF];refine Dx (h (SortSt.mk' general' (vs.toArray.zip vs.toArray) #[] 7 none) (Array.Perm.refl _) ?_);intro i j _ ee hj;have:i=j:=by rw [GN] at hj;lia
  subst this;exact E7 _
 rw [Di R,Di R];refine Dh (G _ O Dc _ ?_);refine Dh (Ew (yT (E:=E) (hC _ O Dc) (a₀:=pairsOf vs) (st:=SortSt.mk' kd (vs.toArray.zip vs.toArray) #[] 7 none)
  (Q:=fun _ c=>SB kd (pairsOf vs) c/\Up J (arrOf c) 0 (pairsOf vs).size) ⟨Array.Perm.refl _,rfl,rfl⟩ rfl (by rw [GN];exact F) fun c a1 a2=>⟨a1,a2⟩) ?_ fun _ _ e=>e)
 rintro ⟨⟨⟩,c⟩ s' ⟨rfl,B,U⟩;dsimp only;refine Dh (seqEpoch_at T rfl ?_);refine Dh (listUpdate_at T rfl ?_ (hsz2:=by refine Dq (G9 ((Array.size_map ..).trans (B.perm.size_eq.trans (GN _)))) ?_;lia));rw [B.fail];simp only [bne_self_eq_false,El,FF];exact Dx (h c B.perm U)
theorem sorted_s {l:Addr}(P:s.heap.IsList l vs.toArray)(F:vs.length<=sizeLine)(R:vs.length<64)(U:∀h':Heap,(∀b o,s.heap.get? b=some o->h'.get? b=some o)->2<=vs.length->∀(E:Value->Shared->Prop) (A:Around) (Q:SortKind->Shared->Prop),Q kd { s with heap:=h' }->wpAny (model prog w) A (keyKind' vs.toArray) Q E { s with heap:=h' })(Y:∀h':Heap,(∀b o,s.heap.get? b=some o->h'.get? b=some o)->2<=vs.length->∀A:Around,Cmp prog w A { s with heap:=h' } J kd (pairsOf vs))(h:∀c:SortSt,(arrOf c).Perm (pairsOf vs)->Up J (arrOf c) 0 (pairsOf vs).size->Q (.ref (s.heap.objs.size+1)) { s with heap:=sortedAll s.heap vs ((arrOf c).map (·.2)) }):
  wpAny (model prog w) A (call (.builtin "sorted") [.ref l]) Q E s:=by
 refine Hh kind_sorted plain_sorted entry_sorted (args_sorted1 _) ?_;unfold Builtin.«sorted»;refine Dh (m:=checkCount "sorted" 1 1 _) (Dx ?_);refine Dh (collect_list P ?_);refine Dh (wpAny_newList ?_);have I:((s.heap.push (seqObj "list" #[] 0)).update s.heap.objs.size (Obj.mapSeq (·++vs.toArray))).objs.size=s.heap.objs.size+1:=by rw [Gb,size_push']
 have S:(((s.heap.push (seqObj "list" #[] 0)).update s.heap.objs.size (Obj.mapSeq (·++vs.toArray))).push (seqObj "list" vs.toArray 0)).get? (s.heap.objs.size+1)=some (seqObj "list" vs.toArray 0):=by rw [<-I];exact DQ _ rfl
 have T:∀b o,s.heap.get? b=some o->(((s.heap.push (seqObj "list" #[] 0)).update s.heap.objs.size (Obj.mapSeq (·++vs.toArray))).push (seqObj "list" vs.toArray 0)).get? b=some o:=fun b o e=>by have O:=DM e;rw [Fu _ _ _ (by rw [I];exact DZ (FT O)),Heap.get?_update_ne _ _ _ _ (DZ O),Fu _ _ _ (DZ O)];exact e
 have M:∀b o,s.heap.get? b=some o->b≠s.heap.objs.size+1:=fun b o e=>DZ (FT (DM e));show wpAny _ _ _ _ _ { s with heap:=((s.heap.push (seqObj "list" #[] 0)).update s.heap.objs.size (Obj.mapSeq (·++vs.toArray))).push (seqObj "list" vs.toArray 0) };rw [I];refine Dh (E5 (GO slot_list_sort ⟨_,S,rfl⟩ entry_list_sort (Co S F R (fun h' k g Q q=>U h' (fun b o e=>k b o (M b o e) (T b o e)) g _ _ Q q) (fun h' k g=>Y h' (fun b o e=>k b o (M b o e) (T b o e)) g _) fun c W G=>⟨_,rfl,?_⟩) (args_list_sort _)));exact Dx ⟨_,rfl,h c W G⟩
end
end TS
namespace TS
open PySem PyProof.Rows PySem.W
section
variable {prog:Program}{w:World}{A:Around}{E:Value->Shared->Prop}{s:Shared}
theorem sorted_dict_s {kvs:List (L2.Key×Value)}(hh:A.handled=none)(F:(d == sysModules)=false)(hm:s.heap.DictAt (L2.mixKind prog w) d kvs ep)(hn:kvs.length<=sizeLine)(ee:kvs.length<64)(hS:∀P∈kvs,∃ x,P.1=Sum.inr x)(h:∀(O G:Heap) (tk:Nat) (vs:List Value) (T:SortSt),vs.length=kvs.length->(∀(i:Nat) v,vs[i]?=some v->∃ k x,kvs[i]?=some (k,x)/\L2.keyIs k v=true)->(arrOf T).Perm (pairsOf vs)->Up PyProof.Rows.strKind (arrOf T) 0 (pairsOf vs).size ->
   (∀b o,s.heap.get? b=some o->O.get? b=some o)->(∀b o,O.get? b=some o->G.get? b=some o)->(∃ n,G.get? O.objs.size=some (seqObj "list" ((arrOf T).map (·.2)) n))->Q (.ref O.objs.size) { s with heap:=G,toks:=tk }):
  wpAny (model prog w) A (call (.builtin "sorted") [.ref d]) Q E s:=by
 refine Hh kind_sorted plain_sorted entry_sorted (args_sorted1 _) ?_;unfold Builtin.«sorted»;refine Dh (m:=checkCount "sorted" 1 1 _) (Dx ?_);refine Dh (kdu_collect (kdl_dict (kvs:=kvs) (ep:=ep) F) hh hm hn fun O tk c hk I=>?_);have M:c.toList.length=kvs.length:=by rw [E9];exact I.1
 have R:∀(i:Nat) v,c.toList[i]?=some v->∃ k x,kvs[i]?=some (k,x)/\L2.keyIs k v=true:=fun i v e=>I.2 i v (by rw [<-GH];exact e);have U:∀v∈c.toList,∃ x t,v=Value.str x t:=fun v hv=>by
  obtain ⟨i,hi⟩:=IJ hv;obtain ⟨k,x,ek,ik⟩:=R i v hi;obtain ⟨y,Y⟩:=hS _ (DV ek);dsimp only at Y;subst Y;rcases L2.keyIs_shape ik with ⟨_,_,z,_⟩ | ⟨_,t,_,z⟩
  .cases z
  .exact ⟨_,t,z⟩
 refine Dh (wpAny_newList ?_);have S:(O.push (seqObj "list" c.toList.toArray 0)).get? O.objs.size=some (seqObj "list" c.toList.toArray 0):=DQ _ rfl;refine Dh (E5 (GO slot_list_sort ⟨_,S,rfl⟩ entry_list_sort (Co (s:={ s with heap:=O.push (seqObj "list" c.toList.toArray 0),toks:=tk }) (J:=PyProof.Rows.strKind) (kd:=oneType') S Dc Dc (fun h' k g Q q=>?_) (fun h' k g=>vI U) fun T a1 a2=>⟨_,rfl,?_⟩) (args_list_sort _)))
 .rw [mY U g];exact Dx q
 refine Dx ⟨_,rfl,h O _ _ c.toList T M R a1 a2 hk (fun b o W=>?_) (sortedHeap_at S)⟩;rw [sortedHeap_old (DZ (DM W)) (by rw [size_push'];exact FT (DM W))];exact Dt _ W
end
end TS
namespace L2
open PySem PySem.W PySem.Spec PySem.Calls PyProof.Rows
section
variable {X:Cx}
theorem fS (hc:X.calm=true):cv X (.builtin "sorted") (fun zs H Q=>∃ (d:Addr) (kvs:List (Key×V)) (ks:List Str),zs=[.ref d]/\H d=some (.dK kvs)/\kvs.map (·.1)=ks.map Sum.inr/\kvs.length<64 /\
  ∀(l:Addr) (ys:List Str),H l=none->ys.Perm ks->ys.Pairwise (fun x y=>slt y x=false)->Q (.ref l) (upd H l (.lst (ys.map V.str)))):=by
 intro pins s Z H zs us Q I r h;obtain ⟨d,kvs,ks,rfl,hd,er,ec,q⟩:=h;obtain ⟨u,rfl,ru⟩:=fQ r;cases ru;obtain ⟨hz,ed,vs,O,dd⟩:=iT I.hok hd;obtain ⟨ep,da⟩:=dd.dictAt;have ek:vs.map (·.1)=ks.map Sum.inr:=by rw [<-O.keys];exact er
 refine TS.sorted_dict_s (I.ok.hd hc) ed da (by rw [<-O.length];exact hz) (by rw [<-O.length];exact ec) (fun kv eg=>?_) fun h1 h3 tk us c hl ew pm up k1 k3 ⟨n,hn⟩=>?_
 .have:kv.1∈ks.map Sum.inr:=by rw [<-ek];exact DG.mpr ⟨kv,eg,rfl⟩
  obtain ⟨x,_,e⟩:=DG.mp this;exact ⟨x,e.symm⟩
 have ei:us.map dz=ks/\∀u∈us,∃ x t,u=Value.str x t:=by
  have ey:us.length=ks.length:=by have:=congrArg List.length ek;rw [Dg,Dg] at this;lia
  have P:∀(i:Nat) u,us[i]?=some u->∃ x t,u=Value.str x t/\ks[i]?=some x:=fun i u e=>by
   obtain ⟨k,x,M,e2⟩:=ew i u e;have R:(vs.map (·.1))[i]?=some k:=by rw [DN,M];rfl
   rw [ek,DN] at R;cases e4:ks[i]? with
   | none=>rw [e4] at R;cases R
   | some y =>
    rw [e4] at R;cases R;rcases keyIs_shape e2 with ⟨_,_,z,_⟩ | ⟨y',t,z,e5⟩
    .cases z
    .cases z;exact ⟨_,t,e5,rfl⟩
  refine ⟨List.ext_getElem? fun i=>?_,fun u hu=>?_⟩
  .rw [DN];cases e:us[i]? with
   | none=>rw [Option.map_none,eq_comm,List.getElem?_eq_none_iff,<-ey];exact List.getElem?_eq_none_iff.mp e
   | some u =>
    obtain ⟨x,t,rfl,W⟩:=P i u e;rw [W];rfl
  .obtain ⟨i,hi⟩:=IJ hu;obtain ⟨x,t,e,_⟩:=P i u hi;exact ⟨x,t,e⟩
 obtain ⟨ee,ef⟩:=ei;have S:(arrOf c).toList.Perm (us.zip us):=by rw [<-He];exact FV.mp pm
 have mem:∀k∈(arrOf c).toList,k.1=k.2/\∃ x t,k.2=Value.str x t:=fun k hk=>by obtain ⟨M,m⟩:=mem_zip_self (S.mem_iff.mp hk);exact ⟨M,M▸ef _ m⟩
 have et:∀l:List Keyed,(∀k∈l,∃ x t,k.2=Value.str x t)->Vals ((l.map fun k=>dz k.2).map V.str) (l.map (·.2)):=by
  intro l
  induction l with
  | nil=>intro _;exact .nil
  | cons k l ih =>
   intro f;obtain ⟨x,t,W⟩:=f k DO;refine .cons ⟨t,?_⟩ (ih fun Y U=>f Y (Dr _ U));show k.2=Value.str (dz k.2) t;rw [W];rfl
 have G:(arrOf c).toList.length=us.length:=by rw [S.length_eq,List.length_zip];lia
 have I1:Inv X pins Z H { s with heap:=h1,toks:=tk }:=I.kept k1;have pk:((arrOf c).toList.map fun k=>dz k.2).Perm ks:=by
  have R:(us.zip us).map (fun k:Keyed=>dz k.2)=ks:=by
   rw [<-ee];have eo:∀l:List Value,(l.zip l).map (fun k:Keyed=>dz k.2)=l.map dz:=by
    intro l
    induction l with
    | nil=>rfl
    | cons a l ih=>rw [Fi,DH,DH,ih]
   exact eo us
  rw [<-R];exact S.map _
 refine ⟨.ref h1.objs.size,upd H h1.objs.size (.lst (((arrOf c).toList.map fun k=>dz k.2).map V.str)),I1.laid (t':=tk) k3 (Dj _) ?_,rfl,q _ _ (I1.hok.fresh (Dj _)) pk ?_⟩
 .refine ⟨by rw [Dg,Dg,G,hl,<-O.length];exact hz,(arrOf c).toList.map (·.2),n,et _ fun k hk=>(mem k hk).2,?_⟩;rw [hn,<-Array.toList_map]
 have el:(arrOf c)=(arrOf c).toList.toArray:=by simp
 rw [el] at up;have eh:(pairsOf us).size=(arrOf c).toList.length:=by rw [GN,G]
 have J:=(TS.up_iff Dc).mp up;rw [GD,eh,D9] at J;refine EE.mpr (Fs (fun {k Y} hk U hle=>?_) J);obtain ⟨M,x,t,W⟩:=mem k hk;obtain ⟨ea,x',t',F⟩:=mem Y U;have T:TS.Lb PyProof.Rows.strKind Y k=false:=hle;unfold TS.Lb TS.kf at T;rw [M,ea,W,F] at T;show slt (dz Y.2) (dz k.2)=false;rw [W,F];exact T
theorem jM:cv X (.builtin "sorted") (fun zs H Q=>∃ p xs key,zs=[.ref p]/\SqL X.K H p xs/\PrL X.K H key xs/\xs.length<64 /\
  ∀l ys,H l=none->ys.Perm xs->ys.Pairwise (fun x y=>ltP (key y) (key x)=false)->Q (.ref l) (upd H l (.lst ys))):=by
 intro pins s Z H zs us Q I r h;obtain ⟨p,xs,key,rfl,hq,he,ey,q⟩:=h;obtain ⟨u,rfl,P⟩:=fQ r;cases P;obtain ⟨its,rv,pl,hz⟩:=I.list hq;have ew:=rv.length;refine TS.sorted_s (kd:=tuples' true) (J:=lU key) pl.isList Dc Dc (fun h' kp h2 E A Q q=>?_) (fun h' kp h2 A=>uP I rv he h' kp A) fun c pm up=>?_
 .obtain ⟨fs,k,l,f⟩:=rY I h' kp rv he;refine W.kat_kind (s:={ s with heap:=h' }) (T:=.type "int") k Dc (fun v hv=>?_) Db q;obtain ⟨i,t,rfl⟩:=f v hv;exact W.Looks.of_pure rfl
 obtain ⟨e,ed⟩:=sortedAll_at s.heap its ((arrOf c).map (·.2));have M:(arrOf c).toList.Perm (its.zip its):=by rw [<-He];exact FV.mp pm
 have mem:∀k∈(arrOf c).toList,k.1=k.2/\∃ x∈xs,RelV x k.2/\∃ a,k.2=.ref a/\x=.ref a:=fun k hk=>by obtain ⟨G,m⟩:=mem_zip_self (M.mem_iff.mp hk);refine ⟨G,?_⟩;obtain ⟨j,hj,ej⟩:=EV m;have R:xs[j]?=some (xs[j]'Dc):=bt _;obtain ⟨u,hu,P⟩:=rv.get R;rw [bt hj,ej] at hu;cases hu;obtain ⟨a,S,_⟩:=he _ (DV R);refine ⟨_,DV R,by rw [<-G];exact P,a,?_,S⟩;rw [S] at P;rw [<-G];exact P
 have ee:(arrOf c).toList.length=xs.length:=by rw [M.length_eq,List.length_zip];lia
 have eo:∀l:List Keyed,(∀k∈l,∃ a,k.2=.ref a)->Vals (l.map fun k=>gE k.2) (l.map (·.2)):=by
  intro l
  induction l with
  | nil=>intro _;exact .nil
  | cons k l ih =>
   intro f;obtain ⟨a,S⟩:=f k DO;refine .cons ?_ (ih fun k' F=>f k' (Dr _ F));show RelV (gE k.2) k.2;rw [S];rfl
 have er:xs=its.map gE:=by
  have U:∀{xs:List V} {us:List Value},Vals xs us->(∀x∈xs,∃ a,x=.ref a)->xs=us.map gE:=by
   intro xs us r
   induction r with
   | nil=>intro _;rfl
   | @cons x u xs us r t ih =>
    intro f;obtain ⟨a,rfl⟩:=f x DO;cases r;rw [DH,<-ih fun y hy=>f y (Dr _ hy)];rfl
  exact U rv fun x hx=>by obtain ⟨a,e,_⟩:=he x hx;exact ⟨a,e⟩
 refine ⟨.ref (s.heap.objs.size+1),upd H (s.heap.objs.size+1) (.lst ((arrOf c).toList.map fun k=>gE k.2)),I.laid (t':=s.toks) (fun b o e=>sortedAll_old e) (ET _) ?_,rfl,q _ _ (I.hok.fresh (ET _)) ?_ ?_⟩
 .refine ⟨by rw [Dg,ee];exact hz,(arrOf c).toList.map (·.2),e,eo _ fun k hk=>?_,?_⟩
  .obtain ⟨_,x,_,_,a,S,_⟩:=mem k hk;exact ⟨a,S⟩
  .rw [ed,<-Array.toList_map]
 .have e3:(its.zip its).map (fun k:Keyed=>gE k.2)=xs:=by
   rw [er];have U:∀l:List Value,(l.zip l).map (fun k:Keyed=>gE k.2)=l.map gE:=by
    intro l
    induction l with
    | nil=>rfl
    | cons a l ih=>rw [Fi,DH,DH,ih]
   exact U its
  rw [<-e3];exact M.map _
 have el:(arrOf c)=(arrOf c).toList.toArray:=by simp
 rw [el] at up;have eh:(pairsOf its).size=(arrOf c).toList.length:=by rw [GN,ee];lia
 have et:=(TS.up_iff Dc).mp up;rw [GD,eh,D9] at et;refine EE.mpr (Fs (fun {k k'} hk F hle=>?_) et);obtain ⟨G,x,hx,rx,a,S,eg⟩:=mem k hk;obtain ⟨ei,x',ef,eb,a',Y,ec⟩:=mem k' F;have O:TS.Lb (lU key) k' k=false:=hle;unfold TS.Lb TS.kf at O;rw [G,ei,S,Y] at O;have:=jX (a:=key (.ref a')) (b:=key (.ref a));rw [S,Y];show ltP (key (.ref a')) (key (.ref a))=false;rw [<-this];exact O
end
section
variable {P:Program}{w:World}{K:W.Frag}{mg:Str->Option Value}{base:Heap}
theorem Fun.okEQ {k:Nat}(F:Fun K x qual st f fd)(S:av N ps (ak st))(len:∀vs H Q E,sp vs H Q E->vs.length=ps.length)(T:∀(c:Value) (A:Around) (outer:List Env) (s:Shared) (H:Hp) (vs:List V) (Q:VK) (E:XK),Room k (A.deeper (envOfC qual (ak st) s.heap.objs.size f c))->sp vs H Q E ->
   ∃ t,QSs (bM (CXe P w) P w K mg base N qual (ak st) f c A outer s H E) (bz st) t/\t { nx:=fun _ H'=>Q .non H',rt:=Q } (start N vs) H):au P w K mg base (CXe P w) (k+1) f fd ps sp :=
 F.okE S len fun c A outer s H vs Q E O h=>let ⟨t,a,b⟩:=T c A outer s H vs Q E O h;⟨t,a.to,b⟩
theorem QSs.nox {st:List Stmt}{t:TS}(h:QSs X.nox st t):QSs X st t:=.mk (PSs.nox h.to)
theorem Bj {O:Value}{T:Shared}{c:Hp}{E:XK}{CX:CXT}:PassesOwn (model (bM CX P w K mg base N qual scope f O A outer T c E).prog (bM CX P w K mg base N qual scope f O A outer T c E).w) (bM CX P w K mg base N qual scope f O A outer T c E).A (bM CX P w K mg base N qual scope f O A outer T c E).env (bM CX P w K mg base N qual scope f O A outer T c E).xe:=PassesOwn.leaving
end
end L2
namespace L2
open PySem PySem.W PySem.Spec PySem.Calls PyProof.Rows
open PySem.SeqAt (EqAt RcAt RcNeAt)
section
variable {X:Cx}
theorem qt:OpR X (compareOp .In) (fun x y H Q=>∃ (a:Addr) (n:Str) (xs:List Str),x=.str n/\y=.ref a/\SqT X.K H a (xs.map V.str)/\Q (.bl (decide (n∈xs))) H):=by
 intro pins s Z H x y v u Q I R P h;obtain ⟨a,n,xs,rfl,rfl,ha,q⟩:=h;obtain ⟨t,rfl⟩:=R;cases P;obtain ⟨its,r,p,_⟩:=I.tuple ha;have F:∀y∈its,∃ z∈xs,∃ t,y=Value.str z t:=fun y T=>by
  obtain ⟨j,S,W⟩:=EV T;obtain ⟨x,c,R⟩:=r.at S;rw [DN] at c;cases e:xs[j]? with
  | none=>rw [e] at c;cases c
  | some z =>
   rw [e] at c;cases c;obtain ⟨t,O⟩:=R;exact ⟨z,DV e,t,W▸O⟩
 have hw:∀z∈xs,∃ t,Value.str z t∈its:=fun z M=>by
  obtain ⟨j,S,W⟩:=EV M;have e:(xs.map V.str)[j]?=some (V.str z):=by rw [DN,bt S,W];rfl
  obtain ⟨u,J,t,O⟩:=r.get e;exact ⟨t,O▸DV J⟩
 let e:Value->Bool:=fun y=>match y with | .str z _=>z == n | _=>false
 refine SeqAt.in_tupleAt e p (fun y T=>?_) ⟨.bl _,H,I,?_,q⟩
 .obtain ⟨z,_,U,rfl⟩:=F y (by simpa using T);exact EqAt.str_str z U n t
 have G:its.toArray.any e=its.any e:=by simp
 show Value.bool (its.toArray.any e)=Value.bool _;rw [G];congr 1;rw [EL,Ed,EN];constructor
 .rintro ⟨y,T,ey⟩;obtain ⟨z,M,U,rfl⟩:=F y T;have ez:z=n:=(dh z n).mp ey;exact ez▸M
 intro hn;obtain ⟨U,Y⟩:=hw n hn;exact ⟨_,Y,(dh n n).mpr rfl⟩
theorem wM {T Y R e4 S W O U f4 f5:Expr}{I G J M P b1 b2 c b4 F:TE}(g1:QE X T I)(h1:QE X W b1)(g2:QE X Y G)(h2:QE X O b2)(g3:QE X R J)(h3:QE X U c)(g4:QE X e4 M)(h4:QE X f4 b4)(g5:QE X S P)(h5:QE X f5 F):
  QE X (.Dict [some T,some Y,some R,some e4,some S] [W,O,U,f4,f5] pos) (zU [(I,b1),(G,b2),(J,c),(M,b4),(P,F)]) :=
 .mk (yU (eO g1.to h1.to (eO g2.to h2.to (eO g3.to h3.to (eO g4.to h4.to (eO g5.to h5.to yX))))) rfl rfl Dd Dd)
end
theorem j9 {k:Key}{v:V}{l:List (Key×V)}:aU ((k,v)::l) k=some v:=by unfold aU;rw [List.find?_cons_of_pos Dd];rfl
theorem ce {a b:Str}{v:V}{l:List (Key×V)}(h:a≠b):aU ((Sum.inr a,v)::l) (Sum.inr b:Key)=aU l (Sum.inr b):=by unfold aU;rw [List.find?_cons_of_neg (by simpa using fun z:a=b=>h z)]
theorem jq {k:Str}{v:V}{l:List (Key×V)}(h:∀p∈l,p.1≠(Sum.inr k:Key)):aQ l (Sum.inr k:Key) v=l++[(Sum.inr k,v)]:=by unfold aQ;rw [Di];rw [EN];rintro ⟨p,c,e⟩;exact h p c (Dp e)
end L2
namespace L2
open PySem PySem.Spec PyProof.Rows
open PySem.SeqAt (EqAt RcAt RcNeAt)
theorem As {α:Type}(p:α->Bool):∀l:List α,(l.filter p).length+(l.filter fun e=>!p e).length=l.length
 | []=>rfl
 | x::l=>by
  have c:=As p l;rw [D5,D5,Dw];cases p x
  .simp;lia
  .simp;lia
theorem kH {s:LS}(I:Gm.LInv slt s):(s.row.filter (Gm.holds s.there)).Perm (s.there.map (·.2)):=by
 have O:(s.row.filter (Gm.holds s.there)).Nodup:=I.rnd.filter _;have S:(s.there.map (·.2)).Nodup:=by rw [FX,EE];refine Fs (R:=fun a b=>a.1≠b.1) (fun {a b} ha hb h z=>h ?_) (EE.mp I.nd);rw [<-(I.inr a.1 a.2 ha).1,<-(I.inr b.1 b.2 hb).1,z]
 exact (Fd O S).mpr fun e=>by
  rw [D7,DG];constructor
  .rintro ⟨c,T⟩;exact ⟨_,Gm.holds_in T,rfl⟩
  .rintro ⟨⟨n,U⟩,c,rfl⟩;obtain ⟨T,M⟩:=I.inr n U c;exact ⟨M,I.held c⟩
theorem xv {s:LS}(I:Gm.LInv slt s):(s.row.filter (Gm.holds s.there)).length=s.there.length:=by rw [(kH I).length_eq,Dg]
end L2
namespace L2
open PySem
def Deed.fit (s:LS):Deed->Prop
 | .put n _=>Gm.dget s.there n=none
 | .drop n=>Gm.dget s.there n≠none
 | .change n _=>Gm.dget s.there n≠none
 | .take=>s.there≠[]
 | .least=>s.there≠[]
def mv (f:Str->Int)(ys:List Str)(p:LS×LS):LS×LS:=ys.foldl (fun p n=>(Gm.putL slt p.1 n (f n),Gm.dropL slt p.2 n)) p
theorem lP {f:Str->Int}{n:Str}{p:LS×LS}:mv f (ys++[n]) p=(Gm.putL slt (mv f ys p).1 n (f n),Gm.dropL slt (mv f ys p).2 n):=by unfold mv;rw [List.foldl_append];rfl
end L2
namespace HT
open PySem PyProof.Rows
section
variable {prog:Program}{w:World}{A:Around}{E:Value->Shared->Prop}{s:Shared}
theorem getItem_tuple_whole {t sl:Addr}{U W:Value}{lo:Option Int}(T:IsTup s.heap t items)(M:s.heap.IsSliceOf sl U W .none)(pl:IsPart U lo)(Y:IsPart W hi)(R:sIx items.size 0 lo=0/\sIx items.size items.size hi=items.size)(h:Q (.ref t) s)(hsz:items.size<=sizeLine):wpAny (model prog w) A (getItem (.ref t) (.ref sl)) Q E s:=by
 have P:sIx items.size items.size hi<=items.size:=vp _ _ (Dj _) hi;obtain ⟨G,O,S,F⟩:=id M;have I:s.TypeIs (.ref sl) "slice":=⟨G,O,S⟩;unfold getItem
 try with_reducible refine E5 ?_
 first | refine Dh (Dx ?_) | skip
 refine Dh (wpAny_sequenceKey T.typeIs Db ?_);refine Dh (wpAny_callSpecial?_slot (name:=Str.ofString "__getitem__") T.typeIs Ek
  (GO Ek T.typeIs entry_tuple_getitem ?_ (args_tuple_getitem _ _)))
 show wpAny _ _ (Builtin.Tuple.tupleItemsOf (.ref t) >>= _) _ _ s;refine Dh (tupleItemsOf_ T ?_);refine Dh (wpAny_typeOf I ?_);rw [Dm Db];refine Dh (dC M pl Y ?_);have c:(((sIx items.size 0 lo:Nat):Int) == 0&&(1:Int) == 1&&(sIx items.size items.size hi-sIx items.size 0 lo) == items.size)=true:=by rw [R.1,R.2];simp
 show wpAny _ _ (if (((sIx items.size 0 lo:Nat):Int) == 0&&(1:Int) == 1&&(sIx items.size items.size hi-sIx items.size 0 lo) == items.size)=true then _ else _) _ _ s;rw [Dm c];refine Dh (m:=Builtin.Tuple.tupleIsExact _) (Dh (wpAny_typeOf T.typeIs (Dx ?_)));rw [Dm Db]
 first
  | exact Gw (Dx ⟨_,rfl,Dx h⟩)
  | exact Dh (Gw (Dh (Dx (Dx ⟨_,rfl,Dx h⟩))))
  | exact Dh (Gw (Dx (Dx ⟨_,rfl,Dx h⟩)))
  | exact Dh (Gw (Dx ⟨_,rfl,Dx h⟩))
end
end HT
namespace L2
open PySem PySem.Spec PyProof.Rows
section
variable {X:Cx}
theorem ze:SlR X (fun x lo hi H Q=>∃ a xs,x=.ref a/\SqT X.K H a xs/\(HT.sIx xs.length 0 lo=0/\HT.sIx xs.length xs.length hi=xs.length)/\Q (.ref a) H):=by
 intro pins s Z H x v G Y lo hi F Q I U M pl W h;obtain ⟨a,xs,rfl,O,S,q⟩:=h;cases U;obtain ⟨its,r,T,R⟩:=I.tuple O;have c:its.toArray.size=xs.length:=by rw [DD];exact r.length.symm
 refine ⟨"tuple",_,Ek.lookup,T.typeIs,?_⟩;exact HT.getItem_tuple_whole T M pl W (by rw [c];exact S) ⟨.ref a,H,I,rfl,q⟩ (by rw [c];exact R)
theorem rC:SlR X (fun x lo hi H Q=>A8 X.K x lo hi H Q∨∃ a xs,x=.ref a/\SqT X.K H a xs/\(HT.sIx xs.length 0 lo=0/\HT.sIx xs.length xs.length hi=xs.length)/\Q (.ref a) H):=sl_tup.or ze
end
end L2
namespace HT
open PySem PyProof.Rows
section
variable {prog:Program}{w:World}{A:Around}{E:Value->Shared->Prop}{s:Shared}
theorem cat_tup0 {t:Addr}(Y:IsTup s.heap t #[])(hb:IsTup s.heap b ws.toArray)(J:Q (.ref b) s):wpAny (model prog w) A (binaryOp .Add (.ref t) (.ref b)) Q E s:=by
 obtain ⟨⟨cls,dd,M,G⟩,F,U,n,hd⟩:=id Y;obtain ⟨⟨W,S,I,R⟩,c,O,P,T⟩:=id hb;simp only at U hd O T;subst U hd O T;exact concat_meets ⟨_,F,rfl⟩ ⟨_,c,rfl⟩ HS seq_tuple_add Gs Gi (Ge _ _)
  (tuple_addW0 t b #[] ws.toArray n P dd S G R Dd) ⟨F,c,J⟩
end
end HT
namespace L2
open PySem PySem.Spec PyProof.Rows
section
variable {X:Cx}
theorem rF:OpR X (binaryOp .Add) (fun x y H Q=>∃ a b xs ys,x=.ref a/\y=.ref b/\SqT X.K H a xs/\SqT X.K H b ys/\xs.length+ys.length<=sizeLine/\(xs=[]->Q (.ref b) H)/\(xs≠[]->ys=[]->Q (.ref a) H)/\(xs≠[]->ys≠[]->∀p,H p=none->Q (.ref p) (upd H p (.tup (xs++ys))))):=by
 intro pins s Z H x y v u Q I T O h;obtain ⟨a,b,xs,ys,rfl,rfl,S,U,hz,Y,W,M⟩:=h;by_cases c:xs=[]
 .cases T;cases O;obtain ⟨its,P,J,_⟩:=I.tuple S;obtain ⟨R,r2,G,_⟩:=I.tuple U;have F:=P.nil_iff.mpr c;subst F;exact HT.cat_tup0 J G ⟨.ref b,H,I,rfl,Y c⟩
 exact zv pins s Z H _ _ v u Q I T O ⟨a,b,xs,ys,rfl,rfl,S,U,c,hz,W c,M c⟩
end
end L2
namespace L2
open PySem PySem.W PySem.Spec PySem.Calls PySem.NumText PyProof.Rows PySem.Builtin PySem.Builtin.Str
def txt (n:Int):Str:=Str.ofString (toString n)
theorem gw (m:Nat):(txt (Int.negSucc m)).cps.toList=45::(Nat.toDigits 10 (m+1)).map Char.toNat:=by unfold txt;rw [signs_ofString];show ("-"++Nat.repr (m+1)).toList.map Char.toNat=_;rw [String.toList_append,D4,Nat.toList_repr];rfl
theorem fF (m:Nat):(txt (Int.ofNat m)).cps.toList=(Nat.toDigits 10 m).map Char.toNat:=KIN.signs_num m
theorem gv (m:Nat):AllDigits ((Nat.toDigits 10 m).map Char.toNat):=by intro c O;obtain ⟨ch,T,e⟩:=DG.mp O;have r:=digit_range (Nat.isDigit_of_mem_toDigits Db Db T);rw [<-e];exact r
theorem iD (m:Nat):(Nat.toDigits 10 m).map Char.toNat≠[]:=by intro e;have h:=toDigits_len_ge 10 m;rw [IU.mp e] at h;exact absurd h Db
theorem jH {k:Nat}(hk:1<=k)(h:m<10 ^ k):((Nat.toDigits 10 m).map Char.toNat).length<=k:=by rw [Dg];exact digits10_le hk h
theorem bc (z:Str):z.length=z.cps.toList.length:=(E9 ..).symm
theorem cp {k:Nat}{n:Int}(hk:1<=k)(h:n.natAbs<10 ^ k):(txt n).length<=k+1:=by
 cases n with
 | ofNat m =>
  rw [bc,fF];exact Dq (jH hk h) (ET _)
 | negSucc m =>
  rw [bc,gw];exact E2 (jH hk h)
theorem zb {n:Int}(h:n.natAbs<10 ^ 600):PySem.intText? (txt n)=some n:=by
 have l:=cp Db h;cases n with
 | ofNat m =>
  have e:=intText_digits (x:=txt (Int.ofNat m)) (by rw [fF];exact gv m) (by rw [fF];exact iD m) Dc;rw [fF,KIN.val_back] at e;exact e
 | negSucc m =>
  have e:=intText_neg (gw m) (gv _) (iD _) Dc;rw [KIN.val_back] at e;exact e
theorem gr (n:Int):32∉(txt n).cps.toList:=fun z=>(intText_free_32 n).mp z
theorem bI {n:Int}(h:n.natAbs<10 ^ 500):n.natAbs.log2<1920:=by
 by_cases z:n.natAbs=0
 .rw [z];decide
 exact (IT z).mpr (EB h C9)
theorem tH {c:Nat}:∀{x y u v:List Nat},c∉x->c∉y->x++c::u=y++c::v->x=y/\u=v
 | [],[],_,_,_,_,e=>⟨rfl,(FU e).2⟩
 | [],b::y,_,_,_,hy,e=>absurd (FU e).1 (fun z=>hy (z▸DO ..))
 | a::x,[],_,_,hx,_,e=>absurd (FU e).1 (fun z=>hx (z▸DO ..))
 | a::x,b::y,u,v,hx,hy,e=>by obtain ⟨O,T⟩:=FU e;obtain ⟨I,S⟩:=tH (fun z=>hx (Dr _ z)) (fun z=>hy (Dr _ z)) T;exact ⟨by rw [O,I],S⟩
theorem bD (a b:Str):(a++b).cps.toList=a.cps.toList++b.cps.toList:=GZ
theorem fH {c:Nat}{a b:Str}{l:List Str}:(Str.join ⟨#[c]⟩ (a::b::l)).cps.toList=a.cps.toList++c::(Str.join ⟨#[c]⟩ (b::l)).cps.toList:=by show (a++⟨#[c]⟩++Str.join ⟨#[c]⟩ (b::l)).cps.toList=_;rw [bD,bD,EI];rfl
theorem oA {c:Nat}:∀{as bs:List Str},as≠[]->bs≠[]->(∀p∈as,c∉p.cps.toList)->(∀p∈bs,c∉p.cps.toList)->Str.join ⟨#[c]⟩ as=Str.join ⟨#[c]⟩ bs->as=bs
 | [],_,h,_,_,_,_=>absurd rfl h
 | _,[],_,h,_,_,_=>absurd rfl h
 | [a],[b],_,_,_,_,e=>by rw [show a=b from e]
 | [a],b::b'::l,_,_,ha,_,e=>by
  have q:=congrArg (fun z:Str=>z.cps.toList) e;rw [fH] at q;exact absurd (show c∈a.cps.toList by rw [show a.cps.toList=_ from q];simp) (ha a Dd)
 | a::a'::l,[b],_,_,_,hb,e=>by
  have q:=congrArg (fun z:Str=>z.cps.toList) e;rw [fH] at q;exact absurd (show c∈b.cps.toList by rw [show b.cps.toList=_ from q.symm];simp) (hb b Dd)
 | a::a'::l,b::b'::m,_,_,ha,hb,e=>by have q:=congrArg (fun z:Str=>z.cps.toList) e;rw [fH,fH] at q;obtain ⟨I,O⟩:=tH (ha a Dd) (hb b Dd) q;rw [cF I,oA Dd Dd (fun p T=>ha p (Dr _ T)) (fun p T=>hb p (Dr _ T)) (cF O)]
theorem nZ {ws:List Str}(c:ws≠[])(h:∀p∈ws,32∉p.cps.toList):Txt.split (Str.join " " ws) " "=ws:=by
 have e:(" ":Str)=⟨#[32]⟩:=by decide +kernel
 rw [e];refine oA ?_ c (StrLaws.split_free _ _) h (StrLaws.join_split _ _);intro z;have:=split_pos (Str.join ⟨#[32]⟩ ws) ⟨#[32]⟩;rw [z] at this;exact absurd this Db
section
variable {X:Cx}
theorem tY:OpR X (binaryOp .Mult) (fun x y H Q=>∃ (c:Nat) (k:Int),x=.str ⟨#[c]⟩/\y=.int k/\0<=k/\k<=1000/\∀r:Str,r.cps.toList=List.replicate k.toNat c->Q (.str r) H):=by
 intro pins s Z H x y v u Q I O R h;obtain ⟨c,k,rfl,rfl,Y,W,q⟩:=h;obtain ⟨t,rfl⟩:=O;obtain ⟨G,rfl⟩:=R;refine PySem.SB.mul ⟨by rw [DF Dc,DF Dc];rfl,fun U _ S=>?_,fun _ _=>?_⟩ fun F M=>⟨.str _,H,I.tok _,⟨_,rfl⟩,q _ (mul_one_list c k)⟩
 .have:(1000:Int)<=(2 ^ 63-1) / k:=Int.le_ediv_of_mul_le Dc Dc;have T:(⟨#[c]⟩:Str).length=1:=rfl;rw [T] at S;lia
 unfold PySem.Builtin.Str.tooLong;have T:(⟨#[c]⟩:Str).length=1:=rfl;rw [T];exact DF (Nat.not_lt.mpr (Dq (show 1*k.toNat<=1000 by lia) Db))
end
structure AbcN (z:Str)(m:Nat):Prop where
 lo:1<=z.length
 hi:z.length<=m
 abc:∀c∈z.cps.toList,97<=c/\c<=122
theorem AbcN.app {a b:Str}(x:AbcN a m)(y:AbcN b n):AbcN (a++b) (m+n) where
 lo:=by rw [bc,bD,Ds,<-bc];have:=x.lo;lia
 hi:=by rw [bc,bD,Ds,<-bc,<-bc];have:=x.hi;have:=y.hi;lia
 abc:=fun c T=>by rw [bD] at T;exact (Du.mp T).elim (x.abc c) (y.abc c)
theorem AbcN.mono {a:Str}(x:AbcN a m)(h:m<=n):AbcN a n:=⟨x.lo,Dq x.hi h,x.abc⟩
theorem AbcN.of (h:(decide (1<=z.length)&&decide (z.length<=m)&&z.cps.toList.all fun c=>decide (97<=c)&&decide (c<=122))=true):AbcN z m:=by rw [DP,DP,FD] at h;refine ⟨Dp h.1.1,Dp h.1.2,fun c T=>?_⟩;have:=h.2 c T;rw [DP] at this;exact ⟨Dp this.1,Dp this.2⟩
theorem AbcN.one {c:Nat}(O:97<=c)(T:c<=122):AbcN ⟨#[c]⟩ 1:=⟨by show 1<=1;decide,by show 1<=1;decide,fun d hd=>by
 rw [show (⟨#[c]⟩:Str).cps.toList=[c] from rfl,DI] at hd;subst hd;exact ⟨O,T⟩⟩
theorem AbcN.free (x:AbcN z m):32∉z.cps.toList:=fun h=>by have:=x.abc 32 h;lia
theorem AbcN.asc (x:AbcN z m):z.cps.all (·<128)=true:=by rw [<-Array.all_toList,FD];intro c T;have:=x.abc c T;exact Dk Dc
theorem aR (a b:Str):(a++b).length=a.length+b.length:=by rw [bc,bD,Ds,<-bc,<-bc]
theorem BY {T I g:Str}{p:Nat}(M:T.cps.toList=List.replicate m p)(U:I.cps.toList=List.replicate n p)(R:97<=p)(S:p<=122)(O:AbcN g 1):AbcN (T++g++I) (m+1+n):=by
 have F:T.length=m:=by rw [bc,M,Eo]
 have G:I.length=n:=by rw [bc,U,Eo]
 have:=O.lo;have:=O.hi;refine ⟨by rw [aR,aR];lia,by rw [aR,aR];lia,fun c W=>?_⟩;rw [bD,bD,M,U] at W;rcases Du.mp W with z | z
 .rcases Du.mp z with y | y
  .rw [Ht y];exact ⟨R,S⟩
  .exact O.abc c y
 rw [Ht z];exact ⟨R,S⟩
end L2
namespace L2
open PySem
theorem bh (a b c:Str):a++b++c=a++(b++c):=cF (by rw [bD,bD,bD,bD,EI])
theorem fk:∀(ws:List Str) (a:Str),ws.foldl (fun (T w:Str)=>T++" "++w) a=Str.join " " (a::ws)
 | [],a=>rfl
 | b::ws,a=>by
  rw [List.foldl_cons,fk ws];cases ws with
  | nil=>rfl
  | cons c ws =>
   show (a++" "++b)++" "++Str.join " " (c::ws)=a++" "++(b++" "++Str.join " " (c::ws));rw [bh,bh (a++" ") b,<-bh b]
theorem jW {j:Int}(T:0<=j)(O:j<26):atI (Str.ofString "abcdefghijklmnopqrstuvwxyz").cps.toList j=some (97+j.toNat):=by
 obtain ⟨n,rfl⟩:=Gq T;have c:n<26:=by lia
 have:∀n:Fin 26,(Str.ofString "abcdefghijklmnopqrstuvwxyz").cps.toList[n.val]?=some (97+n.val):=by decide +kernel
 exact aW (this ⟨n,c⟩)
section
variable {row:List En}{hold:En->Bool}{k:Nat}{P P' ps ps':List Nat}
theorem pX {a b c:Nat}(h:ltI row a b=false)(h':ltI row b c=false):ltI row a c=false:=zr (jY _ _) (jY _ _) (jY _ _) h h'
theorem iB {a:Nat}:ltI row a a=false:=xq (jY _ _)
theorem xV (c:Hg.IsH lE row)(O:0<m)(T:m<row.length):ltI row m ((m-1) / 2)=false:=by
 rw [qp];by_cases e:Hg.g row m=Hg.g row ((m-1) / 2)
 .rw [Dm e];exact DF Dc
 rw [Di e,mf];exact c m O T
structure CV (row:List En)(P ps:List Nat):Prop where
 zero:0<row.length->0∈P++ps
 kid:∀i∈ps,∀j,(j-1) / 2=i->0<j->j<row.length->j∈P++ps
theorem Fst.cov (h:Fst row hold k P ps):CV row P ps:=by
 induction h with
 | start=>exact ⟨fun z=>by rw [Ez];exact D7.mpr ⟨DI.mpr rfl,Dk z⟩,fun _ z=>nomatch z⟩
 | @step P ps i h g mi mn ih =>
  have c:∀j,j∈P++ps->j∈(P.erase i++eR row.length i)++(ps++[i]):=fun j z=>by
   simp only [Du,DI] at z ⊢;rcases z with z | z
   .by_cases e:j=i
    .exact .inr (.inr e)
    .exact .inl (.inl ((IH e).mpr z))
   .exact .inr (.inl z)
  refine ⟨fun z=>c 0 (ih.zero z),fun x O j e I T=>?_⟩;rcases Du.mp O with z | z
  .exact c j (ih.kid x z j e I T)
  .have S:x=i:=De z;refine DT _ (DE _ (D7.mpr ⟨?_,Dk T⟩));simp only [ax,ah,Dv];lia
theorem Fst.ge (S:Hg.IsH lE row)(h:Fst row hold k P ps):∀m,m<row.length->m∉ps->∃ j∈P,ltI row m j=false:=by
 have C:=h.cov;intro m
 induction m using Nat.strongRecOn with
 | ind m ih =>
  intro c T;by_cases I:m=0
  .subst I;rcases Du.mp (C.zero c) with z | z
   .exact ⟨0,z,iB⟩
   .exact absurd z T
  .by_cases O:(m-1) / 2∈ps
   .rcases Du.mp (C.kid _ O m rfl Dc c) with z | z
    .exact ⟨m,z,iB⟩
    .exact absurd z T
   .obtain ⟨j,U,R⟩:=ih ((m-1) / 2) Dc Dc O;exact ⟨j,U,pX (xV S Dc c) R⟩
theorem Fst.srt (S:Hg.IsH lE row)(h:Fst row hold k P ps):ps.Pairwise (fun a b=>ltI row b a=false)/\∀a∈ps,∀j∈P,ltI row j a=false:=by
 induction h with
 | start=>exact ⟨List.Pairwise.nil,fun _ z=>nomatch z⟩
 | @step P ps i h g mi mn ih =>
  have O:∀j∈eR row.length i,ltI row j i=false:=fun j c=>by
   obtain ⟨a,b⟩:=D7.mp c;have b:=Dp b;simp only [ax,ah,Dv] at a;have e:(j-1) / 2=i:=by lia
   have:=xV S (m:=j) Dc b;rw [e] at this;exact this
  refine ⟨?_,fun a T j c=>?_⟩
  .rw [List.pairwise_append];exact ⟨ih.1,List.pairwise_singleton _ _,fun a T b R=>by rw [De R];exact ih.2 a T i mi⟩
  .have I:ltI row j i=false:=by
    rcases Du.mp c with z | z
    .exact mn j (GL z)
    .exact O j z
   rcases Du.mp T with z | z
   .exact pX I (ih.2 a z i mi)
   .rw [De z];exact I
theorem Fst.weak {c:Nat}(hk:k<=c)(h:Fst row hold k P ps):Fst row hold c P ps:=by
 induction h with
 | start=>exact .start
 | step h g mi mn ih=>exact .step ih Dc mi mn
theorem xW:∀{P:List Nat},P≠[]->∃ i∈P,∀j∈P,ltI row j i=false
 | [],h=>absurd rfl h
 | [a],_=>⟨a,Dd,fun j c=>by rw [De c];exact iB⟩
 | a::b::P,_=>by
  obtain ⟨i,hi,T⟩:=xW (P:=b::P) Dd;cases e:ltI row a i with
  | true =>
   refine ⟨a,Dd,fun j c=>?_⟩;rcases ax.mp c with z | z
   .rw [z];exact iB
   .exact pX (T j z) (Bo e)
  | false =>
   refine ⟨i,Dr _ hi,fun j c=>?_⟩;rcases ax.mp c with z | z
   .rw [z];exact e
   .exact T j z
theorem Fst.ends:∀(n:Nat) {P ps:List Nat},Fst row hold k P ps->row.length-ps.length=n->∃ P' ps',ya row hold k P' ps':=by
 intro n
 induction n using Nat.strongRecOn with
 | ind n ih =>
  intro P ps h e;by_cases d:k<=(bf row hold ps).length∨P=[]
  .exact ⟨P,ps,h,d⟩
  .have d1:¬ k<=(bf row hold ps).length:=fun z=>d (.inl z);have d2:P≠[]:=fun z=>d (.inr z);obtain ⟨i,hi,c⟩:=xW (row:=row) d2;have h':=Fst.step h Dc hi c;have l:=h.len;have T:0<P.length:=List.length_pos_iff.mpr d2;exact ih (row.length-(ps++[i]).length) (by rw [Ds];show _-(ps.length+1)<n;lia) h' rfl
theorem mq (ps:List Nat):(bf row hold ps).length<=ps.length:=by unfold bf;refine Dq (Ec _ _) ?_;rw [Dg];exact Dj _
theorem oH (a b:List Nat):bf row hold (a++b)=bf row hold a++bf row hold b:=by unfold bf;rw [D4,Gr]
theorem Fst.hk (h:Fst row hold k P ps):(bf row hold ps).length<=k:=by
 induction h with
 | start=>exact D6 _
 | @step P ps i h g mi mn ih =>
  rw [oH,Ds];have:=mq (row:=row) (hold:=hold) [i];show _+_<=k;have e:[i].length=1:=rfl;lia
theorem uV:(List.range row.length).map (Hg.g row)=row:=by refine List.ext_getElem Dd fun i T c=>?_;rw [List.getElem_map,List.getElem_range,Hg.g_get c]
theorem xm (S:Hg.IsH lE row)(k:Nat):∃ c,Fst row hold (k+row.length+1) [] c/\c.length=row.length/\(c.map (Hg.g row)).Perm row:=by
 obtain ⟨P,ps,h,d⟩:=Fst.ends (row:=row) (hold:=hold) (k:=k+row.length+1) _ Fst.start rfl;have l:=h.len;have R:=mq (row:=row) (hold:=hold) ps;have O:P=[]:=by
  rcases d with z | z
  .lia
  .exact z
 subst O;have I:=h.inv;have T:ps.Perm (List.range row.length):=(Fd (by simpa using I.nd) List.nodup_range).mpr fun m=>by
  rw [Fn];constructor
  .intro z;exact I.lt m (DE _ z)
  .intro z;by_cases q:m∈ps
   .exact q
   .obtain ⟨_,y,_⟩:=h.ge S m z q;cases y
 refine ⟨ps,h,by rw [T.length_eq,EK],?_⟩;have:=T.map (Hg.g row);rw [uV] at this;exact this
theorem A6 {k I:Nat}{c:List Nat}(h:Fst row hold k P ps)(T:Fst row hold I [] c)(hk:k<=I)(l:ps.length<=c.length):ps=c.take ps.length:=by
 have h':=h.weak hk;by_cases e:ps.length<c.length
 .obtain ⟨S,f,_,_⟩:=T.pre _ e;exact (h'.one f (by rw [Es];lia)).1
 have O:c.length=ps.length:=by lia
 rw [<-O,D9];exact (h'.one T O).1
end
def pW (e:En):Int×Str:=(e.w,e.n)
theorem Ag {a b:En}(h:lE b a=false):ltP (pW b) (pW a)=false:=by
 cases e:ltP (pW b) (pW a) with
 | false=>rfl
 | true =>
  rw [lZ] at e;have:lE b a=true:=by
   rw [Gm.ltE_iff];rcases e with z | ⟨z,y⟩
   .exact .inl z
   .refine .inr ⟨z,.inl ⟨fun q=>?_,y⟩⟩;have c:slt b.n a.n=true:=y;rw [q,slt_slo.irr] at c;cases c
  rw [this] at h;cases h
theorem Bq {row:List En}{j:Nat}(h:ltI row j i=false):lE (Hg.g row j) (Hg.g row i)=false:=by
 rw [qp] at h;by_cases e:Hg.g row j=Hg.g row i
 .rw [e];exact (Gm.od_ltE slt_slo).irr _
 rw [Di e,mf] at h;exact h
theorem nT {t:LS}(I:Gm.LInv slt t):((t.row.filter (Gm.holds t.there)).map pW).Perm (prs t.there):=by
 have h:=(kH I).map pW;rw [Iu] at h;have e:t.there.map (pW ∘ fun p=>p.2)=prs t.there:=ED fun p c=>by show (p.2.w,p.2.n)=(p.2.w,p.1);rw [(I.inr p.1 p.2 c).1]
 rw [e] at h;exact h
theorem nR {t:LS}(I:Gm.LInv slt t){k:Nat}{P ps:List Nat}(h:Fst t.row (Gm.holds t.there) k P ps):((bf t.row (Gm.holds t.there) ps).map pW).Pairwise fun x y=>ltP y x=false:=by rw [EE];unfold bf;refine List.Pairwise.sublist FA ?_;rw [EE];exact (h.srt I.hp).1.imp fun z=>Ag (Bq z)
theorem qP {t:LS}(I:Gm.LInv slt t)(F:every.Perm (prs t.there))(se:every.Pairwise fun x y=>ltP y x=false){k:Nat}{P ps:List Nat}(h:ya t.row (Gm.holds t.there) k P ps):
  (bf t.row (Gm.holds t.there) ps).map pW=every.take k/\ps.length+t.there.length<=min k t.there.length+t.row.length:=by
 obtain ⟨T,Y,lf,W⟩:=xm (hold:=Gm.holds t.there) I.hp k;have l:=h.1.len;have ep:=A6 h.1 Y Dc Dc;have O:bf t.row (Gm.holds t.there) T=bf t.row (Gm.holds t.there) ps++bf t.row (Gm.holds t.there) (T.drop ps.length):=by
  have e0:T=ps++T.drop ps.length:=by
   conv=>lhs;rw [<-GK ps.length T]
   rw [<-ep]
  conv=>lhs;rw [e0]
  rw [oH]
 have pm:((bf t.row (Gm.holds t.there) T).map pW).Perm (prs t.there):=((W.filter (Gm.holds t.there)).map pW).trans (nT I);have R:(bf t.row (Gm.holds t.there) T).map pW=every:=yr pm F (nR I Y) se;have le:every.length=t.there.length:=by rw [F.length_eq];exact Dg ..
 have S:(bf t.row (Gm.holds t.there) T).length=t.there.length:=by rw [<-le,<-R,Dg]
 have hk:=h.1.hk;have G:(bf t.row (Gm.holds t.there) ps).length=min k t.there.length:=by
  have q:(bf t.row (Gm.holds t.there) ps).length<=t.there.length:=by rw [<-S,O,Ds];lia
  rcases h.2 with z | z
  .lia
  .have U:=h.1;rw [z] at U;have lp:ps.length=t.row.length:=by
    have I0:=U.inv;have all:∀m,m<t.row.length->m∈ps:=fun m M=>by
     by_cases q:m∈ps
     .exact q
     .obtain ⟨_,y,_⟩:=U.ge I.hp m M q;cases y
    have a:=Gm.nodup_len (List.nodup_range (n:=t.row.length)) (fun m M=>all m (Fn.mp M));rw [EK] at a;lia
   have:T.drop ps.length=[]:=List.drop_of_length_le Dc;rw [this] at O;have e2:bf t.row (Gm.holds t.there) []=[]:=rfl;rw [e2,Ez] at O;rw [O] at S;lia
 refine ⟨?_,?_⟩
 .rw [O,D4] at R;rw [<-R];have l1:((bf t.row (Gm.holds t.there) ps).map pW).length=min k t.there.length:=by rw [Dg];exact G
  by_cases c:k<=t.there.length
  .rw [FE Dc,Eu Dc]
  .have c2:(bf t.row (Gm.holds t.there) (T.drop ps.length)).length=0:=by rw [O,Ds] at S;lia
   rw [DL.mp c2,Gf,Ez,Eu Dc]
 have a:=As (Gm.holds t.there) (ps.map (Hg.g t.row));have b:=As (Gm.holds t.there) t.row;have c:=xv I;have d:((ps.map (Hg.g t.row)).filter fun e=>!Gm.holds t.there e).length<=(t.row.filter fun e=>!Gm.holds t.there e).length:=by have J:=(W.filter fun e=>!Gm.holds t.there e).length_eq;rw [<-J];refine List.Sublist.length_le (List.Sublist.filter _ (Ib _ ?_));rw [ep];exact List.take_sublist _ _
 rw [Dg] at a;have e:((ps.map (Hg.g t.row)).filter (Gm.holds t.there)).length=min k t.there.length:=G;lia
end L2
namespace L2
open PySem PySem.W PySem.Spec PySem.Calls PyProof.Rows
section
variable {prog:Program}{w:World}{A:Around}{E:Value->Shared->Prop}{s:Shared}{K:Frag}{x y C:Addr}{ox oy:Obj}{od od':Option Obj}
theorem xS {rest:List Value}{Q:Unit->Shared->Prop}(X:K.In s.heap)(I:InstAt s.heap x ox C od)(O:subIn K (.ref C) (.type "object")=some true)(c:argsOk "object.__eq__" ⟨.ref x::rest,[]⟩)(T:Q () s):
  wpAny (model prog w) A (checkBuiltinCall "object.__eq__" ⟨.ref x::rest,[]⟩) Q E s:=by
 simp only [checkBuiltinCall,PySem.F.cmpKind_eq,PySem.F.cmpSplit_eq];refine Dh ?_;unfold isInstance;refine Dh (I.type.here ((looks_subIn X O).here ?_));simp only [Bool.not_true,El,FF];cases hsig:Manifest.signature? "object.__eq__" with
 | none=>exact Dx T
 | some sig =>
  simp only [argsOk,hsig] at c;have S:Bind.checkArgs "object.__eq__" sig ⟨.ref x::rest,[]⟩=pure ():=c;show wpAny _ A (Bind.checkArgs "object.__eq__" sig ⟨.ref x::rest,[]⟩) Q E _;rw [S];exact Dx T
theorem zH (X:K.In s.heap)(I:InstAt s.heap x ox C od)(J:InstAt s.heap y oy C od')(c:subIn K (.ref C) (.type "object")=some true)(O:x=y->Q (.bool true) s)(T:x≠y->Q .notImplemented s):
  wpAny (model prog w) A (call (.builtin "object.__eq__") [.ref x,.ref y]) Q E s:=by
 refine wpAny_call (codeAny_call_builtin PySem.F.cmp_object.eq.plain PySem.F.cmpEntry_eq (xS X I c (PySem.F.cmpArgs_eq _ _) ?_));by_cases e:x=y
 .subst e;exact objEq_entry_same (O rfl)
 exact objEq_entry_other e I.at_ J.at_ (by rw [I.cls];intro z;cases z) (T e)
theorem xh {Q:Option Value->Shared->Prop}(X:K.In s.heap)(I:InstAt s.heap x ox C od)(J:InstAt s.heap y oy C od')(T:subIn K (.ref C) (.type "object")=some true)(R:findIn K (.ref C) "__eq__"=some (some (.builtin "object.__eq__")))(S:x=y->Q (some (.bool true)) s)(O:x≠y->Q none s):
  wpAny (model prog w) A (tryCompare (.ref x) "__eq__" (.ref y)) Q E s:=by
 simp only [tryCompare];refine Dh ?_;simp only [callSpecialIfBound?,bindSpecialIfBound?];refine E5 (Dh (Dh (Dh (I.type.here ((looks_findIn X R).here ?_)))));simp only [PySem.F.cmp_object.eq.bind];refine Dh (wpAny_askSetting (wpAny_ite ?_));have c:wpAny (model prog w) A (call (.builtin "object.__eq__") ([.ref x]++[.ref y]) >>= fun v=>pure (some v)) (fun a s'=>wpAny (model prog w) A (match a with | some Value.notImplemented=>pure none | none=>pure none | some v=>pure (some v)) Q E s') E s :=
  Dh (zH X I J T (fun e=>Dx (Dx (S e))) fun e=>Dx (Dx (O e)))
 split
 .exact Dh (Dx (Dx c))
 exact wpAny_tryCatch (Dh (Dx (Dx c)))
theorem Cb (O:A.units<cLine)(X:K.In s.heap)(I:InstAt s.heap x ox C od)(J:InstAt s.heap y oy C od')(c:subIn K (.ref C) (.type "object")=some true)(T:findIn K (.ref C) "__eq__"=some (some (.builtin "object.__eq__")))(h:Q (.bool (decide (x=y))) s):
  wpAny (model prog w) A (compareOp .Eq (.ref x) (.ref y)) Q E s:=by
 show wpAny (model prog w) A (richCompare .Eq (.ref x) (.ref y)) Q E s;simp only [richCompare,cmpInfo_Eq,oneThing_ref];refine E5 (Dh (wpAny_cRoomFor O (Dh (I.type.here (Dh (J.type.here ?_))))));rw [Di Dd];refine Dh (Dx ?_);rw [Di Db];refine Dh (xh X I J c T (fun e=>?_) fun e=>?_)
 .rw [Dk e] at h;exact Dx h
 rw [DF e] at h;dsimp only;rw [Dm Db];refine Dh (xh X J I c T (fun z=>absurd z.symm e) fun _=>?_);dsimp only;refine Dh (Gw (Dh (wpAny_isSame_ref_other e I.at_ J.at_ (by rw [I.cls];intro z;cases z) (Dx h))))
end
section
variable {X:Cx}
theorem zj (G:X.A.units<cLine)(M:subIn X.K (.ref C) (.type "object")=some true)(he:findIn X.K (.ref C) "__eq__"=some (some (.builtin "object.__eq__"))):
  OpR X (compareOp .Eq) (fun x y H Q=>∃ (a b O T:Addr) (fs c:List (Str×V)),x=.ref a/\y=.ref b/\H a=some (.ins C O fs)/\H b=some (.ins C T c)/\Q (.bl (decide (a=b))) H):=by
 intro pins s Z H x y v u Q I U F h;obtain ⟨a,b,O,T,fs,c,rfl,rfl,J,R,q⟩:=h;cases U;cases F;obtain ⟨mA,S,_⟩:=eV I.hok J;obtain ⟨mB,Y,_⟩:=eV I.hok R;obtain ⟨od,J1,_⟩:=S.look;obtain ⟨P,W,_⟩:=Y.look;exact Cb G I.kIn J1 W M he ⟨.bl _,H,I,rfl,q⟩
end
theorem kY {α:Type}[Inhabited α]{lt:α->α->Bool}:∀{f:Nat} {xs:List α} {p lk:Nat},Hg.up lt f xs p lk=((Hg.up lt f xs p 0).1,lk+(Hg.up lt f xs p 0).2)
 | 0,xs,p,lk=>rfl
 | f+1,xs,p,lk=>by
  by_cases h:0<p
  .cases q:lt (Hg.g xs p) (Hg.g xs ((p-1) / 2)) with
   | true =>
    rw [Hg.up_go h q,Hg.up_go h q,kY (lk:=lk+1),kY (lk:=0+1)];simp only [Hw,true_and];lia
   | false=>rw [Hg.up_stay h q,Hg.up_stay h q]
  .rw [Hg.up_stop h,Hg.up_stop h];rfl
theorem mD {α:Type}[Inhabited α]{lt:α->α->Bool}:∀{k:Nat} {xs:List α} {lk:Nat},Hg.mk lt k xs lk=((Hg.mk lt k xs 0).1,lk+(Hg.mk lt k xs 0).2)
 | 0,xs,lk=>rfl
 | k+1,xs,lk=>by unfold Hg.mk;rw [mD,mD (lk:=0+_)];simp only [Hw,true_and];lia
theorem nB:QS X (.Break pos) Bt:=.mk (fun _ _ Z H _ I h=>wpAny_Break ⟨Z,H,I,h⟩)
def dkK (r td:Addr)(s:LS)(wk:Nat):List (Key×V):=[(Sum.inr "row",.ref r),(Sum.inr "now",.ref td),(Sum.inr "next",.int s.stamp),(Sum.inr "slack",.int s.slack),(Sum.inr "work",.int wk)]
theorem dk_ne:("row":Str)≠"now"/\("row":Str)≠"next"/\("row":Str)≠"slack"/\("row":Str)≠"work"/\("now":Str)≠"next"/\("now":Str)≠"slack"/\("now":Str)≠"work"/\("next":Str)≠"slack"/\("next":Str)≠"work"/\("slack":Str)≠"work":=by decide +kernel
theorem wT {z:Int}{r:Addr}:gX [] [(Sum.inr "row",.ref r),(Sum.inr "now",.ref td),(Sum.inr "next",.int 0),(Sum.inr "slack",.int z),(Sum.inr "work",.int 0)]=dkK r td (Gm.newL z) 0:=by
 have q:∀{a b:Str},a≠b->(Sum.inr a:Key)≠Sum.inr b:=fun h z=>h (Eb z);have I:aQ ([]:List (Key×V)) (Sum.inr "row") (V.ref r)=([(Sum.inr "row",V.ref r)]:List (Key×V)):=jq (l:=[]) (fun p c=>nomatch c);have O:aQ ([(Sum.inr "row",V.ref r)]:List (Key×V)) (Sum.inr "now") (V.ref td)=([(Sum.inr "row",V.ref r),(Sum.inr "now",V.ref td)]:List (Key×V)):=jq (by
  intro p c;simp only [ax,ah,Dv] at c;rcases c with rfl
  .exact q dk_ne.1)
 have T:aQ ([(Sum.inr "row",V.ref r),(Sum.inr "now",V.ref td)]:List (Key×V)) (Sum.inr "next") (V.int 0)=([(Sum.inr "row",V.ref r),(Sum.inr "now",V.ref td),(Sum.inr "next",V.int 0)]:List (Key×V)):=jq (by
  intro p c;simp only [ax,ah,Dv] at c;rcases c with rfl | rfl
  .exact q dk_ne.2.1
  .exact q dk_ne.2.2.2.2.1)
 have S:aQ ([(Sum.inr "row",V.ref r),(Sum.inr "now",V.ref td),(Sum.inr "next",V.int 0)]:List (Key×V)) (Sum.inr "slack") (V.int z)=([(Sum.inr "row",V.ref r),(Sum.inr "now",V.ref td),(Sum.inr "next",V.int 0),(Sum.inr "slack",V.int z)]:List (Key×V)):=jq (by
  intro p c;simp only [ax,ah,Dv] at c;rcases c with rfl | rfl | rfl
  .exact q dk_ne.2.2.1
  .exact q dk_ne.2.2.2.2.2.1
  .exact q dk_ne.2.2.2.2.2.2.2.1)
 have R:aQ ([(Sum.inr "row",V.ref r),(Sum.inr "now",V.ref td),(Sum.inr "next",V.int 0),(Sum.inr "slack",V.int z)]:List (Key×V)) (Sum.inr "work") (V.int 0)=([(Sum.inr "row",V.ref r),(Sum.inr "now",V.ref td),(Sum.inr "next",V.int 0),(Sum.inr "slack",V.int z),(Sum.inr "work",V.int 0)]:List (Key×V)):=jq (by
  intro p c;simp only [ax,ah,Dv] at c;rcases c with rfl | rfl | rfl | rfl
  .exact q dk_ne.2.2.2.1
  .exact q dk_ne.2.2.2.2.2.2.1
  .exact q dk_ne.2.2.2.2.2.2.2.2.1
  .exact q dk_ne.2.2.2.2.2.2.2.2.2)
 show (aQ (aQ (aQ (aQ (aQ ([]:List (Key×V)) (Sum.inr "row":Key) (V.ref r)) (Sum.inr "now":Key) (V.ref td)) (Sum.inr "next":Key) (V.int 0)) (Sum.inr "slack":Key) (V.int z)) (Sum.inr "work":Key) (V.int 0))=_;rw [I,O,T,S,R];rfl
structure BS (H:Hp)(st r td:Addr)(s:LS)(wk:Nat):Prop where
 hs:H st=some (.dK (dkK r td s wk))
 hr:∃ xs,H r=some (.lst xs)/\RR H xs s.row
 ht:∃ ks,H td=some (.dK ks)/\KR H ks s.there
 ne:st≠td
def oh (tl:List (Key×V)):Prop:=(∀p∈tl,p.1=(Sum.inr (Str.ofString "more"):Key))/\tl.length<=1
def dmK (tl:List (Key×V))(r td:Addr)(s:LS)(wk:Nat):List (Key×V):=(Sum.inr (Str.ofString "row"),V.ref r)::(Sum.inr (Str.ofString "now"),V.ref td)::(Sum.inr (Str.ofString "next"),V.int s.stamp)::(Sum.inr (Str.ofString "slack"),V.int s.slack)::(Sum.inr (Str.ofString "work"),V.int wk)::tl
section
variable {tl:List (Key×V)}{r td D:Addr}{s:LS}{wk w2:Nat}
theorem jL:aU (dmK tl r td s wk) (Sum.inr "row":Key)=some (.ref r):=by unfold dmK;rw [j9]
theorem wc:aU (dmK tl r td s wk) (Sum.inr "now":Key)=some (.ref td):=by unfold dmK;rw [ce C9,j9]
theorem zp:aU (dmK tl r td s wk) (Sum.inr "next":Key)=some (.int s.stamp):=by unfold dmK;rw [ce C9,ce C9,j9]
theorem vH:aU (dmK tl r td s wk) (Sum.inr "slack":Key)=some (.int s.slack):=by unfold dmK;rw [ce C9,ce C9,ce C9,j9]
theorem gu:aU (dmK tl r td s wk) (Sum.inr "work":Key)=some (.int wk):=by unfold dmK;rw [ce C9,ce C9,ce C9,ce C9,j9]
theorem f9 (ok:oh tl):(dmK tl r td s wk).length<sizeLine:=by have:=ok.2;have e:(dmK tl r td s wk).length=tl.length+5:=rfl;rw [e];exact DY (show tl.length+5<=6 by lia) Db
theorem pQ {k:Str}{v:V}(ok:∀p∈tl,p.1=(Sum.inr (Str.ofString "more"):Key))(h:k≠"more"):tl.map (fun c=>if c.1=(Sum.inr k:Key) then (c.1,v) else c)=tl:=by
 induction tl with
 | nil=>rfl
 | cons p l ih =>
  rw [DH,ih fun q T=>ok q (Dr _ T),Di];rw [ok p (DO ..)];exact fun z=>h (Eb z).symm
theorem lX {k:Str}{v:V}(h:k∈(["row","now","next","slack","work"]:List Str)):aQ (dmK tl r td s wk) (Sum.inr k:Key) v=(dmK tl r td s wk).map fun c=>if c.1=(Sum.inr k:Key) then (c.1,v) else c:=by
 unfold aQ;rw [Dm];rw [EN];simp only [ax,ah,Dv] at h;unfold dmK;rcases h with rfl | rfl | rfl | rfl | rfl
 .exact ⟨(Sum.inr "row",.ref r),Dd,Dk rfl⟩
 .exact ⟨(Sum.inr "now",.ref td),Dd,Dk rfl⟩
 .exact ⟨(Sum.inr "next",.int s.stamp),Dd,Dk rfl⟩
 .exact ⟨(Sum.inr "slack",.int s.slack),Dd,Dk rfl⟩
 exact ⟨(Sum.inr "work",.int wk),Dd,Dk rfl⟩
theorem An (ok:oh tl)(T:s'.slack=s.slack)(c:s'.stamp=s.stamp):aQ (dmK tl r td s wk) (Sum.inr "row":Key) (.ref D)=dmK tl D td s' wk:=by rw [lX Dd];unfold dmK;simp only [DH];rw [Dm trivial,Di (fun z=>absurd (Eb z) C9),Di (fun z=>absurd (Eb z) C9),Di (fun z=>absurd (Eb z) C9),Di (fun z=>absurd (Eb z) C9),pQ ok.1 C9,T,c]
theorem yu (ok:oh tl)(T:s'.slack=s.slack)(c:s'.stamp=s.stamp+1):aQ (dmK tl r td s wk) (Sum.inr "next":Key) (.int ((s.stamp:Int)+1))=dmK tl r td s' wk:=by rw [lX Dd];unfold dmK;simp only [DH];rw [Di (fun z=>absurd (Eb z) C9),Di (fun z=>absurd (Eb z) C9),Dm trivial,Di (fun z=>absurd (Eb z) C9),Di (fun z=>absurd (Eb z) C9),pQ ok.1 C9,T,c];rfl
theorem iN (ok:oh tl):aQ (dmK tl r td s wk) (Sum.inr "work":Key) (.int w2)=dmK tl r td s w2:=by rw [lX Dd];unfold dmK;simp only [DH];rw [Di (fun z=>absurd (Eb z) C9),Di (fun z=>absurd (Eb z) C9),Di (fun z=>absurd (Eb z) C9),Di (fun z=>absurd (Eb z) C9),Dm trivial,pQ ok.1 C9]
end
structure DmAt (tl:List (Key×V))(H:Hp)(st r td:Addr)(s:LS)(wk:Nat):Prop where
 hs:H st=some (.dK (dmK tl r td s wk))
 hr:∃ xs,H r=some (.lst xs)/\RR H xs s.row
 ht:∃ ks,H td=some (.dK ks)/\KR H ks s.there
 ne:st≠td
 ok:oh tl
section
variable {tl:List (Key×V)}{H H':Hp}{st r td:Addr}{s:LS}{wk:Nat}
theorem DmAt.slack (O:DmAt tl H st r td s wk):DGet H st (.str "slack") (some (.int s.slack)):=vH (tl:=tl) (r:=r) (td:=td) (s:=s) (wk:=wk)▸DGet.k (k:=Sum.inr "slack") O.hs
theorem DmAt.row (O:DmAt tl H st r td s wk):DGet H st (.str "row") (some (.ref r)):=jL (tl:=tl) (r:=r) (td:=td) (s:=s) (wk:=wk)▸DGet.k (k:=Sum.inr "row") O.hs
theorem DmAt.now (O:DmAt tl H st r td s wk):DGet H st (.str "now") (some (.ref td)):=wc (tl:=tl) (r:=r) (td:=td) (s:=s) (wk:=wk)▸DGet.k (k:=Sum.inr "now") O.hs
theorem DmAt.next (O:DmAt tl H st r td s wk):DGet H st (.str "next") (some (.int s.stamp)):=zp (tl:=tl) (r:=r) (td:=td) (s:=s) (wk:=wk)▸DGet.k (k:=Sum.inr "next") O.hs
theorem DmAt.work (O:DmAt tl H st r td s wk):DGet H st (.str "work") (some (.int wk)):=gu (tl:=tl) (r:=r) (td:=td) (s:=s) (wk:=wk)▸DGet.k (k:=Sum.inr "work") O.hs
theorem DmAt.stay (O:DmAt tl H st r td s wk)(k:∀b o,(b=st∨b=r∨b=td)->H b=some o->H' b=some o)(t:∀b l,H b=some (.tup l)->H' b=some (.tup l)):DmAt tl H' st r td s wk:=by obtain ⟨xs,c,I⟩:=O.hr;obtain ⟨ks,hd,T⟩:=O.ht;exact ⟨k _ _ (.inl rfl) O.hs,⟨xs,k _ _ (.inr (.inl rfl)) c,I.stay t⟩,⟨ks,k _ _ (.inr (.inr rfl)) hd,T.stay t⟩,O.ne,O.ok⟩
theorem DmAt.same (O:DmAt tl H st r td s wk)(k:Same H H'):DmAt tl H' st r td s wk:=O.stay (fun b o _ e=>k b o e) fun b l e=>k _ _ e
theorem DmAt.notup (O:DmAt tl H st r td s wk):∀b∈[st,r,td],∀xs,¬ H b=some (.tup xs):=by
 obtain ⟨ys,T,_⟩:=O.hr;obtain ⟨kt,I,_⟩:=O.ht;intro b c xs z;simp only [ax,ah,Dv] at c;rcases c with rfl | rfl | rfl
 .rw [O.hs] at z;cases z
 .rw [T] at z;cases z
 rw [I] at z;cases z
theorem DmAt.apart (O:DmAt tl H st r td s wk):r≠st/\r≠td:=by obtain ⟨xs,c,_⟩:=O.hr;obtain ⟨ks,hd,_⟩:=O.ht;exact ⟨aL c O.hs nqz,aL c hd nqz⟩
theorem DmAt.tk (O:DmAt tl H st r td s wk){F:List Addr}(k:Kept F H H')(h:∀b∈F,b∈[st,r,td]):∀b zs,H b=some (.tup zs)->H' b=some (.tup zs):=k.tups fun b c zs=>O.notup b (h b c) zs
theorem DmAt.thereTo (O:DmAt tl H st r td s wk){T:List (Str×En)}(h:H' td=some (.dK ks))(I:KR H' ks T)(k:Kept [td] H H'):DmAt tl H' st r td { s with there:=T } wk:=by obtain ⟨xs,c,U⟩:=O.hr;obtain ⟨M,R⟩:=O.apart;exact ⟨k _ _ O.hs (fun z=>O.ne (De z)),⟨xs,k _ _ c (fun z=>R (De z)),U.stay (O.tk k fun b S=>by rw [De S];simp)⟩,⟨ks,h,I⟩,O.ne,O.ok⟩
theorem DmAt.dictTo (O:DmAt tl H st r td s wk){wk':Nat}(h:H' st=some (.dK (dmK tl r td s' wk')))(R:s'.row=s.row)(S:s'.there=s.there)(k:Kept [st] H H'):DmAt tl H' st r td s' wk':=by
 obtain ⟨xs,c,M⟩:=O.hr;obtain ⟨ks,hd,T⟩:=O.ht;obtain ⟨I,W⟩:=O.apart;have t:=O.tk k fun b U=>by rw [De U];simp
 exact ⟨h,⟨xs,k _ _ c (fun z=>I (De z)),by rw [R];exact M.stay t⟩,⟨ks,k _ _ hd (fun z=>O.ne (De z).symm),by rw [S];exact T.stay t⟩,O.ne,O.ok⟩
theorem DmAt.dropTo (O:DmAt tl H st r td s wk)(n:Str)(hd:H td=some (.dK ks)):DmAt tl (upd H td (.dK (cr ks (Sum.inr n)))) st r td (Gm.dropT s n) wk/\Kept [td] H (upd H td (.dK (cr ks (Sum.inr n)))):=by obtain ⟨I,c,T⟩:=O.ht;rw [hd] at c;cases c;have k:Kept [td] H (upd H td (.dK (cr ks (Sum.inr n)))):=Kept.refl.put Dd;exact ⟨O.thereTo ad ((T.drop n).stay (O.tk k fun b S=>by rw [De S];simp)) k,k⟩
end
end L2
namespace Gm
open Hg
section
variable {N:Type}[DecidableEq N][Inhabited N]{sl:N->N->Bool}
theorem yb {b:Nat}(h:n<=2 ^ b):n.log2<=b:=by
 by_cases z:n=0
 .subst z;exact D6 _
 exact Nat.le_of_lt_succ ((IT z).mpr (DY h (Nat.pow_lt_pow_right Db (EG _))))
theorem LInv.le {s:LS N}(I:LInv sl s):s.there.length<=s.row.length:=by rw [<-I.kept];exact Ec _ _
def pot (b:Nat)(s:LS N):Int:=(s.looks:Int)+(2*b+2)*((s.row.length:Int)-s.there.length)
theorem mul_up {a x y:Int}(h:x<=y)(c:0<=a):a*x<=a*y:=Int.mul_le_mul_of_nonneg_left h c
theorem sweep_pot {s:LS N}(I:LInv sl s){b:Nat}:pot b (sweep sl s)<=pot b s:=by
 unfold sweep;by_cases d:due s=true
 .rw [Dm d];have l:=uO I;have c:(mk (ltE sl) ((s.row.filter (holds s.there)).length / 2) (s.row.filter (holds s.there)) 0).2<=2*(s.row.filter (holds s.there)).length:=vo;rw [I.kept] at c;unfold due at d;rw [DP,Ed,Ed] at d;unfold pot;rw [l];show ((s.looks+_:Nat):Int)+(2*b+2)*((s.there.length:Int)-s.there.length)<=_;rw [Int.sub_self,Int.mul_zero,I.kept];have:=mul_up (a:=2*b+2) (x:=(s.there.length:Int)) (y:=(s.row.length:Int)-s.there.length) Dc Dc;have e:(2*(b:Int)+2)*(s.there.length:Int)=2*(b*(s.there.length:Int))+2*s.there.length:=by rw [Int.add_mul,Int.mul_assoc]
  have p:0<=(b:Int)*(s.there.length:Int):=Int.mul_nonneg Dc Dc;lia
 rw [Di d];exact Jd _
theorem enter_pot {s:LS N}{n:N}{w:Int}{b:Nat}(h:s.row.length+1<=2 ^ b):pot b (enter sl s n w)<=pot b s+b+(if dget s.there n=none then 0 else 2*b+2):=by
 have lk:=oJ (lt:=ltE sl) (f:=s.row.length) (xs:=s.row++[⟨w,n,(s.stamp:Int)⟩]) (p:=s.row.length) (lk:=0);have O:=yb h;have T:(enter sl s n w).row.length=s.row.length+1:=by rw [enter_row_perm.length_eq,Ds];rfl
 unfold pot;rw [T];show ((s.looks+_:Nat):Int)+(2*b+2)*(((s.row.length+1:Nat):Int)-(dput s.there n _).length)<=_;have e:∀x:Int,(2*(b:Int)+2)*(x+1)=(2*b+2)*x+(2*b+2):=fun x=>by rw [IV,Hu]
 by_cases z:dget s.there n=none
 .rw [Dm z];have c:(dput s.there n ⟨w,n,(s.stamp:Int)⟩).length=s.there.length+1:=by have:=congrArg List.length (dput_keys (L:=s.there) (n:=n) (b:=(⟨w,n,(s.stamp:Int)⟩:En N)));rw [Di (dget_none.mp z),Ds,Dg,Dg] at this;exact this
  rw [c,show ((s.row.length+1:Nat):Int)-((s.there.length+1:Nat):Int)=(s.row.length:Int)-s.there.length by lia];lia
 rw [Di z];have c:(dput s.there n ⟨w,n,(s.stamp:Int)⟩).length=s.there.length:=by have:=congrArg List.length (dput_keys (L:=s.there) (n:=n) (b:=(⟨w,n,(s.stamp:Int)⟩:En N)));rw [Dm (Decidable.not_not.mp fun y=>z (dget_none.mpr y)),Dg,Dg] at this;exact this
 rw [c,show ((s.row.length+1:Nat):Int)-(s.there.length:Int)=((s.row.length:Int)-s.there.length)+1 by lia,e];lia
theorem r9 {β:Type}{n:N}:∀{L:List (N×β)},(L.map (·.1)).Nodup->L.length<=(ddel L n).length+1
 | [],_=>D6 _
 | p::r,nd=>by
  rw [DH,Ei] at nd;unfold ddel;rw [D5];by_cases z:p.1=n
  .rw [Di (by simp [z]),List.filter_eq_self.mpr]
   .exact Dj _
   .intro q c;exact Dk fun e=>nd.1 (DG.mpr ⟨q,c,e.trans z.symm⟩)
  .rw [Dm (Dk z),Dw,Dw];have:=r9 (n:=n) nd.2;unfold ddel at this;lia
theorem ddel_one {s:LS N}(I:LInv sl s){n:N}:s.there.length<=(ddel s.there n).length+1:=r9 I.nd
theorem drop_pot {s:LS N}(I:LInv sl s){n:N}{b:Nat}:pot b (dropT s n)<=pot b s+(2*b+2):=by have l:=ddel_one I (n:=n);unfold pot dropT;dsimp only;have:=mul_up (a:=2*b+2) (x:=(s.row.length:Int)-(ddel s.there n).length) (y:=(s.row.length:Int)-s.there.length+1) Dc Dc;rw [IV,Hu] at this;lia
theorem cut_pot {s:LS N}{b:Nat}(h:s.row.length<=2 ^ b)(O:0<s.row.length):pot b (cut sl s)+2<=pot b s:=by
 have c:=qL (lt:=ltE sl) (xs:=s.row);have T:=yb h;unfold pot cut;dsimp only;rw [cutf_len];have e:((s.row.length-1:Nat):Int)-(s.there.length:Int)=((s.row.length:Int)-s.there.length)+-1:=by lia
 rw [e,IV,Int.mul_neg,Hu];lia
theorem clean_pot (o:Slo sl){b:Nat}:∀{f:Nat} {s:LS N},LInv sl s->s.there≠[]->s.row.length<=2 ^ b->pot b (clean sl f s)<=pot b s
 | 0,s,_,_,_=>Jd _
 | f+1,s,I,h,hb=>by
  unfold clean;have T:=row_pos I h;split
  .exact Jd _
  .rename_i hh;have c:=clean_pot o (f:=f) (b:=b) (cut_inv o I T hh) h (by show (cutf (ltE sl) s.row).1.length<=_;rw [cutf_len];lia);have:=cut_pot (sl:=sl) hb T;lia
end
end Gm
namespace L2
open PySem
def m9 (b:Nat):Deed->Int
 | .put _ _=>3*b+5
 | .drop _=>3*b+5
 | .change _ _=>2*(3*b+5)
 | .take=>3*b+5
 | .least=>0
def xg:Deed->Nat
 | .put _ _=>1
 | .change _ _=>1
 | _=>0
theorem vK {s:LS}(I:Gm.LInv slt s){d:Deed}(f:d.fit s){b:Nat}(h:s.row.length+xg d<=2 ^ b):Gm.pot b (ay s d).1<=Gm.pot b s+m9 b d:=by
 have M:∀{n:Str},Gm.dget s.there n≠none->(Gm.dget s.there n).isSome=true:=fun {n} h=>by
  cases y:Gm.dget s.there n with
  | none=>exact absurd y h
  | some _=>rfl
 cases d with
 | put n w =>
  have T:Gm.dget s.there n=none:=f;have e:(ay s (.put n w)).1=Gm.putL slt s n w:=by unfold ay;dsimp only;rw [T];rfl
  rw [e];have S:=Gm.sweep_pot (b:=b) (Gm.enter_inv slt_slo I (n:=n) (w:=w));have O:=Gm.enter_pot (sl:=slt) (n:=n) (w:=w) (s:=s) (b:=b) h;rw [Dm T] at O;have R:m9 b (.put n w)=3*b+5:=rfl;unfold Gm.putL;lia
 | drop n =>
  have e:(ay s (.drop n)).1=Gm.dropL slt s n:=by unfold ay;dsimp only;rw [Dm (M f)]
  rw [e];have S:=Gm.sweep_pot (b:=b) (Gm.drop_inv I (n:=n));have O:=Gm.drop_pot I (n:=n) (b:=b);have R:m9 b (.drop n)=3*b+5:=rfl;unfold Gm.dropL;lia
 | change n w =>
  have e:(ay s (.change n w)).1=Gm.putL slt s n w:=by unfold ay;dsimp only;rw [Dm (M f)]
  rw [e];have S:=Gm.sweep_pot (b:=b) (Gm.enter_inv slt_slo I (n:=n) (w:=w));have O:=Gm.enter_pot (sl:=slt) (n:=n) (w:=w) (s:=s) (b:=b) h;rw [Di f] at O;have R:m9 b (.change n w)=2*(3*b+5):=rfl;unfold Gm.putL;lia
 | take =>
  have T:s.there≠[]:=f;have e:(ay s .take).1=Gm.takeL slt s:=by unfold ay;dsimp only;rw [Di T]
  rw [e];have c:=Gm.least_ok slt_slo I T;have Y:(Gm.leastL slt s).row.length<=s.row.length:=Gm.least_len;have h':s.row.length<=2 ^ b:=h;have G:=Gm.clean_pot slt_slo (b:=b) (f:=s.row.length) I T h';have S:=Gm.cut_pot (sl:=slt) (b:=b) (s:=Gm.leastL slt s) Dc c.pos;have O:=Gm.sweep_pot (b:=b) (Gm.cut_take_inv slt_slo c.inv c.pos);have F:Gm.pot b (Gm.dropT (Gm.cut slt (Gm.leastL slt s)) (Hg.g (Gm.leastL slt s).row 0).n)<=Gm.pot b (Gm.cut slt (Gm.leastL slt s))+(2*b+2):=by have l:=Gm.ddel_one (s:=Gm.leastL slt s) c.inv (n:=(Hg.g (Gm.leastL slt s).row 0).n);unfold Gm.pot Gm.dropT;dsimp only;have W:(Gm.cut slt (Gm.leastL slt s)).there=(Gm.leastL slt s).there:=rfl;rw [W];have:=Gm.mul_up (a:=2*b+2) (x:=((Gm.cut slt (Gm.leastL slt s)).row.length:Int)-(Gm.ddel (Gm.leastL slt s).there (Hg.g (Gm.leastL slt s).row 0).n).length) (y:=((Gm.cut slt (Gm.leastL slt s)).row.length:Int)-(Gm.leastL slt s).there.length+1) Dc Dc;rw [IV,Hu] at this;lia
  have R:m9 b .take=3*b+5:=rfl;have U:Gm.leastL slt s=Gm.clean slt s.row.length s:=rfl;unfold Gm.takeL;rw [U] at S O F ⊢;lia
 | least =>
  have T:s.there≠[]:=f;have e:(ay s .least).1=Gm.leastL slt s:=by unfold ay;dsimp only;rw [Di T]
  rw [e];have h':s.row.length<=2 ^ b:=h;have G:=Gm.clean_pot slt_slo (b:=b) (f:=s.row.length) I T h';have R:m9 b .least=0:=rfl;have U:Gm.leastL slt s=Gm.clean slt s.row.length s:=rfl;rw [U];lia
end L2
namespace L2
open PySem PySem.W PySem.Spec PySem.Calls PyProof.Rows
def Itv (d:Addr)(o:Obj)(kvs:List (Key×V)):It :=
 ⟨fun i H=>i<kvs.length/\H d=some (.frz o (.dK kvs)),fun i H x H'=>H'=H/\(kvs.map fun kv=>kv.2)[i]?=some x,fun i H=>kvs.length<=i/\H d=some (.frz o (.dK kvs))⟩
theorem KV.atv {J:Type}{kvs:List (J×V)}{vs:List (J×Value)}(r:KV kvs vs){p:J×V}(h:kvs[i]?=some p):∃ v,vs[i]?=some (p.1,v)/\RelV p.2 v:=by
 induction r generalizing i with
 | nil=>cases h
 | @cons a b l l' h1 _ ih =>
  cases i with
  | zero =>
   cases h;exact ⟨b.2,by show some b=_;rw [h1.1],h1.2⟩
  | succ i=>exact ih h
theorem vc {P:Program}{K:Frag}{G:Addr}{o:Obj}{es:Array DictEntry}(U:o.data=.dict es ep):nE P w K tg (Itv d o kvs) [G] G (fun i h=>h.IsValIter G d i kvs.length ep) where
 mem:=DI.mpr rfl
 obj:=fun i h st b F=>by
  obtain rfl:=De F;obtain ⟨o,e,c,d⟩:=st;exact ⟨o,e,fun v z=>by rw [d] at z;cases z⟩
 keep:=fun i h h' st k=>st.at fun o e=>k G (DI.mpr rfl) o e
 item:=by
  intro X hP hw hK hc i pins s Z H E I J st hg;subst hP hw hK;obtain ⟨hi,hd⟩:=hg;obtain ⟨Y,_,ee,vs,O,o2,ea,et,S,W,T,rest⟩:=(show _/\ObjOk X.prog X.w H s.heap d (.dK kvs) from I.hok d _ hd);rw [Y] at S;cases S;rw [U] at T;cases T;obtain ⟨f0,f1,f2,f3,f4,f5⟩:=J G (DI.mpr rfl);obtain ⟨v,hv,rv⟩:=O.atv (bt hi);have R:=st;rw [O.length] at R;refine wpAny_pyNext_values_item (knd:=mixKind X.prog X.w) R ⟨o,es,Y,W,U,rest⟩ hv fun h' M sb=>?_;rw [<-O.length] at M;have I1:Inv X pins Z H { s with heap:=h' }:=I.turned (t':=s.toks) (fun b o F e=>(sb.2 b F).trans e) f0 f1 f3 f4 f5;obtain ⟨oi,e,c,dd⟩:=id M;refine ⟨v,rfl,jw (s:={ s with heap:=h' }) e c dd Db ⟨_,H,I1,rv,⟨rfl,?_⟩,M,fun b F=>(J b F).1⟩⟩;rw [DN,bt hi];rfl
 done:=by
  intro X hP hw hK hc i pins s Z H E I J st hg;subst hP hw hK;obtain ⟨hi,hd⟩:=hg;obtain ⟨Y,_,ee,vs,O,o2,ea,et,S,W,T,rest⟩:=(show _/\ObjOk X.prog X.w H s.heap d (.dK kvs) from I.hok d _ hd);rw [Y] at S;cases S;rw [U] at T;cases T;obtain ⟨f0,f1,f2,f3,f4,f5⟩:=J G (DI.mpr rfl);have R:=st;rw [O.length] at R;exact wpAny_pyNext_values_end (knd:=mixKind X.prog X.w) (I.ok.hd hc) R ⟨o,es,Y,W,U,rest⟩ (FK (by rw [<-O.length];exact hi)) fun h' eb=>⟨rfl,I.turned (t':=s.toks) (fun b o F e=>eb b o F e) f0 f1 f3 f4 f5⟩
 self:=fun _ _ _ _ _ st h=>wpAny_pyIter_valiter st h
def BX (td:TE):TI:=fun Z H R=>td Z H fun x H1=>∃ v d kvs,x=.ref v/\H1 v=some (vx v d)/\H1 d=some (.dK kvs)/\∀o,R (Itv d o kvs) (upd H1 d (.frz o (.dK kvs)))
section
variable {X:Cx}{tg:Expr}
theorem yJ {l:Expr}{tl:TE}(F:QE X l tl):QI X tg l (BX tl):=.mk (by
 have F:=F.to;intro pins s Z H R I h;refine thn (F pins s Z H _ I h) fun v c zz=>?_;obtain ⟨x,J,S,P,a,d,kvs,e,hv,hd,q⟩:=zz;subst e;cases P;have M:c.heap.IsValuesView a d:=(show (c.heap.IsValuesView a d/\_) from S.hok a _ hv).1;obtain ⟨o,G,U⟩:=S.freeze hd;obtain ⟨_,Y,vs,W,o2,es,ep,O,hx,T,rest⟩:=(show ObjOk X.prog X.w J c.heap d (.dK kvs) from S.hok d _ hd);rw [G] at O;cases O;refine wpAny_pyIter_values (knd:=mixKind X.prog X.w) M ⟨o,es,G,hx,T,rest⟩ ?_;refine ⟨c.heap.objs.size,[c.heap.objs.size],_,_,_,rfl,U.kept (t':=c.toks) fun b o e=>Dt _ e,vc T,⟨_,DQ _ rfl,rfl,?_⟩,fun b hb=>?_,q o⟩
 .show Data.fields _=_;rw [W.length];rfl
 obtain rfl:=De hb;exact U.fpOk (Dj _) (U.hok.fresh (Dj _)))
end
theorem pT {o:Obj}{R:Hp->Prop}(c:Nat->List V->Hp->Prop)(G:c 0 [] (upd H D (.lst [])))(W:∀i ys H,c i ys H->H D=some (.lst ys)/\H d=some (.frz o (.dK kvs)))(F:∀i k v ys H,kvs[i]?=some (k,v)->c i ys H->tt (some v::bR cap Z) H fun b I =>
   if b=true then te (some v::bR cap Z) I fun v S=>S D=some (.lst ys)/\ys.length<sizeLine/\∃ m',m'<kvs.length-i/\m'=kvs.length-(i+1)/\i+1<=kvs.length/\c (i+1) (ys++[v]) (upd S D (.lst (ys++[v])))
   else ∃ m',m'<kvs.length-i/\m'=kvs.length-(i+1)/\i+1<=kvs.length/\c (i+1) ys I)(hd:∀ys H,c kvs.length ys H->R H):
  CW (Itv d o kvs) tt te cap Z H D R:=by
 refine ⟨fun i m ys H=>m=kvs.length-i/\i<=kvs.length/\c i ys H,⟨kvs.length,rfl,D6 _,G⟩,?_⟩;rintro i m ys H ⟨rfl,hi,p⟩;obtain ⟨M,O⟩:=W i ys H p;refine ⟨M,?_⟩;by_cases T:i<kvs.length
 .refine .inr ⟨⟨T,O⟩,fun x H' y=>?_⟩;obtain ⟨e,y⟩:=y;subst e;obtain ⟨k,v⟩:∃ U:Key×V,kvs[i]?=some U:=⟨_,bt T⟩;obtain ⟨k,z⟩:=k;rw [DN,v] at y;cases y;exact F i k z ys _ v p
 have e:i=kvs.length:=by lia
 subst e;exact .inl ⟨⟨Dj _,O⟩,hd ys H p⟩
end L2
namespace L2
open PySem PySem.Spec PySem.W PySem.Calls PyProof.Rows
section
variable {X:Cx}
def Bv (tb:TSX)(K:W.Frag)(C1:Addr)(t1:TS):TS:=fun D Z H=>tb D (fun c σ' H'=>∃ C:Addr,c=.ref C/\(W.exmOne K (.ref C) (.ref C1)=some true/\t1 D σ' H')) Z H
theorem yC {J:Str}{p1 F:Pos}{tb:TSX}{C1:Addr}{b₀:Stmt}{c:List Stmt}{t1:TS}(hb:BP X body tb)(hS:X.stack=X.env::X.outer)(hF:X.env.frame=some X.env.locals)(ei:Gl X J)(ee:X.mg J=some (.ref C1))(er:∀e,PSs (X.inX e).nox (b₀::c) t1)(el:autoParam ((J == ("__debug__":Str))=false) aab):
  PS X (.Try body [.ExceptHandler (some (.Name J p1)) none (b₀::c) F] [] [] pos) (Bv tb X.K C1 t1):=by
 intro pins s Z H D I h;refine wpAny_Try_except (Ew (hb pins s Z H D _ I h) (fun f P O=>?_) fun v P hx=>?_)
 .cases f with
  | next=>exact FJ O
  | ret v=>exact O
  | brk=>exact O
  | cont=>exact O
 obtain ⟨σ',e,C,H',B,a0,rfl,fl,kp,kt,ec,_,_,⟨C',eC,q⟩⟩:=hx;cases eC;rw [hS] at fl;have eh:X.A.frames=some (X.env::X.outer):=by rw [I.ok.frames,hS]
 refine iu eh hF fl fun h4 held Y=>?_;refine mX held fun h5 S G=>?_;have I5:=kp h5 P.toks S.1 (Y.trans G);obtain ⟨ob,et,M⟩:=S.there;have LT:Looks (model X.prog X.w) h5 (typeOf (.ref e)) (.ref C):=by rw [<-M];exact (Looks.ld et).andThen .now
 have ed:∀(ts:TS) (b₁:Stmt) (su:List Stmt) (hs:∀e,PSs (X.inX e).nox (b₁::su) ts) (q:ts D σ' H'),wpAny (model X.prog X.w) (X.A.mark (some (.ref e))) (setFlight (.ref e) none) (fun _ s₁=>wpAny (model X.prog X.w) (X.A.mark (some (.ref e))) (execs (b₁::su) X.env) (fun f s₂=>SP X pins D f s₂) (fun _ _=>False) s₁) (fun _ _=>False) { P with heap:=h5 }:=fun ts b₁ su hs q=>by
  refine mO S fun h6 eo ea=>?_;have I6:=kp h6 P.toks eo.1 ((Y.trans G).trans ea);refine Ew (hs e pins _ _ _ _ ((I6.inX e).wish _) q) (fun f s8 O=>?_) fun _ _ z=>False.elim z;have T:=I.ok.hd;cases f with
  | next =>
   obtain ⟨σ8,H8,U,R⟩:=O;exact ⟨_,_,U.unwish.outX T,R⟩
  | ret u =>
   obtain ⟨v,σ8,H8,U,r8,R⟩:=O;exact ⟨v,_,_,U.unwish.outX T,r8,R⟩
  | brk =>
   obtain ⟨σ8,H8,U,R⟩:=O;exact ⟨_,_,U.unwish.outX T,R⟩
  | cont =>
   obtain ⟨σ8,H8,U,R⟩:=O;exact ⟨_,_,U.unwish.outX T,R⟩
 refine wpAny_handleBy_cons (codeAny_handlers_test (fj (I5.inX e) ei ee ?_ el)) (by intro q;cases q);obtain ⟨hx,q⟩:=q;refine (W.exm_one I5.kIn LT hx).here (codeAny_handlers_suite ?_);exact Ew (ed t1 _ _ er q) (fun _ s2 z=>Ew z (fun _ _ y=>y) fun _ _ y=>False.elim y) fun _ _ y=>False.elim y
end
end L2
namespace L2
open PySem PySem.W
def Df (K:Frag)(x:Str)(st:Stmt)(f:Addr):Prop:=nsIn K mainGlobals x=some (some (.ref f))/\∃ fd,Fun K x x st f fd
def Mt (K:Frag)(C:Addr)(x q:Str)(st:Stmt)(f:Addr):Prop:=findIn K (.ref C) x=some (some (.ref f))/\isFn K (.ref f)=true/\∃ fd,Fun K x q st f fd
def Bs (K:Frag)(C:Addr)(x q:Str)(st:Stmt)(f:Addr):Prop:=findCls K (.ref C) (.type "type") x=some (.val (.ref f))/\∃ fd,Fun K x q st f fd
section
variable {K:Frag}{C f:Addr}{x q:Str}{st:Stmt}{fd:FuncData}{oc kV dc pm cd ct:Value}{od an:Option Addr}{sl:Array (Option Value)}
theorem dfI (a:nsIn K mainGlobals x=some (some (.ref f)))(l:K.lookup f=some ⟨oc,od,.func (fnOf x x (cq st) (bz st) (ak st) .none kV dc pm an cd ct),sl⟩)(c:codeIn K cd x=true)(k:keepIn K (.ref f)=true):Df K x st f:=⟨a,_,mP l c k⟩
theorem mtI (a:findIn K (.ref C) x=some (some (.ref f)))(i:isFn K (.ref f)=true)(l:K.lookup f=some ⟨oc,od,.func (fnOf x q (cq st) (bz st) (ak st) .none kV dc pm an cd ct),sl⟩)(c:codeIn K cd q=true)(k:keepIn K (.ref f)=true):Mt K C x q st f:=⟨a,i,_,mP l c k⟩
theorem bsI (a:findCls K (.ref C) (.type "type") x=some (.val (.ref f)))(l:K.lookup f=some ⟨oc,od,.func (fnOf x q (cq st) (bz st) (ak st) .none kV dc pm an cd ct),sl⟩)(c:codeIn K cd q=true)(k:keepIn K (.ref f)=true):Bs K C x q st f:=⟨a,_,mP l c k⟩
def Bd (x q:Str)(st:Stmt)(ps:List Str):Prop:=∀(kV doc pm:Value) (an:Option Addr) (cdv ct:Value) (us:List Value),us.length=ps.length->bindArgs (fnOf x q (cq st) (bz st) (ak st) .none kV doc pm an cdv ct) ⟨us,[]⟩=pure (ps.zip us)
theorem ln1 {P:List Value->Prop}(h:∀a,P [a])(us:List Value)(c:us.length=1):P us:=by obtain ⟨a,rfl⟩:=Ii.mp c;exact h a
theorem lnS {P:List Value->Prop}(h:∀a (us:List Value),us.length=n->P (a::us))(us:List Value)(c:us.length=n+1):P us:=by
 cases us with
 | nil=>cases c
 | cons a us=>exact h a us (Iw c)
theorem Df.get (d:Df K x st f)(X:K.In h)(G:h.Ns mainGlobals mg)(ps:List Str)(b:Bd x x st ps:=by first | exact (fun _ _ _ _ _ _=>ln1 fun _=>rfl) | exact (fun _ _ _ _ _ _=>lnS fun _=>ln1 fun _=>rfl) | exact (fun _ _ _ _ _ _=>lnS fun _=>lnS fun _=>ln1 fun _=>rfl) | exact (fun _ _ _ _ _ _=>lnS fun _=>lnS fun _=>lnS fun _=>ln1 fun _=>rfl)):
  ∃ fd,Fun K x x st f fd/\Nm K mg x f fd ps:=by
 obtain ⟨a,fd,F⟩:=d;exact ⟨fd,F,mg_of X G a,F.kp,F.binds b⟩
theorem Mt.get (d:Mt K C x q st f)(ps:List Str)(b:autoParam (Bd x q st ps) Df.get._auto_1):
  ∃ fd,Fun K x q st f fd/\Binds K fd ps []/\bp K C x f:=by
 obtain ⟨a,i,fd,F⟩:=d;exact ⟨fd,F,F.binds b,a,i,F.kp⟩
theorem Bs.get (d:Bs K C x q st f)(ps:List Str)(T:specialIn K (.ref C) "__getattribute__"=some (some (.builtin "type.__getattribute__")))(c:readsIn K C (.type "type")=true)(b:autoParam (Bd x q st ps) Df.get._auto_1):
  ∃ fd,Fun K x q st f fd/\Binds K fd ps []/\AB K C (.type "type") x f:=by
 obtain ⟨a,fd,F⟩:=d;exact ⟨fd,F,F.binds b,T,c,a,F.kp⟩
end
end L2
namespace L2
open PySem
theorem Room.mo {a b:Nat}(h:Room b A)(hk:autoParam (a<=b) aab):Room a A:=h.mono hk
theorem qst {e:Expr}(i:Nat)(O:X.N.Nodup)(S:QE X e te)(hi:autoParam (X.N[i]?=some x) aad)(T:Loc X.env.scope x:=by exact Or.inl rfl)(I:autoParam (swapsWith e (some (.Name x pos')) pos.line X.env=pure false) aad)(c:autoParam (X.fn x=true∨X.env.scope.names.lookup x=some .local) aac):QS X (.Assign [.Name x pos'] e pos) (yE te (iY i)):=vC O hi T S I c
section
variable {X:Cx}{e:Expr}{es:List Expr}{pos p:Pos}{x:Str}{t:TA}
theorem qcl {CX:CXT}{k O:Nat}{E:XK}(F:au X.prog X.w X.K X.mg X.base CX k f fd ps sp)(R:Room O X.A)(D:Nm X.K X.mg x f fd ps)(I:cM CX X E)(U:QA X (e::es) t)(hk:autoParam (k<=O) aab)(S:autoParam (Gl X x) aad)(T:autoParam ((x == ("__debug__":Str))=false) aab)(M:autoParam (starEach (e::es) X.env=(false,eval e X.env)::starEach es X.env) aad)(c:autoParam ((backTo pos (starEach es X.env)).any (·.1)=false) aad):QE X (.Call (.Name x p) (e::es) [] pos) (yh sp [] E t):=iL F (R.mono hk) S D.m D.k D.b .nil I U T M c
theorem qcB {O:String}(F:cv X (.builtin O) r)(S:X.mg x=none)(R:QA X (e::es) t)(M:autoParam (Gl X x) aad)(I:autoParam (bootBuiltins x=some (.builtin O)) aaa)(W:autoParam (x≠"__name__") aab)(T:autoParam ((x == ("__debug__":Str))=false) aab)(U:autoParam (starEach (e::es) X.env=(false,eval e X.env)::starEach es X.env) aad)(c:autoParam ((backTo pos (starEach es X.env)).any (·.1)=false) aad):QE X (.Call (.Name x p) (e::es) [] pos) (tCB r t):=xT F M S I R W T U c
theorem qcT {T:String}(F:cv X (.type T) r)(S:X.mg x=none)(R:QA X (e::es) t)(M:autoParam (Gl X x) aad)(I:autoParam (bootBuiltins x=some (.type T)) aaa)(W:autoParam (x≠"__name__") aab)(O:autoParam ((x == ("__debug__":Str))=false) aab)(U:autoParam (starEach (e::es) X.env=(false,eval e X.env)::starEach es X.env) aad)(c:autoParam ((backTo pos (starEach es X.env)).any (·.1)=false) aad):QE X (.Call (.Name x p) (e::es) [] pos) (tCB r t):=ui F M S I R W O U c
end
theorem pix {b:Expr}(h:∀o i,subscripted b false o i=operate [o,i] (getItem o i):=by exact fun _ _=>rfl):∀o i,subscripted b false o i=operate [o,i] (getItem o i):=h
theorem Ck {P:List Value->Prop}(h:∀a,P [a])(us:List Value)(c:us.length=1):P us:=by obtain ⟨a,rfl⟩:=Ii.mp c;exact h a
theorem BA {P:List Value->Prop}(h:∀a b,P [a,b])(us:List Value)(c:us.length=2):P us:=by
  cases us with
  | nil=>cases c
  | cons a us=>exact Ck (P:=fun t=>P (a::t)) (h a) us (Iw c)
theorem BV {P:List Value->Prop}(h:∀a b c,P [a,b,c])(us:List Value)(T:us.length=3):P us:=by
  cases us with
  | nil=>cases T
  | cons a us=>exact BA (P:=fun t=>P (a::t)) (h a) us (Iw T)
theorem CP {P:List Value->Prop}(h:∀a b c d,P [a,b,c,d])(us:List Value)(T:us.length=4):P us:=by
  cases us with
  | nil=>cases T
  | cons a us=>exact BV (P:=fun t=>P (a::t)) (h a) us (Iw T)
theorem Fun.bi (F:Fun K x qual st f fd)(ps:List Str)(h:∀(kV T S:Value) (O:Option Addr) (c I:Value) (us:List Value),us.length=ps.length->bindArgs (W.fnOf x qual (cq st) (bz st) (ak st) .none kV T S O c I) ⟨us,[]⟩=pure (ps.zip us):=by first | exact (fun _ _ _ _ _ _=>Ck fun _=>rfl) | exact (fun _ _ _ _ _ _=>BA fun _ _=>rfl) | exact (fun _ _ _ _ _ _=>BV fun _ _ _=>rfl) | exact (fun _ _ _ _ _ _=>CP fun _ _ _ _=>rfl)):Binds K fd ps []:=F.binds h
end L2
namespace Kx
open PySem L2
def top (i:Nat):Stmt:=PySem.Challenge.pw_lategone_k37_desk_join.main.body.getD i (.Pass ⟨0,0,0,0⟩)
section
variable {P:Program}{w:World}{K:W.Frag}{mg:Str->Option Value}{base:Heap}
open Hm
def dv (z u:Str)(m:Int):Bool:=decide (1<=z.length)&&decide ((z.length:Int)<=m)&&z.cps.toList.all fun c=>!(PySem.Builtin.Str.occurrences u (sgn c) 0 u.length 1).isEmpty
abbrev iK:Stmt:=top 28
theorem pi:av ["word","signs","most"] ["word","signs","most"] (ak iK):=fs0
def jB:Sp:=fun vs H Q _=>∃ (z u:Str) (m:Int),vs=[.str z,.str u,.int m]/\z.cps.all (·<128)=true/\z.length<=1000/\∀H',Same H H'->Q (.bl (dv z u m)) H'
theorem vb (F:Fun K "made_of" "made_of" iK f fd)(T:Bl mg)(O:mg "all"=none):
  au P w K mg base CX0 1 f fd ["word","signs","most"] jB:=by
 have sc:=pi;refine F.okQ pi fun ee A outer s H vs Q E hr h=>?_;obtain ⟨z,u,m,rfl,ha,hz,k⟩:=h;have hu:=hr.units0;refine ⟨_,(aj (aD (xj (yi vW vW ai (qcB gz T.z_len (aa (qv 0) ag)) (qv 2)) (v7 (qcB (uC rfl) O (aa (di (Blk.of (N:=["word","signs","most"]) (esc:=ak iK) (NB:=["signs"]) (cap:=[1]) rfl rfl (fun y hy=>bH hy) rfl C9 C9 C9 rfl C9 rfl C9) rfl rfl (AZ (qv 0)) (fun C fp s₀ H₀=>dO) (fun C fp s₀ H₀=>(cP wz (qv 0) (qv 1) rfl))) ag)))))),?_⟩;have J:∀b:Bool,(decide (1<=z.length)&&decide ((z.length:Int)<=m))=false->b=false->Q (.bl b) H:=fun b S e2=>by have:=k H (Same.refl H);unfold dv at this;rw [S,Bool.false_and] at this;rw [e2];exact this
 refine ⟨z,rfl,FH (aZ Dc),_,rfl,aS (fun W=>?_) (fun W=>?_)⟩
 .refine ⟨_,rfl,aS (fun U=>?_) (fun U=>?_)⟩
  .refine ⟨z,rfl,ha,fun D Y=>?_⟩;refine uH (fun i ys H'=>H' D=some (.lst ys)/\ys=((z.cps.toList.take i).map fun c=>!(PySem.Builtin.Str.occurrences u (sgn c) 0 u.length 1).isEmpty).map V.bl/\Same H H') ⟨ad,rfl,ar Y⟩ (fun i ys H' q=>q.1) ?_ ?_
   .rintro i c ys H1 G ⟨M,I,R⟩;have hi:i<z.length:=(Ep.mp G).1;have ly:ys.length<=i:=by rw [I,Dg,Dg,Es];lia
    refine cY <| ⟨_,_,rfl,rfl,M,aZ Dc,_,Dc,rfl,Dc,ad,?_,fun c' v e=>?_⟩
    .rw [I,Ef,D4,D4,GH,G];rfl
    .rw [af (fun q=>by rw [q,Y] at e;cases e)];exact R c' v e
   .rintro ys H1 ⟨M,I,R⟩;rw [Eu (show z.cps.toList.length<=z.length from G9 (E9 ..))] at I;subst I;refine ⟨D,_,rfl,SqL.of M,?_⟩;have:=k H1 R;unfold dv at this;have S:decide (1<=z.length)=true:=Dk (by have:=Dp W;lia);rw [S,U,Gk,Gk] at this;rw [List.all_map];exact this
  .exact J _ (by rw [Iy];exact .inr (by simpa using U)) rfl
 exact ⟨_,rfl,J _ (by rw [Iy];refine .inl (DF fun q=>W (Dk Dc))) rfl⟩
abbrev lu:Stmt:=top 26
theorem nX:av ["word"] ["word"] (ak lu):=fs0
def mJ (z:Str):Bool:=dv z "abcdefghijklmnopqrstuvwxyz" 8
def pj:Sp:=fun vs H Q _=>∃ z:Str,vs=[.str z]/\z.cps.all (·<128)=true/\z.length<=1000/\∀H',Same H H'->Q (.bl (mJ z)) H'
theorem uK {R:Tok}(F:Fun K "is_name" "is_name" lu f fd)(T:Bl mg)(I:mg "LETTERS"=some (.str "abcdefghijklmnopqrstuvwxyz" R))(O:au P w K mg base CX0 1 fn fdn ["word","signs","most"] jB)(c:Nm K mg "made_of" fn fdn ["word","signs","most"]):
  au P w K mg base CX0 2 f fd ["word"] pj:=by
 have G:=nX;refine F.okQ nX fun U A outer s H vs Q E S h=>?_;obtain ⟨z,rfl,W,M,k⟩:=h;have Y:=S.units0;refine ⟨_,(aj (aD (qcl O S c aB (aa (qv 0) (aa (iJ (v:=.str "abcdefghijklmnopqrstuvwxyz") rfl I ⟨R,rfl⟩) (aa ai ag)))))),?_⟩;exact ⟨z,_,_,rfl,W,M,k⟩
def je (z:Str):Str:=if (decide (0+("-":Str).length<=z.length)&&PySem.Builtin.Str.subAt z "-" 0)=true then PySem.Txt.slice z (some 1) none else z
abbrev gR:Stmt:=top 27
theorem i7:av ["word","figures"] ["word"] (ak gR):=fs0
def jK:Sp:=fun vs H Q _=>∃ z:Str,vs=[.str z]/\(je z).cps.all (·<128)=true/\z.length<=640 /\
 (dv (je z) "0123456789" 30=true->∃ n:Int,PySem.intText? z=some n/\n.natAbs.log2<1920/\∀H',Same H H'->Q (.bl (decide (z=toString n))) H') /\
 (dv (je z) "0123456789" 30=false->∀H',Same H H'->Q (.bl false) H')
theorem oB {tF:Tok}(F:Fun K "is_number" "is_number" gR f fd)(T:Bl mg)(U:mg "str"=none)(S:mg "FIGURES"=some (.str "0123456789" tF))(I:au P w K mg base CX0 1 fn fdn ["word","signs","most"] jB)(O:Nm K mg "made_of" fn fdn ["word","signs","most"]):
  au P w K mg base CX0 2 f fd ["word"] jK:=by
 have sc:=i7;refine F.okQ i7 fun ee A outer s H vs Q E hr h=>?_;obtain ⟨z,rfl,G,hz,Y,J⟩:=h;have hu:=hr.units0;refine ⟨_,(ac (qst 1 sc.nd (qG (ca (gN Ij PySem.F.slot_str_startswith PySem.F.type_str_startswith uI (qv 0) (aa aq ag))) (dE Bk (qv 0) (fz ai) fC) (qv 0)))
  (aj (aD (xj (qcl I hr O aB (aa (qv 1) (aa (iJ (v:=.str "0123456789") rfl S ⟨tF,rfl⟩) (aa ai ag)))) (v7 (cP bA (qv 0) (qcT bv U (aa (qcT j6 T.z_int (aa (qv 0) ag)) ag)) (aG _))))))),?_⟩
 refine ⟨rfl,z,_,rfl,rfl,_,rfl,aS (fun c=>?_) (fun c=>?_)⟩
 .have ey:je z=PySem.Txt.slice z (some 1) none:=Dm c;refine ⟨_,rfl,z,rfl,FH (aZ Dc),?_⟩;rw [ey] at G Y J;refine ⟨_,_,_,rfl,G,Dq (Hd z _ _) Dc,fun M W=>⟨_,rfl,aS (fun R=>?_) (fun R=>?_)⟩⟩
  .obtain ⟨n,en,ln,k⟩:=Y R;refine ⟨z,n,rfl,en,hz,.inl ⟨n,rfl,ln,rfl,?_⟩⟩;have:=k M W;have e:decide (V.str z=V.str (Str.ofString (toString n)))=decide (z=Str.ofString (toString n)):=decide_eq_decide.mpr ⟨fun q=>V.str.inj q,fun q=>by rw [q]⟩;rw [e];exact this
  .exact J (by simpa using R) M W
 have ey:je z=z:=Di c;refine (?_);rw [ey] at G Y J;refine ⟨_,_,_,rfl,G,Dc,fun M W=>⟨_,rfl,aS (fun R=>?_) (fun R=>?_)⟩⟩
 .obtain ⟨n,en,ln,k⟩:=Y R;refine ⟨z,n,rfl,en,hz,.inl ⟨n,rfl,ln,rfl,?_⟩⟩;have:=k M W;have e:decide (V.str z=V.str (Str.ofString (toString n)))=decide (z=Str.ofString (toString n)):=decide_eq_decide.mpr ⟨fun q=>V.str.inj q,fun q=>by rw [q]⟩;rw [e];exact this
 exact J (by simpa using R) M W
structure xF (z:Str)(n:Int):Prop where
 asc:(je z).cps.all (·<128)=true
 len:z.length<=640
 made:dv (je z) "0123456789" 30=true
 val:PySem.intText? z=some n
 log:n.natAbs.log2<1920
 eq:z=Str.ofString (toString n)
abbrev ml:Stmt:=top 32
theorem pq:av ["word"] ["word"] (ak ml):=fs0
def jv:Sp:=fun vs H Q _=>∃ (z:Str) (n:Int),vs=[.str z]/\xF z n/\∀H',Same H H'->Q (.int n) H'
theorem uo (F:Fun K "number" "number" ml f fd)(T:Bl mg)(I:au P w K mg base CX0 2 fn fdn ["word"] jK)(O:Nm K mg "is_number" fn fdn ["word"]):
  au P w K mg base CX0 3 f fd ["word"] jv:=by
 have W:=pq;refine F.okQ pq fun U A outer s H vs Q E S h=>?_;obtain ⟨z,n,rfl,N,k⟩:=h;have G:=S.units0;refine ⟨_,(ac (aT (cD (ca (qcl I S O aB (aa (qv 0) ag)))) (aj dG) aE)
  (aj (aD (qcT j6 T.z_int (aa (qv 0) ag))))),?_⟩
 refine ⟨z,rfl,N.asc,N.len,fun _=>⟨n,N.val,N.log,fun R M=>?_⟩,fun q=>absurd (N.made.symm.trans q) Db⟩;have e:decide (z=Str.ofString (toString n))=true:=Dk N.eq;rw [e];refine ⟨_,rfl,aS (fun c=>nomatch c) (fun _=>?_)⟩;exact ⟨z,n,rfl,N.val,N.len,k R M⟩
abbrev jE:Stmt:=top 33
theorem jS:av ["word","many"] ["word"] (ak jE):=fs0
def j7:Sp:=fun vs H Q _=>∃ (z:Str) (n:Int),vs=[.str z]/\xF z n/\0<=n/\∀H',Same H H'->Q (.int n) H'
theorem qM (F:Fun K "counted" "counted" jE f fd)(T:Bl mg)(I:au P w K mg base CX0 3 fn fdn ["word"] jv)(O:Nm K mg "number" fn fdn ["word"]):
  au P w K mg base CX0 4 f fd ["word"] j7:=by
 have W:=jS;refine F.okQ jS fun U A outer s H vs Q E S h=>?_;obtain ⟨z,n,rfl,N,G,k⟩:=h;have Y:=S.units0;refine ⟨_,(ac (qst 1 W.nd (qcl I S O aB (aa (qv 0) ag)))
  (ac (aT (aw dI (qv 1) ai (aG _)) (aj dG) aE)
  (aj (aD (qv 1))))),?_⟩
 refine ⟨z,n,rfl,N,fun R M=>?_⟩;refine ⟨_,rfl,aS (fun c=>?_) (fun _=>?_)⟩
 .have:=Dp c;lia
 exact (k R M)
structure DK (K:W.Frag)(C:Addr):Prop where
 cl:Cls K C
 hp:NoAttr K C "heaps"
 jn:NoAttr K C "joined"
inductive cW (ks:List (Key×V)):Str->Str->V->Prop
 | word {z:Str}:cW ks "word" z (.str z)
 | number {z:Str} {n:Int}:xF z n->cW ks "number" z (.int n)
 | count {z:Str} {n:Int}:xF z n->0<=n->cW ks "count" z (.int n)
 | name {z:Str}:z.cps.all (·<128)=true->z.length<=1000->mJ z=true->cW ks "name" z (.str z)
 | heap {z:Str}:z.cps.all (·<128)=true->z.length<=1000->mJ z=true->(aU ks (Sum.inr z)).isSome=true->cW ks "heap" z (.str z)
abbrev pV:Stmt:=a7 (top 31) 7
theorem sx:av ["self","kind","word"] ["self","kind","word"] (ak pV):=fs0
def rR (C:Addr):Sp:=fun vs H Q _=>∃ (p dx d:Addr) (fs:List (Str×V)) (ks:List (Key×V)) (kind z:Str) (v:V),vs=[.ref p,.str kind,.str z]/\H p=some (.ins C dx fs)/\fs.lookup ("heaps":Str)=some (.ref d)/\H d=some (.dK ks)/\cW ks kind z v/\∀H',Same H H'->Q v H'
theorem vT {f1 f2 f3:Addr}{G Y:FuncData}(F:Fun K "meant" "Desk.meant" pV f fd)(T:Bl mg)(L:DK K C)(O:au P w K mg base CX0 2 f1 G ["word"] pj)(I:Nm K mg "is_name" f1 G ["word"])(M:au P w K mg base CX0 3 f2 fd2 ["word"] jv)(U:Nm K mg "number" f2 fd2 ["word"])(R:au P w K mg base CX0 4 f3 Y ["word"] j7)(S:Nm K mg "counted" f3 Y ["word"]):
  au P w K mg base CX0 5 f fd ["self","kind","word"] (rR C):=by
 have sc:=sx;refine F.okQ sx fun et A outer s H vs Q E J h=>?_;obtain ⟨p,dx,d,fs,ks,ee,z,v,rfl,hp,hl,hd,m,k⟩:=h;have hu:=J.units0;refine ⟨_,(ac (aT (aw bA (qv 1) aq (aG _)) (aj (aD (qv 2))) aE)
  (ac (aT (aw bA (qv 1) aq (aG _)) (aj (aD (qcl M J U aB (aa (qv 2) ag)))) aE)
  (ac (aT (aw bA (qv 1) aq (aG _)) (aj (aD (qcl R J S aB (aa (qv 2) ag)))) aE)
  (ac (aT (cD (ca (qcl O J I aB (aa (qv 2) ag)))) (aj dG) aE)
  (ac (aT (QW.pt (dA (aw bA (qv 1) aq (aG _)) (cG (kz (aO J) (qv 2) (aY (qv 0) rfl))))) (aj dG) aE)
  (aj (aD (qv 2)))))))),?_⟩
 cases m with
 | word =>
  refine ⟨rfl,_,rfl,aS (fun _=>?_) (fun c=>absurd (Dk rfl) c)⟩;exact (k H (Same.refl H))
 | number N =>
  refine ⟨rfl,_,rfl,aS (fun c=>absurd (Dp c) C9) (fun _=>?_)⟩;refine ⟨rfl,_,rfl,aS (fun _=>?_) (fun c=>absurd (Dk rfl) c)⟩;exact ⟨z,_,rfl,N,k⟩
 | count N n0 =>
  refine ⟨rfl,_,rfl,aS (fun c=>absurd (Dp c) C9) (fun _=>?_)⟩;refine ⟨rfl,_,rfl,aS (fun c=>absurd (Dp c) C9) (fun _=>?_)⟩;refine ⟨rfl,_,rfl,aS (fun _=>?_) (fun c=>absurd (Dk rfl) c)⟩;exact ⟨z,_,rfl,N,n0,k⟩
 | name a l i =>
  refine ⟨rfl,_,rfl,aS (fun c=>absurd (Dp c) C9) (fun _=>?_)⟩;refine ⟨rfl,_,rfl,aS (fun c=>absurd (Dp c) C9) (fun _=>?_)⟩;refine ⟨rfl,_,rfl,aS (fun c=>absurd (Dp c) C9) (fun _=>?_)⟩;refine ⟨z,rfl,a,l,fun H1 W=>?_⟩;rw [i];refine ⟨_,rfl,aS (fun c=>nomatch c) (fun _=>?_)⟩;refine ⟨rfl,_,rfl,aS (fun c=>absurd (Dp c) C9) (fun _=>?_)⟩;exact bW (k H1 W)
 | heap a l i hz =>
  refine ⟨rfl,_,rfl,aS (fun c=>absurd (Dp c) C9) (fun _=>?_)⟩;refine ⟨rfl,_,rfl,aS (fun c=>absurd (Dp c) C9) (fun _=>?_)⟩;refine ⟨rfl,_,rfl,aS (fun c=>absurd (Dp c) C9) (fun _=>?_)⟩;refine ⟨z,rfl,a,l,fun H1 W=>?_⟩;rw [i];refine ⟨_,rfl,aS (fun c=>nomatch c) (fun _=>?_)⟩;refine ⟨rfl,_,rfl,aS (fun _=>?_) (fun c=>absurd (Dk rfl) c)⟩;refine ⟨p,C,dx,fs,_,rfl,W _ _ hp,L.cl,L.hp,hl,d,_,rfl,DGet.k (k:=Sum.inr z) (W _ _ hd),_,rfl,?_⟩;rw [hz];exact bW (k H1 W)
structure Und (K:W.Frag)(forms:List (Str×Addr))(ks:List (Key×V))(ws:List Str)(vs:List V):Prop where
 q:∃ (w0:Str) (q:Addr) (kinds:List Str),ws[0]?=some w0/\forms.lookup w0=some q/\(∀H,SqT K H q (kinds.map V.str))/\kinds.length=ws.length/\∀(i:Nat) (kd z:Str),kinds[i]?=some kd->ws[i]?=some z->∃ v,vs[i]?=some v/\cW ks kd z v
 len:vs.length=ws.length
 few:ws.length<=100
 head:∃ x,vs[0]?=some (.str x)
 join:vs[0]?=some (.str "join")->∃ a b:Str,vs[1]?=some (.str a)/\vs[2]?=some (.str b)/\a≠b
abbrev yH:Stmt:=a7 (top 31) 6
theorem zX:av ["self","words","form","asked"] ["self","words"] (ak yH):=fs0
def z6 (C:Addr)(forms:List (Str×Addr))(K:W.Frag):Sp:=fun vs H Q _=>∃ (p dx d wl:Addr) (fs:List (Str×V)) (ks:List (Key×V)) (ws:List Str) (vv:List V),vs=[.ref p,.ref wl]/\H p=some (.ins C dx fs)/\fs.lookup ("heaps":Str)=some (.ref d)/\fs.lookup ("meant":Str)=none/\H d=some (.dK ks)/\H wl=some (.lst (ws.map V.str))/\Und K forms ks ws vv/\∀t H',Same H H'->H' t=some (.tup vv)->Q (.ref t) H'
theorem Aq {fm dF:Addr}{ee:FuncData}(F:Fun K "understood" "Desk.understood" yH f fd)(T:Bl mg)(L:DK K C)(SF:wa w K dF forms)(sF:(dF == sysModules)=false)(M:mg "FORMS"=some (.ref dF))(I:bp K C "meant" fm)(R:au P w K mg base CX0 5 fm ee ["self","kind","word"] (rR C))(W:Binds K ee ["self","kind","word"] []):
  au P w K mg base CX0 6 f fd ["self","words"] (z6 C forms K):=by
 have sc:=zX;refine F.okQ zX fun el A outer s H vs Q E hr h=>?_;obtain ⟨p,dx,d,wl,fs,ks,ws,G,rfl,hp,hl,hm,hd,hw,U,k⟩:=h;have hu:=hr.units0;refine ⟨_,(ac (vC (i:=2) sc.nd rfl (Or.inr rfl) (zu SF sF (iJ (v:=.ref dF) rfl M rfl) (aA aM (qv 1) ai pix) (be ag) ⟨rfl,rfl,rfl,rfl⟩))
  (ac (aT (aw B7 (qcB aK T.z_len (aa (qv 1) ag)) (qcB aK T.z_len (aa (qv 2) ag)) (aG _)) (aj dG) aE)
  (ac (qst 3 sc.nd (qcT cI T.z_tuple (aa (di (Blk.of (N:=["self","words","form","asked"]) (esc:=ak yH) (NB:=["form","self","words"]) (cap:=[2,0,1]) rfl rfl (fun y hy=>bH hy) rfl C9 C9 C9 rfl C9 rfl C9) rfl rfl (cC rfl T.z_range (aa (qcB aK T.z_len (aa (qv 2) ag)) ag)) (fun C fp s₀ H₀=>dO) (fun C fp s₀ H₀=>(aV (qv 2) L.cl I R hr.mo W .nil aB (aa (aA (sS (K:=K) rfl) (qv 1) (qv 0) pix) (aa (aA (vz (K:=K) rfl) (qv 3) (qv 0) pix) ag))))) ag)))
  (ac (aT (QW.pt (dA (aw bA (aA aI (qv 3) ai pix) aq (aG _)) (cG (aw bA (aA aI (qv 3) ai pix) (aA aI (qv 3) ai pix) (aG _))))) (aj dG) aE)
  (aj (aD (qv 3))))))),?_⟩
 obtain ⟨⟨w0,q,O,e0,lk,sq,lq,ei⟩,lv,ed,Y,join⟩:=U;have er:(ws.map V.str)[0]?=some (.str w0):=by rw [DN,e0];rfl
 refine ⟨rfl,_,_,SqL.of hw,aW (j:=0) er,?_⟩;refine ⟨sz0,fun t0 eh=>⟨w0,rfl,?_⟩⟩;rw [lk];refine gnew eh fun H1 s1 _=>?_;refine ⟨wl,_,rfl,.inl (SqL.of (s1 _ _ hw)),q,_,rfl,.inr (sq H1),rfl,_,rfl,aS (fun c=>?_) (fun _=>?_)⟩
 .rw [Dg,Dg,lq,Dk rfl] at c;cases c
 refine ⟨q,_,rfl,.inr (sq H1),_,rfl,by rw [Dg];lia,by rw [Dg];lia,fun D hD=>?_⟩;refine ii (lo:=0) (n:=(O.map V.str).length) (fun i ys S=>S D=some (.lst ys)/\ys=G.take i/\Same H1 S) ⟨ad,rfl,ar hD⟩ (fun i ys S z=>z.1) ?_ ?_
 .rintro i ys S hi ⟨h4,rfl,s4⟩;have eo:i<O.length:=by rw [Dg] at hi;exact hi
  have hz:i<ws.length:=by lia
  obtain ⟨v,ev,mv⟩:=ei i _ _ (bt eo) (bt hz);have ek:(O.map V.str)[i]?=some (.str O[i]):=by rw [DN,bt eo];rfl
  have ez:(ws.map V.str)[i]?=some (.str ws[i]):=by rw [DN,bt hz];rfl
  unfold AG;dsimp only;rw [Dm rfl];have ix:∀{l:List V} {v:V},l[i]?=some v->atI l (0+(i:Int))=some v:=fun e=>by rw [Gh];exact aW e
  have up:Same H S:=fun c u e=>s4 c u (s1 c u e);refine ⟨p,dx,fs,rfl,up _ _ hp,hm,_,_,sq S,ix ek,_,_,SqL.of (up _ _ hw),ix ez,p,dx,d,fs,ks,_,_,v,rfl,up _ _ hp,hl,up _ _ hd,mv,fun H5 J=>?_⟩;have lt:(G.take i).length<=i:=by rw [Es];lia
  have ln:(O.map V.str).length=O.length:=Dg ..;refine ⟨J _ _ h4,aZ Dc,_,Dc,rfl,Dc,ad,?_,fun c u e=>?_⟩
  .rw [Ef,ev];rfl
  .rw [af (fun z=>by rw [z,hD] at e;cases e)];exact J c u (s4 c u e)
 rintro ys S ⟨h4,rfl,s4⟩;rw [Dg,lq,<-lv,D9] at h4;refine ⟨D,G,rfl,.inl ⟨SqL.of h4,fun t ht=>?_⟩⟩;have g5:=ad (H:=S) (a:=t) (o:=.tup G);have J:=ar (o:=.tup G) ht;generalize upd S t (.tup G)=H5 at g5 J ⊢;have et:Q (.ref t) H5:=k t H5 (fun c u e=>J c u (s4 c u (s1 c u e))) g5;obtain ⟨x,ex⟩:=Y;refine ⟨_,_,SqT.of g5,aW (j:=0) ex,rfl,_,rfl,aS (fun c=>?_) (fun c=>?_)⟩
 .have cx:=Dp c;rw [cx] at ex;obtain ⟨a,b,ea,eb,ne⟩:=join ex;refine ⟨_,_,SqT.of g5,aW (j:=1) ea,_,_,SqT.of g5,aW (j:=2) eb,rfl,_,rfl,aS (fun c2=>?_) (fun _=>?_)⟩
  .exact absurd (V.str.inj (Dp c2)) ne
  .exact (et)
 exact bW (et)
def dX:V->Str
 | .int i=>Str.ofString (toString i)
 | .str z=>z
 | _=>""
def uc (v:V):Prop:=(∃ i:Int,v=.int i/\i.natAbs.log2<1920)∨∃ z:Str,v=.str z
abbrev qO:Stmt:=top 34
theorem sM:av ["pair"] ["pair"] (ak qO):=fs0
def oj (K:W.Frag):Sp:=fun vs H Q _=>∃ (p:Addr) (x y:V) (zs:List V),vs=[.ref p]/\SqT K H p (x::y::zs)/\uc x/\uc y/\(dX x).length<=700/\(dX y).length<=700/\Q (.str (dX x++" "++dX y)) H
theorem uW (F:Fun K "shown" "shown" qO f fd)(T:Bl mg)(c:mg "str"=none):
  au P w K mg base CX0 1 f fd ["pair"] (oj K):=by
 have Y:=sM;refine F.okQ sM fun U A outer s H vs Q E M h=>?_;obtain ⟨p,x,y,zs,rfl,I,W,ty,O,R,k⟩:=h;have J:=M.units0;refine ⟨_,(aj (aD (ao ba (ao ba (qcT bv c (aa (aA aI (qv 0) ai pix) ag)) aq) (qcT bv c (aa (aA aI (qv 0) ai pix) ag))))),?_⟩;have G:(" ":Str).length=1:=by decide +kernel
 have S:1401<=sizeLine:=by decide
 refine ⟨_,_,I,aW (j:=0) rfl,?_⟩;refine W.elim (fun ⟨i,e,l⟩=>.inl ⟨i,by rw [e],l,?_⟩) (fun ⟨z,e⟩=>.inr ⟨z,by rw [e],?_⟩) <;> subst e <;> refine ⟨_,_,rfl,rfl,?_,_,_,I,aW (j:=1) rfl,ty.elim (fun ⟨i,e,l⟩=>.inl ⟨i,by rw [e],l,?_⟩) (fun ⟨z,e⟩=>.inr ⟨z,by rw [e],?_⟩)⟩
 all_goals first | (subst e;refine ⟨_,_,rfl,rfl,?_,k⟩;rw [strLen_append];simp only [dX] at O R;lia) | (simp only [dX] at O;lia)
abbrev pC:Stmt:=a7 (top 31) 3
theorem ub:av ["self","name","heap","joined"] ["self","name","heap","joined"] (ak pC):=fs0
def kZ (C:Addr):Sp:=fun vs H Q _=>∃ (p dx d e h:Addr) (fs:List (Str×V)) (ks js:List (Key×V)) (z:Str) (j:Int),vs=[.ref p,.str z,.ref h,.int j]/\H p=some (.ins C dx fs)/\fs.lookup ("heaps":Str)=some (.ref d)/\fs.lookup ("joined":Str)=some (.ref e)/\H d=some (.dK ks)/\H e=some (.dK js)/\d≠e/\d≠p/\ks.length<1000/\js.length<1000/\Q .non (upd (upd H d (.dK (aQ ks (Sum.inr z) (.ref h)))) e (.dK (aQ js (Sum.inr z) (.int j))))
theorem w9 (F:Fun K "stand" "Desk.stand" pC f fd)(T:Bl mg)(L:DK K C):
  au P w K mg base CX0 1 f fd ["self","name","heap","joined"] (kZ C):=by
 have sc:=ub;refine F.okQ ub fun G A outer s H vs Q E c h=>?_;obtain ⟨p,O,d,e,h,fs,ks,js,z,j,rfl,I,J,U,hd,Y,S,R,M,W,k⟩:=h;have hu:=c.units0;refine ⟨_,(ac (cH (aO c) (aY (qv 0) rfl) (qv 1) (qv 2) rfl)
  (aj (cH (aO c) (aY (qv 0) rfl) (qv 1) (qv 3) rfl))),?_⟩
 refine ⟨p,C,O,fs,_,rfl,I,L.cl,L.hp,J,d,_,rfl,DPut.k (k:=Sum.inr z) hd (aZ (FH M)),?_⟩;exact ⟨p,C,O,fs,_,rfl,by rw [af (Fc R)];exact I,L.cl,L.jn,U,e,_,rfl,DPut.k (k:=Sum.inr z) (by rw [af (Fc S)];exact Y) (aZ (FH W)),k⟩
abbrev xG:Stmt:=top 13
theorem ww:av ["heap","place","other","held"] ["heap","place","other"] (ak xG):=fs0
def qJ:Sp:=fun vs H Q _=>∃ (r:Addr) (xs:List V) (i j:Nat),vs=[.ref r,.int i,.int j]/\H r=some (.lst xs)/\i<xs.length/\j<xs.length/\Q .non (upd H r (.lst (sw xs i j)))
theorem zq (F:Fun K "exchange" "exchange" xG f fd)(T:Bl mg):au P w K mg base CX0 1 f fd ["heap","place","other"] qJ:=by
 have R:=ww;refine F.ok ww fun O A outer s H vs Q E I h=>?_;obtain ⟨r,xs,i,j,rfl,c,hi,S,k⟩:=h;have U:=I.units0;refine ⟨_,(QSs.to (ac (qst 3 R.nd (aA aM (qv 0) (qv 1) pix))
  (ac (eJ (aA aM (qv 0) (qv 2) pix) (df (qv 0) (qv 1) bO))
  (aj (eJ (qv 3) (df (qv 0) (qv 2) bO)))))),?_⟩
 refine ⟨_,_,SqL.of c,hU hi,?_⟩;refine ⟨_,_,SqL.of c,hU S,?_⟩;refine ⟨r,xs,_,i,rfl,rfl,c,cy Dc Dc,?_⟩;refine ⟨r,_,_,j,rfl,rfl,ad,cy Dc (by rw [EA];lia),?_⟩;rw [gg];exact k
abbrev v9:Stmt:=top 11
theorem wB:av ["heap","start","place","looks","above"] ["heap","start"] (ak v9):=fs0
def xB:Sp:=fun vs H Q _=>∃ (r:Addr) (xs:List V) (a:Nat) (t:V->List V),vs=[.ref r,.int a]/\H r=some (.lst xs)/\EnG t H xs/\a<xs.length/\xs.length<=1100 /\
 ∀H',H' r=some (.lst (up (ltT t) a xs a 0).1)->(∀b o,H b=some o->b≠r->H' b=some o)->Q (.int (up (ltT t) a xs a 0).2) H'
theorem yx (F:Fun K "lift" "lift" v9 f fd)(T:Bl mg)(c:au P w K mg base CX0 1 fe fde ["heap","place","other"] qJ)(O:Nm K mg "exchange" fe fde ["heap","place","other"]):
  au P w K mg base CX0 2 f fd ["heap","start"] xB:=by
 have M:=wB;refine F.ok wB fun eo A outer s H vs Q E hr h=>?_;obtain ⟨r,xs,a,t,rfl,hx,en,ha,hl,k⟩:=h;have hu:=hr.units0;have Y:=jJ hr.u100;refine ⟨_,(QSs.to (ac (qst 2 M.nd (qv 1))
  (ac (qst 3 M.nd ai)
  (ac (cU D8 (aw im (qv 2) ai (aG _)) (ac (qst 4 M.nd (ao bo (ao cb (qv 2) ai) ai))
  (ac (qst 3 M.nd (ao aN (qv 3) ai))
  (ac (aT (cD (aw (pH Y) (aA aM (qv 0) (qv 2) pix) (aA aM (qv 0) (qv 4) pix) (aG _))) (aj (aD (qv 3))) aE)
  (ac (aH (qcl c hr O aB (aa (qv 0) (aa (qv 2) (aa (qv 4) ag)))))
  (aj (qst 2 M.nd (qv 4))))))))
  (aj (aD (qv 3))))))),?_⟩;dsimp only [bM,Cx.nox]
 refine (?_);refine ⟨fun m Z S=>∃ (f p I:Nat) (bl:Option V) (ys:List V),Z=[some (.ref r),some (.int a),some (.int p),some (.int I),bl]/\up (ltT t) f ys p I=up (ltT t) a xs a 0/\p<=f/\p<ys.length/\S r=some (.lst ys)/\ys.length=xs.length/\(∀y∈ys,y∈xs)/\(∀b o,H b=some o->b≠r->S b=some o)/\m=p,
  ⟨_,a,a,0,none,xs,rfl,rfl,Dj _,ha,hx,rfl,fun y h=>h,fun b o e _=>e,rfl⟩,?_⟩
 rintro p Z S ⟨f,p',I,bl,ys,rfl,hd,hf,G,R,l2,s2,W,rfl⟩;have ee:EnG t S ys:=(en.bar hx W).sub s2;refine ⟨_,rfl,aS (fun c1=>?_) (fun c1=>(?_))⟩
 rotate_left
 .have et:¬ (p:Int)>0:=by simpa using c1
  rw [up_stop Dc] at hd;have:=k S;rw [<-hd] at this;exact this R W
 have et:(p:Int)>0:=by simpa using c1
 obtain ⟨f,rfl⟩:∃ f0,f=f0+1:=⟨f-1,Dc⟩;refine ⟨fun σ' H'=>∃ m',m'<p/\∃ (f p I:Nat) (bl:Option V) (ys:List V),σ'=[some (.ref r),some (.int a),some (.int p),some (.int I),bl]/\up (ltT t) f ys p I=up (ltT t) a xs a 0/\p<=f/\p<ys.length/\H' r=some (.lst ys)/\ys.length=xs.length/\(∀y∈ys,y∈xs)/\(∀b o,H b=some o->b≠r->H' b=some o)/\m'=p,fun σ' H' z=>z,?_⟩;refine ⟨⟨Db,Db⟩,?_⟩;refine (?_);have U:(p-1) / 2<ys.length:=by lia
 have J:((p:Int)-1) / 2=(((p-1) / 2:Nat):Int):=by lia
 have t1:=hU G;have t2:=hU U;rw [<-J] at t2;refine ⟨_,_,SqL.of R,t1,_,_,SqL.of R,t2,t,ys,p,(p-1) / 2,ee,G,U,rfl,rfl,_,rfl,aS (fun c3=>?_) (fun c3=>?_)⟩
 .have q3:ltT t (g ys p) (g ys ((p-1) / 2))=false:=by
   cases q:ltT t (g ys p) (g ys ((p-1) / 2)) with
   | false=>rfl
   | true=>have c4:=(show (!ltT t (g ys p) (g ys ((p-1) / 2)))=true from c3);rw [q] at c4;cases c4
  refine (?_);rw [up_stay Dc q3] at hd;have:=k S;rw [<-hd] at this;exact this R W
 have q3:ltT t (g ys p) (g ys ((p-1) / 2))=true:=by
  cases q:ltT t (g ys p) (g ys ((p-1) / 2)) with
  | true=>rfl
  | false=>exact absurd (show (!ltT t (g ys p) (g ys ((p-1) / 2)))=true by rw [q];rfl) c3
 rw [up_go Dc q3] at hd;refine ⟨r,ys,p,(p-1) / 2,(by show [V.ref r,V.int (p:Int),V.int (((p:Int)-1) / 2)]=[V.ref r,V.int (p:Int),V.int ((((p-1) / 2:Nat)):Int)];rw [J]),R,G,U,?_⟩;refine ⟨(p-1) / 2,Dc,f,(p-1) / 2,I+1,some (.int ((((p-1) / 2:Nat)):Int)),sw ys p ((p-1) / 2),(by show [some (V.ref r),some (V.int a),some (V.int (((p:Int)-1) / 2)),some (V.int ((I:Int)+1)),some (V.int (((p:Int)-1) / 2))]=_;rw [J];rfl),hd,Dc,by rw [aX];exact U,ad,by rw [aX];exact l2,fun y hy=>s2 y (fX G U y hy),fun b o e nb=>by rw [af nb];exact W b o e nb,rfl⟩
abbrev AA:Stmt:=top 8
theorem z7:av ["heap","entry"] ["heap","entry"] (ak AA):=fs0
def sO:Sp:=fun vs H Q _=>∃ (r:Addr) (xs:List V) (e:V) (t:V->List V),vs=[.ref r,e]/\H r=some (.lst xs)/\EnG t H (xs++[e])/\xs.length<=1000 /\
 ∀H',H' r=some (.lst (up (ltT t) xs.length (xs++[e]) xs.length 0).1)->(∀b o,H b=some o->b≠r->H' b=some o)->Q (.int (up (ltT t) xs.length (xs++[e]) xs.length 0).2) H'
theorem Bh (F:Fun K "lay_in" "lay_in" AA f fd)(T:Bl mg)(O:au P w K mg base CX0 2 fe fde ["heap","start"] xB)(c:Nm K mg "lift" fe fde ["heap","start"]):
  au P w K mg base CX0 3 f fd ["heap","entry"] sO:=by
 have J:=z7;refine F.ok z7 fun U A outer s H vs Q E S h=>?_;obtain ⟨r,xs,e,t,rfl,I,en,Y,k⟩:=h;have hu:=S.units0;have M:=jJ S.u100;refine ⟨_,(QSs.to (ac (aH (gN Eg Ex Ey cg (qv 0) (aa (qv 1) ag)))
  (aj (aD (qcl O S c aB (aa (qv 0) (aa (ao cb (qcB aK T.z_len (aa (qv 0) ag)) ai) ag))))))),?_⟩
 refine ⟨.inl ⟨rfl,_,SqL.of I⟩,r,xs,e,rfl,rfl,I,DY Y Db,?_⟩;have G:(xs++[e]).length=xs.length+1:=by rw [Ds];rfl
 refine ⟨r,_,rfl,.inl (SqL.of ad),r,xs++[e],xs.length,t,?_,ad,en.put I,Dc,Dc,fun H' h' W=>k H' h' fun b o q R=>W b o (by rw [af R];exact q) R⟩;rw [G];show [V.ref r,V.int (((xs.length+1:Nat):Int)-1)]=_;rw [show ((xs.length+1:Nat):Int)-1=(xs.length:Int) by lia]
abbrev iW:Stmt:=top 12
theorem km:av ["heap","start","place","looks","beneath"] ["heap","start"] (ak iW):=fs0
def hJ:Sp:=fun vs H Q _=>∃ (r:Addr) (xs:List V) (a:Nat) (t:V->List V),vs=[.ref r,.int a]/\H r=some (.lst xs)/\EnG t H xs/\xs.length<=1000 /\
 ∀H',H' r=some (.lst (dn (ltT t) xs.length xs a 0).1)->(∀b o,H b=some o->b≠r->H' b=some o)->Q (.int (dn (ltT t) xs.length xs a 0).2) H'
theorem qy (F:Fun K "let_down" "let_down" iW f fd)(T:Bl mg)(R:au P w K mg base CX0 1 fe fde ["heap","place","other"] qJ)(U:Nm K mg "exchange" fe fde ["heap","place","other"]):
  au P w K mg base CX0 2 f fd ["heap","start"] hJ:=by
 have sc:=km;refine F.ok km fun eh A outer s H vs Q E hr h=>?_;obtain ⟨r,xs,a,t,rfl,hx,en,hl,k⟩:=h;have hu:=hr.units0;have et:=jJ hr.u100;refine ⟨_,(QSs.to (ac (qst 2 sc.nd (qv 1))
  (ac (qst 3 sc.nd ai)
  (ac (cU D8 (aw dI (ao aN (ao bU ai (qv 2)) ai) (qcB aK T.z_len (aa (qv 0) ag)) (aG _)) (ac (qst 4 sc.nd (ao aN (ao bU ai (qv 2)) ai))
  (ac (aT (aw dI (ao aN (qv 4) ai) (qcB aK T.z_len (aa (qv 0) ag)) (aG _)) (ac (qst 3 sc.nd (ao aN (qv 3) ai))
  (aj (aT (aw (pH et) (aA aM (qv 0) (ao aN (qv 4) ai) pix) (aA aM (qv 0) (qv 4) pix) (aG _)) (aj (qst 4 sc.nd (ao aN (qv 4) ai))) aE))) aE)
  (ac (qst 3 sc.nd (ao aN (qv 3) ai))
  (ac (aT (cD (aw (pH et) (aA aM (qv 0) (qv 4) pix) (aA aM (qv 0) (qv 2) pix) (aG _))) (aj (aD (qv 3))) aE)
  (ac (aH (qcl R hr U aB (aa (qv 0) (aa (qv 2) (aa (qv 4) ag)))))
  (aj (qst 2 sc.nd (qv 4)))))))))
  (aj (aD (qv 3))))))),?_⟩;dsimp only [bM,Cx.nox]
 refine (?_);refine ⟨fun m Z W=>∃ (f p I:Nat) (bl:Option V) (ys:List V),Z=[some (.ref r),some (.int a),some (.int p),some (.int I),bl]/\dn (ltT t) f ys p I=dn (ltT t) xs.length xs a 0/\ys.length<=p+f/\W r=some (.lst ys)/\ys.length=xs.length/\(∀y∈ys,y∈xs)/\(∀b o,H b=some o->b≠r->W b=some o)/\m=ys.length-p,
  ⟨_,xs.length,a,0,none,xs,rfl,rfl,Dc,hx,rfl,fun y h=>h,fun b o e _=>e,rfl⟩,?_⟩
 rintro m Z W ⟨f,p,I,bl,ys,rfl,hd,hf,S,l2,s2,f2,rfl⟩;have ee:EnG t W ys:=(en.bar hx f2).sub s2;refine ⟨.inl ⟨Db,Db⟩,r,_,rfl,.inl (SqL.of S),_,rfl,aS (fun c1=>?_) (fun c1=>(?_))⟩
 rotate_left
 .have eo:¬ 2*(p:Int)+1<(ys.length:Int):=by simpa using c1
  rw [si Dc] at hd;have:=k W;rw [<-hd] at this;exact this S f2
 have eo:2*(p:Int)+1<(ys.length:Int):=by simpa using c1
 refine ⟨fun σ' H'=>∃ m',m'<ys.length-p/\∃ (f p I:Nat) (bl:Option V) (zs:List V),σ'=[some (.ref r),some (.int a),some (.int p),some (.int I),bl]/\dn (ltT t) f zs p I=dn (ltT t) xs.length xs a 0/\zs.length<=p+f/\H' r=some (.lst zs)/\zs.length=xs.length/\(∀y∈zs,y∈xs)/\(∀b o,H b=some o->b≠r->H' b=some o)/\m'=zs.length-p,fun σ' H' z=>z,?_⟩;refine ⟨.inl ⟨Db,Db⟩,?_⟩;refine ⟨r,_,rfl,.inl (SqL.of S),_,rfl,aS (fun c2=>?_) (fun c2=>?_)⟩
 .have ei:2*(p:Int)+1+1<(ys.length:Int):=by simpa using c2
  refine (?_);have t3:=hU (show 2*p+2<ys.length by lia);have t4:=hU (show 2*p+1<ys.length by lia);rw [show ((2*p+2:Nat):Int)=2*(p:Int)+1+1 by lia] at t3;rw [show ((2*p+1:Nat):Int)=2*(p:Int)+1 by lia] at t4;have O:kids ys.length p=2:=by unfold kids;rw [Dm Dc]
  have ea:=tG (lt:=ltT t) (xs:=ys) (p:=p) Dc;refine ⟨_,_,SqL.of S,t3,_,_,SqL.of S,t4,t,ys,2*p+2,2*p+1,ee,Dc,Dc,rfl,rfl,_,rfl,aS (fun M=>?_) (fun M=>?_)⟩
  .refine (?_);have G:2*(p:Int)+1+1=((les (ltT t) ys p:Nat):Int):=by rw [ea,Dm (show ltT t (g ys (2*p+2)) (g ys (2*p+1))=true from M)]
   have c:les (ltT t) ys p<ys.length:=dw Dc;have lo:=dL (lt:=ltT t) (xs:=ys) (p:=p);refine (?_);have t1:=hU c;have t2:=hU (show p<ys.length by lia);rw [<-G] at t1;refine ⟨_,_,SqL.of S,t1,_,_,SqL.of S,t2,t,ys,les (ltT t) ys p,p,ee,c,Dc,rfl,rfl,_,rfl,aS (fun c3=>?_) (fun c3=>?_)⟩
   .have J:ltT t (g ys (les (ltT t) ys p)) (g ys p)=false:=by
     cases q:ltT t (g ys (les (ltT t) ys p)) (g ys p) with
     | false=>rfl
     | true=>have M:=(show (!ltT t (g ys (les (ltT t) ys p)) (g ys p))=true from c3);rw [q] at M;cases M
    refine (?_);obtain ⟨f,rfl⟩:∃ f0,f=f0+1:=⟨f-1,Dc⟩;rw [gc Dc J,O] at hd;have:=k W;rw [<-hd] at this;have Y:((I:Int)+1+1)=((I+2:Nat):Int):=by lia
    show Q (.int ((I:Int)+1+1)) W;rw [Y];exact this S f2
   .have J:ltT t (g ys (les (ltT t) ys p)) (g ys p)=true:=by
     cases q:ltT t (g ys (les (ltT t) ys p)) (g ys p) with
     | true=>rfl
     | false=>exact absurd (show (!ltT t (g ys (les (ltT t) ys p)) (g ys p))=true by rw [q];rfl) c3
    obtain ⟨f,rfl⟩:∃ f0,f=f0+1:=⟨f-1,Dc⟩;rw [nM Dc J,O] at hd;refine ⟨r,ys,p,les (ltT t) ys p,(by show [V.ref r,V.int (p:Int),V.int (2*(p:Int)+1+1)]=_;rw [G]),S,Dc,c,?_⟩;refine ⟨ys.length-les (ltT t) ys p,Dc,f,les (ltT t) ys p,I+2,some (.int (2*(p:Int)+1+1)),sw ys p (les (ltT t) ys p),?_,hd,by rw [aX];lia,ad,by rw [aX];exact l2,fun y hy=>s2 y (fX Dc c y hy),fun b o e nb=>by rw [af nb];exact f2 b o e nb,by rw [aX]⟩;have Y:((I:Int)+1+1)=((I+2:Nat):Int):=by lia
    show [some (V.ref r),some (V.int a),some (V.int (2*(p:Int)+1+1)),some (V.int ((I:Int)+1+1)),some (V.int (2*(p:Int)+1+1))]=_;rw [Y,G]
  .have G:2*(p:Int)+1=((les (ltT t) ys p:Nat):Int):=by rw [ea,Di (show ¬ ltT t (g ys (2*p+2)) (g ys (2*p+1))=true from M)];lia
   have c:les (ltT t) ys p<ys.length:=dw Dc;have lo:=dL (lt:=ltT t) (xs:=ys) (p:=p);refine (?_);have t1:=hU c;have t2:=hU (show p<ys.length by lia);rw [<-G] at t1;refine ⟨_,_,SqL.of S,t1,_,_,SqL.of S,t2,t,ys,les (ltT t) ys p,p,ee,c,Dc,rfl,rfl,_,rfl,aS (fun c3=>?_) (fun c3=>?_)⟩
   .have J:ltT t (g ys (les (ltT t) ys p)) (g ys p)=false:=by
     cases q:ltT t (g ys (les (ltT t) ys p)) (g ys p) with
     | false=>rfl
     | true=>have M:=(show (!ltT t (g ys (les (ltT t) ys p)) (g ys p))=true from c3);rw [q] at M;cases M
    refine (?_);obtain ⟨f,rfl⟩:∃ f0,f=f0+1:=⟨f-1,Dc⟩;rw [gc Dc J,O] at hd;have:=k W;rw [<-hd] at this;have Y:((I:Int)+1+1)=((I+2:Nat):Int):=by lia
    show Q (.int ((I:Int)+1+1)) W;rw [Y];exact this S f2
   .have J:ltT t (g ys (les (ltT t) ys p)) (g ys p)=true:=by
     cases q:ltT t (g ys (les (ltT t) ys p)) (g ys p) with
     | true=>rfl
     | false=>exact absurd (show (!ltT t (g ys (les (ltT t) ys p)) (g ys p))=true by rw [q];rfl) c3
    obtain ⟨f,rfl⟩:∃ f0,f=f0+1:=⟨f-1,Dc⟩;rw [nM Dc J,O] at hd;refine ⟨r,ys,p,les (ltT t) ys p,(by show [V.ref r,V.int (p:Int),V.int (2*(p:Int)+1)]=_;rw [G]),S,Dc,c,?_⟩;refine ⟨ys.length-les (ltT t) ys p,Dc,f,les (ltT t) ys p,I+2,some (.int (2*(p:Int)+1)),sw ys p (les (ltT t) ys p),?_,hd,by rw [aX];lia,ad,by rw [aX];exact l2,fun y hy=>s2 y (fX Dc c y hy),fun b o e nb=>by rw [af nb];exact f2 b o e nb,by rw [aX]⟩;have Y:((I:Int)+1+1)=((I+2:Nat):Int):=by lia
    show [some (V.ref r),some (V.int a),some (V.int (2*(p:Int)+1)),some (V.int ((I:Int)+1+1)),some (V.int (2*(p:Int)+1))]=_;rw [Y,G]
 have ei:¬ 2*(p:Int)+1+1<(ys.length:Int):=by simpa using c2
 have G:2*(p:Int)+1=((les (ltT t) ys p:Nat):Int):=by rw [tU Dc];lia
 have O:kids ys.length p=1:=by unfold kids;rw [Di Dc,Dm Dc]
 have c:les (ltT t) ys p<ys.length:=dw Dc;have lo:=dL (lt:=ltT t) (xs:=ys) (p:=p);refine (?_);have t1:=hU c;have t2:=hU (show p<ys.length by lia);rw [<-G] at t1;refine ⟨_,_,SqL.of S,t1,_,_,SqL.of S,t2,t,ys,les (ltT t) ys p,p,ee,c,Dc,rfl,rfl,_,rfl,aS (fun c3=>?_) (fun c3=>?_)⟩
 .have J:ltT t (g ys (les (ltT t) ys p)) (g ys p)=false:=by
   cases q:ltT t (g ys (les (ltT t) ys p)) (g ys p) with
   | false=>rfl
   | true=>have M:=(show (!ltT t (g ys (les (ltT t) ys p)) (g ys p))=true from c3);rw [q] at M;cases M
  refine (?_);obtain ⟨f,rfl⟩:∃ f0,f=f0+1:=⟨f-1,Dc⟩;rw [gc Dc J,O] at hd;have:=k W;rw [<-hd] at this;have Y:((I:Int)+1)=((I+1:Nat):Int):=by lia
  show Q (.int ((I:Int)+1)) W;rw [Y];exact this S f2
 have J:ltT t (g ys (les (ltT t) ys p)) (g ys p)=true:=by
  cases q:ltT t (g ys (les (ltT t) ys p)) (g ys p) with
  | true=>rfl
  | false=>exact absurd (show (!ltT t (g ys (les (ltT t) ys p)) (g ys p))=true by rw [q];rfl) c3
 obtain ⟨f,rfl⟩:∃ f0,f=f0+1:=⟨f-1,Dc⟩;rw [nM Dc J,O] at hd;refine ⟨r,ys,p,les (ltT t) ys p,(by show [V.ref r,V.int (p:Int),V.int (2*(p:Int)+1)]=_;rw [G]),S,Dc,c,?_⟩;refine ⟨ys.length-les (ltT t) ys p,Dc,f,les (ltT t) ys p,I+1,some (.int (2*(p:Int)+1)),sw ys p (les (ltT t) ys p),?_,hd,by rw [aX];lia,ad,by rw [aX];exact l2,fun y hy=>s2 y (fX Dc c y hy),fun b o e nb=>by rw [af nb];exact f2 b o e nb,by rw [aX]⟩;have Y:((I:Int)+1)=((I+1:Nat):Int):=by lia
 show [some (V.ref r),some (V.int a),some (V.int (2*(p:Int)+1)),some (V.int ((I:Int)+1)),some (V.int (2*(p:Int)+1))]=_;rw [Y,G]
abbrev Ax:Stmt:=top 9
theorem Ac:av ["heap","last"] ["heap"] (ak Ax):=fs0
def rH:Sp:=fun vs H Q _=>∃ (r:Addr) (xs:List V) (t:V->List V),vs=[.ref r]/\H r=some (.lst xs)/\EnG t H xs/\0<xs.length/\xs.length<=1000 /\
 ∀H',H' r=some (.lst (cutf (ltT t) xs).1)->(∀b o,H b=some o->b≠r->H' b=some o)->Q (.int (cutf (ltT t) xs).2) H'
theorem Ae (F:Fun K "cut_first" "cut_first" Ax f fd)(T:Bl mg)(O:au P w K mg base CX0 2 fe fde ["heap","start"] hJ)(c:Nm K mg "let_down" fe fde ["heap","start"]):
  au P w K mg base CX0 3 f fd ["heap"] rH:=by
 have sc:=Ac;refine F.ok Ac fun et A outer s H vs Q E M h=>?_;obtain ⟨r,xs,t,rfl,U,en,h0,hl,k⟩:=h;have hu:=M.units0;have ee:=jJ M.u100;refine ⟨_,(QSs.to (ac (qst 1 sc.nd (pZ Eg Iz IA xO (qv 0)))
  (ac (aT (aw bA (qcB aK T.z_len (aa (qv 0) ag)) ai (aG _)) (aj (aD ai)) aE)
  (ac (eJ (qv 1) (df (qv 0) ai bO))
  (aj (aD (qcl O M c aB (aa (qv 0) (aa ai ag))))))))),?_⟩
 have Y:xs[xs.length-1]?=some (g xs (xs.length-1)):=by rw [g_get Dc];exact bt _
 have G:g xs (xs.length-1)∈xs:=DV Y;refine ⟨.inl ⟨rfl,_,SqL.of U⟩,r,xs,_,rfl,rfl,U,Y,?_⟩;have ld:xs.dropLast.length=xs.length-1:=Eh;refine ⟨r,_,rfl,.inl (SqL.of ad),rfl,_,rfl,aS (fun W=>?_) (fun W=>?_)⟩
 .have I:xs.dropLast.length=0:=by have:=Dp W;have:=V.int.inj this;lia
  have S:cutf (ltT t) xs=([],0):=cX Dc;have:=k (upd H r (.lst xs.dropLast));rw [S] at this;exact this (by rw [ad,DL.mp I]) fun b o e R=>by rw [af R];exact e
 have I:xs.dropLast.length≠0:=fun z=>W (Dk (by rw [z];rfl));have J:(xs.dropLast.set 0 (g xs (xs.length-1))).length=xs.dropLast.length:=EA;refine ⟨r,xs.dropLast,_,0,rfl,rfl,ad,cy Dc Dc,?_⟩;rw [gg];have S:cutf (ltT t) xs=dn (ltT t) xs.dropLast.length (xs.dropLast.set 0 (g xs (xs.length-1))) 0 0:=by unfold cutf;rw [Di (fun z=>I (by rw [z];rfl))]
 refine ⟨r,_,0,t,rfl,ad,(en.sub fun y hy=>?_).put U,Dc,fun H' h' f'=>?_⟩
 .rcases Hi hy with z | z
  .exact (IB xs).mem z
  .rw [z];exact G
 rw [J,<-S] at h';rw [J,<-S];exact k H' h' fun b o e R=>f' b o (by rw [af R];exact e) R
abbrev qu:Stmt:=top 10
theorem tW:av ["heap","looks","place"] ["heap"] (ak qu):=fs0
def mL:Sp:=fun vs H Q _=>∃ (r:Addr) (xs:List V) (t:V->List V),vs=[.ref r]/\H r=some (.lst xs)/\EnG t H xs/\xs.length<=1000 /\
 ∀H',H' r=some (.lst (mk (ltT t) (xs.length / 2) xs 0).1)->(∀b o,H b=some o->b≠r->H' b=some o)->Q (.int (mk (ltT t) (xs.length / 2) xs 0).2) H'
theorem wq (F:Fun K "order" "order" qu f fd)(T:Bl mg)(O:au P w K mg base CX0 2 fn fdn ["heap","start"] hJ)(c:Nm K mg "let_down" fn fdn ["heap","start"]):
  au P w K mg base CX0 3 f fd ["heap"] mL:=by
 have sc:=tW;refine F.ok tW fun et A outer s H vs Q E Y h=>?_;obtain ⟨r,xs,t,rfl,G,en,hl,k⟩:=h;have hu:=Y.units0;have ee:=jJ Y.u100;refine ⟨_,(QSs.to (ac (qst 1 sc.nd ai)
  (ac (cE D8 rfl (kK rfl T.z_range (aa (ao cb (ao bo (qcB aK T.z_len (aa (qv 0) ag)) ai) ai) (aa (kI hG ai) (aa (kI hG ai) ag)))) (bQ (i:=2) sc.nd rfl (Or.inl rfl)) (aj (qst 1 sc.nd (ao aN (qv 1) (qcl O Y c aB (aa (qv 0) (aa (qv 2) ag)))))))
  (aj (aD (qv 1)))))),?_⟩
 refine ⟨r,_,rfl,.inl (SqL.of G),⟨Db,Db⟩,_,_,rfl,⟨Dc,Dc,Dc,Dc⟩,?_⟩;have R:((xs.length:Int) / 2-1 - -1).toNat=xs.length / 2:=by lia
 refine jF (lo:=(xs.length:Int) / 2-1) (n:=((xs.length:Int) / 2-1 - -1).toNat) (fun i Z S=>∃ (I:Nat) (o:Option V) (ys:List V),Z=[some (.ref r),some (.int I),o]/\S r=some (.lst ys)/\ys.length=xs.length/\(∀y∈ys,y∈xs)/\(∀b o,H b=some o->b≠r->S b=some o)/\mk (ltT t) (xs.length / 2-i) ys I=mk (ltT t) (xs.length / 2) xs 0)
  ⟨0,none,xs,rfl,G,rfl,fun y h=>h,fun b o e _=>e,rfl⟩ ?_ ?_
 .rintro i Z S hi ⟨I,o,ys,rfl,h4,l4,W,M,U⟩;rw [R] at hi;have J:EnG t S ys:=(en.bar G M).sub W;have ei:(xs.length:Int) / 2-1-(i:Int)=((xs.length / 2-1-i:Nat):Int):=by lia
  refine ⟨r,ys,xs.length / 2-1-i,t,(by show [V.ref r,V.int ((xs.length:Int) / 2-1-(i:Int))]=_;rw [ei]),h4,J,Dc,fun H5 h5 f5=>(?_)⟩;refine ⟨I+(dn (ltT t) ys.length ys (xs.length / 2-1-i) 0).2,_,_,rfl,h5,dn_len.trans l4,fun y hy=>W y (dn_perm.mem_iff.mp hy),fun b o e nb=>f5 b o (M b o e nb) nb,?_⟩;rw [<-U,show xs.length / 2-i=(xs.length / 2-(i+1))+1 by lia]
  conv=>rhs;unfold mk
  rw [show xs.length / 2-(i+1)=xs.length / 2-1-i by lia]
 rintro Z S ⟨I,o,ys,rfl,h4,l4,W,M,U⟩;rw [R,Jc] at U;have m5:(ys,I)=mk (ltT t) (xs.length / 2) xs 0:=U;have:=k S;rw [<-m5] at this;exact (this h4 M)
abbrev bmV:List Value:=[.type "ValueError",.type "Exception",.type "BaseException",.type "object"]
structure NT (K:W.Frag)(C:Addr):Prop where
 cl:Cls K C
 th:NoAttr K C "there"
 st:NoAttr K C "stamp"
abbrev xL:Stmt:=a7 (top 6) 1
theorem wW:av ["self"] ["self"] (ak xL):=fs0
def pD (C:Addr):Sp:=fun vs H Q _=>∃ (p dx d:Addr) (fs:List (Str×V)) (ks:List (Key×V)),vs=[.ref p]/\H p=some (.ins C dx fs)/\fs.lookup ("there":Str)=some (.ref d)/\H d=some (.dK ks)/\Q (.int ks.length) H
theorem zy (F:Fun K "many" "Named.many" xL f fd)(T:Bl mg)(L:NT K C):au P w K mg base CX0 1 f fd ["self"] (pD C):=by have U:=wW;refine F.ok wW fun c A outer s H vs Q E O h=>?_;obtain ⟨p,I,d,fs,ks,rfl,S,R,hd,k⟩:=h;have M:=O.units0;refine ⟨_,(QSs.to (aj (aD (qcB bP T.z_len (aa (aY (qv 0) rfl) ag))))),?_⟩;exact ⟨p,C,I,fs,_,rfl,S,L.cl,L.th,R,d,ks,rfl,hd,k⟩
abbrev pO:Stmt:=a7 (top 6) 3
theorem tJ:av ["self","entry"] ["self","entry"] (ak pO):=fs0
def iA (C:Addr):Sp:=fun vs H Q _=>∃ (p dx d:Addr) (fs:List (Str×V)) (ks:List (Key×V)) (T:List (Str×En)) (a:Addr) (e:En),vs=[.ref p,.ref a]/\H p=some (.ins C dx fs)/\fs.lookup ("there":Str)=some (.ref d)/\H d=some (.dK ks)/\KR H ks T/\H a=some (.tup (enV e))/\Q (.bl (Gm.holds T e)) H
theorem wV (F:Fun K "holds" "Named.holds" pO f fd)(T:Bl mg)(L:NT K C):au P w K mg base CX0 1 f fd ["self","entry"] (iA C):=by
 have sc:=tJ;refine F.ok tJ fun W A outer s H vs Q E S h=>?_;obtain ⟨p,G,d,fs,ks,T',a,e,rfl,Y,J,hd,U,R,k⟩:=h;have M:=S.units0;refine ⟨_,(QSs.to (aj (aD (cP (rS M) (nY (aO S) (aY (qv 0) rfl) (aA aI (qv 1) ai pix) ⟨rfl,rfl,rfl,rfl⟩) (qv 1) (aG _))))),?_⟩;refine ⟨p,C,G,fs,_,rfl,Y,L.cl,L.th,J,d,rfl,.inl ⟨ks,.inl hd⟩,_,_,SqT.of R,rfl,_,DGet.k (k:=Sum.inr e.n) hd,a,enV e,rfl,SqT.of R,p6 e,?_⟩;unfold Gm.holds at k;rcases U.get e.n with ⟨c,I⟩ | ⟨b,O,c,I,hb⟩
 .rw [I,DF (fun z=>nomatch z)] at k;rw [c];exact .inl ⟨rfl,k⟩
 rw [I] at k;rw [c];refine .inr ⟨b,enV O,rfl,SqT.of hb,p6 O,?_⟩;by_cases z:O=e
 .rw [z] at k ⊢;rw [Dk rfl] at k ⊢;exact k
 rw [DF (fun y=>z (DJ y))] at k;rw [DF (fun y=>z (ma y))];exact k
abbrev ye:Stmt:=a7 (top 6) 4
theorem wR:av ["self","name"] ["self","name"] (ak ye):=fs0
def qS (C X:Addr):Sp:=fun vs H Q E=>∃ (p dx d:Addr) (fs:List (Str×V)) (ks:List (Key×V)) (n:Str),vs=[.ref p,.str n]/\H p=some (.ins C dx fs)/\fs.lookup ("there":Str)=some (.ref d)/\H d=some (.dK ks)/\n.length<=1000/\((aU ks (Sum.inr n)).isSome=true->Q .non H)/\((aU ks (Sum.inr n)).isSome=false->E (.ref X) none H)
theorem yK {X:Addr}(F:Fun K "need" "Named.need" ye f fd)(T:Bl mg)(L:NT K C)(c:mg "NoThing"=some (.ref X))(O:W.excIn K X bmV "ValueError.__new__"=true):au P w K mg base (CXe P w) 1 f fd ["self","name"] (qS C X):=by
 have J:=wR;refine F.okE wR (fun vs H Q E h=>?_) (fun R A outer s H vs Q E I h=>?_)
 .obtain ⟨p,S,d,fs,ks,n,rfl,_⟩:=h;rfl
 obtain ⟨p,S,d,fs,ks,n,rfl,G,Y,hd,M,k,U⟩:=h;have hu:=I.units0;refine ⟨_,(QSs.to (aj (aT (kz (aO I) (qv 1) (aY (qv 0) rfl)) (aj (hV FY C9 rfl c O I.hd (aa (oK (qv 1) C9) ag))) aE))),?_⟩;refine ⟨p,C,S,fs,_,rfl,G,L.cl,L.th,Y,d,_,rfl,DGet.k (k:=Sum.inr n) hd,_,rfl,?_⟩;cases e:(aU ks (Sum.inr n:Key)).isSome with
 | false=>exact iq ⟨n,rfl,M,fun r=>⟨by show 1<=1000;decide,U e⟩⟩
 | true=>exact bW (k e)
abbrev wQ:Stmt:=a7 (top 6) 5
theorem yk:av ["self","name"] ["self","name"] (ak wQ):=fs0
def pN (C X:Addr):Sp:=fun vs H Q E=>∃ (p dx d:Addr) (fs:List (Str×V)) (ks:List (Key×V)) (n:Str),vs=[.ref p,.str n]/\H p=some (.ins C dx fs)/\fs.lookup ("there":Str)=some (.ref d)/\H d=some (.dK ks)/\n.length<=1000/\((aU ks (Sum.inr n)).isSome=false->Q .non H)/\((aU ks (Sum.inr n)).isSome=true->E (.ref X) none H)
theorem mM {X:Addr}(F:Fun K "need_free" "Named.need_free" wQ f fd)(T:Bl mg)(L:NT K C)(c:mg "Clash"=some (.ref X))(O:W.excIn K X bmV "ValueError.__new__"=true):au P w K mg base (CXe P w) 1 f fd ["self","name"] (pN C X):=by
 have J:=yk;refine F.okE yk (fun vs H Q E h=>?_) (fun R A outer s H vs Q E I h=>?_)
 .obtain ⟨p,S,d,fs,ks,n,rfl,_⟩:=h;rfl
 obtain ⟨p,S,d,fs,ks,n,rfl,G,Y,hd,M,k,U⟩:=h;have hu:=I.units0;refine ⟨_,(QSs.to (aj (aT (vO (aO I) (qv 1) (aY (qv 0) rfl)) (aj (hV FY C9 rfl c O I.hd (aa (oK (qv 1) C9) ag))) aE))),?_⟩;refine ⟨p,C,S,fs,_,rfl,G,L.cl,L.th,Y,d,_,rfl,DGet.k (k:=Sum.inr n) hd,_,rfl,?_⟩;cases e:(aU ks (Sum.inr n:Key)).isSome with
 | true=>exact iq ⟨n,rfl,M,fun r=>⟨by show 1<=1000;decide,U e⟩⟩
 | false=>exact bW (k e)
abbrev Am:Stmt:=a7 (top 6) 6
theorem zQ:av ["self"] ["self"] (ak Am):=fs0
def zY (C X:Addr):Sp:=fun vs H Q E=>∃ (p dx d:Addr) (fs:List (Str×V)) (ks:List (Key×V)),vs=[.ref p]/\H p=some (.ins C dx fs)/\fs.lookup ("there":Str)=some (.ref d)/\H d=some (.dK ks)/\(ks≠[]->Q .non H)/\(ks=[]->E (.ref X) none H)
theorem ny {X:Addr}(F:Fun K "need_any" "Named.need_any" Am f fd)(T:Bl mg)(L:NT K C)(c:mg "NoThing"=some (.ref X))(O:W.excIn K X bmV "ValueError.__new__"=true):au P w K mg base (CXe P w) 1 f fd ["self"] (zY C X):=by
 have J:=zQ;refine F.okE zQ (fun vs H Q E h=>?_) (fun U A outer s H vs Q E S h=>?_)
 .obtain ⟨p,R,d,fs,ks,rfl,_⟩:=h;rfl
 obtain ⟨p,R,d,fs,ks,rfl,G,Y,hd,k,M⟩:=h;have hu:=S.units0;refine ⟨_,(QSs.to (aj (aT (aw bA (qcB bP T.z_len (aa (aY (qv 0) rfl) ag)) ai (aG _)) (aj (hV FY C9 rfl c O S.hd (aa aq ag))) aE))),?_⟩;refine ⟨p,C,R,fs,_,rfl,G,L.cl,L.th,Y,d,ks,rfl,hd,rfl,_,rfl,aS (fun I=>?_) (fun I=>?_)⟩
 .have:=V.int.inj (Dp I);exact ⟨by show 1<=1000;decide,M (DL.mp Dc)⟩
 exact k fun z=>I (Dk (by rw [z];rfl))
abbrev jd:Stmt:=a7 (top 6) 7
theorem kl:av ["self","name","worth","entry"] ["self","name","worth"] (ak jd):=fs0
def kj (C:Addr):Sp:=fun vs H Q _=>∃ (p dx d:Addr) (fs:List (Str×V)) (ks:List (Key×V)) (n:Str) (w st:Int),vs=[.ref p,.str n,.int w]/\H p=some (.ins C dx fs)/\fs.lookup ("there":Str)=some (.ref d)/\H d=some (.dK ks)/\fs.lookup ("stamp":Str)=some (.int st)/\fs.length<=100/\ks.length<=1000 /\
 ∀q,H q=none->Q (.ref q) (upd (upd (upd H q (.tup [.int w,.str n,.int st])) p (.ins C dx (bN ("stamp":Str) (.int (st+1)) fs))) d (.dK (aQ ks (Sum.inr n) (.ref q))))
theorem tT:¬ (("there":Str)="stamp"):=by decide +kernel
theorem qQ (F:Fun K "stamped" "Named.stamped" jd f fd)(T:Bl mg)(L:NT K C):au P w K mg base CX0 1 f fd ["self","name","worth"] (kj C):=by
 have Y:=kl;refine F.ok kl fun G A outer s H vs Q E W h=>?_;obtain ⟨p,O,d,fs,ks,n,w,st,rfl,I,J,hd,M,hf,hk,k⟩:=h;have hu:=W.units0;have npd:p≠d:=aL I hd nqz;refine ⟨_,(QSs.to (ac (qst 3 Y.nd (be (aa (qv 2) (aa (qv 1) (aa (aY (qv 0) rfl) ag)))))
  (ac (cN (qv 0) (ao aN (aY (qv 0) rfl) ai) rfl)
  (ac (cH (aO W) (aY (qv 0) rfl) (qv 1) (qv 3) rfl)
  (aj (aD (qv 3))))))),?_⟩
 refine ⟨p,C,O,fs,_,rfl,I,L.cl,L.st,M,sz3,fun q S=>?_⟩;have c:(upd H q (.tup [.int w,.str n,.int st])) p=some (.ins C O fs):=by rw [af (am I S)];exact I
 have U:(upd H q (.tup [.int w,.str n,.int st])) d=some (.dK ks):=by rw [af (am hd S)];exact hd
 refine ⟨p,C,O,fs,_,rfl,c,L.cl,L.st,M,p,C,O,fs,rfl,c,L.cl,L.st,Dc,?_⟩;have R:(bN ("stamp":Str) (.int (st+1)) fs).lookup ("there":Str)=some (.ref d):=by rw [eT,Di tT];exact J
 refine ⟨p,C,O,_,_,rfl,ad,L.cl,L.th,R,d,_,rfl,DPut.k (k:=Sum.inr n) (by rw [af npd.symm];exact U) (aZ hk),?_⟩;exact (k q S)
def wOf (T:List (Str×En))(n:Str):Int:=((Gm.dget T n).getD default).w
def PR (H:Hp)(zs:List V)(L:List (Str×Int)):Prop:=Paired (fun (z:V) (nw:Str×Int)=>∃ a,z=.ref a/\H a=some (.tup [.str nw.1,.int nw.2])) zs L
theorem PR.stay {L:List (Str×Int)}(r:PR H zs L)(k:∀b l,H b=some (.tup l)->H' b=some (.tup l)):PR H' zs L:=Paired.mapP r fun p q ⟨a,b,c⟩=>⟨a,b,k _ _ c⟩
abbrev iM:Stmt:=a7 (top 6) 2
theorem o0:av ["self"] ["self"] (ak iM):=fs0
def oM (C:Addr):Sp:=fun vs H Q _=>∃ (p dx d:Addr) (fs:List (Str×V)) (ks:List (Key×V)) (T:List (Str×En)),vs=[.ref p]/\H p=some (.ins C dx fs)/\fs.lookup ("there":Str)=some (.ref d)/\H d=some (.dK ks)/\KR H ks T/\ks.length<64 /\
 ∀(q:Addr) (zs:List V) (ys:List Str) (H':Hp),ys.Perm (T.map (·.1))->ys.Pairwise (fun x y=>slt y x=false)->H' q=some (.tup zs)->PR H' zs (ys.map fun n=>(n,wOf T n))->Same H H'->Q (.ref q) H'
theorem uE (F:Fun K "things" "Named.things" iM f fd)(T:Bl mg)(L:NT K C):au P w K mg base CX0 1 f fd ["self"] (oM C):=by
 have sc:=o0;refine F.ok o0 fun eh A outer s H vs Q E hr h=>?_;obtain ⟨p,dx,d,fs,ks,R,rfl,hp,hl,hd,kr,hk,k⟩:=h;have hu:=hr.units0;refine ⟨_,(QSs.to (aj (aD (qcT cI T.z_tuple (aa (di (Blk.of (N:=["self"]) (esc:=ak iM) (NB:=["self"]) (cap:=[0]) rfl rfl (fun y hy=>bH hy) rfl C9 C9 C9 rfl C9 rfl C9) rfl rfl (fL (qcB (fS rfl) T.z_sorted (aa (aY (qv 0) rfl) ag))) (fun C fp s₀ H₀=>dO) (fun C fp s₀ H₀=>(be (aa (qv 0) (aa (aA (sS (K:=K) rfl) (aJ (aO hr) (zg (K:=K) rfl (qv 1) rfl) (qv 0) pix) ai pix) ag))))) ag))))),?_⟩;refine ⟨p,C,dx,fs,_,rfl,hp,L.cl,L.th,hl,d,ks,R.map (·.1),rfl,hd,kr.keys,hk,fun l ys Y pm srt=>⟨l,rfl,⟨_,SqL.of ad⟩,fun D W=>?_⟩⟩;have ly:ys.length=ks.length:=by rw [pm.length_eq,Dg,kr.len]
 have G:=ar (o:=.lst (ys.map V.str)) Y;generalize ea:upd H l (.lst (ys.map V.str))=H1 at W G;have l1:H1 l=some (.lst (ys.map V.str)):=by rw [<-ea];exact ad
 refine fW (K:=K) (a:=l) (xs:=ys.map V.str) (fun i zs c=>c D=some (.lst zs)/\PR c zs ((ys.take i).map fun n=>(n,wOf R n))/\Same H1 c) ⟨ad,.nil,ar W⟩ (fun i zs c z=>⟨z.1,SqL.of (z.2.2 _ _ l1)⟩) ?_ ?_
 .rintro i x zs c I ⟨O,S,M⟩;obtain ⟨n,hn,rfl⟩:∃ n,ys[i]?=some n/\x=.str n:=by
   rw [DN] at I;cases e:ys[i]? with
   | none=>rw [e] at I;cases I
   | some n=>rw [e] at I;cases I;exact ⟨n,rfl,rfl⟩
  have hi:i<ys.length:=(Dz.mp hn).1;have J:Same H c:=G.trans M;have ee:KR c ks R:=kr.stay fun b l h=>J _ _ h;rcases ee.get n with ⟨_,e2⟩ | ⟨b,e',e1,e2,hb⟩
  .exact absurd (pm.mem_iff.mp (DV hn)) (Gm.dget_none.mp e2)
  refine cY <| ⟨p,C,dx,fs,_,rfl,J _ _ hp,L.cl,L.th,hl,d,.ref b,rfl,e1▸DGet.k (k:=Sum.inr n) (J _ _ hd),_,_,SqT.of hb,rfl,sz2,fun t U=>?_⟩
  have lz:zs.length=i:=by have:=EY S;rw [Dg,Es] at this;lia
  have ei:(ys.map V.str).length=ys.length:=Dg ..;refine ⟨by rw [af (am O U)];exact O,by rw [lz];exact aZ Dc,_,Dc,rfl,Dc,ad,?_,?_⟩
  .have et:ys.take (i+1)=ys.take i++[n]:=by rw [Ef,hn];rfl
   rw [et,D4];have eo:t≠D:=fun z=>by rw [z,O] at U;cases U
   refine Hz (S.stay fun b l h=>?_) ⟨t,rfl,?_⟩
   .rw [af (aL h O nqz),af (am h U)];exact h
   .rw [af eo,ad];have ew:wOf R n=e'.w:=by unfold wOf;rw [e2];rfl
    show some (HO.tup [V.str n,V.int e'.w])=some (HO.tup [V.str n,V.int (wOf R n)]);rw [ew]
  .intro b o h;have h6:=M b o h;rw [af (fun z=>by rw [z] at h;rw [h] at W;cases W),af (am h6 U)];exact h6
 rintro zs c ⟨O,S,M⟩;rw [Dg,D9] at S;refine ⟨D,zs,rfl,.inl ⟨SqL.of O,fun q hq=>?_⟩⟩;exact k q zs ys _ pm srt ad (S.stay fun b l h=>by rw [af (am h hq)];exact h) ((G.trans M).trans (ar hq))
abbrev qd:Stmt:=a7 (top 6) 0
theorem sy:av ["self"] ["self"] (ak qd):=fs0
def rD (C:Addr):Sp:=fun vs H Q _=>∃ (p dx:Addr),vs=[.ref p]/\H p=some (.ins C dx [])/\∀d,H d=none->Q .non (upd (upd (upd H d (.dK [])) p (.ins C dx [("there",.ref d)])) p (.ins C dx [("there",.ref d),("stamp",.int 0)]))
theorem gP (F:Fun K "__init__" "Named.__init__" qd f fd)(T:Bl mg)(L:NT K C):au P w K mg base CX0 1 f fd ["self"] (rD C):=by
 have U:=sy;refine F.ok sy fun S A outer s H vs Q E R h=>?_;obtain ⟨p,c,rfl,O,k⟩:=h;have M:=R.units0;refine ⟨_,(QSs.to (ac (cN (qv 0) eP rfl)
  (aj (cN (qv 0) ai rfl)))),?_⟩
 intro d hd;have npd:p≠d:=am O hd;refine ⟨p,C,c,[],rfl,(by rw [af npd];exact O),L.cl,L.th,(by show 0<1000;decide),p,C,c,_,rfl,ad,L.cl,L.st,(by show 1<1000;decide),?_⟩;have I:bN ("stamp":Str) (.int 0) (bN ("there":Str) (.ref d) [])=([("there",V.ref d),("stamp",V.int 0)]:List (Str×V)):=by show (if ("there":Str)="stamp" then _ else _)=_;rw [Di tT];rfl
 rw [I];exact k d hd
structure LT (K:W.Frag)(C:Addr):Prop where
 nt:NT K C
 sk:NoAttr K C "slack"
 en:NoAttr K C "entries"
 lk:NoAttr K C "looks"
theorem LT.cl (L:LT K C):Cls K C:=L.nt.cl
def lfs (d l:Addr)(s:LS):List (Str×V):=[("there",.ref d),("stamp",.int s.stamp),("slack",.int s.slack),("entries",.ref l),("looks",.int s.looks)]
theorem dg {a b:Str}{v:V}{r:List (Str×V)}(h:¬ b=a):List.lookup a ((b,v)::r)=List.lookup a r:=by rw [Et,E8.mpr (fun z=>h z.symm)]
theorem oz {a:Str}{v:V}{r:List (Str×V)}:List.lookup a ((a,v)::r)=some v:=by rw [Et,Ga]
theorem cJ {a b:Str}{v x:V}{r:List (Str×V)}(h:¬ b=a):bN a v ((b,x)::r)=(b,x)::bN a v r:=Di h
theorem wA {a:Str}{v x:V}{r:List (Str×V)}:bN a v ((a,x)::r)=(a,v)::r:=Dm rfl
theorem d1:¬ (("there":Str)="slack"):=by decide +kernel
theorem d2:¬ (("there":Str)="entries"):=by decide +kernel
theorem d3:¬ (("there":Str)="looks"):=by decide +kernel
theorem d4:¬ (("stamp":Str)="slack"):=by decide +kernel
theorem d5:¬ (("stamp":Str)="entries"):=by decide +kernel
theorem d6:¬ (("stamp":Str)="looks"):=by decide +kernel
theorem d7:¬ (("slack":Str)="entries"):=by decide +kernel
theorem d8:¬ (("slack":Str)="looks"):=by decide +kernel
theorem d9:¬ (("entries":Str)="looks"):=by decide +kernel
section
variable {d l l':Addr}{s:LS}
theorem cK:(lfs d l s).lookup ("there":Str)=some (.ref d):=oz
theorem BT:(lfs d l s).lookup ("stamp":Str)=some (.int s.stamp):=by unfold lfs;rw [dg tT,oz]
theorem xM:(lfs d l s).lookup ("slack":Str)=some (.int s.slack):=by unfold lfs;rw [dg d1,dg d4,oz]
theorem io:(lfs d l s).lookup ("entries":Str)=some (.ref l):=by unfold lfs;rw [dg d2,dg d5,dg d7,oz]
theorem sG:(lfs d l s).lookup ("looks":Str)=some (.int s.looks):=by unfold lfs;rw [dg d3,dg d6,dg d8,dg d9,oz]
theorem Cm {m:Str}(S:¬ ("there":Str)=m)(c:¬ ("stamp":Str)=m)(I:¬ ("slack":Str)=m)(T:¬ ("entries":Str)=m)(O:¬ ("looks":Str)=m):(lfs d l s).lookup m=none:=by unfold lfs;rw [dg S,dg c,dg I,dg T,dg O];rfl
theorem lfn {m:Str}(S:autoParam (¬ ("there":Str)=m) aaa)(c:autoParam (¬ ("stamp":Str)=m) aaa)(I:autoParam (¬ ("slack":Str)=m) aaa)(T:autoParam (¬ ("entries":Str)=m) aaa)(O:autoParam (¬ ("looks":Str)=m) aaa):(lfs d l s).lookup m=none:=Cm S c I T O
theorem BE {k:Nat}:bN ("stamp":Str) (.int ((s.stamp:Int)+1)) (lfs d l s)=lfs d l { s with stamp:=s.stamp+1 }:=by unfold lfs;rw [cJ tT,wA];rfl
theorem BB:bN ("entries":Str) (.ref l') (lfs d l s)=lfs d l' s:=by unfold lfs;rw [cJ d2,cJ d5,cJ d7,wA]
theorem xQ {k:Nat}:bN ("looks":Str) (.int ((s.looks:Int)+k)) (lfs d l s)=lfs d l { s with looks:=s.looks+k }:=by unfold lfs;rw [cJ d3,cJ d6,cJ d8,cJ d9,wA];show _=[_,_,_,_,(_,V.int ((s.looks+k:Nat):Int))];rw [Int.natCast_add]
end
structure LateAt (C:Addr)(H:Hp)(p d l:Addr)(s:LS):Prop where
 ob:∃ dx,H p=some (.ins C dx (lfs d l s))
 dc:∃ ks,H d=some (.dK ks)/\KR H ks s.there
 ls:∃ xs,H l=some (.lst xs)/\RR H xs s.row
section
variable {C p d l:Addr}{H H':Hp}{s:LS}
theorem LateAt.notup (L:LateAt C H p d l s):∀b∈[p,d,l],∀xs,H b≠some (.tup xs):=by
 obtain ⟨S,T⟩:=L.ob;obtain ⟨ks,O,_⟩:=L.dc;obtain ⟨xs,I,_⟩:=L.ls;intro b c ys z;simp only [ax,ah,Dv] at c;rcases c with rfl | rfl | rfl
 .rw [T] at z;cases z
 .rw [O] at z;cases z
 rw [I] at z;cases z
theorem LateAt.npd (L:LateAt C H p d l s):p≠d:=by obtain ⟨O,T⟩:=L.ob;obtain ⟨ks,c,_⟩:=L.dc;exact aL T c nqz
theorem LateAt.npl (L:LateAt C H p d l s):p≠l:=by obtain ⟨O,T⟩:=L.ob;obtain ⟨ks,c,_⟩:=L.ls;exact aL T c nqz
theorem LateAt.ndl (L:LateAt C H p d l s):d≠l:=by obtain ⟨O,T,_⟩:=L.dc;obtain ⟨ks,c,_⟩:=L.ls;exact aL T c nqz
theorem LateAt.stay (L:LateAt C H p d l s)(k:∀b o,b=p∨b=d∨b=l->H b=some o->H' b=some o)(t:∀b l,H b=some (.tup l)->H' b=some (.tup l)):LateAt C H' p d l s:=by obtain ⟨R,T⟩:=L.ob;obtain ⟨ks,O,S⟩:=L.dc;obtain ⟨xs,I,c⟩:=L.ls;exact ⟨⟨R,k _ _ (.inl rfl) T⟩,⟨ks,k _ _ (.inr (.inl rfl)) O,S.stay t⟩,⟨xs,k _ _ (.inr (.inr rfl)) I,c.stay t⟩⟩
theorem LateAt.same (L:LateAt C H p d l s)(k:Same H H'):LateAt C H' p d l s:=L.stay (fun b o _ h=>k b o h) fun b l h=>k b _ h
end
def Fr3 (H:Hp)(l l':Addr):Prop:=l'=l∨H l'=none
abbrev p9:Stmt:=a7 (top 15) 8
theorem tp:av ["self","name","worth"] ["self","name","worth"] (ak p9):=fs0
def lY (C:Addr):Sp:=fun vs H Q _=>∃ (p d l:Addr) (s:LS) (n:Str) (w:Int),vs=[.ref p,.str n,.int w]/\LateAt C H p d l s/\s.row.length<=1000/\s.there.length<=1000 /\
 ∀H',LateAt C H' p d l (Gm.enter slt s n w)->Kept [p,d,l] H H'->Q .non H'
theorem yG {r:Addr}{e:En}{Q:VK}{E:XK}(h:H r=some (.lst xs))(c:RR H xs es)(R:H a=some (.tup (enV e)))(W:es.length<=1000)(k:∀ys H',H' r=some (.lst ys)->RR H' ys (Hg.up lE es.length (es++[e]) es.length 0).1->Kept [r] H H'->Q (.int (Hg.up lE es.length (es++[e]) es.length 0).2) H'):sO [.ref r,.ref a] H Q E:=by
 have T:=c.snoc R;refine ⟨r,xs,.ref a,bZ H,rfl,h,T.en,by rw [c.len];exact W,fun H' h' kp=>?_⟩;have O:=qE (H:=H) (f:=xs.length) (xs:=xs++[.ref a]) (p:=xs.length) (lk:=0);rw [T.eq,c.len] at O;have I:Kept [r] H H':=fun b o q n=>kp b o q fun z=>n (DI.mpr z);have:=k _ H' h' (by
  rw [O,c.len];have U:=T.sub (ys:=(up (ltT (bZ H)) es.length (xs++[.ref a]) es.length 0).1) fun y S=>(dJ (by rw [Ds,c.len];exact EG _)).mem_iff.mp S;exact U.stay (I.tups fun b M ys z=>by rw [De M,h] at z;cases z)) I
 rw [O] at this;rw [c.len];exact this
theorem yc {fb:Addr}{Y:FuncData}(F:Fun K "enter" "Late.enter" p9 f fd)(T:Bl mg)(L:LT K C)(R:au P w K mg base CX0 3 fa fda ["heap","entry"] sO)(U:Nm K mg "lay_in" fa fda ["heap","entry"])(O:bp K C "stamped" fb)(S:au P w K mg base CX0 1 fb Y ["self","name","worth"] (kj C))(I:Binds K Y ["self","name","worth"] []):au P w K mg base CX0 4 f fd ["self","name","worth"] (lY C):=by
 have sc:=tp;refine F.ok tp fun el A outer s H vs Q E hr h=>?_;obtain ⟨p,d,l,s,n,w,rfl,M,h1,h2,k⟩:=h;have hu:=hr.units0;have npd:=M.npd;have npl:=M.npl;have ndl:=M.ndl;obtain ⟨c,hp⟩:=M.ob;obtain ⟨ks,hd,kr⟩:=M.dc;obtain ⟨xs,hx,rr⟩:=M.ls;refine ⟨_,(QSs.to (aj (cN (qv 0) (ao aN (aY (qv 0) rfl) (qcl R hr U aB (aa (aY (qv 0) rfl) (aa (aV (qv 0) L.cl O S hr.mo I .nil aB (aa (qv 1) (aa (qv 2) ag))) ag)))) rfl))),?_⟩;refine ⟨p,C,c,_,_,rfl,hp,L.cl,L.lk,sG,p,C,c,_,_,rfl,hp,L.cl,L.en,io,p,c,_,rfl,hp,lfn,p,c,d,_,ks,n,w,s.stamp,rfl,hp,cK,hd,BT,by show 5<=100;decide,by rw [kr.len];exact h2,fun q hq=>?_⟩;have ei:p≠q:=am hp hq;have eo:d≠q:=am hd hq;have ed:l≠q:=am hx hq;rw [BE (k:=0)];have q2:∀b o,H b=some o->b≠p->b≠d->(upd (upd (upd H q (.tup [.int w,.str n,.int s.stamp])) p (.ins C c (lfs d l { s with stamp:=s.stamp+1 }))) d (.dK (aQ ks (Sum.inr n) (.ref q)))) b=some o:=fun b o e n1 n2=>by rw [af n2,af n1,af (am e hq)];exact e
 have W:(upd (upd (upd H q (.tup [.int w,.str n,.int s.stamp])) p (.ins C c (lfs d l { s with stamp:=s.stamp+1 }))) d (.dK (aQ ks (Sum.inr n) (.ref q)))) q=some (.tup (enV ⟨w,n,(s.stamp:Int)⟩)):=by rw [af eo.symm,af ei.symm,ad];rfl
 have et:(upd (upd (upd H q (.tup [.int w,.str n,.int s.stamp])) p (.ins C c (lfs d l { s with stamp:=s.stamp+1 }))) d (.dK (aQ ks (Sum.inr n) (.ref q)))) p=some (.ins C c (lfs d l { s with stamp:=s.stamp+1 })):=by rw [af npd,ad]
 have ea:(upd (upd (upd H q (.tup [.int w,.str n,.int s.stamp])) p (.ins C c (lfs d l { s with stamp:=s.stamp+1 }))) d (.dK (aQ ks (Sum.inr n) (.ref q)))) d=some (.dK (aQ ks (Sum.inr n) (.ref q))):=ad;have G:Kept [p,d,l] H (upd (upd (upd H q (.tup [.int w,.str n,.int s.stamp])) p (.ins C c (lfs d l { s with stamp:=s.stamp+1 }))) d (.dK (aQ ks (Sum.inr n) (.ref q)))):=fun b o e nb=>q2 b o e (fun z=>nb (z▸by simp)) (fun z=>nb (z▸by simp));generalize (upd (upd (upd H q (.tup [.int w,.str n,.int s.stamp])) p (.ins C c (lfs d l { s with stamp:=s.stamp+1 }))) d (.dK (aQ ks (Sum.inr n) (.ref q))))=H2 at q2 W et ea G ⊢;have t2:=G.tups M.notup;have ee:=q2 l _ hx npl.symm ndl.symm;unfold p8;dsimp only [EH,IC];refine yG ee (rr.stay t2) W h1 fun ys H3 h3 er k3=>?_;have pn:p∉[l]:=fun z=>npl (De z);have eh:d∉[l]:=fun z=>ndl (De z);have J:=k3 p _ et pn;have t3:=k3.tups (fun b hb zs z=>by rw [De hb,ee] at z;cases z);refine ⟨p,C,c,_,rfl,J,L.cl,L.lk,by show 5<1000;decide,?_⟩;have e6:=xQ (d:=d) (l:=l) (s:={ s with stamp:=s.stamp+1 }) (k:=(Hg.up lE s.row.length (s.row++[⟨w,n,(s.stamp:Int)⟩]) s.row.length 0).2);have e7:bN ("looks":Str) (.int ((s.looks:Int)+((Hg.up lE s.row.length (s.row++[⟨w,n,(s.stamp:Int)⟩]) s.row.length 0).2:Nat))) (lfs d l { s with stamp:=s.stamp+1 })=lfs d l (Gm.enter slt s n w):=e6;rw [e7];have t4:∀b zs,H3 b=some (.tup zs)->(upd H3 p (.ins C c (lfs d l (Gm.enter slt s n w)))) b=some (.tup zs):=fun b zs z=>by rw [af (aL z J nqz)];exact z
 refine k _ ⟨⟨c,ad⟩,⟨_,by rw [af npd.symm];exact k3 d _ ea eh,((((kr.stay t2).put W).stay t3).stay t4)⟩,⟨ys,by rw [af npl.symm];exact h3,er.stay t4⟩⟩ ?_;exact (G.trans (k3.mono fun b hb=>by rw [De hb];simp)).put Dd
abbrev wD:Stmt:=a7 (top 15) 9
theorem wj:av ["self"] ["self"] (ak wD):=fs0
def qr (C:Addr):Sp:=fun vs H Q _=>∃ (p d l:Addr) (s:LS),vs=[.ref p]/\LateAt C H p d l s/\0<s.row.length/\s.row.length<=1000/\∀H',LateAt C H' p d l (Gm.cut slt s)->Kept [p,l] H H'->Q .non H'
theorem yF {r:Addr}{Q:VK}{E:XK}(h:H r=some (.lst xs))(c:RR H xs es)(O:0<es.length)(M:es.length<=1000)(k:∀ys H',H' r=some (.lst ys)->RR H' ys (Hg.cutf lE es).1->Kept [r] H H'->Q (.int (Hg.cutf lE es).2) H'):rH [.ref r] H Q E:=by
 refine ⟨r,xs,bZ H,rfl,h,c.en,by rw [c.len];exact O,by rw [c.len];exact M,fun H' h' kp=>?_⟩;have T:=tR (H:=H) (xs:=xs);rw [c.eq] at T;have I:Kept [r] H H':=fun b o q n=>kp b o q fun z=>n (DI.mpr z);have:=k _ H' h' (by
  rw [T];have R:=c.sub (ys:=(cutf (ltT (bZ H)) xs).1) fun y S=>(cS (by rw [c.len];exact O)).mem_iff.mp (Dr _ S);exact R.stay (I.tups fun b U ys z=>by rw [De U,h] at z;cases z)) I
 rw [T] at this;exact this
theorem yy (F:Fun K "cut" "Late.cut" wD f fd)(T:Bl mg)(L:LT K C)(O:au P w K mg base CX0 3 fa fda ["heap"] rH)(c:Nm K mg "cut_first" fa fda ["heap"]):au P w K mg base CX0 4 f fd ["self"] (qr C):=by
 have sc:=wj;refine F.ok wj fun ee A outer s H vs Q E hr h=>?_;obtain ⟨p,d,l,s,rfl,I,h0,h1,k⟩:=h;have hu:=hr.units0;have npd:=I.npd;have npl:=I.npl;have ndl:=I.ndl;obtain ⟨R,G⟩:=I.ob;obtain ⟨ks,hd,kr⟩:=I.dc;obtain ⟨xs,hx,rr⟩:=I.ls;refine ⟨_,(QSs.to (aj (cN (qv 0) (ao aN (aY (qv 0) rfl) (qcl O hr c aB (aa (aY (qv 0) rfl) ag))) rfl))),?_⟩;refine ⟨p,C,R,_,_,rfl,G,L.cl,L.lk,sG,p,C,R,_,_,rfl,G,L.cl,L.en,io,?_⟩;unfold p8;dsimp only [EH,IC];refine yF hx rr h0 h1 fun ys H3 h3 W U=>?_;have pn:p∉[l]:=fun z=>npl (De z);have M:d∉[l]:=fun z=>ndl (De z);have S:=U p _ G pn;have t3:=U.tups (fun b Y zs z=>by rw [De Y,hx] at z;cases z);refine ⟨p,C,R,_,rfl,S,L.cl,L.lk,by show 5<1000;decide,?_⟩;have e7:bN ("looks":Str) (.int ((s.looks:Int)+((Hg.cutf lE s.row).2:Nat))) (lfs d l s)=lfs d l (Gm.cut slt s):=xQ;rw [e7];have J:∀b zs,H3 b=some (.tup zs)->(upd H3 p (.ins C R (lfs d l (Gm.cut slt s)))) b=some (.tup zs):=fun b zs z=>by rw [af (aL z S nqz)];exact z
 refine k _ ⟨⟨R,ad⟩,⟨ks,by rw [af npd.symm];exact U d _ hd M,(kr.stay t3).stay J⟩,⟨ys,by rw [af npl.symm];exact h3,W.stay J⟩⟩ ?_;exact (U.mono fun b Y=>by rw [De Y];simp).put Dd
theorem LateAt.fresh {l T:Addr}{c:Hp}{s:LS}(L:LateAt C c p d l s)(k:Kept [p,d,l] H c)(z:c T=none):H T=none:=by
 obtain ⟨U,I⟩:=L.ob;obtain ⟨ks,S,_⟩:=L.dc;obtain ⟨xs,R,_⟩:=L.ls;refine k.none z fun O=>?_;simp only [ax,ah,Dv] at O;rcases O with rfl | rfl | rfl
 .rw [I] at z;cases z
 .rw [S] at z;cases z
 rw [R] at z;cases z
theorem uS {r:Addr}{Q:VK}{E:XK}(h:H r=some (.lst xs))(c:RR H xs es)(U:es.length<=1000)(k:∀ys H',H' r=some (.lst ys)->RR H' ys (Hg.mk lE (es.length / 2) es 0).1->Kept [r] H H'->Q (.int (Hg.mk lE (es.length / 2) es 0).2) H'):mL [.ref r] H Q E:=by
 refine ⟨r,xs,bZ H,rfl,h,c.en,by rw [c.len];exact U,fun H' h' kp=>?_⟩;have T:=qq (H:=H) (k:=xs.length / 2) (xs:=xs) (lk:=0);rw [c.eq,c.len] at T;rw [c.len] at h' ⊢;have O:Kept [r] H H':=fun b o q n=>kp b o q fun z=>n (DI.mpr z);have:=k _ H' h' (by
  rw [T];have S:=c.sub (ys:=(mk (ltT (bZ H)) (es.length / 2) xs 0).1) fun y I=>mk_perm.mem_iff.mp I;exact S.stay (O.tups fun b R ys z=>by rw [De R,h] at z;cases z)) O
 rw [T] at this;exact this
abbrev lG:Stmt:=a7 (top 15) 11
theorem tj:av ["self","gone"] ["self"] (ak lG):=fs0
def gy (C:Addr):Sp:=fun vs H Q _=>∃ (p d l:Addr) (s:LS),vs=[.ref p]/\LateAt C H p d l s/\s.row.length<=1000/\∀l' H',LateAt C H' p d l' (Gm.sweep slt s)->Kept [p,d,l] H H'->Fr3 H l l'->Q .non H'
theorem oU {α:Type}{xs:List α}{f:α->Bool}{x:α}(h:xs[i]?=some x):(xs.take (i+1)).filter f=(xs.take i).filter f++(if f x=true then [x] else []):=by
 rw [Ef,h,Gr];congr 1;show List.filter f [x]=_;by_cases z:f x=true
 .rw [Dm z,D5,Dm z,G0]
 rw [Di z,D5,Di z,G0]
theorem vU {O:Addr}(F:Fun K "sweep_if_due" "Late.sweep_if_due" lG f fd)(T:Bl mg)(L:LT K C)(J:au P w K mg base CX0 3 fa fda ["heap"] mL)(Y:Nm K mg "order" fa fda ["heap"])(U:bp K C "holds" O)(W:au P w K mg base CX0 1 O fdholds ["self","entry"] (iA C))(M:Binds K fdholds ["self","entry"] []):au P w K mg base CX0 4 f fd ["self"] (gy C):=by
 have sc:=tj;refine F.ok tj fun el A outer s H vs Q E hr h=>?_;obtain ⟨p,d,l,s,rfl,LA,h1,kQ⟩:=h;have hu:=hr.units0;have npd:=LA.npd;have npl:=LA.npl;have ndl:=LA.ndl;obtain ⟨c,R⟩:=LA.ob;obtain ⟨ks,hd,kr⟩:=LA.dc;obtain ⟨xs,hx,rr⟩:=LA.ls;refine ⟨_,(QSs.to (ac (qst 1 sc.nd (ao cb (qcB aK T.z_len (aa (aY (qv 0) rfl) ag)) (qcB bP T.z_len (aa (aY (qv 0) rfl) ag))))
  (aj (aT (QW.pt (dA (aw im (qv 1) (qcB bP T.z_len (aa (aY (qv 0) rfl) ag)) (aG _)) (cG (aw im (qv 1) (aY (qv 0) rfl) (aG _))))) (ac (cN (qv 0) (di (Blk.of (N:=["self","gone"]) (esc:=ak lG) (NB:=["self"]) (cap:=[0]) rfl rfl (fun y hy=>bH hy) rfl C9 C9 C9 rfl C9 rfl C9) rfl rfl (fL (aY (qv 0) rfl)) (fun C fp s₀ H₀=>(mS (ca (aV (qv 1) L.cl U W hr.mo M .nil aB (aa (qv 0) ag))))) (fun C fp s₀ H₀=>(qv 0))) rfl)
  (aj (cN (qv 0) (ao aN (aY (qv 0) rfl) (qcl J hr Y aB (aa (aY (qv 0) rfl) ag))) rfl))) aE)))),?_⟩
 refine ⟨p,C,c,_,_,rfl,R,L.cl,L.en,io,l,_,rfl,.inl (SqL.of hx),p,C,c,_,_,rfl,R,L.cl,L.nt.th,cK,d,ks,rfl,hd,?_⟩;have lx:(xs.length:Int)=s.row.length:=by rw [rr.len]
 have lk:(ks.length:Int)=s.there.length:=by rw [kr.len]
 rw [lx,lk];have no:∀(hn:¬ Gm.due s=true),Q .non H:=fun hn=>by
  have e:Gm.sweep slt s=s:=by unfold Gm.sweep;rw [Di hn]
  refine kQ l H (by rw [e];exact LA) Kept.refl (.inl rfl)
 refine ⟨p,C,c,_,_,rfl,R,L.cl,L.nt.th,cK,d,ks,rfl,hd,_,rfl,?_⟩;rw [lk];refine aS (fun c1=>⟨p,C,c,_,_,rfl,R,L.cl,L.sk,xM,_,rfl,aS (fun c2=>?_) (fun c2=>no ?_)⟩) (fun c1=>bW (no ?_))
 rotate_left
 .unfold Gm.due;rw [DP];exact fun z=>c2 z.2
 .unfold Gm.due;rw [DP];exact fun z=>c1 z.1
 have ei:Gm.due s=true:=by unfold Gm.due;rw [DP];exact ⟨c1,c2⟩
 refine ⟨p,C,c,_,_,rfl,R,L.cl,L.en,io,l,rfl,⟨_,SqL.of hx⟩,fun D hD=>?_⟩;refine fW (K:=K) (a:=l) (xs:=xs) (fun i ys S=>S D=some (.lst ys)/\ys=(xs.take i).filter (fun x=>Gm.holds s.there (tE H x))/\Same H S) ⟨ad,rfl,ar hD⟩ (fun i ys S z=>⟨z.1,SqL.of (z.2.2 _ _ hx)⟩) ?_ ?_
 .rintro i x ys S hi ⟨h4,e4,I⟩;have mx:=DV hi;have li:i<xs.length:=(Dz.mp hi).1;obtain ⟨a,rfl,ha⟩:=rr.mem x mx;refine ⟨p,c,_,rfl,I _ _ R,lfn,p,c,d,_,ks,s.there,a,tE H (.ref a),rfl,I _ _ R,cK,I _ _ hd,kr.stay (fun b l h=>I _ _ h),I _ _ ha,_,rfl,?_⟩;have ft:=oU (f:=fun x=>Gm.holds s.there (tE H x)) hi;refine aS (fun c3=>⟨h4,?_,_,Dc,rfl,Dc,ad,?_,nV I hD⟩) (fun c3=>⟨_,Dc,rfl,Dc,h4,?_,I⟩)
  .rw [e4];exact DY (Dq (Ec _ _) (List.length_take_le _ _)) (aZ (by have:=rr.len;lia))
  .rw [ft,Dm c3,e4]
  .rw [ft,Di c3,Ez,e4]
 rintro ys S ⟨h4,e4,I⟩;rw [D9] at e4;have eh:=I _ _ R;refine ⟨p,C,c,_,rfl,eh,L.cl,L.en,by show 5<1000;decide,?_⟩;rw [BB];have et:p≠D:=am R hD;have er:d≠D:=am hd hD;have t5:∀b zs,H b=some (.tup zs)->(upd S p (.ins C c (lfs d D s))) b=some (.tup zs):=fun b zs z=>by rw [af (aL z R nqz)];exact I _ _ z
 have r5:RR (upd S p (.ins C c (lfs d D s))) ys (s.row.filter (Gm.holds s.there)):=by
  have r0:=(rr.sub (ys:=ys) fun y hy=>by rw [e4] at hy;exact (D7.mp hy).1).stay t5;have em:ys.map (tE H)=s.row.filter (Gm.holds s.there):=by rw [e4,<-rr.eq,Iv];rfl
  rw [em] at r0;exact r0
 have ee:(upd S p (.ins C c (lfs d D s))) D=some (.lst ys):=by rw [af et.symm];exact h4
 have ea:(upd S p (.ins C c (lfs d D s))) d=some (.dK ks):=by rw [af npd.symm];exact I _ _ hd
 have G:(upd S p (.ins C c (lfs d D s))) p=some (.ins C c (lfs d D s)):=ad;have k5:Kept [p,d,l] H (upd S p (.ins C c (lfs d D s))):=(Kept.of_same I).put Dd;generalize (upd S p (.ins C c (lfs d D s)))=H5 at t5 r5 ee ea G k5 ⊢;refine ⟨p,C,c,_,_,rfl,G,L.cl,L.lk,sG,p,C,c,_,_,rfl,G,L.cl,L.en,io,?_⟩;unfold p8;dsimp only [EH,IC];refine uS ee r5 (Dq (Ec _ _) h1) fun zs H6 h6 r6 k6=>?_;have pn:p∉[D]:=fun z=>et (De z);have ed:d∉[D]:=fun z=>er (De z);have eo:=k6 p _ G pn;have t6:=k6.tups (fun b hb zs z=>by rw [De hb,ee] at z;cases z);refine ⟨p,C,c,_,rfl,eo,L.cl,L.lk,by show 5<1000;decide,?_⟩;have e7:bN ("looks":Str) (.int ((s.looks:Int)+((Hg.mk lE ((s.row.filter (Gm.holds s.there)).length / 2) (s.row.filter (Gm.holds s.there)) 0).2:Nat))) (lfs d D s)=lfs d D (Gm.swept slt s):=xQ;rw [e7];have es:Gm.sweep slt s=Gm.swept slt s:=by unfold Gm.sweep;rw [Dm ei]
 have t7:∀b zs,H6 b=some (.tup zs)->(upd H6 p (.ins C c (lfs d D (Gm.swept slt s)))) b=some (.tup zs):=fun b zs z=>by rw [af (aL z eo nqz)];exact z
 refine kQ D _ (by rw [es];exact ⟨⟨c,ad⟩,⟨ks,by rw [af npd.symm];exact k6 d _ ea ed,((kr.stay t5).stay t6).stay t7⟩,⟨zs,by rw [af et.symm];exact h6,r6.stay t7⟩⟩) ?_ (.inr hD);refine Kept.put (fun b o e nb=>?_) Dd;exact k6 b o (k5 b o e nb) fun z=>by rw [De z] at e;rw [hD] at e;cases e
abbrev p7:Stmt:=a7 (top 15) 0
theorem rP:av ["self","slack"] ["self","slack"] (ak p7):=fs0
def mF (C:Addr):Sp:=fun vs H Q _=>∃ (p dx:Addr) (z:Int),vs=[.ref p,.int z]/\H p=some (.ins C dx [])/\∀d l H',H d=none->H l=none->LateAt C H' p d l (Gm.newL z)->Kept [p] H H'->Q .non H'
theorem iw {S:Addr}{mc:Value}(F:Fun K "__init__" "Late.__init__" p7 f fd)(T:Bl mg)(L:LT K C)(R:mg "Named"=some (.ref S))(I:AB K S mc "__init__" fa)(c:au P w K mg base CX0 1 fa fda ["self"] (rD C))(O:Binds K fda ["self"] []):au P w K mg base CX0 2 f fd ["self","slack"] (mF C):=by
 have sc:=rP;refine F.ok rP fun ee A outer s H vs Q E hr h=>?_;obtain ⟨p,W,z,rfl,J,kQ⟩:=h;have hu:=hr.units0;refine ⟨_,(QSs.to (ac (aH (zc (iJ (v:=.ref S) rfl R rfl) I c hr.mo O .nil aB (aa (qv 0) ag)))
  (ac (cN (qv 0) (qv 1) rfl)
  (ac (cN (qv 0) (bu ag) rfl)
  (aj (cN (qv 0) ai rfl)))))),?_⟩
 refine ⟨p,W,rfl,J,fun d hd=>?_⟩;have npd:p≠d:=am J hd;refine ⟨p,C,W,_,rfl,ad,L.cl,L.sk,by show 2<1000;decide,?_⟩;refine ⟨sz0,fun l M=>?_⟩;have U:H l=none:=by
  cases q:H l with
  | none=>rfl
  | some o =>
   have Y:l≠p:=fun z=>by rw [z,ad] at M;cases M
   have h2:l≠d:=fun z=>by rw [z,hd] at q;cases q
   rw [af Y,af Y,af Y,af h2,q] at M;cases M
 have npl:p≠l:=am J U;have ndl:d≠l:=fun z=>by rw [<-z,af npd.symm,af npd.symm,af npd.symm,ad] at M;cases M
 refine ⟨p,C,W,_,rfl,by rw [af npl,ad],L.cl,L.en,by show 3<1000;decide,?_⟩;refine ⟨p,C,W,_,rfl,ad,L.cl,L.lk,by show 4<1000;decide,?_⟩;have e1:bN ("looks":Str) (.int 0) (bN ("entries":Str) (.ref l) (bN ("slack":Str) (.int z) [("there",V.ref d),("stamp",V.int 0)]))=lfs d l (Gm.newL z):=by rw [cJ d1,cJ d4];show bN ("looks":Str) (.int 0) (bN ("entries":Str) (.ref l) [("there",V.ref d),("stamp",V.int 0),("slack",V.int z)])=_;rw [cJ d2,cJ d5,cJ d7];show bN ("looks":Str) (.int 0) [("there",V.ref d),("stamp",V.int 0),("slack",V.int z),("entries",.ref l)]=_;rw [cJ d3,cJ d6,cJ d8,cJ d9];rfl
 rw [e1];refine kQ d l _ hd U ⟨⟨W,ad⟩,⟨[],?_,.nil⟩,⟨[],?_,RR.nil⟩⟩ fun b o e nb=>?_
 .rw [af npd.symm,af npd.symm,af ndl,af npd.symm,af npd.symm,af npd.symm,ad]
 .rw [af npl.symm,af npl.symm,ad]
 have G:b≠p:=fun z=>nb (DI.mpr z);rw [af G,af G,af (am e U),af G,af G,af G,af (am e hd)];exact e
abbrev pP:Stmt:=a7 (top 15) 10
theorem sr:av ["self"] ["self"] (ak pP):=fs0
def mw (C X:Addr):Sp:=fun vs H Q E=>∃ (p d l:Addr) (s:LS),vs=[.ref p]/\LateAt C H p d l s/\Gm.LInv slt s/\s.row.length<=1000 /\
 (s.there≠[]->∀a H',LateAt C H' p d l (Gm.leastL slt s)->H' a=some (.tup (enV (Hg.g (Gm.leastL slt s).row 0)))->Kept [p,d,l] H H'->Q (.ref a) H')/\(s.there=[]->E (.ref X) none H)
theorem iV {I M:Addr}{O:FuncData}(F:Fun K "first_there" "Late.first_there" pP f fd)(T:Bl mg)(L:LT K C)(U:bp K C "need_any" I)(R:au P w K mg base (CXe P w) 1 I O ["self"] (zY C CN))(S:Binds K O ["self"] [])(J:bp K C "holds" M)(et:au P w K mg base CX0 1 M fdholds ["self","entry"] (iA C))(ee:Binds K fdholds ["self","entry"] [])(ei:bp K C "cut" fcut)(ed:au P w K mg base CX0 4 fcut fdcut ["self"] (qr C))(eh:Binds K fdcut ["self"] []):au P w K mg base (CXe P w) 5 f fd ["self"] (mw C CN):=by
 have sc:=sr;refine F.okE sr (fun vs H Q E h=>?_) (fun ej A outer s H vs Q E hr h=>?_)
 .obtain ⟨p,d,l,s,rfl,_⟩:=h;rfl
 obtain ⟨p,d,l,s,rfl,LA,LI,h1,kQ,kE⟩:=h;have hu:=hr.units0;have npd:=LA.npd;have npl:=LA.npl;have ndl:=LA.ndl;obtain ⟨dx,hp⟩:=LA.ob;obtain ⟨ks,hd,kr⟩:=LA.dc;obtain ⟨xs,hx,rr⟩:=LA.ls;refine ⟨_,(QSs.to (ac (aH (bg (qv 0) L.cl U R hr.mo S .nil (bq fun _ _ z=>z))) (QSs.mk (PSs.nox (QSs.to (ac (cU D8 (cD (ca (aV (qv 0) L.cl J et hr.mo ee .nil aB (aa (aA aM (aY (qv 0) rfl) ai pix) ag)))) (aj (aH (bg (qv 0) L.cl ei ed hr.mo eh .nil aB))))
  (aj (aD (aA aM (aY (qv 0) rfl) ai pix))))))))),?_⟩
 refine ⟨p,dx,_,rfl,hp,lfn,p,dx,d,_,ks,rfl,hp,cK,hd,fun el=>?_,fun he=>kE ?_⟩
 rotate_left
 .rw [he] at kr;cases e:s.there with
  | nil=>rfl
  | cons a b=>rw [e] at kr;cases kr
 have hT:s.there≠[]:=fun z=>el (by rw [z] at kr;cases kr;rfl);refine ⟨fun m Z H2=>∃ (f:Nat) (c:LS),Z=[some (.ref p)]/\LateAt C H2 p d l c/\Gm.LInv slt c/\c.there=s.there/\c.row.length<=f/\c.row.length<=s.row.length/\Gm.clean slt f c=Gm.leastL slt s/\Kept [p,d,l] H H2/\m=c.row.length,
  ⟨_,s.row.length,s,rfl,LA,LI,rfl,Dj _,Dj _,rfl,Kept.refl,rfl⟩,?_⟩
 rintro m Z H2 ⟨f,c,rfl,G,eo,e2,hf,ez,hc,k2,rfl⟩;obtain ⟨W,Y⟩:=G.ob;obtain ⟨eb,ey,eg⟩:=G.dc;obtain ⟨ek,er,ef⟩:=G.ls;have h0:=Gm.row_pos eo (by rw [e2];exact hT);obtain ⟨a,ea,ha,ia⟩:=ef.at h0;refine ⟨p,W,_,rfl,Y,lfn,p,C,W,_,_,rfl,Y,L.cl,L.en,io,_,_,SqL.of er,ia,p,W,d,_,eb,c.there,a,_,rfl,Y,cK,ey,eg,ha,_,rfl,aS (fun c1=>?_) (fun c1=>?_)⟩
 rotate_left
 .have c2:Gm.holds c.there (Hg.g c.row 0)=true:=by
   cases z:Gm.holds c.there (Hg.g c.row 0) with
   | true=>rfl
   | false=>exact absurd (show (!Gm.holds c.there (Hg.g c.row 0))=true by rw [z];rfl) c1
  have ec:Gm.leastL slt s=c:=by
   rw [<-hc];cases f with
   | zero=>rfl
   | succ f=>unfold Gm.clean;rw [Dm c2]
  refine ⟨p,C,W,_,_,rfl,Y,L.cl,L.en,io,_,_,SqL.of er,ia,?_⟩;exact kQ hT a H2 (by rw [ec];exact G) (by rw [ec];exact ha) k2
 have c2:¬ Gm.holds c.there (Hg.g c.row 0)=true:=fun z=>by have c3:(!Gm.holds c.there (Hg.g c.row 0))=true:=c1;rw [z] at c3;cases c3
 obtain ⟨f,rfl⟩:∃ f0,f=f0+1:=⟨f-1,Dc⟩;have ew:Gm.clean slt f (Gm.cut slt c)=Gm.leastL slt s:=by
  rw [<-hc]
  conv=>rhs;unfold Gm.clean
  rw [Di c2]
 have lc:(Gm.cut slt c).row.length=c.row.length-1:=Hg.cutf_len;refine ⟨fun σ' H'=>∃ m',m'<c.row.length/\∃ (f:Nat) (c:LS),σ'=[some (.ref p)]/\LateAt C H' p d l c/\Gm.LInv slt c/\c.there=s.there/\c.row.length<=f/\c.row.length<=s.row.length/\Gm.clean slt f c=Gm.leastL slt s/\Kept [p,d,l] H H'/\m'=c.row.length,fun σ' H' z=>z,?_⟩;refine ⟨p,W,_,rfl,Y,lfn,p,d,l,c,rfl,G,h0,Dc,fun H3 L3 k3=>?_⟩;exact ⟨(Gm.cut slt c).row.length,Dc,f,Gm.cut slt c,rfl,L3,Gm.cut_inv slt_slo eo h0 c2,e2,Dc,Dc,ew,k2.trans (k3.mono fun b hb=>by simp only [ax,ah,Dv] at hb ⊢;rcases hb with h | h <;> simp [h]),rfl⟩
abbrev wX:Stmt:=a7 (top 15) 1
theorem vM:av ["self","name","worth"] ["self","name","worth"] (ak wX):=fs0
def pK (C X:Addr):Sp:=fun vs H Q E=>∃ (p d l:Addr) (s:LS) (n:Str) (w:Int),vs=[.ref p,.str n,.int w]/\LateAt C H p d l s/\s.row.length<=900/\s.there.length<=900/\n.length<=1000 /\
 (Gm.dget s.there n=none->∀l' H',LateAt C H' p d l' (Gm.putL slt s n w)->Kept [p,d,l] H H'->Fr3 H l l'->Q .non H')/\(Gm.dget s.there n≠none->E (.ref X) none H)
theorem Bm {c:Addr}(F:Fun K "put" "Late.put" wX f fd)(T:Bl mg)(L:LT K C)(U:bp K C "need_free" c)(M:au P w K mg base (CXe P w) 1 c fdneed_free ["self","name"] (pN C CC))(R:Binds K fdneed_free ["self","name"] [])(S:bp K C "sweep_if_due" fsweep_if_due)(I:au P w K mg base CX0 4 fsweep_if_due fdsweep_if_due ["self"] (gy C))(O:Binds K fdsweep_if_due ["self"] [])(W:bp K C "enter" fenter)(Y:au P w K mg base CX0 4 fenter fdenter ["self","name","worth"] (lY C))(G:Binds K fdenter ["self","name","worth"] []):au P w K mg base (CXe P w) 5 f fd ["self","name","worth"] (pK C CC):=by
 have sc:=vM;refine F.okE vM (fun vs H Q E h=>?_) (fun ea A outer s H vs Q E hr h=>?_)
 .obtain ⟨p,d,l,s,n,w,rfl,_⟩:=h;rfl
 obtain ⟨p,d,l,s,n,w,rfl,J,h1,h2,hn,kQ,kE⟩:=h;have hu:=hr.units0;have npd:=J.npd;have npl:=J.npl;have ndl:=J.ndl;obtain ⟨dx,hp⟩:=J.ob;obtain ⟨ks,hd,kr⟩:=J.dc;obtain ⟨xs,hx,rr⟩:=J.ls;refine ⟨_,(QSs.to (ac (aH (aV (qv 0) L.cl U M hr.mo R .nil (bq fun _ _ z=>z) (aa (qv 1) ag)))
  (ac (aH (aV (qv 0) L.cl W Y hr.mo G .nil aB (aa (qv 1) (aa (qv 2) ag))))
  (aj (aH (bg (qv 0) L.cl S I hr.mo O .nil aB)))))),?_⟩
 refine ⟨p,dx,_,rfl,hp,lfn,p,dx,d,_,ks,n,rfl,hp,cK,hd,hn,fun cs=>?_,fun cs=>?_⟩
 .rcases kr.get n with ⟨e1,e2⟩ | ⟨a,e,e1,e2,ha⟩
  rotate_left
  .rw [e1] at cs;cases cs
  refine ⟨p,dx,_,rfl,hp,lfn,p,d,l,s,n,w,rfl,J,Dc,Dc,fun H2 L2 k2=>?_⟩;obtain ⟨ee,et⟩:=L2.ob;refine ⟨p,ee,_,rfl,et,lfn,p,d,l,_,rfl,L2,?_,fun l' H3 L3 k3 f3=>?_⟩
  .show (Gm.enter slt s n w).row.length<=1000;rw [Gm.enter_row_perm.length_eq,Ds];show s.row.length+1<=1000;lia
  .exact kQ e2 l' H3 L3 (k2.trans k3) (f3.imp id fun z=>L2.fresh k2 z)
 rcases kr.get n with ⟨e1,e2⟩ | ⟨a,e,e1,e2,ha⟩
 .rw [e1] at cs;cases cs
 exact kE (by rw [e2];intro z;cases z)
abbrev jm:Stmt:=a7 (top 15) 3
theorem j5:av ["self","name","worth"] ["self","name","worth"] (ak jm):=fs0
def kh (C X:Addr):Sp:=fun vs H Q E=>∃ (p d l:Addr) (s:LS) (n:Str) (w:Int),vs=[.ref p,.str n,.int w]/\LateAt C H p d l s/\s.row.length<=900/\s.there.length<=900/\n.length<=1000 /\
 (Gm.dget s.there n≠none->∀l' H',LateAt C H' p d l' (Gm.putL slt s n w)->Kept [p,d,l] H H'->Fr3 H l l'->Q .non H')/\(Gm.dget s.there n=none->E (.ref X) none H)
theorem um (F:Fun K "change" "Late.change" jm f fd)(T:Bl mg)(L:LT K C)(M:bp K C "need" fneed)(W:au P w K mg base (CXe P w) 1 fneed fdneed ["self","name"] (qS C CN))(G:Binds K fdneed ["self","name"] [])(I:bp K C "sweep_if_due" fsweep_if_due)(O:au P w K mg base CX0 4 fsweep_if_due fdsweep_if_due ["self"] (gy C))(c:Binds K fdsweep_if_due ["self"] [])(S:bp K C "enter" fenter)(U:au P w K mg base CX0 4 fenter fdenter ["self","name","worth"] (lY C))(R:Binds K fdenter ["self","name","worth"] []):au P w K mg base (CXe P w) 5 f fd ["self","name","worth"] (kh C CN):=by
 have sc:=j5;refine F.okE j5 (fun vs H Q E h=>?_) (fun ea A outer s H vs Q E hr h=>?_)
 .obtain ⟨p,d,l,s,n,w,rfl,_⟩:=h;rfl
 obtain ⟨p,d,l,s,n,w,rfl,Y,h1,h2,hn,kQ,kE⟩:=h;have hu:=hr.units0;have npd:=Y.npd;have npl:=Y.npl;have ndl:=Y.ndl;obtain ⟨dx,hp⟩:=Y.ob;obtain ⟨ks,hd,kr⟩:=Y.dc;obtain ⟨xs,hx,rr⟩:=Y.ls;refine ⟨_,(QSs.to (ac (aH (aV (qv 0) L.cl M W hr.mo G .nil (bq fun _ _ z=>z) (aa (qv 1) ag)))
  (ac (aH (aV (qv 0) L.cl S U hr.mo R .nil aB (aa (qv 1) (aa (qv 2) ag))))
  (aj (aH (bg (qv 0) L.cl I O hr.mo c .nil aB)))))),?_⟩
 refine ⟨p,dx,_,rfl,hp,lfn,p,dx,d,_,ks,n,rfl,hp,cK,hd,hn,fun cs=>?_,fun cs=>?_⟩
 .rcases kr.get n with ⟨J,e2⟩ | ⟨a,e,J,e2,ha⟩
  .rw [J] at cs;cases cs
  refine ⟨p,dx,_,rfl,hp,lfn,p,d,l,s,n,w,rfl,Y,Dc,Dc,fun H2 L2 k2=>?_⟩;obtain ⟨ee,et⟩:=L2.ob;refine ⟨p,ee,_,rfl,et,lfn,p,d,l,_,rfl,L2,?_,fun l' H3 L3 k3 f3=>?_⟩
  .show (Gm.enter slt s n w).row.length<=1000;rw [Gm.enter_row_perm.length_eq,Ds];show s.row.length+1<=1000;lia
  .exact kQ (by rw [e2];intro z;cases z) l' H3 L3 (k2.trans k3) (f3.imp id fun z=>L2.fresh k2 z)
 rcases kr.get n with ⟨J,e2⟩ | ⟨a,e,J,e2,ha⟩
 .exact kE e2
 rw [J] at cs;cases cs
abbrev qR:Stmt:=a7 (top 15) 2
theorem tZ:av ["self","name"] ["self","name"] (ak qR):=fs0
def mz (C X:Addr):Sp:=fun vs H Q E=>∃ (p d l:Addr) (s:LS) (n:Str),vs=[.ref p,.str n]/\LateAt C H p d l s/\s.row.length<=900/\s.there.length<=900/\n.length<=1000 /\
 (Gm.dget s.there n≠none->∀l' H',LateAt C H' p d l' (Gm.dropL slt s n)->Kept [p,d,l] H H'->Fr3 H l l'->Q .non H')/\(Gm.dget s.there n=none->E (.ref X) none H)
theorem yv (F:Fun K "drop" "Late.drop" qR f fd)(T:Bl mg)(L:LT K C)(S:bp K C "need" fneed)(R:au P w K mg base (CXe P w) 1 fneed fdneed ["self","name"] (qS C CN))(U:Binds K fdneed ["self","name"] [])(I:bp K C "sweep_if_due" fsweep_if_due)(O:au P w K mg base CX0 4 fsweep_if_due fdsweep_if_due ["self"] (gy C))(c:Binds K fdsweep_if_due ["self"] []):au P w K mg base (CXe P w) 5 f fd ["self","name"] (mz C CN):=by
 have sc:=tZ;refine F.okE tZ (fun vs H Q E h=>?_) (fun ea A outer s H vs Q E hr h=>?_)
 .obtain ⟨p,d,l,s,n,rfl,_⟩:=h;rfl
 obtain ⟨p,d,l,s,n,rfl,W,h1,h2,hn,kQ,kE⟩:=h;have hu:=hr.units0;have npd:=W.npd;have npl:=W.npl;have ndl:=W.ndl;obtain ⟨J,hp⟩:=W.ob;obtain ⟨ks,hd,kr⟩:=W.dc;obtain ⟨xs,hx,rr⟩:=W.ls;refine ⟨_,(QSs.to (ac (aH (aV (qv 0) L.cl S R hr.mo U .nil (bq fun _ _ z=>z) (aa (qv 1) ag)))
  (ac (aH (gH (aY (qv 0) rfl) (qv 1) ⟨rfl,rfl,rfl,rfl⟩))
  (aj (aH (bg (qv 0) L.cl I O hr.mo c .nil aB)))))),?_⟩
 refine ⟨p,J,_,rfl,hp,lfn,p,J,d,_,ks,n,rfl,hp,cK,hd,hn,fun Y=>?_,fun Y=>?_⟩
 .rcases kr.get n with ⟨M,G⟩ | ⟨a,e,M,G,ha⟩
  .rw [M] at Y;cases Y
  refine ⟨p,C,J,_,_,rfl,hp,L.cl,L.nt.th,cK,d,rfl,.inl ⟨ks,.inl hd⟩,ks,Sum.inr n,_,hd,rfl,M,?_⟩;have tt:∀b zs,H b=some (.tup zs)->(upd H d (.dK (cr ks (Sum.inr n)))) b=some (.tup zs):=fun b zs z=>by rw [af (aL z hd nqz)];exact z
  have L2:LateAt C (upd H d (.dK (cr ks (Sum.inr n)))) p d l (Gm.dropT s n):=⟨⟨J,by rw [af npd];exact hp⟩,⟨_,ad,(kr.drop n).stay tt⟩,⟨xs,by rw [af ndl.symm];exact hx,rr.stay tt⟩⟩;have k2:Kept [p,d,l] H (upd H d (.dK (cr ks (Sum.inr n)))):=Kept.refl.put Dd;obtain ⟨ee,et⟩:=L2.ob;refine ⟨p,ee,_,rfl,et,lfn,p,d,l,_,rfl,L2,?_,fun l' H3 L3 k3 f3=>?_⟩
  .show s.row.length<=1000;lia
  .exact kQ (by rw [G];intro z;cases z) l' H3 L3 (k2.trans k3) (f3.imp id fun z=>L2.fresh k2 z)
 rcases kr.get n with ⟨M,G⟩ | ⟨a,e,M,G,ha⟩
 .exact kE G
 rw [M] at Y;cases Y
abbrev lL:Stmt:=a7 (top 15) 4
theorem nc:av ["self","entry"] ["self"] (ak lL):=fs0
def nS (C X:Addr):Sp:=fun vs H Q E=>∃ (p d l:Addr) (s:LS),vs=[.ref p]/\LateAt C H p d l s/\Gm.LInv slt s/\s.row.length<=1000 /\
 (s.there≠[]->∀q H',LateAt C H' p d l (Gm.leastL slt s)->H' q=some (.tup [.int (Hg.g (Gm.leastL slt s).row 0).w,.str (Hg.g (Gm.leastL slt s).row 0).n])->Kept [p,d,l] H H'->Q (.ref q) H')/\(s.there=[]->E (.ref X) none H)
theorem xk (F:Fun K "least" "Late.least" lL f fd)(T:Bl mg)(L:LT K C)(I:bp K C "first_there" ffirst_there)(O:au P w K mg base (CXe P w) 5 ffirst_there fdfirst_there ["self"] (mw C CN))(c:Binds K fdfirst_there ["self"] []):au P w K mg base (CXe P w) 6 f fd ["self"] (nS C CN):=by
 have sc:=nc;refine F.okE nc (fun vs H Q E h=>?_) (fun J A outer s H vs Q E U h=>?_)
 .obtain ⟨p,d,l,s,rfl,_⟩:=h;rfl
 obtain ⟨p,d,l,s,rfl,S,LI,h1,G,kE⟩:=h;have hu:=U.units0;have npd:=S.npd;have npl:=S.npl;have ndl:=S.ndl;obtain ⟨dx,hp⟩:=S.ob;obtain ⟨ks,hd,kr⟩:=S.dc;obtain ⟨xs,hx,rr⟩:=S.ls;refine ⟨_,(QSs.to (ac (qst 1 sc.nd (bg (qv 0) L.cl I O U.mo c .nil (bq fun _ _ z=>z)))
  (aj (aD (be (aa (aA aI (qv 1) ai pix) (aa (aA aI (qv 1) ai pix) ag))))))),?_⟩
 refine ⟨p,dx,_,rfl,hp,lfn,p,d,l,s,rfl,S,LI,h1,fun Y a H2 L2 M W=>?_,kE⟩;refine ⟨_,_,SqT.of M,rfl,_,_,SqT.of M,rfl,sz2,fun q R=>?_⟩;exact G Y q _ (L2.same (ar R)) ad (W.new R)
abbrev qN:Stmt:=a7 (top 15) 5
theorem ua:av ["self","entry"] ["self"] (ak qN):=fs0
def sL (C X:Addr):Sp:=fun vs H Q E=>∃ (p d l:Addr) (s:LS),vs=[.ref p]/\LateAt C H p d l s/\Gm.LInv slt s/\s.row.length<=1000 /\
 (s.there≠[]->∀q l' H',LateAt C H' p d l' (Gm.takeL slt s)->H' q=some (.tup [.int (Hg.g (Gm.leastL slt s).row 0).w,.str (Hg.g (Gm.leastL slt s).row 0).n])->Kept [p,d,l] H H'->Fr3 H l l'->Q (.ref q) H')/\(s.there=[]->E (.ref X) none H)
theorem wN (F:Fun K "take" "Late.take" qN f fd)(T:Bl mg)(L:LT K C)(U:bp K C "first_there" ffirst_there)(R:au P w K mg base (CXe P w) 5 ffirst_there fdfirst_there ["self"] (mw C CN))(S:Binds K fdfirst_there ["self"] [])(el:bp K C "cut" fcut)(ed:au P w K mg base CX0 4 fcut fdcut ["self"] (qr C))(er:Binds K fdcut ["self"] [])(I:bp K C "sweep_if_due" fsweep_if_due)(c:au P w K mg base CX0 4 fsweep_if_due fdsweep_if_due ["self"] (gy C))(O:Binds K fdsweep_if_due ["self"] []):au P w K mg base (CXe P w) 6 f fd ["self"] (sL C CN):=by
 have sc:=ua;refine F.okE ua (fun vs H Q E h=>?_) (fun eA A outer s H vs Q E hr h=>?_)
 .obtain ⟨p,d,l,s,rfl,_⟩:=h;rfl
 obtain ⟨p,d,l,s,rfl,W,LI,h1,kQ,kE⟩:=h;have hu:=hr.units0;have npd:=W.npd;have npl:=W.npl;have ndl:=W.ndl;obtain ⟨dx,hp⟩:=W.ob;obtain ⟨ks,hd,kr⟩:=W.dc;obtain ⟨xs,hx,rr⟩:=W.ls;refine ⟨_,(QSs.to (ac (qst 1 sc.nd (bg (qv 0) L.cl U R hr.mo S .nil (bq fun _ _ z=>z)))
  (ac (aH (bg (qv 0) L.cl el ed hr.mo er .nil aB))
  (ac (aH (gH (aY (qv 0) rfl) (aA aI (qv 1) ai pix) ⟨rfl,rfl,rfl,rfl⟩))
  (ac (aH (bg (qv 0) L.cl I c hr.mo O .nil aB))
  (aj (aD (be (aa (aA aI (qv 1) ai pix) (aa (aA aI (qv 1) ai pix) ag)))))))))),?_⟩
 refine ⟨p,dx,_,rfl,hp,lfn,p,d,l,s,rfl,W,LI,h1,fun hT a H2 L2 ha k2=>?_,kE⟩;have cl:=Gm.least_ok slt_slo LI hT;have ez:(Gm.leastL slt s).row.length<=1000:=Dq (Gm.least_len) h1;obtain ⟨ec,ek⟩:=L2.ob;refine ⟨p,ec,_,rfl,ek,lfn,p,d,l,_,rfl,L2,cl.pos,ez,fun Y L3 k3=>?_⟩;have ee:Kept [p,d,l] H2 Y:=k3.mono fun b hb=>by simp only [ax,ah,Dv] at hb ⊢;rcases hb with h | h <;> simp [h]
 have ei:=ee.tups L2.notup _ _ ha;obtain ⟨ea,J⟩:=L3.ob;obtain ⟨M,G,et⟩:=L3.dc;obtain ⟨ej,ef,eb⟩:=L3.ls;have ey:=Gm.holds_in cl.hold;rcases et.get (Hg.g (Gm.leastL slt s).row 0).n with ⟨e1,e2⟩ | ⟨b,e',e1,e2,hb⟩
 .have:=Gm.dget_of cl.inv.nd ey;have e3:Gm.dget (Gm.leastL slt s).there (Hg.g (Gm.leastL slt s).row 0).n=none:=e2;rw [e3] at this;cases this
 refine ⟨p,C,ea,_,_,rfl,J,L.cl,L.nt.th,cK,d,rfl,.inl ⟨M,.inl G⟩,_,_,SqT.of ei,rfl,M,Sum.inr (Hg.g (Gm.leastL slt s).row 0).n,_,G,rfl,e1,?_⟩;have tt:∀b zs,Y b=some (.tup zs)->(upd Y d (.dK (cr M (Sum.inr (Hg.g (Gm.leastL slt s).row 0).n)))) b=some (.tup zs):=fun b zs z=>by rw [af (aL z G nqz)];exact z
 have L4:LateAt C (upd Y d (.dK (cr M (Sum.inr (Hg.g (Gm.leastL slt s).row 0).n)))) p d l (Gm.dropT (Gm.cut slt (Gm.leastL slt s)) (Hg.g (Gm.leastL slt s).row 0).n):=⟨⟨ea,by rw [af npd];exact J⟩,⟨_,ad,(et.drop _).stay tt⟩,⟨ej,by rw [af ndl.symm];exact ef,eb.stay tt⟩⟩;have k4:Kept [p,d,l] H (upd Y d (.dK (cr M (Sum.inr (Hg.g (Gm.leastL slt s).row 0).n)))):=(k2.trans ee).put Dd;have eo:=tt _ _ ei;generalize (upd Y d (.dK (cr M (Sum.inr (Hg.g (Gm.leastL slt s).row 0).n))))=H4 at L4 k4 eo ⊢;obtain ⟨ew,eg⟩:=L4.ob;refine ⟨p,ew,_,rfl,eg,lfn,p,d,l,_,rfl,L4,?_,fun l' H5 L5 k5 f5=>?_⟩
 .have lc:(Gm.cut slt (Gm.leastL slt s)).row.length=(Gm.leastL slt s).row.length-1:=Hg.cutf_len;show (Gm.cut slt (Gm.leastL slt s)).row.length<=1000;lia
 have eh:=k5.tups L4.notup _ _ eo;have f6:Fr3 H l l':=f5.imp id fun z=>L4.fresh k4 z;refine ⟨_,_,SqT.of eh,rfl,_,_,SqT.of eh,rfl,sz2,fun q hq=>?_⟩;exact kQ hT q l' _ (L5.same (ar hq)) ad ((k4.trans k5).new hq) f6
abbrev vF:Stmt:=a7 (top 15) 6
theorem yg:av ["self"] ["self"] (ak vF):=fs0
def pv (C:Addr):Sp:=fun vs H Q _=>∃ (p d l:Addr) (s:LS),vs=[.ref p]/\LateAt C H p d l s/\∀q xs H',H' q=some (.tup xs)->RR H' xs s.row->Same H H'->Q (.ref q) H'
theorem Ai (F:Fun K "row" "Late.row" vF f fd)(T:Bl mg)(L:LT K C):au P w K mg base CX0 1 f fd ["self"] (pv C):=by have Y:=yg;refine F.ok yg fun S A outer s H vs Q E R h=>?_;obtain ⟨p,d,l,s,rfl,O,k⟩:=h;have G:=R.units0;obtain ⟨U,M⟩:=O.ob;obtain ⟨xs,I,W⟩:=O.ls;refine ⟨_,(QSs.to (aj (aD (qcT cI T.z_tuple (aa (aY (qv 0) rfl) ag))))),?_⟩;refine ⟨p,C,U,_,_,rfl,M,L.cl,L.en,io,l,xs,rfl,.inl ⟨SqL.of I,fun q c=>?_⟩⟩;exact k q xs _ ad (W.stay fun b z h=>ar c _ _ h) (ar c)
abbrev qF:Stmt:=a7 (top 15) 7
theorem rO:av ["self"] ["self"] (ak qF):=fs0
def mK (C:Addr):Sp:=fun vs H Q _=>∃ (p d l:Addr) (s:LS),vs=[.ref p]/\LateAt C H p d l s/\Q (.int s.looks) H
theorem yQ (F:Fun K "work" "Late.work" qF f fd)(T:Bl mg)(L:LT K C):au P w K mg base CX0 1 f fd ["self"] (mK C):=by have U:=rO;refine F.ok rO fun c A outer s H vs Q E O h=>?_;obtain ⟨p,d,l,s,rfl,R,k⟩:=h;have M:=O.units0;obtain ⟨I,S⟩:=R.ob;refine ⟨_,(QSs.to (aj (aD (aY (qv 0) rfl)))),?_⟩;exact ⟨p,C,I,_,_,rfl,S,L.cl,L.lk,sG,k⟩
def WN (H:Hp)(zs:List V)(es:List En):Prop:=Paired (fun (v:V) (e:En)=>∃ a,v=.ref a/\H a=some (.tup [.int e.w,.str e.n])) zs es
theorem WN.stay (r:WN H zs es)(k:∀b l,H b=some (.tup l)->H' b=some (.tup l)):WN H' zs es:=Paired.mapP r fun p q ⟨a,b,c⟩=>⟨a,b,k _ _ c⟩
structure FrH (H:Hp)(pa:Addr)(zs:List V)(row:List En)(P:List Nat):Prop where
 hp:H pa=some (.lst zs)
 en:EnP (cL H) H zs
 hh:IsH (ltT (cL H)) zs
 pm:(zs.map (cL H)).Perm (P.map (kP row))
section
variable {H H':Hp}{pa:Addr}{zs:List V}{row:List En}{P:List Nat}
theorem EnP.re (e:EnP t H zs):EnP (cL H) H zs:=⟨fK H,fun x c=>by rw [EnP.key e c];exact e.mem x c⟩
theorem FrH.len (F:FrH H pa zs row P):zs.length=P.length:=by have:=F.pm.length_eq;rw [Dg,Dg] at this;exact this
theorem FrH.of (I:H pa=some (.lst zs))(e:EnP t H zs)(h:IsH (ltT t) zs)(O:(zs.map t).Perm (P.map (kP row))):FrH H pa zs row P:=by have c:∀x∈zs,cL H x=t x:=fun x T=>EnP.key e T;exact ⟨I,EnP.re e,uq c h,by rw [ED c];exact O⟩
theorem FrH.stay (F:FrH H pa zs row P)(c:H' pa=some (.lst zs))(t:∀b l,H b=some (.tup l)->H' b=some (.tup l)):FrH H' pa zs row P:=FrH.of c (F.en.move t) F.hh F.pm
end
theorem xR {e:V}{k:Nat}(h:k<xs.length):g (xs++[e]) k=g xs k:=by simp only [g,DS,EF h]
theorem u9 {lt:V->V->Bool}(o:Od lt)(h:IsH lt xs){e:V}:IsH lt (up lt xs.length (xs++[e]) xs.length 0).1:=by
 have S:(xs++[e]).length=xs.length+1:=by rw [Ds];rfl
 refine gF o (Dj _) Dc (fun k c T O=>?_) (fun k c T O I=>by lia);rw [xR Dc,xR Dc];exact h k c Dc
abbrev qA:Stmt:=top 20
theorem rW:av ["places","row","place"] ["places","row","place"] (ak qA):=fs0
def sK:Sp:=fun vs H Q _=>∃ (pa q:Addr) (zs xs:List V) (row:List En) (P:List Nat) (i:Nat),vs=[.ref pa,.ref q,.int i]/\H q=some (.tup xs)/\RR H xs row/\FrH H pa zs row P/\P.length<=990 /\
 ∀zs' H',FrH H' pa zs' row (P++if i<row.length then [i] else [])->Kept [pa] H H'->Q .non H'
theorem xb {fl:Addr}{U:FuncData}(F:Fun K "offer" "offer" qA f fd)(T:Bl mg)(O:au P w K mg base CX0 3 fl U ["heap","entry"] sO)(S:Nm K mg "lay_in" fl U ["heap","entry"]):au P w K mg base CX0 4 f fd ["places","row","place"] sK:=by
 have sc:=rW;refine F.okQ rW fun ee A outer s_ H vs Q E hr h=>?_;obtain ⟨pa,q,zs,xs,row,P,i,rfl,Y,rr,W,hl,k⟩:=h;have hu:=hr.units0;refine ⟨_,(aj (aT (aw dI (qv 2) (qcB aK T.z_len (aa (qv 1) ag)) (aG _)) (aj (aH (qcl O hr S aB (aa (qv 0) (aa (be (aa (aA aI (qv 1) (qv 2) pix) (aa (qv 2) ag))) ag))))) aE)),?_⟩;dsimp only [bM,Cx.nox];have lx:=rr.len;refine ⟨q,xs,rfl,.inr (SqT.of Y),_,rfl,aS (fun c=>?_) (fun c=>?_)⟩
 .have c':(i:Int)<(xs.length:Int):=Dp c;have hi:i<row.length:=by lia
  obtain ⟨a,ea,ha,ia⟩:=rr.at hi;refine ⟨_,_,SqT.of Y,ia,sz2,fun t ht=>?_⟩;refine gnew ht fun I M g1=>?_;have R:=W.stay (M _ _ W.hp) fun b l e=>M _ _ e;have pt:PlH I t (kP row i):=⟨a,_,_,_,_,g1,M _ _ ha,rfl⟩;have kt:cL I (.ref t)=kP row i:=ud pt;have G:EnP (cL I) I (zs++[.ref t]):=⟨fK I,fun x hx=>by
   rcases Du.mp hx with z | z
   .exact R.en.mem x z
   .rw [De z,kt];exact ⟨t,rfl,pt⟩⟩
  have lz:=W.len;refine ⟨pa,zs,.ref t,cL I,rfl,R.hp,G,Dc,fun H' h' J=>?_⟩;have pu:(up (ltT (cL I)) zs.length (zs++[.ref t]) zs.length 0).1.Perm (zs++[.ref t]):=dJ (by rw [Ds];exact EG _);have tk:∀b l,I b=some (.tup l)->H' b=some (.tup l):=fun b l e=>J b _ e (aL e R.hp nqz);refine k _ H' (FrH.of (t:=cL I) h' ((G.sub fun y hy=>pu.mem_iff.mp hy).move tk) (u9 (yp (fK I)) R.hh) ?_) (fun b o e n=>J b o (M _ _ e) (fun z=>n (DI.mpr z)));refine (pu.map _).trans ?_;rw [D4,D4,Dm hi];refine R.pm.append ?_;show List.Perm [cL I (.ref t)] [kP row i];rw [kt]
 have c':¬ (i:Int)<(xs.length:Int):=fun z=>c (Dk z);refine k zs H ?_ Kept.refl;rw [Di Dc,Ez];exact W
abbrev mV:Stmt:=top 19
theorem nH:av ["heap","k","row","places","things","steps","place","entry"] ["heap","k"] (ak mV):=fs0
def oF (C:Addr):Sp:=fun vs H Q _=>∃ (p d l:Addr) (s:LS) (k:Nat),vs=[.ref p,.int k]/\LateAt C H p d l s/\Gm.LInv slt s/\s.stamp<=900 /\
 ∀(o q1:Addr) (zs:List V) (P ps:List Nat) (H':Hp),H' o=some (.tup [.ref q1,.int ps.length])->H' q1=some (.tup zs)->WN H' zs (bf s.row (Gm.holds s.there) ps)->ya s.row (Gm.holds s.there) k P ps->Same H H'->Q (.ref o) H'
theorem uA {eb G fo fc:Addr}{eo eL e6:FuncData}(F:Fun K "firsts" "firsts" mV f fd)(T:Bl mg)(L:LT K C)(e3:bp K C "row" eb)(eC:au P w K mg base CX0 1 eb eo ["self"] (pv C))(eH:Binds K eo ["self"] [])(ed:bp K C "holds" G)(el:au P w K mg base CX0 1 G fdholds ["self","entry"] (iA C))(ef:Binds K fdholds ["self","entry"] [])(O:au P w K mg base CX0 4 fo eL ["places","row","place"] sK)(R:Nm K mg "offer" fo eL ["places","row","place"])(W:au P w K mg base CX0 3 fc e6 ["heap"] rH)(M:Nm K mg "cut_first" fc e6 ["heap"]):au P w K mg base CX0 5 f fd ["heap","k"] (oF C):=by
 have sc:=nH;refine F.okQ nH fun ab A outer s_ H vs Q E hr h=>?_;obtain ⟨p,d,l,s,k,rfl,LA,LI,hs,kQ⟩:=h;have hu:=hr.units0;have rl:=LI.len;refine ⟨_,(ac (qst 2 sc.nd (bg (qv 0) L.cl e3 eC hr.mo eH .nil aB))
  (ac (qst 3 sc.nd (bu ag))
  (ac (aH (qcl O hr R aB (aa (qv 3) (aa (qv 2) (aa ai ag)))))
  (ac (qst 4 sc.nd (bu ag))
  (ac (qst 5 sc.nd ai)
  (ac (cU D8 (QW.pt (dA (aw dI (qcB aK T.z_len (aa (qv 4) ag)) (qv 1) (aG _)) (cG (aw im (qcB aK T.z_len (aa (qv 3) ag)) ai (aG _))))) (ac (qst 6 sc.nd (aA aI (aA aM (qv 3) ai pix) ai pix))
  (ac (aH (qcl W hr M aB (aa (qv 3) ag)))
  (ac (qst 5 sc.nd (ao aN (qv 5) ai))
  (ac (qst 7 sc.nd (aA aI (qv 2) (qv 6) pix))
  (ac (ms (ca (aV (qv 0) L.cl ed el hr.mo ef .nil aB (aa (qv 7) ag))) (aj (aH (gN Eg Ex Ey cg (qv 4) (aa (be (aa (aA aI (qv 7) ai pix) (aa (aA aI (qv 7) ai pix) ag))) ag)))) aE)
  (ac (aH (qcl O hr R aB (aa (qv 3) (aa (qv 2) (aa (ao aN (ao bU ai (qv 6)) ai) ag)))))
  (aj (aH (qcl O hr R aB (aa (qv 3) (aa (qv 2) (aa (ao aN (ao bU ai (qv 6)) ai) ag)))))))))))))
  (aj (aD (be (aa (qcT cI T.z_tuple (aa (qv 4) ag)) (aa (qv 5) ag))))))))))),?_⟩;dsimp only [bM,Cx.nox]
 obtain ⟨dx,hp⟩:=LA.ob;refine ⟨p,dx,_,rfl,hp,lfn,p,d,l,s,rfl,LA,fun q xs H1 hq rr s1=>?_⟩;have lx:=rr.len;refine ⟨sz0,fun U ez=>?_⟩;refine gnew ez fun H2 s2 g2=>?_;have F2:FrH H2 U [] s.row []:=⟨g2,⟨fK H2,fun x hx=>nomatch hx⟩,(fun _ _ z=>nomatch z),List.Perm.refl _⟩;refine ⟨U,q,[],xs,s.row,[],0,rfl,s2 _ _ hq,rr.stay fun b l e=>s2 _ _ e,F2,by show 0<=990;decide,fun z0 H3 F3 k3=>?_⟩;have eW:Same H1 H3:=fun b o e=>k3 b o (s2 _ _ e) (fun z=>by rw [De z,ez] at e;cases e);refine ⟨sz0,fun ta ec=>?_⟩;have s4:=ar (o:=.lst []) ec;have g4:=ad (H:=H3) (a:=ta) (o:=.lst []);have J:U≠ta:=am F3.hp ec;generalize upd H3 ta (.lst [])=H4 at s4 g4 ⊢;have e0:([]++if 0<s.row.length then [0] else []:List Nat)=[0].filter fun j=>decide (j<s.row.length):=by
  by_cases z:0<s.row.length
  .rw [Dm z,D5,Dm (Dk z)];rfl
  .rw [Di z,D5,Di (fun q=>z (Dp q))];rfl
 rw [e0] at F3;have et:=ez;have eB:H1 ta=none:=by
  cases e:H1 ta with
  | none=>rfl
  | some u=>rw [eW _ _ e] at ec;cases ec
 refine ⟨fun m Z S=>∃ (zs I:List V) (P ps:List Nat) (o1 o2:Option V),Z=[some (.ref p),some (.int k),some (.ref q),some (.ref U),some (.ref ta),some (.int ps.length),o1,o2]/\FrH S U zs s.row P/\Fst s.row (Gm.holds s.there) k P ps/\S ta=some (.lst I)/\WN S I (bf s.row (Gm.holds s.there) ps)/\Kept [] H1 S/\U≠ta/\m=s.row.length-ps.length,
  ⟨_,z0,[],_,[],none,none,rfl,F3.stay (s4 _ _ F3.hp) (fun b l e=>s4 _ _ e),Fst.start,g4,.nil,Kept.of_same (eW.trans s4),J,rfl⟩,?_⟩
 rintro m Z S ⟨zs,I,P,ps,o1,o2,rfl,F5,ea,h5,eg,k5,_,rfl⟩;have eS:Same H1 S:=fun b o e=>k5 b o e ah;have lf:=ea.len;have lz:=F5.len;have t8:I.length=(bf s.row (Gm.holds s.there) ps).length:=EY eg;have t7:(bf s.row (Gm.holds s.there) ps).length<=ps.length:=by unfold bf;refine Dq (Ec _ _) ?_;rw [Dg];exact Dj _
 refine ⟨ta,I,rfl,.inl (SqL.of h5),_,rfl,aS (fun c1=>⟨U,zs,rfl,.inl (SqL.of F5.hp),_,rfl,aS (fun c2=>?_) (fun c2=>?_)⟩) (fun c1=>bW ?_)⟩
 rotate_left
 .have tr:¬ (zs.length:Int)>0:=by simpa using c2
  have pz:P=[]:=DL.mp Dc;refine ⟨ta,I,rfl,.inl ⟨SqL.of h5,fun q1 eA=>?_⟩⟩;refine gnew eA fun H6 s6 g6=>?_;refine ⟨sz2,fun o ho=>?_⟩;have Y:=ar (o:=.tup [.ref q1,.int ps.length]) ho;exact kQ o q1 I P ps _ ad (Y _ _ g6) ((eg.stay fun b l e=>s6 _ _ e).stay fun b l e=>Y _ _ e) ⟨ea,.inr pz⟩ (((s1.trans eS).trans s6).trans Y)
 .have th:¬ (I.length:Int)<(k:Int):=by simpa using c1
  refine ⟨ta,I,rfl,.inl ⟨SqL.of h5,fun q1 eA=>?_⟩⟩;refine gnew eA fun H6 s6 g6=>?_;refine ⟨sz2,fun o ho=>?_⟩;have Y:=ar (o:=.tup [.ref q1,.int ps.length]) ho;exact kQ o q1 I P ps _ ad (Y _ _ g6) ((eg.stay fun b l e=>s6 _ _ e).stay fun b l e=>Y _ _ e) ⟨ea,.inl Dc⟩ (((s1.trans eS).trans s6).trans Y)
 have th:(I.length:Int)<(k:Int):=Dp c1;have tr:(zs.length:Int)>0:=by simpa using c2
 refine ⟨fun σ' H'=>∃ m',m'<s.row.length-ps.length/\∃ (zs I:List V) (P ps:List Nat) (o1 o2:Option V),σ'=[some (.ref p),some (.int k),some (.ref q),some (.ref U),some (.ref ta),some (.int ps.length),o1,o2]/\FrH H' U zs s.row P/\Fst s.row (Gm.holds s.there) k P ps/\H' ta=some (.lst I)/\WN H' I (bf s.row (Gm.holds s.there) ps)/\Kept [] H1 H'/\U≠ta/\m'=s.row.length-ps.length,fun σ' H' z=>z,?_⟩;obtain ⟨a0,tq,t5,m0,e4⟩:=F5.en.gat (show 0<zs.length by lia);obtain ⟨i,hi,ei⟩:∃ i∈P,kP s.row i=cL S (g zs 0):=by have:=F5.pm.mem_iff.mp (DG.mpr ⟨_,m0,rfl⟩);obtain ⟨i,h1,h2⟩:=DG.mp this;exact ⟨i,h1,h2⟩
 have e9:i<s.row.length:=ea.inv.lt i (DT _ hi);have mn:∀j∈P,ltI s.row j i=false:=fun j hj=>by obtain ⟨y,hy,ey⟩:=DG.mp (F5.pm.mem_iff.mpr (DG.mpr ⟨j,hj,rfl⟩));have:=iU (yp (fK S)) F5.hh hy;unfold ltT at this;rw [ey,<-ei] at this;exact this
 obtain ⟨e,w',n',z',i',h1,h2,h3⟩:=t5;obtain rfl:i'=(i:Int):=by rw [<-ei] at h3;unfold kP enV at h3;injection h3 with _ h3;injection h3 with _ h3;injection h3 with _ h3;injection h3 with h3 _;exact (V.int.inj h3).symm
 rw [tq] at e4;refine ⟨_,_,SqL.of F5.hp,e4,_,_,SqT.of h1,rfl,?_⟩;refine ⟨U,zs,cL S,rfl,F5.hp,F5.en,Dc,Dc,fun H6 h6 f6=>?_⟩;have eG:∀b l,S b=some (.tup l)->H6 b=some (.tup l):=fun b l e=>f6 b _ e (aL e F5.hp nqz);have pc:=cS (lt:=ltT (cL S)) (show 0<zs.length by lia);have F6:FrH H6 U (cutf (ltT (cL S)) zs).1 s.row (P.erase i):=by refine FrH.of (t:=cL S) h6 ((F5.en.sub fun y hy=>pc.mem_iff.mp (Dr _ hy)).move eG) (eU (yp (fK S)) F5.hh Dc) ?_;have a1:(cL S (g zs 0)::(cutf (ltT (cL S)) zs).1.map (cL S)).Perm (kP s.row i::(P.erase i).map (kP s.row)):=(pc.map (cL S)).trans (F5.pm.trans ((II hi).map _));rw [ei] at a1;exact List.Perm.cons_inv a1
 generalize (cutf (ltT (cL S)) zs).1=zs6 at F6;have eh:H6 ta=some (.lst I):=f6 _ _ h5 (fun z=>J z.symm);have er:Same H1 H6:=fun b o e=>f6 b o (eS _ _ e) (fun z=>by rw [z,et] at e;cases e);have eF:=eg.stay eG;refine (?_);obtain ⟨ae,t9,t2,tc⟩:=rr.at e9;refine ⟨_,_,SqT.of (er _ _ hq),tc,?_⟩;have ee:=er _ _ t2;have L6:=LA.same (s1.trans er);obtain ⟨eD,e5⟩:=L6.ob;obtain ⟨tl,e8,tL⟩:=L6.dc;have eZ:bf s.row (Gm.holds s.there) (ps++[i])=bf s.row (Gm.holds s.there) ps++[Hg.g s.row i].filter (Gm.holds s.there):=by unfold bf;rw [D4,Gr];rfl
 refine ⟨fun σ' H'=>∃ ew,σ'=[some (.ref p),some (.int k),some (.ref q),some (.ref U),some (.ref ta),some (.int ((ps.length:Int)+1)),some (.int i),some (.ref ae)]/\H' ta=some (.lst ew)/\WN H' ew (bf s.row (Gm.holds s.there) (ps++[i]))/\FrH H' U zs6 s.row (P.erase i)/\Same H1 H',?_,?_⟩
 .refine ⟨p,eD,_,rfl,e5,lfn,p,eD,d,_,tl,s.there,ae,_,rfl,e5,cK,e8,tL,ee,_,rfl,aS (fun c=>?_) (fun c=>?_)⟩
  .refine ⟨.inl ⟨rfl,_,SqL.of eh⟩,_,_,SqT.of ee,rfl,_,_,SqT.of ee,rfl,sz2,fun t ht=>?_⟩;have Y:=ar (o:=.tup [.int (Hg.g s.row i).w,.str (Hg.g s.row i).n]) ht;have g7:=ad (H:=H6) (a:=t) (o:=.tup [.int (Hg.g s.row i).w,.str (Hg.g s.row i).n]);refine ⟨ta,I,_,rfl,rfl,Y _ _ eh,aZ Dc,I++[.ref t],rfl,ad,?_,?_,?_⟩
   .rw [eZ,D5,Dm c];have tk:∀b l,(upd H6 t (.tup [.int (Hg.g s.row i).w,.str (Hg.g s.row i).n])) b=some (.tup l)->upd (upd H6 t (.tup [.int (Hg.g s.row i).w,.str (Hg.g s.row i).n])) ta (.lst (I++[.ref t])) b=some (.tup l):=fun b l e=>by rw [af (aL e (Y _ _ eh) nqz)];exact e
    exact Hz ((eF.stay fun b l e=>Y _ _ e).stay tk) ⟨t,rfl,tk _ _ g7⟩
   .refine F6.stay (by rw [af J];exact Y _ _ F6.hp) fun b l e=>?_;rw [af (aL e eh nqz)];exact Y _ _ e
   .intro b o e;rw [af (fun z=>by rw [z,eB] at e;cases e)];exact Y _ _ (er _ _ e)
  .refine ⟨I,rfl,eh,?_,F6,er⟩;rw [eZ,D5,Di c,G0,Ez];exact eF
 rintro σ' H7 ⟨ew,rfl,h7,t6,F7,ej⟩;have ti:=rr.stay (H':=H7) fun b l e=>ej _ _ e;have le:=Hq hi;have e1:(2*(i:Int)+1)=((2*i+1:Nat):Int):=by lia
 have e2:(2*(i:Int)+2)=((2*i+2:Nat):Int):=by lia
 refine ⟨.inl ⟨Db,Db⟩,U,q,zs6,xs,s.row,P.erase i,2*i+1,(by show [V.ref U,V.ref q,V.int (2*(i:Int)+1)]=_;rw [e1]),ej _ _ hq,ti,F7,Dc,fun tx H8 F8 k8=>?_⟩;have eN:Same H1 H8:=fun b o e=>k8 b o (ej _ _ e) (fun z=>by rw [De z,et] at e;cases e);have t4:∀b l,H7 b=some (.tup l)->H8 b=some (.tup l):=fun b l e=>k8 b _ e (fun z=>aL e F7.hp nqz (De z));have tv:=rr.stay (H':=H8) fun b l e=>eN _ _ e;have l8:(P.erase i++if 2*i+1<s.row.length then [2*i+1] else []).length<=990:=by
  rw [Ds];have:(if 2*i+1<s.row.length then [2*i+1] else []:List Nat).length<=1:=by split <;> simp
  lia
 refine ⟨.inl ⟨Db,Db⟩,U,q,tx,xs,s.row,_,2*i+2,(by show [V.ref U,V.ref q,V.int (2*(i:Int)+2)]=_;rw [e2]),eN _ _ hq,tv,F8,l8,fun tF H9 F9 k9=>?_⟩;have tn:Same H1 H9:=fun b o e=>k9 b o (eN _ _ e) (fun z=>by rw [De z,et] at e;cases e);have e7:∀b l,H8 b=some (.tup l)->H9 b=some (.tup l):=fun b l e=>k9 b _ e (fun z=>aL e F8.hp nqz (De z));have h9:=k9 _ _ (k8 _ _ h7 (fun z=>J (De z).symm)) (fun z=>J (De z).symm);have ek:(P.erase i++(if 2*i+1<s.row.length then [2*i+1] else []))++(if 2*i+2<s.row.length then [2*i+2] else [])=P.erase i++eR s.row.length i:=by rw [EI];congr 1;unfold eR;rw [D5,D5,G0];by_cases q1:2*i+1<s.row.length <;> by_cases q2:2*i+2<s.row.length <;> simp [q1,q2]
 rw [ek] at F9;refine ⟨s.row.length-(ps++[i]).length,by rw [Ds];show _-(ps.length+1)<_;lia,tF,ew,_,ps++[i],some (.int i),some (.ref ae),?_,F9,Fst.step ea Dc hi mn,h9,(t6.stay t4).stay e7,Kept.of_same tn,J,rfl⟩;rw [Ds];rfl
abbrev qc:Stmt:=a7 (top 31) 4
theorem rj:av ["self","name"] ["self","name"] (ak qc):=fs0
def lV (C CL:Addr):Sp:=fun vs H Q _=>∃ (p dx d e h hd hl:Addr) (fs:List (Str×V)) (ks js:List (Key×V)) (z:Str) (s:LS) (j:Int),vs=[.ref p,.str z]/\H p=some (.ins C dx fs)/\fs.lookup ("heaps":Str)=some (.ref d)/\fs.lookup ("joined":Str)=some (.ref e)/\H d=some (.dK ks)/\H e=some (.dK js)/\aU ks (Sum.inr z)=some (.ref h)/\LateAt CL H h hd hl s/\aU js (Sum.inr z)=some (.int j)/\Q (.int (s.looks+j)) H
theorem vZ {fw:Addr}(F:Fun K "works_of" "Desk.works_of" qc f fd)(T:Bl mg)(L:DK K C)(LL:LT K CL)(O:bp K CL "work" fw)(I:au P w K mg base CX0 1 fw fdw ["self"] (mK CL))(c:Binds K fdw ["self"] []):
  au P w K mg base CX0 2 f fd ["self","name"] (lV C CL):=by
 have sc:=rj;refine F.okQ rj fun ee A outer s H vs Q E S h=>?_;obtain ⟨p,R,d,e,h,hd,hl,fs,ks,js,z,s,j,rfl,U,G,ej,Y,W,vh,M,vj,k⟩:=h;have hu:=S.units0;refine ⟨_,(aj (aD (ao aN (bg (aJ (aO S) (aY (qv 0) rfl) (qv 1) pix) LL.cl O I S.mo c .nil aB) (aJ (aO S) (aY (qv 0) rfl) (qv 1) pix)))),?_⟩;obtain ⟨hx,J⟩:=M.ob;refine ⟨p,C,R,fs,_,rfl,U,L.cl,L.hp,G,d,_,rfl,vh▸DGet.k (k:=Sum.inr z) Y,?_⟩;refine ⟨h,hx,_,rfl,J,rfl,h,hd,hl,s,rfl,M,?_⟩;exact ⟨p,C,R,fs,_,rfl,U,L.cl,L.jn,ej,e,.int j,rfl,vj▸DGet.k (k:=Sum.inr z) W,k⟩
def xOf (CC CN:Addr):Deed->Addr
 | .put _ _=>CC
 | _=>CN
abbrev pE:Stmt:=top 17
theorem sR:av ["heap","deed"] ["heap","deed"] (ak pE):=fs0
def lJ (C CC CN:Addr):Sp:=fun vs H Q E=>∃ (p d l q:Addr) (s:LS) (dd:Deed),vs=[.ref p,.ref q]/\LateAt C H p d l s/\Gm.LInv slt s/\s.stamp<=800/\H q=some (.tup dd.v)/\dd.ok /\
 (dd.fit s->∀v l' H',LateAt C H' p d l' (ay s dd).1->uT H' (ay s dd).2 v->Kept [p,d,l] H H'->Fr3 H l l'->Q v H')/\(¬ dd.fit s->E (.ref (xOf CC CN dd)) none H)
theorem xN {el et R J M:Addr}{ea W c G U:FuncData}(F:Fun K "carry_out" "carry_out" pE f fd)(T:Bl mg)(L:LT K C)(eA:bp K C "put" el)(eN:au P w K mg base (CXe P w) 5 el ea ["self","name","worth"] (pK C CC))(ez:Binds K ea ["self","name","worth"] [])(ef:bp K C "drop" et)(ey:au P w K mg base (CXe P w) 5 et W ["self","name"] (mz C CN))(eb:Binds K W ["self","name"] [])(eo:bp K C "change" R)(ei:au P w K mg base (CXe P w) 5 R c ["self","name","worth"] (kh C CN))(ee:Binds K c ["self","name","worth"] [])(ek:bp K C "take" J)(eg:au P w K mg base (CXe P w) 6 J G ["self"] (sL C CN))(ec:Binds K G ["self"] [])(er:bp K C "least" M)(ed:au P w K mg base (CXe P w) 6 M U ["self"] (nS C CN))(eh:Binds K U ["self"] []):
  au P w K mg base (CXe P w) 7 f fd ["heap","deed"] (lJ C CC CN):=by
 have sc:=sR;refine F.okEQ sR (fun vs H Q E h=>?_) (fun eS A outer s_ H vs Q E hr h=>?_)
 .obtain ⟨p,d,l,q,s,dd,rfl,_⟩:=h;rfl
 obtain ⟨p,d,l,q,s,dd,rfl,LA,LI,st,O,ej,kQ,kE⟩:=h;have hu:=hr.units0;refine ⟨_,(ac (aT (aw bA (aA aI (qv 1) ai pix) aq (aG _)) (aj (aD (aV (qv 0) L.cl eA eN hr.mo ez .nil (bq fun _ _ z=>z) (aa (aA aI (qv 1) ai pix) (aa (aA aI (qv 1) ai pix) ag))))) aE)
  (ac (aT (aw bA (aA aI (qv 1) ai pix) aq (aG _)) (aj (aD (aV (qv 0) L.cl ef ey hr.mo eb .nil (bq fun _ _ z=>z) (aa (aA aI (qv 1) ai pix) ag)))) aE)
  (ac (aT (aw bA (aA aI (qv 1) ai pix) aq (aG _)) (aj (aD (aV (qv 0) L.cl eo ei hr.mo ee .nil (bq fun _ _ z=>z) (aa (aA aI (qv 1) ai pix) (aa (aA aI (qv 1) ai pix) ag))))) aE)
  (ac (aT (aw bA (aA aI (qv 1) ai pix) aq (aG _)) (aj (aD (bg (qv 0) L.cl ek eg hr.mo ec .nil (bq fun _ _ z=>z)))) aE)
  (aj (aD (bg (qv 0) L.cl er ed hr.mo eh .nil (bq fun _ _ z=>z)))))))),?_⟩
 obtain ⟨dx,hp⟩:=LA.ob;have r1:=LI.len;have r2:=LI.tl;have nn:∀{n:Str},Gm.dget s.there n≠none->(Gm.dget s.there n).isSome=true:=fun {n} h=>by
  cases y:Gm.dget s.there n with
  | none=>exact absurd y h
  | some _=>rfl
 cases dd with
 | put n w =>
  refine ⟨_,_,SqT.of O,rfl,rfl,_,rfl,dW ?_⟩;refine ⟨p,dx,_,rfl,hp,lfn,_,_,SqT.of O,rfl,_,_,SqT.of O,rfl,p,d,l,s,n,w,rfl,LA,Dc,Dc,Dq ej Db,fun S Y I L3 k3 f3=>?_,fun cs=>kE cs⟩;refine kQ S _ Y I ?_ ?_ k3 f3
  .show LateAt C I p d Y (if (Gm.dget s.there n).isSome=true then (s,Ans.clash) else (Gm.putL slt s n w,Ans.non)).1;rw [S];exact L3
  .show uT I (if (Gm.dget s.there n).isSome=true then (s,Ans.clash) else (Gm.putL slt s n w,Ans.non)).2 _;rw [S];exact rfl
 | drop n =>
  refine ⟨_,_,SqT.of O,rfl,rfl,_,rfl,cn ?_⟩;refine ⟨_,_,SqT.of O,rfl,rfl,_,rfl,dW ?_⟩;refine ⟨p,dx,_,rfl,hp,lfn,_,_,SqT.of O,rfl,p,d,l,s,n,rfl,LA,Dc,Dc,Dq ej Db,fun S Y I L3 k3 f3=>?_,fun cs=>kE fun z=>z cs⟩;refine kQ S _ Y I ?_ ?_ k3 f3
  .show LateAt C I p d Y (if (Gm.dget s.there n).isSome=true then (Gm.dropL slt s n,Ans.non) else (s,Ans.nothing)).1;rw [Dm (nn S)];exact L3
  .show uT I (if (Gm.dget s.there n).isSome=true then (Gm.dropL slt s n,Ans.non) else (s,Ans.nothing)).2 _;rw [Dm (nn S)];exact rfl
 | change n w =>
  refine ⟨_,_,SqT.of O,rfl,rfl,_,rfl,cn ?_⟩;refine ⟨_,_,SqT.of O,rfl,rfl,_,rfl,cn ?_⟩;refine ⟨_,_,SqT.of O,rfl,rfl,_,rfl,dW ?_⟩;refine ⟨p,dx,_,rfl,hp,lfn,_,_,SqT.of O,rfl,_,_,SqT.of O,rfl,p,d,l,s,n,w,rfl,LA,Dc,Dc,Dq ej Db,fun S Y I L3 k3 f3=>?_,fun cs=>kE fun z=>z cs⟩;refine kQ S _ Y I ?_ ?_ k3 f3
  .show LateAt C I p d Y (if (Gm.dget s.there n).isSome=true then (Gm.putL slt s n w,Ans.non) else (s,Ans.nothing)).1;rw [Dm (nn S)];exact L3
  .show uT I (if (Gm.dget s.there n).isSome=true then (Gm.putL slt s n w,Ans.non) else (s,Ans.nothing)).2 _;rw [Dm (nn S)];exact rfl
 | take =>
  refine ⟨_,_,SqT.of O,rfl,rfl,_,rfl,cn ?_⟩;refine ⟨_,_,SqT.of O,rfl,rfl,_,rfl,cn ?_⟩;refine ⟨_,_,SqT.of O,rfl,rfl,_,rfl,cn ?_⟩;refine ⟨_,_,SqT.of O,rfl,rfl,_,rfl,dW ?_⟩;refine ⟨p,dx,_,rfl,hp,lfn,p,d,l,s,rfl,LA,LI,Dc,fun S q' Y I L3 ew k3 f3=>?_,fun cs=>kE fun z=>z cs⟩;refine kQ S _ Y I ?_ ?_ k3 f3
  .show LateAt C I p d Y (if s.there=[] then (s,Ans.nothing) else (Gm.takeL slt s,Ans.pair (_root_.L2.hd s).w (_root_.L2.hd s).n)).1;rw [Di S];exact L3
  .show uT I (if s.there=[] then (s,Ans.nothing) else (Gm.takeL slt s,Ans.pair (_root_.L2.hd s).w (_root_.L2.hd s).n)).2 _;rw [Di S];exact ⟨_,rfl,ew⟩
 | least =>
  refine ⟨_,_,SqT.of O,rfl,rfl,_,rfl,cn ?_⟩;refine ⟨_,_,SqT.of O,rfl,rfl,_,rfl,cn ?_⟩;refine ⟨_,_,SqT.of O,rfl,rfl,_,rfl,cn ?_⟩;refine ⟨_,_,SqT.of O,rfl,rfl,_,rfl,cn ?_⟩;refine ⟨p,dx,_,rfl,hp,lfn,p,d,l,s,rfl,LA,LI,Dc,fun S q' I L3 ew k3=>?_,fun cs=>kE fun z=>z cs⟩;refine kQ S _ l I ?_ ?_ k3 (.inl rfl)
  .show LateAt C I p d l (if s.there=[] then (s,Ans.nothing) else (Gm.leastL slt s,Ans.pair (_root_.L2.hd s).w (_root_.L2.hd s).n)).1;rw [Di S];exact L3
  .show uT I (if s.there=[] then (s,Ans.nothing) else (Gm.leastL slt s,Ans.pair (_root_.L2.hd s).w (_root_.L2.hd s).n)).2 _;rw [Di S];exact ⟨_,rfl,ew⟩
structure bV (C:Addr)(H:Hp)(p d e:Addr)(ks js:List (Key×V)):Prop where
 ob:∃ dx,H p=some (.ins C dx [("heaps",.ref d),("joined",.ref e)])
 hd:H d=some (.dK ks)
 hj:H e=some (.dK js)
theorem jx {α β:Type}{F:α->β->Prop}:∀{l:List α} {m:List β},Paired F l m->∀{i:Nat} {a:α} {b:β},l[i]?=some a->m[i]?=some b->F a b
 | _,_,.nil,_,_,_,h,_=>nomatch h
 | _,_,.cons f r,0,_,_,h,h'=>by cases h;cases h';exact f
 | _,_,.cons f r,i+1,_,_,h,h'=>jx r h h'
theorem bT {a b:V}(T:(x == ("heaps":Str))=false)(c:(x == ("joined":Str))=false):List.lookup x [("heaps",a),("joined",b)]=none:=by simp only [List.lookup,T,c]
theorem vV (h:SqT K H a xs)(k:Same H H'):SqT K H' a xs:=by
 rcases h with (h | h) | h
 .exact .inl (.inl (k _ _ h))
 .exact .inl (.inr (h.imp fun o e=>k _ _ e))
 exact .inr h
def Sml (T:List (Str×En)):Prop:=∀p∈prs T,p.1.natAbs<10 ^ 31/\p.2.length<=10
def oa (p:Int×Str):Str:=dX (.int p.1)++" "++p.2
def Bc:Ans->List V
 | .pair w n=>[.str (oa (w,n))]
 | _=>[]
theorem bj {i:Int}(h:i.natAbs<10 ^ 31):uc (.int i)/\(dX (.int i)).length<=700:=by refine ⟨.inl ⟨i,rfl,bI (EB h C9)⟩,?_⟩;exact Dq (cp (k:=31) Db h) Db
theorem vA {s:LS}(U:Gm.LInv slt s)(T:Sml s.there){k:Nat}{P ps:List Nat}(h:Fst s.row (Gm.holds s.there) k P ps){e:En}(R:e∈bf s.row (Gm.holds s.there) ps):e.w.natAbs<10 ^ 31/\e.n.length<=10:=by
 obtain ⟨S,O⟩:=D7.mp R;obtain ⟨i,hi,I⟩:=DG.mp S;have M:=h.inv.lt i (DE _ hi);have c:e∈s.row:=by rw [<-I,Hg.g_get M];exact Ee _
 exact T _ ((nT U).mem_iff.mp (DG.mpr ⟨e,D7.mpr ⟨c,O⟩,rfl⟩))
theorem mh {s:LS}(I:Gm.LInv slt s)(f:dd.fit s):(ay s dd).2=.non∨∃ w n,(ay s dd).2=.pair w n/\(w,n)∈prs s.there:=by
 have T:∀{n:Str},Gm.dget s.there n≠none->(Gm.dget s.there n).isSome=true:=fun {n} h=>by
  cases y:Gm.dget s.there n with
  | none=>exact absurd y h
  | some _=>rfl
 have c:s.there≠[]->((hd s).w,(hd s).n)∈prs s.there:=fun h=>by obtain ⟨p,O,e⟩:=DG.mp (m7 I h).mem;refine DG.mpr ⟨p,O,?_⟩;injection e with e1 e2;rw [<-e1,<-e2]
 cases dd with
 | put n w=>left;unfold ay;dsimp only;rw [f];rfl
 | drop n=>left;unfold ay;dsimp only;rw [Dm (T f)]
 | change n w=>left;unfold ay;dsimp only;rw [Dm (T f)]
 | take=>right;unfold ay;dsimp only;rw [Di f];exact ⟨_,_,rfl,c f⟩
 | least=>right;unfold ay;dsimp only;rw [Di f];exact ⟨_,_,rfl,c f⟩
def AnsC (CL CC CN:Addr)(H:Hp)(h hd hl:Addr)(s:LS)(j:Int)(x:Str)(rest:List V)(Q:VK)(E:XK):Prop :=
 (x="first"/\∃ k:Nat,rest=[.int k]/\∀D xs H',(∀every:List (Int×Str),every.Perm (prs s.there)->(every.Pairwise fun x y=>ltP y x=false)->xs=every.take k)->H' D=some (.lst (xs.map fun p=>V.str (oa p)))->Same H H'->H D=none->Q (.ref D) H') ∨
 (x="room"/\∀D H',H' D=some (.lst [.str (txt s.there.length++" "++txt s.row.length)])->Same H H'->H D=none->Q (.ref D) H') ∨
 (x="works"/\∀D H',H' D=some (.lst [.str (txt (s.looks+j))])->Same H H'->H D=none->Q (.ref D) H') ∨
 ∃ dd:Deed,dd.v=.str x::rest/\dd.ok/\(dd.fit s->∀D l' H',LateAt CL H' h hd l' (ay s dd).1->H' D=some (.lst (Bc (ay s dd).2))->Kept [h,hd,hl] H H'->Fr3 H hl l'->Q (.ref D) H')/\(¬ dd.fit s->∀H',Same H H'->E (.ref (xOf CC CN dd)) none H')
abbrev iF:Stmt:=a7 (top 31) 2
theorem oX:av ["self","word","name","rest","heap","thing"] ["self","word","name","rest"] (ak iF):=fs0
def oQ (K:W.Frag)(C CL CC CN:Addr):Sp:=fun vs H Q E=>∃ (p d e r h hd hl:Addr) (ks js:List (Key×V)) (x z:Str) (rest:List V) (s:LS) (j:Int),vs=[.ref p,.str x,.str z,.ref r]/\bV C H p d e ks js/\aU ks (Sum.inr z)=some (.ref h)/\aU js (Sum.inr z)=some (.int j) /\
 LateAt CL H h hd hl s/\Gm.LInv slt s/\s.stamp<=800/\Sml s.there/\((s.looks:Int)+j).natAbs<10 ^ 31/\SqT K H r rest/\AnsC CL CC CN H h hd hl s j x rest Q E
theorem ul {fs fc ef fm fr fw:Addr}{eS eo eb ez:FuncData}(F:Fun K "answer" "Desk.answer" iF f fd)(T:Bl mg)(L:DK K C)(LL:LT K CL)(ei:mg "str"=none)(ee:au P w K mg base CX0 5 fs fds ["heap","k"] (oF CL))(et:Nm K mg "firsts" fs fds ["heap","k"])(S:au P w K mg base (CXe P w) 7 fc eS ["heap","deed"] (lJ CL CC CN))(M:Nm K mg "carry_out" fc eS ["heap","deed"])(O:au P w K mg base CX0 1 ef eo ["pair"] (oj K))(I:Nm K mg "shown" ef eo ["pair"])(eh:bp K CL "many" fm)(er:au P w K mg base CX0 1 fm eb ["self"] (pD CL))(ec:Binds K eb ["self"] [])(eA:bp K CL "row" fr)(ej:au P w K mg base CX0 1 fr ez ["self"] (pv CL))(ew:Binds K ez ["self"] [])(W:bp K C "works_of" fw)(G:au P w K mg base CX0 2 fw fdw ["self","name"] (lV C CL))(Y:Binds K fdw ["self","name"] []):
  au P w K mg base (CXe P w) 8 f fd ["self","word","name","rest"] (oQ K C CL CC CN):=by
 have sc:=oX;refine F.okEQ oX (fun vs H Q E h=>?_) (fun eB A outer s_ H vs Q E hr h=>?_)
 .obtain ⟨p,d,e,r,h,hd,hl,ks,js,x,z,rest,s,j,rfl,_⟩:=h;rfl
 obtain ⟨p,d,e,r,h,hd,hl,ks,js,x,z,rest,s,j,rfl,DA,vh,vj,LA,LI,st,sm,lj,eg,cs⟩:=h;have hu:=hr.units0;refine ⟨_,(ac (qst 4 sc.nd (aJ (aO hr) (aY (qv 0) rfl) (qv 2) pix))
  (ac (aT (aw bA (qv 1) aq (aG _)) (aj (aD (di (Blk.of (N:=["self","word","name","rest","heap","thing"]) (esc:=ak iF) (NB:=[]) (cap:=[]) rfl rfl (fun y hy=>bH hy) rfl C9 C9 C9 rfl C9 rfl C9) rfl rfl (iS (aA aI (qcl ee hr et aB (aa (qv 4) (aa (aA aI (qv 3) ai pix) ag))) ai pix)) (fun C fp s₀ H₀=>dO) (fun C fp s₀ H₀=>(qcl O hr I aB (aa (qv 0) ag)))))) aE)
  (ac (aT (aw bA (qv 1) aq (aG _)) (aj (aD (bu (aa (qcl O hr I aB (aa (be (aa (bg (qv 4) LL.cl eh er hr.mo ec .nil aB) (aa (qcB aK T.z_len (aa (bg (qv 4) LL.cl eA ej hr.mo ew .nil aB) ag)) ag))) ag)) ag)))) aE)
  (ac (aT (aw bA (qv 1) aq (aG _)) (aj (aD (bu (aa (qcT bv ei (aa (aV (qv 0) L.cl W G hr.mo Y .nil aB (aa (qv 2) ag)) ag)) ag)))) aE)
  (ac (qst 5 sc.nd (qcl S hr M (bq fun _ _ z=>z) (aa (qv 4) (aa (ao rF (be (aa (qv 1) ag)) (qv 3)) ag))))
  (aj (aD (qG (aw qW (qv 5) eE (aG _)) (bu ag) (bu (aa (qcl O hr I aB (aa (qv 5) ag)) ag)))))))))),?_⟩;dsimp only [bM,Cx.nox]
 obtain ⟨⟨dx,hp⟩,kd,ke⟩:=DA;obtain ⟨hx,ho⟩:=LA.ob;have r1:=LI.len;have r2:=LI.tl;refine ⟨p,C,dx,_,_,rfl,hp,L.cl,L.hp,rfl,d,_,rfl,vh▸DGet.k (k:=Sum.inr z) kd,?_⟩;rcases cs with ⟨rfl,k,rfl,kQ⟩ | ⟨rfl,kQ⟩ | ⟨rfl,kQ⟩ | ⟨dd,ed,eC,kQ,kE⟩
 .refine ⟨rfl,_,rfl,dW ?_⟩;refine ⟨_,_,eg,rfl,h,hd,hl,s,k,rfl,LA,LI,Dc,fun o q1 zs P ps H1 ho ek wn fdn s1=>?_⟩;refine ⟨_,_,SqT.of ho,rfl,q1,rfl,⟨_,SqT.of ek⟩,fun D U=>?_⟩;have lz:zs.length=(bf s.row (Gm.holds s.there) ps).length:=EY wn;have l1:=mq (row:=s.row) (hold:=Gm.holds s.there) ps;have l2:=fdn.1.len;refine uu (K:=K) (a:=q1) (xs:=zs) (fun i ys H4=>H4 D=some (.lst ys)/\ys=(((bf s.row (Gm.holds s.there) ps).map pW).take i).map (fun p=>V.str (oa p))/\Same H1 H4) ⟨ad,rfl,ar U⟩ (fun i ys H4 z=>⟨z.1,SqT.of (z.2.2 _ _ ek)⟩) ?_ ?_
  .rintro i y ys H4 hi ⟨h4,ey,s4⟩;have eG:i<zs.length:=(Dz.mp hi).1;have el:i<(bf s.row (Gm.holds s.there) ps).length:=by lia
   obtain ⟨a,rfl,ha⟩:=jx wn hi (bt el);obtain ⟨b1,b2⟩:=vA LI sm fdn.1 (Ee el);obtain ⟨t1,t2⟩:=bj b1;have ly:ys.length<=i:=by rw [ey,Dg,Es];lia
   refine cY <| ⟨a,_,_,_,rfl,SqT.of (s4 _ _ ha),t1,.inr ⟨_,rfl⟩,t2,Dq b2 Db,h4,aZ Dc,_,Dc,rfl,Dc,ad,?_,fun b o h=>?_⟩
   .rw [ey,Ef,D4,DN,bt el];rfl
   .rw [af (am h U)];exact s4 b o h
  .rintro ys H4 ⟨h4,ey,s4⟩;rw [lz,Eu (G9 (Dg ..))] at ey;subst ey;exact kQ D _ H4 (fun every pe se=>(qP LI pe se fdn).1) h4 (s1.trans s4) (s1.free U)
 .refine ⟨rfl,_,rfl,cn ?_⟩;refine ⟨rfl,_,rfl,dW ?_⟩;obtain ⟨eW,eF,eH⟩:=LA.dc;refine ⟨h,hx,_,rfl,ho,lfn,h,hx,hd,_,eW,rfl,ho,cK,eF,?_⟩;refine ⟨h,hx,_,rfl,ho,lfn,h,hd,hl,s,rfl,LA,fun q xs H1 hq rr s1=>?_⟩;have lx:=rr.len;have lk:=eH.len;refine ⟨q,xs,rfl,.inr (SqT.of hq),sz2,fun t ht=>?_⟩;rw [lx,lk];have b1:((s.there.length:Nat):Int).natAbs<10 ^ 31:=DY (Dq Dc st) C9;have b2:((s.row.length:Nat):Int).natAbs<10 ^ 31:=DY (Dq Dc st) C9;refine gnew ht fun H2 s2 g2=>?_;refine ⟨t,_,_,_,rfl,SqT.of g2,(bj b1).1,(bj b2).1,(bj b1).2,(bj b2).2,sz1,fun D U=>?_⟩;exact kQ D _ ad ((s1.trans s2).trans (ar U)) ((s1.trans s2).free U)
 .refine ⟨rfl,_,rfl,cn ?_⟩;refine ⟨rfl,_,rfl,cn ?_⟩;refine ⟨rfl,_,rfl,dW ?_⟩;refine ⟨p,dx,_,rfl,hp,bT C9 C9,p,dx,d,e,h,hd,hl,_,ks,js,z,s,j,rfl,hp,rfl,rfl,kd,ke,vh,LA,vj,.inl ⟨_,rfl,bI (EB lj C9),?_⟩⟩;refine ⟨sz1,fun D U=>?_⟩;exact kQ D _ ad (ar U) U
 have nx:x≠"first"/\x≠"room"/\x≠"works":=by cases dd <;> (injection ed with e1 _;injection e1 with e1;rw [<-e1];decide +kernel)
 refine ⟨rfl,_,rfl,aS (fun c=>absurd (V.str.inj (Dp c)) nx.1) (fun _=>?_)⟩;refine ⟨rfl,_,rfl,aS (fun c=>absurd (V.str.inj (Dp c)) nx.2.1) (fun _=>?_)⟩;refine ⟨rfl,_,rfl,aS (fun c=>absurd (V.str.inj (Dp c)) nx.2.2) (fun _=>?_)⟩;have sz:=LA.notup;refine ⟨sz1,fun t ht=>?_⟩;refine gnew ht fun H1 s1 g1=>?_;have lr:rest.length<=2:=by
  have:=congrArg List.length ed;rw [Dw] at this;have q:dd.v.length<=3:=by cases dd <;> (simp only [Deed.v,Dw,EZ];lia)
  lia
 have eL:=vV eg s1;have eN:∀(t2:Addr) (H2:Hp),H2 t2=some (.tup (.str x::rest))->Same H H2->∀(R:V->Hp->Prop),(∀v J,(v=.non->∀D,J D=none->Q (.ref D) (upd J D (.lst [])))->(∀a w n,v=.ref a->J a=some (.tup [.int w,.str n])->w.natAbs<10 ^ 31->n.length<=10->∀D,J D=none->Q (.ref D) (upd J D (.lst [.str (oa (w,n))])))->(v=.non∨∃ a w n,v=.ref a/\J a=some (.tup [.int w,.str n])/\w.natAbs<10 ^ 31/\n.length<=10)->R v J)->lJ CL CC CN [.ref h,.ref t2] H2 R E:=fun t2 H2 g2 s2 R hR=>by
  refine ⟨h,hd,hl,t2,s,dd,rfl,LA.same s2,LI,st,by rw [g2,ed],eC,fun ft v l' J L3 a3 k3 f3=>?_,fun nf=>kE nf H2 s2⟩;have kk:Kept [h,hd,hl] H J:=fun b o e n=>k3 b o (s2 _ _ e) n;have fr:Fr3 H hl l':=f3.elim .inl fun z=>.inr (s2.free z);have go:∀(D:Addr) (ys:List V),J D=none->ys=Bc (ay s dd).2->Q (.ref D) (upd J D (.lst ys)):=fun D ys z e=>by refine kQ ft D l' _ (L3.same (ar z)) (by rw [ad,e]) (fun b o e n=>?_) fr;exact ar z b o (kk b o e n)
  rcases mh LI ft with ea | ⟨w',n',ea,mm⟩
  .rw [ea] at a3 go;refine hR v J (fun _ D z=>go D _ z rfl) (fun a w n e=>?_) (.inl a3);rw [show v=.non from a3] at e;cases e
  .rw [ea] at a3 go;obtain ⟨a,e,ha⟩:=a3;obtain ⟨m1,m2⟩:=sm _ mm;refine hR v J (fun q=>by rw [e] at q;cases q) (fun a' w n e' h' _ _ D z=>?_) (.inr ⟨a,w',n',e,ha,m1,m2⟩);rw [e] at e';cases e';rw [ha] at h';cases h';exact go D _ z rfl
 refine ⟨t,r,_,_,rfl,rfl,SqT.of g1,eL,by show 1+rest.length<=sizeLine;exact Dq Dc (show 3<=sizeLine by decide),(fun z=>nomatch z),fun _ e0=>?_,fun _ _ t2 eD=>?_⟩
 .refine eN t H1 (by rw [g1,e0]) s1 _ fun v J q1 q2 q3=>?_;rcases q3 with rfl | ⟨a,w,n,rfl,ha,m1,m2⟩
  .refine ⟨rfl,_,rfl,aS (fun _=>?_) (fun c=>absurd (Dk rfl) c)⟩;exact ⟨sz0,fun D U=>q1 rfl D U⟩
  .refine ⟨rfl,_,rfl,aS (fun c=>nomatch Dp c) (fun _=>?_)⟩;exact ⟨a,_,_,_,rfl,SqT.of ha,(bj m1).1,.inr ⟨_,rfl⟩,(bj m1).2,Dq m2 Db,sz1,fun D U=>q2 a w n rfl ha m1 m2 D U⟩
 refine eN t2 _ ad (s1.trans (ar eD)) _ fun v J q1 q2 q3=>?_;rcases q3 with rfl | ⟨a,w,n,rfl,ha,m1,m2⟩
 .refine ⟨rfl,_,rfl,aS (fun _=>?_) (fun c=>absurd (Dk rfl) c)⟩;exact ⟨sz0,fun D U=>q1 rfl D U⟩
 refine ⟨rfl,_,rfl,aS (fun c=>nomatch Dp c) (fun _=>?_)⟩;exact ⟨a,_,_,_,rfl,SqT.of ha,(bj m1).1,.inr ⟨_,rfl⟩,(bj m1).2,Dq m2 Db,sz1,fun D U=>q2 a w n rfl ha m1 m2 D U⟩
theorem cf {c:Addr}{x y:HO}(h:(upd (upd H a x) b y) c=none):H c=none:=by
 by_cases e:c=b
 .subst e;rw [ad] at h;cases h
 rw [af e] at h;by_cases T:c=a
 .subst T;rw [ad] at h;cases h
 rw [af T] at h;exact h
theorem LateAt.nin {dd l:Addr}{s:LS}(c:LateAt C H p dd l s){u:HO}(h:H b=some u)(U:∀C I fs,u=.ins C I fs->b≠p)(R:∀ks,u=.dK ks->b≠dd)(M:∀xs,u=.lst xs->b≠l):b∉[p,dd,l]:=fun z=>by
 obtain ⟨I,T⟩:=c.ob;obtain ⟨ks,S,_⟩:=c.dc;obtain ⟨xs,O,_⟩:=c.ls;simp only [ax,ah,Dv] at z;rcases z with rfl | rfl | rfl
 .rw [h] at T;cases T;exact U _ _ _ rfl rfl
 .rw [h] at S;cases S;exact R _ rfl rfl
 rw [h] at O;cases O;exact M _ rfl rfl
theorem LateAt.tk {dd l:Addr}{s:LS}(c:LateAt C H p dd l s)(k:Kept [p,dd,l] H H'):∀b zs,H b=some (.tup zs)->H' b=some (.tup zs):=fun b zs h=>k _ _ h (c.nin h (fun _ _ _ z=>nomatch z) (fun _ z=>nomatch z) (fun _ z=>nomatch z))
def Fw (F:List Addr)(H:Hp)(l':Addr):Prop:=∀b u,H b=some u->b∉F->b≠l'
theorem Fr3.fw {l c:Addr}(h:Fr3 H l c):Fw [p,d,l] H c:=fun b u e n z=>by
 rcases h with q | q
 .exact n (by rw [z,q];simp)
 rw [z,q] at e;cases e
structure bS (s t a b:LS):Prop where
 j:wg s t a b
 m:∃ ys:List Str,ys.Perm (t.there.map (·.1))/\ys.Pairwise (fun x y=>slt y x=false)/\(a,b)=mv (wG t.there) ys (s,t)
def F6 (p d l p2 d2 l2:Addr):List Addr:=[p,d,l,p2,d2,l2]
structure Two (C:Addr)(H:Hp)(p d l p2 d2 l2:Addr)(s t:LS):Prop where
 la:LateAt C H p d l s
 lb:LateAt C H p2 d2 l2 t
 np:p≠p2
 nd:d≠d2
 nm:l≠l2
section
variable {C p d l p2 d2 l2:Addr}{H H':Hp}{s t:LS}
theorem Two.swap (W:Two C H p d l p2 d2 l2 s t):Two C H p2 d2 l2 p d l t s:=⟨W.lb,W.la,W.np.symm,W.nd.symm,W.nm.symm⟩
theorem Two.same (W:Two C H p d l p2 d2 l2 s t)(k:Same H H'):Two C H' p d l p2 d2 l2 s t:=⟨W.la.same k,W.lb.same k,W.np,W.nd,W.nm⟩
theorem Two.act (W:Two C H p d l p2 d2 l2 s t){c:Addr}(R:LateAt C H' p d c s')(k:Kept [p,d,l] H H')(U:Fr3 H l c):Two C H' p d c p2 d2 l2 s' t:=by
 obtain ⟨F,S⟩:=W.lb.ob;obtain ⟨ks,I,_⟩:=W.lb.dc;obtain ⟨xs,O,_⟩:=W.lb.ls;have T:l2∉[p,d,l]:=W.la.nin O (fun _ _ _ z=>nomatch z) (fun _ z=>nomatch z) (fun _ _=>W.nm.symm);refine ⟨R,W.lb.stay (fun b o M e=>?_) (W.la.tk k),W.np,W.nd,(U.fw (p:=p) (d:=d) _ _ O T).symm⟩;rcases M with rfl | rfl | rfl
 .exact k _ _ e (W.la.nin S (fun _ _ _ _=>W.np.symm) (fun _ z=>nomatch z) (fun _ z=>nomatch z))
 .exact k _ _ e (W.la.nin I (fun _ _ _ z=>nomatch z) (fun _ _=>W.nd.symm) (fun _ z=>nomatch z))
 exact k _ _ e T
end
abbrev jg:Stmt:=top 22
theorem kJ:av ["greater","lesser","things","thing"] ["greater","lesser"] (ak jg):=fs0
def rm (C CC:Addr):Sp:=fun vs H Q E=>∃ (p d l p2 d2 l2:Addr) (s t:LS),vs=[.ref p,.ref p2]/\LateAt C H p d l s/\LateAt C H p2 d2 l2 t/\Gm.LInv slt s/\Gm.LInv slt t/\s.stamp<=400/\t.stamp<=400/\(t.there.length<64/\∀n∈t.there.map (·.1),n.length<=1000) /\
 (((∃ n∈t.there.map (·.1),Gm.dget s.there n≠none)/\∀H',Same H H'->E (.ref CC) none H')∨((t.there=[])/\∀H',Same H H'->Q (.ref p) H')∨((∀n∈t.there.map (·.1),Gm.dget s.there n=none)/\Two C H p d l p2 d2 l2 s t/\∀l' l2' s' t' H',bS s t s' t'->Two C H' p d l' p2 d2 l2' s' t'->Kept (F6 p d l p2 d2 l2) H H'->Fw (F6 p d l p2 d2 l2) H l'->Fw (F6 p d l p2 d2 l2) H l2'->Q (.ref p) H'))
theorem yq {Y c er ef:Addr}{S ee et:FuncData}(F:Fun K "with_all_of" "with_all_of" jg f fd)(T:Bl mg)(L:LT K C)(eh:bp K C "things" Y)(eo:au P w K mg base CX0 1 Y S ["self"] (oM C))(ei:Binds K S ["self"] [])(M:bp K C "need_free" c)(U:au P w K mg base (CXe P w) 1 c fdneed_free ["self","name"] (pN C CC))(R:Binds K fdneed_free ["self","name"] [])(ey:bp K C "drop" er)(ej:au P w K mg base (CXe P w) 5 er ee ["self","name"] (mz C CN))(eb:Binds K ee ["self","name"] [])(eF:bp K C "put" ef)(eH:au P w K mg base (CXe P w) 5 ef et ["self","name","worth"] (pK C CC))(eL:Binds K et ["self","name","worth"] []):au P w K mg base (CXe P w) 6 f fd ["greater","lesser"] (rm C CC):=by
 have sc:=kJ;refine F.okEQ kJ (fun vs H Q E h=>?_) (fun tc A outer s_ H vs Q E hr h=>?_)
 .obtain ⟨p,d,l,G,d2,l2,s,t,rfl,_⟩:=h;rfl
 obtain ⟨p,d,l,G,d2,l2,s,t,rfl,LA,LB,I,J,st,tt,ea,md⟩:=h;have hu:=hr.units0;refine ⟨_,(ac (qst 2 sc.nd (bg (qv 1) L.cl eh eo hr.mo ei .nil aB))
  (ac (cE Bj rfl (iS (qv 2)) (bQ (i:=3) sc.nd rfl (Or.inl rfl)) (aj (aH (aV (qv 0) L.cl M U hr.mo R .nil (bq fun _ _ z=>z) (aa (aA aI (qv 3) ai pix) ag)))))
  (QSs.nox (ac (cE D8 rfl (iS (qv 2)) (bQ (i:=3) sc.nd rfl (Or.inl rfl)) (ac (aH (aV (qv 1) L.cl ey ej hr.mo eb .nil dq (aa (aA aI (qv 3) ai pix) ag)))
  (aj (aH (aV (qv 0) L.cl eF eH hr.mo eL .nil dq (aa (aA aI (qv 3) ai pix) (aa (aA aI (qv 3) ai pix) ag)))))))
  (aj (aD (qv 0))))))),?_⟩
 obtain ⟨ez,eS⟩:=LB.ob;obtain ⟨e6,tn,eA⟩:=LB.dc;have ts:=J.tl;have tv:=I.tl;have th:=I.len;have tr:=J.len;refine ⟨G,ez,_,rfl,eS,lfn,G,ez,d2,_,e6,t.there,rfl,eS,cK,tn,eA,by rw [eA.len];exact ea.1,fun q zs ys H1 pm srt hq pr s1=>?_⟩;have nd:ys.Nodup:=pm.nodup_iff.mpr J.nd;have eZ:ys.length=t.there.length:=by rw [pm.length_eq,Dg]
 have eg:zs.length=ys.length:=by have:=EY pr;rw [Dg] at this;exact this
 have eW:∀(H2:Hp),(∀b l,H1 b=some (.tup l)->H2 b=some (.tup l))->∀i x,zs[i]?=some x->∃ (n:Str) (a1:Addr) (hi:i<ys.length),n=ys[i]/\x=.ref a1/\H2 a1=some (.tup [.str n,.int (wG t.there n)]):=fun H2 k2 i x hx=>by
  obtain ⟨tl,e2,a1,e3,e4⟩:=uJ pr hx;rw [DN] at e2;cases e:ys[i]? with
  | none=>rw [e] at e2;cases e2
  | some n =>
   rw [e] at e2;cases e2;obtain ⟨hi,en⟩:=Dz.mp e;exact ⟨n,a1,hi,en.symm,e3,k2 _ _ e4⟩
 refine ⟨q,rfl,⟨_,SqT.of hq⟩,?_⟩;refine gI (K:=K) (a:=q) (xs:=zs) (fun i Z H2=>∃ o,Z=[some (.ref p),some (.ref G),some (.ref q),o]/\H2=H1/\∀n∈ys.take i,Gm.dget s.there n=none) ⟨none,rfl,rfl,(fun n hn=>by rw [IP] at hn;cases hn)⟩ (fun i Z H2 _ h'=>by obtain ⟨_,_,z,_⟩:=h';rw [z];exact SqT.of hq) ?_ ?_
 .rintro i x Z H2 hx ⟨o,rfl,rfl,free⟩;obtain ⟨n,a1,hi,en,rfl,el⟩:=eW H2 (fun _ _ e=>e) i x hx;obtain ⟨dx,hp⟩:=(LA.same s1).ob;obtain ⟨ks,hd,kr⟩:=(LA.same s1).dc;have hn:n∈ys:=by rw [en];exact Ee hi
  have ed:=pm.mem_iff.mp hn;have nl:=ea.2 n ed;refine ⟨p,dx,_,rfl,hp,lfn,_,_,SqT.of el,rfl,p,dx,d,_,ks,n,rfl,hp,cK,hd,nl,fun fr=>?_,fun fr=>?_⟩
  .refine ⟨_,rfl,rfl,fun m hm=>?_⟩;rw [Ef,bt hi,<-en] at hm;rcases Du.mp hm with z | z
   .exact free m z
   .rw [De z];rcases kr.get n with ⟨_,e2⟩ | ⟨b,e',e1,_,_⟩
    .exact e2
    .rw [e1] at fr;cases fr
  .rcases md with ⟨_,kE⟩ | ⟨z,_⟩ | ⟨ek,_⟩
   .exact kE _ s1
   .rw [z] at ed;cases ed
   .rcases kr.get n with ⟨e1,_⟩ | ⟨b,e',_,e2,_⟩
    .rw [e1] at fr;cases fr
    .rw [ek n ed] at e2;cases e2
 rintro Z H2 ⟨o,rfl,rfl,free⟩;rw [eg,D9] at free;rcases md with ⟨⟨n,hn,no⟩,_⟩ | ⟨z,k⟩ | ⟨ec,W,k⟩
 .exact absurd (free n (pm.mem_iff.mpr hn)) no
 .-- nothing is there
  have z0:zs=[]:=DL.mp (by rw [eg,eZ,z];rfl);subst z0;refine ⟨q,rfl,⟨_,SqT.of hq⟩,?_⟩;refine gI (K:=K) (a:=q) (xs:=[]) (fun i Z H3=>Z=[some (.ref p),some (.ref G),some (.ref q),o]/\H3=H2) ⟨rfl,rfl⟩ (fun i Z H3 _ ⟨_,z⟩=>by rw [z];exact SqT.of hq) (fun i x Z H3 hx=>nomatch hx) ?_;rintro Z H3 ⟨rfl,rfl⟩;exact (k _ s1)
 have W1:=W.same s1;have ek:∀n∈t.there.map (·.1),Gm.dget s.there n=none/\n.length<=1000:=fun n hn=>⟨ec n hn,ea.2 n hn⟩;have ew:∀n∈ys,Gm.dget s.there n=none:=fun n h=>ec n (pm.mem_iff.mp h);refine ⟨q,rfl,⟨_,SqT.of hq⟩,?_⟩;refine gI (K:=K) (a:=q) (xs:=zs) (fun i Z H3=>∃ (o:Option V) (lA lB:Addr) (sA sB:LS),Z=[some (.ref p),some (.ref G),some (.ref q),o]/\Jn s t ys i sA sB/\(sA,sB)=mv (wG t.there) (ys.take i) (s,t)/\Two C H3 p d lA G d2 lB sA sB/\(∀b l,H2 b=some (.tup l)->H3 b=some (.tup l))/\Kept (F6 p d l G d2 l2) H H3/\Fw (F6 p d l G d2 l2) H lA/\Fw (F6 p d l G d2 l2) H lB)
  ⟨_,l,l2,s,t,rfl,Jn.start I J pm,rfl,W1,(fun _ _ e=>e),Kept.of_same s1,(fun b u _ n z=>n (by rw [z];simp [F6])),(fun b u _ n z=>n (by rw [z];simp [F6]))⟩ (fun i Z H3 _ h'=>by obtain ⟨_,_,_,_,_,_,_,_,_,z,_⟩:=h';exact SqT.of (z _ _ hq)) ?_ ?_
 .rintro i x Z H3 hx ⟨o,lA,lB,sA,sB,rfl,O,em,W3,t3,k3,fA,fB⟩;obtain ⟨n,a1,hi,en,rfl,el⟩:=eW H3 t3 i x hx;obtain ⟨b1,a0,eN⟩:=O.next hi nd pm ew
  rw [<-en] at b1 a0 eN;have hn:n∈ys:=by rw [en];exact Ee hi
  have nl:=(ek n (pm.mem_iff.mp hn)).2;have q1:=O.ia.len;have q2:=O.ib.len;have q3:=O.ia.tl;have q4:=O.ib.tl;have q5:=O.st;have q6:=O.sb;obtain ⟨e0,ti⟩:=W3.lb.ob;refine ⟨G,e0,_,rfl,ti,lfn,_,_,SqT.of el,rfl,G,d2,lB,sB,n,rfl,W3.lb,Dc,Dc,nl,⟨fun _ eB H4 e5 k4 f4=>?_,fun z=>by rw [z] at b1;cases b1⟩⟩;have W4:=(W3.swap.act e5 k4 f4).swap;have t4:=W3.lb.tk k4;have eC:=t4 _ _ el;obtain ⟨e7,e9⟩:=W4.la.ob;refine ⟨p,e7,_,rfl,e9,lfn,_,_,SqT.of eC,rfl,_,_,SqT.of eC,rfl,p,d,lA,sA,n,wG t.there n,rfl,W4.la,Dc,Dc,nl,⟨fun _ eG H5 e8 k5 f5=>?_,fun z=>absurd (by cases e:Gm.dget sA.there n with | none=>rfl | some x=>rw [e] at a0;cases a0) z⟩⟩;have W5:=W4.act e8 k5 f5;have m1:∀b u,H b=some u->b∉F6 p d l G d2 l2->b∉[G,d2,lB]:=fun b u e n z=>by
   simp only [F6,ax,ah,Dv,Fv] at n;simp only [ax,ah,Dv] at z;rcases z with z | z | z
   .exact n.2.2.2.1 z
   .exact n.2.2.2.2.1 z
   .exact fB b u e (by simp only [F6,ax,ah,Dv,Fv];exact n) z
  have m2:∀b u,H b=some u->b∉F6 p d l G d2 l2->b∉[p,d,lA]:=fun b u e n z=>by
   simp only [F6,ax,ah,Dv,Fv] at n;simp only [ax,ah,Dv] at z;rcases z with z | z | z
   .exact n.1 z
   .exact n.2.1 z
   .exact fA b u e (by simp only [F6,ax,ah,Dv,Fv];exact n) z
  have eD:∀b u,H b=some u->b∉F6 p d l G d2 l2->H4 b=some u:=fun b u e n=>k4 b u (k3 b u e n) (m1 b u e n);exact ⟨_,eG,eB,_,_,rfl,eN,(by rw [Ef,bt hi,<-en];show _=mv _ (_++[n]) _;rw [lP,<-em]),W5,(fun b l e=>W4.la.tk k5 _ _ (t4 _ _ (t3 _ _ e))),fun b u e n=>k5 b u (eD b u e n) (m2 b u e n),fun b u e n=>f5.fw (p:=p) (d:=d) b u (eD b u e n) (m2 b u e n),fun b u e n=>f4.fw (p:=G) (d:=d2) b u (k3 b u e n) (m1 b u e n)⟩
 rintro Z H3 ⟨o,lA,lB,sA,sB,rfl,O,em,W3,t3,k3,fA,fB⟩;rw [eg] at O em;rw [D9] at em;exact (k lA lB sA sB H3 ⟨O.done I J pm ew,ys,pm,srt,em⟩ W3 k3 fA fB)
abbrev mI:Stmt:=top 21
theorem nP:av ["one","other"] ["one","other"] (ak mI):=fs0
def jT (C CC:Addr):Sp:=fun vs H Q E=>∃ (p d l p2 d2 l2:Addr) (s t:LS),vs=[.ref p,.ref p2]/\LateAt C H p d l s/\LateAt C H p2 d2 l2 t/\Gm.LInv slt s/\Gm.LInv slt t/\s.stamp<=400/\t.stamp<=400/\(t.there.length<64/\∀n∈t.there.map (·.1),n.length<=1000)/\(s.there.length<64/\∀n∈s.there.map (·.1),n.length<=1000) /\
 (((∃ n,n∈s.there.map (·.1)/\n∈t.there.map (·.1))/\∀H',Same H H'->E (.ref CC) none H')∨((s.there=[]/\t.there=[])/\∀H',Same H H'->Q (.ref p) H')∨((∀n,n∈s.there.map (·.1)->n∈t.there.map (·.1)->False)/\Two C H p d l p2 d2 l2 s t/\∀l' l2' s' t' H' (b:Bool),b=decide (s.there.length<t.there.length)->(b=true->bS t s t' s')->(b=false->bS s t s' t')->Two C H' p d l' p2 d2 l2' s' t'->Kept (F6 p d l p2 d2 l2) H H'->Fw (F6 p d l p2 d2 l2) H l'->Fw (F6 p d l p2 d2 l2) H l2'->Q (.ref (cond b p2 p)) H'))
theorem lS {l T d2 c:Addr}:b∉F6 p d l T d2 c->b∉F6 T d2 c p d l:=fun h z=>h (by
 simp only [F6,ax,ah,Dv] at z ⊢;rcases z with z | z | z | z | z | z
 .exact .inr (.inr (.inr (.inl z)))
 .exact .inr (.inr (.inr (.inr (.inl z))))
 .exact .inr (.inr (.inr (.inr (.inr z))))
 .exact .inl z
 .exact .inr (.inl z)
 exact .inr (.inr (.inl z)))
theorem qU {M fw:Addr}{R:FuncData}(F:Fun K "put_together" "put_together" mI f fd)(T:Bl mg)(L:LT K C)(U:bp K C "many" M)(G:au P w K mg base CX0 1 M R ["self"] (pD C))(Y:Binds K R ["self"] [])(O:au P w K mg base (CXe P w) 6 fw fdw ["greater","lesser"] (rm C CC))(S:Nm K mg "with_all_of" fw fdw ["greater","lesser"]):au P w K mg base (CXe P w) 7 f fd ["one","other"] (jT C CC):=by
 have sc:=nP;refine F.okEQ nP (fun vs H Q E h=>?_) (fun ed A outer s_ H vs Q E hr h=>?_)
 .obtain ⟨p,d,l,p2,d2,l2,s,t,rfl,_⟩:=h;rfl
 obtain ⟨p,d,l,p2,d2,l2,s,t,rfl,LA,LB,I,J,st,tt,n1,n2,md⟩:=h;have hu:=hr.units0;refine ⟨_,(ac (aT (aw dI (bg (qv 0) L.cl U G hr.mo Y .nil aB) (bg (qv 1) L.cl U G hr.mo Y .nil aB) (aG _)) (aj (aD (qcl O hr S (bq fun _ _ z=>z) (aa (qv 1) (aa (qv 0) ag))))) aE)
  (aj (aD (qcl O hr S (bq fun _ _ z=>z) (aa (qv 0) (aa (qv 1) ag)))))),?_⟩
 obtain ⟨dx,hp⟩:=LA.ob;obtain ⟨ks,hd,kr⟩:=LA.dc;obtain ⟨eo,ei⟩:=LB.ob;obtain ⟨ee,er,eh⟩:=LB.dc;have e1:=kr.len;have e2:=eh.len;have ex:∀{a b:LS} {n:Str},n∈a.there.map (·.1)->Gm.dget a.there n≠none:=fun h z=>Gm.dget_none.mp z h;refine ⟨p,dx,_,rfl,hp,lfn,p,dx,d,_,ks,rfl,hp,cK,hd,p2,eo,_,rfl,ei,lfn,p2,eo,d2,_,ee,rfl,ei,cK,er,_,rfl,aS (fun c=>?_) (fun c=>?_)⟩
 .have c':(ks.length:Int)<ee.length:=Dp c;refine ⟨p2,d2,l2,p,d,l,t,s,rfl,LB,LA,J,I,tt,st,n2,?_⟩;rcases md with ⟨⟨n,a,b⟩,k⟩ | ⟨⟨z,z2⟩,k⟩ | ⟨ea,W,k⟩
  .exact .inl ⟨⟨n,a,fun z=>Gm.dget_none.mp z b⟩,k⟩
  .rw [z2] at e2;have:ee.length=0:=e2;lia
  .exact .inr (.inr ⟨fun n hn=>Gm.dget_none.mpr fun z=>ea n hn z,W.swap,fun et l' t' s' H' j W' kk f2 f1=>k l' et s' t' H' true (Dk Dc).symm (fun _=>j) (fun z=>nomatch z) W'.swap (fun b u e n=>kk b u e (lS n)) (fun b u e n=>f1 b u e (lS n)) (fun b u e n=>f2 b u e (lS n))⟩)
 have c':¬ (ks.length:Int)<ee.length:=fun z=>c (Dk z);refine ⟨p,d,l,p2,d2,l2,s,t,rfl,LA,LB,I,J,st,tt,n1,?_⟩;rcases md with ⟨⟨n,a,b⟩,k⟩ | ⟨⟨z,z2⟩,k⟩ | ⟨ea,W,k⟩
 .exact .inl ⟨⟨n,b,fun z=>Gm.dget_none.mp z a⟩,k⟩
 .exact .inr (.inl ⟨z2,k⟩)
 exact .inr (.inr ⟨fun n hn=>Gm.dget_none.mpr fun z=>ea n z hn,W,fun l' et s' t' H' j W' kk f1 f2=>k l' et s' t' H' false (DF Dc).symm (fun z=>nomatch z) (fun _=>j) W' kk f1 f2⟩)
theorem fD {O:Addr}{x y:HO}(I:H p=none)(c:H O=none)(k:Kept [p] (upd (upd H O x) p y) H'):Same H H':=fun b o e=>by have T:b≠p:=am e I;refine k b o ?_ (fun z=>T (De z));rw [af T,af (am e c)];exact e
abbrev qk:Stmt:=a7 (top 31) 5
theorem sf:av ["self","name","second","one","other","comes","left","works"] ["self","name","second"] (ak qk):=fs0
structure iE (C CL:Addr)(H H':Hp)(p d e:Addr)(ks js:List (Key×V))(z1 z2:Str)(g gd gl:Addr)(G:LS)(h hd hl:Addr)(sl j:Int)(F:List Addr):Prop where
 la:LateAt CL H' g gd gl G
 lb:LateAt CL H' h hd hl (Gm.newL sl)
 da:bV C H' p d e (aQ (aQ ks (Sum.inr z1) (.ref g)) (Sum.inr z2) (.ref h)) (aQ (aQ js (Sum.inr z1) (.int j)) (Sum.inr z2) (.int 0))
 fg:Fw ([d,e]++F) H gl/\gl≠d/\gl≠e
 fn:∀x∈[h,hd,hl],Fw ([d,e]++F) H x/\x∉[d,e,g,gd,gl]
def lH (C CL CC:Addr):Sp:=fun vs H Q E=>∃ (p d e p1 d1 l1 p2 d2 l2:Addr) (ks js:List (Key×V)) (z1 z2:Str) (s t:LS) (j1 j2:Int),vs=[.ref p,.str z1,.str z2]/\bV C H p d e ks js/\aU ks (Sum.inr z1)=some (.ref p1)/\aU ks (Sum.inr z2)=some (.ref p2)/\aU js (Sum.inr z1)=some (.int j1)/\aU js (Sum.inr z2)=some (.int j2) /\
 Two CL H p1 d1 l1 p2 d2 l2 s t/\Gm.LInv slt s/\Gm.LInv slt t/\s.stamp<=400/\t.stamp<=400/\(t.there.length<64/\∀n∈t.there.map (·.1),n.length<=1000)/\(s.there.length<64/\∀n∈s.there.map (·.1),n.length<=1000)/\d≠e/\ks.length<900/\js.length<900/\(∀a∈[p,d,e],a∉F6 p1 d1 l1 p2 d2 l2) /\
 ((∃ n,n∈s.there.map (·.1)/\n∈t.there.map (·.1))->∀H',Same H H'->E (.ref CC) none H') /\
 ((∀n,n∈s.there.map (·.1)->n∈t.there.map (·.1)->False)->∀(l1' l2':Addr) (s' t':LS) (b:Bool) (h hd hl:Addr) (H':Hp),b=decide (s.there.length<t.there.length)->(b=true->bS t s t' s')->(b=false->bS s t s' t') ->
  iE C CL H H' p d e ks js z1 z2 (cond b p2 p1) (cond b d2 d1) (cond b l2' l1') (cond b t' s') h hd hl (cond b s' t').slack ((s'.looks+j1)+(t'.looks+j2)-(cond b t' s').looks) (F6 p1 d1 l1 p2 d2 l2)->Kept ([d,e]++F6 p1 d1 l1 p2 d2 l2) H H'->Q .non H')
theorem xl {fw e3 fs fI fp:Addr}{eS e2:FuncData}(F:Fun K "bring_together" "Desk.bring_together" qk f fd)(T:Bl mg)(L:DK K C)(LL:LT K CL)(eL:PySem.W.subIn K (.ref CL) (.type "object")=some true)(e1:PySem.W.findIn K (.ref CL) "__eq__"=some (some (.builtin "object.__eq__")))(e0:mg "Late"=some (.ref CL))(eA:Mk K CL fI)(eo:au P w K mg base CX0 2 fI fdI ["self","slack"] (mF CL))(eh:Binds K fdI ["self","slack"] [])(eB:bp K CL "work" e3)(eZ:au P w K mg base CX0 1 e3 eS ["self"] (mK CL))(eD:Binds K eS ["self"] [])(G:bp K C "works_of" fw)(Y:au P w K mg base CX0 2 fw fdw ["self","name"] (lV C CL))(ee:Binds K fdw ["self","name"] [])(ez:bp K C "stand" fs)(ej:au P w K mg base CX0 1 fs fds ["self","name","heap","joined"] (kZ C))(ek:Binds K fds ["self","name","heap","joined"] [])(ei:au P w K mg base (CXe P w) 7 fp e2 ["one","other"] (jT CL CC))(et:Nm K mg "put_together" fp e2 ["one","other"]):
  au P w K mg base (CXe P w) 8 f fd ["self","name","second"] (lH C CL CC):=by
 have sc:=sf;refine F.okEQ sf (fun vs H Q E h=>?_) (fun e7 A outer s_ H vs Q E hr h=>?_)
 .obtain ⟨p,d,e,p1,d1,l1,p2,d2,l2,ks,js,S,z2,s,t,j1,j2,rfl,_⟩:=h;rfl
 obtain ⟨p,d,e,p1,d1,l1,p2,d2,l2,ks,js,S,z2,s,t,j1,j2,rfl,DA,v1,v2,u1,u2,W,I,J,st,tt,nt,ns,eg,lk,lj,off,kE,kQ⟩:=h;have hu:=hr.units0;refine ⟨_,(ac (qst 3 sc.nd (aJ (aO hr) (aY (qv 0) rfl) (qv 1) pix))
  (ac (qst 4 sc.nd (aJ (aO hr) (aY (qv 0) rfl) (qv 2) pix))
  (ac (qst 5 sc.nd (qcl ei hr et (bq fun _ _ z=>z) (aa (qv 3) (aa (qv 4) ag))))
  (ac (qst 6 sc.nd (qG (aw (zj hu eL e1) (qv 5) (qv 3) (aG _)) (qv 4) (qv 3)))
  (ac (qst 7 sc.nd (ao aN (aV (qv 0) L.cl G Y hr.mo ee .nil aB (aa (qv 1) ag)) (aV (qv 0) L.cl G Y hr.mo ee .nil aB (aa (qv 2) ag))))
  (ac (aH (aV (qv 0) L.cl ez ej hr.mo ek .nil aB (aa (qv 1) (aa (qv 5) (aa (ao cb (qv 7) (bg (qv 5) LL.cl eB eZ hr.mo eD .nil aB)) ag)))))
  (aj (aH (aV (qv 0) L.cl ez ej hr.mo ek .nil aB (aa (qv 2) (aa (tQ eA eo hr.mo rfl e0 eh .nil aB (aa (aY (qv 6) rfl) ag)) (aa ai ag)))))))))))),?_⟩;dsimp only [bM,Cx.nox]
 obtain ⟨dx,hp⟩:=DA.ob;refine ⟨p,C,dx,_,_,rfl,hp,L.cl,L.hp,rfl,d,_,rfl,v1▸DGet.k (k:=Sum.inr S) DA.hd,?_⟩;refine ⟨p,C,dx,_,_,rfl,hp,L.cl,L.hp,rfl,d,_,rfl,v2▸DGet.k (k:=Sum.inr z2) DA.hd,?_⟩;refine ⟨p1,d1,l1,p2,d2,l2,s,t,rfl,W.la,W.lb,I,J,st,tt,nt,ns,?_⟩;by_cases cm:∃ n,n∈s.there.map (·.1)/\n∈t.there.map (·.1)
 .exact .inl ⟨cm,kE cm⟩
 have eF:∀n,n∈s.there.map (·.1)->n∈t.there.map (·.1)->False:=fun n a b=>cm ⟨n,a,b⟩;refine .inr (.inr ⟨eF,W,fun er ed s' t' H1 b eb jt jf W1 k1 f1 f2=>?_⟩);obtain ⟨e6,h1⟩:=W1.la.ob;obtain ⟨e5,h2⟩:=W1.lb.ob;have npd:p≠d:=fun y=>by rw [y,DA.hd] at hp;cases hp
 have eC:p≠e:=fun y=>by rw [y,DA.hj] at hp;cases hp
 have U:=k1 _ _ hp (off _ Dd);have ey:=k1 _ _ DA.hd (off _ Dd);have ew:=k1 _ _ DA.hj (off _ Dd);have apart:∀x,x∈F6 p1 d1 l1 p2 d2 l2∨x=er∨x=ed->x≠d/\x≠e:=fun x hx=>by
  have nd:∀y u,H y=some u->y∈[p,d,e]->x≠y:=fun y u hy my w=>by
   rcases hx with v | v | v
   .exact off y my (by rw [<-w];exact v)
   .exact f1 y u hy (off y my) (by rw [<-w,v])
   .exact f2 y u hy (off y my) (by rw [<-w,v])
  exact ⟨nd d _ DA.hd Dd,nd e _ DA.hj Dd⟩
 have eN:∀(g:Addr) (j:Int),Kept [d,e] H1 (upd (upd H1 d (.dK (aQ ks (Sum.inr S) (.ref g)))) e (.dK (aQ js (Sum.inr S) (.int j))))/\(upd (upd H1 d (.dK (aQ ks (Sum.inr S) (.ref g)))) e (.dK (aQ js (Sum.inr S) (.int j)))) p=some (.ins C dx [("heaps",.ref d),("joined",.ref e)])/\(upd (upd H1 d (.dK (aQ ks (Sum.inr S) (.ref g)))) e (.dK (aQ js (Sum.inr S) (.int j)))) d=some (.dK (aQ ks (Sum.inr S) (.ref g)))/\(upd (upd H1 d (.dK (aQ ks (Sum.inr S) (.ref g)))) e (.dK (aQ js (Sum.inr S) (.int j)))) e=some (.dK (aQ js (Sum.inr S) (.int j))) /\
   LateAt CL (upd (upd H1 d (.dK (aQ ks (Sum.inr S) (.ref g)))) e (.dK (aQ js (Sum.inr S) (.int j)))) p1 d1 er s'/\LateAt CL (upd (upd H1 d (.dK (aQ ks (Sum.inr S) (.ref g)))) e (.dK (aQ js (Sum.inr S) (.int j)))) p2 d2 ed t':=fun g j=>by
  have kp:Kept [d,e] H1 (upd (upd H1 d (.dK (aQ ks (Sum.inr S) (.ref g)))) e (.dK (aQ js (Sum.inr S) (.int j)))):=fun b u q n=>by simp only [ax,ah,Dv,Fv] at n;rw [af n.2,af n.1];exact q
  have tk:∀b l,H1 b=some (.tup l)->(upd (upd H1 d (.dK (aQ ks (Sum.inr S) (.ref g)))) e (.dK (aQ js (Sum.inr S) (.int j)))) b=some (.tup l):=fun b l q=>by rw [af (aL q ew nqz),af (aL q ey nqz)];exact q
  have nf:∀x o,x∈F6 p1 d1 l1 p2 d2 l2∨x=er∨x=ed->H1 x=some o->(upd (upd H1 d (.dK (aQ ks (Sum.inr S) (.ref g)))) e (.dK (aQ js (Sum.inr S) (.int j)))) x=some o:=fun x o hx q=>by exact kp x o q (by simp only [ax,ah,Dv,Fv];exact apart x hx)
  refine ⟨kp,by rw [af eC,af npd];exact U,by rw [af eg];exact ad,ad,W1.la.stay (fun b o hb q=>nf b o ?_ q) tk,W1.lb.stay (fun b o hb q=>nf b o ?_ q) tk⟩
  .rcases hb with y | y | y <;> rw [y]
   .exact .inl (by simp [F6])
   .exact .inl (by simp [F6])
   .exact .inr (.inl rfl)
  .rcases hb with y | y | y <;> rw [y]
   .exact .inl (by simp [F6])
   .exact .inl (by simp [F6])
   .exact .inr (.inr rfl)
 cases b
 .-- the second one is the lesser
  refine ⟨p1,p1,_,_,_,_,rfl,rfl,h1,h1,_,rfl,aS (fun _=>?_) (fun c=>absurd (Dk rfl) c)⟩;refine (?_);refine ⟨p,dx,_,rfl,U,bT C9 C9,p,dx,d,e,p1,d1,er,_,ks,js,S,s',j1,rfl,U,rfl,rfl,ey,ew,v1,W1.la,u1,?_⟩;refine ⟨p,dx,_,rfl,U,bT C9 C9,p,dx,d,e,p2,d2,ed,_,ks,js,z2,t',j2,rfl,U,rfl,rfl,ey,ew,v2,W1.lb,u2,?_⟩;refine ⟨p,dx,_,rfl,U,bT C9 C9,p1,e6,_,rfl,h1,lfn,p1,d1,er,s',rfl,W1.la,p,dx,d,e,p1,_,ks,js,S,_,rfl,U,rfl,rfl,ey,ew,eg,npd.symm,Dc,Dc,?_⟩;have eG:=eN p1 ((s'.looks+j1)+(t'.looks+j2)-s'.looks);obtain ⟨ef,R,M,ea,ec,el⟩:=eG;generalize upd (upd H1 d (.dK (aQ ks (Sum.inr S) (.ref p1)))) e (.dK (aQ js (Sum.inr S) (.int ((s'.looks+j1)+(t'.looks+j2)-s'.looks))))=H2 at ef R M ea ec el ⊢;obtain ⟨eW,hq⟩:=el.ob;refine ⟨p,dx,_,rfl,R,bT C9 C9,p2,CL,eW,_,_,rfl,hq,LL.cl,LL.sk,xM,fun h hx fh fx e4=>⟨h,hx,t'.slack,rfl,ad,fun hd hl H3 fd fl L3 k3=>⟨rfl,?_⟩⟩⟩;have s3:Same H2 H3:=fD fh fx k3;refine ⟨p,dx,d,e,h,_,_,_,z2,0,rfl,s3 _ _ R,rfl,rfl,s3 _ _ M,s3 _ _ ea,eg,npd.symm,DY (bd _ _ _) Dc,DY (bd _ _ _) Dc,?_⟩;have O:∀x y u,H2 y=some u->(x=h∨x=hd∨x=hl)->x≠y:=fun x y u q m w=>by
   rcases m with v | v | v
   .rw [<-w,v,fh] at q;cases q
   .rw [<-w,v,cf fd] at q;cases q
   .rw [<-w,v,cf fl] at q;cases q
  have tk:∀b l,H3 b=some (.tup l)->b≠d/\b≠e:=fun b l q=>⟨aL q (s3 _ _ M) nqz,aL q (s3 _ _ ea) nqz⟩;have fn:∀x∈[h,hd,hl],Fw ([d,e]++F6 p1 d1 l1 p2 d2 l2) H x/\x∉[d,e,p1,d1,er]:=fun x eH=>by
   have mx:x=h∨x=hd∨x=hl:=by simpa only [ax,ah,Dv] using eH
   obtain ⟨_,w1⟩:=ec.ob;obtain ⟨_,w2,_⟩:=ec.dc;obtain ⟨_,w3,_⟩:=ec.ls;refine ⟨fun b u q n=>?_,?_⟩
   .rw [Du,Fv] at n;exact (O x b u (ef _ _ (k1 _ _ q n.2) n.1) mx).symm
   .simp only [ax,ah,Dv,Fv];exact ⟨O x d _ M mx,O x e _ ea mx,O x _ _ w1 mx,O x _ _ w2 mx,O x _ _ w3 mx⟩
  refine kQ eF er ed s' t' false h hd hl _ eb jt jf ⟨(ec.same s3).stay (fun b o hb q=>?_) (fun b l q=>by rw [af (tk b l q).2,af (tk b l q).1];exact q),L3.stay (fun b o hb q=>?_) (fun b l q=>by rw [af (tk b l q).2,af (tk b l q).1];exact q),⟨⟨dx,by rw [af eC,af npd];exact s3 _ _ R⟩,by rw [af eg];exact ad,ad⟩,⟨fun b u q n=>f1 b u q fun m=>n (DE _ m),apart er (.inr (.inl rfl))⟩,fn⟩ (fun b u q n=>?_)
  .have ap:b≠d/\b≠e:=apart b (by
    rcases hb with y | y | y <;> rw [y]
    .exact .inl (by simp [F6])
    .exact .inl (by simp [F6])
    .exact .inr (.inl rfl))
   rw [af ap.2,af ap.1];exact q
  .rw [af (O b e _ ea hb),af (O b d _ M hb)];exact q
  .rw [Du,Fv] at n;have n1:=n.1;simp only [ax,ah,Dv,Fv] at n1;rw [af n1.2,af n1.1];exact s3 _ _ (ef _ _ (k1 _ _ q n.2) n.1)
 -- the first one is the lesser
 refine ⟨p2,p1,_,_,_,_,rfl,rfl,h2,h1,_,rfl,aS (fun c=>absurd (Dp c) W1.np.symm) (fun _=>?_)⟩;refine (?_);refine ⟨p,dx,_,rfl,U,bT C9 C9,p,dx,d,e,p1,d1,er,_,ks,js,S,s',j1,rfl,U,rfl,rfl,ey,ew,v1,W1.la,u1,?_⟩;refine ⟨p,dx,_,rfl,U,bT C9 C9,p,dx,d,e,p2,d2,ed,_,ks,js,z2,t',j2,rfl,U,rfl,rfl,ey,ew,v2,W1.lb,u2,?_⟩;refine ⟨p,dx,_,rfl,U,bT C9 C9,p2,e5,_,rfl,h2,lfn,p2,d2,ed,t',rfl,W1.lb,p,dx,d,e,p2,_,ks,js,S,_,rfl,U,rfl,rfl,ey,ew,eg,npd.symm,Dc,Dc,?_⟩;have eG:=eN p2 ((s'.looks+j1)+(t'.looks+j2)-t'.looks);obtain ⟨ef,R,M,ea,ec,el⟩:=eG;generalize upd (upd H1 d (.dK (aQ ks (Sum.inr S) (.ref p2)))) e (.dK (aQ js (Sum.inr S) (.int ((s'.looks+j1)+(t'.looks+j2)-t'.looks))))=H2 at ef R M ea ec el ⊢;obtain ⟨eW,hq⟩:=ec.ob;refine ⟨p,dx,_,rfl,R,bT C9 C9,p1,CL,eW,_,_,rfl,hq,LL.cl,LL.sk,xM,fun h hx fh fx e4=>⟨h,hx,s'.slack,rfl,ad,fun hd hl H3 fd fl L3 k3=>⟨rfl,?_⟩⟩⟩;have s3:Same H2 H3:=fD fh fx k3;refine ⟨p,dx,d,e,h,_,_,_,z2,0,rfl,s3 _ _ R,rfl,rfl,s3 _ _ M,s3 _ _ ea,eg,npd.symm,DY (bd _ _ _) Dc,DY (bd _ _ _) Dc,?_⟩;have O:∀x y u,H2 y=some u->(x=h∨x=hd∨x=hl)->x≠y:=fun x y u q m w=>by
  rcases m with v | v | v
  .rw [<-w,v,fh] at q;cases q
  .rw [<-w,v,cf fd] at q;cases q
  .rw [<-w,v,cf fl] at q;cases q
 have tk:∀b l,H3 b=some (.tup l)->b≠d/\b≠e:=fun b l q=>⟨aL q (s3 _ _ M) nqz,aL q (s3 _ _ ea) nqz⟩;have fn:∀x∈[h,hd,hl],Fw ([d,e]++F6 p1 d1 l1 p2 d2 l2) H x/\x∉[d,e,p2,d2,ed]:=fun x eH=>by
  have mx:x=h∨x=hd∨x=hl:=by simpa only [ax,ah,Dv] using eH
  obtain ⟨_,w1⟩:=el.ob;obtain ⟨_,w2,_⟩:=el.dc;obtain ⟨_,w3,_⟩:=el.ls;refine ⟨fun b u q n=>?_,?_⟩
  .rw [Du,Fv] at n;exact (O x b u (ef _ _ (k1 _ _ q n.2) n.1) mx).symm
  .simp only [ax,ah,Dv,Fv];exact ⟨O x d _ M mx,O x e _ ea mx,O x _ _ w1 mx,O x _ _ w2 mx,O x _ _ w3 mx⟩
 refine kQ eF er ed s' t' true h hd hl _ eb jt jf ⟨(el.same s3).stay (fun b o hb q=>?_) (fun b l q=>by rw [af (tk b l q).2,af (tk b l q).1];exact q),L3.stay (fun b o hb q=>?_) (fun b l q=>by rw [af (tk b l q).2,af (tk b l q).1];exact q),⟨⟨dx,by rw [af eC,af npd];exact s3 _ _ R⟩,by rw [af eg];exact ad,ad⟩,⟨fun b u q n=>f2 b u q fun m=>n (DE _ m),apart ed (.inr (.inr rfl))⟩,fn⟩ (fun b u q n=>?_)
 .have ap:b≠d/\b≠e:=apart b (by
   rcases hb with y | y | y <;> rw [y]
   .exact .inl (by simp [F6])
   .exact .inl (by simp [F6])
   .exact .inr (.inr rfl))
  rw [af ap.2,af ap.1];exact q
 .rw [af (O b e _ ea hb),af (O b d _ M hb)];exact q
 rw [Du,Fv] at n;have n1:=n.1;simp only [ax,ah,Dv,Fv] at n1;rw [af n1.2,af n1.1];exact s3 _ _ (ef _ _ (k1 _ _ q n.2) n.1)
theorem AnsC.same {O:Hp}{h hd I:Addr}{s:LS}{j:Int}{rest:List V}{Q:VK}{E:XK}(a:AnsC CL CC CN H h hd I s j x rest Q E)(k:Same H O):AnsC CL CC CN O h hd I s j x rest Q E:=by
 rcases a with ⟨e,n,r,q⟩ | ⟨e,q⟩ | ⟨e,q⟩ | ⟨dd,e,o,q,R⟩
 .exact .inl ⟨e,n,r,fun D xs H' c g T z=>q D xs H' c g (k.trans T) (k.free z)⟩
 .exact .inr (.inl ⟨e,fun D H' g T z=>q D H' g (k.trans T) (k.free z)⟩)
 .exact .inr (.inr (.inl ⟨e,fun D H' g T z=>q D H' g (k.trans T) (k.free z)⟩))
 exact .inr (.inr (.inr ⟨dd,e,o,fun f D S H' F g U W=>q f D S H' F g (fun b u e n=>U b u (k _ _ e) n) (W.elim .inl fun z=>.inr (k.free z)),fun M H' T=>R M H' (k.trans T)⟩))
structure Aa (C CL:Addr)(H H':Hp)(p d e:Addr)(ks js:List (Key×V))(z:Str)(n:Int)(h hd hl:Addr):Prop where
 la:LateAt CL H' h hd hl (Gm.newL n)
 da:bV C H' p d e (aQ ks (Sum.inr z) (.ref h)) (aQ js (Sum.inr z) (.int 0))
 kp:Kept [d,e] H H'
 f1:H h=none
 f2:H hd=none
 f3:H hl=none
abbrev Br:Stmt:=a7 (top 31) 1
theorem zN:av ["self","line","asked"] ["self","line"] (ak Br):=fs0
def oS (K:W.Frag)(forms:List (Str×Addr))(C CL CC CN:Addr):Sp:=fun vs H Q E=>∃ (p d e:Addr) (ks js:List (Key×V)) (ws:List Str) (vv:List V),vs=[.ref p,.str (Str.join " " ws)]/\ws≠[]/\(∀w∈ws,32∉w.cps.toList)/\(Str.join " " ws).length<=900/\bV C H p d e ks js/\Und K forms ks ws vv /\
 ((∃ (z:Str) (n:Int),vv=[.str "heap",.str z,.int n]/\d≠e/\ks.length<1000/\js.length<1000/\∀h hd hl D H',Aa C CL H H' p d e ks js z n h hd hl->H' D=some (.lst [])->Q (.ref D) H') ∨
 (∃ (z1 z2:Str),vv=[.str "join",.str z1,.str z2]/\∀H1,Same H H1->lH C CL CC [.ref p,.str z1,.str z2] H1 (fun _ H'=>∀D,H' D=none->Q (.ref D) (upd H' D (.lst []))) E) ∨
 ∃ (x z:Str) (rest:List V) (h hd hl:Addr) (s:LS) (j:Int),vv=.str x::.str z::rest/\x≠"heap"/\x≠"join"/\aU ks (Sum.inr z)=some (.ref h)/\aU js (Sum.inr z)=some (.int j)/\LateAt CL H h hd hl s/\Gm.LInv slt s/\s.stamp<=800/\Sml s.there/\((s.looks:Int)+j).natAbs<10 ^ 31/\AnsC CL CC CN H h hd hl s j x rest Q E)
theorem Ah {fu fs fb fI:Addr}{ej ef:FuncData}(F:Fun K "ask" "Desk.ask" Br f fd)(T:Bl mg)(L:DK K C)(LL:LT K CL)(ew:mg "Late"=some (.ref CL))(eh:Mk K CL fI)(O:au P w K mg base CX0 2 fI fdI ["self","slack"] (mF CL))(I:Binds K fdI ["self","slack"] [])(R:bp K C "understood" fu)(M:au P w K mg base CX0 6 fu ej ["self","words"] (z6 C forms K))(W:Binds K ej ["self","words"] [])(ec:bp K C "stand" fs)(er:au P w K mg base CX0 1 fs fds ["self","name","heap","joined"] (kZ C))(eo:Binds K fds ["self","name","heap","joined"] [])(el:bp K C "bring_together" fb)(ed:au P w K mg base (CXe P w) 8 fb ef ["self","name","second"] (lH C CL CC))(ei:Binds K ef ["self","name","second"] [])(ea:bp K C "answer" fa)(ee:au P w K mg base (CXe P w) 8 fa fda ["self","word","name","rest"] (oQ K C CL CC CN))(et:Binds K fda ["self","word","name","rest"] []):
  au P w K mg base (CXe P w) 9 f fd ["self","line"] (oS K forms C CL CC CN):=by
 have sc:=zN;refine F.okEQ zN (fun vs H Q E h=>?_) (fun eS A outer s_ H vs Q E hr h=>?_)
 .obtain ⟨p,d,e,ks,js,ws,vv,rfl,_⟩:=h;rfl
 obtain ⟨p,d,e,ks,js,ws,vv,rfl,w0,wf,wl,DA,U,cs⟩:=h;have hu:=hr.units0;refine ⟨_,(ac (qst 2 sc.nd (aV (qv 0) L.cl R M hr.mo W .nil aB (aa (gN Ij PySem.F.slot_str_split PySem.F.type_str_split wm (qv 1) (aa aq ag)) ag)))
  (ac (aT (aw bA (aA aI (qv 2) ai pix) aq (aG _)) (ac (aH (aV (qv 0) L.cl ec er hr.mo eo .nil aB (aa (aA aI (qv 2) ai pix) (aa (tQ eh O hr.mo rfl ew I .nil aB (aa (aA aI (qv 2) ai pix) ag)) (aa ai ag)))))
  (aj (aD (bu ag)))) aE)
  (ac (aT (aw bA (aA aI (qv 2) ai pix) aq (aG _)) (ac (aH (aV (qv 0) L.cl el ed hr.mo ei .nil (bq fun _ _ z=>z) (aa (aA aI (qv 2) ai pix) (aa (aA aI (qv 2) ai pix) ag))))
  (aj (aD (bu ag)))) aE)
  (aj (aD (aV (qv 0) L.cl ea ee hr.mo et .nil (bq fun _ _ z=>z) (aa (aA aI (qv 2) ai pix) (aa (aA aI (qv 2) ai pix) (aa (dE rC (qv 2) (fz ai) fC) ag))))))))),?_⟩;dsimp only [bM,Cx.nox]
 obtain ⟨dx,Y⟩:=DA.ob;refine ⟨p,dx,_,rfl,Y,bT C9 C9,rfl,_,_,rfl,rfl,C9,Dq (show _<=902 by lia) Db,fun l hl=>?_⟩;rw [nZ w0 wf];refine gnew hl fun H1 s1 g1=>?_;refine ⟨p,dx,d,l,_,ks,ws,vv,rfl,s1 _ _ Y,rfl,bT C9 C9,s1 _ _ DA.hd,g1,U,fun t H2 s2 J=>?_⟩;have S:=s1.trans s2;rcases cs with ⟨z,n,rfl,ey,lk,lj,kQ⟩ | ⟨z1,z2,rfl,kB⟩ | ⟨x,z,rest,h,hd,hl,s,j,rfl,nh,nj,vh,vj,LA,LI,st,sm,lj,an⟩
 .refine ⟨_,_,SqT.of J,rfl,rfl,_,rfl,dW ?_⟩;have npd:p≠d:=fun y=>by rw [y,DA.hd] at Y;cases Y
  have ez:p≠e:=fun y=>by rw [y,DA.hj] at Y;cases Y
  refine ⟨p,dx,_,rfl,S _ _ Y,bT C9 C9,_,_,SqT.of J,rfl,_,_,SqT.of J,rfl,fun h hx fh fx eN=>⟨h,hx,n,rfl,ad,fun hd hl H3 fd fl L3 k3=>⟨rfl,?_⟩⟩⟩;have G:Same H H3:=S.trans (fD fh fx k3);have ek:H hd=none:=S.free (cf fd);have eb:H hl=none:=S.free (cf fl);have eg:H h=none:=S.free fh;refine ⟨p,dx,d,e,h,_,ks,js,z,0,rfl,G _ _ Y,rfl,rfl,G _ _ DA.hd,G _ _ DA.hj,ey,npd.symm,lk,lj,sz0,fun D hD=>?_⟩;have off:∀b u,H b=some u->b≠h/\b≠hd/\b≠hl:=fun b u q=>⟨am q eg,am q ek,am q eb⟩;have sD:=ar (o:=.lst []) hD;obtain ⟨d1,d2,d3⟩:=off _ _ DA.hd;obtain ⟨e1,e2,e3⟩:=off _ _ DA.hj;refine kQ h hd hl D _ ⟨?_,⟨⟨dx,sD _ _ ?_⟩,sD _ _ ?_,sD _ _ ad⟩,fun b u q n=>sD _ _ ?_,eg,ek,eb⟩ ad
  .refine LateAt.same ?_ sD;refine L3.stay (fun b o hb q=>?_) (fun b l q=>?_)
   .have nd:b≠d:=by rcases hb with y | y | y <;> rw [y] <;> first | exact d1.symm | exact d2.symm | exact d3.symm
    have ne:b≠e:=by rcases hb with y | y | y <;> rw [y] <;> first | exact e1.symm | exact e2.symm | exact e3.symm
    rw [af ne,af nd];exact q
   .rw [af (aL q (G _ _ DA.hj) nqz),af (aL q (G _ _ DA.hd) nqz)];exact q
  .rw [af ez,af npd];exact G _ _ Y
  .rw [af ey];exact ad
  .simp only [ax,ah,Dv,Fv] at n;rw [af n.2,af n.1];exact G _ _ q
 .refine ⟨_,_,SqT.of J,rfl,rfl,_,rfl,cn ?_⟩;refine ⟨_,_,SqT.of J,rfl,rfl,_,rfl,dW ?_⟩;refine ⟨p,dx,_,rfl,S _ _ Y,bT C9 C9,_,_,SqT.of J,rfl,_,_,SqT.of J,rfl,?_⟩;obtain ⟨b0,b1,b2,b3,b4,b5,b6,b7,b8,b9,c0,c1,c2,c3,c4,c5,c6,e1,e2,e3,e4,e5,e6,e7,e8,e9,g1,g2,g3,g4,g5,g6,g7,g8,g9,g0⟩:=kB H2 S;exact ⟨b0,b1,b2,b3,b4,b5,b6,b7,b8,b9,c0,c1,c2,c3,c4,c5,c6,e1,e2,e3,e4,e5,e6,e7,e8,e9,g1,g2,g3,g4,g5,g6,g7,g8,g9,fun x1 x2 x3 x4 x5 x6 x7 x8 x9 y1 y2 y3 y4 y5 y6=>⟨sz0,g0 x1 x2 x3 x4 x5 x6 x7 x8 x9 y1 y2 y3 y4 y5 y6⟩⟩
 refine ⟨_,_,SqT.of J,aW (j:=0) rfl,rfl,_,rfl,aS (fun c=>absurd (V.str.inj (Dp c)) nh) (fun _=>?_)⟩;refine ⟨_,_,SqT.of J,aW (j:=0) rfl,rfl,_,rfl,aS (fun c=>absurd (V.str.inj (Dp c)) nj) (fun _=>?_)⟩;refine ⟨p,dx,_,rfl,S _ _ Y,bT C9 C9,_,_,SqT.of J,aW (j:=0) rfl,_,_,SqT.of J,aW (j:=1) rfl,_,rfl,.inl ⟨t,_,rfl,SqT.of J,?_,fun r eA=>?_⟩⟩
 .intro y;have:=(HT.sIx_nat (V.str x::V.str z::rest).length 0 2).symm.trans y.1;rw [Dw,Dw] at this;lia
 have e2:eK (V.str x::V.str z::rest) (some 2) none=rest:=by unfold eK;have:=HT.sIx_nat (V.str x::V.str z::rest).length 0 2;rw [show (some (2:Int))=some ((2:Nat):Int) from rfl,this,Dw,Dw,Nat.min_eq_left Dc];show rest.take (rest.length+1+1-2)=rest;exact Eu Dc
 rw [e2];have G:=S.trans (ar (o:=.tup rest) eA);exact ⟨p,d,e,r,h,hd,hl,ks,js,x,z,rest,s,j,rfl,⟨⟨dx,G _ _ Y⟩,G _ _ DA.hd,G _ _ DA.hj⟩,vh,vj,LA.same G,LI,st,sm,lj,SqT.of ad,an.same G⟩
abbrev ql:Stmt:=a7 (top 31) 0
theorem sv:av ["self"] ["self"] (ak ql):=fs0
def tK (C:Addr):Sp:=fun vs H Q _=>∃ (p dx:Addr),vs=[.ref p]/\H p=some (.ins C dx [])/\∀d e H',H d=none->H e=none->d≠e->bV C H' p d e [] []->Kept [p] H H'->Q .non H'
theorem iz (F:Fun K "__init__" "Desk.__init__" ql f fd)(T:Bl mg)(L:DK K C):au P w K mg base CX0 1 f fd ["self"] (tK C):=by
 have Y:=sv;refine F.okQ sv fun W A outer s H vs Q E G h=>?_;obtain ⟨p,R,rfl,M,k⟩:=h;have J:=G.units0;refine ⟨_,(ac (cN (qv 0) eP rfl)
  (aj (cN (qv 0) eP rfl))),?_⟩
 refine fun d hd=>?_;have npd:p≠d:=am M hd;refine ⟨p,C,R,_,rfl,by rw [af npd];exact M,L.cl,L.hp,by show 0<1000;decide,fun e I=>?_⟩;have c:e≠p:=fun z=>by rw [z,ad] at I;cases I
 have O:e≠d:=fun z=>by rw [z,af npd.symm,ad] at I;cases I
 have S:H e=none:=by rw [af c,af O] at I;exact I
 refine ⟨p,C,R,_,rfl,by rw [af c.symm];exact ad,L.cl,L.jn,by show 1<1000;decide,?_⟩;refine k d e _ hd S O.symm ⟨⟨R,ad⟩,?_,?_⟩ (fun b o q n=>?_)
 .rw [af npd.symm,af O.symm,af npd.symm];exact ad
 .rw [af c];exact ad
 have U:b≠p:=fun z=>n (DI.mpr z);rw [af U,af (am q S),af U,af (am q hd)];exact q
abbrev wO:Stmt:=top 36
theorem yl:av ["script","k","many","cell","turn","mixed"] ["script","k"] (ak wO):=fs0
def itF:Nat->Int->Int
 | 0,c=>c
 | n+1,c=>itF n c / 1000003
def szF (ns:List Int):Int:=if (ns.length:Int)>1 then (ns.length:Int) else 1
def A9 (c t:Int):Int:=if c ≥ 10 ^ 18∨c<=-(10 ^ 18) then itF (if (60:Int)<t then (60:Int) else t).toNat c % 1000003 else ((c % 2147483629+17+68209*t)*47791 % 2147483629)*((c % 2147483629+17+68209*t)*47791 % 2147483629) % 2147483587*38839 % 2147483579
def dB (ns:List Int)(k:Int):Int:=A9 ((ns++[0]).getD (k % szF ns).toNat 0) (k / szF ns)
def lD (K:W.Frag):Sp:=fun vs H Q _=>∃ (a:Addr) (ns:List Int) (k:Int),vs=[.ref a,.int k]/\SqL K H a (ns.map V.int)/\ns.length<=63/\0<=k/\∀r H',r=dB ns k->0<=r->r<2147483648->Same H H'->Q (.int r) H'
theorem zl (F:Fun K "_law_draw" "_law_draw" wO f fd)(T:Bl mg)(U:mg "max"=none)(S:mg "min"=none):au P w K mg base CX0 1 f fd ["script","k"] (lD K):=by
 have W:=yl;refine F.okQ yl fun eo A outer s H vs Q E hr h=>?_;obtain ⟨a,ns,k,rfl,hS,hn,hk,kQ⟩:=h;have hu:=hr.units0;refine ⟨_,(ac (qst 2 W.nd (qcB (ve rfl) U (aa ai (aa (qcB aK T.z_len (aa (qv 0) ag)) ag))))
  (ac (qst 3 W.nd (aA aM (ao Aj (qcT kX T.z_list (aa (qv 0) ag)) (bu (aa ai ag))) (ao bb (qv 1) (qv 2)) pix))
  (ac (aT (QW.pt (zI (aw BI (qv 3) (ao lK ai ai) (aG _)) (wP (aw vW (qv 3) (kI hG (ao lK ai ai)) (aG _))))) (ac (cE D8 rfl (cC rfl T.z_range (aa (qcB (vg rfl) S (aa (ao bo (qv 1) (qv 2)) (aa ai ag))) ag)) (bQ (i:=4) W.nd rfl (Or.inl rfl)) (aj (qst 3 W.nd (ao bo (qv 3) ai))))
  (aj (aD (ao bb (qv 3) ai)))) aE)
  (ac (qst 5 W.nd (ao bb (ao bU (ao aN (ao aN (ao bb (qv 3) ai) ai) (ao bU ai (ao bo (qv 1) (qv 2)))) ai) ai))
  (ac (qst 5 W.nd (ao bb (ao bU (qv 5) (qv 5)) ai))
  (aj (aD (ao bb (ao bU (qv 5) ai) ai)))))))),?_⟩
 have t1:∀{H':Hp},Same H H'->SqL K H' a (ns.map V.int):=fun k=>hS.imp (fun z=>z.imp (k _ _) (fun ⟨o,e⟩=>⟨o,k _ _ e⟩)) id;have lm:(ns.map V.int).length=ns.length:=Dg ..;refine ⟨a,_,rfl,.inl hS,_,_,rfl,?_⟩;rw [lm];obtain ⟨sz,G,z1,z2,z3⟩:∃ sz:Int,(if (ns.length:Int)>1 then (ns.length:Int) else 1)=sz/\1<=sz/\sz<=63/\sz<=(ns++[0]).length:=by
  refine ⟨_,rfl,?_,?_,?_⟩
  .split <;> lia
  .split <;> lia
  .rw [Ds];split <;> simp <;> lia
 rw [G];refine ⟨a,_,rfl,.inl hS,fun l1 ee=>?_⟩;refine gnew ee fun H1 s1 g1=>?_;refine ⟨sz1,fun l2 et=>?_⟩;refine gnew et fun H2 s2 g2=>?_;refine ⟨l1,l2,_,_,rfl,rfl,s2 _ _ g1,g2,Dq (show (ns.map V.int).length+1<=1000 by lia) Db,fun l3 ea=>?_⟩;have e3:ns.map V.int++[.int 0]=(ns++[0]).map V.int:=by rw [D4];rfl
 rw [e3];have s3:=ar (o:=.lst ((ns++[0]).map V.int)) ea;have g3:=ad (H:=H2) (a:=l3) (o:=.lst ((ns++[0]).map V.int));have J:=(s1.trans s2).trans s3;generalize upd H2 l3 (.lst ((ns++[0]).map V.int))=H3 at s3 g3 J ⊢;have p0:0<=k % sz:=br Dc;have p1:k % sz<sz:=bn Dc;refine ⟨(by show (0:Int)<sz;lia),_,_,SqL.of g3,xy p0 Dc,?_⟩;have tn:0<=k / sz:=Int.ediv_nonneg hk Dc;have I:dB ns k=A9 ((ns++[0]).getD (k % sz).toNat 0) (k / sz):=by unfold dB;rw [show szF ns=sz from G]
 generalize (ns++[0]).getD (k % sz).toNat 0=cell at I ⊢;unfold A9 at I;have R:(∃ Y:Nat,(if (60:Int)<(k / sz) then (60:Int) else (k / sz))=(Y:Int)/\Y<=60):=by
  refine ⟨(if (60:Int)<(k / sz) then (60:Int) else (k / sz)).toNat,?_,?_⟩
  .split <;> lia
  .split <;> lia
 obtain ⟨Y,O,y2⟩:=R;refine ⟨⟨Db,Db,Db⟩,_,rfl,aS (fun w1=>?_) (fun w1=>⟨⟨Db,Db,Db⟩,_,rfl,aS (fun w2=>?_) (fun w2=>?_)⟩)⟩
 .refine ⟨⟨Dc,Dc⟩,(k / sz),60,rfl,?_⟩;rw [O];refine ⟨_,rfl,Dc,Dc,?_⟩;rw [Ej];refine cR (lo:=0) (n:=Y) (fun i Z M=>∃ (c:Int) (o:Option V),Z=[some (.ref a),some (.int k),some (.int sz),some (.int c),o,none]/\c=itF i cell/\M=H3) ⟨cell,none,rfl,rfl,rfl⟩ ?_ ?_
  .rintro i Z M hi ⟨c,o,rfl,rfl,rfl⟩;exact ⟨⟨Db,Db⟩,_,_,rfl,rfl,rfl⟩
  .rintro Z M ⟨c,o,rfl,rfl,rfl⟩;rw [Dm (.inl (Dp w1)),O,Ej] at I;exact ⟨nqd,kQ _ _ I.symm (br Db) (ID (bn Db) Db) J⟩
 .refine ⟨⟨Dc,Dc⟩,(k / sz),60,rfl,?_⟩;rw [O];refine ⟨_,rfl,Dc,Dc,?_⟩;rw [Ej];refine cR (lo:=0) (n:=Y) (fun i Z M=>∃ (c:Int) (o:Option V),Z=[some (.ref a),some (.int k),some (.int sz),some (.int c),o,none]/\c=itF i cell/\M=H3) ⟨cell,none,rfl,rfl,rfl⟩ ?_ ?_
  .rintro i Z M hi ⟨c,o,rfl,rfl,rfl⟩;exact ⟨⟨Db,Db⟩,_,_,rfl,rfl,rfl⟩
  .rintro Z M ⟨c,o,rfl,rfl,rfl⟩;rw [Dm (.inr (Dp w2)),O,Ej] at I;exact ⟨nqd,kQ _ _ I.symm (br Db) (ID (bn Db) Db) J⟩
 refine ⟨nqd,⟨Dc,Dc⟩,.inl ⟨Db,Db⟩,.inr ⟨Db,Db⟩,nqd,?_⟩;refine ⟨.inl ⟨?b1,?b2⟩,nqd,?_⟩
 case b1=>exact Int.lt_of_lt_of_le Db (br (b:=2147483629) Db)
 case b2=>exact ID (bn (b:=2147483629) Db) Db
 rw [Di (fun y=>y.elim (fun y=>w1 (Dk y)) (fun y=>w2 (Dk y)))] at I;exact ⟨.inr ⟨Db,Db⟩,nqd,kQ _ _ I.symm (br Db) (ID (bn Db) Db) J⟩
abbrev xo:Stmt:=top 37
theorem ym:av ["script","i","letters","words","pad","place","tail","sign","word"] ["script","i"] (ak xo):=fs0
def deskW:List Str:=["heap","put","drop","change","take","least","first","join","room","works"]
def gW (c:Nat)(n:Int):Str:=⟨(List.replicate n.toNat c).toArray⟩
def wdF (d0 d1 d2 d3 d8 i:Int):Str :=
 if d8 % 4=1 then ⟨#[97+((i+d3) % 26).toNat]⟩
 else if d8 % 4=2/\i<10 then deskW.getD ((i+d3) % 10).toNat ""
 else (if i % 2=1/\(((gW (97+(d0 % 26).toNat) (d1 % 7)++⟨#[97+((i+d3) % 26).toNat]⟩++gW (97+(d0 % 26).toNat) (d2 % (7-d1 % 7)):Str).length:Nat):Int)<7 then gW (97+(d0 % 26).toNat) (d1 % 7)++⟨#[97+((i+d3) % 26).toNat]⟩++gW (97+(d0 % 26).toNat) (d2 % (7-d1 % 7))++⟨#[97+(d0 % 26).toNat]⟩ else gW (97+(d0 % 26).toNat) (d1 % 7)++⟨#[97+((i+d3) % 26).toNat]⟩++gW (97+(d0 % 26).toNat) (d2 % (7-d1 % 7)))++"x"
def cV (ns:List Int)(i:Int):Str:=wdF (dB ns 0) (dB ns 1) (dB ns 2) (dB ns 3) (dB ns 8) i
def qe (K:W.Frag):Sp:=fun vs H Q _=>∃ (a:Addr) (ns:List Int) (i:Int),vs=[.ref a,.int i]/\SqL K H a (ns.map V.int)/\ns.length<=63/\0<=i/\i<=100/\∀z H',z=cV ns i->AbcN z 8->Same H H'->Q (.str z) H'
theorem zw (F:Fun K "_law_word" "_law_word" xo f fd)(T:Bl mg)(I:au P w K mg base CX0 1 fn fdn ["script","k"] (lD K))(O:Nm K mg "_law_draw" fn fdn ["script","k"]):au P w K mg base CX0 2 f fd ["script","i"] (qe K):=by
 have sc:=ym;refine F.okQ ym fun tx A outer s H vs Q E hr h=>?_;obtain ⟨a,ns,i,rfl,hS,hn,e8,th,kQ⟩:=h;have hu:=hr.units0;refine ⟨_,(ac (qst 2 sc.nd aq)
  (ac (qst 3 sc.nd (be (jQ (vs:=[.str "heap",.str "put",.str "drop",.str "change",.str "take",.str "least",.str "first",.str "join",.str "room",.str "works"]) C9)))
  (ac (qst 4 sc.nd (aA vN (qv 2) (ao bb (qcl I hr O aB (aa (qv 0) (aa ai ag))) ai) pix))
  (ac (qst 5 sc.nd (ao bb (qcl I hr O aB (aa (qv 0) (aa ai ag))) ai))
  (ac (qst 6 sc.nd (ao bb (qcl I hr O aB (aa (qv 0) (aa ai ag))) (ao cb ai (qv 5))))
  (ac (qst 7 sc.nd (aA vN (qv 2) (ao bb (ao aN (qv 1) (qcl I hr O aB (aa (qv 0) (aa ai ag)))) ai) pix))
  (ac (aT (aw bA (ao bb (qcl I hr O aB (aa (qv 0) (aa ai ag))) ai) ai (aG _)) (aj (aD (qv 7))) aE)
  (ac (aT (QW.pt (dA (aw bA (ao bb (qcl I hr O aB (aa (qv 0) (aa ai ag))) ai) ai (aG _)) (cG (aw dI (qv 1) ai (aG _))))) (aj (aD (aA aI (qv 3) (ao bb (ao aN (qv 1) (qcl I hr O aB (aa (qv 0) (aa ai ag)))) ai) pix))) aE)
  (ac (qst 8 sc.nd (ao dR (ao dR (ao tY (qv 4) (qv 5)) (qv 7)) (ao tY (qv 4) (qv 6))))
  (ac (aT (QW.pt (dA (aw bA (ao bb (qv 1) ai) ai (aG _)) (cG (aw dI (qcB gz T.z_len (aa (qv 8) ag)) ai (aG _))))) (aj (qst 8 sc.nd (ao dR (qv 8) (qv 4)))) aE)
  (aj (aD (ao dR (qv 8) aq))))))))))))),?_⟩;dsimp only [bM,Cx.nox]
 have t1:∀{H':Hp},Same H H'->SqL K H' a (ns.map V.int):=fun k=>SqL.same' hS k;have eg:(Str.ofString "abcdefghijklmnopqrstuvwxyz").length<=sizeLine:=by decide +kernel
 refine ⟨sz10,fun q0 eD=>?_⟩;refine gnew eD fun H0 s0 g0=>?_;refine ⟨a,ns,0,rfl,t1 s0,hn,Db,fun d1 H1 ey tc tv s1=>?_⟩;have ep:=jW (br (a:=d1) (b:=26) Db) (bn Db);obtain ⟨G,er⟩:∃ c,97+(d1 % 26).toNat=c:=⟨_,rfl⟩;have p0:97<=G:=by lia
 have p1:G<=122:=by have:=bn (a:=d1) (b:=26) Db;lia
 rw [er] at ep;refine ⟨nqd,_,_,_,rfl,rfl,eg,ep,?_⟩;have ek:=s0.trans s1;refine ⟨a,ns,1,rfl,t1 ek,hn,Db,fun d2 H2 eb ts e9 s2=>⟨nqd,?_⟩⟩;have ed:=ek.trans s2;have ej:0<=d2 % 7:=br Db;have e4:d2 % 7<7:=bn Db;refine ⟨a,ns,2,rfl,t1 ed,hn,Db,fun d3 H3 ew e3 eB s3=>⟨(by show (0:Int)<7-d2 % 7;lia),?_⟩⟩;have el:=ed.trans s3;have eA:0<=d3 % (7-d2 % 7):=br Dc;have tq:d3 % (7-d2 % 7)<7-d2 % 7:=bn Dc;refine ⟨a,ns,3,rfl,t1 el,hn,Db,fun d4 H4 ei ti e5 s4=>?_⟩;have eh:=el.trans s4;have es:=jW (br (a:=i+d4) (b:=26) Db) (bn Db);obtain ⟨sg,eo⟩:∃ c,97+((i+d4) % 26).toNat=c:=⟨_,rfl⟩;have eN:97<=sg:=by lia
 have eG:sg<=122:=by have:=bn (a:=i+d4) (b:=26) Db;lia
 rw [eo] at es;refine ⟨nqd,_,_,_,rfl,rfl,eg,es,?_⟩;have NS:=AbcN.one eN eG;have NP:=AbcN.one p0 p1;refine ⟨a,ns,8,rfl,t1 eh,hn,Db,fun d5 H5 et tl tn s5=>⟨nqd,rfl,_,rfl,aS (fun v1=>?_) (fun v1=>?_)⟩⟩
 .have S:cV ns i=wdF d1 d2 d3 d4 d5 i:=by unfold cV;rw [ey,eb,ew,ei,et]
  unfold wdF at S;rw [er,eo] at S;rw [Dm (V.int.inj (Dp v1))] at S;exact (kQ _ _ S.symm (NS.mono Db) (eh.trans s5))
 have S:cV ns i=wdF d1 d2 d3 d4 d5 i:=by unfold cV;rw [ey,eb,ew,ei,et]
 unfold wdF at S;rw [er,eo] at S;rw [Di (fun y=>v1 (Dk (show V.int (d5 % 4)=V.int 1 by rw [y])))] at S;have ee:=eh.trans s5;refine ⟨a,ns,8,rfl,t1 ee,hn,Db,fun d6 H6 ec e7 e2 s6=>⟨nqd,rfl,_,rfl,aS (fun v2=>⟨_,rfl,aS (fun v3=>?_) (fun v3=>?_)⟩) (fun v2=>?_)⟩⟩
 .have ef:=ee.trans s6;refine ⟨a,ns,3,rfl,t1 ef,hn,Db,fun d7 H7 eL e6 tr s7=>?_⟩;have e0:0<=(i+d7) % 10:=br Db;have e1:(i+d7) % 10<10:=bn Db;obtain ⟨n,en⟩:=Gq e0;have eC:n<10:=by lia
  have all:∀n:Fin 10,∃ z:Str,deskW.getD n.val ""=z/\[V.str "heap",.str "put",.str "drop",.str "change",.str "take",.str "least",.str "first",.str "join",.str "room",.str "works"][n.val]?=some (.str z)/\AbcN z 8:=by
   intro n
   match n with
   | 0=>exact ⟨_,rfl,rfl,AbcN.of C9⟩
   | 1=>exact ⟨_,rfl,rfl,AbcN.of C9⟩
   | 2=>exact ⟨_,rfl,rfl,AbcN.of C9⟩
   | 3=>exact ⟨_,rfl,rfl,AbcN.of C9⟩
   | 4=>exact ⟨_,rfl,rfl,AbcN.of C9⟩
   | 5=>exact ⟨_,rfl,rfl,AbcN.of C9⟩
   | 6=>exact ⟨_,rfl,rfl,AbcN.of C9⟩
   | 7=>exact ⟨_,rfl,rfl,AbcN.of C9⟩
   | 8=>exact ⟨_,rfl,rfl,AbcN.of C9⟩
   | 9=>exact ⟨_,rfl,rfl,AbcN.of C9⟩
  obtain ⟨z,eH,ez,NZ⟩:=all ⟨n,eC⟩;have eS:d6=d5:=by rw [ec,et]
  have eF:d7=d4:=by rw [eL,ei]
  rw [Dm ⟨by rw [<-eS];exact V.int.inj (Dp v2),Dp v3⟩] at S;have eZ:z=cV ns i:=by rw [S,<-eF,en,Ej];exact eH.symm
  refine ⟨nqd,_,_,SqT.of (((((s1.trans s2).trans s3).trans s4).trans s5).trans (s6.trans s7) _ _ g0),(by show atI _ ((i+d7) % 10)=_;rw [en];exact aW ez),kQ z _ eZ NZ (ef.trans s7)⟩
 .rw [Di (fun y=>v3 (Dk y.2))] at S;refine ⟨G,d2 % 7,rfl,rfl,ej,Dc,fun Y U=>?_⟩;have l1:Y.length=(d2 % 7).toNat:=by rw [bc,U,Eo]
  refine ⟨_,_,rfl,rfl,Dq (show Y.length+1<=10 by lia) Db,G,d3 % (7-d2 % 7),rfl,rfl,eA,Dc,fun J M=>?_⟩;have l2:J.length=(d3 % (7-d2 % 7)).toNat:=by rw [bc,M,Eo]
  have W:=(BY U M p0 p1 NS).mono (n:=7) Dc;have wl:=W.hi;have ea:=W.lo;refine ⟨_,_,rfl,rfl,Dq (show _+J.length<=20 by rw [aR];show Y.length+1+J.length<=20;lia) Db,?_⟩;have R1:Y=gW G (d2 % 7):=cF (by rw [U];exact (Gd ..).symm);have R2:J=gW G (d3 % (7-d2 % 7)):=cF (by rw [M];exact (Gd ..).symm);rw [<-R1,<-R2] at S;generalize Y++(⟨#[sg]⟩:Str)++J=wd at W wl ea S ⊢;have NX:AbcN "x" 1:=AbcN.of C9;have l9:9<=sizeLine:=by decide
  have ret:∀R:Str,AbcN R 7->R++"x"=cV ns i->Q (.str (R++"x")) _:=fun R W' e'=>kQ _ _ e' (W'.app NX) (ee.trans s6);refine ⟨nqd,rfl,_,rfl,aS (fun u1=>⟨wd,rfl,Dc,_,rfl,aS (fun c=>?_) (fun c=>?_)⟩) (fun u1=>?_)⟩
  .have c':(wd.length:Int)<7:=Dp c;have W2:AbcN (wd++⟨#[G]⟩) 7:=⟨(W.app NP).lo,by rw [aR];show wd.length+1<=7;lia,(W.app NP).abc⟩;have:=W2.hi;rw [Dm ⟨V.int.inj (Dp u1),c'⟩] at S;refine ⟨_,_,rfl,rfl,Dq (show wd.length+1<=9 by lia) l9,_,_,rfl,rfl,Dq (show (wd++(⟨#[G]⟩:Str)).length+1<=9 by lia) l9,ret _ W2 S.symm⟩
  .rw [Di (fun y=>c (Dk y.2))] at S;exact ⟨_,_,rfl,rfl,Dq (show wd.length+1<=9 by lia) l9,ret _ W S.symm⟩
  .rw [Di (fun y=>u1 (Dk (show V.int (i % 2)=V.int 1 by rw [y.1])))] at S;exact ⟨_,_,rfl,rfl,Dq (show wd.length+1<=9 by lia) l9,ret _ W S.symm⟩
 rw [Di (fun y=>v2 (Dk (show V.int (d6 % 4)=V.int 2 by rw [show d6=d5 by rw [ec,et],y.1])))] at S;refine ⟨G,d2 % 7,rfl,rfl,ej,Dc,fun Y U=>?_⟩;have l1:Y.length=(d2 % 7).toNat:=by rw [bc,U,Eo]
 refine ⟨_,_,rfl,rfl,Dq (show Y.length+1<=10 by lia) Db,G,d3 % (7-d2 % 7),rfl,rfl,eA,Dc,fun J M=>?_⟩;have l2:J.length=(d3 % (7-d2 % 7)).toNat:=by rw [bc,M,Eo]
 have W:=(BY U M p0 p1 NS).mono (n:=7) Dc;have wl:=W.hi;have ea:=W.lo;refine ⟨_,_,rfl,rfl,Dq (show _+J.length<=20 by rw [aR];show Y.length+1+J.length<=20;lia) Db,?_⟩;have R1:Y=gW G (d2 % 7):=cF (by rw [U];exact (Gd ..).symm);have R2:J=gW G (d3 % (7-d2 % 7)):=cF (by rw [M];exact (Gd ..).symm);rw [<-R1,<-R2] at S;generalize Y++(⟨#[sg]⟩:Str)++J=wd at W wl ea S ⊢;have NX:AbcN "x" 1:=AbcN.of C9;have l9:9<=sizeLine:=by decide
 have ret:∀R:Str,AbcN R 7->R++"x"=cV ns i->Q (.str (R++"x")) _:=fun R W' e'=>kQ _ _ e' (W'.app NX) (ee.trans s6);refine ⟨nqd,rfl,_,rfl,aS (fun u1=>⟨wd,rfl,Dc,_,rfl,aS (fun c=>?_) (fun c=>?_)⟩) (fun u1=>?_)⟩
 .have c':(wd.length:Int)<7:=Dp c;have W2:AbcN (wd++⟨#[G]⟩) 7:=⟨(W.app NP).lo,by rw [aR];show wd.length+1<=7;lia,(W.app NP).abc⟩;have:=W2.hi;rw [Dm ⟨V.int.inj (Dp u1),c'⟩] at S;refine ⟨_,_,rfl,rfl,Dq (show wd.length+1<=9 by lia) l9,_,_,rfl,rfl,Dq (show (wd++(⟨#[G]⟩:Str)).length+1<=9 by lia) l9,ret _ W2 S.symm⟩
 .rw [Di (fun y=>c (Dk y.2))] at S;exact ⟨_,_,rfl,rfl,Dq (show wd.length+1<=9 by lia) l9,ret _ W S.symm⟩
 rw [Di (fun y=>u1 (Dk (show V.int (i % 2)=V.int 1 by rw [y.1])))] at S;exact ⟨_,_,rfl,rfl,Dq (show wd.length+1<=9 by lia) l9,ret _ W S.symm⟩
theorem _root_.L2.EnR.bar' {st:Addr}(e:EnR t H xs)(k:Kept [st] H H')(I:H st=some (.dK ks)):EnR t H' xs:=⟨e.tot,fun x T=>by
 obtain ⟨a,O,c⟩:=e.mem x T;exact ⟨a,O,k _ _ c (fun z=>by rw [De z,I] at c;cases c)⟩⟩
abbrev xi:Stmt:=top 39
theorem yj:av ["heap","k","row","low"] ["heap","k"] (ak xi):=fs0
def lQ:Sp:=fun vs H Q _=>∃ (tl:List (Key×V)) (st r td:Addr) (s:LS) (wk:Nat) (xs:List V) (a:Nat) (t:V->List V),vs=[.ref st,.int a]/\oh tl/\H st=some (.dK (dmK tl r td s wk))/\H r=some (.lst xs)/\EnR t H xs/\xs.length<=1000 /\
 ∀H',H' r=some (.lst (dn (ltT t) xs.length xs a wk).1)->H' st=some (.dK (dmK tl r td s (dn (ltT t) xs.length xs a wk).2))->Kept [st,r] H H'->Q .non H'
theorem wS (F:Fun K "_law_down" "_law_down" xi f fd)(T:Bl mg):au P w K mg base CX0 1 f fd ["heap","k"] lQ:=by
 have sc:=yj;refine F.okQ yj fun ef A outer s_ H vs Q E hr h=>?_;obtain ⟨tl,st,r,td,s,wk,xs,a,t,rfl,U,hs,hx,en,hl,k⟩:=h;have hu:=hr.units0;have G:r≠st:=aL hx hs nqz;refine ⟨_,(ac (qst 2 sc.nd (aJ (aO hr) (qv 0) aq pix))
  (aj (cU D8 (aw dI (ao aN (ao bU ai (qv 1)) ai) (qcB aK T.z_len (aa (qv 2) ag)) (aG _)) (ac (qst 3 sc.nd (ao aN (ao bU ai (qv 1)) ai))
  (ac (aT (aw dI (ao aN (qv 3) ai) (qcB aK T.z_len (aa (qv 2) ag)) (aG _)) (ac (cH (aO hr) (qv 0) aq (ao aN (aJ (aO hr) (qv 0) aq pix) ai) rfl)
  (aj (qst 3 sc.nd (ao aN (qv 3) (qcT ko T.z_int (aa (cP (lW hu) (aA aM (qv 2) (ao aN (qv 3) ai) pix) (aA aM (qv 2) (qv 3) pix) (aG _)) ag)))))) aE)
  (ac (cH (aO hr) (qv 0) aq (ao aN (aJ (aO hr) (qv 0) aq pix) ai) rfl)
  (ac (aT (cD (aw (lW hu) (aA aM (qv 2) (qv 3) pix) (aA aM (qv 2) (qv 1) pix) (aG _))) (aj nB) aE)
  (ac (eJ (be (aa (aA aM (qv 2) (qv 1) pix) (aa (aA aM (qv 2) (qv 3) pix) ag))) (pM rfl (dH (df (qv 2) (qv 3) bO) (dH (df (qv 2) (qv 1) bO) kW))))
  (aj (qst 1 sc.nd (qv 3))))))))))),?_⟩;dsimp only [bM,Cx.nox]
 refine ⟨st,_,rfl,jL (tl:=tl) (r:=r) (td:=td) (s:=s) (wk:=wk)▸DGet.k (k:=Sum.inr "row") hs,?_⟩;refine ⟨fun m Z I=>∃ (f p c:Nat) (bl:Option V) (ys:List V),Z=[some (.ref st),some (.int p),some (.ref r),bl]/\dn (ltT t) f ys p c=dn (ltT t) xs.length xs a wk/\ys.length<=p+f/\I r=some (.lst ys)/\I st=some (.dK (dmK tl r td s c))/\ys.length=xs.length/\(∀y∈ys,y∈xs)/\Kept [st,r] H I/\m=ys.length-p,⟨_,xs.length,a,wk,none,xs,rfl,rfl,Dc,hx,hs,rfl,fun y h=>h,Kept.refl,rfl⟩,?_⟩;rintro m Z I ⟨f,p,c,bl,ys,rfl,hd,hf,h2,M,l2,s2,K2,rfl⟩;have ed:EnR t I ys:=⟨en.tot,fun x el=>by
  obtain ⟨b,ea,ha⟩:=en.mem x (s2 x el);refine ⟨b,ea,K2 _ _ ha (fun z=>?_)⟩;simp only [ax,ah,Dv] at z;rcases z with z | z
  .rw [z,hs] at ha;cases ha
  .rw [z,hx] at ha;cases ha⟩
 refine ⟨.inl ⟨Db,Db⟩,r,_,rfl,.inl (SqL.of h2),_,rfl,aS (fun c1=>?_) (fun c1=>?_)⟩
 rotate_left
 .have ec:¬ 2*(p:Int)+1<(ys.length:Int):=by simpa using c1
  rw [si Dc] at hd;have:=k I;rw [<-hd] at this;exact this h2 M K2
 have ec:2*(p:Int)+1<(ys.length:Int):=by simpa using c1
 refine ⟨fun Z I=>∃ m,m<ys.length-p/\∃ (f p c:Nat) (bl:Option V) (ys:List V),Z=[some (.ref st),some (.int p),some (.ref r),bl]/\dn (ltT t) f ys p c=dn (ltT t) xs.length xs a wk/\ys.length<=p+f/\I r=some (.lst ys)/\I st=some (.dK (dmK tl r td s c))/\ys.length=xs.length/\(∀y∈ys,y∈xs)/\Kept [st,r] H I/\m=ys.length-p,fun σ' H' z=>z,?_⟩;refine ⟨.inl ⟨Db,Db⟩,?_⟩;refine ⟨r,_,rfl,.inl (SqL.of h2),_,rfl,aS (fun c2=>?_) (fun c2=>?_)⟩
 .have ew:2*(p:Int)+1+1<(ys.length:Int):=by simpa using c2
  refine ⟨st,.int c,rfl,gu (tl:=tl) (r:=r) (td:=td) (s:=s) (wk:=c)▸DGet.k (k:=Sum.inr "work") M,st,_,rfl,DPut.k (k:=Sum.inr "work") M (f9 U),?_⟩;rw [show aQ (dmK tl r td s c) (Sum.inr "work":Key) (.int ((c:Nat)+1))=dmK tl r td s (c+1) from iN U (w2:=c+1)];have J:Kept [st] I (upd I st (.dK (dmK tl r td s (c+1)))):=Kept.refl.put Dd;have g3:=ad (H:=I) (a:=st) (o:=.dK (dmK tl r td s (c+1)));generalize upd I st (.dK (dmK tl r td s (c+1)))=H3 at J g3 ⊢;have W:H3 r=some (.lst ys):=J _ _ h2 (fun z=>G (De z));have S:EnR t H3 ys:=ed.bar' J M;have K3:Kept [st,r] H H3:=K2.trans (J.mono fun b hb=>by rw [De hb];simp);obtain ⟨b3,e3,f3,m3,t3⟩:=S.gat (show 2*p+2<ys.length by lia);obtain ⟨b4,e4,f4,m4,t4⟩:=S.gat (show 2*p+1<ys.length by lia);rw [e3,show ((2*p+2:Nat):Int)=2*(p:Int)+1+1 by lia] at t3;rw [e4,show ((2*p+1:Nat):Int)=2*(p:Int)+1 by lia] at t4;refine ⟨_,_,SqL.of W,t3,_,_,SqL.of W,t4,b3,b4,_,_,rfl,rfl,SqT.of f3,SqT.of f4,S.fit _ _,.inr ⟨_,rfl,?_⟩⟩;have Y:2*(p:Int)+1+(if bw (t (g ys (2*p+2))) (t (g ys (2*p+1)))=true then 1 else 0)=((les (ltT t) ys p:Nat):Int):=(tG (lt:=ltT t) Dc).symm;have O:kids ys.length p=2:=by unfold kids;rw [Dm Dc]
  refine ⟨st,.int (c+1:Nat),rfl,gu (tl:=tl) (r:=r) (td:=td) (s:=s) (wk:=(c+1))▸DGet.k (k:=Sum.inr "work") g3,st,_,rfl,DPut.k (k:=Sum.inr "work") g3 (f9 U),?_⟩;rw [show aQ (dmK tl r td s (c+1)) (Sum.inr "work":Key) (.int (((c+1):Nat)+1))=dmK tl r td s ((c+1)+1) from iN U (w2:=(c+1)+1)];have k4:Kept [st] H3 (upd H3 st (.dK (dmK tl r td s ((c+1)+1)))):=Kept.refl.put Dd;have g4:=ad (H:=H3) (a:=st) (o:=.dK (dmK tl r td s ((c+1)+1)));generalize upd H3 st (.dK (dmK tl r td s ((c+1)+1)))=H4 at k4 g4 ⊢;have h4:H4 r=some (.lst ys):=k4 _ _ W (fun z=>G (De z));have er:EnR t H4 ys:=S.bar' k4 g3;have K4:Kept [st,r] H H4:=K3.trans (k4.mono fun b hb=>by rw [De hb];simp);have eh:=g4;have R:les (ltT t) ys p<ys.length:=dw Dc;have lo:=dL (lt:=ltT t) (xs:=ys) (p:=p);obtain ⟨b1,e1,g1,m1,t1⟩:=er.gat R;obtain ⟨b2,e2,M,m2,t2⟩:=er.gat (show p<ys.length by lia);rw [e1] at t1;rw [e2] at t2;rw [<-Y] at t1;refine ⟨_,_,SqL.of h4,t1,_,_,SqL.of h4,t2,b1,b2,_,_,rfl,rfl,SqT.of g1,SqT.of M,er.fit _ _,_,rfl,aS (fun c3=>?_) (fun c3=>?_)⟩
  .have q3:ltT t (g ys (les (ltT t) ys p)) (g ys p)=false:=by
    cases q:ltT t (g ys (les (ltT t) ys p)) (g ys p) with
    | false=>rfl
    | true=>have c4:=(show (!ltT t (g ys (les (ltT t) ys p)) (g ys p))=true from c3);rw [q] at c4;cases c4
   obtain ⟨f,rfl⟩:∃ f0,f=f0+1:=⟨f-1,Dc⟩;rw [gc Dc q3,O] at hd;have:=k H4;rw [<-hd] at this;exact this h4 eh K4
  .have q3:ltT t (g ys (les (ltT t) ys p)) (g ys p)=true:=by
    cases q:ltT t (g ys (les (ltT t) ys p)) (g ys p) with
    | true=>rfl
    | false=>exact absurd (show (!ltT t (g ys (les (ltT t) ys p)) (g ys p))=true by rw [q];rfl) c3
   obtain ⟨f,rfl⟩:∃ f0,f=f0+1:=⟨f-1,Dc⟩;rw [nM Dc q3,O] at hd;refine ⟨_,_,SqL.of h4,t2,_,_,SqL.of h4,t1,sz2,fun p2 hp=>?_⟩;have et:r≠p2:=am h4 hp;have eo:st≠p2:=am eh hp;refine ⟨p2,_,rfl,SqT.of ad,rfl,_,_,rfl,r,ys,_,_,rfl,rfl,by rw [af et];exact h4,cy Dc (by rw [Y];lia),_,_,rfl,r,_,_,_,rfl,rfl,ad,cy Dc (by rw [EA];lia),rfl,?_⟩;have ei:(ys.set (2*(p:Int)+1+(if bw (t (g ys (2*p+2))) (t (g ys (2*p+1)))=true then 1 else 0)).toNat (.ref b2)).set (p:Int).toNat (.ref b1)=sw ys p (les (ltT t) ys p):=by unfold sw;rw [e1,e2,Y,Ej,Ej];exact IZ _ _ Dc
   rw [gg,ei];refine ⟨ys.length-les (ltT t) ys p,Dc,f,les (ltT t) ys p,c+1+1,some (.int (2*(p:Int)+1+(if bw (t (g ys (2*p+2))) (t (g ys (2*p+1)))=true then 1 else 0))),sw ys p (les (ltT t) ys p),?_,hd,by rw [aX];lia,ad,?_,by rw [aX];exact l2,fun y hy=>s2 y (fX Dc R y hy),?_,by rw [aX]⟩
   .show [some (V.ref st),some (V.int (2*(p:Int)+1+(if bw (t (g ys (2*p+2))) (t (g ys (2*p+1)))=true then 1 else 0))),some (V.ref r),some (V.int (2*(p:Int)+1+(if bw (t (g ys (2*p+2))) (t (g ys (2*p+1)))=true then 1 else 0)))]=_;rw [Y]
   .rw [af G.symm,af eo];exact eh
   .exact (K4.new hp).put Dd
 have ew:¬ 2*(p:Int)+1+1<(ys.length:Int):=by simpa using c2
 have Y:2*(p:Int)+1=((les (ltT t) ys p:Nat):Int):=by rw [tU Dc];lia
 have O:kids ys.length p=1:=by unfold kids;rw [Di Dc,Dm Dc]
 refine ⟨st,.int c,rfl,gu (tl:=tl) (r:=r) (td:=td) (s:=s) (wk:=c)▸DGet.k (k:=Sum.inr "work") M,st,_,rfl,DPut.k (k:=Sum.inr "work") M (f9 U),?_⟩;rw [show aQ (dmK tl r td s c) (Sum.inr "work":Key) (.int ((c:Nat)+1))=dmK tl r td s (c+1) from iN U (w2:=c+1)];have J:Kept [st] I (upd I st (.dK (dmK tl r td s (c+1)))):=Kept.refl.put Dd;have g3:=ad (H:=I) (a:=st) (o:=.dK (dmK tl r td s (c+1)));generalize upd I st (.dK (dmK tl r td s (c+1)))=H3 at J g3 ⊢;have W:H3 r=some (.lst ys):=J _ _ h2 (fun z=>G (De z));have S:EnR t H3 ys:=ed.bar' J M;have K3:Kept [st,r] H H3:=K2.trans (J.mono fun b hb=>by rw [De hb];simp);have ee:=g3;have R:les (ltT t) ys p<ys.length:=dw Dc;have lo:=dL (lt:=ltT t) (xs:=ys) (p:=p);obtain ⟨b1,e1,g1,m1,t1⟩:=S.gat R;obtain ⟨b2,e2,M,m2,t2⟩:=S.gat (show p<ys.length by lia);rw [e1] at t1;rw [e2] at t2;rw [<-Y] at t1;refine ⟨_,_,SqL.of W,t1,_,_,SqL.of W,t2,b1,b2,_,_,rfl,rfl,SqT.of g1,SqT.of M,S.fit _ _,_,rfl,aS (fun c3=>?_) (fun c3=>?_)⟩
 .have q3:ltT t (g ys (les (ltT t) ys p)) (g ys p)=false:=by
   cases q:ltT t (g ys (les (ltT t) ys p)) (g ys p) with
   | false=>rfl
   | true=>have c4:=(show (!ltT t (g ys (les (ltT t) ys p)) (g ys p))=true from c3);rw [q] at c4;cases c4
  obtain ⟨f,rfl⟩:∃ f0,f=f0+1:=⟨f-1,Dc⟩;rw [gc Dc q3,O] at hd;have:=k H3;rw [<-hd] at this;exact this W ee K3
 have q3:ltT t (g ys (les (ltT t) ys p)) (g ys p)=true:=by
  cases q:ltT t (g ys (les (ltT t) ys p)) (g ys p) with
  | true=>rfl
  | false=>exact absurd (show (!ltT t (g ys (les (ltT t) ys p)) (g ys p))=true by rw [q];rfl) c3
 obtain ⟨f,rfl⟩:∃ f0,f=f0+1:=⟨f-1,Dc⟩;rw [nM Dc q3,O] at hd;refine ⟨_,_,SqL.of W,t2,_,_,SqL.of W,t1,sz2,fun p2 hp=>?_⟩;have et:r≠p2:=am W hp;have eo:st≠p2:=am ee hp;refine ⟨p2,_,rfl,SqT.of ad,rfl,_,_,rfl,r,ys,_,_,rfl,rfl,by rw [af et];exact W,cy Dc (by rw [Y];lia),_,_,rfl,r,_,_,_,rfl,rfl,ad,cy Dc (by rw [EA];lia),rfl,?_⟩;have ei:(ys.set (2*(p:Int)+1).toNat (.ref b2)).set (p:Int).toNat (.ref b1)=sw ys p (les (ltT t) ys p):=by unfold sw;rw [e1,e2,Y,Ej,Ej];exact IZ _ _ Dc
 rw [gg,ei];refine ⟨ys.length-les (ltT t) ys p,Dc,f,les (ltT t) ys p,c+1,some (.int (2*(p:Int)+1)),sw ys p (les (ltT t) ys p),?_,hd,by rw [aX];lia,ad,?_,by rw [aX];exact l2,fun y hy=>s2 y (fX Dc R y hy),?_,by rw [aX]⟩
 .show [some (V.ref st),some (V.int (2*(p:Int)+1)),some (V.ref r),some (V.int (2*(p:Int)+1))]=_;rw [Y]
 .rw [af G.symm,af eo];exact ee
 exact (K3.new hp).put Dd
abbrev vP:Stmt:=top 40
theorem vX:av ["heap","entry","row","k"] ["heap","entry"] (ak vP):=fs0
def wL:Sp:=fun vs H Q _=>∃ (tl:List (Key×V)) (st r td e:Addr) (s:LS) (wk:Nat) (xs:List V) (t:V->List V),vs=[.ref st,.ref e]/\oh tl/\H st=some (.dK (dmK tl r td s wk))/\H r=some (.lst xs)/\EnR t H (xs++[.ref e])/\xs.length<=900 /\
 ∀H',H' r=some (.lst (up (ltT t) xs.length (xs++[.ref e]) xs.length wk).1)->H' st=some (.dK (dmK tl r td s (up (ltT t) xs.length (xs++[.ref e]) xs.length wk).2))->Kept [st,r] H H'->Q .non H'
theorem yO (F:Fun K "_law_into" "_law_into" vP f fd)(T:Bl mg):au P w K mg base CX0 1 f fd ["heap","entry"] wL:=by
 have sc:=vX;refine F.okQ vX fun el A outer s_ H vs Q E hr h=>?_;obtain ⟨tl,st,r,td,e,s,wk,xs,t,rfl,G,J,hx,en,hl,k⟩:=h;have hu:=hr.units0;have R:r≠st:=aL hx J nqz;refine ⟨_,(ac (qst 2 sc.nd (aJ (aO hr) (qv 0) aq pix))
  (ac (aH (gN Eg Ex Ey cg (qv 2) (aa (qv 1) ag)))
  (ac (qst 3 sc.nd (ao cb (qcB aK T.z_len (aa (qv 2) ag)) ai))
  (aj (cU D8 (aw im (qv 3) ai (aG _)) (ac (cH (aO hr) (qv 0) aq (ao aN (aJ (aO hr) (qv 0) aq pix) ai) rfl)
  (ac (aT (cD (aw (lW hu) (aA aM (qv 2) (qv 3) pix) (aA aM (qv 2) (ao bo (ao cb (qv 3) ai) ai) pix) (aG _))) (aj nB) aE)
  (ac (eJ (be (aa (aA aM (qv 2) (ao bo (ao cb (qv 3) ai) ai) pix) (aa (aA aM (qv 2) (qv 3) pix) ag))) (pM rfl (dH (df (qv 2) (qv 3) bO) (dH (df (qv 2) (ao bo (ao cb (qv 3) ai) ai) bO) kW))))
  (aj (qst 3 sc.nd (ao bo (ao cb (qv 3) ai) ai))))))))))),?_⟩;dsimp only [bM,Cx.nox]
 refine ⟨st,_,rfl,jL (tl:=tl) (r:=r) (td:=td) (s:=s) (wk:=wk)▸DGet.k (k:=Sum.inr "row") J,?_⟩;refine ⟨.inl ⟨rfl,xs,SqL.of hx⟩,r,xs,_,rfl,rfl,hx,aZ Dc,?_⟩;have k1:Kept [r] H (upd H r (.lst (xs++[.ref e]))):=Kept.refl.put Dd;have h1:=ad (H:=H) (a:=r) (o:=.lst (xs++[.ref e]));generalize upd H r (.lst (xs++[.ref e]))=H1 at k1 h1 ⊢;have ln:(xs++[V.ref e]).length=xs.length+1:=by rw [Ds];rfl
 refine ⟨r,_,rfl,.inl (SqL.of h1),?_⟩;have et:((xs++[V.ref e]).length:Int)-1=((xs.length:Nat):Int):=by lia
 refine ⟨fun m Z O=>∃ (f p c:Nat) (ys:List V),Z=[some (.ref st),some (.ref e),some (.ref r),some (.int p)]/\up (ltT t) f ys p c=up (ltT t) xs.length (xs++[.ref e]) xs.length wk/\p<=f/\p<ys.length/\O r=some (.lst ys)/\O st=some (.dK (dmK tl r td s c))/\ys.length=xs.length+1/\(∀y∈ys,y∈xs++[.ref e])/\Kept [st,r] H O/\m=p,⟨_,xs.length,xs.length,wk,xs++[.ref e],(by show [some (V.ref st),some (V.ref e),some (V.ref r),some (V.int (((xs++[V.ref e]).length:Int)-1))]=_;rw [et]),rfl,Dj _,Dc,h1,k1 _ _ J (fun z=>R (De z).symm),ln,fun y h=>h,k1.mono (fun b hb=>by rw [De hb];simp),rfl⟩,?_⟩;rintro p Z O ⟨f,p',c,ys,rfl,hd,hf,hp,h2,g2,l2,s2,K2,rfl⟩;have eh:EnR t O ys:=⟨en.tot,fun x ee=>by
  obtain ⟨b,W,Y⟩:=en.mem x (s2 x ee);refine ⟨b,W,K2 _ _ Y (fun z=>?_)⟩;simp only [ax,ah,Dv] at z;rcases z with z | z
  .rw [z,J] at Y;cases Y
  .rw [z,hx] at Y;cases Y⟩
 refine ⟨_,rfl,aS (fun c1=>?_) (fun c1=>?_)⟩
 rotate_left
 .have er:¬ (p:Int)>0:=by simpa using c1
  rw [up_stop Dc] at hd;have:=k O;rw [<-hd] at this;exact this h2 g2 K2
 have er:(p:Int)>0:=by simpa using c1
 obtain ⟨f,rfl⟩:∃ f0,f=f0+1:=⟨f-1,Dc⟩;have M:(p-1) / 2<ys.length:=by lia
 have W:((p:Int)-1) / 2=(((p-1) / 2:Nat):Int):=by lia
 refine ⟨fun Z O=>∃ m',m'<p/\∃ (f p c:Nat) (ys:List V),Z=[some (.ref st),some (.ref e),some (.ref r),some (.int p)]/\up (ltT t) f ys p c=up (ltT t) xs.length (xs++[.ref e]) xs.length wk/\p<=f/\p<ys.length/\O r=some (.lst ys)/\O st=some (.dK (dmK tl r td s c))/\ys.length=xs.length+1/\(∀y∈ys,y∈xs++[.ref e])/\Kept [st,r] H O/\m'=p,fun σ' H' z=>z,?_⟩;refine ⟨st,.int c,rfl,gu (tl:=tl) (r:=r) (td:=td) (s:=s) (wk:=c)▸DGet.k (k:=Sum.inr "work") g2,st,_,rfl,DPut.k (k:=Sum.inr "work") g2 (f9 G),?_⟩;rw [show aQ (dmK tl r td s c) (Sum.inr "work":Key) (.int ((c:Nat)+1))=dmK tl r td s (c+1) from iN G (w2:=c+1)];have k3:Kept [st] O (upd O st (.dK (dmK tl r td s (c+1)))):=Kept.refl.put Dd;have g3:=ad (H:=O) (a:=st) (o:=.dK (dmK tl r td s (c+1)));generalize upd O st (.dK (dmK tl r td s (c+1)))=H3 at k3 g3 ⊢;have I:H3 r=some (.lst ys):=k3 _ _ h2 (fun z=>R (De z));have S:EnR t H3 ys:=eh.bar' k3 g2;have K3:Kept [st,r] H H3:=K2.trans (k3.mono fun b hb=>by rw [De hb];simp);obtain ⟨b1,e1,f1,m1,t1⟩:=S.gat hp;obtain ⟨b2,e2,f2,m2,t2⟩:=S.gat M;rw [e1] at t1;rw [e2,<-W] at t2;refine ⟨_,_,SqL.of I,t1,⟨Db,Db⟩,_,_,SqL.of I,t2,b1,b2,_,_,rfl,rfl,SqT.of f1,SqT.of f2,S.fit _ _,_,rfl,aS (fun c3=>?_) (fun c3=>?_)⟩
 .have q3:ltT t (g ys p) (g ys ((p-1) / 2))=false:=by
   cases q:ltT t (g ys p) (g ys ((p-1) / 2)) with
   | false=>rfl
   | true=>have c4:=(show (!ltT t (g ys p) (g ys ((p-1) / 2)))=true from c3);rw [q] at c4;cases c4
  rw [up_stay Dc q3] at hd;have:=k H3;rw [<-hd] at this;exact this I g3 K3
 have q3:ltT t (g ys p) (g ys ((p-1) / 2))=true:=by
  cases q:ltT t (g ys p) (g ys ((p-1) / 2)) with
  | true=>rfl
  | false=>exact absurd (show (!ltT t (g ys p) (g ys ((p-1) / 2)))=true by rw [q];rfl) c3
 rw [up_go Dc q3] at hd;refine ⟨⟨Db,Db⟩,_,_,SqL.of I,t2,_,_,SqL.of I,t1,sz2,fun p2 U=>?_⟩;have eo:r≠p2:=am I U;have ed:st≠p2:=am g3 U;refine ⟨p2,_,rfl,SqT.of ad,rfl,_,_,rfl,r,ys,_,_,rfl,rfl,by rw [af eo];exact I,cy Dc Dc,_,_,rfl,⟨Db,Db⟩,r,_,_,_,rfl,rfl,ad,cy Dc (by rw [EA,W];lia),rfl,?_⟩;have ei:(ys.set (p:Int).toNat (.ref b2)).set (((p:Int)-1) / 2).toNat (.ref b1)=sw ys p ((p-1) / 2):=by unfold sw;rw [e1,e2,W];rfl
 rw [gg,ei];refine ⟨⟨Db,Db⟩,(p-1) / 2,Dc,f,(p-1) / 2,c+1,sw ys p ((p-1) / 2),?_,hd,Dc,by rw [aX];exact M,ad,?_,by rw [aX];exact l2,fun y hy=>s2 y (fX hp M y hy),?_,rfl⟩
 .show [some (V.ref st),some (V.ref e),some (V.ref r),some (V.int (((p:Int)-1) / 2))]=_;rw [W]
 .rw [af R.symm,af ed];exact g3
 exact (K3.new U).put Dd
abbrev vB:Stmt:=top 38
theorem vR:av ["slack"] ["slack"] (ak vB):=fs0
def qm:Sp:=fun vs H Q _=>∃ (z:Int),vs=[.int z]/\∀st r td H',H st=none->H r=none->H td=none->BS H' st r td (Gm.newL z) 0->Same H H'->Q (.ref st) H'
theorem zh (F:Fun K "_law_new" "_law_new" vB f fd)(T:Bl mg):au P w K mg base CX0 1 f fd ["slack"] qm:=by
 have sc:=vR;refine F.okQ vR fun ee A outer s H vs Q E hr h=>?_;obtain ⟨z,rfl,k⟩:=h;have hu:=hr.units0;refine ⟨_,(aj (aD (wM aq (bu ag) aq eP aq ai aq (qv 0) aq ai))),?_⟩;refine fun st I=>?_;refine gnew I fun H1 M U=>?_;refine ⟨sz0,fun r O=>?_⟩;refine gnew O fun H2 R J=>?_;refine fun td c=>?_;refine gnew c fun H3 W g3=>?_;have n1:st≠r:=am U O;have G:st≠td:=am (R _ _ U) c;have n3:r≠td:=am J c;refine ⟨W _ _ (R _ _ U),[(Sum.inr "row",.ref r),(Sum.inr "now",.ref td),(Sum.inr "next",.int 0),(Sum.inr "slack",.int z),(Sum.inr "work",.int 0)],rfl,by show 5<=15;decide,?_⟩;rw [wT];have S:∀{b:Addr} {X Y:Hp},Same X Y->Y b=none->X b=none:=fun {b X Y} sm h=>by
  cases e:X b with
  | none=>rfl
  | some o=>rw [sm b o e] at h;cases h
 refine k st r td _ I (S M O) (S (M.trans R) c) ⟨ad,⟨[],by rw [af n1.symm];exact W _ _ J,RR.nil⟩,⟨[],by rw [af G.symm];exact g3,KR.nil⟩,G⟩ fun b o e=>?_;rw [af (am e I)];exact W _ _ (R _ _ (M _ _ e))
abbrev lR:Stmt:=top 42
theorem nO:av ["heap","entry"] ["heap","entry"] (ak lR):=fs0
def iZ:Sp:=fun vs H Q _=>∃ (tl:List (Key×V)) (st r td a:Addr) (s:LS) (wk:Nat) (e:En),vs=[.ref st,.ref a]/\DmAt tl H st r td s wk/\H a=some (.tup (enV e))/\Q (.bl (Gm.holds s.there e)) H
theorem uB (F:Fun K "_law_stands" "_law_stands" lR f fd)(T:Bl mg):au P w K mg base CX0 1 f fd ["heap","entry"] iZ:=by
 have sc:=nO;refine F.okQ nO fun G A outer s H vs Q E R h=>?_;obtain ⟨tl,st,r,td,a,s,wk,e,rfl,O,U,k⟩:=h;have W:=R.units0;obtain ⟨ks,hd,M⟩:=O.ht;refine ⟨_,(aj (aD (cP (rS W) (nY (aO R) (aJ (aO R) (qv 0) aq pix) (aA aI (qv 1) ai pix) ⟨rfl,rfl,rfl,rfl⟩) (qv 1) (aG _)))),?_⟩;refine ⟨st,_,rfl,O.now,td,rfl,.inl ⟨ks,.inl hd⟩,_,_,SqT.of U,rfl,_,DGet.k (k:=Sum.inr e.n) hd,a,_,rfl,SqT.of U,⟨_,_,_,rfl⟩,?_⟩;rcases M.get e.n with ⟨c,I⟩ | ⟨b,x,c,I,hb⟩
 .rw [c];refine .inl ⟨rfl,?_⟩;have S:Gm.holds s.there e=false:=by unfold Gm.holds;rw [I];exact DF (fun z=>nomatch z)
  rw [S] at k;exact k
 rw [c];refine .inr ⟨b,_,rfl,SqT.of hb,⟨_,_,_,rfl⟩,?_⟩;have S:Gm.holds s.there e=decide (enV x=enV e):=by
  unfold Gm.holds;rw [I];rw [EL,Ed,Ed];constructor
  .intro z;rw [DJ z]
  .intro z;obtain ⟨xw,J,xs⟩:=x;obtain ⟨Y,en,es⟩:=e;unfold enV at z;injection z with z1 z;injection z with z2 z;injection z with z3 z;injection z1 with z1;injection z2 with z2;injection z3 with z3;rw [show xw=Y from z1,show J=en from z2,show xs=es from z3]
 rw [S] at k;exact k
abbrev vY:Stmt:=top 41
theorem xu:av ["heap","last"] ["heap"] (ak vY):=fs0
def qw:Sp:=fun vs H Q _=>∃ (tl:List (Key×V)) (st r td:Addr) (s:LS),vs=[.ref st]/\DmAt tl H st r td s s.looks/\0<s.row.length/\s.row.length<=1000 /\
 ∀H',DmAt tl H' st r td (Gm.cut slt s) (Gm.cut slt s).looks->Kept [st,r] H H'->Q .non H'
theorem za (F:Fun K "_law_out" "_law_out" vY f fd)(T:Bl mg)(I:au P w K mg base CX0 1 fn fdn ["heap","k"] lQ)(c:Nm K mg "_law_down" fn fdn ["heap","k"]):au P w K mg base CX0 2 f fd ["heap"] qw:=by
 have sc:=xu;refine F.okQ xu fun el A outer s_ H vs Q E Y h=>?_;obtain ⟨tl,st,r,td,s,rfl,O,h0,hl,k⟩:=h;have hu:=Y.units0;obtain ⟨xs,hx,rr⟩:=O.hr;obtain ⟨n1,n2⟩:=O.apart;have lx:=rr.len;have eg:xs[xs.length-1]?=some (g xs (xs.length-1)):=by rw [g_get Dc];exact bt _
 have eh:g xs (xs.length-1)∈xs:=DV eg;have ld:xs.dropLast.length=xs.length-1:=Eh;have em:=tR (H:=H) (xs:=xs);rw [rr.eq] at em;have r2:=rr.sub (ys:=(cutf (ltT (bZ H)) xs).1) fun y hy=>(cS Dc).mem_iff.mp (Dr _ hy);have J:∀H',H' r=some (.lst (cutf (ltT (bZ H)) xs).1)->H' st=some (.dK (dmK tl r td s (s.looks+(cutf (ltT (bZ H)) xs).2)))->Kept [st,r] H H'->Q .non H':=fun H' h1 h2 kk=>by
  have tk:=O.tk kk fun b U=>by simp only [ax,ah,Dv] at U ⊢;rcases U with z | z <;> simp [z]
  obtain ⟨ks,hd,kr⟩:=O.ht;have e2:(cutf (ltT (bZ H)) xs).2=(Hg.cutf lE s.row).2:=by rw [em]
  refine k H' ⟨?_,⟨_,h1,?_⟩,⟨ks,kk _ _ hd ?_,kr.stay tk⟩,O.ne,O.ok⟩ kk
  .rw [e2] at h2;exact h2
  .show RR H' _ (Hg.cutf lE s.row).1;rw [em];exact r2.stay tk
  .simp only [ax,ah,Dv,Fv];exact ⟨O.ne.symm,n2.symm⟩
 refine ⟨_,(ac (qst 1 sc.nd (pZ Eg Iz IA xO (aJ (aO Y) (qv 0) aq pix)))
  (aj (aT (aw (nQ hu) (aJ (aO Y) (qv 0) aq pix) (bu ag) (aG _)) (ac (eJ (qv 1) (df (aJ (aO Y) (qv 0) aq pix) ai bO))
  (aj (aH (qcl I Y c aB (aa (qv 0) (aa ai ag)))))) aE))),?_⟩
 refine ⟨st,_,rfl,O.row,.inl ⟨rfl,_,SqL.of hx⟩,r,xs,_,rfl,rfl,hx,eg,?_⟩;have ei:(upd H r (.lst xs.dropLast)) st=some (.dK (dmK tl r td s s.looks)):=by rw [af n1.symm];exact O.hs
 refine ⟨st,_,rfl,jL (tl:=tl) (r:=r) (td:=td) (s:=s) (wk:=s.looks)▸DGet.k (k:=Sum.inr "row") ei,sz0,fun q hq=>?_⟩;have ea:r≠q:=am (ad (H:=H) (a:=r) (o:=.lst xs.dropLast)) hq;have ee:H q=none:=by rw [<-af ea.symm (H:=H) (o:=.lst xs.dropLast)];exact hq
 have R:(upd (upd H r (.lst xs.dropLast)) q (.lst [])) r=some (.lst xs.dropLast):=by rw [af ea];exact ad
 have M:Kept [st,r] H (upd (upd H r (.lst xs.dropLast)) q (.lst [])):=((Kept.refl.put Dd).newer ee);have G:Kept [r] H (upd (upd H r (.lst xs.dropLast)) q (.lst [])):=((Kept.refl.put Dd).newer ee);have eo:=O.tk G fun b U=>by rw [De U];simp
 have et:(upd (upd H r (.lst xs.dropLast)) q (.lst [])) q=some (.lst []):=ad;generalize upd (upd H r (.lst xs.dropLast)) q (.lst [])=H2 at R M G eo et;have W:=G _ _ O.hs (fun z=>n1 (De z).symm);refine ⟨r,q,xs.dropLast,rfl,rfl,SqL.of R,SqL.of et,_,rfl,aS (fun c1=>?_) (fun c1=>?_)⟩
 rotate_left
 .have S:xs.dropLast=[]:=by
   cases e:xs.dropLast with
   | nil=>rfl
   | cons a b=>exact absurd (show (!decide (xs.dropLast=[]))=true by rw [DF (by rw [e];simp)];rfl) c1
  have ec:cutf (ltT (bZ H)) xs=([],0):=cX (by have:xs.dropLast.length=0:=(by rw [S];rfl);lia);exact J H2 (by rw [ec,R,S]) (by rw [ec];exact W) M
 have S:xs.dropLast≠[]:=fun z=>by rw [Dk z] at c1;cases c1
 have c2:xs.dropLast.length≠0:=fun z=>S (DL.mp z);have l2:(xs.dropLast.set 0 (g xs (xs.length-1))).length=xs.dropLast.length:=EA;have ec:cutf (ltT (bZ H)) xs=dn (ltT (bZ H)) xs.dropLast.length (xs.dropLast.set 0 (g xs (xs.length-1))) 0 0:=by unfold cutf;rw [Di S]
 refine ⟨st,_,rfl,jL (tl:=tl) (r:=r) (td:=td) (s:=s) (wk:=s.looks)▸DGet.k (k:=Sum.inr "row") W,r,xs.dropLast,_,0,rfl,rfl,R,cy Dc Dc,?_⟩;have er:EnR (bZ H) (upd H2 r (.lst (xs.dropLast.set 0 (g xs (xs.length-1))))) (xs.dropLast.set 0 (g xs (xs.length-1))):=by
  refine EnR.put ⟨gh H,fun x ed=>?_⟩ R;have hm:x∈xs:=by
   rcases Hi ed with z | z
   .exact (IB xs).mem z
   .rw [z];exact eh
  obtain ⟨a,e1,e2⟩:=rr.en.mem x hm;exact ⟨a,e1,eo _ _ e2⟩
 refine ⟨tl,st,r,td,s,s.looks,_,0,bZ H,rfl,O.ok,by rw [af n1.symm];exact W,ad,er,Dc,fun H' h' g' f'=>?_⟩;rw [l2,lC,<-ec] at h' g';refine J _ h' g' ?_;intro b o e U;have nb:b≠r:=fun z=>U (by rw [z];simp);refine f' b o ?_ U;rw [af nb];exact M b o e U
abbrev l7:Stmt:=top 43
theorem ol:av ["heap"] ["heap"] (ak l7):=fs0
def nN:Sp:=fun vs H Q _=>∃ (tl:List (Key×V)) (st r td:Addr) (s:LS),vs=[.ref st]/\DmAt tl H st r td s s.looks/\Gm.LInv slt s/\s.there≠[]/\s.row.length<=1000 /\
 ∀H',DmAt tl H' st r td (Gm.leastL slt s) (Gm.leastL slt s).looks->Kept [st,r] H H'->Q .non H'
theorem uL {fi fo:Addr}{G W:FuncData}(F:Fun K "_law_clean" "_law_clean" l7 f fd)(T:Bl mg)(S:au P w K mg base CX0 1 fi G ["heap","entry"] iZ)(I:Nm K mg "_law_stands" fi G ["heap","entry"])(R:au P w K mg base CX0 2 fo W ["heap"] qw)(U:Nm K mg "_law_out" fo W ["heap"]):au P w K mg base CX0 3 f fd ["heap"] nN:=by
 have sc:=ol;refine F.okQ ol fun er A outer s_ H vs Q E hr h=>?_;obtain ⟨tl,st,r,td,s,rfl,O,LI,eo,hl,k⟩:=h;have hu:=hr.units0;refine ⟨_,(aj (cU D8 (cD (ca (qcl S hr I aB (aa (qv 0) (aa (aA aM (aJ (aO hr) (qv 0) aq pix) ai pix) ag))))) (aj (aH (qcl R hr U aB (aa (qv 0) ag)))))),?_⟩;refine ⟨fun m Z M=>∃ (f:Nat) (c:LS),Z=[some (.ref st)]/\DmAt tl M st r td c c.looks/\Gm.LInv slt c/\c.there=s.there/\c.row.length<=f/\c.row.length<=s.row.length/\Gm.clean slt f c=Gm.leastL slt s/\Kept [st,r] H M/\m=c.row.length,⟨_,s.row.length,s,rfl,O,LI,rfl,Dj _,Dj _,rfl,Kept.refl,rfl⟩,?_⟩;rintro m Z M ⟨f,c,rfl,Y,J,e5,hf,ed,hc,K5,rfl⟩;obtain ⟨eh,ee,et⟩:=Y.hr;have h0:=Gm.row_pos J (by rw [e5];exact eo);obtain ⟨a,ea,ha,ia⟩:=et.at h0;refine ⟨st,_,rfl,Y.row,_,_,SqL.of ee,ia,tl,st,r,td,a,c,_,_,rfl,Y,ha,_,rfl,?_⟩;cases c2:Gm.holds c.there (Hg.g c.row 0) with
 | false =>
  have c3:¬ Gm.holds c.there (Hg.g c.row 0)=true:=by rw [c2];exact Dy
  obtain ⟨f,rfl⟩:∃ f0,f=f0+1:=⟨f-1,Dc⟩;have ei:Gm.clean slt f (Gm.cut slt c)=Gm.leastL slt s:=by
   rw [<-hc]
   conv=>rhs;unfold Gm.clean
   rw [Di c3]
  have lc:(Gm.cut slt c).row.length=c.row.length-1:=Hg.cutf_len;refine iq ?_;refine ⟨fun Z M=>∃ m,m<c.row.length/\∃ (f:Nat) (c:LS),Z=[some (.ref st)]/\DmAt tl M st r td c c.looks/\Gm.LInv slt c/\c.there=s.there/\c.row.length<=f/\c.row.length<=s.row.length/\Gm.clean slt f c=Gm.leastL slt s/\Kept [st,r] H M/\m=c.row.length,fun σ' H' z=>z,?_⟩;refine ⟨tl,st,r,td,c,rfl,Y,h0,Dc,fun H7 O7 k7=>?_⟩;exact ⟨(Gm.cut slt c).row.length,Dc,f,Gm.cut slt c,rfl,O7,Gm.cut_inv slt_slo J h0 c3,e5,Dc,Dc,ei,K5.trans k7,rfl⟩
 | true =>
  refine bW ?_;have ec:Gm.leastL slt s=c:=by
   rw [<-hc];cases f with
   | zero=>rfl
   | succ f=>unfold Gm.clean;rw [Dm c2]
  exact k M (by rw [ec];exact Y) K5
theorem mr {α:Type}{xs:List α}{f:α->Bool}{x:α}(h:xs[i]?=some x):(xs.take (i+1)).filter f=(xs.take i).filter f++(if f x=true then [x] else []):=by rw [Ef,h,Gr];congr 1;show List.filter f [x]=_;rw [D5];rfl
abbrev iR:Stmt:=top 44
theorem ng:av ["heap","gone","k"] ["heap"] (ak iR):=fs0
def i5:Sp:=fun vs H Q _=>∃ (tl:List (Key×V)) (st r td:Addr) (s:LS),vs=[.ref st]/\DmAt tl H st r td s s.looks/\s.row.length<=1000 /\
 ∀(r':Addr) (H':Hp),DmAt tl H' st r' td (Gm.sweep slt s) (Gm.sweep slt s).looks->Kept [st,r] H H'->(r'=r∨H r'=none)->Q .non H'
theorem uD {fg fh:Addr}{eo ec:FuncData}(F:Fun K "_law_sweep" "_law_sweep" iR f fd)(T:Bl mg)(c:au P w K mg base CX0 1 fg eo ["heap","entry"] iZ)(I:Nm K mg "_law_stands" fg eo ["heap","entry"])(R:au P w K mg base CX0 1 fh ec ["heap","k"] lQ)(S:Nm K mg "_law_down" fh ec ["heap","k"]):au P w K mg base CX0 2 f fd ["heap"] i5:=by
 have sc:=ng;refine F.okQ ng fun eN A outer s_ H vs Q E J h=>?_;obtain ⟨tl,st,r,td,s,rfl,O,hl,k⟩:=h;have hu:=J.units0;obtain ⟨ks,hd,kr⟩:=O.ht;obtain ⟨xs,hx,rr⟩:=O.hr;obtain ⟨n1,n2⟩:=O.apart;have lx:=rr.len;have ej:=kr.len;refine ⟨_,(ac (qst 1 sc.nd (ao cb (qcB aK T.z_len (aa (aJ (aO J) (qv 0) aq pix) ag)) (qcB bP T.z_len (aa (aJ (aO J) (qv 0) aq pix) ag))))
  (aj (aT (QW.pt (dA (aw im (qv 1) (qcB bP T.z_len (aa (aJ (aO J) (qv 0) aq pix) ag)) (aG _)) (cG (aw im (qv 1) (aJ (aO J) (qv 0) aq pix) (aG _))))) (ac (cH (aO J) (qv 0) aq (di (Blk.of (N:=["heap","gone","k"]) (esc:=ak iR) (NB:=["heap"]) (cap:=[0]) rfl rfl (fun y hy=>bH hy) rfl C9 C9 C9 rfl C9 rfl C9) rfl rfl (fL (aJ (aO J) (qv 0) aq pix)) (fun C fp s₀ H₀=>(mS (ca (qcl c J I aB (aa (qv 1) (aa (qv 0) ag)))))) (fun C fp s₀ H₀=>(qv 0))) rfl)
  (aj (cE D8 rfl (kK rfl T.z_range (aa (ao cb (ao bo (qcB aK T.z_len (aa (aJ (aO J) (qv 0) aq pix) ag)) ai) ai) (aa (kI hG ai) (aa (kI hG ai) ag)))) (bQ (i:=2) sc.nd rfl (Or.inl rfl)) (aj (aH (qcl R J S aB (aa (qv 0) (aa (qv 2) ag)))))))) aE))),?_⟩
 refine ⟨st,_,rfl,O.row,r,_,rfl,.inl (SqL.of hx),st,_,rfl,O.now,td,ks,rfl,hd,?_⟩;have G:Gm.due s=(decide ((xs.length:Int)-(ks.length:Int)>(ks.length:Int))&&decide ((xs.length:Int)-(ks.length:Int)>s.slack)):=by unfold Gm.due;rw [lx,ej]
 have no:¬ Gm.due s=true->Q .non H:=fun hn=>by
  have e:Gm.sweep slt s=s:=by unfold Gm.sweep;rw [Di hn]
  exact k r H (by rw [e];exact O) Kept.refl (.inl rfl)
 refine ⟨st,_,rfl,O.now,td,ks,rfl,hd,_,rfl,aS (fun c1=>?_) (fun c1=>?_)⟩
 rotate_left
 .refine bW (no fun z=>?_);rw [G,DP] at z;exact c1 z.1
 refine ⟨st,_,rfl,O.slack,_,rfl,aS (fun c2=>?_) (fun c2=>?_)⟩
 rotate_left
 .refine no fun z=>?_;rw [G,DP] at z;exact c2 z.2
 have ek:Gm.due s=true:=by rw [G,DP];exact ⟨c1,c2⟩
 refine ⟨st,_,rfl,O.row,r,rfl,⟨_,SqL.of hx⟩,fun D hD=>?_⟩;refine fW (K:=K) (a:=r) (xs:=xs) (fun i ys W=>W D=some (.lst ys)/\ys=(xs.take i).filter (fun x=>Gm.holds s.there (tE H x))/\Same H W) ⟨ad,rfl,ar hD⟩ (fun i ys W z=>⟨z.1,SqL.of (z.2.2 _ _ hx)⟩) ?_ ?_
 .rintro i x ys W hi ⟨h4,Y,M⟩;have mx:=DV hi;have li:i<xs.length:=(Dz.mp hi).1;obtain ⟨a,rfl,ha⟩:=rr.mem x mx;have ft:=mr (f:=fun x=>Gm.holds s.there (tE H x)) hi;have ly:ys.length<=xs.length:=by rw [Y];exact Dq (Ec _ _) (List.length_take_le' _ _)
  refine ⟨tl,st,r,td,a,s,_,tE H (.ref a),rfl,O.same M,M _ _ ha,_,rfl,aS (fun c3=>⟨h4,aZ Dc,_,Dc,rfl,Dc,ad,?_,nV M hD⟩) (fun c3=>⟨_,Dc,rfl,Dc,h4,?_,M⟩)⟩
  .rw [ft,Dm c3,Y]
  .rw [ft,Di c3,Ez,Y]
 rintro ys W ⟨h4,Y,M⟩;rw [D9] at Y;have ly:ys.length<=xs.length:=by rw [Y];exact Ec _ _
 have r4:RR W ys (s.row.filter (Gm.holds s.there)):=by
  have r0:=(rr.sub (ys:=ys) fun y hy=>by rw [Y] at hy;exact (D7.mp hy).1).stay fun b l h=>M _ _ h;have em:ys.map (tE H)=s.row.filter (Gm.holds s.there):=by rw [Y,<-rr.eq,Iv];rfl
  rw [em] at r0;exact r0
 refine ⟨st,_,rfl,DPut.k (k:=Sum.inr "row") (M _ _ O.hs) (f9 O.ok),?_⟩;obtain ⟨U,e1⟩:∃ U:LS,U={ s with row:=s.row.filter (Gm.holds s.there) }:=⟨_,rfl⟩;have ey:U.there=s.there:=by rw [e1]
 have ee:U.row=s.row.filter (Gm.holds s.there):=by rw [e1]
 have ez:U.looks=s.looks:=by rw [e1]
 have ep:aQ (dmK tl r td s s.looks) (Sum.inr "row":Key) (.ref D)=dmK tl D td U s.looks:=An O.ok (by rw [e1]) (by rw [e1]);rw [ep];have eh:st≠D:=am O.hs hD;have k5:Kept [st] W (upd W st (.dK (dmK tl D td U s.looks))):=Kept.refl.put Dd;have t5:=(O.same M).tk k5 fun b hb=>by rw [De hb];simp
 have O5:DmAt tl (upd W st (.dK (dmK tl D td U s.looks))) st D td U s.looks:=⟨ad,⟨ys,by rw [af eh.symm];exact h4,by rw [ee];exact r4.stay t5⟩,⟨ks,by rw [af O.ne.symm];exact M _ _ hd,by rw [ey];exact (kr.stay fun b l h=>M _ _ h).stay t5⟩,O.ne,O.ok⟩;have K5:Kept [st,r] H (upd W st (.dK (dmK tl D td U s.looks))):=(Kept.of_same M).trans (k5.mono fun b hb=>by rw [De hb];simp);generalize upd W st (.dK (dmK tl D td U s.looks))=H5 at k5 t5 O5 K5 ⊢;obtain ⟨zs,hz,rz⟩:=O5.hr;have lz:=rz.len;have eA:zs.length<=1000:=by rw [lz,ee];exact Dq (Ec _ _) hl
 have en:=rz.en;obtain ⟨t,et⟩:∃ t,t=bZ H5:=⟨_,rfl⟩;rw [<-et] at en;have eS:D≠st:=eh.symm;refine ⟨st,_,rfl,O5.row,D,_,rfl,.inl (SqL.of hz),⟨Db,Db⟩,_,_,rfl,⟨Dc,Dc,Dc,Dc⟩,?_⟩;have el:((zs.length:Int) / 2-1 - -1).toNat=zs.length / 2:=by lia
 refine jF (lo:=(zs.length:Int) / 2-1) (n:=((zs.length:Int) / 2-1 - -1).toNat) (fun i Z H6=>∃ (lk:Nat) (o:Option V) (us:List V) (og:V),Z=[some (.ref st),some og,o]/\H6 D=some (.lst us)/\H6 st=some (.dK (dmK tl D td U lk))/\us.length=zs.length/\(∀y∈us,y∈zs)/\Kept [st,D] H5 H6/\mk (ltT t) (zs.length / 2-i) us lk=mk (ltT t) (zs.length / 2) zs s.looks)
  ⟨s.looks,none,zs,_,rfl,hz,O5.hs,rfl,fun y h=>h,Kept.refl,rfl⟩ ?_ ?_
 .rintro i Z H6 hi ⟨lk,o,us,og,rfl,h6,g6,l6,s6,f6,m6⟩;rw [el] at hi;have ef:EnR t H6 us:=⟨en.tot,fun x eg=>by
   obtain ⟨b,ea,ha⟩:=en.mem x (s6 x eg);refine ⟨b,ea,f6 _ _ ha (fun z=>?_)⟩;simp only [ax,ah,Dv] at z;rcases z with z | z
   .rw [z,O5.hs] at ha;cases ha
   .rw [z,hz] at ha;cases ha⟩
  have ei:(zs.length:Int) / 2-1-(i:Int)=((zs.length / 2-1-i:Nat):Int):=by lia
  refine ⟨tl,st,D,td,U,lk,us,zs.length / 2-1-i,t,(by show [V.ref st,V.int ((zs.length:Int) / 2-1-(i:Int))]=_;rw [ei]),O.ok,g6,h6,ef,Dc,fun H7 h7 g7 f7=>?_⟩;refine ⟨_,_,_,og,rfl,h7,g7,dn_len.trans l6,fun y hy=>s6 y (dn_perm.mem_iff.mp hy),f6.trans f7,?_⟩;rw [<-m6,show zs.length / 2-i=(zs.length / 2-(i+1))+1 by lia]
  conv=>rhs;unfold mk
  rw [show zs.length / 2-(i+1)=zs.length / 2-1-i by lia];rw [lC]
 rintro Z H6 ⟨lk,o,us,og,rfl,h6,g6,l6,s6,f6,m6⟩;rw [el,Jc] at m6;have m5:(us,lk)=mk (ltT t) (zs.length / 2) zs s.looks:=m6;have em:=qq (H:=H5) (k:=zs.length / 2) (xs:=zs) (lk:=s.looks);rw [rz.eq,<-et,<-m5,lz,ee] at em;have ed:=O5.tk f6 fun b hb=>by simp only [ax,ah,Dv] at hb ⊢;rcases hb with z | z <;> simp [z]
 have ru:RR H6 us (us.map (tE H5)):=(rz.sub s6).stay ed;have es:Gm.sweep slt s={ U with row:=us.map (tE H5),looks:=lk }:=by unfold Gm.sweep;rw [Dm ek];unfold Gm.swept;have e2:Hg.mk (Gm.ltE slt) ((s.row.filter (Gm.holds s.there)).length / 2) (s.row.filter (Gm.holds s.there)) s.looks=(us.map (tE H5),lk):=em;rw [mD] at e2;injection e2 with e3 Y;rw [e3,Y,e1]
 obtain ⟨kt,er,eb⟩:=O5.ht;have ew:D≠td:=fun z=>by rw [z,er] at hz;cases hz
 refine k D H6 ?_ ?_ (.inr hD)
 .rw [es];exact ⟨g6,⟨us,h6,ru⟩,⟨kt,f6 _ _ er (by simp only [ax,ah,Dv,Fv];exact ⟨O5.ne.symm,ew.symm⟩),eb.stay ed⟩,O5.ne,O5.ok⟩
 intro b o e nb;refine f6 b o (K5 b o e nb) fun z=>?_;simp only [ax,ah,Dv] at z nb;rcases z with z | z
 .exact nb (.inl z)
 exact am e hD z
abbrev p4:Stmt:=top 45
theorem rM:av ["heap","name","worth","entry"] ["heap","name","worth"] (ak p4):=fs0
def tV:Sp:=fun vs H Q _=>∃ (tl:List (Key×V)) (st r td:Addr) (s:LS) (n:Str) (w:Int),vs=[.ref st,.str n,.int w]/\DmAt tl H st r td s s.looks/\s.row.length<=900/\s.there.length<=900 /\
 ∀(r':Addr) (H':Hp),DmAt tl H' st r' td (Gm.putL slt s n w) (Gm.putL slt s n w).looks->Kept [st,r,td] H H'->(r'=r∨H r'=none)->Q .non H'
theorem xH {fi fs:Addr}{ei:FuncData}(F:Fun K "_law_give" "_law_give" p4 f fd)(T:Bl mg)(R:au P w K mg base CX0 1 fi ei ["heap","entry"] wL)(S:Nm K mg "_law_into" fi ei ["heap","entry"])(c:au P w K mg base CX0 2 fs fds ["heap"] i5)(I:Nm K mg "_law_sweep" fs fds ["heap"]):au P w K mg base CX0 3 f fd ["heap","name","worth"] tV:=by
 have sc:=rM;refine F.okQ rM fun ez A outer s_ H vs Q E J h=>?_;obtain ⟨M,st,r,td,s,n,w,rfl,O,h1,h2,k⟩:=h;have hu:=J.units0;obtain ⟨n1,n2⟩:=O.apart;refine ⟨_,(ac (qst 3 sc.nd (be (aa (qv 2) (aa (qv 1) (aa (aJ (aO J) (qv 0) aq pix) ag)))))
  (ac (cH (aO J) (qv 0) aq (ao aN (aJ (aO J) (qv 0) aq pix) ai) rfl)
  (ac (cH (aO J) (aJ (aO J) (qv 0) aq pix) (qv 1) (qv 3) rfl)
  (ac (aH (qcl R J S aB (aa (qv 0) (aa (qv 3) ag))))
  (aj (aH (qcl c J I aB (aa (qv 0) ag)))))))),?_⟩
 refine ⟨st,_,rfl,O.next,sz3,fun e he=>?_⟩;have se:=ar (o:=.tup [.int w,.str n,.int s.stamp]) he;have ge:(upd H e (.tup [.int w,.str n,.int s.stamp])) e=some (.tup (enV ⟨w,n,(s.stamp:Int)⟩)):=ad;generalize upd H e (.tup [.int w,.str n,.int s.stamp])=H1 at se ge ⊢;have O1:=O.same se;refine ⟨st,_,rfl,O1.next,st,_,rfl,DPut.k (k:=Sum.inr "next") O1.hs (f9 O.ok),?_⟩;have ep:aQ (dmK M r td s s.looks) (Sum.inr "next":Key) (.int ((s.stamp:Int)+1))=dmK M r td { s with stamp:=s.stamp+1 } s.looks:=yu O.ok rfl rfl;rw [ep];have k2:Kept [st] H1 (upd H1 st (.dK (dmK M r td { s with stamp:=s.stamp+1 } s.looks))):=Kept.refl.put Dd;have O2:=O1.dictTo (s':={ s with stamp:=s.stamp+1 }) (wk':=s.looks) (H':=upd H1 st (.dK (dmK M r td { s with stamp:=s.stamp+1 } s.looks))) ad rfl rfl k2;have ee:=O1.tk k2 (fun b U=>by rw [De U];simp) _ _ ge;generalize upd H1 st (.dK (dmK M r td { s with stamp:=s.stamp+1 } s.looks))=H2 at k2 O2 ee ⊢;obtain ⟨Y,ey,ed⟩:=O2.ht;have eA:Y.length=s.there.length:=ed.len;refine ⟨st,_,rfl,O2.now,td,_,rfl,DPut.k (k:=Sum.inr n) ey (aZ Dc),?_⟩;have k3:Kept [td] H2 (upd H2 td (.dK (aQ Y (Sum.inr n) (.ref e)))):=Kept.refl.put Dd;have t3:=O2.tk k3 fun b U=>by rw [De U];simp
 have O3:=O2.thereTo (H':=upd H2 td (.dK (aQ Y (Sum.inr n) (.ref e)))) ad ((ed.stay t3).put (t3 _ _ ee)) k3;have eo:=t3 _ _ ee;generalize upd H2 td (.dK (aQ Y (Sum.inr n) (.ref e)))=H3 at k3 t3 O3 eo ⊢;obtain ⟨s3,e3⟩:∃ s3:LS,s3={ s with stamp:=s.stamp+1,there:=Gm.dput s.there n ⟨w,n,(s.stamp:Int)⟩ }:=⟨_,rfl⟩;have W:DmAt M H3 st r td s3 s.looks:=by rw [e3];exact O3
 obtain ⟨xs,hx,rr⟩:=W.hr;have lx:=rr.len;have er:s3.row=s.row:=by rw [e3]
 have rs:=rr.snoc eo;obtain ⟨t,et⟩:∃ t,t=bZ H3:=⟨_,rfl⟩;have em:=qE (H:=H3) (f:=xs.length) (xs:=xs++[.ref e]) (p:=xs.length) (lk:=s.looks);rw [rs.eq,<-et] at em;refine ⟨M,st,r,td,e,s3,s.looks,xs,t,rfl,O.ok,W.hs,hx,(by rw [et];exact rs.en),by rw [lx,er];exact h1,fun H4 h4 g4 k4=>?_⟩;have el:=W.tk k4 fun b U=>by simp only [ax,ah,Dv] at U ⊢;rcases U with z | z <;> simp [z]
 have G:xs.length=s.row.length:=by rw [lx,er]
 have O4:DmAt M H4 st r td (Gm.enter slt s n w) (Gm.enter slt s n w).looks:=by
  obtain ⟨ec,eg,ef⟩:=W.ht;have pm:∀y∈(up (ltT t) xs.length (xs++[V.ref e]) xs.length s.looks).1,y∈xs++[V.ref e]:=fun y hy=>(dJ (by rw [Ds];exact EG _)).mem_iff.mp hy;have r4:=(rs.sub pm).stay el;rw [G,er] at em;have ea:=kY (lt:=Gm.ltE slt) (f:=s.row.length) (xs:=s.row++[⟨w,n,(s.stamp:Int)⟩]) (p:=s.row.length) (lk:=s.looks);have eh:Hg.up (Gm.ltE slt) s.row.length (s.row++[⟨w,n,(s.stamp:Int)⟩]) s.row.length s.looks=_:=em;rw [ea] at eh;injection eh with e5 e6;refine ⟨?_,⟨_,h4,?_⟩,⟨ec,k4 _ _ eg ?_,?_⟩,O.ne,O.ok⟩
  .rw [g4,G];have e7:(Gm.enter slt s n w).looks=(up (ltT t) s.row.length (xs++[V.ref e]) s.row.length s.looks).2:=e6;rw [<-e7,e3];rfl
  .show RR H4 _ (Hg.up (Gm.ltE slt) s.row.length (s.row++[⟨w,n,(s.stamp:Int)⟩]) s.row.length 0).1;rw [e5,G];rw [G] at r4;exact r4
  .simp only [ax,ah,Dv,Fv];exact ⟨O.ne.symm,n2.symm⟩
  .have:(Gm.enter slt s n w).there=s3.there:=by rw [e3];rfl
   rw [this];exact ef.stay el
 have K4:Kept [st,r,td] H H4:=(((Kept.of_same se).trans (k2.mono fun b U=>by rw [De U];simp)).trans (k3.mono fun b U=>by rw [De U];simp)).trans (k4.mono fun b U=>by simp only [ax,ah,Dv] at U ⊢;rcases U with z | z <;> simp [z]);refine ⟨M,st,r,td,_,rfl,O4,(by rw [Gm.enter_row_perm.length_eq,Ds];show s.row.length+1<=1000;lia),fun r' H5 O5 k5 f5=>?_⟩;refine k r' H5 O5 (K4.trans (k5.mono fun b U=>by simp only [ax,ah,Dv] at U ⊢;rcases U with z | z <;> simp [z])) (f5.imp id fun z=>?_);cases q:H r' with
 | none=>rfl
 | some o =>
  by_cases m:r'∈[st,r,td]
  .obtain ⟨ek,ew,_⟩:=O4.hr;obtain ⟨ej,eb,_⟩:=O4.ht;simp only [ax,ah,Dv] at m;rcases m with y | y | y
   .rw [y,O4.hs] at z;cases z
   .rw [y,ew] at z;cases z
   .rw [y,eb] at z;cases z
  .rw [K4 _ _ q m] at z;cases z
def nmD:Deed->Str
 | .put n _=>n
 | .drop n=>n
 | .change n _=>n
 | _=>""
def CY (H:Hp):Ans->V->Prop
 | .non,v=>v=.non
 | .clash,v=>v=.int 1
 | .nothing,v=>v=.int 2
 | .pair w n,v=>∃ a,v=.ref a/\H a=some (.tup [.int w,.str n])
abbrev pU:Stmt:=top 46
theorem tP:av ["heap","deed","name","there","found"] ["heap","deed"] (ak pU):=fs0
def mU:Sp:=fun vs H Q _=>∃ (tl:List (Key×V)) (st r td q:Addr) (s:LS) (dd:Deed),vs=[.ref st,.ref q]/\DmAt tl H st r td s s.looks/\Gm.LInv slt s/\s.stamp<=800/\H q=some (.tup dd.v) /\
 ∀v r' H',DmAt tl H' st r' td (ay s dd).1 (ay s dd).1.looks->CY H' (ay s dd).2 v->Kept [st,r,td] H H'->(r'=r∨H r'=none)->Q v H'
theorem vy {fg fs fc fo:Addr}{e0 e3 eG:FuncData}(F:Fun K "_law_deed" "_law_deed" pU f fd)(T:Bl mg)(ec:au P w K mg base CX0 3 fg e0 ["heap","name","worth"] tV)(ew:Nm K mg "_law_give" fg e0 ["heap","name","worth"])(Y:au P w K mg base CX0 2 fs fds ["heap"] i5)(G:Nm K mg "_law_sweep" fs fds ["heap"])(eh:au P w K mg base CX0 3 fc e3 ["heap"] nN)(el:Nm K mg "_law_clean" fc e3 ["heap"])(ef:au P w K mg base CX0 2 fo eG ["heap"] qw)(eg:Nm K mg "_law_out" fo eG ["heap"]):au P w K mg base CX0 4 f fd ["heap","deed"] mU:=by
 have sc:=tP;refine F.okQ tP fun tr A outer s_ H vs Q E hr h=>?_;obtain ⟨tl,st,r,td,q,s,dd,rfl,O0,LI,ti,eB,k⟩:=h;have hu:=hr.units0;have r1:=LI.len;have r2:=LI.tl;refine ⟨_,(ac (qst 2 sc.nd (aA aI (ao rF (qv 1) (be (aa aq ag))) ai pix))
  (ac (qst 3 sc.nd (AX (aO hr) (qv 2) (aJ (aO hr) (qv 0) aq pix)))
  (ac (aT (QW.pt (dA (aw bA (aA aI (qv 1) ai pix) aq (aG _)) (cG (ca (qv 3))))) (aj (aD ai)) aE)
  (ac (aT (QW.pt (zI (QW.pt (dA (aw qt (aA aI (qv 1) ai pix) (be (aa aq (aa aq ag))) rfl) (cG (cD (ca (qv 3)))))) (wP (QW.pt (dA (aw qt (aA aI (qv 1) ai pix) (be (aa aq (aa aq ag))) rfl) (cG (aw (zf hu) (aJ (aO hr) (qv 0) aq pix) eP (aG _)))))))) (aj (aD ai)) aE)
  (ac (aT (aw qt (aA aI (qv 1) ai pix) (be (aa aq (aa aq ag))) rfl) (ac (aH (qcl ec hr ew aB (aa (qv 0) (aa (qv 2) (aa (aA aI (qv 1) ai pix) ag)))))
  (aj (aD eE))) aE)
  (ac (aT (aw bA (aA aI (qv 1) ai pix) aq (aG _)) (ac (aH (gH (aJ (aO hr) (qv 0) aq pix) (qv 2) ⟨rfl,rfl,rfl,rfl⟩))
  (ac (aH (qcl Y hr G aB (aa (qv 0) ag)))
  (aj (aD eE)))) aE)
  (ac (aH (qcl eh hr el aB (aa (qv 0) ag)))
  (ac (qst 4 sc.nd (dE sl_tup (aA aM (aJ (aO hr) (qv 0) aq pix) ai pix) fC (fz ai)))
  (ac (aT (aw bA (aA aI (qv 1) ai pix) aq (aG _)) (ac (aH (gH (aJ (aO hr) (qv 0) aq pix) (aA aI (qv 4) ai pix) ⟨rfl,rfl,rfl,rfl⟩))
  (ac (aH (qcl ef hr eg aB (aa (qv 0) ag)))
  (aj (aH (qcl Y hr G aB (aa (qv 0) ag)))))) aE)
  (aj (aD (qv 4)))))))))))),?_⟩;dsimp only [bM,Cx.nox]
 have ix:atI (dd.v++[V.str ""]) 1=some (.str (nmD dd)):=by cases dd <;> exact aW (j:=1) rfl
 refine ⟨sz1,fun t1 e9=>?_⟩;refine gnew e9 fun H1 s1 g1=>?_;have lv:dd.v.length<=3:=by cases dd <;> (simp only [Deed.v,Dw,EZ];lia)
 have nv:dd.v≠[]:=by cases dd <;> exact EO _ _
 refine ⟨q,t1,_,_,rfl,rfl,SqT.of (s1 _ _ eB),SqT.of g1,Dq (show dd.v.length+1<=4 by lia) Db,(fun z=>absurd z nv),(fun _ z=>nomatch z),fun _ _ t2 e5=>?_⟩;have s2:=s1.trans (ar (o:=.tup (dd.v++[.str ""])) e5);have g2:=ad (H:=H1) (a:=t2) (o:=.tup (dd.v++[.str ""]));generalize upd H1 t2 (.tup (dd.v++[.str ""]))=H2 at s2 g2 ⊢;have O:=O0.same s2;have M:=s2 _ _ eB;have ee:∀{F:List Addr} {H':Hp},Kept F H2 H'->Kept F H H':=fun kk=>(Kept.of_same s2).trans kk;have ez:∀{r':Addr},H2 r'=none->H r'=none:=fun z=>s2.free z;obtain ⟨ks,hd,kr⟩:=O.ht;obtain ⟨xs,hx,rr⟩:=O.hr;have nq:q∉[st,r,td]:=fun z=>O.notup q z _ M;refine ⟨_,_,SqT.of g2,ix,?_⟩;refine ⟨st,_,rfl,O.now,td,_,rfl,DGet.k (k:=Sum.inr (nmD dd)) hd,?_⟩;cases dd with
 | put n w =>
  refine ⟨_,_,SqT.of M,rfl,rfl,_,rfl,dW ?_⟩;rcases kr.get n with ⟨e1,J⟩ | ⟨b,e',e1,J,R⟩
  .have W:aU ks (Sum.inr (nmD (.put n w)))=none:=e1;rw [W];refine ⟨_,rfl,aS (fun c=>nomatch c) (fun _=>?_)⟩;refine ⟨_,_,SqT.of M,rfl,sz2,fun l3 er=>⟨l3,_,["drop","change"],rfl,rfl,SqT.of ad,_,rfl,?_⟩⟩;refine gnew er fun H3 s3 _=>?_;refine cn ?_;refine bW ?_;have ed:=s3 _ _ M;refine ⟨_,_,SqT.of ed,rfl,sz2,fun l4 ei=>⟨l4,_,["take","least"],rfl,rfl,SqT.of ad,_,rfl,?_⟩⟩;refine gnew ei fun H4 s4 _=>?_;refine cn ?_;refine bW ?_;have S:=s3.trans s4;have eb:=S _ _ M;refine ⟨_,_,SqT.of eb,rfl,sz2,fun l5 ej=>⟨l5,_,["put","change"],rfl,rfl,SqT.of ad,_,rfl,?_⟩⟩;refine gnew ej fun H5 s5 _=>?_;refine dW ?_;have I:=S.trans s5;have eo:=I _ _ M;have U:ay s (.put n w)=(Gm.putL slt s n w,.non):=by unfold ay;dsimp only;rw [J];rw [Di (fun z=>nomatch z)]
   rw [U] at k;refine ⟨_,_,SqT.of eo,rfl,tl,st,r,td,s,n,w,rfl,O.same I,Dc,Dc,fun r' H' O' k' f'=>?_⟩;refine k _ r' H' ?_ ?_ (ee ((Kept.of_same I).trans k')) (f'.imp id fun z=>ez ((I).free z))
   .exact O'
   .exact rfl
  .have W:aU ks (Sum.inr (nmD (.put n w)))=some (.ref b):=e1;rw [W];refine ⟨_,rfl,aS (fun _=>?_) (fun c=>absurd rfl c)⟩;have U:ay s (.put n w)=(s,.clash):=by unfold ay;dsimp only;rw [J,Gn];rw [Dm rfl]
   rw [U] at k;refine k _ r H2 ?_ ?_ (ee Kept.refl) (.inl rfl)
   .exact O
   .exact rfl
 | drop n =>
  refine ⟨_,_,SqT.of M,rfl,rfl,_,rfl,cn ?_⟩;refine bW ?_;refine ⟨_,_,SqT.of M,rfl,sz2,fun l3 er=>⟨l3,_,["drop","change"],rfl,rfl,SqT.of ad,_,rfl,?_⟩⟩;refine gnew er fun H3 s3 _=>?_;refine dW ?_;have ed:=s3 _ _ M;rcases kr.get n with ⟨e1,J⟩ | ⟨b,e',e1,J,R⟩
  .have W:aU ks (Sum.inr (nmD (.drop n)))=none:=e1;rw [W];refine ⟨_,rfl,iq (iq ?_)⟩;have U:ay s (.drop n)=(s,.nothing):=by unfold ay;dsimp only;rw [J];rw [Di (fun z=>nomatch z)]
   rw [U] at k;refine k _ r H3 ?_ ?_ (ee (Kept.of_same s3)) (.inl rfl)
   .exact O.same s3
   .exact rfl
  .have W:aU ks (Sum.inr (nmD (.drop n)))=some (.ref b):=e1;rw [W];refine ⟨_,rfl,bW ?_⟩;refine ⟨_,_,SqT.of ed,rfl,sz2,fun l4 ei=>⟨l4,_,["take","least"],rfl,rfl,SqT.of ad,_,rfl,?_⟩⟩;refine gnew ei fun H4 s4 _=>?_;refine cn ?_;refine bW ?_;have S:=s3.trans s4;have eb:=S _ _ M;refine ⟨_,_,SqT.of eb,rfl,sz2,fun l5 ej=>⟨l5,_,["put","change"],rfl,rfl,SqT.of ad,_,rfl,?_⟩⟩;refine gnew ej fun H5 s5 _=>?_;refine cn ?_;have I:=S.trans s5;have eo:=I _ _ M;refine ⟨_,_,SqT.of eo,rfl,rfl,_,rfl,dW ?_⟩;have O5:=O.same I;have eN:=I _ _ hd;refine ⟨st,_,rfl,O5.now,td,rfl,.inl ⟨_,.inl eN⟩,_,Sum.inr n,_,eN,rfl,e1,?_⟩;obtain ⟨O6,k6⟩:=O5.dropTo n eN;generalize upd H5 td (.dK (cr ks (Sum.inr n)))=H6 at O6 k6 ⊢;refine ⟨tl,st,r,td,_,rfl,O6,by show s.row.length<=1000;lia,fun r' H' O' k' f'=>?_⟩;have K6:Kept [st,r,td] H2 H6:=(Kept.of_same I).trans (k6.mono fun b R=>by rw [De R];simp);have tn:∀z,H6 z=none->H2 z=none:=fun b R=>by
    cases e:H2 b with
    | none=>rfl
    | some o =>
     by_cases z:b∈[st,r,td]
     .obtain ⟨ys,f2,_⟩:=O6.hr;obtain ⟨kt,f3,_⟩:=O6.ht;have f1:=O6.hs;simp only [ax,ah,Dv] at z;rcases z with y | y | y
      .rw [y,f1] at R;cases R
      .rw [y,f2] at R;cases R
      .rw [y,f3] at R;cases R
     .rw [K6 b o e z] at R;cases R
   have U:ay s (.drop n)=(Gm.dropL slt s n,.non):=by unfold ay;dsimp only;rw [J,Gn];rw [Dm rfl]
   rw [U] at k;refine k _ r' H' ?_ ?_ (ee (K6.trans (k'.mono fun b R=>by simp only [ax,ah,Dv] at R ⊢;rcases R with z | z <;> simp [z]))) (f'.imp id fun z=>ez (tn _ z))
   .exact O'
   .exact rfl
 | change n w =>
  refine ⟨_,_,SqT.of M,rfl,rfl,_,rfl,cn ?_⟩;refine bW ?_;refine ⟨_,_,SqT.of M,rfl,sz2,fun l3 er=>⟨l3,_,["drop","change"],rfl,rfl,SqT.of ad,_,rfl,?_⟩⟩;refine gnew er fun H3 s3 _=>?_;refine dW ?_;have ed:=s3 _ _ M;rcases kr.get n with ⟨e1,J⟩ | ⟨b,e',e1,J,R⟩
  .have W:aU ks (Sum.inr (nmD (.change n w)))=none:=e1;rw [W];refine ⟨_,rfl,iq (iq ?_)⟩;have U:ay s (.change n w)=(s,.nothing):=by unfold ay;dsimp only;rw [J];rw [Di (fun z=>nomatch z)]
   rw [U] at k;refine k _ r H3 ?_ ?_ (ee (Kept.of_same s3)) (.inl rfl)
   .exact O.same s3
   .exact rfl
  .have W:aU ks (Sum.inr (nmD (.change n w)))=some (.ref b):=e1;rw [W];refine ⟨_,rfl,bW ?_⟩;refine ⟨_,_,SqT.of ed,rfl,sz2,fun l4 ei=>⟨l4,_,["take","least"],rfl,rfl,SqT.of ad,_,rfl,?_⟩⟩;refine gnew ei fun H4 s4 _=>?_;refine cn ?_;refine bW ?_;have S:=s3.trans s4;have eb:=S _ _ M;refine ⟨_,_,SqT.of eb,rfl,sz2,fun l5 ej=>⟨l5,_,["put","change"],rfl,rfl,SqT.of ad,_,rfl,?_⟩⟩;refine gnew ej fun H5 s5 _=>?_;refine dW ?_;have I:=S.trans s5;have eo:=I _ _ M;have U:ay s (.change n w)=(Gm.putL slt s n w,.non):=by unfold ay;dsimp only;rw [J,Gn];rw [Dm rfl]
   rw [U] at k;refine ⟨_,_,SqT.of eo,rfl,tl,st,r,td,s,n,w,rfl,O.same I,Dc,Dc,fun r' H' O' k' f'=>?_⟩;refine k _ r' H' ?_ ?_ (ee ((Kept.of_same I).trans k')) (f'.imp id fun z=>ez ((I).free z))
   .exact O'
   .exact rfl
 | take =>
  refine ⟨_,_,SqT.of M,rfl,rfl,_,rfl,cn ?_⟩;refine bW ?_;refine ⟨_,_,SqT.of M,rfl,sz2,fun l3 er=>⟨l3,_,["drop","change"],rfl,rfl,SqT.of ad,_,rfl,?_⟩⟩;refine gnew er fun H3 s3 _=>?_;refine cn ?_;refine bW ?_;have ed:=s3 _ _ M;refine ⟨_,_,SqT.of ed,rfl,sz2,fun l4 ei=>⟨l4,_,["take","least"],rfl,rfl,SqT.of ad,_,rfl,?_⟩⟩;refine gnew ei fun H4 s4 _=>?_;refine dW ?_;have S:=s3.trans s4;have eb:=S _ _ M;have O4:=O.same S;have eF:=S _ _ hd;refine ⟨st,_,rfl,O4.now,fun e1 et=>⟨td,e1,_,rfl,rfl,ar et _ _ eF,ad,_,rfl,aS (fun c=>?_) (fun c=>?_)⟩⟩
  .have c':ks=[]:=Dp c;have J:s.there=[]:=by have:=kr.len;rw [c'] at this;exact DL.mp this.symm
   have U:ay s .take=(s,.nothing):=by unfold ay;dsimp only;rw [Dm J]
   rw [U] at k;refine k _ r _ ?_ ?_ (ee (Kept.of_same (S.trans (ar et)))) (.inl rfl)
   .exact O4.same (ar et)
   .exact rfl
  have J:s.there≠[]:=fun z=>c (Dk (by
   have:=kr.len;rw [z] at this;exact DL.mp this))
  have U:ay s .take=(Gm.takeL slt s,.pair (L2.hd s).w (L2.hd s).n):=by unfold ay;dsimp only;rw [Di J]
  rw [U] at k;have I:=S.trans (ar (o:=.dK []) et);generalize upd H4 e1 (.dK [])=H5 at I ⊢;have eo:=I _ _ M;have O5:=O.same I;refine ⟨_,_,SqT.of eo,rfl,sz2,fun l6 eW=>⟨l6,_,["put","change"],rfl,rfl,SqT.of ad,_,rfl,?_⟩⟩;refine gnew eW fun H6 s6 _=>?_;refine cn ?_;have ey:=I.trans s6;have eL:=ey _ _ M;refine ⟨_,_,SqT.of eL,rfl,rfl,_,rfl,cn ?_⟩;have O6:=O.same ey;refine ⟨tl,st,r,td,s,rfl,O6,LI,J,Dc,fun H7 O7 k7=>?_⟩;have LL:=(Gm.least_ok slt_slo LI J);have K7:Kept [st,r,td] H2 H7:=(Kept.of_same ey).trans (k7.mono fun b R=>by simp only [ax,ah,Dv] at R ⊢;rcases R with z | z <;> simp [z]);have eC:=K7 _ _ M nq;obtain ⟨ts,eD,eH⟩:=O7.hr;have h0:=Gm.row_pos LL.inv (by rw [LL.there];exact J);obtain ⟨a,ea,ha,ia⟩:=eH.at h0;refine ⟨st,_,rfl,O7.row,_,_,SqL.of eD,ia,_,rfl,a,_,rfl,SqT.of ha,(by show ¬ (HT.sIx 3 0 none=0/\HT.sIx 3 3 (some 2)=3);decide),fun p hp=>?_⟩;have s8:=ar (o:=.tup [.int (L2.hd s).w,.str (L2.hd s).n]) hp;have g8:=ad (H:=H7) (a:=p) (o:=.tup [.int (L2.hd s).w,.str (L2.hd s).n]);have ek:eK (enV (Hg.g (Gm.leastL slt s).row 0)) none (some 2)=[.int (L2.hd s).w,.str (L2.hd s).n]:=rfl;rw [ek];generalize upd H7 p (.tup [.int (L2.hd s).w,.str (L2.hd s).n])=H8 at s8 g8 ⊢;have O8:=O7.same s8;have K8:=K7.trans (Kept.of_same s8);have eS:=s8 _ _ eC;refine ⟨_,_,SqT.of eS,rfl,rfl,_,rfl,dW ?_⟩;obtain ⟨th,eA,e8⟩:=O8.ht;have e6:Gm.holds (Gm.leastL slt s).there (Hg.g (Gm.leastL slt s).row 0)=true:=LL.hold;have e4:=Gm.holds_in e6;rcases e8.get (L2.hd s).n with ⟨W,eZ⟩ | ⟨b,e',W,eZ,R⟩
  .have:=Gm.dget_of LL.inv.nd e4;rw [show (Hg.g (Gm.leastL slt s).row 0).n=(L2.hd s).n from rfl,eZ] at this;cases this
  refine ⟨st,_,rfl,O8.now,td,rfl,.inl ⟨_,.inl eA⟩,_,_,SqT.of g8,rfl,_,Sum.inr (L2.hd s).n,_,eA,rfl,W,?_⟩;obtain ⟨O9,k9⟩:=O8.dropTo (L2.hd s).n eA;have g9:=k9 _ _ g8 (fun z=>by rw [De z,eA] at g8;cases g8);generalize upd H8 td (.dK (cr th (Sum.inr (L2.hd s).n)))=H9 at O9 k9 g9 ⊢;have rl:(Gm.leastL slt s).row.length<=800:=Dq LL.inv.len (by rw [LL.stamp];exact ti);refine ⟨tl,st,r,td,_,rfl,O9,h0,by show (Gm.leastL slt s).row.length<=1000;lia,fun HA OA kA=>?_⟩;have K9:Kept [st,r,td] H2 H9:=K8.trans (k9.mono fun b R=>by rw [De R];simp);have KA:Kept [st,r,td] H2 HA:=K9.trans (kA.mono fun b R=>by simp only [ax,ah,Dv] at R ⊢;rcases R with z | z <;> simp [z]);have gA:=kA _ _ g9 (fun z=>O9.notup p (by simp only [ax,ah,Dv] at z ⊢;rcases z with y | y <;> simp [y]) _ g9);have lc:(Gm.cut slt (Gm.dropT (Gm.leastL slt s) (L2.hd s).n)).row.length=(Gm.leastL slt s).row.length-1:=Hg.cutf_len;refine ⟨tl,st,r,td,_,rfl,OA,Dc,fun r' HB OB kB fB=>?_⟩;have e7:∀z,HA z=none->H2 z=none:=fun b R=>by
   cases e:H2 b with
   | none=>rfl
   | some o =>
    by_cases z:b∈[st,r,td]
    .obtain ⟨ys,f2,_⟩:=OA.hr;obtain ⟨kt,f3,_⟩:=OA.ht;have f1:=OA.hs;simp only [ax,ah,Dv] at z;rcases z with y | y | y
     .rw [y,f1] at R;cases R
     .rw [y,f2] at R;cases R
     .rw [y,f3] at R;cases R
    .rw [KA b o e z] at R;cases R
  have gB:=kB _ _ gA (fun z=>OA.notup p (by simp only [ax,ah,Dv] at z ⊢;rcases z with y | y <;> simp [y]) _ gA);refine (k _ r' HB ?_ ?_ (ee (KA.trans (kB.mono fun b R=>by simp only [ax,ah,Dv] at R ⊢;rcases R with z | z <;> simp [z]))) (fB.imp id fun z=>ez (e7 _ z)))
  .exact OB
  .exact ⟨p,rfl,gB⟩
 | least =>
  refine ⟨_,_,SqT.of M,rfl,rfl,_,rfl,cn ?_⟩;refine bW ?_;refine ⟨_,_,SqT.of M,rfl,sz2,fun l3 er=>⟨l3,_,["drop","change"],rfl,rfl,SqT.of ad,_,rfl,?_⟩⟩;refine gnew er fun H3 s3 _=>?_;refine cn ?_;refine bW ?_;have ed:=s3 _ _ M;refine ⟨_,_,SqT.of ed,rfl,sz2,fun l4 ei=>⟨l4,_,["take","least"],rfl,rfl,SqT.of ad,_,rfl,?_⟩⟩;refine gnew ei fun H4 s4 _=>?_;refine dW ?_;have S:=s3.trans s4;have eb:=S _ _ M;have O4:=O.same S;have eF:=S _ _ hd;refine ⟨st,_,rfl,O4.now,fun e1 et=>⟨td,e1,_,rfl,rfl,ar et _ _ eF,ad,_,rfl,aS (fun c=>?_) (fun c=>?_)⟩⟩
  .have c':ks=[]:=Dp c;have J:s.there=[]:=by have:=kr.len;rw [c'] at this;exact DL.mp this.symm
   have U:ay s .least=(s,.nothing):=by unfold ay;dsimp only;rw [Dm J]
   rw [U] at k;refine k _ r _ ?_ ?_ (ee (Kept.of_same (S.trans (ar et)))) (.inl rfl)
   .exact O4.same (ar et)
   .exact rfl
  have J:s.there≠[]:=fun z=>c (Dk (by
   have:=kr.len;rw [z] at this;exact DL.mp this))
  have U:ay s .least=(Gm.leastL slt s,.pair (L2.hd s).w (L2.hd s).n):=by unfold ay;dsimp only;rw [Di J]
  rw [U] at k;have I:=S.trans (ar (o:=.dK []) et);generalize upd H4 e1 (.dK [])=H5 at I ⊢;have eo:=I _ _ M;have O5:=O.same I;refine ⟨_,_,SqT.of eo,rfl,sz2,fun l6 eW=>⟨l6,_,["put","change"],rfl,rfl,SqT.of ad,_,rfl,?_⟩⟩;refine gnew eW fun H6 s6 _=>?_;refine cn ?_;have ey:=I.trans s6;have eL:=ey _ _ M;refine ⟨_,_,SqT.of eL,rfl,rfl,_,rfl,cn ?_⟩;have O6:=O.same ey;refine ⟨tl,st,r,td,s,rfl,O6,LI,J,Dc,fun H7 O7 k7=>?_⟩;have LL:=(Gm.least_ok slt_slo LI J);have K7:Kept [st,r,td] H2 H7:=(Kept.of_same ey).trans (k7.mono fun b R=>by simp only [ax,ah,Dv] at R ⊢;rcases R with z | z <;> simp [z]);have eC:=K7 _ _ M nq;obtain ⟨ts,eD,eH⟩:=O7.hr;have h0:=Gm.row_pos LL.inv (by rw [LL.there];exact J);obtain ⟨a,ea,ha,ia⟩:=eH.at h0;refine ⟨st,_,rfl,O7.row,_,_,SqL.of eD,ia,_,rfl,a,_,rfl,SqT.of ha,(by show ¬ (HT.sIx 3 0 none=0/\HT.sIx 3 3 (some 2)=3);decide),fun p hp=>?_⟩;have s8:=ar (o:=.tup [.int (L2.hd s).w,.str (L2.hd s).n]) hp;have g8:=ad (H:=H7) (a:=p) (o:=.tup [.int (L2.hd s).w,.str (L2.hd s).n]);have ek:eK (enV (Hg.g (Gm.leastL slt s).row 0)) none (some 2)=[.int (L2.hd s).w,.str (L2.hd s).n]:=rfl;rw [ek];generalize upd H7 p (.tup [.int (L2.hd s).w,.str (L2.hd s).n])=H8 at s8 g8 ⊢;have O8:=O7.same s8;have K8:=K7.trans (Kept.of_same s8);have eS:=s8 _ _ eC;refine ⟨_,_,SqT.of eS,rfl,rfl,_,rfl,cn ?_⟩;refine (k _ r H8 ?_ ?_ (ee K8) (.inl rfl))
  .exact O8
  .exact ⟨p,rfl,g8⟩
def okD:Deed->Prop
 | .put n w=>AbcN n 8/\w.natAbs<10 ^ 30
 | .drop n=>AbcN n 8
 | .change n w=>AbcN n 8/\w.natAbs<10 ^ 30
 | _=>True
def bK (ns:List Int):List Str:=(List.range 18).map fun j:Nat=>cV ns (10+(j:Int))
def inD (N:List Str):Deed->Prop
 | .put n _=>n∈N
 | .change n _=>n∈N
 | _=>True
def bJ (z:Str):Deed->List Str
 | .put n w=>["put",z,n,txt w]
 | .drop n=>["drop",z,n]
 | .change n w=>["change",z,n,txt w]
 | .take=>["take",z]
 | .least=>["least",z]
theorem made_of {u:Str}(T:1<=z.length)(O:z.length<=m)(h:∀c∈z.cps.toList,(!(PySem.Builtin.Str.occurrences u (sgn c) 0 u.length 1).isEmpty)=true):dv z u m=true:=by unfold dv;rw [Dk T,Dk (show (z.length:Int)<=(m:Int) by lia),Gk,Gk,FD];exact h
theorem Ad:∀n:Fin 26,(!(PySem.Builtin.Str.occurrences "abcdefghijklmnopqrstuvwxyz" (sgn (97+n.val)) 0 ("abcdefghijklmnopqrstuvwxyz":Str).length 1).isEmpty)=true:=by decide +kernel
theorem AL:∀n:Fin 10,(!(PySem.Builtin.Str.occurrences "0123456789" (sgn (48+n.val)) 0 ("0123456789":Str).length 1).isEmpty)=true:=by decide +kernel
theorem oV (h:AbcN z 8):mJ z=true:=made_of h.lo h.hi fun c T=>by obtain ⟨a,b⟩:=h.abc c T;have:=Ad ⟨c-97,Dc⟩;rw [show 97+(⟨c-97,Dc⟩:Fin 26).val=c from by show 97+(c-97)=c;lia] at this;exact this
theorem oZ:je (txt (Int.ofNat m))=txt (Int.ofNat m):=by
 unfold je;rw [Di];rw [DP];rintro ⟨_,h⟩;rw [StrLaws.subAt_eq,GD,fF] at h;have e:=eq_of_beq h;have d:=gv m;cases q:(Nat.toDigits 10 m).map Char.toNat with
 | nil=>exact iD m q
 | cons a l =>
  rw [q] at e d;have c:("-":Str).length=1:=by decide +kernel
  have T:("-":Str).cps.toList=[45]:=by decide +kernel
  rw [c,T] at e;have O:a=45:=(FU e).1;have:=d a (DO ..);lia
theorem wF:(je (txt (Int.negSucc m))).cps.toList=(Nat.toDigits 10 (m+1)).map Char.toNat:=by
 unfold je;have c:("-":Str).length=1:=by decide +kernel
 have T:("-":Str).cps.toList=[45]:=by decide +kernel
 have O:1<=(txt (Int.negSucc m)).length:=by rw [bc,gw];exact E2 (D6 _)
 rw [Dm]
 .show (StrLaws.sliceText (txt (Int.negSucc m)) (some 1) none).cps.toList=_;rw [StrLaws.sliceText_from (i:=1) ⟨Db,by rw [<-bc];lia⟩,gw];show ((_:List Nat).take _)=_;rw [Dw];show (((Nat.toDigits 10 (m+1)).map Char.toNat).take (((((Nat.toDigits 10 (m+1)).map Char.toNat).length+1:Nat):Int)-1).toNat)=_;exact Eu Dc
 rw [DP];refine ⟨Dk (by rw [c];lia),?_⟩;rw [StrLaws.subAt_eq,GD,gw,c,T];rfl
theorem tI (h:z.cps.toList=(Nat.toDigits 10 m).map Char.toNat)(O:m<10 ^ 30):dv z "0123456789" 30=true/\z.cps.all (·<128)=true:=by
 have d:=gv m;rw [<-h] at d;refine ⟨made_of (m:=30) ?_ ?_ fun c T=>?_,?_⟩
 .rw [bc,h];cases q:(Nat.toDigits 10 m).map Char.toNat with
  | nil=>exact absurd q (iD m)
  | cons a l=>exact E2 (D6 _)
 .rw [bc,h];exact jH Db O
 .obtain ⟨a,b⟩:=d c T;have:=AL ⟨c-48,Dc⟩;rw [show 48+(⟨c-48,Dc⟩:Fin 10).val=c from by show 48+(c-48)=c;lia] at this;exact this
 rw [<-Array.all_toList,FD];intro c T;obtain ⟨a,b⟩:=d c T;exact Dk Dc
theorem iG {n:Int}(h:n.natAbs<10 ^ 30):xF (txt n) n:=by
 have l:=cp (k:=30) Db h;have v:=zb (EB h C9);have g:=bI (EB h C9);cases n with
 | ofNat m =>
  obtain ⟨a,b⟩:=tI (fF m) h;exact ⟨by rw [oZ];exact b,Dc,by rw [oZ];exact a,v,g,rfl⟩
 | negSucc m =>
  obtain ⟨a,b⟩:=tI (wF (m:=m)) h;exact ⟨b,Dc,a,v,g,rfl⟩
def qD:List (Str×List Str):=[("heap",["word","name","count"]),("put",["word","heap","name","number"]),("drop",["word","heap","name"]),("change",["word","heap","name","number"]),("take",["word","heap"]),("least",["word","heap"]),("first",["word","heap","count"]),("join",["word","heap","heap"]),("room",["word","heap"]),("works",["word","heap"])]
def gj (K:W.Frag)(forms:List (Str×Addr)):Prop:=∀p∈qD,∃ q,forms.lookup p.1=some q/\∀H,SqT K H q (p.2.map V.str)
inductive MeantL (ks:List (Key×V)):List Str->List Str->List V->Prop
 | nil:MeantL ks [] [] []
 | cons {a z:Str} {v:V} {l m:List Str} {n:List V}:cW ks a z v->MeantL ks l m n->MeantL ks (a::l) (z::m) (v::n)
theorem MeantL.len {l m:List Str}{n:List V}(h:MeantL ks l m n):l.length=m.length/\n.length=m.length:=by
 induction h with
 | nil=>exact ⟨rfl,rfl⟩
 | cons _ _ ih=>exact ⟨congrArg (·+1) ih.1,congrArg (·+1) ih.2⟩
theorem MeantL.at {l m:List Str}{n:List V}(h:MeantL ks l m n):∀(i:Nat) (kd z:Str),l[i]?=some kd->m[i]?=some z->∃ v,n[i]?=some v/\cW ks kd z v:=by
 induction h with
 | nil=>intro i _ _ e;cases e
 | cons r _ ih =>
  intro i kd z T c;cases i with
  | zero=>cases T;cases c;exact ⟨_,rfl,r⟩
  | succ i=>exact ih i kd z T c
theorem dP (S:gj K forms){kinds ws:List Str}{vs:List V}(m:(x,kinds)∈qD)(h:MeantL ks kinds (x::ws) (.str x::vs))(T:ws.length<=10)(c:x≠"join"):Und K forms ks (x::ws) (.str x::vs):=by obtain ⟨q,U,O⟩:=S _ m;obtain ⟨I,R⟩:=h.len;exact ⟨⟨x,q,kinds,rfl,U,O,I,h.at⟩,R,by rw [Dw];lia,⟨x,rfl⟩,fun e=>absurd (V.str.inj (DJ e)) c⟩
theorem dt (n:AbcN z 8)(h:(aU ks (Sum.inr z)).isSome=true):cW ks "heap" z (.str z):=.heap n.asc (Dq n.hi Db) (oV n) h
theorem mQ (n:AbcN z 8):cW ks "name" z (.str z):=.name n.asc (Dq n.hi Db) (oV n)
theorem xX (c:gj K forms)(n:AbcN z 8)(h:(aU ks (Sum.inr z)).isSome=true)(ok:okD dd):
  ∃ (x:Str) (rest:List V),dd.v=.str x::rest/\x≠"heap"/\x≠"join"/\Und K forms ks (bJ z dd) (.str x::.str z::rest):=by
 have T:2<=10:=by decide
 cases dd with
 | put m w=>exact ⟨_,_,rfl,C9,C9,dP c (kinds:=["word","heap","name","number"]) C9 (.cons .word (.cons (dt n h) (.cons (mQ ok.1) (.cons (.number (iG ok.2)) .nil)))) (by show 3<=10;decide) C9⟩
 | drop m=>exact ⟨_,_,rfl,C9,C9,dP c (kinds:=["word","heap","name"]) C9 (.cons .word (.cons (dt n h) (.cons (mQ ok) .nil))) (by show 2<=10;decide) C9⟩
 | change m w=>exact ⟨_,_,rfl,C9,C9,dP c (kinds:=["word","heap","name","number"]) C9 (.cons .word (.cons (dt n h) (.cons (mQ ok.1) (.cons (.number (iG ok.2)) .nil)))) (by show 3<=10;decide) C9⟩
 | take=>exact ⟨_,_,rfl,C9,C9,dP c (kinds:=["word","heap"]) C9 (.cons .word (.cons (dt n h) .nil)) (by show 1<=10;decide) C9⟩
 | least=>exact ⟨_,_,rfl,C9,C9,dP c (kinds:=["word","heap"]) C9 (.cons .word (.cons (dt n h) .nil)) (by show 1<=10;decide) C9⟩
theorem qf (n:AbcN z 8)(ok:okD dd):∀w∈bJ z dd,32∉w.cps.toList:=by
 have W:∀x:Str,x.cps.toList.contains 32=false->32∉x.cps.toList:=fun x e m=>by rw [FP.mpr m] at e;cases e
 intro w c;cases dd with
 | put m v =>
  simp only [bJ,ax,ah,Dv] at c;rcases c with rfl | rfl | rfl | rfl
  .exact W _ C9
  .exact n.free
  .exact ok.1.free
  .exact gr _
 | drop m =>
  simp only [bJ,ax,ah,Dv] at c;rcases c with rfl | rfl | rfl
  .exact W _ C9
  .exact n.free
  .exact AbcN.free (m:=8) ok
 | change m v =>
  simp only [bJ,ax,ah,Dv] at c;rcases c with rfl | rfl | rfl | rfl
  .exact W _ C9
  .exact n.free
  .exact ok.1.free
  .exact gr _
 | take =>
  simp only [bJ,ax,ah,Dv] at c;rcases c with rfl | rfl
  .exact W _ C9
  .exact n.free
 | least =>
  simp only [bJ,ax,ah,Dv] at c;rcases c with rfl | rfl
  .exact W _ C9
  .exact n.free
theorem gn:∀(ws:List Str) (m:Nat),(∀w∈ws,w.length<=m)->(Str.join " " ws).length<=ws.length*(m+1)
 | [],m,_=>by show 0<=_;exact D6 _
 | [a],m,h=>by
  have:=h a Dd;show a.length<=1*(m+1);lia
 | a::b::l,m,h=>by
  have O:(" ":Str).length=1:=by decide +kernel
  have I:=h a Dd;have T:=gn (b::l) m fun w c=>h w (Dr _ c);show (a++" "++Str.join " " (b::l)).length<=(l.length+1+1)*(m+1);rw [aR,aR,O,Nat.succ_mul];rw [Dw] at T;lia
theorem ug (n:AbcN z 8)(ok:okD dd):(Str.join " " (bJ z dd)).length<=900:=by
 have h:∀w∈bJ z dd,w.length<=40:=by
  intro w c;have T:=n.hi;cases dd with
  | put m v =>
   have a:=ok.1.hi;have b:=cp (k:=30) Db ok.2;simp only [bJ,ax,ah,Dv] at c;rcases c with rfl | rfl | rfl | rfl <;> first | lia | (exact C9)
  | drop m =>
   have a:=AbcN.hi (z:=m) ok;simp only [bJ,ax,ah,Dv] at c;rcases c with rfl | rfl | rfl <;> first | lia | (exact C9)
  | change m v =>
   have a:=ok.1.hi;have b:=cp (k:=30) Db ok.2;simp only [bJ,ax,ah,Dv] at c;rcases c with rfl | rfl | rfl | rfl <;> first | lia | (exact C9)
  | take =>
   simp only [bJ,ax,ah,Dv] at c;rcases c with rfl | rfl <;> first | lia | (exact C9)
  | least =>
   simp only [bJ,ax,ah,Dv] at c;rcases c with rfl | rfl <;> first | lia | (exact C9)
 have j:=gn _ _ h;have l:(bJ z dd).length<=4:=by cases dd <;> (simp only [bJ,Dw,EZ];lia)
 have:=IK (40+1) l;lia
theorem yd (W:gj K forms){c T:Str}(I:AbcN c 8)(G:AbcN T 8)(Y:(aU ks (Sum.inr c)).isSome=true)(U:(aU ks (Sum.inr T)).isSome=true)(R:c≠T):Und K forms ks ["join",c,T] [.str "join",.str c,.str T]:=by obtain ⟨q,S,O⟩:=W ("join",["word","heap","heap"]) C9;have h:MeantL ks ["word","heap","heap"] ["join",c,T] [.str "join",.str c,.str T]:=.cons .word (.cons (dt I Y) (.cons (dt G U) .nil));obtain ⟨M,F⟩:=h.len;exact ⟨⟨"join",q,_,rfl,S,O,M,h.at⟩,F,by show 3<=100;decide,⟨_,rfl⟩,fun _=>⟨c,T,rfl,rfl,R⟩⟩
theorem ou (T:gj K forms)(n:AbcN z 8)(c:((m:Nat):Int).natAbs<10 ^ 30):Und K forms ks ["heap",z,txt m] [.str "heap",.str z,.int m] :=
 dP T (kinds:=["word","name","count"]) C9 (.cons .word (.cons (mQ n) (.cons (.count (iG c) Dc) .nil))) (by show 2<=10;decide) C9
theorem rJ (c:Nat)(n:Int)(b r:Str):((gW c n++b++r:Str)).cps.toList[n.toNat]?=(b++r).cps.toList[0]?:=by rw [bh];show ((gW c n).cps++(b++r).cps).toList[n.toNat]?=_;rw [GZ];have e:(gW c n).cps.toList=List.replicate n.toNat c:=rfl;rw [e,ER (by rw [Eo];exact Dj _),Eo,Jc]
theorem xI (c:Nat)(r:Str):((⟨#[c]⟩++r:Str)).cps.toList[0]?=some c:=by show ((#[c]:Array Nat)++r.cps).toList[0]?=_;rw [GZ];rfl
theorem AM {d i j:Int}(S:0<=i)(I:i<3)(O:0<=j)(T:j<3)(c:i≠j):((i+d) % 26).toNat≠((j+d) % 26).toNat:=by lia
theorem kn {O d1 d2 d3 d8 i:Int}(T:¬ d8 % 4=1)(c:¬ (d8 % 4=2/\i<10)):(wdF O d1 d2 d3 d8 i).cps.toList[(d1 % 7).toNat]?=some (97+((i+d3) % 26).toNat):=by
 unfold wdF;rw [Di T,Di c];split
 .rw [bh,bh,rJ];exact xI _ _
 rw [bh,rJ];exact xI _ _
theorem mE:∀x y:Fin 10,x≠y->deskW.getD x.val ""≠deskW.getD y.val "":=by decide +kernel
theorem zk {ns:List Int}{i j:Int}(M:0<=i)(U:i<3)(S:0<=j)(I:j<3)(O:i≠j):cV ns i≠cV ns j:=by
 unfold cV;generalize dB ns 0=d0;generalize dB ns 1=d1;generalize dB ns 2=d2;generalize dB ns 3=d3;generalize dB ns 8=d8;have J:=AM (d:=d3) M U S I O;intro e;by_cases a:d8 % 4=1
 .unfold wdF at e;rw [Dm a,Dm a] at e;have R:=congrArg (fun z:Str=>z.cps.toList) e;have T:97+((i+d3) % 26).toNat=97+((j+d3) % 26).toNat:=(FU R).1;lia
 by_cases b:d8 % 4=2
 .unfold wdF at e;rw [Di a,Di a,Dm ⟨b,Dc⟩,Dm ⟨b,Dc⟩] at e;have Y:0<=(i+d3) % 10:=Im _ Db;have W:(i+d3) % 10<10:=Hc _ Db;have F:0<=(j+d3) % 10:=Im _ Db;have G:(j+d3) % 10<10:=Hc _ Db;refine mE ⟨((i+d3) % 10).toNat,Dc⟩ ⟨((j+d3) % 10).toNat,Dc⟩ (fun z=>?_) e;have:=congrArg Fin.val z;have c:((i+d3) % 10).toNat=((j+d3) % 10).toNat:=this;lia
 have T:=congrArg (fun z:Str=>z.cps.toList[(d1 % 7).toNat]?) e;rw [kn a (fun z=>b z.1),kn a (fun z=>b z.1)] at T;have:=DJ T;lia
def DeedL (N:List Str)(H:Hp)(xs:List V):Prop:=∀x∈xs,∃ (q:Addr) (dd:Deed),x=.ref q/\H q=some (.tup (Deed.v dd))/\okD dd/\inD N dd
theorem DeedL.stay (h:DeedL N H xs)(k:∀b l,H b=some (.tup l)->H' b=some (.tup l)):DeedL N H' xs:=fun x c=>by obtain ⟨q,dd,e,T,o,i⟩:=h x c;exact ⟨q,dd,e,k _ _ T,o,i⟩
abbrev pR:Stmt:=top 47
theorem sh:av ["script","at","first","deeds","k","draw","name","worth","some"] ["script","at","first"] (ak pR):=fs0
def tX (K:W.Frag):Sp:=fun vs H Q _=>∃ (a:Addr) (ns:List Int) (k f:Int),vs=[.ref a,.int k,.int f]/\SqL K H a (ns.map V.int)/\ns.length<=63/\0<=k/\10<=f/\f<=22/\∀L xs H',H' L=some (.lst xs)->H L=none->xs.length<=17->DeedL (bK ns) H' xs->Same H H'->Q (.ref L) H'
theorem xC {fw:Addr}(F:Fun K "_law_some_deeds" "_law_some_deeds" pR f fd)(T:Bl mg)(I:au P w K mg base CX0 1 fn fdn ["script","k"] (lD K))(O:Nm K mg "_law_draw" fn fdn ["script","k"])(U:au P w K mg base CX0 2 fw fdw ["script","i"] (qe K))(R:Nm K mg "_law_word" fw fdw ["script","i"]):au P w K mg base CX0 3 f fd ["script","at","first"] (tX K):=by
 have sc:=sh;refine F.okQ sh fun eb A outer s H vs Q E hr h=>?_;obtain ⟨a,ns,k,fi,rfl,hS,hn,hk,f0,f1,kQ⟩:=h;have hu:=hr.units0;refine ⟨_,(ac (qst 3 sc.nd (bu ag))
  (ac (cE D8 rfl (cC rfl T.z_range (aa (ao bb (qcl I hr O aB (aa (qv 0) (aa (qv 1) ag))) ai) ag)) (bQ (i:=4) sc.nd rfl (Or.inl rfl)) (ac (qst 5 sc.nd (qcl I hr O aB (aa (qv 0) (aa (ao aN (ao aN (qv 1) ai) (qv 4)) ag))))
  (ac (qst 6 sc.nd (qcl U hr R aB (aa (qv 0) (aa (ao aN (qv 2) (ao bb (ao bo (qv 5) ai) (ao aN ai (ao bb (ao bo (qv 5) ai) ai)))) ag))))
  (ac (qst 7 sc.nd (aA aM (bu (aa (ao bb (ao bo (qv 5) ai) ai) (aa (kI hG (ao bb (ao bo (qv 5) ai) ai)) (aa (ao bb (ao bo (qv 5) ai) (ao lK ai ai)) (aa (ao cb (ao lK ai ai) ai) ag))))) (ao bb (ao bo (qv 5) ai) ai) pix))
  (aj (aT (aw dI (ao bb (qv 5) ai) ai (aG _)) (aj (aH (gN Eg Ex Ey cg (qv 3) (aa (be (aa aq (aa (qv 6) (aa (qv 7) ag)))) ag)))) (aj (aT (aw dI (ao bb (qv 5) ai) ai (aG _)) (aj (aH (gN Eg Ex Ey cg (qv 3) (aa (be (aa aq (aa (qv 6) (aa (qv 7) ag)))) ag)))) (ac (qst 8 sc.nd (be (aa (be (aa aq (aa (qv 6) ag))) (aa (be (aa aq (aa (qv 6) ag))) (aa (be (aa aq ag)) (aa (be (aa aq ag)) (aa (be (aa aq (aa (qv 6) ag))) ag)))))))
  (aj (aH (gN Eg Ex Ey cg (qv 3) (aa (aA aI (qv 8) (ao cb (ao bb (qv 5) ai) ai) pix) ag)))))))))))))
  (aj (aD (qv 3))))),?_⟩;dsimp only [bM,Cx.nox]
 have t1:∀{H':Hp},Same H H'->SqL K H' a (ns.map V.int):=fun k=>SqL.same' hS k;refine ⟨sz0,fun L hL=>?_⟩;refine gnew hL fun H0 s0 g0=>?_;refine ⟨a,ns,k,rfl,t1 s0,hn,hk,fun d H1 _ d0 d1 s1=>?_⟩;have q0:0<=d % 18:=br Db;have q1:d % 18<18:=bn Db;obtain ⟨N,eN,ey⟩:∃ N:Nat,d % 18=(N:Int)/\N<=17:=⟨(d % 18).toNat,Dc,Dc⟩;refine ⟨nqd,_,rfl,by show -2 ^ 62<=d % 18;lia,by show d % 18<2 ^ 62;lia,?_⟩;rw [eN,Ej];refine cR (lo:=0) (n:=N) (fun i Z HX=>∃ (xs:List V) (o4 o5 o6 o7 o8:Option V),Z=[some (.ref a),some (.int k),some (.int fi),some (.ref L),o4,o5,o6,o7,o8]/\HX L=some (.lst xs)/\xs.length=i/\DeedL (bK ns) HX xs/\Same H HX) ⟨[],none,none,none,none,none,rfl,s1 _ _ g0,rfl,(fun _ h=>nomatch h),s0.trans s1⟩ ?_ ?_
 .rintro i Z HX hi ⟨J,o4,o5,o6,o7,o8,rfl,S,lx,dl,sX⟩;refine ⟨a,ns,k+1+(0+(i:Int)),rfl,t1 sX,hn,Dc,fun d H2 _ eg ef s2=>?_⟩;have m0:0<=d / 160 % 6:=br Db;have m1:d / 160 % 6<6:=bn Db;have p0:0<=d / 16 % (1+d / 160 % 6):=br Dc;have p1:d / 16 % (1+d / 160 % 6)<1+d / 160 % 6:=bn Dc;refine ⟨⟨Db,Db⟩,⟨Db,Db⟩,nqd,(by show (0:Int)<1+d / 160 % 6;lia),a,ns,fi+d / 16 % (1+d / 160 % 6),rfl,t1 (sX.trans s2),hn,Dc,Dc,fun z H3 ez NZ s3=>?_⟩;have er:z∈bK ns:=by obtain ⟨j,ej⟩:=Gq (show 0<=fi-10+d / 16 % (1+d / 160 % 6) by lia);refine DG.mpr ⟨j,Fn.mpr Dc,?_⟩;rw [ez,show fi+d / 16 % (1+d / 160 % 6)=10+(j:Int) by lia]
  have n0:0<=d / 8 % 5:=br Db;have n1:d / 8 % 5<5:=bn Db;have n2:0<=d / 8 % 7:=br Db;have n3:d / 8 % 7<7:=bn Db;have n4:0<=d / 8 % 10 ^ 9:=br Db;have n5:d / 8 % 10 ^ 9<10 ^ 9:=bn Db;let W:List Int:=[d / 8 % 5,-(d / 8 % 7),d / 8 % 10 ^ 9,10 ^ 30-1];refine ⟨⟨Db,Db⟩,nqd,⟨Db,Db⟩,nqd,⟨Db,Db⟩,⟨Db,Db,Db⟩,nqd,⟨Db,Db,Db⟩,sz4,fun l1 ed=>?_⟩;have e0:0<=d / 4096 % 4:=br Db;have e1:d / 4096 % 4<4:=bn Db;have ix:atI (W.map V.int) (d / 4096 % 4)=_:=xy e0 (by show d / 4096 % 4<4;exact e1);refine ⟨⟨Db,Db⟩,nqd,_,_,SqL.of ad,ix,?_⟩;have wb:(W.getD (d / 4096 % 4).toNat 0).natAbs<10 ^ 30:=by
   have all:∀x∈W,x.natAbs<10 ^ 30:=by
    intro x S;have ew:(10:Int) ^ 30=1000000000000000000000000000000:=by decide
    have eo:(10:Nat) ^ 30=1000000000000000000000000000000:=by decide
    have t9:(10:Int) ^ 9=1000000000:=by decide
    rw [t9] at n5;rw [eo];simp only [W,ax,ah,Dv,ew,t9] at S n4;rcases S with rfl | rfl | rfl | rfl <;> lia
   rw [DS];cases e:W[(d / 4096 % 4).toNat]? with
   | none=>show (0:Int).natAbs<_;decide +kernel
   | some x=>exact all x (DV e)
  generalize W.getD (d / 4096 % 4).toNat 0=wv at wb ⊢;have s4:Same HX (upd H3 l1 (.lst (W.map V.int))):=(s2.trans s3).trans (ar ed);show (_:Hp->Prop) (upd H3 l1 (.lst (W.map V.int)));generalize upd H3 l1 (.lst (W.map V.int))=H4 at s4 ⊢;have G:∀(q:Addr) (dd:Deed) (H':Hp) (ei:Option V),H' q=some (.tup dd.v)->okD dd->inD (bK ns) dd->Same HX H'->∃ (xs:List V) (o4 o5 o6 o7 o8:Option V),[some (V.ref a),some (V.int k),some (V.int fi),some (V.ref L),some (V.int (0+(i:Int))),some (V.int d),some (V.str z),some (V.int wv),ei]=[some (.ref a),some (.int k),some (.int fi),some (.ref L),o4,o5,o6,o7,o8]/\(upd H' L (.lst (J++[.ref q]))) L=some (.lst xs)/\xs.length=i+1/\DeedL (bK ns) (upd H' L (.lst (J++[.ref q]))) xs/\Same H (upd H' L (.lst (J++[.ref q]))):=fun q dd H' ei hq ok ind sH=>by
   have tk:∀b l,H' b=some (.tup l)->(upd H' L (.lst (J++[.ref q]))) b=some (.tup l):=fun b l e=>by rw [af (aL e (sH _ _ S) nqz)];exact e
   refine ⟨_,_,_,_,_,_,rfl,ad,by rw [Ds,lx];rfl,fun x el=>?_,fun b u e=>?_⟩
   .rcases Du.mp el with y | y
    .exact (dl.stay (H':=upd H' L (.lst (J++[.ref q]))) fun b l e=>tk b l (sH _ _ e)) x y
    .exact ⟨q,dd,De y,tk _ _ hq,ok,ind⟩
   .rw [af (am e hL)];exact sH _ _ (sX _ _ e)
  have r0:0<=d % 16:=br Db;have r1:d % 16<16:=bn Db;have M:J.length<sizeLine:=aZ Dc;refine ⟨nqd,_,rfl,aS (fun _=>?_) (fun _=>?_)⟩
  .refine ⟨.inl ⟨rfl,_,SqL.of (s4 _ _ S)⟩,sz3,fun q hq=>⟨L,_,_,rfl,rfl,?_,M,G q (.put z wv) _ _ ad ⟨NZ,wb⟩ er (s4.trans (ar hq))⟩⟩;rw [af (am (s4 _ _ S) hq)];exact s4 _ _ S
  refine ⟨nqd,_,rfl,aS (fun _=>?_) (fun c=>?_)⟩
  .refine ⟨.inl ⟨rfl,_,SqL.of (s4 _ _ S)⟩,sz3,fun q hq=>⟨L,_,_,rfl,rfl,?_,M,G q (.change z wv) _ _ ad ⟨NZ,wb⟩ er (s4.trans (ar hq))⟩⟩;rw [af (am (s4 _ _ S) hq)];exact s4 _ _ S
  have c':¬ d % 16<11:=fun z=>c (Dk z);refine ⟨sz2,fun q1 ec=>⟨sz2,fun q2 eh=>⟨sz1,fun q3 ea=>⟨sz1,fun q4 et=>⟨sz2,fun q5 ee=>⟨sz5,fun q6 Y=>?_⟩⟩⟩⟩⟩⟩;have u1:=ar (o:=.tup [.str "drop",.str z]) ec;have v1:=ad (H:=H4) (a:=q1) (o:=.tup [.str "drop",.str z]);generalize upd H4 q1 (.tup [.str "drop",.str z])=G1 at u1 v1 eh ea et ee Y ⊢;have u2:=ar (o:=.tup [.str "drop",.str z]) eh;have v2:=ad (H:=G1) (a:=q2) (o:=.tup [.str "drop",.str z]);generalize upd G1 q2 (.tup [.str "drop",.str z])=G2 at u2 v2 ea et ee Y ⊢;have u3:=ar (o:=.tup [.str "take"]) ea;have v3:=ad (H:=G2) (a:=q3) (o:=.tup [.str "take"]);generalize upd G2 q3 (.tup [.str "take"])=G3 at u3 v3 et ee Y ⊢;have u4:=ar (o:=.tup [.str "least"]) et;have v4:=ad (H:=G3) (a:=q4) (o:=.tup [.str "least"]);generalize upd G3 q4 (.tup [.str "least"])=G4 at u4 v4 ee Y ⊢;have u5:=ar (o:=.tup [.str "drop",.str z]) ee;have v5:=ad (H:=G4) (a:=q5) (o:=.tup [.str "drop",.str z]);generalize upd G4 q5 (.tup [.str "drop",.str z])=G5 at u5 v5 Y ⊢;refine gnew Y fun G6 u6 v6=>?_;have sA:Same HX G6:=(((((s4.trans u1).trans u2).trans u3).trans u4).trans u5).trans u6;have cs:d % 16-11=((0:Nat):Int)∨d % 16-11=((1:Nat):Int)∨d % 16-11=((2:Nat):Int)∨d % 16-11=((3:Nat):Int)∨d % 16-11=((4:Nat):Int):=by lia
  refine ⟨.inl ⟨rfl,_,SqL.of (sA _ _ S)⟩,nqd,?_⟩;rcases cs with y | y | y | y | y
  .exact ⟨_,_,SqT.of v6,(by show atI _ (d % 16-11)=_;rw [y];exact aW rfl),L,_,_,rfl,rfl,sA _ _ S,M,G q1 (.drop z) _ _ (u6 _ _ (u5 _ _ (u4 _ _ (u3 _ _ (u2 _ _ v1))))) NZ trivial sA⟩
  .exact ⟨_,_,SqT.of v6,(by show atI _ (d % 16-11)=_;rw [y];exact aW rfl),L,_,_,rfl,rfl,sA _ _ S,M,G q2 (.drop z) _ _ (u6 _ _ (u5 _ _ (u4 _ _ (u3 _ _ v2)))) NZ trivial sA⟩
  .exact ⟨_,_,SqT.of v6,(by show atI _ (d % 16-11)=_;rw [y];exact aW rfl),L,_,_,rfl,rfl,sA _ _ S,M,G q3 .take _ _ (u6 _ _ (u5 _ _ (u4 _ _ v3))) trivial trivial sA⟩
  .exact ⟨_,_,SqT.of v6,(by show atI _ (d % 16-11)=_;rw [y];exact aW rfl),L,_,_,rfl,rfl,sA _ _ S,M,G q4 .least _ _ (u6 _ _ (u5 _ _ v4)) trivial trivial sA⟩
  .exact ⟨_,_,SqT.of v6,(by show atI _ (d % 16-11)=_;rw [y];exact aW rfl),L,_,_,rfl,rfl,sA _ _ S,M,G q5 (.drop z) _ _ (u6 _ _ v5) NZ trivial sA⟩
 rintro Z HX ⟨xs,o4,o5,o6,o7,o8,rfl,S,lx,dl,sX⟩;exact (kQ L xs HX S hL Dc dl sX)
def tlO:Option Int->List (Key×V)
 | none=>[]
 | some j=>[(Sum.inr (Str.ofString "more"),V.int j)]
theorem qZ:∀o,oh (tlO o)
 | none=>⟨(fun _ h=>nomatch h),by show 0<=1;decide⟩
 | some j=>⟨fun p h=>by rw [De h],by show 1<=1;decide⟩
structure Cell where
 (h hd hl st r td:Addr)
 s:LS
 o:Option Int
def Cell.ft (c:Cell):List Addr:=[c.h,c.hd,c.hl,c.st,c.r,c.td]
def Cell.j (c:Cell):Int:=c.o.getD 0
structure CellOk (N:List Str)(CL:Addr)(H:Hp)(c:Cell)(z:Str)(n B:Nat):Prop where
 la:LateAt CL H c.h c.hd c.hl c.s
 ow:DmAt (tlO c.o) H c.st c.r c.td c.s c.s.looks
 n1:c.hd≠c.st
 n2:c.hd≠c.td
 n3:c.hl≠c.r
 li:Gm.LInv slt c.s
 sp:c.s.stamp<=n
 sm:Sml c.s.there
 nn:∀p∈prs c.s.there,p.2∈N
 pt:Gm.pot 10 c.s<=70*n
 nz:AbcN z 8
 j0:0<=c.j
 j1:c.j<=B
section
variable {N:List Str}{CL:Addr}{H H' H2:Hp}{c c' c2:Cell}{z:Str}{n n' B B':Nat}
theorem CellOk.live (O:CellOk N CL H c z n B):∀a∈c.ft,∃ o,H a=some o/\∀l,o≠.tup l:=by
 obtain ⟨W,R⟩:=O.la.ob;obtain ⟨ks,S,_⟩:=O.la.dc;obtain ⟨xs,M,_⟩:=O.la.ls;obtain ⟨ys,U,_⟩:=O.ow.hr;obtain ⟨kt,I,_⟩:=O.ow.ht;intro a T;simp only [Cell.ft,ax,ah,Dv] at T;rcases T with rfl | rfl | rfl | rfl | rfl | rfl
 .exact ⟨_,R,fun l z=>nomatch z⟩
 .exact ⟨_,S,fun l z=>nomatch z⟩
 .exact ⟨_,M,fun l z=>nomatch z⟩
 .exact ⟨_,O.ow.hs,fun l z=>nomatch z⟩
 .exact ⟨_,U,fun l z=>nomatch z⟩
 exact ⟨_,I,fun l z=>nomatch z⟩
theorem CellOk.stay (O:CellOk N CL H c z n B)(k:∀a∈c.ft,∀o,H a=some o->H' a=some o)(t:∀b l,H b=some (.tup l)->H' b=some (.tup l))(I:n<=n')(S:B<=B'):CellOk N CL H' c z n' B' :=
 ⟨O.la.stay (fun b o T e=>k b (by rcases T with y | y | y <;> rw [y] <;> simp [Cell.ft]) o e) t,O.ow.stay (fun b o T e=>k b (by rcases T with y | y | y <;> rw [y] <;> simp [Cell.ft]) o e) t,O.n1,O.n2,O.n3,O.li,Dq O.sp I,O.sm,O.nn,by have:=O.pt;lia,O.nz,O.j0,by have:=O.j1;lia⟩
theorem CellOk.same (O:CellOk N CL H c z n B)(k:Same H H'):CellOk N CL H' c z n B:=O.stay (fun a _ o e=>k a o e) (fun b l e=>k _ _ e) (Dj _) (Dj _)
theorem CellOk.mono (O:CellOk N CL H c z n B)(I:n<=n')(T:B<=B'):CellOk N CL H c z n' B':=O.stay (fun _ _ _ e=>e) (fun _ _ e=>e) I T
theorem CellOk.tk (O:CellOk N CL H c z n B)(kp:Kept c.ft H H'):∀b l,H b=some (.tup l)->H' b=some (.tup l):=fun x l e=>kp x _ e fun m=>by obtain ⟨o,I,T⟩:=O.live x m;rw [I] at e;cases e;exact T _ rfl
structure Stp (H H':Hp)(c c':Cell):Prop where
 eh:c'.h=c.h
 es:c'.st=c.st
 eo:c'.o=c.o
 kp:Kept c.ft H H'
 fr:∀a o,H a=some o->a∉c.ft->a∉c'.ft
theorem Stp.refl:Stp H H c c:=⟨rfl,rfl,rfl,fun _ _ e _=>e,fun _ _ _ h=>h⟩
theorem Stp.trans (a:Stp H H' c c')(b:Stp H' H2 c' c2):Stp H H2 c c2 :=
 ⟨b.eh.trans a.eh,b.es.trans a.es,b.eo.trans a.eo,fun x o e n=>b.kp x o (a.kp x o e n) (a.fr x o e n),fun x o e n=>b.fr x o (a.kp x o e n) (a.fr x o e n)⟩
end
theorem Ab {s:LS}(h:¬ dd.fit s):(ay s dd).1=s/\(match dd with | .put _ _=>(ay s dd).2=.clash | _=>(ay s dd).2=.nothing):=by
 cases dd with
 | put n w =>
  have e:(Gm.dget s.there n).isSome=true:=by
   cases q:Gm.dget s.there n with
   | none=>exact absurd q h
   | some _=>rfl
  unfold ay;dsimp only;rw [Dm e];exact ⟨rfl,rfl⟩
 | drop n =>
  have e:Gm.dget s.there n=none:=GB.mp h;unfold ay;dsimp only;rw [e];exact ⟨rfl,rfl⟩
 | change n w =>
  have e:Gm.dget s.there n=none:=GB.mp h;unfold ay;dsimp only;rw [e];exact ⟨rfl,rfl⟩
 | take =>
  have e:s.there=[]:=GB.mp h;unfold ay;dsimp only;rw [Dm e];exact ⟨rfl,rfl⟩
 | least =>
  have e:s.there=[]:=GB.mp h;unfold ay;dsimp only;rw [Dm e];exact ⟨rfl,rfl⟩
theorem prs_thW {T:List (Str×En)}{w:Int}{n:Str}:(w,n)∈prs T↔(n,w)∈thW T:=by
 unfold prs thW;simp only [DG,Hw];constructor
 .rintro ⟨p,h,O,c⟩;exact ⟨p,h,c,O⟩
 rintro ⟨p,h,O,c⟩;exact ⟨p,h,c,O⟩
theorem xr {s:LS}(I:Gm.LInv slt s)(ok:okD dd)(R:Sml s.there):Sml (ay s dd).1.there:=by
 rintro ⟨w,n⟩ T;rw [prs_thW,jC I] at T;have c:(n,w)∈thW s.there->w.natAbs<10 ^ 31/\n.length<=10:=fun h=>R _ (prs_thW.mpr h);have big:∀{v:Int},v.natAbs<10 ^ 30->v.natAbs<10 ^ 31:=fun h=>EB h C9;cases dd with
 | put m v =>
  cases e:(ay s (.put m v)).2 <;> rw [e] at T <;> first | exact c T | skip
  rcases Gm.dput_mem T with ⟨S,O⟩ | ⟨_,h⟩
  .subst S O;exact ⟨big ok.2,Dq ok.1.hi Db⟩
  .exact c h
 | drop m =>
  cases e:(ay s (.drop m)).2 <;> rw [e] at T <;> first | exact c T | exact c (Gm.ddel_mem.mp T).2
 | change m v =>
  cases e:(ay s (.change m v)).2 <;> rw [e] at T <;> first | exact c T | skip
  rcases Gm.dput_mem T with ⟨S,O⟩ | ⟨_,h⟩
  .subst S O;exact ⟨big ok.2,Dq ok.1.hi Db⟩
  .exact c h
 | take =>
  cases e:(ay s .take).2 <;> rw [e] at T <;> first | exact c T | exact c (Gm.ddel_mem.mp T).2
 | least =>
  cases e:(ay s .least).2 <;> rw [e] at T <;> exact c T
theorem yN {s:LS}(I:Gm.LInv slt s)(ok:inD N dd)(R:∀p∈prs s.there,p.2∈N):∀p∈prs (ay s dd).1.there,p.2∈N:=by
 rintro ⟨w,n⟩ T;rw [prs_thW,jC I] at T;have c:(n,w)∈thW s.there->n∈N:=fun h=>R _ (prs_thW.mpr h);cases dd with
 | put m v =>
  cases e:(ay s (.put m v)).2 <;> rw [e] at T <;> first | exact c T | skip
  rcases Gm.dput_mem T with ⟨O,S⟩ | ⟨_,h⟩
  .subst O;exact ok
  .exact c h
 | drop m =>
  cases e:(ay s (.drop m)).2 <;> rw [e] at T <;> first | exact c T | exact c (Gm.ddel_mem.mp T).2
 | change m v =>
  cases e:(ay s (.change m v)).2 <;> rw [e] at T <;> first | exact c T | skip
  rcases Gm.dput_mem T with ⟨O,S⟩ | ⟨_,h⟩
  .subst O;exact ok
  .exact c h
 | take =>
  cases e:(ay s .take).2 <;> rw [e] at T <;> first | exact c T | exact c (Gm.ddel_mem.mp T).2
 | least =>
  cases e:(ay s .least).2 <;> rw [e] at T <;> exact c T
theorem cZ {s:LS}(I:Gm.LInv slt s)(c:∀p∈prs s.there,p.2∈N):s.there.length<=N.length:=by
 have h:=Gm.nodup_len (R:=N) I.nd fun n O=>by obtain ⟨p,T,e⟩:=DG.mp O;rw [<-e];exact c (p.2.w,p.1) (DG.mpr ⟨p,T,rfl⟩)
 rw [Dg] at h;exact h
theorem jc {s:LS}(I:Gm.LInv slt s)(st:s.stamp<=800)(h:Gm.pot 10 s<=70*n):Gm.pot 10 (ay s dd).1<=70*((n+1:Nat):Int):=by
 have rl:=I.len;by_cases f:dd.fit s
 .have p:=vK I f (b:=10) (by have:xg dd<=1:=(by cases dd <;> (simp only [xg];lia));show _<=1024;lia);have q:m9 10 dd<=70:=by cases dd <;> (simp only [m9];lia)
  lia
 rw [(Ab f).1];lia
theorem gS {s:LS}(I:Gm.LInv slt s)(T:n<=800)(h:Gm.pot 10 s<=70*n):s.looks<=56000:=by have l:=Gm.LInv.le I;unfold Gm.pot at h;have c:(0:Int)<=(2*(10:Nat)+2)*((s.row.length:Int)-s.there.length):=Int.mul_nonneg Db Dc;lia
section
variable {N:List Str}{CL:Addr}{H H2 H3 H4:Hp}{c:Cell}{z:Str}{n B:Nat}{r' l':Addr}{s':LS}
theorem CellOk.own (O:CellOk N CL H c z n B)(O':DmAt (tlO c.o) H2 c.st r' c.td s' s'.looks)(k:Kept [c.st,c.r,c.td] H H2)(f:r'=c.r∨H r'=none):LateAt CL H2 c.h c.hd c.hl c.s/\(∀x∈[c.st,r',c.td],x∉[c.h,c.hd,c.hl]):=by
 obtain ⟨dx,I⟩:=O.la.ob;obtain ⟨ks,u2,_⟩:=O.la.dc;obtain ⟨xs,S,_⟩:=O.la.ls;obtain ⟨ys,U,_⟩:=O.ow.hr;obtain ⟨kt,Y,_⟩:=O.ow.ht;have W:c.h≠c.st:=aL I O.ow.hs nqz;have J:c.h≠c.r:=aL I U nqz;have a3:c.h≠c.td:=aL I Y nqz;have F:c.hd≠c.r:=aL u2 U nqz;have a5:c.hl≠c.st:=aL S O.ow.hs nqz;have G:c.hl≠c.td:=aL S Y nqz;have T:∀x o,H x=some o->x≠c.r->r'≠x:=fun x o e ne y=>by
  rcases f with w | w
  .exact ne (y.symm.trans w)
  .rw [y,e] at w;cases w
 refine ⟨O.la.stay (fun b o R e=>k b o e (by
  simp only [ax,ah,Dv,Fv];rcases R with y | y | y <;> rw [y]
  .exact ⟨W,J,a3⟩
  .exact ⟨O.n1,F,O.n2⟩
  .exact ⟨a5,O.n3,G⟩)) (O.ow.tk k fun b R=>R),fun x M m=>?_⟩
 simp only [ax,ah,Dv] at M m;rcases M with w | w | w <;> rcases m with y | y | y <;> rw [w] at y
 .exact W y.symm
 .exact O.n1 y.symm
 .exact a5 y.symm
 .exact T _ _ I J y
 .exact T _ _ u2 F y
 .exact T _ _ S O.n3 y
 .exact a3 y.symm
 .exact O.n2 y.symm
 exact G y.symm
theorem CellOk.both (O:CellOk N CL H c z n B)(ok:okD dd)(M:inD N dd)(hn:n<=799)(W:DmAt (tlO c.o) H2 c.st r' c.td (ay c.s dd).1 (ay c.s dd).1.looks)(k:Kept [c.st,c.r,c.td] H H2)(f:r'=c.r∨H r'=none)(T:Same H2 H3)(LA:LateAt CL H4 c.h c.hd l' (ay c.s dd).1)(F:Kept [c.h,c.hd,c.hl] H3 H4)(G:Fr3 H3 c.hl l'):
  CellOk N CL H4 ⟨c.h,c.hd,l',c.st,r',c.td,(ay c.s dd).1,c.o⟩ z (n+1) B/\Stp H H4 c ⟨c.h,c.hd,l',c.st,r',c.td,(ay c.s dd).1,c.o⟩:=by
 obtain ⟨L2,off⟩:=O.own W k f;obtain ⟨ys,ur,_⟩:=W.hr;have OH:=W.same T;have U:∀b l,H3 b=some (.tup l)->H4 b=some (.tup l):=fun b l e=>F b _ e (fun m=>(L2.same T).notup b m _ e);have OI:=OH.stay (fun b o hb e=>F b o e (off b (by rcases hb with y | y | y <;> rw [y] <;> simp))) U;have lr:l'≠r':=fun y=>by
  rcases G with w | w
  .exact off r' Dd (by rw [<-y,w];simp)
  .rw [y,T _ _ ur] at w;cases w
 have R:∀x,x∈[c.h,c.hd,c.hl]->x∈c.ft:=fun x S=>by
  simp only [Cell.ft,ax,ah,Dv] at S ⊢;rcases S with y | y | y
  .exact .inl y
  .exact .inr (.inl y)
  .exact .inr (.inr (.inl y))
 have I:∀x,x∈[c.st,c.r,c.td]->x∈c.ft:=fun x S=>by simp only [Cell.ft,ax,ah,Dv] at S ⊢;exact .inr (.inr (.inr S))
 refine ⟨⟨LA,OI,O.n1,O.n2,lr,xA O.li dd,Dq (rg O.li dd) (E2 O.sp),xr O.li ok O.sm,yN O.li M O.nn,jc O.li (by have:=O.sp;lia) O.pt,O.nz,O.j0,O.j1⟩,rfl,rfl,rfl,fun b o e n=>?_,fun b o e n=>?_⟩
 .exact F b o (T _ _ (k b o e (fun m=>n (I _ m)))) (fun m=>n (R _ m))
 have eH:=T _ _ (k b o e (fun m=>n (I _ m)));simp only [Cell.ft,ax,ah,Dv,Fv] at n ⊢;obtain ⟨y1,y2,J,y4,Y,y6⟩:=n;refine ⟨y1,y2,fun y=>?_,y4,fun y=>?_,y6⟩
 .rcases G with w | w
  .exact J (y.trans w)
  .rw [<-y,eH] at w;cases w
 rcases f with w | w
 .exact Y (y.trans w)
 rw [<-y,e] at w;cases w
end
abbrev qB:Stmt:=top 48
theorem tS:av ["desk","called","heap","deeds","deed","told","line","part","due"] ["desk","called","heap","deeds"] (ak qB):=fs0
def tm (K:W.Frag)(N:List Str)(C CL:Addr):Sp:=fun vs H Q _=>∃ (p d e Ld:Addr) (ks js:List (Key×V)) (z:Str) (c:Cell) (n B:Nat) (xs:List V),vs=[.ref p,.str z,.ref c.st,.ref Ld]/\bV C H p d e ks js/\aU ks (Sum.inr z)=some (.ref c.h)/\aU js (Sum.inr z)=some (.int c.j)/\CellOk N CL H c z n B/\(∀a∈[p,d,e,Ld],a∉c.ft) /\
 H Ld=some (.lst xs)/\DeedL N H xs/\n+xs.length<=400/\B<=10 ^ 9/\∀c' H',CellOk N CL H' c' z (n+xs.length) B->Stp H H' c c'->Q (.bl true) H'
theorem vS {f2:Addr}(F:Fun K "_law_done" "_law_done" qB f fd)(T:Bl mg)(J:mg "str"=none)(L:DK K C)(FO:gj K forms)(ez:bp K C "ask" fa)(eg:au P w K mg base (CXe P w) 9 fa fda ["self","line"] (oS K forms C CL CC CN))(er:Binds K fda ["self","line"] [])(M:au P w K mg base CX0 4 f2 fd2 ["heap","deed"] mU)(R:Nm K mg "_law_deed" f2 fd2 ["heap","deed"]):
  au P w K mg base CX0 10 f fd ["desk","called","heap","deeds"] (tm K N C CL):=by
 have sc:=tS;refine F.okQ tS fun e9 A outer s_ H vs Q E hr h=>?_;obtain ⟨p,d,e,Ld,ks,js,z,c,n,B,xs,rfl,DA,vh,vj,CO,off,hL,dl,hn,hB,kQ⟩:=h;have hu:=hr.units0;have eZ:=hr.u100;refine ⟨_,(ac (cE D8 rfl (fL (qv 3)) (bQ (i:=4) sc.nd rfl (Or.inl rfl)) (ac (qst 5 sc.nd (qcl M hr R aB (aa (qv 2) (aa (qv 4) ag))))
  (ac (aT (ca (qcB xf T.z_isinstance (aa (qv 5) (aa (yI (v:=.ty "int") (u:=.type "int") (by rfl) T.z_int C9 (by rfl)) ag)))) (aj (QS.mk (L2.ps_continue))) aE)
  (ac (qst 6 sc.nd (ao ba (ao ba (aA aI (qv 4) ai pix) aq) (qv 1)))
  (ac (cE D8 rfl (iS (dE sl_tup (qv 4) (fz ai) fC)) (bQ (i:=7) sc.nd rfl (Or.inl rfl)) (aj (qst 6 sc.nd (ao ba (ao ba (qv 6) aq) (qcT bv J (aa (qv 7) ag))))))
  (ac (qst 8 sc.nd (bu ag))
  (ac (ms (aw yz (qv 5) eE (aG _)) (aj (qst 8 sc.nd (bu (aa (ao ba (ao ba (qcT bv J (aa (aA aI (qv 5) ai pix) ag)) aq) (aA aI (qv 5) ai pix)) ag)))) aE)
  (aj (aT (aw (lO eZ) (aV (qv 0) L.cl ez eg hr.mo er .nil dq (aa (qv 6) ag)) (qv 8) (aG _)) (aj (aD gi)) aE)))))))))
  (aj (aD gi))),?_⟩;dsimp only [bM,Cx.nox]
 refine ⟨Ld,rfl,⟨_,SqL.of hL⟩,?_⟩;refine nJ (K:=K) (a:=Ld) (xs:=xs) (fun i Z H1=>∃ (c':Cell) (o4 o5 o6 o7 o8:Option V),Z=[some (.ref p),some (.str z),some (.ref c.st),some (.ref Ld),o4,o5,o6,o7,o8]/\CellOk N CL H1 c' z (n+i) B/\Stp H H1 c c') ⟨c,none,none,none,none,none,rfl,CO,Stp.refl⟩ (fun i Z H1 _ h'=>by obtain ⟨_,_,_,_,_,_,_,_,S⟩:=h';exact SqL.of (S.kp _ _ hL (off _ Dd))) ?_ ?_
 .rintro i x Z H1 hi ⟨O,o4,o5,o6,o7,o8,rfl,I,S1⟩;have li:i<xs.length:=(Dz.mp hi).1;obtain ⟨q,dd,rfl,eH,ok,eA⟩:=dl x (DV hi);have hq:=CO.tk S1.kp _ _ eH;have nz:=I.nz;refine ⟨tlO O.o,O.st,O.r,O.td,q,O.s,dd,(by rw [S1.es];rfl),I.ow,I.li,(by have:=I.sp;lia),hq,fun v r' H2 O' G k2 f2=>?_⟩;obtain ⟨L2,e0⟩:=I.own O' k2 f2;have eN:=I.ow.tk k2 fun b hb=>hb;have eo:=eN _ _ hq;by_cases ft:dd.fit O.s
  case neg =>
   obtain ⟨e1,e2⟩:=Ab ft;obtain ⟨m,ev⟩:∃ m:Int,v=.int m:=by
    cases dd with
    | put a b=>rw [show (ay O.s (.put a b)).2=.clash from e2] at G;exact ⟨1,G⟩
    | drop a=>rw [show (ay O.s (.drop a)).2=.nothing from e2] at G;exact ⟨2,G⟩
    | change a b=>rw [show (ay O.s (.change a b)).2=.nothing from e2] at G;exact ⟨2,G⟩
    | take=>rw [show (ay O.s .take).2=.nothing from e2] at G;exact ⟨2,G⟩
    | least=>rw [show (ay O.s .least).2=.nothing from e2] at G;exact ⟨2,G⟩
   subst ev;obtain ⟨C2,S2⟩:=I.both ok eA Dc O' k2 f2 (fun _ _ e=>e) (by rw [e1];exact L2) (fun _ _ e _=>e) (.inl rfl);exact ⟨_,_,_,true,rfl,.int _,rfl,_,rfl,iq ⟨_,_,_,_,_,_,rfl,C2,S1.trans S2⟩⟩
  obtain ⟨ty,eB,eF⟩:∃ ty,gk K H2 v ty/\W.kitOne K ty (.type "int")=some false:=by
   rcases mh I.li ft with e | ⟨a,b,e,_⟩ <;> rw [e] at G
   .rw [show v=.non from G];exact ⟨_,.non,rfl⟩
   .obtain ⟨a,rfl,ha⟩:=G;exact ⟨_,.tup ha,rfl⟩
  refine ⟨v,_,ty,false,rfl,eB,eF,_,rfl,bW ?_⟩;obtain ⟨x,vs,ev,hx⟩:∃ (x:Str) (vs:List V),dd.v=.str x::vs/\x.length<=10:=by cases dd <;> exact ⟨_,_,rfl,C9⟩
  rw [ev] at eo;have e6:=nz.hi;have l1:(" ":Str).length=1:=by decide +kernel
  have S:1000<=sizeLine:=by decide
  have tv:vs.length<=2/\∀v∈vs,uc v/\(dX v).length<=40:=by
   cases dd with
   | put n w =>
    cases ev;refine ⟨by show 2<=2;decide,fun v hv=>?_⟩;simp only [ax,ah,Dv] at hv;rcases hv with rfl | rfl
    .exact ⟨.inr ⟨_,rfl⟩,Dq ok.1.hi Db⟩
    .exact ⟨(bj (EB ok.2 C9)).1,Dq (cp (k:=30) Db ok.2) Db⟩
   | change n w =>
    cases ev;refine ⟨by show 2<=2;decide,fun v hv=>?_⟩;simp only [ax,ah,Dv] at hv;rcases hv with rfl | rfl
    .exact ⟨.inr ⟨_,rfl⟩,Dq ok.1.hi Db⟩
    .exact ⟨(bj (EB ok.2 C9)).1,Dq (cp (k:=30) Db ok.2) Db⟩
   | drop n =>
    cases ev;refine ⟨by show 1<=2;decide,fun v hv=>?_⟩;rw [De hv];exact ⟨.inr ⟨_,rfl⟩,Dq (AbcN.hi (z:=n) ok) Db⟩
   | take=>cases ev;exact ⟨by show 0<=2;decide,fun v hv=>nomatch hv⟩
   | least=>cases ev;exact ⟨by show 0<=2;decide,fun v hv=>nomatch hv⟩
  have ew:bJ z dd=x::z::vs.map dX:=by cases dd <;> (cases ev;rfl)
  refine ⟨_,_,SqT.of eo,aW (j:=0) rfl,_,_,rfl,rfl,Dc,_,_,rfl,rfl,by rw [aR];lia,?_⟩;refine ⟨_,rfl,q,_,rfl,SqT.of eo,?_,fun t ht=>?_⟩
  .intro y;have:=(HT.sIx_nat (V.str x::vs).length 0 1).symm.trans y.1;rw [Dw] at this;lia
  have e2:eK (V.str x::vs) (some 1) none=vs:=by unfold eK;have:=HT.sIx_nat (V.str x::vs).length 0 1;rw [show (some (1:Int))=some ((1:Nat):Int) from rfl,this,Dw,Nat.min_eq_left Dc];show vs.take (vs.length+1-1)=vs;exact Eu Dc
  rw [e2];refine gnew ht fun H3 s3 g3=>?_;refine ⟨t,rfl,⟨_,SqT.of g3⟩,?_⟩;refine gI (K:=K) (a:=t) (xs:=vs) (fun i' Z H5=>∃ (ln:Str) (o:Option V),Z=[some (.ref p),some (.str z),some (.ref c.st),some (.ref Ld),some (.ref q),some v,some (.str ln),o,o8]/\ln=((vs.take i').map dX).foldl (fun (eh w:Str)=>eh++" "++w) (x++" "++z)/\ln.length<=40+50*i'/\H5=H3) ⟨_,o7,rfl,rfl,by rw [aR,aR];lia,rfl⟩ (fun i' Z H5 _ h'=>by obtain ⟨ln,o,_,_,_,e⟩:=h';rw [e];exact SqT.of g3) ?_ ?_
  .rintro i' v' Z H5 et ⟨ln,o,rfl,el,ll,rfl⟩;obtain ⟨t1,t2⟩:=tv.2 v' (DV et);have e5:i'<vs.length:=(Dz.mp et).1;have ek:∃ (ei:Str) (o:Option V),[some (V.ref p),some (V.str z),some (V.ref c.st),some (V.ref Ld),some (V.ref q),some v,some (V.str (ln++" "++dX v')),some v',o8]=[some (.ref p),some (.str z),some (.ref c.st),some (.ref Ld),some (.ref q),some v,some (.str ei),o,o8]/\ei=((vs.take (i'+1)).map dX).foldl (fun (eh w:Str)=>eh++" "++w) (x++" "++z)/\ei.length<=40+50*(i'+1)/\H5=H5:=by refine ⟨_,_,rfl,?_,by rw [aR,aR];lia,rfl⟩;rw [Ef,et,D4,List.foldl_append,<-el];rfl
   have e7:(ln++(" ":Str)).length=ln.length+1:=by rw [aR,l1]
   refine ⟨_,_,rfl,rfl,Dc,?_⟩;rcases t1 with ⟨m,rfl,eG⟩ | ⟨u,rfl⟩
   .exact .inl ⟨m,rfl,eG,_,_,rfl,rfl,by have:(dX (.int m)).length=(Str.ofString (toString m)).length:=rfl;lia,ek⟩
   .exact .inr ⟨u,rfl,_,_,rfl,rfl,by have:(dX (.str u)).length=u.length:=rfl;lia,ek⟩
  rintro Z H5 ⟨ln,o,rfl,el,ll,rfl⟩;rw [D9,fk] at el;have ej:Str.join " " ((x++" "++z)::vs.map dX)=Str.join " " (x::z::vs.map dX):=by rw [<-fk,<-fk];rfl
  rw [ej,<-ew] at el;refine ⟨sz0,fun D0 ed=>?_⟩;have s4:=s3.trans (ar (o:=.lst []) ed);have g4:=ad (H:=H5) (a:=D0) (o:=.lst []);have eC:H2 D0=none:=s3.free ed;generalize upd H5 D0 (.lst [])=H6 at s4 g4 ⊢;refine ⟨fun σ' H7=>∃ D1,σ'=[some (.ref p),some (.str z),some (.ref c.st),some (.ref Ld),some (.ref q),some v,some (.str ln),o,some (.ref D1)]/\H7 D1=some (.lst (Bc (ay O.s dd).2))/\H2 D1=none/\Same H2 H7,?_,?_⟩
  .rcases mh I.li ft with e | ⟨wv,nm,e,ef⟩ <;> rw [e] at G
   .have ea:v=.non:=G;subst ea;refine ⟨rfl,_,rfl,bW ⟨D0,rfl,?_,eC,s4⟩⟩;rw [e];exact g4
   .obtain ⟨pa,ea,ec⟩:=G;subst ea;have m1:wv.natAbs<10 ^ 31:=(I.sm _ ef).1;have m2:nm.length<=10:=(I.sm _ ef).2;obtain ⟨t1,t2⟩:=bj m1;have t3:(dX (.int wv)).length=(Str.ofString (toString wv)).length:=rfl;refine ⟨rfl,_,rfl,iq ⟨_,_,SqT.of (s4 _ _ ec),rfl,.inl ⟨wv,rfl,bI (EB m1 C9),_,_,rfl,rfl,Dc,_,_,SqT.of (s4 _ _ ec),rfl,_,_,rfl,rfl,by rw [aR];lia,sz1,fun D1 ey=>⟨D1,rfl,?_,s4.free ey,s4.trans (ar ey)⟩⟩⟩⟩;rw [e];exact ad
  rintro σ' H7 ⟨D1,rfl,g7,Y,s7⟩;have ee:∀a o,H a=some o->a∉c.ft->H7 a=some o:=fun a o e na=>by have n1:=S1.fr a o e na;refine s7 _ _ (k2 a o (S1.kp a o e na) fun m=>n1 ?_);simp only [Cell.ft,ax,ah,Dv] at m ⊢;exact .inr (.inr (.inr m))
  obtain ⟨dx,hp⟩:=DA.ob;have eD:bV C H7 p d e ks js:=⟨⟨dx,ee _ _ hp (off _ Dd)⟩,ee _ _ DA.hd (off _ Dd),ee _ _ DA.hj (off _ Dd)⟩;obtain ⟨x',rest,eb,nh,nj,U⟩:=xX FO nz (ks:=ks) (by rw [vh];rfl) ok;rw [ev] at eb;obtain ⟨e3,e4⟩:=FU eb;cases e3;subst e4;have e8:=gS I.li (n:=n+i) Dc I.pt;have j0:=I.j0;have j1:=I.j1;have eS:O.j=c.j:=by unfold Cell.j;rw [S1.eo]
  rw [eS] at j0 j1;have eL:(10:Nat) ^ 31=10000000000000000000000000000000:=by decide
  have t9:(10:Nat) ^ 9=1000000000:=by decide
  refine ⟨p,dx,_,rfl,ee _ _ hp (off _ Dd),bT C9 C9,p,d,e,ks,js,bJ z dd,_,(by rw [el];rfl),(by cases dd <;> exact EO _ _),qf nz ok,ug nz ok,eD,U,.inr (.inr ⟨x,z,vs,O.h,O.hd,O.hl,O.s,c.j,rfl,nh,nj,by rw [vh,S1.eh],vj,L2.same s7,I.li,(by have:=I.sp;lia),I.sm,(by rw [eL];rw [t9] at hB;lia),.inr (.inr (.inr ⟨dd,ev,?_,fun _ Da l' H8 L8 g8 k8 f8=>?_,fun nf=>absurd ft nf⟩))⟩)⟩
  .cases dd with
   | put m v=>exact Dq ok.1.hi Db
   | drop m=>exact Dq (AbcN.hi (z:=m) ok) Db
   | change m v=>exact Dq ok.1.hi Db
   | take=>trivial
   | least=>trivial
  obtain ⟨C2,S2⟩:=I.both ok eA Dc O' k2 f2 s7 L8 k8 f8;have eW:D1∉[O.h,O.hd,O.hl]:=fun m=>by
   obtain ⟨dy,w1⟩:=L2.ob;obtain ⟨_,w2,_⟩:=L2.dc;obtain ⟨_,w3,_⟩:=L2.ls;simp only [ax,ah,Dv] at m;rcases m with y | y | y <;> rw [y] at Y
   .rw [w1] at Y;cases Y
   .rw [w2] at Y;cases Y
   .rw [w3] at Y;cases Y
  refine ⟨.lst (SqL.of g8) (SqL.of (k8 _ _ g7 eW)) (AlL.same fun y hy=>?_),_,rfl,bW ⟨_,_,_,_,_,_,rfl,C2,S1.trans S2⟩⟩;cases e:(ay O.s dd).2 <;> rw [e] at hy <;> first | (cases hy;done) | (rw [De hy];rfl)
 rintro Z H1 ⟨O,o4,o5,o6,o7,o8,rfl,I,S1⟩;exact kQ O H1 I S1
theorem wo (h:X.K=K):SlR X (fun x lo hi H Q=>A8 K x lo hi H Q∨∃ a xs,x=.ref a/\SqT K H a xs/\(HT.sIx xs.length 0 lo=0/\HT.sIx xs.length xs.length hi=xs.length)/\Q (.ref a) H):=by subst h;exact rC
def DR (H:Hp)(zs:List V)(L:List (Int×Str)):Prop:=Paired (fun (z:V) (p:Int×Str)=>∃ a,z=.ref a/\H a=some (.tup [.int p.1,.str p.2])) zs L
theorem DR.stay (r:DR H zs L)(k:∀b l,H b=some (.tup l)->H' b=some (.tup l)):DR H' zs L:=Paired.mapP r fun p q ⟨a,b,c⟩=>⟨a,b,k _ _ c⟩
def kD (H:Hp):V->Int×Str
 | .ref a=>match H a with
  | some (.tup [.int w,.str n])=>(w,n)
  | _=>(0,"")
 | _=>(0,"")
theorem DR.key (r:DR H zs L):zs.map (kD H)=L:=by
 induction r with
 | nil=>rfl
 | cons h _ ih =>
  obtain ⟨a,rfl,e⟩:=h;rw [DH,ih];congr 1;show (match H a with | some (.tup [.int w,.str n])=>(w,n) | _=>((0:Int),("":Str)))=_;rw [e]
theorem DR.mem (r:DR H zs L):∀x∈zs,∃ a,x=.ref a/\H a=some (.tup [.int (kD H x).1,.str (kD H x).2]):=by
 induction r with
 | nil=>intro x h;cases h
 | cons h _ ih =>
  intro x hx;rcases ax.mp hx with rfl | hx
  .obtain ⟨a,rfl,e⟩:=h;refine ⟨a,rfl,?_⟩;have z:kD H (.ref a)=_:=show (match H a with | some (.tup [.int w,.str n])=>(w,n) | _=>((0:Int),("":Str)))=_ by rw [e]
   rw [z];exact e
  .exact ih x hx
theorem DR.of (h:∀x∈zs,∃ a,x=.ref a/\H a=some (.tup [.int (kD H x).1,.str (kD H x).2])):DR H zs (zs.map (kD H)):=by
 induction zs with
 | nil=>exact .nil
 | cons x zs ih=>exact .cons (h x DO) (ih fun y c=>h y (Dr _ c))
theorem more_none {r:Addr}{s:LS}{wk:Nat}:aU (dmK (tlO none) r td s wk) (Sum.inr "more":Key)=none:=by unfold dmK;rw [ce C9,ce C9,ce C9,ce C9,ce C9];rfl
theorem more_some {r:Addr}{s:LS}{wk:Nat}{j:Int}:aU (dmK (tlO (some j)) r td s wk) (Sum.inr "more":Key)=some (.int j):=by unfold dmK;rw [ce C9,ce C9,ce C9,ce C9,ce C9];exact j9
abbrev gx:Stmt:=top 50
theorem oI:av ["desk","called","heap","room","things"] ["desk","called","heap"] (ak gx):=fs0
structure Pair (C CL:Addr)(H:Hp)(p d e:Addr)(ks js:List (Key×V))(z:Str)(h hd hl st r td:Addr)(s:LS)(o:Option Int)(j:Int):Prop where
 da:bV C H p d e ks js
 nz:AbcN z 8
 vh:aU ks (Sum.inr z)=some (.ref h)
 vj:aU js (Sum.inr z)=some (.int j)
 jo:j=o.getD 0
 la:LateAt CL H h hd hl s
 ow:DmAt (tlO o) H st r td s s.looks
 li:Gm.LInv slt s
 sp:s.stamp<=800
 sm:Sml s.there
 lj:((s.looks:Int)+j).natAbs<10 ^ 31
 ts:s.there.length<64
section
variable {C CL:Addr}{H H':Hp}{p d e:Addr}{ks js:List (Key×V)}{z:Str}{h hd hl st r td:Addr}{s:LS}{o:Option Int}{j:Int}
theorem Pair.same (W:Pair C CL H p d e ks js z h hd hl st r td s o j)(k:Same H H'):Pair C CL H' p d e ks js z h hd hl st r td s o j :=
 ⟨⟨W.da.ob.imp fun _ x=>k _ _ x,k _ _ W.da.hd,k _ _ W.da.hj⟩,W.nz,W.vh,W.vj,W.jo,W.la.same k,W.ow.same k,W.li,W.sp,W.sm,W.lj,W.ts⟩
end
theorem CellOk.pair {c:Cell}{B:Nat}(O:CellOk N CL H c z n B)(W:N.length<=18)(J:n<=400)(S:B<=10 ^ 9)(R:bV C H p d e ks js)(U:aU ks (Sum.inr z)=some (.ref c.h))(M:aU js (Sum.inr z)=some (.int c.j)):Pair C CL H p d e ks js z c.h c.hd c.hl c.st c.r c.td c.s c.o c.j:=by
 have G:=gS O.li Dc O.pt;have Y:=O.j0;have F:=O.j1;have T:(10:Nat) ^ 31=10000000000000000000000000000000:=by decide
 have I:(10:Nat) ^ 9=1000000000:=by decide
 exact ⟨R,O.nz,U,M,rfl,O.la,O.ow,O.li,by have:=O.sp;lia,O.sm,by rw [T];rw [I] at S;lia,by have:=cZ O.li O.nn;lia⟩
def o3 (C CL:Addr):Sp:=fun vs H Q _=>∃ (p d e h hd hl st r td:Addr) (ks js:List (Key×V)) (z:Str) (s:LS) (o:Option Int) (j:Int),vs=[.ref p,.str z,.ref st]/\Pair C CL H p d e ks js z h hd hl st r td s o j/\∀H',Same H H'->Q (.bl true) H'
theorem uh (F:Fun K "_law_right" "_law_right" gx f fd)(T:Bl mg)(L:DK K C)(FO:gj K forms)(c:mg "str"=none)(ee:bp K C "ask" fa)(Y:au P w K mg base (CXe P w) 9 fa fda ["self","line"] (oS K forms C CL CC CN))(M:Binds K fda ["self","line"] []):
  au P w K mg base CX0 10 f fd ["desk","called","heap"] (o3 C CL):=by
 have sc:=oI;refine F.okQ oI fun tl A outer s_ H vs Q E hr h=>?_;obtain ⟨p,d,e,h,hd,hl,st,r,td,ks,js,z,s,o,j,rfl,W,kQ⟩:=h;have hu:=hr.units0;have ej:=hr.u100;refine ⟨_,(ac (qst 3 sc.nd (ao ba (ao ba (qcT bv c (aa (qcB bP T.z_len (aa (aJ (aO hr) (qv 2) aq pix) ag)) ag)) aq) (qcT bv c (aa (qcB aK T.z_len (aa (aJ (aO hr) (qv 2) aq pix) ag)) ag))))
  (ac (aT (aw (lO ej) (aV (qv 0) L.cl ee Y hr.mo M .nil dq (aa (ao ba aq (qv 1)) ag)) (bu (aa (qv 3) ag)) (aG _)) (aj (aD gi)) aE)
  (ac (aT (aw (lO ej) (aV (qv 0) L.cl ee Y hr.mo M .nil dq (aa (ao ba aq (qv 1)) ag)) (bu (aa (qcT bv c (aa (ao aN (aJ (aO hr) (qv 2) aq pix) (ju (aO hr) (qv 2) aq ai ⟨rfl,rfl,rfl,rfl⟩)) ag)) ag)) (aG _)) (aj (aD gi)) aE)
  (ac (qst 4 sc.nd (qcB jM T.z_sorted (aa (rZ (di (Blk.of (N:=["desk","called","heap","room","things"]) (esc:=ak gx) (NB:=[]) (cap:=[]) rfl rfl (fun y hy=>bH hy) rfl C9 C9 C9 rfl C9 rfl C9) rfl rfl (yJ (pZ E6 Hs PySem.F.type_dict_values vf (aJ (aO hr) (qv 2) aq pix))) (fun C fp s₀ H₀=>dO) (fun C fp s₀ H₀=>(dE (wo (K:=K) rfl) (qv 0) fC (fz ai))))) ag)))
  (aj (aD (cP (zG ej) (aV (qv 0) L.cl ee Y hr.mo M .nil dq (aa (ao ba (ao ba aq (qv 1)) aq) ag)) (wu (Blk2.of (N:=["desk","called","heap","room","things"]) (esc:=ak gx) (NB:=[]) (cap:=[]) rfl rfl (fun y hy=>bH hy) rfl C9 C9 C9 rfl C9 rfl rfl C9) rfl rfl (fL (qv 4)) (fun C fp s₀ H₀=>dO) (fun C fp s₀ H₀=>(ao ba (ao ba (qcT bv c (aa (qv 0) ag)) aq) (qv 1)))) (aG _)))))))),?_⟩;dsimp only [bM,Cx.nox]
 obtain ⟨dx,hp⟩:=W.da.ob;obtain ⟨kt,R,eG⟩:=W.ow.ht;obtain ⟨xs,G,rr⟩:=W.ow.hr;have lx:=rr.len;have lk:=eG.len;have r1:=W.li.len;have r2:=W.li.tl;have eL:=W.sp;have lz:=W.nz.hi;have b1:((s.there.length:Nat):Int).natAbs<10 ^ 31:=DY (Dq Dc eL) C9;have b2:((s.row.length:Nat):Int).natAbs<10 ^ 31:=DY (Dq Dc eL) C9;have c1:(txt s.there.length).length<=32:=cp (k:=31) Db b1;have c2:(txt s.row.length).length<=32:=cp (k:=31) Db b2;have l1:(" ":Str).length=1:=by decide +kernel
 have S:1000<=sizeLine:=by decide
 refine ⟨st,_,rfl,W.ow.now,td,kt,rfl,R,.inl ⟨_,rfl,by rw [lk];exact bI (EB b1 C9),_,_,rfl,rfl,by rw [lk];show (txt s.there.length).length+1<=_;lia,st,_,rfl,W.ow.row,r,_,rfl,.inl (SqL.of G),.inl ⟨_,rfl,by rw [lx];exact bI (EB b2 C9),_,_,rfl,rfl,?_,?_⟩⟩⟩
 .rw [aR,lk,lx];show (txt s.there.length).length+1+(txt s.row.length).length<=_;lia
 rw [lk,lx];have ew:∀ws:List Str,(∀w∈ws,w.length<=40)->ws.length<=4->(Str.join " " ws).length<=900:=fun ws h l=>by have j:=gn _ _ h;have:=IK (40+1) l;lia
 have W0:∀x:Str,x.cps.toList.contains 32=false->32∉x.cps.toList:=fun x e m=>by rw [FP.mpr m] at e;cases e
 have e1:("room ":Str)++z=Str.join " " ["room",z]:=by
  have:("room ":Str)="room"++" ":=by decide +kernel
  rw [this];rfl
 have U1:Und K forms ks ["room",z] [.str "room",.str z]:=dP FO (kinds:=["word","heap"]) C9 (.cons .word (.cons (dt W.nz (by rw [W.vh];rfl)) .nil)) (by show 1<=10;decide) C9;refine ⟨p,dx,_,rfl,hp,bT C9 C9,_,_,rfl,rfl,?_,p,d,e,ks,js,["room",z],_,(by rw [e1];rfl),EO _ _,?_,?_,W.da,U1,.inr (.inr ⟨"room",z,[],h,hd,hl,s,j,rfl,C9,C9,W.vh,W.vj,W.la,W.li,W.sp,W.sm,W.lj,.inr (.inl ⟨rfl,fun D1 H1 g1 s1 f1=>?_⟩)⟩)⟩
 .have:("room ":Str).length=5:=by decide +kernel
  lia
 .intro w O;simp only [ax,ah,Dv] at O;rcases O with rfl | rfl
  .exact W0 _ C9
  .exact W.nz.free
 .refine ew _ (fun w O=>?_) (by show 2<=4;decide);simp only [ax,ah,Dv] at O;rcases O with rfl | rfl
  .decide +kernel
  .lia
 refine ⟨sz1,fun l2 eF=>?_⟩;have s2:=s1.trans (ar (o:=.lst [.str (Str.ofString (toString (s.there.length:Int))++" "++Str.ofString (toString (s.row.length:Int)))]) eF);refine ⟨.lst (SqL.of (ar eF _ _ g1)) (SqL.of ad) (AlL.same fun x G=>by rw [De G];rfl),_,rfl,bW ?_⟩;generalize upd H1 l2 (.lst [.str (Str.ofString (toString (s.there.length:Int))++" "++Str.ofString (toString (s.row.length:Int)))])=H2 at s2 ⊢;have W2:=W.same s2;have e2:("works ":Str)++z=Str.join " " ["works",z]:=by
  have:("works ":Str)="works"++" ":=by decide +kernel
  rw [this];rfl
 have U2:Und K forms ks ["works",z] [.str "works",.str z]:=dP FO (kinds:=["word","heap"]) C9 (.cons .word (.cons (dt W.nz (by rw [W.vh];rfl)) .nil)) (by show 1<=10;decide) C9;refine ⟨p,dx,_,rfl,s2 _ _ hp,bT C9 C9,_,_,rfl,rfl,?_,p,d,e,ks,js,["works",z],_,(by rw [e2];rfl),EO _ _,?_,?_,W2.da,U2,.inr (.inr ⟨"works",z,[],h,hd,hl,s,j,rfl,C9,C9,W.vh,W.vj,W2.la,W.li,W.sp,W.sm,W.lj,.inr (.inr (.inl ⟨rfl,fun D3 H3 g3 s3 f3=>?_⟩))⟩)⟩
 .have:("works ":Str).length=6:=by decide +kernel
  lia
 .intro w O;simp only [ax,ah,Dv] at O;rcases O with rfl | rfl
  .exact W0 _ C9
  .exact W.nz.free
 .refine ew _ (fun w O=>?_) (by show 2<=4;decide);simp only [ax,ah,Dv] at O;rcases O with rfl | rfl
  .decide +kernel
  .lia
 have eN:=s2.trans s3;have W3:=W.same eN;have hg:∃ o',DGet H3 st (.str "more") o'/\o'.getD (.int 0)=.int j:=by
  cases eo:o with
  | none =>
   refine ⟨none,.inl ⟨_,Sum.inr "more",.inl W3.ow.hs,rfl,?_⟩,?_⟩
   .rw [eo];exact more_none.symm
   .rw [W.jo,eo];rfl
  | some y =>
   refine ⟨some (.int y),.inl ⟨_,Sum.inr "more",.inl W3.ow.hs,rfl,?_⟩,?_⟩
   .rw [eo];exact more_some.symm
   .rw [W.jo,eo];rfl
 obtain ⟨o',e9,ti⟩:=hg;refine ⟨st,_,rfl,W3.ow.work,st,rfl,?_,o',e9,?_⟩
 .exact .inl ⟨_,.inl W3.ow.hs⟩
 rw [ti];refine (.inl ⟨_,rfl,bI (EB W.lj C9),sz1,fun l4 eA=>?_⟩);have J:=eN.trans (ar (o:=.lst [.str (Str.ofString (toString ((s.looks:Int)+j)))]) eA);refine ⟨.lst (SqL.of (ar eA _ _ g3)) (SqL.of ad) (AlL.same fun x G=>by rw [De G];rfl),_,rfl,bW ?_⟩;generalize upd H3 l4 (.lst [.str (Str.ofString (toString ((s.looks:Int)+j)))])=H4 at J ⊢;have W4:=W.same J;refine ⟨st,_,rfl,W4.ow.now,.inr (.inr (.inl ⟨rfl,.inl ⟨kt,J _ _ R⟩⟩)),td,kt,rfl,rfl,J _ _ R,fun vw e6=>?_⟩;refine gnew e6 fun HV sV gV=>?_;have eb:=J.trans sV;have e8:=eb _ _ R;refine ⟨vw,td,kt,rfl,gV,e8,fun ob D hD=>?_⟩;have eh:td≠D:=fun y=>by rw [<-y,ad] at hD;cases hD
 have eS:HV D=none:=by rw [af eh.symm] at hD;exact hD
 have ed:(prs s.there).length=s.there.length:=Dg ..;have e7:∀{I:Hp},(∀b u,HV b=some u->b≠td->I b=some u)->∀b l,H b=some (.tup l)->I b=some (.tup l):=fun kk b l q=>kk b _ (eb _ _ q) (aL q R nqz);refine pT (d:=td) (o:=ob) (kvs:=kt) (fun i ys I=>I D=some (.lst ys)/\DR I ys ((prs s.there).take i)/\I td=some (.frz ob (.dK kt))/\∀b u,HV b=some u->b≠td->I b=some u) ⟨ad,.nil,by rw [af eh];exact ad,fun b u q n=>by rw [af (am q eS),af n];exact q⟩ (fun i ys I y=>⟨y.1,y.2.2.1⟩) ?_ ?_
 .rintro i key v ys I hi ⟨h8,ei,f8,k8⟩;have li:i<kt.length:=(Dz.mp hi).1;have ef:i<s.there.length:=by lia
  obtain ⟨ek,ea,rfl,e5⟩:=jx eG hi (bt ef);have nm:=(W.li.inr _ _ (Ee ef)).1;have ly:ys.length=i:=by rw [EY ei,Es];lia
  refine cY <| ⟨_,rfl,.inl ⟨ea,_,rfl,SqT.of (e7 k8 _ _ e5),(by show ¬ (HT.sIx 3 0 none=0/\HT.sIx 3 3 (some 2)=3);decide),fun t ht=>?_⟩⟩
  have ec:D≠t:=am h8 ht;have eZ:td≠t:=am f8 ht;refine ⟨by rw [af ec];exact h8,aZ Dc,_,Dc,rfl,Dc,ad,?_,?_,fun b u q n=>?_⟩
  .have et:(prs s.there).take (i+1)=(prs s.there).take i++[((s.there[i]).2.w,(s.there[i]).1)]:=by rw [Ef];unfold prs;rw [DN,bt ef];rfl
   rw [et];have tk:∀b l,I b=some (.tup l)->(upd (upd I t (.tup (eK (enV (s.there[i]).2) none (some 2)))) D (.lst (ys++[.ref t]))) b=some (.tup l):=fun b l q=>by rw [af (aL q h8 nqz),af (am q ht)];exact q
   refine Hz (ei.stay tk) ⟨t,rfl,?_⟩;have tr:(s.there[i]).2.n=(s.there[i]).1:=nm;rw [af ec.symm,ad];show some (HO.tup [V.int (s.there[i]).2.w,V.str (s.there[i]).2.n])=some (HO.tup [V.int (s.there[i]).2.w,V.str (s.there[i]).1]);rw [tr]
  .rw [af eh,af eZ];exact f8
  .rw [af (am q eS),af (am (k8 b u q n) ht)];exact k8 b u q n
 rintro ys I ⟨h8,ei,f8,k8⟩;rw [lk,<-ed,D9] at ei;refine ⟨td,ob,kt,f8,(fun o u q=>by have q':H td=_:=q;rw [R] at q';cases q'),?_⟩;have g9:=ad (H:=I) (a:=td) (o:=.dK kt);have h9:(upd I td (.dK kt)) D=some (.lst ys):=by rw [af eh.symm];exact h8
 have U:DR (upd I td (.dK kt)) ys (prs s.there):=ei.stay fun b l q=>by rw [af (aL q f8 nqz)];exact q
 have eW:Same H (upd I td (.dK kt)):=fun b u q=>by
  by_cases e:b=td
  .subst e;rw [ad,<-R];exact q
  .rw [af e];exact k8 b u (eb _ _ q) e
 generalize upd I td (.dK kt)=H9 at g9 h9 U eW ⊢;refine ⟨D,ys,kD H9,rfl,SqL.of h9,(fun x G=>by obtain ⟨a,e1,e2⟩:=U.mem x G;exact ⟨a,e1,SqT.of e2⟩),(by rw [EY U,ed];exact W.ts),fun l zs eB pm srt=>?_⟩;have el:=eW.trans (ar (o:=.lst zs) eB);have gA:=ad (H:=H9) (a:=l) (o:=.lst zs);have pe:(zs.map (kD H9)).Perm (prs s.there):=by rw [<-U.key];exact pm.map _
 have se:(zs.map (kD H9)).Pairwise fun x y=>ltP y x=false:=by rw [EE];exact srt
 have ey:DR (upd H9 l (.lst zs)) zs (zs.map (kD H9)):=(DR.of fun x G=>U.mem x (pm.mem_iff.mp G)).stay fun b l' q=>ar eB _ _ q;have e0:zs.length=s.there.length:=by rw [pm.length_eq,EY U,ed]
 generalize upd H9 l (.lst zs)=HA at el gA ey ⊢;generalize zs.map (kD H9)=every at pe se ey;have WA:=W.same el;have lf:("first ":Str).length=6:=by decide +kernel
 have l3:(" 300":Str).length=4:=by decide +kernel
 have e3:("first ":Str)++z++" 300"=Str.join " " ["first",z,txt (300:Nat)]:=by
  have h1:("first ":Str)="first"++" ":=by decide +kernel
  have h2:(" 300":Str)=" "++txt (300:Nat):=by decide +kernel
  rw [h1,h2];show _="first"++" "++(z++" "++txt (300:Nat));rw [bh,bh z]
 have U3:Und K forms ks ["first",z,txt (300:Nat)] [.str "first",.str z,.int (300:Nat)]:=dP FO (kinds:=["word","heap","count"]) C9 (.cons .word (.cons (dt W.nz (by rw [W.vh];rfl)) (.cons (.count (iG C9) Db) .nil))) (by show 2<=10;decide) C9;refine ⟨p,dx,_,rfl,el _ _ hp,bT C9 C9,_,_,rfl,rfl,Dc,_,_,rfl,rfl,by rw [aR];lia,p,d,e,ks,js,["first",z,txt (300:Nat)],_,(by rw [e3];rfl),EO _ _,?_,?_,WA.da,U3,.inr (.inr ⟨"first",z,[.int (300:Nat)],h,hd,hl,s,j,rfl,C9,C9,W.vh,W.vj,WA.la,W.li,W.sp,W.sm,W.lj,.inl ⟨rfl,300,rfl,fun DB er HB ex gB sB fB=>?_⟩⟩)⟩
 .intro w O;simp only [ax,ah,Dv] at O;rcases O with rfl | rfl | rfl
  .exact W0 _ C9
  .exact W.nz.free
  .exact gr _
 .refine ew _ (fun w O=>?_) (by show 3<=4;decide);simp only [ax,ah,Dv] at O;rcases O with rfl | rfl | rfl
  .decide +kernel
  .lia
  .decide +kernel
 have ex:=ex every pe se;have tn:=el.trans sB;have th:=ey.stay (H':=HB) fun b l q=>sB _ _ q;have eH:=sB _ _ gA;have le:every.length=s.there.length:=by rw [pe.length_eq,ed]
 have ts:=W.ts;rw [Eu Dc] at ex;subst ex;refine ⟨l,rfl,⟨_,SqL.of eH⟩,fun D2 ez=>?_⟩;have e4:zs.length=er.length:=by rw [le,e0]
 refine oE (K:=K) (a:=l) (xs:=zs) (fun i ys HC=>HC D2=some (.lst ys)/\ys=(er.take i).map (fun p=>V.str (oa p))/\Same HB HC) ⟨ad,rfl,ar ez⟩ (fun i ys HC y=>⟨y.1,SqL.of (y.2.2 _ _ eH)⟩) ?_ ?_
 .rintro i x eD HC hi ⟨hC,eC,sC⟩;have li:i<zs.length:=(Dz.mp hi).1;have eg:i<er.length:=by lia
  obtain ⟨b,rfl,hb⟩:=jx th hi (bt eg);obtain ⟨m1,m2⟩:=W.sm _ (pe.mem_iff.mp (Ee eg));have cw:(Str.ofString (toString (er[i]).1)).length<=32:=cp (k:=31) Db m1;have ly:eD.length<=i:=by rw [eC,Dg,Es];lia
  refine ⟨b,_,_,rfl,SqT.of (sC _ _ hb),?_⟩;refine cY <| (.inl ⟨_,rfl,bI (EB m1 C9),_,_,rfl,rfl,Dc,_,_,rfl,rfl,by rw [aR];lia,hC,aZ Dc,_,Dc,rfl,Dc,ad,?_,fun b' u q=>?_⟩)
  .rw [eC,Ef,D4,bt eg];rfl
  .rw [af (am q ez)];exact sC b' u q
 rintro eD HC ⟨hC,eC,sC⟩;rw [e4,D9] at eC;subst eC;have gC:=sC _ _ gB;exact ⟨.lst (SqL.of gC) (SqL.of hC) (AlL.same fun x G=>by obtain ⟨y,_,rfl⟩:=DG.mp G;rfl),kQ _ (tn.trans sC)⟩
end
section
variable {P:Program}{w:World}{K:W.Frag}{mg:Str->Option Value}{base:Heap}
open Hm
open PySem.Spec PyProof.Rows in
theorem xJ {j:Nat}{y:Str}{a b:Expr}{W pt:Pos}{kt k2 pt2}(hc:X.calm=true)(hN:X.N.Nodup)(hi:X.N[i]?=some x)(hj:X.N[j]?=some y)(F:i≠j)(J:X.env.scope.names.lookup x=some .local)(hy:X.env.scope.names.lookup y=some .local)(M:QA X [a,b] ta)(hw:swappedStores [.Tuple [.Name x px,.Name y W] kt pt] (.Tuple [a,b] k2 pt2) X.env=pure (some [x,y]))(hs:autoParam (swapsWithSole [.Tuple [.Name x px,.Name y W] kt pt] (.Tuple [a,b] k2 pt2) pos.line X.env=pure false) aad):
  QS X (.Assign [.Tuple [.Name x px,.Name y W] kt pt] (.Tuple [a,b] k2 pt2) pos) (Cw i j ta):=.mk (by
 have M:=M.to;intro pins s Z H D I h;rw [exec_Assign_arm];refine Dh (Hv ?_);rw [hs];refine Dh (Dx ?_);rw [Di Db];refine Dh (Tuple_ (thn (M _ pins s Z H _ I h) fun us c zz=>?_));obtain ⟨vs,Y,I1,r1,S⟩:=zz;obtain ⟨v,w,e1,S⟩:=S;subst e1;obtain ⟨O,T,rfl,rv,U⟩:∃ O T,us=[O,T]/\RelV v O/\RelV w T:=by
  cases r1 with
  | cons p q =>
   cases q with
   | cons p' q' =>
    cases q';exact ⟨_,_,rfl,p,p'⟩
 refine EU ?_ sz2;have I2:Inv X pins Z Y { c with heap:=c.heap.push { cls:=.type "tuple",data:=.seq [O,T].toArray } }:=I1.kept (t':=c.toks) fun b o e=>Dt _ e;rw [hw];refine Dh (Dx ?_);show wpAny (model X.prog X.w) X.A (do rule "assign.swapped-stores";let items <-unpackItems (.ref c.heap.objs.size) 2 none;assignInOrder [fun v=>bindName X.env y v,fun v=>bindName X.env x v] items.reverse;pure Flow.next) _ _ _;refine Dh (Gw (Dh (unpackItems_tuple (items:=#[O,T]) (I.ok.hd hc) (IsTup.new c.heap _) fun h' R=>?_)));have I3:=I2.kept (h':=h') (t':=c.toks) fun b o e=>R b o (DZ (DM e)) e;show wpAny _ _ (assignInOrder [fun v=>bindName X.env y v,fun v=>bindName X.env x v] [T,O] >>= fun _=>pure Flow.next) _ _ _;refine Dh (G8 (wpAny_bindName (eM I3 hN hj (.inl hy) U (fun s2 I4=>?_) (.inr hy))));refine G8 (wpAny_bindName (eM I4 hN hi (.inl J) rv (fun s3 G=>assignInOrder_nil (Dx ?_)) (.inr J)));rw [IZ _ _ (Fc F)] at G;exact ⟨_,Y,G,S⟩)
structure TwoD (H:Hp)(o1 o2:Option Int)(st r td st2 r2 td2:Addr)(s t:LS):Prop where
 la:DmAt (tlO o1) H st r td s s.looks
 lb:DmAt (tlO o2) H st2 r2 td2 t t.looks
 ns:st≠st2
 nr:r≠r2
 nt:td≠td2
 n1:st≠td2
 n2:td≠st2
section
variable {H H':Hp}{o1 o2 o:Option Int}{st r td st2 r2 td2 r':Addr}{s t s':LS}{wk:Nat}
theorem TwoD.swap (W:TwoD H o1 o2 st r td st2 r2 td2 s t):TwoD H o2 o1 st2 r2 td2 st r td t s:=⟨W.lb,W.la,W.ns.symm,W.nr.symm,W.nt.symm,W.n2.symm,W.n1.symm⟩
theorem TwoD.same (W:TwoD H o1 o2 st r td st2 r2 td2 s t)(k:Same H H'):TwoD H' o1 o2 st r td st2 r2 td2 s t:=⟨W.la.same k,W.lb.same k,W.ns,W.nr,W.nt,W.n1,W.n2⟩
theorem TwoD.off (W:TwoD H o1 o2 st r td st2 r2 td2 s t):∀b∈[st2,r2,td2],b∉[st,r,td]:=fun b c m=>by
 obtain ⟨S,R⟩:=W.la.apart;obtain ⟨xs,T,_⟩:=W.la.hr;obtain ⟨ks,I,_⟩:=W.la.ht;obtain ⟨ys,v1,_⟩:=W.lb.hr;obtain ⟨kt,O,_⟩:=W.lb.ht;simp only [ax,ah,Dv] at c m;rcases c with w | w | w <;> rcases m with y | y | y <;> rw [w] at y
 .exact W.ns y.symm
 .exact aL W.lb.hs T nqz y
 .exact W.n2 y.symm
 .exact aL v1 W.la.hs nqz y
 .exact W.nr y.symm
 .exact aL v1 I nqz y
 .exact W.n1 y.symm
 .exact aL O T nqz y
 exact W.nt y.symm
theorem TwoD.act (W:TwoD H o1 o2 st r td st2 r2 td2 s t)(O:DmAt (tlO o1) H' st r' td s' s'.looks)(k:Kept [st,r,td] H H')(f:r'=r∨H r'=none):TwoD H' o1 o2 st r' td st2 r2 td2 s' t:=by
 obtain ⟨ys,v1,_⟩:=W.lb.hr;refine ⟨O,W.lb.stay (fun b u c e=>k b u e (W.off b (by rcases c with y | y | y <;> rw [y] <;> simp))) (W.la.tk k fun b c=>c),W.ns,?_,W.nt,W.n1,W.n2⟩;intro y;rcases f with w | w
 .exact W.nr (w▸y)
 rw [y,v1] at w;cases w
theorem iC (O:DmAt (tlO o) H st r td s wk):IsD H st/\∃ c,DGet H st (.str "more") c/\c.getD (.int 0)=.int (o.getD 0):=by
 refine ⟨.inl ⟨_,.inl O.hs⟩,?_⟩;cases o with
 | none=>exact ⟨none,.inl ⟨_,Sum.inr "more",.inl O.hs,rfl,more_none.symm⟩,rfl⟩
 | some y=>exact ⟨some (.int y),.inl ⟨_,Sum.inr "more",.inl O.hs,rfl,more_some.symm⟩,rfl⟩
theorem wC {j:Int}:aQ (dmK (tlO o) r td s wk) (Sum.inr "more":Key) (.int j)=dmK (tlO (some j)) r td s wk:=by
 have c:∀k:Str,k≠"more"->¬ (Sum.inr k:Key)=(Sum.inr (Str.ofString "more"):Key):=fun k h z=>h (Eb z);unfold aQ;cases o with
 | none =>
  rw [Di]
  .rfl
  .rw [EN];rintro ⟨x,T,e⟩;simp only [dmK,tlO,ax,ah,Dv] at T;have O:=Dp e;rcases T with y | y | y | y | y <;> rw [y] at O <;> exact c _ C9 O
 | some y =>
  rw [Dm]
  .unfold dmK;simp only [DH,tlO,Gf];rw [Di (c _ C9),Di (c _ C9),Di (c _ C9),Di (c _ C9),Di (c _ C9),Dm trivial]
  .rw [EN];exact ⟨(Sum.inr "more",.int y),by simp [dmK,tlO],Dk rfl⟩
end
abbrev iP:Stmt:=top 49
theorem oR:av ["one","other","lesser","greater","name","worth"] ["one","other"] (ak iP):=fs0
def nI:Sp:=fun vs H Q _=>∃ (st1 r1 td1 st2 r2 td2:Addr) (o1 o2:Option Int) (s t:LS),vs=[.ref st1,.ref st2]/\TwoD H o1 o2 st1 r1 td1 st2 r2 td2 s t/\Gm.LInv slt s/\Gm.LInv slt t/\s.stamp<=400/\t.stamp<=400/\s.there.length<64/\t.there.length<64 /\
 ((∃ n,n∈s.there.map (·.1)/\n∈t.there.map (·.1))->∀H',Same H H'->Q .non H') /\
 ((∀n,n∈s.there.map (·.1)->n∈t.there.map (·.1)->False)->∀(b:Bool) (s' t':LS) (rG q stN rN tdN:Addr) (H':Hp),b=decide (s.there.length<t.there.length)->(b=true->bS t s t' s')->(b=false->bS s t s' t') ->
  DmAt (tlO (some (o1.getD 0+o2.getD 0+(cond b s' t').looks))) H' (cond b st2 st1) rG (cond b td2 td1) (cond b t' s') (cond b t' s').looks->Fw (F6 st1 r1 td1 st2 r2 td2) H rG ->
  H' q=some (.tup [.ref (cond b st2 st1),.ref stN])->DmAt [] H' stN rN tdN (Gm.newL (cond b s' t').slack) 0->(∀a∈[stN,rN,tdN],Fw (F6 st1 r1 td1 st2 r2 td2) H a/\a∉[cond b st2 st1,rG,cond b td2 td1])->Kept (F6 st1 r1 td1 st2 r2 td2) H H'->Q (.ref q) H')
theorem uR {f2 f3:Addr}{tF:FuncData}(F:Fun K "_law_joined" "_law_joined" iP f fd)(T:Bl mg)(ei:au P w K mg base CX0 4 f2 fd2 ["heap","deed"] mU)(eh:Nm K mg "_law_deed" f2 fd2 ["heap","deed"])(ew:au P w K mg base CX0 1 f3 tF ["slack"] qm)(ec:Nm K mg "_law_new" f3 tF ["slack"]):
  au P w K mg base CX0 5 f fd ["one","other"] nI:=by
 have sc:=oR;refine F.okQ oR fun ix A outer s_ H vs Q E hr h=>?_;obtain ⟨eo,r1,Y,ee,r2,er,o1,o2,s,t,rfl,W,I,J,ss,st,oN,o8,kN,kQ⟩:=h;have hu:=hr.units0;have i0:=hr.u100;refine ⟨_,(ac (aT (aw (nQ hu) (rZ (di (Blk.of (N:=["one","other","lesser","greater","name","worth"]) (esc:=ak iP) (NB:=["other"]) (cap:=[1]) rfl rfl (fun y hy=>bH hy) rfl C9 C9 C9 rfl C9 rfl C9) rfl rfl (zB (aJ (aO hr) (qv 0) aq pix)) (fun C fp s₀ H₀=>(mS (vO (aO hr) (qv 0) (aJ (aO hr) (qv 1) aq pix)))) (fun C fp s₀ H₀=>(qv 0)))) (bu ag) (aG _)) (aj (aD eE)) aE)
  (ac (xJ (i:=2) (j:=3) rfl sc.nd rfl rfl Db rfl rfl (aa (qv 1) (aa (qv 0) ag)) rfl)
  (ac (ms (aw dI (qcB bP T.z_len (aa (aJ (aO hr) (qv 0) aq pix) ag)) (qcB bP T.z_len (aa (aJ (aO hr) (qv 1) aq pix) ag)) (aG _)) (aj (xJ (i:=2) (j:=3) rfl sc.nd rfl rfl Db rfl rfl (aa (qv 0) (aa (qv 1) ag)) rfl)) aE)
  (ac (cE D8 rfl (fL (qcB (fS rfl) T.z_sorted (aa (aJ (aO hr) (qv 2) aq pix) ag))) (bQ (i:=4) sc.nd rfl (Or.inl rfl)) (ac (qst 5 sc.nd (aA aI (aJ (aO hr) (aJ (aO hr) (qv 2) aq pix) (qv 4) pix) ai pix))
  (ac (aH (qcl ei hr eh aB (aa (qv 2) (aa (be (aa aq (aa (qv 4) ag))) ag))))
  (aj (aH (qcl ei hr eh aB (aa (qv 3) (aa (be (aa aq (aa (qv 4) (aa (qv 5) ag)))) ag))))))))
  (ac (cH (aO hr) (qv 3) aq (ao aN (ao aN (ju (aO hr) (qv 0) aq ai ⟨rfl,rfl,rfl,rfl⟩) (ju (aO hr) (qv 1) aq ai ⟨rfl,rfl,rfl,rfl⟩)) (aJ (aO hr) (qv 2) aq pix)) rfl)
  (aj (aD (be (aa (qv 3) (aa (qcl ew hr ec aB (aa (aJ (aO hr) (qv 2) aq pix) ag)) ag)))))))))),?_⟩;dsimp only [bM,Cx.nox]
 obtain ⟨k1,eN,t4⟩:=W.la.ht;obtain ⟨k2,t2,th⟩:=W.lb.ht;have ia:=t4.len;have i3:=th.len;refine ⟨eo,_,rfl,W.la.now,Y,k1,rfl,eN,fun ob D hD=>?_⟩;have eS:D≠Y:=fun z=>by rw [z,ad] at hD;cases hD
 have ti:H D=none:=by rw [af eS] at hD;exact hD
 refine pA (d:=Y) (o:=ob) (kvs:=k1) (fun i zs H5=>H5 D=some (.lst zs)/\H5 Y=some (.frz ob (.dK k1))/\(zs=[]↔∀n∈(s.there.map (·.1)).take i,Gm.dget t.there n=none)/\zs.length<=i/\∀b u,b≠Y->H b=some u->H5 b=some u) ⟨ad,by rw [af eS.symm,ad],⟨(fun _ n h=>by rw [IP] at h;cases h),fun _=>rfl⟩,Dj _,fun b u n e=>by rw [af (am e ti),af n];exact e⟩ (fun i zs H5 z=>⟨z.1,z.2.1⟩) ?_ ?_
 .rintro i kk vv zs H5 hi ⟨h5,f5,e5,l5,k5⟩;have li:i<k1.length:=(Dz.mp hi).1;have t7:i<s.there.length:=by lia
  obtain ⟨ek,ea,_,_⟩:=jx t4 hi (bt t7);have ir:kk=Sum.inr (s.there[i]).1:=ek;subst ir;have et:(s.there.map (·.1)).take (i+1)=(s.there.map (·.1)).take i++[(s.there[i]).1]:=by rw [Ef,DN,bt t7];rfl
  have t9:DGet H5 ee (.str "now") (some (.ref er)):=wc (tl:=tlO o2) (r:=r2) (td:=er) (s:=t) (wk:=t.looks)▸DGet.k (k:=Sum.inr "now") (k5 _ _ W.n2.symm W.lb.hs);have d5:=k5 _ _ W.nt.symm t2;refine ⟨ee,_,rfl,t9,er,_,rfl,DGet.k (k:=Sum.inr (s.there[i]).1) d5,_,rfl,?_⟩;rcases th.get (s.there[i]).1 with ⟨e1,e2⟩ | ⟨b,e',e1,e2,hb⟩
  .rw [e1];refine bW ⟨_,Dc,rfl,Dc,h5,f5,?_,Dc,k5⟩;rw [e5,et];exact ⟨fun h n hn=>by
    rcases Du.mp hn with y | y
    .exact h n y
    .rw [De y];exact e2,fun h n hn=>h n (DT _ hn)⟩
  .rw [e1];refine iq ⟨h5,aZ Dc,_,Dc,rfl,Dc,ad,?_,?_,by rw [Ds];show zs.length+1<=i+1;lia,fun b u n e=>?_⟩
   .rw [af eS.symm];exact f5
   .rw [et];refine ⟨fun h=>absurd h Dd,fun h=>?_⟩;have:=h _ (DE _ (DI.mpr rfl));rw [e2] at this;cases this
   .rw [af (am e ti)];exact k5 b u n e
 rintro zs H5 ⟨h5,f5,e5,l5,k5⟩;refine ⟨Y,ob,k1,f5,(fun o u q=>by have q':H Y=_:=q;rw [eN] at q';cases q'),?_⟩;have h6:(upd H5 Y (.dK k1)) D=some (.lst zs):=by rw [af eS];exact h5
 have s6:Same H (upd H5 Y (.dK k1)):=fun b u e=>by
  by_cases y:b=Y
  .rw [y,ad,<-eN,<-y];exact e
  .rw [af y];exact k5 b u y e
 generalize upd H5 Y (.dK k1)=H6 at h6 s6 ⊢;rw [ia,show s.there.length=(s.there.map (·.1)).length from (Dg ..).symm,D9] at e5;refine ⟨sz0,fun z0 ae=>?_⟩;have s7:=s6.trans (ar (o:=.lst []) ae);have az:=ar (o:=.lst []) ae;have g7:=ad (H:=H6) (a:=z0) (o:=.lst []);generalize upd H6 z0 (.lst [])=H7 at s7 az g7 ⊢;refine ⟨D,z0,zs,rfl,rfl,SqL.of (az _ _ h6),SqL.of g7,_,rfl,aS (fun c=>?_) (fun c=>?_)⟩
 .-- clash
  have zn:zs≠[]:=fun y=>by rw [Dk y] at c;cases c
  refine kN ?_ _ s7;refine Hj fun no=>zn (e5.mpr fun n hn=>Gm.dget_none.mpr fun y=>no ⟨n,hn,y⟩)
 have zn:zs=[]:=Hj fun y=>c (by rw [DF y];rfl);have eD:∀n,n∈s.there.map (·.1)->n∈t.there.map (·.1)->False:=fun n a b=>Gm.dget_none.mp (e5.mp zn n a) b;have W7:=W.same s7;refine ⟨_,_,rfl,?_⟩;obtain ⟨b,eb⟩:∃ b:Bool,b=decide (s.there.length<t.there.length):=⟨_,rfl⟩;refine ⟨fun σ' H'=>σ'=[some (.ref eo),some (.ref ee),some (.ref (cond b eo ee)),some (.ref (cond b ee eo)),none,none]/\H'=H7,?_,?_⟩
 .refine ⟨eo,_,rfl,W7.la.now,Y,k1,rfl,s7 _ _ eN,ee,_,rfl,W7.lb.now,er,k2,rfl,s7 _ _ t2,_,rfl,aS (fun c=>?_) (fun c=>?_)⟩
  .have c':(k1.length:Int)<k2.length:=Dp c;have:b=true:=by rw [eb];exact Dk Dc
   subst this;exact ⟨_,_,rfl,rfl,rfl⟩
  .have c':¬ (k1.length:Int)<k2.length:=fun z=>c (Dk z);have:b=false:=by rw [eb];exact DF Dc
   subst this;exact ⟨rfl,rfl⟩
 rintro σ' H8 ⟨rfl,rfl⟩;obtain ⟨oG,aF⟩:∃ x,x=cond b o2 o1:=⟨_,rfl⟩;obtain ⟨oL,t5⟩:∃ x,x=cond b o1 o2:=⟨_,rfl⟩;obtain ⟨S,el⟩:∃ x,x=cond b ee eo:=⟨_,rfl⟩;obtain ⟨U,ef⟩:∃ x,x=cond b eo ee:=⟨_,rfl⟩;obtain ⟨rG,aC⟩:∃ x,x=cond b r2 r1:=⟨_,rfl⟩;obtain ⟨rL,tL⟩:∃ x,x=cond b r1 r2:=⟨_,rfl⟩;obtain ⟨R,e9⟩:∃ x,x=cond b er Y:=⟨_,rfl⟩;obtain ⟨M,a3⟩:∃ x,x=cond b Y er:=⟨_,rfl⟩;obtain ⟨G,eG⟩:∃ x,x=cond b t s:=⟨_,rfl⟩;obtain ⟨L,eL⟩:∃ x,x=cond b s t:=⟨_,rfl⟩;have V7:TwoD H8 oG oL S rG R U rL M G L:=by
  rw [aF,t5,el,ef,aC,tL,e9,a3,eG,eL];cases b
  .exact W7
  .exact W7.swap
 have IG:Gm.LInv slt G:=by rw [eG];cases b;exact I;exact J
 have IL:Gm.LInv slt L:=by rw [eL];cases b;exact J;exact I
 have bG:G.stamp<=400:=by rw [eG];cases b;exact ss;exact st
 have bL:L.stamp<=400:=by rw [eL];cases b;exact st;exact ss
 have il:L.there.length<64:=by rw [eL];cases b;exact o8;exact oN
 have t8:∀n∈L.there.map (·.1),Gm.dget G.there n=none:=by
  rw [eL,eG];cases b
  .exact fun n hn=>Gm.dget_none.mpr fun y=>eD n y hn
  .exact fun n hn=>Gm.dget_none.mpr fun y=>eD n hn y
 have mj:∀{H':Hp} {rA rB:Addr} {sA sB:LS},TwoD H' oG oL S rA R U rB M sA sB->(IsD H' eo/\∃ o',DGet H' eo (.str "more") o'/\o'.getD (.int 0)=.int (o1.getD 0))/\(IsD H' ee/\∃ o',DGet H' ee (.str "more") o'/\o'.getD (.int 0)=.int (o2.getD 0)):=by
  intro H' rA rB sA sB X;rw [aF,t5,el,ef] at X;cases b
  .exact ⟨iC X.la,iC X.lb⟩
  .exact ⟨iC X.lb,iC X.la⟩
 have f6:∀x,x∈[S,rG,R,U,rL,M]->x∈F6 eo r1 Y ee r2 er:=by
  rw [el,ef,aC,tL,e9,a3];cases b
  .exact fun x hx=>hx
  .intro x hx;simp only [F6,cond,ax,ah,Dv] at hx ⊢;rcases hx with y | y | y | y | y | y <;> simp [y]
 rw [<-el,<-ef];obtain ⟨kL,ib,ts⟩:=V7.lb.ht;refine ⟨U,_,rfl,V7.lb.now,M,kL,L.there.map (·.1),rfl,ib,ts.keys,by rw [ts.len];exact il,fun l ys hl pm srt=>?_⟩;refine gnew hl fun H9 s8 g8=>?_;have oy:=s7.trans s8;have nd:ys.Nodup:=pm.nodup_iff.mpr IL.nd;have iI:ys.length=L.there.length:=by rw [pm.length_eq,Dg]
 have eW:∀n∈ys,Gm.dget G.there n=none:=fun n h=>t8 n (pm.mem_iff.mp h);have fl:H l=none:=s7.free hl;refine ⟨l,rfl,⟨_,SqL.of g8⟩,?_⟩;refine nJ (K:=K) (a:=l) (xs:=ys.map V.str) (fun i Z H3=>∃ (o4 o5:Option V) (rA rB:Addr) (sA sB:LS),Z=[some (.ref eo),some (.ref ee),some (.ref U),some (.ref S),o4,o5]/\Jn G L ys i sA sB/\(sA,sB)=mv (wG L.there) (ys.take i) (G,L)/\TwoD H3 oG oL S rA R U rB M sA sB/\H3 l=some (.lst (ys.map V.str))/\l≠rA/\l≠rB/\Kept [S,rG,R,U,rL,M] H H3/\Fw [S,rG,R,U,rL,M] H rA/\Fw [S,rG,R,U,rL,M] H rB)
  ⟨none,none,rG,rL,G,L,rfl,Jn.start IG IL pm,rfl,V7.same s8,g8,?_,?_,Kept.of_same oy,(fun b u _ n z=>n (by rw [z];simp)),(fun b u _ n z=>n (by rw [z];simp))⟩ (fun i Z H3 _ h'=>by obtain ⟨_,_,_,_,_,_,_,_,_,_,z,_⟩:=h';exact SqL.of z) ?_ ?_
 .obtain ⟨_,u,_⟩:=V7.la.hr;exact (am u hl).symm
 .obtain ⟨_,u,_⟩:=V7.lb.hr;exact (am u hl).symm
 .rintro i x Z H3 hx ⟨o4,o5,rA,rB,sA,sB,rfl,ed,em,V3,eH,eZ,e7,k3,fA,fB⟩;have hi:i<ys.length:=by have:=(Dz.mp hx).1;rw [Dg] at this;exact this
  have ex:x=.str ys[i]:=by rw [DN,bt hi] at hx;exact (DJ hx).symm
  obtain ⟨b1,a0,tr⟩:=ed.next hi nd pm eW
  obtain ⟨n,en⟩:∃ n,n=ys[i]:=⟨_,rfl⟩;rw [<-en] at b1 a0 tr ex;subst ex;have hn:n∈ys:=by rw [en];exact Ee hi
  have q5:=ed.st;have q6:=ed.sb;obtain ⟨kB,o6,og⟩:=V3.lb.ht;have gB:Gm.dget sB.there n=Gm.dget L.there n:=by rw [ed.gb n,Dm];rw [Hf hi,<-en];exact DO
  obtain ⟨ea,e',v1,v2,oi⟩:∃ a e,aU kB (Sum.inr n)=some (.ref a)/\Gm.dget sB.there n=some e/\H3 a=some (.tup (enV e)):=by
   rcases og.get n with ⟨_,y⟩ | y
   .rw [y] at b1;cases b1
   .exact y
  have wn:e'.w=wG L.there n:=by unfold wG;rw [<-gB,v2];rfl
  refine ⟨U,_,rfl,V3.lb.now,M,.ref ea,rfl,v1▸DGet.k (k:=Sum.inr n) o6,_,_,SqT.of oi,rfl,?_⟩;refine ⟨sz2,fun q hq=>⟨tlO oL,U,rB,M,q,sB,.drop n,rfl,V3.lb.same (ar hq),ed.ib,Dc,ad,fun v ey H4 O4 _ k4 f4=>?_⟩⟩;have sq:=ar (o:=.tup (Deed.v (.drop n))) hq;have eB:(ay sB (.drop n)).1=Gm.dropL slt sB n:=by show (if (Gm.dget sB.there n).isSome=true then (Gm.dropL slt sB n,Ans.non) else (sB,Ans.nothing)).1=_;rw [Dm b1]
  rw [eB] at O4;have e0:Kept [U,rB,M] H3 H4:=fun b u e m=>k4 b u (sq _ _ e) m;have e4:ey=rB∨H3 ey=none:=f4.elim .inl fun z=>.inr (sq.free z);have V4:=(V3.swap.act O4 e0 e4).swap;refine ⟨sz3,fun q2 tv=>⟨tlO oG,S,rA,R,q2,sA,.put n e'.w,rfl,V4.la.same (ar tv),ed.ia,Dc,ad,fun v2 eg H5 O5 _ k5 f5=>?_⟩⟩;have tc:=ar (o:=.tup (Deed.v (.put n e'.w))) tv;have eA:(ay sA (.put n e'.w)).1=Gm.putL slt sA n (wG L.there n):=by show (if (Gm.dget sA.there n).isSome=true then (sA,Ans.clash) else (Gm.putL slt sA n e'.w,Ans.non)).1=_;rw [Di (by rw [a0];decide),wn]
  rw [eA] at O5;have e3:Kept [S,rA,R] H4 H5:=fun b u e m=>k5 b u (tc _ _ e) m;have e6:eg=rA∨H4 eg=none:=f5.elim .inl fun z=>.inr (tc.free z);have V5:=V4.act O5 e3 e6;have tq:∀b u,H b=some u->b∉[S,rG,R,U,rL,M]->b∉[U,rB,M]/\b∉[S,rA,R]:=fun b u e m=>by
   simp only [ax,ah,Dv,Fv] at m ⊢;obtain ⟨y1,y2,y3,y4,y5,y6⟩:=m;have m':b∉[S,rG,R,U,rL,M]:=by simp only [ax,ah,Dv,Fv];exact ⟨y1,y2,y3,y4,y5,y6⟩
   exact ⟨⟨y4,fB b u e m',y6⟩,y1,fA b u e m',y3⟩
  have kk:Kept [S,rG,R,U,rL,M] H H4:=fun b u e m=>e0 b u (k3 b u e m) (tq b u e m).1;have o7:Kept [S,rG,R,U,rL,M] H H5:=fun b u e m=>e3 b u (kk b u e m) (tq b u e m).2;have nl:∀{Hx:Hp} {o:Option Int} {tn r' ab:Addr} {s':LS},DmAt (tlO o) Hx tn r' ab s' s'.looks->Hx l=some (.lst (ys.map V.str))->l≠r'->l∉[tn,r',ab]:=fun O e ne m=>by
   obtain ⟨_,u,_⟩:=O.ht;simp only [ax,ah,Dv] at m;rcases m with y | y | y
   .exact aL e O.hs nqz y
   .exact ne y
   .exact aL e u nqz y
  have eF:=e0 _ _ eH (nl V3.lb eH e7);have iv:=e3 _ _ eF (nl V4.la eF eZ);have oc:Fw [S,rG,R,U,rL,M] H ey:=fun b u e m y=>by
   rcases e4 with z | z
   .exact fB b u e m (y.trans z)
   .rw [<-y,k3 b u e m] at z;cases z
  have eC:Fw [S,rG,R,U,rL,M] H eg:=fun b u e m y=>by
   rcases e6 with z | z
   .exact fA b u e m (y.trans z)
   .rw [<-y,kk b u e m] at z;cases z
  have a4:l≠ey:=fun y=>by
   rcases e4 with z | z
   .exact e7 (y.trans z)
   .rw [<-y,eH] at z;cases z
  have ox:l≠eg:=fun y=>by
   rcases e6 with z | z
   .exact eZ (y.trans z)
   .rw [<-y,eF] at z;cases z
  exact ⟨_,_,eg,ey,_,_,rfl,tr,(by rw [Ef,bt hi,<-en];show _=mv _ (_++[n]) _;rw [lP,<-em]),V5,iv,ox,a4,o7,eC,oc⟩
 rintro Z H3 ⟨o4,o5,rA,rB,sA,sB,rfl,ed,em,V3,eH,eZ,e7,k3,fA,fB⟩;rw [Dg] at ed em;rw [D9] at em;have JM:bS G L sA sB:=⟨ed.done IG IL pm eW,ys,pm,srt,em⟩;obtain ⟨⟨i1,oD,m1,a6⟩,⟨i2,o9,m2,ov⟩⟩:=mj V3;refine ⟨eo,rfl,i1,oD,m1,ee,rfl,i2,o9,m2,?_⟩;rw [a6,ov];refine ⟨U,_,rfl,V3.lb.work,S,_,rfl,.inl ⟨_,Sum.inr "more",V3.la.hs,rfl,f9 V3.la.ok,rfl⟩,?_⟩;show (_:Hp->Prop) (upd H3 S (.dK (aQ (dmK (tlO oG) rA R sA sA.looks) (Sum.inr "more":Key) (.int (o1.getD 0+o2.getD 0+(sB.looks:Int))))));rw [wC];have nG:∀b,b∈[U,rB,M]->b≠S:=fun b hb y=>V3.off b hb (by rw [y];simp);obtain ⟨xs,a5,ih⟩:=V3.la.hr;obtain ⟨kA,oC,ow⟩:=V3.la.ht;obtain ⟨od,ik⟩:=V3.la.apart;have e8:∀b l,H3 b=some (.tup l)->(upd H3 S (.dK (dmK (tlO (some (o1.getD 0+o2.getD 0+(sB.looks:Int)))) rA R sA sA.looks))) b=some (.tup l):=fun b l e=>by rw [af (aL e V3.la.hs nqz)];exact e
 have OG:DmAt (tlO (some (o1.getD 0+o2.getD 0+(sB.looks:Int)))) (upd H3 S (.dK (dmK (tlO (some (o1.getD 0+o2.getD 0+(sB.looks:Int)))) rA R sA sA.looks))) S rA R sA sA.looks:=⟨ad,⟨xs,by rw [af od];exact a5,ih.stay e8⟩,⟨kA,by rw [af V3.la.ne.symm];exact oC,ow.stay e8⟩,V3.la.ne,qZ _⟩;have OL:DmAt (tlO oL) (upd H3 S (.dK (dmK (tlO (some (o1.getD 0+o2.getD 0+(sB.looks:Int)))) rA R sA sA.looks))) U rB M sB sB.looks:=V3.lb.stay (fun b u hb e=>by rw [af (nG b (by rcases hb with y | y | y <;> rw [y] <;> simp))];exact e) e8;have kM:Kept [S,rG,R,U,rL,M] H (upd H3 S (.dK (dmK (tlO (some (o1.getD 0+o2.getD 0+(sB.looks:Int)))) rA R sA sA.looks))):=fun b u e m=>by rw [af (fun y=>m (by rw [y];simp))];exact k3 b u e m
 generalize upd H3 S (.dK (dmK (tlO (some (o1.getD 0+o2.getD 0+(sB.looks:Int)))) rA R sA sA.looks))=HM at OG OL kM ⊢;refine ⟨U,_,rfl,OL.slack,_,rfl,fun ej rN ez HN f1 f2 f3 ON sN=>⟨sz2,fun q hq=>?_⟩⟩;refine gnew hq fun HQ sQ gQ=>?_;have tx:DmAt [] HQ ej rN ez (Gm.newL sB.slack) 0:=⟨sQ _ _ ON.hs,by obtain ⟨a,x,y⟩:=ON.hr;exact ⟨a,sQ _ _ x,y.stay fun b l e=>sQ _ _ e⟩,by obtain ⟨a,x,y⟩:=ON.ht;exact ⟨a,sQ _ _ x,y.stay fun b l e=>sQ _ _ e⟩,ON.ne,qZ none⟩;have oT:Kept [S,rG,R,U,rL,M] H HQ:=fun b u e m=>sQ _ _ (sN _ _ (kM b u e m));have t6:=(OG.same sN).same sQ;have live:∀a∈[S,rA,R],∃ u,HM a=some u:=fun a ha=>by
  obtain ⟨_,w1,_⟩:=OG.hr;obtain ⟨_,w2,_⟩:=OG.ht;simp only [ax,ah,Dv] at ha;rcases ha with y | y | y <;> rw [y]
  .exact ⟨_,OG.hs⟩
  .exact ⟨_,w1⟩
  .exact ⟨_,w2⟩
 have fN:∀a∈[ej,rN,ez],Fw (F6 eo r1 Y ee r2 er) H a/\a∉[S,rA,R]:=fun a ha=>by
  have hf:HM a=none:=by
   simp only [ax,ah,Dv] at ha;rcases ha with y | y | y <;> rw [y] <;> assumption
  refine ⟨fun b u e m y=>?_,fun m=>?_⟩
  .have:=kM b u e fun z=>m (f6 b z);rw [y,hf] at this;cases this
  .obtain ⟨u,e⟩:=live a m;rw [hf] at e;cases e
 have eC:Fw (F6 eo r1 Y ee r2 er) H rA:=fun b u e m=>fA b u e fun z=>m (f6 b z);have kF:Kept (F6 eo r1 Y ee r2 er) H HQ:=fun b u e m=>oT b u e fun z=>m (f6 b z);subst el e9 eG eL;cases b
 .exact kQ eD false sA sB rA q ej rN ez HQ eb (fun z=>nomatch z) (fun _=>JM) t6 eC gQ tx fN kF
 exact kQ eD true sB sA rA q ej rN ez HQ eb (fun _=>JM) (fun z=>nomatch z) t6 eC gQ tx fN kF
end
section
variable {P:Program}{w:World}{K:W.Frag}{mg:Str->Option Value}{base:Heap}
open Hm
structure Wld (N:List Str)(C CL:Addr)(H0 H:Hp)(p d e L:Addr)(zs:Nat->Str)(m:Nat)(c:Nat->Cell)(n B:Nat):Prop where
 da:∃ ks js,bV C H p d e ks js/\(∀k,k<m->aU ks (Sum.inr (zs k))=some (.ref (c k).h))/\(∀k,k<m->aU js (Sum.inr (zs k))=some (.int (c k).j))/\ks.length<=n/\js.length<=n
 hl:H L=some (.lst ((List.range m).map fun k=>V.ref (c k).st))
 cell:∀k,k<m->CellOk N CL H (c k) (zs k) n B
 dj:∀k k',k<m->k'<m->k≠k'->∀a∈(c k).ft,a∉(c k').ft
 bs:∀k,k<m->∀a∈(c k).ft,a∉[p,d,e,L]
 de:d≠e
 s0:Same H0 H
 fr:∀k,k<m->∀a∈(c k).ft,H0 a=none
 ff:∀a∈[p,d,e,L],H0 a=none
section
variable {N:List Str}{C CL:Addr}{H0 H H':Hp}{p d e L:Addr}{zs:Nat->Str}{m m':Nat}{c c':Nat->Cell}{n n' B B':Nat}
theorem Wld.same (W:Wld N C CL H0 H p d e L zs m c n B)(k:Same H H'):Wld N C CL H0 H' p d e L zs m c n B:=by obtain ⟨ks,js,T,v1,S,O,I⟩:=W.da;exact ⟨⟨ks,js,⟨T.ob.imp fun _ x=>k _ _ x,k _ _ T.hd,k _ _ T.hj⟩,v1,S,O,I⟩,k _ _ W.hl,fun i hi=>(W.cell i hi).same k,W.dj,W.bs,W.de,W.s0.trans k,W.fr,W.ff⟩
theorem Wld.mono (W:Wld N C CL H0 H p d e L zs m c n B)(S:n<=n')(T:B<=B'):Wld N C CL H0 H p d e L zs m c n' B':=by obtain ⟨ks,js,O,v1,I,R,U⟩:=W.da;exact ⟨⟨ks,js,O,v1,I,Dc,Dc⟩,W.hl,fun i hi=>(W.cell i hi).mono S T,W.dj,W.bs,W.de,W.s0,W.fr,W.ff⟩
theorem Wld.to (W:Wld N C CL H0 H p d e L zs m c n B){A:Nat->Prop}{F:List Addr}(hF:∀k,k<m->¬ A k->∀a∈(c k).ft,a∉F)(hp:p∉F)(h0:∀a∈F,H0 a=none)(ht:∀a∈F,∀l,H a≠some (.tup l))(kp:Kept F H H')(I:∀k,k<m'->¬ A k->k<m/\c' k=c k)(new:∀k,k<m'->A k->CellOk N CL H' (c' k) (zs k) n' B'/\∀a∈(c' k).ft,Fw F H a/\a∉[d,e,L])(dj:∀k R,k<m'->R<m'->A k->A R->k≠R->∀a∈(c' k).ft,a∉(c' R).ft)(da:∃ ks js,bV C H' p d e ks js/\(∀k,k<m'->aU ks (Sum.inr (zs k))=some (.ref (c' k).h))/\(∀k,k<m'->aU js (Sum.inr (zs k))=some (.int (c' k).j))/\ks.length<=n'/\js.length<=n')(hl:H' L=some (.lst ((List.range m').map fun k=>V.ref (c' k).st)))(hn:n<=n')(hB:B<=B'):Wld N C CL H0 H' p d e L zs m' c' n' B':=by
 have tk:∀b l,H b=some (.tup l)->H' b=some (.tup l):=fun b l q=>kp b _ q fun Y=>ht b Y l q;have off:∀k,k<m->¬ A k->∀a∈(c k).ft,∀x,Fw F H x->a≠x:=fun k hk nA a O x fx=>by obtain ⟨o,h1,_⟩:=(W.cell k hk).live a O;exact fx a o h1 (hF k hk nA a O)
 refine ⟨da,hl,fun k hk=>?_,fun k R hk G ne a O S=>?_,fun k hk a O Y=>?_,W.de,fun b o q=>kp b o (W.s0 b o q) (fun Y=>by rw [h0 b Y] at q;cases q),fun k hk a O=>?_,W.ff⟩
 .by_cases M:A k
  .exact (new k hk M).1
  .obtain ⟨T,U⟩:=I k hk M;rw [U];exact (W.cell k T).stay (fun a O o q=>kp a o q (hF k T M a O)) tk hn hB
 .by_cases A1:A k <;> by_cases J:A R
  .exact dj k R hk G A1 J ne a O S
  .obtain ⟨T,U⟩:=I R G J;rw [U] at S;exact off R T J a S a ((new k hk A1).2 a O).1 rfl
  .obtain ⟨T,U⟩:=I k hk A1;rw [U] at O;exact off k T A1 a O a ((new R G J).2 a S).1 rfl
  .obtain ⟨T,U⟩:=I k hk A1;obtain ⟨et,ea⟩:=I R G J;rw [U] at O;rw [ea] at S;exact W.dj k R T et ne a O S
 .by_cases M:A k
  .obtain ⟨f1,f2⟩:=(new k hk M).2 a O;rcases ax.mp Y with y | y
   .obtain ⟨ks,js,DA,_⟩:=W.da;obtain ⟨dx,ee⟩:=DA.ob;exact f1 p _ ee hp y.symm
   .exact f2 y
  .obtain ⟨T,U⟩:=I k hk M;rw [U] at O;exact W.bs k T a O Y
 by_cases M:A k
 .cases q:H0 a with
  | none=>rfl
  | some o=>exact absurd rfl (((new k hk M).2 a O).1 a o (W.s0 a o q) fun Y=>by rw [h0 a Y] at q;cases q)
 obtain ⟨T,U⟩:=I k hk M;rw [U] at O;exact W.fr k T a O
theorem Wld.step (W:Wld N C CL H0 H p d e L zs m c n B){k:Nat}(hk:k<m){I:Cell}(ok:CellOk N CL H' I (zs k) n' B)(S:Stp H H' (c k) I)(hn:n<=n'):Wld N C CL H0 H' p d e L zs m (fun i=>if i=k then I else c i) n' B:=by
 have O:=W.cell k hk;obtain ⟨ks,js,G,v1,v2,l1,l2⟩:=W.da;have nb:=W.bs k hk;have J:∀x∈[p,d,e,L],x∉(c k).ft:=fun x U M=>nb x M U;have Y:∀x o,H x=some o->x∈[p,d,e,L]->H' x=some o:=fun x o q U=>S.kp x o q (J x U);have eq:∀i,(if i=k then I else c i).h=(c i).h/\(if i=k then I else c i).st=(c i).st/\(if i=k then I else c i).j=(c i).j:=fun i=>by
  by_cases y:i=k
  .rw [Dm y,y];exact ⟨S.eh,S.es,by unfold Cell.j;rw [S.eo]⟩
  .rw [Di y];exact ⟨rfl,rfl,rfl⟩
 refine W.to (A:=fun i=>i=k) (F:=(c k).ft) (fun i hi R a T=>W.dj i k hi hk R a T) (J p Dd) (W.fr k hk) (fun a T l q=>?_) S.kp (fun i hi R=>⟨hi,Di R⟩) (fun i hi ek=>?_) (fun i i' _ _ e1 e2 R=>absurd (e1.trans e2.symm) R) ⟨ks,js,⟨G.ob.imp fun _ x=>Y _ _ x Dd,Y _ _ G.hd Dd,Y _ _ G.hj Dd⟩,fun i hi=>by rw [(eq i).1];exact v1 i hi,fun i hi=>by rw [(eq i).2.2];exact v2 i hi,Dc,Dc⟩ ?_ hn (Dj _)
 .obtain ⟨o,h1,h2⟩:=O.live a T;rw [h1] at q;exact h2 l (DJ q)
 .subst ek;rw [Dm rfl];refine ⟨ok,fun a T=>⟨fun b u q nm y=>S.fr b u q nm (by rw [y];exact T),fun M=>?_⟩⟩;have U:a∈[p,d,e,L]:=Dr _ M;have live:∃ o,H a=some o:=by
   simp only [ax,ah,Dv] at M;rcases M with y | y | y <;> rw [y]
   .exact ⟨_,G.hd⟩
   .exact ⟨_,G.hj⟩
   .exact ⟨_,W.hl⟩
  obtain ⟨o,ho⟩:=live;exact S.fr a o ho (J a U) T
 have:=Y _ _ W.hl Dd;rw [this];refine congrArg (fun l=>some (HO.lst l)) (ED fun i _=>?_);rw [(eq i).2.1]
end
theorem jD {s t a b I S:LS}(h:bS s t a b)(h':bS s t I S):a=I/\b=S:=by obtain ⟨ys,M,srt,e⟩:=h.m;obtain ⟨O,T,c,U⟩:=h'.m;have R:ys=O:=pF M T srt c;subst R;rw [<-U] at e;exact ⟨congrArg Prod.fst e,congrArg Prod.snd e⟩
theorem jI {s t a b:LS}(I:Gm.LInv slt s)(J:Gm.LInv slt t)(U:∀n∈t.there.map (·.1),Gm.dget s.there n=none)(h:bS s t a b)(st:s.stamp+t.there.length<=800)(tt:t.stamp<=800)(hp:Gm.pot 10 s<=70*n)(W:Gm.pot 10 t<=70*n):Gm.pot 10 a<=70*((n+t.there.length:Nat):Int)/\Gm.pot 10 b<=70*((n+t.there.length:Nat):Int):=by
 obtain ⟨ys,S,srt,e⟩:=h.m;have nd:ys.Nodup:=S.nodup_iff.mpr J.nd;have R:ys.length=t.there.length:=by rw [S.length_eq,Dg]
 have c:∀n∈ys,Gm.dget s.there n=none:=fun n hn=>U n (S.mem_iff.mp hn);have O:∀i,i<=ys.length->Jn s t ys i (mv (wG t.there) (ys.take i) (s,t)).1 (mv (wG t.there) (ys.take i) (s,t)).2/\Gm.pot 10 (mv (wG t.there) (ys.take i) (s,t)).1<=70*((n+i:Nat):Int)/\Gm.pot 10 (mv (wG t.there) (ys.take i) (s,t)).2<=70*((n+i:Nat):Int):=by
  intro i
  induction i with
  | zero=>exact fun _=>⟨Jn.start I J S,hp,W⟩
  | succ i ih =>
   intro hi;obtain ⟨T,p1,G⟩:=ih Dc;obtain ⟨b1,a0,jn⟩:=T.next Dc nd S c
   have F:ys.take (i+1)=ys.take i++[ys[i]]:=(Hr Dc).symm;rw [F,lP];refine ⟨jn,?_⟩;have q5:=T.st;have ps:=jc T.ia (dd:=.put ys[i] (wG t.there ys[i])) Dc p1;have es:(ay (mv (wG t.there) (ys.take i) (s,t)).1 (.put ys[i] (wG t.there ys[i]))).1=Gm.putL slt (mv (wG t.there) (ys.take i) (s,t)).1 ys[i] (wG t.there ys[i]):=by unfold ay;dsimp only;rw [Di (by rw [a0];decide)]
   rw [es] at ps;have q6:=T.sb;have M:=jc T.ib (dd:=.drop ys[i]) Dc G;have Y:(ay (mv (wG t.there) (ys.take i) (s,t)).2 (.drop ys[i])).1=Gm.dropL slt (mv (wG t.there) (ys.take i) (s,t)).2 ys[i]:=by unfold ay;dsimp only;rw [Dm b1]
   rw [Y] at M;exact ⟨ps,M⟩
 have m:=(O ys.length (Dj _)).2;rw [D9,<-e,R] at m;exact m
theorem kO {s t a b:LS}(h:bS s t a b){p:Int×Str}(c:p∈prs a.there):p∈prs s.there∨p∈prs t.there:=by obtain ⟨w,n⟩:=p;rw [prs_thW,h.j.pm.mem_iff,Du] at c;exact c.imp prs_thW.mpr prs_thW.mpr
section
variable {N:List Str}{C CL:Addr}{H0 H H1 H2 H3 H4 HL:Hp}{p d e L:Addr}{zs:Nat->Str}{c:Nat->Cell}{n B:Nat}
theorem mem_ft {k:Cell}:a∈k.ft↔a∈[k.h,k.hd,k.hl]∨a∈[k.st,k.r,k.td]:=by
 simp only [Cell.ft,ax,ah,Dv];constructor
 .rintro (y | y | y | y | y | y)
  .exact .inl (.inl y)
  .exact .inl (.inr (.inl y))
  .exact .inl (.inr (.inr y))
  .exact .inr (.inl y)
  .exact .inr (.inr (.inl y))
  .exact .inr (.inr (.inr y))
 rintro ((y | y | y) | (y | y | y))
 .exact .inl y
 .exact .inr (.inl y)
 .exact .inr (.inr (.inl y))
 .exact .inr (.inr (.inr (.inl y)))
 .exact .inr (.inr (.inr (.inr (.inl y))))
 exact .inr (.inr (.inr (.inr (.inr y))))
theorem cO {I d1 O T x:Addr}:x∈F6 a b I d1 O T↔x∈[a,b,I]∨x∈[d1,O,T]:=by have:F6 a b I d1 O T=[a,b,I]++[d1,O,T]:=rfl;rw [this,Du]
def Fo (c:Nat->Cell)(i j:Nat):List Addr:=F6 (c i).st (c i).r (c i).td (c j).st (c j).r (c j).td
def Fl (c:Nat->Cell)(i j:Nat):List Addr:=F6 (c i).h (c i).hd (c i).hl (c j).h (c j).hd (c j).hl
theorem Wld.two (W:Wld N C CL H0 H p d e L zs 3 c n B){j:Nat}(hi:i<3)(T:j<3)(M:i≠j):
  TwoD H (c i).o (c j).o (c i).st (c i).r (c i).td (c j).st (c j).r (c j).td (c i).s (c j).s/\Two CL H (c i).h (c i).hd (c i).hl (c j).h (c j).hd (c j).hl (c i).s (c j).s:=by
 have off:∀a∈(c i).ft,∀b∈(c j).ft,a≠b:=fun a G b hb y=>W.dj i j hi T M a G (by rw [y];exact hb);have m:∀k:Cell,k.h∈k.ft/\k.hd∈k.ft/\k.hl∈k.ft/\k.st∈k.ft/\k.r∈k.ft/\k.td∈k.ft:=fun k=>by simp [Cell.ft]
 obtain ⟨F,J,a3,S,a5,I⟩:=m (c i);obtain ⟨b1,b2,U,R,Y,O⟩:=m (c j);exact ⟨⟨(W.cell i hi).ow,(W.cell j T).ow,off _ S _ R,off _ a5 _ Y,off _ I _ O,off _ S _ O,off _ I _ R⟩,⟨(W.cell i hi).la,(W.cell j T).la,off _ F _ b1,off _ J _ b2,off _ a3 _ U⟩⟩
theorem Wld.apart (W:Wld N C CL H0 H p d e L zs 3 c n B){j:Nat}(hi:i<3)(T:j<3)(S:i≠j):∀a∈Fo c i j,a∉Fl c i j:=fun a O I=>by
 have own:∀k,k<3->∀x∈[(c k).st,(c k).r,(c k).td],x∉[(c k).h,(c k).hd,(c k).hl]:=fun k hk=>((W.cell k hk).own (W.cell k hk).ow Kept.refl (.inl rfl)).2;unfold Fo at O;unfold Fl at I;rw [cO] at O I;rcases O with x | x <;> rcases I with y | y
 .exact own i hi a x y
 .exact W.dj i j hi T S a (mem_ft.mpr (.inr x)) (mem_ft.mpr (.inl y))
 .exact W.dj i j hi T S a (mem_ft.mpr (.inl y)) (mem_ft.mpr (.inr x))
 exact own j T a x y
theorem Wld.join (W:Wld N C CL H0 H p d e L zs 3 c n B)(hN:N.length<=18)(hn:n<=300)(zd:∀k k',k<3->k'<3->k≠k'->zs k≠zs k'){j x y:Nat}(hi:i<3)(hj:j<3)(ne:i≠j)(er:(x=i/\y=j)∨(x=j/\y=i))(eD:∀n∈(c y).s.there.map (·.1),Gm.dget (c x).s.there n=none){GG LL:LS}(JM:bS (c x).s (c y).s GG LL){jj:Int}(ej:jj=(c i).j+(c j).j+LL.looks){rG R rN U:Addr}{sk:Int}(OG:DmAt (tlO (some jj)) H1 (c x).st rG (c x).td GG GG.looks)(fG:Fw (Fo c i j) H rG)(ON:DmAt [] H1 R rN U (Gm.newL sk) 0)(fN:∀a∈[R,rN,U],Fw (Fo c i j) H a/\a∉[(c x).st,rG,(c x).td])(k1:Kept (Fo c i j) H H1)(s2:Same H1 H2)(DA:bV C H p d e ks js)(v1:∀k,k<3->aU ks (Sum.inr (zs k))=some (.ref (c k).h))(v2:∀k,k<3->aU js (Sum.inr (zs k))=some (.int (c k).j))(lk:ks.length<=n)(lj:js.length<=n){gl h hd hl:Addr}(M:iE C CL H2 H3 p d e ks js (zs i) (zs j) (c x).h (c x).hd gl GG h hd hl sk jj (Fl c i j))(k3:Kept ([d,e]++Fl c i j) H2 H3)(s4:Same H3 H4)(kL:∀b u,H4 b=some u->b≠L->HL b=some u)(gL:HL L=some (.lst ((List.range 3).map fun k=>V.ref (if k=i then (c x).st else if k=j then R else (c k).st)))):
  Wld N C CL H0 HL p d e L zs 3 (fun k=>if k=i then ⟨(c x).h,(c x).hd,gl,(c x).st,rG,(c x).td,GG,some jj⟩ else if k=j then ⟨h,hd,hl,R,rN,U,Gm.newL sk,none⟩ else c k) (n+18) (2*B+56000):=by
 have hx:x<3:=by rcases er with ⟨a,_⟩ | ⟨a,_⟩ <;> rw [a] <;> assumption
 have hy:y<3:=by rcases er with ⟨_,a⟩ | ⟨_,a⟩ <;> rw [a] <;> assumption
 have X:=W.cell x hx;have Y:=W.cell y hy;have eh:∀a∈[(c x).st,(c x).r,(c x).td],a∈Fo c i j:=fun a ha=>by
  unfold Fo;rw [cO];rcases er with ⟨q,_⟩ | ⟨q,_⟩ <;> rw [q] at ha
  .exact .inl ha
  .exact .inr ha
 have ee:∀a∈[(c x).h,(c x).hd,(c x).hl],a∈Fl c i j:=fun a ha=>by
  unfold Fl;rw [cO];rcases er with ⟨q,_⟩ | ⟨q,_⟩ <;> rw [q] at ha
  .exact .inl ha
  .exact .inr ha
 have ed:∀a,a∈Fo c i j->a∈(c i).ft++(c j).ft:=fun a ha=>by unfold Fo at ha;rw [cO] at ha;exact Du.mpr (ha.imp (fun z=>mem_ft.mpr (.inr z)) fun z=>mem_ft.mpr (.inr z))
 have et:∀a,a∈Fl c i j->a∈(c i).ft++(c j).ft:=fun a ha=>by unfold Fl at ha;rw [cO] at ha;exact Du.mpr (ha.imp (fun z=>mem_ft.mpr (.inl z)) fun z=>mem_ft.mpr (.inl z))
 have nf:∀a∈[p,d,e,L],a∉(c i).ft++(c j).ft:=fun a ha mm=>by
  rcases Du.mp mm with z | z
  .exact W.bs i hi a z ha
  .exact W.bs j hj a z ha
 obtain ⟨dx,hp⟩:=DA.ob;have npd:p≠d:=aL hp DA.hd nqz;have e0:p≠e:=aL hp DA.hj nqz;have eH:p≠L:=aL hp W.hl nqz;have eN:L≠d:=aL W.hl DA.hd nqz;have eC:L≠e:=aL W.hl DA.hj nqz;have AP:=W.apart hi hj ne;have G:∀a∈(c i).ft++(c j).ft,∃ o,H a=some o/\∀l,o≠.tup l:=fun a ha=>by
  rcases Du.mp ha with z | z
  .exact (W.cell i hi).live a z
  .exact (W.cell j hj).live a z
 have J:∀a∈[d,e,L],∃ o,H a=some o/\∀l,o≠.tup l:=fun a ha=>by
  simp only [ax,ah,Dv] at ha;rcases ha with z | z | z <;> rw [z]
  .exact ⟨_,DA.hd,fun l w=>nomatch w⟩
  .exact ⟨_,DA.hj,fun l w=>nomatch w⟩
  .exact ⟨_,W.hl,fun l w=>nomatch w⟩
 have ek:∀a o,H a=some o->a∉Fo c i j->H2 a=some o:=fun a o q m=>s2 _ _ (k1 a o q m);have el:∀a∈[p,d,e,L],a∉Fo c i j/\a∉Fl c i j:=fun a ha=>⟨fun z=>nf a ha (ed a z),fun z=>nf a ha (et a z)⟩;have ec:∀a∈Fl c i j,a∉Fo c i j:=fun a ha z=>AP a z ha;have ei:∀a∈[d,e,L]++Fl c i j,∃ o,H2 a=some o/\∀l,o≠.tup l:=fun a ha=>by
  rcases Du.mp ha with z | z
  .obtain ⟨o,q,r⟩:=J a z;exact ⟨o,ek a o q (el a (Dr _ z)).1,r⟩
  .obtain ⟨o,q,r⟩:=G a (et a z);exact ⟨o,ek a o q (ec a z),r⟩
 have ew:∀r,Fw (Fo c i j) H r->∀a∈[d,e,L]++Fl c i j,a≠r:=fun r f a ha=>by
  rcases Du.mp ha with z | z
  .obtain ⟨o,q,_⟩:=J a z;exact f a o q (el a (Dr _ z)).1
  .obtain ⟨o,q,_⟩:=G a (et a z);exact f a o q (ec a z)
 have T:∀a,(a∈[(c x).st,rG,(c x).td]∨a∈[R,rN,U])->a∉[d,e,L]++Fl c i j:=fun a ha mm=>by
  rcases ha with z | z
  .by_cases w:a=rG
   .exact ew rG fG a mm w
   .have S:a∈[(c x).st,(c x).r,(c x).td]:=by
     simp only [ax,ah,Dv] at z ⊢;rcases z with v | v | v
     .exact .inl v
     .exact absurd v w
     .exact .inr (.inr v)
    rcases Du.mp mm with v | v
    .exact nf a (Dr _ v) (ed a (eh a S))
    .exact AP a (eh a S) v
  .exact ew a (fN a z).1 a mm rfl
 have split:∀a,a∉[d,e,L]++Fl c i j->a∉[d,e]++Fl c i j/\a≠L:=fun a m=>⟨fun z=>m (by
  rcases Du.mp z with v | v
  .simp only [ax,ah,Dv] at v;refine DT _ ?_;rcases v with v | v <;> rw [v] <;> simp
  .exact DE _ v),fun z=>m (by rw [z];simp)⟩
 have go:∀a o,H1 a=some o->a∉[d,e,L]++Fl c i j->HL a=some o:=fun a o q m=>kL a o (s4 _ _ (k3 a o (s2 _ _ q) (split a m).1)) (split a m).2;have eS:∀b l,H1 b=some (.tup l)->HL b=some (.tup l):=fun b l q=>go b _ q fun m=>by obtain ⟨o,r,t⟩:=ei b m;rw [s2 _ _ q] at r;exact t l (DJ r).symm
 have eZ:DmAt (tlO (some jj)) HL (c x).st rG (c x).td GG GG.looks:=OG.stay (fun b o hb q=>go b o q (T b (.inl (by rcases hb with z | z | z <;> rw [z] <;> simp)))) eS;have e1:DmAt (tlO none) HL R rN U (Gm.newL sk) (Gm.newL sk:LS).looks:=ON.stay (fun b o hb q=>go b o q (T b (.inr (by rcases hb with z | z | z <;> rw [z] <;> simp)))) eS;obtain ⟨oL,ey,tL⟩:=ei L Dd;have eg:L∉[d,e]++Fl c i j:=fun z=>by
  rcases Du.mp z with v | v
  .simp only [ax,ah,Dv] at v;rcases v with v | v
   .exact eN v
   .exact eC v
  .exact (el L Dd).2 v
 have e2:=k3 _ _ ey eg;have ea:∀a o,H3 a=some o->a≠L->HL a=some o:=fun a o q m=>kL a o (s4 _ _ q) m;have eG:∀b l,H3 b=some (.tup l)->HL b=some (.tup l):=fun b l q=>ea b _ q fun z=>by rw [z,e2] at q;exact tL l (DJ q)
 have eL:gl≠L:=(M.fg.1 L oL ey eg).symm;have eA:∀a∈[h,hd,hl],a≠L:=fun a ha=>((M.fn a ha).1 L oL ey eg).symm;have ez:∀a∈[(c x).h,(c x).hd,(c x).hl],a≠L:=fun a ha z=>(el L Dd).2 (by rw [<-z];exact ee a ha);have LA:LateAt CL HL (c x).h (c x).hd gl GG:=M.la.stay (fun b o hb q=>ea b o q (by
  rcases hb with z | z | z <;> rw [z]
  .exact ez _ Dd
  .exact ez _ Dd
  .exact eL)) eG
 have LB:LateAt CL HL h hd hl (Gm.newL sk):=M.lb.stay (fun b o hb q=>ea b o q (eA b (by rcases hb with z | z | z <;> rw [z] <;> simp))) eG;have eb:∀a,(a∈[(c x).st,rG,(c x).td]∨a∈[R,rN,U])->∃ o,H2 a=some o:=fun a ha=>by
  have lv:∀{tl:List (Key×V)} {st r td:Addr} {s:LS} {wk:Nat},DmAt tl H1 st r td s wk->∀a∈[st,r,td],∃ o,H2 a=some o:=fun O a ha=>by
   obtain ⟨_,w1,_⟩:=O.hr;obtain ⟨_,w2,_⟩:=O.ht;simp only [ax,ah,Dv] at ha;rcases ha with z | z | z <;> rw [z]
   .exact ⟨_,s2 _ _ O.hs⟩
   .exact ⟨_,s2 _ _ w1⟩
   .exact ⟨_,s2 _ _ w2⟩
  rcases ha with z | z
  .exact lv OG a z
  .exact lv ON a z
 have I:∀r,Fw ([d,e]++Fl c i j) H2 r->∀a,(a∈[(c x).st,rG,(c x).td]∨a∈[R,rN,U])->a≠r:=fun r f a ha=>by obtain ⟨o,q⟩:=eb a ha;exact f a o q (split a (T a ha)).1
 have e3:=gS JM.j.ib (n:=n+(c y).s.there.length) (by have:=cZ Y.li Y.nn;lia) (jI X.li Y.li eD JM (by have:=X.sp;have:=cZ Y.li Y.nn;lia) (by have:=Y.sp;lia) X.pt Y.pt).2;have ly:=cZ Y.li Y.nn;have e4:=(jI X.li Y.li eD JM (by have:=X.sp;lia) (by have:=Y.sp;lia) X.pt Y.pt).1;have i0:=(W.cell i hi).j0;have i1:=(W.cell i hi).j1;have j0:=(W.cell j hj).j0;have j1:=(W.cell j hj).j1;have eo:∀a,a∉(c i).ft++(c j).ft++[d,e,L]->a∉Fo c i j/\a∉[d,e,L]++Fl c i j:=fun a m=>⟨fun z=>m (DT _ (ed a z)),fun z=>m (by
  rcases Du.mp z with v | v
  .exact DE _ v
  .exact DT _ (et a v))⟩
 have big:∀{r:Addr},Fw (Fo c i j) H r->Fw ((c i).ft++(c j).ft++[d,e,L]) H r:=fun f b u q m=>f b u q (eo b m).1;have ef:∀{r:Addr},Fw ([d,e]++Fl c i j) H2 r->Fw ((c i).ft++(c j).ft++[d,e,L]) H r:=fun f b u q m=>f b u (ek b u q (eo b m).1) (split b (eo b m).2).1;have eF:∀{r:Addr},r∈(c i).ft++(c j).ft->Fw ((c i).ft++(c j).ft++[d,e,L]) H r:=fun hr b u q m z=>m (DT _ (by rw [z];exact hr));refine W.to (A:=fun k=>k=i∨k=j) (F:=(c i).ft++(c j).ft++[d,e,L]) (fun k hk nA a ha m=>?_) (fun m=>?_) (fun a ha=>?_) (fun a ha l q=>?_) (fun b u q m=>go b u (k1 b u q (eo b m).1) (eo b m).2) (fun k hk nA=>⟨hk,?_⟩) (fun k hk kA=>?_) (fun k k' hk e5 kA eW nk a ha ha'=>?_) ⟨_,_,⟨M.da.ob.imp fun _ q=>ea _ _ q eH,ea _ _ M.da.hd (Fc eN),ea _ _ M.da.hj (Fc eC)⟩,fun k hk=>?_,fun k hk=>?_,?_,?_⟩ ?_ Dc Dc
 .rcases Du.mp m with z | z
  .rcases Du.mp z with v | v
   .exact W.dj k i hk hi (fun w=>nA (.inl w)) a ha v
   .exact W.dj k j hk hj (fun w=>nA (.inr w)) a ha v
  .exact W.bs k hk a ha (Dr _ z)
 .rcases Du.mp m with z | z
  .exact nf p Dd z
  .simp only [ax,ah,Dv] at z;rcases z with z | z | z
   .exact npd z
   .exact e0 z
   .exact eH z
 .rcases Du.mp ha with z | z
  .rcases Du.mp z with v | v
   .exact W.fr i hi a v
   .exact W.fr j hj a v
  .exact W.ff a (Dr _ z)
 .rcases Du.mp ha with z | z
  .obtain ⟨o,r,t⟩:=G a z;rw [q] at r;exact t l (DJ r).symm
  .obtain ⟨o,r,t⟩:=J a z;rw [q] at r;exact t l (DJ r).symm
 .show (if k=i then _ else if k=j then _ else c k)=c k;rw [Di (fun z=>nA (.inl z)),Di (fun z=>nA (.inr z))]
 .by_cases z:k=i
  .rw [Dm z,z];refine ⟨⟨LA,eZ,X.n1,X.n2,(I gl M.fg.1 rG (.inl Dd)).symm,JM.j.ia,?_,fun q hq=>?_,fun q hq=>?_,?_,(W.cell i hi).nz,?_,?_⟩,fun a ha=>?_⟩
   .rw [show (Cell.s _)=GG from rfl,JM.j.st];have:=X.sp;lia
   .exact (kO JM hq).elim (X.sm q) (Y.sm q)
   .exact (kO JM hq).elim (X.nn q) (Y.nn q)
   .show Gm.pot 10 GG<=_;lia
   .show (0:Int)<=jj;lia
   .show jj<=_;lia
   .rw [mem_ft] at ha;rcases ha with ha | ha
    .have ha:a∈[(c x).h,(c x).hd,gl]:=ha;by_cases w:a=gl
     .rw [w];refine ⟨ef M.fg.1,?_⟩;simp only [ax,ah,Dv,Fv];exact ⟨M.fg.2.1,M.fg.2.2,eL⟩
     .have ha':a∈[(c x).h,(c x).hd,(c x).hl]:=by
       simp only [ax,ah,Dv] at ha ⊢;rcases ha with v | v | v
       .exact .inl v
       .exact .inr (.inl v)
       .exact absurd v w
      exact ⟨eF (et a (ee a ha')),fun v=>nf a (Dr _ v) (et a (ee a ha'))⟩
    .have ha:a∈[(c x).st,rG,(c x).td]:=ha;refine ⟨?_,fun v=>T a (.inl ha) (DT _ v)⟩;by_cases w:a=rG
     .rw [w];exact big fG
     .refine eF (ed a (eh a ?_));simp only [ax,ah,Dv] at ha ⊢;rcases ha with v | v | v
      .exact .inl v
      .exact absurd v w
      .exact .inr (.inr v)
  .have S:k=j:=kA.resolve_left z;rw [Di z,Dm S,S];refine ⟨⟨LB,e1,(I hd (M.fn hd Dd).1 R (.inr Dd)).symm,(I hd (M.fn hd Dd).1 U (.inr Dd)).symm,(I hl (M.fn hl Dd).1 rN (.inr Dd)).symm,Gm.new_inv,D6 _,(fun q hq=>nomatch hq),(fun q hq=>nomatch hq),?_,(W.cell j hj).nz,?_,?_⟩,fun a ha=>?_⟩
   .show (((0:Nat):Int)+(2*(10:Nat)+2)*(((0:Nat):Int)-((0:Nat):Int)))<=70*((n+18:Nat):Int);lia
   .show (0:Int)<=0;lia
   .show (0:Int)<=_;lia
   .rw [mem_ft] at ha;rcases ha with ha | ha
    .have ha:a∈[h,hd,hl]:=ha;have f:=M.fn a ha;refine ⟨ef f.1,fun v=>?_⟩;have f2:=f.2;simp only [ax,ah,Dv,Fv] at v f2;rcases v with v | v | v
     .exact f2.1 v
     .exact f2.2.1 v
     .exact eA a ha v
    .have ha:a∈[R,rN,U]:=ha;exact ⟨big (fN a ha).1,fun v=>T a (.inr ha) (DT _ v)⟩
 .have pr:∀a,a∈(⟨(c x).h,(c x).hd,gl,(c x).st,rG,(c x).td,GG,some jj⟩:Cell).ft->a∈(⟨h,hd,hl,R,rN,U,Gm.newL sk,none⟩:Cell).ft->False:=fun a ha ha'=>by
   rw [mem_ft] at ha ha';rcases ha with ha | ha <;> rcases ha' with ha' | ha'
   .have ha:a∈[(c x).h,(c x).hd,gl]:=ha;exact (M.fn a ha').2 (Dr _ (Dr _ ha))
   .have ha:a∈[(c x).h,(c x).hd,gl]:=ha;have ha':a∈[R,rN,U]:=ha';by_cases w:a=gl
    .exact I gl M.fg.1 a (.inr ha') w
    .have eB:a∈[(c x).h,(c x).hd,(c x).hl]:=by
      simp only [ax,ah,Dv] at ha ⊢;rcases ha with v | v | v
      .exact .inl v
      .exact .inr (.inl v)
      .exact absurd v w
     exact T a (.inr ha') (DE _ (ee a eB))
   .exact I a (M.fn a ha').1 a (.inl ha) rfl
   .exact (fN a ha').2 ha
  by_cases z:k=i <;> by_cases S:k'=i
  .exact nk (z.trans S.symm)
  .have w:k'=j:=eW.resolve_left S;rw [Dm z] at ha;rw [Di S,Dm w] at ha';exact pr a ha ha'
  .have w:k=j:=kA.resolve_left z;rw [Di z,Dm w] at ha;rw [Dm S] at ha';exact pr a ha' ha
  .exact nk ((kA.resolve_left z).trans (eW.resolve_left S).symm)
 .rw [dD,dD];by_cases z:k=i
  .rw [Di (fun w=>zd k j hk hj (by rw [z];exact ne) (Eb w)),Dm (by rw [z]),Dm z]
  .by_cases S:k=j
   .rw [Dm (by rw [S]),Di z,Dm S]
   .rw [Di (fun w=>zd k j hk hj S (Eb w)),Di (fun w=>zd k i hk hi z (Eb w)),Di z,Di S];exact v1 k hk
 .rw [dD,dD];by_cases z:k=i
  .rw [Di (fun w=>zd k j hk hj (by rw [z];exact ne) (Eb w)),Dm (by rw [z]),Dm z];rfl
  .by_cases S:k=j
   .rw [Dm (by rw [S]),Di z,Dm S];rfl
   .rw [Di (fun w=>zd k j hk hj S (Eb w)),Di (fun w=>zd k i hk hi z (Eb w)),Di z,Di S];exact v2 k hk
 .have a1:=bd (aQ ks (Sum.inr (zs i)) (V.ref (c x).h)) (Sum.inr (zs j)) (V.ref h);have a2:=bd ks (Sum.inr (zs i)) (V.ref (c x).h);lia
 .have a1:=bd (aQ js (Sum.inr (zs i)) (V.int jj)) (Sum.inr (zs j)) (V.int 0);have a2:=bd js (Sum.inr (zs i)) (V.int jj);lia
 rw [gL];refine congrArg (fun l=>some (HO.lst l)) (ED fun k _=>?_);by_cases z:k=i
 .rw [Dm z,Dm z]
 by_cases S:k=j
 .rw [Di z,Dm S,Di z,Dm S]
 rw [Di z,Di S,Di z,Di S]
end
theorem ix3 {f:Nat->V}{k:Nat}(h:k<3):atI ((List.range 3).map f) (k:Int)=some (f k):=aW (by rw [DN,IW h];rfl)
theorem CG {g:Nat->Addr}{v w:Addr}{j:Nat}(hi:i<3)(I:j<3)(c:i≠j):((((List.range 3).map fun k=>V.ref (g k)).set i (.ref v)).set j (.ref w))=(List.range 3).map fun k=>V.ref (if k=i then v else if k=j then w else g k):=by
 have O:i=0∨i=1∨i=2:=by lia
 have T:j=0∨j=1∨j=2:=by lia
 rcases O with rfl | rfl | rfl <;> rcases T with rfl | rfl | rfl <;> first | exact absurd rfl c | rfl
abbrev qV:Stmt:=top 51
theorem rp:av ["desk","names","heaps","a","b","found","told"] ["desk","names","heaps","a","b"] (ak qV):=fs0
def rX (N:List Str)(C CL:Addr):Sp:=fun vs H Q _=>∃ (H0:Hp) (p d e L Ln:Addr) (zs:Nat->Str) (c:Nat->Cell) (n B i j:Nat),vs=[.ref p,.ref Ln,.ref L,.int i,.int j]/\Wld N C CL H0 H p d e L zs 3 c n B/\H Ln=some (.lst ((List.range 3).map fun k=>V.str (zs k)))/\(∃ o,H0 Ln=some o) /\
 i<3/\j<3/\i≠j/\(∀k k',k<3->k'<3->k≠k'->zs k≠zs k')/\N.length<=18/\n<=300/\B<=10 ^ 8/\∀c' H',Wld N C CL H0 H' p d e L zs 3 c' (n+18) (2*B+56000)->Q (.bl true) H'
theorem yn {f2:Addr}(F:Fun K "_law_join_right" "_law_join_right" qV f fd)(T:Bl mg)(L:DK K C)(FO:gj K forms)(el:mg "Clash"=some (.ref CC))(e5:PySem.W.exmOne K (.ref CC) (.ref CC)=some true)(eC:bp K C "ask" fa)(eS:au P w K mg base (CXe P w) 9 fa fda ["self","line"] (oS K forms C CL CC CN))(eN:Binds K fda ["self","line"] [])(O:au P w K mg base CX0 5 f2 fd2 ["one","other"] nI)(R:Nm K mg "_law_joined" f2 fd2 ["one","other"]):
  au P w K mg base CX0 10 f fd ["desk","names","heaps","a","b"] (rX N C CL):=by
 have sc:=rp;refine F.okQ rp fun tx A outer s_ H vs Q E hr h=>?_;obtain ⟨H0,p,d,e,Lh,Ln,zs,c,n,B,i,j,rfl,W,eF,⟨tr,eW⟩,hi,M,ne,zd,hN,hn,hB,kQ⟩:=h;have hu:=hr.units0;have tq:=hr.u100;refine ⟨_,(ac (qst 5 sc.nd (qcl O hr R aB (aa (aA aM (qv 2) (qv 3) pix) (aa (aA aM (qv 2) (qv 4) pix) ag))))
  (ac (QS.mk (yC (wH (yW (i:=6) sc.nd rfl (Or.inl rfl) (xt (QE.to (qv 0)) L.cl eC eS hr.mo eN .nil (QA.to (aa (ao ba (ao ba (ao ba aq (aA aM (qv 1) (qv 3) pix)) aq) (aA aM (qv 1) (qv 4) pix)) ag))))) rfl rfl rfl el (fun e=>QSs.to (aj (qst 6 sc.nd eE)))))
  (ac (aT (aw qW (qv 5) eE (aG _)) (aj (aD (cP qW (qv 6) eE (aG _)))) aE)
  (ac (eJ (qv 5) (pM rfl (dH (df (qv 2) (qv 3) bO) (dH (df (qv 2) (qv 4) bO) kW))))
  (aj (aD (cP (wY hu) (qv 6) (bu ag) (aG _)))))))),?_⟩;dsimp only [bM,Cx.nox]
 obtain ⟨W2,WT⟩:=W.two hi M ne;have I:=W.cell i hi;have J:=W.cell j M;have li:=cZ I.li I.nn;have lj:=cZ J.li J.nn;have th:=I.sp;have tc:=J.sp;obtain ⟨ks,js,DA,v1,v2,lk,eH⟩:=W.da;obtain ⟨dx,hp⟩:=DA.ob;have ni:=I.nz;have nj:=J.nz;have ts:=ni.hi;have tl:=nj.hi;have l1:(" ":Str).length=1:=by decide +kernel
 have l5:("join ":Str).length=5:=by decide +kernel
 have S:1000<=sizeLine:=by decide
 have U:Und K forms ks ["join",zs i,zs j] [.str "join",.str (zs i),.str (zs j)]:=yd FO ni nj (by rw [v1 i hi];rfl) (by rw [v1 j M];rfl) (zd i j hi M ne);have eL:("join ":Str)++zs i++" "++zs j=Str.join " " ["join",zs i,zs j]:=by
  have:("join ":Str)="join"++" ":=by decide +kernel
  rw [this];show _="join"++" "++(zs i++" "++zs j);rw [bh,bh,bh (zs i)]
 have W0:∀x:Str,x.cps.toList.contains 32=false->32∉x.cps.toList:=fun x e m=>by rw [FP.mpr m] at e;cases e
 have free:∀w∈(["join",zs i,zs j]:List Str),32∉w.cps.toList:=by
  intro w hw;simp only [ax,ah,Dv] at hw;rcases hw with rfl | rfl | rfl
  .exact W0 _ C9
  .exact ni.free
  .exact nj.free
 have len:(Str.join " " ["join",zs i,zs j]).length<=900:=by rw [<-eL,aR,aR,aR];lia
 have AP:=W.apart hi M ne;have eh:∀k,k<3->(c k).s.there.length<64/\∀n∈(c k).s.there.map (·.1),n.length<=1000:=fun k hk=>⟨by have:=cZ (W.cell k hk).li (W.cell k hk).nn;lia,fun n hn=>by
  obtain ⟨q,hq,e⟩:=DG.mp hn;rw [<-e];exact Dq ((W.cell k hk).sm (q.2.w,q.1) (DG.mpr ⟨q,hq,rfl⟩)).2 Db⟩
 have ea:∀a∈[p,d,e,Lh],a∉Fo c i j/\a∉Fl c i j:=fun a ha=>by
  constructor
  .intro m;unfold Fo at m;rw [cO] at m;rcases m with z | z
   .exact W.bs i hi a (mem_ft.mpr (.inr z)) ha
   .exact W.bs j M a (mem_ft.mpr (.inr z)) ha
  .intro m;unfold Fl at m;rw [cO] at m;rcases m with z | z
   .exact W.bs i hi a (mem_ft.mpr (.inl z)) ha
   .exact W.bs j M a (mem_ft.mpr (.inl z)) ha
 have e6:Ln∉Fo c i j:=fun m=>by
  unfold Fo at m;rw [cO] at m;have:H0 Ln=none:=by
   rcases m with z | z
   .exact W.fr i hi Ln (mem_ft.mpr (.inr z))
   .exact W.fr j M Ln (mem_ft.mpr (.inr z))
  rw [eW] at this;cases this
 refine ⟨_,_,SqL.of W.hl,ix3 hi,_,_,SqL.of W.hl,ix3 M,(c i).st,(c i).r,(c i).td,(c j).st,(c j).r,(c j).td,(c i).o,(c j).o,(c i).s,(c j).s,rfl,W2,I.li,J.li,Dc,Dc,Dc,Dc,fun cl H1 s1=>?_,fun ek b s' t' rG q er rN tv H1 eb jt jf OG fG gq ON fN k1=>?_⟩
 .-- a name in both
  have Y:=s1 _ _ eF;refine ⟨p,dx,_,rfl,s1 _ _ hp,bT C9 C9,_,_,SqL.of Y,ix3 hi,_,_,rfl,rfl,Dc,_,_,rfl,rfl,by rw [aR];lia,_,_,SqL.of Y,ix3 M,_,_,rfl,rfl,by rw [aR,aR];lia,p,d,e,ks,js,["join",zs i,zs j],_,(by rw [eL];rfl),EO _ _,free,len,⟨⟨dx,s1 _ _ hp⟩,s1 _ _ DA.hd,s1 _ _ DA.hj⟩,U,.inr (.inl ⟨zs i,zs j,rfl,fun H2 s2=>?_⟩)⟩;have ei:=s1.trans s2;refine ⟨p,d,e,(c i).h,(c i).hd,(c i).hl,(c j).h,(c j).hd,(c j).hl,ks,js,zs i,zs j,(c i).s,(c j).s,(c i).j,(c j).j,rfl,⟨⟨dx,ei _ _ hp⟩,ei _ _ DA.hd,ei _ _ DA.hj⟩,v1 i hi,v1 j M,v2 i hi,v2 j M,WT.same ei,I.li,J.li,Dc,Dc,eh j M,eh i hi,W.de,Dc,Dc,fun a ha=>(ea a (by simp only [ax,ah,Dv] at ha ⊢;rcases ha with z | z | z <;> simp [z])).2,fun _ H3 s3=>?_,fun no=>absurd cl (fun h'=>by obtain ⟨n,a,b⟩:=h';exact no n a b)⟩;refine ⟨CC,rfl,e5,?_⟩;refine ⟨rfl,_,rfl,iq ⟨rfl,kQ c H3 ((W.same (ei.trans s3)).mono Dc Dc)⟩⟩
 have eo:∀a o,H a=some o->a∉Fo c i j->H1 a=some o:=fun a o q m=>k1 a o q m;have Y:=eo _ _ eF e6;have eg:=eo _ _ hp (ea p Dd).1;have eA:=eo _ _ DA.hd (ea d Dd).1;have ew:=eo _ _ DA.hj (ea e Dd).1;have ec:∀a∈Fl c i j,a∉Fo c i j:=fun a ha z=>AP a z ha;have eD:∀b l,H b=some (.tup l)->H1 b=some (.tup l):=fun b l q=>k1 b _ q fun m=>by
  rw [cO] at m;rcases m with z | z
  .obtain ⟨o,h1,h2⟩:=I.live b (mem_ft.mpr (.inr z));rw [q] at h1;exact h2 l (DJ h1).symm
  .obtain ⟨o,h1,h2⟩:=J.live b (mem_ft.mpr (.inr z));rw [q] at h1;exact h2 l (DJ h1).symm
 have ey:Two CL H1 (c i).h (c i).hd (c i).hl (c j).h (c j).hd (c j).hl (c i).s (c j).s:=⟨WT.la.stay (fun b o hb q=>k1 b o q (ec b (by unfold Fl;rw [cO];exact .inl (by rcases hb with z | z | z <;> rw [z] <;> simp)))) eD,WT.lb.stay (fun b o hb q=>k1 b o q (ec b (by unfold Fl;rw [cO];exact .inr (by rcases hb with z | z | z <;> rw [z] <;> simp)))) eD,WT.np,WT.nd,WT.nm⟩;refine ⟨p,dx,_,rfl,eg,bT C9 C9,_,_,SqL.of Y,ix3 hi,_,_,rfl,rfl,Dc,_,_,rfl,rfl,by rw [aR];lia,_,_,SqL.of Y,ix3 M,_,_,rfl,rfl,by rw [aR,aR];lia,p,d,e,ks,js,["join",zs i,zs j],_,(by rw [eL];rfl),EO _ _,free,len,⟨⟨dx,eg⟩,eA,ew⟩,U,.inr (.inl ⟨zs i,zs j,rfl,fun H2 s2=>?_⟩)⟩;refine ⟨p,d,e,(c i).h,(c i).hd,(c i).hl,(c j).h,(c j).hd,(c j).hl,ks,js,zs i,zs j,(c i).s,(c j).s,(c i).j,(c j).j,rfl,⟨⟨dx,s2 _ _ eg⟩,s2 _ _ eA,s2 _ _ ew⟩,v1 i hi,v1 j M,v2 i hi,v2 j M,ey.same s2,I.li,J.li,Dc,Dc,eh j M,eh i hi,W.de,Dc,Dc,fun a ha=>(ea a (by simp only [ax,ah,Dv] at ha ⊢;rcases ha with z | z | z <;> simp [z])).2,(fun h'=>by obtain ⟨n,a,b⟩:=h';exact absurd b (fun z=>ek n a z)),fun _ la lb et ee b2 h hd hl H3 e8 e7 e3 BR k3 D hD=>?_⟩;have eB:b2=b:=e8.trans eb.symm;subst eB;have eZ:=eo _ _ W.hl (ea Lh Dd).1;have e4:=s2 _ _ eZ;have e0:Lh≠d:=aL W.hl DA.hd nqz;have e9:Lh≠e:=aL W.hl DA.hj nqz;have eG:=k3 _ _ e4 (by
  intro m;rcases Du.mp m with z | z
  .simp only [ax,ah,Dv] at z;rcases z with z | z
   .exact e0 z
   .exact e9 z
  .exact (ea Lh Dd).2 z)
 have s4:=ar (o:=.lst []) hD;have g4:=ad (H:=H3) (a:=D) (o:=.lst []);have ed:D≠Lh:=(am eG hD).symm;generalize upd H3 D (.lst [])=H4 at s4 g4 ⊢;have G:=s2 _ _ gq;have ti:H4 q=some (.tup [.ref (cond b2 (c j).st (c i).st),.ref er]):=s4 _ _ (k3 _ _ G (by
  intro m;rcases Du.mp m with z | z
  .simp only [ax,ah,Dv] at z;rcases z with z | z <;> rw [z] at G
   .rw [s2 _ _ eA] at G;cases G
   .rw [s2 _ _ ew] at G;cases G
  .rw [cO] at z;rcases z with z | z
   .exact (ey.la.same s2).notup q z _ G
   .exact (ey.lb.same s2).notup q z _ G))
 have tn:=s4 _ _ eG;refine ⟨rfl,_,rfl,bW ?_⟩;refine ⟨q,_,rfl,SqT.of ti,rfl,_,_,rfl,Lh,_,_,i,rfl,rfl,tn,?ix1,_,_,rfl,Lh,_,_,j,rfl,rfl,ad,?ix2,rfl,sz0,fun z hz=>⟨D,z,[],rfl,rfl,SqL.of ?_,SqL.of ad,?_⟩⟩
 case ix1 =>
  rw [Dg,EK];exact cy (n:=3) (i:=(i:Int)) Dc Dc
 case ix2 =>
  rw [EA,Dg,EK];exact cy (n:=3) (i:=(j:Int)) Dc Dc
 .rw [af (fun y=>by rw [<-y,af ed,af ed,g4] at hz;cases hz),af ed,af ed];exact g4
 have ez:z≠Lh:=fun y=>by rw [y,ad] at hz;cases hz
 have kL:∀b u,H4 b=some u->b≠Lh->(upd (upd (upd H4 Lh (.lst (((List.range 3).map fun k=>V.ref (c k).st).set i (.ref (cond b2 (c j).st (c i).st))))) Lh (.lst ((((List.range 3).map fun k=>V.ref (c k).st).set i (.ref (cond b2 (c j).st (c i).st))).set j (.ref er)))) z (.lst [])) b=some u:=fun b u e nb=>by rw [af (fun y=>by rw [<-y,af nb,af nb,e] at hz;cases hz),af nb,af nb];exact e
 have gL:(upd (upd (upd H4 Lh (.lst (((List.range 3).map fun k=>V.ref (c k).st).set i (.ref (cond b2 (c j).st (c i).st))))) Lh (.lst ((((List.range 3).map fun k=>V.ref (c k).st).set i (.ref (cond b2 (c j).st (c i).st))).set j (.ref er)))) z (.lst [])) Lh=some (.lst ((List.range 3).map fun k=>V.ref (if k=i then cond b2 (c j).st (c i).st else if k=j then er else (c k).st))):=by rw [af ez.symm,ad,CG hi M ne]
 cases b2
 .obtain ⟨e1,e2⟩:=jD (e3 rfl) (jf rfl);subst e1 e2;have ej:(((et.looks:Int)+(c i).j)+((ee.looks:Int)+(c j).j)-(et.looks:Int))=(c i).j+(c j).j+(ee.looks:Int):=by lia
  have ef:iE C CL H2 H3 p d e ks js (zs i) (zs j) (c i).h (c i).hd la et h hd hl ee.slack ((c i).j+(c j).j+(ee.looks:Int)) (Fl c i j):=by rw [<-ej];exact BR
  exact kQ _ _ (W.join hN hn zd hi M ne (.inl ⟨rfl,rfl⟩) (fun n hn=>Gm.dget_none.mpr fun y=>ek n y hn) (jf rfl) rfl OG fG ON fN k1 s2 DA v1 v2 lk eH ef k3 s4 kL gL)
 obtain ⟨e1,e2⟩:=jD (e7 rfl) (jt rfl);subst e1 e2;have ej:(((et.looks:Int)+(c i).j)+((ee.looks:Int)+(c j).j)-(ee.looks:Int))=(c i).j+(c j).j+(et.looks:Int):=by lia
 have ef:iE C CL H2 H3 p d e ks js (zs i) (zs j) (c j).h (c j).hd lb ee h hd hl et.slack ((c i).j+(c j).j+(et.looks:Int)) (Fl c i j):=by rw [<-ej];exact BR
 exact kQ _ _ (W.join hN hn zd hi M ne (.inr ⟨rfl,rfl⟩) (fun n hn=>Gm.dget_none.mpr fun y=>ek n hn y) (jt rfl) rfl OG fG ON fN k1 s2 DA v1 v2 lk eH ef k3 s4 kL gL)
section
variable {N:List Str}{C CL:Addr}{H0 H H1 H2 H3:Hp}{p d e L:Addr}{zs:Nat->Str}{m m':Nat}{c:Nat->Cell}{n B:Nat}
theorem Wld.start (T:bV C H p d e [] [])(R:H L=some (.lst []))(O:d≠e)(S:Same H0 H)(I:∀a∈[p,d,e,L],H0 a=none):Wld N C CL H0 H p d e L zs 0 c 0 0 :=
 ⟨⟨[],[],T,(fun _ h=>nomatch h),(fun _ h=>nomatch h),Dj _,Dj _⟩,R,(fun _ h=>nomatch h),(fun _ _ h=>nomatch h),(fun _ h=>nomatch h),O,S,(fun _ h=>nomatch h),I⟩
theorem Wld.begun (W:Wld N C CL H0 H p d e L zs m c n B){k:Nat}(hm:(k=m/\m'=m+1)∨(k<m/\m'=m))(nz:AbcN (zs k) 8)(zd:∀i,i<m'->i≠k->zs i≠zs k){sk:Int}{st r:Addr}(f1:H st=none)(f2:H r=none)(f3:H td=none)(O:BS H1 st r td (Gm.newL sk) 0)(s1:Same H H1)(k2:∀b u,H1 b=some u->b≠L->H2 b=some u)(gL:H2 L=some (.lst ((List.range m').map fun i=>V.ref (if i=k then st else (c i).st))))(J:bV C H p d e ks js)(v1:∀k,k<m->aU ks (Sum.inr (zs k))=some (.ref (c k).h))(v2:∀k,k<m->aU js (Sum.inr (zs k))=some (.int (c k).j))(lk:ks.length<=n)(lj:js.length<=n){h hd G:Addr}(Y:Aa C CL H2 H3 p d e ks js (zs k) sk h hd G):Wld N C CL H0 H3 p d e L zs m' (fun i=>if i=k then ⟨h,hd,G,st,r,td,Gm.newL sk,none⟩ else c i) (n+1) B:=by
 obtain ⟨dx,hp⟩:=J.ob;have npd:p≠d:=aL hp J.hd nqz;have er:p≠e:=aL hp J.hj nqz;have eh:p≠L:=aL hp W.hl nqz;have ei:L≠d:=aL W.hl J.hd nqz;have ed:L≠e:=aL W.hl J.hj nqz;have T:∀a∈[d,e,L],∃ o,H a=some o/\∀l,o≠.tup l:=fun a ha=>by
  simp only [ax,ah,Dv] at ha;rcases ha with z | z | z <;> rw [z]
  .exact ⟨_,J.hd,fun l w=>nomatch w⟩
  .exact ⟨_,J.hj,fun l w=>nomatch w⟩
  .exact ⟨_,W.hl,fun l w=>nomatch w⟩
 have I:∀a o,H a=some o->∃ o',H2 a=some o':=fun a o q=>by
  by_cases z:a=L
  .rw [z];exact ⟨_,gL⟩
  .exact ⟨o,k2 a o (s1 _ _ q) z⟩
 have et:∀a∈[st,r,td],H a=none:=fun a ha=>by
  simp only [ax,ah,Dv] at ha;rcases ha with z | z | z <;> rw [z] <;> assumption
 have M:∀a∈[st,r,td],∀b o,H b=some o->a≠b:=fun a ha b o q z=>by have:=et a ha;rw [z,q] at this;cases this
 have ea:∀a∈[h,hd,G],H2 a=none:=fun a ha=>by
  simp only [ax,ah,Dv] at ha;rcases ha with z | z | z <;> rw [z]
  .exact Y.f1
  .exact Y.f2
  .exact Y.f3
 have R:∀a∈[h,hd,G],∀b o,H2 b=some o->a≠b:=fun a ha b o q z=>by have:=ea a ha;rw [z,q] at this;cases this
 have go:∀a o,H1 a=some o->a∉[d,e,L]->H3 a=some o:=fun a o q m=>by simp only [ax,ah,Dv,Fv] at m;exact Y.kp a o (k2 a o q m.2.2) (by simp only [ax,ah,Dv,Fv];exact ⟨m.1,m.2.1⟩)
 have S:∀a∈[st,r,td],a∉[d,e,L]:=fun a ha m=>by obtain ⟨o,q,_⟩:=T a m;exact M a ha a o q rfl
 have tk:∀b l,H1 b=some (.tup l)->H3 b=some (.tup l):=fun b l q=>go b _ q fun m=>by obtain ⟨o,U,t⟩:=T b m;rw [s1 _ _ U] at q;exact t l (DJ q)
 have O':DmAt (tlO none) H1 st r td (Gm.newL sk) (Gm.newL sk:LS).looks:=⟨O.hs,O.hr,O.ht,O.ne,qZ none⟩;have OW:DmAt (tlO none) H3 st r td (Gm.newL sk) (Gm.newL sk:LS).looks:=O'.stay (fun b o hb q=>go b o q (S b (by rcases hb with z | z | z <;> rw [z] <;> simp))) tk;have ee:∀a∈[st,r,td],∃ o,H2 a=some o:=fun a ha=>by
  obtain ⟨_,w1,_⟩:=O.hr;obtain ⟨_,w2,_⟩:=O.ht;have nL:a≠L:=fun z=>S a ha (by rw [z];simp);have eo:=ha;simp only [ax,ah,Dv] at eo;rcases eo with z | z | z <;> rw [z] at nL ⊢
  .exact ⟨_,k2 _ _ O.hs nL⟩
  .exact ⟨_,k2 _ _ w1 nL⟩
  .exact ⟨_,k2 _ _ w2 nL⟩
 have nx:∀a∈[h,hd,G],∀b∈[st,r,td],a≠b:=fun a ha b hb=>by obtain ⟨o,q⟩:=ee b hb;exact R a ha b o q
 refine W.to (A:=fun i=>i=k) (F:=[d,e,L]) (fun i hi _ a ha m=>W.bs i hi a ha (Dr _ m)) (by simp only [ax,ah,Dv,Fv];exact ⟨npd,er,eh⟩) (fun a ha=>W.ff a (Dr _ ha)) (fun a ha l q=>?_) (fun b u q m=>go b u (s1 _ _ q) m) (fun i hi ne=>⟨?_,Di ne⟩) (fun i hi ek=>?_) (fun i i' _ _ e1 e2 ne=>absurd (e1.trans e2.symm) ne) ⟨_,_,Y.da,fun i hi=>?_,fun i hi=>?_,Dq (bd _ _ _) (E2 lk),Dq (bd _ _ _) (E2 lj)⟩ ?_ Dc (Dj _)
 .obtain ⟨o,U,t⟩:=T a ha;rw [q] at U;exact t l (DJ U).symm
 .rcases hm with ⟨z,w⟩ | ⟨z,w⟩ <;> lia
 .rw [Dm ek,ek];refine ⟨⟨Y.la,OW,nx hd Dd st Dd,nx hd Dd td Dd,nx G Dd r Dd,Gm.new_inv,D6 _,(fun q hq=>nomatch hq),(fun q hq=>nomatch hq),?_,nz,?_,?_⟩,fun a ha=>?_⟩
  .show (((0:Nat):Int)+(2*(10:Nat)+2)*(((0:Nat):Int)-((0:Nat):Int)))<=70*((n+1:Nat):Int);lia
  .show (0:Int)<=0;lia
  .show (0:Int)<=_;lia
  .rw [mem_ft] at ha;rcases ha with ha | ha
   .have ha:a∈[h,hd,G]:=ha;refine ⟨fun b u q _ z=>?_,fun m=>?_⟩
    .obtain ⟨o,U⟩:=I b u q;exact R a ha b o U z.symm
    .obtain ⟨o,q,_⟩:=T a m;obtain ⟨o',U⟩:=I a o q;exact R a ha a o' U rfl
   .exact ⟨fun b u q _ z=>M a ha b u q z.symm,S a ha⟩
 .rw [dD];by_cases z:i=k
  .rw [Dm (by rw [z]),Dm z]
  .rw [Di (fun w=>zd i hi z (Eb w)),Di z];exact v1 i (by rcases hm with ⟨x,y⟩ | ⟨x,y⟩ <;> lia)
 .rw [dD];by_cases z:i=k
  .rw [Dm (by rw [z]),Dm z];rfl
  .rw [Di (fun w=>zd i hi z (Eb w)),Di z];exact v2 i (by rcases hm with ⟨x,y⟩ | ⟨x,y⟩ <;> lia)
 rw [Y.kp L _ gL (by simp only [ax,ah,Dv,Fv];exact ⟨ei,ed⟩)];refine congrArg (fun l=>some (HO.lst l)) (ED fun i _=>?_);by_cases z:i=k
 .rw [Dm z,Dm z]
 rw [Di z,Di z]
end
def Bd:Nat->Nat
 | 0=>0
 | i+1=>2*Bd i+56000
theorem zZ (h:i<=5):Bd i<=10 ^ 7:=by rcases (show i=0∨i=1∨i=2∨i=3∨i=4∨i=5 by lia) with rfl | rfl | rfl | rfl | rfl | rfl <;> decide
theorem a8 {k c:Str}{v:Addr}{l:List (Str×Addr)}(h:(k == c)=false):((c,v)::l).lookup k=l.lookup k:=by rw [Et,h]
theorem du {k:Str}{v:Addr}{l:List (Str×Addr)}:((k,v)::l).lookup k=some v:=by rw [Et];simp
theorem wU {q0 q1 q2 q3 q4 q5 q6 q7 q8 q9:Addr}{n0 n1 n2 n3 n4 n5 n6 n7 n8 n9:Nat}{I ei T eb W ey c Y M ec O ea U S eh eg ef ed eo ew et J er el R G F ee:Tok}(h0:K.lookup q0=some { cls:=.type "tuple",data:=.seq #[.str "word" I,.str "name" ei,.str "count" T] n0 })(h1:K.lookup q1=some { cls:=.type "tuple",data:=.seq #[.str "word" eb,.str "heap" W,.str "name" ey,.str "number" c] n1 })(h2:K.lookup q2=some { cls:=.type "tuple",data:=.seq #[.str "word" Y,.str "heap" M,.str "name" ec] n2 })(h3:K.lookup q3=some { cls:=.type "tuple",data:=.seq #[.str "word" O,.str "heap" ea,.str "name" U,.str "number" S] n3 })(h4:K.lookup q4=some { cls:=.type "tuple",data:=.seq #[.str "word" eh,.str "heap" eg] n4 })(h5:K.lookup q5=some { cls:=.type "tuple",data:=.seq #[.str "word" ef,.str "heap" ed] n5 })(h6:K.lookup q6=some { cls:=.type "tuple",data:=.seq #[.str "word" eo,.str "heap" ew,.str "count" et] n6 })(h7:K.lookup q7=some { cls:=.type "tuple",data:=.seq #[.str "word" J,.str "heap" er,.str "heap" el] n7 })(h8:K.lookup q8=some { cls:=.type "tuple",data:=.seq #[.str "word" R,.str "heap" G] n8 })(h9:K.lookup q9=some { cls:=.type "tuple",data:=.seq #[.str "word" F,.str "heap" ee] n9 }):
  gj K [("heap",q0),("put",q1),("drop",q2),("change",q3),("take",q4),("least",q5),("first",q6),("join",q7),("room",q8),("works",q9)]:=by
 intro p hp;simp only [qD,ax,ah,Dv] at hp;rcases hp with rfl | rfl | rfl | rfl | rfl | rfl | rfl | rfl | rfl | rfl
 .exact ⟨q0,by exact du,fun H=>.inr ⟨_,_,_,h0,rfl,rfl,sz3,(.cons ⟨I,rfl⟩ (.cons ⟨ei,rfl⟩ (.cons ⟨T,rfl⟩ .nil)))⟩⟩
 .exact ⟨q1,by rw [a8 C9];exact du,fun H=>.inr ⟨_,_,_,h1,rfl,rfl,sz4,(.cons ⟨eb,rfl⟩ (.cons ⟨W,rfl⟩ (.cons ⟨ey,rfl⟩ (.cons ⟨c,rfl⟩ .nil))))⟩⟩
 .exact ⟨q2,by rw [a8 C9];rw [a8 C9];exact du,fun H=>.inr ⟨_,_,_,h2,rfl,rfl,sz3,(.cons ⟨Y,rfl⟩ (.cons ⟨M,rfl⟩ (.cons ⟨ec,rfl⟩ .nil)))⟩⟩
 .exact ⟨q3,by rw [a8 C9];rw [a8 C9];rw [a8 C9];exact du,fun H=>.inr ⟨_,_,_,h3,rfl,rfl,sz4,(.cons ⟨O,rfl⟩ (.cons ⟨ea,rfl⟩ (.cons ⟨U,rfl⟩ (.cons ⟨S,rfl⟩ .nil))))⟩⟩
 .exact ⟨q4,by rw [a8 C9];rw [a8 C9];rw [a8 C9];rw [a8 C9];exact du,fun H=>.inr ⟨_,_,_,h4,rfl,rfl,sz2,(.cons ⟨eh,rfl⟩ (.cons ⟨eg,rfl⟩ .nil))⟩⟩
 .exact ⟨q5,by rw [a8 C9];rw [a8 C9];rw [a8 C9];rw [a8 C9];rw [a8 C9];exact du,fun H=>.inr ⟨_,_,_,h5,rfl,rfl,sz2,(.cons ⟨ef,rfl⟩ (.cons ⟨ed,rfl⟩ .nil))⟩⟩
 .exact ⟨q6,by rw [a8 C9];rw [a8 C9];rw [a8 C9];rw [a8 C9];rw [a8 C9];rw [a8 C9];exact du,fun H=>.inr ⟨_,_,_,h6,rfl,rfl,sz3,(.cons ⟨eo,rfl⟩ (.cons ⟨ew,rfl⟩ (.cons ⟨et,rfl⟩ .nil)))⟩⟩
 .exact ⟨q7,by rw [a8 C9];rw [a8 C9];rw [a8 C9];rw [a8 C9];rw [a8 C9];rw [a8 C9];rw [a8 C9];exact du,fun H=>.inr ⟨_,_,_,h7,rfl,rfl,sz3,(.cons ⟨J,rfl⟩ (.cons ⟨er,rfl⟩ (.cons ⟨el,rfl⟩ .nil)))⟩⟩
 .exact ⟨q8,by rw [a8 C9];rw [a8 C9];rw [a8 C9];rw [a8 C9];rw [a8 C9];rw [a8 C9];rw [a8 C9];rw [a8 C9];exact du,fun H=>.inr ⟨_,_,_,h8,rfl,rfl,sz2,(.cons ⟨R,rfl⟩ (.cons ⟨G,rfl⟩ .nil))⟩⟩
 exact ⟨q9,by rw [a8 C9];rw [a8 C9];rw [a8 C9];rw [a8 C9];rw [a8 C9];rw [a8 C9];rw [a8 C9];rw [a8 C9];rw [a8 C9];exact du,fun H=>.inr ⟨_,_,_,h9,rfl,rfl,sz2,(.cons ⟨F,rfl⟩ (.cons ⟨ee,rfl⟩ .nil))⟩⟩
theorem A3 {d1:ClassData}{c:Bool}(O:W.subIn K (.ref CC) (.type "BaseException")=some true)(T:W.clsIn K CC=some d1)(S:W.typeIn K (.ref CC)=some (.type "type"))(I:W.subIn K (.ref C) (.ref CC)=some c):W.exmOne K (.ref C) (.ref CC)=some c:=by unfold W.exmOne;rw [O,Dm Db];unfold W.kitCls;dsimp only;rw [T,S,Dm Dd];exact I
theorem kg {sk:Nat}(T:AbcN z 8)(h:sk<=200):((sk:Nat):Int).natAbs<10 ^ 30/\(Str.ofString (toString (sk:Int))).length<=31/\("heap ":Str)++z++" "++Str.ofString (toString (sk:Int))=Str.join " " ["heap",z,txt sk]/\(∀w∈(["heap",z,txt sk]:List Str),32∉w.cps.toList)/\(Str.join " " ["heap",z,txt sk]).length<=900:=by
 have bk:((sk:Nat):Int).natAbs<10 ^ 30:=DY (Dq Dc h) C9;have O:(Str.ofString (toString (sk:Int))).length<=31:=cp (k:=30) Db bk;have R:=T.hi;refine ⟨bk,O,?_,?_,?_⟩
 .have:("heap ":Str)="heap"++" ":=by decide +kernel
  rw [this];show _="heap"++" "++(z++" "++txt sk);rw [bh,bh,bh z];rfl
 .intro w c;have I:∀x:Str,x.cps.toList.contains 32=false->32∉x.cps.toList:=fun x e m=>by rw [FP.mpr m] at e;cases e
  simp only [ax,ah,Dv] at c;rcases c with rfl | rfl | rfl
  .exact I _ C9
  .exact T.free
  .exact gr _
 have S:(txt sk).length<=31:=O;have j:=gn ["heap",z,txt sk] 40 fun w c=>by
  simp only [ax,ah,Dv] at c;rcases c with rfl | rfl | rfl
  .decide +kernel
  .lia
  .lia
 have e:(["heap",z,txt sk]:List Str).length*(40+1)=123:=rfl;lia
theorem aS {A:Prop}{b:Bool}(T:A)(c:B):if b=true then A else B:=by
 cases b
 .exact bW c
 exact iq T
theorem CQ {g:Nat->Addr}{v:Addr}(hi:i<3):((List.range 3).map fun k=>V.ref (g k)).set i (.ref v)=(List.range 3).map fun k=>V.ref (if k=i then v else g k):=by
 have c:i=0∨i=1∨i=2:=by lia
 rcases c with rfl | rfl | rfl <;> rfl
theorem ixr {f:Nat->V}{k:Nat}(h:k<m):atI ((List.range m).map f) (k:Int)=some (f k):=aW (by rw [DN,IW h];rfl)
section
variable {N:List Str}{C CL:Addr}{H0 H HB:Hp}{p d e L:Addr}{zs:Nat->Str}{m:Nat}{c:Nat->Cell}{n B:Nat}
theorem Wld.done (W:Wld N C CL H0 H p d e L zs m c n B){k:Nat}(hk:k<m){R:Addr}(M:Same H HB)(f:H R=none):∃ ks js,bV C HB p d e ks js/\aU ks (Sum.inr (zs k))=some (.ref (c k).h)/\aU js (Sum.inr (zs k))=some (.int (c k).j)/\CellOk N CL HB (c k) (zs k) n B/\(∀a∈[p,d,e,R],a∉(c k).ft)/\Wld N C CL H0 HB p d e L zs m c n B:=by
 have O:=W.same M;obtain ⟨ks,js,F,v1,U,_⟩:=O.da;refine ⟨ks,js,F,v1 k hk,U k hk,O.cell k hk,fun a I T=>?_,O⟩;simp only [ax,ah,Dv] at I;rcases I with y | y | y | y
 .exact W.bs k hk a T (by rw [y];simp)
 .exact W.bs k hk a T (by rw [y];simp)
 .exact W.bs k hk a T (by rw [y];simp)
 obtain ⟨o,S,_⟩:=(W.cell k hk).live a T;rw [y,f] at S;cases S
theorem Wld.right (W:Wld N C CL H0 H p d e L zs m c n B){k:Nat}(hk:k<m)(I:N.length<=18)(R:n<=400)(T:B<=10 ^ 9):∃ ks js,Pair C CL H p d e ks js (zs k) (c k).h (c k).hd (c k).hl (c k).st (c k).r (c k).td (c k).s (c k).o (c k).j:=by obtain ⟨ks,js,O,v1,S,_⟩:=W.da;exact ⟨ks,js,(W.cell k hk).pair I R T O (v1 k hk) (S k hk)⟩
theorem CT (h:DeedL N H xs):DeedL N H (eK xs none (some 6))/\(eK xs none (some 6)).length<=6:=by refine ⟨fun x T=>h x (List.mem_of_mem_drop (List.mem_of_mem_take T)),?_⟩;unfold eK;rw [Es];refine Dq (Nat.min_le_left _ _) (Dq (Nat.sub_le _ _) ?_);rw [show HT.sIx xs.length xs.length (some 6)=min 6 xs.length from HT.sIx_nat _ _ 6];exact Nat.min_le_left _ _
end
abbrev jO:Stmt:=top 52
theorem z9:av ["script","names","desk","heaps","k","slack","first","a","b","side","deeds","j"] ["script"] (ak jO):=fs0
def tu (K:W.Frag):Sp:=fun vs H Q _=>∃ (a:Addr) (ns:List Int),vs=[.ref a]/\SqL K H a (ns.map V.int)/\ns.length<=63/\∀H',Q (.bl true) H'
theorem Ay {fI ek ec eA G eg er et:Addr}{ej el eN ee ed eh J:FuncData}(F:Fun K "law" "law" jO f fd)(T:Bl mg)(e6:mg "str"=none)(L:DK K C)(FO:gj K forms)(tF:mg "Desk"=some (.ref C))(ts:Mk K C fI)(eS:au P w K mg base CX0 1 fI fdI ["self"] (tK C))(eL:Binds K fdI ["self"] [])(tl:bp K C "ask" fa)(tr:au P w K mg base (CXe P w) 9 fa fda ["self","line"] (oS K forms C CL CC CN))(th:Binds K fda ["self","line"] [])(U:au P w K mg base CX0 1 ek ej ["script","k"] (lD K))(I:Nm K mg "_law_draw" ek ej ["script","k"])(eZ:au P w K mg base CX0 2 ec el ["script","i"] (qe K))(eB:Nm K mg "_law_word" ec el ["script","i"])(eD:au P w K mg base CX0 1 eA eN ["slack"] qm)(eH:Nm K mg "_law_new" eA eN ["slack"])(Y:au P w K mg base CX0 3 G ee ["script","at","first"] (tX K))(eo:Nm K mg "_law_some_deeds" G ee ["script","at","first"])(ew:∀N,au P w K mg base CX0 10 eg ed ["desk","called","heap","deeds"] (tm K N C CL))(R:Nm K mg "_law_done" eg ed ["desk","called","heap","deeds"])(eC:au P w K mg base CX0 10 er eh ["desk","called","heap"] (o3 C CL))(eF:Nm K mg "_law_right" er eh ["desk","called","heap"])(ei:∀N,au P w K mg base CX0 10 et J ["desk","names","heaps","a","b"] (rX N C CL))(M:Nm K mg "_law_join_right" et J ["desk","names","heaps","a","b"]):
  au P w K mg base CX0 11 f fd ["script"] (tu K):=by
 have sc:=z9;refine F.okQ z9 fun ob A outer s_ H vs Q E hr h=>?_;obtain ⟨a,ns,rfl,hS,hn,kQ⟩:=h;have hu:=hr.units0;have ov:=hr.u100;refine ⟨_,(ac (qg (i:=1) sc.nd rfl (Or.inl rfl) (Blk.of (N:=["script","names","desk","heaps","k","slack","first","a","b","side","deeds","j"]) (esc:=ak jO) (NB:=["script"]) (cap:=[0]) rfl rfl (fun y hy=>bH hy) rfl C9 C9 C9 rfl C9 rfl C9) rfl rfl (cC rfl T.z_range (aa ai ag)) (fun C fp s₀ H₀=>dO) (fun C fp s₀ H₀=>(qcl eZ hr eB aB (aa (qv 1) (aa (qv 0) ag)))))
  (ac (qst 2 sc.nd (yf ts eS hr.mo rfl tF eL .nil aB ))
  (ac (qst 3 sc.nd (bu ag))
  (ac (cE D8 rfl (cC rfl T.z_range (aa ai ag)) (bQ (i:=4) sc.nd rfl (Or.inl rfl)) (ac (qst 5 sc.nd (aA aM (bu (jQ (vs:=[.int 0,.int 2,.int 9,.int 200]) C9)) (ao bb (qcl U hr I aB (aa (qv 0) (aa (ao aN ai (qv 4)) ag))) ai) pix))
  (ac (aH (gN Eg Ex Ey cg (qv 3) (aa (qcl eD hr eH aB (aa (qv 5) ag)) ag)))
  (ac (aH (aV (qv 2) L.cl tl tr hr.mo th .nil dq (aa (ao ba (ao ba (ao ba aq (aA aM (qv 1) (qv 4) pix)) aq) (qcT bv e6 (aa (qv 5) ag))) ag)))
  (ac (qst 6 sc.nd (ao aN ai (ao bU (ao bU ai (qv 4)) (qcT ko T.z_int (aa (cP im (ao bb (qcl U hr I aB (aa (qv 0) (aa ai ag))) ai) ai (aG _)) ag)))))
  (aj (aT (cD (ca (iL (ew (bK ns)) hr.mo rfl R.m R.k R.b .nil aB (aa (qv 2) (aa (aA aM (qv 1) (qv 4) pix) (aa (aA aM (qv 3) (qv 4) pix) (aa (qcl Y hr eo aB (aa (qv 0) (aa (ao aN ai (ao bU ai (qv 4))) (aa (qv 6) ag)))) ag))))))) (aj (aD gi)) aE)))))))
  (ac (cE D8 rfl (cC rfl T.z_range (aa (ao aN ai (ao bb (qcl U hr I aB (aa (qv 0) (aa ai ag))) ai)) ag)) (bQ (i:=4) sc.nd rfl (Or.inl rfl)) (ac (qst 7 sc.nd (ao bb (qcl U hr I aB (aa (qv 0) (aa (ao aN ai (qv 4)) ag))) ai))
  (ac (qst 8 sc.nd (ao bb (ao aN (ao aN (qv 7) ai) (ao bb (qcl U hr I aB (aa (qv 0) (aa (ao aN ai (qv 4)) ag))) ai)) ai))
  (ac (aT (cD (ca (iL (ei (bK ns)) hr.mo rfl M.m M.k M.b .nil aB (aa (qv 2) (aa (qv 1) (aa (qv 3) (aa (qv 7) (aa (qv 8) ag)))))))) (aj (aD gi)) aE)
  (ac (ms (aw bA (ao bb (qcl U hr I aB (aa (qv 0) (aa (ao aN ai (qv 4)) ag))) ai) ai (aG _)) (ac (eJ (qcl eD hr eH aB (aa (qv 4) ag)) (df (qv 3) (qv 7) bO))
  (aj (aH (aV (qv 2) L.cl tl tr hr.mo th .nil dq (aa (ao ba (ao ba (ao ba aq (aA aM (qv 1) (qv 7) pix)) aq) (qcT bv e6 (aa (qv 4) ag))) ag))))) aE)
  (ac (cE D8 rfl (iS (be (aa (qv 7) (aa (qv 8) ag)))) (bQ (i:=9) sc.nd rfl (Or.inl rfl)) (ac (qst 10 sc.nd (dE y0 (qcl Y hr eo aB (aa (qv 0) (aa (ao aN (ao aN ai (ao bU ai (qv 4))) (ao bU ai (qv 9))) (aa (ao aN ai (ao bU ai (qv 4))) ag)))) fC (fz ai)))
  (aj (aT (cD (ca (iL (ew (bK ns)) hr.mo rfl R.m R.k R.b .nil aB (aa (qv 2) (aa (aA aM (qv 1) (qv 9) pix) (aa (aA aM (qv 3) (qv 9) pix) (aa (qv 10) ag))))))) (aj (aD gi)) aE))))
  (aj (cE D8 rfl (cC rfl T.z_range (aa ai ag)) (bQ (i:=11) sc.nd rfl (Or.inl rfl)) (aj (aT (cD (ca (qcl eC hr eF aB (aa (qv 2) (aa (aA aM (qv 1) (qv 11) pix) (aa (aA aM (qv 3) (qv 11) pix) ag)))))) (aj (aD gi)) aE))))))))))
  (aj (aD gi))))))),?_⟩;dsimp only [bM,Cx.nox]
 have t1:∀{H':Hp},Same H H'->SqL K H' a (ns.map V.int):=fun k=>SqL.same' hS k;have lN:(bK ns).length<=18:=by unfold bK;rw [Dg,EK];exact Dj _
 refine ⟨_,rfl,Db,Db,fun Ln e4=>?_⟩;refine ii (lo:=0) (n:=3) (fun i ys HX=>HX Ln=some (.lst ys)/\ys=(List.range i).map (fun k:Nat=>V.str (cV ns (k:Int)))/\(∀k:Nat,k<i->AbcN (cV ns (k:Int)) 8)/\Same H HX) ⟨ad,rfl,(fun _ h=>nomatch h),ar e4⟩ (fun i ys HX z=>z.1) ?_ ?_
 .rintro i ys HX hi ⟨h1,ey,az,sX⟩;refine cY <| ⟨a,ns,0+(i:Int),rfl,t1 sX,hn,Dc,Dc,fun z HY ez nz sY=>⟨sY _ _ h1,aZ (by rw [ey,Dg,EK];lia),_,Dc,rfl,Dc,ad,?_,fun k hk=>?_,fun b u e=>?_⟩⟩
  .rw [ey,ez,List.range_succ,D4,Gh];rfl
  .rcases (show k<i∨k=i by lia) with y | y
   .exact az k y
   .rw [y];rw [ez,Gh] at nz;exact nz
  .rw [af (am e e4)];exact sY _ _ (sX _ _ e)
 rintro ys H1 ⟨g1,rfl,az,s1⟩;obtain ⟨zs,tL⟩:∃ zs:Nat->Str,zs=fun k:Nat=>cV ns (k:Int):=⟨_,rfl⟩;have e0:∀k,k<3->AbcN (zs k) 8:=fun k hk=>by rw [tL];exact az k hk
 have zd:∀k k',k<3->k'<3->k≠k'->zs k≠zs k':=fun k k' h1 h2 ne=>by rw [tL];exact zk Dc Dc Dc Dc Dc
 have e2:H1 Ln=some (.lst ((List.range 3).map fun k=>V.str (zs k))):=by rw [tL];exact g1
 clear g1 az;refine fun p dx hp a4 ow=>⟨p,dx,rfl,ad,fun d e H2 hd he a5 tv k0=>⟨rfl,?_⟩⟩;have s2:Same H1 H2:=fD hp a4 k0;have oi:H1 d=none:=cf hd;have ae:H1 e=none:=cf he;refine ⟨sz0,fun Lh t4=>?_⟩;refine gnew t4 fun H3 s3 g3=>?_;have W0:Wld (bK ns) C CL H1 H3 p d e Lh zs 0 (fun _=>⟨p,p,p,p,p,p,Gm.newL 0,none⟩) 0 0:=Wld.start ⟨tv.ob.imp fun _ x=>s3 _ _ x,s3 _ _ tv.hd,s3 _ _ tv.hj⟩ g3 a5 (s2.trans s3) (fun x hx=>by
  simp only [ax,ah,Dv] at hx;rcases hx with y | y | y | y <;> rw [y]
  .exact hp
  .exact oi
  .exact ae
  .exact s2.free t4)
 have l1:(" ":Str).length=1:=by decide +kernel
 have lh:("heap ":Str).length=5:=by decide +kernel
 have S:1000<=sizeLine:=by decide
 refine ⟨_,rfl,Db,Db,?_⟩;refine cR (lo:=0) (n:=3) (fun i Z HX=>∃ (c:Nat->Cell) (o4 o5 o6:Option V),Z=[some (.ref a),some (.ref Ln),some (.ref p),some (.ref Lh),o4,o5,o6,none,none,none,none,none]/\Wld (bK ns) C CL H1 HX p d e Lh zs i c (18*i) 0) ⟨_,none,none,none,rfl,W0⟩ ?_ ?_
 .rintro i Z HX hi ⟨c,o4,o5,o6,rfl,W⟩;have aC:Same H HX:=s1.trans W.s0;refine ⟨sz4,fun l5 od=>?_⟩;refine gnew od fun HE s5 g5=>?_;refine ⟨a,ns,5+(0+(i:Int)),rfl,t1 (aC.trans s5),hn,Dc,fun dr HB _ _ _ sB=>?_⟩;obtain ⟨sk,a3,ab⟩:∃ m:Nat,atI [V.int 0,.int 2,.int 9,.int 200] (dr % 4)=some (.int (m:Int))/\m<=200:=by
   have q0:0<=dr % 4:=br Db;have q1:dr % 4<4:=bn Db;have cs:dr % 4=((0:Nat):Int)∨dr % 4=((1:Nat):Int)∨dr % 4=((2:Nat):Int)∨dr % 4=((3:Nat):Int):=by lia
   rcases cs with y | y | y | y <;> rw [y]
   .exact ⟨0,aW rfl,Db⟩
   .exact ⟨2,aW rfl,Db⟩
   .exact ⟨9,aW rfl,Db⟩
   .exact ⟨200,aW rfl,Db⟩
  refine ⟨nqd,_,_,SqL.of (sB _ _ g5),a3,?_⟩;have WB:=W.same (s5.trans sB);obtain ⟨ks,js,DA,v1,v2,lk,lj⟩:=WB.da;obtain ⟨e7,e1⟩:=DA.ob;have e8:p≠Lh:=aL e1 WB.hl nqz;have tx:d≠Lh:=aL DA.hd WB.hl nqz;have t2:e≠Lh:=aL DA.hj WB.hl nqz;have tc:Ln≠Lh:=fun y=>by have:=WB.ff Lh Dd;rw [<-y,e2] at this;cases this
  refine ⟨.inl ⟨rfl,_,SqL.of WB.hl⟩,sk,rfl,fun st r td HF f1 f2 f3 O sF=>⟨Lh,_,_,rfl,rfl,sF _ _ WB.hl,aZ (by rw [Dg,EK];lia),?_⟩⟩;have gL:(upd HF Lh (.lst (((List.range i).map fun k=>V.ref (c k).st)++[.ref st]))) Lh=some (.lst ((List.range (i+1)).map fun j=>V.ref (if j=i then st else (c j).st))):=by
   rw [ad,List.range_succ,D4];refine congrArg (fun l=>some (HO.lst l)) ?_;refine congr (congrArg _ (ED fun j hj=>?_)) ?_
   .rw [Di (fun y=>by rw [y,Fn] at hj;lia)]
   .show [V.ref st]=[V.ref (if i=i then st else (c i).st)];rw [Dm rfl]
  have k2:∀b u,HF b=some u->b≠Lh->(upd HF Lh (.lst (((List.range i).map fun k=>V.ref (c k).st)++[.ref st]))) b=some u:=fun b u q nb=>by rw [af nb];exact q
  generalize upd HF Lh (.lst (((List.range i).map fun k=>V.ref (c k).st)++[.ref st]))=HG at gL k2 ⊢;obtain ⟨bk,ck,e3,free,len⟩:=kg (e0 i hi) ab;have lz:=(e0 i hi).hi;have e5:HG Ln=some (.lst ((List.range 3).map fun k=>V.str (zs k))):=k2 _ _ (sF _ _ (WB.s0 _ _ e2)) tc;refine ⟨p,e7,_,rfl,k2 _ _ (sF _ _ e1) e8,bT C9 C9,_,_,SqL.of e5,(by show atI _ (0+(i:Int))=_;rw [Gh];exact ix3 hi),_,_,rfl,rfl,Dc,_,_,rfl,rfl,by rw [aR];lia,.inl ⟨_,rfl,bI (EB bk C9),_,_,rfl,rfl,by rw [aR,aR];lia,p,d,e,ks,js,["heap",zs i,txt sk],_,(by rw [e3];rfl),EO _ _,free,len,⟨⟨e7,k2 _ _ (sF _ _ e1) e8⟩,k2 _ _ (sF _ _ DA.hd) tx,k2 _ _ (sF _ _ DA.hj) t2⟩,ou FO (e0 i hi) bk,.inl ⟨zs i,sk,rfl,WB.de,Dc,Dc,fun h hd hl Dl HH BG gD=>?_⟩⟩⟩;have WH:=WB.begun (k:=i) (m':=i+1) (.inl ⟨rfl,rfl⟩) (e0 i hi) (fun j hj ne=>zd j i Dc hi ne) f1 f2 f3 O sF k2 gL DA v1 v2 lk lj BG;have sH:Same H HH:=s1.trans WH.s0;have t6:HH Ln=some (.lst ((List.range 3).map fun k=>V.str (zs k))):=WH.s0 _ _ e2;have iI:(0:Int)+(i:Int)=((i:Nat):Int):=Gh _;refine ⟨.inl ⟨Db,Db⟩,a,ns,12,rfl,t1 sH,hn,Db,fun d2 HI _ _ _ sI=>⟨nqd,.inr ⟨_,rfl,.inl ⟨Dc,Dc⟩,?_⟩⟩⟩;obtain ⟨fi,ef,t8,t7⟩:∃ fi:Int,10+5*(0+(i:Int))*(if decide (0<d2 % 3)=true then 1 else 0)=fi/\10<=fi/\fi<=22:=⟨_,rfl,by split <;> lia,by split <;> lia⟩;subst ef;have WI:=WH.same sI;refine ⟨_,_,SqL.of (sI _ _ t6),(by rw [iI];exact ix3 hi),_,_,SqL.of WI.hl,(by rw [iI];exact ixr (EG i)),.inl ⟨Db,Db⟩,a,ns,_,_,rfl,t1 (sH.trans sI),hn,Dc,t8,t7,fun Ld xs HJ gJ fJ lx DX sJ=>?_⟩;obtain ⟨e9,ti,z1,z2,z3,z4,z5,WJ⟩:=WI.done (EG i) sJ fJ;refine ⟨p,d,e,Ld,e9,ti,zs i,_,_,_,xs,rfl,z1,z2,z3,z4,z5,gJ,DX,Dc,Db,fun c' HK ok SK=>⟨true,rfl,bW ?_⟩⟩;have WK:=WJ.step (EG i) ok SK Dc;exact ⟨_,_,_,_,rfl,WK.mono Dc (Dj _)⟩
 rintro Z HX ⟨c,o4,o5,o6,rfl,W⟩;refine ⟨a,ns,13,rfl,t1 (s1.trans W.s0),hn,Db,fun d1 HA _ _ _ sA=>⟨nqd,1+d1 % 5,rfl,?_,?_,?_⟩⟩
 .have:=br (a:=d1) (b:=5) Db;lia
 .have:=bn (a:=d1) (b:=5) Db;lia
 have oc:=bn (a:=d1) (b:=5) Db;obtain ⟨tn,t9,oy⟩:∃ tn:Nat,(1+d1 % 5).toNat=tn/\tn<=5:=⟨_,rfl,Dc⟩;rw [t9];refine cR (lo:=0) (n:=tn) (fun i Z HX=>∃ (c:Nat->Cell) (o4 o5 o6 o7 o8 o9 eW eG:Option V),Z=[some (.ref a),some (.ref Ln),some (.ref p),some (.ref Lh),o4,o5,o6,o7,o8,o9,eW,eG]/\Wld (bK ns) C CL H1 HX p d e Lh zs 3 c (54+31*i) (Bd i)) ⟨c,_,_,_,_,_,_,_,_,rfl,W.same sA⟩ ?_ ?_
 .rintro i Z HX hi ⟨c,o4,o5,o6,o7,o8,o9,eW,eG,rfl,W⟩;have bB:Bd i<=10 ^ 7:=zZ Dc;have og:Bd (i+1)<=10 ^ 7:=zZ Dc;have e4:∀{HY:Hp},Same H1 HY->HY Ln=some (.lst ((List.range 3).map fun k=>V.str (zs k))):=fun k=>k _ _ e2;have iI:(0:Int)+(i:Int)=((i:Nat):Int):=Gh _;refine ⟨a,ns,_,rfl,t1 (s1.trans W.s0),hn,Dc,fun da HA _ _ _ sA=>⟨nqd,?_⟩⟩;obtain ⟨ia,ea,la⟩:∃ m:Nat,da % 3=(m:Int)/\m<3:=⟨(da % 3).toNat,by have:=br (a:=da) (b:=3) Db;lia,by have:=bn (a:=da) (b:=3) Db;lia⟩;dsimp only;rw [ea];have WA:=W.same sA;refine ⟨a,ns,_,rfl,t1 (s1.trans WA.s0),hn,Dc,fun db HB _ _ _ sB=>⟨nqd,nqd,?_⟩⟩;obtain ⟨ib,eb,lb,a6⟩:∃ m:Nat,((ia:Int)+1+db % 2) % 3=(m:Int)/\m<3/\ia≠m:=by have q0:=br (a:=db) (b:=2) Db;have q1:=bn (a:=db) (b:=2) Db;refine ⟨(((ia:Int)+1+db % 2) % 3).toNat,?_,?_,?_⟩ <;> lia
  dsimp only;rw [eb];have WB:=WA.same sB;refine ⟨H1,p,d,e,Lh,Ln,zs,c,_,_,ia,ib,rfl,WB,e4 WB.s0,⟨_,e2⟩,la,lb,a6,zd,lN,Dc,Dc,fun c1 HC WC=>?_⟩;refine ⟨true,rfl,?_⟩;refine bW ?_;refine ⟨fun σ' H'=>∃ (c2:Nat->Cell),σ'=[some (.ref a),some (.ref Ln),some (.ref p),some (.ref Lh),some (.int (0+(i:Int))),o5,o6,some (.int (ia:Int)),some (.int (ib:Int)),o9,eW,eG]/\Wld (bK ns) C CL H1 H' p d e Lh zs 3 c2 (54+31*i+19) (Bd (i+1)),?_,?_⟩
  .refine ⟨a,ns,_,rfl,t1 (s1.trans WC.s0),hn,Dc,fun dc HD _ _ _ sD=>⟨nqd,rfl,_,rfl,?_⟩⟩;have WD:=WC.same sD;refine aS ?_ ?_
   .obtain ⟨ks,js,DA,v1,v2,lk,lj⟩:=WD.da;obtain ⟨e7,e1⟩:=DA.ob;have e8:p≠Lh:=aL e1 WD.hl nqz;have tx:d≠Lh:=aL DA.hd WD.hl nqz;have t2:e≠Lh:=aL DA.hj WD.hl nqz;have tc:Ln≠Lh:=fun y=>by have:=WD.ff Lh Dd;rw [<-y,e2] at this;cases this
    refine ⟨((i:Nat):Int),(by show [V.int (0+(i:Int))]=_;rw [iI]),fun st r td HF f1 f2 f3 O sF=>⟨Lh,_,_,ia,rfl,rfl,sF _ _ WD.hl,?_,?_⟩⟩
    .rw [Dg,EK];rw [cy Dc Dc,Ej]
    rw [CQ la];have gL:=ad (H:=HF) (a:=Lh) (o:=.lst ((List.range 3).map fun k=>V.ref (if k=ia then st else (c1 k).st)));have k2:∀b u,HF b=some u->b≠Lh->(upd HF Lh (.lst ((List.range 3).map fun k=>V.ref (if k=ia then st else (c1 k).st)))) b=some u:=fun b u q nb=>by rw [af nb];exact q
    generalize upd HF Lh (.lst ((List.range 3).map fun k=>V.ref (if k=ia then st else (c1 k).st)))=HG at gL k2 ⊢;obtain ⟨bk,ck,e3,free,len⟩:=kg (sk:=i) (e0 ia la) Dc;have lz:=(e0 ia la).hi;have e5:HG Ln=some (.lst ((List.range 3).map fun k=>V.str (zs k))):=k2 _ _ (sF _ _ (WD.s0 _ _ e2)) tc;refine ⟨p,e7,_,rfl,k2 _ _ (sF _ _ e1) e8,bT C9 C9,_,_,SqL.of e5,ix3 la,_,_,rfl,rfl,Dc,_,_,rfl,rfl,by rw [aR];lia,.inl ⟨_,rfl,(by rw [iI];exact bI (EB bk C9)),_,_,rfl,rfl,by rw [aR,aR,iI];lia,p,d,e,ks,js,["heap",zs ia,txt i],_,(by rw [iI,e3];rfl),EO _ _,free,len,⟨⟨e7,k2 _ _ (sF _ _ e1) e8⟩,k2 _ _ (sF _ _ DA.hd) tx,k2 _ _ (sF _ _ DA.hj) t2⟩,ou FO (e0 ia la) bk,.inl ⟨zs ia,i,rfl,WD.de,Dc,Dc,fun h hd hl Dl HH BG gD=>?_⟩⟩⟩;exact ⟨_,rfl,WD.begun (k:=ia) (m':=3) (.inr ⟨la,rfl⟩) (e0 ia la) (fun j hj ne=>zd j ia hj la ne) f1 f2 f3 O sF k2 gL DA v1 v2 lk lj BG⟩
   .exact ⟨c1,rfl,WD.mono Dc (Dj _)⟩
  rintro σ' HD ⟨c2,rfl,W2⟩;refine ⟨sz2,fun tq aF=>?_⟩;refine gnew aF fun HE sT gT=>?_;have WE:=W2.same sT;have tk:∀{HY HZ:Hp} {c c':Cell} {z:Str} {n B:Nat},HY tq=some (.tup [.int (ia:Int),.int (ib:Int)])->CellOk (bK ns) CL HY c z n B->Stp HY HZ c c'->HZ tq=some (.tup [.int (ia:Int),.int (ib:Int)]):=fun q O S=>S.kp _ _ q fun mm=>by obtain ⟨o,h1,h2⟩:=O.live _ mm;exact h2 _ (DJ (h1.symm.trans q))
  refine ⟨tq,rfl,⟨_,SqT.of gT⟩,gI (K:=K) (xs:=[.int (ia:Int),.int (ib:Int)]) (fun q Z HY=>∃ (c:Nat->Cell) (o9 eW:Option V),Z=[some (.ref a),some (.ref Ln),some (.ref p),some (.ref Lh),some (.int (0+(i:Int))),o5,o6,some (.int (ia:Int)),some (.int (ib:Int)),o9,eW,eG]/\HY tq=some (.tup [.int (ia:Int),.int (ib:Int)])/\Wld (bK ns) C CL H1 HY p d e Lh zs 3 c (54+31*i+19+6*q) (Bd (i+1))) ⟨c2,_,_,rfl,gT,WE⟩ (fun q Z HY _ h'=>by obtain ⟨_,_,_,_,z,_⟩:=h';exact SqT.of z) ?_ ?_⟩
  .rintro q x Z HY hx ⟨c,o9,eW,rfl,gY,WY⟩;obtain ⟨sd,rfl,ls,lq⟩:∃ sd:Nat,x=.int (sd:Int)/\sd<3/\q<2:=by
    rcases q with _ | _ | q
    .exact ⟨ia,(DJ hx).symm,la,Db⟩
    .exact ⟨ib,(DJ hx).symm,lb,Db⟩
    .cases hx
   refine ⟨.inl ⟨Db,Db⟩,.inl ⟨Db,Db⟩,.inl ⟨Db,Db⟩,a,ns,_,_,rfl,t1 (s1.trans WY.s0),hn,Dc,Dc,Dc,fun Ld xs HZ gZ fZ lx DX sZ=>?_⟩;refine ⟨6,rfl,Ld,xs,rfl,SqL.of gZ,fun Lc t5=>?_⟩;obtain ⟨DC,lc⟩:=CT DX;refine gnew t5 fun HU sU gU=>?_;generalize eK xs none (some 6)=cs at *;have DU:DeedL (bK ns) HU cs:=DC.stay fun b l z=>sU _ _ z;have WZ:=WY.same sZ;obtain ⟨e9,ti,z1,z2,z3,z4,z5,WU⟩:=WZ.done ls sU t5;refine ⟨_,_,SqL.of (e4 WU.s0),ix3 ls,_,_,SqL.of WU.hl,ix3 ls,p,d,e,Lc,e9,ti,zs sd,_,_,_,cs,rfl,z1,z2,z3,z4,z5,gU,DU,Dc,Dc,fun c' HK ok SK=>⟨true,rfl,bW ?_⟩⟩;exact ⟨_,_,_,rfl,tk (sU _ _ (sZ _ _ gY)) z4 SK,(WU.step ls ok SK Dc).mono Dc (Dj _)⟩
  .rintro Z HY ⟨c,o9,eW,rfl,_,WY⟩;refine ⟨_,rfl,Db,Db,?_⟩;refine cR (lo:=0) (n:=3) (fun q Z HZ=>∃ (eG:Option V),Z=[some (.ref a),some (.ref Ln),some (.ref p),some (.ref Lh),some (.int (0+(i:Int))),o5,o6,some (.int (ia:Int)),some (.int (ib:Int)),o9,eW,eG]/\Same HY HZ) ⟨_,rfl,Same.refl _⟩ ?_ ?_
   .rintro q Z HZ hq ⟨eG,rfl,sZ⟩;have WZ:=WY.same sZ;have qI:(0:Int)+(q:Int)=((q:Nat):Int):=Gh _;obtain ⟨e9,ti,PR⟩:=WZ.right hq lN (by show 54+31*i+19+12<=400;lia) Dc;refine ⟨_,_,SqL.of (e4 WZ.s0),(by rw [qI];exact ix3 hq),_,_,SqL.of WZ.hl,(by rw [qI];exact ix3 hq),p,d,e,_,_,_,_,_,_,e9,ti,zs q,_,_,_,rfl,PR,fun HV sV=>⟨true,rfl,bW ?_⟩⟩;exact ⟨_,rfl,sZ.trans sV⟩
   .rintro Z HZ ⟨eG,rfl,sZ⟩;exact ⟨c,_,_,_,_,_,_,_,_,rfl,(WY.same sZ).mono (by show 54+31*i+19+12<=54+31*(i+1);lia) (Dj _)⟩
 rintro Z HY ⟨c,o4,o5,o6,o7,o8,o9,eW,eG,rfl,W⟩;exact kQ _
end
section
variable {P:Program}{w:World}{K:W.Frag}{mg:Str->Option Value}{base:Heap}
open PySem.W
theorem all_mk {l:OpenLaw}{w:World}{K:Frag}{h:Heap}{mg:Str->Option Value}{fa C C2 CB CC CN ey bV et fD dk ci bi f3 c6 b4 d8 fX aw eA b1 cz dT cn fN gK dC gv fu gH gd gu gt dl cb gO cJ dI cG dy dH gn b5 dY bF c9 cH f5 eV cI aS eZ bd bm eW fk fF c3 bE bG gi gN cd cw dM g0 a9 q:Addr}(X:K.In h)(G:h.Ns mainGlobals mg)(fH:mg "law"=some (.ref fa)){tL:Tok}{cs:Tok}{dF q0 q1 q2 q3 q4 q5 q6 q7 q8 q9:Addr}{aa n0 n1 n2 n3 n4 n5 n6 n7 n8 n9:Nat}{t0 t1 t2 t3 t4 t5 t6 t7 t8 t9 fO gT fg ez fV ba bM bw eu eD bR du dv f1 cA f6 bc b6 fn cQ cB dN ge bx dp cu bI ew:Tok}{eL:ClassData}{dU av:Option Addr}{e5:Array (Option Value)}{cN aq I V o ax:Value}(aC:nsIn K mainGlobals "Late"=some (some (.ref C)))(fW:nsIn K mainGlobals "Named"=some (some (.ref CB)))(fG:nsIn K mainGlobals "Desk"=some (some (.ref C2)))(e6:nsIn K mainGlobals "Clash"=some (some (.ref CC)))(dn:nsIn K mainGlobals "NoThing"=some (some (.ref CN)))(di:Df K "exchange" xG ey)(bT:Df K "lift" v9 bV)(b9:Df K "lay_in" AA et)(gw:Df K "let_down" iW fD)(bb:Df K "cut_first" Ax dk)(cL:Df K "order" qu ci)(fq:Bs K CB "__init__" "Named.__init__" qd bi)(en:Mt K C "holds" "Named.holds" pO f3)(d0:Mt K C "need" "Named.need" ye c6)(cX:Mt K C "need_free" "Named.need_free" wQ b4)(df:Mt K C "need_any" "Named.need_any" Am d8)(dB:Mt K C "stamped" "Named.stamped" jd fX)(eh:Mt K C "__init__" "Late.__init__" p7 aw)(gY:Mt K C "enter" "Late.enter" p9 eA)(e4:Mt K C "cut" "Late.cut" wD b1)(cV:Mt K C "sweep_if_due" "Late.sweep_if_due" lG cz)(fT:Mt K C "first_there" "Late.first_there" pP dT)(cZ:Mt K C "put" "Late.put" wX cn)(bs:Mt K C "drop" "Late.drop" qR fN)(ex:Mt K C "change" "Late.change" jm gK)(gy:Mt K C "least" "Late.least" lL dC)(bQ:Mt K C "take" "Late.take" qN gv)(dq:Mt K C "many" "Named.many" xL fu)(gC:Mt K C "row" "Late.row" vF gH)(fc:Mt K C "work" "Late.work" qF gd)(b3:Mt K C "things" "Named.things" iM gu)(cF:Df K "offer" qA gt)(go:Df K "firsts" mV dl)(bf:Df K "made_of" iK cb)(bo:Df K "is_name" lu gO)(gf:Df K "is_number" gR cJ)(ds:Df K "number" ml dI)(eB:Df K "counted" jE cG)(fE:Mt K C2 "meant" "Desk.meant" pV dy)(ca:Mt K C2 "understood" "Desk.understood" yH dH)(eb:Df K "shown" qO gn)(cE:Mt K C2 "stand" "Desk.stand" pC b5)(bU:Mt K C2 "works_of" "Desk.works_of" qc dY)(bN:Df K "carry_out" pE bF)(d2:Mt K C2 "answer" "Desk.answer" iF c9)(bH:Df K "with_all_of" jg cH)(gm:Df K "put_together" mI f5)(e1:Mt K C2 "bring_together" "Desk.bring_together" qk eV)(gV:Mt K C2 "ask" "Desk.ask" Br cI)(gD:Mt K C2 "__init__" "Desk.__init__" ql aS)(ce:Df K "_law_draw" wO eZ)(gI:Df K "_law_word" xo bd)(eS:Df K "_law_new" vB bm)(dO:Df K "_law_down" xi eW)(e7:Df K "_law_into" vP fk)(gp:Df K "_law_out" vY fF)(bB:Df K "_law_stands" lR c3)(be:Df K "_law_clean" l7 bE)(c8:Df K "_law_sweep" iR bG)(fp:Df K "_law_give" p4 gi)(fC:Df K "_law_deed" pU gN)(gJ:Df K "_law_some_deeds" pR cd)(dE:Df K "_law_done" qB cw)(fy:Df K "_law_joined" iP dM)(eX:Df K "_law_right" gx g0)(fP:Df K "_law_join_right" qV a9)(ei:nsIn K mainGlobals "law"=some (some (.ref q)))(gh:K.lookup q=some ⟨cN,dU,.func (fnOf "law" "law" (cq jO) (bz jO) (ak jO) .none aq I V av o ax),e5⟩)(ed:codeIn K o "law"=true)(bp:keepIn K (.ref q)=true)(d4:nsIn K mainGlobals "len"=some none)(bj:nsIn K mainGlobals "sum"=some none)(dL:nsIn K mainGlobals "abs"=some none)(cS:nsIn K mainGlobals "range"=some none)(bh:nsIn K mainGlobals "list"=some none)(ch:nsIn K mainGlobals "tuple"=some none)(gS:nsIn K mainGlobals "int"=some none)(dw:nsIn K mainGlobals "bool"=some none)(gE:nsIn K mainGlobals "sorted"=some none)(dS:nsIn K mainGlobals "isinstance"=some none)(gX:nsIn K mainGlobals "max"=some none)(c2:nsIn K mainGlobals "min"=some none)(fS:nsIn K mainGlobals "all"=some none)(dZ:nsIn K mainGlobals "str"=some none)(pg:W.plainGet K C Str.empty=true)(hd:W.hasDictIn K C=true)(po:W.plainOver K C=true)(sa:findIn K (.ref C) "__setattr__"=some (some (.builtin "object.__setattr__")))(mk:makesIn K C=true)(kc:keepIn K (.ref C)=true)(ga:specialIn K (.ref CB) "__getattribute__"=some (some (.builtin "type.__getattribute__")))(rd:W.readsIn K CB (.type "type")=true)(fI:W.plainGet K C2 Str.empty=true)(gq:W.hasDictIn K C2=true)(bO:W.plainOver K C2=true)(db:findIn K (.ref C2) "__setattr__"=some (some (.builtin "object.__setattr__")))(dx:makesIn K C2=true)(bq:keepIn K (.ref C2)=true)(g2:findIn K (.ref C2) "there"=some none)(g1:findIn K (.ref C2) "stamp"=some none)(eJ:findIn K (.ref C2) "heaps"=some none)(fb:findIn K (.ref C2) "joined"=some none)(cl:findIn K (.ref C) "there"=some none)(gU:findIn K (.ref C) "stamp"=some none)(e8:findIn K (.ref C) "slack"=some none)(eU:findIn K (.ref C) "entries"=some none)(bX:findIn K (.ref C) "looks"=some none)(eC:nsIn K mainGlobals "LETTERS"=some (some (.str "abcdefghijklmnopqrstuvwxyz" tL)))(d7:nsIn K mainGlobals "FIGURES"=some (some (.str "0123456789" cs)))(aF:nsIn K mainGlobals "FORMS"=some (some (.ref dF)))(lF:K.lookup dF=some { cls:=.type "dict",data:=.dict #[{ hash:=PyData.keyHash w.params "heap",key:=.str "heap" t0,val:=.ref q0 },{ hash:=PyData.keyHash w.params "put",key:=.str "put" t1,val:=.ref q1 },{ hash:=PyData.keyHash w.params "drop",key:=.str "drop" t2,val:=.ref q2 },{ hash:=PyData.keyHash w.params "change",key:=.str "change" t3,val:=.ref q3 },{ hash:=PyData.keyHash w.params "take",key:=.str "take" t4,val:=.ref q4 },{ hash:=PyData.keyHash w.params "least",key:=.str "least" t5,val:=.ref q5 },{ hash:=PyData.keyHash w.params "first",key:=.str "first" t6,val:=.ref q6 },{ hash:=PyData.keyHash w.params "join",key:=.str "join" t7,val:=.ref q7 },{ hash:=PyData.keyHash w.params "room",key:=.str "room" t8,val:=.ref q8 },{ hash:=PyData.keyHash w.params "works",key:=.str "works" t9,val:=.ref q9 }] aa })(sF:(dF == sysModules)=false)(e2:K.lookup q0=some { cls:=.type "tuple",data:=.seq #[.str "word" fO,.str "name" gT,.str "count" fg] n0 })(eE:K.lookup q1=some { cls:=.type "tuple",data:=.seq #[.str "word" ez,.str "heap" fV,.str "name" ba,.str "number" bM] n1 })(bt:K.lookup q2=some { cls:=.type "tuple",data:=.seq #[.str "word" bw,.str "heap" eu,.str "name" eD] n2 })(dX:K.lookup q3=some { cls:=.type "tuple",data:=.seq #[.str "word" bR,.str "heap" du,.str "name" dv,.str "number" f1] n3 })(ej:K.lookup q4=some { cls:=.type "tuple",data:=.seq #[.str "word" cA,.str "heap" f6] n4 })(d3:K.lookup q5=some { cls:=.type "tuple",data:=.seq #[.str "word" bc,.str "heap" b6] n5 })(fw:K.lookup q6=some { cls:=.type "tuple",data:=.seq #[.str "word" fn,.str "heap" cQ,.str "count" cB] n6 })(c7:K.lookup q7=some { cls:=.type "tuple",data:=.seq #[.str "word" dN,.str "heap" ge,.str "heap" bx] n7 })(eK:K.lookup q8=some { cls:=.type "tuple",data:=.seq #[.str "word" dp,.str "heap" cu] n8 })(f7:K.lookup q9=some { cls:=.type "tuple",data:=.seq #[.str "word" bI,.str "heap" ew] n9 })(bC:subIn K (.ref CC) (.type "BaseException")=some true)(fB:W.clsIn K CC=some eL)(fU:W.typeIn K (.ref CC)=some (.type "type"))(gl:subIn K (.ref CC) (.ref CC)=some true)(dP:subIn K (.ref C) (.type "object")=some true)(eP:findIn K (.ref C) "__eq__"=some (some (.builtin "object.__eq__")))(c1:W.excIn K CC bmV "ValueError.__new__"=true)(H:W.excIn K CN bmV "ValueError.__new__"=true) :
    ∃ fd:FuncData,(∀(s:Shared) (v:Value),BindsTo s fd ⟨[v],[]⟩ [("script",v)])/\∀base:Heap,K.In base->base.Ns mainGlobals mg->au l.prog w K mg base CX0 11 fa fd ["script"] (tu K):=by
 have e:=fH.symm.trans (mg_of X G ei);cases e;have T:Bl mg:=⟨mg_none_of X G d4,mg_none_of X G bj,mg_none_of X G dL,mg_none_of X G cS,mg_none_of X G bh,mg_none_of X G ch,mg_none_of X G gS,mg_none_of X G dw,mg_none_of X G gE,mg_none_of X G dS⟩;have gB:=mg_none_of X G gX;have eO:=mg_none_of X G c2;have bS:=mg_none_of X G fS;have a:=mg_none_of X G dZ;have L:LT K C:=⟨⟨⟨pg,hd,po,sa⟩,cl,gU⟩,e8,eU,bX⟩;have S:=mg_of X G e6;have aT:=mg_of X G dn;have gM:=mg_of X G fW;have mC:=mg_of X G aC;have LW:DK K C2:=⟨⟨fI,gq,bO,db⟩,eJ,fb⟩;have ep:=mg_of X G fG;have dR:=mg_of X G eC;have b7:=mg_of X G d7;have gF:=mg_of X G aF;have SF:wa w K dF [("heap",q0),("put",q1),("drop",q2),("change",q3),("take",q4),("least",q5),("first",q6),("join",q7),("room",q8),("works",q9)]:=⟨_,aa,lF,.cons (.cons (.cons (.cons (.cons (.cons (.cons (.cons (.cons (.cons (.nil))))))))))⟩;have FO:=wU e2 eE bt dX ej d3 fw c7 eK f7;have cD:=A3 bC fB fU gl;obtain ⟨_,fz,a1⟩:=di.get X G ["heap","place","other"];obtain ⟨_,dj,bW⟩:=bT.get X G ["heap","start"];obtain ⟨_,cg,a7⟩:=b9.get X G ["heap","entry"];obtain ⟨_,cM,aY⟩:=gw.get X G ["heap","start"];obtain ⟨_,b0,u⟩:=bb.get X G ["heap"];obtain ⟨_,ec,dD⟩:=cL.get X G ["heap"];obtain ⟨_,fZ,bJ,cR⟩:=fq.get ["self"] ga rd;obtain ⟨_,fQ,p,n⟩:=en.get ["self","entry"];obtain ⟨_,fK,af,A⟩:=d0.get ["self","name"];obtain ⟨_,ev,ad,aj⟩:=cX.get ["self","name"];obtain ⟨_,d1,f0,dW⟩:=df.get ["self"];obtain ⟨_,fR,bK,dc⟩:=dB.get ["self","name","worth"];obtain ⟨_,bu,ae,ag⟩:=eh.get ["self","slack"];have al:Mk K C aw:=⟨mk,ag.at_,ag.fn,kc⟩;obtain ⟨_,cj,aJ,ac⟩:=gY.get ["self","name","worth"];obtain ⟨_,d9,aM,aG⟩:=e4.get ["self"];obtain ⟨_,eY,c,d⟩:=cV.get ["self"];obtain ⟨_,ee,a4,a0⟩:=fT.get ["self"];obtain ⟨_,dt,y,M⟩:=cZ.get ["self","name","worth"];obtain ⟨_,dG,aL,aH⟩:=bs.get ["self","name"];obtain ⟨_,bl,b8,f8⟩:=ex.get ["self","name","worth"];obtain ⟨_,fh,cW,es⟩:=gy.get ["self"];obtain ⟨_,fJ,d6,dV⟩:=bQ.get ["self"];obtain ⟨_,dr,z,a2⟩:=dq.get ["self"];obtain ⟨_,f9,Q,aE⟩:=gC.get ["self"];obtain ⟨_,gZ,aO,Z⟩:=fc.get ["self"];obtain ⟨_,fY,c5,bk⟩:=b3.get ["self"];obtain ⟨_,fv,e9⟩:=cF.get X G ["places","row","place"];obtain ⟨_,fj,f2⟩:=go.get X G ["heap","k"];obtain ⟨_,gs,ar⟩:=bf.get X G ["word","signs","most"];obtain ⟨_,eI,gj⟩:=bo.get X G ["word"];obtain ⟨_,cr,c4⟩:=gf.get X G ["word"];obtain ⟨_,cx,ai⟩:=ds.get X G ["word"];obtain ⟨_,da,eR⟩:=eB.get X G ["word"];obtain ⟨_,er,ek,cO⟩:=fE.get ["self","kind","word"];obtain ⟨_,gb,fx,bL⟩:=ca.get ["self","words"];obtain ⟨_,bg,fL⟩:=eb.get X G ["pair"];obtain ⟨_,ff,aD,a8⟩:=cE.get ["self","name","heap","joined"];obtain ⟨_,dQ,aP,aN⟩:=bU.get ["self","name"];obtain ⟨_,fi,cf⟩:=bN.get X G ["heap","deed"];obtain ⟨_,cT,gr,dd⟩:=d2.get ["self","word","name","rest"];obtain ⟨_,bD,eQ⟩:=bH.get X G ["greater","lesser"];obtain ⟨_,fe,bY⟩:=gm.get X G ["one","other"];obtain ⟨_,ck,ef,eT⟩:=e1.get ["self","name","second"];obtain ⟨_,e3,i,f⟩:=gV.get ["self","line"];obtain ⟨_,cp,cv,O⟩:=gD.get ["self"];have ct:Mk K C2 aS:=⟨dx,O.at_,O.fn,bq⟩;obtain ⟨_,fl,k⟩:=ce.get X G ["script","k"];obtain ⟨_,fA,az⟩:=gI.get X G ["script","i"];obtain ⟨_,gG,a5⟩:=eS.get X G ["slack"];obtain ⟨_,b2,aR⟩:=dO.get X G ["heap","k"];obtain ⟨_,dK,fs⟩:=e7.get X G ["heap","entry"];obtain ⟨_,br,ab⟩:=gp.get X G ["heap"];obtain ⟨_,fm,Y⟩:=bB.get X G ["heap","entry"];obtain ⟨_,fr,e0⟩:=be.get X G ["heap"];obtain ⟨_,dh,t⟩:=c8.get X G ["heap"];obtain ⟨_,c0,cU⟩:=fp.get X G ["heap","name","worth"];obtain ⟨_,cC,aU⟩:=fC.get X G ["heap","deed"];obtain ⟨_,eg,d5⟩:=gJ.get X G ["script","at","first"];obtain ⟨_,cm,gL⟩:=dE.get X G ["desk","called","heap","deeds"];obtain ⟨_,eF,bA⟩:=fy.get X G ["one","other"];obtain ⟨_,f4,co⟩:=eX.get X G ["desk","called","heap"];obtain ⟨_,bP,fM⟩:=fP.get X G ["desk","names","heaps","a","b"] (fun _ _ _ _ _ _=>lnS fun _=>lnS fun _=>lnS fun _=>lnS fun _=>ln1 fun _=>rfl);have cc:=mP (st:=jO) gh ed bp;refine ⟨fnOf "law" "law" (cq jO) (bz jO) (ak jO) .none aq I V av o ax,fun s v=>.of_eq rfl,fun base _ _=>?_⟩;have aQ:=zq (P:=l.prog) (w:=w) (base:=base) fz T;have de:=yx (P:=l.prog) (w:=w) (base:=base) dj T aQ a1;have ay:=Bh (P:=l.prog) (w:=w) (base:=base) cg T de bW;have a6:=qy (P:=l.prog) (w:=w) (base:=base) cM T aQ a1;have aI:=Ae (P:=l.prog) (w:=w) (base:=base) b0 T a6 aY;have gW:=wq (P:=l.prog) (w:=w) (base:=base) ec T a6 aY;have dA:=gP (P:=l.prog) (w:=w) (base:=base) fZ T L.nt;have m:=wV (P:=l.prog) (w:=w) (base:=base) fQ T L.nt;have aW:=yK (P:=l.prog) (w:=w) (base:=base) fK T L.nt aT H;have aZ:=mM (P:=l.prog) (w:=w) (base:=base) ev T L.nt S c1;have eH:=ny (P:=l.prog) (w:=w) (base:=base) d1 T L.nt aT H;have ea:=qQ (P:=l.prog) (w:=w) (base:=base) fR T L.nt;have am:=iw (P:=l.prog) (w:=w) (base:=base) bu T L gM cR dA bJ;have aK:=yc (P:=l.prog) (w:=w) (base:=base) cj T L ay a7 dc ea bK;have ap:=yy (P:=l.prog) (w:=w) (base:=base) d9 T L aI u;have g:=vU (P:=l.prog) (w:=w) (base:=base) eY T L gW dD n m p;have an:=iV (P:=l.prog) (w:=w) (base:=base) ee T L dW eH f0 n m p aG ap aM;have D:=Bm (P:=l.prog) (w:=w) (base:=base) dt T L aj aZ ad d g c ac aK aJ;have J:=yv (P:=l.prog) (w:=w) (base:=base) dG T L A aW af d g c;have ft:=um (P:=l.prog) (w:=w) (base:=base) bl T L A aW af d g c ac aK aJ;have eG:=xk (P:=l.prog) (w:=w) (base:=base) fh T L a0 an a4;have gg:=wN (P:=l.prog) (w:=w) (base:=base) fJ T L a0 an a4 aG ap aM d g c;have U:=zy (P:=l.prog) (w:=w) (base:=base) dr T L.nt;have x:=Ai (P:=l.prog) (w:=w) (base:=base) f9 T L;have aX:=yQ (P:=l.prog) (w:=w) (base:=base) gZ T L;have bZ:=uE (P:=l.prog) (w:=w) (base:=base) fY T L.nt;have gk:=xb (P:=l.prog) (w:=w) (base:=base) fv T ay a7;have dz:=uA (P:=l.prog) (w:=w) (base:=base) fj T L aE x Q n m p gk e9 aI u;have ao:=vb (P:=l.prog) (w:=w) (base:=base) gs T bS;have eq:=uK (P:=l.prog) (w:=w) (base:=base) eI T dR ao ar;have cY:=oB (P:=l.prog) (w:=w) (base:=base) cr T a b7 ao ar;have a3:=uo (P:=l.prog) (w:=w) (base:=base) cx T cY c4;have dg:=qM (P:=l.prog) (w:=w) (base:=base) da T a3 ai;have gc:=vT (P:=l.prog) (w:=w) (base:=base) er T LW eq gj a3 ai dg eR;have bv:=Aq (P:=l.prog) (w:=w) (base:=base) gb T LW SF sF gF cO gc ek;have gz:=uW (P:=l.prog) (w:=w) (base:=base) bg T a;have aV:=w9 (P:=l.prog) (w:=w) (base:=base) ff T LW;have B:=vZ (P:=l.prog) (w:=w) (base:=base) dQ T LW L Z aX aO;have eo:=xN (P:=l.prog) (w:=w) (base:=base) fi T L M D y aH J aL f8 ft b8 dV gg d6 es eG cW;have bn:=ul (P:=l.prog) (w:=w) (base:=base) cT T LW L a dz f2 eo cf gz fL a2 U z aE x Q aN B aP;have cK:=yq (P:=l.prog) (w:=w) (base:=base) bD T L bk bZ c5 aj aZ ad aH J aL M D y;have fo:=qU (P:=l.prog) (w:=w) (base:=base) fe T L a2 U z cK eQ;have gQ:=xl (P:=l.prog) (w:=w) (base:=base) ck T LW L dP eP mC al am ae Z aX aO aN B aP a8 aV aD fo bY;have b:=Ah (P:=l.prog) (w:=w) (base:=base) e3 T LW L mC al am ae bL bv fx a8 aV aD eT gQ ef dd bn gr;have cP:=iz (P:=l.prog) (w:=w) (base:=base) cp T LW;have j:=zl (P:=l.prog) (w:=w) (base:=base) fl T gB eO;have R:=zw (P:=l.prog) (w:=w) (base:=base) fA T j k;have r:=zh (P:=l.prog) (w:=w) (base:=base) gG T;have aA:=wS (P:=l.prog) (w:=w) (base:=base) b2 T;have eN:=yO (P:=l.prog) (w:=w) (base:=base) dK T;have E:=za (P:=l.prog) (w:=w) (base:=base) br T aA aR;have aB:=uB (P:=l.prog) (w:=w) (base:=base) fm T;have dJ:=uL (P:=l.prog) (w:=w) (base:=base) fr T aB Y E ab;have ah:=uD (P:=l.prog) (w:=w) (base:=base) dh T aB Y aA aR;have em:=xH (P:=l.prog) (w:=w) (base:=base) c0 T eN fs ah t;have F:=vy (P:=l.prog) (w:=w) (base:=base) cC T em cU ah t dJ e0 E ab;have dm:=xC (P:=l.prog) (w:=w) (base:=base) eg T j k R az;have el:=fun N=>vS (N:=N) (P:=l.prog) (w:=w) (base:=base) cm T a LW FO f b i F aU;have eM:=uR (P:=l.prog) (w:=w) (base:=base) eF T F aU r a5;have gA:=uh (P:=l.prog) (w:=w) (base:=base) f4 T LW FO a f b i;have cy:=fun N=>yn (N:=N) (P:=l.prog) (w:=w) (base:=base) bP T LW FO S cD f b i eM bA;exact Ay cc T a LW FO ep ct cP cv f b i j k R az r a5 dm d5 el gL gA co cy fM
theorem walk {l:OpenLaw}{q:Program}{loose:List Str}{XP:(Str->Option Value)->Heap->Prop}{YP:World->Heap->Prop}{d:DefRec}{K:Params->Frag}(hn:l.most=some 63)(hdf:d.params.defaults=[])
  (hY:∀(w:World) (h:Heap),YP w h->(K w.params).In h)
  (F:∀(w:World) (mg:Str->Option Value) (fa:Addr) (h:Heap),(K w.params).In h->h.Ns mainGlobals mg->mg d.name=some (.ref fa) ->
   ∃ fd:FuncData,(∀(s:Shared) (u:Value),BindsTo s fd ⟨[u],[]⟩ [("script",u)])/\∀base:Heap,(K w.params).In base->base.Ns mainGlobals mg->au l.prog w (K w.params) mg base CX0 11 fa fd ["script"] (tu (K w.params))) :
  W.WalkO q loose XP YP l.row.toRowW d [] (fun f vs=>PySem.call f vs) :=
 L2.walk_of (n:=63) (k:=11) (x:="script") (CX:=fun _=>CX0) (sp:=fun w=>tu (K w.params)) hn Db hdf ⟨rfl,Db,Db⟩ hY F (fun _ _ a ns hl _ hS=>⟨a,ns,rfl,hS,hl,fun _=>rfl⟩) fun _ _ _ _ _ z=>z
end
end Kx
section
open PySem PySem.W PyProof.Rows L2
set_option maxRecDepth 100000 in
set_option maxHeartbeats 0 in
theorem PySem.Challenge.cw_lategone_k37_desk_join_holds : PySem.Challenge.rw_lategone_k37_desk_join.Holds := by
 w_on;o_law;k_head;(case hw=>w_witness2)
 k_fill
 refine Kx.walk (l:=PySem.Challenge.rw_lategone_k37_desk_join) rfl rfl (fun w h Y=>W.kIn_of Y) ?F
 case F =>
  intro w mg fa h KX G hmg
  refine' Kx.all_mk KX G hmg ?aa ?ab ?ac ?ad ?ae ?af ?ag ?ah ?ai ?aj ?ak ?al ?am ?an ?ao ?ap ?aq ?ar ?au ?av ?aw ?ax ?ay ?az ?aA ?aB ?aD ?aE ?aG ?aH ?aI ?aJ ?aK ?aL ?aM ?aN ?aO ?aP ?aQ ?aR ?aS ?aT ?aU ?aV ?aW ?aX ?aY ?aZ ?a0 ?a1 ?a2 ?a3 ?a4 ?a5 ?a6 ?a7 ?a8 ?a9 ?ba ?bb ?bc ?bd ?be ?bf ?bg ?bh ?bi ?bj ?bk ?bl ?bm ?bn ?bo ?bp ?bq ?br ?bs ?bt ?bu ?bv ?bw ?bx ?bz ?bA ?bB ?bD ?bE ?bF ?bG ?bH ?bI ?bJ ?bK ?bL ?bM ?bN ?bO ?bP ?bQ ?bR ?bS ?bT ?bU ?bV ?bW ?bX ?bY ?bZ ?b0 ?b1 ?b2 ?b3 ?b4 ?b5 ?b6 ?b7 ?b8 ?b9 ?ca ?cb ?cc ?cd ?ce ?cf ?cg ?ch ?ci ?cj ?ck ?cl
  (case aa|ab|ac|ad|ae =>k_is)
  (case af|ag|ah|ai|aj|ak|aJ|aK|aL|aM|aN|aO|aP|aS|aV|aX|aY|a2|a3|a4|a5|a6|a7|a8|a9|ba|bb|bc|bd|be|bf|bg|bh=>(refine' dfI ?a ?l ?c ?k);(case a=>k_is);(case l=>k_is);(case c=>k_is);(case k=>k_is))
  (case al =>(refine' bsI ?a ?l ?c ?k);(case a=>k_is);(case l=>k_is);(case c=>k_is);(case k=>k_is))
  (case am|an|ao|ap|aq|ar|au|av|aw|ax|ay|az|aA|aB|aD|aE|aG|aH|aI|aQ|aR|aT|aU|aW|aZ|a0|a1=>(refine' mtI ?a ?i ?l ?c ?k);(case a=>k_is);(case i=>k_is);(case l=>k_is);(case c=>k_is);(case k=>k_is))
  (case bi|bj|bk|bl|bm|bn|bo|bp|bq|br|bs|bt|bu|bv|bw|bx|bz|bA|bB|bD|bE|bF|bG|bH|bI|bJ|bK|bL|bM|bN|bO|bP|bQ|bR|bS|bT|bU|bV|bW|bX|bY|bZ|b0|b1|b2 =>k_is)
  (case b3 =>decide)
  (case b4|b5|b6|b7|b8|b9|ca|cb|cc|cd|ce|cf|cg|ch|ci|cj =>k_is)
  (case ck|cl=>k_exc)
#print axioms PySem.Challenge.cw_lategone_k37_desk_join_holds
end
