import PyProof.Rows.All
import Wide.All
import OpenK.AllK
import Wide.FinOn
import Lean
import PyProof.EqAt
import PyProof.EqKinds
import PyProof.TupleCall
import PyProof.LongRange
import KE.KDictLaws
import KE.KDictList
import KE.KDictOf
import KE.KDictSum
import KE.KEqDict
import KE.KIntText
import KE.KRevSl
import KE.KTryMore
import KE.LcSums
import PyProof.AttrMissHeap
import PyProof.CallStr
import PyProof.ConsumeWalk
import PyProof.DictValues
import PyProof.DictWalks
import PyProof.NeKinds
import PyProof.Rows.ReprOcc
import PyProof.Rows.RuleIs
import PyProof.Rows.SetFrom
import PyProof.Rows.SortKey
import PyProof.Rows.SortRuns
import PyProof.Rows.SortShellK
import PyProof.Rows.StrIntSpec
import PyProof.Rows.StrJoinRep
import PyProof.Rows.StrNews
import PyProof.Rows.StrRules
import PyProof.SetRoads
import PyProof.StrBlock2
import PyProof.StrBlockI
import PyProof.StrCalls
import PyProof.StrCalls2
import PyProof.StrLawsChain
import PyProof.StrLawsIdx
import PyProof.StrLawsJoin
import PyProof.StrLawsTight
import PyProof.StrLoop
import PyProof.StrWalks
import PyProof.WalkInts
import PySem.Challenge.RW_lategone_k35_desk_heaps
set_option Elab.async false
set_option linter.all false
set_option maxRecDepth 100000
set_option maxHeartbeats 4000000
namespace PySem.W.Fast
def tw4728483117783227173:=0
def tw6720029486683182034:=0
def tw15324370187004841120:=0
def tw8299931408185832638:=0
def tw4923422505600612293:=0
def tw12823341462523515214:=0
def tw11555848373129477093:=0
def tw7998514460778548884:=0
def tw14530595251702067:=0
def tw9354693820621986465:=0
def tw7187869785260688832:=0
def tw14501813071471803890:=0
def tw4962187403357990938:=0
def tw9015306092504069123:=0
def tw8341280215484328650:=0
def tw13914924432059186825:=0
def tw525831577815074623:=0
def tw3415316995906514756:=0
def tw11937973039134387257:=0
def tw5249860155497754997:=0
def tw14536737909990128709:=0
def tw4006621013708724415:=0
def tw7737191948065042666:=0
def tw7496017025413377956:=0
def tw8429581762093345133:=0
def tw506122135694257347:=0
def tw2432670002319786217:=0
def tw3588838216672995696:=0
def tw7552990409998887380:=0
def tw913414069748663064:=0
def tw14243323306004119908:=0
def tw16011680564964620749:=0
def tw10610877704944085421:=0
def tw1004130299723543958:=0
def tw18434923396195355211:=0
def tw10528220341969415030:=0
def tw311504536859010761:=0
def tw3432027530296286135:=0
def tw2246498677223783651:=0
def tw108824804746981140:=0
def tw10837931030975660584:=0
def tw11265091457137359217:=0
def tw10260568281578010163:=0
def tw9792031898177822773:=0
def tw18175242208847350209:=0
def tw12065971111758890670:=0
def tw11013452470950855379:=0
def tw4546816173866027589:=0
def tw11057563576514736922:=0
def tw3500045404883658453:=0
def tw11325024583766854377:=0
def tw5864495620582327314:=0
def tw10941066297302007311:=0
def tw3350956804443537045:=0
def tw18028894481233458916:=0
def tw3872511338997629163:=0
def tw806704055267894426:=0
def tw10783200645151089474:=0
def tw7157513515728153248:=0
def tw11926482592537581467:=0
def tw17919448447562053725:=0
def tw3614058541006944871:=0
def tw16153505903570502601:=0
def tw5558947822613138839:=0
def tw13586792510411654029:=0
def tw14485954997592862496:=0
def tw15178747379252158459:=0
def tw5162961557938447758:=0
def tw12690398848172975227:=0
def tw10852996768666062423:=0
def tw1963236499823060974:=0
def tw8308476373828982244:=0
def tw5262231743461860634:=0
def tw17908510846602920331:=0
def tw5234224623453920741:=0
def tw4692482322994896477:=0
def tw11067260393132622734:=0
def tw12712594210291477461:=0
def tw6133099842131710379:=0
def tw5047613079562056829:=0
def tw14008481284864319878:=0
def tw550980437882013309:=0
def tw14930381923362712643:=0
def tw5325011707434669591:=0
def tw10173734771699211383:=0
def tw1100657552218628319:=0
def tw8597463131289323565:=0
def tw6126705776324146739:=0
def tw5912579677092159550:=0
def tw7748161307740260103:=0
def tw2178254808910196756:=0
def tw13505540395180863633:=0
def tw13714244860968497424:=0
def tw863883748972365044:=0
def tw2896384401011249757:=0
def tw16013273953744938435:=0
def tw729005710195241780:=0
def tw9236664255262691850:=0
def tw17259217175836179900:=0
def tw16479862181251633502:=0
def tw12419718224607850908:=0
def tw15686687985566860247:=0
def tw14661844107848019908:=0
def tw4825496953509318058:=0
def tw14162614490154865384:=0
def tw15254191301630391605:=0
def tw15625724717386368568:=0
def tw6581205618451961207:=0
def tw12713588180076631601:=0
def tw14617354728981193429:=0
def tw9291930770589233118:=0
def tw11739324176394887381:=0
def tw15001083276314846021:=0
def tw7748198693140163840:=0
def tw16373029796537391530:=0
def tw13597633840970364710:=0
def tw3363008783825503702:=0
def tw957458021130619633:=0
def tw18328078066520536664:=0
def tw15738098844557882372:=0
def tw13978377522140796105:=0
def tw2415907420868414760:=0
def tw3318446715995305013:=0
def tw11704780435869651668:=0
def tw2993100873382205760:=0
def tw7292612453792300748:=0
def tw8348534355371928317:=0
def tw7672346454078771789:=0
def tw4409275842328812240:=0
def tw5527904252348491727:=0
def tw1980351766643793100:=0
def tw8026585185031712729:=0
def tw7188143565056021405:=0
def tw332831884173545196:=0
def tw4255539078063767173:=0
def tw5776195004495657517:=0
def tw4233696265626852766:=0
def tw7769029237130531874:=0
def tw17346916195901831134:=0
def tw1630683846559048723:=0
def tw434367693559553854:=0
def tw1551272857302161735:=0
def tw18422558283688082448:=0
def tw17769496171527616799:=0
def tw10278030975925393783:=0
def tw2158812642681980745:=0
def tw6373814993167155703:=0
def tw11456362207554110540:=0
def tw15543932423771945297:=0
def tw4913128092577298736:=0
def tw684051011761639855:=0
def tw16733754910607080855:=0
def tw14275469640752374008:=0
def tw8565621688004014893:=0
def tw4053275097379026419:=0
def tw9339897260641338644:=0
def tw8397856124783764769:=0
def tw12155008183067550832:=0
def tw16565927755804109735:=0
def tw14826523094056820538:=0
def tw12878335288249792693:=0
def tw14614242701192739261:=0
def tw11370893154786592903:=0
def tw6136515786292296269:=0
def tw3049353325236881591:=0
def tw2855384296416933620:=0
def tw18244819423133219229:=0
def tw7436569047877886627:=0
def tw9538057341348787316:=0
def tw10622123189323032072:=0
def tw12097885584344429968:=0
def tw6397237502637198814:=0
def tw4244759901168890057:=0
def tw14291902090495674966:=0
def tw4350507994830620594:=0
def tw2198678702811335769:=0
def tw2751811585192462147:=0
def tw17901055452861158428:=0
def tw10011161298100333187:=0
def tw2098291766548975537:=0
def tw7753861612214293185:=0
def tw5579921120410943365:=0
def tw2275771591385132380:=0
def tw9397082615503950835:=0
def tw8398120629502916976:=0
def tw3529225161397044441:=0
def tw3156023257542440711:=0
def tw6347258280252088656:=0
def tw11932393105665320409:=0
def tw5477994618379588128:=0
def tw3431720038948670237:=0
def tw1308792613339689281:=0
def tw16148559310949773709:=0
def tw11335973737956777472:=0
def tw3357296300551452333:=0
def tw15462739846333972011:=0
def tw11785189709623617728:=0
def tw3236455655198374227:=0
def tw9517782605684556872:=0
def tw906821910809530948:=0
def tw18405325161231617543:=0
def tw9953747756180333102:=0
def tw9102255648668793917:=0
def tw12518371131711647113:=0
def tw6458132966802269577:=0
def tw2366362944431148479:=0
def tw960207736345480373:=0
def tw2683943985269741648:=0
def tw7365808710490006550:=0
def tw14070301630826179317:=0
def tw5876929095130581276:=0
def tw8274588397076168726:=0
def tw8750249564333384338:=0
def tw12944710358729934114:=0
def tw14585506575524839795:=0
def tw1625848273157427029:=0
def tw4363779749576551582:=0
def tw250652902047557464:=0
def tw1870149735528101126:=0
def tw7720774842564164309:=0
def tw7394978797775264956:=0
def tw13825651364797755727:=0
def tw17210263931127464236:=0
def tw13452789507084071575:=0
def tw8507969758096862898:=0
def tw6652838384497291341:=0
def tw2085918273332229851:=0
def tw14225380595541310547:=0
def tw13285512752837188699:=0
def tw17127309625570945344:=0
def tw15449446258754516653:=0
def tw4371127680074993417:=0
def tw14427633181284163611:=0
def tw1484430646615810013:=0
def tw5148521172647429652:=0
def tw4952426480731529631:=0
def tw2244170255709590952:=0
def tw1602457911569815466:=0
def tw1198193502929654651:=0
def tw15198193594113698715:=0
def tw7959846432046363645:=0
def tw14729764112248536192:=0
def tw10060913704278031293:=0
def tw8453255304706289742:=0
def tw1974223669362660898:=0
def tw14619012050257294059:=0
def tw13763225269702139992:=0
def tw1068449250764214266:=0
def tw14688505942314452910:=0
def tw10396779597342090451:=0
def tw18304122374700295849:=0
def tw5087596077821270558:=0
def tw2780056231834604754:=0
def tw17683338207413568650:=0
def tw5318476481909187916:=0
def tw88861157108359540:=0
def tw643134891860259582:=0
def tw6371113319187480328:=0
def tw1385092528286878875:=0
def tw6482344696036485791:=0
def tw11043152765240790380:=0
def tw6819667208436357798:=0
def tw17967092559043405581:=0
def tw16890457323693377335:=0
def tw8883345811951518519:=0
def tw10198745226127655479:=0
def tw2831188013789326757:=0
def tw413256579679836028:=0
def tw2992935132009276971:=0
def tw2209885785422314592:=0
def tw8671747261480594185:=0
def tw8894044179869155758:=0
def tw4943237358404631043:=0
def tw2605001089223422890:=0
def tw3133251898735162231:=0
def tw11211473778360798503:=0
def tw18220172547611698031:=0
def tw14414437026106584510:=0
def tw5986676551954366202:=0
def tw7887432427122277966:=0
end PySem.W.Fast
section
end
variable {fd fdn fda fdsweep_if_due fdfirst_there fde fdneed fdenter fdholds fdcut fdo fds fdw:PySem.FuncData}{pins pins':List (PySem.Addr×PySem.Obj)}{Q E:PySem.Value->PySem.Shared->Prop}{f a C e b p d D CN fn fsweep_if_due fa CC CL ffirst_there fneed fenter fe fcut td:PySem.Addr}{s s':PySem.Shared}{K:PySem.W.Frag}{x z qual x2:PySem.Str}{A:PySem.Around}{w:PySem.World}{n i j m lo nrem:Nat}{us vs its args ws its':List PySem.Value}{cap:List Nat}{forms:List (PySem.Str×PySem.Addr)}{u a0 cls:PySem.Value}{base h h':PySem.Heap}{outer:List PySem.Env}{pos cpos pos' apos px:PySem.Pos}{tg iter elt value:PySem.Expr}{scope:PySem.Scope}{st:PySem.Stmt}{N ps NB loose:List PySem.Str}{mg mA:PySem.Str->Option PySem.Value}{env:PySem.Env}{ifs es:List PySem.Expr}{prog q:PySem.Program}{kw:List (PySem.Str×PySem.Value)}{use:Option (PySem.Value->PySem.Sem Unit)}{L every:List (Int×PySem.Str)}{osl:Array (Option PySem.Value)}{YP:PySem.World->PySem.Heap->Prop}{ch fp:List PySem.Addr}{items:Array PySem.Value}{body:List PySem.Stmt}{hadNext:Bool}{hi:Option Int}{pl:PySem.Sem Bool}{oe:PySem.Obj}{B:Prop}{newId:String}
def ah:=@List.not_mem_nil
def ax:=@List.mem_cons
def bt:=@List.getElem?_eq_getElem
def A0:=@Nat.le_trans
def A9:=@Nat.le_refl
def Ba:=@of_decide_eq_true
def Bb:=@decide_eq_true
def Bc:=@if_neg
def Be:=@PySem.wpAny_bind
def Bf:=@if_pos
def Bg:=@PySem.Heap.get?_push_of_some
def Bh:=@List.length_map
def Bi:=@List.length_append
def Bj:=@List.length_cons
def Bk:=@List.mem_cons_of_mem
def Bm:=@Bool.false_ne_true
def Bn:=@or_false
def Bo:=@List.size_toArray
def Bp:=@PySem.Heap.lt_size
def Bq:=@List.mem_append_right
def Br:=@decide_eq_false
def Bt:=@List.mem_singleton
def Bu:=@List.getElem?_eq_some_iff
def Bv:=@PySem.wpAny_pure
def Bw:=@Nat.lt_of_lt_of_le
def Bx:=@List.length_eq_zero_iff
def By:=@Bool.and_eq_true
def Bz:=@List.getD_eq_getElem?_getD
def BA:=@List.map_cons
def BB:=@PySem.Heap.get?_push_size
def BC:=@List.mem_of_getElem?
def BD:=@List.mem_cons_self
def BE:=@Nat.ne_of_lt
def BF:=@List.mem_map
def BG:=@List.mem_append
def BH:=@List.getElem?_map
def BI:=@Option.some.inj
def BJ:=@List.mem_filter
def BK:=@Nat.zero_le
def BL:=@List.map_append
def BM:=@Nat.lt_of_le_of_lt
def BN:=@PySem.Heap.get?_update_other
def BO:=@List.filter_cons
def BP:=@List.nodup_cons
def BQ:=@List.length_filter_le
def BR:=@decide_eq_true_eq
def BS:=@List.length_take
def BU:=@List.length_dropLast
def BV:=@PyProof.Rows.slot_tuple_getitem
def BW:=@PySem.PassesOwn.never
def BX:=@Bool.false_eq_true
def BY:=@List.mem_filterMap
def BZ:=@Nat.lt_trans
def B0:=@PySem.wpAny_mono
def B9:=@Array.getElem?_eq_some_iff
def Ca:=@PyProof.Rows.wpS_bind
def Cb:=@List.lookup_cons
def Cc:=@Int.toNat_natCast
def Cd:=@List.mem_append_left
def Ce:=@List.take_of_length_le
def Cf:=@Sum.inr.inj
def Cg:=@List.append_nil
def Ci:=@Nat.le_succ
def Cj:=@List.getElem_mem
def Ck:=@List.cons_append
def Cm:=@Ne.symm
def Cn:=@List.length_set
def Co:=@List.take_length
def Cp:=@List.length_replicate
def Cq:=@List.append_assoc
def Cr:=@Bool.eq_iff_iff
def Cs:=@List.find?_cons
def Ct:=@PySem.F.plainAttrs_list
def Cu:=@Nat.succ_le_succ
def Cv:=@PySem.wpAny_newObj_type
def Cw:=@List.getElem_of_mem
def Cy:=@Array.getElem?_setIfInBounds_ne
def Cz:=@List.take_add_one
def CA:=@PyProof.Rows.wpS_pure
def CD:=@List.getElem?_append_left
def CF:=@List.nodup_nil
def CG:=@List.length_nil
def CH:=@PySem.lookup_relabel_local
def CI:=@Nat.lt_irrefl
def CJ:=@List.pairwise_map
def CK:=@PyProof.Rows.KeyOrd.kle_refl
def CM:=@beq_eq_false_iff_ne
def CP:=@PySem.Calls.callWith_builtin
def CQ:=@PyProof.Rows.KeyOrd.kle_trans
def CS:=@Nat.lt_succ_self
def CT:=@Nat.le_add_right
def CU:=@PySem.Paired.length
def CV:=@PySem.Heap.get?_update_self
def CY:=@PySem.Obj.data_mapFields
def CZ:=@PySem.F.slot_dict_get
def C0:=@PySem.Calls.evalArgs_plain
def C9:=@PySem.wpAny_truthy_bool
def Dc:=@PySem.wpAny_passesOwn
def De:=@List.nodup_append
def Dg:=@PySem.F.slot_str_getitem
def Dh:=@PySem.Heap.get?_push_ne
def Di:=@PySem.F.slot_list_append
def Dj:=@PySem.F.type_list_append
def Dk:=@List.map_nil
def Dm:=@Array.length_toList
def Dp:=@PySem.mem_of_lookup
def Dq:=@PySem.wpAny_field
def Dr:=@List.getElem?_cons_succ
def Ds:=@PySem.F.plainAttrs_dict
def Du:=@List.map_congr_left
def Dv:=@List.filter_sublist
def Dw:=@PySem.wpAny_getItem_str_slice
def Dx:=@Int.eq_ofNat_of_zero_le
def Dy:=@List.any_eq_true
def Dz:=@List.all_eq_true
def DC:=@List.take_append_of_le_length
def DD:=@List.cons_ne_nil
def DE:=@if_false
def DF:=@PySem.Calls.spliced_cons
def DG:=@List.zip_cons_cons
def DH:=@PySem.wpAny_Call_Name_kw
def DI:=@PySem.tupleKind_room_in1
def DJ:=@Nat.le_of_lt
def DL:=@PyProof.Rows.callWith_type1
def DM:=@PySem.wpAny_execs_nil
def DN:=@List.getElem?_eq_none
def DO:=@List.perm_append_comm
def DP:=@PySem.Obj.isFreed_of_fields
def DQ:=@PySem.wpAny_holding
def DS:=@PySem.typeIs_str
def DT:=@not_false_eq_true
def DU:=@List.perm_ext_iff_of_nodup
def DV:=@PySem.F.excBase_ValueError
def DW:=@List.mem_range
def DX:=@PySem.W.kia_one
def DY:=@PySem.wpAny_setField
def DZ:=@PySem.Heap.size_update
def D0:=@List.toList_toArray
def D4:=@PySem.F.args_tuple_add_2
def D5:=@List.Pairwise.imp_of_mem
def D6:=@PySem.F.entry_tuple_add
def D7:=@PySem.F.args_tuple_lt_2
def D8:=@Bool.true_and
def D9:=@Option.isSome_some
def Ea:=@List.filter_append
def Eb:=@PySem.F.slot_tuple_add
def Ec:=@PySem.richCompare_meets_room
def Ed:=@PySem.F.entry_tuple_lt
def Ee:=@PySem.F.entry_dict_get
def Ef:=@not_or
def Eg:=@PyProof.Rows.KeyOrd.kle_of_klt
def Eh:=@beq_iff_eq
def Ei:=@PySem.Calls.spliced_nil
def Ej:=@Bool.not_eq_true'
def Ek:=@List.length_range
def El:=@Nat.lt_succ_of_lt
def Em:=@Classical.not_not
def Eo:=@PyProof.Rows.wpS_forRange
def Ep:=@PySem.F.slot_tuple_lt
def Er:=@List.mem_of_mem_erase
def Es:=@List.contains_iff_mem
def Et:=@if_true
def Eu:=@List.mem_reverse
def Ew:=@beq_self_eq_true
def Ex:=@List.dropLast_concat_getLast
def Ey:=@List.dropLast_cons_of_ne_nil
def Ez:=@List.any_cons
def EA:=@Bool.and_true
def EB:=@List.cons.inj
def EC:=@List.filterMap_cons
def ED:=@Bool.or_eq_true
def EE:=@Option.map_some
def EF:=@PySem.post_val_or_str
def EG:=@List.nil_append
def EH:=@List.filter_nil
def EI:=@Array.perm_iff_toList_perm
def EJ:=@PySem.Calls.Name_function_global
def EK:=@List.nodup_iff_pairwise_ne
def EL:=@List.getElem?_take
def EM:=@Nat.le_of_eq
def EN:=@PySem.codeAny_mono
def EO:=@of_decide_eq_false
def ER:=@PySem.call_meetsIn
def ES:=@PySem.Txt.slice_le
def ET:=@PyProof.Rows.pairsOf_size
def EU:=@Int.lt_trans
def EV:=@Int.natAbs_natCast
def EW:=@PySem.Heap.size_push
def EX:=@List.getElem?_zip_eq_some
def EY:=@List.drop_zero
def EZ:=@List.mem_or_eq_of_mem_set
def E6:=@PySem.wpAny_rule
def E7:=@List.getElem_take
def E8:=@Option.isSome_iff_exists
def E9:=@PySem.SeqAt.EqAt.same
def Fb:=@Option.isSome_map
def Fc:=@PySem.wpAny_Call_method
def Fd:=@List.length_erase_of_mem
def Fe:=@PySem.F.slot_dict_values
def Ff:=@List.eq_of_mem_replicate
def Fg:=@Int.mul_one
def Fh:=@Prod.mk.injEq
def Fi:=@List.getLast_eq_getElem
def Fj:=@PySem.F.args_dict_get_2
def Fl:=@List.length_drop
def Fm:=@PySem.noFill_tuple_add
def Fn:=@PySem.wpAny_call_entry
def Fo:=@Nat.le_of_not_lt
def Fp:=@PySem.wpAny_execs_cons
def Fq:=@List.Sublist.map
def Fs:=@List.getElem?_set_self
def Ft:=@Option.map_eq_some_iff
def Fu:=@Nat.div_div_eq_div_mul
def Fv:=@List.length_pos_of_mem
def Fw:=@List.length_eq_one_iff
def Fx:=@PySem.F.plainAttrs_str
def Fy:=@Nat.ne_of_gt
def Fz:=@List.of_mem_zip
def FA:=@Array.getElem?_toList
def FC:=@PySem.W.callWith_K
def FD:=@PySem.F.slot_dict_pop
def FE:=@PySem.W.methodCall_KW
def FF:=@PySem.F.type_dict_get
def FG:=@Nat.le_div_iff_mul_le
def FH:=@List.map_map
def FI:=@List.filter_map
def FJ:=@Nat.succ.inj
def FK:=@Bool.and_eq_false_iff
def FL:=@PySem.F.slot_list_pop
def FN:=@PySem.F.type_list_pop
def FP:=@List.dropLast_sublist
def FQ:=@Nat.min_eq_left
def FR:=@PySem.call_meets
def FT:=@List.getElem?_set_ne
def FU:=@List.mem_erase_of_ne
def FV:=@List.perm_cons_erase
def FX:=@Nat.mul_le_mul_right
def FY:=@PySem.sizeLine_eq
def FZ:=@List.not_lt
def Ga:=@Nat.log2_lt
def Gb:=@PySem.Paired.snoc
def Gd:=@List.map_eq_nil_iff
def Ge:=@Int.mul_add
def Gf:=@Bool.false_or
def Gg:=@Nat.zero_add
def Gh:=@List.map_set
def Gi:=@Int.add_zero
def Gj:=@and_true
def Gk:=@Int.le_refl
theorem L2.sz0:0<=PySem.sizeLine:=by decide
theorem L2.sz1:1<=PySem.sizeLine:=by decide
theorem L2.sz10:10<=PySem.sizeLine:=by decide
theorem L2.sz2:2<=PySem.sizeLine:=by decide
theorem L2.sz3:3<=PySem.sizeLine:=by decide
theorem L2.sz4:4<=PySem.sizeLine:=by decide
theorem L2.sz5:5<=PySem.sizeLine:=by decide
theorem L2.sz7:7<=PySem.sizeLine:=by decide
theorem L2.sz8:8<=PySem.sizeLine:=by decide
theorem AV {p:Prop}(h:p:=by decide +kernel):p:=h
theorem AW {p:Prop}(h:p:=by decide):p:=h
theorem AX {p:Prop}(h:p:=by lia):p:=h
theorem AY {p:Prop}(h:p:=by simp):p:=h
theorem AZ {α:Type _}{a b:α}(h:a∈[b]):a=b:=List.mem_singleton.mp h
namespace TS
open PySem PyProof.Rows
def kf (J:KeyKind)(p:Keyed):J.α:=(J.keyOf p.1).getD J.dflt
def Lb (J:KeyKind)(p q:Keyed):Bool:=J.blt (kf J p) (kf J q)
def Le (J:KeyKind)(p q:Keyed):Prop:=Lb J q p=false
section ord
variable {J:KeyKind}{p q r:Keyed}
theorem Le.refl (p:Keyed):Le J p p:=J.irrefl _
end ord
structure Cmp (prog:Program)(w:World)(A:Around)(s:Shared)(J:KeyKind)(kd:SortKind)(a₀:Array Keyed):Prop where
 on:∀x y:Keyed,x∈a₀.toList->y∈a₀.toList->∀(E:Value->Shared->Prop) (Q:Bool->Shared->Prop),Q (Lb J x y) s->wpAny (model prog w) A (keyLt' kd x.1 y.1) Q E s
structure SB (kd:SortKind)(a₀:Array Keyed)(st:SortSt):Prop where
 perm:(arrOf st).Perm a₀
 kind:kindOf st=kd
 fail:failedOf st=none
theorem xZ {J:KeyKind}{xs:Array Keyed}{p:Keyed}(h:xs[i]?=some p):KK J xs i=kf J p:=by
 unfold KK;rw [h];rfl
section
variable {kd:SortKind}{a₀:Array Keyed}{st:SortSt}{J:KeyKind}
theorem SB.size (B:SB kd a₀ st):(arrOf st).size=a₀.size:=B.perm.size_eq
theorem SB.at (B:SB kd a₀ st)(h:i<a₀.size):∃ p,(arrOf st)[i]?=some p/\p∈a₀.toList/\KK J (arrOf st) i=kf J p:=by
 have h':i<(arrOf st).size:=by rw [B.size];exact h
 have e:(arrOf st)[i]?=some (arrOf st)[i]:=getElem?_pos _ i h'
 exact ⟨_,e,(EI.mp B.perm).mem_iff.mp AY,xZ e⟩
theorem SB.arr (B:SB kd a₀ st){xs:Array Keyed}(h:xs.Perm (arrOf st)):SB kd a₀ (setArr st xs):=⟨h.trans B.perm,B.kind,B.fail⟩
end
section
variable {prog:Program}{w:World}{A:Around}{E:Value->Shared->Prop}{s:Shared}{J:KeyKind}{kd:SortKind}{a₀:Array Keyed}{st:SortSt}
theorem uB {arr:Array Keyed}{p:Keyed}{Q:Keyed->SortSt->Prop}(h:arr[i]?=some p)(q:Q p st):wpS (model prog w) A E s (elem' arr i) Q st:=by
 rw [elem'_eq,h];exact CA q
theorem AG (C:Cmp prog w A s J kd a₀){x y:Keyed}{Q:Option Bool->SortSt->Prop}(hx:x∈a₀.toList)(hy:y∈a₀.toList)(hk:kindOf st=kd)(q:Q (some (Lb J x y)) st):
  wpS (model prog w) A E s (lt' x y) Q st:=by
 rw [lt'_eq]
 refine Ca (wpS_get ?_)
 rw [hk]
 refine Ca (wpS_lift (wpAny_attempt (C.on x y hx hy _ _ ⟨rfl,?_⟩)))
 exact CA q
theorem ii (C:Cmp prog w A s J kd a₀)(B:SB kd a₀ st){Q:Option Bool->SortSt->Prop}(hi:i<a₀.size)(hj:j<a₀.size)(q:Q (some (J.blt (KK J (arrOf st) i) (KK J (arrOf st) j))) st):wpS (model prog w) A E s (ltAt' i j) Q st:=by
 obtain ⟨x,ex,mx,kx⟩:=B.at (J:=J) hi
 obtain ⟨y,ey,my,ky⟩:=B.at (J:=J) hj
 rw [ltAt'_eq]
 refine Ca (wpS_get ?_)
 show wpS _ _ _ _ (do let x <-elem' (arrOf st) i;let y <-elem' (arrOf st) j;lt' x y) Q st
 refine Ca (uB ex (Ca (uB ey (AG C mx my B.kind ?_))))
 rw [kx,ky] at q;exact q
def Up (J:KeyKind)(xs:Array Keyed)(lo n:Nat):Prop:=∀i j,lo<=i->i<=j->j<lo+n->J.kle (KK J xs i) (KK J xs j)
def Dn (J:KeyKind)(xs:Array Keyed)(lo n:Nat):Prop:=∀i j,lo<=i->i<=j->j<lo+n->J.kle (KK J xs j) (KK J xs i)
def Kp (lo:Nat)(xs ys:Array Keyed):Prop:=∀k,k<lo->xs[k]?=ys[k]?
theorem Kp.trans {x y z:Array Keyed}(a:Kp lo x y)(b:Kp lo y z):Kp lo x z:=fun k h=>(a k h).trans (b k h)
theorem Kp.refl {x:Array Keyed}:Kp lo x x:=fun _ _=>rfl
theorem dN {xs:Array Keyed}(hj:j<=xs.size)(hl:lo<=i):Kp lo (mirror xs i j ((j-i) / 2)) xs:=fun k h=>by
 rw [getElem?_mirror_all hj,Bc AX]
theorem r9 {xs:Array Keyed}{src d:Nat}(hs:src<xs.size)(hd:d<=src)(hl:lo<=src-d):Kp lo (bubble xs src d) xs:=fun k h=>by
 rw [getElem?_bubble hs d hd,Bc AX,Bc AX]
theorem y8 {xs:Array Keyed}:Up J xs lo 1:=fun i j a b c=>by
 have e:i=j:=by lia
 subst e;exact CK _
theorem Up.snoc {xs:Array Keyed}(h:Up J xs lo n)(h1:1<=n)(h2:J.blt (KK J xs (lo+n)) (KK J xs (lo+n-1))=false):Up J xs lo (n+1):=fun i j a b c=>by
 by_cases hj:j<lo+n
 .exact h i j a b hj
 have e:j=lo+n:=by lia
 subst e
 by_cases hi:i=lo+n
 .subst hi;exact CK _
 exact CQ (h i (lo+n-1) a AX AX) h2
theorem Dn.snoc {xs:Array Keyed}(h:Dn J xs lo n)(h1:1<=n)(h2:J.kle (KK J xs (lo+n)) (KK J xs (lo+n-1))):Dn J xs lo (n+1):=fun i j a b c=>by
 by_cases hj:j<lo+n
 .exact h i j a b hj
 have e:j=lo+n:=by lia
 subst e
 by_cases hi:i=lo+n
 .subst hi;exact CK _
 exact CQ h2 (h i (lo+n-1) a AX AX)
theorem Dn.same {xs ys:Array Keyed}(h:Dn J xs lo n)(e:∀k,KK J ys k=KK J xs k):Dn J ys lo n:=fun i j a b c=>by rw [e,e];exact h i j a b c
theorem Dn.turn {xs:Array Keyed}(h:Dn J xs lo n)(hs:lo+n<=xs.size):Up J (mirror xs lo (lo+n) ((lo+n-lo) / 2)) lo n:=fun i j a b c=>by
 rw [KK_mirror hs,KK_mirror hs,Bf AX,Bf AX]
 exact h _ _ AX AX AX
def Run (J:KeyKind)(kd:SortKind)(a₀:Array Keyed)(lo nrem:Nat)(st₀:SortSt)(m:Nat)(st:SortSt):Prop :=
 SB kd a₀ st/\pendingOf st=pendingOf st₀/\Kp lo (arrOf st) (arrOf st₀)/\1<=m/\m<=nrem/\Up J (arrOf st) lo m
theorem dQ {Q:Unit->SortSt->Prop}(h:Q () (setArr st (mirror (arrOf st) i j ((j-i) / 2)))):wpS (model prog w) A E s (reverseSlice' i j) Q st:=by
 rw [reverseSlice'_eq];exact wpS_modify h
abbrev C2:=Option (Option Nat)×Nat
abbrev C3:=Option (Option Nat)×Nat×Nat
def clb (lo n nrem:Nat):StateT SortSt Sem C2 :=
 forIn [n:nrem] ((none,n):C2) fun _ c=>ltAt' (lo+c.2) (lo+c.2-1) >>= fun x=>match x with
  | some b=>if b=true then pure (ForInStep.done (none,c.2)) else pure (ForInStep.yield (none,c.2+1))
  | _=>pure (ForInStep.done (some none,c.2))
def trn (lo m nrem:Nat):StateT SortSt Sem (Option Nat) :=
 reverseSlice' lo (lo+m) >>= fun _=>clb lo m nrem >>= fun d=>match d.1 with
  | some r=>pure r
  | none=>pure (some d.2)
def fll (lo n nrem:Nat):StateT SortSt Sem C3 :=
 forIn [n:nrem] ((none,n,0):C3) fun _ c=>ltAt' (lo+c.2.1) (lo+c.2.1-1) >>= fun x=>match x with
  | some b=>if b=true then
     if c.2.2>0 then reverseSlice' (lo+c.2.1-(c.2.2+1)) (lo+c.2.1) >>= fun _=>pure (ForInStep.yield (none,c.2.1+1,0))
     else pure (ForInStep.yield (none,c.2.1+1,0))
    else ltAt' (lo+c.2.1-1) (lo+c.2.1) >>= fun y=>match y with
     | some b'=>if b'=true then pure (ForInStep.done (none,c.2.1,c.2.2)) else pure (ForInStep.yield (none,c.2.1+1,c.2.2+1))
     | _=>pure (ForInStep.done (some none,c.2.1,c.2.2))
  | _=>pure (ForInStep.done (some none,c.2.1,c.2.2))
def fpt (lo n nrem:Nat):StateT SortSt Sem (Option Nat) :=
 liftM (rule "list.sort.descending-run") >>= fun _=>fll lo (n+1) nrem >>= fun c=>match c.1 with
  | some r=>pure r
  | none=>if c.2.2>0 then reverseSlice' (lo+c.2.1-(c.2.2+1)) (lo+c.2.1) >>= fun _=>trn lo c.2.1 nrem else trn lo c.2.1 nrem
theorem yC (lo nrem:Nat):countRun' lo nrem=clb lo 1 nrem >>= fun c=>match c.1 with
  | some r=>pure r
  | none=>if (c.2 == nrem)=true then pure (some c.2) else
    if c.2>1 then ltAt' lo (lo+c.2-1) >>= fun x=>match x with
     | some b=>if b=true then pure (some c.2) else reverseSlice' lo (lo+c.2) >>= fun _=>fpt lo c.2 nrem
     | _=>pure none
    else fpt lo c.2 nrem:=by
 have leaf:∀n,(liftM (rule "list.sort.descending-run") >>= fun _=>forIn [n+1:nrem] ((none,n+1,0):C3) (fun _ c=>ltAt' (lo+c.2.1) (lo+c.2.1-1) >>= fun x=>match x with
  | some b=>if b=true then
     if c.2.2>0 then reverseSlice' (lo+c.2.1-(c.2.2+1)) (lo+c.2.1) >>= fun _=>pure (ForInStep.yield (none,c.2.1+1,0))
     else pure (ForInStep.yield (none,c.2.1+1,0))
    else ltAt' (lo+c.2.1-1) (lo+c.2.1) >>= fun y=>match y with
     | some b'=>if b'=true then pure (ForInStep.done (none,c.2.1,c.2.2)) else pure (ForInStep.yield (none,c.2.1+1,c.2.2+1))
     | _=>pure (ForInStep.done (some none,c.2.1,c.2.2))
  | _=>pure (ForInStep.done (some none,c.2.1,c.2.2))) >>= fun c=>match c.1 with
  | some r=>pure r
  | none=>if c.2.2>0 then reverseSlice' (lo+c.2.1-(c.2.2+1)) (lo+c.2.1) >>= fun _=>trn lo c.2.1 nrem else trn lo c.2.1 nrem)=fpt lo n nrem:=fun n=>rfl
 rw [countRun'_eq]
 dsimp only
 unfold clb
 congr 1
 funext c
 obtain ⟨r,n⟩:=c
 cases r with
 | some r=>rfl
 | none =>
  dsimp only
  split
  .rfl
  .split
   .congr 1
    funext x
    cases x with
    | none=>rfl
    | some b =>
     dsimp only
     split
     .rfl
     .congr 1
      funext _
      rw [<-leaf n]
      congr 1;funext _;congr 1;funext c;obtain ⟨r,m,q⟩:=c
      cases r with
      | some r=>rfl
      | none =>
       dsimp only
       unfold trn clb
       split
       .congr 1;funext _;congr 1;funext _;congr 1;funext d;obtain ⟨r,m⟩:=d;cases r <;> rfl
       .congr 1;funext _;congr 1;funext d;obtain ⟨r,m⟩:=d;cases r <;> rfl
   .rw [<-leaf n]
    congr 1;funext _;congr 1;funext c;obtain ⟨r,m,q⟩:=c
    cases r with
    | some r=>rfl
    | none =>
     dsimp only
     unfold trn clb
     split
     .congr 1;funext _;congr 1;funext _;congr 1;funext d;obtain ⟨r,m⟩:=d;cases r <;> rfl
     .congr 1;funext _;congr 1;funext d;obtain ⟨r,m⟩:=d;cases r <;> rfl
theorem yd (C:Cmp prog w A s J kd a₀)(B:SB kd a₀ st){Q:C2->SortSt->Prop}(hn:lo+nrem=a₀.size)(h1:1<=n)(h2:n<=nrem)(u:Up J (arrOf st) lo n)(k:∀m,n<=m->m<=nrem->Up J (arrOf st) lo m->(m=nrem∨J.blt (KK J (arrOf st) (lo+m)) (KK J (arrOf st) (lo+m-1))=true)->Q (none,m) st):
  wpS (model prog w) A E s (clb lo n nrem) Q st:=by
 unfold clb
 refine Eo (I:=fun x c st'=>st'=st/\c=(none,x)/\Up J (arrOf st) lo x) ?_ ?_ ⟨rfl,rfl,u⟩
 .rintro x c st' ha hb ⟨rfl,rfl,u'⟩
  dsimp only
  refine Ca (ii C B AX AX ?_)
  cases e:J.blt (KK J (arrOf st') (lo+x)) (KK J (arrOf st') (lo+x-1)) with
  | true=>simp only [Et];exact CA (k x ha AX u' (.inr e))
  | false=>simp only [BX,DE];exact CA ⟨rfl,rfl,u'.snoc AX e⟩
 rintro c st' ⟨rfl,rfl,u'⟩
 rw [show max n nrem=nrem by lia] at u' ⊢
 exact k nrem h2 (A9 _) u' (.inl rfl)
theorem yc (C:Cmp prog w A s J kd a₀)(B:SB kd a₀ st){st0:SortSt}{Q:Option Nat->SortSt->Prop}(hn:lo+nrem=a₀.size)(p:pendingOf st=pendingOf st0)(kp:Kp lo (arrOf st) (arrOf st0))(hm1:1<=m)(hm2:m<=nrem)(d2:Dn J (arrOf st) lo m)(h:∀m st',Run J kd a₀ lo nrem st0 m st'->Q (some m) st'):wpS (model prog w) A E s (trn lo m nrem) Q st:=by
 unfold trn
 have sz:lo+m<=(arrOf st).size:=by rw [B.size];lia
 refine Ca (dQ ?_)
 have B3:SB kd a₀ (setArr st (mirror (arrOf st) lo (lo+m) ((lo+m-lo) / 2))):=B.arr (mirror_perm _ _ _ _)
 refine Ca (yd C B3 hn hm1 hm2 (d2.turn sz) fun x hx1 hx2 ux _=>?_)
 exact CA (h x _ ⟨B3,p,(dN sz (A9 _)).trans kp,AX,hx2,ux⟩)
theorem yf (C:Cmp prog w A s J kd a₀)(B:SB kd a₀ st){st0:SortSt}{Q:Option Nat->SortSt->Prop}(hn:lo+nrem=a₀.size)(p:pendingOf st=pendingOf st0)(kp:Kp lo (arrOf st) (arrOf st0))(hn1:1<=n)(hn2:n+1<=nrem)(d:Dn J (arrOf st) lo (n+1))(h:∀m st',Run J kd a₀ lo nrem st0 m st'->Q (some m) st'):wpS (model prog w) A E s (fpt lo n nrem) Q st:=by
 unfold fpt
 refine Ca (wpS_lift (E6 ⟨rfl,?_⟩))
 refine Ca ?_
 unfold fll
 refine wpS_mono (Eo (I:=fun x c st'=>∃ q,c=(none,x,q)/\SB kd a₀ st'/\pendingOf st'=pendingOf st0/\Kp lo (arrOf st') (arrOf st0)/\Dn J (arrOf st') lo x/\q+1<=x /\
   ∀i,lo+x-(q+1)<=i->i<lo+x->KK J (arrOf st') i=KK J (arrOf st') (lo+x-1))
  (Q:=fun c st'=>∃ x q,c=(none,x,q)/\1<=x/\x<=nrem/\SB kd a₀ st'/\pendingOf st'=pendingOf st0/\Kp lo (arrOf st') (arrOf st0)/\Dn J (arrOf st') lo x/\q+1<=x /\
   ∀i,lo+x-(q+1)<=i->i<lo+x->KK J (arrOf st') i=KK J (arrOf st') (lo+x-1)) ?_ ?_ ⟨0,rfl,B,p,kp,d,AX,fun i a b=>by congr 1;lia⟩) ?_
 .rintro x c st' ha hb ⟨q,rfl,B',p',k',d',hq,he⟩
  dsimp only
  have sz:lo+x<=(arrOf st').size:=by rw [B'.size];lia
  refine Ca (ii C B' AX AX ?_)
  cases e:J.blt (KK J (arrOf st') (lo+x)) (KK J (arrOf st') (lo+x-1)) with
  | true =>
   simp only [Et]
   have d2:Dn J (arrOf st') lo (x+1):=d'.snoc AX (Eg e)
   by_cases hq0:q>0
   .rw [Bf hq0]
    refine Ca (dQ (CA ⟨0,rfl,B'.arr (mirror_perm _ _ _ _),p',(dN sz AX).trans k',d2.same (KK_mirror_equal sz he),AX,fun i a b=>by congr 1;lia⟩))
   .rw [Bc hq0]
    exact CA ⟨0,rfl,B',p',k',d2,AX,fun i a b=>by congr 1;lia⟩
  | false =>
   simp only [BX,DE]
   refine Ca (ii C B' AX AX ?_)
   cases e2:J.blt (KK J (arrOf st') (lo+x-1)) (KK J (arrOf st') (lo+x)) with
   | true=>simp only [Et];exact CA ⟨x,q,rfl,AX,AX,B',p',k',d',hq,he⟩
   | false =>
    simp only [BX,DE]
    have eq1:KK J (arrOf st') (lo+x)=KK J (arrOf st') (lo+x-1):=J.total _ _ e e2
    refine CA ⟨q+1,rfl,B',p',k',d'.snoc AX (by rw [eq1];exact CK _),AX,fun i a b=>?_⟩
    rw [show lo+(x+1)-1=lo+x by lia]
    by_cases hi:i=lo+x
    .rw [hi]
    .rw [eq1];exact he i AX AX
 .rintro c st' ⟨q,rfl,B',p',k',d',hq,he⟩
  rw [show max (n+1) nrem=nrem by lia] at d' hq he ⊢
  exact ⟨nrem,q,rfl,AX,A9 _,B',p',k',d',hq,he⟩
 rintro c st' ⟨x,q,rfl,hx1,hx2,B',p',k',d',hq,he⟩
 dsimp only
 have sz:lo+x<=(arrOf st').size:=by rw [B'.size];lia
 by_cases hq0:q>0
 .rw [Bf hq0]
  exact Ca (dQ (yc C (B'.arr (mirror_perm _ _ _ _)) hn p' ((dN sz AX).trans k') hx1 hx2 (d'.same (KK_mirror_equal sz he)) h))
 rw [Bc hq0]
 exact yc C B' hn p' k' hx1 hx2 d' h
theorem xj (C:Cmp prog w A s J kd a₀)(B:SB kd a₀ st){Q:Option Nat->SortSt->Prop}(hn:lo+nrem=a₀.size)(h1:1<=nrem)(h:∀m st',Run J kd a₀ lo nrem st m st'->Q (some m) st'):wpS (model prog w) A E s (countRun' lo nrem) Q st:=by
 rw [yC]
 refine Ca (yd C B hn (A9 _) h1 y8 fun n hn1 hn2 u or=>?_)
 dsimp only
 by_cases hnn:n=nrem
 .rw [Bf (by simpa using hnn)]
  exact CA (h n st ⟨B,rfl,Kp.refl,hn1,hn2,u⟩)
 rw [Bc (by simpa using hnn)]
 have lt:=or.resolve_left hnn
 by_cases hg:n>1
 .rw [Bf hg]
  refine Ca (ii C B AX AX ?_)
  cases e:J.blt (KK J (arrOf st) lo) (KK J (arrOf st) (lo+n-1)) with
  | true=>simp only [Et];exact CA (h n st ⟨B,rfl,Kp.refl,hn1,hn2,u⟩)
  | false =>
   simp only [BX,DE]
   have sz:lo+n<=(arrOf st).size:=by rw [B.size];lia
   have all:∀k,lo<=k->k<lo+n->KK J (arrOf st) k=KK J (arrOf st) (lo+n-1):=fun k a b =>
    KeyOrd.kle_antisymm (u k (lo+n-1) a AX AX) (CQ e (u lo k (A9 _) a b))
   refine Ca (dQ (yf C (B.arr (mirror_perm _ _ _ _)) (st0:=st) hn rfl (dN sz (A9 _)) hn1 AX ?_ h))
   refine Dn.same (xs:=arrOf st) (Dn.snoc (fun i j a b c=>?_) hn1 (Eg lt)) (KK_mirror_equal sz all)
   rw [all i a AX,all j AX c];exact CK _
 rw [Bc hg]
 have e1:n=1:=by lia
 subst e1
 refine yf C B hn rfl Kp.refl (A9 _) AX (Dn.snoc (fun i j a b c=>?_) (A9 _) (Eg lt)) h
 have e:i=j:=by lia
 subst e;exact CK _
theorem zU (C:Cmp prog w A s J kd a₀)(B:SB kd a₀ st){ok:Nat}{Q:Bool->SortSt->Prop}(hn:lo+n<=a₀.size)(hok:ok<=n)(h1:1<=ok)(u:Up J (arrOf st) lo ok)(h:∀st',SB kd a₀ st'->pendingOf st'=pendingOf st->Kp lo (arrOf st') (arrOf st)->Up J (arrOf st') lo n->Q true st'):wpS (model prog w) A E s (binarySort' lo n ok) Q st:=by
 rw [binarySort'_eq]
 refine Ca (wpS_mono (Eo (I:=fun k c st'=>c=(none,())/\SB kd a₀ st'/\pendingOf st'=pendingOf st/\Kp lo (arrOf st') (arrOf st)/\Up J (arrOf st') lo (min k n))
  (Q:=fun c st'=>c=(none,())/\SB kd a₀ st'/\pendingOf st'=pendingOf st/\Kp lo (arrOf st') (arrOf st)/\Up J (arrOf st') lo n) ?_ ?_ ⟨rfl,B,rfl,Kp.refl,?_⟩) ?_)
 .rintro k c st' ha hb ⟨rfl,B',p',k',u'⟩
  rw [show min k n=k by lia] at u'
  refine Ca (wpS_mono (Eo (I:=fun x c st2=>st2=st'/\∃ l r,c=(none,l,r)/\l<=r/\r<=k/\r-l<=k-x /\
    (∀i,i<l->J.kle (KK J (arrOf st') (lo+i)) (KK J (arrOf st') (lo+k)))/\∀i,r<=i->i<k->J.klt (KK J (arrOf st') (lo+k)) (KK J (arrOf st') (lo+i)))
   (Q:=fun c st2=>st2=st'/\∃ l r,c=(none,l,r)/\l<=k /\
    (∀i,i<l->J.kle (KK J (arrOf st') (lo+i)) (KK J (arrOf st') (lo+k)))/\∀i,l<=i->i<k->J.klt (KK J (arrOf st') (lo+k)) (KK J (arrOf st') (lo+i))) ?_ ?_
   ⟨rfl,0,k,rfl,AX,AX,AX,fun i hi=>by lia,fun i a b=>by lia⟩) ?_)
  .rintro x c st2 _ hx ⟨rfl,l,r,rfl,h1',h2',h3',a,b⟩
   dsimp only
   by_cases hg:l ≥ r
   .rw [Bf hg]
    have e:l=r:=by lia
    subst e
    exact CA ⟨rfl,l,l,rfl,h2',a,b⟩
   .rw [Bc hg]
    refine Ca (ii C B' AX AX ?_)
    cases e:J.blt (KK J (arrOf st2) (lo+k)) (KK J (arrOf st2) (lo+(l+r) / 2)) with
    | true =>
     simp only [Et]
     refine CA ⟨rfl,l,(l+r) / 2,rfl,AX,AX,AX,a,fun i c d=>?_⟩
     exact KeyOrd.klt_of_klt_of_kle e (u' _ _ AX AX AX)
    | false =>
     simp only [BX,DE]
     refine CA ⟨rfl,(l+r) / 2+1,r,rfl,AX,AX,AX,fun i c=>?_,b⟩
     exact CQ (u' (lo+i) (lo+(l+r) / 2) AX AX AX) (show J.kle _ _ from e)
  .rintro c st2 ⟨rfl,l,r,rfl,h1',h2',h3',a,b⟩
   have e:l=r:=by lia
   subst e
   exact ⟨rfl,l,l,rfl,h2',a,b⟩
  .rintro c st2 ⟨rfl,l,r,rfl,hl,a,b⟩
   show wpS _ _ _ _ (moveDown' (lo+k) (lo+l) >>= fun _=>pure (ForInStep.yield (none,()))) _ _
   rw [moveDown'_eq]
   have sz:lo+k<(arrOf st2).size:=by rw [B'.size];lia
   refine Ca (wpS_modify (CA ⟨rfl,B'.arr (bubble_perm _ _ _),p',(r9 sz AX AX).trans k',?_⟩))
   rw [show min (k+1) n=k+1 by lia]
   intro i j hi hij hj
   show J.kle (KK J (bubble (arrOf st2) (lo+k) (lo+k-(lo+l))) i) (KK J (bubble (arrOf st2) (lo+k) (lo+k-(lo+l))) j)
   rw [KK_bubble sz AX,KK_bubble sz AX,show lo+k-(lo+k-(lo+l))=lo+l by lia]
   have a':∀i,lo<=i->i<lo+l->J.kle (KK J (arrOf st2) i) (KK J (arrOf st2) (lo+k)):=fun i c d=>by
    have:=a (i-lo) AX
    rwa [show lo+(i-lo)=i by lia] at this
   have b':∀i,lo+l<=i->i<lo+k->J.kle (KK J (arrOf st2) (lo+k)) (KK J (arrOf st2) i):=fun i c d=>by
    have:=Eg (b (i-lo) AX AX)
    rwa [show lo+(i-lo)=i by lia] at this
   repeat' split
   all_goals first
    | (exfalso;lia)
    | exact CK _
    | exact a' _ AX AX
    | exact b' _ AX AX
    | exact u' _ _ AX AX AX
 .rintro c st' ⟨hc,B',p',k',u'⟩
  refine ⟨hc,B',p',k',?_⟩
  rwa [show min (max (max ok 1) n) n=n by lia] at u'
 .rw [show min (max ok 1) n=ok by lia];exact u
 rintro c st' ⟨rfl,B',p',k',u'⟩
 exact CA (h st' B' p' k' u')
end
section
variable {J:KeyKind}{a b out:List Keyed}{ia ib:Nat}
theorem yY (sa:a.Pairwise (Le J)){x y:Keyed}(hx:a[i]?=some x)(hy:a[j]?=some y)(h:i<=j):Le J x y:=by
 obtain ⟨hi,ex⟩:=Bu.mp hx
 obtain ⟨hj,ey⟩:=Bu.mp hy
 rcases Nat.lt_or_ge i j with q | q
 .have:=List.pairwise_iff_getElem.mp sa i j hi hj q
  rw [ex,ey] at this;exact this
 have e:i=j:=by lia
 subst e
 rw [ex] at ey;subst ey;exact Le.refl _
end
section
variable {J:KeyKind}
theorem gL {l:List Keyed}(h:i<l.length):KK J l.toArray i=kf J l[i]:=xZ (by simp [h])
theorem up_iff {l:List Keyed}(h:lo+n<=l.length):Up J l.toArray lo n↔((l.drop lo).take n).Pairwise (Le J):=by
 have len:((l.drop lo).take n).length=n:=by rw [BS,Fl];lia
 constructor
 .intro u
  refine List.pairwise_iff_getElem.mpr fun i j hi hj hij=>?_
  rw [len] at hi hj
  have:=u (lo+i) (lo+j) AX AX AX
  rw [gL AX,gL AX] at this
  rw [E7,List.getElem_drop,E7,List.getElem_drop]
  exact this
 intro p i j h1 h2 h3
 rw [gL AX,gL AX]
 have a1:((l.drop lo).take n)[i-lo]?=some l[i]:=by
  rw [EL,Bf AX,List.getElem?_drop,show lo+(i-lo)=i by lia]
  exact bt AX
 have a2:((l.drop lo).take n)[j-lo]?=some l[j]:=by
  rw [EL,Bf AX,List.getElem?_drop,show lo+(j-lo)=j by lia]
  exact bt AX
 exact yY p a1 a2 AX
end
end TS

namespace L2
open PySem PySem.Spec PyProof.Rows
abbrev Key:=Sum Int Str
def iJ:Key->Value->Bool
 | .inl k,v=>Value.isInt k v
 | .inr x,v=>Value.isStrOf x v
def AQ (w:World):Key->Int
 | .inl k=>hashInt k
 | .inr x=>hashStr w x
theorem bj:∀{k:Key} {v:Value},iJ k v=true->(∃ i t,k=Sum.inl i/\v=Value.int i t)∨(∃ x t,k=Sum.inr x/\v=Value.str x t)
 | .inl i,v,h=>by
  obtain ⟨t,e⟩:=Value.isInt_shape (k:=i) (v:=v) h
  exact .inl ⟨i,t,rfl,e⟩
 | .inr x,v,h=>by
  obtain ⟨t,e⟩:=Value.isStrOf_shape (x:=x) (v:=v) h
  exact .inr ⟨x,t,rfl,e⟩
theorem rA (i:Int)(t:Tok):iJ (.inl i) (.int i t)=true:=by simp [iJ,Value.isInt]
theorem rV (x:Str)(t:Tok):iJ (.inr x) (.str x t)=true:=by simp [iJ,Value.isStrOf]
theorem yH (a b:Int):decide ((Sum.inl a:Key)=Sum.inl b)=(a == b):=by
 by_cases e:a=b
 .subst e;simp
 have h:¬ (Sum.inl a:Key)=Sum.inl b:=fun q=>e (Sum.inl.inj q)
 rw [Br h]
 exact (CM.mpr e).symm
theorem yz (a b:Str):decide ((Sum.inr a:Key)=Sum.inr b)=decide (a=b):=by
 by_cases e:a=b
 .subst e;simp
 have h:¬ (Sum.inr a:Key)=Sum.inr b:=fun q=>e (Cf q)
 rw [Br h,Br e]
theorem y9 (a:Int)(b:Str):decide ((Sum.inl a:Key)=Sum.inr b)=false:=Br (fun q=>nomatch q)
theorem yu (a:Str)(b:Int):decide ((Sum.inr a:Key)=Sum.inl b)=false:=Br (fun q=>nomatch q)
def aP (prog:Program)(w:World):PySem.KeyKind prog w Key where
 is:=iJ
 hash:=AQ w
 inj:=fun v a b ha hb=>by
  rcases bj ha with ⟨i,t,rfl,rfl⟩ | ⟨x,t,rfl,rfl⟩
  .rcases bj hb with ⟨j,u,rfl,e⟩ | ⟨y,u,rfl,e⟩
   .injection e with e1 _;rw [e1]
   .exact nomatch e
  .rcases bj hb with ⟨j,u,rfl,e⟩ | ⟨y,u,rfl,e⟩
   .exact nomatch e
   .injection e with e1 _;rw [e1]
 byValue:=fun k v h=>by
  rcases bj h with ⟨i,t,rfl,rfl⟩ | ⟨x,t,rfl,rfl⟩ <;> rfl
 pyHash:=fun hv h=>by
  rcases bj hv with ⟨i,t,rfl,rfl⟩ | ⟨x,t,rfl,rfl⟩
  .exact wpAny_pyHash_int h
  .exact wpAny_pyHash_str h
 eqBool:=fun hu hv h=>by
  rcases bj hu with ⟨i,t,rfl,rfl⟩ | ⟨x,t,rfl,rfl⟩
  .rcases bj hv with ⟨j,u,rfl,rfl⟩ | ⟨y,u,rfl,rfl⟩
   .rw [yH] at h;exact wpAny_eqBool_int h
   .rw [y9] at h;exact SeqAt.EqAt.int_str i t y u _ _ _ _ h
  .rcases bj hv with ⟨j,u,rfl,rfl⟩ | ⟨y,u,rfl,rfl⟩
   .rw [yu] at h;exact SeqAt.EqAt.str_int x t j u _ _ _ _ h
   .rw [yz] at h;exact wpAny_eqBool_str h
 «strs»:=fun k x t v h=>by
  rcases bj h with ⟨i,u,rfl,e⟩ | ⟨y,u,rfl,e⟩
  .exact nomatch e
  .injection e with e1 _
   subst e1
   cases v <;> rfl
theorem lG (prog:Program)(w:World)(i:Int)(t:Tok):(aP prog w).is (.inl i) (.int i t)=true:=rA i t
theorem cM (prog:Program)(w:World)(x:Str)(t:Tok):(aP prog w).is (.inr x) (.str x t)=true:=rV x t
inductive V where
 | non | bl (b:Bool) | int (i:Int) | str (x:Str) | byt (b:Array UInt8) | flt (b:UInt64) | ref (a:Addr) | ty (n:String)
 deriving DecidableEq
def RelV:V->Value->Prop
 | .non,u=>u=Value.none
 | .bl b,u=>u=Value.bool b
 | .int i,u=>∃ t,u=Value.int i t
 | .str x,u=>∃ t,u=Value.str x t
 | .byt b,u=>∃ t,u=Value.bytes b t
 | .flt b,u=>∃ t,u=Value.float b t
 | .ref a,u=>u=Value.ref a
 | .ty n,u=>u=Value.type n
abbrev Vals:List V->List Value->Prop:=Paired RelV
theorem Vals.length {xs:List V}(r:Vals xs us):xs.length=us.length:=CU r
theorem Vals.get:∀{xs:List V} {us:List Value} {i:Nat} {x:V},Vals xs us->xs[i]?=some x->∃ u,us[i]?=some u/\RelV x u
 | _,_,_,_,.nil,e=>by simp at e
 | _,_,0,_,.cons r _,e=>by simp at e;subst e;exact ⟨_,rfl,r⟩
 | _,_,i+1,x,.cons _ t,e=>by
  obtain ⟨u,h1,h2⟩:=Vals.get (i:=i) (x:=x) t (by simpa using e)
  exact ⟨u,by simpa using h1,h2⟩
theorem Vals.set {x:V}(r:RelV x u):∀{xs:List V} {us:List Value} (i:Nat),Vals xs us->Vals (xs.set i x) (us.set i u)
 | _,_,_,.nil=>.nil
 | _,_,0,.cons _ t=>.cons r t
 | _,_,i+1,.cons q t=>.cons q (Vals.set r i t)
theorem Vals.append:∀{xs ys:List V} {us ws:List Value},Vals xs us->Vals ys ws->Vals (xs++ys) (us++ws)
 | _,_,_,_,.nil,s=>s
 | _,_,_,_,.cons r t,s=>.cons r (Vals.append t s)
theorem Vals.take:∀{xs:List V} {us:List Value} (n:Nat),Vals xs us->Vals (xs.take n) (us.take n)
 | _,_,0,_=>.nil
 | _,_,_+1,.nil=>.nil
 | _,_,n+1,.cons r t=>.cons r (Vals.take n t)
theorem Vals.drop:∀{xs:List V} {us:List Value} (n:Nat),Vals xs us->Vals (xs.drop n) (us.drop n)
 | _,_,0,r=>r
 | _,_,_+1,.nil=>.nil
 | _,_,n+1,.cons _ t=>Vals.drop n t
def RelO:Option V->Option Value->Prop
 | some v,some u=>RelV v u
 | none,none=>True
 | _,_=>False
def KV {J:Type}:List (J×V)->List (J×Value)->Prop:=Paired fun (p:J×V) (q:J×Value)=>p.1=q.1/\RelV p.2 q.2
def kV:Key->V
 | .inl i=>.int i
 | .inr x=>.str x
inductive HO where
 /-- a list -/
 | lst (xs:List V)
 /-- a tuple (never changes) -/
 | tup (xs:List V)
 /-- a dict whose keys are ints and texts;one whose keys are tuples of ints and texts (the empty one is both) -/
 | dK (kvs:List (Key×V)) | dT (kvs:List (List Key×V))
 /-- a set of ints: its members,its size -/
 | set (S:Int->Bool) (n:Nat)
 /-- an instance of the class at C,its dict at dx,its attributes -/
 | ins (C dx:Addr) (fs:List (Str×V))
 /-- the dict of the instance at x -/
 | own (x:Addr)
 /-- the dict of an exception -/
 | xd (fs:List (Str×V))
 /-- a bound method,f of x -/
 | met (f x:Addr)
 /-- a range object lo,lo+1,.. below hi -/
 | rng (lo hi:Int)
 /-- a thing that is known to the object (the script;a dict while a loop walks it): read,never written while it is so -/
 | frz (o:Obj) (u:HO)
 /-- a code object's table -/
 | tbl (ps:Array Value)
 /-- any other thing,by what is true of its one object (a def of one's own: SetO a S n:=HO.ext fun h=>..) -/
 | ext (φ:Heap->Prop)
abbrev Hp:=Addr->Option HO
def upd (H:Hp)(a:Addr)(o:HO):Hp:=fun b=>if b=a then some o else H b
theorem ad {H:Hp}{o:HO}:upd H a o a=some o:=by unfold upd;rw [Bf rfl]
theorem ai {H:Hp}{o:HO}(h:b≠a):upd H a o b=H b:=by unfold upd;rw [Bc h]
theorem fP {H:Hp}{o u:HO}:upd (upd H a o) a u=upd H a u:=by
 funext b;unfold upd;split <;> rfl
theorem aU {H:Hp}{o u:HO}(h:H a=some o)(h':H b=some u)(d:o≠u):a≠b:=by
 intro e;subst e;rw [h] at h';exact d (BI h')
theorem ak {H:Hp}{o:HO}(h:H a=some o)(h':H b=none):a≠b:=by
 intro e;subst e;rw [h] at h';cases h'
section
variable (P:Program)(w:World)
def ObjOk (H:Hp)(h:Heap)(a:Addr):HO->Prop
 | .lst xs=>xs.length<=sizeLine/\∃ (its:List Value) (n:Nat),Vals xs its/\h.get? a=some { cls:=.type "list",data:=.seq its.toArray n }
 | .tup xs=>xs.length<=sizeLine/\∃ its:List Value,Vals xs its/\IsTup h a its.toArray
 | .dK kvs=>kvs.length<=sizeLine/\(a == sysModules)=false/\∃ vs,KV kvs vs/\h.DictOf (aP P w) a vs
 | .dT kvs=>kvs.length<=sizeLine/\(a == sysModules)=false/\∃ xs:List (List Key×Addr×Value),
   Paired (fun (p:List Key×V) (q:List Key×Addr×Value)=>p.1=q.1/\H q.2.1=some (.tup (p.1.map kV))/\RelV p.2 q.2.2) kvs xs /\
   ∃ o es ep,h.get? a=some o/\o.ExactDict/\o.data=.dict es ep/\es.toList=xs.map (entryOfKey (tupleKind (aP P w)))/\(xs.map (·.1)).Nodup
 | .set S n=>h.SetOf (intKind P w) a S n
 | .ins C dx fs=>H dx=some (.own a)/\fs.length<=1000/\dx≠a/\h.get? a=some (W.instObj C dx) /\
   ∃ mA,h.Ns1 dx mA/\(∀f,RelO (fs.lookup f) (mA f))/\PySem.Within mA (fs.map (·.1))
 | .own _=>∃ o,h.get? a=some o
 | .xd fs=>∃ mA,h.Ns1 a mA/\∀f,RelO (fs.lookup f) (mA f)
 | .rng lo hi=>∃ t u v,h.get? a=some { cls:=.type "range",data:=.fields #[.int lo t,.int hi u,.int 1 v] }
 | .frz o u=>h.get? a=some o/\ObjOk H h a u
 | .tbl ps=>h.get? a=some { cls:=.none,data:=.fields ps }
 | .met f x=>h.get? a=some (W.methodObj (.ref f) (.ref x))
 | .ext φ=>φ h/\(∃ o,h.get? a=some o)/\∀h1 h2:Heap,φ h1->(∀o,h1.get? a=some o->h2.get? a=some o)->φ h2
def HOk (H:Hp)(h:Heap):Prop:=∀a o,H a=some o->ObjOk P w H h a o
end
section
variable {P:Program}{w:World}{H H':Hp}{h h':Heap}{a:Addr}{o:HO}
theorem ObjOk.lt (x:ObjOk P w H h a o):a<h.objs.size:=by
 cases o with
 | lst xs=>obtain ⟨_,_,_,_,e⟩:=x;exact Bp e
 | tup xs=>obtain ⟨_,_,_,p⟩:=x;exact p.lt
 | dK kvs=>obtain ⟨_,_,_,_,o,_,_,e,_⟩:=x;exact Bp e
 | dT kvs=>obtain ⟨_,_,_,_,o,_,_,e,_⟩:=x;exact Bp e
 | set S n=>obtain ⟨o,_,_,_,e,_⟩:=x;exact Bp e
 | ins C dx fs=>obtain ⟨_,_,_,e,_⟩:=x;exact Bp e
 | own y=>obtain ⟨_,e⟩:=x;exact Bp e
 | xd fs=>obtain ⟨_,⟨_,_,_,e,_⟩,_⟩:=x;exact Bp e
 | rng lo hi=>obtain ⟨_,_,_,e⟩:=x;exact Bp e
 | frz ob u=>obtain ⟨e,_⟩:=x;exact Bp e
 | tbl ps=>exact Bp (show h.get? a=some _ from x)
 | met f y=>exact Bp (show h.get? a=some _ from x)
 | ext φ=>obtain ⟨_,⟨_,e⟩,_⟩:=x;exact Bp e
theorem Paired.mapP {α β:Type}{F G:α->β->Prop}:∀{l₁:List α} {l₂:List β},Paired F l₁ l₂->(∀a b,F a b->G a b)->Paired G l₁ l₂
 | _,_,.nil,_=>.nil
 | _,_,.cons r t,f=>.cons (f _ _ r) (Paired.mapP t f)
theorem ObjOk.stay (x:ObjOk P w H h a o)(k:∀b u,(b=a∨H b=some (.own a))->h.get? b=some u->h'.get? b=some u)(ho:∀b,H b=some (.own a)->H' b=some (.own a))(ht:∀b xs,H b=some (.tup xs)->H' b=some (.tup xs)):ObjOk P w H' h' a o:=by
 induction o with
 | lst xs=>obtain ⟨z,its,n,r,e⟩:=x;exact ⟨z,its,n,r,k _ _ (.inl rfl) e⟩
 | tup xs=>obtain ⟨z,its,r,ob,e,c⟩:=x;exact ⟨z,its,r,ob,k _ _ (.inl rfl) e,c⟩
 | dK kvs=>obtain ⟨z,y,vs,r,ob,es,ep,e,c⟩:=x;exact ⟨z,y,vs,r,ob,es,ep,k _ _ (.inl rfl) e,c⟩
 | dT kvs =>
  obtain ⟨z,y,xs,r,ob,es,ep,e,c⟩:=x
  exact ⟨z,y,xs,Paired.mapP r fun p q z=>⟨z.1,ht _ _ z.2.1,z.2.2⟩,ob,es,ep,k _ _ (.inl rfl) e,c⟩
 | set S n=>obtain ⟨ob,es,ep,t,e,c⟩:=x;exact ⟨ob,es,ep,t,k _ _ (.inl rfl) e,c⟩
 | ins C dx fs =>
  obtain ⟨d,z,ne,e,mA,⟨od,es,ep,e2,c⟩,r⟩:=x
  exact ⟨ho _ d,z,ne,k _ _ (.inl rfl) e,mA,⟨od,es,ep,k _ _ (.inr d) e2,c⟩,r⟩
 | own y=>obtain ⟨ob,e⟩:=x;exact ⟨ob,k _ _ (.inl rfl) e⟩
 | xd fs=>obtain ⟨mA,⟨od,es,ep,e,c⟩,r⟩:=x;exact ⟨mA,⟨od,es,ep,k _ _ (.inl rfl) e,c⟩,r⟩
 | rng lo hi=>obtain ⟨t,u,v,e⟩:=x;exact ⟨t,u,v,k _ _ (.inl rfl) e⟩
 | frz ob u ih=>obtain ⟨e,q⟩:=x;exact ⟨k _ _ (.inl rfl) e,ih q⟩
 | tbl ps =>
  have e:h.get? a=some { cls:=.none,data:=.fields ps }:=x
  show h'.get? a=some { cls:=.none,data:=.fields ps }
  exact k a _ (.inl rfl) e
 | met f y =>
  have e:h.get? a=some (W.methodObj (.ref f) (.ref y)):=x
  show h'.get? a=some (W.methodObj (.ref f) (.ref y))
  exact k a _ (.inl rfl) e
 | ext φ=>obtain ⟨p,⟨o,e⟩,st⟩:=x;exact ⟨st _ _ p fun o q=>k _ _ (.inl rfl) q,⟨o,k _ _ (.inl rfl) e⟩,st⟩
theorem HOk.lt (x:HOk P w H h)(e:H a=some o):a<h.objs.size:=(x a o e).lt
theorem HOk.fresh (x:HOk P w H h)(e:h.objs.size<=a):H a=none:=by
 cases q:H a with
 | none=>rfl
 | some u=>exact absurd (Bw (x.lt q) e) (CI _)
theorem HOk.kept (x:HOk P w H h)(k:∀b u,h.get? b=some u->h'.get? b=some u):HOk P w H h':=fun a o e =>
 (x a o e).stay (fun b u _ q=>k b u q) (fun _ q=>q) fun _ _ q=>q
theorem HOk.laid (x:HOk P w H h)(k:∀b u,h.get? b=some u->h'.get? b=some u)(hp:h.objs.size<=a)(new:ObjOk P w (upd H a o) h' a o):HOk P w (upd H a o) h':=fun b u e=>by
 have hn:=x.fresh hp
 by_cases hb:b=a
 .subst hb;rw [ad] at e;cases e;exact new
 rw [ai hb] at e
 exact (x b u e).stay (fun c v _ q=>k c v q) (fun c q=>by rw [ai (ak q hn)];exact q) fun c xs q=>by rw [ai (ak q hn)];exact q
end
def Rd (H:Hp)(a:Addr)(u:HO):Prop:=H a=some u∨∃ o,H a=some (.frz o u)
theorem Rd.ok {P:Program}{H:Hp}{u:HO}(r:Rd H a u)(x:HOk P w H h):ObjOk P w H h a u:=by
 rcases r with r | ⟨o,r⟩
 .exact x a u r
 obtain ⟨_,q⟩:=x a _ r
 exact q
def Mut:Option HO->Prop
 | some (.lst _)=>True
 | some (.dK _)=>True
 | some (.dT _)=>True
 | some (.set _ _)=>True
 | some (.ins _ _ _)=>True
 | some (.ext _)=>True
 | _=>False
section
variable {P:Program}{w:World}{H:Hp}{h h':Heap}{x e:Addr}{o':HO}
theorem HOk.write (ok:HOk P w H h)(mu:Mut (H x))(he:e=x∨H e=some (.own x))(k:∀b u,b≠e->h.get? b=some u->h'.get? b=some u)(heo:∃ u,h'.get? e=some u)(new:ObjOk P w (upd H x o') h' x o'):HOk P w (upd H x o') h':=fun b u q=>by
 have nown:∀c y,H c=some (.own y)->c≠x:=fun c y r z=>by subst z;rw [r] at mu;exact mu
 have ntup:∀c xs,H c=some (.tup xs)->c≠x:=fun c xs r z=>by subst z;rw [r] at mu;exact mu
 by_cases hb:b=x
 .subst hb;rw [ad] at q;cases q;exact new
 rw [ai hb] at q
 by_cases hbe:b=e
 .have q':H b=some (.own x):=by
   rcases he with z | z
   .exact absurd (hbe.trans z) hb
   .rw [hbe];exact z
  rw [q] at q';cases q'
  obtain ⟨v,hv⟩:=heo
  exact ⟨v,by rw [hbe];exact hv⟩
 refine (ok b u q).stay (fun c v hc r=>k c v ?_ r) (fun c r=>by rw [ai (nown c b r)];exact r) fun c xs r=>by rw [ai (ntup c xs r)];exact r
 rcases hc with rfl | hc
 .exact hbe
 rintro rfl
 rcases he with z | z
 .exact nown c b hc z
 rw [hc] at z;cases z;exact hb rfl
end
structure Un (fs ex:List Addr)(H H':Hp)(h h':Heap):Prop where
 keep:∀b o,h.get? b=some o->H b=none->b∉fs->b∉ex->h'.get? b=some o
 slot:∀b o,h.get? b=some o->H b=none->b∈fs->b∉ex->∃ sl,h'.get? b=some { o with slots:=sl }
 free:∀b o,h.get? b=some o->H b=none->b∉ex->H' b=none
 there:∀b o,h.get? b=some o->b∉ex->∃ o',h'.get? b=some o'
 tups:∀b xs,H b=some (.tup xs)->H' b=some (.tup xs)
 frzs:∀b o u,H b=some (.frz o u)->H' b=some (.frz o u)
 tbls:∀b ps,H b=some (.tbl ps)->∃ more,H' b=some (.tbl (ps++more))
section
variable {fs fs' ex ex':List Addr}{H H1 H2:Hp}{h h1 h2 h':Heap}{a x e:Addr}{o:HO}
theorem Un.any (u:Un fs ex H H1 h h1){ob:Obj}(q:h.get? b=some ob)(n:H b=none)(hx:b∉ex):∃ sl,h1.get? b=some { ob with slots:=sl }:=by
 by_cases hb:b∈fs
 .exact u.slot b ob q n hb hx
 exact ⟨ob.slots,u.keep b ob q n hb hx⟩
theorem Un.kept (k:∀b u,h.get? b=some u->h'.get? b=some u):Un fs ex H H h h' :=
 ⟨fun b ob q _ _ _=>k b ob q,fun b ob q _ _ _=>⟨ob.slots,k b ob q⟩,fun _ _ _ n _=>n,fun b ob q _=>⟨ob,k b ob q⟩,fun _ _ q=>q,fun _ _ _ q=>q,fun _ ps q=>⟨#[],by rw [q];simp⟩⟩
theorem Un.refl:Un fs ex H H h h:=Un.kept fun _ _ q=>q
theorem Un.laid (k:∀b u,h.get? b=some u->h'.get? b=some u)(hp:h.objs.size<=a)(hn:H a=none):Un fs ex H (upd H a o) h h' where
 keep:=fun b u q _ _ _=>k b u q
 slot:=fun b u q _ _ _=>⟨u.slots,k b u q⟩
 free:=fun b u q n _=>by rw [ai (BE (Bw (Bp q) hp))];exact n
 there:=fun b u q _=>⟨u,k b u q⟩
 tups:=fun b xs q=>by rw [ai (ak q hn)];exact q
 frzs:=fun b u xs q=>by rw [ai (ak q hn)];exact q
 tbls:=fun b ps q=>⟨#[],by rw [ai (ak q hn),q];simp⟩
theorem Un.write (mu:Mut (H x))(he:e=x∨H e=some (.own x))(k:∀b u,b≠e->h.get? b=some u->h'.get? b=some u)(heo:∃ u,h'.get? e=some u):Un fs ex H (upd H x o) h h':=by
 have hx:∀b,H b=none->b≠x:=fun b n z=>by subst z;rw [n] at mu;exact mu
 have hb:∀b,H b=none->b≠e:=fun b n z=>by
  subst z
  rcases he with r | r
  .exact hx b n r
  .rw [n] at r;cases r
 have hm:∀b u,H b=some u->¬ Mut (some u)->b≠x:=fun b u q nm z=>by subst z;rw [q] at mu;exact nm mu
 refine ⟨fun b u q n _ _=>k b u (hb b n) q,fun b u q n _ _=>⟨u.slots,k b u (hb b n) q⟩,fun b u q n _=>by rw [ai (hx b n)];exact n,fun b u q _=>?_,
  fun b xs q=>by rw [ai (hm b _ q fun z=>z)];exact q,fun b u xs q=>by rw [ai (hm b _ q fun z=>z)];exact q,fun b ps q=>⟨#[],by rw [ai (hm b _ q fun z=>z),q];simp⟩⟩
 by_cases hbe:b=e
 .subst hbe;exact heo
 exact ⟨u,k b u hbe q⟩
end
def trk (h:Heap)(H:Hp):List Addr:=(List.range h.objs.size).filter fun a=>(H a).isSome
def kH (h:Heap)(H:Hp):Heap:=W.hideAll h (trk h H)
theorem rE (h:Heap)(H:Hp):(kH h H).objs.size=h.objs.size:=W.hideAll_size _ _
theorem vq {H:Hp}{o:Obj}(e:h.get? b=some o)(n:H b=none):(kH h H).get? b=some o :=
 W.hideAll_get _ e fun hm=>by
  have q:(H b).isSome=true:=(BJ.mp hm).2
  rw [n] at q;simp at q
theorem wU {H:Hp}{o:Obj}(e:(kH h H).get? b=some o):h.get? b=some o/\H b=none:=by
 have e':h.get? b=some o:=W.of_hideAll (trk h H) e
 refine ⟨e',?_⟩
 cases q:H b with
 | none=>rfl
 | some x =>
  have hm:b∈trk h H:=BJ.mpr ⟨DW.mpr (Bp e'),by simp [q]⟩
  have z:(kH h H).get? b=none:=W.hideAll_none (trk h H) hm
  rw [z] at e;cases e
def xm (g h:Heap)(L:Addr):List (Addr×Obj):=(List.range h.objs.size).filterMap fun a=>if a=L∨(g.get? a).isSome=true then none else (h.get? a).map fun o=>(a,o)
def rest (g h:Heap)(L d:Addr):List (Addr×Obj):=(xm g h L).filter fun p=>decide (p.1≠d)
structure Mod (K:W.Frag)(mg:Str->Option Value)(base:Heap):Prop where
 kin:K.In base
 glob:base.Ns mainGlobals mg
 blt:∃ mb,base.Ns builtinsNs mb/\∀x:Str,x≠"__name__"->mb x=bootBuiltins x
 nolimit:base.NoLimit
structure Cx where
 prog:Program
 w:World
 K:W.Frag
 mg:Str->Option Value
 base:Heap
 A:Around
 N:List Str
 s₀:Shared
 H₀:Hp
 env:Env
 outer:List Env
 stack:List Env
 ex:List Addr
 fn:Str->Bool
 calm:Bool
 pn:List (Addr×Obj)
 xe:Value->Shared->Prop
def frs (l:List Env):List Addr:=l.filterMap (·.frame)
abbrev Cx.fs (X:Cx):List Addr:=frs X.outer
def Vis (sc:Scope)(x:Str):Prop:=sc.names.lookup x=some .local∨sc.names.lookup x=some .cell∨sc.names.lookup x=some .free
def Loc (sc:Scope)(x:Str):Prop:=sc.names.lookup x=some .local∨sc.names.lookup x=some .cell
def Az (env:Env)(h:Heap)(m:Str->Option Value)(x:Str)(u:Value):Prop :=
 (env.kindOf x=some .local/\m x=some u)∨((env.kindOf x=some .cell∨env.kindOf x=some .free)/\∃ c,env.cells.lookup x=some c/\h.IsCell c (some u))
structure Cx.Ok (X:Cx):Prop where
 mod:Mod X.K X.mg X.base
 kind:X.env.scope.kind=.function
 glob:X.env.globals=mainGlobals
 blt:X.env.builtins=builtinsNs
 above:X.s₀.heap.objs.size<=X.env.locals
 inj:∀x y c,X.env.cells.lookup x=some c->X.env.cells.lookup y=some c->x=y
 has:∀x,(X.env.kindOf x=some .cell∨X.env.kindOf x=some .free)->∃ c,X.env.cells.lookup x=some c
 cab:∀x c,X.fn x=true->X.env.cells.lookup x=some c->X.s₀.heap.objs.size<=c
 hd:X.calm=true->X.A.handled=none
 frames:X.A.frames=some X.stack
 stk:X.stack=X.outer∨(X.stack=X.env::X.outer/\X.env.frame=some X.env.locals)
 exf:∀b∈X.ex,b≠X.env.locals/\∀x c,X.env.cells.lookup x=some c->c≠b
 bs:∀b o,X.base.get? b=some o->X.s₀.heap.get? b=some o/\X.H₀ b=none
 bsz:X.base.objs.size<=X.s₀.heap.objs.size
 noex:∀b o,X.base.get? b=some o->b∉X.ex
 exfs:∀b∈X.ex,b∉X.fs
 funs:X.s₀.heap.FunFrames X.base X.outer
 frf:∀b∈X.fs,X.H₀ b=none
structure Inv (X:Cx)(pins:List (Addr×Obj))(Z:List (Option V))(H:Hp)(s:Shared):Prop where
 ok:X.Ok
 os:s.os=X.s₀.os
 bare:AllBare s.gens
 base:Un X.fs X.ex X.H₀ H X.s₀.heap s.heap
 loc:∃ m,s.heap.Ns X.env.locals m/\∀(i:Nat) (x:Str) (v:V),X.N[i]?=some x->Z[i]?=some (some v)->Vis X.env.scope x->∃ u,RelV v u/\Az X.env s.heap m x u
 cell:∀x c,X.env.cells.lookup x=some c->∃ v,s.heap.IsCell c v
 free:H X.env.locals=none
 freeC:∀x c,X.env.cells.lookup x=some c->H c=none
 pin:∀p∈X.pn++pins,s.heap.get? p.1=some p.2/\H p.1=none/\p.1≠X.env.locals/\p.1∉X.fs/\∀v,p.2.data≠.cell v
 hok:HOk X.prog X.w H s.heap
 len:Z.length=X.N.length
section
variable {X:Cx}{pins:List (Addr×Obj)}{Z:List (Option V)}{H H':Hp}{s:Shared}{h':Heap}
theorem Cx.Ok.nofr (ok:X.Ok){o:Obj}(e:X.base.get? b=some o):b∉X.fs:=fun hb=>by
 have:=(ok.funs.mem hb).1
 rw [e] at this;cases this
theorem Inv.bs (I:Inv X pins Z H s):∀b o,X.base.get? b=some o->s.heap.get? b=some o/\H b=none:=fun b o e =>
 ⟨I.base.keep b o (I.ok.bs b o e).1 (I.ok.bs b o e).2 (I.ok.nofr e) (I.ok.noex b o e),I.base.free b o (I.ok.bs b o e).1 (I.ok.bs b o e).2 (I.ok.noex b o e)⟩
theorem Inv.bk (I:Inv X pins Z H s):∀b o,X.base.get? b=some o->s.heap.get? b=some o:=fun b o e=>(I.bs b o e).1
theorem Inv.mod (I:Inv X pins Z H s):Mod X.K X.mg X.base:=I.ok.mod
theorem Inv.kIn (I:Inv X pins Z H s):X.K.In s.heap:=I.ok.mod.kin.keeps I.bk
theorem Inv.lt (I:Inv X pins Z H s):X.env.locals<s.heap.objs.size:=let ⟨_,hn,_⟩:=I.loc;hn.lt
theorem Inv.sz (I:Inv X pins Z H s):X.s₀.heap.objs.size<=s.heap.objs.size:=A0 I.ok.above (DJ I.lt)
theorem Inv.nofs (I:Inv X pins Z H s)(h:s.heap.objs.size<=a):a∉X.fs:=fun hb=>by
 obtain ⟨_,o,ho,_⟩:=I.ok.funs.mem hb
 exact absurd (Bw (Bp ho) (A0 I.sz h)) (CI _)
theorem Inv.cne (I:Inv X pins Z H s):∀x c,X.env.cells.lookup x=some c->c≠X.env.locals:=fun x c e z=>by
 obtain ⟨v,o,ho,hd⟩:=I.cell x c e
 obtain ⟨m,⟨o',es,ep,ho',hd',_⟩,_⟩:=I.loc
 rw [z,ho'] at ho;cases ho;rw [hd'] at hd;cases hd
theorem Inv.funs (I:Inv X pins Z H s):s.heap.FunFrames X.base X.outer:=by
 have all:∀(l:List Env),(∀b∈frs l,b∈X.fs)->X.s₀.heap.FunFrames X.base l->s.heap.FunFrames X.base l:=by
  intro l
  induction l with
  | nil=>intro _ _;trivial
  | cons env r ih =>
   intro hs hl
   obtain ⟨hk,⟨L,o,hf,hn,ho,hd⟩,hr⟩:=hl
   have hL:L∈X.fs:=hs L (by unfold frs;rw [EC,hf];exact BD)
   obtain ⟨sl,e⟩:=I.base.slot L o ho (I.ok.frf L hL) hL fun z=>I.ok.exfs L z hL
   exact ⟨hk,⟨L,_,hf,hn,e,hd⟩,ih (fun b hb=>hs b (by unfold frs;rw [EC,hf];exact Bk _ hb)) hr⟩
 exact all X.outer (fun _ hb=>hb) I.ok.funs
theorem Inv.stack (I:Inv X pins Z H s):s.heap.FunFrames X.base X.stack:=by
 rcases I.ok.stk with e | ⟨e,hf⟩
 .rw [e];exact I.funs
 rw [e]
 obtain ⟨m,hn,_⟩:=I.loc
 refine .cons (by rw [I.ok.kind];decide) hf hn ?_ I.funs
 exact Heap.get?_none_of_le (A0 I.ok.bsz I.ok.above)
theorem Inv.stkSub (I:Inv X pins Z H s):∀b∈frs X.stack,b∈X.env.locals::X.fs:=fun b hb=>by
 rcases I.ok.stk with e | ⟨e,hf⟩
 .rw [e] at hb;exact Bk _ hb
 rw [e] at hb
 unfold frs at hb
 rw [EC,hf] at hb
 exact hb
theorem Inv.stkFree (I:Inv X pins Z H s):∀b∈frs X.stack,H b=none:=fun b hb=>by
 rcases ax.mp (I.stkSub b hb) with e | hb
 .rw [e];exact I.free
 obtain ⟨_,o,ho,_⟩:=I.ok.funs.mem hb
 exact I.base.free b o ho (I.ok.frf b hb) fun z=>I.ok.exfs b z hb
theorem Inv.step {g':Array GenState}{t':Nat}{d':Drawn}(I:Inv X pins Z H s)(hch:∀b∈ch,(b∈X.ex∨X.s₀.heap.objs.size<=b)/\b≠X.env.locals/\(∀x c,X.env.cells.lookup x=some c->c≠b)/\∀p∈X.pn++pins,p.1≠b)(keep:∀b o,b≠X.env.locals->b∉X.fs->b∉ch->s.heap.get? b=some o->H b=none->h'.get? b=some o)(slot:∀b o,b≠X.env.locals->b∈X.fs->b∉ch->s.heap.get? b=some o->H b=none->∃ sl,h'.get? b=some { o with slots:=sl })(free:∀b o,b∉ch->s.heap.get? b=some o->H b=none->H' b=none)(there:∀b o,b∉ch->s.heap.get? b=some o->∃ o',h'.get? b=some o')(tups:∀b xs,H b=some (.tup xs)->H' b=some (.tup xs))(frzs:∀b o u,H b=some (.frz o u)->H' b=some (.frz o u))(tbls:∀b ps,H b=some (.tbl ps)->∃ more,H' b=some (.tbl (ps++more)))(ns:∀m,s.heap.Ns X.env.locals m->h'.Ns X.env.locals m)(hok:HOk X.prog X.w H' h')(hg:AllBare g'):
  Inv X pins Z H' { s with heap:=h',gens:=g',drawn:=d',toks:=t' }:=by
 have neL:∀b o,X.s₀.heap.get? b=some o->b≠X.env.locals:=fun b o e=>BE (Bw (Bp e) I.ok.above)
 have neC:∀b o,X.s₀.heap.get? b=some o->b∉X.ex->b∉ch:=fun b o e hx hb=>by
  rcases (hch b hb).1 with z | z
  .exact hx z
  .exact absurd (Bw (Bp e) z) (CI _)
 have cellK:∀x c,X.env.cells.lookup x=some c->∀v,s.heap.IsCell c v->h'.IsCell c v:=fun x c e v ⟨o,ho,hd⟩=>by
  have nch:c∉ch:=fun z=>(hch c z).2.2.1 x c e rfl
  by_cases hc:c∈X.fs
  .obtain ⟨sl,q⟩:=slot c o (I.cne x c e) hc nch ho (I.freeC x c e)
   exact ⟨_,q,hd⟩
  .exact ⟨o,keep c o (I.cne x c e) hc nch ho (I.freeC x c e),hd⟩
 refine ⟨I.ok,I.os,hg,⟨fun b o e n hb hx=>?_,fun b o e n hb hx=>?_,fun b o e n hx=>?_,fun b o e hx=>?_,fun b xs e=>tups b xs (I.base.tups b xs e),fun b o xs e=>frzs b o xs (I.base.frzs b o xs e),fun b ps e=>?_⟩,?_,fun x c e=>?_,?_,fun x c e=>?_,fun p hp=>?_,hok,I.len⟩
 .exact keep b o (neL b o e) hb (neC b o e hx) (I.base.keep b o e n hb hx) (I.base.free b o e n hx)
 .obtain ⟨sl,e1⟩:=I.base.slot b o e n hb hx
  obtain ⟨sl',e2⟩:=slot b _ (neL b o e) hb (neC b o e hx) e1 (I.base.free b o e n hx)
  exact ⟨sl',e2⟩
 .obtain ⟨o',e1⟩:=I.base.there b o e hx
  exact free b o' (neC b o e hx) e1 (I.base.free b o e n hx)
 .obtain ⟨o',e1⟩:=I.base.there b o e hx
  exact there b o' (neC b o e hx) e1
 .obtain ⟨m1,e1⟩:=I.base.tbls b ps e
  obtain ⟨m2,e2⟩:=tbls b _ e1
  exact ⟨m1++m2,by rw [e2,Array.append_assoc]⟩
 .obtain ⟨m,hn,hl⟩:=I.loc
  refine ⟨m,ns m hn,fun i x v e1 e2 e3=>?_⟩
  obtain ⟨u,r,l⟩:=hl i x v e1 e2 e3
  refine ⟨u,r,?_⟩
  rcases l with l | ⟨k,c,e,z⟩
  .exact .inl l
  .exact .inr ⟨k,c,e,cellK x c e _ z⟩
 .obtain ⟨v,z⟩:=I.cell x c e
  exact ⟨v,cellK x c e v z⟩
 .obtain ⟨m,⟨o,_,_,ho,_⟩,_⟩:=I.loc
  exact free _ o (fun z=>(hch _ z).2.1 rfl) ho I.free
 .obtain ⟨v,o,ho,hd⟩:=I.cell x c e
  exact free c o (fun z=>(hch c z).2.2.1 x c e rfl) ho (I.freeC x c e)
 obtain ⟨e,n,ne,nf,d⟩:=I.pin p hp
 have nch:p.1∉ch:=fun z=>(hch p.1 z).2.2.2 p hp rfl
 exact ⟨keep p.1 p.2 ne nf nch e n,free p.1 p.2 nch e n,ne,nf,d⟩
theorem Inv.un {t':Nat}(I:Inv X pins Z H s)(u:Un X.fs [] H H' s.heap h')(hok:HOk X.prog X.w H' h'):Inv X pins Z H' { s with heap:=h',toks:=t' }:=by
 obtain ⟨m,⟨o,es,ep,ho,r⟩,_⟩:=id I.loc
 obtain ⟨sl,hL⟩:=u.any ho I.free AY
 exact I.step (g':=s.gens) (d':=s.drawn) (ch:=[]) (fun _ z=>nomatch z) (fun b o _ hb _ e n=>u.keep b o e n hb AY) (fun b o _ hb _ e n=>u.slot b o e n hb AY) (fun b o _ e n=>u.free b o e n AY) (fun b o _ e=>u.there b o e AY) u.tups u.frzs u.tbls (fun m' hm=>by
  obtain ⟨o',es',ep',ho',r'⟩:=hm
  rw [ho] at ho';cases ho'
  exact ⟨_,es',ep',hL,r'⟩) hok I.bare
theorem Inv.call {g':Array GenState}{t':Nat}{d':Drawn}(I:Inv X pins Z H s)(u:Un (frs X.stack) ch H H' s.heap h')(hok:HOk X.prog X.w H' h')(hg:AllBare g')(hch:∀b∈ch,(b∈X.ex∨X.s₀.heap.objs.size<=b)/\b≠X.env.locals/\(∀x c,X.env.cells.lookup x=some c->c≠b)/\∀p∈X.pn++pins,p.1≠b):
  Inv X pins Z H' { s with heap:=h',gens:=g',drawn:=d',toks:=t' }:=by
 obtain ⟨m,⟨o,es,ep,ho,r⟩,_⟩:=id I.loc
 obtain ⟨sl,hL⟩:=u.any ho I.free fun z=>(hch _ z).2.1 rfl
 exact I.step (ch:=ch) hch (fun b o hL hb hc e n=>u.keep b o e n (fun z=>(ax.mp (I.stkSub b z)).elim hL hb) hc) (fun b o _ _ hc e n=>u.any e n hc) (fun b o hc e n=>u.free b o e n hc) (fun b o hc e=>u.there b o e hc) u.tups u.frzs u.tbls (fun m' hm=>by
  obtain ⟨o',es',ep',ho',r'⟩:=hm
  rw [ho] at ho';cases ho'
  exact ⟨_,es',ep',hL,r'⟩) hok hg
theorem Inv.turned {t':Nat}{it:Addr}(I:Inv X pins Z H s)(k:∀b o,b≠it->s.heap.get? b=some o->h'.get? b=some o)(hn:H it=none)(hL:it≠X.env.locals)(h1:it∈X.ex∨X.s₀.heap.objs.size<=it)(h2:∀x c,X.env.cells.lookup x=some c->c≠it)(h3:∀p∈X.pn++pins,p.1≠it):Inv X pins Z H { s with heap:=h',toks:=t' }:=by
 have nit:∀b u,H b=some u->b≠it:=fun b u e z=>by rw [z,hn] at e;cases e
 refine I.step (g':=s.gens) (d':=s.drawn) (ch:=[it]) (fun b hb=>?_) (fun b o _ _ hc e _=>k b o (fun z=>hc (by simp [z])) e) (fun b o _ _ hc e _=>⟨o.slots,k b o (fun z=>hc (by simp [z])) e⟩) (fun _ _ _ _ n=>n)
  (fun b o hc e=>⟨o,k b o (fun z=>hc (by simp [z])) e⟩) (fun _ _ e=>e) (fun _ _ _ e=>e) (fun b ps e=>⟨#[],by rw [e];simp⟩) (fun m hm=>?_) (fun b u e=>?_) I.bare
 .have e:b=it:=by simpa using hb
  subst e
  exact ⟨h1,hL,h2,h3⟩
 .obtain ⟨o,es,ep,ho,r⟩:=hm
  exact ⟨o,es,ep,k _ o (Cm hL) ho,r⟩
 refine (I.hok b u e).stay (fun c v hc q=>k c v ?_ q) (fun _ q=>q) fun _ _ q=>q
 rcases hc with z | z
 .rw [z];exact nit b u e
 exact nit c _ z
theorem Inv.tok (I:Inv X pins Z H s)(t:Nat):Inv X pins Z H { s with toks:=t }:=I.un (h':=s.heap) (t':=t) Un.refl I.hok
theorem Inv.kept {t':Nat}(I:Inv X pins Z H s)(k:∀b u,s.heap.get? b=some u->h'.get? b=some u):Inv X pins Z H { s with heap:=h',toks:=t' }:=I.un (Un.kept k) (I.hok.kept k)
theorem Inv.laid {o:HO}{t':Nat}(I:Inv X pins Z H s)(k:∀b u,s.heap.get? b=some u->h'.get? b=some u)(hp:s.heap.objs.size<=a)(new:ObjOk X.prog X.w (upd H a o) h' a o):
  Inv X pins Z (upd H a o) { s with heap:=h',toks:=t' }:=I.un (Un.laid k hp (I.hok.fresh hp)) (I.hok.laid k hp new)
theorem Inv.write {x:Addr}{o:HO}{t':Nat}(I:Inv X pins Z H s)(mu:Mut (H x))(he:e=x∨H e=some (.own x))(k:∀b u,b≠e->s.heap.get? b=some u->h'.get? b=some u)(heo:∃ u,h'.get? e=some u)(new:ObjOk X.prog X.w (upd H x o) h' x o):Inv X pins Z (upd H x o) { s with heap:=h',toks:=t' }:=I.un (Un.write mu he k heo) (I.hok.write mu he k heo new)
theorem Inv.weak {σ':List (Option V)}(I:Inv X pins Z H s)(hl:σ'.length=Z.length)(w:∀(i:Nat) v,σ'[i]?=some (some v)->Z[i]?=some (some v)):Inv X pins σ' H s :=
 ⟨I.ok,I.os,I.bare,I.base,let ⟨m,hn,hl'⟩:=I.loc;⟨m,hn,fun i x v e1 e2 e3=>hl' i x v e1 (w i v e2) e3⟩,I.cell,I.free,I.freeC,I.pin,I.hok,hl.trans I.len⟩
theorem Inv.pins_of (I:Inv X pins Z H s)(h:∀p∈pins',s.heap.get? p.1=some p.2/\H p.1=none/\p.1≠X.env.locals/\p.1∉X.fs/\∀v,p.2.data≠.cell v):Inv X pins' Z H s :=
 ⟨I.ok,I.os,I.bare,I.base,I.loc,I.cell,I.free,I.freeC,fun p hp=>(BG.mp hp).elim (fun z=>I.pin p (Cd _ z)) (h p),I.hok,I.len⟩
theorem kM (hN:N.Nodup)(a:N[i]?=some x)(b:N[j]?=some x):i=j:=by
 obtain ⟨h1,e1⟩:=Bu.mp a
 obtain ⟨h2,e2⟩:=Bu.mp b
 exact (List.getElem_inj hN).mp (e1.trans e2.symm)
theorem jc {M:Model}{v:V}{Q:Unit->Shared->Prop}(I:Inv X pins Z H s)(hN:X.N.Nodup)(hi:X.N[i]?=some x)(hx:Loc X.env.scope x)(r:RelV v u)(h:∀s',Inv X pins (Z.set i (some v)) H s'->(∃ a,Heap.SameBut a s.heap s'.heap/\(a=X.env.locals∨X.env.cells.lookup x=some a))->Q () s')(hf:X.fn x=true∨X.env.scope.names.lookup x=some .local:=by first | exact .inl rfl | exact .inr rfl | assumption):wpAny M A (storeName X.env x u) Q E s:=by
 obtain ⟨m,hn,hl⟩:=id I.loc
 have hcls:(X.env.scope.kind == .class || (X.env.scope.kind == .module&&X.env.locals != X.env.globals))=false:=by rw [I.ok.kind];rfl
 have hiσ:i<Z.length:=by rw [I.len];exact (Bu.mp hi).1
 have cne:=I.cne
 have tracked:∀{a:Addr} {h':Heap},(∃ o,s.heap.get? a=some o/\H a=none)->Heap.SameBut a s.heap h'->HOk X.prog X.w H h':=fun {a h'} ha hs b ob e=>by
  obtain ⟨_,_,hfree⟩:=ha
  refine (I.hok b ob e).stay (fun c w' hc q=>(hs.2 c ?_).trans q) (fun _ q=>q) fun _ _ q=>q
  rintro rfl
  rcases hc with rfl | hc
  .rw [hfree] at e;cases e
  .rw [hfree] at hc;cases hc
 rcases hx with hk | hk
 .refine wpAny_storeName_local hk hn (fun h' hn' hs=>?_) hcls
  obtain ⟨oL,_,_,hoL,_⟩:=id hn
  refine h _ ⟨I.ok,I.os,I.bare,⟨fun b o e n hb hx=>?_,fun b o e n hb hx=>?_,I.base.free,fun b o e hx=>?_,I.base.tups,I.base.frzs,I.base.tbls⟩,⟨_,hn',fun j y v' e1 e2 e3=>?_⟩,fun y c e=>?_,I.free,I.freeC,fun p hp=>?_,tracked ⟨oL,hoL,I.free⟩ hs,by simpa using I.len⟩ ⟨_,hs,.inl rfl⟩
  .exact (hs.2 b (BE (Bw (Bp e) I.ok.above))).trans (I.base.keep b o e n hb hx)
  .obtain ⟨sl,e1⟩:=I.base.slot b o e n hb hx
   exact ⟨sl,(hs.2 b (BE (Bw (Bp e) I.ok.above))).trans e1⟩
  .obtain ⟨o',e1⟩:=I.base.there b o e hx
   exact ⟨o',(hs.2 b (BE (Bw (Bp e) I.ok.above))).trans e1⟩
  .by_cases hj:j=i
   .subst hj
    rw [hi] at e1;cases e1
    rw [Fs hiσ] at e2
    cases e2
    exact ⟨u,r,.inl ⟨hk,AY⟩⟩
   .rw [FT (Cm hj)] at e2
    obtain ⟨u',r',q⟩:=hl j y v' e1 e2 e3
    refine ⟨u',r',?_⟩
    rcases q with ⟨k,e⟩ | ⟨k,c,e,z⟩
    .refine .inl ⟨k,?_⟩
     have:y≠x:=fun e=>hj (kM hN e1 (e▸hi))
     simp [this,e]
    .exact .inr ⟨k,c,e,z.sameBut hs (cne y c e)⟩
  .obtain ⟨w',z⟩:=I.cell y c e
   exact ⟨w',z.sameBut hs (cne y c e)⟩
  .obtain ⟨e,n,ne,nf,d⟩:=I.pin p hp
   exact ⟨(hs.2 p.1 ne).trans e,n,ne,nf,d⟩
 have hfn:X.fn x=true:=by
  rcases hf with z | z
  .exact z
  .rw [z] at hk;cases hk
 obtain ⟨c,hc⟩:=I.ok.has x (.inl hk)
 obtain ⟨w',z⟩:=I.cell x c hc
 refine wpAny_storeName_cell I.ok.kind hk hc z (fun h' hc' hs=>?_)
 obtain ⟨oc,hoc,hocd⟩:=id z
 refine h { s with heap:=h' } ⟨I.ok,I.os,I.bare,⟨fun b o e n hb hx=>?_,fun b o e n hb hx=>?_,I.base.free,fun b o e hx=>?_,I.base.tups,I.base.frzs,I.base.tbls⟩,⟨m,hn.sameBut hs (Cm (cne x c hc)),fun j y v' e1 e2 e3=>?_⟩,fun y c' e=>?_,I.free,I.freeC,fun p hp=>?_,tracked ⟨oc,hoc,I.freeC x c hc⟩ hs,by simpa using I.len⟩ ⟨c,hs,.inr hc⟩
 .exact (hs.2 b (BE (Bw (Bp e) (I.ok.cab x c hfn hc)))).trans (I.base.keep b o e n hb hx)
 .obtain ⟨sl,e1⟩:=I.base.slot b o e n hb hx
  exact ⟨sl,(hs.2 b (BE (Bw (Bp e) (I.ok.cab x c hfn hc)))).trans e1⟩
 .obtain ⟨o',e1⟩:=I.base.there b o e hx
  exact ⟨o',(hs.2 b (BE (Bw (Bp e) (I.ok.cab x c hfn hc)))).trans e1⟩
 .by_cases hj:j=i
  .subst hj
   rw [hi] at e1;cases e1
   rw [Fs hiσ] at e2
   cases e2
   exact ⟨u,r,.inr ⟨.inl hk,c,hc,hc'⟩⟩
  .rw [FT (Cm hj)] at e2
   obtain ⟨u',r',q⟩:=hl j y v' e1 e2 e3
   refine ⟨u',r',?_⟩
   rcases q with q | ⟨k,c',e,z'⟩
   .exact .inl q
   .refine .inr ⟨k,c',e,z'.sameBut hs ?_⟩
    rintro rfl
    exact hj (kM hN e1 (I.ok.inj _ _ _ e hc▸hi))
 .by_cases hcc:c'=c
  .subst hcc;exact ⟨_,hc'⟩
  .obtain ⟨w2,z2⟩:=I.cell y c' e
   exact ⟨w2,z2.sameBut hs hcc⟩
 obtain ⟨e,n,ne,nf,d⟩:=I.pin p hp
 refine ⟨(hs.2 p.1 ?_).trans e,n,ne,nf,d⟩
 intro q
 rw [q,hoc] at e
 have q':oc=p.2:=BI e
 exact d w' (by rw [<-q'];exact hocd)
theorem iO {M:Model}{v:V}{Q:Unit->Shared->Prop}(I:Inv X pins Z H s)(hN:X.N.Nodup)(hi:X.N[i]?=some x)(hx:Loc X.env.scope x)(r:RelV v u)(h:∀s',Inv X pins (Z.set i (some v)) H s'->Q () s')(hf:X.fn x=true∨X.env.scope.names.lookup x=some .local:=by first | exact .inl rfl | exact .inr rfl | assumption):wpAny M A (storeName X.env x u) Q E s :=
 jc I hN hi hx r (fun s' I' _=>h s' I') hf
theorem Inv.call' (I:Inv X pins Z H s)(ho:s'.os=s.os)(u:Un (frs X.stack) ch H H' s.heap s'.heap)(hok:HOk X.prog X.w H' s'.heap)(hg:AllBare s'.gens)(hch:∀b∈ch,(b∈X.ex∨X.s₀.heap.objs.size<=b)/\b≠X.env.locals/\(∀x c,X.env.cells.lookup x=some c->c≠b)/\∀p∈X.pn++pins,p.1≠b):Inv X pins Z H' s':=by
 obtain ⟨h',g',d',t',o'⟩:=s'
 have e:o'=s.os:=ho
 subst e
 exact I.call (g':=g') (t':=t') (d':=d') u hok hg hch
end
abbrev XK:=Value->Option Addr->Hp->Prop
abbrev St:=List (Option V)
abbrev VK:=V->Hp->Prop
abbrev TE:=St->Hp->VK->Prop
abbrev TT:=St->Hp->(Bool->Hp->Prop)->Prop
abbrev TA:=St->Hp->(List V->Hp->Prop)->Prop
structure gf where
 nx:St->Hp->Prop
 rt:VK
 bk:St->Hp->Prop:=fun _ _=>False
 ct:St->Hp->Prop:=fun _ _=>False
abbrev TS:=gf->St->Hp->Prop
def EP (X:Cx)(pins:List (Addr×Obj))(Z:St)(Q:VK)(u:Value)(s':Shared):Prop:=∃ v H',Inv X pins Z H' s'/\RelV v u/\Q v H'
def TP (X:Cx)(pins:List (Addr×Obj))(Z:St)(Q:Bool->Hp->Prop)(b:Bool)(s':Shared):Prop:=∃ H',Inv X pins Z H' s'/\Q b H'
def AP (X:Cx)(pins:List (Addr×Obj))(Z:St)(Q:List V->Hp->Prop)(us:List Value)(s':Shared):Prop:=∃ vs H',Inv X pins Z H' s'/\Vals vs us/\Q vs H'
def SP (X:Cx)(pins:List (Addr×Obj))(D:gf)(f:Flow)(s':Shared):Prop :=
 match f with
 | .next=>∃ σ' H',Inv X pins σ' H' s'/\D.nx σ' H'
 | .brk=>∃ σ' H',Inv X pins σ' H' s'/\D.bk σ' H'
 | .cont=>∃ σ' H',Inv X pins σ' H' s'/\D.ct σ' H'
 | .ret u=>∃ v σ' H',Inv X pins σ' H' s'/\RelV v u/\D.rt v H'
def PE (X:Cx)(e:Expr)(t:TE):Prop :=
 ∀(pins:List (Addr×Obj)) (s:Shared) (Z:St) (H:Hp) (Q:VK),Inv X pins Z H s->t Z H Q->wpAny (model X.prog X.w) X.A (eval e X.env) (EP X pins Z Q) X.xe s
def PT (X:Cx)(e:Expr)(t:TT):Prop :=
 ∀(pins:List (Addr×Obj)) (s:Shared) (Z:St) (H:Hp) (Q:Bool->Hp->Prop),Inv X pins Z H s->t Z H Q->wpAny (model X.prog X.w) X.A (isTrue e X.env (eval e X.env)) (TP X pins Z Q) X.xe s
def PW (X:Cx)(e:Expr)(t:TT):Prop :=
 ∀(whole:Sem Value) (pins:List (Addr×Obj)) (s:Shared) (Z:St) (H:Hp) (Q:Bool->Hp->Prop),Inv X pins Z H s->t Z H Q->wpAny (model X.prog X.w) X.A (isTrue e X.env whole) (TP X pins Z Q) X.xe s
theorem PW.pt {X:Cx}{e:Expr}{t:TT}(h:PW X e t):PT X e t:=h _
def PA (X:Cx)(es:List Expr)(t:TA):Prop :=
 ∀(pos:Pos) (pins:List (Addr×Obj)) (s:Shared) (Z:St) (H:Hp) (Q:List V->Hp->Prop),Inv X pins Z H s->t Z H Q->wpAny (model X.prog X.w) X.A (spliced (backTo pos (starEach es X.env))) (AP X pins Z Q) X.xe s
def PS (X:Cx)(st:Stmt)(t:TS):Prop :=
 ∀(pins:List (Addr×Obj)) (s:Shared) (Z:St) (H:Hp) (D:gf),Inv X pins Z H s->t D Z H->wpAny (model X.prog X.w) X.A (exec st X.env) (SP X pins D) X.xe s
def PSs (X:Cx)(st:List Stmt)(t:TS):Prop :=
 ∀(pins:List (Addr×Obj)) (s:Shared) (Z:St) (H:Hp) (D:gf),Inv X pins Z H s->t D Z H->wpAny (model X.prog X.w) X.A (execs st X.env) (SP X pins D) X.xe s
theorem thn {α:Type}{t:Sem α}{Q Q':α->Shared->Prop}{M:Model}(h:wpAny M A t Q E s)(hQ:∀a s,Q a s->Q' a s):wpAny M A t Q' E s:=B0 h hQ fun _ _ x=>x
section
variable {X:Cx}
def AL (i:Nat):TE:=fun Z H Q=>∃ v,Z[i]?=some (some v)/\Q v H
def tC (v:V):TE:=fun _ H Q=>Q v H
theorem ug {i j pos}:PE X (.Constant (.int i) j pos) (tC (.int i)):=fun _ _ _ H _ I h=>wpAny_Constant_int ⟨.int i,H,I.tok _,⟨_,rfl⟩,h⟩
theorem nk {x j pos}:PE X (.Constant (.str x) j pos) (tC (.str x)):=fun _ _ _ H _ I h=>Calls.Constant_str ⟨.str x,H,I.tok _,⟨_,rfl⟩,h⟩
def Gl (X:Cx)(x:Str):Prop:=X.env.kindOf x=some .globalImplicit
theorem dh {Z:St}{H:Hp}(I:Inv X pins Z H s)(hg:Gl X x)(hm:X.mg x=some u)(h:Q u s)(hd:(x == ("__debug__":Str))=false:=by decide):wpAny (model X.prog X.w) X.A (eval (.Name x pos) X.env) Q E s :=
 EJ I.ok.kind hg (Calls.loadGlobal_global (by rw [I.ok.glob];exact I.mod.glob.keeps I.bk) hm h) hd
theorem iC {Z:St}{H:Hp}(I:Inv X pins Z H s)(hg:Gl X x)(hm:X.mg x=none)(hv:bootBuiltins x=some u)(h:Q u s)(hn:x≠"__name__":=by decide)(hd:(x == ("__debug__":Str))=false:=by decide):wpAny (model X.prog X.w) X.A (eval (.Name x pos) X.env) Q E s:=by
 obtain ⟨mb,h1,h2⟩:=I.mod.blt
 exact EJ I.ok.kind hg (Calls.loadGlobal_builtin (by rw [I.ok.glob];exact I.mod.glob.keeps I.bk) hm (by rw [I.ok.blt];exact h1.keeps I.bk) ((h2 x hn).trans hv) h) hd
variable {a b:Expr}{ta tb:TE}{pos:Pos}
def PC (X:Cx)(op:CmpOp)(a b:Expr)(t:TE):Prop :=
 ∀(pins:List (Addr×Obj)) (s:Shared) (Z:St) (H:Hp) (Q:VK),Inv X pins Z H s->t Z H Q ->
  wpAny (model X.prog X.w) X.A (eval a X.env) (fun v s₁=>wpAny (model X.prog X.w) X.A (eval b X.env) (fun u s₂=>wpAny (model X.prog X.w) X.A (compareOp op v u) (EP X pins Z Q) X.xe s₂) X.xe s₁) X.xe s
def tB (t:TE):TT:=fun Z H Q=>t Z H fun x H1=>∃ c,x=.bl c/\Q c H1
theorem vP {op:CmpOp}{t:TE}(h:PC X op a b t)(h1:behindInMarks op b=false:=by first | exact nobehind _ AW AW | rfl):PT X (.Compare a [op] [b] pos) (tB t):=by
 intro pins s Z H Q I hw
 refine wpAny_isTrue_Compare1 (thn (h pins s Z H _ I hw) fun v s1 h1=>thn h1 fun u s2 h2=>thn h2 fun c s3 zz=>?_) h1
 obtain ⟨x,H1,I1,r1,q1⟩:=zz
 obtain ⟨d,rfl,q⟩:=q1
 cases r1
 exact C9 ⟨H1,I1,q⟩
variable {tA tB':TT}{rest:List Expr}
def At (t u:TT):TT:=fun Z H Q=>t Z H fun c H1=>if c=true then u Z H1 Q else Q false H1
def tOr (t u:TT):TT:=fun Z H Q=>t Z H fun c H1=>if c=true then Q true H1 else u Z H1 Q
def AS (t:TT):TT:=fun Z H Q=>t Z H fun c H1=>Q (!c) H1
def z8 (ta tb:TE):TE:=fun Z H Q=>ta Z H fun x H1=>∃ c,x=.bl c/\if c=true then tb Z H1 Q else Q (.bl false) H1
def tIf (t:TT)(ta tb:TE):TE:=fun Z H Q=>t Z H fun c H1=>if c=true then ta Z H1 Q else tb Z H1 Q
end
def SqL (K:W.Frag)(H:Hp)(a:Addr)(xs:List V):Prop :=
 Rd H a (.lst xs) ∨
  ∃ (o:Obj) (its:Array Value) (n:Nat),K.lookup a=some o/\o.cls=.type "list"/\o.dict=none/\o.data=.seq its n/\its.size<=sizeLine/\Vals xs its.toList
def SqT (K:W.Frag)(H:Hp)(a:Addr)(xs:List V):Prop :=
 Rd H a (.tup xs) ∨
  ∃ (o:Obj) (its:Array Value) (n:Nat),K.lookup a=some o/\o.cls=.type "tuple"/\o.data=.seq its n/\its.size<=sizeLine/\Vals xs its.toList
def AE:Value->Option V
 | .none=>some .non
 | .bool b=>some (.bl b)
 | .int i _=>some (.int i)
 | .str x _=>some (.str x)
 | .bytes b _=>some (.byt b)
 | .float b _=>some (.flt b)
 | .ref a=>some (.ref a)
 | .type n=>some (.ty n)
 | _=>none
theorem RelV.abs {x:V}(r:RelV x u):AE u=some x:=by
 cases x with
 | non=>cases r;rfl
 | bl _=>cases r;rfl
 | int _=>obtain ⟨t,rfl⟩:=r;rfl
 | str _=>obtain ⟨t,rfl⟩:=r;rfl
 | byt _=>obtain ⟨t,rfl⟩:=r;rfl
 | flt _=>obtain ⟨t,rfl⟩:=r;rfl
 | ref _=>cases r;rfl
 | ty _=>cases r;rfl
theorem RelV.inj {x y:V}(r:RelV x u)(q:RelV y u):x=y:=BI (r.abs.symm.trans q.abs)
theorem Vals.inj:∀{xs ys:List V} {us:List Value},Vals xs us->Vals ys us->xs=ys
 | _,_,_,.nil,.nil=>rfl
 | _,_,_,.cons r t,.cons r' t'=>by rw [r.inj r',Vals.inj t t']
section
variable {X:Cx}{pins:List (Addr×Obj)}{Z:St}{H:Hp}{s:Shared}{a:Addr}{xs ys:List V}
theorem SqL.of (h:H a=some (.lst xs)):SqL K H a xs:=.inl (.inl h)
theorem SqT.of (h:H a=some (.tup xs)):SqT K H a xs:=.inl (.inl h)
theorem Inv.list (I:Inv X pins Z H s)(h:SqL X.K H a xs):∃ its:List Value,Vals xs its/\PlainL s.heap a its.toArray/\xs.length<=sizeLine:=by
 rcases h with h | ⟨o,its,n,hk,hc,hd,hs,hz,r⟩
 .obtain ⟨z,its,n,r,e⟩:=h.ok I.hok
  exact ⟨its,r,⟨_,n,e,rfl,rfl,rfl⟩,z⟩
 refine ⟨its.toList,r,⟨o,n,I.kIn a o hk,hc,hd,by simpa using hs⟩,?_⟩
 have e:=r.length
 simp only [Dm] at e
 lia
theorem Inv.tuple (I:Inv X pins Z H s)(h:SqT X.K H a xs):∃ its:List Value,Vals xs its/\IsTup s.heap a its.toArray/\xs.length<=sizeLine:=by
 rcases h with h | ⟨o,its,n,hk,hc,hs,hz,r⟩
 .obtain ⟨z,its,r,p⟩:=h.ok I.hok
  exact ⟨its,r,p,z⟩
 refine ⟨its.toList,r,⟨o,I.kIn a o hk,hc,n,by simpa using hs⟩,?_⟩
 have e:=r.length
 simp only [Dm] at e
 lia
theorem Inv.list_inj (I:Inv X pins Z H s)(h:SqL X.K H a xs)(h':SqL X.K H a ys):xs=ys:=by
 obtain ⟨its,r,⟨o,n,e,_,_,d⟩,_⟩:=I.list h
 obtain ⟨its',r',⟨o',n',e',_,_,d'⟩,_⟩:=I.list h'
 rw [e] at e';cases e'
 rw [d] at d'
 injection d' with d1 _
 have:its=its':=by simpa using congrArg Array.toList d1
 subst this
 exact r.inj r'
theorem Inv.tuple_inj (I:Inv X pins Z H s)(h:SqT X.K H a xs)(h':SqT X.K H a ys):xs=ys:=by
 obtain ⟨its,r,⟨o,e,_,n,d⟩,_⟩:=I.tuple h
 obtain ⟨its',r',⟨o',e',_,n',d'⟩,_⟩:=I.tuple h'
 rw [e] at e';cases e'
 rw [d] at d'
 injection d' with d1 _
 have:its=its':=by simpa using congrArg Array.toList d1
 subst this
 exact r.inj r'
end
abbrev Cx.wish (X:Cx)(E:Value->Shared->Prop):Cx:={ X with xe:=E }
abbrev Cx.nox (X:Cx):Cx:=X.wish fun _ _=>False
theorem Cx.Ok.wish {X:Cx}(ok:X.Ok)(E:Value->Shared->Prop):(X.wish E).Ok :=
 ⟨ok.mod,ok.kind,ok.glob,ok.blt,ok.above,ok.inj,ok.has,ok.cab,ok.hd,ok.frames,ok.stk,ok.exf,ok.bs,ok.bsz,ok.noex,ok.exfs,ok.funs,ok.frf⟩
theorem Cx.Ok.unwish {X:Cx}(ok:(X.wish E).Ok):X.Ok :=
 ⟨ok.mod,ok.kind,ok.glob,ok.blt,ok.above,ok.inj,ok.has,ok.cab,ok.hd,ok.frames,ok.stk,ok.exf,ok.bs,ok.bsz,ok.noex,ok.exfs,ok.funs,ok.frf⟩
section
variable {X:Cx}{pins:List (Addr×Obj)}{Z:St}{H:Hp}{s:Shared}{E:Value->Shared->Prop}
theorem Inv.wish (I:Inv X pins Z H s)(E:Value->Shared->Prop):Inv (X.wish E) pins Z H s:=⟨I.ok.wish E,I.os,I.bare,I.base,I.loc,I.cell,I.free,I.freeC,I.pin,I.hok,I.len⟩
theorem Inv.unwish (I:Inv (X.wish E) pins Z H s):Inv X pins Z H s:=⟨I.ok.unwish,I.os,I.bare,I.base,I.loc,I.cell,I.free,I.freeC,I.pin,I.hok,I.len⟩
theorem SP.unwish {D:gf}{f:Flow}(h:SP (X.wish E) pins D f s'):SP X pins D f s':=by
 cases f with
 | next=>obtain ⟨σ',H',I,q⟩:=h;exact ⟨σ',H',I.unwish,q⟩
 | brk=>obtain ⟨σ',H',I,q⟩:=h;exact ⟨σ',H',I.unwish,q⟩
 | cont=>obtain ⟨σ',H',I,q⟩:=h;exact ⟨σ',H',I.unwish,q⟩
 | ret u=>obtain ⟨v,σ',H',I,r,q⟩:=h;exact ⟨v,σ',H',I.unwish,r,q⟩
theorem PSs.nox {st:List Stmt}{t:TS}(h:PSs X.nox st t):PSs X st t:=fun pins s Z H D I hw =>
 B0 (h pins s Z H D (I.wish _) hw) (fun _ _ q=>q.unwish) fun _ _ z=>False.elim z
end
section
variable {X:Cx}{st:Stmt}{rest:List Stmt}{t u:TS}{e:Expr}{te:TE}{pos:Pos}
def zW:TS:=fun D Z H=>D.nx Z H
def Av (t u:TS):TS:=fun D Z H=>t { D with nx:=u D } Z H
def yk:TS:=fun D Z H=>D.bk Z H
theorem Inv.quiet {Z:St}{H:Hp}(I:Inv X pins Z H s):interactive X.env=false:=by simp [interactive,I.ok.kind]
def zV (te:TE):TS:=fun D Z H=>te Z H fun _ H1=>D.nx Z H1
def Au (te:TE):TS:=fun D Z H=>te Z H D.rt
def z4 (c:TT)(t u:TS):TS:=fun D Z H=>c Z H fun b H1=>if b=true then t D Z H1 else u D Z H1
theorem xV {c:Expr}{a b:List Stmt}{tc:TT}(hc:PT X c tc)(ha:PSs X a t)(hb:PSs X b u):PS X (.If c a b pos) (z4 tc t u):=by
 intro pins s Z H D I h
 refine wpAny_If (thn (hc pins s Z H _ I h) fun d s1 zz=>?_)
 obtain ⟨H1,I1,q1⟩:=zz
 cases d with
 | true=>exact ha pins s1 Z H1 D I1 q1
 | false=>exact hb pins s1 Z H1 D I1 q1
def tNever:TS:=fun _ _ _=>False
end
abbrev TG:=V->St->Hp->(St->Hp->Prop)->Prop
abbrev TGs:=List V->St->Hp->(St->Hp->Prop)->Prop
def PG (X:Cx)(target:Expr)(t:TG):Prop :=
 ∀(pins:List (Addr×Obj)) (s:Shared) (Z:St) (H:Hp) (v:V) (u:Value) (Q:St->Hp->Prop),Inv X pins Z H s->RelV v u->t v Z H Q ->
  wpAny (model X.prog X.w) X.A (assign target X.env u) (fun _ s'=>∃ σ' H',Inv X pins σ' H' s'/\Q σ' H') X.xe s
def PGs (X:Cx)(ts:List Expr)(t:TGs):Prop :=
 ∀(pins:List (Addr×Obj)) (s:Shared) (Z:St) (H:Hp) (vs:List V) (us:List Value) (Q:St->Hp->Prop),Inv X pins Z H s->Vals vs us->t vs Z H Q ->
  wpAny (model X.prog X.w) X.A (assignInOrder ((assignEach ts X.env).map (·.2)) us) (fun _ s'=>∃ σ' H',Inv X pins σ' H' s'/\Q σ' H') X.xe s
abbrev zm:=V->V->V->Hp->(Hp->Prop)->Prop
def zE (X:Cx)(t:zm):Prop :=
 ∀(pins:List (Addr×Obj)) (s:Shared) (Z:St) (H:Hp) (o i v:V) (ov iv u:Value) (Q:Hp->Prop),Inv X pins Z H s->RelV o ov->RelV i iv->RelV v u->t o i v H Q ->
  wpAny (model X.prog X.w) X.A (setItem ov iv u) (fun _ s'=>∃ H',Inv X pins Z H' s'/\Q H') X.xe s
section
variable {X:Cx}{pos:Pos}
def dE (i:Nat):TG:=fun v Z H Q=>Q (Z.set i (some v)) H
theorem gH (hN:X.N.Nodup)(hi:X.N[i]?=some x)(hx:Loc X.env.scope x)(hf:X.fn x=true∨X.env.scope.names.lookup x=some .local:=by first | exact .inl rfl | exact .inr rfl | assumption):PG X (.Name x pos) (dE i):=by
 intro pins s Z H v u Q I r h
 exact wpAny_assign_Name (iO I hN hi hx r (fun s' I'=>⟨_,H,I',h⟩) hf)
def zo:TGs:=fun vs Z H Q=>vs=[]/\Q Z H
def ph (t:TG)(u:TGs):TGs:=fun vs Z H Q=>∃ v r,vs=v::r/\t v Z H fun σ' H'=>u r σ' H' Q
theorem qq:PGs X [] zo:=by
 intro pins s Z H vs us Q I r h
 obtain ⟨e,h⟩:=h
 subst e
 cases r
 exact assignInOrder_nil ⟨Z,H,I,h⟩
theorem hW {e:Expr}{t:TG}{u:TGs}(h1:PG X e t)(h2:PGs X es u)(hs:(assignEach (e::es) X.env).map (·.2)=assign e X.env::(assignEach es X.env).map (·.2):=by rfl):PGs X (e::es) (ph t u):=by
 intro pins s Z H vs us Q I r h
 obtain ⟨v,vr,e1,h⟩:=h
 subst e1
 cases r with
 | cons r rr =>
  rw [hs]
  refine assignInOrder_cons (thn (h1 pins s Z H _ _ _ I r h) fun _ s1 zz=>?_)
  obtain ⟨σ1,H1,I1,q1⟩:=zz
  exact h2 pins s1 σ1 H1 _ _ Q I1 rr q1
def zd (K:W.Frag)(n:Nat)(t:TGs):TG:=fun v Z H Q=>∃ a xs,v=.ref a/\SqT K H a xs/\xs.length=n/\t xs Z H Q
theorem uq {k:Nat}{t:TGs}(hc:X.calm=true)(h:PGs X es t)(hn:(assignEach es X.env).length=n:=by rfl)(hst:(assignEach es X.env).findIdx? (·.1)=none:=by rfl):PG X (.Tuple es k pos) (zd X.K n t):=by
 intro pins s Z H v u Q I r hw
 obtain ⟨a,xs,e1,hq,hl,hw⟩:=hw
 subst e1
 cases r
 obtain ⟨its,rv,ht,hz⟩:=I.tuple hq
 refine assign_Tuple_tuple (I.ok.hd hc) ht (by simp [hn,<-hl,rv.length]) hst fun h' hx=>?_
 have I1:Inv X pins Z H { s with heap:=h' }:=I.kept (t':=s.toks) fun b o e=>hx b o (BE (Bp e)) e
 exact h pins _ Z H xs _ Q I1 (by simpa using rv) hw
def AI (to ti:TE)(t:zm):TG:=fun v Z H Q=>to Z H fun o H1=>ti Z H1 fun i H2=>t o i v H2 fun H3=>Q Z H3
def wD (te:TE)(g:TG):TS:=fun D Z H=>te Z H fun x H1=>g x Z H1 D.nx
def zg (c:TT)(tb:TS):TS:=fun D Z H=>∃ W:Nat->St->Hp->Prop,(∃ m,W m Z H)/\∀m Z H,W m Z H ->
 c Z H fun b H1=>if b=true then ∃ N:St->Hp->Prop,(∀σ' H',N σ' H'->∃ m',m'<m/\W m' σ' H')/\tb { D with nx:=N,ct:=N,bk:=D.nx } Z H1 else D.nx Z H1
end
structure It where
 go:Nat->Hp->Prop
 yld:Nat->Hp->V->Hp->Prop
 stop:Nat->Hp->Prop
def jV (X:Cx)(pins:List (Addr×Obj))(H:Hp)(b:Addr):Prop :=
 H b=none/\b≠X.env.locals/\b∉X.fs/\(b∈X.ex∨X.s₀.heap.objs.size<=b)/\(∀x c,X.env.cells.lookup x=some c->c≠b)/\∀p∈X.pn++pins,p.1≠b
theorem Inv.fpOk {X:Cx}{Z:St}{H H':Hp}(I:Inv X pins Z H s)(hb:s.heap.objs.size<=b)(hn:H' b=none):jV X pins H' b:=by
 refine ⟨hn,Fy (Bw I.lt hb),I.nofs hb,.inr (A0 I.sz hb),fun x c e z=>?_,fun p hp z=>?_⟩
 .obtain ⟨v,q⟩:=I.cell x c e
  exact absurd (Bw q.lt (by rw [z];exact hb)) (CI _)
 exact absurd (Bw (Bp (I.pin p hp).1) (by rw [z];exact hb)) (CI _)
structure lW (P:Program)(w:World)(K:W.Frag)(tg:Expr)(J:It)(fp:List Addr)(it:Addr)(tn:Nat->Heap->Prop):Prop where
 mem:it∈fp
 obj:∀i h,tn i h->∀b∈fp,∃ o,h.get? b=some o/\∀v,o.data≠.cell v
 keep:∀i h h',tn i h->(∀b∈fp,∀o,h.get? b=some o->h'.get? b=some o)->tn i h'
 item:∀(X:Cx),X.prog=P->X.w=w->X.K=K->X.calm=true->∀(i:Nat) (pins:List (Addr×Obj)) (s:Shared) (Z:St) (H:Hp) (E:Value->Shared->Prop),Inv X pins Z H s->(∀b∈fp,jV X pins H b)->tn i s.heap->J.go i H ->
  wpAny (model P w) X.A (pyNext (.ref it)) (fun r s1=>∃ u,r=some u /\
   wpAny (model P w) X.A (letOwnedTupleGo tg (.ref it) u) (fun _ s2=>∃ x H',Inv X pins Z H' s2/\RelV x u/\J.yld i H x H'/\tn (i+1) s2.heap/\∀b∈fp,H' b=none) E s1) E s
 done:∀(X:Cx),X.prog=P->X.w=w->X.K=K->X.calm=true->∀(i:Nat) (pins:List (Addr×Obj)) (s:Shared) (Z:St) (H:Hp) (E:Value->Shared->Prop),Inv X pins Z H s->(∀b∈fp,jV X pins H b)->tn i s.heap->J.stop i H ->
  wpAny (model P w) X.A (pyNext (.ref it)) (fun r s1=>r=none/\Inv X pins Z H s1) E s
 self:∀(A:Around) (i:Nat) (s:Shared) (Q:Value->Shared->Prop) (E:Value->Shared->Prop),tn i s.heap->Q (.ref it) s->wpAny (model P w) A (pyIter (.ref it)) Q E s
abbrev TI:=St->Hp->(It->Hp->Prop)->Prop
def PIE (X:Cx)(pins:List (Addr×Obj))(Z:St)(tg:Expr)(R:It->Hp->Prop)(itv:Value)(s2:Shared):Prop :=
 ∃ (it:Addr) (fp:List Addr) (tn:Nat->Heap->Prop) (J:It) (H':Hp),itv=.ref it/\Inv X pins Z H' s2/\lW X.prog X.w X.K tg J fp it tn/\tn 0 s2.heap/\(∀b∈fp,jV X pins H' b)/\R J H'
def PI (X:Cx)(tg iter:Expr)(wi:TI):Prop :=
 ∀(pins:List (Addr×Obj)) (s:Shared) (Z:St) (H:Hp) (R:It->Hp->Prop),Inv X pins Z H s->wi Z H R ->
  wpAny (model X.prog X.w) X.A (eval iter X.env) (fun v s1=>wpAny (model X.prog X.w) X.A (pyIter v) (PIE X pins Z tg R) X.xe s1) X.xe s
theorem iN {M:Model}{it:Addr}{o:Obj}{n:String}{vs:Array Value}{Q:Unit->Shared->Prop}(ho:s.heap.get? it=some o)(hc:o.cls=.type n)(hd:o.data=.fields vs)(hn:["enumerate","zip","dict_itemiterator","dict_reverseitemiterator","odict_iterator","itertools.zip_longest","itertools.pairwise"].contains n=false)(hQ:Q () s):wpAny M A (letOwnedTupleGo tg (.ref it) u) Q E s:=by
  unfold letOwnedTupleGo
  cases tg <;> first
    | exact Bv hQ
    | (cases u <;> first
        | exact Bv hQ
        | (refine Be (wpAny_load ho ?_)
           rw [hc,hd]
           show wpAny M A (if (["enumerate","zip","dict_itemiterator","dict_reverseitemiterator","odict_iterator","itertools.zip_longest","itertools.pairwise"].contains n&&vs[0]? == some (rawInt _))=true then _ else _) Q E s
           rw [Bc (by intro h;rw [hn,Bool.false_and] at h;cases h)]
           exact Bv hQ))
def Itl (K:W.Frag)(a:Addr):It :=
 ⟨fun i H=>∃ xs x,SqL K H a xs/\xs[i]?=some x,fun i H x H'=>H'=H/\∀xs,SqL K H a xs->xs[i]?=some x,fun i H=>∃ xs,SqL K H a xs/\xs.length<=i⟩
def Itt (K:W.Frag)(a:Addr):It :=
 ⟨fun i H=>∃ xs x,SqT K H a xs/\xs[i]?=some x,fun i H x H'=>H'=H/\∀xs,SqT K H a xs->xs[i]?=some x,fun i H=>∃ xs,SqT K H a xs/\xs.length<=i⟩
def Itr (lo:Int)(n:Nat):It:=⟨fun i _=>i<n,fun i H x H'=>H'=H/\x=.int (lo+i),fun i _=>n<=i⟩
theorem rg {P:Program}(a it:Addr):lW P w K tg (Itl K a) [it] it (fun i h=>h.IsListIter it a i) where
 mem:=by simp
 obj:=fun i h st b hb=>by
  have e:b=it:=by simpa using hb
  subst e
  obtain ⟨o,e,c,d⟩:=st
  exact ⟨o,e,fun v z=>by rw [d] at z;cases z⟩
 keep:=fun i h h' st k=>st.at fun o e=>k it AY o e
 item:=by
  intro X hP hw hK hc i pins s Z H E I hf st hg
  subst hP hw hK
  obtain ⟨xs,x,hq,hx⟩:=hg
  obtain ⟨its,rv,p,hz⟩:=I.list hq
  obtain ⟨u,hu,ru⟩:=rv.get hx
  obtain ⟨f0,f1,f2,f3,f4,f5⟩:=hf it AY
  refine wpAny_pyNext_list_item st p.isList (x:=u) (by simpa using hu) fun h' st' sb=>?_
  have I1:Inv X pins Z H { s with heap:=h' }:=I.turned (t':=s.toks) (fun b o hb e=>(sb.2 b hb).trans e) f0 f1 f3 f4 f5
  obtain ⟨o,e,c,d⟩:=id st'
  exact ⟨u,rfl,iN (s:={ s with heap:=h' }) e c d AW ⟨x,H,I1,ru,⟨rfl,fun ys hy=>by rw [I.list_inj hy hq];exact hx⟩,st',fun b hb=>(hf b hb).1⟩⟩
 done:=by
  intro X hP hw hK hc i pins s Z H E I hf st hg
  subst hP hw hK
  obtain ⟨xs,hq,hx⟩:=hg
  obtain ⟨its,rv,p,hz⟩:=I.list hq
  obtain ⟨f0,f1,f2,f3,f4,f5⟩:=hf it AY
  have hl:=rv.length
  exact wpAny_pyNext_list_end (I.ok.hd hc) st p.isList (by simp;lia) fun h' eb=>⟨rfl,I.turned (t':=s.toks) (fun b o hb e=>eb b o hb e) f0 f1 f3 f4 f5⟩
 self:=fun _ _ _ _ _ st h=>wpAny_pyIter_listiter st h
theorem oy {P:Program}(a it:Addr):lW P w K tg (Itt K a) [it] it (fun i h=>h.IsTupleIter it a i) where
 mem:=by simp
 obj:=fun i h st b hb=>by
  have e:b=it:=by simpa using hb
  subst e
  obtain ⟨o,e,c,d⟩:=st
  exact ⟨o,e,fun v z=>by rw [d] at z;cases z⟩
 keep:=fun i h h' st k=>st.at fun o e=>k it AY o e
 item:=by
  intro X hP hw hK hc i pins s Z H E I hf st hg
  subst hP hw hK
  obtain ⟨xs,x,hq,hx⟩:=hg
  obtain ⟨its,rv,p,hz⟩:=I.tuple hq
  obtain ⟨u,hu,ru⟩:=rv.get hx
  obtain ⟨f0,f1,f2,f3,f4,f5⟩:=hf it AY
  refine wpAny_pyNext_tuple_item st (show s.heap.IsTuple a its.toArray from p) (x:=u) (by simpa using hu) fun h' st' sb=>?_
  have I1:Inv X pins Z H { s with heap:=h' }:=I.turned (t':=s.toks) (fun b o hb e=>(sb.2 b hb).trans e) f0 f1 f3 f4 f5
  obtain ⟨o,e,c,d⟩:=id st'
  exact ⟨u,rfl,iN (s:={ s with heap:=h' }) e c d AW ⟨x,H,I1,ru,⟨rfl,fun ys hy=>by rw [I.tuple_inj hy hq];exact hx⟩,st',fun b hb=>(hf b hb).1⟩⟩
 done:=by
  intro X hP hw hK hc i pins s Z H E I hf st hg
  subst hP hw hK
  obtain ⟨xs,hq,hx⟩:=hg
  obtain ⟨its,rv,p,hz⟩:=I.tuple hq
  obtain ⟨f0,f1,f2,f3,f4,f5⟩:=hf it AY
  have hl:=rv.length
  exact wpAny_pyNext_tuple_end (I.ok.hd hc) st (show s.heap.IsTuple a its.toArray from p) (by simp;lia) fun h' eb=>⟨rfl,I.turned (t':=s.toks) (fun b o hb e=>eb b o hb e) f0 f1 f3 f4 f5⟩
 self:=fun _ _ _ _ _ st h=>wpAny_pyIter_tupleiter st h
theorem nu {P:Program}{K:PySem.W.Frag}(it:Addr)(lo:Int)(n:Nat):lW P w K tg (Itr lo n) [it] it (fun i h=>IsRangeIter h it (lo+(i:Nat)*1) ((n:Int)-(i:Nat)) 1) where
 mem:=by simp
 obj:=fun i h st b hb=>by
  have e:b=it:=by simpa using hb
  subst e
  exact ⟨_,st,fun v z=>by
   have z':Data.fields _=Data.cell v:=z
   cases z'⟩
 keep:=fun i h h' st k=>k it AY _ st
 item:=by
  intro X hP hw hK hc i pins s Z H E I hf st hg
  subst hP hw hK
  obtain ⟨f0,f1,f2,f3,f4,f5⟩:=hf it AY
  have W:=Walks.range (prog:=X.prog) (w:=X.w) (I.ok.hd hc) it lo 1 n
  refine W.item i s _ _ hg st fun v h' tk hv st' kk=>?_
  obtain ⟨t,rfl⟩:=hv
  have I1:Inv X pins Z H { s with heap:=h',toks:=tk }:=I.turned (fun b o hb e=>kk b o (by simpa using hb) e) f0 f1 f3 f4 f5
  refine ⟨_,rfl,iN (s:={ s with heap:=h',toks:=tk }) (n:="range_iterator") st' rfl rfl AW ⟨.int (lo+i),H,I1,⟨t,?_⟩,⟨rfl,rfl⟩,st',fun b hb=>(hf b hb).1⟩⟩
  rw [Fg]
 done:=by
  intro X hP hw hK hc i pins s Z H E I hf st hg
  subst hP hw hK
  obtain ⟨f0,f1,f2,f3,f4,f5⟩:=hf it AY
  exact wpAny_pyNext_range_end (I.ok.hd hc) st (by have:n<=i:=hg;lia) fun h' eb=>⟨rfl,I.turned (t':=s.toks) (fun b o hb e=>eb b o hb e) f0 f1 f3 f4 f5⟩
 self:=fun _ _ _ _ _ st h=>wpAny_pyIter_rangeiter st h
section
variable {X:Cx}{tg:Expr}
def z7 (K:W.Frag)(tl:TE):TI:=fun Z H R=>tl Z H fun x H1=>∃ a,x=.ref a/\(∃ xs,SqL K H1 a xs)/\R (Itl K a) H1
def AN (K:W.Frag)(tl:TE):TI:=fun Z H R=>tl Z H fun x H1=>∃ a,x=.ref a/\(∃ xs,SqT K H1 a xs)/\R (Itt K a) H1
theorem vg {Z:St}{H:Hp}{R:It->Hp->Prop}{lo hi:Int}{t u v:Tok}{tk:Nat}(I:Inv X pins Z H s)(h1:-(2 ^ 62)<=lo)(h2:lo<2 ^ 62)(h3:-(2 ^ 62)<=hi)(h4:hi<2 ^ 62)(q:R (Itr lo (hi-lo).toNat) H):wpAny (model X.prog X.w) X.A (pyIter (.ref s.heap.objs.size)) (PIE X pins Z tg R) E { s with heap:=s.heap.push { cls:=.type "range",data:=.fields #[.int lo t,.int hi u,.int 1 v] },toks:=tk }:=by
 refine wpAny_pyIter_range (IsRange.new ..) (small_one h1 h2 h3 h4) ?_
 have I1:Inv X pins Z H { s with heap:=s.heap.push { cls:=.type "range",data:=.fields #[.int lo t,.int hi u,.int 1 v] },toks:=tk }:=I.kept fun b o e=>Bg _ e
 refine ⟨(s.heap.push { cls:=.type "range",data:=.fields #[.int lo t,.int hi u,.int 1 v] }).objs.size,[(s.heap.push { cls:=.type "range",data:=.fields #[.int lo t,.int hi u,.int 1 v] }).objs.size],_,_,H,rfl,
  I1.kept (t':=tk) fun b o e=>Bg _ e,nu _ lo (hi-lo).toNat,?_,fun b hb=>?_,q⟩
 .have e1:lo+((0:Nat):Int)*1=lo:=by simp
  have e2:(((hi-lo).toNat:Nat):Int)-((0:Nat):Int)=Builtin.Range.rangeSize lo hi 1:=by rw [rangeSize_one];split <;> lia
  show IsRangeIter _ _ (lo+((0:Nat):Int)*1) ((((hi-lo).toNat:Nat):Int)-((0:Nat):Int)) 1
  rw [e1,e2]
  exact BB _ rfl
 have e:b=(s.heap.push { cls:=.type "range",data:=.fields #[.int lo t,.int hi u,.int 1 v] }).objs.size:=by simpa using hb
 subst e
 exact I1.fpOk (A9 _) (I1.hok.fresh (A9 _))
def zD (ta:TA):TI:=fun Z H R=>ta Z H fun vs H1=>∃ j:Int,vs=[.int j]/\-(2 ^ 62)<=j/\j<2 ^ 62/\R (Itr 0 j.toNat) H1
def FW (J:It)(g:TG)(tb:TS)(D:gf)(Z:St)(H0:Hp):Prop:=∃ W:Nat->Nat->St->Hp->Prop,(∃ m,W 0 m Z H0)/\∀i m Z H,W i m Z H ->
 (J.stop i H/\D.nx Z H)∨(J.go i H/\∃ N:St->Hp->Prop,(∀σ' H',N σ' H'->∃ m',m'<m/\W (i+1) m' σ' H')/\∀x H',J.yld i H x H'->g x Z H' fun σ2 H2=>tb { D with nx:=N,ct:=N,bk:=D.nx } σ2 H2)
def AA (wi:TI)(g:TG)(tb:TS):TS:=fun D Z H=>wi Z H fun J H1=>FW J g tb D Z H1
def gg (fp:List Addr)(h:Heap):List (Addr×Obj):=fp.filterMap fun b=>(h.get? b).map fun o=>(b,o)
theorem b8 {o:Obj}(hb:b∈fp)(e:h.get? b=some o):(b,o)∈gg fp h:=BY.mpr ⟨b,hb,by rw [e];rfl⟩
theorem rC {p:Addr×Obj}(hp:p∈gg fp h):p.1∈fp/\h.get? p.1=some p.2:=by
 obtain ⟨b,hb,e⟩:=BY.mp hp
 cases q:h.get? b with
 | none=>rw [q] at e;cases e
 | some o =>
  rw [q] at e
  have e':(b,o)=p:=BI e
  subst e'
  exact ⟨hb,q⟩
theorem Inv.pinned {Z:St}{H:Hp}(I:Inv X pins Z H s)(hf:∀b∈fp,jV X pins H b)(ho:∀b∈fp,∃ o,s.heap.get? b=some o/\∀v,o.data≠.cell v):Inv X (pins++gg fp s.heap) Z H s :=
 I.pins_of fun p hp=>(BG.mp hp).elim (fun z=>I.pin p (Bq _ z)) fun z=>by
  obtain ⟨hb,e⟩:=rC z
  obtain ⟨f0,f1,f2,_⟩:=hf p.1 hb
  obtain ⟨o,e',d⟩:=ho p.1 hb
  rw [e] at e';cases e'
  exact ⟨e,f0,f1,f2,d⟩
theorem Inv.unpinned {pl:List (Addr×Obj)}{Z:St}{H:Hp}(I:Inv X (pins++pl) Z H s):Inv X pins Z H s:=I.pins_of fun p hp=>I.pin p (Bq _ (Cd _ hp))
end
theorem xy {xs:List V}{g:TG}{tb:TS}{D:gf}{Z:St}{H:Hp}(Pv:Nat->St->Hp->Prop)(h0:Pv 0 Z H)(hl:∀i Z H,i<=xs.length->Pv i Z H->SqT K H a xs)(hs:∀i x Z H,xs[i]?=some x->Pv i Z H->g x Z H fun σ2 H2=>tb { D with nx:=Pv (i+1),ct:=Pv (i+1),bk:=D.nx } σ2 H2)(hd:∀Z H,Pv xs.length Z H->D.nx Z H):
  FW (Itt K a) g tb D Z H:=by
 refine ⟨fun i m Z H=>m=xs.length-i/\i<=xs.length/\Pv i Z H,⟨xs.length,AY,BK _,h0⟩,?_⟩
 rintro i m Z H ⟨rfl,hi,p⟩
 have q:=hl i Z H hi p
 by_cases hlt:i<xs.length
 .refine .inr ⟨⟨xs,xs[i],q,by simp [hlt]⟩,Pv (i+1),fun σ' H' p'=>⟨xs.length-(i+1),AX,rfl,hlt,p'⟩,fun x H' y=>?_⟩
  obtain ⟨e,y⟩:=y
  subst e
  exact hs i x Z _ (y xs q) p
 have e:i=xs.length:=by lia
 subst e
 exact .inl ⟨⟨xs,q,A9 _⟩,hd Z H p⟩
theorem dP {lo:Int}{g:TG}{tb:TS}{D:gf}{Z:St}{H:Hp}(Pv:Nat->St->Hp->Prop)(h0:Pv 0 Z H)(hs:∀i Z H,i<n->Pv i Z H->g (.int (lo+i)) Z H fun σ2 H2=>tb { D with nx:=Pv (i+1),ct:=Pv (i+1),bk:=D.nx } σ2 H2)(hd:∀Z H,Pv n Z H->D.nx Z H):
  FW (Itr lo n) g tb D Z H:=by
 refine ⟨fun i m Z H=>m=n-i/\i<=n/\Pv i Z H,⟨n,AY,BK _,h0⟩,?_⟩
 rintro i m Z H ⟨rfl,hi,p⟩
 by_cases hlt:i<n
 .refine .inr ⟨hlt,Pv (i+1),fun σ' H' p'=>⟨n-(i+1),AX,rfl,hlt,p'⟩,fun x H' y=>?_⟩
  obtain ⟨e,y⟩:=y
  subst e y
  exact hs i Z _ hlt p
 have e:i=n:=by lia
 subst e
 exact .inl ⟨A9 _,hd Z H p⟩
abbrev R2:=V->V->Hp->VK->Prop
def OpR (X:Cx)(f:Value->Value->Sem Value)(r:R2):Prop :=
 ∀(pins:List (Addr×Obj)) (s:Shared) (Z:St) (H:Hp) (x y:V) (v u:Value) (Q:VK),Inv X pins Z H s->RelV x v->RelV y u->r x y H Q ->
  wpAny (model X.prog X.w) X.A (f v u) (EP X pins Z Q) X.xe s
def UnR (X:Cx)(f:Value->Sem Value)(r:V->Hp->VK->Prop):Prop :=
 ∀(pins:List (Addr×Obj)) (s:Shared) (Z:St) (H:Hp) (x:V) (v:Value) (Q:VK),Inv X pins Z H s->RelV x v->r x H Q ->
  wpAny (model X.prog X.w) X.A (f v) (EP X pins Z Q) X.xe s
def cf (X:Cx)(f:Value)(r:List V->Hp->VK->Prop):Prop :=
 ∀(pins:List (Addr×Obj)) (s:Shared) (Z:St) (H:Hp) (xs:List V) (us:List Value) (Q:VK),Inv X pins Z H s->Vals xs us->r xs H Q ->
  wpAny (model X.prog X.w) X.A (call f us) (EP X pins Z Q) X.xe s
def tOp (r:R2)(ta tb:TE):TE:=fun Z H Q=>ta Z H fun x H1=>tb Z H1 fun y H2=>r x y H2 Q
def tUn (r:V->Hp->VK->Prop)(ta:TE):TE:=fun Z H Q=>ta Z H fun x H1=>r x H1 Q
def rI (C:Int->Int->Prop)(g:Int->Int->V):R2:=fun x y H Q=>∃ i j,x=.int i/\y=.int j/\C i j/\Q (g i j) H
def rI0 (g:Int->Int->V):R2:=fun x y H Q=>∃ i j,x=.int i/\y=.int j/\Q (g i j) H
def rU (g:Int->V):V->Hp->VK->Prop:=fun x H Q=>∃ i,x=.int i/\Q (g i) H
section
variable {X:Cx}{a b c:Expr}{ta tb tc:TE}{pos:Pos}
theorem zv (ha:PE X a ta)(hb:PE X b tb){Z:St}{H:Hp}{R:V->V->Hp->Prop}(I:Inv X pins Z H s)(h:ta Z H fun x H1=>tb Z H1 fun y H2=>R x y H2){f:Value->Value->Sem Value}(hf:∀v u s2 x y H2,Inv X pins Z H2 s2->RelV x v->RelV y u->R x y H2->wpAny (model X.prog X.w) X.A (f v u) Q X.xe s2):
  wpAny (model X.prog X.w) X.A (eval a X.env) (fun v s₁=>wpAny (model X.prog X.w) X.A (eval b X.env) (fun u s₂=>wpAny (model X.prog X.w) X.A (f v u) Q X.xe s₂) X.xe s₁) X.xe s:=by
 refine thn (ha pins s Z H _ I h) fun v s1 zz=>?_
 obtain ⟨x,H1,I1,r1,q1⟩:=zz
 refine thn (hb pins s1 Z H1 _ I1 q1) fun u s2 zz=>?_
 obtain ⟨y,H2,I2,r2,q2⟩:=zz
 exact hf v u s2 x y H2 I2 r1 r2 q2
theorem opI {f:Value->Value->Sem Value}{C:Int->Int->Prop}{g:Int->Int->Int}(rule:∀(i j:Int) (t u:Tok) (s:Shared) (Q:Value->Shared->Prop) (E:Value->Shared->Prop),C i j->Q (.int (g i j) s.toks) { s with toks:=s.toks+1 }->wpAny (model X.prog X.w) X.A (f (.int i t) (.int j u)) Q E s):
  OpR X f (rI C fun i j=>.int (g i j)):=by
 intro pins s Z H x y v u Q I rx ry h
 obtain ⟨i,j,rfl,rfl,hc,q⟩:=h
 obtain ⟨t,rfl⟩:=rx
 obtain ⟨t',rfl⟩:=ry
 exact rule i j t t' s _ _ hc ⟨.int (g i j),H,I.tok _,⟨_,rfl⟩,q⟩
theorem zA {f:Value->Value->Sem Value}{g:Int->Int->Int}(rule:∀(i j:Int) (t u:Tok) (s:Shared) (Q:Value->Shared->Prop) (E:Value->Shared->Prop),Q (.int (g i j) s.toks) { s with toks:=s.toks+1 }->wpAny (model X.prog X.w) X.A (f (.int i t) (.int j u)) Q E s):
  OpR X f (rI0 fun i j=>.int (g i j)):=by
 intro pins s Z H x y v u Q I rx ry h
 obtain ⟨i,j,rfl,rfl,q⟩:=h
 obtain ⟨t,rfl⟩:=rx
 obtain ⟨t',rfl⟩:=ry
 exact rule i j t t' s _ _ ⟨.int (g i j),H,I.tok _,⟨_,rfl⟩,q⟩
theorem w5 {f:Value->Value->Sem Value}{g:Int->Int->Bool}(rule:∀(i j:Int) (t u:Tok) (s:Shared) (Q:Value->Shared->Prop) (E:Value->Shared->Prop),Q (.bool (g i j)) s->wpAny (model X.prog X.w) X.A (f (.int i t) (.int j u)) Q E s):
  OpR X f (rI0 fun i j=>.bl (g i j)):=by
 intro pins s Z H x y v u Q I rx ry h
 obtain ⟨i,j,rfl,rfl,q⟩:=h
 obtain ⟨t,rfl⟩:=rx
 obtain ⟨t',rfl⟩:=ry
 exact rule i j t t' s _ _ ⟨.bl (g i j),H,I,rfl,q⟩
def AF (i j:Int):Prop:=0<=j/\j<=1000000/\i.natAbs<2 ^ 64
def CMul (i j:Int):Prop:=(-(2 ^ 64)<i/\i<2 ^ 64)∨(-(2 ^ 64)<j/\j<2 ^ 64)
theorem CMul.ok {i j:Int}(h:CMul i j):IntMulOk i j:=by
 rcases h with ⟨h1,h2⟩ | ⟨h1,h2⟩
 .exact .of_left (intBits_le_64 h1 h2)
 exact .of_right (intBits_le_64 h1 h2)
theorem aQ:OpR X (binaryOp .Add) (rI0 fun i j=>.int (i+j)):=zA fun _ _ _ _ _ _ _ q=>add_int q
theorem bK:OpR X (binaryOp .Sub) (rI0 fun i j=>.int (i-j)):=zA fun _ _ _ _ _ _ _ q=>sub_int q
theorem cz:OpR X (binaryOp .Mult) (rI CMul fun i j=>.int (i*j)):=opI fun _ _ _ _ _ _ _ hc q=>mul_int q hc.ok
theorem aZ:OpR X (binaryOp .Mod) (rI (fun _ j=>0<j) fun i j=>.int (i % j)):=opI fun i j _ _ _ _ _ hc q=>by
 have h1:(0:Int)<j:=hc
 exact mod_int' AX (by rw [Int.fmod_eq_emod_of_nonneg i AX];exact q)
theorem ic:OpR X (binaryOp .Pow) (rI AF fun i j=>.int (i ^ j.toNat)):=opI fun _ _ _ _ _ _ _ hc q=>pow_int_small hc.1 hc.2.1 hc.2.2 q
theorem unI {f:Value->Sem Value}{g:Int->Int}(rule:∀(i:Int) (t:Tok) (s:Shared) (Q:Value->Shared->Prop) (E:Value->Shared->Prop),Q (.int (g i) s.toks) { s with toks:=s.toks+1 }->wpAny (model X.prog X.w) X.A (f (.int i t)) Q E s):
  UnR X f (rU fun i=>.int (g i)):=by
 intro pins s Z H x v Q I rx h
 obtain ⟨i,rfl,q⟩:=h
 obtain ⟨t,rfl⟩:=rx
 exact rule i t s _ _ ⟨.int (g i),H,I.tok _,⟨_,rfl⟩,q⟩
theorem gd:UnR X (unaryOp .USub) (rU fun i=>.int (-i)):=unI fun _ _ _ _ _ q=>neg_int q
end
def zF:V->V->Bool
 | .non,.non=>true | .non,.int _=>true | .int _,.non=>true | .non,.bl _=>true | .bl _,.non=>true | .non,.str _=>true | .str _,.non=>true
 | .int _,.int _=>true | .bl _,.bl _=>true | .str _,.str _=>true | .byt _,.byt _=>true
 | .int _,.str _=>true | .str _,.int _=>true | .bl _,.str _=>true | .str _,.bl _=>true
 | _,_=>false
def rEq:R2:=fun x y H Q=>zF x y=true/\Q (.bl (decide (x=y))) H
def rNe:R2:=fun x y H Q=>zF x y=true/\Q (.bl (!decide (x=y))) H
theorem qk {i j:Int}:decide (V.int i=V.int j)=(i == j):=by
 rw [Cr]
 simp
theorem vY {i j:Bool}:decide (V.bl i=V.bl j)=(i == j):=by
 rw [Cr]
 simp
theorem pT {i j:Str}:decide (V.str i=V.str j)=(i == j):=by
 rw [Cr]
 simp
theorem pN {i j:Array UInt8}:decide (V.byt i=V.byt j)=(i.toList == j.toList):=by
 rw [Cr]
 cases i
 cases j
 simp
section
variable {X:Cx}{a b c:Expr}{ta tb tc:TE}{pos:Pos}
theorem a7 {Z:St}{H:Hp}{Q:VK}{k k':Bool}(I:Inv X pins Z H s)(q:Q (.bl k) H)(e:k=k'):EP X pins Z Q (.bool k') s:=by
 subst e
 exact ⟨.bl k,H,I,rfl,q⟩
theorem bz:OpR X (compareOp .Eq) rEq:=by
 intro pins s Z H x y v u Q I rx ry h
 obtain ⟨hs,q⟩:=h
 cases x with
 | non =>
  cases rx
  cases y with
  | non=>cases ry;exact PySem.EqNone.eq_none_none (a7 I q AY)
  | bl j=>cases ry;exact PySem.EqNone.eq_none_bool (a7 I q AY)
  | int j=>obtain ⟨t',rfl⟩:=ry;exact PySem.EqNone.eq_none_int (a7 I q AY)
  | str j=>obtain ⟨t',rfl⟩:=ry;exact PySem.EqNone.eq_none_str (a7 I q AY)
  | _=>exact absurd (show false=true from hs) Bm
 | bl i =>
  cases rx
  cases y with
  | non=>cases ry;exact PySem.EqNone.eq_bool_none (a7 I q AY)
  | bl j=>cases ry;exact eq_bool (a7 I q vY)
  | str j=>obtain ⟨t',rfl⟩:=ry;exact PySem.EqMixed.eq_bool_str (a7 I q AY)
  | _=>exact absurd (show false=true from hs) Bm
 | int i =>
  obtain ⟨t,rfl⟩:=rx
  cases y with
  | non=>cases ry;exact PySem.EqNone.eq_int_none (a7 I q AY)
  | int j=>obtain ⟨t',rfl⟩:=ry;exact eq_int (a7 I q qk)
  | str j=>obtain ⟨t',rfl⟩:=ry;exact PySem.EqMixed.eq_int_str (a7 I q AY)
  | _=>exact absurd (show false=true from hs) Bm
 | str i =>
  obtain ⟨t,rfl⟩:=rx
  cases y with
  | non=>cases ry;exact PySem.EqNone.eq_str_none (a7 I q AY)
  | bl j=>cases ry;exact PySem.EqMixed.eq_str_bool (a7 I q AY)
  | int j=>obtain ⟨t',rfl⟩:=ry;exact PySem.EqMixed.eq_str_int (a7 I q AY)
  | str j=>obtain ⟨t',rfl⟩:=ry;exact eq_str (a7 I q pT)
  | _=>exact absurd (show false=true from hs) Bm
 | byt i =>
  obtain ⟨t,rfl⟩:=rx
  cases y with
  | byt j=>obtain ⟨t',rfl⟩:=ry;exact W.eq_bytes (a7 I q pN)
  | _=>exact absurd (show false=true from hs) Bm
 | _=>cases y <;> exact absurd (show false=true from hs) Bm
theorem zL:OpR X (compareOp .NotEq) rNe:=by
 intro pins s Z H x y v u Q I rx ry h
 obtain ⟨hs,q⟩:=h
 cases x with
 | non =>
  cases rx
  cases y with
  | non=>cases ry;exact PySem.EqNone.ne_none_none (a7 I q AY)
  | bl j=>cases ry;exact PySem.EqNone.ne_none_bool (a7 I q AY)
  | int j=>obtain ⟨t',rfl⟩:=ry;exact PySem.EqNone.ne_none_int (a7 I q AY)
  | str j=>obtain ⟨t',rfl⟩:=ry;exact PySem.EqNone.ne_none_str (a7 I q AY)
  | _=>exact absurd (show false=true from hs) Bm
 | bl i =>
  cases rx
  cases y with
  | non=>cases ry;exact PySem.EqNone.ne_bool_none (a7 I q AY)
  | bl j=>cases ry;exact ne_bool (a7 I q (congrArg not vY))
  | str j=>obtain ⟨t',rfl⟩:=ry;exact PySem.EqMixed.ne_bool_str (a7 I q AY)
  | _=>exact absurd (show false=true from hs) Bm
 | int i =>
  obtain ⟨t,rfl⟩:=rx
  cases y with
  | non=>cases ry;exact PySem.EqNone.ne_int_none (a7 I q AY)
  | int j=>obtain ⟨t',rfl⟩:=ry;exact ne_int (a7 I q (congrArg not qk))
  | str j=>obtain ⟨t',rfl⟩:=ry;exact PySem.EqMixed.ne_int_str (a7 I q AY)
  | _=>exact absurd (show false=true from hs) Bm
 | str i =>
  obtain ⟨t,rfl⟩:=rx
  cases y with
  | non=>cases ry;exact PySem.EqNone.ne_str_none (a7 I q AY)
  | bl j=>cases ry;exact PySem.EqMixed.ne_str_bool (a7 I q AY)
  | int j=>obtain ⟨t',rfl⟩:=ry;exact PySem.EqMixed.ne_str_int (a7 I q AY)
  | str j=>obtain ⟨t',rfl⟩:=ry;exact ne_str (a7 I q (congrArg not pT))
  | _=>exact absurd (show false=true from hs) Bm
 | byt i =>
  obtain ⟨t,rfl⟩:=rx
  cases y with
  | byt j=>obtain ⟨t',rfl⟩:=ry;exact W.ne_bytes (a7 I q (congrArg not pN))
  | _=>exact absurd (show false=true from hs) Bm
 | _=>cases y <;> exact absurd (show false=true from hs) Bm
theorem dq:OpR X (compareOp .Lt) (rI0 fun i j=>.bl (decide (i<j))):=w5 fun _ _ _ _ _ _ _ q=>lt_int q
theorem vk:OpR X (compareOp .LtE) (rI0 fun i j=>.bl (decide (i<=j))):=w5 fun _ _ _ _ _ _ _ q=>le_int q
theorem iu:OpR X (compareOp .Gt) (rI0 fun i j=>.bl (decide (j<i))):=w5 fun _ _ _ _ _ _ _ q=>gt_int q
theorem Aa:OpR X (compareOp .GtE) (rI0 fun i j=>.bl (decide (j<=i))):=w5 fun _ _ _ _ _ _ _ q=>ge_int q
theorem uD:OpR X (compareOp .Is) (fun x y H Q=>y=.non/\Q (.bl (decide (x=.non))) H):=by
 intro pins s Z H x y v u Q I rx ry h
 obtain ⟨rfl,q⟩:=h
 cases ry
 refine is_none_gen (a7 I q ?_)
 cases x <;> first
  | (cases rx;rfl)
  | (obtain ⟨t,rfl⟩:=rx;rfl)
theorem aE (b:Expr){op:CmpOp}(h:op≠.In:=by decide)(h2:op≠.NotIn:=by decide):behindInMarks op b=false:=by
 have e1:(op == CmpOp.In)=false:=by cases op <;> first | rfl | exact absurd rfl h
 have e2:(op == CmpOp.NotIn)=false:=by cases op <;> first | rfl | exact absurd rfl h2
 cases b <;> simp [behindInMarks,e1,e2]
def zP (t:TE):TT:=fun Z H Q=>t Z H fun x H'=>∃ k,x=.bl k/\Q k H'
def za (r r':R2)(ta tb tc:TE):TE:=fun Z H Q=>ta Z H fun x H1=>tb Z H1 fun y H2=>r x y H2 fun z H3=>∃ k,z=.bl k /\
 (if k=true then tc Z H3 fun w' H4=>r' y w' H4 Q else Q (.bl false) H3)
theorem f9:(sizeLine:Nat)<2 ^ 63:=by rw [FY];decide
theorem di:OpR X (binaryOp .Add) (fun x y H Q=>∃ i j,x=.str i/\y=.str j/\i.length+j.length<=sizeLine/\Q (.str (i++j)) H):=by
 intro pins s Z H x y v u Q I rx ry h
 obtain ⟨i,j,rfl,rfl,hz,q⟩:=h
 obtain ⟨t,rfl⟩:=rx
 obtain ⟨t',rfl⟩:=ry
 exact add_str (fun t' tk=>⟨.str (i++j),H,I.tok _,⟨_,rfl⟩,q⟩) hz
theorem fN {x:V}(r:Vals [x] us):∃ u,us=[u]/\RelV x u:=by
 cases r with
 | cons r1 r2=>cases r2;exact ⟨_,rfl,r1⟩
theorem vF {x y:V}(r:Vals [x,y] us):∃ u w',us=[u,w']/\RelV x u/\RelV y w':=by
 cases r with
 | cons r1 r2 =>
  cases r2 with
  | cons r3 r4=>cases r4;exact ⟨_,_,rfl,r1,r3⟩
theorem rF (hc:X.calm=true):cf X (.builtin "max") (fun xs H Q=>∃ i j,xs=[.int i,.int j]/\Q (.int (if j>i then j else i)) H):=by
 intro pins s Z H xs us Q I r h
 obtain ⟨i,j,rfl,q⟩:=h
 obtain ⟨u,w',rfl,⟨t,rfl⟩,⟨t',rfl⟩⟩:=vF r
 refine max_two_ints (I.ok.hd hc) fun h' tk k=>⟨_,H,I.kept k,?_,q⟩
 by_cases hj:j>i
 .rw [Bf hj,Bf hj];exact ⟨_,rfl⟩
 rw [Bc hj,Bc hj];exact ⟨_,rfl⟩
theorem rR (hc:X.calm=true):cf X (.builtin "min") (fun xs H Q=>∃ i j,xs=[.int i,.int j]/\Q (.int (if j<i then j else i)) H):=by
 intro pins s Z H xs us Q I r h
 obtain ⟨i,j,rfl,q⟩:=h
 obtain ⟨u,w',rfl,⟨t,rfl⟩,⟨t',rfl⟩⟩:=vF r
 refine min_two_ints (I.ok.hd hc) fun h' tk k=>⟨_,H,I.kept k,?_,q⟩
 by_cases hj:j<i
 .rw [Bf hj,Bf hj];exact ⟨_,rfl⟩
 rw [Bc hj,Bc hj];exact ⟨_,rfl⟩
theorem i8:cf X (.type "int") (fun xs H Q=>(∃ i,xs=[.int i]/\Q (.int i) H)∨∃ k,xs=[.bl k]/\Q (.int (if k then 1 else 0)) H):=by
 intro pins s Z H xs us Q I r h
 rcases h with ⟨i,rfl,q⟩ | ⟨k,rfl,q⟩
 .obtain ⟨u,rfl,t,rfl⟩:=fN r
  exact call_int_int ⟨.int i,H,I,⟨_,rfl⟩,q⟩
 obtain ⟨u,rfl,r1⟩:=fN r
 cases r1
 exact call_int_bool ⟨.int (if k then 1 else 0),H,I.tok _,⟨_,rfl⟩,q⟩
end
structure ObjM (h:Heap)(x dx C:Addr)(mA:Str->Option Value):Prop where
 obj:h.get? x=some (W.instObj C dx)
 ns:h.Ns1 dx mA
 ne:dx≠x
theorem qT {dx:Addr}(n:h.Ns1 dx mA):∃ od,h.get? dx=some od/\∀name,W.lookIn name od=some (mA name):=by
 obtain ⟨o,es,ep,ho,hd,hk,_,hm⟩:=n
 refine ⟨o,ho,fun name=>?_⟩
 have e:=hm name
 unfold nsFind findBy at e
 rw [<-Array.find?_toList] at e
 unfold W.lookIn
 rw [hd]
 dsimp only
 split
 .rename_i y q
  rw [q] at e
  exact congrArg some e
 rename_i q
 rw [q] at e
 have a:es.toList.any (·.refKey)=false:=by
  rw [List.any_eq_false]
  intro y hy
  obtain ⟨z,t,hkey⟩:=hk y (Array.mem_toList_iff.mp hy)
  simp [DictEntry.refKey,hkey]
 have a':¬ es.toList.any (·.refKey)=true:=by rw [a];exact Bm
 rw [Bc a']
 exact congrArg some e
theorem ObjM.look {x dx:Addr}(I:ObjM h x dx C mA):∃ od,W.InstAt h x (W.instObj C dx) C (some od)/\∀name,W.lookIn name od=some (mA name) :=
 let ⟨od,ho,hl⟩:=qT I.ns
 ⟨od,⟨I.obj,rfl,rfl,ho⟩,hl⟩
section
variable {prog:Program}{w:World}{A:Around}{E:Value->Shared->Prop}{s:Shared}{K:W.Frag}{x dx C f:Addr}{mA:Str->Option Value}{name:Str}{v:Value}
theorem wQ {expr:Bool}(X:K.In s.heap)(I:ObjM s.heap x dx C mA)(hg:W.plainGet K C name=true)(hh:W.hasDictIn K C=true)(ha:W.findIn K (.ref C) name=some none)(hv:mA name=some v)(hv':W.handedIn v=true)(h:Q v { s with toks:=s.toks+1 }):
  wpAny (model prog w) A (getAttr (.ref x) name expr) Q E s:=by
 obtain ⟨od,J,hl⟩:=I.look
 exact W.get_value X J (W.plainGet_of hg).1 (W.findObj_own hh ha rfl (by rw [hl,hv])) hv' h
theorem tX {Q:Value×List Value->Shared->Prop}(X:K.In s.heap)(I:ObjM s.heap x dx C mA)(hg:W.plainGet K C name=true)(hf:W.findIn K (.ref C) name=some (some (.ref f)))(ht:W.isFn K (.ref f)=true)(hv:mA name=none)(h:Q (.ref f,[.ref x]) s):
  wpAny (model prog w) A (getMethod (.ref x) name pl) Q E s:=by
 obtain ⟨od,J,hl⟩:=I.look
 exact W.method_fn X J (W.plainGet_of hg).1 (W.plainGet_of hg).2 hf (Eh.mp ht) (by show (W.lookIn name od).map (·.isSome)=some false;rw [hl,hv];rfl) h
theorem ww {ns:List Str}{Q:Unit->Shared->Prop}(X:K.In s.heap)(I:ObjM s.heap x dx C mA)(hs:W.findIn K (.ref C) "__setattr__"=some (some (.builtin "object.__setattr__")))(hp:W.plainOver K C=true)(ht:W.takerIn K C name=some none)(hh:W.hasDictIn K C=true)(hw:PySem.Within mA ns)(hsz:ns.length<=sizeLine)(h:∀h',ObjM h' x dx C (fun y=>if y=name then some v else mA y)->Heap.SameBut dx s.heap h'->Q () { s with heap:=h',toks:=s.toks+2 }):
  wpAny (model prog w) A (setAttr (.ref x) name v) Q E s:=by
 obtain ⟨od,J,hl⟩:=I.look
 refine W.set_plain X J hs (W.osa_open (s:={ s with toks:=s.toks+1 }) (r:=none) X J hp ht fun b=>?_)
 obtain ⟨cd,hc,hd'⟩:=W.any_some hh
 have hx:s.heap.get? x=some ⟨.ref C,some dx,.plain,#[]⟩:=I.obj
 refine Be (Bv (Be (Be (wpAny_loadPart hx (Be (W.Looks.here (s:={ s with toks:=s.toks+1 }) (W.looks_clsIn X hc) ?_))))))
 rw [hd']
 refine Bv (a:=some dx) (Be (Bv (Be ?_)))
 refine wpAny_nsSet1 (s:={ s with toks:=s.toks+1 }) I.ns fun h' hn2 hs2=>?_
 obtain ⟨oD,esD,epD,hoD,hdD,hcD⟩:=hn2.count (PySem.Within.cons name v hw)
 refine Be (wpAny_lookBehind hoD (by rw [hdD];exact pastItsLine_dict (A0 hcD (by rw [Bj];lia))) ?_)
 exact Bv (h _ ⟨(hs2.2 _ (Cm I.ne)).trans I.obj,hn2,I.ne⟩ hs2)
theorem tJ {R:Result->Shared->Prop}(X:K.In s.heap)(hm:W.makesIn K C=true)(hi:W.findIn K (.ref C) "__init__"=some (some (.ref f)))(hf:W.typeIn K (.ref f)=some (.type "function"))(h:codeAny (model prog w) (A.under (.builtin "type.__call__" ⟨.ref C::vs,kw⟩)) (.call (.ref f) ⟨.ref (s.heap.objs.size+1)::vs,kw⟩) (W.InitBack (s.heap.objs.size+1) R)
   { s with heap:=(s.heap.push W.emptyDict).push (W.instObj C s.heap.objs.size) }):
  codeAny (model prog w) A (.call (.ref C) ⟨vs,kw⟩) R s:=by
 obtain ⟨hh,g,d,t,os⟩:=s
 exact W.make_core (W.makes_of X hm) (W.looks_findIn X hi) (fun self=>W.bind_fn X self hf) (.inl rfl) h
end
def bG (f:Str)(v:V):List (Str×V)->List (Str×V)
 | []=>[(f,v)]
 | (g,x)::r=>if g=f then (g,v)::r else (g,x)::bG f v r
theorem dy (f g:Str)(v:V):∀fs:List (Str×V),(bG f v fs).lookup g=if g=f then some v else fs.lookup g
 | []=>by
  show List.lookup g [(f,v)]=_
  by_cases h:g=f
  .have hb:(g == f)=true:=Eh.mpr h
   simp only [List.lookup,hb,Bf h]
  .have hb:(g == f)=false:=CM.mpr h
   simp only [List.lookup,hb,Bc h]
 | (k,x)::r=>by
  have ih:=dy f g v r
  rw [show bG f v ((k,x)::r)=(if k=f then (k,v)::r else (k,x)::bG f v r) from rfl]
  by_cases hk:k=f
  .rw [Bf hk]
   by_cases h:g=k
   .have hb:(g == k)=true:=Eh.mpr h
    simp only [List.lookup,hb,Bf (h.trans hk)]
   .have hb:(g == k)=false:=CM.mpr h
    simp only [List.lookup,hb,Bc (fun e:g=f=>h (e.trans hk.symm))]
  .rw [Bc hk]
   by_cases h:g=k
   .have hb:(g == k)=true:=Eh.mpr h
    simp only [List.lookup,hb,Bc (fun e:g=f=>hk (h.symm.trans e))]
   .have hb:(g == k)=false:=CM.mpr h
    simp only [List.lookup,hb]
    exact ih
theorem fT (f:Str)(v:V):∀fs:List (Str×V),f∈(bG f v fs).map (·.1)/\∀g,g∈fs.map (·.1)->g∈(bG f v fs).map (·.1)
 | []=>⟨by simp [bG],fun g h=>by simp at h⟩
 | (k,x)::r=>by
  obtain ⟨i1,i2⟩:=fT f v r
  rw [show bG f v ((k,x)::r)=(if k=f then (k,v)::r else (k,x)::bG f v r) from rfl]
  by_cases hk:k=f
  .rw [Bf hk]
   subst hk
   exact ⟨AY,fun g h=>by simpa using h⟩
  .rw [Bc hk]
   refine ⟨?_,fun g h=>?_⟩
   .rw [BA]
    exact Bk _ i1
   .rw [BA] at h ⊢
    rcases ax.mp h with e | e
    .exact List.mem_cons.mpr (.inl e)
    .exact Bk _ (i2 g e)
theorem gx (f:Str)(v:V):∀fs:List (Str×V),(bG f v fs).length<=fs.length+1
 | []=>by simp [bG]
 | (k,x)::r=>by
  have ih:=gx f v r
  rw [show bG f v ((k,x)::r)=(if k=f then (k,v)::r else (k,x)::bG f v r) from rfl]
  by_cases hk:k=f
  .rw [Bf hk,Bj,Bj];lia
  .rw [Bc hk,Bj,Bj];lia
theorem RelO.some_of {v:V}{o:Option Value}(r:RelO (some v) o):∃ u,o=some u/\RelV v u:=by
 cases o with
 | none=>exact (show False from r).elim
 | some u=>exact ⟨u,rfl,r⟩
theorem RelO.none_of {o:Option Value}(r:RelO none o):o=none:=by
 cases o with
 | none=>rfl
 | some u=>exact (show False from r).elim
theorem rK {v:V}(r:RelV v u):W.handedIn u=true:=by
 cases v with
 | non=>cases (show u=Value.none from r);rfl
 | bl b=>cases (show u=Value.bool b from r);rfl
 | int i=>obtain ⟨t,e⟩:=(show ∃ t,u=Value.int i t from r);cases e;rfl
 | str x=>obtain ⟨t,e⟩:=(show ∃ t,u=Value.str x t from r);cases e;rfl
 | byt b=>obtain ⟨t,e⟩:=(show ∃ t,u=Value.bytes b t from r);cases e;rfl
 | flt b=>obtain ⟨t,e⟩:=(show ∃ t,u=Value.float b t from r);cases e;rfl
 | ref a=>cases (show u=Value.ref a from r);rfl
 | ty n=>cases (show u=Value.type n from r);rfl
section
variable {P:Program}{w:World}{H H':Hp}{h h':Heap}{a C dx:Addr}{fs fs':List (Str×V)}
theorem gX (hok:HOk P w H h)(e:H a=some (.ins C dx fs)):∃ mA,ObjM h a dx C mA/\(∀f,RelO (fs.lookup f) (mA f))/\PySem.Within mA (fs.map (·.1))/\fs.length<=1000/\H dx=some (.own a):=by
 obtain ⟨d,z,ne,ob,mA,n,r,q⟩:=(show ObjOk P w H h a (.ins C dx fs) from hok a _ e)
 exact ⟨mA,⟨ob,n,ne⟩,r,q,z,d⟩
end
structure Cls (K:W.Frag)(C:Addr):Prop where
 pg:W.plainGet K C Str.empty=true
 hd:W.hasDictIn K C=true
 po:W.plainOver K C=true
 sa:W.findIn K (.ref C) "__setattr__"=some (some (.builtin "object.__setattr__"))
theorem Cls.get (c:Cls K C)(f:Str):W.plainGet K C f=true:=c.pg
def NoAttr (K:W.Frag)(C:Addr)(f:Str):Prop:=W.findIn K (.ref C) f=some none
theorem NoAttr.taker {f:Str}(n:NoAttr K C f):W.takerIn K C f=some none:=by
 unfold W.takerIn
 rw [show W.findIn K (.ref C) f=some none from n]
 rfl
structure bx (K:W.Frag)(C:Addr)(m:Str)(f:Addr):Prop where
 at_:W.findIn K (.ref C) m=some (some (.ref f))
 fn:W.isFn K (.ref f)=true
 kp:W.keepIn K (.ref f)=true
section
variable {X:Cx}{pins:List (Addr×Obj)}{Z:St}{H:Hp}{s:Shared}{a C dx:Addr}{fs:List (Str×V)}{f:Str}{v:V}{A:Around}{E:Value->Shared->Prop}
theorem oM {b:Bool}(I:Inv X pins Z H s)(e:H a=some (.ins C dx fs))(c:Cls X.K C)(n:NoAttr X.K C f)(l:fs.lookup f=some v)(h:∀u s',Inv X pins Z H s'->RelV v u->Q u s'):wpAny (model X.prog X.w) A (getAttr (.ref a) f b) Q E s:=by
 obtain ⟨mA,O,r,_,_,_⟩:=gX I.hok e
 obtain ⟨u,hu,ru⟩:=RelO.some_of (v:=v) (o:=mA f) (by rw [<-l];exact r f)
 exact wQ I.kIn O (c.get f) c.hd n hu (rK ru) (h u _ (I.tok _) ru)
theorem eO {m:Str}{g:Addr}{Q:Value×List Value->Shared->Prop}(I:Inv X pins Z H s)(e:H a=some (.ins C dx fs))(c:Cls X.K C)(k:bx X.K C m g)(l:fs.lookup m=none)(h:Q (.ref g,[.ref a]) s):wpAny (model X.prog X.w) A (getMethod (.ref a) m pl) Q E s:=by
 obtain ⟨mA,O,r,_,_,_⟩:=gX I.hok e
 have hn:mA m=none:=RelO.none_of (by rw [<-l];exact r m)
 exact tX I.kIn O (c.get m) k.at_ k.fn hn h
theorem nK {y:V}{Q:Unit->Shared->Prop}(I:Inv X pins Z H s)(e:H a=some (.ins C dx fs))(c:Cls X.K C)(n:NoAttr X.K C f)(hl:fs.length<1000)(ry:RelV y u)(h:∀s',Inv X pins Z (upd H a (.ins C dx (bG f y fs))) s'->Q () s'):wpAny (model X.prog X.w) A (setAttr (.ref a) f u) Q E s:=by
 obtain ⟨mA,O,r,wi,_,ho⟩:=gX I.hok e
 have hz:(fs.map (·.1)).length<=sizeLine:=by rw [Bh,FY];lia
 refine ww I.kIn O c.sa c.po n.taker c.hd wi hz fun h' O' sb=>h _ ?_
 have hd:∃ o,h'.get? dx=some o:=let ⟨o,_,_,e',_⟩:=O'.ns;⟨o,e'⟩
 refine I.write (x:=a) (e:=dx) (by rw [e];exact True.intro) (.inr ho) (fun b q hb z=>(sb.2 b hb).trans z) hd ?_
 refine ⟨by rw [ai O.ne];exact ho,?_,O.ne,O'.obj,_,O'.ns,fun g=>?_,fun g hg=>?_⟩
 .have:=gx f y fs;lia
 .show RelO ((bG f y fs).lookup g) (if g=f then some u else mA g)
  rw [dy]
  by_cases q:g=f
  .rw [Bf q,Bf q];exact ry
  .rw [Bc q,Bc q];exact r g
 by_cases q:g=f
 .rw [q];exact (fT f y fs).1
 refine (fT f y fs).2 g (wi g fun z=>hg ?_)
 show (if g=f then some u else mA g)=none
 rw [Bc q];exact z
theorem Inv.made (I:Inv X pins Z H s):Inv X pins Z (upd (upd H s.heap.objs.size (.own (s.heap.objs.size+1))) (s.heap.objs.size+1) (.ins C s.heap.objs.size []))
  { s with heap:=(s.heap.push W.emptyDict).push (W.instObj C s.heap.objs.size) }:=by
 have e1:(s.heap.push W.emptyDict).get? s.heap.objs.size=some W.emptyDict:=BB s.heap rfl
 have e2:((s.heap.push W.emptyDict).push (W.instObj C s.heap.objs.size)).get? (s.heap.objs.size+1)=some (W.instObj C s.heap.objs.size):=by
  have:=BB (s.heap.push W.emptyDict) (o:=W.instObj C s.heap.objs.size) rfl
  rwa [EW] at this
 have e3:(s.heap.push W.emptyDict).Ns s.heap.objs.size (fun _=>none):=⟨W.emptyDict,#[],_,e1,rfl,(fun e he=>absurd he AY),fun _=>rfl⟩
 have I1:=I.laid (a:=s.heap.objs.size) (o:=.own (s.heap.objs.size+1)) (h':=s.heap.push W.emptyDict) (t':=s.toks) (fun b u q=>Bg _ q) (A9 _) ⟨_,e1⟩
 refine I1.laid (a:=s.heap.objs.size+1) (o:=.ins C s.heap.objs.size []) (t':=s.toks) (fun b u q=>Bg _ q) (EM (EW _ _)) ?_
 have ne:s.heap.objs.size≠s.heap.objs.size+1:=BE (CS _)
 refine ⟨by rw [ai ne,ad],BK _,ne,e2,fun _=>none,(Heap.Ns1.of_empty e3).at fun o q=>Bg _ q,fun _=>True.intro,fun y hy=>absurd rfl hy⟩
theorem xA {e:Expr}{f:Str}(hb:attributeBase e f env (eval e env)=eval e env)(h:wpAny (model prog w) A (eval e env) (fun o s₁=>wpAny (model prog w) A (getAttr o f true) Q E s₁) E s):wpAny (model prog w) A (eval (.Attribute e f pos) env) Q E s :=
 Attribute_any_ h (by rw [arm_eval_Attribute,hb])
end
def AO (K:W.Frag)(ta:TE)(f:Str):TE:=fun Z H Q=>ta Z H fun x H1=>∃ a C dx fs v,x=.ref a/\H1 a=some (.ins C dx fs)/\Cls K C/\NoAttr K C f/\fs.lookup f=some v/\Q v H1
def AM (K:W.Frag)(ta tv:TE)(f:Str):TS:=fun D Z H=>tv Z H fun y H1=>ta Z H1 fun x H2=>∃ a C dx fs,x=.ref a/\H2 a=some (.ins C dx fs)/\Cls K C/\NoAttr K C f/\fs.length<1000 /\
 D.nx Z (upd H2 a (.ins C dx (bG f y fs)))
section
variable {X:Cx}{pins:List (Addr×Obj)}{Z:St}{H:Hp}{s:Shared}{A:Around}{E:Value->Shared->Prop}{Q:Value->Shared->Prop}{c:Value}{b:Bool}
inductive fU (K:W.Frag)(H:Hp):V->Value->Prop where
 | non:fU K H .non (.type "NoneType")
 | bl (x:Bool):fU K H (.bl x) (.type "bool")
 | int (i:Int):fU K H (.int i) (.type "int")
 | str (x:Str):fU K H (.str x) (.type "str")
 | flt (x:UInt64):fU K H (.flt x) (.type "float")
 | lst {a:Addr} {xs:List V} (e:H a=some (.lst xs)):fU K H (.ref a) (.type "list")
 | frz {a:Addr} {o:Obj} {xs:List V} (e:H a=some (.frz o (.lst xs))):fU K H (.ref a) (.type "list")
 | tup {a:Addr} {xs:List V} (e:H a=some (.tup xs)):fU K H (.ref a) (.type "tuple")
 | dK {a:Addr} {kvs:List (Key×V)} (e:H a=some (.dK kvs)):fU K H (.ref a) (.type "dict")
 | dT {a:Addr} {kvs:List (List Key×V)} (e:H a=some (.dT kvs)):fU K H (.ref a) (.type "dict")
 | ins {a C dx:Addr} {fs:List (Str×V)} (e:H a=some (.ins C dx fs)) (cl:Cls K C) (ha:W.findIn K (.ref C) "__class__"=some (some (.builtin "object.__class__")))
   (hn:W.specialIn K (.builtin "object.__class__") "__get__"=some (some (.builtin "getset_descriptor.__get__"))) (htk:W.takesIn K (.builtin "object.__class__")=some true)
   (hm:W.mroIn K C (.type "object")=some true):fU K H (.ref a) (.ref C)
theorem rZ {x:V}{t:Value}(I:Inv X pins Z H s)(rx:RelV x u)(ty:fU X.K H x t)(e:W.kitOne X.K t c=some b)(h:∀tk,Q (.bool b) { s with toks:=tk }):
  wpAny (model X.prog X.w) A (call (.builtin "isinstance") [u,c]) Q E s:=by
 cases ty with
 | non=>cases (show u=Value.none from rx);exact DX W.kitx_none I.kIn True.intro e (fun z=>nomatch z) h
 | bl y=>cases (show u=Value.bool y from rx);exact DX W.kitx_bool I.kIn True.intro e (fun z=>nomatch z) h
 | int i=>obtain ⟨t,q⟩:=(show ∃ t,u=Value.int i t from rx);cases q;exact DX W.kitx_int I.kIn True.intro e (fun z=>nomatch z) h
 | str y=>obtain ⟨t,q⟩:=(show ∃ t,u=Value.str y t from rx);cases q;exact DX W.kitx_str I.kIn True.intro e (fun z=>nomatch z) h
 | flt y=>obtain ⟨t,q⟩:=(show ∃ t,u=Value.float y t from rx);cases q;exact DX W.kitx_float I.kIn True.intro e (fun z=>nomatch z) h
 | @lst a xs ea =>
  cases (show u=Value.ref a from rx)
  obtain ⟨_,_,n,_,h1⟩:=(show ObjOk X.prog X.w H s.heap a (.lst xs) from I.hok a _ ea)
  exact DX W.kitx_list I.kIn ⟨_,h1,rfl⟩ e (fun z=>nomatch z) h
 | @frz a ob xs ea =>
  cases (show u=Value.ref a from rx)
  obtain ⟨_,_,_,n,_,h1⟩:=(show ObjOk X.prog X.w H s.heap a (.frz ob (.lst xs)) from I.hok a _ ea)
  exact DX W.kitx_list I.kIn ⟨_,h1,rfl⟩ e (fun z=>nomatch z) h
 | @tup a xs ea =>
  cases (show u=Value.ref a from rx)
  obtain ⟨_,_,_,p⟩:=(show ObjOk X.prog X.w H s.heap a (.tup xs) from I.hok a _ ea)
  obtain ⟨o,h1,h2,_⟩:=p
  exact DX W.kitx_tuple I.kIn ⟨o,h1,h2⟩ e (fun z=>nomatch z) h
 | @dK a kvs ea =>
  cases (show u=Value.ref a from rx)
  obtain ⟨_,_,vs,_,p⟩:=(show ObjOk X.prog X.w H s.heap a (.dK kvs) from I.hok a _ ea)
  obtain ⟨o,es,ep,h1,h2,_⟩:=p
  exact DX W.kitx_dict I.kIn ⟨o,h1,h2.1⟩ e (fun z=>nomatch z) h
 | @dT a kvs ea =>
  cases (show u=Value.ref a from rx)
  obtain ⟨_,_,xs,_,o,es,ep,h1,h2,_⟩:=(show ObjOk X.prog X.w H s.heap a (.dT kvs) from I.hok a _ ea)
  exact DX W.kitx_dict I.kIn ⟨o,h1,h2.1⟩ e (fun z=>nomatch z) h
 | @ins a C dx fs ea cl ha hn htk hm =>
  cases (show u=Value.ref a from rx)
  obtain ⟨mA,O,_⟩:=gX I.hok ea
  obtain ⟨od,J,_⟩:=O.look
  exact DX (W.kitx_own (cl.get _) cl.hd ha hn htk hm) I.kIn J e (fun z=>nomatch z) h
end
structure Room (k:Nat)(A:Around):Prop where
 hd:A.handled=none
 dp:A.depth+3*k+5<recursionLimit
 un:A.units+16*k+200<cLine
theorem Room.mono {k:Nat}(r:Room k A)(h:j<=k):Room j A:=⟨r.hd,by have:=r.dp;lia,by have:=r.un;lia⟩
theorem Room.deeper {k:Nat}(r:Room (k+1) A)(env:Env):Room k (A.deeper env) :=
 ⟨r.hd,by have:=r.dp;show A.depth+1+3*k+5<_;lia,by have:=r.un;show A.units+3+16*k+200<_;lia⟩
theorem oS:(A.under (.builtin "type.__call__" ⟨.ref C::us,kw⟩)).depth=A.depth+1:=by
 first | rfl | simp [Around.under,Code.weight,Code.isCreation,Code.isGuard,Code.isCaller,Code.frames,Code.isFrame,guardIds]
theorem nB:(A.under (.builtin "type.__call__" ⟨.ref C::us,kw⟩)).units=A.units+1:=by
 first | rfl | simp [Around.under,Code.cUnits,Code.frames,Code.isFrame]
theorem Room.make {k:Nat}(r:Room (k+1) A)(C:Addr)(us:List Value)(kw:List (Str×Value)):Room k (A.under (.builtin "type.__call__" ⟨.ref C::us,kw⟩)) :=
 ⟨r.hd,by have:=r.dp;rw [oS];lia,by have:=r.un;rw [nB];lia⟩
theorem Room.depth {k:Nat}(r:Room k A):A.depth<recursionLimit:=by have:=r.dp;lia
theorem Room.units {k:Nat}(r:Room k A):A.units+64<cLine:=by have:=r.un;lia
theorem Room.units0 {k:Nat}(r:Room k A):A.units<cLine:=by have:=r.un;lia
def nP:TA:=fun _ H Q=>Q [] H
def xS (ta:TE)(tr:TA):TA:=fun Z H Q=>ta Z H fun x H1=>tr Z H1 fun xs H2=>Q (x::xs) H2
section
variable {X:Cx}{e:Expr}{es:List Expr}{te:TE}{t:TA}{pos:Pos}
theorem nZ:PA X [] nP:=fun _ _ _ _ H Q I h=>Ei ⟨[],H,I,.nil,h⟩
theorem kn (ha:PE X e te)(hr:PA X es t)(hs:starEach (e::es) X.env=(false,eval e X.env)::starEach es X.env:=by rfl):PA X (e::es) (xS te t):=by
 intro pos pins s Z H Q I h
 rw [hs]
 show wpAny _ _ (spliced ((false,eval e X.env)::backTo pos (starEach es X.env))) _ _ s
 refine DF (thn (ha pins s Z H _ I h) fun u s1 zz=>?_)
 obtain ⟨x,H1,I1,r1,q1⟩:=zz
 exact thn (hr pos pins s1 Z H1 _ I1 q1) fun us s2 ⟨xs,H2,I2,r2,q2⟩=>⟨x::xs,H2,I2,.cons r1 r2,q2⟩
def yA (t:TA):TE:=fun Z H Q=>t Z H fun xs H1=>xs.length<=sizeLine/\∀p,H1 p=none->Q (.ref p) (upd H1 p (.tup xs))
def AU (t:TA):TE:=fun Z H Q=>t Z H fun xs H1=>xs.length<=sizeLine/\∀p,H1 p=none->Q (.ref p) (upd H1 p (.lst xs))
theorem uy {x1}(h:PA X es t):PE X (.Tuple es x1 pos) (yA t):=by
 intro pins s Z H Q I hq
 refine wpAny_Tuple_spliced (thn (h pos pins s Z H _ I hq) fun us s1 ⟨xs,H1,I1,r,z,q⟩=>⟨by rw [<-r.length];exact z,?_⟩)
 have hf:H1 s1.heap.objs.size=none:=I1.hok.fresh (A9 _)
 refine ⟨.ref s1.heap.objs.size,upd H1 s1.heap.objs.size (.tup xs),I1.laid (t':=s1.toks) (fun b u e=>Bg _ e) (A9 _) ?_,rfl,q _ hf⟩
 exact ⟨z,us,r,⟨_,BB _ rfl,rfl,_,rfl⟩⟩
end
abbrev Sp:=List V->Hp->VK->XK->Prop
abbrev CXT:=List Env->Hp->Shared->XK->Value->Shared->Prop
structure Env0 (P:Program)(w:World)(K:W.Frag)(mg:Str->Option Value)(base:Heap)(A:Around)(outer:List Env)(s:Shared)(H:Hp):Prop where
 frames:A.frames=some outer
 mod:Mod K mg base
 bs:∀b o,base.get? b=some o->s.heap.get? b=some o/\H b=none
 bsz:base.objs.size<=s.heap.objs.size
 funs:s.heap.FunFrames base outer
 frf:∀b∈frs outer,H b=none
 hok:HOk P w H s.heap
 bare:AllBare s.gens
def CE (outer:List Env)(P:Program)(w:World)(H:Hp)(s:Shared)(Q:VK)(u:Value)(s':Shared):Prop :=
 ∃ v H',s'.os=s.os/\AllBare s'.gens/\Un (frs outer) [] H H' s.heap s'.heap/\HOk P w H' s'.heap/\RelV v u/\Q v H'
def CR (CX:CXT)(outer:List Env)(P:Program)(w:World)(H:Hp)(s:Shared)(Q:VK)(E:XK)(r:Result)(s':Shared):Prop :=
 match r with
 | .ok (.ret u)=>CE outer P w H s Q u s'
 | .ok _=>False
 | .error e=>CX outer H s E e s'
structure av (P:Program)(w:World)(K:W.Frag)(mg:Str->Option Value)(base:Heap)(CX:CXT)(k:Nat)(f:Addr)(fd:FuncData)(ps:List Str)(sp:Sp):Prop where
 len:∀vs H Q E,sp vs H Q E->vs.length=ps.length
 run:∀(A:Around) (outer:List Env) (s:Shared) (H:Hp) (args:Args) (us:List Value) (vs:List V) (Q:VK) (E:XK),Room k A->Env0 P w K mg base A outer s H->BindsTo s fd args (ps.zip us)->Vals vs us->sp vs H Q E ->
  codeAny (model P w) A (.call (.ref f) args) (CR CX outer P w H s Q E) s
theorem Env0.make {P:Program}{H:Hp}(e:Env0 P w K mg base A outer s H)(C:Addr)(us:List Value)(kw:List (Str×Value)):
  Env0 P w K mg base (A.under (.builtin "type.__call__" ⟨.ref C::us,kw⟩)) outer s H:=⟨by first | exact e.frames | (simpa [Around.under,Code.envs,Code.isFrame,pushEnvs] using e.frames),e.mod,e.bs,e.bsz,e.funs,e.frf,e.hok,e.bare⟩
section
variable {X:Cx}{pins:List (Addr×Obj)}{Z:St}{H:Hp}{s s':Shared}
theorem Inv.env0 (I:Inv X pins Z H s):Env0 X.prog X.w X.K X.mg X.base X.A X.stack s H :=
 ⟨I.ok.frames,I.ok.mod,I.bs,A0 I.ok.bsz I.sz,I.stack,I.stkFree,I.hok,I.bare⟩
theorem Inv.after {Q:VK}(I:Inv X pins Z H s)(h:CE X.stack X.prog X.w H s Q u s'):EP X pins Z Q u s':=by
 obtain ⟨v,H',os,bare,un,hok,r,q⟩:=h
 obtain ⟨hh,g,d,t,os'⟩:=s'
 obtain rfl:os'=s.os:=os
 exact ⟨v,H',I.call (h':=hh) (g':=g) (d':=d) (t':=t) (ch:=[]) un hok bare (fun b z=>absurd z AY),r,q⟩
end
def tf (sp:Sp)(dvs:List V)(E:XK)(t:TA):TE:=fun Z H Q=>t Z H fun vs H1=>sp (vs++dvs) H1 Q E
def xY (C:Addr)(m:Str)(sp:Sp)(dvs:List V)(E:XK)(ta:TE)(t:TA):TE:=fun Z H Q=>ta Z H fun x H1=>∃ a dx fs,x=.ref a/\H1 a=some (.ins C dx fs)/\fs.lookup m=none /\
 t Z H1 fun vs H2=>sp (x::(vs++dvs)) H2 Q E
def x6 (C:Addr)(sp:Sp)(dvs:List V)(E:XK)(t:TA):TE:=fun Z H Q=>t Z H fun vs H1=>∀x dx,H1 x=none->H1 dx=none->dx≠x ->
 sp (.ref x::(vs++dvs)) (upd (upd H1 dx (.own x)) x (.ins C dx [])) (fun v H2=>v=.non/\Q (.ref x) H2) E
def Binds (K:W.Frag)(fd:FuncData)(ps:List Str)(ds:List Value):Prop :=
 ∀(s:Shared) (us:List Value),K.In s.heap->(us++ds).length=ps.length->BindsTo s fd ⟨us,[]⟩ (ps.zip (us++ds))
theorem Binds.all (h:∀us:List Value,us.length=ps.length->bindArgs fd ⟨us,[]⟩=pure (ps.zip us)):Binds K fd ps []:=fun s us _ hl=>by
 rw [Cg] at hl ⊢
 exact .of_eq (h us hl)
def cj (CX:CXT)(X:Cx)(E:XK):Prop:=∀(pins:List (Addr×Obj)) (Z:St) (H:Hp) (s:Shared) (e:Value) (s':Shared),Inv X pins Z H s->CX X.stack H s E e s'->X.xe e s'
section
variable {X:Cx}{CX:CXT}{k:Nat}{f C:Addr}{fd:FuncData}{ps:List Str}{sp:Sp}{dvs:List V}{ds:List Value}{E:XK}{x m:Str}{p pos apos:Pos}{e o:Expr}{es:List Expr}{ta:TE}{t:TA}
theorem jI {Z:St}{H:Hp}{Q:VK}{vs:List V}(F:av X.prog X.w X.K X.mg X.base CX k f fd ps sp)(hr:Room k X.A)(hb:Binds X.K fd ps ds)(hd:Vals dvs ds)(hx:cj CX X E)(I:Inv X pins Z H s)(r:Vals vs us)(h:sp (vs++dvs) H Q E):wpAny (model X.prog X.w) X.A (call (.ref f) us) (EP X pins Z Q) X.xe s:=by
 have r2:Vals (vs++dvs) (us++ds):=r.append hd
 have hl:(us++ds).length=ps.length:=by rw [<-r2.length];exact F.len _ _ _ _ h
 refine wpAny_call (EN (F.run X.A X.stack s H ⟨us,[]⟩ (us++ds) (vs++dvs) Q E hr I.env0 (hb s us I.kIn hl) r2 h) fun r s' hq=>?_)
 cases r with
 | error e=>exact hx pins Z H s e s' I hq
 | ok fl =>
  cases fl with
  | ret u=>exact I.after hq
  | next=>exact False.elim hq
  | brk=>exact False.elim hq
  | cont=>exact False.elim hq
structure Mk (K:W.Frag)(C f:Addr):Prop where
 makes:W.makesIn K C=true
 init:W.findIn K (.ref C) "__init__"=some (some (.ref f))
 fn:W.isFn K (.ref f)=true
 kp:W.keepIn K (.ref C)=true
theorem me {Z:St}{H:Hp}{Q:VK}{vs:List V}(M:Mk X.K C f)(F:av X.prog X.w X.K X.mg X.base CX k f fd ps sp)(hr:Room (k+1) X.A)(hb:Binds X.K fd ps ds)(hd:Vals dvs ds)(hx:cj CX X E)(I:Inv X pins Z H s)(r:Vals vs us)(h:∀x dx,H x=none->H dx=none->dx≠x->sp (.ref x::(vs++dvs)) (upd (upd H dx (.own x)) x (.ins C dx [])) (fun v H2=>v=.non/\Q (.ref x) H2) E):
  wpAny (model X.prog X.w) X.A (call (.ref C) us) (EP X pins Z Q) X.xe s:=by
 have hq:=h (s.heap.objs.size+1) s.heap.objs.size (I.hok.fresh (Ci _)) (I.hok.fresh (A9 _)) (BE (CS _))
 have I2:=Inv.made (C:=C) I
 have r2:Vals (V.ref (s.heap.objs.size+1)::(vs++dvs)) (Value.ref (s.heap.objs.size+1)::(us++ds)):=.cons rfl (r.append hd)
 have hl:(Value.ref (s.heap.objs.size+1)::us++ds).length=ps.length:=by
  have e:=r2.length
  rw [F.len _ _ _ _ hq] at e
  exact e.symm
 refine wpAny_call (tJ (f:=f) I.kIn M.makes M.init (Eh.mp M.fn) (EN (F.run _ X.stack _ _ ⟨Value.ref (s.heap.objs.size+1)::us,[]⟩ (Value.ref (s.heap.objs.size+1)::(us++ds)) _ _ E (hr.make C us [])
  (I2.env0.make C us []) (hb _ (Value.ref (s.heap.objs.size+1)::us) I2.kIn hl) r2 hq) fun r s' hq'=>?_))
 cases r with
 | error e=>exact hx pins Z _ _ e s' I2 hq'
 | ok fl =>
  cases fl with
  | ret u =>
   obtain ⟨v,H',I3,rv,ev,q3⟩:=I2.after hq'
   subst ev
   exact ⟨rv,⟨V.ref (s.heap.objs.size+1),H',I3,rfl,q3⟩⟩
  | next=>exact False.elim hq'
  | brk=>exact False.elim hq'
  | cont=>exact False.elim hq'
end
structure au (N P:List Str)(sc:Scope):Prop where
 kind:sc.kind=.function
 co:sc.isCoroutine=false
 gen:sc.isGenerator=false
 nd:N.Nodup
 pre:N.take P.length=P
 par:∀x∈P,sc.names.lookup x=some .local∨sc.names.lookup x=some .cell
 nofree:∀y∈sc.names,y.2≠.free
theorem fs0 {P:List Str}{sc:Scope}(a:sc.kind=.function:=by rfl)(b:sc.isCoroutine=false:=by rfl)(c:sc.isGenerator=false:=by rfl)(d:N.Nodup:=by decide +kernel)(e:N.take P.length=P:=by rfl)(f:∀x∈P,sc.names.lookup x=some .local∨sc.names.lookup x=some .cell:=by decide +kernel)(g:∀y∈sc.names,y.2≠.free:=by decide +kernel):au N P sc:=⟨a,b,c,d,e,f,g⟩
theorem i4 {kindOf:Str->Option NameKind}{x:Str}:∀{binds:List (Str×Value)} {m:Str->Option Value},(∀v,(x,v)∉binds)->bindL kindOf binds m x=m x
 | [],_,_=>rfl
 | (n,v)::r,m,h=>by
  unfold bindL
  rw [i4 fun w hw=>h w (Bk _ hw)]
  split
  .have:x≠n:=by rintro rfl;exact h v BD
   simp [this]
  .rfl
theorem jw {kindOf:Str->Option NameKind}{x:Str}:∀{binds:List (Str×Value)} {m:Str->Option Value},(∀v,(x,v)∉binds)->bindC kindOf binds m x=m x
 | [],_,_=>rfl
 | (n,v)::r,m,h=>by
  unfold bindC
  rw [jw fun w hw=>h w (Bk _ hw)]
  split
  .rfl
  .have:x≠n:=by rintro rfl;exact h v BD
   simp [this]
theorem ja {kindOf:Str->Option NameKind}{x:Str}{v:Value}:∀{P:List Str} {vs:List Value} {i:Nat} {m:Str->Option Value},P.Nodup->P[i]?=some x->vs[i]?=some v->kindOf x=some .local ->
  bindL kindOf (P.zip vs) m x=some v
 | [],_,_,_,_,h,_,_=>by simp at h
 | _::_,[],_,_,_,_,h,_=>by simp at h
 | p::P,w::vs,0,m,nd,h1,h2,hk=>by
  simp at h1 h2;subst h1;subst h2
  show bindL kindOf ((p,w)::P.zip vs) m p=_
  unfold bindL
  rw [i4 fun v hv=>(BP.mp nd).1 (Fz hv).1,Bf hk]
  simp
 | p::P,w::vs,i+1,m,nd,h1,h2,hk=>by
  show bindL kindOf ((p,w)::P.zip vs) m x=_
  unfold bindL
  exact ja (i:=i) (BP.mp nd).2 (by simpa using h1) (by simpa using h2) hk
theorem jv {kindOf:Str->Option NameKind}{x:Str}{v:Value}:∀{P:List Str} {vs:List Value} {i:Nat} {m:Str->Option Value},P.Nodup->P[i]?=some x->vs[i]?=some v->kindOf x≠some .local ->
  bindC kindOf (P.zip vs) m x=some v
 | [],_,_,_,_,h,_,_=>by simp at h
 | _::_,[],_,_,_,_,h,_=>by simp at h
 | p::P,w::vs,0,m,nd,h1,h2,hk=>by
  simp at h1 h2;subst h1;subst h2
  show bindC kindOf ((p,w)::P.zip vs) m p=_
  unfold bindC
  rw [jw fun v hv=>(BP.mp nd).1 (Fz hv).1,Bc hk]
  simp
 | p::P,w::vs,i+1,m,nd,h1,h2,hk=>by
  show bindC kindOf ((p,w)::P.zip vs) m x=_
  unfold bindC
  exact jv (i:=i) (BP.mp nd).2 (by simpa using h1) (by simpa using h2) hk
def start (N:List Str)(vs:List V):St:=vs.map some++List.replicate (N.length-vs.length) none
def bT (CX:CXT)(P:Program)(w:World)(K:W.Frag)(mg:Str->Option Value)(base:Heap)(N:List Str)(qual:Str)(scope:Scope)(f:Addr)(cd:Value)(A:Around)(outer:List Env)(s:Shared)(H:Hp)(E:XK):Cx where
 prog:=P
 w:=w
 K:=K
 mg:=mg
 base:=base
 A:=A.deeper (envOfC qual scope s.heap.objs.size f cd)
 N:=N
 s₀:=s
 H₀:=H
 env:=envOfC qual scope s.heap.objs.size f cd
 outer:=outer
 stack:=envOfC qual scope s.heap.objs.size f cd::outer
 ex:=[]
 calm:=true
 fn:=fun _=>true
 pn:=[]
 xe:=fun e s'=>wpAny (model P w) (A.deeper (envOfC qual scope s.heap.objs.size f cd)) (leaving (envOfC qual scope s.heap.objs.size f cd) e) (fun _ s''=>CX outer H s E e s'') (fun e' s''=>CX outer H s E e' s'') s'
theorem bM {sc:Scope}(h:sc.names.lookup x=some .cell):∃ c,(cellsFrom n sc.names []).lookup x=some c:=by
 have q:=W.cellsFrom_some sc.names n [] (.inl h)
 exact E8.mp q
theorem si {CX:CXT}{P:Program}{cd:Value}{s1:Shared}{H:Hp}{E:XK}{vs:List V}(S:au N ps scope)(hd:A.handled=none)(e0:Env0 P w K mg base A outer s H)(hl:vs.length=ps.length)(r:Vals vs us)(x:InCallC s s.heap.objs.size (bindL (envOfC qual scope s.heap.objs.size f cd).kindOf (ps.zip us) fun _=>none) (cellsFrom (s.heap.objs.size+1) scope.names []) (bindC (envOfC qual scope s.heap.objs.size f cd).kindOf (ps.zip us) fun _=>none) s1):
  Inv (bT CX P w K mg base N qual scope f cd A outer s H E) [] (start N vs) H s1:=by
 have hpl:ps.length<=N.length:=by have:=congrArg List.length S.pre;rw [BS] at this;lia
 obtain ⟨h1,tk,rfl,hk⟩:=x.done
 have noA:∀b:Addr,b∉(bT CX P w K mg base N qual scope f cd A outer s H E).ex:=fun b z=>absurd (show b∈([]:List Addr) from z) AY
 refine ⟨⟨e0.mod,S.kind,rfl,rfl,A9 _,fun y z c h1 h2=>?_,fun y hy=>?_,fun y c _ h=>?_,fun _=>hd,Around.frames_deeper e0.frames,.inr ⟨rfl,rfl⟩,fun b z=>absurd z (noA b),e0.bs,e0.bsz,fun b _ _=>noA b,fun b z=>absurd z (noA b),e0.funs,e0.frf⟩,
  rfl,e0.bare,Un.kept hk,⟨_,x.toInCall.ns,fun i y v h1 h2 h3=>?_⟩,fun y c h=>⟨_,x.cell y c h⟩,e0.hok.fresh (A9 _),fun y c h=>?_,fun p hp=>absurd (show p∈([]:List (Addr×Obj)) from hp) AY,e0.hok.kept hk,?_⟩
 .exact name_of_addr x.apart (Dp h1) (Dp h2)
 .have hy:scope.names.lookup y=some .cell∨scope.names.lookup y=some .free:=hy
  rcases hy with hy | hy
  .exact bM hy
  .exact absurd rfl (S.nofree _ (Dp hy))
 .exact DJ (x.above y c (Dp h))
 .have hi:i<vs.length:=by
   unfold start at h2
   by_cases hi:i<vs.length
   .exact hi
   .rw [List.getElem?_append_right (by simpa using hi)] at h2
    rw [List.getElem?_replicate] at h2
    split at h2 <;> cases h2
  have ha:vs[i]?=some v:=by
   unfold start at h2
   rw [CD (by simpa using hi),BH] at h2
   cases e:vs[i]? with
   | none=>rw [e] at h2;cases h2
   | some a=>rw [e] at h2;cases h2;rfl
  obtain ⟨u,hu,rv⟩:=r.get ha
  have hp:ps[i]?=some y:=by
   rw [<-S.pre,List.getElem?_take_of_lt AX];exact h1
  have ndP:ps.Nodup:=by rw [<-S.pre];exact S.nd.sublist (List.take_sublist _ _)
  refine ⟨u,rv,?_⟩
  rcases S.par y (BC hp) with k | k
  .exact .inl ⟨k,ja ndP hp hu k⟩
  .obtain ⟨c,e⟩:=bM (n:=s.heap.objs.size+1) k
   refine .inr ⟨.inl k,c,e,?_⟩
   have q:=x.cell y c e
   rw [jv ndP hp hu (by show scope.names.lookup y≠_;rw [k];decide)] at q
   exact q
 .exact e0.hok.fresh (DJ (x.above y c (Dp h)))
 unfold start
 show _=N.length
 rw [Bi,Bh,Cp]
 lia
theorem x8 {CX:CXT}{P:Program}{k:Nat}{name:Str}{params:Arguments}{dV kV doc pm cdv ct oc:Value}{an od:Option Addr}{sp:Sp}(lk:K.lookup f=some ⟨oc,od,.func (W.fnOf name qual params body scope dV kV doc pm an cdv ct),osl⟩)(hcd:W.codeIn K cdv qual=true)(S:au N ps scope)(len:∀vs H Q E,sp vs H Q E->vs.length=ps.length)(hbody:∀(A:Around) (outer:List Env) (s:Shared) (H:Hp) (vs:List V) (Q:VK) (E:XK),Room k (A.deeper (envOfC qual scope s.heap.objs.size f cdv))->sp vs H Q E ->
   ∃ t,PSs (bT CX P w K mg base N qual scope f cdv A outer s H E) body t/\t { nx:=fun _ H'=>Q .non H',rt:=Q } (start N vs) H):
  av P w K mg base CX (k+1) f (W.fnOf name qual params body scope dV kV doc pm an cdv ct) ps sp:=by
 refine ⟨len,fun A outer s H args us vs Q E hr e0 hb r hsp=>?_⟩
 have hl:=len _ _ _ _ hsp
 have KX:K.In s.heap:=e0.mod.kin.keeps fun b o e=>(e0.bs b o e).1
 have lim:s.heap.NoLimit:=e0.mod.nolimit.keeps fun b o e=>(e0.bs b o e).1
 have hkind:∀y∈ps.zip us,scope.names.lookup y.1=some .local∨(scope.names.lookup y.1=some .cell/\((cellsFrom (s.heap.objs.size+1) scope.names []).lookup y.1).isSome=true):=fun ⟨n,v⟩ hy=>by
  rcases S.par n (Fz hy).1 with q | q
  .exact .inl q
  .exact .inr ⟨q,W.cellsFrom_some _ _ _ (.inl q)⟩
 refine codeAny_call_function hr.depth (KX _ _ lk) rfl S.co S.gen rfl (W.codeRec_of KX hcd) (hb _ _ _ _ ?_)
 refine wpAny_newFunctionEnv_cells S.kind hkind fun env he s1 x=>?_
 subst he
 refine ⟨lim.keeps x.toInCall.keep,codeAny_func ?_⟩
 obtain ⟨t,ht,hq⟩:=hbody A outer s H vs Q E (hr.deeper _) hsp
 have I:Inv (bT CX P w K mg base N qual scope f cdv A outer s H E) [] (start N vs) H s1:=si S hr.hd e0 hl r x
 refine B0 (ht [] s1 (start N vs) H _ I hq) (fun fl s' hs=>?_) fun e s' hs=>hs
 have fin:∀{σ':St} {H':Hp} {v:V} {u:Value},Inv (bT CX P w K mg base N qual scope f cdv A outer s H E) [] σ' H' s'->RelV v u->Q v H'->CE outer P w H s Q u s' :=
  fun {σ' H' v u} J rv q=>⟨v,H',J.os,J.bare,J.base,J.hok,rv,q⟩
 cases fl with
 | ret u =>
  obtain ⟨v,σ',H',J,rv,q⟩:=hs
  exact fin J rv q
 | next =>
  obtain ⟨σ',H',J,q⟩:=hs
  exact fin (v:=V.non) (u:=Value.none) J rfl q
 | brk =>
  obtain ⟨_,_,_,q⟩:=hs
  exact False.elim q
 | cont =>
  obtain ⟨_,_,_,q⟩:=hs
  exact False.elim q
section
variable {X:Cx}{x:Str}{p pos:Pos}{e:Expr}{es:List Expr}{t:TA}{id T:String}{r:List V->Hp->VK->Prop}
def tCB (r:List V->Hp->VK->Prop)(t:TA):TE:=fun Z H Q=>t Z H fun vs H1=>r vs H1 Q
end
end L2
variable {H H':L2.Hp}{xs zs l:List L2.V}{Z:L2.St}{ks kvs js ms:List (L2.Key×L2.V)}{X:L2.Cx}{r:List L2.V->L2.Hp->L2.VK->Prop}{o:L2.HO}{te:L2.TE}{tt t tA:L2.TT}{sp:L2.Sp}{wi:L2.TI}{y:L2.V}{trs:List (L2.TE×L2.TE)}{tb:L2.TS}{r':L2.V->Option Int->Option Int->L2.Hp->L2.VK->Prop}{ta:L2.TA}
namespace HT
open PySem PyProof.Rows
section
variable {prog:Program}{w:World}{A:Around}{E:Value->Shared->Prop}{s:Shared}
theorem cat_tup {t:Addr}(ht:IsTup s.heap t vs.toArray)(hb:IsTup s.heap b ws.toArray)(hv:vs≠[])(h1:ws=[]->Q (.ref t) s)(h2:ws≠[]->Q (.ref s.heap.objs.size) { s with heap:=s.heap.push { cls:=.type "tuple",data:=.seq (vs++ws).toArray } })(hsz:vs.length+ws.length<=sizeLine):wpAny (model prog w) A (binaryOp .Add (.ref t) (.ref b)) Q E s:=by
 obtain ⟨⟨cls,dd,data,sl⟩,ho,hc,n,hd⟩:=id ht
 obtain ⟨⟨cls2,dd2,data2,sl2⟩,ho2,hc2,n2,hd2⟩:=id hb
 simp only at hc hd hc2 hd2
 subst hc hd hc2 hd2
 have e:vs.toArray++ws.toArray=(vs++ws).toArray:=by simp
 by_cases hw:ws=[]
 .exact concat_meets ⟨_,ho,rfl⟩ ⟨_,ho2,rfl⟩ Fm seq_tuple_add Eb D6 (D4 _ _)
   (tuple_addW1 t b vs.toArray ws.toArray n n2 dd dd2 sl sl2 (by simpa using hv) (by simp [hw])) ⟨ho,ho2,h1 hw⟩
 refine concat_meets ⟨_,ho,rfl⟩ ⟨_,ho2,rfl⟩ Fm seq_tuple_add Eb D6 (D4 _ _)
  (tuple_addW2 t b vs.toArray ws.toArray n n2 dd dd2 sl sl2 (by simpa using hv) (by simpa using hw) (by rw [Bo,Bo];exact hsz)) ⟨ho,ho2,?_⟩
 rw [e]
 exact h2 hw
def sIx (n d:Nat):Option Int->Nat
 | none=>d
 | some v=>if v<0 then (v+(n:Int)).toNat else min v.toNat n
theorem sIx_nat (n d k:Nat):sIx n d (some (k:Int))=min k n:=by
 show (if (k:Int)<0 then ((k:Int)+(n:Int)).toNat else min (k:Int).toNat n)=min k n
 rw [Bc AX,Cc]
theorem wc (n d:Nat)(hd:d<=n)(o:Option Int):sIx n d o<=n:=by
 cases o with
 | none=>exact hd
 | some v =>
  show (if v<0 then (v+(n:Int)).toNat else min v.toNat n)<=n
  by_cases hv:v<0
  .rw [Bf hv];lia
  .rw [Bc hv];exact Nat.min_le_right _ _
theorem pB (v:Int)(n d:Nat):(if v<0 then max (v+(n:Int)) 0 else min v (n:Int))=((sIx n d (some v):Nat):Int):=by
 show (if v<0 then max (v+(n:Int)) 0 else min v (n:Int))=(((if v<0 then (v+(n:Int)).toNat else min v.toNat n):Nat):Int)
 by_cases hv:v<0
 .simp only [Bf hv];lia
 simp only [Bc hv];lia
theorem oz (lo hi:Option Int)(n:Nat):Builtin.Slice.sliceAdjust lo hi 1 (n:Int)=(((sIx n 0 lo:Nat):Int),((sIx n n hi:Nat):Int)):=by
 have h1:¬ ((1:Int)<0):=by lia
 unfold Builtin.Slice.sliceAdjust
 simp only [h1,DE]
 refine Prod.ext ?_ ?_
 .cases lo with
  | none=>rfl
  | some v=>exact pB v n 0
 cases hi with
 | none=>rfl
 | some v=>exact pB v n n
theorem oU (i j:Nat):Builtin.Slice.slicePlaces (i:Int) (j:Int) 1=j-i:=by
 unfold Builtin.Slice.slicePlaces
 have h1:(1:Int)>0:=by lia
 simp only [h1,Et,Int.ediv_one]
 split <;> lia
theorem iq {v:Value}{o:Option Int}{Q:Option Int->Shared->Prop}(p:IsPart v o)(h:Q o s):wpAny (model prog w) A (Builtin.Slice.slicePartIndex v) Q E s:=by
 cases p with
 | none=>exact slicePart_none h
 | int i t=>exact slicePart_int h
theorem cU {sl:Addr}{vl vu:Value}{lo:Option Int}{Q:Int×Int×Nat->Shared->Prop}(hs:s.heap.IsSliceOf sl vl vu .none)(pl:IsPart vl lo)(pu:IsPart vu hi)(h:Q (((sIx n 0 lo:Nat):Int),1,sIx n n hi-sIx n 0 lo) s):wpAny (model prog w) A (Builtin.Slice.sliceApplied (.ref sl) (pure (n:Int))) Q E s:=by
 obtain ⟨os,hos,hcs,hds⟩:=id hs
 unfold Builtin.Slice.sliceApplied Builtin.Slice.sliceFields
 refine Be (Be (Dq hos hds (x:=vl) rfl (Be (Dq hos hds (x:=vu) rfl (Be (Dq hos hds (x:=.none) rfl (Bv ?_)))))))
 refine Be (slicePart_none ?_)
 show wpAny _ _ (if ((1:Int) == 0)=true then _ else _) _ _ s
 rw [Bc AW]
 refine Be (iq pl (Be (iq pu (Be (Bv ?_)))))
 show wpAny _ _ (match Builtin.Slice.sliceAdjust lo hi 1 (n:Int) with | (lo,hi)=>pure (lo,(1:Int),Builtin.Slice.slicePlaces lo hi 1)) _ _ s
 rw [oz lo hi n]
 show wpAny _ _ (pure (((sIx n 0 lo:Nat):Int),(1:Int),Builtin.Slice.slicePlaces ((sIx n 0 lo:Nat):Int) ((sIx n n hi:Nat):Int) 1)) _ _ s
 rw [oU]
 exact Bv h
theorem tu (xs:Array Value)(i k:Nat):((List.range k).filterMap fun (m:Nat)=>xs[((i:Int)+(m:Int)*1).toNat]?).toArray=((xs.toList.drop i).take k).toArray:=by
 have e:(fun (m:Nat)=>xs[((i:Int)+(m:Int)*1).toNat]?)=fun m=>xs[i+m]?:=by
  funext m
  have:((i:Int)+(m:Int)*1).toNat=i+m:=by lia
  rw [this]
 rw [e]
 have:=pick_run xs i k
 rw [List.filterMap_map] at this
 have e2:((fun x=>xs[x]?) ∘ fun x=>i+x)=fun m=>xs[i+m]?:=rfl
 rw [e2] at this
 rw [this]
theorem getItem_tuple_cut {t sl:Addr}{vl vu:Value}{lo:Option Int}(ht:IsTup s.heap t items)(hs:s.heap.IsSliceOf sl vl vu .none)(pl:IsPart vl lo)(pu:IsPart vu hi)(hw:¬ (sIx items.size 0 lo=0/\sIx items.size items.size hi=items.size))(h:Q (.ref s.heap.objs.size) { s with heap:=s.heap.push { cls:=.type "tuple",data:=.seq ((items.toList.drop (sIx items.size 0 lo)).take (sIx items.size items.size hi-sIx items.size 0 lo)).toArray } })(hsz:items.size<=sizeLine):wpAny (model prog w) A (getItem (.ref t) (.ref sl)) Q E s:=by
 have htake:sizeOk (.seq ((items.toList.drop (sIx items.size 0 lo)).take (sIx items.size items.size hi-sIx items.size 0 lo)).toArray):=by
  show ((items.toList.drop (sIx items.size 0 lo)).take (sIx items.size items.size hi-sIx items.size 0 lo)).toArray.size<=sizeLine
  rw [Bo,BS,Fl,Dm]
  lia
 have hj:sIx items.size items.size hi<=items.size:=wc _ _ (A9 _) hi
 obtain ⟨os,hos,hcs,hds⟩:=id hs
 have hTs:s.TypeIs (.ref sl) "slice":=⟨os,hos,hcs⟩
 unfold getItem
 try with_reducible refine DQ ?_
 first | refine Be (Bv ?_) | skip
 refine Be (wpAny_sequenceKey ht.typeIs AW ?_)
 refine Be (wpAny_callSpecial?_slot (name:=Str.ofString "__getitem__") ht.typeIs BV
  (Fn BV ht.typeIs entry_tuple_getitem ?_ (args_tuple_getitem _ _)))
 show wpAny _ _ (Builtin.Tuple.tupleItemsOf (.ref t) >>= _) _ _ s
 refine Be (tupleItemsOf_ ht ?_)
 refine Be (wpAny_typeOf hTs ?_)
 rw [Bf AW]
 refine Be (cU hs pl pu ?_)
 have hno:¬ ((((sIx items.size 0 lo:Nat):Int) == 0&&(1:Int) == 1&&(sIx items.size items.size hi-sIx items.size 0 lo) == items.size)=true):=by
  intro q
  rw [By,By] at q
  have q1:((sIx items.size 0 lo:Nat):Int)=0:=eq_of_beq q.1.1
  have q2:sIx items.size items.size hi-sIx items.size 0 lo=items.size:=eq_of_beq q.2
  exact hw ⟨AX,AX⟩
 show wpAny _ _ (if (((sIx items.size 0 lo:Nat):Int) == 0&&(1:Int) == 1&&(sIx items.size items.size hi-sIx items.size 0 lo) == items.size)=true then _ else _) _ _ s
 rw [Bc hno,tu]
 first
  | exact Be (m:=Builtin.Tuple.tupleExact _) (Cv (Bv ⟨_,rfl,Bv h⟩) htake)
  | exact Be (m:=Builtin.Tuple.tupleExact _) (Cv (Be (Bv (Bv ⟨_,rfl,Bv h⟩))) htake)
  | exact Be (Be (m:=Builtin.Tuple.tupleExact _) (Cv (Bv (Bv ⟨_,rfl,Bv h⟩)) htake))
  | exact Be (Be (m:=Builtin.Tuple.tupleExact _) (Cv (Bv ⟨_,rfl,Bv h⟩) htake))
end
end HT
namespace L2
open PySem PySem.Spec PyProof.Rows
abbrev TO:=St->Hp->(Option Int->Hp->Prop)->Prop
def PO (X:Cx)(e:Option Expr)(t:TO):Prop :=
 ∀(pins:List (Addr×Obj)) (s:Shared) (Z:St) (H:Hp) (Q:Option Int->Hp->Prop),Inv X pins Z H s->t Z H Q ->
  wpAny (model X.prog X.w) X.A (evalPart e X.env) (fun u s'=>∃ o H',Inv X pins Z H' s'/\IsPart u o/\Q o H') X.xe s
def wx:TO:=fun _ H Q=>Q none H
def Af (t:TE):TO:=fun Z H Q=>t Z H fun x H1=>∃ i,x=.int i/\Q (some i) H1
section
variable {X:Cx}{e:Expr}{te:TE}{lo hi:Option Expr}{tl th:TO}{pos p2:Pos}
def SlR (X:Cx)(r:V->Option Int->Option Int->Hp->VK->Prop):Prop :=
 ∀(pins:List (Addr×Obj)) (s:Shared) (Z:St) (H:Hp) (x:V) (v vl vu:Value) (lo hi:Option Int) (sl:Addr) (Q:VK),Inv X pins Z H s->RelV x v->s.heap.IsSliceOf sl vl vu .none->IsPart vl lo->IsPart vu hi->r x lo hi H Q ->
  ∃ T id,typeLookup (.type T) "__getitem__"=pure (some (.builtin id))/\s.TypeIs v T/\wpAny (model X.prog X.w) X.A (getItem v (.ref sl)) (EP X pins Z Q) X.xe s
theorem SlR.or {r:V->Option Int->Option Int->Hp->VK->Prop}(h:SlR X r)(h':SlR X r'):SlR X (fun x lo hi H Q=>r x lo hi H Q∨r' x lo hi H Q):=by
 intro pins s Z H x v vl vu lo hi sl Q I rx hs pl pu q
 rcases q with q | q
 .exact h pins s Z H x v vl vu lo hi sl Q I rx hs pl pu q
 exact h' pins s Z H x v vl vu lo hi sl Q I rx hs pl pu q
def tSl (r:V->Option Int->Option Int->Hp->VK->Prop)(te:TE)(tl th:TO):TE:=fun Z H Q=>te Z H fun x H1=>tl Z H1 fun l H2=>th Z H2 fun u H3=>r x l u H3 Q
def eK (xs:List V)(lo hi:Option Int):List V:=(xs.drop (HT.sIx xs.length 0 lo)).take (HT.sIx xs.length xs.length hi-HT.sIx xs.length 0 lo)
theorem gw (xs:List V)(lo hi:Option Int):(eK xs lo hi).length<=xs.length:=by
 unfold eK
 rw [BS,Fl]
 lia
def yw (K:W.Frag):V->Option Int->Option Int->Hp->VK->Prop:=fun x lo hi H Q=>∃ a xs,x=.ref a/\SqT K H a xs /\
 ¬ (HT.sIx xs.length 0 lo=0/\HT.sIx xs.length xs.length hi=xs.length)/\∀p,H p=none->Q (.ref p) (upd H p (.tup (eK xs lo hi)))
theorem sl_tup:SlR X (yw X.K):=by
 intro pins s Z H x v vl vu lo hi sl Q I rx hs pl pu h
 obtain ⟨a,xs,rfl,hx,hw,q⟩:=h
 cases rx
 obtain ⟨its,r,ht,hz⟩:=I.tuple hx
 have hlen:its.toArray.size=xs.length:=by rw [Bo];exact r.length.symm
 refine ⟨"tuple",_,BV.lookup,ht.typeIs,?_⟩
 refine HT.getItem_tuple_cut ht hs pl pu (by rw [hlen];exact hw) ?_ (by rw [hlen];exact hz)
 rw [hlen]
 refine ⟨.ref s.heap.objs.size,_,I.laid (t':=s.toks) (o:=.tup (eK xs lo hi)) (fun b ob q=>Bg _ q) (A9 _) ?_,rfl,q _ (I.hok.fresh (A9 _))⟩
 exact ⟨A0 (gw xs lo hi) hz,_,(r.drop (HT.sIx xs.length 0 lo)).take (HT.sIx xs.length xs.length hi-HT.sIx xs.length 0 lo),IsTup.new _ _⟩
def zT (K:W.Frag):R2:=fun x y H Q=>∃ a b xs ys,x=.ref a/\y=.ref b/\SqT K H a xs/\SqT K H b ys/\xs≠[]/\xs.length+ys.length<=sizeLine /\
 (ys=[]->Q (.ref a) H)/\(ys≠[]->∀p,H p=none->Q (.ref p) (upd H p (.tup (xs++ys))))
theorem Vals.nil_iff (r:Vals xs us):us=[]↔xs=[]:=by
 cases r with
 | nil=>simp
 | cons _ _=>simp
theorem xo:OpR X (binaryOp .Add) (zT X.K):=by
 intro pins s Z H x y v u Q I rx ry h
 obtain ⟨a,b,xs,ys,rfl,rfl,ha,hb,hx,hz,q1,q2⟩:=h
 cases rx
 cases ry
 obtain ⟨its,r1,p1,_⟩:=I.tuple ha
 obtain ⟨its2,r2,p2,_⟩:=I.tuple hb
 refine HT.cat_tup p1 p2 (fun z=>hx (r1.nil_iff.mp z)) (fun z=>⟨.ref a,H,I,rfl,q1 (r2.nil_iff.mp z)⟩) (fun z=>?_) (by rw [<-r1.length,<-r2.length];exact hz)
 refine ⟨.ref s.heap.objs.size,_,I.laid (t':=s.toks) (o:=.tup (xs++ys)) (fun b ob q=>Bg _ q) (A9 _) ?_,rfl,q2 (fun w=>z (r2.nil_iff.mpr w)) _ (I.hok.fresh (A9 _))⟩
 exact ⟨by rw [Bi];exact hz,_,r1.append r2,IsTup.new _ _⟩
end
def ixN (n:Nat)(i:Int):Option Nat:=if 0<=i then (if i<n then some i.toNat else none) else if -(n:Int)<=i then some (i+n).toNat else none
def atI {α:Type}(xs:List α)(i:Int):Option α:=(ixN xs.length i).bind fun j=>xs[j]?
theorem pw {i:Int}(h:ixN n i=some j):seqIndex? i n=some j/\j<n/\-(n:Int)<=i/\i<n:=by
 unfold ixN at h
 by_cases h0:0<=i
 .rw [Bf h0] at h
  by_cases h1:i<n
  .rw [Bf h1] at h
   have e:i.toNat=j:=BI h
   exact ⟨by rw [seqIndex_of h0 h1,e],AX,AX,h1⟩
  .rw [Bc h1] at h;cases h
 rw [Bc h0] at h
 by_cases h1:-(n:Int)<=i
 .rw [Bf h1] at h
  have e:(i+n).toNat=j:=BI h
  exact ⟨by rw [seqIndex_neg AX h1,e],AX,h1,AX⟩
 rw [Bc h1] at h;cases h
theorem jN {α:Type}{xs:List α}{i:Int}{v:α}(h:atI xs i=some v):∃ j,seqIndex? i xs.length=some j/\xs[j]?=some v/\j<xs.length/\-(xs.length:Int)<=i/\i<xs.length:=by
 unfold atI at h
 cases e:ixN xs.length i with
 | none=>rw [e] at h;cases h
 | some j =>
  rw [e] at h
  obtain ⟨h1,h2,h3,h4⟩:=pw e
  exact ⟨j,h1,h,h2,h3,h4⟩
theorem aL {α:Type}{xs:List α}{v:α}(h:xs[j]?=some v):atI xs (j:Int)=some v:=by
 have hj:j<xs.length:=(Bu.mp h).1
 have e:ixN xs.length (j:Int)=some j:=by
  unfold ixN
  rw [Bf AX,Bf AX];simp
 unfold atI;rw [e];exact h
def w6 (b:Expr):Prop:=∀o i,subscripted b false o i=operate [o,i] (getItem o i)
def IxR (X:Cx)(r:R2):Prop :=
 ∀(value slice:Expr) (pins:List (Addr×Obj)) (s:Shared) (Z:St) (H:Hp) (x y:V) (v u:Value) (Q:VK),Inv X pins Z H s->RelV x v->RelV y u->r x y H Q ->
  subscripted slice false v u=operate [v,u] (getItem v u)->wpAny (model X.prog X.w) X.A (subscriptTail value slice v u) (EP X pins Z Q) X.xe s
def MtR (X:Cx)(id:String)(r:V->List V->Hp->VK->Prop):Prop :=
 ∀(pins:List (Addr×Obj)) (s:Shared) (Z:St) (H:Hp) (x:V) (xs:List V) (v:Value) (us:List Value) (Q:VK),Inv X pins Z H s->RelV x v->Vals xs us->r x xs H Q ->
  wpAny (model X.prog X.w) X.A (call (.builtin id) (v::us)) (EP X pins Z Q) X.xe s
section
variable {X:Cx}{a b:Expr}{ta tb:TE}{pos:Pos}
def An (K:W.Frag):R2:=fun x y H Q=>∃ p xs i v,x=.ref p/\y=.int i/\SqL K H p xs/\atI xs i=some v/\Q v H
def zQ (K:W.Frag):R2:=fun x y H Q=>∃ p xs i v,x=.ref p/\y=.int i/\SqT K H p xs/\atI xs i=some v/\Q v H
def AH:R2:=fun x y H Q=>∃ z i c,x=.str z/\y=.int i/\z.length<=sizeLine/\atI z.cps.toList i=some c/\Q (.str ⟨#[c]⟩) H
theorem aK:IxR X (An X.K):=by
 intro value slice pins s Z H x y v u Q I rx ry h hs
 obtain ⟨p,xs,i,z,rfl,rfl,hq,he,q⟩:=h
 cases rx
 obtain ⟨t,rfl⟩:=ry
 obtain ⟨its,r,pl,hz⟩:=I.list hq
 obtain ⟨j,h1,h2,h3,h4,h5⟩:=jN he
 obtain ⟨w,ew,rw'⟩:=r.get h2
 have hl:=r.length
 have hn:=f9
 have fin:EP X pins Z Q w s:=⟨z,H,I,rw',q⟩
 by_cases h0:0<=i
 .have hj:i.toNat=j:=by
   rw [seqIndex_of h0 h5] at h1
   exact BI h1
  exact item_listR pl.isList h0 AX (by rw [hj];simpa using ew) fin hs
 have hj:(i+(its.toArray.size:Int)).toNat=j:=by
  rw [seqIndex_neg AX h4] at h1
  rw [Bo,<-hl]
  exact BI h1
 exact subscriptTail_builtinR (x:=w) pl.isList.typeIs slot_list_getitem.lookup
  (wpAny_getItem_list_neg (Q:=fun r s'=>r=w/\EP X pins Z Q r s') pl.isList AX (by rw [Bo] <;> lia) AX (by rw [hj];simpa using ew) ⟨rfl,fin⟩) hs
theorem aI:IxR X (zQ X.K):=by
 intro value slice pins s Z H x y v u Q I rx ry h hs
 obtain ⟨p,xs,i,z,rfl,rfl,hq,he,q⟩:=h
 cases rx
 obtain ⟨t,rfl⟩:=ry
 obtain ⟨its,r,pl,hz⟩:=I.tuple hq
 obtain ⟨j,h1,h2,h3,h4,h5⟩:=jN he
 obtain ⟨w,ew,rw'⟩:=r.get h2
 have hl:=r.length
 have hn:=f9
 have fin:EP X pins Z Q w s:=⟨z,H,I,rw',q⟩
 exact subscriptTail_builtinR (x:=w) pl.typeIs slot_tuple_getitem.lookup
  (getItem_tuple (j:=j) (Q:=fun r s'=>r=w/\EP X pins Z Q r s') pl AX AX (by rw [Bo,<-hl];exact h1) (by simpa using ew) ⟨rfl,fin⟩) hs
theorem tw:IxR X AH:=by
 intro value slice pins s Z H x y v u Q I rx ry h hs
 obtain ⟨z,i,c,rfl,rfl,hz,he,q⟩:=h
 obtain ⟨t,rfl⟩:=rx
 obtain ⟨t',rfl⟩:=ry
 obtain ⟨j,h1,h2,h3,h4,h5⟩:=jN he
 have hl:z.cps.toList.length=z.length:=by simp [Str.length]
 rw [hl] at h1 h4 h5
 have hn:=f9
 exact tail_any (DS s z t) slot_str_getitem.lookup (getItem_str (c:=c) (by
  have e1:decide (i < -(2 ^ 63:Int))=false:=Br AX
  have e2:decide (i ≥ 2 ^ 63)=false:=Br AX
  rw [e1,e2,Bool.or_false]) (by rw [h1];simpa using h2) ⟨.str ⟨#[c]⟩,H,I.tok _,⟨_,rfl⟩,q⟩) hs
theorem oq (its:List Value)(n j:Nat)(u:Value):Obj.mapSeq (·.setIfInBounds j u) { cls:=.type "list",data:=.seq its.toArray n }={ cls:=.type "list",data:=.seq (its.set j u).toArray n }:=by
 simp [Obj.mapSeq]
theorem Inv.lst (I:Inv X pins Z H s)(h:H p=some (.lst xs)):
  ∃ (its:List Value) (n:Nat),Vals xs its/\s.heap.get? p=some { cls:=.type "list",data:=.seq its.toArray n }/\xs.length<=sizeLine:=by
 obtain ⟨z,its,n,r,e⟩:=I.hok p _ h
 exact ⟨its,n,r,e,z⟩
theorem Inv.lstUpd {ys:List V}{n':Nat}{f:Obj->Obj}(I:Inv X pins Z H s)(h:H p=some (.lst xs))(ho:s.heap.get? p=some { cls:=.type "list",data:=.seq its.toArray n })(hf:f { cls:=.type "list",data:=.seq its.toArray n }={ cls:=.type "list",data:=.seq its'.toArray n' })(r:Vals ys its')(hz:ys.length<=sizeLine)(t:Nat):
  Inv X pins Z (upd H p (.lst ys)) { s with heap:=s.heap.update p f,toks:=t }:=by
 have e:(s.heap.update p f).get? p=some { cls:=.type "list",data:=.seq its'.toArray n' }:=by
  rw [CV f ho (by rw [hf] <;> rfl),hf]
 refine I.write (x:=p) (e:=p) (by rw [h];trivial) (.inl rfl) (fun b u hb q=>(BN _ _ (Cm hb)).trans q) ⟨_,e⟩ ?_
 exact ⟨hz,its',n',r,e⟩
def zx:V->V->V->Hp->(Hp->Prop)->Prop:=fun o i v H Q=>∃ p xs k j,o=.ref p/\i=.int k/\H p=some (.lst xs)/\ixN xs.length k=some j/\Q (upd H p (.lst (xs.set j v)))
theorem ce:zE X zx:=by
 intro pins s Z H o i v ov iv u Q I ro ri rv h
 obtain ⟨p,xs,k,j,rfl,rfl,hp,hj,q⟩:=h
 cases ro
 obtain ⟨t,rfl⟩:=ri
 obtain ⟨its,n,r,ho,hz⟩:=I.lst hp
 obtain ⟨h1,h2,h3,h4⟩:=pw hj
 have hl:=r.length
 have hn:=f9
 have I':Inv X pins Z (upd H p (.lst (xs.set j v))) { s with heap:=s.heap.update p (Obj.mapSeq (·.setIfInBounds j u)) } :=
  I.lstUpd hp ho (oq its n j u) (r.set rv j) (by rw [Cn];exact hz) s.toks
 by_cases h0:0<=k
 .have hk:k.toNat=j:=by
   rw [seqIndex_of h0 h4] at h1
   exact BI h1
  exact W.ki_setAt ho h0 AX (by rw [Bo,<-hl];exact h4) (by rw [hk];exact ⟨_,I',q⟩)
 have hk:(k+(its.toArray.size:Int)).toNat=j:=by
  rw [seqIndex_neg AX h3] at h1
  rw [Bo,<-hl]
  exact BI h1
 exact W.ki_setBack ho AX (by rw [Bo,<-hl];exact h3) AX (by rw [hk];exact ⟨_,I',q⟩)
theorem j9 (lo hi:Option Int)(n:Nat):(sliceBounds lo hi none n).1=((HT.sIx n 0 lo:Nat):Int)/\(sliceBounds lo hi none n).2.1=((HT.sIx n n hi:Nat):Int)/\(sliceBounds lo hi none n).2.2=1:=by
 refine ⟨?_,?_,rfl⟩
 .cases lo with
  | none=>simp [sliceBounds,HT.sIx]
  | some i =>
   simp only [sliceBounds,HT.sIx,Option.getD_none,show (1:Int)>0 by decide,Et]
   by_cases h:i<0
   .simp only [h,Et] <;> lia
   .simp only [h,DE] <;> lia
 cases hi with
 | none=>simp [sliceBounds,HT.sIx]
 | some i =>
  simp only [sliceBounds,HT.sIx,Option.getD_none,show (1:Int)>0 by decide,Et]
  by_cases h:i<0
  .simp only [h,Et] <;> lia
  .simp only [h,DE] <;> lia
theorem iX (its:List Value)(lo hi:Option Int):slicePick its.toArray lo hi none=((its.drop (HT.sIx its.length 0 lo)).take (HT.sIx its.length its.length hi-HT.sIx its.length 0 lo)).toArray:=by
 obtain ⟨h1,h2,h3⟩:=j9 lo hi its.toArray.size
 unfold slicePick
 rw [h1,h2,h3]
 simp only [sliceRange_one,pick_run,Bo] <;> rfl
def Aq (K:W.Frag):V->Option Int->Option Int->Hp->VK->Prop:=fun x lo hi H Q=>∃ a xs,x=.ref a/\SqL K H a xs/\∀p,H p=none->Q (.ref p) (upd H p (.lst (eK xs lo hi)))
theorem wX:SlR X (Aq X.K):=by
 intro pins s Z H x v vl vu lo hi sl Q I rx hs pl pu h
 obtain ⟨a,xs,rfl,hx,q⟩:=h
 cases rx
 obtain ⟨its,r,ht,hz⟩:=I.list hx
 have hlen:=r.length
 refine ⟨"list",_,slot_list_getitem.lookup,ht.isList.typeIs,?_⟩
 refine wpAny_getItem_list_slice ht.isList hs pl pu .none AY ?_ (by rw [Bo] <;> lia)
 rw [iX,<-hlen]
 refine ⟨.ref s.heap.objs.size,_,I.laid (t':=s.toks) (o:=.lst (eK xs lo hi)) (fun b ob q=>Bg _ q) (A9 _) ?_,rfl,q _ (I.hok.fresh (A9 _))⟩
 exact ⟨A0 (gw xs lo hi) hz,_,0,(r.drop (HT.sIx xs.length 0 lo)).take (HT.sIx xs.length xs.length hi-HT.sIx xs.length 0 lo),BB _ rfl⟩
theorem aH:cf X (.builtin "len") (fun xs H Q=>∃ p ys,xs=[.ref p]/\(SqL X.K H p ys∨SqT X.K H p ys)/\Q (.int ys.length) H):=by
 intro pins s Z H xs us Q I r h
 obtain ⟨p,ys,rfl,hq,q⟩:=h
 obtain ⟨u,rfl,rx⟩:=fN r
 cases rx
 have hn:=f9
 rcases hq with hq | hq
 .obtain ⟨its,r',pl,hz⟩:=I.list hq
  have hlen:=r'.length
  exact Calls.call_len_list pl.isList (by simp only [Bo] <;> lia) ⟨.int ys.length,H,I.tok _,⟨s.toks+1,by rw [Bo,hlen]⟩,q⟩
 obtain ⟨its,r',pl,hz⟩:=I.tuple hq
 have hlen:=r'.length
 exact len_tuple pl (by simp only [Bo] <;> lia) ⟨.int ys.length,H,I.tok _,⟨s.toks+1,by rw [Bo,hlen]⟩,q⟩
theorem ff:cf X (.builtin "len") (fun xs H Q=>∃ z,xs=[.str z]/\z.length<=sizeLine/\Q (.int z.length) H):=by
 intro pins s Z H xs us Q I r h
 obtain ⟨z,rfl,hz,q⟩:=h
 obtain ⟨u,rfl,t,rfl⟩:=fN r
 have hn:=f9
 exact len_str AX ⟨.int z.length,H,I.tok _,⟨_,rfl⟩,q⟩
theorem jZ:cf X (.type "list") (fun xs H Q=>∃ p ys,xs=[.ref p]/\(SqL X.K H p ys∨SqT X.K H p ys)/\∀l,H l=none->Q (.ref l) (upd H l (.lst ys))):=by
 intro pins s Z H xs us Q I r h
 obtain ⟨p,ys,rfl,hq,q⟩:=h
 obtain ⟨u,rfl,rx⟩:=fN r
 cases rx
 have fin:∀(its:List Value),Vals ys its->ys.length<=sizeLine->∀(h':Heap) (c':Nat),(∀b o',s.heap.get? b=some o'->h'.get? b=some o') ->
   h'.get? s.heap.objs.size=some { cls:=.type "list",dict:=none,data:=.seq its.toArray c',slots:=#[] }->EP X pins Z Q (.ref s.heap.objs.size) { s with heap:=h' }:=fun its r' hz h' c' kp e =>
  ⟨.ref s.heap.objs.size,_,I.laid (t':=s.toks) kp (A9 _) (show ObjOk X.prog X.w _ h' _ (.lst ys) from ⟨hz,its,c',r',e⟩),rfl,q _ (I.hok.fresh (A9 _))⟩
 rcases hq with hq | hq
 .obtain ⟨its,r',pl,hz⟩:=I.list hq
  have hlen:=r'.length
  obtain ⟨o,ho,hc,n,hd⟩:=pl.isList
  exact call_list_seq p (.inl rfl) ho hc hd (fun h' c' kp e=>fin its r' hz h' c' kp e) (by simp only [Bo] <;> lia)
 obtain ⟨its,r',pl,hz⟩:=I.tuple hq
 have hlen:=r'.length
 obtain ⟨o,ho,hc,n,hd⟩:=pl
 exact call_list_seq p (.inr rfl) ho hc hd (fun h' c' kp e=>fin its r' hz h' c' kp e) (by simp only [Bo] <;> lia)
theorem cS:cf X (.type "tuple") (fun xs H Q=>∃ p ys,xs=[.ref p]/\((SqL X.K H p ys/\∀l,H l=none->Q (.ref l) (upd H l (.tup ys)))∨(SqT X.K H p ys/\Q (.ref p) H))):=by
 intro pins s Z H xs us Q I r h
 obtain ⟨p,ys,rfl,h⟩:=h
 obtain ⟨u,rfl,rx⟩:=fN r
 cases rx
 rcases h with ⟨hq,q⟩ | ⟨hq,q⟩
 .obtain ⟨its,r',pl,hz⟩:=I.list hq
  have hlen:=r'.length
  refine call_tuple_list pl.isList (fun h' kp=>?_) (by simp only [Bo] <;> lia)
  have I1:Inv X pins Z H { s with heap:=h' }:=I.kept (t':=s.toks) kp
  have I2:Inv X pins Z (upd H h'.objs.size (.tup ys)) { s with heap:=h'.push { cls:=.type "tuple",data:=.seq its.toArray } } :=
   I1.laid (t':=s.toks) (fun b o e=>Bg _ e) (A9 _) (show ObjOk X.prog X.w _ _ _ (.tup ys) from ⟨hz,its,r',IsTup.new _ _⟩)
  exact ⟨.ref h'.objs.size,_,I2,rfl,q _ (I1.hok.fresh (A9 _))⟩
 obtain ⟨its,r',pl,hz⟩:=I.tuple hq
 exact call_tuple_same pl ⟨.ref p,H,I,rfl,q⟩
def tyV (K:W.Frag)(T:String)(x:V)(H:Hp):Prop:=match x with
 | .str _=>T="str"
 | .int _=>T="int"
 | .ref p=>(T="list"/\∃ xs,SqL K H p xs)∨(T="tuple"/\∃ o,K.lookup p=some o/\o.cls=.type "tuple"/\o.dict=none) ∨
   (T="dict"/\((∃ kvs,H p=some (.dK kvs))∨∃ kvs,H p=some (.dT kvs)))∨(T="set"/\∃ S n,H p=some (.set S n))
 | _=>False
theorem ul {T:String}{x:V}{v:Value}(I:Inv X pins Z H s)(r:RelV x v)(ty:tyV X.K T x H):
  s.TypeIs v T/\∀a,v=.ref a->∃ ob,s.heap.get? a=some ob/\ob.dict=none:=by
 cases x with
 | str z =>
  obtain ⟨t,rfl⟩:=r
  cases (show T="str" from ty)
  exact ⟨DS s z t,fun _ e=>nomatch e⟩
 | int i =>
  obtain ⟨t,rfl⟩:=r
  cases (show T="int" from ty)
  exact ⟨typeIs_int s i t,fun _ e=>nomatch e⟩
 | ref p =>
  cases r
  rcases ty with ⟨rfl,xs,hq⟩ | ⟨rfl,o,hk,hc,hd⟩ | ⟨rfl,hk⟩ | ⟨rfl,S,n,hk⟩
  .obtain ⟨its,_,pl,_⟩:=I.list hq
   refine ⟨pl.isList.typeIs,fun a e=>?_⟩
   cases e
   obtain ⟨o,n,e,c,hd,_⟩:=pl
   exact ⟨o,e,hd⟩
  .refine ⟨⟨o,I.kIn p o hk,hc⟩,fun a e=>?_⟩
   cases e
   exact ⟨o,I.kIn _ o hk,hd⟩
  .have z:∃ o,s.heap.get? p=some o/\o.ExactDict:=by
    rcases hk with ⟨kvs,hk⟩ | ⟨kvs,hk⟩
    .obtain ⟨_,_,_,_,o,_,_,e,ex,_⟩:=I.hok p _ hk
     exact ⟨o,e,ex⟩
    .obtain ⟨_,_,_,_,o,_,_,e,ex,_⟩:=I.hok p _ hk
     exact ⟨o,e,ex⟩
   obtain ⟨o,e,ex⟩:=z
   refine ⟨⟨o,e,ex.1⟩,fun a e2=>?_⟩
   cases e2
   exact ⟨o,e,ex.2.1⟩
  .obtain ⟨o,_,_,_,e,ex,_⟩:=I.hok p _ hk
   refine ⟨⟨o,e,ex.1⟩,fun a e2=>?_⟩
   cases e2
   exact ⟨o,e,ex.2.1⟩
 | _=>exact False.elim ty
def Ap (K:W.Frag)(T:String)(r:V->List V->Hp->VK->Prop)(to:TE):TE:=fun Z H Q=>to Z H fun x H1=>tyV K T x H1/\r x [] H1 Q
def tBM (K:W.Frag)(T:String)(r:V->List V->Hp->VK->Prop)(to:TE)(t:TA):TE:=fun Z H Q=>to Z H fun x H1=>tyV K T x H1/\t Z H1 fun xs H2=>r x xs H2 Q
variable {o e:Expr}{es:List Expr}{to:TE}{t:TA}{name:Str}{apos cpos:Pos}{T id:String}{r:V->List V->Hp->VK->Prop}
end
def MtM (X:Cx)(id:String)(r:V->List V->Hp->VK->Prop):Prop :=
 ∀(pins:List (Addr×Obj)) (s:Shared) (Z:St) (H:Hp) (x:V) (xs:List V) (v:Value) (us:List Value) (Q:VK),Inv X pins Z H s->RelV x v->Vals xs us->r x xs H Q ->
  wpAny (model X.prog X.w) X.A (call (.builtin id) (v::us)) (EP X pins Z Q) X.xe s
theorem Vals.one:∀{x:V} {us:List Value},Vals [x] us->∃ u,us=[u]/\RelV x u
 | _,_,.cons r .nil=>⟨_,rfl,r⟩
theorem Vals.zero:∀{us:List Value},Vals [] us->us=[]
 | _,.nil=>rfl
theorem Vals.dropLast (h:Vals xs us):Vals xs.dropLast us.dropLast:=by
 induction h with
 | nil=>exact .nil
 | cons r t ih =>
  cases t with
  | nil=>exact .nil
  | cons q t'=>exact .cons r ih
theorem nW {α:Type}(l:List α):l.eraseIdx (l.length-1)=l.dropLast:=by
 induction l with
 | nil=>rfl
 | cons a r ih =>
  cases r with
  | nil=>rfl
  | cons b r =>
   have e:(a::b::r).length-1=((b::r).length-1)+1:=by
    have h1:(a::b::r).length=r.length+2:=rfl
    have h2:(b::r).length=r.length+1:=rfl
    lia
   rw [e,List.eraseIdx_cons_succ,ih]
   all_goals rfl
section
variable {X:Cx}{pins:List (Addr×Obj)}{Z:St}{H:Hp}{s:Shared}{l b:Addr}{xs ys zs:List V}
theorem Inv.lset {f:Array Value->Array Value}{t':Nat}(I:Inv X pins Z H s)(hH:H l=some (.lst xs))(e:s.heap.get? l=some { cls:=.type "list",data:=.seq its.toArray n })(hf:f its.toArray=its'.toArray)(hv:Vals ys its')(hz:ys.length<=sizeLine):
  Inv X pins Z (upd H l (.lst ys)) { s with heap:=s.heap.update l (Obj.mapSeq f),toks:=t' }:=by
 have q:=PySem.IsL.update e f
 rw [hf] at q
 refine I.write (x:=l) (e:=l) (by rw [hH];exact trivial) (.inl rfl) (fun b' u hb hu=>(BN s.heap (Obj.mapSeq f) (Cm hb)).trans hu) ⟨_,q⟩ ?_
 exact ⟨hz,its',_,hv,q⟩
theorem Inv.lnew {t':Nat}(I:Inv X pins Z H s)(hv:Vals ys its)(hz:ys.length<=sizeLine):
  Inv X pins Z (upd H s.heap.objs.size (.lst ys)) { s with heap:=s.heap.push { cls:=.type "list",data:=.seq its.toArray },toks:=t' } :=
 I.laid (fun _ _ q=>Bg _ q) (A9 _) ⟨hz,its,0,hv,BB _ rfl⟩
theorem Inv.fresh (I:Inv X pins Z H s):H s.heap.objs.size=none:=I.hok.fresh (A9 _)
theorem Inv.lstM (I:Inv X pins Z H s)(hH:H l=some (.lst xs)):xs.length<=sizeLine/\∃ (its:List Value) (n:Nat),Vals xs its/\xs.length=its.length/\s.heap.get? l=some { cls:=.type "list",data:=.seq its.toArray n }:=by
 obtain ⟨z,its,n,r,e⟩:=I.hok l _ hH
 exact ⟨z,its,n,r,r.length,e⟩
end
section
variable {X:Cx}
def wF:V->List V->Hp->VK->Prop:=fun x vs H Q=>∃ l xs y,x=.ref l/\vs=[y]/\H l=some (.lst xs)/\xs.length<sizeLine/\Q .non (upd H l (.lst (xs++[y])))
theorem cy:MtM X "list.append" wF:=by
 intro pins s Z H x vs v us Q I rx rv h
 obtain ⟨l,xs,y,rfl,rfl,hH,hz,q⟩:=h
 cases rx
 obtain ⟨u,rfl,ru⟩:=rv.one
 obtain ⟨z,its,n,r,hl,e⟩:=I.lstM hH
 refine FR F.slot_list_append ⟨_,e,rfl⟩ F.entry_list_append (F.args_list_append_2 _ _) (PySem.list_append l its.toArray n u (by rw [Bo];lia)) ⟨e,?_⟩
 refine ⟨.non,_,I.lset (its':=its++[u]) hH e AY (r.append (.cons ru .nil)) ?_,rfl,q⟩
 rw [Bi,List.length_singleton]
 lia
def AB:V->List V->Hp->VK->Prop:=fun x vs H Q=>∃ l xs y,x=.ref l/\vs=[]/\H l=some (.lst xs)/\xs[xs.length-1]?=some y/\Q y (upd H l (.lst xs.dropLast))
theorem vJ:MtM X "list.pop" AB:=by
 intro pins s Z H x vs v us Q I rx rv h
 obtain ⟨l,xs,y,rfl,rfl,hH,hy,q⟩:=h
 cases rx
 have hus:=rv.zero
 subst hus
 obtain ⟨z,its,n,r,hl,e⟩:=I.lstM hH
 obtain ⟨u,hu,ru⟩:=r.get hy
 have hy':its.toArray[its.toArray.size-1]?=some u:=by
  show its.toArray[its.length-1]?=some u
  rw [<-FA,<-hl]
  exact hu
 refine FR F.slot_list_pop ⟨_,e,rfl⟩ F.entry_list_pop (F.args_list_pop_1 _) (MeetsSeq.list_pop_last l its.toArray n u hy' (by rw [Bo];lia)) ⟨e,?_⟩
 refine ⟨y,_,I.lset (its':=its.dropLast) hH e ?_ r.dropLast ?_,ru,q⟩
 .show its.toArray.eraseIdxIfInBounds (its.toArray.size-1)=its.dropLast.toArray
  rw [Bo,List.eraseIdxIfInBounds_toArray,nW]
 rw [BU]
 lia
def Aw:R2:=fun x y H Q=>∃ l b xs zs,x=.ref l/\y=.ref b/\H l=some (.lst xs)/\H b=some (.lst zs)/\xs.length+zs.length<=sizeLine/\∀p,H p=none->Q (.ref p) (upd H p (.lst (xs++zs)))
theorem u7:OpR X (binaryOp .Add) Aw:=by
 intro pins s Z H x y v u Q I rx ry h
 obtain ⟨l,b,xs,zs,rfl,rfl,hH,hB,hz,q⟩:=h
 cases rx
 cases ry
 obtain ⟨z,its,n,r,hl,e⟩:=I.lstM hH
 obtain ⟨z2,its2,n2,r2,hl2,e2⟩:=I.lstM hB
 refine PySem.P.add_list e e2 ?_ (by rw [Bo,Bo];lia)
 have ea:its.toArray++its2.toArray=(its++its2).toArray:=by simp
 rw [ea]
 exact ⟨.ref _,_,I.lnew (t':=s.toks) (r.append r2) (by rw [Bi];lia),rfl,q _ I.fresh⟩
end
end L2
namespace Att
open PySem PySem.W PySem.Calls PyProof.Rows
theorem gF {P:Params}:∀(ns:List Int) (vs:List Value),WellAll P h vs (ns.map WData.int)->IntsAre vs ns:=by
 intro ns
 induction ns with
 | nil =>
  intro vs w
  rw [Dk] at w
  cases w
  exact .nil
 | cons n ns ih =>
  intro vs w
  rw [BA] at w
  cases w with
  | cons a b =>
   cases a
   exact .cons _ _ (ih _ b)
theorem qL {l:OpenLaw}(hn:l.most=some n){P:Params}{args:List WData}{vals:List Value}(hpre:l.row.toRowW.claim.pre args=true)(hwl:WellAll P h vals args):
  ∃ a vs ns,vals=[Value.ref a]/\args=[WData.list (ns.map WData.int)]/\h.get? a=some { cls:=.type "list",data:=.seq vs.toArray }/\IntsAre vs ns/\ns.length<=n:=by
 have hsh:WShape.hasAll [] args [.list .int]=true:=(pre_splitW hpre).1
 have hc:l.pre.holds [] { args:=args }=true:=(pre_splitW hpre).2
 obtain ⟨d,r,rfl,h1,h2⟩:=hasAllW_cons hsh
 obtain rfl:=hasAllW_nil h2
 obtain ⟨xs,rfl,h3⟩:=hasW_list h1
 obtain ⟨ns,rfl⟩:=items_int h3
 have hlen:ns.length<=n:=by
  unfold OpenLaw.pre at hc
  have h4:(WTm.not (.lt (.lit (.int (n:Int))) (.len (.arg 0)))).holds [] { args:=[.list (ns.map .int)] }=true:=by
   have h4:=(holds_andW hc).1
   rw [hn] at h4
   exact h4
  have h5:=condW_of h4 (w_not (w_lt w_lit (w_len_list (w_arg rfl))))
  rw [Bh] at h5
  refine Fo fun q=>?_
  have q':(n:Int)<((ns.length:Nat):Int):=by lia
  first
   | (rw [Bb q'] at h5;exact absurd h5 AW)
   | (simp at h5;lia)
 cases hwl with
 | cons w1 w2 =>
  cases w2
  cases w1 with
  | list ho hall=>exact ⟨_,_,ns,rfl,rfl,ho,gF ns _ hall,hlen⟩
theorem rB (l:OpenLaw)(args:List WData):l.row.toRowW.claim.post args (.bool true) args=true :=
 postW_of (r:=l.row.toRowW) (X:=(true == true))
  (show WShape.has [] (.bool true) .bool=true by first | rfl | decide | simp [WShape.has,WShape.arms,WShape.armsAll])
  (show (WTm.eq .res (.lit (.bool true))).value [] { args:=args,res:=some (.bool true),after:=args }=some (.bool (true == true)) from w_eq_bool (w_res rfl) w_lit) rfl
theorem attach_call {l:OpenLaw}{XP:(Str->Option Value)->Heap->Prop}{d:DefRec}(hn:l.most=some n)(hdf:d.params.defaults=[])(call:∀(w:World) (s₀ s₁:Shared) (mg mb:Str->Option Value) (fa:Addr) (o:Obj) (pm cd doc:Value) (a:Addr) (vs:List Value) (ns:List Int),
   Ground q loose [] XP w s₀ mg mb s₁.heap->YP w s₁.heap ->
   s₁.heap.get? fa=some o->o.data=.func (docDef d.name d.params d.body d.scope pm cd doc)->s₁.heap.CodeRec cd d.name->mg d.name=some (.ref fa) ->
   s₁.heap.get? a=some { cls:=.type "list",data:=.seq vs.toArray }->IntsAre vs ns->ns.length<=n->s₁.gens=#[] ->
   codeAny (model l.prog w) callerA (.call (.ref fa) ⟨[.ref a],[]⟩) (fun r s'=>r=.ok (.ret (.bool true))/\OldK s₁.heap s'.heap/\s'.os=s₁.os/\AllBare s'.gens) s₁):
  WalkO q loose XP YP l.row.toRowW d [] (fun f vs=>PySem.call f vs):=by
 intro w s₀ s₁ mg mb G Y fa o pm cd doc dV kV ho hd hcd hD hmg hg args vals as hpre hlay hrd hwl hlo
 obtain rfl:dV=.none:=Dflts.none hD hdf
 obtain rfl:kV=.none:=Dflts.noKw hD
 obtain ⟨a,vs,ns,rfl,rfl,hobj,hints,hlen⟩:=qL hn hpre hwl
 refine enter_call (EN (call w s₀ s₁ mg mb fa o pm cd doc a vs ns G Y ho (fd_plain hd) hcd hmg hobj hints hlen hg) fun r s' hq=>?_)
 obtain ⟨rfl,h2,h3,h4⟩:=hq
 exact ⟨.inl ⟨.bool true,.bool true,[],rfl,fun _=>rfl,.bool true,rB l _,fun _=>⟨List.Pairwise.nil,fun _ hm=>(nomatch hm)⟩⟩,h2,h3,h4⟩
end Att
namespace L2
open PySem PySem.Spec PyProof.Rows
theorem jp:∀{vs:List Value} {ns:List Int},IntsAre vs ns->Vals (ns.map V.int) vs
 | _,_,.nil=>.nil
 | _,_,.cons n t h=>.cons ⟨t,rfl⟩ (jp h)
def zr (H:Hp):Prop:=∀b,H b=none∨∃ o xs,H b=some (.frz o (.lst xs))
theorem tH {P:Program}{mb:Str->Option Value}{CX:CXT}{k:Nat}{s₁:Shared}{ns:List Int}(KX:K.In s₁.heap)(hns:s₁.heap.Ns mainGlobals mg)(hb:s₁.heap.Ns builtinsNs mb)(hbb:∀x:Str,x≠"__name__"->mb x=bootBuiltins x)(hlim:s₁.heap.NoLimit)(hg:s₁.gens=#[])(ha:s₁.heap.get? a=some { cls:=.type "list",data:=.seq vs.toArray })(hi:IntsAre vs ns)(hl:ns.length<=sizeLine)(hr:Room k callerA)(F:∀base:Heap,K.In base->base.Ns mainGlobals mg->av P w K mg base CX k fa fd [x] sp)(hbind:∀(s:Shared) (u:Value),BindsTo s fd ⟨[u],[]⟩ [(x,u)])(hsp:∀H:Hp,zr H->SqL K H a (ns.map V.int)->sp [.ref a] H (fun v _=>v=.bl true) fun _ _ _=>False)(hCX:∀H e s',CX [] H s₁ (fun _ _ _=>False) e s'->False):
  codeAny (model P w) callerA (.call (.ref fa) ⟨[.ref a],[]⟩) (fun r s'=>r=.ok (.ret (.bool true))/\OldK s₁.heap s'.heap/\s'.os=s₁.os/\AllBare s'.gens) s₁:=by
 have rv:=jp hi
 have lenV:=hi.length
 have core:∀H:Hp,zr H->SqL K H a (ns.map V.int)->HOk P w H s₁.heap->(∀b,H b≠none->b=a)->(H a≠none->K.lookup a=none) ->
   codeAny (model P w) callerA (.call (.ref fa) ⟨[.ref a],[]⟩) (fun r s'=>r=.ok (.ret (.bool true))/\OldK s₁.heap s'.heap/\s'.os=s₁.os/\AllBare s'.gens) s₁:=by
  intro H hO hS hok hA hK
  have base_of:∀{b:Addr} {o:Obj},s₁.heap.get? b=some o->H b=none->(kH s₁.heap H).get? b=some o:=fun e n=>vq e n
  have noA:∀{b:Addr} {o:Obj} {es:Array DictEntry} {ep:Nat},s₁.heap.get? b=some o->o.data=.dict es ep->H b=none:=fun {b o es ep} e d=>by
   cases q:H b with
   | none=>rfl
   | some u =>
    have e':b=a:=hA b (by rw [q];simp)
    subst e'
    rw [ha] at e;cases e
    have d':Data.seq vs.toArray _=Data.dict es ep:=d
    cases d'
  have nsK:∀{b:Addr} {m:Str->Option Value},s₁.heap.Ns b m->(kH s₁.heap H).Ns b m:=fun {b m} ⟨o,es,ep,e,d,r⟩=>⟨o,es,ep,base_of e (noA e d),d,r⟩
  have hKb:K.In (kH s₁.heap H):=fun b o e=>base_of (KX b o e) (by
   cases q:H b with
   | none=>rfl
   | some u =>
    have e':b=a:=hA b (by rw [q];simp)
    subst e'
    rw [hK (by rw [q];simp)] at e;cases e)
  have hM:Mod K mg (kH s₁.heap H):=⟨hKb,nsK hns,⟨mb,nsK hb,hbb⟩,let ⟨mc,h1,h2⟩:=hlim;⟨mc,nsK h1,h2⟩⟩
  have e0:Env0 P w K mg (kH s₁.heap H) callerA [] s₁ H:=⟨rfl,hM,fun b o e=>wU e,EM (rE _ _),trivial,fun b hb=>absurd (show b∈([]:List Addr) from hb) AY,hok,.of_eq hg⟩
  refine EN ((F _ hKb (nsK hns)).run callerA [] s₁ H ⟨[.ref a],[]⟩ [.ref a] [.ref a] _ _ hr e0 (hbind s₁ (.ref a)) (.cons rfl .nil) (hsp H hO hS)) fun r s' h=>?_
  cases r with
  | error e=>exact (hCX H e s' h).elim
  | ok fl =>
   cases fl with
   | next=>exact False.elim h
   | brk=>exact False.elim h
   | cont=>exact False.elim h
   | ret u =>
    obtain ⟨v,H',os,bare,un,hok',r',q⟩:=h
    have q':v=.bl true:=q
    subst q'
    obtain rfl:u=Value.bool true:=r'
    refine ⟨rfl,OldK.of_keep fun b o e=>?_,os,bare⟩
    cases q:H b with
    | none=>exact un.keep b o e q (by intro z;exact absurd (show b∈([]:List Addr) from z) AY) AY
    | some u =>
     rcases hO b with z | ⟨ob,xs,z⟩
     .rw [q] at z;cases z
     .have z2:=un.frzs b ob _ z
      obtain ⟨e1,_⟩:=hok b _ z
      obtain ⟨e2,_⟩:=hok' b _ z2
      rw [e] at e1;cases e1
      exact e2
 cases hk:K.lookup a with
 | some o =>
  have e:=KX a o hk
  rw [ha] at e
  cases e
  refine core (fun _=>none) (fun _=>.inl rfl) (.inr ⟨_,vs.toArray,_,hk,rfl,rfl,rfl,by rw [Bo,lenV];exact hl,by simpa using rv⟩) (fun b u z=>by have z':(none:Option HO)=some u:=z;cases z') (fun b z=>absurd rfl z) fun z=>absurd rfl z
 | none =>
  refine core (fun b=>if b=a then some (.frz { cls:=.type "list",data:=.seq vs.toArray } (.lst (ns.map V.int))) else none) (fun b=>?_) (.inl (.inr ⟨{ cls:=.type "list",data:=.seq vs.toArray },Bf rfl⟩)) (fun b u z=>?_) (fun b z=>?_) fun _=>hk
  .by_cases hb:b=a
   .exact .inr ⟨_,_,Bf hb⟩
   .exact .inl (Bc hb)
  .by_cases hb:b=a
   .have z':=(Bf hb).symm.trans z
    cases z'
    subst hb
    exact ⟨ha,by rw [Bh];exact hl,vs,_,rv,ha⟩
   .have z':=(Bc hb).symm.trans z
    cases z'
  .by_cases hb:b=a
   .exact hb
   .exact absurd (Bc hb) z
theorem walk_of {l:W.OpenLaw}{k:Nat}{XP:(Str->Option Value)->Heap->Prop}{d:DefRec}{K:Params->W.Frag}{CX:World->CXT}{sp:World->Sp}(hn:l.most=some n)(hn2:n<=sizeLine)(hdf:d.params.defaults=[])(hr:Room k callerA)(hY:∀(w:World) (h:Heap),YP w h->(K w.params).In h)(F:∀(w:World) (mg:Str->Option Value) (fa:Addr) (h:Heap),(K w.params).In h->h.Ns mainGlobals mg->mg d.name=some (.ref fa) ->
   ∃ fd:FuncData,(∀(s:Shared) (u:Value),BindsTo s fd ⟨[u],[]⟩ [(x,u)]) /\
    ∀base:Heap,(K w.params).In base->base.Ns mainGlobals mg->av l.prog w (K w.params) mg base (CX w) k fa fd [x] (sp w))(hsp:∀(w:World) (H:Hp) (a:Addr) (ns:List Int),ns.length<=n->zr H->SqL (K w.params) H a (ns.map V.int)->sp w [.ref a] H (fun v _=>v=.bl true) fun _ _ _=>False)(hCX:∀(w:World) (H:Hp) (s:Shared) (e:Value) (s':Shared),CX w [] H s (fun _ _ _=>False) e s'->False):
  W.WalkO q loose XP YP l.row.toRowW d [] (fun f vs=>PySem.call f vs):=by
 refine Att.attach_call hn hdf fun w s₀ s₁ mg mb fa o pm cd doc a vs ns G Y ho hd hcd hmg hobj hints hlen hg=>?_
 have KX:=hY w _ Y
 obtain ⟨fd,hb,hF⟩:=F w mg fa _ KX G.T.g hmg
 exact tH KX G.T.g G.T.b G.T.builtins G.T.nolimit hg hobj hints (A0 hlen hn2) hr hF hb (fun H hO hS=>hsp w H a ns hlen hO hS) fun H e s'=>hCX w H s₁ e s'
def aV (s:Stmt)(j:Nat):Stmt:=match s with
 | .ClassDef _ _ _ body _ _ _ _ _ _ _=>body.getD j (.Pass ⟨0,0,0,0⟩)
 | _=>.Pass ⟨0,0,0,0⟩
def bW (s:Stmt):Arguments:=match s with
 | .FunctionDef _ a _ _ _ _ _ _ _ _=>a
 | _=>{ posonlyargs:=[],args:=[],vararg:=none,kwonlyargs:=[],kw_defaults:=[],kwarg:=none,defaults:=[] }
def bA (s:Stmt):List Stmt:=match s with
 | .FunctionDef _ _ b _ _ _ _ _ _ _=>b
 | _=>[]
def ao (s:Stmt):Scope:=match s with
 | .FunctionDef _ _ _ _ _ _ sc _ _ _=>sc
 | _=>{ kind:=.function,names:=[],isGenerator:=false,isCoroutine:=false }
abbrev CX0:CXT:=fun _ _ _ _ _ _=>False
abbrev E0:XK:=fun _ _ _=>False
theorem aG:cj CX0 X E0:=fun _ _ _ _ _ _ _ h=>h.elim
structure Fun (K:W.Frag)(x qual:Str)(st:Stmt)(f:Addr)(fd:FuncData):Prop where
 ex:∃ (oc:Value) (od:Option Addr) (kV doc pm:Value) (an:Option Addr) (cdv ct:Value) (osl:Array (Option Value)),
  fd=W.fnOf x qual (bW st) (bA st) (ao st) .none kV doc pm an cdv ct/\K.lookup f=some ⟨oc,od,.func fd,osl⟩/\W.codeIn K cdv qual=true
 kp:W.keepIn K (.ref f)=true
section
variable {P:Program}{w:World}{K:W.Frag}{mg:Str->Option Value}{base:Heap}
theorem Fun.ok {k:Nat}(F:Fun K x qual st f fd)(S:au N ps (ao st))(hbody:∀(cdv:Value) (A:Around) (outer:List Env) (s:Shared) (H:Hp) (vs:List V) (Q:VK) (E:XK),Room k (A.deeper (envOfC qual (ao st) s.heap.objs.size f cdv))->sp vs H Q E ->
   ∃ t,PSs (bT CX0 P w K mg base N qual (ao st) f cdv A outer s H E).nox (bA st) t/\t { nx:=fun _ H'=>Q .non H',rt:=Q } (start N vs) H)(len:∀vs H Q E,sp vs H Q E->vs.length=ps.length:=by intro vs H Q E h;repeat (first | (obtain ⟨rfl,_⟩:=h;rfl) | obtain ⟨_,h⟩:=h)):av P w K mg base CX0 (k+1) f fd ps sp:=by
 obtain ⟨oc,od,kV,doc,pm,an,cdv,ct,osl,rfl,lk,hcd⟩:=F.ex
 refine x8 lk hcd S len fun A outer s H vs Q E hr hsp=>?_
 obtain ⟨t,h,q⟩:=hbody cdv A outer s H vs Q E hr hsp
 exact ⟨t,h.nox,q⟩
theorem Fun.binds (F:Fun K x qual st f fd)(h:∀(kV doc pm:Value) (an:Option Addr) (cdv ct:Value) (us:List Value),us.length=ps.length->bindArgs (W.fnOf x qual (bW st) (bA st) (ao st) .none kV doc pm an cdv ct) ⟨us,[]⟩=pure (ps.zip us)):Binds K fd ps []:=by
 obtain ⟨oc,od,kV,doc,pm,an,cdv,ct,osl,rfl,lk,hcd⟩:=F.ex
 exact .all (h kV doc pm an cdv ct)
theorem kF {oc:Value}{od an:Option Addr}{kV doc pm cdv ct:Value}(l:K.lookup f=some ⟨oc,od,.func (W.fnOf x qual (bW st) (bA st) (ao st) .none kV doc pm an cdv ct),osl⟩)(c:W.codeIn K cdv qual=true)(k:W.keepIn K (.ref f)=true):Fun K x qual st f (W.fnOf x qual (bW st) (bA st) (ao st) .none kV doc pm an cdv ct):=⟨⟨oc,od,kV,doc,pm,an,cdv,ct,osl,rfl,l,c⟩,k⟩
end
theorem aS {k:Nat}(hr:Room k A):A.units+1<cLine:=BM (Nat.add_le_add_left (by decide:1<=64) _) hr.units
theorem aY (h:n<=1000):n<sizeLine:=BM h AW
theorem bL {A:Prop}(h:B):if false=true then A else B:=by
 rw [Bc Bm]
 exact h
theorem iQ {A:Prop}(h:A):if true=true then A else B:=by
 rw [Bf rfl]
 exact h
theorem aO {c A:Prop}[Decidable c](h1:c->A)(h2:¬ c->B):if c then A else B:=by
 by_cases h:c
 .rw [Bf h]
  exact h1 h
 rw [Bc h]
 exact h2 h
def Same (H H':Hp):Prop:=∀b o,H b=some o->H' b=some o
theorem Same.refl (H:Hp):Same H H:=fun _ _ h=>h
theorem Same.trans {H1 H2:Hp}(a:Same H H1)(b:Same H1 H2):Same H H2:=fun c o h=>b c o (a c o h)
theorem Same.free (e:Same H H'){l:Addr}(h:H' l=Option.none):H l=Option.none:=by
 cases q:H l with
 | none=>rfl
 | some o =>
  rw [e l o q] at h
  cases h
def ltV:V->V->Bool
 | .int a,.int b=>decide (a<b)
 | .str a,.str b=>decide (a.cps.toList<b.cps.toList)
 | _,_=>false
def xf:V->V->Prop
 | .int _,.int _=>True
 | .str _,.str _=>True
 | _,_=>False
def bv:List V->List V->Bool
 | [],[]=>false
 | [],_::_=>true
 | _::_,[]=>false
 | x::xs,y::ys=>if x=y then bv xs ys else ltV x y
theorem aM (x y:V)(xs ys:List V):bv (x::xs) (y::ys)=if x=y then bv xs ys else ltV x y:=rfl
def lL:List V->List V->Prop
 | x::xs,y::ys=>xf x y/\lL xs ys
 | _,_=>True
theorem dI (a c:Str):((a == c)=true)↔a=c:=by simp
theorem bQ {a c:V}{v:Value}(A:Around)(s:Shared)(h:xf a c)(ra:RelV a v)(rc:RelV c u):∃ e,SeqAt.EqAt A s v u e/\(e=true↔a=c):=by
 cases a with
 | int i =>
  cases c with
  | int j =>
   obtain ⟨t,rfl⟩:=ra
   obtain ⟨t',rfl⟩:=rc
   exact ⟨_,SeqAt.EqAt.int_int i t j t',AY⟩
  | _=>exact h.elim
 | str i =>
  cases c with
  | str j =>
   obtain ⟨t,rfl⟩:=ra
   obtain ⟨t',rfl⟩:=rc
   exact ⟨_,SeqAt.EqAt.str_str i t j t',AY⟩
  | _=>exact h.elim
 | _=>exact h.elim
theorem io {a c:V}{v:Value}(A:Around)(s:Shared)(h:xf a c)(ra:RelV a v)(rc:RelV c u)(prog:Program)(w:World)(q:Q (.bool (ltV a c)) s):
  wpAny (model prog w) A (richCompare .Lt v u) Q E s:=by
 cases a with
 | int i =>
  cases c with
  | int j =>
   obtain ⟨t,rfl⟩:=ra
   obtain ⟨t',rfl⟩:=rc
   exact (PyProof.Rows.lt_int q:wpAny (model prog w) A (compareOp .Lt (.int i t) (.int j t')) Q E s)
  | _=>exact h.elim
 | str i =>
  cases c with
  | str j =>
   obtain ⟨t,rfl⟩:=ra
   obtain ⟨t',rfl⟩:=rc
   exact (PySem.P.lt_str q:wpAny (model prog w) A (compareOp .Lt (.str i t) (.str j t')) Q E s)
  | _=>exact h.elim
 | _=>exact h.elim
section
open PySem.SeqAt
open PySem.AutoSeq1 (wpAny_loadPart')
open PySem.MeetsSeq PySem.MeetsSeq2 PySem.MeetsSeq3
theorem iL (l b:Addr)(items items2:Array Value)(n n2:Nat)(dd dd2:Option Addr)(sl sl2:Array (Option Value))(xs ys:List V)(hi:Vals xs items.toList)(hj:Vals ys items2.toList)(hf:lL xs ys):
  Meets (Builtin.«tuple.__lt__» ⟨[.ref l,.ref b],[]⟩)
   (fun _ R s=>s.heap.get? l=some { cls:=.type "tuple",dict:=dd,data:=.seq items n,slots:=sl }/\s.heap.get? b=some { cls:=.type "tuple",dict:=dd2,data:=.seq items2 n2,slots:=sl2 } /\
    R (.ok (.ret (.bool (bv xs ys)))) s) :=
 .of_wp fun prog w A R s h=>by
  obtain ⟨hp,g,d,tk,os⟩:=s;obtain ⟨hl,hb,h⟩:=h
  have f2:=AutoSeq1.sub_tuple_tuple
  have z1:items.size=xs.length:=by rw [hi.length];simp
  have z2:items2.size=ys.length:=by rw [hj.length];simp
  wp_walk using wpAny_loadPart' hl,wpAny_loadPart' hb,wpAny_forIn_list _ (fun rest b s'=>b.1=none/\s'=⟨hp,g,d,tk,os⟩/\∃ (vs ws:List Value) (xs' ys':List V),rest=vs.zip ws /\
   Vals xs' vs/\Vals ys' ws/\lL xs' ys'/\xs'.length+items2.size=ys'.length+items.size/\R (.ok (.ret (.bool (bv xs' ys')))) ⟨hp,g,d,tk,os⟩) _
  case turn =>
   rintro ⟨y,x⟩ rest b s' ⟨hb',rfl,vs,ws,xs',ys',hz,hvi,hwi,hft,hlen,hR⟩
   cases hvi with
   | nil=>rw [List.zip_nil_left] at hz;cases hz
   | @cons a v as vs' ra hvi' =>
    cases hwi with
    | nil=>rw [List.zip_nil_right] at hz;cases hz
    | @cons c u cs ws' rc hwi' =>
     rw [DG] at hz
     injection hz with hyx hrest
     injection hyx with hy hx
     subst hy hx
     simp only [Bj] at hlen
     obtain ⟨fac,fit'⟩:xf a c/\lL as cs:=hft
     obtain ⟨e,he,hiff⟩:=bQ A.in1 ⟨hp,g,d,tk,os⟩ fac ra rc
     refine Be (he prog w _ _ ?_)
     cases e with
     | true =>
      have hac:=hiff.mp rfl
      have hR2:R (.ok (.ret (.bool (bv as cs)))) ⟨hp,g,d,tk,os⟩:=by
       subst hac
       rw [aM,Bf rfl] at hR;exact hR
      wp_walk
      exact ⟨rfl,rfl,_,_,_,_,hrest,hvi',hwi',fit',AX,hR2⟩
     | false =>
      have hac:¬ a=c:=fun q=>absurd (hiff.mpr q) Bm
      have hR2:R (.ok (.ret (.bool (ltV a c)))) ⟨hp,g,d,tk,os⟩:=by
       rw [aM,Bc (by intro q;exact hac q)] at hR;exact hR
      have hri:=fun E Q h=>io (E:=E) (Q:=Q) A.in1 ⟨hp,g,d,tk,os⟩ fac ra rc prog w h
      wp_walk using hri
      exact ⟨_,rfl,by simpa using hR2⟩
  case fin =>
   rintro ⟨b1,b2⟩ s' ⟨hb',rfl,vs,ws,xs',ys',hz,hvi,hwi,hft,hlen,hR⟩
   simp only at hb'
   subst hb'
   have hv:bv xs' ys'=decide (items.size<items2.size):=by
    cases hvi with
    | nil =>
     cases hwi with
     | nil =>
      simp only [CG] at hlen
      rw [show bv [] []=false from rfl]
      exact (Br AX).symm
     | cons ru hw =>
      simp only [CG,Bj] at hlen
      exact (Bb AX).symm
    | cons ra hv =>
     cases hwi with
     | nil =>
      simp only [CG,Bj] at hlen
      exact (Br AX).symm
     | cons ru hw =>
      rw [DG] at hz
      cases hz
   rw [hv] at hR
   wp_walk
   exact ⟨_,rfl,by simpa [Builtin.Tuple.tupleCompareSizes] using hR⟩
  case h =>
   exact ⟨rfl,rfl,items.toList,items2.toList,xs,ys,rfl,hi,hj,hf,AX,h⟩
end
def Ar (K:W.Frag):R2:=fun x y H Q=>∃ a b xs ys,x=.ref a/\y=.ref b/\SqT K H a xs/\SqT K H b ys/\lL xs ys/\Q (.bl (bv xs ys)) H
theorem jG (hu:X.A.units<cLine):OpR X (compareOp .Lt) (Ar X.K):=by
 intro pins s Z H x y v u Q I rx ry h
 obtain ⟨a,b,xs,ys,rfl,rfl,ha,hb,hf,q⟩:=h
 cases rx
 cases ry
 obtain ⟨its,r1,p1,_⟩:=I.tuple ha
 obtain ⟨its2,r2,p2,_⟩:=I.tuple hb
 obtain ⟨⟨cls,dd,data,sl⟩,ho,hc,n,hd⟩:=id p1
 obtain ⟨⟨cls2,dd2,data2,sl2⟩,ho2,hc2,n2,hd2⟩:=id p2
 simp only at hc hd hc2 hd2
 subst hc hd hc2 hd2
 exact Ec (op:=.Lt) ⟨_,ho,rfl⟩ ⟨_,ho2,rfl⟩ Ep Ed (D7 _ _) (iL a b _ _ n n2 dd dd2 sl sl2 xs ys r1 r2 hf)
  ⟨ho,ho2,show Value.bool (bv xs ys)≠Value.notImplemented/\EP X pins Z Q (.bool (bv xs ys)) s from ⟨(fun x=>nomatch x),.bl _,H,I,rfl,q⟩⟩ hu
def ip (A B:KeyOrd):KeyOrd where
 α:=A.α×B.α
 blt p q:=A.blt p.1 q.1 || (!A.blt q.1 p.1&&B.blt p.2 q.2)
 irrefl a:=by rw [A.irrefl,B.irrefl];rfl
 trans a b c h1 h2:=by
  rw [ED,By,Ej] at *
  rcases h1 with h1 | ⟨h1,k1⟩
  .rcases h2 with h2 | ⟨h2,k2⟩
   .exact .inl (A.trans _ _ _ h1 h2)
   .exact .inl (KeyOrd.klt_of_klt_of_kle (O:=A) h1 h2)
  .rcases h2 with h2 | ⟨h2,k2⟩
   .exact .inl (KeyOrd.klt_of_kle_of_klt (O:=A) h1 h2)
   .exact .inr ⟨CQ (O:=A) h1 h2,B.trans _ _ _ k1 k2⟩
 negTrans a b c h:=by
  rw [ED,By,Ej] at *
  rw [ED,By,Ej]
  rcases h with h | ⟨h,k⟩
  .cases e:A.blt a.1 b.1 with
   | true=>exact .inl (.inl rfl)
   | false =>
    cases e2:A.blt b.1 c.1 with
    | true=>exact .inr (.inl rfl)
    | false =>
     rcases A.negTrans _ b.1 _ h with z | z
     .rw [z] at e;cases e
     .rw [z] at e2;cases e2
  .cases e:A.blt a.1 b.1 with
   | true=>exact .inl (.inl rfl)
   | false =>
    cases e2:A.blt b.1 c.1 with
    | true=>exact .inr (.inl rfl)
    | false =>
     have e3:A.blt b.1 a.1=false:=CQ (O:=A) h e2
     have e4:A.blt c.1 b.1=false:=CQ (O:=A) e h
     rcases B.negTrans _ b.2 _ k with z | z
     .exact .inl (.inr ⟨e3,z⟩)
     .exact .inr (.inr ⟨e4,z⟩)
 total a b h1 h2:=by
  rw [Bool.or_eq_false_iff] at h1 h2
  obtain ⟨a1,b1⟩:=h1
  obtain ⟨a2,b2⟩:=h2
  rw [a2] at b1
  rw [a1] at b2
  exact Prod.ext (A.total _ _ a1 a2) (B.total _ _ (by simpa using b1) (by simpa using b2))
def ij:KeyOrd where
 α:=Int
 blt a b:=decide (a<b)
 irrefl a:=by simp
 trans a b c h1 h2:=by simp only [BR] at *;lia
 negTrans a b c h:=by simp only [BR] at *;lia
 total a b h1 h2:=by simp only [decide_eq_false_iff_not] at *;lia
def enOrd:KeyOrd:=ip ij (ip strKind.toKeyOrd ij)
def bP:List V->enOrd.α
 | [.int i,.str x,.int j]=>(i,x.cps.toList,j)
 | _=>((0:Int),([]:List Nat),(0:Int))
def dA (l:List V):Prop:=∃ i x j,l=[.int i,.str x,.int j]
theorem ca {a b:Str}(h:a.cps.toList=b.cps.toList):a=b:=by
 cases a with | mk c=>cases b with | mk d=>congr 1;exact Array.toList_inj.mp h
theorem dS {a b:List V}(ha:dA a)(hb:dA b):enOrd.blt (bP a) (bP b)=bv a b:=by
 obtain ⟨i,x,j,rfl⟩:=ha
 obtain ⟨i',x',j',rfl⟩:=hb
 show (decide (i<i') || (!decide (i'<i)&&(decide (x.cps.toList<x'.cps.toList) || (!decide (x'.cps.toList<x.cps.toList)&&decide (j<j')))))=_
 rw [aM]
 by_cases h1:i=i'
 .subst h1
  rw [Bf rfl,aM]
  simp only [Int.lt_irrefl,decide_false,Gf,Bool.not_false,D8]
  by_cases h2:x=x'
  .subst h2
   rw [Bf rfl,aM]
   have e:decide (x.cps.toList<x.cps.toList)=false:=by simpa using List.lt_irrefl x.cps.toList
   rw [e]
   simp only [Gf,Bool.not_false,D8]
   by_cases h3:j=j'
   .subst h3
    rw [Bf rfl]
    simp [bv]
   .rw [Bc (by intro z;cases z;exact h3 rfl)]
    rfl
  .rw [Bc (by intro z;cases z;exact h2 rfl)]
   show _=decide (x.cps.toList<x'.cps.toList)
   cases e:decide (x.cps.toList<x'.cps.toList) with
   | true=>rfl
   | false =>
    have n1:¬ x.cps.toList<x'.cps.toList:=EO e
    have l1:x'.cps.toList<x.cps.toList:=by
     rcases Classical.em (x'.cps.toList<x.cps.toList) with z | z
     .exact z
     .exact absurd (ca (List.le_antisymm (FZ.mp z) (FZ.mp n1))) h2
    rw [Bb l1];rfl
 rw [Bc (by intro z;cases z;exact h1 rfl)]
 show _=decide (i<i')
 by_cases h2:i<i'
 .rw [Bb h2];rfl
 have h3:i'<i:=by lia
 rw [Br h2,Bb h3];rfl
def eY:Value->V
 | .ref a=>.ref a
 | _=>.non
theorem yU {a b:List V}(ha:dA a)(hb:dA b):lL a b:=by
 obtain ⟨i,x,j,rfl⟩:=ha
 obtain ⟨i',x',j',rfl⟩:=hb
 exact ⟨trivial,trivial,trivial,trivial⟩
section
variable {X:Cx}
theorem xP {x z:V}(r:Vals [x,y,z] us):∃ u v w,us=[u,v,w]/\RelV x u/\RelV y v/\RelV z w:=by
 cases r with
 | cons r1 r2 =>
  cases r2 with
  | cons r3 r4 =>
   cases r4 with
   | cons r5 r6=>cases r6;exact ⟨_,_,_,rfl,r1,r3,r5⟩
end
def Cx.blk (X:Cx)(scope:Scope)(cl:List (Str×Addr))(C:Addr)(NB:List Str)(fp:List Addr)(s₀:Shared)(H₀:Hp):Cx :=
 { X with N:=NB,s₀:=s₀,H₀:=H₀,env:=compEnvC scope cl C X.env,outer:=X.stack,ex:=X.ex++fp,fn:=fun _=>false,pn:=[],xe:=fun _ _=>False }
structure Blk (X:Cx)(scope:Scope)(cl:List (Str×Addr))(x:Str)(NB:List Str)(cap:List Nat):Prop where
 clos:closureFor scope X.env=pure cl
 nocell:∀y∈scope.names,y.2≠.cell
 kind:scope.kind=.function
 names:∀y∈scope.names,y.2=.local->scope.names.lookup y.1=some .local
 cells:∀y c,cl.lookup y=some c->X.env.cells.lookup y=some c
 has:∀y,((relabel scope X.env).names.lookup y=some .cell∨(relabel scope X.env).names.lookup y=some .free)->∃ c,cl.lookup y=some c
 len:cap.length=NB.length
 /-- the slot j+1 of the block is the slot i of X,by a cell -/
 cap:∀(j i:Nat),cap[j]?=some i->∃ y,NB[j]?=some y/\X.N[i]?=some y/\Vis X.env.scope y/\(X.env.kindOf y=some .cell∨X.env.kindOf y=some .free)/\((relabel scope X.env).names.lookup y=some .cell∨(relabel scope X.env).names.lookup y=some .free)
 own:scope.names.lookup x=some .local
 nd:(x::NB).Nodup
def bw (cap:List Nat)(Z:St):St:=cap.map fun i=>Z[i]?.join
def CW (J:It)(tt:TT)(te:TE)(cap:List Nat)(Z:St)(H0:Hp)(D:Addr)(R:Hp->Prop):Prop:=∃ W:Nat->Nat->List V->Hp->Prop,(∃ m,W 0 m [] (upd H0 D (.lst [])))/\∀i m ys H,W i m ys H->H D=some (.lst ys) /\
  ((J.stop i H/\R H)∨(J.go i H/\∀x H',J.yld i H x H'->tt (some x::bw cap Z) H' fun b H3 =>
   if b=true then te (some x::bw cap Z) H3 fun v H4=>H4 D=some (.lst ys)/\ys.length<sizeLine/\∃ m',m'<m/\W (i+1) m' (ys++[v]) (upd H4 D (.lst (ys++[v])))
   else ∃ m',m'<m/\W (i+1) m' ys H3))
def uZ (wi:TI)(tt:TT)(te:TE)(cap:List Nat):TE:=fun Z H Q=>wi Z H fun J H1=>∀D,H1 D=none ->
 CW J tt te cap Z H1 D (fun H=>Q (.ref D) H)
def PTs (X:Cx)(ifs:List Expr)(t:TT):Prop :=
 ∀(pins:List (Addr×Obj)) (s:Shared) (Z:St) (H:Hp) (Q:Bool->Hp->Prop),Inv X pins Z H s->t Z H Q ->
  wpAny (model X.prog X.w) X.A (forIn ifs true fun c r=>if r=true then do let ok <-isTrue c X.env (eval c X.env);pure (ForInStep.yield ok) else pure (ForInStep.yield r)) (TP X pins Z Q) X.xe s
def yh:TT:=fun _ H Q=>Q true H
theorem cY {τ:St}{A B:Hp->Prop}(h:A H):yh τ H fun b H3=>if b=true then A H3 else B H3:=by show if true=true then A H else B H;rw [Bf rfl];exact h
theorem fK {R:Result->Shared->Prop}{target:Expr}{it acc:Value}(I:Nat->Shared->Prop)(turn:∀n s,I n s->wpAny (model prog w) A (pyNext it) (fun r s₁=>match r with
   | none=>R (.ok .next) s₁
   | some v=>wpAny (model prog w) A (letOwnedTupleGo target it v) (fun _ s1'=>wpAny (model prog w) A (assign target env v) (fun _ s₂ =>
     wpAny (model prog w) A (forIn ifs true fun c r=>if r=true then do let ok <-isTrue c env (eval c env);pure (ForInStep.yield ok) else pure (ForInStep.yield r)) (fun ok s₃ =>
      if ok=true then wpAny (model prog w) A (eval elt env) (fun x s₄ =>
       wpAny (model prog w) A (call (.builtin "list.append") [acc,x]) (fun _ s₅=>∃ m,m<n/\I m s₅) (fun _ _=>False) s₄) (fun _ _=>False) s₃
      else ∃ m,m<n/\I m s₃) (fun _ _=>False) s₂) (fun _ _=>False) s1') (fun _ _=>False) s₁) (fun _ _=>False) s)(n:Nat)(h:I n s):codeAny (model prog w) A (.compLoop (.ListComp elt [⟨target,iter,ifs,0⟩] scope pos) 0 it acc env) R s:=by
 refine codeAny_loop rfl I (fun n s hI=>?_) n h
 show wpAny _ A ((compTurn (.ListComp elt [⟨target,iter,ifs,0⟩] scope pos) 0 it acc env).onRaise (fun x=>do noteFrame x env;theTreesLotGoes x)) _ _ s
 refine wpAny_noted ?_
 rw [compTurn_list]
 refine Be (wpAny_standAt (Be (B0 (turn n s hI) (fun r s₁ h₁=>?_) fun _ _ z=>z.elim)))
 cases r with
 | none=>exact Bv h₁
 | some v =>
  refine Be (B0 h₁ (fun _ s1' h₁'=>?_) fun _ _ z=>z.elim)
  refine Be (B0 h₁' (fun _ s₂ h₂=>Be (B0 h₂ (fun ok s₃ h₃=>?_) fun _ _ z=>z.elim)) fun _ _ z=>z.elim)
  cases ok with
  | false=>exact Bv ⟨rfl,h₃⟩
  | true =>
   exact Be (Be (B0 h₃ (fun x s₄ h₄=>Be (B0 h₄ (fun _ s₅ h₅=>Bv (Bv ⟨rfl,h₅⟩)) fun _ _ z=>z.elim)) fun _ _ z=>z.elim))
structure zS (X:Cx)(pins:List (Addr×Obj))(H:Hp)(C:Addr)(s:Shared):Prop where
 ns:∃ m,s.heap.Ns C m
 fp:jV X pins H C
theorem jb {cl:List (Str×Addr)}{Q:VK}{R:Value->Shared->Prop}(B:Blk X scope cl x NB cap)(hc:X.calm=true)(hex:X.ex=[])(hi:PI X (.Name x px) iter wi)(ht:∀C fp s₀ H₀,PTs (X.blk scope cl C (x::NB) fp s₀ H₀) ifs tt)(he:∀C fp s₀ H₀,PE (X.blk scope cl C (x::NB) fp s₀ H₀) elt te)(hs:∀v,foldedSetIterable iter X.env v=pure v)(I:Inv X pins Z H s)(h:uZ wi tt te cap Z H Q)(fin:∀(D C:Addr) (H':Hp) (s':Shared),Inv X pins Z H' s'->zS X pins H' C s'->Q (.ref D) H'->compPost (model X.prog X.w) X.A X.xe use R (.ref D) C (.ok .next) s'):
  wpAny (model X.prog X.w) X.A (comprehension (.ListComp elt [⟨.Name x px,iter,ifs,0⟩] scope pos) scope X.env pos' (newList []) false (eval iter X.env) use) R X.xe s:=by
 refine wpAny_comprehension_free (use:=use) rfl hs B.clos B.kind B.names (thn (hi pins s Z H _ I h) fun v s1 h1=>thn h1 fun itv s2 h2=>?_)
 obtain ⟨it,fp,tn,J,H2,e,I2,T,st2,f2,h2⟩:=h2
 subst e
 refine Cv (wpAny_newFunctionEnv B.nocell (by intro y hy;simp at hy) (fun h₁ hns1 hsb1=>?_) B.kind)
 dsimp only at hns1 hsb1 ⊢
 have I3:=I2.lnew (ys:=[]) (its:=[]) (t':=s2.toks) .nil (BK _)
 have hD:=I2.fresh
 obtain ⟨W,⟨m0,w0⟩,turn⟩:=h2 _ hD
 generalize eD:s2.heap.objs.size=D at hD I3 W w0 turn ⊢
 generalize eH2:s2.heap.push { cls:=.type "list",dict:=none,data:=.seq ([]:List Value).toArray }=G3 at hns1 hsb1 I3 ⊢
 generalize eH3:upd H2 D (.lst [])=H3 at I3 w0
 have hC:G3.objs.size=D+1:=by rw [<-eH2,EW,eD]
 generalize eC:G3.objs.size=C at hns1 hsb1 hC ⊢
 have old:∀b o,G3.get? b=some o->h₁.get? b=some o:=fun b o e =>
  hsb1.extBut b o (by rw [<-eC];exact BE (Bp e)) (Bg _ e)
 have old2:∀b o,s2.heap.get? b=some o->G3.get? b=some o:=fun b o e=>by rw [<-eH2];exact Bg _ e
 have fpo:∀b∈fp,b<D:=fun b hb=>by
  obtain ⟨o,e,_⟩:=T.obj 0 _ st2 b hb
  rw [<-eD];exact Bp e
 have fpx:∀b∈fp,b∉frs X.stack:=fun b hb z=>by
  obtain ⟨f0,f1,f2',_⟩:=f2 b hb
  rcases ax.mp (I2.stkSub b z) with q | q
  .exact f1 q
  .exact f2' q
 let Y:Cx:=X.blk scope cl C (x::NB) fp { s2 with heap:=G3,toks:=s2.toks } H3
 have okY:Y.Ok:=by
  refine ⟨I3.ok.mod,B.kind,I3.ok.glob,I3.ok.blt,?_,?_,B.has,?_,I3.ok.hd,I3.ok.frames,.inl rfl,?_,I3.bs,?_,?_,?_,I3.stack,I3.stkFree⟩
  .show G3.objs.size<=C
   lia
  .intro y z c e1 e2
   exact I3.ok.inj y z c (B.cells y c e1) (B.cells z c e2)
  .intro y c z
   cases z
  .intro b hb
   have hb':b∈fp:=by
    have:b∈X.ex++fp:=hb
    rw [hex] at this;simpa using this
   refine ⟨?_,fun y c e=>(f2 b hb').2.2.2.2.1 y c (B.cells y c e)⟩
   show b≠C
   exact BE (Bw (fpo b hb') (by rw [hC];exact Ci _))
  .show X.base.objs.size<=G3.objs.size
   exact A0 I3.ok.bsz I3.sz
  .intro b o e hb
   have hb':b∈fp:=by
    have:b∈X.ex++fp:=hb
    rw [hex] at this;simpa using this
   rcases (f2 b hb').2.2.2.1 with z | z
   .rw [hex] at z;cases z
   .exact absurd (Bw (Bw (Bp e) I3.ok.bsz) z) (CI _)
  .intro b hb
   have hb':b∈fp:=by
    have:b∈X.ex++fp:=hb
    rw [hex] at this;simpa using this
   exact fpx b hb'
 have IY:Inv Y [] (none::bw cap Z) H3 { s2 with heap:=h₁,toks:=s2.toks }:=by
  refine ⟨okY,rfl,I3.bare,Un.kept old,⟨_,hns1,?_⟩,?_,?_,?_,?_,I3.hok.kept old,?_⟩
  .intro j y v e1 e2 hv
   cases j with
   | zero=>cases e2
   | succ j =>
    have e1':NB[j]?=some y:=e1
    have e2':(bw cap Z)[j]?=some (some v):=e2
    unfold bw at e2'
    rw [BH] at e2'
    cases ec:cap[j]? with
    | none=>rw [ec] at e2';cases e2'
    | some i =>
     rw [ec] at e2'
     have e3:Z[i]?.join=some v:=BI e2'
     have e4:Z[i]?=some (some v):=by
      cases q:Z[i]? with
      | none=>rw [q] at e3;cases e3
      | some z=>rw [q] at e3;exact congrArg some e3
     obtain ⟨y',n1,n2,n3,n4,n5⟩:=B.cap j i ec
     rw [e1'] at n1
     cases n1
     obtain ⟨m,hn,hl⟩:=I3.loc
     obtain ⟨u,r,lk⟩:=hl i y v n2 e4 n3
     refine ⟨u,r,.inr ⟨n5,?_⟩⟩
     obtain ⟨c,hcl⟩:=B.has y n5
     refine ⟨c,hcl,?_⟩
     rcases lk with ⟨k1,_⟩ | ⟨_,c',ec',cell⟩
     .rcases n4 with n4 | n4 <;> (rw [n4] at k1;cases k1)
     .rw [B.cells y c hcl] at ec'
      cases ec'
      obtain ⟨o,ho,hd⟩:=cell
      exact ⟨o,old c o ho,hd⟩
  .intro y c e
   obtain ⟨v,o,ho,hd⟩:=I3.cell y c (B.cells y c e)
   exact ⟨v,o,old c o ho,hd⟩
  .exact I3.hok.fresh (show G3.objs.size<=C by lia)
  .intro y c e
   exact I3.freeC y c (B.cells y c e)
  .intro p hp
   cases hp
  .show (none::bw cap Z).length=(x::NB).length
   rw [Bj,Bj,<-B.len]
   unfold bw
   rw [Bh]
 have fpY:∀{H':Hp},(∀b∈fp,H' b=none)->∀b∈fp,jV Y [] H' b:=fun {H'} hn b hb=>by
  refine ⟨hn b hb,?_,fpx b hb,.inl ?_,fun y c e=>(f2 b hb).2.2.2.2.1 y c (B.cells y c e),fun p hp=>by cases hp⟩
  .show b≠C
   exact BE (Bw (fpo b hb) (by rw [hC];exact Ci _))
  .show b∈X.ex++fp
   exact Bq _ hb
 have st4:tn 0 h₁:=T.keep _ _ _ st2 fun b hb o e=>old b o (old2 b o e)
 have fr4:∀b∈fp,H3 b=none:=fun b hb=>by
  rw [<-eH3,ai (BE (fpo b hb))];exact (f2 b hb).1
 have leave:∀(H':Hp) (s':Shared),Inv Y [] (none::bw cap Z) H' s'->Q (.ref D) H'->compPost (model X.prog X.w) X.A X.xe use R (.ref D) C (.ok .next) s':=by
  intro H' s' I' q
  obtain ⟨m,hn,_⟩:=id I'.loc
  have u:=I'.base
  have I5:Inv X pins Z H' s':=by
   refine I3.call' (s':=s') (ch:=X.ex++fp) I'.os u I'.hok I'.bare fun b hb=>?_
   have hb':b∈fp:=by rw [hex] at hb;simpa using hb
   obtain ⟨f0,f1,f2',f3,f4,f5⟩:=f2 b hb'
   exact ⟨f3,f1,f4,f5⟩
  exact fin D C H' s' I5 ⟨⟨m,hn⟩,I3.fpOk (show G3.objs.size<=C by rw [eC];exact A9 _) I'.free⟩ q
 have loop:∀s₄:Shared,s₄={ s2 with heap:=h₁,toks:=s2.toks } ->
   codeAny (model X.prog X.w) X.A (.compLoop (.ListComp elt [⟨.Name x px,iter,ifs,0⟩] scope pos) 0 (.ref it) (.ref D) (compEnvC scope cl C X.env)) (compPost (model X.prog X.w) X.A X.xe use R (.ref D) C) s₄:=by
  rintro s₄ rfl
  refine fK (fun n s'=>∃ i ys H',Inv Y [] (none::bw cap Z) H' s'/\tn i s'.heap/\(∀b∈fp,H' b=none)/\W i n ys H') ?_ m0 ⟨0,[],H3,IY,st4,fr4,w0⟩
  rintro n s3 ⟨i,ys,H',I',st',fr',w'⟩
  obtain ⟨hDl,tr⟩:=turn i n ys H' w'
  rcases tr with ⟨stop,q⟩ | ⟨go,step⟩
  .refine thn (T.done Y rfl rfl rfl hc i [] s3 _ H' (fun _ _=>False) I' (fpY fr') st' stop) fun r s4 ⟨hr,I4⟩=>?_
   subst hr
   exact leave H' s4 I4 q
  .refine thn (T.item Y rfl rfl rfl hc i [] s3 _ H' (fun _ _=>False) I' (fpY fr') st' go) fun r s4 zz=>?_
   obtain ⟨u,hr,h4⟩:=zz
   subst hr
   refine thn h4 fun _ s5 zz=>?_
   obtain ⟨v,H5,I5,r5,y5,st5,fr5⟩:=zz
   have I5':=I5.pinned (fpY fr5) (T.obj _ _ st5)
   have back:∀{σ7:St} {H7:Hp} {s7:Shared},Inv Y ([]++gg fp s5.heap) (some v::bw cap Z) H7 s7->Inv Y [] (none::bw cap Z) H7 s7/\tn (i+1) s7.heap/\∀b∈fp,H7 b=none:=fun {σ7 H7 s7} I7=>by
    refine ⟨I7.unpinned.weak AY fun j z e=>?_,T.keep _ _ _ st5 fun b hb o e=>(I7.pin (b,o) (Bq _ (Bq _ (b8 hb e)))).1,fun b hb=>?_⟩
    .cases j with
     | zero=>cases e
     | succ j=>exact e
    .obtain ⟨o,e,d⟩:=T.obj _ _ st5 b hb
     exact (I7.pin (b,o) (Bq _ (Bq _ (b8 hb e)))).2.1
   have hgN:PG Y (.Name x px) (dE 0):=gH (i:=0) B.nd rfl (.inl (CH B.own)) (.inr (CH B.own))
   refine thn (hgN _ s5 _ H5 v u (fun σ6 H6=>σ6=some v::bw cap Z/\H6=H5) I5' r5 ⟨rfl,rfl⟩) fun _ s6 zz=>?_
   obtain ⟨σ6,H6,I6,e6,e6'⟩:=zz
   subst e6 e6'
   refine thn (ht C fp _ _ _ s6 _ H6 _ I6 (step v H6 y5)) fun ok s7 zz=>?_
   obtain ⟨H7,I7,q7⟩:=zz
   cases ok with
   | false =>
    simp only [BX,DE] at q7 ⊢
    obtain ⟨m',hm,w7⟩:=q7
    obtain ⟨a,b,c⟩:=back (σ7:=[]) I7
    exact ⟨m',hm,i+1,ys,H7,a,b,c,w7⟩
   | true =>
    simp only [Et] at q7 ⊢
    refine thn (he C fp _ _ _ s7 _ H7 _ I7 q7) fun u8 s8 zz=>?_
    obtain ⟨v8,H8,I8,r8,q8⟩:=zz
    obtain ⟨d8,l8,m',hm,w8⟩:=q8
    refine thn (cy (X:=Y) _ s8 _ H8 (.ref D) [v8] (.ref D) [u8] (fun _ H9=>H9=upd H8 D (.lst (ys++[v8]))) I8 rfl (.cons r8 .nil) ⟨D,ys,v8,rfl,rfl,d8,l8,rfl⟩) fun _ s9 zz=>?_
    obtain ⟨_,H9,I9,_,e9⟩:=zz
    subst e9
    obtain ⟨a,b,c⟩:=back (σ7:=[]) I9
    exact ⟨m',hm,i+1,ys++[v8],_,a,b,c,w8⟩
 refine codeAny_compStart_list (loop _ ?_) (T.self _ 0 _ _ _ ?_ (loop _ ?_))
 .rfl
 .exact st4
 rfl
section
variable {X:Cx}
theorem v9 (hu:X.A.units<cLine):OpR X (compareOp .NotEq) (fun x y H Q=>∃ a b xs,x=.ref a/\y=.ref b/\SqL X.K H a xs/\SqL X.K H b []/\Q (.bl (!decide (xs=[]))) H):=by
 intro pins s Z H x y v u Q I rx ry h
 obtain ⟨a,b,xs,rfl,rfl,ha,hb,q⟩:=h
 cases rx
 cases ry
 obtain ⟨its,r1,p1,_⟩:=I.list ha
 obtain ⟨its2,r2,p2,_⟩:=I.list hb
 cases r2
 cases xs with
 | nil =>
  cases r1
  exact SeqAt.RcNeAt.lists (e:=fun _=>true) p1.isList p2.isList rfl hu (fun j h1 _=>absurd h1 AY) _ _ _ _ ⟨.bl false,H,I,rfl,by simpa using q⟩
 | cons z zs =>
  cases r1 with
  | cons _ _=>exact SeqAt.RcNeAt.lists_lengths p1.isList p2.isList AY hu _ _ _ _ ⟨.bl true,H,I,rfl,by simpa using q⟩
theorem tP:cf X (.builtin "isinstance") (fun zs H Q=>∃ x T t b,zs=[x,.ty T]/\fU X.K H x t/\W.kitOne X.K t (.type T)=some b/\Q (.bl b) H):=by
 intro pins s Z H zs us Q I r h
 obtain ⟨x,T,t,b,rfl,ty,e,q⟩:=h
 obtain ⟨u,w',rfl,ru,rw'⟩:=vF r
 cases rw'
 exact rZ I ru ty e fun tk=>⟨.bl b,H,I.tok _,rfl,q⟩
end
def zY (_ j:Int):Prop:=0<j/\j<2 ^ 200
theorem bc:OpR X (binaryOp .FloorDiv) (rI zY fun i j=>.int (i / j)):=opI fun i j _ _ _ _ _ hc q=>by
 have h1:(0:Int)<j:=hc.1
 have h2:j<2 ^ 200:=hc.2
 rw [<-Int.fdiv_eq_ediv_of_nonneg i AX] at q
 refine floordiv_int AX q (.inl (PyProof.noPylong_of_log2 ?_))
 have h3:j.natAbs<2 ^ 200:=by lia
 have h4:j.natAbs.log2<200:=(Ga AX).mpr h3
 lia
structure Bl (mg:Str->Option Value):Prop where
 z_len:mg "len"=none
 z_sum:mg "sum"=none
 z_abs:mg "abs"=none
 z_range:mg "range"=none
 z_list:mg "list"=none
 z_tuple:mg "tuple"=none
 z_int:mg "int"=none
 z_bool:mg "bool"=none
 z_sorted:mg "sorted"=none
 z_isinstance:mg "isinstance"=none
structure Nm (K:W.Frag)(mg:Str->Option Value)(x:Str)(a:Addr)(fd:FuncData)(ps:List Str):Prop where
 m:mg x=some (.ref a)
 k:W.keepIn K (.ref a)=true
 b:Binds K fd ps []
theorem uw {cs:List Int}{i:Int}(h0:0<=i)(h1:i<cs.length):atI (cs.map V.int) i=some (.int (cs.getD i.toNat 0)):=by
 have h2:i.toNat<cs.length:=by lia
 have e:(cs.map V.int)[i.toNat]?=some (.int (cs.getD i.toNat 0)):=by
  rw [BH,bt h2]
  simp [List.getD,bt h2]
 have:=aL e
 rwa [Int.toNat_of_nonneg h0] at this
theorem cO {i:Int}(h0:0<=i)(h1:i<n):ixN n i=some i.toNat:=by
 unfold ixN
 rw [Bf h0,Bf h1]
theorem bh {a b:Int}(h:0<b):0<=a % b:=Int.emod_nonneg _ AX
theorem be {a b:Int}(h:0<b):a % b<b:=Int.emod_lt_of_pos _ h
def br (names:List (Str×NameKind)):List Str:=(names.filter fun y=>y.2 == .free).map (·.1)
def vD (scope:Scope)(env:Env):List (Str×Addr):=(br scope.names).reverse.map fun n=>(n,(env.cells.lookup n).getD 0)
theorem eQ {g:Str->Addr}{y:Str}{c:Addr}:∀{l:List Str},(l.map fun n=>(n,g n)).lookup y=some c->y∈l/\c=g y
 | [],h=>by cases h
 | a::l,h=>by
  rw [BA,Cb] at h
  cases e:y == a with
  | true =>
   rw [e] at h
   have e':y=a:=by simpa using e
   subst e'
   exact ⟨BD,(BI h).symm⟩
  | false =>
   rw [e] at h
   obtain ⟨m,q⟩:=eQ h
   exact ⟨Bk _ m,q⟩
theorem cJ {g:Str->Addr}{y:Str}:∀{l:List Str},y∈l->(l.map fun n=>(n,g n)).lookup y=some (g y)
 | [],h=>by cases h
 | a::l,h=>by
  rw [BA,Cb]
  cases e:y == a with
  | true =>
   have e':y=a:=by simpa using e
   subst e'
   rfl
  | false =>
   rcases ax.mp h with z | z
   .subst z;simp at e
   .exact cJ z
theorem eM (env:Env):∀(names:List (Str×NameKind)) (acc:List (Str×Addr)),(∀n∈br names,∃ c,env.cells.lookup n=some c) ->
  (forIn names acc fun y cs=>if (y.2 == NameKind.free)=true then (do let c <-cellOf env y.1;pure (ForInStep.yield ((y.1,c)::cs))) else pure (ForInStep.yield cs):Sem (List (Str×Addr))) =
   pure ((br names).reverse.map (fun n=>(n,(env.cells.lookup n).getD 0))++acc)
 | [],acc,_=>by rw [List.forIn_nil];rfl
 | (n,k)::r,acc,h=>by
  rw [List.forIn_cons]
  cases e:k == NameKind.free with
  | true =>
   have hn:br ((n,k)::r)=n::br r:=by unfold br;rw [List.filter_cons_of_pos (by simpa using e)];rfl
   rw [hn] at h ⊢
   obtain ⟨c,hc⟩:=h n BD
   simp only [e,Et]
   have h2:cellOf env n=pure c:=by unfold cellOf;rw [hc]
   rw [h2]
   have ih:=eM env r ((n,c)::acc) fun m hm=>h m (Bk _ hm)
   show (forIn r ((n,c)::acc) _:Sem (List (Str×Addr)))=_
   rw [ih,List.reverse_cons,BL,Cq]
   rw [BA,Dk,hc]
   rfl
  | false =>
   have hn:br ((n,k)::r)=br r:=by unfold br;rw [List.filter_cons_of_neg (by simpa using e)]
   rw [hn] at h ⊢
   simp only [e,BX,DE]
   exact eM env r acc h
theorem iT (scope:Scope)(env:Env)(h:∀n∈br scope.names,∃ c,env.cells.lookup n=some c):closureFor scope env=pure (vD scope env):=by
 have:=eM env scope.names [] h
 rw [Cg] at this
 simp only [closureFor]
 rw [this]
 rfl
theorem i7 {names:List (Str×NameKind)}{y:Str}(h:(y,NameKind.free)∈names):y∈br names:=by
 unfold br
 exact BF.mpr ⟨(y,.free),BJ.mpr ⟨h,by rfl⟩,rfl⟩
theorem kU {names:List (Str×NameKind)}{y:Str}(h:y∈br names):(y,NameKind.free)∈names:=by
 unfold br at h
 obtain ⟨⟨a,k⟩,hm,e⟩:=BF.mp h
 obtain ⟨h1,h2⟩:=BJ.mp hm
 cases e
 have:k=.free:=by simpa using h2
 rw [<-this];exact h1
theorem bI {env:Env}:∀{names:List (Str×NameKind)} {y:Str} {k:NameKind},
  (names.map fun (n,k)=>if (k == NameKind.free&&env.scope.kind == .function&&env.kindOf n == some .cell) then (n,NameKind.cell) else (n,k)).lookup y=some k->(k=.cell∨k=.free)->(∀z∈names,z.2≠.cell)->(y,NameKind.free)∈names
 | [],y,k,h,_,_=>by cases h
 | (n,k0)::r,y,k,h,hk,hn=>by
  rw [BA] at h
  dsimp only at h
  by_cases hc:(k0 == NameKind.free&&env.scope.kind == .function&&env.kindOf n == some .cell)=true
  .rw [Bf hc,Cb] at h
   have hf:k0=.free:=by
    rw [By,By] at hc
    simpa using hc.1.1
   cases e:y == n with
   | true =>
    have e':y=n:=by simpa using e
    subst e';subst hf
    exact BD
   | false =>
    rw [e] at h
    exact Bk _ (bI h hk fun z hz=>hn z (Bk _ hz))
  .rw [Bc hc,Cb] at h
   cases e:y == n with
   | true =>
    have e':y=n:=by simpa using e
    subst e'
    rw [e] at h
    have e2:k0=k:=BI h
    have:=hn (y,k0) BD
    rcases hk with z | z
    .rw [z] at e2;exact absurd e2 this
    .rw [z] at e2;rw [e2];exact BD
   | false =>
    rw [e] at h
    exact Bk _ (bI h hk fun z hz=>hn z (Bk _ hz))
theorem cr {env:Env}:∀{names:List (Str×NameKind)} {y:Str},names.lookup y=some .free ->
  (names.map fun (n,k)=>if (k == NameKind.free&&env.scope.kind == .function&&env.kindOf n == some .cell) then (n,NameKind.cell) else (n,k)).lookup y=some .cell ∨
  (names.map fun (n,k)=>if (k == NameKind.free&&env.scope.kind == .function&&env.kindOf n == some .cell) then (n,NameKind.cell) else (n,k)).lookup y=some .free
 | [],y,h=>by cases h
 | (n,k0)::r,y,h=>by
  rw [Cb] at h
  rw [BA]
  dsimp only
  by_cases hc:(k0 == NameKind.free&&env.scope.kind == .function&&env.kindOf n == some .cell)=true
  .rw [Bf hc,Cb]
   cases e:y == n with
   | true=>exact .inl rfl
   | false=>rw [e] at h;exact cr h
  .rw [Bc hc,Cb]
   cases e:y == n with
   | true=>rw [e] at h;exact .inr h
   | false=>rw [e] at h;exact cr h
theorem Blk.of {esc:Scope}(eN:X.N=N)(eS:X.env.scope=esc)(hX:∀y,esc.names.lookup y=some .cell->∃ c,X.env.cells.lookup y=some c)(hk:scope.kind=.function)(h1:∀y∈scope.names,y.2≠.cell)(h2:∀y∈scope.names,y.2=.local->scope.names.lookup y.1=some .local)(h3:∀y∈scope.names,y.2=.free->esc.names.lookup y.1=some .cell)(hl:cap.length=NB.length)(h4:∀p∈NB.zip cap,N[p.2]?=some p.1/\esc.names.lookup p.1=some .cell/\scope.names.lookup p.1=some .free)(h5:scope.names.lookup x=some .local)(nd:(x::NB).Nodup):
  Blk X scope (vD scope X.env) x NB cap:=by
 have hfr:∀n∈br scope.names,∃ c,X.env.cells.lookup n=some c:=fun n hn=>hX n (h3 _ (kU hn) rfl)
 refine ⟨iT scope X.env hfr,h1,hk,h2,fun y c e=>?_,fun y e=>?_,hl,fun j i e=>?_,h5,nd⟩
 .unfold vD at e
  obtain ⟨m,q⟩:=eQ e
  obtain ⟨c',hc⟩:=hfr y (Eu.mp m)
  rw [hc] at q
  rw [hc,q];rfl
 .have hm:(y,NameKind.free)∈scope.names:=by
   rcases e with e | e
   .exact bI e (.inl rfl) h1
   .exact bI e (.inr rfl) h1
  exact ⟨_,cJ (Eu.mpr (i7 hm))⟩
 have hj:j<cap.length:=(Bu.mp e).1
 have hj2:j<NB.length:=by lia
 have ey:NB[j]?=some NB[j]:=bt hj2
 have ez:(NB.zip cap)[j]?=some (NB[j],i):=by rw [EX];exact ⟨ey,e⟩
 obtain ⟨a1,a2,a3⟩:=h4 _ (BC ez)
 refine ⟨NB[j],ey,by rw [eN];exact a1,.inr (.inl (by rw [eS];exact a2)),.inl (by show X.env.scope.names.lookup _=_;rw [eS];exact a2),?_⟩
 exact cr a3
theorem nG {lo:Int}{Q:VK}(Pv:Nat->List V->Hp->Prop)(h0:Pv 0 [] (upd H D (.lst [])))(hD:∀i ys H,Pv i ys H->H D=some (.lst ys))(hs:∀i ys H,i<n->Pv i ys H->tt (some (.int (lo+i))::bw cap Z) H fun b H3 =>
   if b=true then te (some (.int (lo+i))::bw cap Z) H3 fun v H4=>H4 D=some (.lst ys)/\ys.length<sizeLine/\∃ m',m'<n-i/\m'=n-(i+1)/\i+1<=n/\Pv (i+1) (ys++[v]) (upd H4 D (.lst (ys++[v])))
   else ∃ m',m'<n-i/\m'=n-(i+1)/\i+1<=n/\Pv (i+1) ys H3)(hd:∀ys H,Pv n ys H->Q (.ref D) H):
  CW (Itr lo n) tt te cap Z H D (fun H=>Q (.ref D) H):=by
 refine ⟨fun i m ys H=>m=n-i/\i<=n/\Pv i ys H,⟨n,AY,BK _,h0⟩,?_⟩
 rintro i m ys H ⟨rfl,hi,p⟩
 refine ⟨hD i ys H p,?_⟩
 by_cases hlt:i<n
 .refine .inr ⟨hlt,fun x H' y=>?_⟩
  obtain ⟨e,y⟩:=y
  subst e y
  exact hs i ys _ hlt p
 have e:i=n:=by lia
 subst e
 exact .inl ⟨A9 _,hd ys H p⟩
theorem tq (h:X.K=K):IxR X (An K):=by subst h;exact aK
def mV:Expr->Option V
 | .Constant (.int i) _ _=>some (.int i)
 | .Constant (.str x) _ _=>some (.str x)
 | _=>none
def cZ:List Expr->Option (List V)
 | []=>some []
 | e::es=>match mV e,cZ es with
  | some v,some vs=>some (v::vs)
  | _,_=>none
theorem gi {X:Cx}:∀{es:List Expr} {vs:List V},cZ es=some vs->PA X es (fun _ H Q=>Q vs H)
 | [],vs,h=>by
  cases h
  exact nZ
 | e::es,vs,h=>by
  unfold cZ at h
  cases e1:mV e with
  | none=>rw [e1] at h;cases h
  | some v =>
   cases e2:cZ es with
   | none=>rw [e1,e2] at h;cases h
   | some ws =>
    rw [e1,e2] at h
    cases h
    have ih:=gi (X:=X) e2
    have he:PE X e (tC v)/\starEach (e::es) X.env=(false,eval e X.env)::starEach es X.env:=by
     unfold mV at e1
     split at e1
     .cases e1;exact ⟨ug,rfl⟩
     .cases e1;exact ⟨nk,rfl⟩
     .cases e1
    exact kn he.1 ih he.2
end L2
namespace L2
open PySem
theorem aq (h:H p=none):Same H (upd H p o):=fun b u e=>by rw [ai (ak e h)];exact e
@[elab_as_elim] theorem gnew {R:Hp->Prop} {H:Hp} {a:Addr} {o:HO} (h:H a=none) (k:∀H1,Same H H1->H1 a=some o->R H1):R (upd H a o):=k _ (aq h) ad
theorem bV {c A:Prop}[Decidable c](k:B)(h:¬ c:=by decide +kernel):if c then A else B:=by rw [Bc h];exact k
theorem dJ {c A:Prop}[Decidable c](k:A)(h:c:=by decide +kernel):if c then A else B:=by rw [Bf h];exact k
theorem lX (s:Same H H')(h:H p=none):Same H (upd H' p o):=fun b u e=>by rw [ai (ak e h)];exact s b u e
end L2
namespace L2
open PySem PySem.Spec PyProof.Rows
@[irreducible] def QE (X:Cx) (e:Expr) (t:TE):Prop:=PE X e t
@[irreducible] def QT (X:Cx) (e:Expr) (t:TT):Prop:=PT X e t
@[irreducible] def QW (X:Cx) (e:Expr) (t:TT):Prop:=PW X e t
@[irreducible] def QA (X:Cx) (es:List Expr) (t:TA):Prop:=PA X es t
@[irreducible] def QS (X:Cx) (st:Stmt) (t:TS):Prop:=PS X st t
@[irreducible] def QSs (X:Cx) (st:List Stmt) (t:TS):Prop:=PSs X st t
@[irreducible] def QG (X:Cx) (e:Expr) (t:TG):Prop:=PG X e t
@[irreducible] def QGs (X:Cx) (e:List Expr) (t:TGs):Prop:=PGs X e t
@[irreducible] def QI (X:Cx) (tg iter:Expr) (wi:TI):Prop:=PI X tg iter wi
@[irreducible] def QTs (X:Cx) (ifs:List Expr) (t:TT):Prop:=PTs X ifs t
@[irreducible] def QO (X:Cx) (e:Option Expr) (t:TO):Prop:=PO X e t
section
variable {X:Cx}{e a b c:Expr}{es:List Expr}{t te ta tb tc:TE}{tt:TT}{pos:Pos}
theorem QE.mk {t:TE}(h:PE X e t):QE X e t:=by unfold QE;exact h
theorem QE.to {t:TE}(h:QE X e t):PE X e t:=by unfold QE at h;exact h
theorem QT.mk {t:TT}(h:PT X e t):QT X e t:=by unfold QT;exact h
theorem QT.to {t:TT}(h:QT X e t):PT X e t:=by unfold QT at h;exact h
theorem QW.mk {t:TT}(h:PW X e t):QW X e t:=by unfold QW;exact h
theorem QW.to {t:TT}(h:QW X e t):PW X e t:=by unfold QW at h;exact h
theorem QA.mk {t:TA}(h:PA X es t):QA X es t:=by unfold QA;exact h
theorem QA.to {t:TA}(h:QA X es t):PA X es t:=by unfold QA at h;exact h
theorem QS.mk {t:TS}(h:PS X st t):QS X st t:=by unfold QS;exact h
theorem QS.to {t:TS}(h:QS X st t):PS X st t:=by unfold QS at h;exact h
theorem QSs.mk {st:List Stmt}{t:TS}(h:PSs X st t):QSs X st t:=by unfold QSs;exact h
theorem QSs.to {st:List Stmt}{t:TS}(h:QSs X st t):PSs X st t:=by unfold QSs at h;exact h
theorem QG.mk {t:TG}(h:PG X e t):QG X e t:=by unfold QG;exact h
theorem QG.to {t:TG}(h:QG X e t):PG X e t:=by unfold QG at h;exact h
theorem QGs.mk {t:TGs}(h:PGs X es t):QGs X es t:=by unfold QGs;exact h
theorem QGs.to {t:TGs}(h:QGs X es t):PGs X es t:=by unfold QGs at h;exact h
theorem QI.mk (h:PI X tg e wi):QI X tg e wi:=by unfold QI;exact h
theorem QI.to (h:QI X tg e wi):PI X tg e wi:=by unfold QI at h;exact h
theorem QTs.mk {t:TT}(h:PTs X es t):QTs X es t:=by unfold QTs;exact h
theorem QTs.to {t:TT}(h:QTs X es t):PTs X es t:=by unfold QTs at h;exact h
theorem QO.mk {o:Option Expr}{t:TO}(h:PO X o t):QO X o t:=by unfold QO;exact h
theorem QO.to {o:Option Expr}{t:TO}(h:QO X o t):PO X o t:=by unfold QO at h;exact h
theorem qv (i:Nat)(hN:X.N[i]?=some x:=by rfl)(hv:Vis X.env.scope x:=by first | exact Or.inl rfl | exact Or.inr (Or.inl rfl) | exact Or.inr (Or.inr rfl))(hd:(x == ("__debug__":Str))=false:=by decide)(hcd:(x == ("__classdict__":Str))=false:=by decide):QE X (.Name x pos) (AL i):=.mk (by
 intro pins s Z H Q I h
 obtain ⟨v,e,h⟩:=h
 obtain ⟨m,hn,hl⟩:=I.loc
 obtain ⟨u,r,l⟩:=hl i x v hN e hv
 have fin:EP X pins Z Q u s:=⟨v,H,I,r,h⟩
 rcases l with ⟨hk,hm⟩ | ⟨hk,c,hc,hcell⟩
 .exact wpAny_Name (wpAny_loadName_local I.ok.kind hk hn hm fin) hd
 rcases hk with hk | hk
 .exact wpAny_Name (wpAny_loadName_cell I.ok.kind hk hc hcell fin) hd
 exact wpAny_Name (wpAny_loadName_free I.ok.kind hk hc hcell fin hcd) hd)
theorem af {i j}:QE X (.Constant (.int i) j pos) (tC (.int i)):=.mk ug
theorem gu {b j}:QE X (.Constant (.bool b) j pos) (tC (.bl b)):=.mk (fun _ _ _ H _ I h=>Constant_bool ⟨.bl b,H,I,rfl,h⟩)
theorem iA {j}:QE X (.Constant .none j pos) (tC .non):=.mk (fun _ _ _ H _ I h=>Constant_none ⟨.non,H,I,rfl,h⟩)
theorem ar {x j}:QE X (.Constant (.str x) j pos) (tC (.str x)):=.mk nk
theorem xl {v:V}(hg:Gl X x)(hm:X.mg x=none)(hv:bootBuiltins x=some u)(r:RelV v u)(hn:x≠"__name__":=by decide)(hd:(x == ("__debug__":Str))=false:=by decide):QE X (.Name x pos) (tC v):=.mk (fun _ _ _ H _ I h=>iC I hg hm hv ⟨v,H,I,r,h⟩ hn hd)
theorem ap {op:Operator}{r:R2}(ho:OpR X (binaryOp op) r)(ha:QE X a ta)(hb:QE X b tb):QE X (.BinOp a op b pos) (tOp r ta tb):=.mk (by
 have ha:=ha.to
 have hb:=hb.to
 intro pins s Z H Q I h
 exact wpAny_BinOp (zv ha hb I h fun v u s2 x y H2 I2 rx ry q=>ho pins s2 Z H2 x y v u Q I2 rx ry q))
theorem jd {op:UnaryOp}{r:V->Hp->VK->Prop}(ho:UnR X (unaryOp op) r)(ha:QE X a ta):QE X (.UnaryOp op a pos) (tUn r ta):=.mk (by
 have ha:=ha.to
 intro pins s Z H Q I h
 exact UnaryOp_ (thn (ha pins s Z H _ I h) fun v s1 ⟨x,H1,I1,r1,q1⟩=>ho pins s1 Z H1 x v Q I1 r1 q1))
theorem eA {op:CmpOp}{r:R2}(ho:OpR X (compareOp op) r)(ha:QE X a ta)(hb:QE X b tb)(hm:behindInMarks op b=false):QE X (.Compare a [op] [b] pos) (tOp r ta tb):=.mk (by
 have ha:=ha.to
 have hb:=hb.to
 intro pins s Z H Q I h
 exact wpAny_Compare1 (zv ha hb I h fun v u s2 x y H2 I2 rx ry q=>ho pins s2 Z H2 x y v u Q I2 rx ry q) hm)
theorem aD {r:R2}(hr:IxR X r)(ha:QE X a ta)(hb:QE X b tb)(hs:w6 b):QE X (.Subscript a b pos) (tOp r ta tb):=.mk (by
 have ha:=ha.to
 have hb:=hb.to
 intro pins s Z H Q I h
 exact Subscript_ (zv ha hb I h fun v u s2 x y H2 I2 rx ry q=>hr a b pins s2 Z H2 x y v u Q I2 rx ry q (hs _ _)))
theorem cT {r:V->Option Int->Option Int->Hp->VK->Prop}{lo hi:Option Expr}{tl th:TO}{p2:Pos}(hr:SlR X r)(he:QE X e te)(hl:QO X lo tl)(hu:QO X hi th):QE X (.Subscript e (.Slice lo hi none p2) pos) (tSl r te tl th):=.mk (by
 have he:=he.to
 have hl:=hl.to
 have hu:=hu.to
 intro pins s Z H Q I h
 refine Subscript_ (thn (he pins s Z H _ I h) fun v s1 zz=>?_)
 obtain ⟨x,H1,I1,r1,q1⟩:=zz
 refine wpAny_Slice (thn (hl pins s1 Z H1 _ I1 q1) fun vl s2 ⟨l,H2,I2,pl,q2⟩=>thn (hu pins s2 Z H2 _ I2 q2) fun vu s3 zz=>?_)
 obtain ⟨u,H3,I3,pu,q3⟩:=zz
 rw [evalPart_none]
 refine Bv ?_
 have I4:Inv X pins Z H3 { s3 with heap:=s3.heap.push { cls:=.type "slice",data:=.fields #[vl,vu,.none] } }:=I3.kept (t':=s3.toks) fun b ob q=>Bg _ q
 obtain ⟨T,id,hT,ht,hg⟩:=hr pins { s3 with heap:=s3.heap.push { cls:=.type "slice",data:=.fields #[vl,vu,.none] } } Z H3 x v vl vu l u s3.heap.objs.size Q I4 r1 (Heap.IsSliceOf.new ..) pl pu q3
 show wpAny (model X.prog X.w) X.A (subscriptTail e (.Slice lo hi none p2) v (.ref s3.heap.objs.size)) (EP X pins Z Q) X.xe { s3 with heap:=s3.heap.push { cls:=.type "slice",data:=.fields #[vl,vu,.none] } }
 exact tail_any (ops:=[.ref s3.heap.objs.size,v]) ht hT hg (by with_unfolding_all rfl))
theorem eu:QO X none wx:=.mk (by
 intro pins s Z H Q I h
 rw [evalPart_none]
 exact Bv ⟨none,H,I,.none,h⟩)
theorem dY (h:QE X e te):QO X (some e) (Af te):=.mk (by
 have h:=h.to
 intro pins s Z H Q I hw
 rw [evalPart_some]
 refine thn (h pins s Z H _ I hw) fun u s1 zz=>?_
 obtain ⟨x,H1,I1,r1,q1⟩:=zz
 obtain ⟨i,rfl,q⟩:=q1
 obtain ⟨t,rfl⟩:=r1
 exact ⟨some i,H1,I1,.int i t,q⟩)
theorem bn {t:TA}(h:QA X es t):QE X (.List es pos) (AU t):=.mk (by
 have h:=h.to
 intro pins s Z H Q I hq
 refine wpAny_List_spliced (thn (h pos pins s Z H _ I hq) fun us s1 ⟨xs,H1,I1,r,z,q⟩=>⟨by rw [<-r.length];exact z,?_⟩)
 have hf:H1 s1.heap.objs.size=none:=I1.hok.fresh (A9 _)
 refine ⟨.ref s1.heap.objs.size,upd H1 s1.heap.objs.size (.lst xs),I1.laid (t':=s1.toks) (fun b u e=>Bg _ e) (A9 _) ?_,rfl,q _ hf⟩
 exact ⟨z,us,0,r,BB _ rfl⟩)
theorem bq {t:TA}{x1}(h:QA X es t):QE X (.Tuple es x1 pos) (yA t):=.mk (uy h.to)
theorem ag:QA X [] nP:=.mk nZ
theorem aa {t:TA}(ha:QE X e te)(hr:QA X es t)(hs:starEach (e::es) X.env=(false,eval e X.env)::starEach es X.env:=by rfl):QA X (e::es) (xS te t):=.mk (kn ha.to hr.to hs)
theorem gq {vs:List V}(h:cZ es=some vs):QA X es (fun _ H Q=>Q vs H):=.mk (gi h)
theorem sM {id:String}{p:Pos}{t:TA}(hc:cf X (.builtin id) r)(hg:Gl X x)(hm:X.mg x=none)(hv:bootBuiltins x=some (.builtin id))(ha:QA X (e::es) t)(hn:x≠"__name__":=by decide)(hdb:(x == ("__debug__":Str))=false:=by decide)(he:starEach (e::es) X.env=(false,eval e X.env)::starEach es X.env:=by rfl)(hpl:(backTo pos (starEach es X.env)).any (·.1)=false:=by rfl):QE X (.Call (.Name x p) (e::es) [] pos) (tCB r t):=.mk (by
 have ha:=ha.to
 intro pins s Z H Q I h
 refine DH (iC I hg hm hv ?_ hn hdb)
 exact PyProof.Rows.callWith_builtin1 (thn (ha pos pins s Z H _ I h) fun us s1 ⟨vs,H1,I1,r1,q1⟩=>hc pins s1 Z H1 vs us Q I1 r1 q1) he hpl)
theorem qK {T:String}{p:Pos}{t:TA}(hc:cf X (.type T) r)(hg:Gl X x)(hm:X.mg x=none)(hv:bootBuiltins x=some (.type T))(ha:QA X (e::es) t)(hn:x≠"__name__":=by decide)(hdb:(x == ("__debug__":Str))=false:=by decide)(he:starEach (e::es) X.env=(false,eval e X.env)::starEach es X.env:=by rfl)(hpl:(backTo pos (starEach es X.env)).any (·.1)=false:=by rfl):QE X (.Call (.Name x p) (e::es) [] pos) (tCB r t):=.mk (by
 have ha:=ha.to
 intro pins s Z H Q I h
 refine DH (iC I hg hm hv ?_ hn hdb)
 exact DL (thn (ha pos pins s Z H _ I h) fun us s1 ⟨vs,H1,I1,r1,q1⟩=>hc pins s1 Z H1 vs us Q I1 r1 q1) he hpl)
theorem xO {CX:CXT}{k:Nat}{dvs:List V}{ds:List Value}{E:XK}{p:Pos}{t:TA}(F:av X.prog X.w X.K X.mg X.base CX k f fd ps sp)(hr:Room k X.A)(hg:Gl X x)(hm:X.mg x=some (.ref f))(hk:W.keepIn X.K (.ref f)=true)(hb:Binds X.K fd ps ds)(hd:Vals dvs ds)(hx:cj CX X E)(ha:QA X (e::es) t)(hdb:(x == ("__debug__":Str))=false:=by decide)(he:starEach (e::es) X.env=(false,eval e X.env)::starEach es X.env:=by rfl)(hpl:(backTo pos (starEach es X.env)).any (·.1)=false:=by rfl):
  QE X (.Call (.Name x p) (e::es) [] pos) (tf sp dvs E t):=.mk (by
 have ha:=ha.to
 intro pins s Z H Q I h
 refine DH (dh I hg hm ?_ hdb)
 refine FC (h₀:=X.base) I.ok.mod.kin hk (thn (ha pos pins s Z H _ I h) fun us s1 ⟨vs,H1,I1,r,q⟩=>⟨I1.kIn,?_⟩) he hpl
 exact jI F hr hb hd hx I1 r q)
theorem jm {o:Expr}{to:TE}{t:TA}{name:Str}{T id:String}{r:V->List V->Hp->VK->Prop}(pa:PlainAttrs T)(slot:Slot T name id)(hty:typeOf (.builtin id)=pure (.type "method_descriptor"))(hm:MtR X id r)(ho:QE X o to)(ha:QA X (e::es) t)(hbase:attributeBase o name X.env (eval o X.env)=eval o X.env:=by rfl)(hfew:((backTo cpos (starEach (e::es) X.env)).all (fun x=>!x.1)&&(backToKw cpos (keywordEach [] X.env)).all (fun x=>x.1.isSome)
   && decide ((e::es).length+([]:List Keyword).length+(if ([]:List Keyword).isEmpty then 0 else 1)<30))=true:=by rfl)(hline:(apos.endLine == cpos.line)=true:=by rfl)(hs:starEach (e::es) X.env=(false,eval e X.env)::starEach es X.env:=by rfl)(hplain:(backTo cpos (starEach es X.env)).any (·.1)=false:=by rfl):
  QE X (.Call (.Attribute o name apos) (e::es) [] cpos) (tBM X.K T r to t):=.mk (by
 have ho:=ho.to
 have ha:=ha.to
 intro pins s Z H Q I h
 refine wpAny_Call_method_late hbase hfew hline rfl (thn (ho pins s Z H _ I h) fun v s1 zz=>?_)
 obtain ⟨x,H1,I1,r1,ty,q1⟩:=zz
 obtain ⟨h1,h2⟩:=ul I1 r1 ty
 refine ⟨T,id,pa,slot,hty,h1,h2,?_⟩
 have hA:=ha cpos pins s1 Z H1 _ I1 q1
 rw [hs] at hA ⊢
 refine CP (by show (false || (backTo cpos (starEach es X.env)).any (·.1))=false;rw [hplain] <;> rfl) (C0 ?_)
 exact thn hA fun us s2 ⟨vs,H2,I2,r2,q2⟩=>hm pins s2 Z H2 x vs v us Q I2 r1 r2 q2)
theorem dU {cl:List (Str×Addr)}(B:Blk X scope cl x NB cap)(hc:X.calm=true)(hex:X.ex=[])(hi:QI X (.Name x px) iter wi)(ht:∀C fp s₀ H₀,QTs (X.blk scope cl C (x::NB) fp s₀ H₀) ifs tt)(he:∀C fp s₀ H₀,QE (X.blk scope cl C (x::NB) fp s₀ H₀) elt te)(hs:∀v,foldedSetIterable iter X.env v=pure v:=by intro _;rfl):QE X (.ListComp elt [⟨.Name x px,iter,ifs,0⟩] scope pos) (uZ wi tt te cap):=.mk (by
 have hi:=hi.to
 have ht:=(fun C fp s₀ H₀=>(ht C fp s₀ H₀).to)
 have he:=(fun C fp s₀ H₀=>(he C fp s₀ H₀).to)
 intro pins s Z H Q I h
 rw [eval_ListComp]
 refine jb (use:=none) (R:=EP X pins Z Q) B hc hex hi ht he hs I h fun D C H' s' I' G q=>?_
 obtain ⟨m,hn⟩:=G.ns
 obtain ⟨f0,f1,f2,f3,f4,f5⟩:=G.fp
 refine ⟨m,hn,fun h' hs'=>⟨.ref D,H',?_,rfl,q⟩⟩
 exact I'.turned (t':=s'.toks) (fun b o hb e=>(hs'.2 b hb).trans e) f0 f1 f3 f4 f5)
theorem aw {op:CmpOp}{r:R2}(ho:OpR X (compareOp op) r)(ha:QE X a ta)(hb:QE X b tb)(hm:behindInMarks op b=false):QT X (.Compare a [op] [b] pos) (zP (tOp r ta tb)):=.mk (by
 have ha:=ha.to
 have hb:=hb.to
 intro pins s Z H Q I h
 refine wpAny_isTrue_Compare1 (thn (ha pins s Z H _ I h) fun v s1 ⟨x,H1,I1,r1,q1⟩=>thn (hb pins s1 Z H1 _ I1 q1) fun u s2 ⟨y,H2,I2,r2,q2⟩ =>
  thn (ho pins s2 Z H2 x y v u _ I2 r1 r2 q2) fun c s3 ⟨z,H3,I3,r3,k,e,q3⟩=>?_) hm
 subst e
 cases r3
 exact C9 ⟨H3,I3,q3⟩)
theorem cI (ha:QT X a tA):QT X (.UnaryOp .Not a pos) (AS tA):=.mk (by
 have ha:=ha.to
 intro pins s Z H Q I h
 exact isTrue_not (ha pins s Z H (fun c H1=>Q (!c) H1) I h))
theorem bY {t:TE}(h:QE X e t)(he:∀whole,isTrue e X.env whole=(do let v <-whole;standAt e.pos;holding [v] (truthy v)):=by intro _;rfl):QT X e (tB t):=.mk (by
 have h:=h.to
 intro pins s Z H Q I hw
 refine isTrue_plain (thn (h pins s Z H _ I hw) fun v s1 zz=>?_) (he _)
 obtain ⟨x,H1,I1,r1,q1⟩:=zz
 obtain ⟨d,rfl,q⟩:=q1
 cases r1
 exact C9 ⟨H1,I1,q⟩)
theorem QW.pt {t:TT}(h:QW X e t):QT X e t:=.mk h.to.pt
theorem cb (ha:QT X a tA):QW X (.BoolOp .And [a] pos) tA:=.mk (by
 have ha:=ha.to
 intro wh pins s Z H Q I h
 refine isTrue_and (thn (ha pins s Z H Q I h) fun c s1 e=>?_)
 cases c with
 | true=>exact isTrue_and_nil e
 | false=>exact e)
theorem jX (ha:QT X a tA):QW X (.BoolOp .Or [a] pos) tA:=.mk (by
 have ha:=ha.to
 intro wh pins s Z H Q I h
 refine isTrue_or (thn (ha pins s Z H Q I h) fun c s1 e=>?_)
 cases c with
 | false=>exact isTrue_or_nil e
 | true=>exact e)
theorem cN {tB':TT}{rest:List Expr}(ha:QT X a tA)(hb:QW X (.BoolOp .And (b::rest) pos) tB'):QW X (.BoolOp .And (a::b::rest) pos) (At tA tB'):=.mk (by
 have ha:=ha.to
 have hb:=hb.to
 intro wh pins s Z H Q I h
 refine isTrue_and (thn (ha pins s Z H _ I h) fun c s1 zz=>?_)
 obtain ⟨H1,I1,q1⟩:=zz
 cases c with
 | true=>exact hb wh pins s1 Z H1 Q I1 q1
 | false=>exact ⟨H1,I1,q1⟩)
theorem qD {tB':TT}{rest:List Expr}(ha:QT X a tA)(hb:QW X (.BoolOp .Or (b::rest) pos) tB'):QW X (.BoolOp .Or (a::b::rest) pos) (tOr tA tB'):=.mk (by
 have ha:=ha.to
 have hb:=hb.to
 intro wh pins s Z H Q I h
 refine isTrue_or (thn (ha pins s Z H _ I h) fun c s1 zz=>?_)
 obtain ⟨H1,I1,q1⟩:=zz
 cases c with
 | true=>exact ⟨H1,I1,q1⟩
 | false=>exact hb wh pins s1 Z H1 Q I1 q1)
theorem dR:QTs X [] yh:=.mk (fun pins s Z H Q I h=>wpAny_tests_nil ⟨H,I,h⟩)
theorem pM {t:TT}(h:QT X c t):QTs X [c] t:=.mk (by
 have h:=h.to
 exact fun pins s Z H Q I hq=>wpAny_tests_one (h pins s Z H Q I hq))
theorem cW {ta:TA}{p:Pos}(hg:Gl X "range")(hm:X.mg "range"=none)(ha:QA X [a] ta)(hs:starEach [a] X.env=[(false,eval a X.env)]:=by rfl):QI X tg (.Call (.Name "range" p) [a] [] pos) (zD ta):=.mk (by
 have ha:=ha.to
 intro pins s Z H R I h
 refine Call_ (iC I hg hm boot_range (DL (thn (ha pos pins s Z H _ I h) fun us s1 zz=>?_) hs rfl))
 obtain ⟨vs,H1,I1,r1,q1⟩:=zz
 obtain ⟨j,e,q1,q2,q⟩:=q1
 subst e
 cases r1 with
 | cons r rr =>
  cases rr
  obtain ⟨t,rfl⟩:=r
  exact call_range_1 (vg I1 AX AX q1 q2 (by simpa using q)))
theorem j5 (h:QE X e te):QI X tg e (z7 X.K te):=.mk (by
 have hl:=h.to
 intro pins s Z H R I h
 refine thn (hl pins s Z H _ I h) fun v s1 zz=>?_
 obtain ⟨x,H1,I1,r1,q1⟩:=zz
 obtain ⟨a,e,⟨xs,hq⟩,q⟩:=q1
 subst e
 cases r1
 obtain ⟨its,rv,p,hz⟩:=I1.list hq
 refine wpAny_pyIter_list p.isList ?_
 refine ⟨s1.heap.objs.size,[s1.heap.objs.size],_,_,H1,rfl,I1.kept (t':=s1.toks) fun b o e=>Bg _ e,rg a _,⟨_,BB _ rfl,rfl,rfl⟩,fun b hb=>?_,q⟩
 have e:b=s1.heap.objs.size:=by simpa using hb
 subst e
 exact I1.fpOk (A9 _) (I1.hok.fresh (A9 _)))
theorem tN (h:QE X e te):QI X tg e (AN X.K te):=.mk (by
 have hl:=h.to
 intro pins s Z H R I h
 refine thn (hl pins s Z H _ I h) fun v s1 zz=>?_
 obtain ⟨x,H1,I1,r1,q1⟩:=zz
 obtain ⟨a,e,⟨xs,hq⟩,q⟩:=q1
 subst e
 cases r1
 obtain ⟨its,rv,p,hz⟩:=I1.tuple hq
 refine wpAny_pyIter_tuple (show s1.heap.IsTuple a its.toArray from p) ?_
 refine ⟨s1.heap.objs.size,[s1.heap.objs.size],_,_,H1,rfl,I1.kept (t':=s1.toks) fun b o e=>Bg _ e,oy a _,⟨_,BB _ rfl,rfl,rfl⟩,fun b hb=>?_,q⟩
 have e:b=s1.heap.objs.size:=by simpa using hb
 subst e
 exact I1.fpOk (A9 _) (I1.hok.fresh (A9 _)))
theorem cX (hN:X.N.Nodup)(hi:X.N[i]?=some x)(hx:Loc X.env.scope x)(hf:X.fn x=true∨X.env.scope.names.lookup x=some .local:=by first | exact .inl rfl | exact .inr rfl | assumption):QG X (.Name x pos) (dE i):=.mk (gH hN hi hx hf)
theorem dv {o i:Expr}{to ti:TE}{t:zm}(ho:QE X o to)(hi:QE X i ti)(hs:zE X t)(ha:∀v,assign (.Subscript o i pos) X.env v=(do
   let ov <-holding [v] (eval o X.env)
   let iv <-holding [v,ov] (eval i X.env)
   standAt pos
   holding [v,ov,iv] (setItem ov iv v)
   release [v,ov,iv] []):=by intro _;rfl):QG X (.Subscript o i pos) (AI to ti t):=.mk (by
 have ho:=ho.to
 have hi:=hi.to
 intro pins s Z H v u Q I r h
 rw [ha]
 refine Be (DQ (thn (ho pins s Z H _ I h) fun ov s1 zz=>?_))
 obtain ⟨x,H1,I1,r1,q1⟩:=zz
 refine Be (DQ (thn (hi pins s1 Z H1 _ I1 q1) fun iv s2 zz=>?_))
 obtain ⟨y,H2,I2,r2,q2⟩:=zz
 refine Be (wpAny_standAt (Be (DQ (thn (hs pins s2 Z H2 x y v ov iv u _ I2 r1 r2 r q2) fun _ s3 zz=>?_))))
 obtain ⟨H3,I3,q3⟩:=zz
 exact wpAny_release ⟨Z,H3,I3,q3⟩)
theorem qf:QGs X [] zo:=.mk qq
theorem e8 {t:TG}{u:TGs}(h1:QG X e t)(h2:QGs X es u)(hs:(assignEach (e::es) X.env).map (·.2)=assign e X.env::(assignEach es X.env).map (·.2):=by rfl):QGs X (e::es) (ph t u):=.mk (hW h1.to h2.to hs)
theorem tz {k:Nat}{t:TGs}(hc:X.calm=true)(h:QGs X es t)(hn:(assignEach es X.env).length=n:=by rfl)(hst:(assignEach es X.env).findIdx? (·.1)=none:=by rfl):QG X (.Tuple es k pos) (zd X.K n t):=.mk (uq hc h.to hn hst)
section
variable {st:Stmt}{rest body:List Stmt}{s u:TS}
theorem aB:QSs X [] zW:=.mk (fun _ _ Z H _ I h=>DM ⟨Z,H,I,h⟩)
theorem ac (h1:QS X st s)(h2:QSs X rest u):QSs X (st::rest) (Av s u):=.mk (by
 have h1:=h1.to
 have h2:=h2.to
 intro pins s Z H D I h
 refine Fp (thn (h1 pins s Z H { D with nx:=u D } I h) fun f s1 q=>?_)
 cases f with
 | next =>
  obtain ⟨σ',H',I',q⟩:=q
  exact h2 pins s1 σ' H' D I' q
 | ret v=>exact q
 | brk=>exact q
 | cont=>exact q)
theorem aj (h1:QS X st s):QSs X [st] s:=.mk (by
 have h1:=h1.to
 intro pins s Z H D I h
 refine Fp (thn (h1 pins s Z H D I h) fun f s1 q=>?_)
 cases f with
 | next=>exact DM q
 | ret v=>exact q
 | brk=>exact q
 | cont=>exact q)
theorem aJ (he:QE X e te)(hs:swapsWith e none pos.line X.env=pure false:=by rfl):QS X (.Expr e pos) (zV te):=.mk (by
 have he:=he.to
 intro pins s Z H D I h
 exact wpAny_Expr_any (thn (he pins s Z H _ I h) fun v s1 ⟨x,H1,I1,r1,q1⟩=>⟨Z,H1,I1,q1⟩) I.quiet hs)
theorem aA (he:QE X e te):QS X (.Return (some e) pos) (Au te):=.mk (by
 have he:=he.to
 intro pins s Z H D I h
 exact wpAny_Return_some (thn (he pins s Z H _ I h) fun v s1 ⟨x,H1,I1,r1,q1⟩=>⟨x,Z,H1,I1,r1,q1⟩))
theorem aR {a' b':List Stmt}(hc:QT X c tt)(ha:QSs X a' s)(hb:QSs X b' u):QS X (.If c a' b' pos) (z4 tt s u):=.mk (xV hc.to ha.to hb.to)
theorem uu (hN:X.N.Nodup)(hi:X.N[i]?=some x)(hx:Loc X.env.scope x)(he:QE X e te)(hs:swapsWith e (some (.Name x pos')) pos.line X.env=pure false:=by rfl)(hf:X.fn x=true∨X.env.scope.names.lookup x=some .local:=by first | exact .inl rfl | exact .inr rfl | assumption):
  QS X (.Assign [.Name x pos'] e pos) (wD te (dE i)):=.mk (by
 have he:=he.to
 intro pins s Z H D I h
 refine wpAny_Assign_Name (thn (he pins s Z H _ I h) fun v s1 zz=>?_) hs
 obtain ⟨y,H1,I1,r1,q1⟩:=zz
 exact iO I1 hN hi hx r1 (fun s2 I2=>⟨_,H1,I2,q1⟩) hf)
theorem nC {y:Str}{py spos:Pos}{cl:List (Str×Addr)}(hN:X.N.Nodup)(hi':X.N[i]?=some y)(hx:Loc X.env.scope y)(B:Blk X scope cl x NB cap)(hc:X.calm=true)(hex:X.ex=[])(hi:QI X (.Name x px) iter wi)(ht:∀C fp s₀ H₀,QTs (X.blk scope cl C (x::NB) fp s₀ H₀) ifs tt)(he:∀C fp s₀ H₀,QE (X.blk scope cl C (x::NB) fp s₀ H₀) elt te)(hsw:swapsWith (.ListComp elt [⟨.Name x px,iter,ifs,0⟩] scope pos) (some (.Name y py)) spos.line X.env=pure true:=by rfl)(hs:∀v,foldedSetIterable iter X.env v=pure v:=by intro _;rfl)(hf:X.fn y=true∨X.env.scope.names.lookup y=some .local:=by first | exact .inl rfl | exact .inr rfl | assumption):
  QS X (.Assign [.Name y py] (.ListComp elt [⟨.Name x px,iter,ifs,0⟩] scope pos) spos) (wD (uZ wi tt te cap) (dE i)):=.mk (by
 have hi:=hi.to
 have ht:=(fun C fp s₀ H₀=>(ht C fp s₀ H₀).to)
 have he:=(fun C fp s₀ H₀=>(he C fp s₀ H₀).to)
 intro pins s Z H D I h
 rw [exec_Assign_Name_used _ _ _ _ hsw]
 refine Be (wpAny_standAt (Be ?_))
 show wpAny _ X.A (do let _ <-comprehension (.ListComp elt [⟨.Name x px,iter,ifs,0⟩] scope pos) scope X.env _ (newList []) false (eval iter X.env) (some (assign (.Name y py) X.env))) _ _ s
 refine Be (B0 (jb (use:=some (assign (.Name y py) X.env)) (R:=fun _ s'=>SP X pins D .next s') B hc hex hi ht he hs I h fun L C H' s' I' G q=>?_) (fun _ s' hq=>Bv (Bv hq)) fun _ _ e=>e)
 obtain ⟨m,hn⟩:=G.ns
 obtain ⟨f0,f1,f2,f3,f4,f5⟩:=G.fp
 refine wpAny_assign_Name (jc (v:=.ref L) I' hN hi' hx rfl (fun s'' I'' zz=>?_) hf)
 obtain ⟨a,sb,ha⟩:=zz
 have hC:C≠a:=by
  rcases ha with z | z
  .rw [z];exact f1
  .exact fun e=>f4 y a z e.symm
 refine ⟨m,hn.sameBut sb hC,fun h' hs'=>⟨_,H',?_,q⟩⟩
 exact I''.turned (t':=s''.toks) (fun b o hb e=>(hs'.2 b hb).trans e) f0 f1 f3 f4 f5)
theorem gn {g:TG}(he:QE X e te)(hg:QG X tg g)(hs:swapsWithSole [tg] e pos.line X.env=pure false:=by rfl)(hw:swappedStores [tg] e X.env=pure none:=by rfl)(h1:(assignEach [tg] X.env).map (·.2)=[assign tg X.env]:=by rfl):QS X (.Assign [tg] e pos) (wD te g):=.mk (by
 have he:=he.to
 have hg:=hg.to
 intro pins s Z H D I h
 refine wpAny_Assign_stores (thn (he pins s Z H _ I h) fun v s1 zz=>?_) hs hw
 obtain ⟨x,H1,I1,r1,q1⟩:=zz
 rw [h1]
 exact thn (hg pins s1 Z H1 x v _ I1 r1 q1) fun _ s2 q=>q)
theorem eT {g:TG}(hp:PassesOwn (model X.prog X.w) X.A X.env X.xe)(hc:X.calm=true)(hi:QI X tg iter wi)(hg:QG X tg g)(hb:QSs X body s)(hs:∀x,foldedSetIterable iter X.env x=pure x:=by intro _;rfl):QS X (.For tg iter body [] pos) (AA wi g s):=.mk (by
 have hi:=hi.to
 have hg:=hg.to
 have hb:=hb.to
 intro pins s Z H D I h
 refine wpAny_For (thn (hi pins s Z H _ I h) fun v s1 h1=>thn h1 fun itv s2 h2=>?_) hs
 obtain ⟨it,fp,tn,J,H2,e,I2,T,st2,f2,W,⟨m0,w0⟩,turn⟩:=h2
 subst e
 have stat:∀{H':Hp},(∀b∈fp,H' b=none)->∀b∈fp,jV X pins H' b:=fun hn b hb=>⟨hn b hb,(f2 b hb).2⟩
 refine codeAny_forLoop_any (fun n s'=>∃ i σ' H',Inv X pins σ' H' s'/\tn i s'.heap/\(∀b∈fp,H' b=none)/\W i n σ' H') ?_ m0 ⟨0,Z,H2,I2,st2,fun b hb=>(f2 b hb).1,w0⟩
 rintro n s3 ⟨i,σ3,H3,I3,st3,fr3,w3⟩
 rcases turn i n σ3 H3 w3 with ⟨stop,qn⟩ | ⟨go,N,hN,step⟩
 .refine Dc hp (thn (T.done X rfl rfl rfl hc i pins s3 σ3 H3 X.xe I3 (stat fr3) st3 stop) fun r s4 ⟨hr,I4⟩=>?_)
  subst hr
  exact DM ⟨σ3,H3,I4,qn⟩
 refine Dc hp (thn (T.item X rfl rfl rfl hc i pins s3 σ3 H3 X.xe I3 (stat fr3) st3 go) fun r s4 zz=>?_)
 obtain ⟨u,hr,h4⟩:=zz
 subst hr
 refine Dc hp (thn h4 fun _ s5 zz=>?_)
 obtain ⟨x,H5,I5,r5,y5,st5,fr5⟩:=zz
 have I5':=I5.pinned (stat fr5) (T.obj _ _ st5)
 refine Dc hp (thn (hg _ s5 σ3 H5 x u _ I5' r5 (step x H5 y5)) fun _ s6 zz=>?_)
 obtain ⟨σ6,H6,I6,q6⟩:=zz
 refine Dc hp (thn (hb _ s6 σ6 H6 _ I6 q6) fun f s7 q7=>?_)
 have again:∀{σ7:St} {H7:Hp},Inv X (pins++gg fp s5.heap) σ7 H7 s7->N σ7 H7->∃ m,m<n/\∃ i σ' H',Inv X pins σ' H' s7/\tn i s7.heap/\(∀b∈fp,H' b=none)/\W i m σ' H':=fun {σ7 H7} I7 n7=>by
  obtain ⟨m',hm,w7⟩:=hN σ7 H7 n7
  refine ⟨m',hm,i+1,σ7,H7,I7.unpinned,T.keep _ _ _ st5 fun b hb o e=>(I7.pin (b,o) (Bq _ (Bq _ (b8 hb e)))).1,fun b hb=>?_,w7⟩
  obtain ⟨o,e,d⟩:=T.obj _ _ st5 b hb
  exact (I7.pin (b,o) (Bq _ (Bq _ (b8 hb e)))).2.1
 cases f with
 | next=>obtain ⟨σ7,H7,I7,n7⟩:=q7;exact again I7 n7
 | cont=>obtain ⟨σ7,H7,I7,n7⟩:=q7;exact again I7 n7
 | brk=>obtain ⟨σ7,H7,I7,q7⟩:=q7;exact ⟨σ7,H7,I7.unpinned,q7⟩
 | ret v=>obtain ⟨x7,σ7,H7,I7,r7,q7⟩:=q7;exact ⟨x7,σ7,H7,I7.unpinned,r7,q7⟩)
theorem cL (hp:PassesOwn (model X.prog X.w) X.A X.env X.xe)(hc:QT X c tt)(hb:QSs X body s):QS X (.While c body [] pos) (zg tt s):=.mk (by
 have hc:=hc.to
 have hb:=hb.to
 intro pins s Z H D I h
 obtain ⟨W,⟨m0,w0⟩,turn⟩:=h
 refine wpAny_While (codeAny_whileLoop (fun n s'=>∃ σ' H',Inv X pins σ' H' s'/\W n σ' H') ?_ m0 ⟨Z,H,I,w0⟩)
 rintro n s1 ⟨σ1,H1,I1,w1⟩
 refine Dc hp (thn (hc pins s1 σ1 H1 _ I1 (turn n σ1 H1 w1)) fun b s2 zz=>?_)
 obtain ⟨H2,I2,q2⟩:=zz
 cases b with
 | true =>
  obtain ⟨N,hN,q2⟩:=q2
  rw [Bf rfl]
  refine Dc hp (thn (hb pins s2 σ1 H2 _ I2 q2) fun f s3 q3=>?_)
  cases f with
  | next =>
   obtain ⟨σ3,H3,I3,n3⟩:=q3
   obtain ⟨m',hm,w3⟩:=hN σ3 H3 n3
   exact ⟨m',hm,σ3,H3,I3,w3⟩
  | cont =>
   obtain ⟨σ3,H3,I3,n3⟩:=q3
   obtain ⟨m',hm,w3⟩:=hN σ3 H3 n3
   exact ⟨m',hm,σ3,H3,I3,w3⟩
  | brk=>exact q3
  | ret v=>exact q3
 | false =>
  rw [Bc Bm]
  exact DM ⟨σ1,H2,I2,q2⟩)
end
end
end L2
namespace L2
open PySem PySem.Spec PyProof.Rows
open PySem.SeqAt (EqAt RcAt RcNeAt)
def okV:V->Bool
 | .byt _=>false
 | .flt _=>false
 | _=>true
inductive Al (K:W.Frag)(H:Hp):Nat->V->V->Prop
 | same {n:Nat} {x:V}:okV x=true->Al K H n x x
 | tup {n:Nat} {a b:Addr} {xs ys:List V}:SqT K H a xs->SqT K H b ys->xs.length=ys.length->(∀(i:Nat) (x y:V),xs[i]?=some x->ys[i]?=some y->Al K H n x y)->Al K H (n+1) (.ref a) (.ref b)
 | lst {n:Nat} {a b:Addr} {xs ys:List V}:SqL K H a xs->SqL K H b ys->xs.length=ys.length->(∀(i:Nat) (x y:V),xs[i]?=some x->ys[i]?=some y->Al K H n x y)->Al K H (n+1) (.ref a) (.ref b)
theorem Vals.at {xs:List V}{us:List Value}(r:Vals xs us){j:Nat}(h:j<us.length):∃ x,xs[j]?=some x/\RelV x us[j]:=by
 have h1:j<xs.length:=by rw [r.length];exact h
 have e:xs[j]?=some xs[j]:=bt h1
 obtain ⟨u,hu,ru⟩:=r.get e
 rw [bt h] at hu
 cases hu
 exact ⟨_,e,ru⟩
section
variable {X:Cx}
theorem Al.eqAt (I:Inv X pins Z H s){x:V}(h:Al X.K H n x y):∀{v u:Value} (A:Around),RelV x v->RelV y u->A.units+n<cLine->EqAt A s v u true:=by
 induction h with
 | @same n x hk =>
  intro v u A rx ry hu
  cases x with
  | non=>cases rx;cases ry;exact E9 _
  | bl b=>cases rx;cases ry;exact E9 _
  | int i =>
   obtain ⟨t,rfl⟩:=rx
   obtain ⟨t',rfl⟩:=ry
   have:=EqAt.int_int (A:=A) (s:=s) i t i t'
   rwa [Ew] at this
  | str i =>
   obtain ⟨t,rfl⟩:=rx
   obtain ⟨t',rfl⟩:=ry
   have:=EqAt.str_str (A:=A) (s:=s) i t i t'
   rwa [Ew] at this
  | byt b=>cases hk
  | flt b=>cases hk
  | ref a=>cases rx;cases ry;exact E9 _
  | ty a=>cases rx;cases ry;exact E9 _
 | @tup n a b xs ys ha hb hl hs ih =>
  intro v u A rx ry hu
  cases rx
  cases ry
  by_cases hab:a=b
  .subst hab;exact E9 _
  obtain ⟨its,r,ht,_⟩:=I.tuple ha
  obtain ⟨its2,r2,ht2,_⟩:=I.tuple hb
  have e1:=r.length
  have e2:=r2.length
  have q:=RcAt.tuples (e:=fun _=>true) ht ht2 (A:=A) (BM (CT _ _) hu) (fun j h1 h2=>by
   obtain ⟨x,ex,rx⟩:=r.at (j:=j) (by simpa using h1)
   obtain ⟨y,ey,ry⟩:=r2.at (j:=j) (by simpa using h2)
   have:=ih j x y ex ey A.in1 rx ry (by show A.units+1+n<cLine;lia)
   simpa using this)
  have z:((List.range (min its.toArray.size its2.toArray.size)).all (fun _=>true)&&its.toArray.size == its2.toArray.size)=true:=by
   simp;lia
  rw [z] at q
  exact EqAt.of_refs hab q
 | @lst n a b xs ys ha hb hl hs ih =>
  intro v u A rx ry hu
  cases rx
  cases ry
  by_cases hab:a=b
  .subst hab;exact E9 _
  obtain ⟨its,r,ht,_⟩:=I.list ha
  obtain ⟨its2,r2,ht2,_⟩:=I.list hb
  have e1:=r.length
  have e2:=r2.length
  have q:=RcAt.lists (e:=fun _=>true) ht.isList ht2.isList (A:=A) (by simp;lia) (BM (CT _ _) hu) (fun j h1 h2=>by
   obtain ⟨x,ex,rx⟩:=r.at (j:=j) (by simpa using h1)
   obtain ⟨y,ey,ry⟩:=r2.at (j:=j) (by simpa using h2)
   have:=ih j x y ex ey A.in1 rx ry (by show A.units+1+n<cLine;lia)
   simpa using this)
  have z:((List.range its.toArray.size).all (fun _=>true))=true:=by simp
  rw [z] at q
  exact EqAt.of_refs hab q
def AlL (K:W.Frag)(H:Hp)(n:Nat)(xs ys:List V):Prop:=xs.length=ys.length/\∀(i:Nat) (x y:V),xs[i]?=some x->ys[i]?=some y->Al K H n x y
def Ay (K:W.Frag)(b:Bool):R2:=fun x y H Q=>∃ p q xs ys,x=.ref p/\y=.ref q/\SqT K H p xs/\SqT K H q ys/\AlL K H 8 xs ys/\Q (.bl b) H
def AC (K:W.Frag)(b:Bool):R2:=fun x y H Q=>∃ p q xs ys,x=.ref p/\y=.ref q/\SqL K H p xs/\SqL K H q ys/\AlL K H 8 xs ys/\Q (.bl b) H
theorem yn (hu:X.A.units+100<cLine):OpR X (compareOp .NotEq) (Ay X.K false):=by
 intro pins s Z H x y v u Q I rx ry h
 obtain ⟨a,b,xs,ys,rfl,rfl,ha,hb,⟨hl,al⟩,q⟩:=h
 cases rx
 cases ry
 obtain ⟨its,r,ht,_⟩:=I.tuple ha
 obtain ⟨its2,r2,ht2,_⟩:=I.tuple hb
 have e1:=r.length
 have e2:=r2.length
 refine SeqAt.RcNeAt.tuples (e:=fun _=>true) ht ht2 AX (fun j h1 h2=>?_) _ _ _ _ ⟨.bl false,H,I,?_,q⟩
 .obtain ⟨x,ex,rx⟩:=r.at (j:=j) (by simpa using h1)
  obtain ⟨y,ey,ry⟩:=r2.at (j:=j) (by simpa using h2)
  have:=(al j x y ex ey).eqAt I X.A.in1 rx ry (by show X.A.units+1+8<cLine;lia)
  simpa using this
 show Value.bool _=Value.bool false
 simp;lia
theorem w4 (hu:X.A.units+100<cLine):OpR X (compareOp .NotEq) (AC X.K false):=by
 intro pins s Z H x y v u Q I rx ry h
 obtain ⟨a,b,xs,ys,rfl,rfl,ha,hb,⟨hl,al⟩,q⟩:=h
 cases rx
 cases ry
 obtain ⟨its,r,ht,_⟩:=I.list ha
 obtain ⟨its2,r2,ht2,_⟩:=I.list hb
 have e1:=r.length
 have e2:=r2.length
 refine SeqAt.RcNeAt.lists (e:=fun _=>true) ht.isList ht2.isList (by simp;lia) AX (fun j h1 h2=>?_) _ _ _ _ ⟨.bl false,H,I,?_,q⟩
 .obtain ⟨x,ex,rx⟩:=r.at (j:=j) (by simpa using h1)
  obtain ⟨y,ey,ry⟩:=r2.at (j:=j) (by simpa using h2)
  have:=(al j x y ex ey).eqAt I X.A.in1 rx ry (by show X.A.units+1+8<cLine;lia)
  simpa using this
 show Value.bool _=Value.bool false
 simp
end
theorem Room.u100 {k:Nat}(r:Room k A):A.units+100<cLine:=by have:=r.un;lia
theorem AlL.same (h:∀x∈xs,okV x=true):AlL K H n xs xs:=⟨rfl,fun i x y e1 e2=>by
 rw [e1] at e2
 cases e2
 exact .same (h x (BC e1))⟩
end L2
namespace Hm
open PySem L2
abbrev g (xs:List V)(i:Nat):V:=xs.getD i .non
def sw (xs:List V)(i j:Nat):List V:=(xs.set i (g xs j)).set j (g xs i)
structure Od (lt:V->V->Bool):Prop where
 as:∀a b,lt a b=true->lt b a=false
 nt:∀a b c,lt a b=false->lt b c=false->lt a c=false
theorem Od.irr {lt:V->V->Bool}(o:Od lt)(a:V):lt a a=false:=by
 cases e:lt a a with
 | false=>rfl
 | true=>have:=o.as a a e;rw [e] at this;exact this
theorem lA {k:Nat}{v:V}:g (xs.set i v) k=if i=k/\k<xs.length then v else g xs k:=by
 simp only [g,Bz,List.getElem?_set]
 by_cases h:i=k
 .subst h
  by_cases h2:i<xs.length
  .simp [h2]
  .simp [h2,DN (Fo h2)]
 simp [h]
theorem aT:(sw xs i j).length=xs.length:=by simp [sw]
theorem dB {k:Nat}(hi:i<xs.length)(hj:j<xs.length):g (sw xs i j) k=if k=j then g xs i else if k=i then g xs j else g xs k:=by
 unfold sw
 rw [lA,lA,Cn]
 by_cases h1:k=j
 .subst h1;simp [hj]
 rw [Bc (by intro z;exact h1 z.1.symm),Bc h1]
 by_cases h2:k=i
 .subst h2;simp [hi]
 rw [Bc (by intro z;exact h2 z.1.symm),Bc h2]
theorem g_get (h:i<xs.length):g xs i=xs[i]:=by simp [g,Bz,h]
theorem dL (hi:i<xs.length)(hj:j<xs.length):(sw xs i j).Perm xs:=by
 unfold sw
 rw [g_get hi,g_get hj]
 exact List.set_set_perm hi hj
def les (lt:V->V->Bool)(xs:List V)(p:Nat):Nat:=if 2*p+2<xs.length/\lt (g xs (2*p+2)) (g xs (2*p+1))=true then 2*p+2 else 2*p+1
def kids (n p:Nat):Nat:=if 2*p+2<n then 2 else if 2*p+1<n then 1 else 0
def dn (lt:V->V->Bool):Nat->List V->Nat->Nat->List V×Nat
 | 0,xs,_,lk=>(xs,lk)
 | f+1,xs,p,lk=>if 2*p+1<xs.length then
   if lt (g xs (les lt xs p)) (g xs p)=true then dn lt f (sw xs p (les lt xs p)) (les lt xs p) (lk+kids xs.length p) else (xs,lk+kids xs.length p)
  else (xs,lk)
def up (lt:V->V->Bool):Nat->List V->Nat->Nat->List V×Nat
 | 0,xs,_,lk=>(xs,lk)
 | f+1,xs,p,lk=>if 0<p then
   if lt (g xs p) (g xs ((p-1) / 2))=true then up lt f (sw xs p ((p-1) / 2)) ((p-1) / 2) (lk+1) else (xs,lk+1)
  else (xs,lk)
theorem de {lt:V->V->Bool}{p:Nat}:2*p+1<=les lt xs p:=by unfold les;split <;> lia
theorem oB {lt:V->V->Bool}{p:Nat}:les lt xs p<=2*p+2:=by unfold les;split <;> lia
theorem cP {lt:V->V->Bool}{p:Nat}(h:2*p+1<xs.length):les lt xs p<xs.length:=by unfold les;split <;> lia
theorem jT {lt:V->V->Bool}(o:Od lt){p k:Nat}(hk:k<xs.length)(hp:k=2*p+1∨k=2*p+2):lt (g xs k) (g xs (les lt xs p))=false:=by
 unfold les
 split
 .rename_i h
  rcases hp with rfl | rfl
  .exact o.as _ _ h.2
  .exact o.irr _
 rename_i h
 rcases hp with rfl | rfl
 .exact o.irr _
 cases e:lt (g xs (2*p+2)) (g xs (2*p+1)) with
 | false=>rfl
 | true=>exact absurd ⟨hk,e⟩ h
theorem dn_len {lt:V->V->Bool}:∀{f:Nat} {xs:List V} {p lk:Nat},(dn lt f xs p lk).1.length=xs.length
 | 0,xs,p,lk=>rfl
 | f+1,xs,p,lk=>by
  unfold dn
  split
  .split
   .rw [dn_len,aT]
   .rfl
  .rfl
theorem dn_perm {lt:V->V->Bool}:∀{f:Nat} {xs:List V} {p lk:Nat},(dn lt f xs p lk).1.Perm xs
 | 0,xs,p,lk=>.refl _
 | f+1,xs,p,lk=>by
  unfold dn
  split
  .rename_i h
   split
   .exact dn_perm.trans (dL AX (cP h))
   .exact .refl _
  .exact .refl _
theorem jS {lt:V->V->Bool}:∀{f:Nat} {xs:List V} {p lk:Nat},dn lt f xs p lk=((dn lt f xs p 0).1,lk+(dn lt f xs p 0).2)
 | 0,xs,p,lk=>by simp [dn]
 | f+1,xs,p,lk=>by
  unfold dn
  split
  .split
   .rw [jS (lk:=lk+_),jS (lk:=0+_)]
    simp [Nat.add_assoc]
   .simp
  .simp
theorem df {lt:V->V->Bool}:∀{f:Nat} {xs:List V} {p lk:Nat},p<xs.length->(up lt f xs p lk).1.Perm xs
 | 0,xs,p,lk,_=>.refl _
 | f+1,xs,p,lk,hp=>by
  unfold up
  split
  .split
   .exact (df (by rw [aT];lia)).trans (dL AX AX)
   .exact .refl _
  .exact .refl _
def HF (lt:V->V->Bool)(q:Nat)(xs:List V):Prop:=∀k,0<k->k<xs.length->q<=(k-1) / 2->lt (g xs k) (g xs ((k-1) / 2))=false
def IsH (lt:V->V->Bool)(xs:List V):Prop:=∀k,0<k->k<xs.length->lt (g xs k) (g xs ((k-1) / 2))=false
theorem HF.zero {lt:V->V->Bool}(h:HF lt 0 xs):IsH lt xs:=fun k a b=>h k a b (BK _)
theorem dZ {lt:V->V->Bool}(o:Od lt){q:Nat}:∀{f:Nat} {xs:List V} {p lk:Nat},xs.length<=p+f->q<=p ->
  (∀k,0<k->k<xs.length->q<=(k-1) / 2->(k-1) / 2≠p->lt (g xs k) (g xs ((k-1) / 2))=false) ->
  (p=q∨(0<p/\q<=(p-1) / 2/\∀k,0<k->k<xs.length->(k-1) / 2=p->lt (g xs k) (g xs ((p-1) / 2))=false))->HF lt q (dn lt f xs p lk).1
 | 0,xs,p,lk,hf,hq,h1,h2=>by
  intro k k0 k1 k2
  exact h1 k k0 k1 k2 (by have:k<xs.length:=k1;lia)
 | f+1,xs,p,lk,hf,hq,h1,h2=>by
  unfold dn
  split
  .rename_i hc
   have b1:=de (lt:=lt) (xs:=xs) (p:=p)
   have b2:=oB (lt:=lt) (xs:=xs) (p:=p)
   have b3:=cP (lt:=lt) hc
   have bm:=fun k hk hp=>jT o (xs:=xs) (p:=p) (k:=k) hk hp
   split
   .rename_i hl
    generalize les lt xs p=b at *
    have hpl:p<xs.length:=by lia
    refine dZ o (by rw [aT];lia) AX (fun k k0 k1 k2 k3=>?_) (.inr ⟨AX,AX,fun k k0 k1 k2=>?_⟩)
    .rw [aT] at k1
     rw [dB hpl b3,dB hpl b3]
     by_cases e1:k=b
     .subst e1
      have e2:(k-1) / 2=p:=by lia
      rw [Bf rfl,e2,Bc AX,Bf rfl]
      exact o.as _ _ hl
     .rw [Bc e1,Bc (by lia:¬ (k-1) / 2=b)]
      by_cases e2:(k-1) / 2=p
      .rw [Bc AX,Bf e2]
       exact bm k k1 AX
      .rw [Bc e2]
       by_cases e3:k=p
       .subst e3
        rw [Bf rfl]
        rcases h2 with h2 | ⟨_,_,h2⟩
        .lia
        .exact h2 b AX b3 AX
       .rw [Bc e3]
        exact h1 k k0 k1 k2 e2
    .rw [aT] at k1
     have e1:(b-1) / 2=p:=by lia
     rw [e1,dB hpl b3,dB hpl b3,Bc AX,Bc AX,Bc AX,Bf rfl]
     have:=h1 k k0 k1 AX AX
     rwa [k2] at this
   .rename_i hl
    intro k k0 k1 k2
    by_cases e2:(k-1) / 2=p
    .rw [e2]
     have hl':lt (g xs (les lt xs p)) (g xs p)=false:=by simpa using hl
     exact o.nt _ _ _ (bm k k1 AX) hl'
    .exact h1 k k0 k1 k2 e2
  .intro k k0 k1 k2
   exact h1 k k0 k1 k2 (by have:k<xs.length:=k1;lia)
theorem fH {lt:V->V->Bool}(o:Od lt):∀{f:Nat} {xs:List V} {p lk:Nat},p<=f->p<xs.length ->
  (∀k,0<k->k<xs.length->k≠p->lt (g xs k) (g xs ((k-1) / 2))=false) ->
  (∀k,0<k->k<xs.length->(k-1) / 2=p->0<p->lt (g xs k) (g xs ((p-1) / 2))=false)->IsH lt (up lt f xs p lk).1
 | 0,xs,p,lk,hf,hp,h1,h2=>fun k k0 k1=>h1 k k0 k1 AX
 | f+1,xs,p,lk,hf,hp,h1,h2=>by
  unfold up
  split
  .rename_i hc
   split
   .rename_i hl
    generalize ha:(p-1) / 2=a at *
    have hal:a<xs.length:=by lia
    refine fH o AX (by rw [aT];lia) (fun k k0 k1 k2=>?_) (fun k k0 k1 k2 k3=>?_)
    .rw [aT] at k1
     rw [dB hp hal,dB hp hal,Bc k2]
     by_cases e1:k=p
     .subst e1
      rw [Bf rfl,ha,Bf rfl]
      exact o.as _ _ hl
     .rw [Bc e1]
      by_cases e2:(k-1) / 2=a
      .rw [Bf e2]
       have q1:=h1 k k0 k1 e1
       rw [e2] at q1
       exact o.nt _ _ _ q1 (o.as _ _ hl)
      .rw [Bc e2]
       by_cases e3:(k-1) / 2=p
       .rw [Bf e3]
        exact h2 k k0 k1 e3 hc
       .rw [Bc e3]
        exact h1 k k0 k1 e1
    .rw [aT] at k1
     rw [dB hp hal,dB hp hal,Bc AX,Bc (by lia:¬ (a-1) / 2=a),Bc (by lia:¬ (a-1) / 2=p)]
     have qa:=h1 a AX hal AX
     by_cases e1:k=p
     .rw [Bf e1];exact qa
     .rw [Bc e1]
      have q1:=h1 k k0 k1 e1
      rw [k2] at q1
      exact o.nt _ _ _ q1 qa
   .rename_i hl
    intro k k0 k1
    by_cases e1:k=p
    .subst e1;simpa using hl
    .exact h1 k k0 k1 e1
  .intro k k0 k1
   exact h1 k k0 k1 AX
def mk (lt:V->V->Bool):Nat->List V->Nat->List V×Nat
 | 0,xs,lk=>(xs,lk)
 | k+1,xs,lk=>mk lt k (dn lt xs.length xs k 0).1 (lk+(dn lt xs.length xs k 0).2)
theorem mk_perm {lt:V->V->Bool}:∀{k:Nat} {xs:List V} {lk:Nat},(mk lt k xs lk).1.Perm xs
 | 0,_,_=>.refl _
 | k+1,xs,lk=>by unfold mk;exact mk_perm.trans dn_perm
end Hm
namespace L2
open PySem
def rM:Option HO->List V
 | some (.tup [.int i,.str n,.int j])=>[.int i,.str n,.int j]
 | _=>[.int 0,.str "",.int 0]
theorem pI (o:Option HO):dA (rM o):=by
 unfold rM
 split
 .exact ⟨_,_,_,rfl⟩
 exact ⟨_,_,_,rfl⟩
def bO (H:Hp):V->List V
 | .ref a=>rM (H a)
 | _=>[.int 0,.str "",.int 0]
theorem eU (H:Hp)(x:V):dA (bO H x):=by
 unfold bO
 split
 .exact pI _
 exact ⟨_,_,_,rfl⟩
theorem wz (h:H a=some (.tup l))(e:dA l):bO H (.ref a)=l:=by
 obtain ⟨i,n,j,rfl⟩:=e
 show rM (H a)=_
 rw [h]
 rfl
def ltT (t:V->List V)(a b:V):Bool:=bv (t a) (t b)
theorem jy {a b:List V}(ha:dA a)(hb:dA b)(h:bP a=bP b):a=b:=by
 obtain ⟨i,x,j,rfl⟩:=ha
 obtain ⟨i',x',j',rfl⟩:=hb
 have h':((i,x.cps.toList,j):Int×List Nat×Int)=(i',x'.cps.toList,j'):=h
 simp only [Fh] at h'
 obtain ⟨rfl,h2,rfl⟩:=h'
 rw [ca h2]
structure EnR (t:V->List V)(H:Hp)(xs:List V):Prop where
 tot:∀x,dA (t x)
 mem:∀x∈xs,∃ a,x=.ref a/\H a=some (.tup (t x))
section
variable {t:V->List V}{H H':Hp}{xs ys:List V}
theorem EnR.sub (e:EnR t H xs)(s:∀y∈ys,y∈xs):EnR t H ys:=⟨e.tot,fun x hx=>e.mem x (s x hx)⟩
theorem EnR.move (e:EnR t H xs)(s:∀b l,H b=some (.tup l)->H' b=some (.tup l)):EnR t H' xs:=⟨e.tot,fun x hx=>by
 obtain ⟨a,rfl,h⟩:=e.mem x hx
 exact ⟨a,rfl,s _ _ h⟩⟩
theorem EnR.put (e:EnR t H xs)(h:H p=some (.lst zs)):EnR t (upd H p o) xs:=e.move fun b l q=>by rw [ai (aU q h (by intro z;cases z))];exact q
theorem EnR.fit (e:EnR t H xs)(x y:V):lL (t x) (t y):=yU (e.tot _) (e.tot _)
theorem EnR.gat (e:EnR t H xs)(h:i<xs.length):∃ a,Hm.g xs i=.ref a/\H a=some (.tup (t (Hm.g xs i)))/\Hm.g xs i∈xs/\atI xs (i:Int)=some (Hm.g xs i):=by
 have hm:Hm.g xs i∈xs:=by rw [Hm.g_get h];exact Cj h
 obtain ⟨a,e1,h1⟩:=e.mem _ hm
 refine ⟨a,e1,h1,hm,aL ?_⟩
 rw [Hm.g_get h]
 exact bt h
end
theorem gl (h:i<xs.length):atI xs (i:Int)=some (Hm.g xs i):=aL (by rw [Hm.g_get h];exact bt h)
theorem sf {t t':V->List V}(h:∀x∈xs,t' x=t x)(i:Hm.IsH (ltT t) xs):Hm.IsH (ltT t') xs:=fun k k0 k1=>by
 have m1:Hm.g xs k∈xs:=by rw [Hm.g_get k1];exact Cj k1
 have m2:Hm.g xs ((k-1) / 2)∈xs:=by rw [Hm.g_get AX];exact Cj AX
 have:=i k k0 k1
 unfold ltT at this ⊢
 rw [h _ m1,h _ m2]
 exact this
end L2
namespace Hm
open PySem L2
variable {lt:V->V->Bool}{xs:List V}{f p lk:Nat}
theorem qJ (h:¬ 2*p+1<xs.length):dn lt f xs p lk=(xs,lk):=by
 cases f with
 | zero=>rfl
 | succ f=>unfold dn;rw [Bc h]
theorem fy (h:2*p+1<xs.length)(q:lt (g xs (les lt xs p)) (g xs p)=false):dn lt (f+1) xs p lk=(xs,lk+kids xs.length p):=by
 unfold dn;rw [Bf h,Bc (by rw [q];exact Bm)]
theorem lV (h:2*p+1<xs.length)(q:lt (g xs (les lt xs p)) (g xs p)=true):dn lt (f+1) xs p lk=dn lt f (sw xs p (les lt xs p)) (les lt xs p) (lk+kids xs.length p):=by
 conv=>lhs;unfold dn
 rw [Bf h,Bf q]
theorem up_stop (h:¬ 0<p):up lt f xs p lk=(xs,lk):=by
 cases f with
 | zero=>rfl
 | succ f=>unfold up;rw [Bc h]
theorem up_stay (h:0<p)(q:lt (g xs p) (g xs ((p-1) / 2))=false):up lt (f+1) xs p lk=(xs,lk+1):=by
 unfold up;rw [Bf h,Bc (by rw [q];exact Bm)]
theorem up_go (h:0<p)(q:lt (g xs p) (g xs ((p-1) / 2))=true):up lt (f+1) xs p lk=up lt f (sw xs p ((p-1) / 2)) ((p-1) / 2) (lk+1):=by
 conv=>lhs;unfold up
 rw [Bf h,Bf q]
theorem o3 (h:2*p+2<xs.length):(les lt xs p:Int)=2*(p:Int)+1+(if lt (g xs (2*p+2)) (g xs (2*p+1))=true then 1 else 0):=by
 unfold les
 by_cases q:lt (g xs (2*p+2)) (g xs (2*p+1))=true
 .rw [Bf ⟨h,q⟩,Bf q];lia
 rw [Bc (fun z=>q z.2),Bc q];lia
theorem pv (h:¬ 2*p+2<xs.length):les lt xs p=2*p+1:=by
 unfold les
 rw [Bc (fun z=>h z.1)]
theorem eR (hi:i<xs.length)(hj:j<xs.length):∀y∈sw xs i j,y∈xs:=fun y hy=>(dL hi hj).mem_iff.mp hy
end Hm
namespace L2
open PySem
theorem rW {Q:VK}(Pv:Nat->List V->Hp->Prop)(h0:Pv 0 [] (upd H D (.lst [])))(hD:∀i ys H,Pv i ys H->H D=some (.lst ys)/\SqL K H a xs)(hs:∀i x ys H,xs[i]?=some x->Pv i ys H->tt (some x::bw cap Z) H fun b H3 =>
   if b=true then te (some x::bw cap Z) H3 fun v H4=>H4 D=some (.lst ys)/\ys.length<sizeLine/\∃ m',m'<xs.length-i/\m'=xs.length-(i+1)/\i+1<=xs.length/\Pv (i+1) (ys++[v]) (upd H4 D (.lst (ys++[v])))
   else ∃ m',m'<xs.length-i/\m'=xs.length-(i+1)/\i+1<=xs.length/\Pv (i+1) ys H3)(hd:∀ys H,Pv xs.length ys H->Q (.ref D) H):
  CW (Itl K a) tt te cap Z H D (fun H=>Q (.ref D) H):=by
 refine ⟨fun i m ys H=>m=xs.length-i/\i<=xs.length/\Pv i ys H,⟨xs.length,AY,BK _,h0⟩,?_⟩
 rintro i m ys H ⟨rfl,hi,p⟩
 obtain ⟨q1,q⟩:=hD i ys H p
 refine ⟨q1,?_⟩
 by_cases hlt:i<xs.length
 .refine .inr ⟨⟨xs,xs[i],q,by simp [hlt]⟩,fun x H' y=>?_⟩
  obtain ⟨e,y⟩:=y
  subst e
  exact hs i x ys _ (y xs q) p
 have e:i=xs.length:=by lia
 subst e
 exact .inl ⟨⟨xs,q,A9 _⟩,hd ys H p⟩
end L2
namespace L2
open PySem PySem.Spec PyProof.Rows
def Itd (lo:Int)(n:Nat):It:=⟨fun i _=>i<n,fun i H x H'=>H'=H/\x=.int (lo-i),fun i _=>n<=i⟩
theorem sv (a b:Int):Builtin.Range.rangeSize a b (-1)=((a-b).toNat:Int):=by
 unfold Builtin.Range.rangeSize
 rw [Bc AW]
 split
 .rw [show -(-1:Int)=1 by decide,Int.ediv_one];lia
 lia
theorem uo {a b:Int}(ha:-(2 ^ 62)<=a)(ha':a<2 ^ 62)(hb:-(2 ^ 62)<=b)(hb':b<2 ^ 62):Builtin.Range.small a b (-1)=true:=by
 unfold Builtin.Range.small
 rw [sv]
 simp only [Builtin.Range.rangeFitsLong,By,ED,BR,Eh,show ¬ ((-1:Int)>0) by decide,DE]
 lia
theorem kW {P:Program}{K:PySem.W.Frag}(it:Addr)(lo:Int)(n:Nat):lW P w K tg (Itd lo n) [it] it (fun i h=>IsRangeIter h it (lo+(i:Nat)*(-1)) ((n:Int)-(i:Nat)) (-1)) where
 mem:=by simp
 obj:=fun i h st b hb=>by
  have e:b=it:=by simpa using hb
  subst e
  exact ⟨_,st,fun v z=>by
   have z':Data.fields _=Data.cell v:=z
   cases z'⟩
 keep:=fun i h h' st k=>k it AY _ st
 item:=by
  intro X hP hw hK hc i pins s Z H E I hf st hg
  subst hP hw hK
  obtain ⟨f0,f1,f2,f3,f4,f5⟩:=hf it AY
  have W:=Walks.range (prog:=X.prog) (w:=X.w) (I.ok.hd hc) it lo (-1) n
  refine W.item i s _ _ hg st fun v h' tk hv st' kk=>?_
  obtain ⟨t,rfl⟩:=hv
  have I1:Inv X pins Z H { s with heap:=h',toks:=tk }:=I.turned (fun b o hb e=>kk b o (by simpa using hb) e) f0 f1 f3 f4 f5
  refine ⟨_,rfl,iN (s:={ s with heap:=h',toks:=tk }) (n:="range_iterator") st' rfl rfl AW ⟨.int (lo-i),H,I1,⟨t,?_⟩,⟨rfl,rfl⟩,st',fun b hb=>(hf b hb).1⟩⟩
  rw [show lo+(i:Int)*(-1)=lo-i by lia]
 done:=by
  intro X hP hw hK hc i pins s Z H E I hf st hg
  subst hP hw hK
  obtain ⟨f0,f1,f2,f3,f4,f5⟩:=hf it AY
  exact wpAny_pyNext_range_end (I.ok.hd hc) st (by have:n<=i:=hg;lia) fun h' eb=>⟨rfl,I.turned (t':=s.toks) (fun b o hb e=>eb b o hb e) f0 f1 f3 f4 f5⟩
 self:=fun _ _ _ _ _ st h=>wpAny_pyIter_rangeiter st h
section
variable {X:Cx}{tg:Expr}
theorem rX {R:It->Hp->Prop}{lo hi:Int}{t u v:Tok}{tk:Nat}(I:Inv X pins Z H s)(h1:-(2 ^ 62)<=lo)(h2:lo<2 ^ 62)(h3:-(2 ^ 62)<=hi)(h4:hi<2 ^ 62)(q:R (Itd lo (lo-hi).toNat) H):wpAny (model X.prog X.w) X.A (pyIter (.ref s.heap.objs.size)) (PIE X pins Z tg R) E { s with heap:=s.heap.push { cls:=.type "range",data:=.fields #[.int lo t,.int hi u,.int (-1) v] },toks:=tk }:=by
 refine wpAny_pyIter_range (IsRange.new ..) (uo h1 h2 h3 h4) ?_
 have I1:Inv X pins Z H { s with heap:=s.heap.push { cls:=.type "range",data:=.fields #[.int lo t,.int hi u,.int (-1) v] },toks:=tk }:=I.kept fun b o e=>Bg _ e
 refine ⟨(s.heap.push { cls:=.type "range",data:=.fields #[.int lo t,.int hi u,.int (-1) v] }).objs.size,[(s.heap.push { cls:=.type "range",data:=.fields #[.int lo t,.int hi u,.int (-1) v] }).objs.size],_,_,H,rfl,
  I1.kept (t':=tk) fun b o e=>Bg _ e,kW _ lo (lo-hi).toNat,?_,fun b hb=>?_,q⟩
 .have e1:lo+((0:Nat):Int)*(-1)=lo:=by simp
  have e2:(((lo-hi).toNat:Nat):Int)-((0:Nat):Int)=Builtin.Range.rangeSize lo hi (-1):=by rw [sv];lia
  show IsRangeIter _ _ (lo+((0:Nat):Int)*(-1)) ((((lo-hi).toNat:Nat):Int)-((0:Nat):Int)) (-1)
  rw [e1,e2]
  exact BB _ rfl
 have e:b=(s.heap.push { cls:=.type "range",data:=.fields #[.int lo t,.int hi u,.int (-1) v] }).objs.size:=by simpa using hb
 subst e
 exact I1.fpOk (A9 _) (I1.hok.fresh (A9 _))
def zO (ta:TA):TI:=fun Z H R=>ta Z H fun vs H1=>∃ i j:Int,vs=[.int i,.int j,.int (-1)]/\(-(2 ^ 62)<=i/\i<2 ^ 62/\-(2 ^ 62)<=j/\j<2 ^ 62)/\R (Itd i (i-j).toNat) H1
theorem i9 {a b c:Expr}{p:Pos}(hg:Gl X "range")(hm:X.mg "range"=none)(ha:QA X [a,b,c] ta)(hs:starEach [a,b,c] X.env=[(false,eval a X.env),(false,eval b X.env),(false,eval c X.env)]:=by rfl)(hs2:starEach [b,c] X.env=[(false,eval b X.env),(false,eval c X.env)]:=by rfl):
  QI X tg (.Call (.Name "range" p) [a,b,c] [] pos) (zO ta):=.mk (by
 have ha:=ha.to
 intro pins s Z H R I h
 refine Call_ (iC I hg hm boot_range (DL (thn (ha pos pins s Z H _ I h) fun us s1 ⟨vs,H1,I1,r1,q1⟩=>?_) (by rw [hs,hs2]) (by rw [hs2];rfl)))
 obtain ⟨i,j,e,⟨q1,q2,q3,q4⟩,q⟩:=q1
 subst e
 cases r1 with
 | cons r rr =>
  cases rr with
  | cons r' rr =>
   cases rr with
   | cons r'' rr =>
    cases rr
    obtain ⟨t,rfl⟩:=r
    obtain ⟨t',rfl⟩:=r'
    obtain ⟨t'',rfl⟩:=r''
    exact call_range_3 AW (rX I1 q1 q2 q3 q4 q) (.inl (PyProof.noPylong_small AW)))
theorem hU {lo:Int}{g:TG}{D:gf}(Pv:Nat->St->Hp->Prop)(h0:Pv 0 Z H)(hs:∀i Z H,i<n->Pv i Z H->g (.int (lo-i)) Z H fun σ2 H2=>tb { D with nx:=Pv (i+1),ct:=Pv (i+1),bk:=D.nx } σ2 H2)(hd:∀Z H,Pv n Z H->D.nx Z H):
  FW (Itd lo n) g tb D Z H:=by
 refine ⟨fun i m Z H=>m=n-i/\i<=n/\Pv i Z H,⟨n,AY,BK _,h0⟩,?_⟩
 rintro i m Z H ⟨rfl,hi,p⟩
 by_cases hlt:i<n
 .refine .inr ⟨hlt,Pv (i+1),fun σ' H' p'=>⟨n-(i+1),AX,rfl,hlt,p'⟩,fun x H' y=>?_⟩
  obtain ⟨e,y⟩:=y
  subst e y
  exact hs i Z _ hlt p
 have e:i=n:=by lia
 subst e
 exact .inl ⟨A9 _,hd Z H p⟩
end
end L2
namespace L2
open PySem
theorem iH {R:Hp->Prop}(Pv:Nat->List V->Hp->Prop)(h0:Pv 0 [] (upd H D (.lst [])))(hD:∀i ys H,Pv i ys H->H D=some (.lst ys)/\SqL K H a xs)(hs:∀i x ys H,xs[i]?=some x->Pv i ys H->tt (some x::bw cap Z) H fun b H3 =>
   if b=true then te (some x::bw cap Z) H3 fun v H4=>H4 D=some (.lst ys)/\ys.length<sizeLine/\∃ m',m'<xs.length-i/\m'=xs.length-(i+1)/\i+1<=xs.length/\Pv (i+1) (ys++[v]) (upd H4 D (.lst (ys++[v])))
   else ∃ m',m'<xs.length-i/\m'=xs.length-(i+1)/\i+1<=xs.length/\Pv (i+1) ys H3)(hd:∀ys H,Pv xs.length ys H->R H):
  CW (Itl K a) tt te cap Z H D R :=
 rW (Q:=fun _ H=>R H) Pv h0 hD hs hd
end L2
namespace Hm
open PySem L2
def lgs (n:Nat):Nat->Nat
 | 0=>0
 | k+1=>lgs n k+(n / (k+1)).log2
theorem iI {lt:V->V->Bool}(o:Od lt)(h:IsH lt xs):∀k,k<xs.length->lt (g xs k) (g xs 0)=false:=fun k=>by
 induction k using Nat.strongRecOn with
 | _ k ih =>
  intro hk
  by_cases k0:k=0
  .subst k0;exact o.irr _
  .exact o.nt _ _ _ (h k AX hk) (ih ((k-1) / 2) AX AX)
theorem iM {lt:V->V->Bool}(o:Od lt)(h:IsH lt xs)(hy:y∈xs):lt y (g xs 0)=false:=by
 obtain ⟨k,hk,e⟩:=Cw hy
 rw [<-e,<-g_get hk]
 exact iI o h k hk
def cutf (lt:V->V->Bool)(xs:List V):List V×Nat :=
 if xs.dropLast=[] then ([],0) else dn lt xs.dropLast.length (xs.dropLast.set 0 (g xs (xs.length-1))) 0 0
theorem cC (h:2<=xs.length):∃ mid,xs=g xs 0::mid++[g xs (xs.length-1)]/\xs.dropLast=g xs 0::mid:=by
 cases xs with
 | nil=>simp at h
 | cons a l =>
  have hl:l≠[]:=by intro e;rw [e] at h;simp at h
  refine ⟨l.dropLast,?_,?_⟩
  .show a::l=a::l.dropLast++[g (a::l) l.length]
   have:g (a::l) l.length=l.getLast hl:=by
    rw [g_get AY]
    rw [Fi]
    rw [List.getElem_cons]
    have:l.length≠0:=by intro e;exact hl (Bx.mp e)
    simp [this]
   rw [this,Ck,Ex]
  .show (a::l).dropLast=a::l.dropLast
   exact Ey hl
theorem cE {lt:V->V->Bool}(h:xs.length=1):cutf lt xs=([],0):=by
 unfold cutf
 rw [Bf]
 rw [<-Bx,BU,h]
theorem dC {lt:V->V->Bool}{mid:List V}(e:xs.dropLast=g xs 0::mid):cutf lt xs=dn lt (mid.length+1) (g xs (xs.length-1)::mid) 0 0:=by
 unfold cutf
 rw [Bc (by rw [e];simp),e]
 rfl
theorem cv {lt:V->V->Bool}(h:0<xs.length):(g xs 0::(cutf lt xs).1).Perm xs:=by
 by_cases h2:2<=xs.length
 .obtain ⟨mid,e,e2⟩:=cC h2
  rw [dC e2]
  refine (List.Perm.cons _ dn_perm).trans ?_
  conv=>rhs;rw [e]
  rw [Ck]
  refine List.Perm.cons _ ?_
  exact (DO (l₁:=[g xs (xs.length-1)]) (l₂:=mid))
 rw [cE AX]
 cases xs with
 | nil=>simp at h
 | cons a l =>
  have:l=[]:=Bx.mp (by rw [Bj] at h2;lia)
  subst this
  exact .refl _
theorem dO {lt:V->V->Bool}(o:Od lt)(h:IsH lt xs)(hl:0<xs.length):IsH lt (cutf lt xs).1:=by
 by_cases h2:2<=xs.length
 .obtain ⟨mid,e,e2⟩:=cC h2
  rw [dC e2]
  have len:xs.length=mid.length+2:=by
   have:=congrArg List.length e2
   rw [BU,Bj] at this
   lia
  have gm:∀k,k<mid.length->g (g xs (xs.length-1)::mid) (k+1)=g xs (k+1):=fun k hk=>by
   have e3:(g xs 0::mid++[g xs (xs.length-1)])[k+1]?=some mid[k]:=by
    rw [Ck,Dr,CD hk,bt hk]
   rw [<-e] at e3
   show (g xs (xs.length-1)::mid).getD (k+1) .non=xs.getD (k+1) .non
   rw [Bz,Bz,e3,Dr,bt hk]
  refine HF.zero (dZ o (by rw [Bj];lia) (A9 _) (fun k k0 k1 _ k3=>?_) (.inl rfl))
  rw [Bj] at k1
  obtain ⟨k',rfl⟩:∃ k',k=k'+1:=⟨k-1,AX⟩
  obtain ⟨j,hj⟩:∃ j,(k'+1-1) / 2=j+1:=⟨(k'+1-1) / 2-1,AX⟩
  rw [hj,gm k' AX,gm j AX]
  have:=h (k'+1) AX AX
  rwa [hj] at this
 rw [cE AX]
 intro k k0 k1
 exact absurd k1 AY
end Hm
namespace L2
open PySem PySem.Spec PyProof.Rows
open PySem.SeqAt (EqAt RcAt RcNeAt)
theorem mX {o:Expr}{to:TE}{name:Str}{T id:String}{r:V->List V->Hp->VK->Prop}(pa:PlainAttrs T)(slot:Slot T name id)(hty:typeOf (.builtin id)=pure (.type "method_descriptor"))(hm:MtR X id r)(ho:QE X o to)(hbase:attributeBase o name X.env (eval o X.env)=eval o X.env:=by rfl)(hline:(apos.endLine == cpos.line)=true:=by rfl):QE X (.Call (.Attribute o name apos) [] [] cpos) (Ap X.K T r to):=.mk (by
 have ho:=ho.to
 intro pins s Z H Q I h
 refine wpAny_Call_method0_late hbase hline (thn (ho pins s Z H _ I h) fun v s1 zz=>?_)
 obtain ⟨x,H1,I1,r1,ty,q1⟩:=zz
 obtain ⟨h1,h2⟩:=ul I1 r1 ty
 exact ⟨T,id,pa,slot,hty,h1,h2,CP rfl (PySem.evalArgs_none (hm pins s1 Z H1 x [] v [] Q I1 r1 .nil q1))⟩)
theorem cH:QS X st (fun _ _ _=>False):=.mk (fun _ _ _ _ _ _ h=>h.elim)
end L2
namespace PySem
open Sem (wp)
namespace Heap
def TracedC (h base:Heap)(e:Addr)(cls a0:Value):Prop :=
 ∃ oe vs T oT ts,h.get? e=some oe/\(oe.cls=cls/\(vs[0]?=some a0/\vs[2]?=some .none))/\oe.data=.fields vs/\vs[1]?=some (.ref T)/\base.get? T=none/\T≠e/\h.get? T=some oT/\oT.data=.fields ts/\ts[3]?=some .none
def TracedAtC (h base:Heap)(e:Addr)(cls a0 fl:Value):Prop :=
 ∃ oe vs T oT ts,h.get? e=some oe/\(oe.cls=cls/\(vs[0]?=some a0/\vs[2]?=some .none))/\oe.data=.fields vs/\vs[1]?=some (.ref T)/\base.get? T=none/\T≠e/\h.get? T=some oT/\oT.data=.fields ts/\ts[3]?=some fl
theorem TracedC.at (x:h.TracedC base e cls a0):h.TracedAtC base e cls a0 .none:=x
def NotedC (base:Heap)(l:List Env)(e:Addr)(cls a0 fl:Value)(h h':Heap):Prop :=
 base.StaysIn h'/\h'.FunFrames base l/\h'.TracedAtC base e cls a0 fl/\∀b o,h.get? b=some o->(∀vs,o.data≠.fields vs)->∃ sl,h'.get? b=some { o with slots:=sl }
end Heap
section
variable {M:Model}{A:Around}{E:Value->Shared->Prop}{s:Shared}
def Heap.LeftC (base:Heap)(l:List Env)(e:Addr)(cls a0:Value)(h h':Heap):Prop :=
 base.StaysIn h'/\h'.FunFrames base l/\h'.TracedC base e cls a0 /\
  ∀b o,h.get? b=some o->(∀vs,o.data≠.fields vs)->∃ sl,h'.get? b=some { o with slots:=sl }
theorem dl {L:Addr}{vs:Array Value}{head:Value}{Q:Unit->Shared->Prop}(hfr:A.frames=some (env::outer))(hl:s.heap.FunFrames base (env::outer))(hf:env.frame=some L)(he:s.heap.get? e=some oe)(hkb:base.StaysIn s.heap)(hen:base.get? e=none)(hd:oe.data=.fields vs)(hsz:1<vs.size)(h0:vs[0]?=some a0/\vs[2]?=some .none)(h:∀h',Heap.LeftC base (env::outer) e oe.cls a0 s.heap h'->Q () { s with heap:=h' }):
  wpAny M A (do let a <-frameOf env;let pl <-entryPlaceOf L hadNext;let b <-EntryCells.newEntry head a .none (rawInt L) .none pl;setField (.ref e) 1 b) (fun _ s'=>wpAny M A (setFlight (.ref e) none) Q E s') E s:=by
 have hene:e∉(env::outer).filterMap (·.frame):=fun hm=>by
  obtain ⟨_,o,ho,hnf⟩:=hl.mem hm
  rw [he] at ho;injection ho with ho;subst ho;exact hnf vs hd
 refine Be (wpAny_frameOf_fun hfr hl hf fun h₁ hs₁=>?_)
 refine Be (wpAny_entryPlaceOf fun pl hpl=>?_)
 unfold EntryCells.newEntry newFields
 refine Be (Cv ?_ (hpl.sizeOk5 _ _ _ _ _))
 have he₁:h₁.get? e=some oe:=(hs₁.2.1 e hene).trans he
 have kb1:base.StaysIn h₁:=fun b o hbo=>(hs₁.2.1 b fun hm=>by rw [(hl.mem hm).1] at hbo;cases hbo).trans (hkb b o hbo)
 have he₂:=Bg (h:=h₁) { cls:=.type "traceback",dict:=none,data:=.fields ([head,.ref L,.none,rawInt L,.none]++(if pl.isEmpty then List.replicate 6 Value.none else pl)).toArray } he₁
 refine DY he₂ hd hsz ?_
 have hTe:h₁.objs.size≠e:=Fy (Bp he₁)
 have hd₃:=CY hd (·.setIfInBounds 1 (Value.ref h₁.objs.size))
 have he3:=CV (Obj.mapFields (·.setIfInBounds 1 (Value.ref h₁.objs.size))) he₂ (DP hd₃)
 have hT3:=(BN (h₁.push { cls:=.type "traceback",dict:=none,data:=.fields ([head,.ref L,.none,rawInt L,.none]++(if pl.isEmpty then List.replicate 6 Value.none else pl)).toArray })
  (Obj.mapFields (·.setIfInBounds 1 (Value.ref h₁.objs.size))) (Cm hTe)).trans (BB h₁ rfl)
 unfold setFlight
 refine Be (Dq he3 hd₃ (x:=.ref h₁.objs.size) (by simp [hsz]) ?_)
 rw [Bf (show (Value.ref h₁.objs.size != Value.none)=true from by simp)]
 refine DY hT3 rfl (by simp only [Bo,Bi,Bj,CG] <;> lia) (h _ ?_)
 have keep:∀b o,b≠e->h₁.get? b=some o ->
   (((h₁.push { cls:=.type "traceback",dict:=none,data:=.fields ([head,.ref L,.none,rawInt L,.none]++(if pl.isEmpty then List.replicate 6 Value.none else pl)).toArray }).update e (Obj.mapFields (·.setIfInBounds 1 (Value.ref h₁.objs.size)))).update h₁.objs.size
    (Obj.mapFields (·.setIfInBounds 3 ((none:Option Addr).elim Value.none fun f=>rawInt f)))).get? b=some o:=fun b o hbe hb=>by
  have hbT:h₁.objs.size≠b:=Fy (Bp hb)
  rw [BN _ _ hbT,BN _ _ (Cm hbe)]
  exact Bg _ hb
 have noRecord:∀b o,s.heap.get? b=some o->(∀vs,o.data≠.fields vs)->b≠e:=fun b o hb hnf q=>by
  rw [q,he] at hb;injection hb with hb;subst hb;exact hnf vs hd
 refine ⟨fun b o hbo=>keep b o (fun q=>by rw [q,hen] at hbo;cases hbo) (kb1 b o hbo),hl.of_keeps fun b o hb hnf=>?_,?_,fun b o hb hnf=>?_⟩
 .obtain ⟨sl,hs⟩:=hs₁.2.2 b o hb
  exact ⟨_,keep b _ (noRecord b o hb hnf) hs,rfl⟩
 .refine ⟨_,_,h₁.objs.size,_,_,?_,⟨Obj.cls_mapFields _ _,by rw [Cy AW];exact h0.1,by rw [Cy AW];exact h0.2⟩,hd₃,by simp [hsz],kb1.fresh,hTe,CV _ hT3 (DP (CY rfl _)),CY rfl _,by first | (simp;done) | (rcases hpl with rfl | ⟨_,_,_,_,_,_,_,rfl⟩ <;> simp)⟩
  rw [BN _ _ hTe];exact he3
 obtain ⟨sl,hs⟩:=hs₁.2.2 b o hb
 exact ⟨sl,keep b _ (noRecord b o hb hnf) hs⟩
theorem dz {L:Addr}{vs:Array Value}{Q:Unit->Shared->Prop}(hfr:A.frames=some (env::outer))(hl:s.heap.FunFrames base (env::outer))(hf:env.frame=some L)(he:s.heap.get? e=some oe)(hkb:base.StaysIn s.heap)(hen:base.get? e=none)(hd:oe.data=.fields vs)(h1:vs[1]?=some .none)(h0:vs[0]?=some a0/\vs[2]?=some .none)(h:∀h',Heap.LeftC base (env::outer) e oe.cls a0 s.heap h'->Q () { s with heap:=h' }):wpAny M A (leaving env (.ref e)) Q E s:=by
 unfold leaving noteFrame
 simp only [hf]
 refine Be (Be (Dq he hd h1 ?_))
 rw [Bc AW]
 exact dl hfr hl hf he hkb hen hd (B9.mp h1).1 h0 h
theorem eE {L:Addr}{Q:Unit->Shared->Prop}(hfr:A.frames=some (env::outer))(hl:s.heap.FunFrames base (env::outer))(hf:env.frame=some L)(ht:s.heap.TracedC base e cls a0)(hkb:base.StaysIn s.heap)(hen:base.get? e=none)(h:∀h',Heap.LeftC base (env::outer) e cls a0 s.heap h'->Q () { s with heap:=h' }):wpAny M A (leaving env (.ref e)) Q E s:=by
 obtain ⟨oe,vs,T,oT,ts,he,⟨hcls,h0⟩,hd,h1,hnT,hTe,hT,hdT,h3⟩:=ht
 subst hcls
 unfold leaving noteFrame
 simp only [hf]
 refine Be (Be (Dq he hd h1 ?_))
 rw [Bf (show (Value.ref T != Value.none)=true from by simp)]
 refine Be (Dq hT hdT h3 ?_)
 rw [Bc (show ¬ ((Value.none == rawInt L)=true) from by simp [rawInt])]
 refine Be (DY hT hdT (B9.mp h3).1 ?_)
 have other:∀b,b≠T->(s.heap.update T (Obj.mapFields (·.setIfInBounds 3 Value.none))).get? b=s.heap.get? b:=fun b hb=>BN _ _ (Cm hb)
 have noRecord:∀b o,s.heap.get? b=some o->(∀vs,o.data≠.fields vs)->b≠T:=fun b o hb hnf q=>by
  rw [q,hT] at hb;injection hb with hb;subst hb;exact hnf ts hdT
 refine dl hfr (hl.of_keeps fun b o hb hnf=>⟨o,(other b (noRecord b o hb hnf)).trans hb,rfl⟩) hf ((other e (Cm hTe)).trans he)
  (fun b o hbo=>(other b fun q=>by rw [q,hnT] at hbo;cases hbo).trans (hkb b o hbo)) hen hd (B9.mp h1).1 h0
  fun h' ⟨x1,x2,x3,x4⟩=>h h' ⟨x1,x2,x3,fun b o hb hnf=>x4 b o ((other b (noRecord b o hb hnf)).trans hb) hnf⟩
def Heap.FlyingC (base:Heap)(l:List Env)(e:Addr)(cls a0:Value)(h:Heap):Prop :=
 base.StaysIn h/\base.get? e=none/\h.FunFrames base l/\h.TracedC base e cls a0
theorem Heap.FlyingC.there {l:List Env}(x:Heap.FlyingC base l e cls a0 h):∃ ob,h.get? e=some ob/\ob.cls=cls:=by
 obtain ⟨_,_,_,oe,_,_,_,_,he,hc,_⟩:=x
 exact ⟨oe,he,hc.1⟩
theorem fX {L:Addr}{Q:Unit->Shared->Prop}(hfr:A.frames=some (env::outer))(hf:env.frame=some L)(hfl:Heap.FlyingC base (env::outer) e cls a0 s.heap)(hQ:∀h',Heap.FlyingC base outer e cls a0 h'->s.heap.UpToSlots h'->Q () { s with heap:=h' }):wpAny M A (leaving env (.ref e)) Q E s:=by
 obtain ⟨f1,f2,f3,f4⟩:=hfl
 refine eE hfr f3 hf f4 f1 f2 fun h' hL=>?_
 obtain ⟨k1,⟨_,_,k2⟩,k3,k4⟩:=hL
 exact hQ h' ⟨k1,f2,k2,k3⟩ k4
theorem kC {L:Addr}{vs:Array Value}{head:Value}{Q:Unit->Shared->Prop}(hfr:A.frames=some (env::outer))(hl:s.heap.FunFrames base (env::outer))(hf:env.frame=some L)(he:s.heap.get? e=some oe)(hkb:base.StaysIn s.heap)(hen:base.get? e=none)(hd:oe.data=.fields vs)(hsz:1<vs.size)(h0:vs[0]?=some a0/\vs[2]?=some .none)(h:∀h',Heap.NotedC base (env::outer) e oe.cls a0 (rawInt L) s.heap h'->Q () { s with heap:=h' }):
  wpAny M A (do let a <-frameOf env;let pl <-entryPlaceOf L hadNext;let b <-EntryCells.newEntry head a .none (rawInt L) .none pl;setField (.ref e) 1 b) Q E s:=by
 have hene:e∉(env::outer).filterMap (·.frame):=fun hm=>by
  obtain ⟨_,o,ho,hnf⟩:=hl.mem hm
  rw [he] at ho;injection ho with ho;subst ho;exact hnf vs hd
 refine Be (wpAny_frameOf_fun hfr hl hf fun h₁ hs₁=>?_)
 refine Be (wpAny_entryPlaceOf fun pl hpl=>?_)
 unfold EntryCells.newEntry newFields
 refine Be (Cv ?_ (hpl.sizeOk5 _ _ _ _ _))
 have he₁:h₁.get? e=some oe:=(hs₁.2.1 e hene).trans he
 have kb1:base.StaysIn h₁:=fun b o hbo=>(hs₁.2.1 b fun hm=>by rw [(hl.mem hm).1] at hbo;cases hbo).trans (hkb b o hbo)
 have he₂:=Bg (h:=h₁) { cls:=.type "traceback",dict:=none,data:=.fields ([head,.ref L,.none,rawInt L,.none]++(if pl.isEmpty then List.replicate 6 Value.none else pl)).toArray } he₁
 refine DY he₂ hd hsz (h _ ?_)
 have hTe:h₁.objs.size≠e:=Fy (Bp he₁)
 have hd₃:=CY hd (·.setIfInBounds 1 (Value.ref h₁.objs.size))
 have he3:=CV (Obj.mapFields (·.setIfInBounds 1 (Value.ref h₁.objs.size))) he₂ (DP hd₃)
 have hT3:=(BN (h₁.push { cls:=.type "traceback",dict:=none,data:=.fields ([head,.ref L,.none,rawInt L,.none]++(if pl.isEmpty then List.replicate 6 Value.none else pl)).toArray })
  (Obj.mapFields (·.setIfInBounds 1 (Value.ref h₁.objs.size))) (Cm hTe)).trans (BB h₁ rfl)
 have keep:∀b o,b≠e->h₁.get? b=some o ->
   ((h₁.push { cls:=.type "traceback",dict:=none,data:=.fields ([head,.ref L,.none,rawInt L,.none]++(if pl.isEmpty then List.replicate 6 Value.none else pl)).toArray }).update e (Obj.mapFields (·.setIfInBounds 1 (Value.ref h₁.objs.size)))).get? b=some o :=
  fun b o hbe hb=>by
   rw [BN _ _ (Cm hbe)]
   exact Bg _ hb
 have noRecord:∀b o,s.heap.get? b=some o->(∀vs,o.data≠.fields vs)->b≠e:=fun b o hb hnf q=>by
  rw [q,he] at hb;injection hb with hb;subst hb;exact hnf vs hd
 refine ⟨fun b o hbo=>keep b o (fun q=>by rw [q,hen] at hbo;cases hbo) (kb1 b o hbo),hl.of_keeps fun b o hb hnf=>?_,?_,fun b o hb hnf=>?_⟩
 .obtain ⟨sl,hs⟩:=hs₁.2.2 b o hb
  exact ⟨_,keep b _ (noRecord b o hb hnf) hs,rfl⟩
 .exact ⟨_,_,h₁.objs.size,_,_,he3,⟨Obj.cls_mapFields _ _,by rw [Cy AW];exact h0.1,by rw [Cy AW];exact h0.2⟩,hd₃,by simp [hsz],kb1.fresh,hTe,hT3,rfl,by first | (simp;done) | (rcases hpl with rfl | ⟨_,_,_,_,_,_,_,rfl⟩ <;> simp)⟩
 obtain ⟨sl,hs⟩:=hs₁.2.2 b o hb
 exact ⟨sl,keep b _ (noRecord b o hb hnf) hs⟩
theorem eB {L:Addr}{Q:Unit->Shared->Prop}(hfr:A.frames=some (env::outer))(hl:s.heap.FunFrames base (env::outer))(hf:env.frame=some L)(ht:s.heap.TracedC base e cls a0)(hkb:base.StaysIn s.heap)(hen:base.get? e=none)(h:∀h',Heap.NotedC base (env::outer) e cls a0 (rawInt L) s.heap h'->Q () { s with heap:=h' }):wpAny M A (noteFrame (.ref e) env) Q E s:=by
 obtain ⟨oe,vs,T,oT,ts,he,⟨hcls,h0⟩,hd,h1,hnT,hTe,hT,hdT,h3⟩:=ht
 subst hcls
 unfold noteFrame
 simp only [hf]
 refine Be (Dq he hd h1 ?_)
 rw [Bf (show (Value.ref T != Value.none)=true from by simp)]
 refine Be (Dq hT hdT h3 ?_)
 rw [Bc (show ¬ ((Value.none == rawInt L)=true) from by simp [rawInt])]
 refine Be (DY hT hdT (B9.mp h3).1 ?_)
 have other:∀b,b≠T->(s.heap.update T (Obj.mapFields (·.setIfInBounds 3 Value.none))).get? b=s.heap.get? b:=fun b hb=>BN _ _ (Cm hb)
 have noRecord:∀b o,s.heap.get? b=some o->(∀vs,o.data≠.fields vs)->b≠T:=fun b o hb hnf q=>by
  rw [q,hT] at hb;injection hb with hb;subst hb;exact hnf ts hdT
 refine kC hfr (hl.of_keeps fun b o hb hnf=>⟨o,(other b (noRecord b o hb hnf)).trans hb,rfl⟩) hf ((other e (Cm hTe)).trans he)
  (fun b o hbo=>(other b fun q=>by rw [q,hnT] at hbo;cases hbo).trans (hkb b o hbo)) hen hd (B9.mp h1).1 h0
  fun h' ⟨x1,x2,x3,x4⟩=>h h' ⟨x1,x2,x3,fun b o hb hnf=>x4 b o ((other b (noRecord b o hb hnf)).trans hb) hnf⟩
theorem bX {l:List Env}{fl:Value}{Q:Unit->Shared->Prop}(hkb:base.StaysIn s.heap)(hl:s.heap.FunFrames base l)(ht:s.heap.TracedAtC base e cls a0 fl)(h:∀h',base.StaysIn h'->h'.FunFrames base l->h'.TracedC base e cls a0->(∀b o,s.heap.get? b=some o->(∀vs,o.data≠.fields vs)->h'.get? b=some o)->Q () { s with heap:=h' }):
  wpAny M A (setFlight (.ref e) none) Q E s:=by
 obtain ⟨oe,vs,T,oT,ts,he,hcls,hd,h1,hnT,hTe,hT,hdT,h3⟩:=ht
 have hsz3:3<ts.size:=(B9.mp h3).1
 have other:∀b,b≠T->(s.heap.update T (Obj.mapFields (·.setIfInBounds 3 ((none:Option Addr).elim Value.none fun f=>rawInt f)))).get? b=s.heap.get? b :=
  fun b hb=>BN _ _ (Cm hb)
 have noRecord:∀b o,s.heap.get? b=some o->(∀vs,o.data≠.fields vs)->b≠T:=fun b o hb hnf q=>by
  rw [q,hT] at hb;injection hb with hb;subst hb;exact hnf ts hdT
 unfold setFlight
 refine Be (Dq he hd h1 ?_)
 rw [Bf (show (Value.ref T != Value.none)=true from by simp)]
 refine DY hT hdT hsz3 (h _ (fun b o hbo=>(other b fun q=>by rw [q,hnT] at hbo;cases hbo).trans (hkb b o hbo))
  (hl.of_keeps fun b o hb hnf=>⟨o,(other b (noRecord b o hb hnf)).trans hb,rfl⟩) ?_ fun b o hb hnf=>(other b (noRecord b o hb hnf)).trans hb)
 exact ⟨oe,vs,T,_,_,(other e (Cm hTe)).trans he,hcls,hd,h1,hnT,hTe,CV _ hT (DP (CY hdT _)),CY hdT _,by simp [hsz3]⟩
def Heap.HeldC (base:Heap)(l:List Env)(e:Addr)(cls a0:Value)(L:Addr)(h:Heap):Prop :=
 base.StaysIn h/\base.get? e=none/\h.FunFrames base l/\h.TracedAtC base e cls a0 (rawInt L)
theorem gz {L:Addr}{Q:Unit->Shared->Prop}(hfr:A.frames=some (env::outer))(hf:env.frame=some L)(hfl:Heap.FlyingC base (env::outer) e cls a0 s.heap)(hQ:∀h',Heap.HeldC base (env::outer) e cls a0 L h'->s.heap.UpToSlots h'->Q () { s with heap:=h' }):wpAny M A (noteFrame (.ref e) env) Q E s:=by
 obtain ⟨f1,f2,f3,f4⟩:=hfl
 refine eB hfr f3 hf f4 f1 f2 fun h' hN=>?_
 obtain ⟨k1,k2,k3,k4⟩:=hN
 exact hQ h' ⟨k1,f2,k2,k3⟩ k4
theorem kq {l:List Env}{L:Addr}{Q:Unit->Shared->Prop}(hh:Heap.HeldC base l e cls a0 L s.heap)(hQ:∀h',Heap.FlyingC base l e cls a0 h'->s.heap.UpToSlots h'->Q () { s with heap:=h' }):wpAny M A (setFlight (.ref e) none) Q E s:=by
 obtain ⟨f1,f2,f3,f4⟩:=hh
 exact bX f1 f3 f4 fun h' k1 k2 k3 k4=>hQ h' ⟨k1,f2,k2,k3⟩ fun b o hb hn=>⟨o.slots,k4 b o hb hn⟩
theorem eP {L:Addr}{Q:Unit->Shared->Prop}(hfr:A.frames=some (env::outer))(hf:env.frame=some L)(hkb:base.StaysIn h)(hl:h.FunFrames base (env::outer))(hx:Heap.MadeExcOf h s.heap e cls args)(hQ:∀h' t,Heap.FlyingC base outer e cls (.ref t) h'->h'.TupAt t args->base.get? t=none->s.heap.UpToSlots h'->Q () { s with heap:=h' }):wpAny M A (leaving env (.ref e)) Q E s:=by
 obtain ⟨t,he,htn,ht⟩:=hx.there
 have fresh:∀b,h.get? b=none->base.get? b=none:=fun b hb=>by
  cases hq:base.get? b with
  | none=>rfl
  | some o'=>have:=hkb b o' hq;rw [hb] at this;cases this
 refine dz (a0:=.ref t) hfr (hl.of_keeps fun b o hb _=>⟨o,hx.keeps b o hb,rfl⟩) hf he (fun b o hb=>hx.keeps b o (hkb b o hb)) (fresh e hx.new) rfl rfl ⟨rfl,rfl⟩ fun h' hL=>?_
 obtain ⟨k1,⟨_,_,k2⟩,k3,k4⟩:=hL
 exact hQ h' t ⟨k1,fresh e hx.new,k2,k3⟩ (Heap.TupAt.of_slots ⟨_,_,ht,rfl,rfl⟩ k4) (fresh t htn) k4
end
end PySem
namespace L2
open PySem PySem.Spec PyProof.Rows
theorem jJ {M:Model}{l:List Env}{Q:Unit->Shared->Prop}(hh:Heap.FlyingC base l e cls a0 s.heap)(hQ:∀h',Heap.FlyingC base l e cls a0 h'->s.heap.UpToSlots h'->Q () { s with heap:=h' }):wpAny M A (setFlight (.ref e) none) Q E s:=by
 obtain ⟨f1,f2,f3,f4⟩:=hh
 exact bX f1 f3 f4.at fun h' k1 k2 k3 k4=>hQ h' ⟨k1,f2,k2,k3⟩ fun b o hb hn=>⟨o.slots,k4 b o hb hn⟩
structure Ground (P:Program)(w:World)(fs:List Addr)(H H':Hp)(h B:Heap):Prop where
 ok:HOk P w H' B
 old:∀b o,h.get? b=some o->H b=none->b∉fs->B.get? b=some o
 there:∀b o,h.get? b=some o->b∉fs->∃ o',B.get? b=some o'
def CXe (P:Program)(w:World):CXT:=fun outer H s E v s'=>∃ (e C:Addr) (H':Hp) (B:Heap) (a0:Value),v=.ref e/\s'.os=s.os/\AllBare s'.gens/\Un (frs outer) [] H H' s.heap s'.heap /\
 Ground P w (frs outer) H H' s.heap B/\Heap.FlyingC B outer e (.ref C) a0 s'.heap/\E (.ref C) none H'
theorem HOk.get {P:Program}(x:HOk P w H h)(e:H a=some o):∃ ob,h.get? a=some ob:=by
 have q:=x a o e
 cases o with
 | lst xs=>obtain ⟨_,_,_,_,e⟩:=q;exact ⟨_,e⟩
 | tup xs=>obtain ⟨_,_,_,ob,e,_⟩:=q;exact ⟨_,e⟩
 | dK kvs=>obtain ⟨_,_,_,_,o,_,_,e,_⟩:=q;exact ⟨_,e⟩
 | dT kvs=>obtain ⟨_,_,_,_,o,_,_,e,_⟩:=q;exact ⟨_,e⟩
 | set S n=>obtain ⟨o,_,_,_,e,_⟩:=q;exact ⟨_,e⟩
 | ins C dx fs=>obtain ⟨_,_,_,e,_⟩:=q;exact ⟨_,e⟩
 | own y=>obtain ⟨_,e⟩:=q;exact ⟨_,e⟩
 | xd fs=>obtain ⟨_,⟨_,_,_,e,_⟩,_⟩:=q;exact ⟨_,e⟩
 | rng lo hi=>obtain ⟨_,_,_,e⟩:=q;exact ⟨_,e⟩
 | frz ob u=>obtain ⟨e,_⟩:=q;exact ⟨_,e⟩
 | tbl ps=>exact ⟨_,show h.get? a=some _ from q⟩
 | met f y=>exact ⟨_,show h.get? a=some _ from q⟩
 | ext φ=>obtain ⟨_,e,_⟩:=q;exact e
section
variable {X:Cx}{pins:List (Addr×Obj)}{Z:St}{H H':Hp}{s s':Shared}{B:Heap}
def Kp (X:Cx)(pins:List (Addr×Obj))(Z:St)(H':Hp)(s':Shared)(B:Heap):Prop:=∀h' t',B.StaysIn h'->s'.heap.UpToSlots h'->Inv X pins Z H' { s' with heap:=h',toks:=t' }
theorem Inv.kp (I:Inv X pins Z H s)(os:s'.os=s.os)(bare:AllBare s'.gens)(U:Un (frs X.stack) [] H H' s.heap s'.heap)(G:Ground X.prog X.w (frs X.stack) H H' s.heap B):Kp X pins Z H' s' B:=fun h' t' st up=>by
 have nof:∀b∈frs X.stack,∀o,s.heap.get? b=some o->∃ sl,h'.get? b=some { o with slots:=sl }:=fun b hb o e=>by
  obtain ⟨_,o',ho',hd⟩:=I.stack.mem hb
  rw [e] at ho'
  cases ho'
  obtain ⟨sl,e1⟩:=U.slot b o e (I.stkFree b hb) hb AY
  exact up b { o with slots:=sl } e1 hd
 have U2:Un (frs X.stack) [] H H' s.heap h':=⟨fun b o e n hb _=>st b o (G.old b o e n hb),fun b o e n hb _=>nof b hb o e,U.free,fun b o e _=>by
  by_cases hb:b∈frs X.stack
  .obtain ⟨sl,q⟩:=nof b hb o e
   exact ⟨_,q⟩
  .obtain ⟨o',q⟩:=G.there b o e hb
   exact ⟨o',st b o' q⟩,U.tups,U.frzs,U.tbls⟩
 obtain ⟨hh,g,d,t,o'⟩:=s'
 obtain rfl:o'=s.os:=os
 have:=I.call (h':=h') (g':=g) (d':=d) (t':=t') (ch:=[]) U2 (G.ok.kept st) bare (fun b z=>absurd z AY)
 exact this
def Kt (X:Cx)(pins:List (Addr×Obj))(Z:St)(H':Hp)(s':Shared)(B:Heap):Prop:=∀h' t' e o,B.StaysIn h'->s'.heap.UpToSlots h'->B.get? e=none->e∉frs X.stack->ObjOk X.prog X.w (upd H' e o) h' e o->Inv X pins Z (upd H' e o) { s' with heap:=h',toks:=t' }
theorem Inv.kt (I:Inv X pins Z H s)(os:s'.os=s.os)(bare:AllBare s'.gens)(U:Un (frs X.stack) [] H H' s.heap s'.heap)(G:Ground X.prog X.w (frs X.stack) H H' s.heap B):Kt X pins Z H' s' B:=fun h' t' e o st up hn hf new=>by
 have nof:∀b∈frs X.stack,∀o,s.heap.get? b=some o->∃ sl,h'.get? b=some { o with slots:=sl }:=fun b hb o e=>by
  obtain ⟨_,o',ho',hd⟩:=I.stack.mem hb
  rw [e] at ho'
  cases ho'
  obtain ⟨sl,e1⟩:=U.slot b o e (I.stkFree b hb) hb AY
  exact up b { o with slots:=sl } e1 hd
 have tr:∀b u,H' b=some u->b≠e:=fun b u q z=>by
  obtain ⟨ob,q2⟩:=G.ok.get q
  rw [z,hn] at q2;cases q2
 have U2:Un (frs X.stack) [] H (upd H' e o) s.heap h':=⟨fun b o e n hb _=>st b o (G.old b o e n hb),fun b o e n hb _=>nof b hb o e,fun b o1 e1 n hx=>by
  have hb:b≠e:=fun z=>by
   subst z
   have:=G.old b o1 e1 n hf
   rw [hn] at this;cases this
  rw [ai hb]
  exact U.free b o1 e1 n hx,fun b o e _=>by
  by_cases hb:b∈frs X.stack
  .obtain ⟨sl,q⟩:=nof b hb o e
   exact ⟨_,q⟩
  .obtain ⟨o',q⟩:=G.there b o e hb
   exact ⟨o',st b o' q⟩,fun b xs q=>by rw [ai (tr b _ (U.tups b xs q))];exact U.tups b xs q,fun b ob u q=>by rw [ai (tr b _ (U.frzs b ob u q))];exact U.frzs b ob u q,fun b ps q=>by
   obtain ⟨m,q2⟩:=U.tbls b ps q
   exact ⟨m,by rw [ai (tr b _ q2)];exact q2⟩⟩
 have hk:HOk X.prog X.w (upd H' e o) h':=fun b u q=>by
  by_cases hb:b=e
  .subst hb
   rw [ad] at q
   cases q
   exact new
  .rw [ai hb] at q
   exact (G.ok b u q).stay (fun c v _ z=>st c v z) (fun c z=>by rw [ai (tr c _ z)];exact z) fun c xs z=>by rw [ai (tr c _ z)];exact z
 obtain ⟨hh,g,d,t,o'⟩:=s'
 obtain rfl:o'=s.os:=os
 have:=I.call (h':=h') (g':=g) (d':=d) (t':=t') (ch:=[]) U2 hk bare (fun b z=>absurd z AY)
 exact this
def XP (X:Cx)(pins:List (Addr×Obj))(Z:St)(E:XK)(v:Value)(s':Shared):Prop:=∃ (e C:Addr) (H':Hp) (B:Heap) (a0:Value),v=.ref e/\Heap.FlyingC B X.stack e (.ref C) a0 s'.heap /\
 Kp X pins Z H' s' B/\Kt X pins Z H' s' B/\HOk X.prog X.w H' B/\(∀b o,X.s₀.heap.get? b=some o->X.H₀ b=none->b∉X.ex->b∉frs X.stack->B.get? b=some o)/\(∀b o,X.s₀.heap.get? b=some o->b∉X.ex->b∉frs X.stack->∃ o',B.get? b=some o')/\E (.ref C) none H'
theorem Inv.xp {E:XK}{v:Value}(I:Inv X pins Z H s)(h:CXe X.prog X.w X.stack H s E v s'):XP X pins Z E v s':=by
 have hst:∀b∈X.fs,b∈frs X.stack:=fun b hb=>by
  rcases I.ok.stk with e | ⟨e,_⟩
  .rw [e];exact hb
  .rw [e]
   obtain ⟨env,he,hf⟩:=BY.mp hb
   exact BY.mpr ⟨env,Bk _ he,hf⟩
 obtain ⟨e,C,H',B,a0,rfl,os,bare,U,G,fl,q⟩:=h
 refine ⟨e,C,H',B,a0,rfl,fl,I.kp os bare U G,I.kt os bare U G,G.ok,fun b o e n hx hb=>?_,fun b o e hx hb=>?_,q⟩
 .exact G.old b o (I.base.keep b o e n (fun z=>hb (hst b z)) hx) (I.base.free b o e n hx) hb
 obtain ⟨o',e1⟩:=I.base.there b o e hx
 exact G.there b o' e1 hb
end
section
variable {P:Program}{w:World}{K:W.Frag}{mg:Str->Option Value}{base:Heap}{N:List Str}{qual:Str}{scope:Scope}{f:Addr}{cd:Value}{A:Around}{outer:List Env}{s₀:Shared}{H₀:Hp}{E:XK}
theorem kZ (I:Inv (bT (CXe P w) P w K mg base N qual scope f cd A outer s₀ H₀ E) pins Z H s)(hx:Heap.MadeExcOf s.heap h' e (.ref C) args)(q:E (.ref C) none H):(bT (CXe P w) P w K mg base N qual scope f cd A outer s₀ H₀ E).xe (.ref e) { s with heap:=h' }:=by
 have hin:∀env∈(bT (CXe P w) P w K mg base N qual scope f cd A outer s₀ H₀ E).stack,∀b,env.frame=some b->b∈frs (bT (CXe P w) P w K mg base N qual scope f cd A outer s₀ H₀ E).stack:=fun env he b hb=>BY.mpr ⟨env,he,hb⟩
 have hsub:∀b,b∈frs (bT (CXe P w) P w K mg base N qual scope f cd A outer s₀ H₀ E).stack->b=s₀.heap.objs.size∨b∈frs outer:=fun b hb=>by
  obtain ⟨env,he,hf⟩:=BY.mp hb
  rcases ax.mp he with rfl | he
  .exact .inl (BI hf).symm
  .exact .inr (BY.mpr ⟨env,he,hf⟩)
 refine eP (base:=W.hideAll s.heap (frs (bT (CXe P w) P w K mg base N qual scope f cd A outer s₀ H₀ E).stack)) (s:={ s with heap:=h' }) I.ok.frames rfl (fun b o q=>W.of_hideAll _ q) (W.funFrames_hide I.stack hin) hx fun h2 t fl _ _ up=>?_
 have up2:s.heap.UpToSlots h2:=(Heap.UpToSlots.of_keeps hx.keeps).trans up
 have st:=fl.1
 have old:∀b o,s.heap.get? b=some o->b∉frs (bT (CXe P w) P w K mg base N qual scope f cd A outer s₀ H₀ E).stack->(W.hideAll s.heap (frs (bT (CXe P w) P w K mg base N qual scope f cd A outer s₀ H₀ E).stack)).get? b=some o:=fun b o e nb=>W.hideAll_get _ e nb
 have nL:∀b o,s₀.heap.get? b=some o->b∉frs outer->b∉frs (bT (CXe P w) P w K mg base N qual scope f cd A outer s₀ H₀ E).stack:=fun b o e nb hb=>by
  rcases hsub b hb with rfl | z
  .exact absurd (Bp e) (CI _)
  .exact nb z
 have fr2:∀b∈frs outer,∀o,s.heap.get? b=some o->∃ sl,h2.get? b=some { o with slots:=sl }:=fun b hb o e=>by
  have hb':b∈frs (bT (CXe P w) P w K mg base N qual scope f cd A outer s₀ H₀ E).stack:=by
   obtain ⟨env,he,hf⟩:=BY.mp hb
   exact BY.mpr ⟨env,Bk _ he,hf⟩
  obtain ⟨_,o',ho',hd⟩:=I.stack.mem hb'
  rw [e] at ho'
  cases ho'
  exact up2 b o e hd
 have hokB:HOk P w H (W.hideAll s.heap (frs (bT (CXe P w) P w K mg base N qual scope f cd A outer s₀ H₀ E).stack)):=fun a o ea=>(I.hok a o ea).stay (fun b u hb q=>old b u q fun z=>by
  have:=I.stkFree b z
  rcases hb with rfl | hb
  .rw [ea] at this;cases this
  .rw [hb] at this;cases this) (fun _ q=>q) fun _ _ q=>q
 refine ⟨e,C,H,W.hideAll s.heap (frs (bT (CXe P w) P w K mg base N qual scope f cd A outer s₀ H₀ E).stack),.ref t,rfl,I.os,I.bare,⟨fun b o e n hb _=>?_,fun b o e n hb _=>?_,I.base.free,fun b o e _=>?_,I.base.tups,I.base.frzs,I.base.tbls⟩,⟨hokB,fun b o e n hb=>old b o (I.base.keep b o e n hb (ah)) (nL b o e hb),fun b o e hb=>?_⟩,fl,q⟩
 .exact st b o (old b o (I.base.keep b o e n hb ah) (nL b o e hb))
 .obtain ⟨sl,e1⟩:=I.base.slot b o e n hb ah
  obtain ⟨sl2,e2⟩:=fr2 b hb _ e1
  exact ⟨sl2,e2⟩
 .obtain ⟨o',e1⟩:=I.base.there b o e ah
  by_cases hb:b∈frs outer
  .obtain ⟨sl,e2⟩:=fr2 b hb o' e1
   exact ⟨_,e2⟩
  .exact ⟨o',st b o' (old b o' e1 (nL b o e hb))⟩
 obtain ⟨o',e1⟩:=I.base.there b o e ah
 exact ⟨o',old b o' e1 (nL b o e hb)⟩
end
def sW (K:W.Frag)(C:Addr)(v:Value):Bool:=match K.lookup C with
 | some ⟨_,_,.cls cd,_⟩=>cd.mro.contains v
 | _=>false
theorem yq {bmB:List Value}(ki:K.In h)(z:W.excIn K C bmB newId=true):
  ∃ tl N1 nm q bs b1 b2 b3 b4 b5 b6 k0 k1 k2 k3 k5 mN,h.get? C=some (excClassObj nm q C N1 bs tl b1 b2 b3 b4 b5 b6 k0 k1 k2 k3 k5 newId)/\h.Ns N1 mN/\mN "__init__"=none/\OwnTail h bmB tl/\∀v,sW K C v=(Value.ref C::tl).contains v:=by
 unfold W.excIn at z
 split at z
 case h_2=>cases z
 rename_i dc cl so hlk
 split at z
 case h_2=>cases z
 rename_i C1 tl a0 a1 a2 a3 nw a5 hmr hso
 simp only [By,Eh,Ej] at z
 obtain ⟨⟨⟨⟨⟨e1,e2⟩,e3⟩,e4⟩,e5⟩,e6⟩:=z
 subst e1 e2
 cases cl with
 | mk c1 c2 c3 c4 c5 c6 c7 c8 c9 cA cB =>
  dsimp only at hmr e3 e5 e6
  subst hmr e3
  cases so with
  | mk l =>
   have hl:l=[a0,a1,a2,a3,some (.builtin nw),a5]:=hso
   subst hl
   refine ⟨tl,_,_,_,_,_,_,_,_,_,_,_,_,_,_,_,_,ki _ _ hlk,.of_isNs (W.isNs_of_in ki e5),W.nsMap_none_of_in ki e5 e6,W.tail_of_in ki e4,fun v=>?_⟩
   unfold sW
   rw [hlk]
section
variable {P:Program}{w:World}{K:W.Frag}{mg:Str->Option Value}{base:Heap}{N:List Str}{qual:Str}{scope:Scope}{f:Addr}{cd:Value}{A:Around}{outer:List Env}{s₀:Shared}{H₀:Hp}{E:XK}
def zq (E:XK)(C:Addr)(ta:TA):TS:=fun _ Z H=>ta Z H fun vs H1=>vs.length<=1000/\E (.ref C) none H1
end
abbrev TEX:=St->Hp->VK->XK->Prop
abbrev XS:=Value->St->Hp->Prop
abbrev TSX:=gf->XS->St->Hp->Prop
def PEX (X:Cx)(e:Expr)(t:TEX):Prop :=
 ∀(pins:List (Addr×Obj)) (s:Shared) (Z:St) (H:Hp) (Q:VK) (E:XK),Inv X pins Z H s->t Z H Q E->wpAny (model X.prog X.w) X.A (eval e X.env) (EP X pins Z Q) (XP X pins Z E) s
def XSP (X:Cx)(pins:List (Addr×Obj))(E:XS)(v:Value)(s':Shared):Prop:=∃ σ',XP X pins σ' (fun c _ H'=>E c σ' H') v s'
def PSX (X:Cx)(st:Stmt)(t:TSX):Prop :=
 ∀(pins:List (Addr×Obj)) (s:Shared) (Z:St) (H:Hp) (D:gf) (E:XS),Inv X pins Z H s->t D E Z H->wpAny (model X.prog X.w) X.A (exec st X.env) (SP X pins D) (XSP X pins E) s
def z6 (X:Cx)(st:List Stmt)(t:TSX):Prop :=
 ∀(pins:List (Addr×Obj)) (s:Shared) (Z:St) (H:Hp) (D:gf) (E:XS),Inv X pins Z H s->t D E Z H->wpAny (model X.prog X.w) X.A (execs st X.env) (SP X pins D) (XSP X pins E) s
section
variable {X:Cx}{k:Nat}{f:Addr}{fd:FuncData}{ps:List Str}{sp:Sp}{dvs:List V}{ds:List Value}{x:Str}{p pos:Pos}{e:Expr}{es:List Expr}{t:TA}{te:TEX}
theorem xu {Q:VK}{E:XK}{vs:List V}(F:av X.prog X.w X.K X.mg X.base (CXe X.prog X.w) k f fd ps sp)(hr:Room k X.A)(hb:Binds X.K fd ps ds)(hd:Vals dvs ds)(I:Inv X pins Z H s)(r:Vals vs us)(h:sp (vs++dvs) H Q E):wpAny (model X.prog X.w) X.A (call (.ref f) us) (EP X pins Z Q) (XP X pins Z E) s:=by
 have r2:Vals (vs++dvs) (us++ds):=r.append hd
 have hl:(us++ds).length=ps.length:=by rw [<-r2.length];exact F.len _ _ _ _ h
 refine wpAny_call (EN (F.run X.A X.stack s H ⟨us,[]⟩ (us++ds) (vs++dvs) Q E hr I.env0 (hb s us I.kIn hl) r2 h) fun r s' hq=>?_)
 cases r with
 | error e=>exact I.xp hq
 | ok fl =>
  cases fl with
  | ret u=>exact I.after hq
  | next=>exact False.elim hq
  | brk=>exact False.elim hq
  | cont=>exact False.elim hq
def Ag (te:TEX)(i:Nat):TSX:=fun D E Z H=>te Z H (fun v H'=>D.nx (Z.set i (some v)) H') fun c _ H'=>E c Z H'
theorem wL (hN:X.N.Nodup)(hi:X.N[i]?=some x)(hx:Loc X.env.scope x)(he:PEX X e te)(hs:swapsWith e (some (.Name x pos')) pos.line X.env=pure false:=by rfl)(hf:X.fn x=true∨X.env.scope.names.lookup x=some .local:=by first | exact .inl rfl | exact .inr rfl | assumption):
  PSX X (.Assign [.Name x pos'] e pos) (Ag te i):=by
 intro pins s Z H D E I h
 refine wpAny_Assign_Name (B0 (he pins s Z H _ _ I h) (fun v s1 zz=>?_) fun v s1 q=>⟨Z,q⟩) hs
 obtain ⟨y,H1,I1,r1,q1⟩:=zz
 exact iO I1 hN hi hx r1 (fun s2 I2=>⟨_,H1,I2,q1⟩) hf
theorem vm {t:TSX}(h1:PSX X st t):z6 X [st] t:=by
 intro pins s Z H D E I h
 refine Fp (thn (h1 pins s Z H D E I h) fun f s1 q=>?_)
 cases f with
 | next=>exact DM q
 | ret v=>exact q
 | brk=>exact q
 | cont=>exact q
abbrev Cx.inX (X:Cx)(e:Addr):Cx:={ X with A:=X.A.mark (some (.ref e)),calm:=false }
theorem Cx.Ok.inX (ok:X.Ok)(e:Addr):(X.inX e).Ok :=
 ⟨ok.mod,ok.kind,ok.glob,ok.blt,ok.above,ok.inj,ok.has,ok.cab,(fun z=>by cases z),ok.frames,ok.stk,ok.exf,ok.bs,ok.bsz,ok.noex,ok.exfs,ok.funs,ok.frf⟩
theorem Cx.Ok.outX {e:Addr}(ok:(X.inX e).Ok)(hd:X.calm=true->X.A.handled=none):X.Ok :=
 ⟨ok.mod,ok.kind,ok.glob,ok.blt,ok.above,ok.inj,ok.has,ok.cab,hd,ok.frames,ok.stk,ok.exf,ok.bs,ok.bsz,ok.noex,ok.exfs,ok.funs,ok.frf⟩
theorem Inv.inX (I:Inv X pins Z H s)(e:Addr):Inv (X.inX e) pins Z H s:=⟨I.ok.inX e,I.os,I.bare,I.base,I.loc,I.cell,I.free,I.freeC,I.pin,I.hok,I.len⟩
theorem Inv.outX {e:Addr}(I:Inv (X.inX e) pins Z H s)(hd:X.calm=true->X.A.handled=none):Inv X pins Z H s:=⟨I.ok.outX hd,I.os,I.bare,I.base,I.loc,I.cell,I.free,I.freeC,I.pin,I.hok,I.len⟩
end
end L2
namespace L2
open PySem PySem.W PySem.Spec PySem.Calls PyProof.Rows PySem.Builtin PySem.Builtin.ObjectAttr PySem.Builtin.Getset_descriptor
section
variable {X:Cx}
theorem gY {v:V}(hg:Gl X x)(hm:X.mg x=some u)(r:RelV v u)(hd:(x == ("__debug__":Str))=false:=by decide):QE X (.Name x pos) (tC v):=.mk (fun _ _ _ H _ I h=>dh I hg hm ⟨v,H,I,r,h⟩ hd)
end
section
variable {P:Program}{w:World}{K:Frag}{mg:Str->Option Value}{base:Heap}
theorem Fun.okE {k:Nat}(F:Fun K x qual st f fd)(S:au N ps (ao st))(len:∀vs H Q E,sp vs H Q E->vs.length=ps.length)(hbody:∀(cdv:Value) (A:Around) (outer:List Env) (s:Shared) (H:Hp) (vs:List V) (Q:VK) (E:XK),Room k (A.deeper (envOfC qual (ao st) s.heap.objs.size f cdv))->sp vs H Q E ->
   ∃ t,PSs (bT (CXe P w) P w K mg base N qual (ao st) f cdv A outer s H E) (bA st) t/\t { nx:=fun _ H'=>Q .non H',rt:=Q } (start N vs) H):av P w K mg base (CXe P w) (k+1) f fd ps sp:=by
 obtain ⟨oc,od,kV,doc,pm,an,cdv,ct,osl,rfl,lk,hcd⟩:=F.ex
 exact x8 lk hcd S len fun A outer s H vs Q E hr hsp=>hbody cdv A outer s H vs Q E hr hsp
end
section
variable {P:Program}{w:World}{K:Frag}{mg:Str->Option Value}{base:Heap}{N:List Str}{qual:Str}{scope:Scope}{f:Addr}{cd:Value}{A:Around}{outer:List Env}{s₀:Shared}{H₀:Hp}{E:XK}
theorem fZ {e:Expr}{np:Pos}{B initId:String}{bm:List Value}(FB:ExcBaseFacts B newId initId bm)(hB:bm.contains (.type B)=true)(hg:Gl (bT (CXe P w) P w K mg base N qual scope f cd A outer s₀ H₀ E) x)(hm:mg x=some (.ref C))(hC:excIn K C bm newId=true)(hh:A.handled=none)(ha:QA (bT (CXe P w) P w K mg base N qual scope f cd A outer s₀ H₀ E) (e::es) ta)(he:starEach (e::es) (bT (CXe P w) P w K mg base N qual scope f cd A outer s₀ H₀ E).env=(false,eval e (bT (CXe P w) P w K mg base N qual scope f cd A outer s₀ H₀ E).env)::starEach es (bT (CXe P w) P w K mg base N qual scope f cd A outer s₀ H₀ E).env:=by rfl)(hpl:(backTo cpos (starEach es (bT (CXe P w) P w K mg base N qual scope f cd A outer s₀ H₀ E).env)).any (·.1)=false:=by rfl)(hd:(x == ("__debug__":Str))=false:=by decide):
  QS (bT (CXe P w) P w K mg base N qual scope f cd A outer s₀ H₀ E) (.Raise (some (.Call (.Name x np) (e::es) [] cpos)) none pos) (zq E C ta):=.mk (by
 have ha:=ha.to
 intro pins s Z H D I h
 obtain ⟨tl,N1,nm,q,bs,b1,b2,b3,b4,b5,b6,k0,k1,k2,k3,k5,mN,oC,oN,oi,oT,_⟩:=yq I.ok.mod.kin hC
 have h1:=ha cpos pins s Z H _ I h
 refine wpAny_Raise_call_subU (C:=C) (nm:=nm) (q:=q) (N:=N1) (bs:=bs) (bm:=tl) (hdct:=b1) (sn:=b2) (sub:=b3) (ab:=b4) (col:=b5) (dd:=b6) (k0:=k0) (k1:=k1) (k2:=k2) (k3:=k3) (k5:=k5) FB hB FB (mN:=mN) (oT.hasType FB.hasBase) hh ?_ oi (dh I hg hm ⟨rfl,?_⟩ hd)
 .rw [he]
  show (false || (backTo cpos (starEach es (bT (CXe P w) P w K mg base N qual scope f cd A outer s₀ H₀ E).env)).any (·.1))=false
  rw [hpl];rfl
 rw [he] at h1 ⊢
 refine C0 (thn h1 fun us s1 zz=>?_)
 obtain ⟨vs,H1,I1,r,hz,q1⟩:=zz
 have hl:us.length<=sizeLine:=by rw [<-r.length];exact A0 hz AW
 exact ⟨rfl,hl,I1.bk _ _ oC,oN.keeps I1.bk,oT.keeps I1.bk,fun h' e' hx=>kZ I1 hx q1⟩)
end
end L2
namespace Hm
open PySem L2
def wd (lt:V->V->Bool)(xs:List V):Nat->Nat->List Nat
 | 0,_=>[]
 | f+1,p=>if 2*p+1<xs.length then les lt xs p::wd lt xs f (les lt xs p) else []
variable {lt:V->V->Bool}
end Hm
namespace L2
open PySem PySem.Spec PyProof.Rows
section
variable {J:Type}[DecidableEq J]
def aX (kvs:List (J×V))(k:J):Option V:=(kvs.find? fun kv=>decide (kv.1=k)).map (·.2)
def a8 (kvs:List (J×V))(k:J)(v:V):List (J×V) :=
 if (kvs.any fun kv=>decide (kv.1=k))=true then kvs.map (fun kv=>if kv.1=k then (kv.1,v) else kv) else kvs++[(k,v)]
def bU (kvs:List (J×V))(k:J):List (J×V):=kvs.filter fun kv=>decide (kv.1≠k)
theorem bB {p:J×V}{r:List (J×V)}{k:J}(e:p.1=k):aX (p::r) k=some p.2:=by simp [aX,Cs,e]
theorem bD {p:J×V}{r:List (J×V)}{k:J}(e:¬ p.1=k):aX (p::r) k=aX r k:=by simp [aX,Cs,e]
theorem du (k:J):∀kvs:List (J×V),(kvs.any fun kv=>decide (kv.1=k))=(aX kvs k).isSome
 | []=>rfl
 | p::r=>by
  rw [Ez]
  by_cases e:p.1=k
  .simp only [bB e,Bb e,Bool.true_or,D9]
  .rw [bD e,Br e,Gf];exact du k r
theorem ma (k j:J)(y:V):∀kvs:List (J×V),aX (kvs.map fun kv=>if kv.1=k then (kv.1,y) else kv) j=(aX kvs j).map fun x=>if j=k then y else x
 | []=>rfl
 | p::r=>by
  have ih:=ma k j y r
  rw [BA]
  by_cases h:p.1=k
  .rw [Bf h]
   by_cases e:p.1=j
   .rw [bB (p:=(p.1,y)) e,bB e,EE,Bf (e.symm.trans h)]
   .rw [bD (p:=(p.1,y)) e,bD e,ih]
  .rw [Bc h]
   by_cases e:p.1=j
   .rw [bB (p:=p) e,bB e,EE,Bc (fun z=>h (e.trans z))]
   .rw [bD (p:=p) e,bD e,ih]
theorem jo (k j:J)(y:V):∀kvs:List (J×V),aX kvs k=none->aX (kvs++[(k,y)]) j=if j=k then some y else aX kvs j
 | [],_=>by
  by_cases e:k=j
  .rw [Bf e.symm];exact bB (p:=(k,y)) e
  .rw [Bc (fun z=>e z.symm)];exact bD (p:=(k,y)) e
 | p::r,hn=>by
  rw [Ck]
  have hk:¬ p.1=k:=fun z=>by rw [bB z] at hn;cases hn
  rw [bD hk] at hn
  have ih:=jo k j y r hn
  by_cases e:p.1=j
  .rw [bB e,bB e,Bc (fun z=>hk (e.trans z))]
  .rw [bD e,bD e,ih]
theorem iK (kvs:List (J×V))(k j:J)(y:V):aX (a8 kvs k y) j=if j=k then some y else aX kvs j:=by
 unfold a8
 by_cases a:(kvs.any fun kv=>decide (kv.1=k))=true
 .rw [Bf a,ma]
  rw [du] at a
  by_cases e:j=k
  .obtain ⟨x,hx⟩:=E8.mp a
   rw [Bf e,e,hx,EE,Bf rfl]
  .rw [Bc e]
   cases aX kvs j with
   | none=>rfl
   | some x=>rw [EE,Bc e]
 rw [Bc a]
 refine jo k j y kvs ?_
 rw [du] at a
 cases q:aX kvs k with
 | none=>rfl
 | some x=>rw [q] at a;exact (a rfl).elim
theorem bS (kvs:List (J×V))(k:J)(v:V):(a8 kvs k v).length<=kvs.length+1:=by
 unfold a8
 split
 .rw [Bh];lia
 rw [Bi,Bj,CG];lia
theorem RelO.isSome_eq {o:Option V}{u:Option Value}(r:RelO o u):o.isSome=u.isSome:=by
 cases o with
 | none=>cases u with
  | none=>rfl
  | some _=>exact (show False from r).elim
 | some _=>cases u with
  | none=>exact (show False from r).elim
  | some _=>rfl
theorem RelO.getD {o:Option V}{u:Option Value}{d:V}{d':Value}(r:RelO o u)(rd:RelV d d'):RelV (o.getD d) (u.getD d'):=by
 cases o with
 | none=>cases u with
  | none=>exact rd
  | some _=>exact (show False from r).elim
 | some _=>cases u with
  | none=>exact (show False from r).elim
  | some _=>exact r
theorem KV.val {kvs:List (J×V)}{vs:List (J×Value)}(r:KV kvs vs)(k:J):RelO (aX kvs k) (valueAt vs k):=by
 unfold KV at r
 induction r with
 | nil=>exact True.intro
 | @cons p q ps qs h t ih =>
  obtain ⟨h1,h2⟩:=h
  by_cases e:p.1=k
  .have e':q.1=k:=h1.symm.trans e
   have b:valueAt (q::qs) k=some q.2:=by simp [valueAt,Cs,e']
   rw [bB e,b];exact h2
  .have e':¬ q.1=k:=fun z=>e (h1.trans z)
   have b:valueAt (q::qs) k=valueAt qs k:=by simp [valueAt,Cs,e']
   rw [bD e,b];exact ih
theorem KV.any {kvs:List (J×V)}{vs:List (J×Value)}(r:KV kvs vs)(k:J):(kvs.any fun kv=>decide (kv.1=k))=vs.any fun kv=>decide (kv.1=k):=by
 unfold KV at r
 induction r with
 | nil=>rfl
 | cons h t ih=>rw [Ez,Ez,ih,h.1]
theorem KV.repl {kvs:List (J×V)}{vs:List (J×Value)}(r:KV kvs vs)(k:J)(ry:RelV y u):
  KV (kvs.map fun kv=>if kv.1=k then (kv.1,y) else kv) (vs.map fun kv=>if kv.1=k then (kv.1,u) else kv):=by
 unfold KV at r ⊢
 induction r with
 | nil=>exact .nil
 | @cons p q ps qs h t ih =>
  rw [BA,BA]
  refine .cons ?_ ih
  obtain ⟨h1,h2⟩:=h
  by_cases e:p.1=k
  .rw [Bf e,Bf (h1.symm.trans e)];exact ⟨h1,ry⟩
  .rw [Bc e,Bc (fun z=>e (h1.trans z))];exact ⟨h1,h2⟩
theorem KV.put {kvs:List (J×V)}{vs:List (J×Value)}(r:KV kvs vs)(k:J)(ry:RelV y u):KV (a8 kvs k y) (stored vs k u):=by
 unfold a8 stored
 rw [r.any k]
 by_cases e:(vs.any fun kv=>decide (kv.1=k))=true
 .rw [Bf e,Bf e];exact r.repl k ry
 rw [Bc e,Bc e];exact Gb r ⟨rfl,ry⟩
theorem KV.drop {kvs:List (J×V)}{vs:List (J×Value)}(r:KV kvs vs)(k:J):KV (bU kvs k) (without vs k):=by
 unfold KV at r ⊢
 unfold bU without
 induction r with
 | nil=>exact .nil
 | @cons p q ps qs h t ih =>
  obtain ⟨h1,h2⟩:=h
  rw [BO,BO]
  by_cases e:p.1=k
  .have a:¬ decide (p.1≠k)=true:=by simp [e]
   have b:¬ decide (q.1≠k)=true:=by simp [h1.symm.trans e]
   rw [Bc a,Bc b];exact ih
  .have e':¬ q.1=k:=fun z=>e (h1.trans z)
   have a:decide (p.1≠k)=true:=by simp [e]
   have b:decide (q.1≠k)=true:=by simp [e']
   rw [Bf a,Bf b];exact .cons ⟨h1,h2⟩ ih
theorem KV.length {kvs:List (J×V)}{vs:List (J×Value)}(r:KV kvs vs):kvs.length=vs.length:=CU r
theorem vT (kvs:List (J×V))(k:J):(bU kvs k).length<=kvs.length:=BQ _ _
end
theorem fL {P:Program}{k:Key}(r:RelV (kV k) u):(aP P w).is k u=true:=by
 cases k with
 | inl i=>obtain ⟨t,e⟩:=(show ∃ t,u=Value.int i t from r);subst e;exact lG P w i t
 | inr x=>obtain ⟨t,e⟩:=(show ∃ t,u=Value.str x t from r);subst e;exact cM P w x t
theorem i5 {P:Program}{w:World}:∀{ks:List Key} {us:List Value},Vals (ks.map kV) us->ItemsAre (aP P w) ks us
 | [],_,r=>by rw [Dk] at r;cases r;exact .nil
 | k::ks,_,r=>by
  rw [BA] at r
  cases r with
  | cons h t=>exact .cons (fL h) (i5 t)
abbrev KT (H:Hp):List (List Key×V)->List (List Key×Addr×Value)->Prop:=Paired fun p q=>p.1=q.1/\H q.2.1=some (.tup (p.1.map kV))/\RelV p.2 q.2.2
theorem KT.val {kvs:List (List Key×V)}{xs:List (List Key×Addr×Value)}(r:KT H kvs xs)(k:List Key):RelO (aX kvs k) ((atKey xs k).map (·.2)):=by
 induction r with
 | nil=>exact True.intro
 | @cons p q ps qs h t ih =>
  obtain ⟨h1,_,h2⟩:=h
  by_cases e:p.1=k
  .have e':q.1=k:=h1.symm.trans e
   have b:atKey (q::qs) k=some q.2:=by simp [atKey,Cs,e']
   rw [bB e,b];exact h2
  .have e':¬ q.1=k:=fun z=>e (h1.trans z)
   have b:atKey (q::qs) k=atKey qs k:=by simp [atKey,Cs,e']
   rw [bD e,b];exact ih
theorem KT.repl {kvs:List (List Key×V)}{xs:List (List Key×Addr×Value)}(r:KT H kvs xs)(k:List Key)(ry:RelV y u):
  KT H (kvs.map fun kv=>if kv.1=k then (kv.1,y) else kv) (xs.map (putAt k u)):=by
 induction r with
 | nil=>exact .nil
 | @cons p q ps qs h t ih =>
  rw [BA,BA]
  refine .cons ?_ ih
  obtain ⟨h1,h2,h3⟩:=h
  unfold putAt
  by_cases e:p.1=k
  .rw [Bf e,Bf (h1.symm.trans e)];exact ⟨h1,h2,ry⟩
  .rw [Bc e,Bc (fun z=>e (h1.trans z))];exact ⟨h1,h2,h3⟩
theorem KT.put {kvs:List (List Key×V)}{xs:List (List Key×Addr×Value)}(r:KT H kvs xs)(k:List Key)(hb:H b=some (.tup (k.map kV)))(ry:RelV y u):
  KT H (a8 kvs k y) (storedH xs k b u):=by
 have e:(kvs.any fun kv=>decide (kv.1=k))=(atKey xs k).isSome:=by
  rw [du,(r.val k).isSome_eq,Fb]
 unfold a8 storedH
 rw [e]
 by_cases q:(atKey xs k).isSome=true
 .rw [Bf q,Bf q];exact r.repl k ry
 rw [Bc q,Bc q];exact Gb r ⟨rfl,hb,ry⟩
theorem KT.keeps {kvs:List (List Key×V)}{xs:List (List Key×Addr×Value)}(r:KT H kvs xs)(ht:∀b ys,H b=some (.tup ys)->H' b=some (.tup ys)):KT H' kvs xs :=
 Paired.mapP r fun _ _ z=>⟨z.1,ht _ _ z.2.1,z.2.2⟩
section
variable {P:Program}{w:World}{H:Hp}{h:Heap}{a:Addr}
theorem ya {u:HO}(ok:HOk P w H h)(e:Rd H a u):ObjOk P w H h a u:=e.ok ok
theorem gs (ok:HOk P w H h)(e:Rd H a (.dK kvs)):kvs.length<=sizeLine/\(a == sysModules)=false/\∃ vs,KV kvs vs/\h.DictOf (aP P w) a vs :=
 show ObjOk P w H h a (.dK kvs) from ya ok e
theorem jr (ok:HOk P w H h)(e:H a=some (.dK kvs)):kvs.length<=sizeLine/\(a == sysModules)=false/\∃ vs,KV kvs vs/\h.DictOf (aP P w) a vs:=gs ok (.inl e)
theorem fW {ks:List Key}(ok:HOk P w H h)(e:H a=some (.tup (ks.map kV))):(tupleKind (aP P w)).is h ks a:=by
 obtain ⟨_,its,r,o,h1,h2,n,h3⟩:=(show ObjOk P w H h a (.tup (ks.map kV)) from ok a _ e)
 exact ⟨o,its.toArray,n,h1,h2,h3,by simpa using i5 r⟩
theorem hG {kvs:List (List Key×V)}(ok:HOk P w H h)(e:Rd H a (.dT kvs)):kvs.length<=sizeLine/\(a == sysModules)=false /\
  ∃ xs,KT H kvs xs/\h.DictOfH (tupleKind (aP P w)) a xs:=by
 obtain ⟨z,y,xs,r,o,es,ep,h1,h2,h3,h4,h5⟩:=(show ObjOk P w H h a (.dT kvs) from ya ok e)
 refine ⟨z,y,xs,r,o,es,ep,h1,h2,h3,h4,fun x hx=>?_,h5⟩
 have all:∀{l:List (List Key×V)} {m:List (List Key×Addr×Value)},KT H l m->∀x∈m,(tupleKind (aP P w)).is h x.1 x.2.1:=by
  intro l m q
  induction q with
  | nil=>intro x hx;exact nomatch hx
  | @cons p q ps qs hq t ih =>
   intro x hx
   rcases ax.mp hx with e | hx
   .subst e
    exact fW ok (by rw [<-hq.1];exact hq.2.1)
   .exact ih x hx
 exact all r x hx
theorem Ac {kvs:List (List Key×V)}(ok:HOk P w H h)(e:H a=some (.dT kvs)):kvs.length<=sizeLine/\(a == sysModules)=false /\
  ∃ xs,KT H kvs xs/\h.DictOfH (tupleKind (aP P w)) a xs:=hG ok (.inl e)
end
def DGet (H:Hp)(a:Addr)(y:V)(r:Option V):Prop :=
 (∃ kvs k,Rd H a (.dK kvs)/\y=kV k/\r=aX kvs k)∨∃ kvs k b,Rd H a (.dT kvs)/\y=.ref b/\H b=some (.tup (k.map kV))/\r=aX kvs k
def DPut (H:Hp)(a:Addr)(y v:V)(H':Hp):Prop :=
 (∃ kvs k,H a=some (.dK kvs)/\y=kV k/\kvs.length<sizeLine/\H'=upd H a (.dK (a8 kvs k v))) ∨
 ∃ kvs k b,H a=some (.dT kvs)/\y=.ref b/\H b=some (.tup (k.map kV))/\kvs.length<sizeLine/\H'=upd H a (.dT (a8 kvs k v))
theorem DGet.k {H:Hp}{a:Addr}{kvs:List (Key×V)}{k:Key}(e:H a=some (.dK kvs)):DGet H a (kV k) (aX kvs k):=.inl ⟨kvs,k,.inl e,rfl,rfl⟩
theorem DPut.k {H:Hp}{a:Addr}{kvs:List (Key×V)}{k:Key}{v:V}(e:H a=some (.dK kvs))(hl:kvs.length<sizeLine):DPut H a (kV k) v (upd H a (.dK (a8 kvs k v))):=.inl ⟨kvs,k,e,rfl,hl,rfl⟩
section
variable {X:Cx}{pins:List (Addr×Obj)}{Z:St}{H:Hp}{s:Shared}{a:Addr}{y v:V}{u r:Value}{o:Option V}{A:Around}{E:Value->Shared->Prop}
theorem Inv.big (I:Inv X pins Z H s):sysModules<s.heap.objs.size:=by
 have h:mainGlobals<s.heap.objs.size:=(I.mod.glob.keeps I.bk).lt
 exact BZ AW h
theorem qM (hu:A.units+1<cLine)(I:Inv X pins Z H s)(g:DGet H a y (some v))(ry:RelV y u)(h:∀w' s',Inv X pins Z H s'->RelV v w'->Q w' s'):
  wpAny (model X.prog X.w) A (getItem (.ref a) u) Q E s:=by
 rcases g with ⟨kvs,k,e,ey,l⟩ | ⟨kvs,k,b,e,ey,eb,l⟩
 .subst ey
  obtain ⟨z,hd,vs,rel,dd⟩:=gs I.hok e
  obtain ⟨w',hw,rw'⟩:=RelO.some_of (v:=v) (o:=valueAt vs k) (by rw [l];exact rel.val k)
  exact wpAny_getItem_of (fL ry) dd.mapOf hw (h w' _ (I.tok _) rw')
 subst ey
 cases (show u=Value.ref b from ry)
 obtain ⟨z,hd,xs,rel,dd⟩:=hG I.hok e
 obtain ⟨w',hw,rw'⟩:=RelO.some_of (v:=v) (o:=(atKey xs k).map (·.2)) (by rw [l];exact rel.val k)
 obtain ⟨p,hp,hp2⟩:=Ft.mp hw
 refine wpAny_getItem_heap (DI hu) (fW I.hok eb) dd hp ?_
 rw [hp2]
 exact h w' _ (I.tok _) rw'
theorem AD (hu:A.units+1<cLine)(I:Inv X pins Z H s)(g:DGet H a y o)(ry:RelV y u)(h:∀s',Inv X pins Z H s'->Q (.bool o.isSome) s'):
  wpAny (model X.prog X.w) A (compareOp .In u (.ref a)) Q E s:=by
 rcases g with ⟨kvs,k,e,ey,l⟩ | ⟨kvs,k,b,e,ey,eb,l⟩
 .subst ey
  obtain ⟨z,hd,vs,rel,dd⟩:=gs I.hok e
  refine wpAny_in_of (fL ry) hd dd.mapOf ?_
  rw [<-(rel.val k).isSome_eq,<-l]
  exact h _ (I.tok _)
 subst ey
 cases (show u=Value.ref b from ry)
 obtain ⟨z,hd,xs,rel,dd⟩:=hG I.hok e
 refine wpAny_in_heap (DI hu) (fW I.hok eb) hd dd ?_
 have q:=(rel.val k).isSome_eq
 rw [Fb] at q
 rw [<-q,<-l]
 exact h _ (I.tok _)
theorem wP (hu:A.units+1<cLine)(I:Inv X pins Z H s)(g:DGet H a y o)(ry:RelV y u)(h:∀s',Inv X pins Z H s'->Q (.bool (!o.isSome)) s'):
  wpAny (model X.prog X.w) A (compareOp .NotIn u (.ref a)) Q E s:=by
 rcases g with ⟨kvs,k,e,ey,l⟩ | ⟨kvs,k,b,e,ey,eb,l⟩
 .subst ey
  obtain ⟨z,hd,vs,rel,dd⟩:=gs I.hok e
  refine wpAny_notIn_of (fL ry) hd dd.mapOf ?_
  rw [<-(rel.val k).isSome_eq,<-l]
  exact h _ (I.tok _)
 subst ey
 cases (show u=Value.ref b from ry)
 obtain ⟨z,hd,xs,rel,dd⟩:=hG I.hok e
 refine wpAny_notIn_heap (DI hu) (fW I.hok eb) hd dd ?_
 have q:=(rel.val k).isSome_eq
 rw [Fb] at q
 rw [<-q,<-l]
 exact h _ (I.tok _)
theorem gM {t':Nat}{ob:HO}(I:Inv X pins Z H s)(mu:Mut (H a))(hs:Heap.SameBut a s.heap h')(he:∃ q,h'.get? a=some q)(new:ObjOk X.prog X.w (upd H a ob) h' a ob):
  Inv X pins Z (upd H a ob) { s with heap:=h',toks:=t' } :=
 I.write (x:=a) (e:=a) mu (.inl rfl) (fun b q hb z=>(hs.2 b hb).trans z) he new
theorem oo {P:Program}{vs:List (Key×Value)}(z:kvs.length<=sizeLine)(hd:(a == sysModules)=false)(rel:KV kvs vs)(dd:h'.DictOf (aP P w) a vs):
  ObjOk P w H' h' a (.dK kvs):=⟨z,hd,vs,rel,dd⟩
theorem rQ {Q:Unit->Shared->Prop}(hu:A.units+1<cLine)(I:Inv X pins Z H s)(g:DPut H a y v H')(ry:RelV y u)(rv:RelV v r)(h:∀s',Inv X pins Z H' s'->Q () s'):
  wpAny (model X.prog X.w) A (setItem (.ref a) u r) Q E s:=by
 rcases g with ⟨kvs,k,e,ey,l,eH⟩ | ⟨kvs,k,b,e,ey,eb,l,eH⟩
 .subst ey eH
  obtain ⟨z,hd,vs,rel,dd⟩:=jr I.hok e
  have hz:vs.length<=sizeLine:=by rw [<-rel.length];exact z
  have hl:(a8 kvs k v).length<=sizeLine:=by have:=bS kvs k v;lia
  refine wpAny_setItem_pairs (hsz:=hz) (fL ry) dd fun h' dd' hs=>h _ ?_
  have he:∃ q,h'.get? a=some q:=let ⟨q,_,_,hq,_⟩:=dd';⟨q,hq⟩
  exact gM I (by rw [e];exact True.intro) hs he (oo hl hd (rel.put k rv) dd')
 subst ey eH
 cases (show u=Value.ref b from ry)
 obtain ⟨z,hd,xs,rel,dd⟩:=Ac I.hok e
 have hz:xs.length<=sizeLine:=by rw [<-CU rel];exact z
 have hl:(a8 kvs k v).length<=sizeLine:=by have:=bS kvs k v;lia
 refine wpAny_setItem_heap (hsz:=hz) (DI hu) (fW I.hok eb) dd fun h' dd' hs=>h _ ?_
 obtain ⟨q,es,ep,hq,h2,h3,h4,_,h5⟩:=dd'
 refine gM I (by rw [e];exact True.intro) hs ⟨q,hq⟩ ⟨hl,hd,_,(rel.put k eb rv).keeps fun c ys ec=>?_,q,es,ep,hq,h2,h3,h4,h5⟩
 rw [ai (aU ec e (fun z=>nomatch z))]
 exact ec
end
section
variable {X:Cx}{pins:List (Addr×Obj)}{Z:St}{H:Hp}{s:Shared}{a:Addr}{kvs:List (Key×V)}{k:Key}{u:Value}{A:Around}{E:Value->Shared->Prop}
theorem zI {v:V}{more:List Value}(I:Inv X pins Z H s)(e:H a=some (.dK kvs))(ry:RelV (kV k) u)(l:aX kvs k=some v)(hm:more=[]∨∃ x,more=[x])(h:∀w' s',Inv X pins Z (upd H a (.dK (bU kvs k))) s'->RelV v w'->Q w' s'):wpAny (model X.prog X.w) A (call (.builtin "dict.pop") (.ref a::u::more)) Q E s:=by
 obtain ⟨z,hd,vs,rel,dd⟩:=jr I.hok e
 obtain ⟨w',hw,rw'⟩:=RelO.some_of (v:=v) (o:=valueAt vs k) (by rw [<-l];exact rel.val k)
 have hp:(keyPart u).isSome=true:=by
  cases k with
  | inl i=>obtain ⟨t,q⟩:=(show ∃ t,u=Value.int i t from ry);subst q;rfl
  | inr x=>obtain ⟨t,q⟩:=(show ∃ t,u=Value.str x t from ry);subst q;rfl
 have ha:argsOk "dict.pop" ⟨.ref a::u::more,[]⟩:=by
  rcases hm with q | ⟨x,q⟩
  .subst q;exact PySem.F.args_dict_pop_2 _ _
  .subst q;exact PySem.F.args_dict_pop_3 _ _ _
 refine ER FD dd.typeIs PySem.F.entry_dict_pop ha (meets_dict_pop_there (aP X.prog X.w) a (fL ry) more hm hp)
  ⟨vs,w',dd,by rw [<-rel.length];exact z,hw,fun h' dd' hs=>h w' _ ?_ rw'⟩
 have he:∃ q,h'.get? a=some q:=let ⟨q,_,_,hq,_⟩:=dd';⟨q,hq⟩
 exact gM I (by rw [e];exact True.intro) hs he (oo (A0 (vT kvs k) z) hd (rel.drop k) dd')
theorem zZ (I:Inv X pins Z H s)(e:Rd H a (.dK kvs))(h:∀t s',Inv X pins Z H s'->Q (.int kvs.length t) s'):wpAny (model X.prog X.w) A (call (.builtin "len") [.ref a]) Q E s:=by
 obtain ⟨z,hd,vs,rel,dd⟩:=gs I.hok e
 refine call_len_dict hd dd (by rw [<-rel.length];rw [FY] at z;lia) ?_
 rw [<-rel.length]
 exact h _ _ (I.tok _)
end
def zN (i:Expr):Prop:=∀ov iv,subscripted i false ov iv=operate [ov,iv] (getItem ov iv)
theorem xc {slice:Expr}{T id:String}(hl:typeLookup (.type T) "__getitem__"=pure (some (.builtin id)))(hs:zN slice)(h:wpAny (model prog w) A (eval value env) (fun o s₁=>wpAny (model prog w) A (eval slice env) (fun i s₂=>s₂.TypeIs o T/\wpAny (model prog w) A (getItem o i) Q E s₂) E s₁) E s):
  wpAny (model prog w) A (eval (.Subscript value slice pos) env) Q E s:=by
 refine Subscript_ (B0 h (fun o s₁ h₁=>B0 h₁ (fun i s₂ h₂=>?_) fun _ _ x=>x) fun _ _ x=>x)
 obtain ⟨hT,h₂⟩:=h₂
 unfold subscriptTail
 refine Be ?_
 rw [getitemInPython_of_ne hT.not_modules]
 refine Be (wpAny_specialOf hT hl ?_)
 have fin:wpAny (model prog w) A (subscripted slice false o i) (fun r s₃=>wpAny (model prog w) A (letTemporaryGo value o r >>= fun _=>pure r) Q E s₃) E s₂:=by
  rw [hs o i]
  exact wpAny_operating (B0 h₂ (fun r s₃ h₃=>Be (wpAny_letTemporaryGo (Bv h₃))) fun _ _ x=>x)
 first
  | exact Bv (Be fin)
  | exact Be (Bv (Be fin))
  | exact Be fin
theorem mF {o:Option V}(I:Inv X pins Z H s)(g:DGet H a y o):s.TypeIs (.ref a) "dict":=by
 rcases g with ⟨kvs,k,e,_,_⟩ | ⟨kvs,k,b,e,_,_,_⟩
 .obtain ⟨_,_,vs,_,dd⟩:=gs I.hok e
  exact dd.typeIs
 obtain ⟨_,_,xs,_,dd⟩:=hG I.hok e
 exact dd.typeIs
def zy (td ty:TE):TE:=fun Z H Q=>td Z H fun x H1=>ty Z H1 fun y H2=>∃ a v,x=.ref a/\DGet H2 a y (some v)/\Q v H2
def zh (ty td:TE):TE:=fun Z H Q=>ty Z H fun y H1=>td Z H1 fun x H2=>∃ a o,x=.ref a/\DGet H2 a y o/\Q (.bl o.isSome) H2
def pF (ty td:TE):TE:=fun Z H Q=>ty Z H fun y H1=>td Z H1 fun x H2=>∃ a o,x=.ref a/\DGet H2 a y o/\Q (.bl (!o.isSome)) H2
def zG (td ty tv:TE):TS:=fun D Z H=>tv Z H fun v H1=>td Z H1 fun x H2=>ty Z H2 fun y H3=>∃ a H4,x=.ref a/\DPut H3 a y v H4/\D.nx Z H4
section
variable {X:Cx}{o i e value:Expr}{pos pos' tpos:Pos}{td ty tv:TE}
theorem uk (hu:X.A.units+1<cLine)(hi:PE X i ty)(ho:PE X o td):PC X .In i o (zh ty td):=by
 intro pins s Z H Q I h
 refine thn (hi pins s Z H _ I h) fun iv s1 ⟨y,H1,I1,ry,q1⟩=>thn (ho pins s1 Z H1 _ I1 q1) fun u s2 zz=>?_
 obtain ⟨x,H2,I2,rx,a,ov,ex,g,q2⟩:=zz
 subst ex
 obtain rfl:u=Value.ref a:=rx
 exact AD hu I2 g ry fun s3 I3=>⟨.bl ov.isSome,H2,I3,rfl,q2⟩
theorem qV (hu:X.A.units+1<cLine)(hi:PE X i ty)(ho:PE X o td):PC X .NotIn i o (pF ty td):=by
 intro pins s Z H Q I h
 refine thn (hi pins s Z H _ I h) fun iv s1 ⟨y,H1,I1,ry,q1⟩=>thn (ho pins s1 Z H1 _ I1 q1) fun u s2 zz=>?_
 obtain ⟨x,H2,I2,rx,a,ov,ex,g,q2⟩:=zz
 subst ex
 obtain rfl:u=Value.ref a:=rx
 exact wP hu I2 g ry fun s3 I3=>⟨.bl (!ov.isSome),H2,I3,rfl,q2⟩
end
theorem l7 {P:Program}(h:Heap)(hb:sysModules<h.objs.size):ObjOk P w H (h.push { cls:=.type "dict",data:=.dict #[] }) h.objs.size (.dK []) :=
 ⟨BK _,CM.mpr (Cm (BE hb)),[],.nil,Heap.DictOf.new h⟩
def yX:TE:=fun _ H Q=>∀p,H p=none->Q (.ref p) (upd H p (.dK []))
def mZ:List (TE×TE)->St->Hp->(List (V×V)->Hp->Prop)->Prop
 | [],_,H,Q=>Q [] H
 | (tk,tv)::r,Z,H,Q=>tk Z H fun x H1=>tv Z H1 fun y H2=>mZ r Z H2 fun ps H3=>Q ((x,y)::ps) H3
abbrev VV:List (V×V)->List (Value×Value)->Prop:=Paired fun p q=>RelV p.1 q.1/\RelV p.2 q.2
def PPs (X:Cx)(pos:Pos)(keys:List (Option Expr))(values:List Expr)(trs:List (TE×TE)):Prop :=
 ∀(pins:List (Addr×Obj)) (s:Shared) (Z:St) (H:Hp) (Q:List (V×V)->Hp->Prop),Inv X pins Z H s->mZ trs Z H Q ->
  wpAny (model X.prog X.w) X.A (evalPairs (pairTrees keys values X.env pos)) (fun vs s'=>∃ ps H',Inv X pins Z H' s'/\VV ps vs/\Q ps H') X.xe s
theorem xi:PPs X pos [] [] []:=fun pins s Z H Q I h=>pairTrees_nil_walk ⟨[],H,I,.nil,h⟩
theorem dH {k v:Expr}{ks:List (Option Expr)}{vs:List Expr}{tk tv:TE}(hk:PE X k tk)(hv:PE X v tv)(hr:PPs X pos ks vs trs):
  PPs X pos (some k::ks) (v::vs) ((tk,tv)::trs):=fun pins s Z H Q I h =>
 pairTrees_cons_walk (thn (hk pins s Z H _ I h) fun u s1 ⟨x,H1,I1,rx,q1⟩=>thn (hv pins s1 Z H1 _ I1 q1) fun w2 s2 ⟨y,H2,I2,ry,q2⟩ =>
  thn (hr pins s2 Z H2 _ I2 q2) fun ws s3 ⟨ps,H3,I3,rel,q3⟩=>⟨(x,y)::ps,H3,I3,.cons ⟨rx,ry⟩ rel,q3⟩)
def gj (kvs more:List (Key×V)):List (Key×V):=more.foldl (fun acc kv=>a8 acc kv.1 kv.2) kvs
theorem KV.merge:∀{more:List (Key×V)} {rs:List (Key×Value)} {kvs:List (Key×V)} {vs:List (Key×Value)},KV more rs->KV kvs vs->KV (gj kvs more) (merged vs rs):=by
 intro more rs kvs vs r
 unfold KV at r
 induction r generalizing kvs vs with
 | nil=>intro q;exact q
 | @cons p q ps qs h t ih =>
  intro r0
  have e:KV (a8 kvs p.1 p.2) (stored vs q.1 q.2):=by
   have:=r0.put p.1 h.2
   rw [<-h.1];exact this
  exact ih e
theorem eG:∀(more kvs:List (Key×V)),(gj kvs more).length<=kvs.length+more.length
 | [],kvs=>by show kvs.length<=kvs.length+0;lia
 | p::r,kvs=>by
  have h1:=eG r (a8 kvs p.1 p.2)
  have h2:=bS kvs p.1 p.2
  show (gj (a8 kvs p.1 p.2) r).length<=_
  rw [Bj];lia
theorem ig {P:Program}{w:World}:∀{kvs:List (Key×V)} {ws:List (Value×Value)},VV (kvs.map fun kv=>(kV kv.1,kv.2)) ws->∃ rs,Carries (aP P w) ws rs/\KV kvs rs
 | [],_,r=>by rw [Dk] at r;cases r;exact ⟨[],True.intro,.nil⟩
 | p::kvs,_,r=>by
  rw [BA] at r
  cases r with
  | @cons a b as bs h t =>
   obtain ⟨rs,c,q⟩:=ig (P:=P) (w:=w) t
   obtain ⟨b1,b2⟩:=b
   exact ⟨(p.1,b2)::rs,⟨fL h.1,rfl,c⟩,.cons ⟨rfl,h.2⟩ q⟩
def x9 (trs:List (TE×TE)):TE:=fun Z H Q=>∀p,H p=none->mZ trs Z (upd H p (.dK [])) fun ps H2=>H2 p=some (.dK [])/\∃ kvs:List (Key×V),ps=kvs.map (fun kv=>(kV kv.1,kv.2))/\kvs.length<=15/\Q (.ref p) (upd H2 p (.dK (gj [] kvs)))
theorem wS {keys:List (Option Expr)}{values:List Expr}(h:PPs X pos keys values trs)(hall:keys.all (·.isSome)=true)(hl:keys.length=values.length)(h0:keys≠[])(h15:keys.length<=15):PE X (.Dict keys values pos) (x9 trs):=by
 intro pins s Z H Q I q
 have hn:=I.hok.fresh (A9 s.heap.objs.size)
 have I1:=I.laid (a:=s.heap.objs.size) (o:=.dK []) (h':=s.heap.push { cls:=.type "dict",data:=.dict #[] }) (t':=s.toks) (fun _ _ q=>Bg _ q) (A9 _) (l7 s.heap I.big)
 refine wpAny_Dict_walk (knd:=aP X.prog X.w) hall hl h0 h15 (thn (h pins _ Z _ _ I1 (q _ hn)) fun ws s2 zz=>?_)
 obtain ⟨ps,H2,I2,rel,e,kvs,ep,lk,q2⟩:=zz
 subst ep
 obtain ⟨rs,c,rk⟩:=ig (P:=X.prog) (w:=X.w) rel
 obtain ⟨z,hd,vs0,r0,dd⟩:=jr I2.hok e
 cases r0
 refine ⟨rs,c,dd,fun h' dd' hs=>⟨.ref s.heap.objs.size,_,?_,rfl,q2⟩⟩
 have hz:(gj [] kvs).length<=sizeLine:=by
  have h1:=eG kvs []
  rw [CG] at h1
  rw [FY];lia
 have he:∃ q,h'.get? s.heap.objs.size=some q:=let ⟨q,_,_,hq,_⟩:=dd';⟨q,hq⟩
 exact gM I2 (by rw [e];exact True.intro) hs he (oo hz hd (rk.merge .nil) dd')
structure M1 (X:Cx)(o:Expr)(m:Str)(apos:Pos)(e:Expr)(cpos:Pos):Prop where
 base:attributeBase o m X.env (eval o X.env)=eval o X.env
 few:((backTo cpos (starEach [e] X.env)).all (fun x=>!x.1)&&(backToKw cpos (keywordEach [] X.env)).all (fun x=>x.1.isSome)
  && decide (([e]:List Expr).length+([]:List Keyword).length+(if ([]:List Keyword).isEmpty then 0 else 1)<30))=true
 line:(apos.endLine == cpos.line)=true
 trees:backTo cpos (starEach [e] X.env)=[(false,eval e X.env)]
structure M2 (X:Cx)(o:Expr)(m:Str)(apos:Pos)(e f:Expr)(cpos:Pos):Prop where
 base:attributeBase o m X.env (eval o X.env)=eval o X.env
 few:((backTo cpos (starEach [e,f] X.env)).all (fun x=>!x.1)&&(backToKw cpos (keywordEach [] X.env)).all (fun x=>x.1.isSome)
  && decide (([e,f]:List Expr).length+([]:List Keyword).length+(if ([]:List Keyword).isEmpty then 0 else 1)<30))=true
 line:(apos.endLine == cpos.line)=true
 trees:backTo cpos (starEach [e,f] X.env)=[(false,eval e X.env),(false,eval f X.env)]
def IsD (H:Hp)(a:Addr):Prop:=(∃ kvs,Rd H a (.dK kvs))∨∃ kvs,Rd H a (.dT kvs)
theorem uW (I:Inv X pins Z H s)(d:IsD H a):
  s.TypeIs (.ref a) "dict"/\(∀b,Value.ref a=.ref b->∃ ob,s.heap.get? b=some ob/\ob.dict=none)/\(a == sysModules)=false:=by
 rcases d with ⟨kvs,e⟩ | ⟨kvs,e⟩
 .obtain ⟨_,hd,vs,_,dd⟩:=gs I.hok e
  refine ⟨dd.typeIs,fun b q=>?_,hd⟩
  cases q
  obtain ⟨ob,_,_,h1,h2,_⟩:=dd
  exact ⟨ob,h1,h2.2.1⟩
 obtain ⟨_,hd,xs,_,dd⟩:=hG I.hok e
 refine ⟨dd.typeIs,fun b q=>?_,hd⟩
 cases q
 obtain ⟨ob,_,_,h1,h2,_⟩:=dd
 exact ⟨ob,h1,h2.2.1⟩
section
variable {X:Cx}{pins:List (Addr×Obj)}{Z:St}{H:Hp}{s:Shared}{a:Addr}{y d:V}{u r:Value}{o:Option V}{A:Around}{E:Value->Shared->Prop}
theorem ze (hu:A.units+1<cLine)(I:Inv X pins Z H s)(g:DGet H a y o)(ry:RelV y u)(h:∀w' s',Inv X pins Z H s'->RelV (o.getD .non) w'->Q w' s'):
  wpAny (model X.prog X.w) A (call (.builtin "dict.get") [.ref a,u]) Q E s:=by
 rcases g with ⟨kvs,k,e,ey,l⟩ | ⟨kvs,k,b,e,ey,eb,l⟩
 .subst ey
  obtain ⟨z,hd,vs,rel,dd⟩:=gs I.hok e
  refine ER CZ dd.typeIs Ee (Fj _ _) (meets_dict_get (aP X.prog X.w) a (fL ry) hd) ⟨_,dd.mapOf,h _ _ (I.tok _) ?_⟩
  rw [l]
  exact (rel.val k).getD rfl
 subst ey
 cases (show u=Value.ref b from ry)
 obtain ⟨z,hd,xs,rel,dd⟩:=hG I.hok e
 refine ER CZ dd.typeIs Ee (Fj _ _) (meetsH_dict_get (tupleKind (aP X.prog X.w)) a b hd) ⟨DI hu,k,xs,fW I.hok eb,dd,h _ _ (I.tok _) ?_⟩
 rw [l]
 exact (rel.val k).getD rfl
end
def ym (td ty:TE):TE:=fun Z H Q=>td Z H fun x H1=>∃ a,x=.ref a/\IsD H1 a/\ty Z H1 fun y H2=>∃ o,DGet H2 a y o/\Q (o.getD .non) H2
def yl (td ty:TE):TE:=fun Z H Q=>td Z H fun x H1=>∃ a,x=.ref a/\IsD H1 a/\ty Z H1 fun y H2=>∃ kvs k v,H2 a=some (.dK kvs)/\y=kV k/\aX kvs k=some v/\Q v (upd H2 a (.dK (bU kvs k)))
section
variable {X:Cx}
theorem bZ:cf X (.builtin "len") (fun xs H Q=>∃ a kvs,xs=[V.ref a]/\H a=some (.dK kvs)/\Q (.int kvs.length) H):=by
 intro pins s Z H xs us Q I r h
 obtain ⟨a,kvs,rfl,ha,q⟩:=h
 obtain ⟨u,rfl,ru⟩:=fN r
 cases ru
 exact zZ I (.inl ha) fun t s' I'=>⟨.int kvs.length,H,I',⟨t,rfl⟩,q⟩
end
end L2
namespace L2
open PySem PySem.W PySem.Spec PySem.Calls PyProof.Rows
section
variable {P:Program}{w:World}{K:Frag}{mg:Str->Option Value}{base:Heap}{N:List Str}{qual:Str}{scope:Scope}{f:Addr}{cd:Value}{A:Around}{outer:List Env}{s₀:Shared}{H₀:Hp}{E:XK}
theorem bJ {E':XK}(hE:∀c H',E' c none H'->E c none H'):cj (CXe P w) (bT (CXe P w) P w K mg base N qual scope f cd A outer s₀ H₀ E) E':=by
 intro pins Z H s v s' I h
 obtain ⟨e,C,H',B,a0,rfl,fl,kp,kt,hokB,o1,o2,q⟩:=I.xp h
 have hsub:∀b,b∈frs (envOfC qual scope s₀.heap.objs.size f cd::outer)->b=s₀.heap.objs.size∨b∈frs outer:=fun b hb=>by
  obtain ⟨env,he,hf⟩:=BY.mp hb
  rcases ax.mp he with rfl | he
  .exact .inl (BI hf).symm
  .exact .inr (BY.mpr ⟨env,he,hf⟩)
 have nL:∀b o,s₀.heap.get? b=some o->b∉frs outer->b∉frs (envOfC qual scope s₀.heap.objs.size f cd::outer):=fun b o e nb hb=>by
  rcases hsub b hb with rfl | z
  .exact absurd (Bp e) (CI _)
  .exact nb z
 refine fX I.ok.frames rfl fl fun h' fl' up=>?_
 have I2:=kp h' s'.toks fl'.1 up
 exact ⟨e,C,H',B,a0,rfl,I2.os,I2.bare,I2.base,⟨hokB,fun b o e n hb=>o1 b o e n ah (nL b o e hb),fun b o e hb=>o2 b o e ah (nL b o e hb)⟩,fl',hE _ _ q⟩
end
section
variable {X:Cx}
def yM (C:Addr)(m:Str)(sp:Sp)(dvs:List V)(ta:TE)(t:TA):TEX:=fun Z H Q E=>ta Z H fun x H1=>∃ a dx fs,x=.ref a/\H1 a=some (.ins C dx fs)/\fs.lookup m=none /\
 t Z H1 fun vs H2=>sp (x::(vs++dvs)) H2 Q E
section
variable {C f:Addr}{m:Str}{k:Nat}{fd:FuncData}{ps:List Str}{sp:Sp}{dvs:List V}{ds:List Value}{o e:Expr}{es:List Expr}{ta:TE}{t:TA}{apos pos:Pos}{pl:Sem Bool}
theorem sR (he:PE X.nox o ta)(c:Cls X.K C)(hm:bx X.K C m f)(F:av X.prog X.w X.K X.mg X.base (CXe X.prog X.w) k f fd ps sp)(hr:Room k X.A)(hb:Binds X.K fd ps ds)(hd:Vals dvs ds)(ha:PA X.nox (e::es) t)(hst:starEach (e::es) X.env=(false,eval e X.env)::starEach es X.env:=by rfl)(hpl:(backTo pos (starEach es X.env)).any (·.1)=false:=by rfl)(ht:eval (.Call (.Attribute o m apos) (e::es) [] pos) X.env=(do
   let ov <-eval o X.env
   standAt apos.atName
   let (f,first) <-holding [ov] (getMethod ov m pl)
   callWith pos f first (backTo pos (starEach (e::es) X.env)) (backToKw pos (keywordEach [] X.env))):=by rfl):
  PEX X (.Call (.Attribute o m apos) (e::es) [] pos) (yM C m sp dvs ta t):=by
 intro pins s Z H Q E I h
 refine FE (pl:=pl) (B0 (he pins s Z H _ (I.wish _) h) (fun u s1 zz=>?_) fun _ _ z=>False.elim z) ht
 obtain ⟨x,H1,I1,rx,a,dx,fs,ex,ea,l,q⟩:=zz
 subst ex
 obtain rfl:u=Value.ref a:=rx
 refine eO I1.unwish ea c hm l ?_
 refine FC (first:=[.ref a]) (h₀:=X.base) I.ok.mod.kin hm.kp (B0 (ha pos pins s1 Z H1 _ I1 q) (fun us s2 ⟨vs,H2,I2,r,q2⟩=>⟨I2.kIn,?_⟩) fun _ _ z=>False.elim z) hst hpl
 exact xu (us:=.ref a::us) (vs:=.ref a::vs) F hr hb hd I2.unwish (.cons rfl r) q2
end
def Ae (t:TE):TE:=fun Z H Q=>t Z H fun x H1=>∃ n:Str,x=.str n/\n.length<=1000/\∀r,Q (.str r) H1
theorem iE {a b:Str}(ha:a.length<=1000)(hb:b.length<=1000):(a++b).length<=sizeLine:=by
 rw [strLen_append]
 exact A0 (Nat.add_le_add ha hb) AW
end
end L2
namespace L2
open PySem PySem.Spec PyProof.Rows
open PySem.SeqAt (EqAt RcAt RcNeAt)
section
variable {X:Cx}
theorem yK {H:Hp}{i i' j j':Int}{n n':Str}(r:Vals [.int i,.str n,.int j] us)(r':Vals [.int i',.str n',.int j'] vs):
  ∃ e:Nat->Bool,(∀k (h1:k<us.toArray.size) (h2:k<vs.toArray.size),EqAt A s us.toArray[k] vs.toArray[k] (e k))/\us.length=3/\vs.length=3/\(((List.range 3).all e)=decide ([V.int i,.str n,.int j]=[.int i',.str n',.int j'])):=by
 obtain ⟨u0,u1,u2,rfl,a0,a1,a2⟩:=xP r
 obtain ⟨v0,v1,v2,rfl,b0,b1,b2⟩:=xP r'
 obtain ⟨e0,q0,z0⟩:=bQ (a:=.int i) (c:=.int i') A s trivial a0 b0
 obtain ⟨e1,q1,z1⟩:=bQ (a:=.str n) (c:=.str n') A s trivial a1 b1
 obtain ⟨e2,q2,z2⟩:=bQ (a:=.int j) (c:=.int j') A s trivial a2 b2
 refine ⟨fun k=>if k=0 then e0 else if k=1 then e1 else e2,fun k h1 h2=>?_,rfl,rfl,?_⟩
 .match k,h1,h2 with
  | 0,_,_=>exact q0
  | 1,_,_=>exact q1
  | 2,_,_=>exact q2
  | k+3,h1,_=>exact absurd h1 AY
 rw [Cr,BR]
 have el:(List.range 3).all (fun k=>if k=0 then e0 else if k=1 then e1 else e2)=(e0&&(e1&&e2)):=by
  show (e0&&(e1&&(e2&&true)))=_
  rw [EA]
 rw [el,By,By,z0,z1,z2]
 constructor
 .rintro ⟨h0,h1,h2⟩
  rw [h0,h1,h2]
 intro h
 injection h with h0 h
 injection h with h1 h
 injection h with h2 _
 exact ⟨h0,h1,h2⟩
theorem xG (hu:X.A.units<cLine):OpR X (compareOp .Eq) (fun x y H Q=>∃ a b xs ys,x=.ref a/\y=.ref b/\SqT X.K H a xs/\SqT X.K H b ys/\dA xs/\dA ys/\Q (.bl (decide (xs=ys))) H):=by
 intro pins s Z H x y v u Q I rx ry h
 obtain ⟨a,b,xs,ys,rfl,rfl,ha,hb,⟨i,n,j,rfl⟩,⟨i',n',j',rfl⟩,q⟩:=h
 cases rx
 cases ry
 obtain ⟨its,r,ht,_⟩:=I.tuple ha
 obtain ⟨its2,r2,ht2,_⟩:=I.tuple hb
 obtain ⟨e,he,l1,l2,ee⟩:=yK (H:=H) (s:=s) (A:=X.A.in1) r r2
 refine SeqAt.eq_tupleAt (e:=e) ht ht2 hu he ⟨.bl _,H,I,?_,q⟩
 show Value.bool _=Value.bool _
 rw [Bo,Bo,l1,l2,<-ee]
 show Value.bool ((List.range 3).all e&&true)=_
 rw [EA]
end
end L2
namespace L2
open PySem PySem.W PySem.Spec PySem.Calls PyProof.Rows
section
variable {X:Cx}{pins:List (Addr×Obj)}{Z:St}{H:Hp}{s:Shared}{d:Addr}{kvs:List (Key×V)}
theorem lR {P:Program}{u:HO}(hok:HOk P w H h)(e:H d=some o)(no:∀y,o≠.own y)(nt:∀xs,o≠.tup xs)(new:ObjOk P w (upd H d u) h d u):HOk P w (upd H d u) h:=fun b v q=>by
 by_cases hb:b=d
 .subst hb;rw [ad] at q;cases q;exact new
 rw [ai hb] at q
 refine (hok b v q).stay (fun _ _ _ z=>z) (fun c z=>?_) fun c xs z=>?_
 .rw [ai (fun y=>by subst y;rw [e] at z;cases z;exact no _ rfl)];exact z
 rw [ai (fun y=>by subst y;rw [e] at z;cases z;exact nt _ rfl)];exact z
theorem qG {P:Program}{kvs:List (Key×V)}(x:ObjOk P w H h d (.dK kvs)):ObjOk P w H' h d (.dK kvs):=x
theorem Inv.freeze (I:Inv X pins Z H s)(e:H d=some (.dK kvs)):∃ o,s.heap.get? d=some o/\Inv X pins Z (upd H d (.frz o (.dK kvs))) s:=by
 obtain ⟨o,ho⟩:=I.hok.get e
 have ne:∀b u,H b=some u->(∀k,u≠.dK k)->b≠d:=fun b u q n z=>by subst z;rw [e] at q;cases q;exact n _ rfl
 refine ⟨o,ho,I.step (h':=s.heap) (g':=s.gens) (d':=s.drawn) (t':=s.toks) (ch:=[]) (fun _ z=>nomatch z) (fun b o _ _ _ e _=>e) (fun b o _ _ _ e _=>⟨o.slots,e⟩) (fun b o _ _ n=>?_) (fun b o _ e=>⟨o,e⟩) (fun b xs q=>?_) (fun b o u q=>?_) (fun b ps q=>⟨#[],?_⟩) (fun m hm=>hm) ?_ I.bare⟩
 .rw [ai (fun z=>by subst z;rw [e] at n;cases n)];exact n
 .rw [ai (ne b _ q (fun _ z=>nomatch z))];exact q
 .rw [ai (ne b _ q (fun _ z=>nomatch z))];exact q
 .rw [ai (ne b _ q (fun _ z=>nomatch z)),q];simp
 exact lR I.hok e (fun _ z=>nomatch z) (fun _ z=>nomatch z) ⟨ho,qG (I.hok d _ e)⟩
theorem Inv.thaw {o:Obj}(I:Inv X pins Z H s)(e:H d=some (.frz o (.dK kvs)))(n:∀o u,X.H₀ d≠some (.frz o u)):Inv X pins Z (upd H d (.dK kvs)) s:=by
 have nn:∀b,H b=none->(upd H d (.dK kvs)) b=none:=fun b q=>by rw [ai (fun z=>by subst z;rw [e] at q;cases q)];exact q
 refine ⟨I.ok,I.os,I.bare,⟨I.base.keep,I.base.slot,fun b ob e1 n1 hx=>nn b (I.base.free b ob e1 n1 hx),I.base.there,fun b xs q=>?_,fun b ob u q=>?_,fun b ps q=>?_⟩,I.loc,I.cell,nn _ I.free,fun x c q=>nn _ (I.freeC x c q),fun p hp=>?_,?_,I.len⟩
 .have q2:=I.base.tups b xs q
  rw [ai (fun z=>by subst z;rw [e] at q2;cases q2)];exact q2
 .have q2:=I.base.frzs b ob u q
  rw [ai (fun z=>by subst z;exact n _ _ q)];exact q2
 .obtain ⟨m,q2⟩:=I.base.tbls b ps q
  exact ⟨m,by rw [ai (fun z=>by subst z;rw [e] at q2;cases q2)];exact q2⟩
 .obtain ⟨a1,a2,a3⟩:=I.pin p hp
  exact ⟨a1,nn _ a2,a3⟩
 exact lR I.hok e (fun _ z=>nomatch z) (fun _ z=>nomatch z) (qG (I.hok d _ e).2)
end
def z9 (H0:Hp)(t:TE):TE:=fun Z H Q=>t Z H fun v H1=>∃ d o kvs,H1 d=some (.frz o (.dK kvs))/\(∀o u,H0 d≠some (.frz o u))/\Q v (upd H1 d (.dK kvs))
theorem sh {k:Key}{v:Value}(h:iJ k v=true):RelV (kV k) v:=by
 rcases bj h with ⟨i,t,rfl,rfl⟩ | ⟨x,t,rfl,rfl⟩
 .exact ⟨t,rfl⟩
 exact ⟨t,rfl⟩
def Itk (d:Addr)(o:Obj)(kvs:List (Key×V)):It :=
 ⟨fun i H=>i<kvs.length/\H d=some (.frz o (.dK kvs)),fun i H x H'=>H'=H/\(kvs.map fun kv=>kV kv.1)[i]?=some x,fun i H=>kvs.length<=i/\H d=some (.frz o (.dK kvs))⟩
theorem KV.at {J:Type}{kvs:List (J×V)}{vs:List (J×Value)}(r:KV kvs vs){p:J×V}(h:kvs[i]?=some p):∃ v,vs[i]?=some (p.1,v):=by
 induction r generalizing i with
 | nil=>cases h
 | @cons a b l l' h1 _ ih =>
  cases i with
  | zero =>
   cases h
   exact ⟨b.2,by show some b=_;rw [h1.1]⟩
  | succ i=>exact ih h
theorem rY {P:Program}{K:Frag}{it:Addr}{o:Obj}{es:Array DictEntry}{ep:Nat}(hdo:o.data=.dict es ep):lW P w K tg (Itk d o kvs) [it] it (fun i h=>h.IsKeyIter it d i kvs.length ep) where
 mem:=Bt.mpr rfl
 obj:=fun i h st b hb=>by
  obtain rfl:=AZ hb
  obtain ⟨o,e,c,d⟩:=st
  exact ⟨o,e,fun v z=>by rw [d] at z;cases z⟩
 keep:=fun i h h' st k=>st.at fun o e=>k it (Bt.mpr rfl) o e
 item:=by
  intro X hP hw hK hc i pins s Z H E I hf st hg
  subst hP hw hK
  obtain ⟨hi,hd⟩:=hg
  obtain ⟨ho,_,nsm,vs,rel,o2,es2,ep2,ho2,hx2,hdo2,rest⟩:=(show _/\ObjOk X.prog X.w H s.heap d (.dK kvs) from I.hok d _ hd)
  rw [ho] at ho2
  cases ho2
  rw [hdo] at hdo2
  cases hdo2
  obtain ⟨f0,f1,f2,f3,f4,f5⟩:=hf it (Bt.mpr rfl)
  obtain ⟨v,hv⟩:=rel.at (bt hi)
  have st1:=st
  rw [rel.length] at st1
  refine wpAny_pyNext_dict_item st1 ⟨o,es,ho,hx2,hdo,rest⟩ hv fun key h' hk st' sb=>?_
  rw [<-rel.length] at st'
  have I1:Inv X pins Z H { s with heap:=h' }:=I.turned (t':=s.toks) (fun b o hb e=>(sb.2 b hb).trans e) f0 f1 f3 f4 f5
  obtain ⟨oi,e,c,dd⟩:=id st'
  refine ⟨key,rfl,iN (s:={ s with heap:=h' }) e c dd AW ⟨_,H,I1,sh hk,⟨rfl,?_⟩,st',fun b hb=>(hf b hb).1⟩⟩
  rw [BH,bt hi]
  rfl
 done:=by
  intro X hP hw hK hc i pins s Z H E I hf st hg
  subst hP hw hK
  obtain ⟨hi,hd⟩:=hg
  obtain ⟨ho,_,nsm,vs,rel,o2,es2,ep2,ho2,hx2,hdo2,rest⟩:=(show _/\ObjOk X.prog X.w H s.heap d (.dK kvs) from I.hok d _ hd)
  rw [ho] at ho2
  cases ho2
  rw [hdo] at hdo2
  cases hdo2
  obtain ⟨f0,f1,f2,f3,f4,f5⟩:=hf it (Bt.mpr rfl)
  have st1:=st
  rw [rel.length] at st1
  exact wpAny_pyNext_dict_end (I.ok.hd hc) st1 ⟨o,es,ho,hx2,hdo,rest⟩ (DN (by rw [<-rel.length];exact hi)) fun h' eb=>⟨rfl,I.turned (t':=s.toks) (fun b o hb e=>eb b o hb e) f0 f1 f3 f4 f5⟩
 self:=fun _ _ _ _ _ st h=>wpAny_pyIter_keyiter st h
def zK (td:TE):TI:=fun Z H R=>td Z H fun x H1=>∃ d kvs,x=.ref d/\H1 d=some (.dK kvs)/\∀o,R (Itk d o kvs) (upd H1 d (.frz o (.dK kvs)))
structure yQ (K:Frag)(C:Addr)(mc:Value)(m:Str)(f:Addr):Prop where
 ga:specialIn K (.ref C) "__getattribute__"=some (some (.builtin "type.__getattribute__"))
 rd:readsIn K C mc=true
 fc:findCls K (.ref C) mc m=some (.val (.ref f))
 kp:keepIn K (.ref f)=true
end L2
namespace L2
open PySem PySem.W PySem.Spec PySem.Calls PyProof.Rows
open PySem.SeqAt (EqAt RcAt RcNeAt)
section
variable {X:Cx}
theorem xk (hu:X.A.units<cLine):OpR X (compareOp .Eq) (fun x y H Q=>∃ a b kvs,x=.ref a/\y=.ref b/\H a=some (.dK kvs)/\H b=some (.dK [])/\Q (.bl (decide (kvs=[]))) H):=by
 intro pins s Z H x y v u Q I rx ry h
 obtain ⟨a,b,kvs,rfl,rfl,ha,hb,q⟩:=h
 cases rx
 cases ry
 obtain ⟨_,n1,vs,r1,d1⟩:=jr I.hok ha
 obtain ⟨_,n2,vs2,r2,d2⟩:=jr I.hok hb
 cases r2
 refine keq_eq (r:=true) n1 n2 d1 d2 hu (fun hl=>?_) ⟨.bl _,H,I,?_,q⟩
 .obtain rfl:=Bx.mp hl
  exact .nil
 show Value.bool _=Value.bool _
 congr 1
 rw [Cr,BR,EA,Eh]
 show vs.length=0↔_
 rw [<-r1.length]
 exact Bx
theorem pP (hu:X.A.units<cLine):OpR X (compareOp .Eq) (fun x y H Q=>∃ b ys,y=.ref b/\SqT X.K H b ys/\dA ys/\((x=.non/\Q (.bl false) H)∨∃ a xs,x=.ref a/\SqT X.K H a xs/\dA xs/\Q (.bl (decide (xs=ys))) H)):=by
 intro pins s Z H x y v u Q I rx ry h
 obtain ⟨b,ys,rfl,hb,en,⟨rfl,q⟩ | ⟨a,xs,rfl,ha,en',q⟩⟩:=h
 .cases rx
  cases ry
  obtain ⟨its,r,ht,_⟩:=I.tuple hb
  exact RcAt.none_tuple ht hu X.prog X.w _ _ ⟨.bl false,H,I,rfl,q⟩
 exact xG hu pins s Z H _ _ v u Q I rx ry ⟨a,b,xs,ys,rfl,rfl,ha,hb,en',en,q⟩
inductive AlT (K:Frag)(H:Hp):V->V->Prop
 | non:AlT K H .non .non
 | str (n:Str):AlT K H (.str n) (.str n)
 | int (i:Int):AlT K H (.int i) (.int i)
 | tup {p q:Addr} {xs ys:List V}:SqT K H p xs->SqT K H q ys->AlL K H 8 xs ys->AlT K H (.ref p) (.ref q)
 | lst {p q:Addr} {xs ys:List V}:SqL K H p xs->SqL K H q ys->AlL K H 8 xs ys->AlT K H (.ref p) (.ref q)
theorem fA (hu:X.A.units+100<cLine):OpR X (compareOp .NotEq) (fun x y H Q=>AlT X.K H x y/\Q (.bl false) H):=by
 intro pins s Z H x y v u Q I rx ry ⟨a,q⟩
 cases a with
 | non=>cases rx;cases ry;exact RcNeAt.none_none X.prog X.w _ _ ⟨.bl false,H,I,rfl,q⟩
 | str n =>
  obtain ⟨t,rfl⟩:=rx
  obtain ⟨t',rfl⟩:=ry
  exact RcNeAt.str_str n t n t' X.prog X.w _ _ ⟨.bl false,H,I,by rw [(dI n n).mpr rfl];rfl,q⟩
 | int i =>
  obtain ⟨t,rfl⟩:=rx
  obtain ⟨t',rfl⟩:=ry
  exact RcNeAt.int_int i t i t' X.prog X.w _ _ ⟨.bl false,H,I,by rw [Ew];rfl,q⟩
 | tup h1 h2 al=>exact yn hu pins s Z H _ _ v u Q I rx ry ⟨_,_,_,_,rfl,rfl,h1,h2,al,q⟩
 | lst h1 h2 al=>exact w4 hu pins s Z H _ _ v u Q I rx ry ⟨_,_,_,_,rfl,rfl,h1,h2,al,q⟩
end
end L2
namespace L2
open PySem PySem.W PySem.Spec PySem.Calls PyProof.Rows
def slt (a b:Str):Bool:=decide (a.cps.toList<b.cps.toList)
def prV (k:Int×Str):List V:=[.int k.1,.str k.2]
def ltP (a b:Int×Str):Bool:=bv (prV a) (prV b)
theorem yi {a b:Int×Str}:ltP a b=bv [.int a.1,.str a.2,.int 0] [.int b.1,.str b.2,.int 0]:=by
 unfold ltP prV
 rw [aM,aM,aM,aM,aM]
 by_cases h:V.int a.1=V.int b.1
 .rw [Bf h,Bf h]
  by_cases h2:V.str a.2=V.str b.2
  .rw [Bf h2,Bf h2,Bf rfl]
  .rw [Bc h2,Bc h2]
 rw [Bc h,Bc h]
theorem wB {ys:List V}(h1:IsTup s.heap a us.toArray)(h2:IsTup s.heap b vs.toArray)(r1:Vals xs us)(r2:Vals ys vs)(hf:lL xs ys)(hu:A.units<cLine)(q:Q (.bool (bv xs ys)) s):
  wpAny (model prog w) A (richCompare .Lt (.ref a) (.ref b)) Q E s:=by
 obtain ⟨⟨cls,dd,data,sl⟩,ho,hc,n,hd⟩:=id h1
 obtain ⟨⟨cls2,dd2,data2,sl2⟩,ho2,hc2,n2,hd2⟩:=id h2
 simp only at hc hd hc2 hd2
 subst hc hd hc2 hd2
 exact Ec (op:=.Lt) ⟨_,ho,rfl⟩ ⟨_,ho2,rfl⟩ Ep Ed (D7 _ _) (iL a b _ _ n n2 dd dd2 sl sl2 xs ys r1 r2 hf) ⟨ho,ho2,show Value.bool (bv xs ys)≠Value.notImplemented/\Q (.bool (bv xs ys)) s from ⟨(fun x=>nomatch x),q⟩⟩ hu
section
variable {X:Cx}{e o i a b:Expr}{te to ti ta tb:TE}{pos pos':Pos}{f:Str}
theorem a9 (he:QE X e te)(hb:attributeBase e f X.env (eval e X.env)=eval e X.env):QE X (.Attribute e f pos) (AO X.K te f):=.mk (by
 have he:=he.to
 intro pins s Z H Q I h
 refine xA hb (thn (he pins s Z H _ I h) fun u s1 zz=>?_)
 obtain ⟨x,H1,I1,rx,a,C,dx,fs,v,ex,ea,c,n,l,q⟩:=zz
 subst ex
 obtain rfl:u=Value.ref a:=rx
 exact oM I1 ea c n l fun u' s2 I2 ru=>⟨v,H1,I2,ru,q⟩)
theorem cn {tv:TE}(ha:QE X o to)(hv:QE X value tv)(hs:swapsWith value (some (.Attribute o f pos')) pos.line X.env=pure false):QS X (.Assign [.Attribute o f pos'] value pos) (AM X.K to tv f):=.mk (by
 have ha:=ha.to
 have hv:=hv.to
 intro pins s Z H D I h
 refine plainObj_wpAny_Assign_Attribute (thn (hv pins s Z H _ I h) fun u s1 ⟨y,H1,I1,ry,q⟩=>thn (ha pins s1 Z H1 _ I1 q) fun ov s2 zz=>?_) hs
 obtain ⟨x,H2,I2,rx,a,C,dx,fs,ex,ea,c,n,l,q2⟩:=zz
 subst ex
 obtain rfl:ov=Value.ref a:=rx
 exact nK I2 ea c n l ry fun s3 I3=>⟨Z,_,I3,q2⟩)
theorem cG:QE X (.Dict [] [] pos) yX:=.mk (fun pins s Z H Q I h =>
 wpAny_Dict_empty ⟨.ref s.heap.objs.size,_,I.laid (a:=s.heap.objs.size) (o:=.dK []) (t':=s.toks) (fun _ _ q=>Bg _ q) (A9 _) (l7 s.heap I.big),rfl,h _ (I.hok.fresh (A9 _))⟩)
theorem aN (hu:X.A.units+1<cLine)(ho:QE X o to)(hi:QE X i ti)(hs:zN i):QE X (.Subscript o i pos) (zy to ti):=.mk (by
 have ho:=ho.to
 have hi:=hi.to
 intro pins s Z H Q I h
 refine xc PySem.F.slot_dict_getitem.lookup hs (thn (ho pins s Z H _ I h) fun u s1 ⟨x,H1,I1,rx,q1⟩=>thn (hi pins s1 Z H1 _ I1 q1) fun iv s2 zz=>?_)
 obtain ⟨y,H2,I2,ry,a,v,ex,g,q2⟩:=zz
 subst ex
 obtain rfl:u=Value.ref a:=rx
 exact ⟨mF I2 g,qM hu I2 g ry fun w' s3 I3 rw'=>⟨v,H2,I3,rw',q2⟩⟩)
theorem yo (hu:X.A.units+1<cLine)(hi:QE X i ti)(ho:QE X o to)(h1:behindInMarks .In o=false:=by rfl):QE X (.Compare i [.In] [o] pos) (zh ti to):=.mk (by
 have h:=(uk hu hi.to ho.to)
 exact fun pins s Z H Q I hw=>wpAny_Compare1 (h pins s Z H Q I hw) h1)
theorem yG (hu:X.A.units+1<cLine)(hi:QE X i ti)(ho:QE X o to)(h1:behindInMarks .In o=false:=by rfl):QT X (.Compare i [.In] [o] pos) (tB (zh ti to)):=.mk (vP (uk hu hi.to ho.to) h1)
theorem gp (hu:X.A.units+1<cLine)(hi:QE X i ti)(ho:QE X o to)(h1:behindInMarks .NotIn o=false:=by rfl):QT X (.Compare i [.NotIn] [o] pos) (tB (pF ti to)):=.mk (vP (qV hu hi.to ho.to) h1)
theorem b9 {tv:TE}(hu:X.A.units+1<cLine)(ho:QE X o to)(hi:QE X i ti)(hv:QE X value tv)(hs:swapsWith value (some (.Subscript o i pos')) pos.line X.env=pure false):QS X (.Assign [.Subscript o i pos'] value pos) (zG to ti tv):=.mk (by
 have ho:=ho.to
 have hi:=hi.to
 have hv:=hv.to
 intro pins s Z H D I h
 refine wpAny_Assign_Subscript (thn (hv pins s Z H _ I h) fun r s1 ⟨v,H1,I1,rv,q1⟩=>thn (ho pins s1 Z H1 _ I1 q1) fun u s2 ⟨x,H2,I2,rx,q2⟩=>thn (hi pins s2 Z H2 _ I2 q2) fun iv s3 zz=>?_) hs
 obtain ⟨y,H3,I3,ry,a,H4,ex,g,q3⟩:=zz
 subst ex
 obtain rfl:u=Value.ref a:=rx
 exact rQ hu I3 g ry rv fun s4 I4=>⟨Z,H4,I4,q3⟩)
theorem mz (hu:X.A.units+1<cLine)(ho:QE X o to)(he:QE X e te)(m:M1 X o "get" apos e cpos):QE X (.Call (.Attribute o "get" apos) [e] [] cpos) (ym to te):=.mk (by
 have ho:=ho.to
 have he:=he.to
 intro pins s Z H Q I h
 refine Fc m.base m.few m.line Ds CZ FF (thn (ho pins s Z H _ I h) fun u s1 zz=>?_)
 obtain ⟨x,H1,I1,rx,a,ex,d,q1⟩:=zz
 subst ex
 obtain rfl:u=Value.ref a:=rx
 obtain ⟨t1,t2,_⟩:=uW I1 d
 refine ⟨t1,t2,?_⟩
 rw [m.trees]
 refine CP rfl (C0 (DF (thn (he pins s1 Z H1 _ I1 q1) fun iv s2 ⟨y,H2,I2,ry,ov,g,q2⟩=>Ei ?_)))
 exact ze hu I2 g ry fun w' s3 I3 rw'=>⟨_,H2,I3,rw',q2⟩)
theorem fk (ho:QE X o to)(he:QE X e te)(m:M1 X o "pop" apos e cpos):QE X (.Call (.Attribute o "pop" apos) [e] [] cpos) (yl to te):=.mk (by
 have ho:=ho.to
 have he:=he.to
 intro pins s Z H Q I h
 refine Fc m.base m.few m.line Ds FD PySem.F.type_dict_pop (thn (ho pins s Z H _ I h) fun u s1 zz=>?_)
 obtain ⟨x,H1,I1,rx,a,ex,d,q1⟩:=zz
 subst ex
 obtain rfl:u=Value.ref a:=rx
 obtain ⟨t1,t2,_⟩:=uW I1 d
 refine ⟨t1,t2,?_⟩
 rw [m.trees]
 refine CP rfl (C0 (DF (thn (he pins s1 Z H1 _ I1 q1) fun iv s2 ⟨y,H2,I2,ry,kvs,k,v,ea,ey,l,q2⟩=>Ei ?_)))
 subst ey
 exact zI I2 ea ry l (.inl rfl) fun w' s3 I3 rw'=>⟨v,_,I3,rw',q2⟩)
theorem mw {c:Str}{fpos:Pos}(h:QE X e te)(hc:c.length<=1000):QE X (.JoinedStr [.FormattedValue e (-1) none fpos,.Constant (.str c) j cpos] pos) (Ae te):=.mk (by
 have h:=h.to
 intro pins s Z H Q I hq
 refine JoinedStr_many (joinParts_cons (FormattedValue_plain (thn (h pins s Z H _ I hq) fun u s1 zz=>?_)))
 obtain ⟨x,H1,I1,r1,n,ex,hn,q⟩:=zz
 subst ex
 obtain ⟨t0,rfl⟩:=r1
 have e0:(Str.empty++n).length<=1000:=by rw [strLen_append];show 0+n.length<=1000;lia
 refine formatField_str (fun t' tk=>⟨A0 e0 AW,?_⟩) (A0 hn AW)
 refine joinParts_cons (thn (nk (X:=X) (x:=c) (j:=j) (pos:=cpos) pins { s1 with toks:=tk } Z H1 (fun v H'=>v=.str c/\H'=H1) (I1.tok _) ⟨rfl,rfl⟩) fun u s2 zz=>?_)
 obtain ⟨y,H2,I2,r2,ey,eH⟩:=zz
 subst ey eH
 obtain ⟨t2,rfl⟩:=r2
 exact ⟨iE e0 hc,joinParts_nil ⟨.str _,H2,I2.tok _,⟨_,rfl⟩,q _⟩ (iE e0 hc)⟩)
theorem wt (h:QE X e te):QE X e (z9 X.H₀ te):=.mk (by
 have h:=h.to
 exact fun pins s Z H Q I q =>
 thn (h pins s Z H _ I q) fun u s1 ⟨v,H1,I1,r,d,o,kvs,e1,n,q1⟩=>⟨v,_,I1.thaw e1 n,r,q1⟩)
theorem xL (h:QE X e te):QI X tg e (zK te):=.mk (by
 have hl:=h.to
 intro pins s Z H R I h
 refine thn (hl pins s Z H _ I h) fun v s1 zz=>?_
 obtain ⟨x,H1,I1,r1,d,kvs,e,hd,q⟩:=zz
 subst e
 cases r1
 obtain ⟨o,ho,I2⟩:=I1.freeze hd
 obtain ⟨_,nsm,vs,rel,o2,es,ep,ho2,hx,hdo,rest⟩:=(show ObjOk X.prog X.w H1 s1.heap d (.dK kvs) from I1.hok d _ hd)
 rw [ho] at ho2
 cases ho2
 refine wpAny_pyIter_dict nsm ⟨o,es,ho,hx,hdo,rest⟩ ?_
 refine ⟨s1.heap.objs.size,[s1.heap.objs.size],_,_,_,rfl,I2.kept (t':=s1.toks) fun b o e=>Bg _ e,rY hdo,⟨_,BB _ rfl,rfl,?_⟩,fun b hb=>?_,q o⟩
 .show Data.fields _=_
  rw [rel.length]
  rfl
 obtain rfl:=AZ hb
 exact I2.fpOk (A9 _) (I2.hok.fresh (A9 _)))
theorem vO {rest:List Expr}(ha:QE X a ta)(hb:QE X (.BoolOp .And (b::rest) pos) tb):QE X (.BoolOp .And (a::b::rest) pos) (z8 ta tb):=.mk (by
 have ha:=ha.to
 have hb:=hb.to
 intro pins s Z H Q I h
 refine BoolOp_and (thn (ha pins s Z H _ I h) fun v s1 zz=>?_)
 obtain ⟨x,H1,I1,r1,q1⟩:=zz
 obtain ⟨c,rfl,q1⟩:=q1
 cases r1
 refine C9 ?_
 cases c with
 | true=>exact hb pins s1 Z H1 Q I1 q1
 | false=>exact ⟨.bl false,H1,I1,rfl,q1⟩)
theorem uK {op}(h:QE X a ta):QE X (.BoolOp op [a] pos) ta:=.mk (by
 have h:=h.to
 exact fun pins s Z H Q I hw=>BoolOp_one (h pins s Z H Q I hw))
section
variable {CX:CXT}{k:Nat}{g C:Addr}{mc:Value}{fd:FuncData}{ps:List Str}{sp:Sp}{dvs:List V}{ds:List Value}{E:XK}{m x:Str}{p apos:Pos}{es:List Expr}{t:TA}{pl:Sem Bool}
theorem bd (ho:QE X o to)(c:Cls X.K C)(hm:bx X.K C m g)(F:av X.prog X.w X.K X.mg X.base CX k g fd ps sp)(hr:Room k X.A)(hb:Binds X.K fd ps ds)(hd:Vals dvs ds)(hx:cj CX X E)(ha:QA X (e::es) t)(hst:starEach (e::es) X.env=(false,eval e X.env)::starEach es X.env:=by rfl)(hpl:(backTo pos (starEach es X.env)).any (·.1)=false:=by rfl)(ht:eval (.Call (.Attribute o m apos) (e::es) [] pos) X.env=(do
   let ov <-eval o X.env
   standAt apos.atName
   let (f,first) <-holding [ov] (getMethod ov m pl)
   callWith pos f first (backTo pos (starEach (e::es) X.env)) (backToKw pos (keywordEach [] X.env))):=by rfl):
  QE X (.Call (.Attribute o m apos) (e::es) [] pos) (xY C m sp dvs E to t):=.mk (by
 have he:=ho.to
 have ha:=ha.to
 intro pins s Z H Q I h
 refine FE (pl:=pl) (thn (he pins s Z H _ I h) fun u s1 zz=>?_) ht
 obtain ⟨x,H1,I1,rx,a,dx,fs,ex,ea,l,q⟩:=zz
 subst ex
 obtain rfl:u=Value.ref a:=rx
 refine eO I1 ea c hm l ?_
 refine FC (first:=[.ref a]) (h₀:=X.base) I.ok.mod.kin hm.kp (thn (ha pos pins s1 Z H1 _ I1 q) fun us s2 ⟨vs,H2,I2,r,q2⟩=>⟨I2.kIn,?_⟩) hst hpl
 exact jI (us:=.ref a::us) (vs:=.ref a::vs) F hr hb hd hx I2 (.cons rfl r) q2)
theorem bo (ho:QE X o to)(c:Cls X.K C)(hm:bx X.K C m g)(F:av X.prog X.w X.K X.mg X.base CX k g fd ps sp)(hr:Room k X.A)(hb:Binds X.K fd ps ds)(hd:Vals dvs ds)(hx:cj CX X E)(ht:eval (.Call (.Attribute o m apos) [] [] pos) X.env=(do
   let ov <-eval o X.env
   standAt apos.atName
   let (f,first) <-holding [ov] (getMethod ov m pl)
   callWith pos f first (backTo pos (starEach [] X.env)) (backToKw pos (keywordEach [] X.env))):=by rfl):
  QE X (.Call (.Attribute o m apos) [] [] pos) (xY C m sp dvs E to nP):=.mk (by
 have he:=ho.to
 intro pins s Z H Q I h
 refine FE (pl:=pl) (thn (he pins s Z H _ I h) fun u s1 zz=>?_) ht
 obtain ⟨x,H1,I1,rx,a,dx,fs,ex,ea,l,q⟩:=zz
 subst ex
 obtain rfl:u=Value.ref a:=rx
 refine eO I1 ea c hm l ?_
 exact W.callWith_K0 (first:=[.ref a]) I1.kIn hm.kp (jI (us:=[.ref a]) (vs:=[.ref a]) F hr hb hd hx I1 (.cons rfl .nil) q))
theorem xz (M:Mk X.K C g)(F:av X.prog X.w X.K X.mg X.base CX k g fd ps sp)(hr:Room (k+1) X.A)(hg:Gl X x)(hm:X.mg x=some (.ref C))(hb:Binds X.K fd ps ds)(hd:Vals dvs ds)(hx:cj CX X E)(ha:QA X (e::es) t)(hdb:(x == ("__debug__":Str))=false:=by decide)(he:starEach (e::es) X.env=(false,eval e X.env)::starEach es X.env:=by rfl)(hpl:(backTo pos (starEach es X.env)).any (·.1)=false:=by rfl):
  QE X (.Call (.Name x p) (e::es) [] pos) (x6 C sp dvs E t):=.mk (by
 have ha:=ha.to
 intro pins s Z H Q I h
 refine DH (dh I hg hm ?_ hdb)
 refine FC (h₀:=X.base) I.ok.mod.kin M.kp (thn (ha pos pins s Z H _ I h) fun us s1 ⟨vs,H1,I1,r,q⟩=>⟨I1.kIn,?_⟩) he hpl
 exact me M F hr hb hd hx I1 r q)
theorem mf (M:Mk X.K C g)(F:av X.prog X.w X.K X.mg X.base CX k g fd ps sp)(hr:Room (k+1) X.A)(hg:Gl X x)(hm:X.mg x=some (.ref C))(hb:Binds X.K fd ps ds)(hd:Vals dvs ds)(hx:cj CX X E)(hdb:(x == ("__debug__":Str))=false:=by decide):QE X (.Call (.Name x p) [] [] pos) (x6 C sp dvs E nP):=.mk (by
 intro pins s Z H Q I h
 refine DH (dh I hg hm ?_ hdb)
 exact W.callWith_K0 I.kIn M.kp (me (us:=[]) M F hr hb hd hx I .nil h))
theorem xb (ho:QE X o (tC (.ref C)))(M:yQ X.K C mc m g)(F:av X.prog X.w X.K X.mg X.base CX k g fd ps sp)(hr:Room k X.A)(hb:Binds X.K fd ps ds)(hd:Vals dvs ds)(hx:cj CX X E)(ha:QA X (e::es) t)(hst:starEach (e::es) X.env=(false,eval e X.env)::starEach es X.env:=by rfl)(hpl:(backTo pos (starEach es X.env)).any (·.1)=false:=by rfl)(ht:eval (.Call (.Attribute o m apos) (e::es) [] pos) X.env=(do
   let ov <-eval o X.env
   standAt apos.atName
   let (f,first) <-holding [ov] (getMethod ov m pl)
   callWith pos f first (backTo pos (starEach (e::es) X.env)) (backToKw pos (keywordEach [] X.env))):=by rfl):
  QE X (.Call (.Attribute o m apos) (e::es) [] pos) (tf sp dvs E t):=.mk (by
 have ho:=ho.to
 have ha:=ha.to
 intro pins s Z H Q I h
 refine methodCall_KW (pl:=pl) (thn (ho pins s Z H (fun v H'=>v=.ref C/\H'=H) I ⟨rfl,rfl⟩) fun u s1 zz=>?_) ht
 obtain ⟨x,H1,I1,rx,ex,eH⟩:=zz
 subst ex eH
 obtain rfl:u=Value.ref C:=rx
 refine method_cls I1.kIn M.ga (cls_value I1.kIn M.rd M.fc rfl ?_)
 have I2:=I1.tok (s1.toks+1)
 refine callWith_K (h₀:=X.base) I.ok.mod.kin M.kp (thn (ha pos pins _ Z H1 _ I2 h) fun us s2 ⟨vs,H2,I3,r,q2⟩=>⟨I3.kIn,?_⟩) hst hpl
 exact jI F hr hb hd hx I3 r q2)
end
end
theorem wJ {K:Frag}(h:X.K=K):IxR X (zQ K):=by subst h;exact aI
end L2
namespace Hg
section
variable {α:Type}[Inhabited α]
abbrev g (xs:List α)(i:Nat):α:=xs.getD i default
def sw (xs:List α)(i j:Nat):List α:=(xs.set i (g xs j)).set j (g xs i)
structure Od (lt:α->α->Bool):Prop where
 as:∀a b,lt a b=true->lt b a=false
 nt:∀a b c,lt a b=false->lt b c=false->lt a c=false
theorem Od.irr {lt:α->α->Bool}(o:Od lt)(a:α):lt a a=false:=by
 cases e:lt a a with
 | false=>rfl
 | true=>have:=o.as a a e;rw [e] at this;exact this
theorem lA {xs:List α}{k:Nat}{v:α}:g (xs.set i v) k=if i=k/\k<xs.length then v else g xs k:=by
 simp only [g,Bz,List.getElem?_set]
 by_cases h:i=k
 .subst h
  by_cases h2:i<xs.length
  .simp [h2]
  .simp [h2,DN (Fo h2)]
 simp [h]
theorem aT {xs:List α}:(sw xs i j).length=xs.length:=by simp [sw]
theorem dB {xs:List α}{k:Nat}(hi:i<xs.length)(hj:j<xs.length):g (sw xs i j) k=if k=j then g xs i else if k=i then g xs j else g xs k:=by
 unfold sw
 rw [lA,lA,Cn]
 by_cases h1:k=j
 .subst h1;simp [hj]
 rw [Bc (by intro z;exact h1 z.1.symm),Bc h1]
 by_cases h2:k=i
 .subst h2;simp [hi]
 rw [Bc (by intro z;exact h2 z.1.symm),Bc h2]
theorem g_get {xs:List α}(h:i<xs.length):g xs i=xs[i]:=by simp [g,Bz,h]
theorem dL {xs:List α}(hi:i<xs.length)(hj:j<xs.length):(sw xs i j).Perm xs:=by
 unfold sw
 rw [g_get hi,g_get hj]
 exact List.set_set_perm hi hj
def les (lt:α->α->Bool)(xs:List α)(p:Nat):Nat:=if 2*p+2<xs.length/\lt (g xs (2*p+2)) (g xs (2*p+1))=true then 2*p+2 else 2*p+1
def kids (n p:Nat):Nat:=if 2*p+2<n then 2 else if 2*p+1<n then 1 else 0
def dn (lt:α->α->Bool):Nat->List α->Nat->Nat->List α×Nat
 | 0,xs,_,lk=>(xs,lk)
 | f+1,xs,p,lk=>if 2*p+1<xs.length then
   if lt (g xs (les lt xs p)) (g xs p)=true then dn lt f (sw xs p (les lt xs p)) (les lt xs p) (lk+kids xs.length p) else (xs,lk+kids xs.length p)
  else (xs,lk)
def up (lt:α->α->Bool):Nat->List α->Nat->Nat->List α×Nat
 | 0,xs,_,lk=>(xs,lk)
 | f+1,xs,p,lk=>if 0<p then
   if lt (g xs p) (g xs ((p-1) / 2))=true then up lt f (sw xs p ((p-1) / 2)) ((p-1) / 2) (lk+1) else (xs,lk+1)
  else (xs,lk)
theorem de {lt:α->α->Bool}{xs:List α}{p:Nat}:2*p+1<=les lt xs p:=by unfold les;split <;> lia
theorem oB {lt:α->α->Bool}{xs:List α}{p:Nat}:les lt xs p<=2*p+2:=by unfold les;split <;> lia
theorem cP {lt:α->α->Bool}{xs:List α}{p:Nat}(h:2*p+1<xs.length):les lt xs p<xs.length:=by unfold les;split <;> lia
theorem jT {lt:α->α->Bool}(o:Od lt){xs:List α}{p k:Nat}(hk:k<xs.length)(hp:k=2*p+1∨k=2*p+2):lt (g xs k) (g xs (les lt xs p))=false:=by
 unfold les
 split
 .rename_i h
  rcases hp with rfl | rfl
  .exact o.as _ _ h.2
  .exact o.irr _
 rename_i h
 rcases hp with rfl | rfl
 .exact o.irr _
 cases e:lt (g xs (2*p+2)) (g xs (2*p+1)) with
 | false=>rfl
 | true=>exact absurd ⟨hk,e⟩ h
theorem dn_len {lt:α->α->Bool}:∀{f:Nat} {xs:List α} {p lk:Nat},(dn lt f xs p lk).1.length=xs.length
 | 0,xs,p,lk=>rfl
 | f+1,xs,p,lk=>by
  unfold dn
  split
  .split
   .rw [dn_len,aT]
   .rfl
  .rfl
theorem dn_perm {lt:α->α->Bool}:∀{f:Nat} {xs:List α} {p lk:Nat},(dn lt f xs p lk).1.Perm xs
 | 0,xs,p,lk=>.refl _
 | f+1,xs,p,lk=>by
  unfold dn
  split
  .rename_i h
   split
   .exact dn_perm.trans (dL AX (cP h))
   .exact .refl _
  .exact .refl _
theorem df {lt:α->α->Bool}:∀{f:Nat} {xs:List α} {p lk:Nat},p<xs.length->(up lt f xs p lk).1.Perm xs
 | 0,xs,p,lk,_=>.refl _
 | f+1,xs,p,lk,hp=>by
  unfold up
  split
  .split
   .exact (df (by rw [aT];lia)).trans (dL AX AX)
   .exact .refl _
  .exact .refl _
def HF (lt:α->α->Bool)(q:Nat)(xs:List α):Prop:=∀k,0<k->k<xs.length->q<=(k-1) / 2->lt (g xs k) (g xs ((k-1) / 2))=false
def IsH (lt:α->α->Bool)(xs:List α):Prop:=∀k,0<k->k<xs.length->lt (g xs k) (g xs ((k-1) / 2))=false
theorem HF.zero {lt:α->α->Bool}{xs:List α}(h:HF lt 0 xs):IsH lt xs:=fun k a b=>h k a b (BK _)
theorem dZ {lt:α->α->Bool}(o:Od lt){q:Nat}:∀{f:Nat} {xs:List α} {p lk:Nat},xs.length<=p+f->q<=p ->
  (∀k,0<k->k<xs.length->q<=(k-1) / 2->(k-1) / 2≠p->lt (g xs k) (g xs ((k-1) / 2))=false) ->
  (p=q∨(0<p/\q<=(p-1) / 2/\∀k,0<k->k<xs.length->(k-1) / 2=p->lt (g xs k) (g xs ((p-1) / 2))=false))->HF lt q (dn lt f xs p lk).1
 | 0,xs,p,lk,hf,hq,h1,h2=>by
  intro k k0 k1 k2
  exact h1 k k0 k1 k2 (by have:k<xs.length:=k1;lia)
 | f+1,xs,p,lk,hf,hq,h1,h2=>by
  unfold dn
  split
  .rename_i hc
   have b1:=de (lt:=lt) (xs:=xs) (p:=p)
   have b2:=oB (lt:=lt) (xs:=xs) (p:=p)
   have b3:=cP (lt:=lt) hc
   have bm:=fun k hk hp=>jT o (xs:=xs) (p:=p) (k:=k) hk hp
   split
   .rename_i hl
    generalize les lt xs p=b at *
    have hpl:p<xs.length:=by lia
    refine dZ o (by rw [aT];lia) AX (fun k k0 k1 k2 k3=>?_) (.inr ⟨AX,AX,fun k k0 k1 k2=>?_⟩)
    .rw [aT] at k1
     rw [dB hpl b3,dB hpl b3]
     by_cases e1:k=b
     .subst e1
      have e2:(k-1) / 2=p:=by lia
      rw [Bf rfl,e2,Bc AX,Bf rfl]
      exact o.as _ _ hl
     .rw [Bc e1,Bc (by lia:¬ (k-1) / 2=b)]
      by_cases e2:(k-1) / 2=p
      .rw [Bc AX,Bf e2]
       exact bm k k1 AX
      .rw [Bc e2]
       by_cases e3:k=p
       .subst e3
        rw [Bf rfl]
        rcases h2 with h2 | ⟨_,_,h2⟩
        .lia
        .exact h2 b AX b3 AX
       .rw [Bc e3]
        exact h1 k k0 k1 k2 e2
    .rw [aT] at k1
     have e1:(b-1) / 2=p:=by lia
     rw [e1,dB hpl b3,dB hpl b3,Bc AX,Bc AX,Bc AX,Bf rfl]
     have:=h1 k k0 k1 AX AX
     rwa [k2] at this
   .rename_i hl
    intro k k0 k1 k2
    by_cases e2:(k-1) / 2=p
    .rw [e2]
     have hl':lt (g xs (les lt xs p)) (g xs p)=false:=by simpa using hl
     exact o.nt _ _ _ (bm k k1 AX) hl'
    .exact h1 k k0 k1 k2 e2
  .intro k k0 k1 k2
   exact h1 k k0 k1 k2 (by have:k<xs.length:=k1;lia)
theorem fH {lt:α->α->Bool}(o:Od lt):∀{f:Nat} {xs:List α} {p lk:Nat},p<=f->p<xs.length ->
  (∀k,0<k->k<xs.length->k≠p->lt (g xs k) (g xs ((k-1) / 2))=false) ->
  (∀k,0<k->k<xs.length->(k-1) / 2=p->0<p->lt (g xs k) (g xs ((p-1) / 2))=false)->IsH lt (up lt f xs p lk).1
 | 0,xs,p,lk,hf,hp,h1,h2=>fun k k0 k1=>h1 k k0 k1 AX
 | f+1,xs,p,lk,hf,hp,h1,h2=>by
  unfold up
  split
  .rename_i hc
   split
   .rename_i hl
    generalize ha:(p-1) / 2=a at *
    have hal:a<xs.length:=by lia
    refine fH o AX (by rw [aT];lia) (fun k k0 k1 k2=>?_) (fun k k0 k1 k2 k3=>?_)
    .rw [aT] at k1
     rw [dB hp hal,dB hp hal,Bc k2]
     by_cases e1:k=p
     .subst e1
      rw [Bf rfl,ha,Bf rfl]
      exact o.as _ _ hl
     .rw [Bc e1]
      by_cases e2:(k-1) / 2=a
      .rw [Bf e2]
       have q1:=h1 k k0 k1 e1
       rw [e2] at q1
       exact o.nt _ _ _ q1 (o.as _ _ hl)
      .rw [Bc e2]
       by_cases e3:(k-1) / 2=p
       .rw [Bf e3]
        exact h2 k k0 k1 e3 hc
       .rw [Bc e3]
        exact h1 k k0 k1 e1
    .rw [aT] at k1
     rw [dB hp hal,dB hp hal,Bc AX,Bc (by lia:¬ (a-1) / 2=a),Bc (by lia:¬ (a-1) / 2=p)]
     have qa:=h1 a AX hal AX
     by_cases e1:k=p
     .rw [Bf e1];exact qa
     .rw [Bc e1]
      have q1:=h1 k k0 k1 e1
      rw [k2] at q1
      exact o.nt _ _ _ q1 qa
   .rename_i hl
    intro k k0 k1
    by_cases e1:k=p
    .subst e1;simpa using hl
    .exact h1 k k0 k1 e1
  .intro k k0 k1
   exact h1 k k0 k1 AX
def mk (lt:α->α->Bool):Nat->List α->Nat->List α×Nat
 | 0,xs,lk=>(xs,lk)
 | k+1,xs,lk=>mk lt k (dn lt xs.length xs k 0).1 (lk+(dn lt xs.length xs k 0).2)
theorem mk_perm {lt:α->α->Bool}:∀{k:Nat} {xs:List α} {lk:Nat},(mk lt k xs lk).1.Perm xs
 | 0,_,_=>.refl _
 | k+1,xs,lk=>by unfold mk;exact mk_perm.trans dn_perm
theorem p8 {lt:α->α->Bool}(o:Od lt):∀{k:Nat} {xs:List α} {lk:Nat},HF lt k xs->IsH lt (mk lt k xs lk).1
 | 0,_,_,h=>h.zero
 | k+1,xs,lk,h=>by
  unfold mk
  refine p8 o (dZ o AX (A9 _) (fun j j0 j1 j2 j3=>h j j0 j1 AX) (.inl rfl))
theorem xt {lt:α->α->Bool}{xs:List α}:HF lt (xs.length / 2) xs:=fun k k0 k1 k2=>by lia
variable {lt:α->α->Bool}{xs:List α}{f p lk:Nat}
theorem up_stop (h:¬ 0<p):up lt f xs p lk=(xs,lk):=by
 cases f with
 | zero=>rfl
 | succ f=>unfold up;rw [Bc h]
theorem up_stay (h:0<p)(q:lt (g xs p) (g xs ((p-1) / 2))=false):up lt (f+1) xs p lk=(xs,lk+1):=by
 unfold up;rw [Bf h,Bc (by rw [q];exact Bm)]
theorem up_go (h:0<p)(q:lt (g xs p) (g xs ((p-1) / 2))=true):up lt (f+1) xs p lk=up lt f (sw xs p ((p-1) / 2)) ((p-1) / 2) (lk+1):=by
 conv=>lhs;unfold up
 rw [Bf h,Bf q]
theorem jt (h:2<=n):n.log2=(n / 2).log2+1:=by rw [Nat.log2_def,Bf h]
theorem v6 (h:¬ 2<=n):n.log2=0:=by rw [Nat.log2_def,Bc h]
theorem lO {lt:α->α->Bool}:∀{f:Nat} {xs:List α} {p lk:Nat},(up lt f xs p lk).2<=lk+(p+1).log2
 | 0,xs,p,lk=>CT _ _
 | f+1,xs,p,lk=>by
  unfold up
  split
  .rename_i h
   have e:=jt (n:=p+1) AX
   rw [show (p+1) / 2=(p-1) / 2+1 by lia] at e
   split
   .have:=lO (lt:=lt) (f:=f) (xs:=sw xs p ((p-1) / 2)) (p:=(p-1) / 2) (lk:=lk+1)
    lia
   .show lk+1<=_
    lia
  .exact CT _ _
theorem mr {lt:α->α->Bool}:∀{f:Nat} {xs:List α} {p lk k:Nat},xs.length<2 ^ (k+1)*(p+1)->(dn lt f xs p lk).2<=lk+2*k
 | 0,xs,p,lk,k,_=>CT _ _
 | f+1,xs,p,lk,k,h=>by
  unfold dn
  split
  .rename_i hc
   have k2:kids xs.length p<=2:=by unfold kids;(repeat' split) <;> lia
   cases k with
   | zero=>lia
   | succ k =>
    split
    .have b1:=de (lt:=lt) (xs:=xs) (p:=p)
     have h2:(sw xs p (les lt xs p)).length<2 ^ (k+1)*(les lt xs p+1):=by
      rw [aT]
      refine Bw h ?_
      rw [show 2 ^ (k+1+1)*(p+1)=2 ^ (k+1)*(2*(p+1)) by rw [Nat.pow_succ (n:=2) (m:=k+1),Nat.mul_assoc]]
      exact Nat.mul_le_mul_left _ AX
     have:=mr (lt:=lt) (f:=f) (lk:=lk+kids xs.length p) h2
     lia
    .show lk+kids xs.length p<=_
     lia
  .exact CT _ _
theorem jk {lt:α->α->Bool}{f:Nat}{xs:List α}{p lk:Nat}:(dn lt f xs p lk).2<=lk+2*(xs.length / (p+1)).log2:=mr (by
 have:=Nat.lt_log2_self (n:=xs.length / (p+1))
 exact (Nat.div_lt_iff_lt_mul AX).mp this)
def lgs (n:Nat):Nat->Nat
 | 0=>0
 | k+1=>lgs n k+(n / (k+1)).log2
theorem mI {lt:α->α->Bool}:∀{k:Nat} {xs:List α} {lk:Nat},(mk lt k xs lk).2<=lk+2*lgs xs.length k
 | 0,_,_=>CT _ _
 | k+1,xs,lk=>by
  unfold mk lgs
  have h1:=mI (lt:=lt) (k:=k) (xs:=(dn lt xs.length xs k 0).1) (lk:=lk+(dn lt xs.length xs k 0).2)
  rw [dn_len] at h1
  have h2:=jk (lt:=lt) (f:=xs.length) (xs:=xs) (p:=k) (lk:=0)
  lia
theorem lJ {n:Nat}:∀{k:Nat},k<=n / 2->lgs n k=k+lgs (n / 2) k
 | 0,_=>rfl
 | k+1,h=>by
  unfold lgs
  rw [lJ AX]
  have h2:2<=n / (k+1):=(FG AX).mpr AX
  rw [jt h2,Fu,Nat.mul_comm (k+1) 2,<-Fu]
  lia
theorem qb {m:Nat}:∀{k:Nat},m / 2<=k->lgs m k=lgs m (m / 2)
 | 0,h=>by rw [show m / 2=0 by lia]
 | k+1,h=>by
  by_cases e:m / 2=k+1
  .rw [e]
  .conv=>lhs;unfold lgs
   rw [qb AX,v6 (by
    intro z
    have:=(FG AX).mp z
    lia)]
   rfl
theorem y0:∀(n:Nat),lgs n (n / 2)<=n:=fun n=>by
 induction n using Nat.strongRecOn with
 | _ n ih =>
  by_cases h:n=0
  .subst h;exact A9 _
  .rw [lJ (A9 _),qb AX]
   have:=ih (n / 2) AX
   lia
theorem rO {lt:α->α->Bool}{xs:List α}:(mk lt (xs.length / 2) xs 0).2<=2*xs.length:=by
 have:=mI (lt:=lt) (k:=xs.length / 2) (xs:=xs) (lk:=0)
 have:=y0 xs.length
 lia
theorem iI {lt:α->α->Bool}(o:Od lt){xs:List α}(h:IsH lt xs):∀k,k<xs.length->lt (g xs k) (g xs 0)=false:=fun k=>by
 induction k using Nat.strongRecOn with
 | _ k ih =>
  intro hk
  by_cases k0:k=0
  .subst k0;exact o.irr _
  .exact o.nt _ _ _ (h k AX hk) (ih ((k-1) / 2) AX AX)
theorem iM {lt:α->α->Bool}(o:Od lt){xs:List α}(h:IsH lt xs){y:α}(hy:y∈xs):lt y (g xs 0)=false:=by
 obtain ⟨k,hk,e⟩:=Cw hy
 rw [<-e,<-g_get hk]
 exact iI o h k hk
def cutf (lt:α->α->Bool)(xs:List α):List α×Nat :=
 if xs.dropLast=[] then ([],0) else dn lt xs.dropLast.length (xs.dropLast.set 0 (g xs (xs.length-1))) 0 0
theorem cC {xs:List α}(h:2<=xs.length):∃ mid,xs=g xs 0::mid++[g xs (xs.length-1)]/\xs.dropLast=g xs 0::mid:=by
 cases xs with
 | nil=>simp at h
 | cons a l =>
  have hl:l≠[]:=by intro e;rw [e] at h;simp at h
  refine ⟨l.dropLast,?_,?_⟩
  .show a::l=a::l.dropLast++[g (a::l) l.length]
   have:g (a::l) l.length=l.getLast hl:=by
    rw [g_get AY]
    rw [Fi]
    rw [List.getElem_cons]
    have:l.length≠0:=by intro e;exact hl (Bx.mp e)
    simp [this]
   rw [this,Ck,Ex]
  .show (a::l).dropLast=a::l.dropLast
   exact Ey hl
theorem cE {lt:α->α->Bool}{xs:List α}(h:xs.length=1):cutf lt xs=([],0):=by
 unfold cutf
 rw [Bf]
 rw [<-Bx,BU,h]
theorem dC {lt:α->α->Bool}{xs mid:List α}(e:xs.dropLast=g xs 0::mid):cutf lt xs=dn lt (mid.length+1) (g xs (xs.length-1)::mid) 0 0:=by
 unfold cutf
 rw [Bc (by rw [e];simp),e]
 rfl
theorem cutf_len {lt:α->α->Bool}{xs:List α}:(cutf lt xs).1.length=xs.length-1:=by
 unfold cutf
 split
 .rename_i h
  have:=congrArg List.length h
  rw [BU] at this
  exact this.symm
 rw [dn_len,Cn,BU]
theorem cv {lt:α->α->Bool}{xs:List α}(h:0<xs.length):(g xs 0::(cutf lt xs).1).Perm xs:=by
 by_cases h2:2<=xs.length
 .obtain ⟨mid,e,e2⟩:=cC h2
  rw [dC e2]
  refine (List.Perm.cons _ dn_perm).trans ?_
  conv=>rhs;rw [e]
  rw [Ck]
  refine List.Perm.cons _ ?_
  exact (DO (l₁:=[g xs (xs.length-1)]) (l₂:=mid))
 rw [cE AX]
 cases xs with
 | nil=>simp at h
 | cons a l =>
  have:l=[]:=Bx.mp (by rw [Bj] at h2;lia)
  subst this
  exact .refl _
theorem dO {lt:α->α->Bool}(o:Od lt){xs:List α}(h:IsH lt xs)(hl:0<xs.length):IsH lt (cutf lt xs).1:=by
 by_cases h2:2<=xs.length
 .obtain ⟨mid,e,e2⟩:=cC h2
  rw [dC e2]
  have len:xs.length=mid.length+2:=by
   have:=congrArg List.length e2
   rw [BU,Bj] at this
   lia
  have gm:∀k,k<mid.length->g (g xs (xs.length-1)::mid) (k+1)=g xs (k+1):=fun k hk=>by
   have e3:(g xs 0::mid++[g xs (xs.length-1)])[k+1]?=some mid[k]:=by
    rw [Ck,Dr,CD hk,bt hk]
   rw [<-e] at e3
   show (g xs (xs.length-1)::mid).getD (k+1) default=xs.getD (k+1) default
   rw [Bz,Bz,e3,Dr,bt hk]
  refine HF.zero (dZ o (by rw [Bj];lia) (A9 _) (fun k k0 k1 _ k3=>?_) (.inl rfl))
  rw [Bj] at k1
  obtain ⟨k',rfl⟩:∃ k',k=k'+1:=⟨k-1,AX⟩
  obtain ⟨j,hj⟩:∃ j,(k'+1-1) / 2=j+1:=⟨(k'+1-1) / 2-1,AX⟩
  rw [hj,gm k' AX,gm j AX]
  have:=h (k'+1) AX AX
  rwa [hj] at this
 rw [cE AX]
 intro k k0 k1
 exact absurd k1 AY
theorem nX {lt:α->α->Bool}{xs:List α}:(cutf lt xs).2<=2*xs.length.log2:=by
 unfold cutf
 split
 .exact BK _
 have:=jk (lt:=lt) (f:=xs.dropLast.length) (xs:=xs.dropLast.set 0 (g xs (xs.length-1))) (p:=0) (lk:=0)
 rw [Cn,Gg,Nat.div_one] at this
 have ld:xs.dropLast.length=xs.length-1:=BU
 rw [show xs.dropLast.length.log2=(xs.length-1).log2 by rw [ld]] at this
 have m:(xs.length-1).log2<=xs.length.log2:=by
  by_cases h0:xs.length-1=0
  .rw [h0];exact BK _
  .have h1:=Nat.lt_log2_self (n:=xs.length)
   have:=(Ga h0 (k:=xs.length.log2+1)).mpr AX
   lia
 lia
end
end Hg
namespace Gm
open Hg
structure En (N:Type) where
 w:Int
 n:N
 s:Int
 deriving DecidableEq
instance {N:Type} [Inhabited N]:Inhabited (En N):=⟨⟨0,default,0⟩⟩
structure Slo {N:Type}(sl:N->N->Bool):Prop where
 irr:∀a,sl a a=false
 tr:∀a b c,sl a b=true->sl b c=true->sl a c=true
 tot:∀a b,a≠b->sl a b=true∨sl b a=true
section
variable {N:Type}[DecidableEq N][Inhabited N](sl:N->N->Bool)
def ltE (a b:En N):Bool:=if a.w=b.w then if a.n=b.n then decide (a.s<b.s) else sl a.n b.n else decide (a.w<b.w)
variable {sl}
theorem Slo.as (o:Slo sl){a b:N}(h:sl a b=true):sl b a=false:=by
 cases e:sl b a with
 | false=>rfl
 | true=>have:=o.tr a b a h e;rw [o.irr] at this;cases this
theorem Slo.nt (o:Slo sl){a b c:N}(h:sl a b=false)(h':sl b c=false):sl a c=false:=by
 cases e:sl a c with
 | false=>rfl
 | true =>
  by_cases hab:a=b
  .subst hab;rw [h'] at e;cases e
  .by_cases hbc:b=c
   .subst hbc;rw [h] at e;cases e
   .have h1:=(o.tot a b hab).resolve_left (by rw [h];exact Bm)
    have h2:=(o.tot b c hbc).resolve_left (by rw [h'];exact Bm)
    have:=o.tr c b a h2 h1
    have:=o.as this
    rw [this] at e;cases e
theorem ltE_iff {a b:En N}:ltE sl a b=true↔a.w<b.w∨(a.w=b.w/\((a.n≠b.n/\sl a.n b.n=true)∨(a.n=b.n/\a.s<b.s))):=by
 unfold ltE
 by_cases h:a.w=b.w
 .rw [Bf h]
  by_cases h2:a.n=b.n
  .rw [Bf h2,BR]
   constructor
   .intro z;exact .inr ⟨h,.inr ⟨h2,z⟩⟩
   .rintro (z | ⟨_,⟨z,_⟩ | ⟨_,z⟩⟩)
    .lia
    .exact absurd h2 z
    .exact z
  .rw [Bc h2]
   constructor
   .intro z;exact .inr ⟨h,.inl ⟨h2,z⟩⟩
   .rintro (z | ⟨_,⟨_,z⟩ | ⟨z,_⟩⟩)
    .lia
    .exact z
    .exact absurd z h2
 rw [Bc h,BR]
 constructor
 .intro z;exact .inl z
 rintro (z | ⟨z,_⟩)
 .exact z
 exact absurd z h
theorem od_ltE (o:Slo sl):Od (ltE sl) where
 as:=fun a b h=>by
  cases e:ltE sl b a with
  | false=>rfl
  | true =>
   rw [ltE_iff] at h e
   rcases h with h | ⟨h1,⟨h2,h3⟩ | ⟨h2,h3⟩⟩ <;> rcases e with e | ⟨e1,⟨e2,e3⟩ | ⟨e2,e3⟩⟩ <;> try omega
   .rw [o.as h3] at e3;cases e3
   .exact absurd e2.symm h2
   .exact absurd h2.symm e2
 nt:=fun a b c h h'=>by
  cases e:ltE sl a c with
  | false=>rfl
  | true =>
   have h1:¬ ltE sl a b=true:=by rw [h];exact Bm
   have h2:¬ ltE sl b c=true:=by rw [h'];exact Bm
   rw [ltE_iff] at h1 h2 e
   exfalso
   have w1:b.w<=a.w:=by
    rcases Int.lt_or_le a.w b.w with z | z
    .exact absurd (.inl z) h1
    .exact z
   have w2:c.w<=b.w:=by
    rcases Int.lt_or_le b.w c.w with z | z
    .exact absurd (.inl z) h2
    .exact z
   rcases e with e | ⟨e1,e2⟩
   .lia
   .have wab:a.w=b.w:=by lia
    have wbc:b.w=c.w:=by lia
    have n1:sl a.n b.n=false:=by
     cases z:sl a.n b.n with
     | false=>rfl
     | true =>
      by_cases q:a.n=b.n
      .rw [q,o.irr] at z;cases z
      .exact absurd (.inr ⟨wab,.inl ⟨q,z⟩⟩) h1
    have n2:sl b.n c.n=false:=by
     cases z:sl b.n c.n with
     | false=>rfl
     | true =>
      by_cases q:b.n=c.n
      .rw [q,o.irr] at z;cases z
      .exact absurd (.inr ⟨wbc,.inl ⟨q,z⟩⟩) h2
    have n3:=o.nt n1 n2
    rcases e2 with ⟨_,z⟩ | ⟨z1,z2⟩
    .rw [n3] at z;cases z
    .have:a.n=b.n:=by
      by_cases q:a.n=b.n
      .exact q
      .have q1:=(o.tot _ _ q).resolve_left (by rw [n1];exact Bm)
       rw [<-z1] at n2
       rw [n2] at q1;cases q1
     have e4:b.n=c.n:=this.symm.trans z1
     have s1:¬ a.s<b.s:=fun z=>h1 (.inr ⟨wab,.inr ⟨this,z⟩⟩)
     have s2:¬ b.s<c.s:=fun z=>h2 (.inr ⟨wbc,.inr ⟨e4,z⟩⟩)
     lia
end
section
variable {N β γ:Type}[DecidableEq N]
def dget (L:List (N×β))(n:N):Option β:=(L.find? fun p=>decide (p.1=n)).map (·.2)
def dput (L:List (N×β))(n:N)(b:β):List (N×β):=if L.any (fun p=>decide (p.1=n)) then L.map (fun p=>if p.1=n then (p.1,b) else p) else L++[(n,b)]
def ddel (L:List (N×β))(n:N):List (N×β):=L.filter fun p=>decide (p.1≠n)
theorem rJ {L:List (N×β)}{n:N}{b:β}(h:dget L n=some b):(n,b)∈L:=by
 unfold dget at h
 obtain ⟨p,hp,rfl⟩:=Ft.mp h
 have h1:=List.mem_of_find?_eq_some hp
 have h2:=List.find?_some hp
 simp at h2
 subst h2
 exact h1
theorem dget_of {L:List (N×β)}(nd:(L.map (·.1)).Nodup){n:N}{b:β}(h:(n,b)∈L):dget L n=some b:=by
 induction L with
 | nil=>cases h
 | cons p r ih =>
  rw [BA,BP] at nd
  unfold dget
  rw [Cs]
  by_cases e:p.1=n
  .rw [Bb e]
   rcases ax.mp h with rfl | h
   .rfl
   .exact absurd (BF.mpr ⟨_,h,e.symm⟩) nd.1
  .rw [Br e]
   rcases ax.mp h with rfl | h
   .exact absurd rfl e
   .exact ih nd.2 h
theorem dget_none {L:List (N×β)}{n:N}:dget L n=none↔n∉L.map (·.1):=by
 unfold dget
 rw [Option.map_eq_none_iff,List.find?_eq_none]
 constructor
 .intro h z
  obtain ⟨p,hp,e⟩:=BF.mp z
  have:=h p hp
  simp [e] at this
 intro h p hp
 simp
 intro e
 exact h (BF.mpr ⟨p,hp,e⟩)
theorem gk {L:List (N×β)}{n:N}{b:β}:(dput L n b).map (·.1)=if n∈L.map (·.1) then L.map (·.1) else L.map (·.1)++[n]:=by
 unfold dput
 by_cases h:L.any (fun p=>decide (p.1=n))=true
 .rw [Bf h]
  have:n∈L.map (·.1):=by
   obtain ⟨p,hp,e⟩:=List.any_eq_true.mp h
   exact BF.mpr ⟨p,hp,Ba e⟩
  rw [Bf this,FH]
  apply Du
  intro p _
  show (if p.1=n then (p.1,b) else p).1=p.1
  split <;> rfl
 rw [Bc h]
 have:¬ n∈L.map (·.1):=fun z=>h (by
  obtain ⟨p,hp,e⟩:=BF.mp z
  exact Dy.mpr ⟨p,hp,Bb e⟩)
 rw [Bc this,BL]
 rfl
theorem xg {L:List (N×β)}{n:N}{b:β}(nd:(L.map (·.1)).Nodup):((dput L n b).map (·.1)).Nodup:=by
 rw [gk]
 split
 .exact nd
 rename_i h
 rw [De]
 refine ⟨nd,BP.mpr ⟨ah,CF⟩,?_⟩
 intro a ha c hc
 rw [Bt] at hc
 subst hc
 intro z;subst z;exact h ha
theorem dput_mem {L:List (N×β)}{n m:N}{b c:β}(h:(m,c)∈dput L n b):(m=n/\c=b)∨(m≠n/\(m,c)∈L):=by
 unfold dput at h
 split at h
 .obtain ⟨p,hp,e⟩:=BF.mp h
  split at e
  .rename_i q
   cases e
   exact .inl ⟨q,rfl⟩
  .rename_i q
   subst e
   exact .inr ⟨q,hp⟩
 rename_i hn
 rcases BG.mp h with h | h
 .refine .inr ⟨fun z=>hn (Dy.mpr ⟨_,h,Bb z⟩),h⟩
 rw [Bt] at h
 cases h
 exact .inl ⟨rfl,rfl⟩
theorem ddel_mem {L:List (N×β)}{n m:N}{c:β}:(m,c)∈ddel L n↔m≠n/\(m,c)∈L:=by
 unfold ddel
 rw [BJ]
 simp
 exact And.comm
theorem pq {L:List (N×β)}{n:N}(nd:(L.map (·.1)).Nodup):((ddel L n).map (·.1)).Nodup :=
 (Fq _ Dv).nodup nd
theorem dput_map {L:List (N×β)}{n:N}{b:β}{f:β->γ}:(dput L n b).map (fun p=>(p.1,f p.2))=dput (L.map fun p=>(p.1,f p.2)) n (f b):=by
 unfold dput
 have e:(L.map fun p=>(p.1,f p.2)).any (fun p=>decide (p.1=n))=L.any (fun p=>decide (p.1=n)):=by
  rw [List.any_map];rfl
 rw [e]
 split
 .rw [FH,FH]
  apply Du
  intro p _
  show ((if p.1=n then (p.1,b) else p).1,f (if p.1=n then (p.1,b) else p).2)=if p.1=n then (p.1,f b) else (p.1,f p.2)
  split <;> rfl
 rw [BL];rfl
theorem ddel_map {L:List (N×β)}{n:N}{f:β->γ}:(ddel L n).map (fun p=>(p.1,f p.2))=ddel (L.map fun p=>(p.1,f p.2)) n:=by
 unfold ddel
 rw [FI]
 rfl
theorem sL {L:List (N×β)}{n:N}{b:β}:(dput L n b).length<=L.length+1:=by
 unfold dput
 split
 .rw [Bh];lia
 rw [Bi];exact A9 _
theorem mL {L:List (N×β)}{n:N}:(ddel L n).length<=L.length:=BQ _ _
end
structure LS (N:Type) where
 slack:Int
 there:List (N×En N)
 stamp:Nat
 row:List (En N)
 looks:Nat
section
variable {N:Type}[DecidableEq N][Inhabited N](sl:N->N->Bool)
def holds (T:List (N×En N))(e:En N):Bool:=decide (dget T e.n=some e)
def enter (s:LS N)(n:N)(w:Int):LS N :=
 { s with there:=dput s.there n ⟨w,n,(s.stamp:Int)⟩,stamp:=s.stamp+1,row:=(up (ltE sl) s.row.length (s.row++[⟨w,n,(s.stamp:Int)⟩]) s.row.length 0).1,looks:=s.looks+(up (ltE sl) s.row.length (s.row++[⟨w,n,(s.stamp:Int)⟩]) s.row.length 0).2 }
def cut (s:LS N):LS N:={ s with row:=(cutf (ltE sl) s.row).1,looks:=s.looks+(cutf (ltE sl) s.row).2 }
def clean:Nat->LS N->LS N
 | 0,s=>s
 | f+1,s=>if holds s.there (g s.row 0) then s else clean f (cut sl s)
def due (s:LS N):Bool:=decide ((s.row.length:Int)-s.there.length>s.there.length)&&decide ((s.row.length:Int)-s.there.length>s.slack)
def swept (s:LS N):LS N:={ s with row:=(mk (ltE sl) ((s.row.filter (holds s.there)).length / 2) (s.row.filter (holds s.there)) 0).1,looks:=s.looks+(mk (ltE sl) ((s.row.filter (holds s.there)).length / 2) (s.row.filter (holds s.there)) 0).2 }
def sweep (s:LS N):LS N:=if due s=true then swept sl s else s
def putL (s:LS N)(n:N)(w:Int):LS N:=sweep sl (enter sl s n w)
def dropT (s:LS N)(n:N):LS N:={ s with there:=ddel s.there n }
def dropL (s:LS N)(n:N):LS N:=sweep sl (dropT s n)
def leastL (s:LS N):LS N:=clean sl s.row.length s
def takeL (s:LS N):LS N:=sweep sl (dropT (cut sl (leastL sl s)) (g (leastL sl s).row 0).n)
def newL (slack:Int):LS N:=⟨slack,[],0,[],0⟩
structure LInv (s:LS N):Prop where
 nd:(s.there.map (·.1)).Nodup
 inr:∀n e,(n,e)∈s.there->e.n=n/\e∈s.row
 st:(s.row.map (·.s)).Nodup
 lts:∀e∈s.row,e.s<(s.stamp:Int)
 hp:IsH (ltE sl) s.row
 len:s.row.length<=s.stamp
 tl:s.there.length<=s.stamp
variable {sl}
theorem new_inv {z:Int}:LInv sl (newL (N:=N) z):=⟨CF,(fun _ _ h=>nomatch h),CF,(fun _ h=>nomatch h),(fun _ _ h=>absurd h (Nat.not_lt_zero _)),A9 _,A9 _⟩
theorem LInv.held {s:LS N}(I:LInv sl s){n:N}{e:En N}(h:(n,e)∈s.there):holds s.there e=true:=by
 unfold holds
 rw [BR,(I.inr n e h).1]
 exact dget_of I.nd h
theorem holds_in {T:List (N×En N)}{e:En N}(h:holds T e=true):(e.n,e)∈T:=rJ (Ba h)
theorem xU {α:Type}[Inhabited α]{xs:List α}{e:α}{k:Nat}(h:k<xs.length):g (xs++[e]) k=g xs k:=by
 simp only [g,Bz,CD h]
theorem tI {α:Type}[Inhabited α]{lt:α->α->Bool}(o:Od lt){xs:List α}(h:IsH lt xs){e:α}:IsH lt (up lt xs.length (xs++[e]) xs.length 0).1:=by
 have l1:(xs++[e]).length=xs.length+1:=by rw [Bi];rfl
 refine fH o (A9 _) AX (fun k k0 k1 k2=>?_) (fun k k0 k1 k2 k3=>by lia)
 rw [xU AX,xU AX]
 exact h k k0 AX
theorem enter_row_perm {s:LS N}{n:N}{w:Int}:(enter sl s n w).row.Perm (s.row++[⟨w,n,(s.stamp:Int)⟩]):=df (by rw [Bi];exact CS _)
theorem enter_inv (o:Slo sl){s:LS N}(I:LInv sl s){n:N}{w:Int}:LInv sl (enter sl s n w) where
 nd:=xg I.nd
 inr:=fun m e h=>by
  have p:=enter_row_perm (sl:=sl) (s:=s) (n:=n) (w:=w)
  rcases dput_mem h with ⟨rfl,rfl⟩ | ⟨_,h⟩
  .exact ⟨rfl,p.mem_iff.mpr (BG.mpr (.inr (Bt.mpr rfl)))⟩
  .obtain ⟨h1,h2⟩:=I.inr m e h
   exact ⟨h1,p.mem_iff.mpr (BG.mpr (.inl h2))⟩
 st:=by
  have p:=(enter_row_perm (sl:=sl) (s:=s) (n:=n) (w:=w)).map (·.s)
  refine p.nodup_iff.mpr ?_
  rw [BL,De]
  refine ⟨I.st,BP.mpr ⟨ah,CF⟩,?_⟩
  intro a ha c hc
  obtain ⟨e,he,rfl⟩:=BF.mp ha
  rw [BA,Dk,Bt] at hc
  have:=I.lts e he
  subst hc
  exact Int.ne_of_lt this
 lts:=fun e h=>by
  have p:=enter_row_perm (sl:=sl) (s:=s) (n:=n) (w:=w)
  rcases BG.mp (p.mem_iff.mp h) with h | h
  .have:=I.lts e h
   show e.s<((s.stamp+1:Nat):Int)
   lia
  .rw [Bt] at h
   subst h
   show (s.stamp:Int)<((s.stamp+1:Nat):Int)
   lia
 hp:=tI (od_ltE o) I.hp
 len:=by
  have:=(enter_row_perm (sl:=sl) (s:=s) (n:=n) (w:=w)).length_eq
  rw [Bi] at this
  have l:=I.len
  show _<=s.stamp+1
  rw [this]
  exact Cu l
 tl:=A0 sL (Cu I.tl)
theorem LInv.root {s:LS N}(I:LInv sl s)(o:Slo sl){e:En N}(h:e∈s.row):ltE sl e (g s.row 0)=false:=iM (od_ltE o) I.hp h
theorem cut_inv (o:Slo sl){s:LS N}(I:LInv sl s)(h0:0<s.row.length)(hh:¬ holds s.there (g s.row 0)=true):LInv sl (cut sl s):=by
 have p:=cv (lt:=ltE sl) h0
 have sub:∀e∈(cutf (ltE sl) s.row).1,e∈s.row:=fun e he=>p.mem_iff.mp (Bk _ he)
 refine ⟨I.nd,fun n e h=>?_,?_,fun e he=>I.lts e (sub e he),dO (od_ltE o) I.hp h0,?_,I.tl⟩
 .obtain ⟨h1,h2⟩:=I.inr n e h
  refine ⟨h1,?_⟩
  rcases ax.mp (p.mem_iff.mpr h2) with z | z
  .exact absurd (z▸I.held h) hh
  .exact z
 .have:=(p.map (·.s)).nodup_iff.mpr I.st
  rw [BA,BP] at this
  exact this.2
 show (cutf (ltE sl) s.row).1.length<=s.stamp
 rw [cutf_len]
 have:=I.len
 lia
theorem cut_take_inv (o:Slo sl){s:LS N}(I:LInv sl s)(h0:0<s.row.length):LInv sl (dropT (cut sl s) (g s.row 0).n):=by
 have p:=cv (lt:=ltE sl) h0
 have sub:∀e∈(cutf (ltE sl) s.row).1,e∈s.row:=fun e he=>p.mem_iff.mp (Bk _ he)
 refine ⟨pq I.nd,fun n e h=>?_,?_,fun e he=>I.lts e (sub e he),dO (od_ltE o) I.hp h0,?_,A0 mL I.tl⟩
 .obtain ⟨hn,h⟩:=ddel_mem.mp h
  obtain ⟨h1,h2⟩:=I.inr n e h
  refine ⟨h1,?_⟩
  rcases ax.mp (p.mem_iff.mpr h2) with z | z
  .exact absurd (h1.symm.trans (congrArg (·.n) z)) hn
  .exact z
 .have:=(p.map (·.s)).nodup_iff.mpr I.st
  rw [BA,BP] at this
  exact this.2
 show (cutf (ltE sl) s.row).1.length<=s.stamp
 rw [cutf_len]
 have:=I.len
 lia
theorem drop_inv {s:LS N}(I:LInv sl s){n:N}:LInv sl (dropT s n):=⟨pq I.nd,fun m e h=>I.inr m e (ddel_mem.mp h).2,I.st,I.lts,I.hp,I.len,A0 mL I.tl⟩
theorem swept_perm {s:LS N}:(swept sl s).row.Perm (s.row.filter (holds s.there)):=mk_perm
theorem rT (o:Slo sl){s:LS N}(I:LInv sl s):LInv sl (swept sl s):=by
 have p:=swept_perm (sl:=sl) (s:=s)
 have sub:∀e∈(swept sl s).row,e∈s.row:=fun e he=>(BJ.mp (p.mem_iff.mp he)).1
 refine ⟨I.nd,fun n e h=>?_,?_,fun e he=>I.lts e (sub e he),p8 (od_ltE o) xt,?_,I.tl⟩
 .obtain ⟨h1,h2⟩:=I.inr n e h
  exact ⟨h1,p.mem_iff.mpr (BJ.mpr ⟨h2,I.held h⟩)⟩
 .refine (p.map (·.s)).nodup_iff.mpr ?_
  exact (Fq _ Dv).nodup I.st
 rw [p.length_eq]
 exact A0 (BQ _ _) I.len
theorem fR (o:Slo sl){s:LS N}(I:LInv sl s):LInv sl (sweep sl s):=by
 unfold sweep
 split
 .exact rT o I
 exact I
theorem sweep_there {s:LS N}:(sweep sl s).there=s.there:=by unfold sweep;split <;> rfl
theorem sweep_stamp {s:LS N}:(sweep sl s).stamp=s.stamp:=by unfold sweep;split <;> rfl
structure qh (s s':LS N):Prop where
 inv:LInv sl s'
 there:s'.there=s.there
 stamp:s'.stamp=s.stamp
 slack:s'.slack=s.slack
 pos:0<s'.row.length
 hold:holds s'.there (g s'.row 0)=true
theorem row_pos {s:LS N}(I:LInv sl s)(h:s.there≠[]):0<s.row.length:=by
 cases e:s.there with
 | nil=>exact absurd e h
 | cons p r=>exact Fv (I.inr p.1 p.2 (by rw [e];exact BD)).2
theorem mG (o:Slo sl):∀{f:Nat} {s:LS N},LInv sl s->s.there≠[]->s.row.length<=f->qh (sl:=sl) s (clean sl f s)
 | 0,s,I,h,hf=>absurd (row_pos I h) AX
 | f+1,s,I,h,hf=>by
  unfold clean
  have h0:=row_pos I h
  split
  .rename_i hh
   exact ⟨I,rfl,rfl,rfl,h0,hh⟩
  .rename_i hh
   have c:=mG o (f:=f) (cut_inv o I h0 hh) h (by show (cutf (ltE sl) s.row).1.length<=f;rw [cutf_len];lia)
   exact ⟨c.inv,c.there,c.stamp,c.slack,c.pos,c.hold⟩
theorem least_ok (o:Slo sl){s:LS N}(I:LInv sl s)(h:s.there≠[]):qh (sl:=sl) s (leastL sl s):=mG o I h (A9 _)
theorem jA:∀{f:Nat} {s:LS N},(clean sl f s).row.length<=s.row.length
 | 0,s=>A9 _
 | f+1,s=>by
  unfold clean
  split
  .exact A9 _
  .refine A0 jA ?_
   show (cutf (ltE sl) s.row).1.length<=_
   rw [cutf_len]
   lia
theorem least_len {s:LS N}:(leastL sl s).row.length<=s.row.length:=jA
theorem put_inv (o:Slo sl){s:LS N}(I:LInv sl s){n:N}{w:Int}:LInv sl (putL sl s n w):=fR o (enter_inv o I)
theorem dropL_inv (o:Slo sl){s:LS N}(I:LInv sl s){n:N}:LInv sl (dropL sl s n):=fR o (drop_inv I)
theorem take_inv (o:Slo sl){s:LS N}(I:LInv sl s)(h:s.there≠[]):LInv sl (takeL sl s):=fR o (cut_take_inv o (least_ok o I h).inv (least_ok o I h).pos)
structure Ak (T:List (N×En N))(e:En N):Prop where
 mem:(e.n,e)∈T
 le:∀n e',(n,e')∈T->ltE sl e' e=false
theorem least_is (o:Slo sl){s:LS N}(I:LInv sl s)(h:s.there≠[]):Ak (sl:=sl) s.there (g (leastL sl s).row 0):=by
 have c:=least_ok o I h
 refine ⟨by have:=holds_in c.hold;rw [c.there] at this;exact this,fun n e' h'=>?_⟩
 exact c.inv.root o (c.inv.inr n e' (by rw [c.there];exact h')).2
theorem take_there {s:LS N}:(takeL sl s).there=ddel (leastL sl s).there (g (leastL sl s).row 0).n:=sweep_there
end
end Gm
namespace L2
open PySem
instance:Inhabited Str:=⟨""⟩
abbrev En:=Gm.En Str
abbrev LS:=Gm.LS Str
def enV (e:En):List V:=[.int e.w,.str e.n,.int e.s]
theorem ny (e:En):dA (enV e):=⟨_,_,_,rfl⟩
def xC:List V->En
 | [.int w,.str n,.int s]=>⟨w,n,s⟩
 | _=>⟨0,"",0⟩
theorem yJ (e:En):xC (enV e)=e:=rfl
theorem ox (h:dA l):enV (xC l)=l:=by
 obtain ⟨i,n,j,rfl⟩:=h
 rfl
theorem kL {a b:En}(h:enV a=enV b):a=b:=by
 have:=congrArg xC h
 exact this
abbrev lE:En->En->Bool:=Gm.ltE slt
theorem slt_slo:Gm.Slo slt where
 irr:=fun a=>Br (List.lt_irrefl _)
 tr:=fun a b c h1 h2=>Bb (List.lt_trans (Ba h1) (Ba h2))
 tot:=fun a b h=>by
  by_cases h1:a.cps.toList<b.cps.toList
  .exact .inl (Bb h1)
  .by_cases h2:b.cps.toList<a.cps.toList
   .exact .inr (Bb h2)
   .exact absurd (ca (List.le_antisymm (FZ.mp h2) (FZ.mp h1))) h
theorem j6 (a b:En):bv (enV a) (enV b)=lE a b:=by
 unfold enV
 rw [aM,aM,aM]
 show _=Gm.ltE slt a b
 unfold Gm.ltE
 by_cases h:a.w=b.w
 .rw [Bf (by rw [h]),Bf h]
  by_cases h2:a.n=b.n
  .rw [Bf (by rw [h2]),Bf h2]
   by_cases h3:a.s=b.s
   .rw [Bf (by rw [h3])]
    show false=_
    rw [h3]
    exact (Br (Int.lt_irrefl _)).symm
   .rw [Bc (fun z=>h3 (V.int.inj z))]
    rfl
  .rw [Bc (fun z=>h2 (V.str.inj z)),Bc h2]
   rfl
 rw [Bc (fun z=>h (V.int.inj z)),Bc h]
 rfl
def tE (H:Hp)(x:V):En:=xC (bO H x)
theorem zk (H:Hp):tE H .non=default:=rfl
theorem oP (H:Hp)(x y:V):ltT (bO H) x y=lE (tE H x) (tE H y):=by
 rw [<-j6]
 unfold tE ltT
 rw [ox (eU H x),ox (eU H y)]
theorem sy {e:En}(h:H a=some (.tup (enV e))):tE H (.ref a)=e:=by
 unfold tE
 rw [wz h (ny e),yJ]
structure RR (H:Hp)(xs:List V)(es:List En):Prop where
 mem:∀x∈xs,∃ a,x=.ref a/\H a=some (.tup (enV (tE H x)))
 eq:xs.map (tE H)=es
section
variable {H H':Hp}{xs ys:List V}{es fs:List En}
theorem RR.en (r:RR H xs es):EnR (bO H) H xs:=⟨eU H,fun x hx=>by
 obtain ⟨a,rfl,h⟩:=r.mem x hx
 exact ⟨a,rfl,by rw [<-ox (eU H (.ref a))];exact h⟩⟩
theorem RR.len (r:RR H xs es):xs.length=es.length:=by rw [<-r.eq,Bh]
theorem RR.stay (r:RR H xs es)(k:∀b l,H b=some (.tup l)->H' b=some (.tup l)):RR H' xs es:=by
 have e:∀x∈xs,tE H' x=tE H x:=fun x hx=>by
  obtain ⟨a,rfl,h⟩:=r.mem x hx
  exact sy (k _ _ h)
 refine ⟨fun x hx=>?_,?_⟩
 .obtain ⟨a,rfl,h⟩:=r.mem x hx
  exact ⟨a,rfl,by rw [e _ hx];exact k _ _ h⟩
 rw [<-r.eq];exact Du e
theorem RR.nil:RR H [] []:=⟨(fun _ h=>nomatch h),rfl⟩
theorem RR.sub (r:RR H xs es)(s:∀y∈ys,y∈xs):RR H ys (ys.map (tE H)):=⟨fun x hx=>r.mem x (s x hx),rfl⟩
theorem RR.snoc (r:RR H xs es){e:En}(h:H a=some (.tup (enV e))):RR H (xs++[.ref a]) (es++[e]):=by
 refine ⟨fun x hx=>?_,?_⟩
 .rcases BG.mp hx with z | z
  .exact r.mem x z
  .rw [AZ z]
   exact ⟨a,rfl,by rw [sy h];exact h⟩
 rw [BL,r.eq]
 show es++[tE H (.ref a)]=_
 rw [sy h]
theorem RR.at (r:RR H xs es)(hi:i<es.length):∃ a,Hm.g xs i=.ref a/\H a=some (.tup (enV (Hg.g es i)))/\atI xs (i:Int)=some (.ref a):=by
 have hx:i<xs.length:=by rw [r.len];exact hi
 have m:Hm.g xs i∈xs:=by rw [Hm.g_get hx];exact Cj hx
 obtain ⟨a,ea,h⟩:=r.mem _ m
 have eg:Hg.g es i=tE H (Hm.g xs i):=by
  rw [Hg.g_get hi,Hm.g_get hx]
  have:=r.eq
  subst this
  rw [List.getElem_map]
 refine ⟨a,ea,by rw [eg];exact h,?_⟩
 rw [<-ea];exact gl hx
end
section
variable {H:Hp}{xs:List V}
theorem fF (i:Nat):Hg.g (xs.map (tE H)) i=tE H (Hm.g xs i):=by
 unfold Hg.g Hm.g
 rw [Bz,Bz,BH]
 cases xs[i]? with
 | none=>exact (zk H).symm
 | some x=>rfl
theorem vM (i j:Nat):Hg.sw (xs.map (tE H)) i j=(Hm.sw xs i j).map (tE H):=by
 unfold Hg.sw Hm.sw
 rw [fF,fF,Gh,Gh]
theorem wC (p:Nat):Hg.les lE (xs.map (tE H)) p=Hm.les (ltT (bO H)) xs p:=by
 unfold Hg.les Hm.les
 rw [fF,fF,Bh,oP]
theorem oJ:∀{f:Nat} {xs:List V} {p lk:Nat},Hg.dn lE f (xs.map (tE H)) p lk=((Hm.dn (ltT (bO H)) f xs p lk).1.map (tE H),(Hm.dn (ltT (bO H)) f xs p lk).2)
 | 0,xs,p,lk=>rfl
 | f+1,xs,p,lk=>by
  unfold Hg.dn Hm.dn
  rw [wC,Bh,fF,fF,oP,vM]
  have kd:Hg.kids xs.length p=Hm.kids xs.length p:=rfl
  rw [kd]
  split
  .split
   .exact oJ
   .rfl
  .rfl
theorem nQ:∀{f:Nat} {xs:List V} {p lk:Nat},Hg.up lE f (xs.map (tE H)) p lk=((Hm.up (ltT (bO H)) f xs p lk).1.map (tE H),(Hm.up (ltT (bO H)) f xs p lk).2)
 | 0,xs,p,lk=>rfl
 | f+1,xs,p,lk=>by
  unfold Hg.up Hm.up
  rw [fF,fF,oP,vM]
  split
  .split
   .exact nQ
   .rfl
  .rfl
theorem mP:∀{k:Nat} {xs:List V} {lk:Nat},Hg.mk lE k (xs.map (tE H)) lk=((Hm.mk (ltT (bO H)) k xs lk).1.map (tE H),(Hm.mk (ltT (bO H)) k xs lk).2)
 | 0,xs,lk=>rfl
 | k+1,xs,lk=>by
  unfold Hg.mk Hm.mk
  rw [Bh,oJ]
  exact mP
theorem pD:Hg.cutf lE (xs.map (tE H))=((Hm.cutf (ltT (bO H)) xs).1.map (tE H),(Hm.cutf (ltT (bO H)) xs).2):=by
 unfold Hg.cutf Hm.cutf
 rw [fF,Bh,<-List.map_dropLast,<-Gh,Bh,oJ]
 by_cases h:xs.dropLast=[]
 .rw [Bf h,Bf (by rw [h];rfl)]
  rfl
 rw [Bc h,Bc (fun z=>h (Gd.mp z))]
end
def Kept (F:List Addr)(H H':Hp):Prop:=∀b o,H b=some o->b∉F->H' b=some o
section
variable {F G:List Addr}{H H1 H2:Hp}
theorem Kept.refl:Kept F H H:=fun _ _ h _=>h
theorem Kept.trans (a:Kept F H H1)(b:Kept F H1 H2):Kept F H H2:=fun x o h n=>b x o (a x o h n) n
theorem Kept.mono (a:Kept F H H1)(s:∀b∈F,b∈G):Kept G H H1:=fun x o h n=>a x o h fun z=>n (s x z)
theorem Kept.of_same (s:Same H H1):Kept F H H1:=fun b o h _=>s b o h
theorem Kept.new (k:Kept F H H1)(h:H1 p=none):Kept F H (upd H1 p o):=fun b u e n=>by
 have:=k b u e n
 rw [ai (ak this h)];exact this
theorem Kept.newer (k:Kept F H H1)(h:H p=none):Kept F H (upd H1 p o):=fun b u e n=>by
 rw [ai (ak e h)];exact k b u e n
theorem Kept.put (k:Kept F H H1)(h:p∈F):Kept F H (upd H1 p o):=fun b u e n=>by
 rw [ai (fun z=>by subst z;exact n h)];exact k b u e n
theorem Kept.none (k:Kept F H H1){b:Addr}(h:H1 b=none)(hb:b∉F):H b=none:=by
 cases q:H b with
 | none=>rfl
 | some o=>have:=k b o q hb;rw [h] at this;cases this
theorem Kept.tups (k:Kept F H H1)(hF:∀b∈F,∀xs,H b≠some (.tup xs)):∀b l,H b=some (.tup l)->H1 b=some (.tup l):=fun b l h=>k b _ h fun z=>hF b z l h
end
def KR (H:Hp)(ks:List (Key×V))(T:List (Str×En)):Prop:=Paired (fun (kv:Key×V) (ne:Str×En)=>kv.1=Sum.inr ne.1/\∃ a,kv.2=.ref a/\H a=some (.tup (enV ne.2))) ks T
section
variable {H H':Hp}{ks:List (Key×V)}{T:List (Str×En)}
theorem KR.nil:KR H [] []:=Paired.nil
theorem KR.len (r:KR H ks T):ks.length=T.length:=CU r
theorem KR.stay (r:KR H ks T)(k:∀b l,H b=some (.tup l)->H' b=some (.tup l)):KR H' ks T:=Paired.mapP r fun p q ⟨a,b,c,d⟩=>⟨a,b,c,k _ _ d⟩
theorem kG {a b:Str}(h:¬ a=b):¬ (Sum.inr a:Key)=Sum.inr b:=fun z=>h (Cf z)
theorem KR.get (r:KR H ks T)(n:Str):(aX ks (Sum.inr n)=none/\Gm.dget T n=none)∨∃ a e,aX ks (Sum.inr n)=some (.ref a)/\Gm.dget T n=some e/\H a=some (.tup (enV e)):=by
 induction r with
 | nil=>exact .inl ⟨rfl,rfl⟩
 | @cons p q l l' h _ ih =>
  obtain ⟨h1,a,h2,h3⟩:=h
  by_cases e:q.1=n
  .refine .inr ⟨a,q.2,?_,?_,h3⟩
   .rw [bB (by rw [h1,e]),h2]
   .unfold Gm.dget
    rw [Cs,Bb e]
    rfl
  .have e1:aX (p::l) (Sum.inr n)=aX l (Sum.inr n):=bD (by rw [h1];exact kG e)
   have e2:Gm.dget (q::l') n=Gm.dget l' n:=by unfold Gm.dget;rw [Cs,Br e]
   rw [e1,e2]
   exact ih
theorem KR.put (r:KR H ks T){n:Str}{e:En}(h:H a=some (.tup (enV e))):KR H (a8 ks (Sum.inr n) (.ref a)) (Gm.dput T n e):=by
 have ha:(ks.any fun kv=>decide (kv.1=Sum.inr n))=T.any fun p=>decide (p.1=n):=by
  induction r with
  | nil=>rfl
  | @cons p q l l' hh _ ih =>
   rw [Ez,Ez,ih,hh.1]
   congr 1
   by_cases z:q.1=n
   .rw [Bb z,Bb (by rw [z])]
   .rw [Br z,Br (kG z)]
 have hm:KR H (ks.map fun kv=>if kv.1=Sum.inr n then (kv.1,V.ref a) else kv) (T.map fun p=>if p.1=n then (p.1,e) else p):=by
  clear ha
  induction r with
  | nil=>exact .nil
  | @cons p q l l' hh _ ih =>
   rw [BA,BA]
   refine .cons ?_ ih
   obtain ⟨h1,b,h2,h3⟩:=hh
   by_cases z:q.1=n
   .rw [Bf z,Bf (by rw [h1,z])]
    exact ⟨h1,a,rfl,h⟩
   .rw [Bc z,Bc (by rw [h1];exact kG z)]
    exact ⟨h1,b,h2,h3⟩
 have hs:KR H (ks++[(Sum.inr n,V.ref a)]) (T++[(n,e)]):=by
  clear ha hm
  induction r with
  | nil=>exact .cons ⟨rfl,a,rfl,h⟩ .nil
  | cons hh _ ih=>exact .cons hh ih
 unfold a8 Gm.dput
 rw [ha]
 split
 .exact hm
 exact hs
theorem KR.drop (r:KR H ks T)(n:Str):KR H (bU ks (Sum.inr n)) (Gm.ddel T n):=by
 unfold Gm.ddel bU
 induction r with
 | nil=>exact .nil
 | @cons p q l l' hh _ ih =>
  rw [BO,BO]
  by_cases z:q.1=n
  .rw [Bc (by rw [hh.1,z];simp),Bc (by simp [z])]
   exact ih
  .rw [Bf (by rw [hh.1];exact Bb (kG z)),Bf (by simp [z])]
   exact .cons hh ih
end
inductive Deed where
 | put (n:Str) (w:Int) | drop (n:Str) | change (n:Str) (w:Int) | take | least
inductive Ans where
 | non | clash | nothing | pair (w:Int) (n:Str)
def Deed.v:Deed->List V
 | .put n w=>[.str "put",.str n,.int w]
 | .drop n=>[.str "drop",.str n]
 | .change n w=>[.str "change",.str n,.int w]
 | .take=>[.str "take"]
 | .least=>[.str "least"]
def Deed.ok:Deed->Prop
 | .put n _=>n.length<=10
 | .drop n=>n.length<=10
 | .change n _=>n.length<=10
 | _=>True
def rG (H:Hp):Ans->V->Prop
 | .non,v=>v=.non
 | .clash,v=>v=.str "clash"
 | .nothing,v=>v=.str "nothing"
 | .pair w n,v=>∃ a,v=.ref a/\H a=some (.tup [.int w,.str n])
def hd (s:LS):En:=Hg.g (Gm.leastL slt s).row 0
def ay (s:LS):Deed->LS×Ans
 | .put n w=>if (Gm.dget s.there n).isSome=true then (s,.clash) else (Gm.putL slt s n w,.non)
 | .drop n=>if (Gm.dget s.there n).isSome=true then (Gm.dropL slt s n,.non) else (s,.nothing)
 | .change n w=>if (Gm.dget s.there n).isSome=true then (Gm.putL slt s n w,.non) else (s,.nothing)
 | .take=>if s.there=[] then (s,.nothing) else (Gm.takeL slt s,.pair (hd s).w (hd s).n)
 | .least=>if s.there=[] then (s,.nothing) else (Gm.leastL slt s,.pair (hd s).w (hd s).n)
theorem tG {s:LS}(I:Gm.LInv slt s)(d:Deed):Gm.LInv slt (ay s d).1:=by
 cases d with
 | put n w=>unfold ay;dsimp only;split;exact I;exact Gm.put_inv slt_slo I
 | drop n=>unfold ay;dsimp only;split;exact Gm.dropL_inv slt_slo I;exact I
 | change n w=>unfold ay;dsimp only;split;exact Gm.put_inv slt_slo I;exact I
 | take=>unfold ay;dsimp only;split;exact I;rename_i h;exact Gm.take_inv slt_slo I h
 | least=>unfold ay;dsimp only;split;exact I;rename_i h;exact (Gm.least_ok slt_slo I h).inv
theorem om {s:LS}(I:Gm.LInv slt s)(d:Deed):(ay s d).1.stamp<=s.stamp+1:=by
 cases d with
 | put n w =>
  unfold ay;dsimp only;split
  .exact Ci _
  .show (Gm.sweep slt _).stamp<=_
   rw [Gm.sweep_stamp];exact A9 _
 | drop n =>
  unfold ay;dsimp only;split
  .show (Gm.sweep slt _).stamp<=_
   rw [Gm.sweep_stamp];exact Ci _
  .exact Ci _
 | change n w =>
  unfold ay;dsimp only;split
  .show (Gm.sweep slt _).stamp<=_
   rw [Gm.sweep_stamp];exact A9 _
  .exact Ci _
 | take =>
  unfold ay;dsimp only;split
  .exact Ci _
  .rename_i h
   show (Gm.sweep slt _).stamp<=_
   rw [Gm.sweep_stamp]
   show (Gm.leastL slt s).stamp<=_
   rw [(Gm.least_ok slt_slo I h).stamp];exact Ci _
 | least =>
  unfold ay;dsimp only;split
  .exact Ci _
  .rename_i h
   rw [(Gm.least_ok slt_slo I h).stamp];exact Ci _
abbrev Tb:=List (Str×Int)
def thW (T:List (Str×En)):Tb:=T.map fun p=>(p.1,p.2.w)
theorem ql {T:List (Str×En)}{n:Str}{e:En}:thW (Gm.dput T n e)=Gm.dput (thW T) n e.w:=Gm.dput_map
theorem pL {T:List (Str×En)}{n:Str}:thW (Gm.ddel T n)=Gm.ddel (thW T) n:=Gm.ddel_map
def zf (t:Tb):Deed->Ans->Tb
 | .put n w,.non=>Gm.dput t n w
 | .drop n,.non=>Gm.ddel t n
 | .change n w,.non=>Gm.dput t n w
 | .take,.pair _ n=>Gm.ddel t n
 | _,_=>t
theorem iP {s:LS}(I:Gm.LInv slt s)(d:Deed):thW (ay s d).1.there=zf (thW s.there) d (ay s d).2:=by
 cases d with
 | put n w =>
  unfold ay;dsimp only;split
  .rfl
  .show thW (Gm.sweep slt _).there=_
   rw [Gm.sweep_there];exact ql
 | drop n =>
  unfold ay;dsimp only;split
  .show thW (Gm.sweep slt _).there=_
   rw [Gm.sweep_there];exact pL
  .rfl
 | change n w =>
  unfold ay;dsimp only;split
  .show thW (Gm.sweep slt _).there=_
   rw [Gm.sweep_there];exact ql
  .rfl
 | take =>
  unfold ay;dsimp only;split
  .rfl
  .rename_i h
   rw [Gm.take_there,(Gm.least_ok slt_slo I h).there];exact pL
 | least =>
  unfold ay;dsimp only;split
  .rfl
  .rename_i h
   rw [(Gm.least_ok slt_slo I h).there];rfl
structure zu (t:Tb)(w:Int)(n:Str):Prop where
 mem:(n,w)∈t
 le:∀m v,(m,v)∈t->ltP (v,m) (w,n)=false
theorem kj {a b:Int×Str}:ltP a b=true↔a.1<b.1∨(a.1=b.1/\slt a.2 b.2=true):=by
 unfold ltP prV
 rw [aM,aM]
 by_cases h:a.1=b.1
 .rw [Bf (by rw [h])]
  by_cases h2:a.2=b.2
  .rw [Bf (by rw [h2])]
   constructor
   .intro z;cases z
   .rintro (z | ⟨_,z⟩)
    .lia
    .rw [h2,slt_slo.irr] at z;cases z
  .rw [Bc (fun z=>h2 (V.str.inj z))]
   constructor
   .intro z;exact .inr ⟨h,z⟩
   .rintro (z | ⟨_,z⟩)
    .lia
    .exact z
 rw [Bc (fun z=>h (V.int.inj z))]
 constructor
 .intro z;exact .inl (Ba z)
 rintro (z | ⟨z,_⟩)
 .exact Bb z
 exact absurd z h
theorem lb {s:LS}(I:Gm.LInv slt s)(h:s.there≠[]):zu (thW s.there) (hd s).w (hd s).n:=by
 have l:=Gm.least_is slt_slo I h
 refine ⟨BF.mpr ⟨_,l.mem,rfl⟩,fun m v hm=>?_⟩
 obtain ⟨⟨m',e⟩,hp,he⟩:=BF.mp hm
 cases he
 have q:=l.le m' e hp
 cases z:ltP (e.w,m') ((hd s).w,(hd s).n) with
 | false=>rfl
 | true =>
  have en:=(I.inr m' e hp).1
  rw [kj] at z
  have:Gm.ltE slt e (hd s)=true:=Gm.ltE_iff.mpr (by
   rcases z with z | ⟨z1,z2⟩
   .exact .inl z
   .refine .inr ⟨z1,.inl ⟨fun y=>?_,by rw [en];exact z2⟩⟩
    dsimp only at z2
    rw [<-en,y,slt_slo.irr] at z2;cases z2)
  have q':Gm.ltE slt e (hd s)=false:=q
  rw [q'] at this;cases this
end L2
variable {dd:L2.Deed}
namespace L2
open PySem PySem.Spec PyProof.Rows
def fj:List Expr->Option (List (List V))
 | []=>some []
 | .Tuple es _ _::r=>match cZ es,fj r with
  | some v,some vs=>some (v::vs)
  | _,_=>none
 | _::_=>none
def wo:List (List V)->TA
 | []=>fun _ H Q=>Q [] H
 | vs::r=>fun Z H Q=>vs.length<=sizeLine/\∀p,H p=none->wo r Z (upd H p (.tup vs)) fun xs H2=>Q (.ref p::xs) H2
theorem pQ {X:Cx}:∀{es:List Expr} {vss:List (List V)},fj es=some vss->PA X es (wo vss)
 | [],vss,h=>by
  cases h
  exact nZ
 | e::es,vss,h=>by
  cases e with
  | Tuple ts k pos =>
   unfold fj at h
   cases e1:cZ ts with
   | none=>rw [e1] at h;cases h
   | some v =>
    cases e2:fj es with
    | none=>rw [e1,e2] at h;cases h
    | some ws =>
     rw [e1,e2] at h
     cases h
     have ih:=pQ (X:=X) e2
     have he:PE X (.Tuple ts k pos) (yA fun _ H Q=>Q v H):=uy (gi e1)
     have:=kn he ih rfl
     intro cp pins s Z H Q I hq
     exact this cp pins s Z H Q I hq
  | _=>exact nomatch h
theorem xr {vss:List (List V)}(h:fj es=some vss):QA X es (wo vss):=.mk (pQ h)
section
variable {P:Program}{w:World}{K:W.Frag}{mg:Str->Option Value}{base:Heap}
theorem Fun.okQ {k:Nat}(F:Fun K x qual st f fd)(S:au N ps (ao st))(hbody:∀(cdv:Value) (A:Around) (outer:List Env) (s:Shared) (H:Hp) (vs:List V) (Q:VK) (E:XK),Room k (A.deeper (envOfC qual (ao st) s.heap.objs.size f cdv))->sp vs H Q E ->
   ∃ t,QSs (bT CX0 P w K mg base N qual (ao st) f cdv A outer s H E).nox (bA st) t/\t { nx:=fun _ H'=>Q .non H',rt:=Q } (start N vs) H)(len:∀vs H Q E,sp vs H Q E->vs.length=ps.length:=by intro vs H Q E h;repeat (first | (obtain ⟨rfl,_⟩:=h;rfl) | obtain ⟨_,h⟩:=h)):av P w K mg base CX0 (k+1) f fd ps sp :=
 F.ok S (fun cdv A outer s H vs Q E hr h=>let ⟨t,a,b⟩:=hbody cdv A outer s H vs Q E hr h;⟨t,a.to,b⟩) len
end
section
variable {X:Cx}
def AK (c:TT)(t u:TS):TS:=fun D Z H=>∃ J:St->Hp->Prop,(c Z H fun b H1=>if b=true then t { D with nx:=J } Z H1 else u { D with nx:=J } Z H1)/\∀σ' H',J σ' H'->D.nx σ' H'
theorem nT {c:Expr}{a b:List Stmt}{tc:TT}{t u:TS}(hc:QT X c tc)(ha:QSs X a t)(hb:QSs X b u):QS X (.If c a b pos) (AK tc t u):=.mk (by
 have hc:=hc.to
 have ha:=ha.to
 have hb:=hb.to
 intro pins s Z H D I ⟨J,h,j⟩
 refine thn (xV hc ha hb pins s Z H { D with nx:=J } I h) fun f s' q=>?_
 cases f with
 | next=>obtain ⟨σ',H',I',z⟩:=q;exact ⟨σ',H',I',j _ _ z⟩
 | ret v=>exact q
 | brk=>exact q
 | cont=>exact q)
def Ah (t:TT):TT:=fun Z H Q=>∃ J:Bool->Hp->Prop,t Z H J/\∀b H',J b H'->Q b H'
theorem wW {e:Expr}(h:QT X e t):QT X e (Ah t):=.mk fun pins s Z H Q I ⟨J,h1,j⟩=>thn (h.to pins s Z H J I h1) fun b s' ⟨H',I',z⟩=>⟨H',I',j b H' z⟩
theorem yZ {P:Program}{k:Key}{t:Tok}:(aP P w).is k (.str x t)=decide (k=Sum.inr x):=by
 by_cases h:k=Sum.inr x
 .rw [h,cM,Bb rfl]
 rw [Br h]
 cases e:(aP P w).is k (.str x t) with
 | false=>rfl
 | true=>exact absurd ((aP P w).inj _ _ _ e (cM P w x t)) h
end
end L2
namespace L2
open PySem PySem.W PySem.Spec PyProof.Rows
theorem gW {P:Program}:cj (CXe P w) X E0:=fun _ _ _ _ _ _ _ h=>by
 obtain ⟨_,_,_,_,_,_,_,_,_,_,_,z⟩:=h
 exact z.elim
end L2
namespace L2
open PySem PySem.W PySem.Spec PySem.Calls PyProof.Rows
theorem qR {R:Hp->Prop}(Pv:Nat->List V->Hp->Prop)(h0:Pv 0 [] (upd H D (.lst [])))(hD:∀i ys H,Pv i ys H->H D=some (.lst ys)/\SqT K H a xs)(hs:∀i x ys H,xs[i]?=some x->Pv i ys H->tt (some x::bw cap Z) H fun b H3 =>
   if b=true then te (some x::bw cap Z) H3 fun v H4=>H4 D=some (.lst ys)/\ys.length<sizeLine/\∃ m',m'<xs.length-i/\m'=xs.length-(i+1)/\i+1<=xs.length/\Pv (i+1) (ys++[v]) (upd H4 D (.lst (ys++[v])))
   else ∃ m',m'<xs.length-i/\m'=xs.length-(i+1)/\i+1<=xs.length/\Pv (i+1) ys H3)(hd:∀ys H,Pv xs.length ys H->R H):
  CW (Itt K a) tt te cap Z H D R:=by
 refine ⟨fun i m ys H=>m=xs.length-i/\i<=xs.length/\Pv i ys H,⟨xs.length,AY,BK _,h0⟩,?_⟩
 rintro i m ys H ⟨rfl,hi,p⟩
 obtain ⟨q1,q⟩:=hD i ys H p
 refine ⟨q1,?_⟩
 by_cases hlt:i<xs.length
 .refine .inr ⟨⟨xs,xs[i],q,by simp [hlt]⟩,fun x H' y=>?_⟩
  obtain ⟨e,y⟩:=y
  subst e
  exact hs i x ys _ (y xs q) p
 have e:i=xs.length:=by lia
 subst e
 exact .inl ⟨⟨xs,q,A9 _⟩,hd ys H p⟩
end L2
namespace L2
open PySem PySem.Spec PyProof.Rows
theorem gt {lo:Int}{R:Hp->Prop}(Pv:Nat->List V->Hp->Prop)(h0:Pv 0 [] (upd H D (.lst [])))(hD:∀i ys H,Pv i ys H->H D=some (.lst ys))(hs:∀i ys H,i<n->Pv i ys H->tt (some (.int (lo+i))::bw cap Z) H fun b H3 =>
   if b=true then te (some (.int (lo+i))::bw cap Z) H3 fun v H4=>H4 D=some (.lst ys)/\ys.length<sizeLine/\∃ m',m'<n-i/\m'=n-(i+1)/\i+1<=n/\Pv (i+1) (ys++[v]) (upd H4 D (.lst (ys++[v])))
   else ∃ m',m'<n-i/\m'=n-(i+1)/\i+1<=n/\Pv (i+1) ys H3)(hd:∀ys H,Pv n ys H->R H):
  CW (Itr lo n) tt te cap Z H D R:=nG (Q:=fun _ H=>R H) Pv h0 hD hs hd
structure Blk2 (X:Cx)(scope:Scope)(cl:List (Str×Addr))(x x2:Str)(NB:List Str)(cap:List Nat):Prop where
 clos:closureFor scope X.env=pure cl
 nocell:∀y∈scope.names,y.2≠.cell
 kind:scope.kind=.function
 names:∀y∈scope.names,y.2=.local->scope.names.lookup y.1=some .local
 cells:∀y c,cl.lookup y=some c->X.env.cells.lookup y=some c
 has:∀y,((relabel scope X.env).names.lookup y=some .cell∨(relabel scope X.env).names.lookup y=some .free)->∃ c,cl.lookup y=some c
 len:cap.length=NB.length
 /-- the slot j+1 of the block is the slot i of X,by a cell -/
 cap:∀(j i:Nat),cap[j]?=some i->∃ y,NB[j]?=some y/\X.N[i]?=some y/\Vis X.env.scope y/\(X.env.kindOf y=some .cell∨X.env.kindOf y=some .free)/\((relabel scope X.env).names.lookup y=some .cell∨(relabel scope X.env).names.lookup y=some .free)
 own:scope.names.lookup x=some .local
 own2:scope.names.lookup x2=some .local
 nd:(x::x2::NB).Nodup
def CW2 (K:PySem.W.Frag)(J:It)(tt:TT)(te:TE)(cap:List Nat)(Z:St)(H0:Hp)(D:Addr)(R:Hp->Prop):Prop:=∃ W:Nat->Nat->List V->Hp->Prop,(∃ m,W 0 m [] (upd H0 D (.lst [])))/\∀i m ys H,W i m ys H->H D=some (.lst ys) /\
  ((J.stop i H/\R H)∨(J.go i H/\∀x H',J.yld i H x H'->∃ a v1 v2,x=.ref a/\SqT K H' a [v1,v2]/\tt (some v1::some v2::bw cap Z) H' fun b H3 =>
   if b=true then te (some v1::some v2::bw cap Z) H3 fun v H4=>H4 D=some (.lst ys)/\ys.length<sizeLine/\∃ m',m'<m/\W (i+1) m' (ys++[v]) (upd H4 D (.lst (ys++[v])))
   else ∃ m',m'<m/\W (i+1) m' ys H3))
def uL (K:W.Frag)(wi:TI)(tt:TT)(te:TE)(cap:List Nat):TE:=fun Z H Q=>wi Z H fun J H1=>∀D,H1 D=none ->
 CW2 K J tt te cap Z H1 D (fun H=>Q (.ref D) H)
theorem nJ {px2 pt:Pos}{kt:Nat}{cl:List (Str×Addr)}{Q:VK}{R:Value->Shared->Prop}(B:Blk2 X scope cl x x2 NB cap)(hc:X.calm=true)(hex:X.ex=[])(hi:PI X (.Tuple [.Name x px,.Name x2 px2] kt pt) iter wi)(ht:∀C fp s₀ H₀,PTs (X.blk scope cl C (x::x2::NB) fp s₀ H₀) ifs tt)(he:∀C fp s₀ H₀,PE (X.blk scope cl C (x::x2::NB) fp s₀ H₀) elt te)(hs:∀v,foldedSetIterable iter X.env v=pure v)(I:Inv X pins Z H s)(h:uL X.K wi tt te cap Z H Q)(fin:∀(D C:Addr) (H':Hp) (s':Shared),Inv X pins Z H' s'->zS X pins H' C s'->Q (.ref D) H'->compPost (model X.prog X.w) X.A X.xe use R (.ref D) C (.ok .next) s'):
  wpAny (model X.prog X.w) X.A (comprehension (.ListComp elt [⟨(.Tuple [.Name x px,.Name x2 px2] kt pt),iter,ifs,0⟩] scope pos) scope X.env pos' (newList []) false (eval iter X.env) use) R X.xe s:=by
 refine wpAny_comprehension_free (use:=use) rfl hs B.clos B.kind B.names (thn (hi pins s Z H _ I h) fun v s1 h1=>thn h1 fun itv s2 h2=>?_)
 obtain ⟨it,fp,tn,J,H2,e,I2,T,st2,f2,h2⟩:=h2
 subst e
 refine Cv (wpAny_newFunctionEnv B.nocell (by intro y hy;simp at hy) (fun h₁ hns1 hsb1=>?_) B.kind)
 dsimp only at hns1 hsb1 ⊢
 have I3:=I2.lnew (ys:=[]) (its:=[]) (t':=s2.toks) .nil (BK _)
 have hD:=I2.fresh
 obtain ⟨W,⟨m0,w0⟩,turn⟩:=h2 _ hD
 generalize eD:s2.heap.objs.size=D at hD I3 W w0 turn ⊢
 generalize eH2:s2.heap.push { cls:=.type "list",dict:=none,data:=.seq ([]:List Value).toArray }=G3 at hns1 hsb1 I3 ⊢
 generalize eH3:upd H2 D (.lst [])=H3 at I3 w0
 have hC:G3.objs.size=D+1:=by rw [<-eH2,EW,eD]
 generalize eC:G3.objs.size=C at hns1 hsb1 hC ⊢
 have old:∀b o,G3.get? b=some o->h₁.get? b=some o:=fun b o e =>
  hsb1.extBut b o (by rw [<-eC];exact BE (Bp e)) (Bg _ e)
 have old2:∀b o,s2.heap.get? b=some o->G3.get? b=some o:=fun b o e=>by rw [<-eH2];exact Bg _ e
 have fpo:∀b∈fp,b<D:=fun b hb=>by
  obtain ⟨o,e,_⟩:=T.obj 0 _ st2 b hb
  rw [<-eD];exact Bp e
 have fpx:∀b∈fp,b∉frs X.stack:=fun b hb z=>by
  obtain ⟨f0,f1,f2',_⟩:=f2 b hb
  rcases ax.mp (I2.stkSub b z) with q | q
  .exact f1 q
  .exact f2' q
 let Y:Cx:=X.blk scope cl C (x::x2::NB) fp { s2 with heap:=G3,toks:=s2.toks } H3
 have okY:Y.Ok:=by
  refine ⟨I3.ok.mod,B.kind,I3.ok.glob,I3.ok.blt,?_,?_,B.has,?_,I3.ok.hd,I3.ok.frames,.inl rfl,?_,I3.bs,?_,?_,?_,I3.stack,I3.stkFree⟩
  .show G3.objs.size<=C
   lia
  .intro y z c e1 e2
   exact I3.ok.inj y z c (B.cells y c e1) (B.cells z c e2)
  .intro y c z
   cases z
  .intro b hb
   have hb':b∈fp:=by
    have:b∈X.ex++fp:=hb
    rw [hex] at this;simpa using this
   refine ⟨?_,fun y c e=>(f2 b hb').2.2.2.2.1 y c (B.cells y c e)⟩
   show b≠C
   exact BE (Bw (fpo b hb') (by rw [hC];exact Ci _))
  .show X.base.objs.size<=G3.objs.size
   exact A0 I3.ok.bsz I3.sz
  .intro b o e hb
   have hb':b∈fp:=by
    have:b∈X.ex++fp:=hb
    rw [hex] at this;simpa using this
   rcases (f2 b hb').2.2.2.1 with z | z
   .rw [hex] at z;cases z
   .exact absurd (Bw (Bw (Bp e) I3.ok.bsz) z) (CI _)
  .intro b hb
   have hb':b∈fp:=by
    have:b∈X.ex++fp:=hb
    rw [hex] at this;simpa using this
   exact fpx b hb'
 have IY:Inv Y [] (none::none::bw cap Z) H3 { s2 with heap:=h₁,toks:=s2.toks }:=by
  refine ⟨okY,rfl,I3.bare,Un.kept old,⟨_,hns1,?_⟩,?_,?_,?_,?_,I3.hok.kept old,?_⟩
  .intro j y v e1 e2 hv
   match j,e1,e2 with
   | 0,e1,e2=>cases e2
   | 1,e1,e2=>cases e2
   | j+2,e1,e2 =>
    have e1':NB[j]?=some y:=e1
    have e2':(bw cap Z)[j]?=some (some v):=e2
    unfold bw at e2'
    rw [BH] at e2'
    cases ec:cap[j]? with
    | none=>rw [ec] at e2';cases e2'
    | some i =>
     rw [ec] at e2'
     have e3:Z[i]?.join=some v:=BI e2'
     have e4:Z[i]?=some (some v):=by
      cases q:Z[i]? with
      | none=>rw [q] at e3;cases e3
      | some z=>rw [q] at e3;exact congrArg some e3
     obtain ⟨y',n1,n2,n3,n4,n5⟩:=B.cap j i ec
     rw [e1'] at n1
     cases n1
     obtain ⟨m,hn,hl⟩:=I3.loc
     obtain ⟨u,r,lk⟩:=hl i y v n2 e4 n3
     refine ⟨u,r,.inr ⟨n5,?_⟩⟩
     obtain ⟨c,hcl⟩:=B.has y n5
     refine ⟨c,hcl,?_⟩
     rcases lk with ⟨k1,_⟩ | ⟨_,c',ec',cell⟩
     .rcases n4 with n4 | n4 <;> (rw [n4] at k1;cases k1)
     .rw [B.cells y c hcl] at ec'
      cases ec'
      obtain ⟨o,ho,hd⟩:=cell
      exact ⟨o,old c o ho,hd⟩
  .intro y c e
   obtain ⟨v,o,ho,hd⟩:=I3.cell y c (B.cells y c e)
   exact ⟨v,o,old c o ho,hd⟩
  .exact I3.hok.fresh (show G3.objs.size<=C by lia)
  .intro y c e
   exact I3.freeC y c (B.cells y c e)
  .intro p hp
   cases hp
  .show (none::none::bw cap Z).length=(x::x2::NB).length
   rw [Bj,Bj,Bj,Bj,<-B.len]
   unfold bw
   rw [Bh]
 have fpY:∀{H':Hp},(∀b∈fp,H' b=none)->∀b∈fp,jV Y [] H' b:=fun {H'} hn b hb=>by
  refine ⟨hn b hb,?_,fpx b hb,.inl ?_,fun y c e=>(f2 b hb).2.2.2.2.1 y c (B.cells y c e),fun p hp=>by cases hp⟩
  .show b≠C
   exact BE (Bw (fpo b hb) (by rw [hC];exact Ci _))
  .show b∈X.ex++fp
   exact Bq _ hb
 have st4:tn 0 h₁:=T.keep _ _ _ st2 fun b hb o e=>old b o (old2 b o e)
 have fr4:∀b∈fp,H3 b=none:=fun b hb=>by
  rw [<-eH3,ai (BE (fpo b hb))];exact (f2 b hb).1
 have leave:∀(H':Hp) (s':Shared),Inv Y [] (none::none::bw cap Z) H' s'->Q (.ref D) H'->compPost (model X.prog X.w) X.A X.xe use R (.ref D) C (.ok .next) s':=by
  intro H' s' I' q
  obtain ⟨m,hn,_⟩:=id I'.loc
  have u:=I'.base
  have I5:Inv X pins Z H' s':=by
   refine I3.call' (s':=s') (ch:=X.ex++fp) I'.os u I'.hok I'.bare fun b hb=>?_
   have hb':b∈fp:=by rw [hex] at hb;simpa using hb
   obtain ⟨f0,f1,f2',f3,f4,f5⟩:=f2 b hb'
   exact ⟨f3,f1,f4,f5⟩
  exact fin D C H' s' I5 ⟨⟨m,hn⟩,I3.fpOk (show G3.objs.size<=C by rw [eC];exact A9 _) I'.free⟩ q
 have loop:∀s₄:Shared,s₄={ s2 with heap:=h₁,toks:=s2.toks } ->
   codeAny (model X.prog X.w) X.A (.compLoop (.ListComp elt [⟨(.Tuple [.Name x px,.Name x2 px2] kt pt),iter,ifs,0⟩] scope pos) 0 (.ref it) (.ref D) (compEnvC scope cl C X.env)) (compPost (model X.prog X.w) X.A X.xe use R (.ref D) C) s₄:=by
  rintro s₄ rfl
  refine fK (fun n s'=>∃ i ys H',Inv Y [] (none::none::bw cap Z) H' s'/\tn i s'.heap/\(∀b∈fp,H' b=none)/\W i n ys H') ?_ m0 ⟨0,[],H3,IY,st4,fr4,w0⟩
  rintro n s3 ⟨i,ys,H',I',st',fr',w'⟩
  obtain ⟨hDl,tr⟩:=turn i n ys H' w'
  rcases tr with ⟨stop,q⟩ | ⟨go,step⟩
  .refine thn (T.done Y rfl rfl rfl hc i [] s3 _ H' (fun _ _=>False) I' (fpY fr') st' stop) fun r s4 ⟨hr,I4⟩=>?_
   subst hr
   exact leave H' s4 I4 q
  .refine thn (T.item Y rfl rfl rfl hc i [] s3 _ H' (fun _ _=>False) I' (fpY fr') st' go) fun r s4 zz=>?_
   obtain ⟨u,hr,h4⟩:=zz
   subst hr
   refine thn h4 fun _ s5 zz=>?_
   obtain ⟨v,H5,I5,r5,y5,st5,fr5⟩:=zz
   have I5':=I5.pinned (fpY fr5) (T.obj _ _ st5)
   have back:∀{v1 v2:V} {H7:Hp} {s7:Shared},Inv Y ([]++gg fp s5.heap) (some v1::some v2::bw cap Z) H7 s7->Inv Y [] (none::none::bw cap Z) H7 s7/\tn (i+1) s7.heap/\∀b∈fp,H7 b=none:=fun {v1 v2 H7 s7} I7=>by
    refine ⟨I7.unpinned.weak AY fun j z e=>?_,T.keep _ _ _ st5 fun b hb o e=>(I7.pin (b,o) (Bq _ (Bq _ (b8 hb e)))).1,fun b hb=>?_⟩
    .match j,e with
     | 0,e=>cases e
     | 1,e=>cases e
     | j+2,e=>exact e
    .obtain ⟨o,e,d⟩:=T.obj _ _ st5 b hb
     exact (I7.pin (b,o) (Bq _ (Bq _ (b8 hb e)))).2.1
   obtain ⟨ta,v1,v2,rfl,htup,step⟩:=step v H5 y5
   have hg1:PG Y (.Name x px) (dE 0):=gH (i:=0) B.nd rfl (.inl (CH B.own)) (.inr (CH B.own))
   have hg2:PG Y (.Name x2 px2) (dE 1):=gH (i:=1) B.nd rfl (.inl (CH B.own2)) (.inr (CH B.own2))
   have hgN:PG Y (.Tuple [.Name x px,.Name x2 px2] kt pt) (zd Y.K 2 (ph (dE 0) (ph (dE 1) zo))):=uq hc (hW hg1 (hW hg2 qq))
   refine thn (hgN _ s5 _ H5 (.ref ta) u (fun σ6 H6=>σ6=some v1::some v2::bw cap Z/\H6=H5) I5' r5 ⟨ta,[v1,v2],rfl,htup,rfl,v1,[v2],rfl,v2,[],rfl,rfl,rfl,rfl⟩) fun _ s6 zz=>?_
   obtain ⟨σ6,H6,I6,e6,e6'⟩:=zz
   subst e6 e6'
   refine thn (ht C fp _ _ _ s6 _ H6 _ I6 step) fun ok s7 zz=>?_
   obtain ⟨H7,I7,q7⟩:=zz
   cases ok with
   | false =>
    simp only [BX,DE] at q7 ⊢
    obtain ⟨m',hm,w7⟩:=q7
    obtain ⟨a,b,c⟩:=back I7
    exact ⟨m',hm,i+1,ys,H7,a,b,c,w7⟩
   | true =>
    simp only [Et] at q7 ⊢
    refine thn (he C fp _ _ _ s7 _ H7 _ I7 q7) fun u8 s8 zz=>?_
    obtain ⟨v8,H8,I8,r8,q8⟩:=zz
    obtain ⟨d8,l8,m',hm,w8⟩:=q8
    refine thn (cy (X:=Y) _ s8 _ H8 (.ref D) [v8] (.ref D) [u8] (fun _ H9=>H9=upd H8 D (.lst (ys++[v8]))) I8 rfl (.cons r8 .nil) ⟨D,ys,v8,rfl,rfl,d8,l8,rfl⟩) fun _ s9 zz=>?_
    obtain ⟨_,H9,I9,_,e9⟩:=zz
    subst e9
    obtain ⟨a,b,c⟩:=back I9
    exact ⟨m',hm,i+1,ys++[v8],_,a,b,c,w8⟩
 refine codeAny_compStart_list (loop _ ?_) (T.self _ 0 _ _ _ ?_ (loop _ ?_))
 .rfl
 .exact st4
 rfl
theorem Blk2.of {esc:Scope}(eN:X.N=N)(eS:X.env.scope=esc)(hX:∀y,esc.names.lookup y=some .cell->∃ c,X.env.cells.lookup y=some c)(hk:scope.kind=.function)(h1:∀y∈scope.names,y.2≠.cell)(h2:∀y∈scope.names,y.2=.local->scope.names.lookup y.1=some .local)(h3:∀y∈scope.names,y.2=.free->esc.names.lookup y.1=some .cell)(hl:cap.length=NB.length)(h4:∀p∈NB.zip cap,N[p.2]?=some p.1/\esc.names.lookup p.1=some .cell/\scope.names.lookup p.1=some .free)(h5:scope.names.lookup x=some .local)(h6:scope.names.lookup x2=some .local)(nd:(x::x2::NB).Nodup):
  Blk2 X scope (vD scope X.env) x x2 NB cap:=by
 have hfr:∀n∈br scope.names,∃ c,X.env.cells.lookup n=some c:=fun n hn=>hX n (h3 _ (kU hn) rfl)
 refine ⟨iT scope X.env hfr,h1,hk,h2,fun y c e=>?_,fun y e=>?_,hl,fun j i e=>?_,h5,h6,nd⟩
 .unfold vD at e
  obtain ⟨m,q⟩:=eQ e
  obtain ⟨c',hc⟩:=hfr y (Eu.mp m)
  rw [hc] at q
  rw [hc,q];rfl
 .have hm:(y,NameKind.free)∈scope.names:=by
   rcases e with e | e
   .exact bI e (.inl rfl) h1
   .exact bI e (.inr rfl) h1
  exact ⟨_,cJ (Eu.mpr (i7 hm))⟩
 have hj:j<cap.length:=(Bu.mp e).1
 have hj2:j<NB.length:=by lia
 have ey:NB[j]?=some NB[j]:=bt hj2
 have ez:(NB.zip cap)[j]?=some (NB[j],i):=by rw [EX];exact ⟨ey,e⟩
 obtain ⟨a1,a2,a3⟩:=h4 _ (BC ez)
 refine ⟨NB[j],ey,by rw [eN];exact a1,.inr (.inl (by rw [eS];exact a2)),.inl (by show X.env.scope.names.lookup _=_;rw [eS];exact a2),?_⟩
 exact cr a3
theorem uc {px2 pt:Pos}{kt:Nat}{cl:List (Str×Addr)}(B:Blk2 X scope cl x x2 NB cap)(hc:X.calm=true)(hex:X.ex=[])(hi:QI X (.Tuple [.Name x px,.Name x2 px2] kt pt) iter wi)(ht:∀C fp s₀ H₀,QTs (X.blk scope cl C (x::x2::NB) fp s₀ H₀) ifs tt)(he:∀C fp s₀ H₀,QE (X.blk scope cl C (x::x2::NB) fp s₀ H₀) elt te)(hs:∀v,foldedSetIterable iter X.env v=pure v:=by intro _;rfl):QE X (.ListComp elt [⟨.Tuple [.Name x px,.Name x2 px2] kt pt,iter,ifs,0⟩] scope pos) (uL X.K wi tt te cap):=.mk (by
 have hi:=hi.to
 have ht:=(fun C fp s₀ H₀=>(ht C fp s₀ H₀).to)
 have he:=(fun C fp s₀ H₀=>(he C fp s₀ H₀).to)
 intro pins s Z H Q I h
 rw [eval_ListComp]
 refine nJ (use:=none) (R:=EP X pins Z Q) B hc hex hi ht he hs I h fun D C H' s' I' G q=>?_
 obtain ⟨m,hn⟩:=G.ns
 obtain ⟨f0,f1,f2,f3,f4,f5⟩:=G.fp
 refine ⟨m,hn,fun h' hs'=>⟨.ref D,H',?_,rfl,q⟩⟩
 exact I'.turned (t':=s'.toks) (fun b o hb e=>(hs'.2 b hb).trans e) f0 f1 f3 f4 f5)
end L2
namespace L2
open PySem
theorem lY {R:Hp->Prop}(Pv:Nat->List V->Hp->Prop)(h0:Pv 0 [] (upd H D (.lst [])))(hD:∀i ys H,Pv i ys H->H D=some (.lst ys)/\SqL K H a xs)(hs:∀i x ys H,xs[i]?=some x->Pv i ys H->∃ b v1 v2,x=.ref b/\SqT K H b [v1,v2]/\tt (some v1::some v2::bw cap Z) H fun b H3 =>
   if b=true then te (some v1::some v2::bw cap Z) H3 fun v H4=>H4 D=some (.lst ys)/\ys.length<sizeLine/\∃ m',m'<xs.length-i/\m'=xs.length-(i+1)/\i+1<=xs.length/\Pv (i+1) (ys++[v]) (upd H4 D (.lst (ys++[v])))
   else ∃ m',m'<xs.length-i/\m'=xs.length-(i+1)/\i+1<=xs.length/\Pv (i+1) ys H3)(hd:∀ys H,Pv xs.length ys H->R H):
  CW2 K (Itl K a) tt te cap Z H D R:=by
 refine ⟨fun i m ys H=>m=xs.length-i/\i<=xs.length/\Pv i ys H,⟨xs.length,AY,BK _,h0⟩,?_⟩
 rintro i m ys H ⟨rfl,hi,p⟩
 obtain ⟨q1,q⟩:=hD i ys H p
 refine ⟨q1,?_⟩
 by_cases hlt:i<xs.length
 .refine .inr ⟨⟨xs,xs[i],q,by simp [hlt]⟩,fun x H' y=>?_⟩
  obtain ⟨e,y⟩:=y
  subst e
  exact hs i x ys _ (y xs q) p
 have e:i=xs.length:=by lia
 subst e
 exact .inl ⟨⟨xs,q,A9 _⟩,hd ys H p⟩
end L2
namespace Gm
open Hg
section
variable {N:Type}[DecidableEq N][Inhabited N]{sl:N->N->Bool}
theorem LInv.rnd {s:LS N}(I:LInv sl s):s.row.Nodup:=List.Pairwise.of_map _ (fun _ _ h z=>h (congrArg _ z)) I.st
theorem nodup_len {α:Type}[DecidableEq α]:∀{G R:List α},G.Nodup->(∀e∈G,e∈R)->G.length<=R.length
 | [],R,_,_=>BK _
 | a::l,R,nd,h=>by
  rw [BP] at nd
  have ih:=nodup_len (R:=R.erase a) nd.2 fun e he=>(FU (fun (z:e=a)=>nd.1 (z▸he))).mpr (h e (Bk _ he))
  have m:=h a BD
  rw [Fd m] at ih
  have:=Fv m
  rw [Bj]
  lia
theorem LInv.kept {s:LS N}(I:LInv sl s):(s.row.filter (holds s.there)).length=s.there.length:=by
 have n1:(s.row.filter (holds s.there)).Nodup:=I.rnd.filter _
 have n2:(s.there.map (·.2)).Nodup:=by
  rw [EK,CJ]
  refine D5 (R:=fun a b=>a.1≠b.1) (fun {a b} ha hb h z=>h ?_) (CJ.mp I.nd)
  rw [<-(I.inr a.1 a.2 ha).1,<-(I.inr b.1 b.2 hb).1,z]
 have p:(s.row.filter (holds s.there)).Perm (s.there.map (·.2)):=(DU n1 n2).mpr fun e=>by
  rw [BJ,BF]
  constructor
  .rintro ⟨h1,h2⟩
   exact ⟨_,holds_in h2,rfl⟩
  .rintro ⟨⟨n,e'⟩,h1,rfl⟩
   obtain ⟨h2,h3⟩:=I.inr n e' h1
   exact ⟨h3,I.held h1⟩
 rw [p.length_eq,Bh]
theorem qX {s:LS N}(I:LInv sl s):(swept sl s).row.length=s.there.length:=by rw [swept_perm.length_eq];exact I.kept
end
end Gm
namespace L2
open PySem
def prs (T:List (Str×En)):List (Int×Str):=T.map fun p=>(p.2.w,p.1)
theorem wN {a b ks:List (Int×Str)}(pa:a.Perm ks)(pb:b.Perm ks)(sa:a.Pairwise fun x y=>ltP y x=false)(sb:b.Pairwise fun x y=>ltP y x=false):a=b:=by
 refine List.Perm.eq_of_pairwise (le:=fun x y=>ltP y x=false) (fun x y _ _ h1 h2=>?_) sa sb (pa.trans pb.symm)
 have c1:¬ ltP y x=true:=by rw [h1];exact Bm
 have c2:¬ ltP x y=true:=by rw [h2];exact Bm
 rw [kj] at c1 c2
 have ew:x.1=y.1:=by
  rcases Int.lt_trichotomy x.1 y.1 with z | z | z
  .exact absurd (.inl z) c2
  .exact z
  .exact absurd (.inl z) c1
 refine Prod.ext ew ?_
 by_cases z:x.2=y.2
 .exact z
 rcases slt_slo.tot _ _ z with q | q
 .exact absurd (.inr ⟨ew,q⟩) c2
 exact absurd (.inr ⟨ew.symm,q⟩) c1
section
variable {K:W.Frag}{H H':Hp}{sc b:Addr}{xs:List V}
def KSq (K:W.Frag)(a:Addr)(xs:List V):Prop:=∃ (o:Obj) (its:Array Value) (n:Nat),K.lookup a=some o/\o.cls=.type "list"/\o.dict=none/\o.data=.seq its n/\its.size<=sizeLine/\Vals xs its.toList
def Off (K:W.Frag)(sc:Addr)(xs:List V)(b:Addr):Prop:=b≠sc∨KSq K sc xs
theorem SqL.kept {F:List Addr}(h:SqL K H sc xs)(hF:∀b∈F,Off K sc xs b)(k:Kept F H H'):SqL K H' sc xs:=by
 rcases h with h | h
 .by_cases z:sc∈F
  .rcases hF sc z with q | q
   .exact absurd rfl q
   .exact .inr q
  .refine .inl ?_
   rcases h with h | ⟨o,h⟩
   .exact .inl (k _ _ h z)
   .exact .inr ⟨o,k _ _ h z⟩
 exact .inr h
theorem SqL.same' (h:SqL K H sc xs)(k:Same H H'):SqL K H' sc xs:=h.kept (F:=[]) (fun _ z=>nomatch z) fun b o e _=>k b o e
end
end L2
namespace L2
open PySem PySem.W PySem.Spec PySem.Calls PyProof.Rows
section
variable {X:Cx}
theorem zc:SlR X (fun x lo hi H Q=>∃ z,x=.str z/\z.length<=sizeLine/\Q (.str (Txt.slice z lo hi)) H):=by
 intro pins s Z H x v vl vu lo hi sl Q I rx hs pl pu h
 obtain ⟨z,rfl,hz,q⟩:=h
 obtain ⟨t,rfl⟩:=rx
 have fin:∀(l u:Option Int),lo=l->hi=u->∀t' k,EP X pins Z Q (.str (Txt.slice z l u) t') { s with toks:=k }:=fun l u e1 e2 t' k=>by
  subst e1 e2
  exact ⟨.str _,H,I.tok _,⟨t',rfl⟩,q⟩
 cases pl with
 | none =>
  cases pu with
  | none=>exact ⟨"str",_,Dg.lookup,DS _ _ _,Dw (l:=none) (u:=none) (st:=none) hs rfl (EF ⟨A0 (ES z _ _) hz,fin none none rfl rfl⟩)⟩
  | int j u=>exact ⟨"str",_,Dg.lookup,DS _ _ _,Dw (l:=none) (u:=some (j,u)) (st:=none) hs rfl (EF ⟨A0 (ES z _ _) hz,fin none (some j) rfl rfl⟩)⟩
 | int i u0 =>
  cases pu with
  | none=>exact ⟨"str",_,Dg.lookup,DS _ _ _,Dw (l:=some (i,u0)) (u:=none) (st:=none) hs rfl (EF ⟨A0 (ES z _ _) hz,fin (some i) none rfl rfl⟩)⟩
  | int j u=>exact ⟨"str",_,Dg.lookup,DS _ _ _,Dw (l:=some (i,u0)) (u:=some (j,u)) (st:=none) hs rfl (EF ⟨A0 (ES z _ _) hz,fin (some i) (some j) rfl rfl⟩)⟩
end
end L2
namespace L2
open PySem PyProof.Rows
def prOrd:KeyOrd:=ip ij strKind.toKeyOrd
def pO (p:Int×Str):prOrd.α:=(p.1,p.2.cps.toList)
theorem i3 {a b:Int×Str}:prOrd.blt (pO a) (pO b)=ltP a b:=by
 have h:=dS (a:=[.int a.1,.str a.2,.int 0]) (b:=[.int b.1,.str b.2,.int 0]) ⟨_,_,_,rfl⟩ ⟨_,_,_,rfl⟩
 rw [yi,<-h]
 show (decide (a.1<b.1) || (!decide (b.1<a.1)&&decide (a.2.cps.toList<b.2.cps.toList)))=(decide (a.1<b.1) || (!decide (b.1<a.1)&&(decide (a.2.cps.toList<b.2.cps.toList) || (!decide (b.2.cps.toList<a.2.cps.toList)&&decide ((0:Int)<0)))))
 rw [show decide ((0:Int)<0)=false from by decide,Bool.and_false,Bool.or_false]
def jH (key:V->Int×Str):KeyKind:={ prOrd with keyOf:=fun v=>some (pO (key (eY v))),dflt:=pO (0,"") }
section
variable {X:Cx}
def PrL (K:W.Frag)(H:Hp)(key:V->Int×Str)(xs:List V):Prop:=∀x∈xs,∃ a,x=.ref a/\SqT K H a (prV (key x))
theorem iy {x:V}(r:Vals [x,y] us):∃ u v,us=[u,v]/\RelV x u/\RelV y v:=by
 cases r with
 | cons r1 r2 =>
  cases r2 with
  | cons r3 r4=>cases r4;exact ⟨_,_,rfl,r1,r3⟩
theorem qO (I:Inv X pins Z H s){key:V->Int×Str}(r:Vals xs vs)(he:PrL X.K H key xs)(h':Heap)(kp:∀b o,s.heap.get? b=some o->h'.get? b=some o)(A:Around):TS.Cmp X.prog X.w A { s with heap:=h' } (jH key) (tuples' true) (pairsOf vs):=by
 refine ⟨fun x y hx hy E Q q=>?_⟩
 have at':∀p:Keyed,p∈(pairsOf vs).toList->∃ a its,p.1=.ref a/\Vals (prV (key (.ref a))) its/\IsTup h' a its.toArray:=fun p hp=>by
  rw [pairsOf_toList] at hp
  obtain ⟨e1,m⟩:=mem_zip_self hp
  obtain ⟨j,hj,ej⟩:=Cw m
  have hxj:∃ x,xs[j]?=some x:=⟨xs[j]'(by rw [r.length];exact hj),bt _⟩
  obtain ⟨x,hxj⟩:=hxj
  obtain ⟨u,hu,ru⟩:=r.get hxj
  rw [bt hj,ej] at hu
  cases hu
  obtain ⟨a,ea,hq⟩:=he x (BC hxj)
  subst ea
  obtain ⟨its,rv,it,_⟩:=I.tuple hq
  refine ⟨a,its,ru,rv,?_⟩
  obtain ⟨o,ho,rest⟩:=it
  exact ⟨o,kp a o ho,rest⟩
 obtain ⟨a,its,ea,ra,ta⟩:=at' x hx
 obtain ⟨b,its',eb,rb,tb⟩:=at' y hy
 have eL:TS.Lb (jH key) x y=ltP (key (.ref a)) (key (.ref b)):=by
  unfold TS.Lb TS.kf
  rw [ea,eb]
  exact i3
 rw [eL] at q
 rw [ea,eb]
 generalize key (.ref a)=ka at ra q
 generalize key (.ref b)=kb at rb q
 obtain ⟨i,n⟩:=ka
 obtain ⟨i',n'⟩:=kb
 unfold ltP at q
 unfold prV at ra rb q
 obtain ⟨u1,u2,rfl,r1,r2⟩:=iy ra
 obtain ⟨w1,w2,rfl,q1,q2⟩:=iy rb
 obtain ⟨o,ho,hc,nn,hd⟩:=ta
 obtain ⟨o',ho',hc',nn',hd'⟩:=tb
 refine W.kat_lt (s:={ s with heap:=h' }) ho hd ho' hd' ?_
 show W.KatLex _ _ _ _ _ Q [(u1,w1),(u2,w2)] 0 _
 refine W.kat_cons ?_
 obtain ⟨e,heq,hiff⟩:=bQ A { s with heap:=h' } (a:=.int i) (c:=.int i') trivial r1 q1
 refine heq _ _ _ _ (W.kat_go (fun e1=>W.kat_yes ?_) (fun e1=>W.kat_no ?_))
 .rw [aM,Bf (hiff.mp e1)] at q
  refine W.kat_cons ?_
  obtain ⟨e',heq',hiff'⟩:=bQ A { s with heap:=h' } (a:=.str n) (c:=.str n') trivial r2 q2
  refine heq' _ _ _ _ (W.kat_go (fun e1=>W.kat_yes ?_) (fun e1=>W.kat_no ?_))
  .rw [aM,Bf (hiff'.mp e1)] at q
   exact W.kat_nil (by simpa [bv] using q)
  .rw [aM,Bc (fun z=>by rw [hiff'.mpr z] at e1;cases e1)] at q
   exact W.kat_one _ _ (show wpAny _ _ (richCompare .Lt u2 w2) _ _ _ from io A _ (a:=.str n) (c:=.str n') trivial r2 q2 _ _ q)
 rw [aM,Bc (fun z=>by rw [hiff.mpr z] at e1;cases e1)] at q
 obtain ⟨t,rfl⟩:=r1
 obtain ⟨t',rfl⟩:=q1
 exact oneLt_int q
theorem pJ {pins:List (Addr×Obj)}{Z:St}{H:Hp}{s:Shared}(I:Inv X pins Z H s){key:V->Int×Str}(h':Heap)(kp:∀b o,s.heap.get? b=some o->h'.get? b=some o):∀{xs:List V} {vs:List Value},Vals xs vs->PrL X.K H key xs ->
  ∃ fs,W.KatTups h' vs fs/\fs.length=vs.length/\∀v∈fs,∃ i t,v=Value.int i t
 | _,_,.nil,_=>⟨[],W.KatTups.nil,rfl,fun v hv=>by cases hv⟩
 | x::xs,v::vs,.cons r t,he=>by
  obtain ⟨fs,k,l,f⟩:=pJ I h' kp t fun y hy=>he y (Bk _ hy)
  obtain ⟨a,rfl,hq⟩:=he x BD
  cases r
  obtain ⟨its,rv,it,_⟩:=I.tuple hq
  obtain ⟨u1,u2,rfl,⟨tt,rfl⟩,r2⟩:=iy rv
  obtain ⟨o,ho,hc,nn,hd⟩:=it
  refine ⟨.int (key (.ref a)).1 tt::fs,W.KatTups.cons (kp a o ho) hc hd rfl k,by simp [l],fun v hv=>?_⟩
  rcases ax.mp hv with z | z
  .exact ⟨_,tt,z⟩
  .exact f v z
end
end L2
namespace L2
open PySem PySem.W PySem.Spec PySem.Calls PyProof.Rows
section
variable {X:Cx}
def vz (v d:Addr):HO:=.ext fun h=>h.IsValuesView v d
theorem qY:MtR X "dict.values" (fun x xs H Q=>∃ (d:Addr) (kvs:List (Key×V)),x=.ref d/\xs=[]/\H d=some (.dK kvs)/\∀v,H v=none->Q (.ref v) (upd H v (vz v d))):=by
 intro pins s Z H x xs v us Q I rx rv h
 obtain ⟨d,kvs,rfl,rfl,hd,q⟩:=h
 cases rx
 cases rv
 obtain ⟨z,hs,vs,rel,dd⟩:=jr I.hok hd
 refine ER Fe dd.typeIs PySem.F.entry_dict_values (PySem.F.args_dict_values_1 _) (meets_dict_values (aP X.prog X.w) d hs) ⟨⟨vs,dd⟩,?_⟩
 have g:(s.heap.push { cls:=.type "dict_values",data:=.fields #[.ref d] }).get? s.heap.objs.size=some { cls:=.type "dict_values",data:=.fields #[.ref d] }:=BB _ rfl
 refine ⟨.ref s.heap.objs.size,_,I.laid (o:=vz s.heap.objs.size d) (fun b o e=>Bg _ e) (A9 _) ?_,rfl,q _ (I.hok.fresh (A9 _))⟩
 exact ⟨⟨_,g,rfl,rfl⟩,⟨_,g⟩,fun h1 h2 ⟨o,e,r⟩ k=>⟨o,k o e,r⟩⟩
end
end L2
namespace Wb
open PySem L2
abbrev Row:=Str×Str×Int
abbrev Web:=List Row
section
variable {web:Web}{first:Str}{far:Tb}
def rl (c:Tb×Bool)(r:Row):Tb×Bool :=
 match Gm.dget c.1 r.1 with
 | none=>c
 | some u=>match Gm.dget c.1 r.2.1 with
  | none=>(Gm.dput c.1 r.2.1 (u+r.2.2),true)
  | some v=>if u+r.2.2<v then (Gm.dput c.1 r.2.1 (u+r.2.2),true) else c
end
end Wb
namespace L2
open PySem PySem.W PySem.Spec PySem.Calls PyProof.Rows
inductive ESr (p:Params):List DictEntry->List (Str×Addr)->Prop
 | nil:ESr p [] []
 | cons {k:Str} {v:Addr} {t:Tok} {es:List DictEntry} {ks:List (Str×Addr)}:ESr p es ks->ESr p ({ hash:=PyData.keyHash p k,key:=.str k t,val:=.ref v }::es) ((k,v)::ks)
def tZ (w:World)(K:W.Frag)(d:Addr)(ks:List (Str×Addr)):Prop:=∃ (es:List DictEntry) (ep:Nat),K.lookup d=some { cls:=.type "dict",data:=.dict es.toArray ep }/\ESr w.params es ks
theorem ESr.keys {P:Program}{es:List DictEntry}{ks:List (Str×Addr)}(h:ESr w.params es ks):∀e∈es,∃ k,(aP P w).is k e.key=true/\e.hash=(aP P w).hash k:=by
 induction h with
 | nil=>intro e he;cases he
 | @cons k v t es ks _ ih =>
  intro e he
  rcases ax.mp he with z | z
  .rw [z];exact ⟨Sum.inr k,cM P w k t,rfl⟩
  .exact ih e z
theorem ESr.find {P:Program}{es:List DictEntry}{ks:List (Str×Addr)}(h:ESr w.params es ks)(k:Str):(es.find? fun e=>(aP P w).is (Sum.inr k) e.key).map (·.val)=(ks.lookup k).map Value.ref:=by
 induction h with
 | nil=>rfl
 | @cons k' v' t es ks _ ih =>
  rw [Cb,Cs]
  show (match (aP P w).is (Sum.inr k) (.str k' t) with | true=>_ | false=>_:Option DictEntry).map (·.val)=_
  rw [yZ]
  cases e:k == k' with
  | true =>
   have:k=k':=by simpa using e
   rw [Bb (by rw [this])]
   rfl
  | false =>
   have:¬ (Sum.inr k:Key)=Sum.inr k':=fun z=>by cases z;simp at e
   rw [Br this]
   exact ih
def Am (d:Addr)(ks:List (Str×Addr))(td ty tx:TE):TE:=fun Z H Q=>td Z H fun x H1=>x=.ref d/\ty Z H1 fun y H2=>tx Z H2 fun z H3=>∃ k:Str,y=.str k/\Q (((ks.lookup k).map V.ref).getD z) H3
theorem wG {ks:List (Str×Addr)}{o e f:Expr}{td ty tx:TE}(S:tZ X.w X.K d ks)(hd:(d == sysModules)=false)(ho:QE X o td)(he:QE X e ty)(hf:QE X f tx)(m:M2 X o "get" apos e f cpos):QE X (.Call (.Attribute o "get" apos) [e,f] [] cpos) (Am d ks td ty tx):=by
 refine .mk fun pins s Z H Q I h=>?_
 refine Fc m.base m.few m.line Ds CZ FF (thn (ho.to pins s Z H _ I h) fun u s1 zz=>?_)
 obtain ⟨x,H1,I1,rx,ex,q1⟩:=zz
 subst ex
 obtain rfl:u=Value.ref d:=rx
 obtain ⟨es,ep,hk,E⟩:=S
 have hg:=I1.kIn d _ hk
 refine ⟨⟨_,hg,rfl⟩,fun b q=>by cases q;exact ⟨_,hg,rfl⟩,?_⟩
 rw [m.trees]
 refine CP rfl (C0 (DF (thn (he.to pins s1 Z H1 _ I1 q1) fun iv s2 ⟨y,H2,I2,ry,q2⟩ =>
  DF (thn (hf.to pins s2 Z H2 _ I2 q2) fun fv s3 ⟨z,H3,I3,rz,k,ey,q3⟩=>Ei ?_))))
 subst ey
 have hg3:=I3.kIn d _ hk
 refine ER CZ ⟨_,hg3,rfl⟩ Ee (PySem.F.args_dict_get_3 _ _ _) (meets_dict_get_default (aP X.prog X.w) d (fL (k:=Sum.inr k) ry) hd fv)
  ⟨findBy (aP X.prog X.w).is es.toArray,⟨_,es.toArray,ep,hg3,⟨rfl,rfl,rfl⟩,rfl,fun e he=>E.keys e (by simpa using he),fun _=>rfl⟩,⟨_,H3,I3.tok _,?_,q3⟩⟩
 have e1:findBy (aP X.prog X.w).is es.toArray (Sum.inr k)=(ks.lookup k).map Value.ref:=by
  unfold findBy
  rw [List.find?_toArray]
  exact E.find k
 rw [e1]
 cases ks.lookup k with
 | none=>exact rz
 | some a=>exact rfl
section
variable {X:Cx}{a b c:Expr}{ta tb tc:TE}{tA:TT}{pos:Pos}
theorem tY (hc:QT X c tA)(ha:QE X a ta)(hb:QE X b tb):QE X (.IfExp c a b pos) (tIf tA ta tb):=.mk (by
 have hc:=hc.to
 have ha:=ha.to
 have hb:=hb.to
 intro pins s Z H Q I h
 refine wpAny_IfExp (thn (hc pins s Z H _ I h) fun d s1 zz=>?_)
 obtain ⟨H1,I1,q1⟩:=zz
 cases d with
 | true=>exact ha pins s1 Z H1 Q I1 q1
 | false=>exact hb pins s1 Z H1 Q I1 q1)
theorem vQ {op op':CmpOp}{r r':R2}(ho:OpR X (compareOp op) r)(ho':OpR X (compareOp op') r')(ha:QE X a ta)(hb:QE X b tb)(hc:QE X c tc)(hm:lastMarks [op,op'] [b,c]=false:=by with_unfolding_all rfl):QE X (.Compare a [op,op'] [b,c] pos) (za r r' ta tb tc):=.mk (by
 have ha:=ha.to
 have hb:=hb.to
 have hc:=hc.to
 intro pins s Z H Q I h
 refine Compare_chain (thn (ha pins s Z H _ I h) fun v s1 ⟨x,H1,I1,r1,q1⟩=>chain_link (thn (hb pins s1 Z H1 _ I1 q1) fun u s2 ⟨y,H2,I2,r2,q2⟩ =>
  thn (ho pins s2 Z H2 x y v u _ I2 r1 r2 q2) fun d s3 ⟨z,H3,I3,r3,k,e,q3⟩=>?_)) hm
 subst e
 cases r3
 refine C9 ?_
 cases k with
 | false=>exact ite_ff ⟨.bl false,H3,I3,rfl,q3⟩
 | true=>exact ite_tt (chain_last (thn (hc pins s3 Z H3 _ I3 q3) fun w' s4 ⟨z',H4,I4,r4,q4⟩=>ho' pins s4 Z H4 y z' u w' Q I4 r2 r4 q4)))
theorem bf:OpR X (binaryOp .Add) (fun x y H Q=>∃ z u:Str,x=.str z/\y=.str u/\z.length+u.length<=sizeLine/\Q (.str (z++u)) H):=by
 intro pins s Z H x y v u Q I rx ry h
 obtain ⟨z,w,rfl,rfl,hz,q⟩:=h
 obtain ⟨t,rfl⟩:=rx
 obtain ⟨t',rfl⟩:=ry
 exact PyProof.Rows.add_str (fun t2 tk=>⟨.str _,H,I.tok tk,⟨_,rfl⟩,q⟩) hz
end
end L2
namespace L2
open PySem PySem.W PySem.Spec PySem.Calls PyProof.Rows PySem.Builtin PySem.Builtin.Str
theorem sj {l:List (Str×Tok)}{xs:List Str}(h:l.map (·.1)=xs):Vals (xs.map V.str) (strValues l):=by
 subst h
 induction l with
 | nil=>exact .nil
 | cons p l ih=>exact .cons ⟨p.2,rfl⟩ ih
section
variable {X:Cx}
theorem u6:MtR X "str.split" (fun x xs H Q=>∃ (z y:Str),x=.str z/\xs=[.str y]/\0<y.length/\z.length+2<=sizeLine/\∀l,H l=none->Q (.ref l) (upd H l (.lst ((Txt.split z y).map V.str)))):=by
 intro pins s Z H x vs v us Q I rx rv h
 obtain ⟨z,y,rfl,rfl,hy,hz,q⟩:=h
 obtain ⟨t,rfl⟩:=rx
 obtain ⟨u,rfl,ru⟩:=rv.one
 obtain ⟨t',rfl⟩:=ru
 have hy0:(y.length == 0)=false:=by rw [beq_eq_false_iff_ne];lia
 have lw:(Txt.split z y).length<=sizeLine:=A0 (split_le z y) hz
 have fin:∀(l:List (Str×Tok)) (k:Nat),l.map (·.1)=Txt.split z y->EP X pins Z Q (.ref s.heap.objs.size) { s with heap:=s.heap.push { cls:=.type "list",data:=.seq (strValues l).toArray },toks:=k }:=fun l k e =>
  ⟨.ref _,_,I.lnew (sj e) (by rw [Bh];exact lw),rfl,q _ I.fresh⟩
 cases h1:(decide (z.length<y.length) || decide (strKind z<strKind y)) with
 | true =>
  refine FR F.slot_str_split (DS _ _ _) F.entry_str_split (F.args_str_split_2 _ _) (meets_str_split_cannot_occur z y t t' h1) ?_
  exact fin [(z,t)] s.toks (Bf h1).symm
 | false =>
  have e1:Txt.split z y=if (occurrences z y 0 z.length (z.length+1)).isEmpty=true then [z] else partsBetween z (occurrences z y 0 z.length (z.length+1)) y.length:=Bc (by rw [h1];exact Bm)
  cases hf:(occurrences z y 0 z.length (z.length+1)).isEmpty with
  | true =>
   refine FR F.slot_str_split (DS _ _ _) F.entry_str_split (F.args_str_split_2 _ _) (meets_str_split_not_found z y t t' h1 hy0 hf) ?_
   exact fin [(z,t)] s.toks (by rw [e1,Bf hf];rfl)
  | false =>
   rw [Bc (by rw [hf];exact Bm)] at e1
   refine FR F.slot_str_split (DS _ _ _) F.entry_str_split (F.args_str_split_2 _ _) (meets_str_split_sep z y t t' h1 hy0 hf AX (by rw [<-e1];exact lw)) ?_
   have:=fin (numbered s.toks (partsBetween z (occurrences z y 0 z.length (z.length+1)) y.length)) (s.toks+(partsBetween z (occurrences z y 0 z.length (z.length+1)) y.length).length) (by rw [numbered_texts,e1])
   rw [<-strsFrom_eq] at this
   exact this
theorem rL:MtR X "str.startswith" (fun x xs H Q=>∃ (z y:Str),x=.str z/\xs=[.str y]/\Q (.bl (decide (0+y.length<=z.length)&&subAt z y 0)) H):=by
 intro pins s Z H x vs v us Q I rx rv h
 obtain ⟨z,y,rfl,rfl,q⟩:=h
 obtain ⟨t,rfl⟩:=rx
 obtain ⟨u,rfl,ru⟩:=rv.one
 obtain ⟨t',rfl⟩:=ru
 exact call_gives F.slot_str_startswith (DS _ _ _) F.entry_str_startswith (F.args_str_startswith_2 _ _) (gives_str_startswith z y t t') ⟨.bl _,H,I,rfl,q⟩
theorem bp:cf X (.type "str") (fun xs H Q=>(∃ i:Int,xs=[.int i]/\i.natAbs.log2<1920/\Q (.str (toString i)) H)∨∃ z:Str,xs=[.str z]/\Q (.str z) H):=by
 intro pins s Z H xs us Q I rv h
 rcases h with ⟨i,rfl,hi,q⟩ | ⟨z,rfl,q⟩
 .obtain ⟨u,rfl,ru⟩:=rv.one
  obtain ⟨t,rfl⟩:=ru
  exact PySem.P.str_of_int hi ⟨.str _,H,I.tok _,⟨_,rfl⟩,q⟩
 obtain ⟨u,rfl,ru⟩:=rv.one
 obtain ⟨t,rfl⟩:=ru
 exact PySem.P.str_of_str ⟨.str _,H,I,⟨_,rfl⟩,q⟩
theorem jq:cf X (.type "int") (fun xs H Q=>∃ (z:Str) (n:Int),xs=[.str z]/\PySem.intText? z=some n/\z.length<=640/\Q (.int n) H):=by
 intro pins s Z H xs us Q I rv h
 obtain ⟨z,n,rfl,hn,hl,q⟩:=h
 obtain ⟨u,rfl,ru⟩:=rv.one
 obtain ⟨t,rfl⟩:=ru
 exact KIN.call_text hn hl ⟨.int n,H,I.tok _,⟨_,rfl⟩,q⟩
end
def sgn (c:Nat):Str:=⟨#[c]⟩
def Its (z:Str):It:=⟨fun i _=>∃ c,z.cps[i]?=some c,fun i H x H'=>H'=H/\∃ c,z.cps[i]?=some c/\x=.str (sgn c),fun i _=>z.length<=i⟩
theorem uQ {P:Program}(z:Str)(t:Tok)(it:Addr):lW P w K tg (Its z) [it] it (fun i h=>h.IsStrIter it "str_ascii_iterator" z t i) where
 mem:=by simp
 obj:=fun i h st b hb=>by
  have e:b=it:=by simpa using hb
  subst e
  obtain ⟨o,e,c,d⟩:=st
  exact ⟨o,e,fun v z=>by rw [d] at z;cases z⟩
 keep:=fun i h h' st k=>by
  obtain ⟨o,e,r⟩:=st
  exact ⟨o,k it AY o e,r⟩
 item:=by
  intro X hP hw hK hc i pins s Z H E I hf st hg
  subst hP hw hK
  obtain ⟨c,hx⟩:=hg
  obtain ⟨f0,f1,f2,f3,f4,f5⟩:=hf it AY
  refine wpAny_pyNext_ascii_item st hx fun h' st' sb=>?_
  have I1:Inv X pins Z H { s with heap:=h',toks:=s.toks+1 }:=I.turned (t':=s.toks+1) (fun b o hb e=>(sb.2 b hb).trans e) f0 f1 f3 f4 f5
  obtain ⟨o,e,c',d⟩:=id st'
  exact ⟨_,rfl,iN (s:={ s with heap:=h',toks:=s.toks+1 }) e c' d AW ⟨.str (sgn c),H,I1,⟨_,rfl⟩,⟨rfl,c,hx,rfl⟩,st',fun b hb=>(hf b hb).1⟩⟩
 done:=by
  intro X hP hw hK hc i pins s Z H E I hf st hg
  subst hP hw hK
  obtain ⟨f0,f1,f2,f3,f4,f5⟩:=hf it AY
  exact wpAny_pyNext_ascii_end (I.ok.hd hc) st (Array.getElem?_eq_none (show z.cps.size<=i from hg)) fun h' eb=>⟨rfl,I.turned (t':=s.toks) (fun b o hb e=>eb b o hb e) f0 f1 f3 f4 f5⟩
 self:=fun _ _ _ _ _ st h=>wpAny_pyIter_striter_ascii st h
section
variable {X:Cx}
def AT (tl:TE):TI:=fun Z H R=>tl Z H fun x H1=>∃ z:Str,x=.str z/\z.cps.all (·<128)=true/\R (Its z) H1
theorem yR {l:Expr}{tl:TE}(hl:QE X l tl):QI X tg l (AT tl):=.mk (by
 have hl:=hl.to
 intro pins s Z H R I h
 refine thn (hl pins s Z H _ I h) fun v s1 zz=>?_
 obtain ⟨x,H1,I1,r1,z,rfl,ha,q⟩:=zz
 obtain ⟨t,rfl⟩:=r1
 refine wpAny_pyIter_ascii ha ?_
 refine ⟨s1.heap.objs.size,[s1.heap.objs.size],_,_,H1,rfl,I1.kept (t':=s1.toks) fun b o e=>Bg _ e,uQ z t _,⟨_,BB _ rfl,rfl,rfl⟩,fun b hb=>?_,q⟩
 have e:b=s1.heap.objs.size:=by simpa using hb
 subst e
 exact I1.fpOk (A9 _) (I1.hok.fresh (A9 _)))
theorem vy:OpR X (compareOp .In) (fun x y H Q=>∃ z u:Str,x=.str z/\y=.str u/\Q (.bl (!(occurrences u z 0 u.length 1).isEmpty)) H):=by
 intro pins s Z H x y v u Q I rx ry h
 obtain ⟨z,w,rfl,rfl,q⟩:=h
 obtain ⟨t,rfl⟩:=rx
 obtain ⟨t',rfl⟩:=ry
 exact PySem.P.in_str ⟨.bl _,H,I,rfl,q⟩
end
theorem rm {R:Hp->Prop}(Pv:Nat->List V->Hp->Prop)(h0:Pv 0 [] (upd H D (.lst [])))(hD:∀i ys H,Pv i ys H->H D=some (.lst ys))(hs:∀i c ys H,z.cps[i]?=some c->Pv i ys H->tt (some (.str (sgn c))::bw cap Z) H fun b H3 =>
   if b=true then te (some (.str (sgn c))::bw cap Z) H3 fun v H4=>H4 D=some (.lst ys)/\ys.length<sizeLine/\∃ m',m'<z.length-i/\m'=z.length-(i+1)/\i+1<=z.length/\Pv (i+1) (ys++[v]) (upd H4 D (.lst (ys++[v])))
   else ∃ m',m'<z.length-i/\m'=z.length-(i+1)/\i+1<=z.length/\Pv (i+1) ys H3)(hd:∀ys H,Pv z.length ys H->R H):
  CW (Its z) tt te cap Z H D R:=by
 refine ⟨fun i m ys H=>m=z.length-i/\i<=z.length/\Pv i ys H,⟨z.length,AY,BK _,h0⟩,?_⟩
 rintro i m ys H ⟨rfl,hi,p⟩
 refine ⟨hD i ys H p,?_⟩
 by_cases hlt:i<z.length
 .refine .inr ⟨⟨z.cps[i]'hlt,Array.getElem?_eq_getElem hlt⟩,fun x H' y=>?_⟩
  obtain ⟨rfl,c,e,rfl⟩:=y
  exact hs i c ys _ e p
 have e:i=z.length:=by lia
 subst e
 exact .inl ⟨A9 _,hd ys H p⟩
end L2
namespace L2
open PySem PySem.Spec PyProof.Rows
open PySem.SeqAt (EqAt RcAt RcNeAt)
section
variable {X:Cx}
theorem qQ (hc:X.calm=true):cf X (.builtin "all") (fun xs H Q=>∃ (p:Addr) (bs:List Bool),xs=[.ref p]/\SqL X.K H p (bs.map V.bl)/\Q (.bl (bs.all id)) H):=by
 intro pins s Z H xs us Q I r h
 obtain ⟨p,bs,rfl,hp,q⟩:=h
 obtain ⟨u,rfl,rx⟩:=fN r
 cases rx
 obtain ⟨its,rv,pl,hz⟩:=I.list hp
 have hl:=pl.isList
 have hlt:p<s.heap.objs.size:=by obtain ⟨_,e,_⟩:=hl;exact Bp e
 have hb:∀(i:Nat) (v:Value),its[i]?=some v->∃ b,bs[i]?=some b/\v=.bool b:=fun i v e=>by
  have hi:=(Bu.mp e).1
  obtain ⟨x,ex,rx⟩:=rv.at hi
  rw [(Bu.mp e).2] at rx
  rw [BH] at ex
  cases e2:bs[i]? with
  | none=>rw [e2] at ex;cases ex
  | some b=>rw [e2] at ex;cases ex;exact ⟨b,rfl,rx⟩
 have ln:its.length=bs.length:=by rw [<-rv.length,Bh]
 refine call_all_walk (wpAny_pyIter_list hl ?_)
 refine ⟨s.heap.objs.size,[s.heap.objs.size,p],[s.heap.objs.size],its.toArray.size,_,_,fun i=>(bs[i]?).getD false,rfl,Walks.list (A:=X.A.in1) (by simp [I.ok.hd hc]) _ p (BE hlt) its.toArray,
  ⟨⟨_,BB _ rfl,rfl,rfl⟩,hl.push _⟩,fun i v s' Q' E' hP hQ=>?_,fun h' tk hk=>?_⟩
 .obtain ⟨b,e,rfl⟩:=hb i v (by simpa using hP)
  simp only [e,Option.getD_some] at hQ
  exact C9 hQ
 have e:((List.range its.toArray.size).all fun i=>(bs[i]?).getD false)=bs.all id:=by
  rw [Bo,ln,Cr,Dz,Dz]
  constructor
  .intro h b hb
   obtain ⟨i,hi,e2⟩:=Cw hb
   have:=h i (DW.mpr hi)
   rw [bt hi,e2] at this
   exact this
  .intro h i hi
   have hi':=DW.mp hi
   rw [bt hi']
   exact h _ (Cj hi')
 rw [e]
 refine ⟨.bl _,H,I.kept (t':=tk) (fun b o e=>?_),rfl,q⟩
 exact hk b o (fun z=>by rw [AZ z] at e;exact CI _ (Bp e)) (Bg _ e)
end
end L2
namespace L2
open PySem PySem.W PySem.Spec PySem.Calls PyProof.Rows
open PySem.SeqAt (EqAt RcAt)
structure y7 (A:Around)(s:Shared)(v u:Value)(e l:Bool):Prop where
 eq:EqAt A s v u e
 lt:e=false->∀(prog:Program) (w:World) (E:Value->Shared->Prop) (Q:Value->Shared->Prop),Q (.bool l) s->wpAny (model prog w) A (richCompare .Lt v u) Q E s
inductive CmpL (A:Around)(s:Shared):List Value->List Value->List (Bool×Bool)->Prop
 | nil:CmpL A s [] [] []
 | cons {v u:Value} {e l:Bool} {vs ws:List Value} {r:List (Bool×Bool)}:y7 A s v u e l->CmpL A s vs ws r->CmpL A s (v::vs) (u::ws) ((e,l)::r)
def kz:List (Bool×Bool)->Bool
 | []=>false
 | (e,l)::r=>if e then kz r else l
theorem CmpL.len {r:List (Bool×Bool)}(h:CmpL A s vs ws r):vs.length=ws.length:=by
 induction h with
 | nil=>rfl
 | cons _ _ ih=>rw [Bj,Bj,ih]
section
open PySem.SeqAt
open PySem.AutoSeq1 (wpAny_loadPart')
open PySem.MeetsSeq PySem.MeetsSeq2 PySem.MeetsSeq3
theorem nY (l b:Addr)(items items2:Array Value)(n n2:Nat)(dd dd2:Option Addr)(sl sl2:Array (Option Value))(cs:List (Bool×Bool)):
  Meets (Builtin.«tuple.__lt__» ⟨[.ref l,.ref b],[]⟩)
   (fun A R s=>s.heap.get? l=some { cls:=.type "tuple",dict:=dd,data:=.seq items n,slots:=sl }/\s.heap.get? b=some { cls:=.type "tuple",dict:=dd2,data:=.seq items2 n2,slots:=sl2 }/\CmpL A.in1 s items.toList items2.toList cs /\
    R (.ok (.ret (.bool (kz cs)))) s):=fun prog w A R s h=>by
  obtain ⟨hp,g,d,tk,os⟩:=s;obtain ⟨hl,hb,hc,h⟩:=h
  have f2:=AutoSeq1.sub_tuple_tuple
  have zz:items.size=items2.size:=by have:=hc.len;simpa using this
  wp_walk using wpAny_loadPart' hl,wpAny_loadPart' hb,wpAny_forIn_list _ (fun rest b s'=>b.1=none/\s'=⟨hp,g,d,tk,os⟩/\∃ (vs ws:List Value) (c:List (Bool×Bool)),rest=vs.zip ws /\
   CmpL A.in1 ⟨hp,g,d,tk,os⟩ vs ws c/\R (.ok (.ret (.bool (kz c)))) ⟨hp,g,d,tk,os⟩) _
  case turn =>
   rintro ⟨y,x⟩ rest b s' ⟨hb',rfl,vs,ws,c,hz,hcl,hR⟩
   cases hcl with
   | nil=>rw [List.zip_nil_left] at hz;cases hz
   | @cons v u e l vs' ws' r cc hcl' =>
    rw [DG] at hz
    injection hz with hyx hrest
    injection hyx with hy hx
    subst hy hx
    refine Be (cc.eq prog w _ _ ?_)
    cases e with
    | true =>
     have hR2:R (.ok (.ret (.bool (kz r)))) ⟨hp,g,d,tk,os⟩:=hR
     wp_walk
     exact ⟨rfl,rfl,_,_,_,hrest,hcl',hR2⟩
    | false =>
     have hR2:R (.ok (.ret (.bool l))) ⟨hp,g,d,tk,os⟩:=hR
     have hri:=fun E Q h=>cc.lt rfl prog w E Q h
     wp_walk using hri
     exact hR2
  case fin =>
   rintro ⟨b1,b2⟩ s' ⟨hb',rfl,vs,ws,c,hz,hcl,hR⟩
   simp only at hb'
   subst hb'
   have hv:kz c=false:=by
    cases hcl with
    | nil=>rfl
    | cons _ _=>rw [DG] at hz;cases hz
   rw [hv] at hR
   wp_walk
   simpa [Builtin.Tuple.tupleCompareSizes,zz] using hR
  case h =>
   exact ⟨rfl,rfl,items.toList,items2.toList,cs,rfl,hc,h⟩
end
def PlT (K:Frag)(H:Hp)(a:Addr)(l:List V):Prop:=∃ (e:Addr) (w:Int) (n:Str) (z i:Int),SqT K H a [.ref e,.int i]/\SqT K H e [.int w,.str n,.int z]/\l=[.int w,.str n,.int z,.int i]
theorem yy {w w' z z' i j:Int}{n n':Str}:bv [.int w,.str n,.int z,.int i] [.int w',.str n',.int z',.int j]=if ([V.int w,.str n,.int z]:List V)=[.int w',.str n',.int z'] then decide (i<j) else bv [.int w,.str n,.int z] [.int w',.str n',.int z']:=by
 rw [aM (xs:=[.str n,.int z,.int i]),aM (xs:=[.str n,.int z])]
 by_cases h1:V.int w=V.int w'
 .rw [Bf h1,Bf h1,aM (xs:=[.int z,.int i]),aM (xs:=[.int z])]
  by_cases h2:V.str n=V.str n'
  .rw [Bf h2,Bf h2,aM (x:=.int z) (xs:=[.int i]),aM (x:=.int z) (xs:=[])]
   by_cases h3:V.int z=V.int z'
   .rw [Bf h3,Bf h3,Bf (by rw [h1,h2,h3]),aM]
    by_cases h4:V.int i=V.int j
    .rw [Bf h4]
     have:i=j:=V.int.inj h4
     subst this
     simp
     rfl
    .rw [Bc h4]
     rfl
   .rw [Bc h3,Bc h3,Bc (fun q=>h3 (by injection q with _ q;injection q with _ q;injection q with q _))]
  .rw [Bc h2,Bc h2,Bc (fun q=>h2 (by injection q with _ q;injection q with q _))]
 rw [Bc h1,Bc h1,Bc (fun q=>h1 (by injection q with q _))]
section
variable {X:Cx}
theorem vB {i j i' j':Int}{x':Str}(p1:IsTup s.heap a us.toArray)(p2:IsTup s.heap b vs.toArray)(r1:Vals [.int i,.str x,.int j] us)(r2:Vals [.int i',.str x',.int j'] vs)(A:Around)(hu:A.units<cLine):EqAt A s (.ref a) (.ref b) (decide (([V.int i,.str x,.int j]:List V)=[.int i',.str x',.int j'])):=by
 cases r1 with
 | @cons _ v1 _ _ a1 r1=>cases r1 with
  | @cons _ v2 _ _ a2 r1=>cases r1 with
   | @cons _ v3 _ _ a3 r1=>cases r1;cases r2 with
    | @cons _ u1 _ _ b1 r2=>cases r2 with
     | @cons _ u2 _ _ b2 r2=>cases r2 with
      | @cons _ u3 _ _ b3 r2 =>
       cases r2
       by_cases hab:a=b
       .subst hab
        have:([V.int i,.str x,.int j]:List V)=[.int i',.str x',.int j']:=by
         obtain ⟨o,h1,h2,n,h3⟩:=p1
         obtain ⟨o',h1',h2',n',h3'⟩:=p2
         rw [h1] at h1'
         cases h1'
         rw [h3] at h3'
         have e:[v1,v2,v3]=[u1,u2,u3]:=by injection h3' with q _;simpa using congrArg Array.toList q
         injection e with q1 e;injection e with q2 e;injection e with q3 e
         obtain ⟨_,rfl⟩:=a1;obtain ⟨_,rfl⟩:=a2;obtain ⟨_,rfl⟩:=a3
         obtain ⟨_,rfl⟩:=b1;obtain ⟨_,rfl⟩:=b2;obtain ⟨_,rfl⟩:=b3
         cases q1;cases q2;cases q3;rfl
        rw [Bb this]
        exact E9 _
       .refine EqAt.of_refs hab ?_
        obtain ⟨e1,q1,z1⟩:=bQ (a:=.int i) (c:=.int i') A.in1 s trivial a1 b1
        obtain ⟨e2,q2,z2⟩:=bQ (a:=.str x) (c:=.str x') A.in1 s trivial a2 b2
        obtain ⟨e3,q3,z3⟩:=bQ (a:=.int j) (c:=.int j') A.in1 s trivial a3 b3
        have h:=RcAt.tuples (e:=fun k=>if k=0 then e1 else if k=1 then e2 else e3) p1 p2 hu (fun k h1 h2=>by
         match k,h1,h2 with
         | 0,_,_=>exact q1
         | 1,_,_=>exact q2
         | 2,_,_=>exact q3
         | k+3,h1,_=>exact absurd h1 AY)
        have e:((List.range (min [v1,v2,v3].toArray.size [u1,u2,u3].toArray.size)).all (fun k=>if k=0 then e1 else if k=1 then e2 else e3)&&[v1,v2,v3].toArray.size == [u1,u2,u3].toArray.size)=decide (([V.int i,.str x,.int j]:List V)=[.int i',.str x',.int j']):=by
         show ((e1&&(e2&&(e3&&true)))&&true)=_
         rw [EA,EA,Cr,BR,By,By,z1,z2,z3]
         constructor
         .rintro ⟨h1,h2,h3⟩;rw [h1,h2,h3]
         .intro q
          injection q with h1 q;injection q with h2 q;injection q with h3 q
          exact ⟨h1,h2,h3⟩
        rw [e] at h
        exact h
def RwP (h:Heap)(a:Addr)(l:List V):Prop:=∃ (e:Addr) (w:Int) (n:Str) (z i:Int) (us vs:List Value),IsTup h a us.toArray/\Vals [.ref e,.int i] us/\IsTup h e vs.toArray/\Vals [.int w,.str n,.int z] vs/\l=[.int w,.str n,.int z,.int i]
theorem zi {wd:World}{m:List V}(h1:RwP s.heap a l)(h2:RwP s.heap b m)(hu:A.units+1<cLine)(q:Q (.bool (bv l m)) s):
  wpAny (model prog wd) A (richCompare .Lt (.ref a) (.ref b)) Q E s:=by
 obtain ⟨e,w,n,z,i,us,vs,p1,r1,t1,s1,rfl⟩:=h1
 obtain ⟨e',w',n',z',j,us',vs',p2,r2,t2,s2,rfl⟩:=h2
 obtain ⟨v0,v1,rfl,a0,a1⟩:=iy r1
 obtain ⟨u0,u1,rfl,b0,b1⟩:=iy r2
 cases a0
 cases b0
 obtain ⟨⟨cls,dd,data,sl⟩,ho,hc,n1,hd⟩:=id p1
 obtain ⟨⟨cls2,dd2,data2,sl2⟩,ho2,hc2,n2,hd2⟩:=id p2
 simp only at hc hd hc2 hd2
 subst hc hd hc2 hd2
 have hu1:A.in1.units<cLine:=hu
 obtain ⟨e1,q1,z1⟩:=bQ (a:=.int i) (c:=.int j) A.in1 s trivial a1 b1
 have c0:y7 A.in1 s (.ref e) (.ref e') (decide (([V.int w,.str n,.int z]:List V)=[.int w',.str n',.int z'])) (bv [.int w,.str n,.int z] [.int w',.str n',.int z']) :=
  ⟨vB t1 t2 s1 s2 A.in1 hu1,fun _ prog wd E Q hq=>wB t1 t2 s1 s2 ⟨trivial,trivial,trivial,trivial⟩ hu1 hq⟩
 have c1:y7 A.in1 s v1 u1 e1 (decide (i<j)):=⟨q1,fun _ prog wd E Q hq=>io (a:=.int i) (c:=.int j) A.in1 s trivial a1 b1 prog wd hq⟩
 have er:kz [(decide (([V.int w,.str n,.int z]:List V)=[.int w',.str n',.int z']),bv [.int w,.str n,.int z] [.int w',.str n',.int z']),(e1,decide (i<j))]=bv [.int w,.str n,.int z,.int i] [.int w',.str n',.int z',.int j]:=by
  rw [yy]
  unfold kz
  by_cases h:([V.int w,.str n,.int z]:List V)=[.int w',.str n',.int z']
  .rw [Bb h,Bf rfl,Bf h]
   unfold kz
   cases e1 with
   | true =>
    have:=V.int.inj (z1.mp rfl)
    subst this
    simp [kz]
   | false=>rfl
  .rw [Br h,Bc Bm,Bc h]
 exact Ec (op:=.Lt) ⟨_,ho,rfl⟩ ⟨_,ho2,rfl⟩ Ep Ed (D7 _ _) (nY a b _ _ n1 n2 dd dd2 sl sl2 _)
  ⟨ho,ho2,.cons c0 (.cons c1 .nil),show Value.bool _≠Value.notImplemented/\Q (.bool _) s from ⟨(fun x=>nomatch x),by rw [er];exact q⟩⟩ (Nat.lt_of_succ_lt hu)
theorem Inv.rwP (I:Inv X pins Z H s)(h:PlT X.K H a l):RwP s.heap a l:=by
 obtain ⟨e,w,n,z,i,ha,he,rfl⟩:=h
 obtain ⟨its,r1,p1,_⟩:=I.tuple ha
 obtain ⟨jts,s1,t1,_⟩:=I.tuple he
 exact ⟨e,w,n,z,i,its,jts,p1,r1,t1,s1,rfl⟩
theorem yE (hu:X.A.units<cLine-2):OpR X (compareOp .Lt) (fun x y H Q=>∃ a b l m,x=.ref a/\y=.ref b/\PlT X.K H a l/\PlT X.K H b m/\Q (.bl (bv l m)) H):=by
 intro pins s Z H x y v u Q I rx ry h
 obtain ⟨a,b,l,m,rfl,rfl,ha,hb,q⟩:=h
 cases rx
 cases ry
 exact zi (Q:=EP X pins Z Q) (I.rwP ha) (I.rwP hb) AX ⟨.bl _,H,I,rfl,q⟩
def iY (l:List V):Prop:=∃ (w:Int) (n:Str) (z i:Int),l=[.int w,.str n,.int z,.int i]
def plOrd:KeyOrd:=ip enOrd ij
def dm:List V->plOrd.α
 | [.int w,.str n,.int z,.int i]=>(bP [.int w,.str n,.int z],i)
 | _=>(bP [.int 0,.str "",.int 0],(0:Int))
theorem b7 {a b:List V}(ha:iY a)(hb:iY b):plOrd.blt (dm a) (dm b)=bv a b:=by
 obtain ⟨w,n,z,i,rfl⟩:=ha
 obtain ⟨w',n',z',j,rfl⟩:=hb
 rw [yy]
 have e3:=dS (a:=[.int w,.str n,.int z]) (b:=[.int w',.str n',.int z']) ⟨_,_,_,rfl⟩ ⟨_,_,_,rfl⟩
 have e4:=dS (a:=[.int w',.str n',.int z']) (b:=[.int w,.str n,.int z]) ⟨_,_,_,rfl⟩ ⟨_,_,_,rfl⟩
 show (ip enOrd ij).blt (bP [.int w,.str n,.int z],i) (bP [.int w',.str n',.int z'],j)=_
 by_cases h:([V.int w,.str n,.int z]:List V)=[.int w',.str n',.int z']
 .rw [Bf h,h]
  have ir:=enOrd.irrefl (bP [.int w',.str n',.int z'])
  show (enOrd.blt (bP [.int w',.str n',.int z']) (bP [.int w',.str n',.int z']) || (!enOrd.blt (bP [.int w',.str n',.int z']) (bP [.int w',.str n',.int z'])&&decide (i<j)))=_
  rw [ir]
  simp
 rw [Bc h,<-e3]
 show (enOrd.blt (bP [.int w,.str n,.int z]) (bP [.int w',.str n',.int z']) || (!enOrd.blt (bP [.int w',.str n',.int z']) (bP [.int w,.str n,.int z])&&decide (i<j)))=_
 cases q:enOrd.blt (bP [.int w,.str n,.int z]) (bP [.int w',.str n',.int z']) with
 | true=>rfl
 | false =>
  cases q2:enOrd.blt (bP [.int w',.str n',.int z']) (bP [.int w,.str n,.int z]) with
  | true=>rfl
  | false=>exact absurd (jy ⟨_,_,_,rfl⟩ ⟨_,_,_,rfl⟩ (enOrd.total _ _ q q2)) h
theorem uX {t:V->List V}(h:∀x,iY (t x)):Hm.Od (ltT t) where
 as a b e:=by
  unfold ltT at e ⊢
  rw [<-b7 (h _) (h _)] at e ⊢
  cases q:plOrd.blt (dm (t b)) (dm (t a)) with
  | false=>rfl
  | true=>have:=plOrd.trans _ _ _ e q;rw [plOrd.irrefl] at this;cases this
 nt a b c e f:=by
  unfold ltT at e f ⊢
  rw [<-b7 (h _) (h _)] at e f ⊢
  cases q:plOrd.blt (dm (t a)) (dm (t c)) with
  | false=>rfl
  | true =>
   rcases plOrd.negTrans _ (dm (t b)) _ q with z | z
   .rw [e] at z;cases z
   .rw [f] at z;cases z
end
end L2
namespace L2
open PySem
def kP (row:List En)(i:Nat):List V:=enV (Hg.g row i)++[.int i]
theorem jC (row:List En)(i:Nat):iY (kP row i):=⟨_,_,_,_,rfl⟩
def ltI (row:List En)(i j:Nat):Bool:=bv (kP row i) (kP row j)
theorem yp {row:List En}(h:ltI row i j=true):ltI row j i=false:=by
 unfold ltI at h ⊢
 rw [<-b7 (jC _ _) (jC _ _)] at h ⊢
 cases q:plOrd.blt (dm (kP row j)) (dm (kP row i)) with
 | false=>rfl
 | true=>have:=plOrd.trans _ _ _ h q;rw [plOrd.irrefl] at this;cases this
theorem oA {row:List En}:ltI row i j=if Hg.g row i=Hg.g row j then decide (i<j) else bv (enV (Hg.g row i)) (enV (Hg.g row j)):=by
 unfold ltI kP
 generalize Hg.g row i=a
 generalize Hg.g row j=b
 have h:=yy (w:=a.w) (n:=a.n) (z:=a.s) (i:=i) (w':=b.w) (n':=b.n) (z':=b.s) (j:=j)
 show bv [.int a.w,.str a.n,.int a.s,.int i] [.int b.w,.str b.n,.int b.s,.int j]=_
 rw [h]
 by_cases e:a=b
 .subst e
  rw [Bf rfl,Bf rfl]
  congr 1
  exact propext Int.ofNat_lt
 rw [Bc e,Bc (show ¬ ([V.int a.w,V.str a.n,V.int a.s]:List V)=[V.int b.w,V.str b.n,V.int b.s] from fun q=>e (kL (a:=a) (b:=b) q))]
 rfl
theorem xM {row:List En}(h:ltI row i j=false)(h':ltI row j i=false):i=j:=by
 rw [oA] at h h'
 by_cases e:Hg.g row i=Hg.g row j
 .rw [Bf e] at h
  rw [Bf e.symm] at h'
  have a:=EO h
  have b:=EO h'
  lia
 rw [Bc e] at h
 rw [Bc (fun q=>e q.symm)] at h'
 have en:∀x:En,dA (enV x):=fun x=>⟨_,_,_,rfl⟩
 rw [<-dS (en _) (en _)] at h h'
 exact absurd (kL (jy ⟨_,_,_,rfl⟩ ⟨_,_,_,rfl⟩ (enOrd.total _ _ h h'))) e
def dD (n i:Nat):List Nat:=[2*i+1,2*i+2].filter fun j=>decide (j<n)
def bb (row:List En)(hold:En->Bool)(ps:List Nat):List En:=(ps.map (Hg.g row)).filter hold
inductive Fst (row:List En)(hold:En->Bool)(k:Nat):List Nat->List Nat->Prop
 | start:Fst row hold k ([0].filter fun j=>decide (j<row.length)) []
 | step {P ps:List Nat} {i:Nat}:Fst row hold k P ps->(bb row hold ps).length<k->i∈P->(∀j∈P,ltI row j i=false)->Fst row hold k (P.erase i++dD row.length i) (ps++[i])
section
variable {row:List En}{hold:En->Bool}{k:Nat}{P P' ps ps':List Nat}
theorem Fst.one (h:Fst row hold k P ps):∀{P' ps':List Nat},Fst row hold k P' ps'->ps'.length=ps.length->ps=ps'/\P=P':=by
 induction h with
 | start =>
  intro P' ps' h' e
  cases h' with
  | start=>exact ⟨rfl,rfl⟩
  | step _ _ _ _=>rw [Bi] at e;simp at e
 | @step P ps i h g m mn ih =>
  intro P' ps' h' e
  cases h' with
  | start=>rw [Bi] at e;simp at e
  | @step P2 ps2 j h2 g2 m2 mn2 =>
   rw [Bi,Bi] at e
   obtain ⟨rfl,rfl⟩:=ih h2 (by simpa using e)
   have:i=j:=xM (mn2 i m) (mn j m2)
   subst this
   exact ⟨rfl,rfl⟩
theorem Fst.pre (h:Fst row hold k P ps):∀m,m<ps.length->∃ P',Fst row hold k P' (ps.take m)/\(bb row hold (ps.take m)).length<k/\P'≠[]:=by
 induction h with
 | start=>intro m hm;cases hm
 | @step P ps i h g mi mn ih =>
  intro m hm
  rw [Bi] at hm
  by_cases e:m<ps.length
  .rw [DC (DJ e)]
   exact ih m e
  .have:m=ps.length:=by simp at hm;lia
   subst this
   rw [DC (A9 _),Co]
   exact ⟨P,h,g,fun z=>by rw [z] at mi;cases mi⟩
def vG (row:List En)(hold:En->Bool)(k:Nat)(P ps:List Nat):Prop:=Fst row hold k P ps/\(k<=(bb row hold ps).length∨P=[])
structure Ax (row:List En)(P ps:List Nat):Prop where
 nd:(P++ps).Nodup
 lt:∀j∈P++ps,j<row.length
 up:∀j∈P++ps,j=0∨(j-1) / 2∈ps
theorem Fst.inv (h:Fst row hold k P ps):Ax row P ps:=by
 induction h with
 | start =>
  refine ⟨?_,fun j hj=>?_,fun j hj=>?_⟩
  .rw [Cg]
   exact Dv.nodup (BP.mpr ⟨ah,CF⟩)
  .rw [Cg] at hj
   exact Ba (BJ.mp hj).2
  .rw [Cg] at hj
   exact .inl (AZ (BJ.mp hj).1)
 | @step P ps i h g mi mn ih =>
  have ndP:P.Nodup:=(De.mp ih.nd).1
  have ndp:ps.Nodup:=(De.mp ih.nd).2.1
  have djt:=(De.mp ih.nd).2.2
  have kid:∀j∈dD row.length i,(j-1) / 2=i/\0<j/\j<row.length:=fun j hj=>by
   obtain ⟨a,b⟩:=BJ.mp hj
   have b:=Ba b
   simp only [ax,ah,Bn] at a
   rcases a with rfl | rfl <;> refine ⟨AX,AX,b⟩
  have ini:i∉ps:=fun z=>djt i mi i z rfl
  have fresh:∀j∈dD row.length i,j∉P++ps:=fun j hj z=>by
   obtain ⟨a,b,_⟩:=kid j hj
   rcases ih.up j z with q | q
   .lia
   .rw [a] at q;exact ini q
  have ndk:(dD row.length i).Nodup:=Dv.nodup AY
  refine ⟨?_,fun j hj=>?_,fun j hj=>?_⟩
  .have pm:(P.erase i++dD row.length i++(ps++[i])).Perm (dD row.length i++(P++ps)):=by
    have h1:(P.erase i++[i]).Perm P:=(DO).trans (FV mi).symm
    refine List.Perm.trans ?_ ((h1.append_right ps).append_left (dD row.length i))
    rw [Cq]
    refine List.perm_append_comm.trans ?_
    rw [Cq]
    refine List.Perm.append_left _ ?_
    rw [Cq,Cq]
    refine (DO).trans ?_
    rw [Cq]
    exact List.perm_append_comm_assoc _ _ _
   refine pm.nodup_iff.mpr ?_
   rw [De]
   exact ⟨ndk,ih.nd,fun a ha b hb e=>fresh a ha (e▸hb)⟩
  .simp only [BG,Bt] at hj
   rcases hj with (z | z) | z | z
   .exact ih.lt j (Cd _ (Er z))
   .exact (kid j z).2.2
   .exact ih.lt j (Bq _ z)
   .rw [z];exact ih.lt i (Cd _ mi)
  .have old:j∈P++ps->j=0∨(j-1) / 2∈ps++[i]:=fun z=>(ih.up j z).imp id (Cd _)
   simp only [BG,Bt] at hj
   rcases hj with (z | z) | z | z
   .exact old (Cd _ (Er z))
   .exact .inr (by rw [(kid j z).1];simp)
   .exact old (Bq _ z)
   .rw [z] at old ⊢;exact old (Cd _ mi)
theorem Fst.len (h:Fst row hold k P ps):P.length+ps.length<=row.length:=by
 have I:=h.inv
 have l:(P++ps).length<=(List.range row.length).length:=Gm.nodup_len I.nd (fun e he=>DW.mpr (I.lt e he))
 rw [Bi,Ek] at l
 exact l
end
end L2
namespace L2
open PySem PySem.W PySem.Spec PySem.Calls PyProof.Rows
open PySem.SeqAt (EqAt RcAt)
def PlH (H:Hp)(a:Addr)(l:List V):Prop:=∃ (e:Addr) (w:Int) (n:Str) (z i:Int),H a=some (.tup [.ref e,.int i])/\H e=some (.tup [.int w,.str n,.int z])/\l=[.int w,.str n,.int z,.int i]
theorem PlH.to {K:Frag}(h:PlH H a l):PlT K H a l:=by
 obtain ⟨e,w,n,z,i,h1,h2,h3⟩:=h
 exact ⟨e,w,n,z,i,SqT.of h1,SqT.of h2,h3⟩
theorem PlH.stay (h:PlH H a l)(k:∀b l,H b=some (.tup l)->H' b=some (.tup l)):PlH H' a l:=by
 obtain ⟨e,w,n,z,i,h1,h2,h3⟩:=h
 exact ⟨e,w,n,z,i,k _ _ h1,k _ _ h2,h3⟩
def vx (H:Hp):Option HO->List V
 | some (.tup [.ref e,.int i])=>rM (H e)++[.int i]
 | _=>[.int 0,.str "",.int 0,.int 0]
def cq (H:Hp):V->List V
 | .ref a=>vx H (H a)
 | _=>[.int 0,.str "",.int 0,.int 0]
theorem eo (H:Hp)(x:V):iY (cq H x):=by
 unfold cq
 split
 .unfold vx
  split
  .obtain ⟨i,n,j,e⟩:=pI (H _)
   rw [e]
   exact ⟨_,_,_,_,rfl⟩
  .exact ⟨_,_,_,_,rfl⟩
 exact ⟨_,_,_,_,rfl⟩
theorem oX (h:PlH H a l):cq H (.ref a)=l:=by
 obtain ⟨e,w,n,z,i,h1,h2,rfl⟩:=h
 show vx H (H a)=_
 rw [h1]
 show rM (H e)++[.int i]=_
 rw [h2]
 rfl
structure EnP (t:V->List V)(H:Hp)(xs:List V):Prop where
 tot:∀x,iY (t x)
 mem:∀x∈xs,∃ a,x=.ref a/\PlH H a (t x)
section
variable {t:V->List V}{H H':Hp}{xs ys:List V}
theorem EnP.sub (e:EnP t H xs)(s:∀y∈ys,y∈xs):EnP t H ys:=⟨e.tot,fun x hx=>e.mem x (s x hx)⟩
theorem EnP.move (e:EnP t H xs)(s:∀b l,H b=some (.tup l)->H' b=some (.tup l)):EnP t H' xs:=⟨e.tot,fun x hx=>by
 obtain ⟨a,rfl,h⟩:=e.mem x hx
 exact ⟨a,rfl,h.stay s⟩⟩
theorem EnP.gat (e:EnP t H xs)(h:i<xs.length):∃ a,Hm.g xs i=.ref a/\PlH H a (t (Hm.g xs i))/\Hm.g xs i∈xs/\atI xs (i:Int)=some (Hm.g xs i):=by
 have hm:Hm.g xs i∈xs:=by rw [Hm.g_get h];exact Cj h
 obtain ⟨a,e1,h1⟩:=e.mem _ hm
 refine ⟨a,e1,h1,hm,aL ?_⟩
 rw [Hm.g_get h]
 exact bt h
theorem EnP.key (e:EnP t H xs){x:V}(hx:x∈xs):cq H x=t x:=by
 obtain ⟨a,rfl,h⟩:=e.mem x hx
 exact oX h
end
theorem iz {a b:Nat}(h:a+100<b):a<b-2:=by lia
section
variable {X:Cx}
theorem uJ {a:List V}(ha:iY a):bv a a=false:=by rw [<-b7 ha ha];exact plOrd.irrefl _
theorem xF {a b c:List V}(ha:iY a)(hb:iY b)(hc:iY c)(h:bv a b=false)(h':bv b c=false):bv a c=false:=by
 rw [<-b7 ha hb] at h
 rw [<-b7 hb hc] at h'
 rw [<-b7 ha hc]
 cases q:plOrd.blt (dm a) (dm c) with
 | false=>rfl
 | true =>
  rcases plOrd.negTrans _ (dm b) _ q with z | z
  .rw [h] at z;cases z
  .rw [h'] at z;cases z
end
end L2
namespace L2
open PySem PySem.W PySem.Spec PySem.Calls PyProof.Rows
inductive EnG (t:V->List V)(H:Hp)(xs:List V):Prop
 | e:EnR t H xs->EnG t H xs
 | p:EnP t H xs->EnG t H xs
instance {t:V->List V} {H:Hp} {xs:List V}:Coe (EnR t H xs) (EnG t H xs):=⟨.e⟩
instance {t:V->List V} {H:Hp} {xs:List V}:Coe (EnP t H xs) (EnG t H xs):=⟨.p⟩
section
variable {t:V->List V}{H H':Hp}{xs ys:List V}
theorem EnG.sub (e:EnG t H xs)(s:∀y∈ys,y∈xs):EnG t H ys:=by
 cases e with
 | e e=>exact .e (e.sub s)
 | p e=>exact .p (e.sub s)
theorem EnG.move (e:EnG t H xs)(s:∀b l,H b=some (.tup l)->H' b=some (.tup l)):EnG t H' xs:=by
 cases e with
 | e e=>exact .e (e.move s)
 | p e=>exact .p (e.move s)
theorem EnG.put (e:EnG t H xs)(h:H p=some (.lst zs)):EnG t (upd H p o) xs:=e.move fun b l q=>by rw [ai (aU q h (by intro z;cases z))];exact q
theorem EnG.bar (e:EnG t H xs){r:Addr}(h:H r=some (.lst zs))(s:∀b o,H b=some o->b≠r->H' b=some o):EnG t H' xs:=e.move fun b l q =>
 s b _ q (aU q h (by intro z;cases z))
theorem ni (hu:X.A.units<cLine-2):OpR X (compareOp .Lt) (fun x y H Q=>∃ (t:V->List V) (xs:List V) (i j:Nat),EnG t H xs/\i<xs.length/\j<xs.length/\x=Hm.g xs i/\y=Hm.g xs j/\Q (.bl (ltT t x y)) H):=by
 intro pins s Z H x y v u Q I rx ry h
 obtain ⟨t,xs,i,j,en,hi,hj,rfl,rfl,q⟩:=h
 cases en with
 | e en =>
  obtain ⟨a,ea,ha,_,_⟩:=en.gat hi
  obtain ⟨b,eb,hb,_,_⟩:=en.gat hj
  exact jG AX pins s Z H _ _ v u Q I rx ry ⟨a,b,_,_,ea,eb,SqT.of ha,SqT.of hb,en.fit _ _,q⟩
 | p en =>
  obtain ⟨a,ea,ha,_,_⟩:=en.gat hi
  obtain ⟨b,eb,hb,_,_⟩:=en.gat hj
  exact yE hu pins s Z H _ _ v u Q I rx ry ⟨a,b,_,_,ea,eb,ha.to,hb.to,q⟩
end
section
variable {P:Program}{w:World}{K:W.Frag}{mg:Str->Option Value}{base:Heap}
theorem Fun.okEQ {k:Nat}(F:Fun K x qual st f fd)(S:au N ps (ao st))(len:∀vs H Q E,sp vs H Q E->vs.length=ps.length)(hbody:∀(cdv:Value) (A:Around) (outer:List Env) (s:Shared) (H:Hp) (vs:List V) (Q:VK) (E:XK),Room k (A.deeper (envOfC qual (ao st) s.heap.objs.size f cdv))->sp vs H Q E ->
   ∃ t,QSs (bT (CXe P w) P w K mg base N qual (ao st) f cdv A outer s H E) (bA st) t/\t { nx:=fun _ H'=>Q .non H',rt:=Q } (start N vs) H):av P w K mg base (CXe P w) (k+1) f fd ps sp :=
 F.okE S len fun cdv A outer s H vs Q E hr h=>let ⟨t,a,b⟩:=hbody cdv A outer s H vs Q E hr h;⟨t,a.to,b⟩
end
end L2
namespace L2
open PySem PySem.W PySem.Spec PySem.Calls PyProof.Rows
open PySem.SeqAt (EqAt RcAt RcNeAt)
section
variable {X:Cx}
theorem nE:OpR X (compareOp .In) (fun x y H Q=>∃ (a:Addr) (n:Str) (xs:List Str),x=.str n/\y=.ref a/\SqT X.K H a (xs.map V.str)/\Q (.bl (decide (n∈xs))) H):=by
 intro pins s Z H x y v u Q I rx ry h
 obtain ⟨a,n,xs,rfl,rfl,ha,q⟩:=h
 obtain ⟨t,rfl⟩:=rx
 cases ry
 obtain ⟨its,r,p,_⟩:=I.tuple ha
 have hv:∀y∈its,∃ z∈xs,∃ t,y=Value.str z t:=fun y hy=>by
  obtain ⟨j,hj,ej⟩:=Cw hy
  obtain ⟨x,ex,rx⟩:=r.at hj
  rw [BH] at ex
  cases e:xs[j]? with
  | none=>rw [e] at ex;cases ex
  | some z =>
   rw [e] at ex
   cases ex
   obtain ⟨t,et⟩:=rx
   exact ⟨z,BC e,t,ej▸et⟩
 have hw:∀z∈xs,∃ t,Value.str z t∈its:=fun z hz=>by
  obtain ⟨j,hj,ej⟩:=Cw hz
  have e:(xs.map V.str)[j]?=some (V.str z):=by rw [BH,bt hj,ej];rfl
  obtain ⟨u,hu,t,et⟩:=r.get e
  exact ⟨t,et▸BC hu⟩
 let e:Value->Bool:=fun y=>match y with | .str z _=>z == n | _=>false
 refine SeqAt.in_tupleAt e p (fun y hy=>?_) ⟨.bl _,H,I,?_,q⟩
 .obtain ⟨z,_,t',rfl⟩:=hv y (by simpa using hy)
  exact EqAt.str_str z t' n t
 have ea:its.toArray.any e=its.any e:=by simp
 show Value.bool (its.toArray.any e)=Value.bool _
 rw [ea]
 congr 1
 rw [Cr,BR,Dy]
 constructor
 .rintro ⟨y,hy,ey⟩
  obtain ⟨z,hz,t',rfl⟩:=hv y hy
  have ez:z=n:=(dI z n).mp ey
  exact ez▸hz
 intro hn
 obtain ⟨t',ht⟩:=hw n hn
 exact ⟨_,ht,(dI n n).mpr rfl⟩
theorem uT {e1 e2 e3 e4 e5 f1 f2 f3 f4 f5:Expr}{a1 a2 a3 a4 a5 b1 b2 b3 b4 b5:TE}(g1:QE X e1 a1)(h1:QE X f1 b1)(g2:QE X e2 a2)(h2:QE X f2 b2)(g3:QE X e3 a3)(h3:QE X f3 b3)(g4:QE X e4 a4)(h4:QE X f4 b4)(g5:QE X e5 a5)(h5:QE X f5 b5):
  QE X (.Dict [some e1,some e2,some e3,some e4,some e5] [f1,f2,f3,f4,f5] pos) (x9 [(a1,b1),(a2,b2),(a3,b3),(a4,b4),(a5,b5)]) :=
 .mk (wS (dH g1.to h1.to (dH g2.to h2.to (dH g3.to h3.to (dH g4.to h4.to (dH g5.to h5.to xi))))) rfl rfl AY AY)
end
theorem lM {k:Key}{v:V}{l:List (Key×V)}:aX ((k,v)::l) k=some v:=by unfold aX;rw [List.find?_cons_of_pos AY];rfl
theorem eI {a b:Str}{v:V}{l:List (Key×V)}(h:a≠b):aX ((Sum.inr a,v)::l) (Sum.inr b:Key)=aX l (Sum.inr b):=by
 unfold aX
 rw [List.find?_cons_of_neg (by simpa using fun z:a=b=>h z)]
theorem iF {k:Str}{v:V}{l:List (Key×V)}(h:∀p∈l,p.1≠(Sum.inr k:Key)):a8 l (Sum.inr k:Key) v=l++[(Sum.inr k,v)]:=by
 unfold a8
 rw [Bc]
 rw [Dy]
 rintro ⟨p,hp,e⟩
 exact h p hp (Ba e)
end L2
namespace L2
open PySem PySem.Spec PyProof.Rows
open PySem.SeqAt (EqAt RcAt RcNeAt)
theorem yO {α:Type}(p:α->Bool):∀l:List α,(l.filter p).length+(l.filter fun e=>!p e).length=l.length
 | []=>rfl
 | x::l=>by
  have ih:=yO p l
  rw [BO,BO,Bj]
  cases p x
  .simp;lia
  .simp;lia
theorem i6 {s:LS}(I:Gm.LInv slt s):(s.row.filter (Gm.holds s.there)).Perm (s.there.map (·.2)):=by
 have n1:(s.row.filter (Gm.holds s.there)).Nodup:=I.rnd.filter _
 have n2:(s.there.map (·.2)).Nodup:=by
  rw [EK,CJ]
  refine D5 (R:=fun a b=>a.1≠b.1) (fun {a b} ha hb h z=>h ?_) (CJ.mp I.nd)
  rw [<-(I.inr a.1 a.2 ha).1,<-(I.inr b.1 b.2 hb).1,z]
 exact (DU n1 n2).mpr fun e=>by
  rw [BJ,BF]
  constructor
  .rintro ⟨h1,h2⟩
   exact ⟨_,Gm.holds_in h2,rfl⟩
  .rintro ⟨⟨n,e'⟩,h1,rfl⟩
   obtain ⟨h2,h3⟩:=I.inr n e' h1
   exact ⟨h3,I.held h1⟩
theorem tR {s:LS}(I:Gm.LInv slt s):(s.row.filter (Gm.holds s.there)).length=s.there.length:=by
 rw [(i6 I).length_eq,Bh]
end L2
namespace L2
open PySem
def Deed.fit (s:LS):Deed->Prop
 | .put n _=>Gm.dget s.there n=none
 | .drop n=>Gm.dget s.there n≠none
 | .change n _=>Gm.dget s.there n≠none
 | .take=>s.there≠[]
 | .least=>s.there≠[]
def mv (f:Str->Int)(ys:List Str)(p:LS×LS):LS×LS:=ys.foldl (fun p n=>(Gm.putL slt p.1 n (f n),Gm.dropL slt p.2 n)) p
end L2
namespace HT
open PySem PyProof.Rows
section
variable {prog:Program}{w:World}{A:Around}{E:Value->Shared->Prop}{s:Shared}
theorem getItem_tuple_whole {t sl:Addr}{vl vu:Value}{lo:Option Int}(ht:IsTup s.heap t items)(hs:s.heap.IsSliceOf sl vl vu .none)(pl:IsPart vl lo)(pu:IsPart vu hi)(hw:sIx items.size 0 lo=0/\sIx items.size items.size hi=items.size)(h:Q (.ref t) s)(hsz:items.size<=sizeLine):wpAny (model prog w) A (getItem (.ref t) (.ref sl)) Q E s:=by
 have hj:sIx items.size items.size hi<=items.size:=wc _ _ (A9 _) hi
 obtain ⟨os,hos,hcs,hds⟩:=id hs
 have hTs:s.TypeIs (.ref sl) "slice":=⟨os,hos,hcs⟩
 unfold getItem
 try with_reducible refine DQ ?_
 first | refine Be (Bv ?_) | skip
 refine Be (wpAny_sequenceKey ht.typeIs AW ?_)
 refine Be (wpAny_callSpecial?_slot (name:=Str.ofString "__getitem__") ht.typeIs BV
  (Fn BV ht.typeIs entry_tuple_getitem ?_ (args_tuple_getitem _ _)))
 show wpAny _ _ (Builtin.Tuple.tupleItemsOf (.ref t) >>= _) _ _ s
 refine Be (tupleItemsOf_ ht ?_)
 refine Be (wpAny_typeOf hTs ?_)
 rw [Bf AW]
 refine Be (cU hs pl pu ?_)
 have hyes:(((sIx items.size 0 lo:Nat):Int) == 0&&(1:Int) == 1&&(sIx items.size items.size hi-sIx items.size 0 lo) == items.size)=true:=by rw [hw.1,hw.2];simp
 show wpAny _ _ (if (((sIx items.size 0 lo:Nat):Int) == 0&&(1:Int) == 1&&(sIx items.size items.size hi-sIx items.size 0 lo) == items.size)=true then _ else _) _ _ s
 rw [Bf hyes]
 refine Be (m:=Builtin.Tuple.tupleIsExact _) (Be (wpAny_typeOf ht.typeIs (Bv ?_)))
 rw [Bf AW]
 first
  | exact E6 (Bv ⟨_,rfl,Bv h⟩)
  | exact Be (E6 (Be (Bv (Bv ⟨_,rfl,Bv h⟩))))
  | exact Be (E6 (Bv (Bv ⟨_,rfl,Bv h⟩)))
  | exact Be (E6 (Bv ⟨_,rfl,Bv h⟩))
end
end HT
namespace L2
open PySem PySem.Spec PyProof.Rows
section
variable {X:Cx}
theorem wY:SlR X (fun x lo hi H Q=>∃ a xs,x=.ref a/\SqT X.K H a xs/\(HT.sIx xs.length 0 lo=0/\HT.sIx xs.length xs.length hi=xs.length)/\Q (.ref a) H):=by
 intro pins s Z H x v vl vu lo hi sl Q I rx hs pl pu h
 obtain ⟨a,xs,rfl,hx,hw,q⟩:=h
 cases rx
 obtain ⟨its,r,ht,hz⟩:=I.tuple hx
 have hlen:its.toArray.size=xs.length:=by rw [Bo];exact r.length.symm
 refine ⟨"tuple",_,BV.lookup,ht.typeIs,?_⟩
 exact HT.getItem_tuple_whole ht hs pl pu (by rw [hlen];exact hw) ⟨.ref a,H,I,rfl,q⟩ (by rw [hlen];exact hz)
theorem pS:SlR X (fun x lo hi H Q=>yw X.K x lo hi H Q∨∃ a xs,x=.ref a/\SqT X.K H a xs/\(HT.sIx xs.length 0 lo=0/\HT.sIx xs.length xs.length hi=xs.length)/\Q (.ref a) H):=sl_tup.or wY
end
end L2
namespace L2
open PySem PySem.W PySem.Spec PySem.Calls PyProof.Rows
section
variable {X:Cx}
def Ab (H0:Hp)(t:TS):TS:=fun D Z H=>t { D with nx:=fun σ' H'=>∃ d o kvs,H' d=some (.frz o (.dK kvs))/\(∀o u,H0 d≠some (.frz o u))/\D.nx σ' (upd H' d (.dK kvs)) } Z H
theorem wH {t:TS}(h:QS X st t):QS X st (Ab X.H₀ t):=.mk (by
 have h:=h.to
 intro pins s Z H D I q
 refine thn (h pins s Z H _ I q) fun f s1 z=>?_
 cases f with
 | next=>obtain ⟨σ',H',I',d,o,kvs,e,n,q⟩:=z;exact ⟨σ',_,I'.thaw e n,q⟩
 | brk=>exact z
 | cont=>exact z
 | ret v=>exact z)
end
theorem ui {o:Obj}{g:TG}{D:gf}(Pv:Nat->St->Hp->Prop)(h0:Pv 0 Z H)(hl:∀i Z H,Pv i Z H->H d=some (.frz o (.dK kvs)))(hs:∀i k v Z H,kvs[i]?=some (k,v)->Pv i Z H->g (kV k) Z H fun σ2 H2=>tb { D with nx:=Pv (i+1),ct:=Pv (i+1),bk:=D.nx } σ2 H2)(hd:∀Z H,Pv kvs.length Z H->D.nx Z H):
  FW (Itk d o kvs) g tb D Z H:=by
 refine ⟨fun i m Z H=>m=kvs.length-i/\i<=kvs.length/\Pv i Z H,⟨kvs.length,AY,BK _,h0⟩,?_⟩
 rintro i m Z H ⟨rfl,hi,p⟩
 have q:=hl i Z H p
 by_cases hlt:i<kvs.length
 .refine .inr ⟨⟨hlt,q⟩,Pv (i+1),fun σ' H' p'=>⟨kvs.length-(i+1),AX,rfl,hlt,p'⟩,fun x H' y=>?_⟩
  obtain ⟨e,y⟩:=y
  subst e
  obtain ⟨kv,v⟩:∃ kv:Key×V,kvs[i]?=some kv:=⟨_,bt hlt⟩
  obtain ⟨k,z⟩:=kv
  rw [BH,v] at y
  cases y
  exact hs i k z Z _ v p
 have e:i=kvs.length:=by lia
 subst e
 exact .inl ⟨⟨A9 _,q⟩,hd Z H p⟩
end L2
namespace HT
open PySem PyProof.Rows
section
variable {prog:Program}{w:World}{A:Around}{E:Value->Shared->Prop}{s:Shared}
theorem cat_tup0 {t:Addr}(ht:IsTup s.heap t #[])(hb:IsTup s.heap b ws.toArray)(h1:Q (.ref b) s):wpAny (model prog w) A (binaryOp .Add (.ref t) (.ref b)) Q E s:=by
 obtain ⟨⟨cls,dd,data,sl⟩,ho,hc,n,hd⟩:=id ht
 obtain ⟨⟨cls2,dd2,data2,sl2⟩,ho2,hc2,n2,hd2⟩:=id hb
 simp only at hc hd hc2 hd2
 subst hc hd hc2 hd2
 exact concat_meets ⟨_,ho,rfl⟩ ⟨_,ho2,rfl⟩ Fm seq_tuple_add Eb D6 (D4 _ _)
  (tuple_addW0 t b #[] ws.toArray n n2 dd dd2 sl sl2 AY) ⟨ho,ho2,h1⟩
end
end HT
namespace L2
open PySem PySem.Spec PyProof.Rows
section
variable {X:Cx}
theorem pG:OpR X (binaryOp .Add) (fun x y H Q=>∃ a b xs ys,x=.ref a/\y=.ref b/\SqT X.K H a xs/\SqT X.K H b ys/\xs.length+ys.length<=sizeLine/\(xs=[]->Q (.ref b) H)/\(xs≠[]->ys=[]->Q (.ref a) H)/\(xs≠[]->ys≠[]->∀p,H p=none->Q (.ref p) (upd H p (.tup (xs++ys))))):=by
 intro pins s Z H x y v u Q I rx ry h
 obtain ⟨a,b,xs,ys,rfl,rfl,ha,hb,hz,q0,q1,q2⟩:=h
 by_cases hx:xs=[]
 .cases rx
  cases ry
  obtain ⟨its,r1,p1,_⟩:=I.tuple ha
  obtain ⟨its2,r2,p2,_⟩:=I.tuple hb
  have ei:=r1.nil_iff.mpr hx
  subst ei
  exact HT.cat_tup0 p1 p2 ⟨.ref b,H,I,rfl,q0 hx⟩
 exact xo pins s Z H _ _ v u Q I rx ry ⟨a,b,xs,ys,rfl,rfl,ha,hb,hx,hz,q1 hx,q2 hx⟩
end
end L2
namespace L2
open PySem PySem.W PySem.Spec PySem.Calls PySem.NumText PyProof.Rows PySem.Builtin PySem.Builtin.Str
def txt (n:Int):Str:=Str.ofString (toString n)
theorem fO (m:Nat):(txt (Int.negSucc m)).cps.toList=45::(Nat.toDigits 10 (m+1)).map Char.toNat:=by
 unfold txt
 rw [signs_ofString]
 show ("-"++Nat.repr (m+1)).toList.map Char.toNat=_
 rw [String.toList_append,BL,Nat.toList_repr]
 rfl
theorem dX (m:Nat):(txt (Int.ofNat m)).cps.toList=(Nat.toDigits 10 m).map Char.toNat:=KIN.signs_num m
theorem fG (m:Nat):AllDigits ((Nat.toDigits 10 m).map Char.toNat):=by
 intro c hc
 obtain ⟨ch,hch,e⟩:=BF.mp hc
 have r:=digit_range (Nat.isDigit_of_mem_toDigits AW AW hch)
 rw [<-e]
 exact r
theorem gK (m:Nat):(Nat.toDigits 10 m).map Char.toNat≠[]:=by
 intro e
 have h:=toDigits_len_ge 10 m
 rw [Gd.mp e] at h
 exact absurd h AW
theorem ik {k:Nat}(hk:1<=k)(h:m<10 ^ k):((Nat.toDigits 10 m).map Char.toNat).length<=k:=by
 rw [Bh]
 exact digits10_le hk h
theorem ba (z:Str):z.length=z.cps.toList.length:=(Dm ..).symm
theorem bR {k:Nat}{n:Int}(hk:1<=k)(h:n.natAbs<10 ^ k):(txt n).length<=k+1:=by
 cases n with
 | ofNat m =>
  rw [ba,dX]
  exact A0 (ik hk h) (Ci _)
 | negSucc m =>
  rw [ba,fO]
  exact Cu (ik hk h)
theorem wO {n:Int}(h:n.natAbs<10 ^ 600):PySem.intText? (txt n)=some n:=by
 have l:=bR AW h
 cases n with
 | ofNat m =>
  have e:=intText_digits (x:=txt (Int.ofNat m)) (by rw [dX];exact fG m) (by rw [dX];exact gK m) AX
  rw [dX,KIN.val_back] at e
  exact e
 | negSucc m =>
  have e:=intText_neg (fO m) (fG _) (gK _) AX
  rw [KIN.val_back] at e
  exact e
theorem fM (n:Int):32∉(txt n).cps.toList:=fun z=>(intText_free_32 n).mp z
theorem bF {n:Int}(h:n.natAbs<10 ^ 500):n.natAbs.log2<1920:=by
 by_cases z:n.natAbs=0
 .rw [z];decide
 exact (Ga z).mpr (BZ h AV)
theorem qd {c:Nat}:∀{x y u v:List Nat},c∉x->c∉y->x++c::u=y++c::v->x=y/\u=v
 | [],[],_,_,_,_,e=>⟨rfl,(EB e).2⟩
 | [],b::y,_,_,_,hy,e=>absurd (EB e).1 (fun z=>hy (z▸BD ..))
 | a::x,[],_,_,hx,_,e=>absurd (EB e).1 (fun z=>hx (z▸BD ..))
 | a::x,b::y,u,v,hx,hy,e=>by
  obtain ⟨e1,e2⟩:=EB e
  obtain ⟨r1,r2⟩:=qd (fun z=>hx (Bk _ z)) (fun z=>hy (Bk _ z)) e2
  exact ⟨by rw [e1,r1],r2⟩
theorem bE (a b:Str):(a++b).cps.toList=a.cps.toList++b.cps.toList:=Array.toList_append
theorem dW {c:Nat}{a b:Str}{l:List Str}:(Str.join ⟨#[c]⟩ (a::b::l)).cps.toList=a.cps.toList++c::(Str.join ⟨#[c]⟩ (b::l)).cps.toList:=by
 show (a++⟨#[c]⟩++Str.join ⟨#[c]⟩ (b::l)).cps.toList=_
 rw [bE,bE,Cq]
 rfl
theorem ml {c:Nat}:∀{as bs:List Str},as≠[]->bs≠[]->(∀p∈as,c∉p.cps.toList)->(∀p∈bs,c∉p.cps.toList)->Str.join ⟨#[c]⟩ as=Str.join ⟨#[c]⟩ bs->as=bs
 | [],_,h,_,_,_,_=>absurd rfl h
 | _,[],_,h,_,_,_=>absurd rfl h
 | [a],[b],_,_,_,_,e=>by rw [show a=b from e]
 | [a],b::b'::l,_,_,ha,_,e=>by
  have q:=congrArg (fun z:Str=>z.cps.toList) e
  rw [dW] at q
  exact absurd (show c∈a.cps.toList by rw [show a.cps.toList=_ from q];simp) (ha a AY)
 | a::a'::l,[b],_,_,_,hb,e=>by
  have q:=congrArg (fun z:Str=>z.cps.toList) e
  rw [dW] at q
  exact absurd (show c∈b.cps.toList by rw [show b.cps.toList=_ from q.symm];simp) (hb b AY)
 | a::a'::l,b::b'::m,_,_,ha,hb,e=>by
  have q:=congrArg (fun z:Str=>z.cps.toList) e
  rw [dW,dW] at q
  obtain ⟨e1,e2⟩:=qd (ha a AY) (hb b AY) q
  rw [ca e1,ml AY AY (fun p hp=>ha p (Bk _ hp)) (fun p hp=>hb p (Bk _ hp)) (ca e2)]
theorem mK {ws:List Str}(h0:ws≠[])(h:∀p∈ws,32∉p.cps.toList):Txt.split (Str.join " " ws) " "=ws:=by
 have e:(" ":Str)=⟨#[32]⟩:=by decide +kernel
 rw [e]
 refine ml ?_ h0 (StrLaws.split_free _ _) h (StrLaws.join_split _ _)
 intro z
 have:=split_pos (Str.join ⟨#[32]⟩ ws) ⟨#[32]⟩
 rw [z] at this
 exact absurd this AW
section
variable {X:Cx}
theorem qH:OpR X (binaryOp .Mult) (fun x y H Q=>∃ (c:Nat) (k:Int),x=.str ⟨#[c]⟩/\y=.int k/\0<=k/\k<=1000/\∀r:Str,r.cps.toList=List.replicate k.toNat c->Q (.str r) H):=by
 intro pins s Z H x y v u Q I rx ry h
 obtain ⟨c,k,rfl,rfl,h0,h1,q⟩:=h
 obtain ⟨t,rfl⟩:=rx
 obtain ⟨t',rfl⟩:=ry
 refine PySem.SB.mul ⟨by rw [Br AX,Br AX];rfl,fun h2 _ h4=>?_,fun _ _=>?_⟩ fun t2 k2=>⟨.str _,H,I.tok _,⟨_,rfl⟩,q _ (mul_one_list c k)⟩
 .have:(1000:Int)<=(2 ^ 63-1) / k:=Int.le_ediv_of_mul_le AX AX
  have l1:(⟨#[c]⟩:Str).length=1:=rfl
  rw [l1] at h4
  lia
 unfold PySem.Builtin.Str.tooLong
 have l1:(⟨#[c]⟩:Str).length=1:=rfl
 rw [l1]
 exact Br (Nat.not_lt.mpr (A0 (show 1*k.toNat<=1000 by lia) AW))
end
structure AbcN (z:Str)(m:Nat):Prop where
 lo:1<=z.length
 hi:z.length<=m
 abc:∀c∈z.cps.toList,97<=c/\c<=122
theorem AbcN.app {a b:Str}(x:AbcN a m)(y:AbcN b n):AbcN (a++b) (m+n) where
 lo:=by rw [ba,bE,Bi,<-ba];have:=x.lo;lia
 hi:=by rw [ba,bE,Bi,<-ba,<-ba];have:=x.hi;have:=y.hi;lia
 abc:=fun c hc=>by
  rw [bE] at hc
  exact (BG.mp hc).elim (x.abc c) (y.abc c)
theorem AbcN.mono {a:Str}(x:AbcN a m)(h:m<=n):AbcN a n:=⟨x.lo,A0 x.hi h,x.abc⟩
theorem AbcN.of (h:(decide (1<=z.length)&&decide (z.length<=m)&&z.cps.toList.all fun c=>decide (97<=c)&&decide (c<=122))=true):AbcN z m:=by
 rw [By,By,Dz] at h
 refine ⟨Ba h.1.1,Ba h.1.2,fun c hc=>?_⟩
 have:=h.2 c hc
 rw [By] at this
 exact ⟨Ba this.1,Ba this.2⟩
theorem AbcN.one {c:Nat}(h0:97<=c)(h1:c<=122):AbcN ⟨#[c]⟩ 1:=⟨by show 1<=1;decide,by show 1<=1;decide,fun d hd=>by
 rw [show (⟨#[c]⟩:Str).cps.toList=[c] from rfl,Bt] at hd
 subst hd
 exact ⟨h0,h1⟩⟩
theorem AbcN.free (x:AbcN z m):32∉z.cps.toList:=fun h=>by have:=x.abc 32 h;lia
theorem AbcN.asc (x:AbcN z m):z.cps.all (·<128)=true:=by
 rw [<-Array.all_toList,Dz]
 intro c hc
 have:=x.abc c hc
 exact Bb AX
theorem a6 (a b:Str):(a++b).length=a.length+b.length:=by rw [ba,bE,Bi,<-ba,<-ba]
theorem zC {r1 r2 g:Str}{p:Nat}(h1:r1.cps.toList=List.replicate m p)(h2:r2.cps.toList=List.replicate n p)(p0:97<=p)(p1:p<=122)(hg:AbcN g 1):AbcN (r1++g++r2) (m+1+n):=by
 have l1:r1.length=m:=by rw [ba,h1,Cp]
 have l2:r2.length=n:=by rw [ba,h2,Cp]
 have:=hg.lo
 have:=hg.hi
 refine ⟨by rw [a6,a6];lia,by rw [a6,a6];lia,fun c hc=>?_⟩
 rw [bE,bE,h1,h2] at hc
 rcases BG.mp hc with z | z
 .rcases BG.mp z with y | y
  .rw [Ff y];exact ⟨p0,p1⟩
  .exact hg.abc c y
 rw [Ff z];exact ⟨p0,p1⟩
end L2
namespace L2
open PySem
theorem bH (a b c:Str):a++b++c=a++(b++c):=ca (by rw [bE,bE,bE,bE,Cq])
theorem dM:∀(ws:List Str) (a:Str),ws.foldl (fun (acc w:Str)=>acc++" "++w) a=Str.join " " (a::ws)
 | [],a=>rfl
 | b::ws,a=>by
  rw [List.foldl_cons,dM ws]
  cases ws with
  | nil=>rfl
  | cons c ws =>
   show (a++" "++b)++" "++Str.join " " (c::ws)=a++" "++(b++" "++Str.join " " (c::ws))
   rw [bH,bH (a++" ") b,<-bH b]
theorem jB {j:Int}(h0:0<=j)(h1:j<26):atI (Str.ofString "abcdefghijklmnopqrstuvwxyz").cps.toList j=some (97+j.toNat):=by
 obtain ⟨n,rfl⟩:=Dx h0
 have h2:n<26:=by lia
 have:∀n:Fin 26,(Str.ofString "abcdefghijklmnopqrstuvwxyz").cps.toList[n.val]?=some (97+n.val):=by decide +kernel
 exact aL (this ⟨n,h2⟩)
section
variable {row:List En}{hold:En->Bool}{k:Nat}{P P' ps ps':List Nat}
theorem oE {a b c:Nat}(h:ltI row a b=false)(h':ltI row b c=false):ltI row a c=false:=xF (jC _ _) (jC _ _) (jC _ _) h h'
theorem gU {a:Nat}:ltI row a a=false:=uJ (jC _ _)
theorem uP (hh:Hg.IsH lE row)(h0:0<m)(h1:m<row.length):ltI row m ((m-1) / 2)=false:=by
 rw [oA]
 by_cases e:Hg.g row m=Hg.g row ((m-1) / 2)
 .rw [Bf e]
  exact Br AX
 rw [Bc e,j6]
 exact hh m h0 h1
structure As (row:List En)(P ps:List Nat):Prop where
 zero:0<row.length->0∈P++ps
 kid:∀i∈ps,∀j,(j-1) / 2=i->0<j->j<row.length->j∈P++ps
theorem Fst.cov (h:Fst row hold k P ps):As row P ps:=by
 induction h with
 | start=>exact ⟨fun z=>by rw [Cg];exact BJ.mpr ⟨Bt.mpr rfl,Bb z⟩,fun _ z=>nomatch z⟩
 | @step P ps i h g mi mn ih =>
  have keep:∀j,j∈P++ps->j∈(P.erase i++dD row.length i)++(ps++[i]):=fun j z=>by
   simp only [BG,Bt] at z ⊢
   rcases z with z | z
   .by_cases e:j=i
    .exact .inr (.inr e)
    .exact .inl (.inl ((FU e).mpr z))
   .exact .inr (.inl z)
  refine ⟨fun z=>keep 0 (ih.zero z),fun x hx j e j0 jl=>?_⟩
  rcases BG.mp hx with z | z
  .exact keep j (ih.kid x z j e j0 jl)
  .have e2:x=i:=AZ z
   refine Cd _ (Bq _ (BJ.mpr ⟨?_,Bb jl⟩))
   simp only [ax,ah,Bn]
   lia
theorem Fst.ge (hh:Hg.IsH lE row)(h:Fst row hold k P ps):∀m,m<row.length->m∉ps->∃ j∈P,ltI row m j=false:=by
 have C:=h.cov
 intro m
 induction m using Nat.strongRecOn with
 | ind m ih =>
  intro hm nm
  by_cases m0:m=0
  .subst m0
   rcases BG.mp (C.zero hm) with z | z
   .exact ⟨0,z,gU⟩
   .exact absurd z nm
  .by_cases pp:(m-1) / 2∈ps
   .rcases BG.mp (C.kid _ pp m rfl AX hm) with z | z
    .exact ⟨m,z,gU⟩
    .exact absurd z nm
   .obtain ⟨j,hj,lj⟩:=ih ((m-1) / 2) AX AX pp
    exact ⟨j,hj,oE (uP hh AX hm) lj⟩
theorem Fst.srt (hh:Hg.IsH lE row)(h:Fst row hold k P ps):ps.Pairwise (fun a b=>ltI row b a=false)/\∀a∈ps,∀j∈P,ltI row j a=false:=by
 induction h with
 | start=>exact ⟨List.Pairwise.nil,fun _ z=>nomatch z⟩
 | @step P ps i h g mi mn ih =>
  have kid:∀j∈dD row.length i,ltI row j i=false:=fun j hj=>by
   obtain ⟨a,b⟩:=BJ.mp hj
   have b:=Ba b
   simp only [ax,ah,Bn] at a
   have e:(j-1) / 2=i:=by lia
   have:=uP hh (m:=j) AX b
   rw [e] at this
   exact this
  refine ⟨?_,fun a ha j hj=>?_⟩
  .rw [List.pairwise_append]
   exact ⟨ih.1,List.pairwise_singleton _ _,fun a ha b hb=>by rw [AZ hb];exact ih.2 a ha i mi⟩
  .have ji:ltI row j i=false:=by
    rcases BG.mp hj with z | z
    .exact mn j (Er z)
    .exact kid j z
   rcases BG.mp ha with z | z
   .exact oE ji (ih.2 a z i mi)
   .rw [AZ z];exact ji
theorem Fst.weak {k':Nat}(hk:k<=k')(h:Fst row hold k P ps):Fst row hold k' P ps:=by
 induction h with
 | start=>exact .start
 | step h g mi mn ih=>exact .step ih AX mi mn
theorem ue:∀{P:List Nat},P≠[]->∃ i∈P,∀j∈P,ltI row j i=false
 | [],h=>absurd rfl h
 | [a],_=>⟨a,AY,fun j hj=>by rw [AZ hj];exact gU⟩
 | a::b::P,_=>by
  obtain ⟨i,hi,mn⟩:=ue (P:=b::P) AY
  cases e:ltI row a i with
  | true =>
   refine ⟨a,AY,fun j hj=>?_⟩
   rcases ax.mp hj with z | z
   .rw [z];exact gU
   .exact oE (mn j z) (yp e)
  | false =>
   refine ⟨i,Bk _ hi,fun j hj=>?_⟩
   rcases ax.mp hj with z | z
   .rw [z];exact e
   .exact mn j z
theorem Fst.ends:∀(n:Nat) {P ps:List Nat},Fst row hold k P ps->row.length-ps.length=n->∃ P' ps',vG row hold k P' ps':=by
 intro n
 induction n using Nat.strongRecOn with
 | ind n ih =>
  intro P ps h e
  by_cases d:k<=(bb row hold ps).length∨P=[]
  .exact ⟨P,ps,h,d⟩
  .have d1:¬ k<=(bb row hold ps).length:=fun z=>d (.inl z)
   have d2:P≠[]:=fun z=>d (.inr z)
   obtain ⟨i,hi,mn⟩:=ue (row:=row) d2
   have h':=Fst.step h AX hi mn
   have l:=h.len
   have lp:0<P.length:=List.length_pos_iff.mpr d2
   exact ih (row.length-(ps++[i]).length) (by rw [Bi];show _-(ps.length+1)<n;lia) h' rfl
theorem jE (ps:List Nat):(bb row hold ps).length<=ps.length:=by
 unfold bb
 refine A0 (BQ _ _) ?_
 rw [Bh]
 exact A9 _
theorem lT (a b:List Nat):bb row hold (a++b)=bb row hold a++bb row hold b:=by
 unfold bb
 rw [BL,Ea]
theorem Fst.hk (h:Fst row hold k P ps):(bb row hold ps).length<=k:=by
 induction h with
 | start=>exact BK _
 | @step P ps i h g mi mn ih =>
  rw [lT,Bi]
  have:=jE (row:=row) (hold:=hold) [i]
  show _+_<=k
  have e:[i].length=1:=rfl
  lia
theorem rf:(List.range row.length).map (Hg.g row)=row:=by
 refine List.ext_getElem AY fun i h1 h2=>?_
 rw [List.getElem_map,List.getElem_range,Hg.g_get h2]
theorem we (hh:Hg.IsH lE row)(k:Nat):∃ psf,Fst row hold (k+row.length+1) [] psf/\psf.length=row.length/\(psf.map (Hg.g row)).Perm row:=by
 obtain ⟨P,ps,h,d⟩:=Fst.ends (row:=row) (hold:=hold) (k:=k+row.length+1) _ Fst.start rfl
 have l:=h.len
 have hl:=jE (row:=row) (hold:=hold) ps
 have pz:P=[]:=by
  rcases d with z | z
  .lia
  .exact z
 subst pz
 have I:=h.inv
 have pm:ps.Perm (List.range row.length):=(DU (by simpa using I.nd) List.nodup_range).mpr fun m=>by
  rw [List.mem_range]
  constructor
  .intro z;exact I.lt m (Bq _ z)
  .intro z
   by_cases q:m∈ps
   .exact q
   .obtain ⟨_,y,_⟩:=h.ge hh m z q
    cases y
 refine ⟨ps,h,by rw [pm.length_eq,Ek],?_⟩
 have:=pm.map (Hg.g row)
 rw [rf] at this
 exact this
theorem yF {k k':Nat}{psf:List Nat}(h:Fst row hold k P ps)(hf:Fst row hold k' [] psf)(hk:k<=k')(l:ps.length<=psf.length):ps=psf.take ps.length:=by
 have h':=h.weak hk
 by_cases e:ps.length<psf.length
 .obtain ⟨P'',f,_,_⟩:=hf.pre _ e
  exact (h'.one f (by rw [BS];lia)).1
 have e2:psf.length=ps.length:=by lia
 rw [<-e2,Co]
 exact (h'.one hf e2).1
end
def pW (e:En):Int×Str:=(e.w,e.n)
theorem yL {a b:En}(h:lE b a=false):ltP (pW b) (pW a)=false:=by
 cases e:ltP (pW b) (pW a) with
 | false=>rfl
 | true =>
  rw [kj] at e
  have:lE b a=true:=by
   rw [Gm.ltE_iff]
   rcases e with z | ⟨z,y⟩
   .exact .inl z
   .refine .inr ⟨z,.inl ⟨fun q=>?_,y⟩⟩
    have y':slt b.n a.n=true:=y
    rw [q,slt_slo.irr] at y'
    cases y'
  rw [this] at h
  cases h
theorem zp {row:List En}(h:ltI row j i=false):lE (Hg.g row j) (Hg.g row i)=false:=by
 rw [oA] at h
 by_cases e:Hg.g row j=Hg.g row i
 .rw [e]
  exact (Gm.od_ltE slt_slo).irr _
 rw [Bc e,j6] at h
 exact h
theorem lU {t:LS}(I:Gm.LInv slt t):((t.row.filter (Gm.holds t.there)).map pW).Perm (prs t.there):=by
 have h:=(i6 I).map pW
 rw [FH] at h
 have e:t.there.map (pW ∘ fun p=>p.2)=prs t.there:=Du fun p hp=>by
  show (p.2.w,p.2.n)=(p.2.w,p.1)
  rw [(I.inr p.1 p.2 hp).1]
 rw [e] at h
 exact h
theorem kO {t:LS}(I:Gm.LInv slt t){k:Nat}{P ps:List Nat}(h:Fst t.row (Gm.holds t.there) k P ps):((bb t.row (Gm.holds t.there) ps).map pW).Pairwise fun x y=>ltP y x=false:=by
 rw [CJ]
 unfold bb
 refine List.Pairwise.sublist Dv ?_
 rw [CJ]
 exact (h.srt I.hp).1.imp fun z=>yL (zp z)
theorem nH {t:LS}(I:Gm.LInv slt t)(pe:every.Perm (prs t.there))(se:every.Pairwise fun x y=>ltP y x=false){k:Nat}{P ps:List Nat}(h:vG t.row (Gm.holds t.there) k P ps):
  (bb t.row (Gm.holds t.there) ps).map pW=every.take k/\ps.length+t.there.length<=min k t.there.length+t.row.length:=by
 obtain ⟨psf,hf,lf,pf⟩:=we (hold:=Gm.holds t.there) I.hp k
 have l:=h.1.len
 have ep:=yF h.1 hf AX AX
 have ef:bb t.row (Gm.holds t.there) psf=bb t.row (Gm.holds t.there) ps++bb t.row (Gm.holds t.there) (psf.drop ps.length):=by
  have e0:psf=ps++psf.drop ps.length:=by
   conv=>lhs;rw [<-List.take_append_drop ps.length psf]
   rw [<-ep]
  conv=>lhs;rw [e0]
  rw [lT]
 have pm:((bb t.row (Gm.holds t.there) psf).map pW).Perm (prs t.there):=((pf.filter (Gm.holds t.there)).map pW).trans (lU I)
 have ee:(bb t.row (Gm.holds t.there) psf).map pW=every:=wN pm pe (kO I hf) se
 have le:every.length=t.there.length:=by rw [pe.length_eq];exact Bh ..
 have lF:(bb t.row (Gm.holds t.there) psf).length=t.there.length:=by rw [<-le,<-ee,Bh]
 have hk:=h.1.hk
 have lh:(bb t.row (Gm.holds t.there) ps).length=min k t.there.length:=by
  have q:(bb t.row (Gm.holds t.there) ps).length<=t.there.length:=by rw [<-lF,ef,Bi];lia
  rcases h.2 with z | z
  .lia
  .have h0:=h.1
   rw [z] at h0
   have lp:ps.length=t.row.length:=by
    have I0:=h0.inv
    have all:∀m,m<t.row.length->m∈ps:=fun m hm=>by
     by_cases q:m∈ps
     .exact q
     .obtain ⟨_,y,_⟩:=h0.ge I.hp m hm q
      cases y
    have a:=Gm.nodup_len (List.nodup_range (n:=t.row.length)) (fun m hm=>all m (DW.mp hm))
    rw [Ek] at a
    lia
   have:psf.drop ps.length=[]:=List.drop_of_length_le AX
   rw [this] at ef
   have e2:bb t.row (Gm.holds t.there) []=[]:=rfl
   rw [e2,Cg] at ef
   rw [ef] at lF
   lia
 refine ⟨?_,?_⟩
 .rw [ef,BL] at ee
  rw [<-ee]
  have l1:((bb t.row (Gm.holds t.there) ps).map pW).length=min k t.there.length:=by rw [Bh];exact lh
  by_cases c:k<=t.there.length
  .rw [DC AX,Ce AX]
  .have c2:(bb t.row (Gm.holds t.there) (psf.drop ps.length)).length=0:=by
    rw [ef,Bi] at lF
    lia
   rw [Bx.mp c2,Dk,Cg,Ce AX]
 have a:=yO (Gm.holds t.there) (ps.map (Hg.g t.row))
 have b:=yO (Gm.holds t.there) t.row
 have c:=tR I
 have d:((ps.map (Hg.g t.row)).filter fun e=>!Gm.holds t.there e).length<=(t.row.filter fun e=>!Gm.holds t.there e).length:=by
  have p2:=(pf.filter fun e=>!Gm.holds t.there e).length_eq
  rw [<-p2]
  refine List.Sublist.length_le (List.Sublist.filter _ (Fq _ ?_))
  rw [ep]
  exact List.take_sublist _ _
 rw [Bh] at a
 have e:((ps.map (Hg.g t.row)).filter (Gm.holds t.there)).length=min k t.there.length:=lh
 lia
end L2
namespace L2
open PySem PySem.W PySem.Spec PySem.Calls PyProof.Rows
theorem jQ {α:Type}[Inhabited α]{lt:α->α->Bool}:∀{f:Nat} {xs:List α} {p lk:Nat},Hg.up lt f xs p lk=((Hg.up lt f xs p 0).1,lk+(Hg.up lt f xs p 0).2)
 | 0,xs,p,lk=>rfl
 | f+1,xs,p,lk=>by
  by_cases h:0<p
  .cases q:lt (Hg.g xs p) (Hg.g xs ((p-1) / 2)) with
   | true =>
    rw [Hg.up_go h q,Hg.up_go h q,jQ (lk:=lk+1),jQ (lk:=0+1)]
    simp only [Fh,true_and]
    lia
   | false=>rw [Hg.up_stay h q,Hg.up_stay h q]
  .rw [Hg.up_stop h,Hg.up_stop h];rfl
theorem jY {α:Type}[Inhabited α]{lt:α->α->Bool}:∀{k:Nat} {xs:List α} {lk:Nat},Hg.mk lt k xs lk=((Hg.mk lt k xs 0).1,lk+(Hg.mk lt k xs 0).2)
 | 0,xs,lk=>rfl
 | k+1,xs,lk=>by
  unfold Hg.mk
  rw [jY,jY (lk:=0+_)]
  simp only [Fh,true_and]
  lia
theorem lK:QS X (.Break pos) yk:=.mk (fun _ _ Z H _ I h=>wpAny_Break ⟨Z,H,I,h⟩)
def dkK (r td:Addr)(s:LS)(wk:Nat):List (Key×V):=[(Sum.inr "row",.ref r),(Sum.inr "now",.ref td),(Sum.inr "next",.int s.stamp),(Sum.inr "slack",.int s.slack),(Sum.inr "work",.int wk)]
theorem dk_ne:("row":Str)≠"now"/\("row":Str)≠"next"/\("row":Str)≠"slack"/\("row":Str)≠"work"/\("now":Str)≠"next"/\("now":Str)≠"slack"/\("now":Str)≠"work"/\("next":Str)≠"slack"/\("next":Str)≠"work"/\("slack":Str)≠"work":=by decide +kernel
section
variable {r td D:Addr}{s:LS}{wk w2:Nat}
theorem ie:aX (dkK r td s wk) (Sum.inr "row":Key)=some (.ref r):=lM
theorem yv:aX (dkK r td s wk) (Sum.inr "now":Key)=some (.ref td):=by unfold dkK;rw [eI dk_ne.1,lM]
theorem wV:aX (dkK r td s wk) (Sum.inr "next":Key)=some (.int s.stamp):=by unfold dkK;rw [eI dk_ne.2.1,eI dk_ne.2.2.2.2.1,lM]
theorem vt:aX (dkK r td s wk) (Sum.inr "slack":Key)=some (.int s.slack):=by unfold dkK;rw [eI dk_ne.2.2.1,eI dk_ne.2.2.2.2.2.1,eI dk_ne.2.2.2.2.2.2.2.1,lM]
theorem fE:aX (dkK r td s wk) (Sum.inr "work":Key)=some (.int wk):=by unfold dkK;rw [eI dk_ne.2.2.2.1,eI dk_ne.2.2.2.2.2.2.1,eI dk_ne.2.2.2.2.2.2.2.2.1,eI dk_ne.2.2.2.2.2.2.2.2.2,lM]
theorem jU {k:Str}{v:V}(h:k∈(["row","now","next","slack","work"]:List Str)):a8 (dkK r td s wk) (Sum.inr k:Key) v=(dkK r td s wk).map fun kv=>if kv.1=(Sum.inr k:Key) then (kv.1,v) else kv:=by
 unfold a8
 rw [Bf]
 rw [Dy]
 simp only [ax,ah,Bn] at h
 unfold dkK
 rcases h with rfl | rfl | rfl | rfl | rfl
 .exact ⟨(Sum.inr "row",.ref r),AY,Bb rfl⟩
 .exact ⟨(Sum.inr "now",.ref td),AY,Bb rfl⟩
 .exact ⟨(Sum.inr "next",.int s.stamp),AY,Bb rfl⟩
 .exact ⟨(Sum.inr "slack",.int s.slack),AY,Bb rfl⟩
 exact ⟨(Sum.inr "work",.int wk),AY,Bb rfl⟩
theorem yP {s':LS}(h1:s'.slack=s.slack)(h2:s'.stamp=s.stamp):a8 (dkK r td s wk) (Sum.inr "row":Key) (.ref D)=dkK D td s' wk:=by
 rw [jU AY]
 unfold dkK
 simp only [BA,Dk]
 rw [Bf trivial,Bc (fun z=>dk_ne.1 (Cf z).symm),Bc (fun z=>dk_ne.2.1 (Cf z).symm),Bc (fun z=>dk_ne.2.2.1 (Cf z).symm),Bc (fun z=>dk_ne.2.2.2.1 (Cf z).symm),h1,h2]
theorem xB {s':LS}(h1:s'.slack=s.slack)(h2:s'.stamp=s.stamp+1):a8 (dkK r td s wk) (Sum.inr "next":Key) (.int ((s.stamp:Int)+1))=dkK r td s' wk:=by
 rw [jU AY]
 unfold dkK
 simp only [BA,Dk]
 rw [Bc (fun z=>dk_ne.2.1 (Cf z)),Bc (fun z=>dk_ne.2.2.2.2.1 (Cf z)),Bf trivial,Bc (fun z=>dk_ne.2.2.2.2.2.2.2.1 (Cf z).symm),Bc (fun z=>dk_ne.2.2.2.2.2.2.2.2.1 (Cf z).symm),h1,h2]
 rfl
theorem gQ:a8 (dkK r td s wk) (Sum.inr "work":Key) (.int w2)=dkK r td s w2:=by
 rw [jU AY]
 unfold dkK
 simp only [BA,Dk]
 rw [Bc (fun z=>dk_ne.2.2.2.1 (Cf z)),Bc (fun z=>dk_ne.2.2.2.2.2.2.1 (Cf z)),Bc (fun z=>dk_ne.2.2.2.2.2.2.2.2.1 (Cf z)),Bc (fun z=>dk_ne.2.2.2.2.2.2.2.2.2 (Cf z)),Bf trivial]
end
theorem uI {z:Int}{r:Addr}:gj [] [(Sum.inr "row",.ref r),(Sum.inr "now",.ref td),(Sum.inr "next",.int 0),(Sum.inr "slack",.int z),(Sum.inr "work",.int 0)]=dkK r td (Gm.newL z) 0:=by
 have q:∀{a b:Str},a≠b->(Sum.inr a:Key)≠Sum.inr b:=fun h z=>h (Cf z)
 have e0:a8 ([]:List (Key×V)) (Sum.inr "row") (V.ref r)=([(Sum.inr "row",V.ref r)]:List (Key×V)):=iF (l:=[]) (fun p hp=>nomatch hp)
 have e1:a8 ([(Sum.inr "row",V.ref r)]:List (Key×V)) (Sum.inr "now") (V.ref td)=([(Sum.inr "row",V.ref r),(Sum.inr "now",V.ref td)]:List (Key×V)):=iF (by
  intro p hp
  simp only [ax,ah,Bn] at hp
  rcases hp with rfl
  .exact q dk_ne.1)
 have e2:a8 ([(Sum.inr "row",V.ref r),(Sum.inr "now",V.ref td)]:List (Key×V)) (Sum.inr "next") (V.int 0)=([(Sum.inr "row",V.ref r),(Sum.inr "now",V.ref td),(Sum.inr "next",V.int 0)]:List (Key×V)):=iF (by
  intro p hp
  simp only [ax,ah,Bn] at hp
  rcases hp with rfl | rfl
  .exact q dk_ne.2.1
  .exact q dk_ne.2.2.2.2.1)
 have e3:a8 ([(Sum.inr "row",V.ref r),(Sum.inr "now",V.ref td),(Sum.inr "next",V.int 0)]:List (Key×V)) (Sum.inr "slack") (V.int z)=([(Sum.inr "row",V.ref r),(Sum.inr "now",V.ref td),(Sum.inr "next",V.int 0),(Sum.inr "slack",V.int z)]:List (Key×V)):=iF (by
  intro p hp
  simp only [ax,ah,Bn] at hp
  rcases hp with rfl | rfl | rfl
  .exact q dk_ne.2.2.1
  .exact q dk_ne.2.2.2.2.2.1
  .exact q dk_ne.2.2.2.2.2.2.2.1)
 have e4:a8 ([(Sum.inr "row",V.ref r),(Sum.inr "now",V.ref td),(Sum.inr "next",V.int 0),(Sum.inr "slack",V.int z)]:List (Key×V)) (Sum.inr "work") (V.int 0)=([(Sum.inr "row",V.ref r),(Sum.inr "now",V.ref td),(Sum.inr "next",V.int 0),(Sum.inr "slack",V.int z),(Sum.inr "work",V.int 0)]:List (Key×V)):=iF (by
  intro p hp
  simp only [ax,ah,Bn] at hp
  rcases hp with rfl | rfl | rfl | rfl
  .exact q dk_ne.2.2.2.1
  .exact q dk_ne.2.2.2.2.2.2.1
  .exact q dk_ne.2.2.2.2.2.2.2.2.1
  .exact q dk_ne.2.2.2.2.2.2.2.2.2)
 show (a8 (a8 (a8 (a8 (a8 ([]:List (Key×V)) (Sum.inr "row":Key) (V.ref r)) (Sum.inr "now":Key) (V.ref td)) (Sum.inr "next":Key) (V.int 0)) (Sum.inr "slack":Key) (V.int z)) (Sum.inr "work":Key) (V.int 0))=_
 rw [e0,e1,e2,e3,e4]
 rfl
structure DkAt (H:Hp)(st r td:Addr)(s:LS)(wk:Nat):Prop where
 hs:H st=some (.dK (dkK r td s wk))
 hr:∃ xs,H r=some (.lst xs)/\RR H xs s.row
 ht:∃ ks,H td=some (.dK ks)/\KR H ks s.there
 ne:st≠td
section
variable {H H':Hp}{st r td:Addr}{s:LS}{wk:Nat}
theorem DkAt.slack (O:DkAt H st r td s wk):DGet H st (.str "slack") (some (.int s.slack)):=vt (r:=r) (td:=td) (s:=s) (wk:=wk)▸DGet.k (k:=Sum.inr "slack") O.hs
theorem DkAt.row (O:DkAt H st r td s wk):DGet H st (.str "row") (some (.ref r)):=ie (r:=r) (td:=td) (s:=s) (wk:=wk)▸DGet.k (k:=Sum.inr "row") O.hs
theorem DkAt.now (O:DkAt H st r td s wk):DGet H st (.str "now") (some (.ref td)):=yv (r:=r) (td:=td) (s:=s) (wk:=wk)▸DGet.k (k:=Sum.inr "now") O.hs
theorem DkAt.next (O:DkAt H st r td s wk):DGet H st (.str "next") (some (.int s.stamp)):=wV (r:=r) (td:=td) (s:=s) (wk:=wk)▸DGet.k (k:=Sum.inr "next") O.hs
theorem DkAt.work (O:DkAt H st r td s wk):DGet H st (.str "work") (some (.int wk)):=fE (r:=r) (td:=td) (s:=s) (wk:=wk)▸DGet.k (k:=Sum.inr "work") O.hs
theorem DkAt.stay (O:DkAt H st r td s wk)(k:∀b o,(b=st∨b=r∨b=td)->H b=some o->H' b=some o)(t:∀b l,H b=some (.tup l)->H' b=some (.tup l)):DkAt H' st r td s wk:=by
 obtain ⟨xs,hx,rr⟩:=O.hr
 obtain ⟨ks,hd,kr⟩:=O.ht
 exact ⟨k _ _ (.inl rfl) O.hs,⟨xs,k _ _ (.inr (.inl rfl)) hx,rr.stay t⟩,⟨ks,k _ _ (.inr (.inr rfl)) hd,kr.stay t⟩,O.ne⟩
theorem DkAt.same (O:DkAt H st r td s wk)(k:Same H H'):DkAt H' st r td s wk:=O.stay (fun b o _ e=>k b o e) fun b l e=>k _ _ e
theorem DkAt.notup (O:DkAt H st r td s wk):∀b∈[st,r,td],∀xs,¬ H b=some (.tup xs):=by
 obtain ⟨ys,hr,_⟩:=O.hr
 obtain ⟨kt,ht,_⟩:=O.ht
 intro b hb xs z
 simp only [ax,ah,Bn] at hb
 rcases hb with rfl | rfl | rfl
 .rw [O.hs] at z;cases z
 .rw [hr] at z;cases z
 rw [ht] at z;cases z
theorem DkAt.apart (O:DkAt H st r td s wk):r≠st/\r≠td:=by
 obtain ⟨xs,hx,_⟩:=O.hr
 obtain ⟨ks,hd,_⟩:=O.ht
 exact ⟨aU hx O.hs (by intro z;cases z),aU hx hd (by intro z;cases z)⟩
theorem DkAt.tk (O:DkAt H st r td s wk){F:List Addr}(k:Kept F H H')(h:∀b∈F,b∈[st,r,td]):∀b zs,H b=some (.tup zs)->H' b=some (.tup zs):=k.tups fun b hb zs=>O.notup b (h b hb) zs
theorem DkAt.thereTo (O:DkAt H st r td s wk){T:List (Str×En)}(h:H' td=some (.dK ks))(kr:KR H' ks T)(k:Kept [td] H H'):DkAt H' st r td { s with there:=T } wk:=by
 obtain ⟨xs,hx,rr⟩:=O.hr
 obtain ⟨n1,n2⟩:=O.apart
 exact ⟨k _ _ O.hs (fun z=>O.ne (AZ z)),⟨xs,k _ _ hx (fun z=>n2 (AZ z)),rr.stay (O.tk k fun b hb=>by rw [AZ hb];simp)⟩,⟨ks,h,kr⟩,O.ne⟩
theorem DkAt.dictTo (O:DkAt H st r td s wk){s':LS}{wk':Nat}(h:H' st=some (.dK (dkK r td s' wk')))(e1:s'.row=s.row)(e2:s'.there=s.there)(k:Kept [st] H H'):DkAt H' st r td s' wk':=by
 obtain ⟨xs,hx,rr⟩:=O.hr
 obtain ⟨ks,hd,kr⟩:=O.ht
 obtain ⟨n1,n2⟩:=O.apart
 have t:=O.tk k fun b hb=>by rw [AZ hb];simp
 exact ⟨h,⟨xs,k _ _ hx (fun z=>n1 (AZ z)),by rw [e1];exact rr.stay t⟩,⟨ks,k _ _ hd (fun z=>O.ne (AZ z).symm),by rw [e2];exact kr.stay t⟩,O.ne⟩
theorem DkAt.dropTo (O:DkAt H st r td s wk)(n:Str)(hd:H td=some (.dK ks)):DkAt (upd H td (.dK (bU ks (Sum.inr n)))) st r td (Gm.dropT s n) wk/\Kept [td] H (upd H td (.dK (bU ks (Sum.inr n)))):=by
 obtain ⟨ks',hd',kr⟩:=O.ht
 rw [hd] at hd'
 cases hd'
 have k:Kept [td] H (upd H td (.dK (bU ks (Sum.inr n)))):=Kept.refl.put AY
 exact ⟨O.thereTo ad ((kr.drop n).stay (O.tk k fun b hb=>by rw [AZ hb];simp)) k,k⟩
end
end L2
namespace L2
open PySem PySem.Spec PySem.W PySem.Calls PyProof.Rows
section
variable {X:Cx}
def Ai (tb:TSX)(K:W.Frag)(C1 C2:Addr)(t1 t2:TS):TS:=fun D Z H=>tb D (fun c σ' H'=>∃ C:Addr,c=.ref C/\((W.exmOne K (.ref C) (.ref C1)=some true/\t1 D σ' H')∨(W.exmOne K (.ref C) (.ref C1)=some false/\W.exmOne K (.ref C) (.ref C2)=some true/\t2 D σ' H'))) Z H
theorem wy {x1:Str}{p1 p2 hpos hpos2:Pos}{tb:TSX}{C1 C2:Addr}{b₀ c₀:Stmt}{suite suite2:List Stmt}{t1 t2:TS}(hb:z6 X body tb)(hS:X.stack=X.env::X.outer)(hF:X.env.frame=some X.env.locals)(hg1:Gl X x1)(hm1:X.mg x1=some (.ref C1))(hg2:Gl X x2)(hm2:X.mg x2=some (.ref C2))(hs1:∀e,PSs (X.inX e).nox (b₀::suite) t1)(hs2:∀e,PSs (X.inX e).nox (c₀::suite2) t2)(hd1:(x1 == ("__debug__":Str))=false:=by decide)(hd2:(x2 == ("__debug__":Str))=false:=by decide):
  PS X (.Try body [.ExceptHandler (some (.Name x1 p1)) none (b₀::suite) hpos,.ExceptHandler (some (.Name x2 p2)) none (c₀::suite2) hpos2] [] [] pos) (Ai tb X.K C1 C2 t1 t2):=by
 intro pins s Z H D I h
 refine wpAny_Try_except (B0 (hb pins s Z H D _ I h) (fun f s1 hf=>?_) fun v s1 hx=>?_)
 .cases f with
  | next=>exact DM hf
  | ret v=>exact hf
  | brk=>exact hf
  | cont=>exact hf
 obtain ⟨σ',e,C,H',B,a0,rfl,fl,kp,kt,hokB,_,_,⟨C',eC,q⟩⟩:=hx
 cases eC
 rw [hS] at fl
 have hfr:X.A.frames=some (X.env::X.outer):=by rw [I.ok.frames,hS]
 refine gz hfr hF fl fun h4 held up4=>?_
 refine kq held fun h5 fl5 up5=>?_
 have I5:=kp h5 s1.toks fl5.1 (up4.trans up5)
 obtain ⟨ob,hob,hobc⟩:=fl5.there
 have LT:Looks (model X.prog X.w) h5 (typeOf (.ref e)) (.ref C):=by rw [<-hobc];exact (Looks.ld hob).andThen .now
 have fin:∀(ts:TS) (b₁:Stmt) (su:List Stmt) (hs:∀e,PSs (X.inX e).nox (b₁::su) ts) (q:ts D σ' H'),wpAny (model X.prog X.w) (X.A.mark (some (.ref e))) (setFlight (.ref e) none) (fun _ s₁=>wpAny (model X.prog X.w) (X.A.mark (some (.ref e))) (execs (b₁::su) X.env) (fun f s₂=>SP X pins D f s₂) (fun _ _=>False) s₁) (fun _ _=>False) { s1 with heap:=h5 }:=fun ts b₁ su hs q=>by
  refine jJ fl5 fun h6 fl6 up6=>?_
  have I6:=kp h6 s1.toks fl6.1 ((up4.trans up5).trans up6)
  refine B0 (hs e pins _ _ _ _ ((I6.inX e).wish _) q) (fun f s8 hf=>?_) fun _ _ z=>False.elim z
  have hd0:=I.ok.hd
  cases f with
  | next =>
   obtain ⟨σ8,H8,I8,q8⟩:=hf
   exact ⟨_,_,I8.unwish.outX hd0,q8⟩
  | ret u =>
   obtain ⟨v,σ8,H8,I8,r8,q8⟩:=hf
   exact ⟨v,_,_,I8.unwish.outX hd0,r8,q8⟩
  | brk =>
   obtain ⟨σ8,H8,I8,q8⟩:=hf
   exact ⟨_,_,I8.unwish.outX hd0,q8⟩
  | cont =>
   obtain ⟨σ8,H8,I8,q8⟩:=hf
   exact ⟨_,_,I8.unwish.outX hd0,q8⟩
 refine wpAny_handleBy_cons (codeAny_handlers_test (dh (I5.inX e) hg1 hm1 ?_ hd1)) (by intro q;cases q)
 rcases q with ⟨hx,q⟩ | ⟨hx,hx2,q⟩
 .refine (W.exm_one I5.kIn LT hx).here (codeAny_handlers_suite ?_)
  exact B0 (fin t1 _ _ hs1 q) (fun _ s2 z=>B0 z (fun _ _ y=>y) fun _ _ y=>False.elim y) fun _ _ y=>False.elim y
 refine (W.exm_one I5.kIn LT hx).here ?_
 refine wpAny_handleBy_cons (codeAny_handlers_test (dh (I5.inX e) hg2 hm2 ?_ hd2)) (by intro q;cases q)
 refine (W.exm_one I5.kIn LT hx2).here (codeAny_handlers_suite ?_)
 exact B0 (fin t2 _ _ hs2 q) (fun _ s2 z=>B0 z (fun _ _ y=>y) fun _ _ y=>False.elim y) fun _ _ y=>False.elim y
end
end L2
namespace L2
open PySem PySem.W PySem.Spec PySem.Calls PyProof.Rows
def Itv (d:Addr)(o:Obj)(kvs:List (Key×V)):It :=
 ⟨fun i H=>i<kvs.length/\H d=some (.frz o (.dK kvs)),fun i H x H'=>H'=H/\(kvs.map fun kv=>kv.2)[i]?=some x,fun i H=>kvs.length<=i/\H d=some (.frz o (.dK kvs))⟩
theorem KV.atv {J:Type}{kvs:List (J×V)}{vs:List (J×Value)}(r:KV kvs vs){p:J×V}(h:kvs[i]?=some p):∃ v,vs[i]?=some (p.1,v)/\RelV p.2 v:=by
 induction r generalizing i with
 | nil=>cases h
 | @cons a b l l' h1 _ ih =>
  cases i with
  | zero =>
   cases h
   exact ⟨b.2,by show some b=_;rw [h1.1],h1.2⟩
  | succ i=>exact ih h
theorem rp {P:Program}{K:Frag}{it:Addr}{o:Obj}{es:Array DictEntry}{ep:Nat}(hdo:o.data=.dict es ep):lW P w K tg (Itv d o kvs) [it] it (fun i h=>h.IsValIter it d i kvs.length ep) where
 mem:=Bt.mpr rfl
 obj:=fun i h st b hb=>by
  obtain rfl:=AZ hb
  obtain ⟨o,e,c,d⟩:=st
  exact ⟨o,e,fun v z=>by rw [d] at z;cases z⟩
 keep:=fun i h h' st k=>st.at fun o e=>k it (Bt.mpr rfl) o e
 item:=by
  intro X hP hw hK hc i pins s Z H E I hf st hg
  subst hP hw hK
  obtain ⟨hi,hd⟩:=hg
  obtain ⟨ho,_,nsm,vs,rel,o2,es2,ep2,ho2,hx2,hdo2,rest⟩:=(show _/\ObjOk X.prog X.w H s.heap d (.dK kvs) from I.hok d _ hd)
  rw [ho] at ho2
  cases ho2
  rw [hdo] at hdo2
  cases hdo2
  obtain ⟨f0,f1,f2,f3,f4,f5⟩:=hf it (Bt.mpr rfl)
  obtain ⟨v,hv,rv⟩:=rel.atv (bt hi)
  have st1:=st
  rw [rel.length] at st1
  refine wpAny_pyNext_values_item (knd:=aP X.prog X.w) st1 ⟨o,es,ho,hx2,hdo,rest⟩ hv fun h' st' sb=>?_
  rw [<-rel.length] at st'
  have I1:Inv X pins Z H { s with heap:=h' }:=I.turned (t':=s.toks) (fun b o hb e=>(sb.2 b hb).trans e) f0 f1 f3 f4 f5
  obtain ⟨oi,e,c,dd⟩:=id st'
  refine ⟨v,rfl,iN (s:={ s with heap:=h' }) e c dd AW ⟨_,H,I1,rv,⟨rfl,?_⟩,st',fun b hb=>(hf b hb).1⟩⟩
  rw [BH,bt hi]
  rfl
 done:=by
  intro X hP hw hK hc i pins s Z H E I hf st hg
  subst hP hw hK
  obtain ⟨hi,hd⟩:=hg
  obtain ⟨ho,_,nsm,vs,rel,o2,es2,ep2,ho2,hx2,hdo2,rest⟩:=(show _/\ObjOk X.prog X.w H s.heap d (.dK kvs) from I.hok d _ hd)
  rw [ho] at ho2
  cases ho2
  rw [hdo] at hdo2
  cases hdo2
  obtain ⟨f0,f1,f2,f3,f4,f5⟩:=hf it (Bt.mpr rfl)
  have st1:=st
  rw [rel.length] at st1
  exact wpAny_pyNext_values_end (knd:=aP X.prog X.w) (I.ok.hd hc) st1 ⟨o,es,ho,hx2,hdo,rest⟩ (DN (by rw [<-rel.length];exact hi)) fun h' eb=>⟨rfl,I.turned (t':=s.toks) (fun b o hb e=>eb b o hb e) f0 f1 f3 f4 f5⟩
 self:=fun _ _ _ _ _ st h=>wpAny_pyIter_valiter st h
def zw (td:TE):TI:=fun Z H R=>td Z H fun x H1=>∃ v d kvs,x=.ref v/\H1 v=some (vz v d)/\H1 d=some (.dK kvs)/\∀o,R (Itv d o kvs) (upd H1 d (.frz o (.dK kvs)))
section
variable {X:Cx}{tg:Expr}
theorem wM {l:Expr}{tl:TE}(hl:QE X l tl):QI X tg l (zw tl):=.mk (by
 have hl:=hl.to
 intro pins s Z H R I h
 refine thn (hl pins s Z H _ I h) fun v s1 zz=>?_
 obtain ⟨x,H1,I1,r1,a,d,kvs,e,hv,hd,q⟩:=zz
 subst e
 cases r1
 have hvw:s1.heap.IsValuesView a d:=(show (s1.heap.IsValuesView a d/\_) from I1.hok a _ hv).1
 obtain ⟨o,ho,I2⟩:=I1.freeze hd
 obtain ⟨_,nsm,vs,rel,o2,es,ep,ho2,hx,hdo,rest⟩:=(show ObjOk X.prog X.w H1 s1.heap d (.dK kvs) from I1.hok d _ hd)
 rw [ho] at ho2
 cases ho2
 refine wpAny_pyIter_values (knd:=aP X.prog X.w) hvw ⟨o,es,ho,hx,hdo,rest⟩ ?_
 refine ⟨s1.heap.objs.size,[s1.heap.objs.size],_,_,_,rfl,I2.kept (t':=s1.toks) fun b o e=>Bg _ e,rp hdo,⟨_,BB _ rfl,rfl,?_⟩,fun b hb=>?_,q o⟩
 .show Data.fields _=_
  rw [rel.length]
  rfl
 obtain rfl:=AZ hb
 exact I2.fpOk (A9 _) (I2.hok.fresh (A9 _)))
end
theorem oQ {o:Obj}{R:Hp->Prop}(Pv:Nat->List V->Hp->Prop)(h0:Pv 0 [] (upd H D (.lst [])))(hD:∀i ys H,Pv i ys H->H D=some (.lst ys)/\H d=some (.frz o (.dK kvs)))(hs:∀i k v ys H,kvs[i]?=some (k,v)->Pv i ys H->tt (some v::bw cap Z) H fun b H3 =>
   if b=true then te (some v::bw cap Z) H3 fun v H4=>H4 D=some (.lst ys)/\ys.length<sizeLine/\∃ m',m'<kvs.length-i/\m'=kvs.length-(i+1)/\i+1<=kvs.length/\Pv (i+1) (ys++[v]) (upd H4 D (.lst (ys++[v])))
   else ∃ m',m'<kvs.length-i/\m'=kvs.length-(i+1)/\i+1<=kvs.length/\Pv (i+1) ys H3)(hd:∀ys H,Pv kvs.length ys H->R H):
  CW (Itv d o kvs) tt te cap Z H D R:=by
 refine ⟨fun i m ys H=>m=kvs.length-i/\i<=kvs.length/\Pv i ys H,⟨kvs.length,rfl,BK _,h0⟩,?_⟩
 rintro i m ys H ⟨rfl,hi,p⟩
 obtain ⟨q1,q2⟩:=hD i ys H p
 refine ⟨q1,?_⟩
 by_cases hlt:i<kvs.length
 .refine .inr ⟨⟨hlt,q2⟩,fun x H' y=>?_⟩
  obtain ⟨e,y⟩:=y
  subst e
  obtain ⟨k,v⟩:∃ kv:Key×V,kvs[i]?=some kv:=⟨_,bt hlt⟩
  obtain ⟨k,z⟩:=k
  rw [BH,v] at y
  cases y
  exact hs i k z ys _ v p
 have e:i=kvs.length:=by lia
 subst e
 exact .inl ⟨⟨A9 _,q2⟩,hd ys H p⟩
end L2
namespace TS
open PySem PyProof.Rows
section
variable {prog:Program}{w:World}{A:Around}{E:Value->Shared->Prop}{s:Shared}{J:KeyKind}{kd:SortKind}{a₀:Array Keyed}{st:SortSt}
theorem kJ (h1:1<=n)(h:n<64):minRun' n n 0=n:=by
 obtain ⟨m,rfl⟩:∃ m,n=m+1:=⟨n-1,AX⟩
 rw [minRun'_succ,Bf h]
theorem xv (C:Cmp prog w A s J kd a₀)(B:SB kd a₀ st)(hp:pendingOf st=#[])(h64:a₀.size<64){Q:Unit->SortSt->Prop}(h:∀st',SB kd a₀ st'->Up J (arrOf st') 0 a₀.size->Q () st'):wpS (model prog w) A E s sortRuns' Q st:=by
 rw [sortRuns'_eq]
 refine Ca (wpS_get ?_)
 dsimp only
 simp only [B.size]
 refine Ca (wpS_mono (Eo (I:=fun x c st'=>∃ lo,c=(none,lo)/\SB kd a₀ st'/\((lo=0/\x=0/\pendingOf st'=#[])∨(lo=a₀.size/\(pendingOf st').size<=1/\Up J (arrOf st') 0 a₀.size)))
  (Q:=fun c st'=>c=(none,a₀.size)/\SB kd a₀ st'/\(pendingOf st').size<=1/\Up J (arrOf st') 0 a₀.size) ?_ ?_ ⟨0,rfl,B,.inl ⟨rfl,rfl,hp⟩⟩) ?_)
 .rintro x c st1 _ hx ⟨lo,rfl,B1,h1⟩
  dsimp only
  by_cases g1:lo ≥ a₀.size
  .rw [Bf g1]
   rcases h1 with ⟨e0,_,e2⟩ | ⟨e0,e1,e2⟩
   .have ez:a₀.size=0:=by lia
    have el:lo=a₀.size:=by lia
    rw [el]
    exact CA ⟨rfl,B1,by rw [e2];exact BK _,fun i j _ _ hj=>by lia⟩
   .rw [e0]
    exact CA ⟨rfl,B1,e1,e2⟩
  rw [Bc g1]
  obtain ⟨e0,_,e2⟩:lo=0/\x=0/\pendingOf st1=#[]:=by
   rcases h1 with z | ⟨z,_⟩
   .exact z
   .lia
  subst e0
  have hm:minRun' a₀.size a₀.size 0=a₀.size:=kJ AX h64
  refine Ca (xj C B1 AX AX fun n st2 zz=>?_)
  obtain ⟨B2,p2,k2,n1,n2,U2⟩:=zz
  dsimp only
  by_cases g2:n<minRun' a₀.size a₀.size 0
  .rw [Bf g2]
   refine Ca (wpS_lift (E6 ⟨rfl,?_⟩))
   refine Ca (zU C B2 AX AX n1 U2 fun st3 B3 p3 k3 U3=>?_)
   simp only [Bool.not_true,BX,DE]
   refine Ca (wpS_get ?_)
   have hb:(pendingOf st3).back?=none:=by rw [p3,p2,e2];rfl
   rw [hb]
   dsimp only
   have em:min (a₀.size-0) (minRun' a₀.size a₀.size 0)=a₀.size:=by lia
   rw [em] at U3
   refine Ca (wpS_modify (CA ⟨a₀.size,?_,⟨B3.perm,B3.kind,B3.fail⟩,.inr ⟨rfl,?_,U3⟩⟩))
   .rw [em,Gg]
   .show ((pendingOf st3).push _).size<=1
    rw [Array.size_push,p3,p2,e2]
    exact A9 _
  .rw [Bc g2]
   have en:n=a₀.size:=by lia
   subst en
   refine Ca (wpS_get ?_)
   have hb:(pendingOf st2).back?=none:=by rw [p2,e2];rfl
   rw [hb]
   dsimp only
   refine Ca (wpS_modify (CA ⟨a₀.size,by rw [Gg],⟨B2.perm,B2.kind,B2.fail⟩,.inr ⟨rfl,?_,U2⟩⟩))
   show ((pendingOf st2).push _).size<=1
   rw [Array.size_push,p2,e2]
   exact A9 _
 .rintro c st1 ⟨lo,rfl,B1,h1⟩
  rcases h1 with ⟨e0,ex,e2⟩ | ⟨e0,e1,e2⟩
  .have ez:a₀.size=0:=by lia
   refine ⟨by rw [e0,ez],B1,by rw [e2];exact BK _,fun i j _ _ hj=>by lia⟩
  .exact ⟨by rw [e0],B1,e1,e2⟩
 rintro c st1 ⟨rfl,B1,p1,U1⟩
 dsimp only
 refine Ca (wpS_mono (Eo (I:=fun x c st'=>c=(none,())/\SB kd a₀ st'/\(pendingOf st').size<=1/\Up J (arrOf st') 0 a₀.size)
  (Q:=fun c st'=>c=(none,())/\SB kd a₀ st'/\(pendingOf st').size<=1/\Up J (arrOf st') 0 a₀.size) ?_ (fun c st' z=>z) ⟨rfl,B1,p1,U1⟩) ?_)
 .rintro x c st2 _ hx ⟨rfl,B2,p2,U2⟩
  refine Ca (wpS_get ?_)
  rw [Bf (show (pendingOf st2).size<=1 from p2)]
  exact CA ⟨rfl,B2,p2,U2⟩
 rintro c st2 ⟨rfl,B2,p2,U2⟩
 exact CA (h st2 B2 U2)
end
section
variable {prog:Program}{w:World}{A:Around}{E:Value->Shared->Prop}{s:Shared}{J:KeyKind}{kd:SortKind}
theorem AR {P:Fin->Shared->Prop}(ho:s.heap.get? a=some (seqObj "list" vs.toArray n))(hn:vs.length<=sizeLine)(h64:vs.length<64)(hkk:∀h':Heap,(∀b o,b≠a->s.heap.get? b=some o->h'.get? b=some o)->2<=vs.length->∀Q:SortKind->Shared->Prop,Q kd { s with heap:=h' }->wpAny (model prog w) A (keyKind' vs.toArray) Q E { s with heap:=h' })(hC:∀h':Heap,(∀b o,b≠a->s.heap.get? b=some o->h'.get? b=some o)->2<=vs.length->Cmp prog w A { s with heap:=h' } J kd (pairsOf vs))(h:∀st':SortSt,(arrOf st').Perm (pairsOf vs)->Up J (arrOf st') 0 (pairsOf vs).size->P (.done (.ret .none)) { s with heap:=sortedHeap s.heap a vs ((arrOf st').map (·.2)) }):
  wpAny (model prog w) A (Builtin.«list.sort» ⟨[.ref a],[]⟩) P E s:=by
 rw [list_sort_plain]
 have ha:a<s.heap.objs.size:=Bp ho
 refine Be (listItems_at ho rfl ?_)
 refine Be (listUpdate_at ho rfl ?_ (hsz:=by simpa using hn))
 obtain ⟨e1,ho1⟩:∃ e1,(s.heap.update a (Obj.mapSeq fun _=>#[])).get? a=some (seqObj "list" #[] e1):=⟨_,get?_update_seq ho (fun _=>#[])⟩
 refine Be (seqEpoch_at ho1 rfl ?_)
 refine Be (wpAny_newTuple ?_)
 refine Be (wpAny_newList ?_)
 refine DQ ?_
 have ho6:(((s.heap.update a (Obj.mapSeq fun _=>#[])).push (seqObj "tuple" vs.toArray 0)).push (seqObj "list" #[] 0)).get? a=some (seqObj "list" #[] e1):=by
  rw [Dh _ _ _ (by rw [size_push',DZ];exact BE (El ha)),Dh _ _ _ (by rw [DZ];exact BE ha)]
  exact ho1
 have keep:∀b o,b≠a->s.heap.get? b=some o->(((s.heap.update a (Obj.mapSeq fun _=>#[])).push (seqObj "tuple" vs.toArray 0)).push (seqObj "list" #[] 0)).get? b=some o:=fun b o hb e=>by
  have hlt:=Bp e
  rw [Dh _ _ _ (by rw [size_push',DZ];exact BE (El hlt)),Dh _ _ _ (by rw [DZ];exact BE hlt),Heap.get?_update_ne _ _ _ _ hb]
  exact e
 show wpAny (model prog w) A _ P E { s with heap:=((s.heap.update a (Obj.mapSeq fun _=>#[])).push (seqObj "tuple" vs.toArray 0)).push (seqObj "list" #[] 0) }
 dsimp only
 have hsz:vs.toArray.size=vs.length:=by simp
 by_cases h2:vs.toArray.size<2
 .rw [Bf h2,Bf h2]
  refine Be (Bv ?_)
  rw [StateT.run_pure]
  refine Be (Bv ?_)
  dsimp only
  refine Be (seqEpoch_at ho6 rfl ?_)
  refine Be (listUpdate_at ho6 rfl ?_ (hsz2:=by rw [Array.size_map];show (pairsOf vs).size<=_;rw [ET];lia))
  simp only [bne_self_eq_false,BX,DE]
  refine Bv (h (SortSt.mk' general' (vs.toArray.zip vs.toArray) #[] 7 none) (Array.Perm.refl _) ?_)
  intro i j _ hij hj
  have:i=j:=by rw [ET] at hj;lia
  subst this;exact CK _
 rw [Bc h2,Bc h2]
 refine Be (hkk _ keep AX _ ?_)
 refine Be (B0 (xv (E:=E) (hC _ keep AX) (a₀:=pairsOf vs) (st:=SortSt.mk' kd (vs.toArray.zip vs.toArray) #[] 7 none)
  (Q:=fun _ st'=>SB kd (pairsOf vs) st'/\Up J (arrOf st') 0 (pairsOf vs).size) ⟨Array.Perm.refl _,rfl,rfl⟩ rfl (by rw [ET];exact h64) fun st' a1 a2=>⟨a1,a2⟩) ?_ fun _ _ e=>e)
 rintro ⟨⟨⟩,st'⟩ s' ⟨rfl,B,U⟩
 dsimp only
 refine Be (seqEpoch_at ho6 rfl ?_)
 refine Be (listUpdate_at ho6 rfl ?_ (hsz2:=by refine A0 (EM ((Array.size_map ..).trans (B.perm.size_eq.trans (ET _)))) ?_;lia))
 rw [B.fail]
 simp only [bne_self_eq_false,BX,DE]
 exact Bv (h st' B.perm U)
theorem sorted_s {l:Addr}(hl:s.heap.IsList l vs.toArray)(hn:vs.length<=sizeLine)(h64:vs.length<64)(hkk:∀h':Heap,(∀b o,s.heap.get? b=some o->h'.get? b=some o)->2<=vs.length->∀(E:Value->Shared->Prop) (A:Around) (Q:SortKind->Shared->Prop),Q kd { s with heap:=h' }->wpAny (model prog w) A (keyKind' vs.toArray) Q E { s with heap:=h' })(hC:∀h':Heap,(∀b o,s.heap.get? b=some o->h'.get? b=some o)->2<=vs.length->∀A:Around,Cmp prog w A { s with heap:=h' } J kd (pairsOf vs))(h:∀st':SortSt,(arrOf st').Perm (pairsOf vs)->Up J (arrOf st') 0 (pairsOf vs).size->Q (.ref (s.heap.objs.size+1)) { s with heap:=sortedAll s.heap vs ((arrOf st').map (·.2)) }):
  wpAny (model prog w) A (call (.builtin "sorted") [.ref l]) Q E s:=by
 refine Calls.call_function_entry kind_sorted plain_sorted entry_sorted (args_sorted1 _) ?_
 unfold Builtin.«sorted»
 refine Be (m:=checkCount "sorted" 1 1 _) (Bv ?_)
 refine Be (collect_list hl ?_)
 refine Be (wpAny_newList ?_)
 have hsz:((s.heap.push (seqObj "list" #[] 0)).update s.heap.objs.size (Obj.mapSeq (·++vs.toArray))).objs.size=s.heap.objs.size+1:=by
  rw [DZ,size_push']
 have hoL:(((s.heap.push (seqObj "list" #[] 0)).update s.heap.objs.size (Obj.mapSeq (·++vs.toArray))).push (seqObj "list" vs.toArray 0)).get? (s.heap.objs.size+1)=some (seqObj "list" vs.toArray 0):=by
  rw [<-hsz];exact BB _ rfl
 have keep:∀b o,s.heap.get? b=some o->(((s.heap.push (seqObj "list" #[] 0)).update s.heap.objs.size (Obj.mapSeq (·++vs.toArray))).push (seqObj "list" vs.toArray 0)).get? b=some o:=fun b o e=>by
  have hlt:=Bp e
  rw [Dh _ _ _ (by rw [hsz];exact BE (El hlt)),Heap.get?_update_ne _ _ _ _ (BE hlt),Dh _ _ _ (BE hlt)]
  exact e
 have nb:∀b o,s.heap.get? b=some o->b≠s.heap.objs.size+1:=fun b o e=>BE (El (Bp e))
 show wpAny _ _ _ _ _ { s with heap:=((s.heap.push (seqObj "list" #[] 0)).update s.heap.objs.size (Obj.mapSeq (·++vs.toArray))).push (seqObj "list" vs.toArray 0) }
 rw [hsz]
 refine Be (DQ (Fn slot_list_sort ⟨_,hoL,rfl⟩ entry_list_sort (AR hoL hn h64 (fun h' k g Q q=>hkk h' (fun b o e=>k b o (nb b o e) (keep b o e)) g _ _ Q q) (fun h' k g=>hC h' (fun b o e=>k b o (nb b o e) (keep b o e)) g _) fun st' a1 a2=>⟨_,rfl,?_⟩) (args_list_sort _)))
 exact Bv ⟨_,rfl,h st' a1 a2⟩
end
end TS
namespace L2
open PySem PySem.W PySem.Spec PySem.Calls PyProof.Rows
section
variable {X:Cx}
theorem iZ:cf X (.builtin "sorted") (fun zs H Q=>∃ p xs key,zs=[.ref p]/\SqL X.K H p xs/\PrL X.K H key xs/\xs.length<64 /\
  ∀l ys,H l=none->ys.Perm xs->ys.Pairwise (fun x y=>ltP (key y) (key x)=false)->Q (.ref l) (upd H l (.lst ys))):=by
 intro pins s Z H zs us Q I r h
 obtain ⟨p,xs,key,rfl,hq,he,h64,q⟩:=h
 obtain ⟨u,rfl,ru⟩:=fN r
 cases ru
 obtain ⟨its,rv,pl,hz⟩:=I.list hq
 have hlen:=rv.length
 refine TS.sorted_s (kd:=tuples' true) (J:=jH key) pl.isList AX AX (fun h' kp h2 E A Q q=>?_) (fun h' kp h2 A=>qO I rv he h' kp A) fun st' pm up=>?_
 .obtain ⟨fs,k,l,f⟩:=pJ I h' kp rv he
  refine W.kat_kind (s:={ s with heap:=h' }) (T:=.type "int") k AX (fun v hv=>?_) AW q
  obtain ⟨i,t,rfl⟩:=f v hv
  exact W.Looks.of_pure rfl
 obtain ⟨e,he2⟩:=sortedAll_at s.heap its ((arrOf st').map (·.2))
 have pm':(arrOf st').toList.Perm (its.zip its):=by rw [<-pairsOf_toList];exact EI.mp pm
 have mem:∀k∈(arrOf st').toList,k.1=k.2/\∃ x∈xs,RelV x k.2/\∃ a,k.2=.ref a/\x=.ref a:=fun k hk=>by
  obtain ⟨e1,m⟩:=mem_zip_self (pm'.mem_iff.mp hk)
  refine ⟨e1,?_⟩
  obtain ⟨j,hj,ej⟩:=Cw m
  have hxj:xs[j]?=some (xs[j]'AX):=bt _
  obtain ⟨u,hu,ru⟩:=rv.get hxj
  rw [bt hj,ej] at hu
  cases hu
  obtain ⟨a,ea,_⟩:=he _ (BC hxj)
  refine ⟨_,BC hxj,by rw [<-e1];exact ru,a,?_,ea⟩
  rw [ea] at ru
  rw [<-e1];exact ru
 have hsz:(arrOf st').toList.length=xs.length:=by rw [pm'.length_eq,List.length_zip];lia
 have vs':∀l:List Keyed,(∀k∈l,∃ a,k.2=.ref a)->Vals (l.map fun k=>eY k.2) (l.map (·.2)):=by
  intro l
  induction l with
  | nil=>intro _;exact .nil
  | cons k l ih =>
   intro f
   obtain ⟨a,ea⟩:=f k BD
   refine .cons ?_ (ih fun k' hk'=>f k' (Bk _ hk'))
   show RelV (eY k.2) k.2
   rw [ea];rfl
 have xsb:xs=its.map eY:=by
  have aux:∀{xs:List V} {us:List Value},Vals xs us->(∀x∈xs,∃ a,x=.ref a)->xs=us.map eY:=by
   intro xs us r
   induction r with
   | nil=>intro _;rfl
   | @cons x u xs us r t ih =>
    intro f
    obtain ⟨a,rfl⟩:=f x BD
    cases r
    rw [BA,<-ih fun y hy=>f y (Bk _ hy)]
    rfl
  exact aux rv fun x hx=>by obtain ⟨a,e,_⟩:=he x hx;exact ⟨a,e⟩
 refine ⟨.ref (s.heap.objs.size+1),upd H (s.heap.objs.size+1) (.lst ((arrOf st').toList.map fun k=>eY k.2)),I.laid (t':=s.toks) (fun b o e=>sortedAll_old e) (Ci _) ?_,rfl,q _ _ (I.hok.fresh (Ci _)) ?_ ?_⟩
 .refine ⟨by rw [Bh,hsz];exact hz,(arrOf st').toList.map (·.2),e,vs' _ fun k hk=>?_,?_⟩
  .obtain ⟨_,x,_,_,a,ea,_⟩:=mem k hk
   exact ⟨a,ea⟩
  .rw [he2,<-Array.toList_map]
 .have e3:(its.zip its).map (fun k:Keyed=>eY k.2)=xs:=by
   rw [xsb]
   have aux:∀l:List Value,(l.zip l).map (fun k:Keyed=>eY k.2)=l.map eY:=by
    intro l
    induction l with
    | nil=>rfl
    | cons a l ih=>rw [DG,BA,BA,ih]
   exact aux its
  rw [<-e3]
  exact pm'.map _
 have el:(arrOf st')=(arrOf st').toList.toArray:=by simp
 rw [el] at up
 have hs2:(pairsOf its).size=(arrOf st').toList.length:=by rw [ET,hsz];lia
 have up2:=(TS.up_iff AX).mp up
 rw [EY,hs2,Co] at up2
 refine List.pairwise_map.mpr (D5 (fun {k k'} hk hk' hle=>?_) up2)
 obtain ⟨e1,x,hx,rx,a,ea,exa⟩:=mem k hk
 obtain ⟨e1',x',hx',rx',a',ea',exa'⟩:=mem k' hk'
 have hle':TS.Lb (jH key) k' k=false:=hle
 unfold TS.Lb TS.kf at hle'
 rw [e1,e1',ea,ea'] at hle'
 have:=i3 (a:=key (.ref a')) (b:=key (.ref a))
 rw [ea,ea']
 show ltP (key (.ref a')) (key (.ref a))=false
 rw [<-this];exact hle'
end
end L2
namespace Gm
open Hg
section
variable {N:Type}[DecidableEq N][Inhabited N]{sl:N->N->Bool}
theorem ud {b:Nat}(h:n<=2 ^ b):n.log2<=b:=by
 by_cases z:n=0
 .subst z;exact BK _
 exact Nat.le_of_lt_succ ((Ga z).mpr (BM h (Nat.pow_lt_pow_right AW (CS _))))
theorem LInv.le {s:LS N}(I:LInv sl s):s.there.length<=s.row.length:=by
 rw [<-I.kept];exact BQ _ _
def pot (b:Nat)(s:LS N):Int:=(s.looks:Int)+(2*b+2)*((s.row.length:Int)-s.there.length)
theorem mul_up {a x y:Int}(h:x<=y)(ha:0<=a):a*x<=a*y:=Int.mul_le_mul_of_nonneg_left h ha
theorem sweep_pot {s:LS N}(I:LInv sl s){b:Nat}:pot b (sweep sl s)<=pot b s:=by
 unfold sweep
 by_cases d:due s=true
 .rw [Bf d]
  have l:=qX I
  have lk:(mk (ltE sl) ((s.row.filter (holds s.there)).length / 2) (s.row.filter (holds s.there)) 0).2<=2*(s.row.filter (holds s.there)).length:=rO
  rw [I.kept] at lk
  unfold due at d
  rw [By,BR,BR] at d
  unfold pot
  rw [l]
  show ((s.looks+_:Nat):Int)+(2*b+2)*((s.there.length:Int)-s.there.length)<=_
  rw [Int.sub_self,Int.mul_zero,I.kept]
  have:=mul_up (a:=2*b+2) (x:=(s.there.length:Int)) (y:=(s.row.length:Int)-s.there.length) AX AX
  have e:(2*(b:Int)+2)*(s.there.length:Int)=2*(b*(s.there.length:Int))+2*s.there.length:=by rw [Int.add_mul,Int.mul_assoc]
  have p:0<=(b:Int)*(s.there.length:Int):=Int.mul_nonneg AX AX
  lia
 rw [Bc d];exact Gk _
theorem enter_pot {s:LS N}{n:N}{w:Int}{b:Nat}(h:s.row.length+1<=2 ^ b):pot b (enter sl s n w)<=pot b s+b+(if dget s.there n=none then 0 else 2*b+2):=by
 have lk:=lO (lt:=ltE sl) (f:=s.row.length) (xs:=s.row++[⟨w,n,(s.stamp:Int)⟩]) (p:=s.row.length) (lk:=0)
 have lg:=ud h
 have lr:(enter sl s n w).row.length=s.row.length+1:=by
  rw [enter_row_perm.length_eq,Bi];rfl
 unfold pot
 rw [lr]
 show ((s.looks+_:Nat):Int)+(2*b+2)*(((s.row.length+1:Nat):Int)-(dput s.there n _).length)<=_
 have e:∀x:Int,(2*(b:Int)+2)*(x+1)=(2*b+2)*x+(2*b+2):=fun x=>by rw [Ge,Fg]
 by_cases z:dget s.there n=none
 .rw [Bf z]
  have ld:(dput s.there n ⟨w,n,(s.stamp:Int)⟩).length=s.there.length+1:=by
   have:=congrArg List.length (gk (L:=s.there) (n:=n) (b:=(⟨w,n,(s.stamp:Int)⟩:En N)))
   rw [Bc (dget_none.mp z),Bi,Bh,Bh] at this
   exact this
  rw [ld,show ((s.row.length+1:Nat):Int)-((s.there.length+1:Nat):Int)=(s.row.length:Int)-s.there.length by lia]
  lia
 rw [Bc z]
 have ld:(dput s.there n ⟨w,n,(s.stamp:Int)⟩).length=s.there.length:=by
  have:=congrArg List.length (gk (L:=s.there) (n:=n) (b:=(⟨w,n,(s.stamp:Int)⟩:En N)))
  rw [Bf (Decidable.not_not.mp fun y=>z (dget_none.mpr y)),Bh,Bh] at this
  exact this
 rw [ld,show ((s.row.length+1:Nat):Int)-(s.there.length:Int)=((s.row.length:Int)-s.there.length)+1 by lia,e]
 lia
theorem qy {β:Type}{n:N}:∀{L:List (N×β)},(L.map (·.1)).Nodup->L.length<=(ddel L n).length+1
 | [],_=>BK _
 | p::r,nd=>by
  rw [BA,BP] at nd
  unfold ddel
  rw [BO]
  by_cases z:p.1=n
  .rw [Bc (by simp [z]),List.filter_eq_self.mpr]
   .exact A9 _
   .intro q hq
    exact Bb fun e=>nd.1 (BF.mpr ⟨q,hq,e.trans z.symm⟩)
  .rw [Bf (Bb z),Bj,Bj]
   have:=qy (n:=n) nd.2
   unfold ddel at this
   lia
theorem ddel_one {s:LS N}(I:LInv sl s){n:N}:s.there.length<=(ddel s.there n).length+1:=qy I.nd
theorem drop_pot {s:LS N}(I:LInv sl s){n:N}{b:Nat}:pot b (dropT s n)<=pot b s+(2*b+2):=by
 have l:=ddel_one I (n:=n)
 unfold pot dropT
 dsimp only
 have:=mul_up (a:=2*b+2) (x:=(s.row.length:Int)-(ddel s.there n).length) (y:=(s.row.length:Int)-s.there.length+1) AX AX
 rw [Ge,Fg] at this
 lia
theorem cut_pot {s:LS N}{b:Nat}(h:s.row.length<=2 ^ b)(h0:0<s.row.length):pot b (cut sl s)+2<=pot b s:=by
 have lk:=nX (lt:=ltE sl) (xs:=s.row)
 have lg:=ud h
 unfold pot cut
 dsimp only
 rw [cutf_len]
 have e:((s.row.length-1:Nat):Int)-(s.there.length:Int)=((s.row.length:Int)-s.there.length)+-1:=by lia
 rw [e,Ge,Int.mul_neg,Fg]
 lia
theorem clean_pot (o:Slo sl){b:Nat}:∀{f:Nat} {s:LS N},LInv sl s->s.there≠[]->s.row.length<=2 ^ b->pot b (clean sl f s)<=pot b s
 | 0,s,_,_,_=>Gk _
 | f+1,s,I,h,hb=>by
  unfold clean
  have h0:=row_pos I h
  split
  .exact Gk _
  .rename_i hh
   have c:=clean_pot o (f:=f) (b:=b) (cut_inv o I h0 hh) h (by show (cutf (ltE sl) s.row).1.length<=_;rw [cutf_len];lia)
   have:=cut_pot (sl:=sl) hb h0
   lia
end
end Gm
namespace L2
open PySem
def lS (b:Nat):Deed->Int
 | .put _ _=>3*b+5
 | .drop _=>3*b+5
 | .change _ _=>2*(3*b+5)
 | .take=>3*b+5
 | .least=>0
def sx:Deed->Nat
 | .put _ _=>1
 | .change _ _=>1
 | _=>0
theorem tp {s:LS}(I:Gm.LInv slt s){d:Deed}(f:d.fit s){b:Nat}(h:s.row.length+sx d<=2 ^ b):Gm.pot b (ay s d).1<=Gm.pot b s+lS b d:=by
 have nn:∀{n:Str},Gm.dget s.there n≠none->(Gm.dget s.there n).isSome=true:=fun {n} h=>by
  cases y:Gm.dget s.there n with
  | none=>exact absurd y h
  | some _=>rfl
 cases d with
 | put n w =>
  have f':Gm.dget s.there n=none:=f
  have e:(ay s (.put n w)).1=Gm.putL slt s n w:=by unfold ay;dsimp only;rw [f'];rfl
  rw [e]
  have h1:=Gm.sweep_pot (b:=b) (Gm.enter_inv slt_slo I (n:=n) (w:=w))
  have h2:=Gm.enter_pot (sl:=slt) (n:=n) (w:=w) (s:=s) (b:=b) h
  rw [Bf f'] at h2
  have e2:lS b (.put n w)=3*b+5:=rfl
  unfold Gm.putL
  lia
 | drop n =>
  have e:(ay s (.drop n)).1=Gm.dropL slt s n:=by unfold ay;dsimp only;rw [Bf (nn f)]
  rw [e]
  have h1:=Gm.sweep_pot (b:=b) (Gm.drop_inv I (n:=n))
  have h2:=Gm.drop_pot I (n:=n) (b:=b)
  have e2:lS b (.drop n)=3*b+5:=rfl
  unfold Gm.dropL
  lia
 | change n w =>
  have e:(ay s (.change n w)).1=Gm.putL slt s n w:=by unfold ay;dsimp only;rw [Bf (nn f)]
  rw [e]
  have h1:=Gm.sweep_pot (b:=b) (Gm.enter_inv slt_slo I (n:=n) (w:=w))
  have h2:=Gm.enter_pot (sl:=slt) (n:=n) (w:=w) (s:=s) (b:=b) h
  rw [Bc f] at h2
  have e2:lS b (.change n w)=2*(3*b+5):=rfl
  unfold Gm.putL
  lia
 | take =>
  have f':s.there≠[]:=f
  have e:(ay s .take).1=Gm.takeL slt s:=by unfold ay;dsimp only;rw [Bc f']
  rw [e]
  have c:=Gm.least_ok slt_slo I f'
  have ll:(Gm.leastL slt s).row.length<=s.row.length:=Gm.least_len
  have h':s.row.length<=2 ^ b:=h
  have h0:=Gm.clean_pot slt_slo (b:=b) (f:=s.row.length) I f' h'
  have h1:=Gm.cut_pot (sl:=slt) (b:=b) (s:=Gm.leastL slt s) AX c.pos
  have h2:=Gm.sweep_pot (b:=b) (Gm.cut_take_inv slt_slo c.inv c.pos)
  have h3:Gm.pot b (Gm.dropT (Gm.cut slt (Gm.leastL slt s)) (Hg.g (Gm.leastL slt s).row 0).n)<=Gm.pot b (Gm.cut slt (Gm.leastL slt s))+(2*b+2):=by
   have l:=Gm.ddel_one (s:=Gm.leastL slt s) c.inv (n:=(Hg.g (Gm.leastL slt s).row 0).n)
   unfold Gm.pot Gm.dropT
   dsimp only
   have e3:(Gm.cut slt (Gm.leastL slt s)).there=(Gm.leastL slt s).there:=rfl
   rw [e3]
   have:=Gm.mul_up (a:=2*b+2) (x:=((Gm.cut slt (Gm.leastL slt s)).row.length:Int)-(Gm.ddel (Gm.leastL slt s).there (Hg.g (Gm.leastL slt s).row 0).n).length) (y:=((Gm.cut slt (Gm.leastL slt s)).row.length:Int)-(Gm.leastL slt s).there.length+1) AX AX
   rw [Ge,Fg] at this
   lia
  have e2:lS b .take=3*b+5:=rfl
  have e4:Gm.leastL slt s=Gm.clean slt s.row.length s:=rfl
  unfold Gm.takeL
  rw [e4] at h1 h2 h3 ⊢
  lia
 | least =>
  have f':s.there≠[]:=f
  have e:(ay s .least).1=Gm.leastL slt s:=by unfold ay;dsimp only;rw [Bc f']
  rw [e]
  have h':s.row.length<=2 ^ b:=h
  have h0:=Gm.clean_pot slt_slo (b:=b) (f:=s.row.length) I f' h'
  have e2:lS b .least=0:=rfl
  have e4:Gm.leastL slt s=Gm.clean slt s.row.length s:=rfl
  rw [e4]
  lia
end L2
namespace L2
open PySem PySem.W PySem.Spec PySem.Calls PyProof.Rows
section
variable {X:Cx}
def yD (t:TS):TS:=fun D Z H=>∃ J:St->Hp->Prop,t { D with nx:=J } Z H/\∀σ' H',J σ' H'->D.nx σ' H'
theorem sU {t:TS}(h:QS X st t):QS X st (yD t):=.mk (by
 have h:=h.to
 intro pins s Z H D I ⟨J,h1,j⟩
 refine thn (h pins s Z H { D with nx:=J } I h1) fun f s' q=>?_
 cases f with
 | next=>obtain ⟨σ',H',I',z⟩:=q;exact ⟨σ',H',I',j _ _ z⟩
 | ret v=>exact q
 | brk=>exact q
 | cont=>exact q)
end
end L2
namespace L2
open PySem PySem.W
def Df (K:Frag)(x:Str)(st:Stmt)(f:Addr):Prop:=nsIn K mainGlobals x=some (some (.ref f))/\∃ fd,Fun K x x st f fd
def Mt (K:Frag)(C:Addr)(x q:Str)(st:Stmt)(f:Addr):Prop:=findIn K (.ref C) x=some (some (.ref f))/\isFn K (.ref f)=true/\∃ fd,Fun K x q st f fd
def Bs (K:Frag)(C:Addr)(x q:Str)(st:Stmt)(f:Addr):Prop:=findCls K (.ref C) (.type "type") x=some (.val (.ref f))/\∃ fd,Fun K x q st f fd
section
variable {K:Frag}{C f:Addr}{x q:Str}{st:Stmt}{fd:FuncData}{oc kV dc pm cd ct:Value}{od an:Option Addr}{sl:Array (Option Value)}
theorem dfI (a:nsIn K mainGlobals x=some (some (.ref f)))(l:K.lookup f=some ⟨oc,od,.func (fnOf x x (bW st) (bA st) (ao st) .none kV dc pm an cd ct),sl⟩)(c:codeIn K cd x=true)(k:keepIn K (.ref f)=true):Df K x st f:=⟨a,_,kF l c k⟩
theorem mtI (a:findIn K (.ref C) x=some (some (.ref f)))(i:isFn K (.ref f)=true)(l:K.lookup f=some ⟨oc,od,.func (fnOf x q (bW st) (bA st) (ao st) .none kV dc pm an cd ct),sl⟩)(c:codeIn K cd q=true)(k:keepIn K (.ref f)=true):Mt K C x q st f:=⟨a,i,_,kF l c k⟩
theorem bsI (a:findCls K (.ref C) (.type "type") x=some (.val (.ref f)))(l:K.lookup f=some ⟨oc,od,.func (fnOf x q (bW st) (bA st) (ao st) .none kV dc pm an cd ct),sl⟩)(c:codeIn K cd q=true)(k:keepIn K (.ref f)=true):Bs K C x q st f:=⟨a,_,kF l c k⟩
def Bd (x q:Str)(st:Stmt)(ps:List Str):Prop:=∀(kV doc pm:Value) (an:Option Addr) (cdv ct:Value) (us:List Value),us.length=ps.length->bindArgs (fnOf x q (bW st) (bA st) (ao st) .none kV doc pm an cdv ct) ⟨us,[]⟩=pure (ps.zip us)
theorem ln1 {P:List Value->Prop}(h:∀a,P [a])(us:List Value)(hl:us.length=1):P us:=by
 obtain ⟨a,rfl⟩:=Fw.mp hl
 exact h a
theorem lnS {P:List Value->Prop}(h:∀a (us:List Value),us.length=n->P (a::us))(us:List Value)(hl:us.length=n+1):P us:=by
 cases us with
 | nil=>cases hl
 | cons a us=>exact h a us (FJ hl)
theorem Df.get (d:Df K x st f)(X:K.In h)(G:h.Ns mainGlobals mg)(ps:List Str)(b:Bd x x st ps:=by first | exact (fun _ _ _ _ _ _=>ln1 fun _=>rfl) | exact (fun _ _ _ _ _ _=>lnS fun _=>ln1 fun _=>rfl) | exact (fun _ _ _ _ _ _=>lnS fun _=>lnS fun _=>ln1 fun _=>rfl) | exact (fun _ _ _ _ _ _=>lnS fun _=>lnS fun _=>lnS fun _=>ln1 fun _=>rfl)):
  ∃ fd,Fun K x x st f fd/\Nm K mg x f fd ps:=by
 obtain ⟨a,fd,F⟩:=d
 exact ⟨fd,F,mg_of X G a,F.kp,F.binds b⟩
theorem Mt.get (d:Mt K C x q st f)(ps:List Str)(b:Bd x q st ps:=by first | exact (fun _ _ _ _ _ _=>ln1 fun _=>rfl) | exact (fun _ _ _ _ _ _=>lnS fun _=>ln1 fun _=>rfl) | exact (fun _ _ _ _ _ _=>lnS fun _=>lnS fun _=>ln1 fun _=>rfl) | exact (fun _ _ _ _ _ _=>lnS fun _=>lnS fun _=>lnS fun _=>ln1 fun _=>rfl)):
  ∃ fd,Fun K x q st f fd/\Binds K fd ps []/\bx K C x f:=by
 obtain ⟨a,i,fd,F⟩:=d
 exact ⟨fd,F,F.binds b,a,i,F.kp⟩
theorem Bs.get (d:Bs K C x q st f)(ps:List Str)(ga:specialIn K (.ref C) "__getattribute__"=some (some (.builtin "type.__getattribute__")))(rd:readsIn K C (.type "type")=true)(b:Bd x q st ps:=by first | exact (fun _ _ _ _ _ _=>ln1 fun _=>rfl) | exact (fun _ _ _ _ _ _=>lnS fun _=>ln1 fun _=>rfl) | exact (fun _ _ _ _ _ _=>lnS fun _=>lnS fun _=>ln1 fun _=>rfl)):
  ∃ fd,Fun K x q st f fd/\Binds K fd ps []/\yQ K C (.type "type") x f:=by
 obtain ⟨a,fd,F⟩:=d
 exact ⟨fd,F,F.binds b,ga,rd,a,F.kp⟩
end
end L2
namespace L2
open PySem
theorem Room.mo {a b:Nat}(h:Room b A)(hk:a<=b:=by decide):Room a A:=h.mono hk
theorem qst {e:Expr}(i:Nat)(hN:X.N.Nodup)(he:QE X e te)(hi:X.N[i]?=some x:=by rfl)(hx:Loc X.env.scope x:=by exact Or.inl rfl)(hs:swapsWith e (some (.Name x pos')) pos.line X.env=pure false:=by rfl)(hf:X.fn x=true∨X.env.scope.names.lookup x=some .local:=by first | exact .inl rfl | exact .inr rfl | assumption):QS X (.Assign [.Name x pos'] e pos) (wD te (dE i)):=uu hN hi hx he hs hf
section
variable {X:Cx}{e:Expr}{es:List Expr}{pos p:Pos}{x:Str}{t:TA}
theorem qcl {CX:CXT}{k k':Nat}{E:XK}(F:av X.prog X.w X.K X.mg X.base CX k f fd ps sp)(hr:Room k' X.A)(D:Nm X.K X.mg x f fd ps)(hx:cj CX X E)(ha:QA X (e::es) t)(hk:k<=k':=by decide)(hg:Gl X x:=by rfl)(hdb:(x == ("__debug__":Str))=false:=by decide)(he:starEach (e::es) X.env=(false,eval e X.env)::starEach es X.env:=by rfl)(hpl:(backTo pos (starEach es X.env)).any (·.1)=false:=by rfl):QE X (.Call (.Name x p) (e::es) [] pos) (tf sp [] E t):=xO F (hr.mono hk) hg D.m D.k D.b .nil hx ha hdb he hpl
theorem qcB {id:String}(hc:cf X (.builtin id) r)(hm:X.mg x=none)(ha:QA X (e::es) t)(hg:Gl X x:=by rfl)(hv:bootBuiltins x=some (.builtin id):=by decide +kernel)(hn:x≠"__name__":=by decide)(hdb:(x == ("__debug__":Str))=false:=by decide)(he:starEach (e::es) X.env=(false,eval e X.env)::starEach es X.env:=by rfl)(hpl:(backTo pos (starEach es X.env)).any (·.1)=false:=by rfl):QE X (.Call (.Name x p) (e::es) [] pos) (tCB r t):=sM hc hg hm hv ha hn hdb he hpl
theorem qcT {T:String}(hc:cf X (.type T) r)(hm:X.mg x=none)(ha:QA X (e::es) t)(hg:Gl X x:=by rfl)(hv:bootBuiltins x=some (.type T):=by decide +kernel)(hn:x≠"__name__":=by decide)(hdb:(x == ("__debug__":Str))=false:=by decide)(he:starEach (e::es) X.env=(false,eval e X.env)::starEach es X.env:=by rfl)(hpl:(backTo pos (starEach es X.env)).any (·.1)=false:=by rfl):QE X (.Call (.Name x p) (e::es) [] pos) (tCB r t):=qK hc hg hm hv ha hn hdb he hpl
end
theorem pix {b:Expr}(h:∀o i,subscripted b false o i=operate [o,i] (getItem o i):=by exact fun _ _=>rfl):∀o i,subscripted b false o i=operate [o,i] (getItem o i):=h
theorem Ad {P:List Value->Prop}(h:∀a,P [a])(us:List Value)(hl:us.length=1):P us:=by
  obtain ⟨a,rfl⟩:=Fw.mp hl
  exact h a
theorem Ao {P:List Value->Prop}(h:∀a b,P [a,b])(us:List Value)(hl:us.length=2):P us:=by
  cases us with
  | nil=>cases hl
  | cons a us=>exact Ad (P:=fun t=>P (a::t)) (h a) us (FJ hl)
theorem zB {P:List Value->Prop}(h:∀a b c,P [a,b,c])(us:List Value)(hl:us.length=3):P us:=by
  cases us with
  | nil=>cases hl
  | cons a us=>exact Ao (P:=fun t=>P (a::t)) (h a) us (FJ hl)
theorem AJ {P:List Value->Prop}(h:∀a b c d,P [a,b,c,d])(us:List Value)(hl:us.length=4):P us:=by
  cases us with
  | nil=>cases hl
  | cons a us=>exact zB (P:=fun t=>P (a::t)) (h a) us (FJ hl)
theorem Fun.bi (F:Fun K x qual st f fd)(ps:List Str)(h:∀(kV doc pm:Value) (an:Option Addr) (cdv ct:Value) (us:List Value),us.length=ps.length->bindArgs (W.fnOf x qual (bW st) (bA st) (ao st) .none kV doc pm an cdv ct) ⟨us,[]⟩=pure (ps.zip us):=by first | exact (fun _ _ _ _ _ _=>Ad fun _=>rfl) | exact (fun _ _ _ _ _ _=>Ao fun _ _=>rfl) | exact (fun _ _ _ _ _ _=>zB fun _ _ _=>rfl) | exact (fun _ _ _ _ _ _=>AJ fun _ _ _ _=>rfl)):Binds K fd ps []:=F.binds h
end L2
namespace Kx
open PySem L2
def top (i:Nat):Stmt:=PySem.Challenge.pw_lategone_k35_desk_heaps.main.body.getD i (.Pass ⟨0,0,0,0⟩)
section
variable {P:Program}{w:World}{K:W.Frag}{mg:Str->Option Value}{base:Heap}
open Hm
def cQ (z u:Str)(m:Int):Bool:=decide (1<=z.length)&&decide ((z.length:Int)<=m)&&z.cps.toList.all fun c=>!(PySem.Builtin.Str.occurrences u (sgn c) 0 u.length 1).isEmpty
abbrev gR:Stmt:=top 28
theorem kR:au ["word","signs","most"] ["word","signs","most"] (ao gR):=fs0
def hZ:Sp:=fun vs H Q _=>∃ (z u:Str) (m:Int),vs=[.str z,.str u,.int m]/\z.cps.all (·<128)=true/\z.length<=1000/\∀H',Same H H'->Q (.bl (cQ z u m)) H'
theorem rn (F:Fun K "made_of" "made_of" gR f fd)(T:Bl mg)(z_all:mg "all"=none):
  av P w K mg base CX0 1 f fd ["word","signs","most"] hZ:=by
 have sc:=kR
 refine F.okQ kR fun cdv A outer s H vs Q E hr h=>?_
 obtain ⟨z,u,m,rfl,ha,hz,k⟩:=h
 have hu:=hr.units0
 refine ⟨_,(aj (aA (vO (vQ vk vk af (qcB ff T.z_len (aa (qv 0) ag)) (qv 2)) (uK (qcB (qQ rfl) z_all (aa (dU (Blk.of (N:=["word","signs","most"]) (esc:=ao gR) (NB:=["signs"]) (cap:=[1]) rfl rfl (fun y hy=>bM hy) rfl AV AV AV rfl AV rfl AV) rfl rfl (yR (qv 0)) (fun C fp s₀ H₀=>dR) (fun C fp s₀ H₀=>(eA vy (qv 0) (qv 1) rfl))) ag)))))),?_⟩
 have no:∀b:Bool,(decide (1<=z.length)&&decide ((z.length:Int)<=m))=false->b=false->Q (.bl b) H:=fun b e1 e2=>by
  have:=k H (Same.refl H)
  unfold cQ at this
  rw [e1,Bool.false_and] at this
  rw [e2]
  exact this
 refine ⟨_,rfl,z,rfl,DJ (aY AX),_,_,rfl,rfl,_,rfl,aO (fun c1=>?_) (fun c1=>?_)⟩
 .refine ⟨_,rfl,_,_,rfl,rfl,_,rfl,aO (fun c2=>?_) (fun c2=>?_)⟩
  .refine ⟨_,rfl,z,rfl,ha,fun D hD=>?_⟩
   refine rm (fun i ys H'=>H' D=some (.lst ys)/\ys=((z.cps.toList.take i).map fun c=>!(PySem.Builtin.Str.occurrences u (sgn c) 0 u.length 1).isEmpty).map V.bl/\Same H H') ⟨ad,rfl,aq hD⟩ (fun i ys H' q=>q.1) ?_ ?_
   .rintro i c ys H1 hc ⟨h1,ey,sm⟩
    have hi:i<z.length:=(B9.mp hc).1
    have ly:ys.length<=i:=by rw [ey,Bh,Bh,BS];lia
    refine cY <| ⟨_,rfl,_,rfl,_,_,rfl,rfl,h1,aY AX,_,AX,rfl,AX,ad,?_,fun c' v e=>?_⟩
    .rw [ey,Cz,BL,BL,FA,hc]
     rfl
    .rw [ai (fun q=>by rw [q,hD] at e;cases e)]
     exact sm c' v e
   .rintro ys H1 ⟨h1,ey,sm⟩
    rw [Ce (show z.cps.toList.length<=z.length from EM (Dm ..))] at ey
    subst ey
    refine ⟨D,_,rfl,SqL.of h1,?_⟩
    have:=k H1 sm
    unfold cQ at this
    have e1:decide (1<=z.length)=true:=Bb (by have:=Ba c1;lia)
    rw [e1,c2,D8,D8] at this
    rw [List.all_map]
    exact this
  .exact no _ (by rw [FK];exact .inr (by simpa using c2)) rfl
 exact ⟨_,rfl,no _ (by rw [FK];refine .inl (Br fun q=>c1 (Bb AX))) rfl⟩
abbrev kl:Stmt:=top 26
theorem lD:au ["word"] ["word"] (ao kl):=fs0
def jM (z:Str):Bool:=cQ z "abcdefghijklmnopqrstuvwxyz" 8
def mH:Sp:=fun vs H Q _=>∃ z:Str,vs=[.str z]/\z.cps.all (·<128)=true/\z.length<=1000/\∀H',Same H H'->Q (.bl (jM z)) H'
theorem rj {tL:Tok}(F:Fun K "is_name" "is_name" kl f fd)(T:Bl mg)(mLETTERS:mg "LETTERS"=some (.str "abcdefghijklmnopqrstuvwxyz" tL))(Gmade_of:av P w K mg base CX0 1 fn fdn ["word","signs","most"] hZ)(Dmade_of:Nm K mg "made_of" fn fdn ["word","signs","most"]):
  av P w K mg base CX0 2 f fd ["word"] mH:=by
 have sc:=lD
 refine F.okQ lD fun cdv A outer s H vs Q E hr h=>?_
 obtain ⟨z,rfl,ha,hz,k⟩:=h
 have hu:=hr.units0
 refine ⟨_,(aj (aA (qcl Gmade_of hr Dmade_of aG (aa (qv 0) (aa (gY (v:=.str "abcdefghijklmnopqrstuvwxyz") rfl mLETTERS ⟨tL,rfl⟩) (aa af ag)))))),?_⟩
 exact ⟨_,rfl,z,_,_,rfl,ha,hz,k⟩
def iG (z:Str):Str:=if (decide (0+("-":Str).length<=z.length)&&PySem.Builtin.Str.subAt z "-" 0)=true then PySem.Txt.slice z (some 1) none else z
abbrev fV:Stmt:=top 27
theorem im:au ["word","figures"] ["word"] (ao fV):=fs0
def iR:Sp:=fun vs H Q _=>∃ z:Str,vs=[.str z]/\(iG z).cps.all (·<128)=true/\z.length<=640 /\
 (cQ (iG z) "0123456789" 30=true->∃ n:Int,PySem.intText? z=some n/\n.natAbs.log2<1920/\∀H',Same H H'->Q (.bl (decide (z=toString n))) H') /\
 (cQ (iG z) "0123456789" 30=false->∀H',Same H H'->Q (.bl false) H')
theorem mj {tF:Tok}(F:Fun K "is_number" "is_number" fV f fd)(T:Bl mg)(z_str:mg "str"=none)(mFIGURES:mg "FIGURES"=some (.str "0123456789" tF))(Gmade_of:av P w K mg base CX0 1 fn fdn ["word","signs","most"] hZ)(Dmade_of:Nm K mg "made_of" fn fdn ["word","signs","most"]):
  av P w K mg base CX0 2 f fd ["word"] iR:=by
 have sc:=im
 refine F.okQ im fun cdv A outer s H vs Q E hr h=>?_
 obtain ⟨z,rfl,ha,hz,k1,k2⟩:=h
 have hu:=hr.units0
 refine ⟨_,(ac (qst 1 sc.nd (tY (bY (jm Fx PySem.F.slot_str_startswith PySem.F.type_str_startswith rL (qv 0) (aa ar ag))) (cT zc (qv 0) (dY af) eu) (qv 0)))
  (aj (aA (vO (qcl Gmade_of hr Dmade_of aG (aa (qv 1) (aa (gY (v:=.str "0123456789") rfl mFIGURES ⟨tF,rfl⟩) (aa af ag)))) (uK (eA bz (qv 0) (qcT bp z_str (aa (qcT jq T.z_int (aa (qv 0) ag)) ag)) (aE _))))))),?_⟩
 refine ⟨_,rfl,rfl,z,_,rfl,rfl,_,rfl,aO (fun c=>?_) (fun c=>?_)⟩
 .have ey:iG z=PySem.Txt.slice z (some 1) none:=Bf c
  refine ⟨_,rfl,_,rfl,z,rfl,DJ (aY AX),?_⟩
  rw [ey] at ha k1 k2
  refine ⟨_,rfl,_,_,_,rfl,ha,A0 (ES z _ _) AX,fun H1 s1=>⟨_,rfl,aO (fun m1=>?_) (fun m1=>?_)⟩⟩
  .obtain ⟨n,en,ln,k⟩:=k1 m1
   refine ⟨_,rfl,_,rfl,z,n,rfl,en,hz,.inl ⟨n,rfl,ln,rfl,?_⟩⟩
   have:=k H1 s1
   have e:decide (V.str z=V.str (Str.ofString (toString n)))=decide (z=Str.ofString (toString n)):=decide_eq_decide.mpr ⟨fun q=>V.str.inj q,fun q=>by rw [q]⟩
   rw [e]
   exact this
  .exact k2 (by simpa using m1) H1 s1
 have ey:iG z=z:=Bc c
 refine ⟨_,rfl,?_⟩
 rw [ey] at ha k1 k2
 refine ⟨_,rfl,_,_,_,rfl,ha,AX,fun H1 s1=>⟨_,rfl,aO (fun m1=>?_) (fun m1=>?_)⟩⟩
 .obtain ⟨n,en,ln,k⟩:=k1 m1
  refine ⟨_,rfl,_,rfl,z,n,rfl,en,hz,.inl ⟨n,rfl,ln,rfl,?_⟩⟩
  have:=k H1 s1
  have e:decide (V.str z=V.str (Str.ofString (toString n)))=decide (z=Str.ofString (toString n)):=decide_eq_decide.mpr ⟨fun q=>V.str.inj q,fun q=>by rw [q]⟩
  rw [e]
  exact this
 exact k2 (by simpa using m1) H1 s1
structure uR (z:Str)(n:Int):Prop where
 asc:(iG z).cps.all (·<128)=true
 len:z.length<=640
 made:cQ (iG z) "0123456789" 30=true
 val:PySem.intText? z=some n
 log:n.natAbs.log2<1920
 eq:z=Str.ofString (toString n)
abbrev j7:Stmt:=top 32
theorem lu:au ["word"] ["word"] (ao j7):=fs0
def hV:Sp:=fun vs H Q _=>∃ (z:Str) (n:Int),vs=[.str z]/\uR z n/\∀H',Same H H'->Q (.int n) H'
theorem rq (F:Fun K "number" "number" j7 f fd)(T:Bl mg)(Gis_number:av P w K mg base CX0 2 fn fdn ["word"] iR)(Dis_number:Nm K mg "is_number" fn fdn ["word"]):
  av P w K mg base CX0 3 f fd ["word"] hV:=by
 have sc:=lu
 refine F.okQ lu fun cdv A outer s H vs Q E hr h=>?_
 obtain ⟨z,n,rfl,N,k⟩:=h
 have hu:=hr.units0
 refine ⟨_,(ac (aR (cI (bY (qcl Gis_number hr Dis_number aG (aa (qv 0) ag)))) (aj cH) aB)
  (aj (aA (qcT jq T.z_int (aa (qv 0) ag))))),?_⟩
 refine ⟨_,rfl,z,rfl,N.asc,N.len,fun _=>⟨n,N.val,N.log,fun H1 s1=>?_⟩,fun q=>absurd (N.made.symm.trans q) AW⟩
 have e:decide (z=Str.ofString (toString n))=true:=Bb N.eq
 rw [e]
 refine ⟨_,rfl,aO (fun c=>nomatch c) (fun _=>?_)⟩
 exact ⟨_,rfl,z,n,rfl,N.val,N.len,k H1 s1⟩
abbrev hJ:Stmt:=top 33
theorem jz:au ["word","many"] ["word"] (ao hJ):=fs0
def jh:Sp:=fun vs H Q _=>∃ (z:Str) (n:Int),vs=[.str z]/\uR z n/\0<=n/\∀H',Same H H'->Q (.int n) H'
theorem nR (F:Fun K "counted" "counted" hJ f fd)(T:Bl mg)(Gnumber:av P w K mg base CX0 3 fn fdn ["word"] hV)(Dnumber:Nm K mg "number" fn fdn ["word"]):
  av P w K mg base CX0 4 f fd ["word"] jh:=by
 have sc:=jz
 refine F.okQ jz fun cdv A outer s H vs Q E hr h=>?_
 obtain ⟨z,n,rfl,N,n0,k⟩:=h
 have hu:=hr.units0
 refine ⟨_,(ac (qst 1 sc.nd (qcl Gnumber hr Dnumber aG (aa (qv 0) ag)))
  (ac (aR (aw dq (qv 1) af (aE _)) (aj cH) aB)
  (aj (aA (qv 1))))),?_⟩
 refine ⟨_,rfl,z,n,rfl,N,fun H1 s1=>?_⟩
 refine ⟨_,rfl,_,_,rfl,rfl,_,rfl,aO (fun c=>?_) (fun _=>?_)⟩
 .have:=Ba c
  lia
 exact ⟨_,rfl,k H1 s1⟩
structure DK (K:W.Frag)(C:Addr):Prop where
 cl:Cls K C
 hp:NoAttr K C "heaps"
 jn:NoAttr K C "joined"
inductive cK (ks:List (Key×V)):Str->Str->V->Prop
 | word {z:Str}:cK ks "word" z (.str z)
 | number {z:Str} {n:Int}:uR z n->cK ks "number" z (.int n)
 | count {z:Str} {n:Int}:uR z n->0<=n->cK ks "count" z (.int n)
 | name {z:Str}:z.cps.all (·<128)=true->z.length<=1000->jM z=true->cK ks "name" z (.str z)
 | heap {z:Str}:z.cps.all (·<128)=true->z.length<=1000->jM z=true->(aX ks (Sum.inr z)).isSome=true->cK ks "heap" z (.str z)
abbrev nN:Stmt:=aV (top 31) 7
theorem qA:au ["self","kind","word"] ["self","kind","word"] (ao nN):=fs0
def pk (C:Addr):Sp:=fun vs H Q _=>∃ (p dx d:Addr) (fs:List (Str×V)) (ks:List (Key×V)) (kind z:Str) (v:V),vs=[.ref p,.str kind,.str z]/\H p=some (.ins C dx fs)/\fs.lookup ("heaps":Str)=some (.ref d)/\H d=some (.dK ks)/\cK ks kind z v/\∀H',Same H H'->Q v H'
theorem uS {f1 f2 f3:Addr}{fd1 fd2 fd3:FuncData}(F:Fun K "meant" "Desk.meant" nN f fd)(T:Bl mg)(L:DK K C)(Gis_name:av P w K mg base CX0 2 f1 fd1 ["word"] mH)(Dis_name:Nm K mg "is_name" f1 fd1 ["word"])(Gnumber:av P w K mg base CX0 3 f2 fd2 ["word"] hV)(Dnumber:Nm K mg "number" f2 fd2 ["word"])(Gcounted:av P w K mg base CX0 4 f3 fd3 ["word"] jh)(Dcounted:Nm K mg "counted" f3 fd3 ["word"]):
  av P w K mg base CX0 5 f fd ["self","kind","word"] (pk C):=by
 have sc:=qA
 refine F.okQ qA fun cdv A outer s H vs Q E hr h=>?_
 obtain ⟨p,dx,d,fs,ks,kind,z,v,rfl,hp,hl,hd,m,k⟩:=h
 have hu:=hr.units0
 refine ⟨_,(ac (aR (aw bz (qv 1) ar (aE _)) (aj (aA (qv 2))) aB)
  (ac (aR (aw bz (qv 1) ar (aE _)) (aj (aA (qcl Gnumber hr Dnumber aG (aa (qv 2) ag)))) aB)
  (ac (aR (aw bz (qv 1) ar (aE _)) (aj (aA (qcl Gcounted hr Dcounted aG (aa (qv 2) ag)))) aB)
  (ac (aR (cI (bY (qcl Gis_name hr Dis_name aG (aa (qv 2) ag)))) (aj cH) aB)
  (ac (aR (QW.pt (cN (aw bz (qv 1) ar (aE _)) (cb (gp (aS hr) (qv 2) (a9 (qv 0) rfl))))) (aj cH) aB)
  (aj (aA (qv 2)))))))),?_⟩
 cases m with
 | word =>
  refine ⟨_,rfl,rfl,_,rfl,aO (fun _=>?_) (fun c=>absurd (Bb rfl) c)⟩
  exact ⟨_,rfl,k H (Same.refl H)⟩
 | number N =>
  refine ⟨_,rfl,rfl,_,rfl,aO (fun c=>absurd (Ba c) AV) (fun _=>?_)⟩
  refine ⟨_,rfl,rfl,_,rfl,aO (fun _=>?_) (fun c=>absurd (Bb rfl) c)⟩
  exact ⟨_,rfl,z,_,rfl,N,k⟩
 | count N n0 =>
  refine ⟨_,rfl,rfl,_,rfl,aO (fun c=>absurd (Ba c) AV) (fun _=>?_)⟩
  refine ⟨_,rfl,rfl,_,rfl,aO (fun c=>absurd (Ba c) AV) (fun _=>?_)⟩
  refine ⟨_,rfl,rfl,_,rfl,aO (fun _=>?_) (fun c=>absurd (Bb rfl) c)⟩
  exact ⟨_,rfl,z,_,rfl,N,n0,k⟩
 | name a l i =>
  refine ⟨_,rfl,rfl,_,rfl,aO (fun c=>absurd (Ba c) AV) (fun _=>?_)⟩
  refine ⟨_,rfl,rfl,_,rfl,aO (fun c=>absurd (Ba c) AV) (fun _=>?_)⟩
  refine ⟨_,rfl,rfl,_,rfl,aO (fun c=>absurd (Ba c) AV) (fun _=>?_)⟩
  refine ⟨_,rfl,z,rfl,a,l,fun H1 s1=>?_⟩
  rw [i]
  refine ⟨_,rfl,aO (fun c=>nomatch c) (fun _=>?_)⟩
  refine ⟨_,rfl,rfl,_,rfl,aO (fun c=>absurd (Ba c) AV) (fun _=>?_)⟩
  exact bL ⟨_,rfl,k H1 s1⟩
 | heap a l i hz =>
  refine ⟨_,rfl,rfl,_,rfl,aO (fun c=>absurd (Ba c) AV) (fun _=>?_)⟩
  refine ⟨_,rfl,rfl,_,rfl,aO (fun c=>absurd (Ba c) AV) (fun _=>?_)⟩
  refine ⟨_,rfl,rfl,_,rfl,aO (fun c=>absurd (Ba c) AV) (fun _=>?_)⟩
  refine ⟨_,rfl,z,rfl,a,l,fun H1 s1=>?_⟩
  rw [i]
  refine ⟨_,rfl,aO (fun c=>nomatch c) (fun _=>?_)⟩
  refine ⟨_,rfl,rfl,_,rfl,aO (fun _=>?_) (fun c=>absurd (Bb rfl) c)⟩
  refine ⟨_,rfl,_,rfl,p,C,dx,fs,_,rfl,s1 _ _ hp,L.cl,L.hp,hl,d,_,rfl,DGet.k (k:=Sum.inr z) (s1 _ _ hd),_,rfl,?_⟩
  rw [hz]
  exact bL ⟨_,rfl,k H1 s1⟩
structure Und (K:W.Frag)(forms:List (Str×Addr))(ks:List (Key×V))(ws:List Str)(vs:List V):Prop where
 q:∃ (w0:Str) (q:Addr) (kinds:List Str),ws[0]?=some w0/\forms.lookup w0=some q/\(∀H,SqT K H q (kinds.map V.str))/\kinds.length=ws.length/\∀(i:Nat) (kd z:Str),kinds[i]?=some kd->ws[i]?=some z->∃ v,vs[i]?=some v/\cK ks kd z v
 len:vs.length=ws.length
 few:ws.length<=100
 head:∃ x,vs[0]?=some (.str x)
 join:vs[0]?=some (.str "join")->∃ a b:Str,vs[1]?=some (.str a)/\vs[2]?=some (.str b)/\a≠b
abbrev xK:Stmt:=aV (top 31) 6
theorem xR:au ["self","words","form","asked"] ["self","words"] (ao xK):=fs0
def yb (C:Addr)(forms:List (Str×Addr))(K:W.Frag):Sp:=fun vs H Q _=>∃ (p dx d wl:Addr) (fs:List (Str×V)) (ks:List (Key×V)) (ws:List Str) (vv:List V),vs=[.ref p,.ref wl]/\H p=some (.ins C dx fs)/\fs.lookup ("heaps":Str)=some (.ref d)/\fs.lookup ("meant":Str)=none/\H d=some (.dK ks)/\H wl=some (.lst (ws.map V.str))/\Und K forms ks ws vv/\∀t H',Same H H'->H' t=some (.tup vv)->Q (.ref t) H'
theorem yV {fm dF:Addr}{fdm:FuncData}(F:Fun K "understood" "Desk.understood" xK f fd)(T:Bl mg)(L:DK K C)(SF:tZ w K dF forms)(sF:(dF == sysModules)=false)(mFORMS:mg "FORMS"=some (.ref dF))(Mmeant:bx K C "meant" fm)(Gmeant:av P w K mg base CX0 5 fm fdm ["self","kind","word"] (pk C))(Bmeant:Binds K fdm ["self","kind","word"] []):
  av P w K mg base CX0 6 f fd ["self","words"] (yb C forms K):=by
 have sc:=xR
 refine F.okQ xR fun cdv A outer s H vs Q E hr h=>?_
 obtain ⟨p,dx,d,wl,fs,ks,ws,vv,rfl,hp,hl,hm,hd,hw,U,k⟩:=h
 have hu:=hr.units0
 refine ⟨_,(ac (uu (i:=2) sc.nd rfl (Or.inr rfl) (wG SF sF (gY (v:=.ref dF) rfl mFORMS rfl) (aD aK (qv 1) af pix) (bq ag) ⟨rfl,rfl,rfl,rfl⟩))
  (ac (aR (aw zL (qcB aH T.z_len (aa (qv 1) ag)) (qcB aH T.z_len (aa (qv 2) ag)) (aE _)) (aj cH) aB)
  (ac (qst 3 sc.nd (qcT cS T.z_tuple (aa (dU (Blk.of (N:=["self","words","form","asked"]) (esc:=ao xK) (NB:=["form","self","words"]) (cap:=[2,0,1]) rfl rfl (fun y hy=>bM hy) rfl AV AV AV rfl AV rfl AV) rfl rfl (cW rfl T.z_range (aa (qcB aH T.z_len (aa (qv 2) ag)) ag)) (fun C fp s₀ H₀=>dR) (fun C fp s₀ H₀=>(bd (qv 2) L.cl Mmeant Gmeant hr.mo Bmeant .nil aG (aa (aD (wJ (K:=K) rfl) (qv 1) (qv 0) pix) (aa (aD (tq (K:=K) rfl) (qv 3) (qv 0) pix) ag))))) ag)))
  (ac (aR (QW.pt (cN (aw bz (aD aI (qv 3) af pix) ar (aE _)) (cb (aw bz (aD aI (qv 3) af pix) (aD aI (qv 3) af pix) (aE _))))) (aj cH) aB)
  (aj (aA (qv 3))))))),?_⟩
 obtain ⟨⟨w0,q,kinds,e0,lk,sq,lq,mean⟩,lv,few,head,join⟩:=U
 have e0':(ws.map V.str)[0]?=some (.str w0):=by rw [BH,e0];rfl
 refine ⟨rfl,_,rfl,wl,_,_,_,rfl,rfl,SqL.of hw,aL (j:=0) e0',?_⟩
 refine ⟨sz0,fun t0 ht0=>⟨w0,rfl,?_⟩⟩
 rw [lk]
 refine gnew ht0 fun H1 s1 _=>?_
 refine ⟨_,rfl,wl,_,rfl,.inl (SqL.of (s1 _ _ hw)),_,rfl,q,_,rfl,.inr (sq H1),rfl,_,rfl,aO (fun c=>?_) (fun _=>?_)⟩
 .rw [Bh,Bh,lq,Bb rfl] at c
  cases c
 refine ⟨_,rfl,q,_,rfl,.inr (sq H1),_,rfl,by rw [Bh];lia,by rw [Bh];lia,fun D hD=>?_⟩
 refine gt (lo:=0) (n:=(kinds.map V.str).length) (fun i ys H4=>H4 D=some (.lst ys)/\ys=vv.take i/\Same H1 H4) ⟨ad,rfl,aq hD⟩ (fun i ys H4 z=>z.1) ?_ ?_
 .rintro i ys H4 hi ⟨h4,rfl,s4⟩
  have hi':i<kinds.length:=by rw [Bh] at hi;exact hi
  have hz:i<ws.length:=by lia
  obtain ⟨v,ev,mv⟩:=mean i _ _ (bt hi') (bt hz)
  have ek:(kinds.map V.str)[i]?=some (.str kinds[i]):=by rw [BH,bt hi'];rfl
  have ez:(ws.map V.str)[i]?=some (.str ws[i]):=by rw [BH,bt hz];rfl
  unfold yh
  dsimp only
  rw [Bf rfl]
  have ix:∀{l:List V} {v:V},l[i]?=some v->atI l (0+(i:Int))=some v:=fun e=>by rw [Int.zero_add];exact aL e
  have up:Same H H4:=fun c u e=>s4 c u (s1 c u e)
  refine ⟨_,rfl,p,dx,fs,rfl,up _ _ hp,hm,_,rfl,_,rfl,q,_,_,_,rfl,rfl,sq H4,ix ek,_,rfl,_,rfl,wl,_,_,_,rfl,rfl,SqL.of (up _ _ hw),ix ez,p,dx,d,fs,ks,_,_,v,rfl,up _ _ hp,hl,up _ _ hd,mv,fun H5 s5=>?_⟩
  have lt:(vv.take i).length<=i:=by rw [BS];lia
  have ln:(kinds.map V.str).length=kinds.length:=Bh ..
  refine ⟨s5 _ _ h4,aY AX,_,AX,rfl,AX,ad,?_,fun c u e=>?_⟩
  .rw [Cz,ev]
   rfl
  .rw [ai (fun z=>by rw [z,hD] at e;cases e)]
   exact s5 c u (s4 c u e)
 rintro ys H4 ⟨h4,rfl,s4⟩
 rw [Bh,lq,<-lv,Co] at h4
 refine ⟨D,vv,rfl,.inl ⟨SqL.of h4,fun t ht=>?_⟩⟩
 have g5:=ad (H:=H4) (a:=t) (o:=.tup vv)
 have s5:=aq (o:=.tup vv) ht
 generalize upd H4 t (.tup vv)=H5 at g5 s5 ⊢
 have fin:Q (.ref t) H5:=k t H5 (fun c u e=>s5 c u (s4 c u (s1 c u e))) g5
 obtain ⟨x,ex⟩:=head
 refine ⟨_,rfl,t,_,_,_,rfl,rfl,SqT.of g5,aL (j:=0) ex,rfl,_,rfl,aO (fun c=>?_) (fun c=>?_)⟩
 .have cx:=Ba c
  rw [cx] at ex
  obtain ⟨a,b,ea,eb,ne⟩:=join ex
  refine ⟨_,rfl,t,_,_,_,rfl,rfl,SqT.of g5,aL (j:=1) ea,_,rfl,t,_,_,_,rfl,rfl,SqT.of g5,aL (j:=2) eb,rfl,_,rfl,aO (fun c2=>?_) (fun _=>?_)⟩
  .exact absurd (V.str.inj (Ba c2)) ne
  .exact ⟨_,rfl,fin⟩
 exact bL ⟨_,rfl,fin⟩
def dt:V->Str
 | .int i=>Str.ofString (toString i)
 | .str z=>z
 | _=>""
def pX (v:V):Prop:=(∃ i:Int,v=.int i/\i.natAbs.log2<1920)∨∃ z:Str,v=.str z
abbrev nM:Stmt:=top 34
theorem o0:au ["pair"] ["pair"] (ao nM):=fs0
def mq (K:W.Frag):Sp:=fun vs H Q _=>∃ (p:Addr) (x y:V) (zs:List V),vs=[.ref p]/\SqT K H p (x::y::zs)/\pX x/\pX y/\(dt x).length<=700/\(dt y).length<=700/\Q (.str (dt x++" "++dt y)) H
theorem qZ (F:Fun K "shown" "shown" nM f fd)(T:Bl mg)(z_str:mg "str"=none):
  av P w K mg base CX0 1 f fd ["pair"] (mq K):=by
 have sc:=o0
 refine F.okQ o0 fun cdv A outer s H vs Q E hr h=>?_
 obtain ⟨p,x,y,zs,rfl,hp,tx,ty,lx,ly,k⟩:=h
 have hu:=hr.units0
 refine ⟨_,(aj (aA (ap bf (ap bf (qcT bp z_str (aa (aD aI (qv 0) af pix) ag)) ar) (qcT bp z_str (aa (aD aI (qv 0) af pix) ag))))),?_⟩
 have l1:(" ":Str).length=1:=by decide +kernel
 have S:1401<=sizeLine:=by decide
 refine ⟨_,rfl,p,_,_,_,rfl,rfl,hp,aL (j:=0) rfl,?_⟩
 refine tx.elim (fun ⟨i,e,l⟩=>.inl ⟨i,by rw [e],l,?_⟩) (fun ⟨z,e⟩=>.inr ⟨z,by rw [e],?_⟩) <;> subst e <;> refine ⟨_,_,rfl,rfl,?_,_,rfl,p,_,_,_,rfl,rfl,hp,aL (j:=1) rfl,ty.elim (fun ⟨i,e,l⟩=>.inl ⟨i,by rw [e],l,?_⟩) (fun ⟨z,e⟩=>.inr ⟨z,by rw [e],?_⟩)⟩
 all_goals first | (subst e;refine ⟨_,_,rfl,rfl,?_,k⟩;rw [strLen_append];simp only [dt] at lx ly;lia) | (simp only [dt] at lx;lia)
abbrev nS:Stmt:=aV (top 31) 3
theorem p4:au ["self","name","heap","joined"] ["self","name","heap","joined"] (ao nS):=fs0
def qx (C:Addr):Sp:=fun vs H Q _=>∃ (p dx d e h:Addr) (fs:List (Str×V)) (ks js:List (Key×V)) (z:Str) (j:Int),vs=[.ref p,.str z,.ref h,.int j]/\H p=some (.ins C dx fs)/\fs.lookup ("heaps":Str)=some (.ref d)/\fs.lookup ("joined":Str)=some (.ref e)/\H d=some (.dK ks)/\H e=some (.dK js)/\d≠e/\d≠p/\ks.length<1000/\js.length<1000/\Q .non (upd (upd H d (.dK (a8 ks (Sum.inr z) (.ref h)))) e (.dK (a8 js (Sum.inr z) (.int j))))
theorem tD (F:Fun K "stand" "Desk.stand" nS f fd)(T:Bl mg)(L:DK K C):
  av P w K mg base CX0 1 f fd ["self","name","heap","joined"] (qx C):=by
 have sc:=p4
 refine F.okQ p4 fun cdv A outer s H vs Q E hr h=>?_
 obtain ⟨p,dx,d,e,h,fs,ks,js,z,j,rfl,hp,hl,hj,hd,he,ne,np,l1,l2,k⟩:=h
 have hu:=hr.units0
 refine ⟨_,(ac (b9 (aS hr) (a9 (qv 0) rfl) (qv 1) (qv 2) rfl)
  (aj (b9 (aS hr) (a9 (qv 0) rfl) (qv 1) (qv 3) rfl))),?_⟩
 refine ⟨_,rfl,_,rfl,p,C,dx,fs,_,rfl,hp,L.cl,L.hp,hl,_,rfl,d,_,rfl,DPut.k (k:=Sum.inr z) hd (aY (DJ l1)),?_⟩
 exact ⟨_,rfl,_,rfl,p,C,dx,fs,_,rfl,by rw [ai (Cm np)];exact hp,L.cl,L.jn,hj,_,rfl,e,_,rfl,DPut.k (k:=Sum.inr z) (by rw [ai (Cm ne)];exact he) (aY (DJ l2)),k⟩
abbrev v7:Stmt:=top 13
theorem sO:au ["heap","place","other","held"] ["heap","place","other"] (ao v7):=fs0
def ot:Sp:=fun vs H Q _=>∃ (r:Addr) (xs:List V) (i j:Nat),vs=[.ref r,.int i,.int j]/\H r=some (.lst xs)/\i<xs.length/\j<xs.length/\Q .non (upd H r (.lst (sw xs i j)))
theorem w9 (F:Fun K "exchange" "exchange" v7 f fd)(T:Bl mg):av P w K mg base CX0 1 f fd ["heap","place","other"] ot:=by
 have sc:=sO
 refine F.ok sO fun cdv A outer s H vs Q E hr h=>?_
 obtain ⟨r,xs,i,j,rfl,hx,hi,hj,k⟩:=h
 have hu:=hr.units0
 refine ⟨_,(QSs.to (ac (qst 3 sc.nd (aD aK (qv 0) (qv 1) pix))
  (ac (gn (aD aK (qv 0) (qv 2) pix) (dv (qv 0) (qv 1) ce))
  (aj (gn (qv 3) (dv (qv 0) (qv 2) ce)))))),?_⟩
 refine ⟨_,rfl,_,rfl,r,_,_,_,rfl,rfl,SqL.of hx,gl hi,?_⟩
 refine ⟨_,rfl,_,rfl,r,_,_,_,rfl,rfl,SqL.of hx,gl hj,?_⟩
 refine ⟨_,rfl,_,rfl,r,xs,_,i,rfl,rfl,hx,cO AX AX,?_⟩
 refine ⟨_,rfl,_,rfl,_,rfl,r,_,_,j,rfl,rfl,ad,cO AX (by rw [Cn];lia),?_⟩
 rw [fP]
 exact k
abbrev tW:Stmt:=top 11
theorem tQ:au ["heap","start","place","looks","above"] ["heap","start"] (ao tW):=fs0
def vX:Sp:=fun vs H Q _=>∃ (r:Addr) (xs:List V) (a:Nat) (t:V->List V),vs=[.ref r,.int a]/\H r=some (.lst xs)/\EnG t H xs/\a<xs.length/\xs.length<=1100 /\
 ∀H',H' r=some (.lst (up (ltT t) a xs a 0).1)->(∀b o,H b=some o->b≠r->H' b=some o)->Q (.int (up (ltT t) a xs a 0).2) H'
theorem xH (F:Fun K "lift" "lift" tW f fd)(T:Bl mg)(Gexchange:av P w K mg base CX0 1 fe fde ["heap","place","other"] ot)(Dexchange:Nm K mg "exchange" fe fde ["heap","place","other"]):
  av P w K mg base CX0 2 f fd ["heap","start"] vX:=by
 have sc:=tQ
 refine F.ok tQ fun cdv A outer s H vs Q E hr h=>?_
 obtain ⟨r,xs,a,t,rfl,hx,en,ha,hl,k⟩:=h
 have hu:=hr.units0
 have hu2:=iz hr.u100
 refine ⟨_,(QSs.to (ac (qst 2 sc.nd (qv 1))
  (ac (qst 3 sc.nd af)
  (ac (cL BW (aw iu (qv 2) af (aE _)) (ac (qst 4 sc.nd (ap bc (ap bK (qv 2) af) af))
  (ac (qst 3 sc.nd (ap aQ (qv 3) af))
  (ac (aR (cI (aw (ni hu2) (aD aK (qv 0) (qv 2) pix) (aD aK (qv 0) (qv 4) pix) (aE _))) (aj (aA (qv 3))) aB)
  (ac (aJ (qcl Gexchange hr Dexchange aG (aa (qv 0) (aa (qv 2) (aa (qv 4) ag)))))
  (aj (qst 2 sc.nd (qv 4))))))))
  (aj (aA (qv 3))))))),?_⟩
 refine ⟨_,rfl,?_⟩
 refine ⟨fun m Z H2=>∃ (f p lk:Nat) (bl:Option V) (ys:List V),Z=[some (.ref r),some (.int a),some (.int p),some (.int lk),bl]/\up (ltT t) f ys p lk=up (ltT t) a xs a 0/\p<=f/\p<ys.length/\H2 r=some (.lst ys)/\ys.length=xs.length/\(∀y∈ys,y∈xs)/\(∀b o,H b=some o->b≠r->H2 b=some o)/\m=p,
  ⟨_,a,a,0,none,xs,rfl,rfl,A9 _,ha,hx,rfl,fun y h=>h,fun b o e _=>e,rfl⟩,?_⟩
 rintro p Z H2 ⟨f,p',lk,bl,ys,rfl,hd,hf,hp,h2,l2,s2,f2,rfl⟩
 have en2:EnG t H2 ys:=(en.bar hx f2).sub s2
 refine ⟨_,rfl,_,_,rfl,rfl,_,rfl,aO (fun c1=>?_) (fun c1=>⟨_,rfl,?_⟩)⟩
 rotate_left
 .have c1':¬ (p:Int)>0:=by simpa using c1
  rw [up_stop AX] at hd
  have:=k H2
  rw [<-hd] at this
  exact this h2 f2
 have c1':(p:Int)>0:=by simpa using c1
 obtain ⟨f,rfl⟩:∃ f0,f=f0+1:=⟨f-1,AX⟩
 refine ⟨fun σ' H'=>∃ m',m'<p/\∃ (f p lk:Nat) (bl:Option V) (ys:List V),σ'=[some (.ref r),some (.int a),some (.int p),some (.int lk),bl]/\up (ltT t) f ys p lk=up (ltT t) a xs a 0/\p<=f/\p<ys.length/\H' r=some (.lst ys)/\ys.length=xs.length/\(∀y∈ys,y∈xs)/\(∀b o,H b=some o->b≠r->H' b=some o)/\m'=p,fun σ' H' z=>z,?_⟩
 refine ⟨_,rfl,_,_,rfl,rfl,_,_,rfl,rfl,⟨AW,AW⟩,?_⟩
 refine ⟨_,rfl,_,_,rfl,rfl,?_⟩
 have hq:(p-1) / 2<ys.length:=by lia
 have ea:((p:Int)-1) / 2=(((p-1) / 2:Nat):Int):=by lia
 have t1:=gl hp
 have t2:=gl hq
 rw [<-ea] at t2
 refine ⟨_,rfl,_,rfl,r,_,_,_,rfl,rfl,SqL.of h2,t1,_,rfl,_,rfl,r,_,_,_,rfl,rfl,SqL.of h2,t2,t,ys,p,(p-1) / 2,en2,hp,hq,rfl,rfl,_,rfl,aO (fun c3=>?_) (fun c3=>?_)⟩
 .have q3:ltT t (g ys p) (g ys ((p-1) / 2))=false:=by
   cases q:ltT t (g ys p) (g ys ((p-1) / 2)) with
   | false=>rfl
   | true=>have c4:=(show (!ltT t (g ys p) (g ys ((p-1) / 2)))=true from c3);rw [q] at c4;cases c4
  refine ⟨_,rfl,?_⟩
  rw [up_stay AX q3] at hd
  have:=k H2
  rw [<-hd] at this
  exact this h2 f2
 have q3:ltT t (g ys p) (g ys ((p-1) / 2))=true:=by
  cases q:ltT t (g ys p) (g ys ((p-1) / 2)) with
  | true=>rfl
  | false=>exact absurd (show (!ltT t (g ys p) (g ys ((p-1) / 2)))=true by rw [q];rfl) c3
 rw [up_go AX q3] at hd
 refine ⟨_,rfl,_,rfl,_,rfl,r,ys,p,(p-1) / 2,(by show [V.ref r,V.int (p:Int),V.int (((p:Int)-1) / 2)]=[V.ref r,V.int (p:Int),V.int ((((p-1) / 2:Nat)):Int)];rw [ea]),h2,hp,hq,?_⟩
 refine ⟨_,rfl,(p-1) / 2,AX,f,(p-1) / 2,lk+1,some (.int ((((p-1) / 2:Nat)):Int)),sw ys p ((p-1) / 2),(by show [some (V.ref r),some (V.int a),some (V.int (((p:Int)-1) / 2)),some (V.int ((lk:Int)+1)),some (V.int (((p:Int)-1) / 2))]=_;rw [ea];rfl),hd,AX,by rw [aT];exact hq,ad,by rw [aT];exact l2,fun y hy=>s2 y (eR hp hq y hy),fun b o e nb=>by rw [ai nb];exact f2 b o e nb,rfl⟩
abbrev yj:Stmt:=top 8
theorem xQ:au ["heap","entry"] ["heap","entry"] (ao yj):=fs0
def qm:Sp:=fun vs H Q _=>∃ (r:Addr) (xs:List V) (e:V) (t:V->List V),vs=[.ref r,e]/\H r=some (.lst xs)/\EnG t H (xs++[e])/\xs.length<=1000 /\
 ∀H',H' r=some (.lst (up (ltT t) xs.length (xs++[e]) xs.length 0).1)->(∀b o,H b=some o->b≠r->H' b=some o)->Q (.int (up (ltT t) xs.length (xs++[e]) xs.length 0).2) H'
theorem yN (F:Fun K "lay_in" "lay_in" yj f fd)(T:Bl mg)(Glift:av P w K mg base CX0 2 fe fde ["heap","start"] vX)(Dlift:Nm K mg "lift" fe fde ["heap","start"]):
  av P w K mg base CX0 3 f fd ["heap","entry"] qm:=by
 have sc:=xQ
 refine F.ok xQ fun cdv A outer s H vs Q E hr h=>?_
 obtain ⟨r,xs,e,t,rfl,hx,en,hl,k⟩:=h
 have hu:=hr.units0
 have hu2:=iz hr.u100
 refine ⟨_,(QSs.to (ac (aJ (jm Ct Di Dj cy (qv 0) (aa (qv 1) ag)))
  (aj (aA (qcl Glift hr Dlift aG (aa (qv 0) (aa (ap bK (qcB aH T.z_len (aa (qv 0) ag)) af) ag))))))),?_⟩
 refine ⟨_,rfl,.inl ⟨rfl,_,SqL.of hx⟩,_,rfl,r,xs,e,rfl,rfl,hx,BM hl AW,?_⟩
 have l1:(xs++[e]).length=xs.length+1:=by rw [Bi];rfl
 refine ⟨_,rfl,_,rfl,r,_,rfl,.inl (SqL.of ad),_,_,rfl,rfl,r,xs++[e],xs.length,t,?_,ad,en.put hx,AX,AX,fun H' h' f'=>k H' h' fun b o q nb=>f' b o (by rw [ai nb];exact q) nb⟩
 rw [l1]
 show [V.ref r,V.int (((xs.length+1:Nat):Int)-1)]=_
 rw [show ((xs.length+1:Nat):Int)-1=(xs.length:Int) by lia]
abbrev iU:Stmt:=top 12
theorem jx:au ["heap","start","place","looks","beneath"] ["heap","start"] (ao iU):=fs0
def gh:Sp:=fun vs H Q _=>∃ (r:Addr) (xs:List V) (a:Nat) (t:V->List V),vs=[.ref r,.int a]/\H r=some (.lst xs)/\EnG t H xs/\xs.length<=1000 /\
 ∀H',H' r=some (.lst (dn (ltT t) xs.length xs a 0).1)->(∀b o,H b=some o->b≠r->H' b=some o)->Q (.int (dn (ltT t) xs.length xs a 0).2) H'
theorem oa (F:Fun K "let_down" "let_down" iU f fd)(T:Bl mg)(Gexchange:av P w K mg base CX0 1 fe fde ["heap","place","other"] ot)(Dexchange:Nm K mg "exchange" fe fde ["heap","place","other"]):
  av P w K mg base CX0 2 f fd ["heap","start"] gh:=by
 have sc:=jx
 refine F.ok jx fun cdv A outer s H vs Q E hr h=>?_
 obtain ⟨r,xs,a,t,rfl,hx,en,hl,k⟩:=h
 have hu:=hr.units0
 have hu2:=iz hr.u100
 refine ⟨_,(QSs.to (ac (qst 2 sc.nd (qv 1))
  (ac (qst 3 sc.nd af)
  (ac (cL BW (aw dq (ap aQ (ap cz af (qv 2)) af) (qcB aH T.z_len (aa (qv 0) ag)) (aE _)) (ac (qst 4 sc.nd (ap aQ (ap cz af (qv 2)) af))
  (ac (aR (aw dq (ap aQ (qv 4) af) (qcB aH T.z_len (aa (qv 0) ag)) (aE _)) (ac (qst 3 sc.nd (ap aQ (qv 3) af))
  (aj (aR (aw (ni hu2) (aD aK (qv 0) (ap aQ (qv 4) af) pix) (aD aK (qv 0) (qv 4) pix) (aE _)) (aj (qst 4 sc.nd (ap aQ (qv 4) af))) aB))) aB)
  (ac (qst 3 sc.nd (ap aQ (qv 3) af))
  (ac (aR (cI (aw (ni hu2) (aD aK (qv 0) (qv 4) pix) (aD aK (qv 0) (qv 2) pix) (aE _))) (aj (aA (qv 3))) aB)
  (ac (aJ (qcl Gexchange hr Dexchange aG (aa (qv 0) (aa (qv 2) (aa (qv 4) ag)))))
  (aj (qst 2 sc.nd (qv 4)))))))))
  (aj (aA (qv 3))))))),?_⟩
 refine ⟨_,rfl,?_⟩
 refine ⟨fun m Z H2=>∃ (f p lk:Nat) (bl:Option V) (ys:List V),Z=[some (.ref r),some (.int a),some (.int p),some (.int lk),bl]/\dn (ltT t) f ys p lk=dn (ltT t) xs.length xs a 0/\ys.length<=p+f/\H2 r=some (.lst ys)/\ys.length=xs.length/\(∀y∈ys,y∈xs)/\(∀b o,H b=some o->b≠r->H2 b=some o)/\m=ys.length-p,
  ⟨_,xs.length,a,0,none,xs,rfl,rfl,AX,hx,rfl,fun y h=>h,fun b o e _=>e,rfl⟩,?_⟩
 rintro m Z H2 ⟨f,p,lk,bl,ys,rfl,hd,hf,h2,l2,s2,f2,rfl⟩
 have en2:EnG t H2 ys:=(en.bar hx f2).sub s2
 refine ⟨_,rfl,_,_,rfl,rfl,.inl ⟨AW,AW⟩,_,_,rfl,rfl,_,rfl,r,_,rfl,.inl (SqL.of h2),_,_,rfl,rfl,_,rfl,aO (fun c1=>?_) (fun c1=>⟨_,rfl,?_⟩)⟩
 rotate_left
 .have c1':¬ 2*(p:Int)+1<(ys.length:Int):=by simpa using c1
  rw [qJ AX] at hd
  have:=k H2
  rw [<-hd] at this
  exact this h2 f2
 have c1':2*(p:Int)+1<(ys.length:Int):=by simpa using c1
 refine ⟨fun σ' H'=>∃ m',m'<ys.length-p/\∃ (f p lk:Nat) (bl:Option V) (zs:List V),σ'=[some (.ref r),some (.int a),some (.int p),some (.int lk),bl]/\dn (ltT t) f zs p lk=dn (ltT t) xs.length xs a 0/\zs.length<=p+f/\H' r=some (.lst zs)/\zs.length=xs.length/\(∀y∈zs,y∈xs)/\(∀b o,H b=some o->b≠r->H' b=some o)/\m'=zs.length-p,fun σ' H' z=>z,?_⟩
 refine ⟨_,rfl,_,_,rfl,rfl,.inl ⟨AW,AW⟩,_,_,rfl,rfl,?_⟩
 refine ⟨_,rfl,_,_,rfl,rfl,_,rfl,r,_,rfl,.inl (SqL.of h2),_,_,rfl,rfl,_,rfl,aO (fun c2=>?_) (fun c2=>?_)⟩
 .have c2':2*(p:Int)+1+1<(ys.length:Int):=by simpa using c2
  refine ⟨_,rfl,_,_,rfl,rfl,?_⟩
  have t3:=gl (show 2*p+2<ys.length by lia)
  have t4:=gl (show 2*p+1<ys.length by lia)
  rw [show ((2*p+2:Nat):Int)=2*(p:Int)+1+1 by lia] at t3
  rw [show ((2*p+1:Nat):Int)=2*(p:Int)+1 by lia] at t4
  have kidsE:kids ys.length p=2:=by unfold kids;rw [Bf AX]
  have hB2:=o3 (lt:=ltT t) (xs:=ys) (p:=p) AX
  refine ⟨_,rfl,_,rfl,_,_,rfl,rfl,r,_,_,_,rfl,rfl,SqL.of h2,t3,_,rfl,_,rfl,r,_,_,_,rfl,rfl,SqL.of h2,t4,t,ys,2*p+2,2*p+1,en2,AX,AX,rfl,rfl,_,rfl,aO (fun c4=>?_) (fun c4=>?_)⟩
  .refine ⟨_,rfl,_,_,rfl,rfl,?_⟩
   have hB:2*(p:Int)+1+1=((les (ltT t) ys p:Nat):Int):=by rw [hB2,Bf (show ltT t (g ys (2*p+2)) (g ys (2*p+1))=true from c4)]
   have hles:les (ltT t) ys p<ys.length:=cP AX
   have lo:=de (lt:=ltT t) (xs:=ys) (p:=p)
   refine ⟨_,rfl,_,_,rfl,rfl,?_⟩
   have t1:=gl hles
   have t2:=gl (show p<ys.length by lia)
   rw [<-hB] at t1
   refine ⟨_,rfl,_,rfl,r,_,_,_,rfl,rfl,SqL.of h2,t1,_,rfl,_,rfl,r,_,_,_,rfl,rfl,SqL.of h2,t2,t,ys,les (ltT t) ys p,p,en2,hles,AX,rfl,rfl,_,rfl,aO (fun c3=>?_) (fun c3=>?_)⟩
   .have q3:ltT t (g ys (les (ltT t) ys p)) (g ys p)=false:=by
     cases q:ltT t (g ys (les (ltT t) ys p)) (g ys p) with
     | false=>rfl
     | true=>have c4:=(show (!ltT t (g ys (les (ltT t) ys p)) (g ys p))=true from c3);rw [q] at c4;cases c4
    refine ⟨_,rfl,?_⟩
    obtain ⟨f,rfl⟩:∃ f0,f=f0+1:=⟨f-1,AX⟩
    rw [fy AX q3,kidsE] at hd
    have:=k H2
    rw [<-hd] at this
    have ez:((lk:Int)+1+1)=((lk+2:Nat):Int):=by lia
    show Q (.int ((lk:Int)+1+1)) H2
    rw [ez]
    exact this h2 f2
   .have q3:ltT t (g ys (les (ltT t) ys p)) (g ys p)=true:=by
     cases q:ltT t (g ys (les (ltT t) ys p)) (g ys p) with
     | true=>rfl
     | false=>exact absurd (show (!ltT t (g ys (les (ltT t) ys p)) (g ys p))=true by rw [q];rfl) c3
    obtain ⟨f,rfl⟩:∃ f0,f=f0+1:=⟨f-1,AX⟩
    rw [lV AX q3,kidsE] at hd
    refine ⟨_,rfl,_,rfl,_,rfl,r,ys,p,les (ltT t) ys p,(by show [V.ref r,V.int (p:Int),V.int (2*(p:Int)+1+1)]=_;rw [hB]),h2,AX,hles,?_⟩
    refine ⟨_,rfl,ys.length-les (ltT t) ys p,AX,f,les (ltT t) ys p,lk+2,some (.int (2*(p:Int)+1+1)),sw ys p (les (ltT t) ys p),?_,hd,by rw [aT];lia,ad,by rw [aT];exact l2,fun y hy=>s2 y (eR AX hles y hy),fun b o e nb=>by rw [ai nb];exact f2 b o e nb,by rw [aT]⟩
    have ez:((lk:Int)+1+1)=((lk+2:Nat):Int):=by lia
    show [some (V.ref r),some (V.int a),some (V.int (2*(p:Int)+1+1)),some (V.int ((lk:Int)+1+1)),some (V.int (2*(p:Int)+1+1))]=_
    rw [ez,hB]
  .have hB:2*(p:Int)+1=((les (ltT t) ys p:Nat):Int):=by rw [hB2,Bc (show ¬ ltT t (g ys (2*p+2)) (g ys (2*p+1))=true from c4)];lia
   have hles:les (ltT t) ys p<ys.length:=cP AX
   have lo:=de (lt:=ltT t) (xs:=ys) (p:=p)
   refine ⟨_,rfl,_,_,rfl,rfl,?_⟩
   have t1:=gl hles
   have t2:=gl (show p<ys.length by lia)
   rw [<-hB] at t1
   refine ⟨_,rfl,_,rfl,r,_,_,_,rfl,rfl,SqL.of h2,t1,_,rfl,_,rfl,r,_,_,_,rfl,rfl,SqL.of h2,t2,t,ys,les (ltT t) ys p,p,en2,hles,AX,rfl,rfl,_,rfl,aO (fun c3=>?_) (fun c3=>?_)⟩
   .have q3:ltT t (g ys (les (ltT t) ys p)) (g ys p)=false:=by
     cases q:ltT t (g ys (les (ltT t) ys p)) (g ys p) with
     | false=>rfl
     | true=>have c4:=(show (!ltT t (g ys (les (ltT t) ys p)) (g ys p))=true from c3);rw [q] at c4;cases c4
    refine ⟨_,rfl,?_⟩
    obtain ⟨f,rfl⟩:∃ f0,f=f0+1:=⟨f-1,AX⟩
    rw [fy AX q3,kidsE] at hd
    have:=k H2
    rw [<-hd] at this
    have ez:((lk:Int)+1+1)=((lk+2:Nat):Int):=by lia
    show Q (.int ((lk:Int)+1+1)) H2
    rw [ez]
    exact this h2 f2
   .have q3:ltT t (g ys (les (ltT t) ys p)) (g ys p)=true:=by
     cases q:ltT t (g ys (les (ltT t) ys p)) (g ys p) with
     | true=>rfl
     | false=>exact absurd (show (!ltT t (g ys (les (ltT t) ys p)) (g ys p))=true by rw [q];rfl) c3
    obtain ⟨f,rfl⟩:∃ f0,f=f0+1:=⟨f-1,AX⟩
    rw [lV AX q3,kidsE] at hd
    refine ⟨_,rfl,_,rfl,_,rfl,r,ys,p,les (ltT t) ys p,(by show [V.ref r,V.int (p:Int),V.int (2*(p:Int)+1)]=_;rw [hB]),h2,AX,hles,?_⟩
    refine ⟨_,rfl,ys.length-les (ltT t) ys p,AX,f,les (ltT t) ys p,lk+2,some (.int (2*(p:Int)+1)),sw ys p (les (ltT t) ys p),?_,hd,by rw [aT];lia,ad,by rw [aT];exact l2,fun y hy=>s2 y (eR AX hles y hy),fun b o e nb=>by rw [ai nb];exact f2 b o e nb,by rw [aT]⟩
    have ez:((lk:Int)+1+1)=((lk+2:Nat):Int):=by lia
    show [some (V.ref r),some (V.int a),some (V.int (2*(p:Int)+1)),some (V.int ((lk:Int)+1+1)),some (V.int (2*(p:Int)+1))]=_
    rw [ez,hB]
 have c2':¬ 2*(p:Int)+1+1<(ys.length:Int):=by simpa using c2
 have hB:2*(p:Int)+1=((les (ltT t) ys p:Nat):Int):=by rw [pv AX];lia
 have kidsE:kids ys.length p=1:=by unfold kids;rw [Bc AX,Bf AX]
 have hles:les (ltT t) ys p<ys.length:=cP AX
 have lo:=de (lt:=ltT t) (xs:=ys) (p:=p)
 refine ⟨_,rfl,_,_,rfl,rfl,?_⟩
 have t1:=gl hles
 have t2:=gl (show p<ys.length by lia)
 rw [<-hB] at t1
 refine ⟨_,rfl,_,rfl,r,_,_,_,rfl,rfl,SqL.of h2,t1,_,rfl,_,rfl,r,_,_,_,rfl,rfl,SqL.of h2,t2,t,ys,les (ltT t) ys p,p,en2,hles,AX,rfl,rfl,_,rfl,aO (fun c3=>?_) (fun c3=>?_)⟩
 .have q3:ltT t (g ys (les (ltT t) ys p)) (g ys p)=false:=by
   cases q:ltT t (g ys (les (ltT t) ys p)) (g ys p) with
   | false=>rfl
   | true=>have c4:=(show (!ltT t (g ys (les (ltT t) ys p)) (g ys p))=true from c3);rw [q] at c4;cases c4
  refine ⟨_,rfl,?_⟩
  obtain ⟨f,rfl⟩:∃ f0,f=f0+1:=⟨f-1,AX⟩
  rw [fy AX q3,kidsE] at hd
  have:=k H2
  rw [<-hd] at this
  have ez:((lk:Int)+1)=((lk+1:Nat):Int):=by lia
  show Q (.int ((lk:Int)+1)) H2
  rw [ez]
  exact this h2 f2
 have q3:ltT t (g ys (les (ltT t) ys p)) (g ys p)=true:=by
  cases q:ltT t (g ys (les (ltT t) ys p)) (g ys p) with
  | true=>rfl
  | false=>exact absurd (show (!ltT t (g ys (les (ltT t) ys p)) (g ys p))=true by rw [q];rfl) c3
 obtain ⟨f,rfl⟩:∃ f0,f=f0+1:=⟨f-1,AX⟩
 rw [lV AX q3,kidsE] at hd
 refine ⟨_,rfl,_,rfl,_,rfl,r,ys,p,les (ltT t) ys p,(by show [V.ref r,V.int (p:Int),V.int (2*(p:Int)+1)]=_;rw [hB]),h2,AX,hles,?_⟩
 refine ⟨_,rfl,ys.length-les (ltT t) ys p,AX,f,les (ltT t) ys p,lk+1,some (.int (2*(p:Int)+1)),sw ys p (les (ltT t) ys p),?_,hd,by rw [aT];lia,ad,by rw [aT];exact l2,fun y hy=>s2 y (eR AX hles y hy),fun b o e nb=>by rw [ai nb];exact f2 b o e nb,by rw [aT]⟩
 have ez:((lk:Int)+1)=((lk+1:Nat):Int):=by lia
 show [some (V.ref r),some (V.int a),some (V.int (2*(p:Int)+1)),some (V.int ((lk:Int)+1)),some (V.int (2*(p:Int)+1))]=_
 rw [ez,hB]
abbrev yW:Stmt:=top 9
theorem xX:au ["heap","last"] ["heap"] (ao yW):=fs0
def qg:Sp:=fun vs H Q _=>∃ (r:Addr) (xs:List V) (t:V->List V),vs=[.ref r]/\H r=some (.lst xs)/\EnG t H xs/\0<xs.length/\xs.length<=1000 /\
 ∀H',H' r=some (.lst (cutf (ltT t) xs).1)->(∀b o,H b=some o->b≠r->H' b=some o)->Q (.int (cutf (ltT t) xs).2) H'
theorem zl (F:Fun K "cut_first" "cut_first" yW f fd)(T:Bl mg)(Glet_down:av P w K mg base CX0 2 fe fde ["heap","start"] gh)(Dlet_down:Nm K mg "let_down" fe fde ["heap","start"]):
  av P w K mg base CX0 3 f fd ["heap"] qg:=by
 have sc:=xX
 refine F.ok xX fun cdv A outer s H vs Q E hr h=>?_
 obtain ⟨r,xs,t,rfl,hx,en,h0,hl,k⟩:=h
 have hu:=hr.units0
 have hu2:=iz hr.u100
 refine ⟨_,(QSs.to (ac (qst 1 sc.nd (mX Ct FL FN vJ (qv 0)))
  (ac (aR (aw bz (qcB aH T.z_len (aa (qv 0) ag)) af (aE _)) (aj (aA af)) aB)
  (ac (gn (qv 1) (dv (qv 0) af ce))
  (aj (aA (qcl Glet_down hr Dlet_down aG (aa (qv 0) (aa af ag))))))))),?_⟩
 have eg:xs[xs.length-1]?=some (g xs (xs.length-1)):=by rw [g_get AX];exact bt _
 have mg':g xs (xs.length-1)∈xs:=BC eg
 refine ⟨_,rfl,.inl ⟨rfl,_,SqL.of hx⟩,r,xs,_,rfl,rfl,hx,eg,?_⟩
 have ld:xs.dropLast.length=xs.length-1:=BU
 refine ⟨_,rfl,r,_,rfl,.inl (SqL.of ad),rfl,_,rfl,aO (fun c1=>?_) (fun c1=>?_)⟩
 .have c1':xs.dropLast.length=0:=by
   have:=Ba c1
   have:=V.int.inj this
   lia
  have ec:cutf (ltT t) xs=([],0):=cE AX
  have:=k (upd H r (.lst xs.dropLast))
  rw [ec] at this
  exact this (by rw [ad,Bx.mp c1']) fun b o e nb=>by rw [ai nb];exact e
 have c1':xs.dropLast.length≠0:=fun z=>c1 (Bb (by rw [z];rfl))
 have l2:(xs.dropLast.set 0 (g xs (xs.length-1))).length=xs.dropLast.length:=Cn
 refine ⟨_,rfl,_,rfl,r,xs.dropLast,_,0,rfl,rfl,ad,cO AX AX,?_⟩
 rw [fP]
 have ec:cutf (ltT t) xs=dn (ltT t) xs.dropLast.length (xs.dropLast.set 0 (g xs (xs.length-1))) 0 0:=by
  unfold cutf
  rw [Bc (fun z=>c1' (by rw [z];rfl))]
 refine ⟨_,rfl,r,_,0,t,rfl,ad,(en.sub fun y hy=>?_).put hx,AX,fun H' h' f'=>?_⟩
 .rcases EZ hy with z | z
  .exact (FP xs).mem z
  .rw [z];exact mg'
 rw [l2,<-ec] at h'
 rw [l2,<-ec]
 exact k H' h' fun b o e nb=>f' b o (by rw [ai nb];exact e) nb
abbrev nA:Stmt:=top 10
theorem p7:au ["heap","looks","place"] ["heap"] (ao nA):=fs0
def jD:Sp:=fun vs H Q _=>∃ (r:Addr) (xs:List V) (t:V->List V),vs=[.ref r]/\H r=some (.lst xs)/\EnG t H xs/\xs.length<=1000 /\
 ∀H',H' r=some (.lst (mk (ltT t) (xs.length / 2) xs 0).1)->(∀b o,H b=some o->b≠r->H' b=some o)->Q (.int (mk (ltT t) (xs.length / 2) xs 0).2) H'
theorem sr (F:Fun K "order" "order" nA f fd)(T:Bl mg)(Glet_down:av P w K mg base CX0 2 fn fdn ["heap","start"] gh)(Dlet_down:Nm K mg "let_down" fn fdn ["heap","start"]):
  av P w K mg base CX0 3 f fd ["heap"] jD:=by
 have sc:=p7
 refine F.ok p7 fun cdv A outer s H vs Q E hr h=>?_
 obtain ⟨r,xs,t,rfl,hx,en,hl,k⟩:=h
 have hu:=hr.units0
 have hu2:=iz hr.u100
 refine ⟨_,(QSs.to (ac (qst 1 sc.nd af)
  (ac (eT BW rfl (i9 rfl T.z_range (aa (ap bK (ap bc (qcB aH T.z_len (aa (qv 0) ag)) af) af) (aa (jd gd af) (aa (jd gd af) ag)))) (cX (i:=2) sc.nd rfl (Or.inl rfl)) (aj (qst 1 sc.nd (ap aQ (qv 1) (qcl Glet_down hr Dlet_down aG (aa (qv 0) (aa (qv 2) ag)))))))
  (aj (aA (qv 1)))))),?_⟩
 refine ⟨_,rfl,r,_,rfl,.inl (SqL.of hx),_,_,rfl,rfl,⟨AW,AW⟩,_,_,rfl,rfl,_,rfl,_,rfl,_,_,rfl,⟨AX,AX,AX,AX⟩,?_⟩
 have en0:((xs.length:Int) / 2-1 - -1).toNat=xs.length / 2:=by lia
 refine hU (lo:=(xs.length:Int) / 2-1) (n:=((xs.length:Int) / 2-1 - -1).toNat) (fun i Z H4=>∃ (lk:Nat) (o:Option V) (ys:List V),Z=[some (.ref r),some (.int lk),o]/\H4 r=some (.lst ys)/\ys.length=xs.length/\(∀y∈ys,y∈xs)/\(∀b o,H b=some o->b≠r->H4 b=some o)/\mk (ltT t) (xs.length / 2-i) ys lk=mk (ltT t) (xs.length / 2) xs 0)
  ⟨0,none,xs,rfl,hx,rfl,fun y h=>h,fun b o e _=>e,rfl⟩ ?_ ?_
 .rintro i Z H4 hi ⟨lk,o,ys,rfl,h4,l4,s4,f4,m4⟩
  rw [en0] at hi
  have en4:EnG t H4 ys:=(en.bar hx f4).sub s4
  have ei:(xs.length:Int) / 2-1-(i:Int)=((xs.length / 2-1-i:Nat):Int):=by lia
  refine ⟨_,rfl,_,rfl,_,rfl,r,ys,xs.length / 2-1-i,t,(by show [V.ref r,V.int ((xs.length:Int) / 2-1-(i:Int))]=_;rw [ei]),h4,en4,AX,fun H5 h5 f5=>⟨_,_,rfl,rfl,?_⟩⟩
  refine ⟨lk+(dn (ltT t) ys.length ys (xs.length / 2-1-i) 0).2,_,_,rfl,h5,dn_len.trans l4,fun y hy=>s4 y (dn_perm.mem_iff.mp hy),fun b o e nb=>f5 b o (f4 b o e nb) nb,?_⟩
  rw [<-m4,show xs.length / 2-i=(xs.length / 2-(i+1))+1 by lia]
  conv=>rhs;unfold mk
  rw [show xs.length / 2-(i+1)=xs.length / 2-1-i by lia]
 rintro Z H4 ⟨lk,o,ys,rfl,h4,l4,s4,f4,m4⟩
 rw [en0,Nat.sub_self] at m4
 have m5:(ys,lk)=mk (ltT t) (xs.length / 2) xs 0:=m4
 have:=k H4
 rw [<-m5] at this
 exact ⟨_,rfl,this h4 f4⟩
abbrev bmV:List Value:=[.type "ValueError",.type "Exception",.type "BaseException",.type "object"]
structure NT (K:W.Frag)(C:Addr):Prop where
 cl:Cls K C
 th:NoAttr K C "there"
 st:NoAttr K C "stamp"
abbrev vi:Stmt:=aV (top 6) 1
theorem vE:au ["self"] ["self"] (ao vi):=fs0
def tO (C:Addr):Sp:=fun vs H Q _=>∃ (p dx d:Addr) (fs:List (Str×V)) (ks:List (Key×V)),vs=[.ref p]/\H p=some (.ins C dx fs)/\fs.lookup ("there":Str)=some (.ref d)/\H d=some (.dK ks)/\Q (.int ks.length) H
theorem xJ (F:Fun K "many" "Named.many" vi f fd)(T:Bl mg)(L:NT K C):av P w K mg base CX0 1 f fd ["self"] (tO C):=by
 have sc:=vE
 refine F.ok vE fun cdv A outer s H vs Q E hr h=>?_
 obtain ⟨p,dx,d,fs,ks,rfl,hp,hl,hd,k⟩:=h
 have hu:=hr.units0
 refine ⟨_,(QSs.to (aj (aA (qcB bZ T.z_len (aa (a9 (qv 0) rfl) ag))))),?_⟩
 exact ⟨_,rfl,p,C,dx,fs,_,rfl,hp,L.cl,L.th,hl,d,ks,rfl,hd,k⟩
abbrev oF:Stmt:=aV (top 6) 3
theorem pA:au ["self","entry"] ["self","entry"] (ao oF):=fs0
def gN (C:Addr):Sp:=fun vs H Q _=>∃ (p dx d:Addr) (fs:List (Str×V)) (ks:List (Key×V)) (T:List (Str×En)) (a:Addr) (e:En),vs=[.ref p,.ref a]/\H p=some (.ins C dx fs)/\fs.lookup ("there":Str)=some (.ref d)/\H d=some (.dK ks)/\KR H ks T/\H a=some (.tup (enV e))/\Q (.bl (Gm.holds T e)) H
theorem va (F:Fun K "holds" "Named.holds" oF f fd)(T:Bl mg)(L:NT K C):av P w K mg base CX0 1 f fd ["self","entry"] (gN C):=by
 have sc:=pA
 refine F.ok pA fun cdv A outer s H vs Q E hr h=>?_
 obtain ⟨p,dx,d,fs,ks,T',a,e,rfl,hp,hl,hd,kr,ha,k⟩:=h
 have hu:=hr.units0
 refine ⟨_,(QSs.to (aj (aA (eA (pP hu) (mz (aS hr) (a9 (qv 0) rfl) (aD aI (qv 1) af pix) ⟨rfl,rfl,rfl,rfl⟩) (qv 1) (aE _))))),?_⟩
 refine ⟨_,rfl,p,C,dx,fs,_,rfl,hp,L.cl,L.th,hl,d,rfl,.inl ⟨ks,.inl hd⟩,_,rfl,a,_,_,_,rfl,rfl,SqT.of ha,rfl,_,DGet.k (k:=Sum.inr e.n) hd,_,rfl,a,enV e,rfl,SqT.of ha,ny e,?_⟩
 unfold Gm.holds at k
 rcases kr.get e.n with ⟨e1,e2⟩ | ⟨b,e',e1,e2,hb⟩
 .rw [e2,Br (fun z=>nomatch z)] at k
  rw [e1]
  exact .inl ⟨rfl,k⟩
 rw [e2] at k
 rw [e1]
 refine .inr ⟨b,enV e',rfl,SqT.of hb,ny e',?_⟩
 by_cases z:e'=e
 .rw [z] at k ⊢
  rw [Bb rfl] at k ⊢
  exact k
 rw [Br (fun y=>z (BI y))] at k
 rw [Br (fun y=>z (kL y))]
 exact k
abbrev wm:Stmt:=aV (top 6) 4
theorem tV:au ["self","name"] ["self","name"] (ao wm):=fs0
def mR (C X:Addr):Sp:=fun vs H Q E=>∃ (p dx d:Addr) (fs:List (Str×V)) (ks:List (Key×V)) (n:Str),vs=[.ref p,.str n]/\H p=some (.ins C dx fs)/\fs.lookup ("there":Str)=some (.ref d)/\H d=some (.dK ks)/\n.length<=1000/\((aX ks (Sum.inr n)).isSome=true->Q .non H)/\((aX ks (Sum.inr n)).isSome=false->E (.ref X) none H)
theorem wT {X:Addr}(F:Fun K "need" "Named.need" wm f fd)(T:Bl mg)(L:NT K C)(mNoThing:mg "NoThing"=some (.ref X))(xNoThing:W.excIn K X bmV "ValueError.__new__"=true):av P w K mg base (CXe P w) 1 f fd ["self","name"] (mR C X):=by
 have sc:=tV
 refine F.okE tV (fun vs H Q E h=>?_) (fun cdv A outer s H vs Q E hr h=>?_)
 .obtain ⟨p,dx,d,fs,ks,n,rfl,_⟩:=h
  rfl
 obtain ⟨p,dx,d,fs,ks,n,rfl,hp,hl,hd,hn,k,kE⟩:=h
 have hu:=hr.units0
 refine ⟨_,(QSs.to (aj (aR (gp (aS hr) (qv 1) (a9 (qv 0) rfl)) (aj (fZ DV AV rfl mNoThing xNoThing hr.hd (aa (mw (qv 1) AV) ag))) aB))),?_⟩
 refine ⟨_,rfl,_,rfl,p,C,dx,fs,_,rfl,hp,L.cl,L.th,hl,d,_,rfl,DGet.k (k:=Sum.inr n) hd,_,rfl,?_⟩
 cases e:(aX ks (Sum.inr n:Key)).isSome with
 | false=>exact iQ ⟨_,rfl,n,rfl,hn,fun r=>⟨by show 1<=1000;decide,kE e⟩⟩
 | true=>exact bL (k e)
abbrev tm:Stmt:=aV (top 6) 5
theorem vp:au ["self","name"] ["self","name"] (ao tm):=fs0
def uV (C X:Addr):Sp:=fun vs H Q E=>∃ (p dx d:Addr) (fs:List (Str×V)) (ks:List (Key×V)) (n:Str),vs=[.ref p,.str n]/\H p=some (.ins C dx fs)/\fs.lookup ("there":Str)=some (.ref d)/\H d=some (.dK ks)/\n.length<=1000/\((aX ks (Sum.inr n)).isSome=false->Q .non H)/\((aX ks (Sum.inr n)).isSome=true->E (.ref X) none H)
theorem kg {X:Addr}(F:Fun K "need_free" "Named.need_free" tm f fd)(T:Bl mg)(L:NT K C)(mClash:mg "Clash"=some (.ref X))(xClash:W.excIn K X bmV "ValueError.__new__"=true):av P w K mg base (CXe P w) 1 f fd ["self","name"] (uV C X):=by
 have sc:=vp
 refine F.okE vp (fun vs H Q E h=>?_) (fun cdv A outer s H vs Q E hr h=>?_)
 .obtain ⟨p,dx,d,fs,ks,n,rfl,_⟩:=h
  rfl
 obtain ⟨p,dx,d,fs,ks,n,rfl,hp,hl,hd,hn,k,kE⟩:=h
 have hu:=hr.units0
 refine ⟨_,(QSs.to (aj (aR (yG (aS hr) (qv 1) (a9 (qv 0) rfl)) (aj (fZ DV AV rfl mClash xClash hr.hd (aa (mw (qv 1) AV) ag))) aB))),?_⟩
 refine ⟨_,rfl,_,rfl,p,C,dx,fs,_,rfl,hp,L.cl,L.th,hl,d,_,rfl,DGet.k (k:=Sum.inr n) hd,_,rfl,?_⟩
 cases e:(aX ks (Sum.inr n:Key)).isSome with
 | true=>exact iQ ⟨_,rfl,n,rfl,hn,fun r=>⟨by show 1<=1000;decide,kE e⟩⟩
 | false=>exact bL (k e)
abbrev zn:Stmt:=aV (top 6) 6
theorem yg:au ["self"] ["self"] (ao zn):=fs0
def xW (C X:Addr):Sp:=fun vs H Q E=>∃ (p dx d:Addr) (fs:List (Str×V)) (ks:List (Key×V)),vs=[.ref p]/\H p=some (.ins C dx fs)/\fs.lookup ("there":Str)=some (.ref d)/\H d=some (.dK ks)/\(ks≠[]->Q .non H)/\(ks=[]->E (.ref X) none H)
theorem kT {X:Addr}(F:Fun K "need_any" "Named.need_any" zn f fd)(T:Bl mg)(L:NT K C)(mNoThing:mg "NoThing"=some (.ref X))(xNoThing:W.excIn K X bmV "ValueError.__new__"=true):av P w K mg base (CXe P w) 1 f fd ["self"] (xW C X):=by
 have sc:=yg
 refine F.okE yg (fun vs H Q E h=>?_) (fun cdv A outer s H vs Q E hr h=>?_)
 .obtain ⟨p,dx,d,fs,ks,rfl,_⟩:=h
  rfl
 obtain ⟨p,dx,d,fs,ks,rfl,hp,hl,hd,k,kE⟩:=h
 have hu:=hr.units0
 refine ⟨_,(QSs.to (aj (aR (aw bz (qcB bZ T.z_len (aa (a9 (qv 0) rfl) ag)) af (aE _)) (aj (fZ DV AV rfl mNoThing xNoThing hr.hd (aa ar ag))) aB))),?_⟩
 refine ⟨_,rfl,p,C,dx,fs,_,rfl,hp,L.cl,L.th,hl,d,ks,rfl,hd,rfl,_,rfl,aO (fun c1=>?_) (fun c1=>?_)⟩
 .have:=V.int.inj (Ba c1)
  exact ⟨by show 1<=1000;decide,kE (Bx.mp AX)⟩
 exact k fun z=>c1 (Bb (by rw [z];rfl))
abbrev iD:Stmt:=aV (top 6) 7
theorem jj:au ["self","name","worth","entry"] ["self","name","worth"] (ao iD):=fs0
def jg (C:Addr):Sp:=fun vs H Q _=>∃ (p dx d:Addr) (fs:List (Str×V)) (ks:List (Key×V)) (n:Str) (w st:Int),vs=[.ref p,.str n,.int w]/\H p=some (.ins C dx fs)/\fs.lookup ("there":Str)=some (.ref d)/\H d=some (.dK ks)/\fs.lookup ("stamp":Str)=some (.int st)/\fs.length<=100/\ks.length<=1000 /\
 ∀q,H q=none->Q (.ref q) (upd (upd (upd H q (.tup [.int w,.str n,.int st])) p (.ins C dx (bG ("stamp":Str) (.int (st+1)) fs))) d (.dK (a8 ks (Sum.inr n) (.ref q))))
theorem pH:¬ (("there":Str)="stamp"):=by decide +kernel
theorem mT (F:Fun K "stamped" "Named.stamped" iD f fd)(T:Bl mg)(L:NT K C):av P w K mg base CX0 1 f fd ["self","name","worth"] (jg C):=by
 have sc:=jj
 refine F.ok jj fun cdv A outer s H vs Q E hr h=>?_
 obtain ⟨p,dx,d,fs,ks,n,w,st,rfl,hp,hl,hd,hs,hf,hk,k⟩:=h
 have hu:=hr.units0
 have npd:p≠d:=aU hp hd (by intro z;cases z)
 refine ⟨_,(QSs.to (ac (qst 3 sc.nd (bq (aa (qv 2) (aa (qv 1) (aa (a9 (qv 0) rfl) ag)))))
  (ac (cn (qv 0) (ap aQ (a9 (qv 0) rfl) af) rfl)
  (ac (b9 (aS hr) (a9 (qv 0) rfl) (qv 1) (qv 3) rfl)
  (aj (aA (qv 3))))))),?_⟩
 refine ⟨_,rfl,_,rfl,_,rfl,p,C,dx,fs,_,rfl,hp,L.cl,L.st,hs,sz3,fun q hq=>?_⟩
 have hp1:(upd H q (.tup [.int w,.str n,.int st])) p=some (.ins C dx fs):=by rw [ai (ak hp hq)];exact hp
 have hd1:(upd H q (.tup [.int w,.str n,.int st])) d=some (.dK ks):=by rw [ai (ak hd hq)];exact hd
 refine ⟨_,rfl,p,C,dx,fs,_,rfl,hp1,L.cl,L.st,hs,_,_,rfl,rfl,_,rfl,p,C,dx,fs,rfl,hp1,L.cl,L.st,AX,?_⟩
 have hl2:(bG ("stamp":Str) (.int (st+1)) fs).lookup ("there":Str)=some (.ref d):=by rw [dy,Bc pH];exact hl
 refine ⟨_,rfl,_,rfl,p,C,dx,_,_,rfl,ad,L.cl,L.th,hl2,_,rfl,d,_,rfl,DPut.k (k:=Sum.inr n) (by rw [ai npd.symm];exact hd1) (aY hk),?_⟩
 exact ⟨_,rfl,k q hq⟩
def wOf (T:List (Str×En))(n:Str):Int:=((Gm.dget T n).getD default).w
def PR (H:Hp)(zs:List V)(L:List (Str×Int)):Prop:=Paired (fun (z:V) (nw:Str×Int)=>∃ a,z=.ref a/\H a=some (.tup [.str nw.1,.int nw.2])) zs L
abbrev sThings:Stmt:=aV (top 6) 2
def spThings (C:Addr):Sp:=fun vs H Q _=>∃ (p dx d:Addr) (fs:List (Str×V)) (ks:List (Key×V)) (T:List (Str×En)),vs=[.ref p]/\H p=some (.ins C dx fs)/\fs.lookup ("there":Str)=some (.ref d)/\H d=some (.dK ks)/\KR H ks T/\ks.length<=1000 /\
 ∀(q:Addr) (zs:List V) (ys:List Str) (H':Hp),ys.Perm (T.map (·.1))->ys.Pairwise (fun x y=>slt y x=false)->H' q=some (.tup zs)->PR H' zs (ys.map fun n=>(n,wOf T n))->Same H H'->Q (.ref q) H'
abbrev nV:Stmt:=aV (top 6) 0
theorem pZ:au ["self"] ["self"] (ao nV):=fs0
def qj (C:Addr):Sp:=fun vs H Q _=>∃ (p dx:Addr),vs=[.ref p]/\H p=some (.ins C dx [])/\∀d,H d=none->Q .non (upd (upd (upd H d (.dK [])) p (.ins C dx [("there",.ref d)])) p (.ins C dx [("there",.ref d),("stamp",.int 0)]))
theorem fS (F:Fun K "__init__" "Named.__init__" nV f fd)(T:Bl mg)(L:NT K C):av P w K mg base CX0 1 f fd ["self"] (qj C):=by
 have sc:=pZ
 refine F.ok pZ fun cdv A outer s H vs Q E hr h=>?_
 obtain ⟨p,dx,rfl,hp,k⟩:=h
 have hu:=hr.units0
 refine ⟨_,(QSs.to (ac (cn (qv 0) cG rfl)
  (aj (cn (qv 0) af rfl)))),?_⟩
 intro d hd
 have npd:p≠d:=ak hp hd
 refine ⟨_,rfl,p,C,dx,[],rfl,(by rw [ai npd];exact hp),L.cl,L.th,(by show 0<1000;decide),_,rfl,p,C,dx,_,rfl,ad,L.cl,L.st,(by show 1<1000;decide),?_⟩
 have e1:bG ("stamp":Str) (.int 0) (bG ("there":Str) (.ref d) [])=([("there",V.ref d),("stamp",V.int 0)]:List (Str×V)):=by
  show (if ("there":Str)="stamp" then _ else _)=_
  rw [Bc pH]
  rfl
 rw [e1]
 exact k d hd
structure LT (K:W.Frag)(C:Addr):Prop where
 nt:NT K C
 sk:NoAttr K C "slack"
 en:NoAttr K C "entries"
 lk:NoAttr K C "looks"
theorem LT.cl (L:LT K C):Cls K C:=L.nt.cl
def lfs (d l:Addr)(s:LS):List (Str×V):=[("there",.ref d),("stamp",.int s.stamp),("slack",.int s.slack),("entries",.ref l),("looks",.int s.looks)]
theorem cD {a b:Str}{v:V}{r:List (Str×V)}(h:¬ b=a):List.lookup a ((b,v)::r)=List.lookup a r:=by
 rw [Cb,CM.mpr (fun z=>h z.symm)]
theorem lP {a:Str}{v:V}{r:List (Str×V)}:List.lookup a ((a,v)::r)=some v:=by
 rw [Cb,Ew]
theorem cg {a b:Str}{v x:V}{r:List (Str×V)}(h:¬ b=a):bG a v ((b,x)::r)=(b,x)::bG a v r:=Bc h
theorem vS {a:Str}{v x:V}{r:List (Str×V)}:bG a v ((a,x)::r)=(a,v)::r:=Bf rfl
theorem d1:¬ (("there":Str)="slack"):=by decide +kernel
theorem d2:¬ (("there":Str)="entries"):=by decide +kernel
theorem d3:¬ (("there":Str)="looks"):=by decide +kernel
theorem d4:¬ (("stamp":Str)="slack"):=by decide +kernel
theorem d5:¬ (("stamp":Str)="entries"):=by decide +kernel
theorem d6:¬ (("stamp":Str)="looks"):=by decide +kernel
theorem d7:¬ (("slack":Str)="entries"):=by decide +kernel
theorem d8:¬ (("slack":Str)="looks"):=by decide +kernel
theorem d9:¬ (("entries":Str)="looks"):=by decide +kernel
section
variable {d l l':Addr}{s:LS}
theorem cV:(lfs d l s).lookup ("there":Str)=some (.ref d):=lP
theorem zX:(lfs d l s).lookup ("stamp":Str)=some (.int s.stamp):=by unfold lfs;rw [cD pH,lP]
theorem zR:(lfs d l s).lookup ("slack":Str)=some (.int s.slack):=by unfold lfs;rw [cD d1,cD d4,lP]
theorem gr:(lfs d l s).lookup ("entries":Str)=some (.ref l):=by unfold lfs;rw [cD d2,cD d5,cD d7,lP]
theorem qc:(lfs d l s).lookup ("looks":Str)=some (.int s.looks):=by unfold lfs;rw [cD d3,cD d6,cD d8,cD d9,lP]
theorem zJ {m:Str}(h1:¬ ("there":Str)=m)(h2:¬ ("stamp":Str)=m)(h3:¬ ("slack":Str)=m)(h4:¬ ("entries":Str)=m)(h5:¬ ("looks":Str)=m):(lfs d l s).lookup m=none:=by unfold lfs;rw [cD h1,cD h2,cD h3,cD h4,cD h5];rfl
theorem lfn {m:Str}(h1:¬ ("there":Str)=m:=by decide +kernel)(h2:¬ ("stamp":Str)=m:=by decide +kernel)(h3:¬ ("slack":Str)=m:=by decide +kernel)(h4:¬ ("entries":Str)=m:=by decide +kernel)(h5:¬ ("looks":Str)=m:=by decide +kernel):(lfs d l s).lookup m=none:=zJ h1 h2 h3 h4 h5
theorem zM {k:Nat}:bG ("stamp":Str) (.int ((s.stamp:Int)+1)) (lfs d l s)=lfs d l { s with stamp:=s.stamp+1 }:=by unfold lfs;rw [cg pH,vS];rfl
theorem Aj:bG ("entries":Str) (.ref l') (lfs d l s)=lfs d l' s:=by unfold lfs;rw [cg d2,cg d5,cg d7,vS]
theorem sP {k:Nat}:bG ("looks":Str) (.int ((s.looks:Int)+k)) (lfs d l s)=lfs d l { s with looks:=s.looks+k }:=by
 unfold lfs
 rw [cg d3,cg d6,cg d8,cg d9,vS]
 show _=[_,_,_,_,(_,V.int ((s.looks+k:Nat):Int))]
 rw [Int.natCast_add]
end
structure LateAt (C:Addr)(H:Hp)(p d l:Addr)(s:LS):Prop where
 ob:∃ dx,H p=some (.ins C dx (lfs d l s))
 dc:∃ ks,H d=some (.dK ks)/\KR H ks s.there
 ls:∃ xs,H l=some (.lst xs)/\RR H xs s.row
section
variable {C p d l:Addr}{H H':Hp}{s:LS}
theorem LateAt.notup (L:LateAt C H p d l s):∀b∈[p,d,l],∀xs,H b≠some (.tup xs):=by
 obtain ⟨dx,h1⟩:=L.ob
 obtain ⟨ks,h2,_⟩:=L.dc
 obtain ⟨xs,h3,_⟩:=L.ls
 intro b hb ys z
 simp only [ax,ah,Bn] at hb
 rcases hb with rfl | rfl | rfl
 .rw [h1] at z;cases z
 .rw [h2] at z;cases z
 rw [h3] at z;cases z
theorem LateAt.npd (L:LateAt C H p d l s):p≠d:=by
 obtain ⟨dx,h1⟩:=L.ob
 obtain ⟨ks,h2,_⟩:=L.dc
 exact aU h1 h2 (by intro z;cases z)
theorem LateAt.npl (L:LateAt C H p d l s):p≠l:=by
 obtain ⟨dx,h1⟩:=L.ob
 obtain ⟨ks,h2,_⟩:=L.ls
 exact aU h1 h2 (by intro z;cases z)
theorem LateAt.ndl (L:LateAt C H p d l s):d≠l:=by
 obtain ⟨dx,h1,_⟩:=L.dc
 obtain ⟨ks,h2,_⟩:=L.ls
 exact aU h1 h2 (by intro z;cases z)
theorem LateAt.stay (L:LateAt C H p d l s)(k:∀b o,b=p∨b=d∨b=l->H b=some o->H' b=some o)(t:∀b l,H b=some (.tup l)->H' b=some (.tup l)):LateAt C H' p d l s:=by
 obtain ⟨dx,h1⟩:=L.ob
 obtain ⟨ks,h2,r2⟩:=L.dc
 obtain ⟨xs,h3,r3⟩:=L.ls
 exact ⟨⟨dx,k _ _ (.inl rfl) h1⟩,⟨ks,k _ _ (.inr (.inl rfl)) h2,r2.stay t⟩,⟨xs,k _ _ (.inr (.inr rfl)) h3,r3.stay t⟩⟩
theorem LateAt.same (L:LateAt C H p d l s)(k:Same H H'):LateAt C H' p d l s:=L.stay (fun b o _ h=>k b o h) fun b l h=>k b _ h
end
def Fr3 (H:Hp)(l l':Addr):Prop:=l'=l∨H l'=none
abbrev oj:Stmt:=aV (top 15) 8
theorem qE:au ["self","name","worth"] ["self","name","worth"] (ao oj):=fs0
def j8 (C:Addr):Sp:=fun vs H Q _=>∃ (p d l:Addr) (s:LS) (n:Str) (w:Int),vs=[.ref p,.str n,.int w]/\LateAt C H p d l s/\s.row.length<=1000/\s.there.length<=1000 /\
 ∀H',LateAt C H' p d l (Gm.enter slt s n w)->Kept [p,d,l] H H'->Q .non H'
theorem wK {r:Addr}{es:List En}{e:En}{Q:VK}{E:XK}(h:H r=some (.lst xs))(rr:RR H xs es)(ha:H a=some (.tup (enV e)))(hl:es.length<=1000)(k:∀ys H',H' r=some (.lst ys)->RR H' ys (Hg.up lE es.length (es++[e]) es.length 0).1->Kept [r] H H'->Q (.int (Hg.up lE es.length (es++[e]) es.length 0).2) H'):qm [.ref r,.ref a] H Q E:=by
 have rs:=rr.snoc ha
 refine ⟨r,xs,.ref a,bO H,rfl,h,rs.en,by rw [rr.len];exact hl,fun H' h' kp=>?_⟩
 have em:=nQ (H:=H) (f:=xs.length) (xs:=xs++[.ref a]) (p:=xs.length) (lk:=0)
 rw [rs.eq,rr.len] at em
 have kk:Kept [r] H H':=fun b o q n=>kp b o q fun z=>n (Bt.mpr z)
 have:=k _ H' h' (by
  rw [em,rr.len]
  have r2:=rs.sub (ys:=(up (ltT (bO H)) es.length (xs++[.ref a]) es.length 0).1) fun y hy=>(df (by rw [Bi,rr.len];exact CS _)).mem_iff.mp hy
  exact r2.stay (kk.tups fun b hb ys z=>by rw [AZ hb,h] at z;cases z)) kk
 rw [em] at this
 rw [rr.len]
 exact this
theorem wg {fb:Addr}{fdb:FuncData}(F:Fun K "enter" "Late.enter" oj f fd)(T:Bl mg)(L:LT K C)(Glay_in:av P w K mg base CX0 3 fa fda ["heap","entry"] qm)(Dlay_in:Nm K mg "lay_in" fa fda ["heap","entry"])(Mstamped:bx K C "stamped" fb)(Gstamped:av P w K mg base CX0 1 fb fdb ["self","name","worth"] (jg C))(Bstamped:Binds K fdb ["self","name","worth"] []):av P w K mg base CX0 4 f fd ["self","name","worth"] (j8 C):=by
 have sc:=qE
 refine F.ok qE fun cdv A outer s H vs Q E hr h=>?_
 obtain ⟨p,d,l,s,n,w,rfl,LA,h1,h2,k⟩:=h
 have hu:=hr.units0
 have npd:=LA.npd
 have npl:=LA.npl
 have ndl:=LA.ndl
 obtain ⟨dx,hp⟩:=LA.ob
 obtain ⟨ks,hd,kr⟩:=LA.dc
 obtain ⟨xs,hx,rr⟩:=LA.ls
 refine ⟨_,(QSs.to (aj (cn (qv 0) (ap aQ (a9 (qv 0) rfl) (qcl Glay_in hr Dlay_in aG (aa (a9 (qv 0) rfl) (aa (bd (qv 0) L.cl Mstamped Gstamped hr.mo Bstamped .nil aG (aa (qv 1) (aa (qv 2) ag))) ag)))) rfl))),?_⟩
 refine ⟨_,rfl,p,C,dx,_,_,rfl,hp,L.cl,L.lk,qc,_,rfl,p,C,dx,_,_,rfl,hp,L.cl,L.en,gr,_,rfl,p,dx,_,rfl,hp,lfn,_,rfl,_,rfl,p,dx,d,_,ks,n,w,s.stamp,rfl,hp,cV,hd,zX,by show 5<=100;decide,by rw [kr.len];exact h2,fun q hq=>?_⟩
 have npq:p≠q:=ak hp hq
 have ndq:d≠q:=ak hd hq
 have nlq:l≠q:=ak hx hq
 rw [zM (k:=0)]
 have q2:∀b o,H b=some o->b≠p->b≠d->(upd (upd (upd H q (.tup [.int w,.str n,.int s.stamp])) p (.ins C dx (lfs d l { s with stamp:=s.stamp+1 }))) d (.dK (a8 ks (Sum.inr n) (.ref q)))) b=some o:=fun b o e n1 n2=>by
  rw [ai n2,ai n1,ai (ak e hq)];exact e
 have hq2:(upd (upd (upd H q (.tup [.int w,.str n,.int s.stamp])) p (.ins C dx (lfs d l { s with stamp:=s.stamp+1 }))) d (.dK (a8 ks (Sum.inr n) (.ref q)))) q=some (.tup (enV ⟨w,n,(s.stamp:Int)⟩)):=by
  rw [ai ndq.symm,ai npq.symm,ad];rfl
 have hp2:(upd (upd (upd H q (.tup [.int w,.str n,.int s.stamp])) p (.ins C dx (lfs d l { s with stamp:=s.stamp+1 }))) d (.dK (a8 ks (Sum.inr n) (.ref q)))) p=some (.ins C dx (lfs d l { s with stamp:=s.stamp+1 })):=by
  rw [ai npd,ad]
 have hd2:(upd (upd (upd H q (.tup [.int w,.str n,.int s.stamp])) p (.ins C dx (lfs d l { s with stamp:=s.stamp+1 }))) d (.dK (a8 ks (Sum.inr n) (.ref q)))) d=some (.dK (a8 ks (Sum.inr n) (.ref q))):=ad
 have kk2:Kept [p,d,l] H (upd (upd (upd H q (.tup [.int w,.str n,.int s.stamp])) p (.ins C dx (lfs d l { s with stamp:=s.stamp+1 }))) d (.dK (a8 ks (Sum.inr n) (.ref q)))):=fun b o e nb=>q2 b o e (fun z=>nb (z▸by simp)) (fun z=>nb (z▸by simp))
 generalize (upd (upd (upd H q (.tup [.int w,.str n,.int s.stamp])) p (.ins C dx (lfs d l { s with stamp:=s.stamp+1 }))) d (.dK (a8 ks (Sum.inr n) (.ref q))))=H2 at q2 hq2 hp2 hd2 kk2 ⊢
 have t2:=kk2.tups LA.notup
 have hx2:=q2 l _ hx npl.symm ndl.symm
 unfold nP
 dsimp only [Ck,EG]
 refine wK hx2 (rr.stay t2) hq2 h1 fun ys H3 h3 rr3 k3=>?_
 have pn:p∉[l]:=fun z=>npl (AZ z)
 have dn':d∉[l]:=fun z=>ndl (AZ z)
 have hp3:=k3 p _ hp2 pn
 have t3:=k3.tups (fun b hb zs z=>by rw [AZ hb,hx2] at z;cases z)
 refine ⟨_,_,rfl,rfl,_,rfl,p,C,dx,_,rfl,hp3,L.cl,L.lk,by show 5<1000;decide,?_⟩
 have e6:=sP (d:=d) (l:=l) (s:={ s with stamp:=s.stamp+1 }) (k:=(Hg.up lE s.row.length (s.row++[⟨w,n,(s.stamp:Int)⟩]) s.row.length 0).2)
 have e7:bG ("looks":Str) (.int ((s.looks:Int)+((Hg.up lE s.row.length (s.row++[⟨w,n,(s.stamp:Int)⟩]) s.row.length 0).2:Nat))) (lfs d l { s with stamp:=s.stamp+1 })=lfs d l (Gm.enter slt s n w):=e6
 rw [e7]
 have t4:∀b zs,H3 b=some (.tup zs)->(upd H3 p (.ins C dx (lfs d l (Gm.enter slt s n w)))) b=some (.tup zs):=fun b zs z=>by rw [ai (aU z hp3 (by intro y;cases y))];exact z
 refine k _ ⟨⟨dx,ad⟩,⟨_,by rw [ai npd.symm];exact k3 d _ hd2 dn',((((kr.stay t2).put hq2).stay t3).stay t4)⟩,⟨ys,by rw [ai npl.symm];exact h3,rr3.stay t4⟩⟩ ?_
 exact (kk2.trans (k3.mono fun b hb=>by rw [AZ hb];simp)).put AY
abbrev ve:Stmt:=aV (top 15) 9
theorem vV:au ["self"] ["self"] (ao ve):=fs0
def nU (C:Addr):Sp:=fun vs H Q _=>∃ (p d l:Addr) (s:LS),vs=[.ref p]/\LateAt C H p d l s/\0<s.row.length/\s.row.length<=1000/\∀H',LateAt C H' p d l (Gm.cut slt s)->Kept [p,l] H H'->Q .non H'
theorem xN {r:Addr}{es:List En}{Q:VK}{E:XK}(h:H r=some (.lst xs))(rr:RR H xs es)(h0:0<es.length)(hl:es.length<=1000)(k:∀ys H',H' r=some (.lst ys)->RR H' ys (Hg.cutf lE es).1->Kept [r] H H'->Q (.int (Hg.cutf lE es).2) H'):qg [.ref r] H Q E:=by
 refine ⟨r,xs,bO H,rfl,h,rr.en,by rw [rr.len];exact h0,by rw [rr.len];exact hl,fun H' h' kp=>?_⟩
 have em:=pD (H:=H) (xs:=xs)
 rw [rr.eq] at em
 have kk:Kept [r] H H':=fun b o q n=>kp b o q fun z=>n (Bt.mpr z)
 have:=k _ H' h' (by
  rw [em]
  have r2:=rr.sub (ys:=(cutf (ltT (bO H)) xs).1) fun y hy=>(cv (by rw [rr.len];exact h0)).mem_iff.mp (Bk _ hy)
  exact r2.stay (kk.tups fun b hb ys z=>by rw [AZ hb,h] at z;cases z)) kk
 rw [em] at this
 exact this
theorem xI (F:Fun K "cut" "Late.cut" ve f fd)(T:Bl mg)(L:LT K C)(Gcut_first:av P w K mg base CX0 3 fa fda ["heap"] qg)(Dcut_first:Nm K mg "cut_first" fa fda ["heap"]):av P w K mg base CX0 4 f fd ["self"] (nU C):=by
 have sc:=vV
 refine F.ok vV fun cdv A outer s H vs Q E hr h=>?_
 obtain ⟨p,d,l,s,rfl,LA,h0,h1,k⟩:=h
 have hu:=hr.units0
 have npd:=LA.npd
 have npl:=LA.npl
 have ndl:=LA.ndl
 obtain ⟨dx,hp⟩:=LA.ob
 obtain ⟨ks,hd,kr⟩:=LA.dc
 obtain ⟨xs,hx,rr⟩:=LA.ls
 refine ⟨_,(QSs.to (aj (cn (qv 0) (ap aQ (a9 (qv 0) rfl) (qcl Gcut_first hr Dcut_first aG (aa (a9 (qv 0) rfl) ag))) rfl))),?_⟩
 refine ⟨_,rfl,p,C,dx,_,_,rfl,hp,L.cl,L.lk,qc,_,rfl,p,C,dx,_,_,rfl,hp,L.cl,L.en,gr,?_⟩
 unfold nP
 dsimp only [Ck,EG]
 refine xN hx rr h0 h1 fun ys H3 h3 rr3 k3=>?_
 have pn:p∉[l]:=fun z=>npl (AZ z)
 have dn':d∉[l]:=fun z=>ndl (AZ z)
 have hp3:=k3 p _ hp pn
 have t3:=k3.tups (fun b hb zs z=>by rw [AZ hb,hx] at z;cases z)
 refine ⟨_,_,rfl,rfl,_,rfl,p,C,dx,_,rfl,hp3,L.cl,L.lk,by show 5<1000;decide,?_⟩
 have e7:bG ("looks":Str) (.int ((s.looks:Int)+((Hg.cutf lE s.row).2:Nat))) (lfs d l s)=lfs d l (Gm.cut slt s):=sP
 rw [e7]
 have t4:∀b zs,H3 b=some (.tup zs)->(upd H3 p (.ins C dx (lfs d l (Gm.cut slt s)))) b=some (.tup zs):=fun b zs z=>by rw [ai (aU z hp3 (by intro y;cases y))];exact z
 refine k _ ⟨⟨dx,ad⟩,⟨ks,by rw [ai npd.symm];exact k3 d _ hd dn',(kr.stay t3).stay t4⟩,⟨ys,by rw [ai npl.symm];exact h3,rr3.stay t4⟩⟩ ?_
 exact (k3.mono fun b hb=>by rw [AZ hb];simp).put AY
theorem LateAt.fresh {l l':Addr}{H2:Hp}{s:LS}(L:LateAt C H2 p d l s)(k:Kept [p,d,l] H H2)(z:H2 l'=none):H l'=none:=by
 obtain ⟨dx,h1⟩:=L.ob
 obtain ⟨ks,h2,_⟩:=L.dc
 obtain ⟨xs,h3,_⟩:=L.ls
 refine k.none z fun hb=>?_
 simp only [ax,ah,Bn] at hb
 rcases hb with rfl | rfl | rfl
 .rw [h1] at z;cases z
 .rw [h2] at z;cases z
 rw [h3] at z;cases z
theorem rN {r:Addr}{es:List En}{Q:VK}{E:XK}(h:H r=some (.lst xs))(rr:RR H xs es)(hl:es.length<=1000)(k:∀ys H',H' r=some (.lst ys)->RR H' ys (Hg.mk lE (es.length / 2) es 0).1->Kept [r] H H'->Q (.int (Hg.mk lE (es.length / 2) es 0).2) H'):jD [.ref r] H Q E:=by
 refine ⟨r,xs,bO H,rfl,h,rr.en,by rw [rr.len];exact hl,fun H' h' kp=>?_⟩
 have em:=mP (H:=H) (k:=xs.length / 2) (xs:=xs) (lk:=0)
 rw [rr.eq,rr.len] at em
 rw [rr.len] at h' ⊢
 have kk:Kept [r] H H':=fun b o q n=>kp b o q fun z=>n (Bt.mpr z)
 have:=k _ H' h' (by
  rw [em]
  have r2:=rr.sub (ys:=(mk (ltT (bO H)) (es.length / 2) xs 0).1) fun y hy=>mk_perm.mem_iff.mp hy
  exact r2.stay (kk.tups fun b hb ys z=>by rw [AZ hb,h] at z;cases z)) kk
 rw [em] at this
 exact this
abbrev jF:Stmt:=aV (top 15) 11
theorem p6:au ["self","gone"] ["self"] (ao jF):=fs0
def fJ (C:Addr):Sp:=fun vs H Q _=>∃ (p d l:Addr) (s:LS),vs=[.ref p]/\LateAt C H p d l s/\s.row.length<=1000/\∀l' H',LateAt C H' p d l' (Gm.sweep slt s)->Kept [p,d,l] H H'->Fr3 H l l'->Q .non H'
theorem kX {α:Type}{xs:List α}{f:α->Bool}{x:α}(h:xs[i]?=some x):(xs.take (i+1)).filter f=(xs.take i).filter f++(if f x=true then [x] else []):=by
 rw [Cz,h,Ea]
 congr 1
 show List.filter f [x]=_
 by_cases z:f x=true
 .rw [Bf z,BO,Bf z,EH]
 rw [Bc z,BO,Bc z,EH]
theorem uH {fholds:Addr}(F:Fun K "sweep_if_due" "Late.sweep_if_due" jF f fd)(T:Bl mg)(L:LT K C)(Gorder:av P w K mg base CX0 3 fa fda ["heap"] jD)(Dorder:Nm K mg "order" fa fda ["heap"])(Mholds:bx K C "holds" fholds)(Gholds:av P w K mg base CX0 1 fholds fdholds ["self","entry"] (gN C))(Bholds:Binds K fdholds ["self","entry"] []):av P w K mg base CX0 4 f fd ["self"] (fJ C):=by
 have sc:=p6
 refine F.ok p6 fun cdv A outer s H vs Q E hr h=>?_
 obtain ⟨p,d,l,s,rfl,LA,h1,kQ⟩:=h
 have hu:=hr.units0
 have npd:=LA.npd
 have npl:=LA.npl
 have ndl:=LA.ndl
 obtain ⟨dx,hp⟩:=LA.ob
 obtain ⟨ks,hd,kr⟩:=LA.dc
 obtain ⟨xs,hx,rr⟩:=LA.ls
 refine ⟨_,(QSs.to (ac (qst 1 sc.nd (ap bK (qcB aH T.z_len (aa (a9 (qv 0) rfl) ag)) (qcB bZ T.z_len (aa (a9 (qv 0) rfl) ag))))
  (aj (aR (QW.pt (cN (aw iu (qv 1) (qcB bZ T.z_len (aa (a9 (qv 0) rfl) ag)) (aE _)) (cb (aw iu (qv 1) (a9 (qv 0) rfl) (aE _))))) (ac (cn (qv 0) (dU (Blk.of (N:=["self","gone"]) (esc:=ao jF) (NB:=["self"]) (cap:=[0]) rfl rfl (fun y hy=>bM hy) rfl AV AV AV rfl AV rfl AV) rfl rfl (j5 (a9 (qv 0) rfl)) (fun C fp s₀ H₀=>(pM (bY (bd (qv 1) L.cl Mholds Gholds hr.mo Bholds .nil aG (aa (qv 0) ag))))) (fun C fp s₀ H₀=>(qv 0))) rfl)
  (aj (cn (qv 0) (ap aQ (a9 (qv 0) rfl) (qcl Gorder hr Dorder aG (aa (a9 (qv 0) rfl) ag))) rfl))) aB)))),?_⟩
 refine ⟨_,rfl,p,C,dx,_,_,rfl,hp,L.cl,L.en,gr,l,_,rfl,.inl (SqL.of hx),_,rfl,p,C,dx,_,_,rfl,hp,L.cl,L.nt.th,cV,d,ks,rfl,hd,_,_,rfl,rfl,?_⟩
 have lx:(xs.length:Int)=s.row.length:=by rw [rr.len]
 have lk:(ks.length:Int)=s.there.length:=by rw [kr.len]
 rw [lx,lk]
 have no:∀(hn:¬ Gm.due s=true),Q .non H:=fun hn=>by
  have e:Gm.sweep slt s=s:=by unfold Gm.sweep;rw [Bc hn]
  refine kQ l H (by rw [e];exact LA) Kept.refl (.inl rfl)
 refine ⟨_,rfl,_,rfl,p,C,dx,_,_,rfl,hp,L.cl,L.nt.th,cV,d,ks,rfl,hd,_,_,rfl,rfl,_,rfl,?_⟩
 rw [lk]
 refine aO (fun c1=>⟨_,rfl,_,rfl,p,C,dx,_,_,rfl,hp,L.cl,L.sk,zR,_,_,rfl,rfl,_,rfl,aO (fun c2=>?_) (fun c2=>no ?_)⟩) (fun c1=>bL (no ?_))
 rotate_left
 .unfold Gm.due
  rw [By]
  exact fun z=>c2 z.2
 .unfold Gm.due
  rw [By]
  exact fun z=>c1 z.1
 have hdue:Gm.due s=true:=by
  unfold Gm.due
  rw [By]
  exact ⟨c1,c2⟩
 refine ⟨_,rfl,p,C,dx,_,_,rfl,hp,L.cl,L.en,gr,l,rfl,⟨_,SqL.of hx⟩,fun D hD=>?_⟩
 refine iH (K:=K) (a:=l) (xs:=xs) (fun i ys H4=>H4 D=some (.lst ys)/\ys=(xs.take i).filter (fun x=>Gm.holds s.there (tE H x))/\Same H H4) ⟨ad,rfl,aq hD⟩ (fun i ys H4 z=>⟨z.1,SqL.of (z.2.2 _ _ hx)⟩) ?_ ?_
 .rintro i x ys H4 hi ⟨h4,e4,s4⟩
  have mx:=BC hi
  have li:i<xs.length:=(Bu.mp hi).1
  obtain ⟨a,rfl,ha⟩:=rr.mem x mx
  refine ⟨_,rfl,p,dx,_,rfl,s4 _ _ hp,lfn,_,rfl,p,dx,d,_,ks,s.there,a,tE H (.ref a),rfl,s4 _ _ hp,cV,s4 _ _ hd,kr.stay (fun b l h=>s4 _ _ h),s4 _ _ ha,_,rfl,?_⟩
  have ft:=kX (f:=fun x=>Gm.holds s.there (tE H x)) hi
  refine aO (fun c3=>⟨_,rfl,h4,?_,_,AX,rfl,AX,ad,?_,lX s4 hD⟩) (fun c3=>⟨_,AX,rfl,AX,h4,?_,s4⟩)
  .rw [e4]
   exact BM (A0 (BQ _ _) (List.length_take_le _ _)) (aY (by have:=rr.len;lia))
  .rw [ft,Bf c3,e4]
  .rw [ft,Bc c3,Cg,e4]
 rintro ys H4 ⟨h4,e4,s4⟩
 rw [Co] at e4
 have hp4:=s4 _ _ hp
 refine ⟨_,rfl,p,C,dx,_,rfl,hp4,L.cl,L.en,by show 5<1000;decide,?_⟩
 rw [Aj]
 have npD:p≠D:=ak hp hD
 have ndD:d≠D:=ak hd hD
 have t5:∀b zs,H b=some (.tup zs)->(upd H4 p (.ins C dx (lfs d D s))) b=some (.tup zs):=fun b zs z=>by rw [ai (aU z hp (by intro y;cases y))];exact s4 _ _ z
 have r5:RR (upd H4 p (.ins C dx (lfs d D s))) ys (s.row.filter (Gm.holds s.there)):=by
  have r0:=(rr.sub (ys:=ys) fun y hy=>by rw [e4] at hy;exact (BJ.mp hy).1).stay t5
  have em:ys.map (tE H)=s.row.filter (Gm.holds s.there):=by
   rw [e4,<-rr.eq,FI]
   rfl
  rw [em] at r0
  exact r0
 have hD5:(upd H4 p (.ins C dx (lfs d D s))) D=some (.lst ys):=by rw [ai npD.symm];exact h4
 have hd5:(upd H4 p (.ins C dx (lfs d D s))) d=some (.dK ks):=by rw [ai npd.symm];exact s4 _ _ hd
 have hp5:(upd H4 p (.ins C dx (lfs d D s))) p=some (.ins C dx (lfs d D s)):=ad
 have k5:Kept [p,d,l] H (upd H4 p (.ins C dx (lfs d D s))):=(Kept.of_same s4).put AY
 generalize (upd H4 p (.ins C dx (lfs d D s)))=H5 at t5 r5 hD5 hd5 hp5 k5 ⊢
 refine ⟨_,rfl,p,C,dx,_,_,rfl,hp5,L.cl,L.lk,qc,_,rfl,p,C,dx,_,_,rfl,hp5,L.cl,L.en,gr,?_⟩
 unfold nP
 dsimp only [Ck,EG]
 refine rN hD5 r5 (A0 (BQ _ _) h1) fun zs H6 h6 r6 k6=>?_
 have pn:p∉[D]:=fun z=>npD (AZ z)
 have dn':d∉[D]:=fun z=>ndD (AZ z)
 have hp6:=k6 p _ hp5 pn
 have t6:=k6.tups (fun b hb zs z=>by rw [AZ hb,hD5] at z;cases z)
 refine ⟨_,_,rfl,rfl,_,rfl,p,C,dx,_,rfl,hp6,L.cl,L.lk,by show 5<1000;decide,?_⟩
 have e7:bG ("looks":Str) (.int ((s.looks:Int)+((Hg.mk lE ((s.row.filter (Gm.holds s.there)).length / 2) (s.row.filter (Gm.holds s.there)) 0).2:Nat))) (lfs d D s)=lfs d D (Gm.swept slt s):=sP
 rw [e7]
 have es:Gm.sweep slt s=Gm.swept slt s:=by unfold Gm.sweep;rw [Bf hdue]
 have t7:∀b zs,H6 b=some (.tup zs)->(upd H6 p (.ins C dx (lfs d D (Gm.swept slt s)))) b=some (.tup zs):=fun b zs z=>by rw [ai (aU z hp6 (by intro y;cases y))];exact z
 refine kQ D _ (by rw [es];exact ⟨⟨dx,ad⟩,⟨ks,by rw [ai npd.symm];exact k6 d _ hd5 dn',((kr.stay t5).stay t6).stay t7⟩,⟨zs,by rw [ai npD.symm];exact h6,r6.stay t7⟩⟩) ?_ (.inr hD)
 refine Kept.put (fun b o e nb=>?_) AY
 exact k6 b o (k5 b o e nb) fun z=>by rw [AZ z] at e;rw [hD] at e;cases e
abbrev nD:Stmt:=aV (top 15) 0
theorem qF:au ["self","slack"] ["self","slack"] (ao nD):=fs0
def qr (C:Addr):Sp:=fun vs H Q _=>∃ (p dx:Addr) (z:Int),vs=[.ref p,.int z]/\H p=some (.ins C dx [])/\∀d l H',H d=none->H l=none->LateAt C H' p d l (Gm.newL z)->Kept [p] H H'->Q .non H'
theorem gE {CNamed:Addr}{mc:Value}(F:Fun K "__init__" "Late.__init__" nD f fd)(T:Bl mg)(L:LT K C)(mNamed:mg "Named"=some (.ref CNamed))(MNamed__init__:yQ K CNamed mc "__init__" fa)(GNamed__init__:av P w K mg base CX0 1 fa fda ["self"] (qj C))(BNamed__init__:Binds K fda ["self"] []):av P w K mg base CX0 2 f fd ["self","slack"] (qr C):=by
 have sc:=qF
 refine F.ok qF fun cdv A outer s H vs Q E hr h=>?_
 obtain ⟨p,dx,z,rfl,hp,kQ⟩:=h
 have hu:=hr.units0
 refine ⟨_,(QSs.to (ac (aJ (xb (gY (v:=.ref CNamed) rfl mNamed rfl) MNamed__init__ GNamed__init__ hr.mo BNamed__init__ .nil aG (aa (qv 0) ag)))
  (ac (cn (qv 0) (qv 1) rfl)
  (ac (cn (qv 0) (bn ag) rfl)
  (aj (cn (qv 0) af rfl)))))),?_⟩
 refine ⟨_,rfl,p,dx,rfl,hp,fun d hd=>?_⟩
 have npd:p≠d:=ak hp hd
 refine ⟨_,rfl,_,rfl,p,C,dx,_,rfl,ad,L.cl,L.sk,by show 2<1000;decide,?_⟩
 refine ⟨sz0,fun l hl=>?_⟩
 have hl0:H l=none:=by
  cases q:H l with
  | none=>rfl
  | some o =>
   have h1:l≠p:=fun z=>by rw [z,ad] at hl;cases hl
   have h2:l≠d:=fun z=>by rw [z,hd] at q;cases q
   rw [ai h1,ai h1,ai h1,ai h2,q] at hl
   cases hl
 have npl:p≠l:=ak hp hl0
 have ndl:d≠l:=fun z=>by rw [<-z,ai npd.symm,ai npd.symm,ai npd.symm,ad] at hl;cases hl
 refine ⟨_,rfl,p,C,dx,_,rfl,by rw [ai npl,ad],L.cl,L.en,by show 3<1000;decide,?_⟩
 refine ⟨_,rfl,p,C,dx,_,rfl,ad,L.cl,L.lk,by show 4<1000;decide,?_⟩
 have e1:bG ("looks":Str) (.int 0) (bG ("entries":Str) (.ref l) (bG ("slack":Str) (.int z) [("there",V.ref d),("stamp",V.int 0)]))=lfs d l (Gm.newL z):=by
  rw [cg d1,cg d4]
  show bG ("looks":Str) (.int 0) (bG ("entries":Str) (.ref l) [("there",V.ref d),("stamp",V.int 0),("slack",V.int z)])=_
  rw [cg d2,cg d5,cg d7]
  show bG ("looks":Str) (.int 0) [("there",V.ref d),("stamp",V.int 0),("slack",V.int z),("entries",.ref l)]=_
  rw [cg d3,cg d6,cg d8,cg d9]
  rfl
 rw [e1]
 refine kQ d l _ hd hl0 ⟨⟨dx,ad⟩,⟨[],?_,.nil⟩,⟨[],?_,RR.nil⟩⟩ fun b o e nb=>?_
 .rw [ai npd.symm,ai npd.symm,ai ndl,ai npd.symm,ai npd.symm,ai npd.symm,ad]
 .rw [ai npl.symm,ai npl.symm,ad]
 have hb:b≠p:=fun z=>nb (Bt.mpr z)
 rw [ai hb,ai hb,ai (ak e hl0),ai hb,ai hb,ai hb,ai (ak e hd)]
 exact e
abbrev oI:Stmt:=aV (top 15) 10
theorem qe:au ["self"] ["self"] (ao oI):=fs0
def jR (C X:Addr):Sp:=fun vs H Q E=>∃ (p d l:Addr) (s:LS),vs=[.ref p]/\LateAt C H p d l s/\Gm.LInv slt s/\s.row.length<=1000 /\
 (s.there≠[]->∀a H',LateAt C H' p d l (Gm.leastL slt s)->H' a=some (.tup (enV (Hg.g (Gm.leastL slt s).row 0)))->Kept [p,d,l] H H'->Q (.ref a) H')/\(s.there=[]->E (.ref X) none H)
theorem iS {fneed_any fholds:Addr}{fdneed_any:FuncData}(F:Fun K "first_there" "Late.first_there" oI f fd)(T:Bl mg)(L:LT K C)(Mneed_any:bx K C "need_any" fneed_any)(Gneed_any:av P w K mg base (CXe P w) 1 fneed_any fdneed_any ["self"] (xW C CN))(Bneed_any:Binds K fdneed_any ["self"] [])(Mholds:bx K C "holds" fholds)(Gholds:av P w K mg base CX0 1 fholds fdholds ["self","entry"] (gN C))(Bholds:Binds K fdholds ["self","entry"] [])(Mcut:bx K C "cut" fcut)(Gcut:av P w K mg base CX0 4 fcut fdcut ["self"] (nU C))(Bcut:Binds K fdcut ["self"] []):av P w K mg base (CXe P w) 5 f fd ["self"] (jR C CN):=by
 have sc:=qe
 refine F.okE qe (fun vs H Q E h=>?_) (fun cdv A outer s H vs Q E hr h=>?_)
 .obtain ⟨p,d,l,s,rfl,_⟩:=h
  rfl
 obtain ⟨p,d,l,s,rfl,LA,LI,h1,kQ,kE⟩:=h
 have hu:=hr.units0
 have npd:=LA.npd
 have npl:=LA.npl
 have ndl:=LA.ndl
 obtain ⟨dx,hp⟩:=LA.ob
 obtain ⟨ks,hd,kr⟩:=LA.dc
 obtain ⟨xs,hx,rr⟩:=LA.ls
 refine ⟨_,(QSs.to (ac (aJ (bo (qv 0) L.cl Mneed_any Gneed_any hr.mo Bneed_any .nil (bJ fun _ _ z=>z))) (QSs.mk (PSs.nox (QSs.to (ac (cL BW (cI (bY (bd (qv 0) L.cl Mholds Gholds hr.mo Bholds .nil aG (aa (aD aK (a9 (qv 0) rfl) af pix) ag)))) (aj (aJ (bo (qv 0) L.cl Mcut Gcut hr.mo Bcut .nil aG))))
  (aj (aA (aD aK (a9 (qv 0) rfl) af pix))))))))),?_⟩
 refine ⟨_,rfl,p,dx,_,rfl,hp,lfn,p,dx,d,_,ks,rfl,hp,cV,hd,fun hne=>?_,fun he=>kE ?_⟩
 rotate_left
 .rw [he] at kr
  cases e:s.there with
  | nil=>rfl
  | cons a b=>rw [e] at kr;cases kr
 have hT:s.there≠[]:=fun z=>hne (by rw [z] at kr;cases kr;rfl)
 refine ⟨fun m Z H2=>∃ (f:Nat) (s2:LS),Z=[some (.ref p)]/\LateAt C H2 p d l s2/\Gm.LInv slt s2/\s2.there=s.there/\s2.row.length<=f/\s2.row.length<=s.row.length/\Gm.clean slt f s2=Gm.leastL slt s/\Kept [p,d,l] H H2/\m=s2.row.length,
  ⟨_,s.row.length,s,rfl,LA,LI,rfl,A9 _,A9 _,rfl,Kept.refl,rfl⟩,?_⟩
 rintro m Z H2 ⟨f,s2,rfl,LA2,LI2,e2,hf,hle,hc,k2,rfl⟩
 obtain ⟨dx2,hp2⟩:=LA2.ob
 obtain ⟨ks2,hd2,kr2⟩:=LA2.dc
 obtain ⟨xs2,hx2,rr2⟩:=LA2.ls
 have h0:=Gm.row_pos LI2 (by rw [e2];exact hT)
 obtain ⟨a,ea,ha,ia⟩:=rr2.at h0
 refine ⟨_,rfl,p,dx2,_,rfl,hp2,lfn,_,rfl,p,C,dx2,_,_,rfl,hp2,L.cl,L.en,gr,l,_,_,_,rfl,rfl,SqL.of hx2,ia,p,dx2,d,_,ks2,s2.there,a,_,rfl,hp2,cV,hd2,kr2,ha,_,rfl,aO (fun c1=>?_) (fun c1=>?_)⟩
 rotate_left
 .have c2:Gm.holds s2.there (Hg.g s2.row 0)=true:=by
   cases z:Gm.holds s2.there (Hg.g s2.row 0) with
   | true=>rfl
   | false=>exact absurd (show (!Gm.holds s2.there (Hg.g s2.row 0))=true by rw [z];rfl) c1
  have ec:Gm.leastL slt s=s2:=by
   rw [<-hc]
   cases f with
   | zero=>rfl
   | succ f=>unfold Gm.clean;rw [Bf c2]
  refine ⟨_,rfl,p,C,dx2,_,_,rfl,hp2,L.cl,L.en,gr,l,_,_,_,rfl,rfl,SqL.of hx2,ia,?_⟩
  exact kQ hT a H2 (by rw [ec];exact LA2) (by rw [ec];exact ha) k2
 have c2:¬ Gm.holds s2.there (Hg.g s2.row 0)=true:=fun z=>by
  have c3:(!Gm.holds s2.there (Hg.g s2.row 0))=true:=c1
  rw [z] at c3;cases c3
 obtain ⟨f,rfl⟩:∃ f0,f=f0+1:=⟨f-1,AX⟩
 have hc2:Gm.clean slt f (Gm.cut slt s2)=Gm.leastL slt s:=by
  rw [<-hc]
  conv=>rhs;unfold Gm.clean
  rw [Bc c2]
 have lc:(Gm.cut slt s2).row.length=s2.row.length-1:=Hg.cutf_len
 refine ⟨fun σ' H'=>∃ m',m'<s2.row.length/\∃ (f:Nat) (s2:LS),σ'=[some (.ref p)]/\LateAt C H' p d l s2/\Gm.LInv slt s2/\s2.there=s.there/\s2.row.length<=f/\s2.row.length<=s.row.length/\Gm.clean slt f s2=Gm.leastL slt s/\Kept [p,d,l] H H'/\m'=s2.row.length,fun σ' H' z=>z,?_⟩
 refine ⟨_,rfl,p,dx2,_,rfl,hp2,lfn,p,d,l,s2,rfl,LA2,h0,AX,fun H3 L3 k3=>?_⟩
 exact ⟨(Gm.cut slt s2).row.length,AX,f,Gm.cut slt s2,rfl,L3,Gm.cut_inv slt_slo LI2 h0 c2,e2,AX,AX,hc2,k2.trans (k3.mono fun b hb=>by simp only [ax,ah,Bn] at hb ⊢;rcases hb with h | h <;> simp [h]),rfl⟩
abbrev vU:Stmt:=aV (top 15) 1
theorem vZ:au ["self","name","worth"] ["self","name","worth"] (ao vU):=fs0
def vL (C X:Addr):Sp:=fun vs H Q E=>∃ (p d l:Addr) (s:LS) (n:Str) (w:Int),vs=[.ref p,.str n,.int w]/\LateAt C H p d l s/\s.row.length<=900/\s.there.length<=900/\n.length<=1000 /\
 (Gm.dget s.there n=none->∀l' H',LateAt C H' p d l' (Gm.putL slt s n w)->Kept [p,d,l] H H'->Fr3 H l l'->Q .non H')/\(Gm.dget s.there n≠none->E (.ref X) none H)
theorem yt {fneed_free:Addr}{fdneed_free:FuncData}(F:Fun K "put" "Late.put" vU f fd)(T:Bl mg)(L:LT K C)(Mneed_free:bx K C "need_free" fneed_free)(Gneed_free:av P w K mg base (CXe P w) 1 fneed_free fdneed_free ["self","name"] (uV C CC))(Bneed_free:Binds K fdneed_free ["self","name"] [])(Msweep_if_due:bx K C "sweep_if_due" fsweep_if_due)(Gsweep_if_due:av P w K mg base CX0 4 fsweep_if_due fdsweep_if_due ["self"] (fJ C))(Bsweep_if_due:Binds K fdsweep_if_due ["self"] [])(Menter:bx K C "enter" fenter)(Genter:av P w K mg base CX0 4 fenter fdenter ["self","name","worth"] (j8 C))(Benter:Binds K fdenter ["self","name","worth"] []):av P w K mg base (CXe P w) 5 f fd ["self","name","worth"] (vL C CC):=by
 have sc:=vZ
 refine F.okE vZ (fun vs H Q E h=>?_) (fun cdv A outer s H vs Q E hr h=>?_)
 .obtain ⟨p,d,l,s,n,w,rfl,_⟩:=h
  rfl
 obtain ⟨p,d,l,s,n,w,rfl,LA,h1,h2,hn,kQ,kE⟩:=h
 have hu:=hr.units0
 have npd:=LA.npd
 have npl:=LA.npl
 have ndl:=LA.ndl
 obtain ⟨dx,hp⟩:=LA.ob
 obtain ⟨ks,hd,kr⟩:=LA.dc
 obtain ⟨xs,hx,rr⟩:=LA.ls
 refine ⟨_,(QSs.to (ac (aJ (bd (qv 0) L.cl Mneed_free Gneed_free hr.mo Bneed_free .nil (bJ fun _ _ z=>z) (aa (qv 1) ag)))
  (ac (aJ (bd (qv 0) L.cl Menter Genter hr.mo Benter .nil aG (aa (qv 1) (aa (qv 2) ag))))
  (aj (aJ (bo (qv 0) L.cl Msweep_if_due Gsweep_if_due hr.mo Bsweep_if_due .nil aG)))))),?_⟩
 refine ⟨_,rfl,p,dx,_,rfl,hp,lfn,_,rfl,p,dx,d,_,ks,n,rfl,hp,cV,hd,hn,fun cs=>?_,fun cs=>?_⟩
 .rcases kr.get n with ⟨e1,e2⟩ | ⟨a,e,e1,e2,ha⟩
  rotate_left
  .rw [e1] at cs;cases cs
  refine ⟨_,rfl,p,dx,_,rfl,hp,lfn,_,rfl,_,rfl,p,d,l,s,n,w,rfl,LA,AX,AX,fun H2 L2 k2=>?_⟩
  obtain ⟨dx2,hp2⟩:=L2.ob
  refine ⟨_,rfl,p,dx2,_,rfl,hp2,lfn,p,d,l,_,rfl,L2,?_,fun l' H3 L3 k3 f3=>?_⟩
  .show (Gm.enter slt s n w).row.length<=1000
   rw [Gm.enter_row_perm.length_eq,Bi]
   show s.row.length+1<=1000
   lia
  .exact kQ e2 l' H3 L3 (k2.trans k3) (f3.imp id fun z=>L2.fresh k2 z)
 rcases kr.get n with ⟨e1,e2⟩ | ⟨a,e,e1,e2,ha⟩
 .rw [e1] at cs;cases cs
 exact kE (by rw [e2];intro z;cases z)
abbrev iV:Stmt:=aV (top 15) 3
theorem je:au ["self","name","worth"] ["self","name","worth"] (ao iV):=fs0
def jf (C X:Addr):Sp:=fun vs H Q E=>∃ (p d l:Addr) (s:LS) (n:Str) (w:Int),vs=[.ref p,.str n,.int w]/\LateAt C H p d l s/\s.row.length<=900/\s.there.length<=900/\n.length<=1000 /\
 (Gm.dget s.there n≠none->∀l' H',LateAt C H' p d l' (Gm.putL slt s n w)->Kept [p,d,l] H H'->Fr3 H l l'->Q .non H')/\(Gm.dget s.there n=none->E (.ref X) none H)
theorem qP (F:Fun K "change" "Late.change" iV f fd)(T:Bl mg)(L:LT K C)(Mneed:bx K C "need" fneed)(Gneed:av P w K mg base (CXe P w) 1 fneed fdneed ["self","name"] (mR C CN))(Bneed:Binds K fdneed ["self","name"] [])(Msweep_if_due:bx K C "sweep_if_due" fsweep_if_due)(Gsweep_if_due:av P w K mg base CX0 4 fsweep_if_due fdsweep_if_due ["self"] (fJ C))(Bsweep_if_due:Binds K fdsweep_if_due ["self"] [])(Menter:bx K C "enter" fenter)(Genter:av P w K mg base CX0 4 fenter fdenter ["self","name","worth"] (j8 C))(Benter:Binds K fdenter ["self","name","worth"] []):av P w K mg base (CXe P w) 5 f fd ["self","name","worth"] (jf C CN):=by
 have sc:=je
 refine F.okE je (fun vs H Q E h=>?_) (fun cdv A outer s H vs Q E hr h=>?_)
 .obtain ⟨p,d,l,s,n,w,rfl,_⟩:=h
  rfl
 obtain ⟨p,d,l,s,n,w,rfl,LA,h1,h2,hn,kQ,kE⟩:=h
 have hu:=hr.units0
 have npd:=LA.npd
 have npl:=LA.npl
 have ndl:=LA.ndl
 obtain ⟨dx,hp⟩:=LA.ob
 obtain ⟨ks,hd,kr⟩:=LA.dc
 obtain ⟨xs,hx,rr⟩:=LA.ls
 refine ⟨_,(QSs.to (ac (aJ (bd (qv 0) L.cl Mneed Gneed hr.mo Bneed .nil (bJ fun _ _ z=>z) (aa (qv 1) ag)))
  (ac (aJ (bd (qv 0) L.cl Menter Genter hr.mo Benter .nil aG (aa (qv 1) (aa (qv 2) ag))))
  (aj (aJ (bo (qv 0) L.cl Msweep_if_due Gsweep_if_due hr.mo Bsweep_if_due .nil aG)))))),?_⟩
 refine ⟨_,rfl,p,dx,_,rfl,hp,lfn,_,rfl,p,dx,d,_,ks,n,rfl,hp,cV,hd,hn,fun cs=>?_,fun cs=>?_⟩
 .rcases kr.get n with ⟨e1,e2⟩ | ⟨a,e,e1,e2,ha⟩
  .rw [e1] at cs;cases cs
  refine ⟨_,rfl,p,dx,_,rfl,hp,lfn,_,rfl,_,rfl,p,d,l,s,n,w,rfl,LA,AX,AX,fun H2 L2 k2=>?_⟩
  obtain ⟨dx2,hp2⟩:=L2.ob
  refine ⟨_,rfl,p,dx2,_,rfl,hp2,lfn,p,d,l,_,rfl,L2,?_,fun l' H3 L3 k3 f3=>?_⟩
  .show (Gm.enter slt s n w).row.length<=1000
   rw [Gm.enter_row_perm.length_eq,Bi]
   show s.row.length+1<=1000
   lia
  .exact kQ (by rw [e2];intro z;cases z) l' H3 L3 (k2.trans k3) (f3.imp id fun z=>L2.fresh k2 z)
 rcases kr.get n with ⟨e1,e2⟩ | ⟨a,e,e1,e2,ha⟩
 .exact kE e2
 rw [e1] at cs;cases cs
abbrev oG:Stmt:=aV (top 15) 2
theorem pC:au ["self","name"] ["self","name"] (ao oG):=fs0
def qt (C X:Addr):Sp:=fun vs H Q E=>∃ (p d l:Addr) (s:LS) (n:Str),vs=[.ref p,.str n]/\LateAt C H p d l s/\s.row.length<=900/\s.there.length<=900/\n.length<=1000 /\
 (Gm.dget s.there n≠none->∀l' H',LateAt C H' p d l' (Gm.dropL slt s n)->Kept [p,d,l] H H'->Fr3 H l l'->Q .non H')/\(Gm.dget s.there n=none->E (.ref X) none H)
theorem wu (F:Fun K "drop" "Late.drop" oG f fd)(T:Bl mg)(L:LT K C)(Mneed:bx K C "need" fneed)(Gneed:av P w K mg base (CXe P w) 1 fneed fdneed ["self","name"] (mR C CN))(Bneed:Binds K fdneed ["self","name"] [])(Msweep_if_due:bx K C "sweep_if_due" fsweep_if_due)(Gsweep_if_due:av P w K mg base CX0 4 fsweep_if_due fdsweep_if_due ["self"] (fJ C))(Bsweep_if_due:Binds K fdsweep_if_due ["self"] []):av P w K mg base (CXe P w) 5 f fd ["self","name"] (qt C CN):=by
 have sc:=pC
 refine F.okE pC (fun vs H Q E h=>?_) (fun cdv A outer s H vs Q E hr h=>?_)
 .obtain ⟨p,d,l,s,n,rfl,_⟩:=h
  rfl
 obtain ⟨p,d,l,s,n,rfl,LA,h1,h2,hn,kQ,kE⟩:=h
 have hu:=hr.units0
 have npd:=LA.npd
 have npl:=LA.npl
 have ndl:=LA.ndl
 obtain ⟨dx,hp⟩:=LA.ob
 obtain ⟨ks,hd,kr⟩:=LA.dc
 obtain ⟨xs,hx,rr⟩:=LA.ls
 refine ⟨_,(QSs.to (ac (aJ (bd (qv 0) L.cl Mneed Gneed hr.mo Bneed .nil (bJ fun _ _ z=>z) (aa (qv 1) ag)))
  (ac (aJ (fk (a9 (qv 0) rfl) (qv 1) ⟨rfl,rfl,rfl,rfl⟩))
  (aj (aJ (bo (qv 0) L.cl Msweep_if_due Gsweep_if_due hr.mo Bsweep_if_due .nil aG)))))),?_⟩
 refine ⟨_,rfl,p,dx,_,rfl,hp,lfn,_,rfl,p,dx,d,_,ks,n,rfl,hp,cV,hd,hn,fun cs=>?_,fun cs=>?_⟩
 .rcases kr.get n with ⟨e1,e2⟩ | ⟨a,e,e1,e2,ha⟩
  .rw [e1] at cs;cases cs
  refine ⟨_,rfl,p,C,dx,_,_,rfl,hp,L.cl,L.nt.th,cV,d,rfl,.inl ⟨ks,.inl hd⟩,_,rfl,ks,Sum.inr n,_,hd,rfl,e1,?_⟩
  have tt:∀b zs,H b=some (.tup zs)->(upd H d (.dK (bU ks (Sum.inr n)))) b=some (.tup zs):=fun b zs z=>by rw [ai (aU z hd (by intro y;cases y))];exact z
  have L2:LateAt C (upd H d (.dK (bU ks (Sum.inr n)))) p d l (Gm.dropT s n):=⟨⟨dx,by rw [ai npd];exact hp⟩,⟨_,ad,(kr.drop n).stay tt⟩,⟨xs,by rw [ai ndl.symm];exact hx,rr.stay tt⟩⟩
  have k2:Kept [p,d,l] H (upd H d (.dK (bU ks (Sum.inr n)))):=Kept.refl.put AY
  obtain ⟨dx2,hp2⟩:=L2.ob
  refine ⟨_,rfl,p,dx2,_,rfl,hp2,lfn,p,d,l,_,rfl,L2,?_,fun l' H3 L3 k3 f3=>?_⟩
  .show s.row.length<=1000
   lia
  .exact kQ (by rw [e2];intro z;cases z) l' H3 L3 (k2.trans k3) (f3.imp id fun z=>L2.fresh k2 z)
 rcases kr.get n with ⟨e1,e2⟩ | ⟨a,e,e1,e2,ha⟩
 .exact kE e2
 rw [e1] at cs;cases cs
abbrev jL:Stmt:=aV (top 15) 4
theorem lB:au ["self","entry"] ["self"] (ao jL):=fs0
def mB (C X:Addr):Sp:=fun vs H Q E=>∃ (p d l:Addr) (s:LS),vs=[.ref p]/\LateAt C H p d l s/\Gm.LInv slt s/\s.row.length<=1000 /\
 (s.there≠[]->∀q H',LateAt C H' p d l (Gm.leastL slt s)->H' q=some (.tup [.int (Hg.g (Gm.leastL slt s).row 0).w,.str (Hg.g (Gm.leastL slt s).row 0).n])->Kept [p,d,l] H H'->Q (.ref q) H')/\(s.there=[]->E (.ref X) none H)
theorem vn (F:Fun K "least" "Late.least" jL f fd)(T:Bl mg)(L:LT K C)(Mfirst_there:bx K C "first_there" ffirst_there)(Gfirst_there:av P w K mg base (CXe P w) 5 ffirst_there fdfirst_there ["self"] (jR C CN))(Bfirst_there:Binds K fdfirst_there ["self"] []):av P w K mg base (CXe P w) 6 f fd ["self"] (mB C CN):=by
 have sc:=lB
 refine F.okE lB (fun vs H Q E h=>?_) (fun cdv A outer s H vs Q E hr h=>?_)
 .obtain ⟨p,d,l,s,rfl,_⟩:=h
  rfl
 obtain ⟨p,d,l,s,rfl,LA,LI,h1,kQ,kE⟩:=h
 have hu:=hr.units0
 have npd:=LA.npd
 have npl:=LA.npl
 have ndl:=LA.ndl
 obtain ⟨dx,hp⟩:=LA.ob
 obtain ⟨ks,hd,kr⟩:=LA.dc
 obtain ⟨xs,hx,rr⟩:=LA.ls
 refine ⟨_,(QSs.to (ac (qst 1 sc.nd (bo (qv 0) L.cl Mfirst_there Gfirst_there hr.mo Bfirst_there .nil (bJ fun _ _ z=>z)))
  (aj (aA (bq (aa (aD aI (qv 1) af pix) (aa (aD aI (qv 1) af pix) ag))))))),?_⟩
 refine ⟨_,rfl,p,dx,_,rfl,hp,lfn,p,d,l,s,rfl,LA,LI,h1,fun hT a H2 L2 ha k2=>?_,kE⟩
 refine ⟨_,rfl,a,_,_,_,rfl,rfl,SqT.of ha,rfl,_,rfl,a,_,_,_,rfl,rfl,SqT.of ha,rfl,sz2,fun q hq=>?_⟩
 exact kQ hT q _ (L2.same (aq hq)) ad (k2.new hq)
abbrev mW:Stmt:=aV (top 15) 5
theorem oW:au ["self","entry"] ["self"] (ao mW):=fs0
def qu (C X:Addr):Sp:=fun vs H Q E=>∃ (p d l:Addr) (s:LS),vs=[.ref p]/\LateAt C H p d l s/\Gm.LInv slt s/\s.row.length<=1000 /\
 (s.there≠[]->∀q l' H',LateAt C H' p d l' (Gm.takeL slt s)->H' q=some (.tup [.int (Hg.g (Gm.leastL slt s).row 0).w,.str (Hg.g (Gm.leastL slt s).row 0).n])->Kept [p,d,l] H H'->Fr3 H l l'->Q (.ref q) H')/\(s.there=[]->E (.ref X) none H)
theorem uz (F:Fun K "take" "Late.take" mW f fd)(T:Bl mg)(L:LT K C)(Mfirst_there:bx K C "first_there" ffirst_there)(Gfirst_there:av P w K mg base (CXe P w) 5 ffirst_there fdfirst_there ["self"] (jR C CN))(Bfirst_there:Binds K fdfirst_there ["self"] [])(Mcut:bx K C "cut" fcut)(Gcut:av P w K mg base CX0 4 fcut fdcut ["self"] (nU C))(Bcut:Binds K fdcut ["self"] [])(Msweep_if_due:bx K C "sweep_if_due" fsweep_if_due)(Gsweep_if_due:av P w K mg base CX0 4 fsweep_if_due fdsweep_if_due ["self"] (fJ C))(Bsweep_if_due:Binds K fdsweep_if_due ["self"] []):av P w K mg base (CXe P w) 6 f fd ["self"] (qu C CN):=by
 have sc:=oW
 refine F.okE oW (fun vs H Q E h=>?_) (fun cdv A outer s H vs Q E hr h=>?_)
 .obtain ⟨p,d,l,s,rfl,_⟩:=h
  rfl
 obtain ⟨p,d,l,s,rfl,LA,LI,h1,kQ,kE⟩:=h
 have hu:=hr.units0
 have npd:=LA.npd
 have npl:=LA.npl
 have ndl:=LA.ndl
 obtain ⟨dx,hp⟩:=LA.ob
 obtain ⟨ks,hd,kr⟩:=LA.dc
 obtain ⟨xs,hx,rr⟩:=LA.ls
 refine ⟨_,(QSs.to (ac (qst 1 sc.nd (bo (qv 0) L.cl Mfirst_there Gfirst_there hr.mo Bfirst_there .nil (bJ fun _ _ z=>z)))
  (ac (aJ (bo (qv 0) L.cl Mcut Gcut hr.mo Bcut .nil aG))
  (ac (aJ (fk (a9 (qv 0) rfl) (aD aI (qv 1) af pix) ⟨rfl,rfl,rfl,rfl⟩))
  (ac (aJ (bo (qv 0) L.cl Msweep_if_due Gsweep_if_due hr.mo Bsweep_if_due .nil aG))
  (aj (aA (bq (aa (aD aI (qv 1) af pix) (aa (aD aI (qv 1) af pix) ag)))))))))),?_⟩
 refine ⟨_,rfl,p,dx,_,rfl,hp,lfn,p,d,l,s,rfl,LA,LI,h1,fun hT a H2 L2 ha k2=>?_,kE⟩
 have cl:=Gm.least_ok slt_slo LI hT
 have hle:(Gm.leastL slt s).row.length<=1000:=A0 (Gm.least_len) h1
 obtain ⟨dx2,hp2⟩:=L2.ob
 refine ⟨_,rfl,p,dx2,_,rfl,hp2,lfn,p,d,l,_,rfl,L2,cl.pos,hle,fun H3 L3 k3=>?_⟩
 have k3':Kept [p,d,l] H2 H3:=k3.mono fun b hb=>by simp only [ax,ah,Bn] at hb ⊢;rcases hb with h | h <;> simp [h]
 have ha3:=k3'.tups L2.notup _ _ ha
 obtain ⟨dx3,hp3⟩:=L3.ob
 obtain ⟨ks3,hd3,kr3⟩:=L3.dc
 obtain ⟨xs3,hx3,rr3⟩:=L3.ls
 have hin:=Gm.holds_in cl.hold
 rcases kr3.get (Hg.g (Gm.leastL slt s).row 0).n with ⟨e1,e2⟩ | ⟨b,e',e1,e2,hb⟩
 .have:=Gm.dget_of cl.inv.nd hin
  have e3:Gm.dget (Gm.leastL slt s).there (Hg.g (Gm.leastL slt s).row 0).n=none:=e2
  rw [e3] at this
  cases this
 refine ⟨_,rfl,p,C,dx3,_,_,rfl,hp3,L.cl,L.nt.th,cV,d,rfl,.inl ⟨ks3,.inl hd3⟩,_,rfl,a,_,_,_,rfl,rfl,SqT.of ha3,rfl,ks3,Sum.inr (Hg.g (Gm.leastL slt s).row 0).n,_,hd3,rfl,e1,?_⟩
 have tt:∀b zs,H3 b=some (.tup zs)->(upd H3 d (.dK (bU ks3 (Sum.inr (Hg.g (Gm.leastL slt s).row 0).n)))) b=some (.tup zs):=fun b zs z=>by rw [ai (aU z hd3 (by intro y;cases y))];exact z
 have L4:LateAt C (upd H3 d (.dK (bU ks3 (Sum.inr (Hg.g (Gm.leastL slt s).row 0).n)))) p d l (Gm.dropT (Gm.cut slt (Gm.leastL slt s)) (Hg.g (Gm.leastL slt s).row 0).n):=⟨⟨dx3,by rw [ai npd];exact hp3⟩,⟨_,ad,(kr3.drop _).stay tt⟩,⟨xs3,by rw [ai ndl.symm];exact hx3,rr3.stay tt⟩⟩
 have k4:Kept [p,d,l] H (upd H3 d (.dK (bU ks3 (Sum.inr (Hg.g (Gm.leastL slt s).row 0).n)))):=(k2.trans k3').put AY
 have ha4:=tt _ _ ha3
 generalize (upd H3 d (.dK (bU ks3 (Sum.inr (Hg.g (Gm.leastL slt s).row 0).n))))=H4 at L4 k4 ha4 ⊢
 obtain ⟨dx4,hp4⟩:=L4.ob
 refine ⟨_,rfl,p,dx4,_,rfl,hp4,lfn,p,d,l,_,rfl,L4,?_,fun l' H5 L5 k5 f5=>?_⟩
 .have lc:(Gm.cut slt (Gm.leastL slt s)).row.length=(Gm.leastL slt s).row.length-1:=Hg.cutf_len
  show (Gm.cut slt (Gm.leastL slt s)).row.length<=1000
  lia
 have ha5:=k5.tups L4.notup _ _ ha4
 have f6:Fr3 H l l':=f5.imp id fun z=>L4.fresh k4 z
 refine ⟨_,rfl,a,_,_,_,rfl,rfl,SqT.of ha5,rfl,_,rfl,a,_,_,_,rfl,rfl,SqT.of ha5,rfl,sz2,fun q hq=>?_⟩
 exact kQ hT q l' _ (L5.same (aq hq)) ad ((k4.trans k5).new hq) f6
abbrev tM:Stmt:=aV (top 15) 6
theorem tj:au ["self"] ["self"] (ao tM):=fs0
def oR (C:Addr):Sp:=fun vs H Q _=>∃ (p d l:Addr) (s:LS),vs=[.ref p]/\LateAt C H p d l s/\∀q xs H',H' q=some (.tup xs)->RR H' xs s.row->Same H H'->Q (.ref q) H'
theorem yI (F:Fun K "row" "Late.row" tM f fd)(T:Bl mg)(L:LT K C):av P w K mg base CX0 1 f fd ["self"] (oR C):=by
 have sc:=tj
 refine F.ok tj fun cdv A outer s H vs Q E hr h=>?_
 obtain ⟨p,d,l,s,rfl,LA,k⟩:=h
 have hu:=hr.units0
 obtain ⟨dx,hp⟩:=LA.ob
 obtain ⟨xs,hx,rr⟩:=LA.ls
 refine ⟨_,(QSs.to (aj (aA (qcT cS T.z_tuple (aa (a9 (qv 0) rfl) ag))))),?_⟩
 refine ⟨_,rfl,p,C,dx,_,_,rfl,hp,L.cl,L.en,gr,l,xs,rfl,.inl ⟨SqL.of hx,fun q hq=>?_⟩⟩
 exact k q xs _ ad (rr.stay fun b z h=>aq hq _ _ h) (aq hq)
abbrev mQ:Stmt:=aV (top 15) 7
theorem p5:au ["self"] ["self"] (ao mQ):=fs0
def pR (C:Addr):Sp:=fun vs H Q _=>∃ (p d l:Addr) (s:LS),vs=[.ref p]/\LateAt C H p d l s/\Q (.int s.looks) H
theorem xq (F:Fun K "work" "Late.work" mQ f fd)(T:Bl mg)(L:LT K C):av P w K mg base CX0 1 f fd ["self"] (pR C):=by
 have sc:=p5
 refine F.ok p5 fun cdv A outer s H vs Q E hr h=>?_
 obtain ⟨p,d,l,s,rfl,LA,k⟩:=h
 have hu:=hr.units0
 obtain ⟨dx,hp⟩:=LA.ob
 refine ⟨_,(QSs.to (aj (aA (a9 (qv 0) rfl)))),?_⟩
 exact ⟨_,rfl,p,C,dx,_,_,rfl,hp,L.cl,L.lk,qc,k⟩
def WN (H:Hp)(zs:List V)(es:List En):Prop:=Paired (fun (v:V) (e:En)=>∃ a,v=.ref a/\H a=some (.tup [.int e.w,.str e.n])) zs es
theorem WN.stay {es:List En}(r:WN H zs es)(k:∀b l,H b=some (.tup l)->H' b=some (.tup l)):WN H' zs es:=Paired.mapP r fun p q ⟨a,b,c⟩=>⟨a,b,k _ _ c⟩
structure FrH (H:Hp)(pa:Addr)(zs:List V)(row:List En)(P:List Nat):Prop where
 hp:H pa=some (.lst zs)
 en:EnP (cq H) H zs
 hh:IsH (ltT (cq H)) zs
 pm:(zs.map (cq H)).Perm (P.map (kP row))
section
variable {H H':Hp}{pa:Addr}{zs:List V}{row:List En}{P:List Nat}
theorem EnP.re {t:V->List V}(e:EnP t H zs):EnP (cq H) H zs:=⟨eo H,fun x hx=>by rw [EnP.key e hx];exact e.mem x hx⟩
theorem FrH.len (F:FrH H pa zs row P):zs.length=P.length:=by
 have:=F.pm.length_eq
 rw [Bh,Bh] at this
 exact this
theorem FrH.of {t:V->List V}(hp:H pa=some (.lst zs))(e:EnP t H zs)(h:IsH (ltT t) zs)(pm:(zs.map t).Perm (P.map (kP row))):FrH H pa zs row P:=by
 have ke:∀x∈zs,cq H x=t x:=fun x hx=>EnP.key e hx
 exact ⟨hp,EnP.re e,sf ke h,by rw [Du ke];exact pm⟩
theorem FrH.stay (F:FrH H pa zs row P)(hp:H' pa=some (.lst zs))(t:∀b l,H b=some (.tup l)->H' b=some (.tup l)):FrH H' pa zs row P:=FrH.of hp (F.en.move t) F.hh F.pm
end
theorem vN {e:V}{k:Nat}(h:k<xs.length):g (xs++[e]) k=g xs k:=by
 simp only [g,Bz,CD h]
theorem rH {lt:V->V->Bool}(o:Od lt)(h:IsH lt xs){e:V}:IsH lt (up lt xs.length (xs++[e]) xs.length 0).1:=by
 have l1:(xs++[e]).length=xs.length+1:=by rw [Bi];rfl
 refine fH o (A9 _) AX (fun k k0 k1 k2=>?_) (fun k k0 k1 k2 k3=>by lia)
 rw [vN AX,vN AX]
 exact h k k0 AX
abbrev oh:Stmt:=top 20
theorem pY:au ["places","row","place"] ["places","row","place"] (ao oh):=fs0
def qz:Sp:=fun vs H Q _=>∃ (pa q:Addr) (zs xs:List V) (row:List En) (P:List Nat) (i:Nat),vs=[.ref pa,.ref q,.int i]/\H q=some (.tup xs)/\RR H xs row/\FrH H pa zs row P/\P.length<=990 /\
 ∀zs' H',FrH H' pa zs' row (P++if i<row.length then [i] else [])->Kept [pa] H H'->Q .non H'
theorem vo {fl:Addr}{fdl:FuncData}(F:Fun K "offer" "offer" oh f fd)(T:Bl mg)(Glay_in:av P w K mg base CX0 3 fl fdl ["heap","entry"] qm)(Dlay_in:Nm K mg "lay_in" fl fdl ["heap","entry"]):av P w K mg base CX0 4 f fd ["places","row","place"] qz:=by
 have sc:=pY
 refine F.okQ pY fun cdv A outer s_ H vs Q E hr h=>?_
 obtain ⟨pa,q,zs,xs,row,P,i,rfl,hq,rr,F0,hl,k⟩:=h
 have hu:=hr.units0
 refine ⟨_,(aj (aR (aw dq (qv 2) (qcB aH T.z_len (aa (qv 1) ag)) (aE _)) (aj (aJ (qcl Glay_in hr Dlay_in aG (aa (qv 0) (aa (bq (aa (aD aI (qv 1) (qv 2) pix) (aa (qv 2) ag))) ag))))) aB)),?_⟩
 have lx:=rr.len
 refine ⟨_,rfl,_,rfl,q,xs,rfl,.inr (SqT.of hq),_,_,rfl,rfl,_,rfl,aO (fun c=>?_) (fun c=>?_)⟩
 .have c':(i:Int)<(xs.length:Int):=Ba c
  have hi:i<row.length:=by lia
  obtain ⟨a,ea,ha,ia⟩:=rr.at hi
  refine ⟨_,rfl,_,rfl,_,rfl,q,_,_,_,rfl,rfl,SqT.of hq,ia,_,rfl,sz2,fun t ht=>?_⟩
  refine gnew ht fun H1 s1 g1=>?_
  have F1:=F0.stay (s1 _ _ F0.hp) fun b l e=>s1 _ _ e
  have pt:PlH H1 t (kP row i):=⟨a,_,_,_,_,g1,s1 _ _ ha,rfl⟩
  have kt:cq H1 (.ref t)=kP row i:=oX pt
  have e1:EnP (cq H1) H1 (zs++[.ref t]):=⟨eo H1,fun x hx=>by
   rcases BG.mp hx with z | z
   .exact F1.en.mem x z
   .rw [AZ z,kt];exact ⟨t,rfl,pt⟩⟩
  have lz:=F0.len
  refine ⟨pa,zs,.ref t,cq H1,rfl,F1.hp,e1,AX,fun H' h' f'=>?_⟩
  have pu:(up (ltT (cq H1)) zs.length (zs++[.ref t]) zs.length 0).1.Perm (zs++[.ref t]):=df (by rw [Bi];exact CS _)
  have tk:∀b l,H1 b=some (.tup l)->H' b=some (.tup l):=fun b l e=>f' b _ e (aU e F1.hp (by intro z;cases z))
  refine k _ H' (FrH.of (t:=cq H1) h' ((e1.sub fun y hy=>pu.mem_iff.mp hy).move tk) (rH (uX (eo H1)) F1.hh) ?_) (fun b o e n=>f' b o (s1 _ _ e) (fun z=>n (Bt.mpr z)))
  refine (pu.map _).trans ?_
  rw [BL,BL,Bf hi]
  refine F1.pm.append ?_
  show List.Perm [cq H1 (.ref t)] [kP row i]
  rw [kt]
 have c':¬ (i:Int)<(xs.length:Int):=fun z=>c (Bb z)
 refine k zs H ?_ Kept.refl
 rw [Bc AX,Cg]
 exact F0
abbrev jK:Stmt:=top 19
theorem kS:au ["heap","k","row","places","things","steps","place","entry"] ["heap","k"] (ao jK):=fs0
def lI (C:Addr):Sp:=fun vs H Q _=>∃ (p d l:Addr) (s:LS) (k:Nat),vs=[.ref p,.int k]/\LateAt C H p d l s/\Gm.LInv slt s/\s.stamp<=900 /\
 ∀(o q1:Addr) (zs:List V) (P ps:List Nat) (H':Hp),H' o=some (.tup [.ref q1,.int ps.length])->H' q1=some (.tup zs)->WN H' zs (bb s.row (Gm.holds s.there) ps)->vG s.row (Gm.holds s.there) k P ps->Same H H'->Q (.ref o) H'
theorem qS {frow fholds fo fc:Addr}{fdrow fdc:FuncData}(F:Fun K "firsts" "firsts" jK f fd)(T:Bl mg)(L:LT K C)(Mrow:bx K C "row" frow)(Grow:av P w K mg base CX0 1 frow fdrow ["self"] (oR C))(Brow:Binds K fdrow ["self"] [])(Mholds:bx K C "holds" fholds)(Gholds:av P w K mg base CX0 1 fholds fdholds ["self","entry"] (gN C))(Bholds:Binds K fdholds ["self","entry"] [])(Goffer:av P w K mg base CX0 4 fo fdo ["places","row","place"] qz)(Doffer:Nm K mg "offer" fo fdo ["places","row","place"])(Gcut_first:av P w K mg base CX0 3 fc fdc ["heap"] qg)(Dcut_first:Nm K mg "cut_first" fc fdc ["heap"]):av P w K mg base CX0 5 f fd ["heap","k"] (lI C):=by
 have sc:=kS
 refine F.okQ kS fun cdv A outer s_ H vs Q E hr h=>?_
 obtain ⟨p,d,l,s,k,rfl,LA,LI,hs,kQ⟩:=h
 have hu:=hr.units0
 have rl:=LI.len
 refine ⟨_,(ac (qst 2 sc.nd (bo (qv 0) L.cl Mrow Grow hr.mo Brow .nil aG))
  (ac (qst 3 sc.nd (bn ag))
  (ac (aJ (qcl Goffer hr Doffer aG (aa (qv 3) (aa (qv 2) (aa af ag)))))
  (ac (qst 4 sc.nd (bn ag))
  (ac (qst 5 sc.nd af)
  (ac (cL BW (QW.pt (cN (aw dq (qcB aH T.z_len (aa (qv 4) ag)) (qv 1) (aE _)) (cb (aw iu (qcB aH T.z_len (aa (qv 3) ag)) af (aE _))))) (ac (qst 6 sc.nd (aD aI (aD aK (qv 3) af pix) af pix))
  (ac (aJ (qcl Gcut_first hr Dcut_first aG (aa (qv 3) ag)))
  (ac (qst 5 sc.nd (ap aQ (qv 5) af))
  (ac (qst 7 sc.nd (aD aI (qv 2) (qv 6) pix))
  (ac (nT (bY (bd (qv 0) L.cl Mholds Gholds hr.mo Bholds .nil aG (aa (qv 7) ag))) (aj (aJ (jm Ct Di Dj cy (qv 4) (aa (bq (aa (aD aI (qv 7) af pix) (aa (aD aI (qv 7) af pix) ag))) ag)))) aB)
  (ac (aJ (qcl Goffer hr Doffer aG (aa (qv 3) (aa (qv 2) (aa (ap aQ (ap cz af (qv 6)) af) ag)))))
  (aj (aJ (qcl Goffer hr Doffer aG (aa (qv 3) (aa (qv 2) (aa (ap aQ (ap cz af (qv 6)) af) ag)))))))))))))
  (aj (aA (bq (aa (qcT cS T.z_tuple (aa (qv 4) ag)) (aa (qv 5) ag))))))))))),?_⟩
 obtain ⟨dx,hp⟩:=LA.ob
 refine ⟨_,rfl,p,dx,_,rfl,hp,lfn,p,d,l,s,rfl,LA,fun q xs H1 hq rr s1=>?_⟩
 have lx:=rr.len
 refine ⟨sz0,fun pa hpa=>?_⟩
 refine gnew hpa fun H2 s2 g2=>?_
 have F2:FrH H2 pa [] s.row []:=⟨g2,⟨eo H2,fun x hx=>nomatch hx⟩,(fun _ _ z=>nomatch z),List.Perm.refl _⟩
 refine ⟨_,rfl,_,rfl,pa,q,[],xs,s.row,[],0,rfl,s2 _ _ hq,rr.stay fun b l e=>s2 _ _ e,F2,by show 0<=990;decide,fun z0 H3 F3 k3=>?_⟩
 have s13:Same H1 H3:=fun b o e=>k3 b o (s2 _ _ e) (fun z=>by rw [AZ z,hpa] at e;cases e)
 refine ⟨sz0,fun ta hta=>?_⟩
 have s4:=aq (o:=.lst []) hta
 have g4:=ad (H:=H3) (a:=ta) (o:=.lst [])
 have npt:pa≠ta:=ak F3.hp hta
 generalize upd H3 ta (.lst [])=H4 at s4 g4 ⊢
 have e0:([]++if 0<s.row.length then [0] else []:List Nat)=[0].filter fun j=>decide (j<s.row.length):=by
  by_cases z:0<s.row.length
  .rw [Bf z,BO,Bf (Bb z)];rfl
  .rw [Bc z,BO,Bc (fun q=>z (Ba q))];rfl
 rw [e0] at F3
 have hpa0:=hpa
 have hta1:H1 ta=none:=by
  cases e:H1 ta with
  | none=>rfl
  | some u=>rw [s13 _ _ e] at hta;cases hta
 refine ⟨fun m Z H5=>∃ (zs ts:List V) (P ps:List Nat) (o1 o2:Option V),Z=[some (.ref p),some (.int k),some (.ref q),some (.ref pa),some (.ref ta),some (.int ps.length),o1,o2]/\FrH H5 pa zs s.row P/\Fst s.row (Gm.holds s.there) k P ps/\H5 ta=some (.lst ts)/\WN H5 ts (bb s.row (Gm.holds s.there) ps)/\Kept [] H1 H5/\pa≠ta/\m=s.row.length-ps.length,
  ⟨_,z0,[],_,[],none,none,rfl,F3.stay (s4 _ _ F3.hp) (fun b l e=>s4 _ _ e),Fst.start,g4,.nil,Kept.of_same (s13.trans s4),npt,rfl⟩,?_⟩
 rintro m Z H5 ⟨zs,ts,P,ps,o1,o2,rfl,F5,fs5,h5,wn5,k5,_,rfl⟩
 have s15:Same H1 H5:=fun b o e=>k5 b o e ah
 have lf:=fs5.len
 have lz:=F5.len
 have lts:ts.length=(bb s.row (Gm.holds s.there) ps).length:=CU wn5
 have lhp:(bb s.row (Gm.holds s.there) ps).length<=ps.length:=by
  unfold bb
  refine A0 (BQ _ _) ?_
  rw [Bh]
  exact A9 _
 refine ⟨_,rfl,ta,ts,rfl,.inl (SqL.of h5),_,rfl,_,_,rfl,rfl,_,rfl,aO (fun c1=>⟨_,rfl,pa,zs,rfl,.inl (SqL.of F5.hp),_,_,rfl,rfl,_,rfl,aO (fun c2=>?_) (fun c2=>?_)⟩) (fun c1=>bL ?_)⟩
 rotate_left
 .have c2':¬ (zs.length:Int)>0:=by simpa using c2
  have pz:P=[]:=Bx.mp AX
  refine ⟨_,rfl,ta,ts,rfl,.inl ⟨SqL.of h5,fun q1 hq1=>?_⟩⟩
  refine gnew hq1 fun H6 s6 g6=>?_
  refine ⟨_,rfl,sz2,fun o ho=>?_⟩
  have s7:=aq (o:=.tup [.ref q1,.int ps.length]) ho
  exact kQ o q1 ts P ps _ ad (s7 _ _ g6) ((wn5.stay fun b l e=>s6 _ _ e).stay fun b l e=>s7 _ _ e) ⟨fs5,.inr pz⟩ (((s1.trans s15).trans s6).trans s7)
 .have c1':¬ (ts.length:Int)<(k:Int):=by simpa using c1
  refine ⟨_,rfl,ta,ts,rfl,.inl ⟨SqL.of h5,fun q1 hq1=>?_⟩⟩
  refine gnew hq1 fun H6 s6 g6=>?_
  refine ⟨_,rfl,sz2,fun o ho=>?_⟩
  have s7:=aq (o:=.tup [.ref q1,.int ps.length]) ho
  exact kQ o q1 ts P ps _ ad (s7 _ _ g6) ((wn5.stay fun b l e=>s6 _ _ e).stay fun b l e=>s7 _ _ e) ⟨fs5,.inl AX⟩ (((s1.trans s15).trans s6).trans s7)
 have c1':(ts.length:Int)<(k:Int):=Ba c1
 have c2':(zs.length:Int)>0:=by simpa using c2
 refine ⟨fun σ' H'=>∃ m',m'<s.row.length-ps.length/\∃ (zs ts:List V) (P ps:List Nat) (o1 o2:Option V),σ'=[some (.ref p),some (.int k),some (.ref q),some (.ref pa),some (.ref ta),some (.int ps.length),o1,o2]/\FrH H' pa zs s.row P/\Fst s.row (Gm.holds s.there) k P ps/\H' ta=some (.lst ts)/\WN H' ts (bb s.row (Gm.holds s.there) ps)/\Kept [] H1 H'/\pa≠ta/\m'=s.row.length-ps.length,fun σ' H' z=>z,?_⟩
 obtain ⟨a0,ea0,pl0,m0,ia0⟩:=F5.en.gat (show 0<zs.length by lia)
 obtain ⟨i,hi,ei⟩:∃ i∈P,kP s.row i=cq H5 (g zs 0):=by
  have:=F5.pm.mem_iff.mp (BF.mpr ⟨_,m0,rfl⟩)
  obtain ⟨i,h1,h2⟩:=BF.mp this
  exact ⟨i,h1,h2⟩
 have ilt:i<s.row.length:=fs5.inv.lt i (Cd _ hi)
 have mn:∀j∈P,ltI s.row j i=false:=fun j hj=>by
  obtain ⟨y,hy,ey⟩:=BF.mp (F5.pm.mem_iff.mpr (BF.mpr ⟨j,hj,rfl⟩))
  have:=iM (uX (eo H5)) F5.hh hy
  unfold ltT at this
  rw [ey,<-ei] at this
  exact this
 obtain ⟨e,w',n',z',i',h1,h2,h3⟩:=pl0
 obtain rfl:i'=(i:Int):=by
  rw [<-ei] at h3
  unfold kP enV at h3
  injection h3 with _ h3;injection h3 with _ h3;injection h3 with _ h3;injection h3 with h3 _
  exact (V.int.inj h3).symm
 rw [ea0] at ia0
 refine ⟨_,rfl,pa,_,_,_,rfl,rfl,SqL.of F5.hp,ia0,a0,_,_,_,rfl,rfl,SqT.of h1,rfl,?_⟩
 refine ⟨_,rfl,pa,zs,cq H5,rfl,F5.hp,F5.en,AX,AX,fun H6 h6 f6=>?_⟩
 have tk6:∀b l,H5 b=some (.tup l)->H6 b=some (.tup l):=fun b l e=>f6 b _ e (aU e F5.hp (by intro z;cases z))
 have pc:=cv (lt:=ltT (cq H5)) (show 0<zs.length by lia)
 have F6:FrH H6 pa (cutf (ltT (cq H5)) zs).1 s.row (P.erase i):=by
  refine FrH.of (t:=cq H5) h6 ((F5.en.sub fun y hy=>pc.mem_iff.mp (Bk _ hy)).move tk6) (dO (uX (eo H5)) F5.hh AX) ?_
  have a1:(cq H5 (g zs 0)::(cutf (ltT (cq H5)) zs).1.map (cq H5)).Perm (kP s.row i::(P.erase i).map (kP s.row)):=(pc.map (cq H5)).trans (F5.pm.trans ((FV hi).map _))
  rw [ei] at a1
  exact List.Perm.cons_inv a1
 generalize (cutf (ltT (cq H5)) zs).1=zs6 at F6
 have h6t:H6 ta=some (.lst ts):=f6 _ _ h5 (fun z=>npt z.symm)
 have s16:Same H1 H6:=fun b o e=>f6 b o (s15 _ _ e) (fun z=>by rw [z,hpa0] at e;cases e)
 have wn6:=wn5.stay tk6
 refine ⟨_,rfl,_,_,rfl,rfl,?_⟩
 obtain ⟨ae,eae,hae,iae⟩:=rr.at ilt
 refine ⟨_,rfl,_,rfl,q,_,_,_,rfl,rfl,SqT.of (s16 _ _ hq),iae,?_⟩
 have hae6:=s16 _ _ hae
 have L6:=LA.same (s1.trans s16)
 obtain ⟨dx6,hp6⟩:=L6.ob
 obtain ⟨ks6,hd6,kr6⟩:=L6.dc
 have hps:bb s.row (Gm.holds s.there) (ps++[i])=bb s.row (Gm.holds s.there) ps++[Hg.g s.row i].filter (Gm.holds s.there):=by
  unfold bb
  rw [BL,Ea]
  rfl
 refine ⟨fun σ' H'=>∃ ts',σ'=[some (.ref p),some (.int k),some (.ref q),some (.ref pa),some (.ref ta),some (.int ((ps.length:Int)+1)),some (.int i),some (.ref ae)]/\H' ta=some (.lst ts')/\WN H' ts' (bb s.row (Gm.holds s.there) (ps++[i]))/\FrH H' pa zs6 s.row (P.erase i)/\Same H1 H',?_,?_⟩
 .refine ⟨_,rfl,p,dx6,_,rfl,hp6,lfn,_,rfl,p,dx6,d,_,ks6,s.there,ae,_,rfl,hp6,cV,hd6,kr6,hae6,_,rfl,aO (fun c=>?_) (fun c=>?_)⟩
  .refine ⟨_,rfl,.inl ⟨rfl,_,SqL.of h6t⟩,_,rfl,ae,_,_,_,rfl,rfl,SqT.of hae6,rfl,_,rfl,ae,_,_,_,rfl,rfl,SqT.of hae6,rfl,sz2,fun t ht=>?_⟩
   have s7:=aq (o:=.tup [.int (Hg.g s.row i).w,.str (Hg.g s.row i).n]) ht
   have g7:=ad (H:=H6) (a:=t) (o:=.tup [.int (Hg.g s.row i).w,.str (Hg.g s.row i).n])
   refine ⟨ta,ts,_,rfl,rfl,s7 _ _ h6t,aY AX,ts++[.ref t],rfl,ad,?_,?_,?_⟩
   .rw [hps,BO,Bf c]
    have tk:∀b l,(upd H6 t (.tup [.int (Hg.g s.row i).w,.str (Hg.g s.row i).n])) b=some (.tup l)->upd (upd H6 t (.tup [.int (Hg.g s.row i).w,.str (Hg.g s.row i).n])) ta (.lst (ts++[.ref t])) b=some (.tup l):=fun b l e=>by rw [ai (aU e (s7 _ _ h6t) (by intro z;cases z))];exact e
    exact Gb ((wn6.stay fun b l e=>s7 _ _ e).stay tk) ⟨t,rfl,tk _ _ g7⟩
   .refine F6.stay (by rw [ai npt];exact s7 _ _ F6.hp) fun b l e=>?_
    rw [ai (aU e h6t (by intro z;cases z))]
    exact s7 _ _ e
   .intro b o e
    rw [ai (fun z=>by rw [z,hta1] at e;cases e)]
    exact s7 _ _ (s16 _ _ e)
  .refine ⟨ts,rfl,h6t,?_,F6,s16⟩
   rw [hps,BO,Bc c,EH,Cg]
   exact wn6
 rintro σ' H7 ⟨ts',rfl,h7,wn7,F7,s17⟩
 have rr7:=rr.stay (H':=H7) fun b l e=>s17 _ _ e
 have le:=Fd hi
 have e1:(2*(i:Int)+1)=((2*i+1:Nat):Int):=by lia
 have e2:(2*(i:Int)+2)=((2*i+2:Nat):Int):=by lia
 refine ⟨_,rfl,_,rfl,_,rfl,_,_,rfl,rfl,.inl ⟨AW,AW⟩,_,_,rfl,rfl,pa,q,zs6,xs,s.row,P.erase i,2*i+1,(by show [V.ref pa,V.ref q,V.int (2*(i:Int)+1)]=_;rw [e1]),s17 _ _ hq,rr7,F7,AX,fun zs8 H8 F8 k8=>?_⟩
 have s18:Same H1 H8:=fun b o e=>k8 b o (s17 _ _ e) (fun z=>by rw [AZ z,hpa0] at e;cases e)
 have tk8:∀b l,H7 b=some (.tup l)->H8 b=some (.tup l):=fun b l e=>k8 b _ e (fun z=>aU e F7.hp (by intro z;cases z) (AZ z))
 have rr8:=rr.stay (H':=H8) fun b l e=>s18 _ _ e
 have l8:(P.erase i++if 2*i+1<s.row.length then [2*i+1] else []).length<=990:=by
  rw [Bi]
  have:(if 2*i+1<s.row.length then [2*i+1] else []:List Nat).length<=1:=by split <;> simp
  lia
 refine ⟨_,rfl,_,rfl,_,rfl,_,_,rfl,rfl,.inl ⟨AW,AW⟩,_,_,rfl,rfl,pa,q,zs8,xs,s.row,_,2*i+2,(by show [V.ref pa,V.ref q,V.int (2*(i:Int)+2)]=_;rw [e2]),s18 _ _ hq,rr8,F8,l8,fun zs9 H9 F9 k9=>?_⟩
 have s19:Same H1 H9:=fun b o e=>k9 b o (s18 _ _ e) (fun z=>by rw [AZ z,hpa0] at e;cases e)
 have tk9:∀b l,H8 b=some (.tup l)->H9 b=some (.tup l):=fun b l e=>k9 b _ e (fun z=>aU e F8.hp (by intro z;cases z) (AZ z))
 have h9:=k9 _ _ (k8 _ _ h7 (fun z=>npt (AZ z).symm)) (fun z=>npt (AZ z).symm)
 have ek:(P.erase i++(if 2*i+1<s.row.length then [2*i+1] else []))++(if 2*i+2<s.row.length then [2*i+2] else [])=P.erase i++dD s.row.length i:=by
  rw [Cq]
  congr 1
  unfold dD
  rw [BO,BO,EH]
  by_cases q1:2*i+1<s.row.length <;> by_cases q2:2*i+2<s.row.length <;> simp [q1,q2]
 rw [ek] at F9
 refine ⟨s.row.length-(ps++[i]).length,by rw [Bi];show _-(ps.length+1)<_;lia,zs9,ts',_,ps++[i],some (.int i),some (.ref ae),?_,F9,Fst.step fs5 AX hi mn,h9,(wn7.stay tk8).stay tk9,Kept.of_same s19,npt,rfl⟩
 rw [Bi]
 rfl
abbrev mU:Stmt:=aV (top 31) 4
theorem qw:au ["self","name"] ["self","name"] (ao mU):=fs0
def qp (C CL:Addr):Sp:=fun vs H Q _=>∃ (p dx d e h hd hl:Addr) (fs:List (Str×V)) (ks js:List (Key×V)) (z:Str) (s:LS) (j:Int),vs=[.ref p,.str z]/\H p=some (.ins C dx fs)/\fs.lookup ("heaps":Str)=some (.ref d)/\fs.lookup ("joined":Str)=some (.ref e)/\H d=some (.dK ks)/\H e=some (.dK js)/\aX ks (Sum.inr z)=some (.ref h)/\LateAt CL H h hd hl s/\aX js (Sum.inr z)=some (.int j)/\Q (.int (s.looks+j)) H
theorem vR {fw:Addr}(F:Fun K "works_of" "Desk.works_of" mU f fd)(T:Bl mg)(L:DK K C)(LL:LT K CL)(Mwork:bx K CL "work" fw)(Gwork:av P w K mg base CX0 1 fw fdw ["self"] (pR CL))(Bwork:Binds K fdw ["self"] []):
  av P w K mg base CX0 2 f fd ["self","name"] (qp C CL):=by
 have sc:=qw
 refine F.okQ qw fun cdv A outer s H vs Q E hr h=>?_
 obtain ⟨p,dx,d,e,h,hd,hl,fs,ks,js,z,s,j,rfl,hp,eh,ej,kd,ke,vh,LA,vj,k⟩:=h
 have hu:=hr.units0
 refine ⟨_,(aj (aA (ap aQ (bo (aN (aS hr) (a9 (qv 0) rfl) (qv 1) pix) LL.cl Mwork Gwork hr.mo Bwork .nil aG) (aN (aS hr) (a9 (qv 0) rfl) (qv 1) pix)))),?_⟩
 obtain ⟨hx,ho⟩:=LA.ob
 refine ⟨_,rfl,p,C,dx,fs,_,rfl,hp,L.cl,L.hp,eh,_,rfl,d,_,rfl,vh▸DGet.k (k:=Sum.inr z) kd,?_⟩
 refine ⟨h,hx,_,rfl,ho,rfl,h,hd,hl,s,rfl,LA,?_⟩
 exact ⟨_,rfl,p,C,dx,fs,_,rfl,hp,L.cl,L.jn,ej,_,rfl,e,_,rfl,vj▸DGet.k (k:=Sum.inr z) ke,_,_,rfl,rfl,k⟩
def xOf (CC CN:Addr):Deed->Addr
 | .put _ _=>CC
 | _=>CN
abbrev ou:Stmt:=top 17
theorem oV:au ["heap","deed"] ["heap","deed"] (ao ou):=fs0
def km (C CC CN:Addr):Sp:=fun vs H Q E=>∃ (p d l q:Addr) (s:LS) (dd:Deed),vs=[.ref p,.ref q]/\LateAt C H p d l s/\Gm.LInv slt s/\s.stamp<=800/\H q=some (.tup dd.v)/\dd.ok /\
 (dd.fit s->∀v l' H',LateAt C H' p d l' (ay s dd).1->rG H' (ay s dd).2 v->Kept [p,d,l] H H'->Fr3 H l l'->Q v H')/\(¬ dd.fit s->E (.ref (xOf CC CN dd)) none H)
theorem vb {fput fdrop fchange ftake fleast:Addr}{fdput fddrop fdchange fdtake fdleast:FuncData}(F:Fun K "carry_out" "carry_out" ou f fd)(T:Bl mg)(L:LT K C)(Mput:bx K C "put" fput)(Gput:av P w K mg base (CXe P w) 5 fput fdput ["self","name","worth"] (vL C CC))(Bput:Binds K fdput ["self","name","worth"] [])(Mdrop:bx K C "drop" fdrop)(Gdrop:av P w K mg base (CXe P w) 5 fdrop fddrop ["self","name"] (qt C CN))(Bdrop:Binds K fddrop ["self","name"] [])(Mchange:bx K C "change" fchange)(Gchange:av P w K mg base (CXe P w) 5 fchange fdchange ["self","name","worth"] (jf C CN))(Bchange:Binds K fdchange ["self","name","worth"] [])(Mtake:bx K C "take" ftake)(Gtake:av P w K mg base (CXe P w) 6 ftake fdtake ["self"] (qu C CN))(Btake:Binds K fdtake ["self"] [])(Mleast:bx K C "least" fleast)(Gleast:av P w K mg base (CXe P w) 6 fleast fdleast ["self"] (mB C CN))(Bleast:Binds K fdleast ["self"] []):
  av P w K mg base (CXe P w) 7 f fd ["heap","deed"] (km C CC CN):=by
 have sc:=oV
 refine F.okEQ oV (fun vs H Q E h=>?_) (fun cdv A outer s_ H vs Q E hr h=>?_)
 .obtain ⟨p,d,l,q,s,dd,rfl,_⟩:=h
  rfl
 obtain ⟨p,d,l,q,s,dd,rfl,LA,LI,st,hq,shd,kQ,kE⟩:=h
 have hu:=hr.units0
 refine ⟨_,(ac (aR (aw bz (aD aI (qv 1) af pix) ar (aE _)) (aj (aA (bd (qv 0) L.cl Mput Gput hr.mo Bput .nil (bJ fun _ _ z=>z) (aa (aD aI (qv 1) af pix) (aa (aD aI (qv 1) af pix) ag))))) aB)
  (ac (aR (aw bz (aD aI (qv 1) af pix) ar (aE _)) (aj (aA (bd (qv 0) L.cl Mdrop Gdrop hr.mo Bdrop .nil (bJ fun _ _ z=>z) (aa (aD aI (qv 1) af pix) ag)))) aB)
  (ac (aR (aw bz (aD aI (qv 1) af pix) ar (aE _)) (aj (aA (bd (qv 0) L.cl Mchange Gchange hr.mo Bchange .nil (bJ fun _ _ z=>z) (aa (aD aI (qv 1) af pix) (aa (aD aI (qv 1) af pix) ag))))) aB)
  (ac (aR (aw bz (aD aI (qv 1) af pix) ar (aE _)) (aj (aA (bo (qv 0) L.cl Mtake Gtake hr.mo Btake .nil (bJ fun _ _ z=>z)))) aB)
  (aj (aA (bo (qv 0) L.cl Mleast Gleast hr.mo Bleast .nil (bJ fun _ _ z=>z)))))))),?_⟩
 obtain ⟨dx,hp⟩:=LA.ob
 have r1:=LI.len
 have r2:=LI.tl
 have nn:∀{n:Str},Gm.dget s.there n≠none->(Gm.dget s.there n).isSome=true:=fun {n} h=>by
  cases y:Gm.dget s.there n with
  | none=>exact absurd y h
  | some _=>rfl
 cases dd with
 | put n w =>
  refine ⟨_,rfl,q,_,_,_,rfl,rfl,SqT.of hq,rfl,rfl,_,rfl,dJ ?_⟩
  refine ⟨_,rfl,p,dx,_,rfl,hp,lfn,_,rfl,q,_,_,_,rfl,rfl,SqT.of hq,rfl,_,rfl,q,_,_,_,rfl,rfl,SqT.of hq,rfl,p,d,l,s,n,w,rfl,LA,AX,AX,A0 shd AW,fun fr l' H3 L3 k3 f3=>?_,fun cs=>kE cs⟩
  refine kQ fr _ l' H3 ?_ ?_ k3 f3
  .show LateAt C H3 p d l' (if (Gm.dget s.there n).isSome=true then (s,Ans.clash) else (Gm.putL slt s n w,Ans.non)).1
   rw [fr];exact L3
  .show rG H3 (if (Gm.dget s.there n).isSome=true then (s,Ans.clash) else (Gm.putL slt s n w,Ans.non)).2 _
   rw [fr];exact rfl
 | drop n =>
  refine ⟨_,rfl,q,_,_,_,rfl,rfl,SqT.of hq,rfl,rfl,_,rfl,bV ?_⟩
  refine ⟨_,rfl,q,_,_,_,rfl,rfl,SqT.of hq,rfl,rfl,_,rfl,dJ ?_⟩
  refine ⟨_,rfl,p,dx,_,rfl,hp,lfn,_,rfl,q,_,_,_,rfl,rfl,SqT.of hq,rfl,p,d,l,s,n,rfl,LA,AX,AX,A0 shd AW,fun fr l' H3 L3 k3 f3=>?_,fun cs=>kE fun z=>z cs⟩
  refine kQ fr _ l' H3 ?_ ?_ k3 f3
  .show LateAt C H3 p d l' (if (Gm.dget s.there n).isSome=true then (Gm.dropL slt s n,Ans.non) else (s,Ans.nothing)).1
   rw [Bf (nn fr)];exact L3
  .show rG H3 (if (Gm.dget s.there n).isSome=true then (Gm.dropL slt s n,Ans.non) else (s,Ans.nothing)).2 _
   rw [Bf (nn fr)];exact rfl
 | change n w =>
  refine ⟨_,rfl,q,_,_,_,rfl,rfl,SqT.of hq,rfl,rfl,_,rfl,bV ?_⟩
  refine ⟨_,rfl,q,_,_,_,rfl,rfl,SqT.of hq,rfl,rfl,_,rfl,bV ?_⟩
  refine ⟨_,rfl,q,_,_,_,rfl,rfl,SqT.of hq,rfl,rfl,_,rfl,dJ ?_⟩
  refine ⟨_,rfl,p,dx,_,rfl,hp,lfn,_,rfl,q,_,_,_,rfl,rfl,SqT.of hq,rfl,_,rfl,q,_,_,_,rfl,rfl,SqT.of hq,rfl,p,d,l,s,n,w,rfl,LA,AX,AX,A0 shd AW,fun fr l' H3 L3 k3 f3=>?_,fun cs=>kE fun z=>z cs⟩
  refine kQ fr _ l' H3 ?_ ?_ k3 f3
  .show LateAt C H3 p d l' (if (Gm.dget s.there n).isSome=true then (Gm.putL slt s n w,Ans.non) else (s,Ans.nothing)).1
   rw [Bf (nn fr)];exact L3
  .show rG H3 (if (Gm.dget s.there n).isSome=true then (Gm.putL slt s n w,Ans.non) else (s,Ans.nothing)).2 _
   rw [Bf (nn fr)];exact rfl
 | take =>
  refine ⟨_,rfl,q,_,_,_,rfl,rfl,SqT.of hq,rfl,rfl,_,rfl,bV ?_⟩
  refine ⟨_,rfl,q,_,_,_,rfl,rfl,SqT.of hq,rfl,rfl,_,rfl,bV ?_⟩
  refine ⟨_,rfl,q,_,_,_,rfl,rfl,SqT.of hq,rfl,rfl,_,rfl,bV ?_⟩
  refine ⟨_,rfl,q,_,_,_,rfl,rfl,SqT.of hq,rfl,rfl,_,rfl,dJ ?_⟩
  refine ⟨_,rfl,p,dx,_,rfl,hp,lfn,p,d,l,s,rfl,LA,LI,AX,fun fr q' l' H3 L3 hq3 k3 f3=>?_,fun cs=>kE fun z=>z cs⟩
  refine kQ fr _ l' H3 ?_ ?_ k3 f3
  .show LateAt C H3 p d l' (if s.there=[] then (s,Ans.nothing) else (Gm.takeL slt s,Ans.pair (_root_.L2.hd s).w (_root_.L2.hd s).n)).1
   rw [Bc fr];exact L3
  .show rG H3 (if s.there=[] then (s,Ans.nothing) else (Gm.takeL slt s,Ans.pair (_root_.L2.hd s).w (_root_.L2.hd s).n)).2 _
   rw [Bc fr];exact ⟨_,rfl,hq3⟩
 | least =>
  refine ⟨_,rfl,q,_,_,_,rfl,rfl,SqT.of hq,rfl,rfl,_,rfl,bV ?_⟩
  refine ⟨_,rfl,q,_,_,_,rfl,rfl,SqT.of hq,rfl,rfl,_,rfl,bV ?_⟩
  refine ⟨_,rfl,q,_,_,_,rfl,rfl,SqT.of hq,rfl,rfl,_,rfl,bV ?_⟩
  refine ⟨_,rfl,q,_,_,_,rfl,rfl,SqT.of hq,rfl,rfl,_,rfl,bV ?_⟩
  refine ⟨_,rfl,p,dx,_,rfl,hp,lfn,p,d,l,s,rfl,LA,LI,AX,fun fr q' H3 L3 hq3 k3=>?_,fun cs=>kE fun z=>z cs⟩
  refine kQ fr _ l H3 ?_ ?_ k3 (.inl rfl)
  .show LateAt C H3 p d l (if s.there=[] then (s,Ans.nothing) else (Gm.leastL slt s,Ans.pair (_root_.L2.hd s).w (_root_.L2.hd s).n)).1
   rw [Bc fr];exact L3
  .show rG H3 (if s.there=[] then (s,Ans.nothing) else (Gm.leastL slt s,Ans.pair (_root_.L2.hd s).w (_root_.L2.hd s).n)).2 _
   rw [Bc fr];exact ⟨_,rfl,hq3⟩
structure ci (C:Addr)(H:Hp)(p d e:Addr)(ks js:List (Key×V)):Prop where
 ob:∃ dx,H p=some (.ins C dx [("heaps",.ref d),("joined",.ref e)])
 hd:H d=some (.dK ks)
 hj:H e=some (.dK js)
theorem j4 {α β:Type}{F:α->β->Prop}:∀{l:List α} {m:List β},Paired F l m->∀{i:Nat} {a:α} {b:β},l[i]?=some a->m[i]?=some b->F a b
 | _,_,.nil,_,_,_,h,_=>nomatch h
 | _,_,.cons f r,0,_,_,h,h'=>by cases h;cases h';exact f
 | _,_,.cons f r,i+1,_,_,h,h'=>j4 r h h'
theorem eJ {a b:V}(h1:(x == ("heaps":Str))=false)(h2:(x == ("joined":Str))=false):List.lookup x [("heaps",a),("joined",b)]=none:=by
 simp only [List.lookup,h1,h2]
theorem sQ (h:SqT K H a xs)(k:Same H H'):SqT K H' a xs:=by
 rcases h with (h | h) | h
 .exact .inl (.inl (k _ _ h))
 .exact .inl (.inr (h.imp fun o e=>k _ _ e))
 exact .inr h
def Sml (T:List (Str×En)):Prop:=∀p∈prs T,p.1.natAbs<10 ^ 31/\p.2.length<=10
def mM (p:Int×Str):Str:=dt (.int p.1)++" "++p.2
def uF:Ans->List V
 | .pair w n=>[.str (mM (w,n))]
 | _=>[]
theorem bg {i:Int}(h:i.natAbs<10 ^ 31):pX (.int i)/\(dt (.int i)).length<=700:=by
 refine ⟨.inl ⟨i,rfl,bF (BZ h AV)⟩,?_⟩
 exact A0 (bR (k:=31) AW h) AW
theorem sN {s:LS}(LI:Gm.LInv slt s)(sm:Sml s.there){k:Nat}{P ps:List Nat}(h:Fst s.row (Gm.holds s.there) k P ps){e:En}(he:e∈bb s.row (Gm.holds s.there) ps):e.w.natAbs<10 ^ 31/\e.n.length<=10:=by
 obtain ⟨h1,h2⟩:=BJ.mp he
 obtain ⟨i,hi,ei⟩:=BF.mp h1
 have il:=h.inv.lt i (Bq _ hi)
 have er:e∈s.row:=by rw [<-ei,Hg.g_get il];exact Cj _
 exact sm _ ((lU LI).mem_iff.mp (BF.mpr ⟨e,BJ.mpr ⟨er,h2⟩,rfl⟩))
theorem gT {s:LS}(LI:Gm.LInv slt s)(f:dd.fit s):(ay s dd).2=.non∨∃ w n,(ay s dd).2=.pair w n/\(w,n)∈prs s.there:=by
 have nn:∀{n:Str},Gm.dget s.there n≠none->(Gm.dget s.there n).isSome=true:=fun {n} h=>by
  cases y:Gm.dget s.there n with
  | none=>exact absurd y h
  | some _=>rfl
 have pr:s.there≠[]->((hd s).w,(hd s).n)∈prs s.there:=fun h=>by
  obtain ⟨p,hp,e⟩:=BF.mp (lb LI h).mem
  refine BF.mpr ⟨p,hp,?_⟩
  injection e with e1 e2
  rw [<-e1,<-e2]
 cases dd with
 | put n w=>left;unfold ay;dsimp only;rw [f];rfl
 | drop n=>left;unfold ay;dsimp only;rw [Bf (nn f)]
 | change n w=>left;unfold ay;dsimp only;rw [Bf (nn f)]
 | take=>right;unfold ay;dsimp only;rw [Bc f];exact ⟨_,_,rfl,pr f⟩
 | least=>right;unfold ay;dsimp only;rw [Bc f];exact ⟨_,_,rfl,pr f⟩
def AnsC (CL CC CN:Addr)(H:Hp)(h hd hl:Addr)(s:LS)(j:Int)(x:Str)(rest:List V)(Q:VK)(E:XK):Prop :=
 (x="first"/\∃ k:Nat,rest=[.int k]/\∀D xs H',(∀every:List (Int×Str),every.Perm (prs s.there)->(every.Pairwise fun x y=>ltP y x=false)->xs=every.take k)->H' D=some (.lst (xs.map fun p=>V.str (mM p)))->Same H H'->H D=none->Q (.ref D) H') ∨
 (x="room"/\∀D H',H' D=some (.lst [.str (txt s.there.length++" "++txt s.row.length)])->Same H H'->H D=none->Q (.ref D) H') ∨
 (x="works"/\∀D H',H' D=some (.lst [.str (txt (s.looks+j))])->Same H H'->H D=none->Q (.ref D) H') ∨
 ∃ dd:Deed,dd.v=.str x::rest/\dd.ok/\(dd.fit s->∀D l' H',LateAt CL H' h hd l' (ay s dd).1->H' D=some (.lst (uF (ay s dd).2))->Kept [h,hd,hl] H H'->Fr3 H hl l'->Q (.ref D) H')/\(¬ dd.fit s->∀H',Same H H'->E (.ref (xOf CC CN dd)) none H')
abbrev gP:Stmt:=aV (top 31) 2
theorem mD:au ["self","word","name","rest","heap","thing"] ["self","word","name","rest"] (ao gP):=fs0
def lC (K:W.Frag)(C CL CC CN:Addr):Sp:=fun vs H Q E=>∃ (p d e r h hd hl:Addr) (ks js:List (Key×V)) (x z:Str) (rest:List V) (s:LS) (j:Int),vs=[.ref p,.str x,.str z,.ref r]/\ci C H p d e ks js/\aX ks (Sum.inr z)=some (.ref h)/\aX js (Sum.inr z)=some (.int j) /\
 LateAt CL H h hd hl s/\Gm.LInv slt s/\s.stamp<=800/\Sml s.there/\((s.looks:Int)+j).natAbs<10 ^ 31/\SqT K H r rest/\AnsC CL CC CN H h hd hl s j x rest Q E
theorem rS {fs fc fsh fm fr fw:Addr}{fdc fdsh fdm fdr:FuncData}(F:Fun K "answer" "Desk.answer" gP f fd)(T:Bl mg)(L:DK K C)(LL:LT K CL)(z_str:mg "str"=none)(Gfirsts:av P w K mg base CX0 5 fs fds ["heap","k"] (lI CL))(Dfirsts:Nm K mg "firsts" fs fds ["heap","k"])(Gcarry_out:av P w K mg base (CXe P w) 7 fc fdc ["heap","deed"] (km CL CC CN))(Dcarry_out:Nm K mg "carry_out" fc fdc ["heap","deed"])(Gshown:av P w K mg base CX0 1 fsh fdsh ["pair"] (mq K))(Dshown:Nm K mg "shown" fsh fdsh ["pair"])(Mmany:bx K CL "many" fm)(Gmany:av P w K mg base CX0 1 fm fdm ["self"] (tO CL))(Bmany:Binds K fdm ["self"] [])(Mrow:bx K CL "row" fr)(Grow:av P w K mg base CX0 1 fr fdr ["self"] (oR CL))(Brow:Binds K fdr ["self"] [])(Mworks_of:bx K C "works_of" fw)(Gworks_of:av P w K mg base CX0 2 fw fdw ["self","name"] (qp C CL))(Bworks_of:Binds K fdw ["self","name"] []):
  av P w K mg base (CXe P w) 8 f fd ["self","word","name","rest"] (lC K C CL CC CN):=by
 have sc:=mD
 refine F.okEQ mD (fun vs H Q E h=>?_) (fun cdv A outer s_ H vs Q E hr h=>?_)
 .obtain ⟨p,d,e,r,h,hd,hl,ks,js,x,z,rest,s,j,rfl,_⟩:=h
  rfl
 obtain ⟨p,d,e,r,h,hd,hl,ks,js,x,z,rest,s,j,rfl,DA,vh,vj,LA,LI,st,sm,lj,hrr,cs⟩:=h
 have hu:=hr.units0
 refine ⟨_,(ac (qst 4 sc.nd (aN (aS hr) (a9 (qv 0) rfl) (qv 2) pix))
  (ac (aR (aw bz (qv 1) ar (aE _)) (aj (aA (dU (Blk.of (N:=["self","word","name","rest","heap","thing"]) (esc:=ao gP) (NB:=[]) (cap:=[]) rfl rfl (fun y hy=>bM hy) rfl AV AV AV rfl AV rfl AV) rfl rfl (tN (aD aI (qcl Gfirsts hr Dfirsts aG (aa (qv 4) (aa (aD aI (qv 3) af pix) ag))) af pix)) (fun C fp s₀ H₀=>dR) (fun C fp s₀ H₀=>(qcl Gshown hr Dshown aG (aa (qv 0) ag)))))) aB)
  (ac (aR (aw bz (qv 1) ar (aE _)) (aj (aA (bn (aa (qcl Gshown hr Dshown aG (aa (bq (aa (bo (qv 4) LL.cl Mmany Gmany hr.mo Bmany .nil aG) (aa (qcB aH T.z_len (aa (bo (qv 4) LL.cl Mrow Grow hr.mo Brow .nil aG) ag)) ag))) ag)) ag)))) aB)
  (ac (aR (aw bz (qv 1) ar (aE _)) (aj (aA (bn (aa (qcT bp z_str (aa (bd (qv 0) L.cl Mworks_of Gworks_of hr.mo Bworks_of .nil aG (aa (qv 2) ag)) ag)) ag)))) aB)
  (ac (qst 5 sc.nd (qcl Gcarry_out hr Dcarry_out (bJ fun _ _ z=>z) (aa (qv 4) (aa (ap pG (bq (aa (qv 1) ag)) (qv 3)) ag))))
  (aj (aA (tY (aw uD (qv 5) iA (aE _)) (bn ag) (bn (aa (qcl Gshown hr Dshown aG (aa (qv 5) ag)) ag)))))))))),?_⟩
 obtain ⟨⟨dx,hp⟩,kd,ke⟩:=DA
 obtain ⟨hx,ho⟩:=LA.ob
 have r1:=LI.len
 have r2:=LI.tl
 refine ⟨_,rfl,p,C,dx,_,_,rfl,hp,L.cl,L.hp,rfl,_,rfl,d,_,rfl,vh▸DGet.k (k:=Sum.inr z) kd,?_⟩
 rcases cs with ⟨rfl,k,rfl,kQ⟩ | ⟨rfl,kQ⟩ | ⟨rfl,kQ⟩ | ⟨dd,ed,dok,kQ,kE⟩
 .refine ⟨_,rfl,rfl,_,rfl,dJ ?_⟩
  refine ⟨_,rfl,_,rfl,r,_,_,_,rfl,rfl,hrr,rfl,h,hd,hl,s,k,rfl,LA,LI,AX,fun o q1 zs P ps H1 ho hq1 wn fdn s1=>?_⟩
  refine ⟨o,_,_,_,rfl,rfl,SqT.of ho,rfl,q1,rfl,⟨_,SqT.of hq1⟩,fun D hD=>?_⟩
  have lz:zs.length=(bb s.row (Gm.holds s.there) ps).length:=CU wn
  have l1:=jE (row:=s.row) (hold:=Gm.holds s.there) ps
  have l2:=fdn.1.len
  refine qR (K:=K) (a:=q1) (xs:=zs) (fun i ys H4=>H4 D=some (.lst ys)/\ys=(((bb s.row (Gm.holds s.there) ps).map pW).take i).map (fun p=>V.str (mM p))/\Same H1 H4) ⟨ad,rfl,aq hD⟩ (fun i ys H4 z=>⟨z.1,SqT.of (z.2.2 _ _ hq1)⟩) ?_ ?_
  .rintro i y ys H4 hi ⟨h4,ey,s4⟩
   have hi1:i<zs.length:=(Bu.mp hi).1
   have hi2:i<(bb s.row (Gm.holds s.there) ps).length:=by lia
   obtain ⟨a,rfl,ha⟩:=j4 wn hi (bt hi2)
   obtain ⟨b1,b2⟩:=sN LI sm fdn.1 (Cj hi2)
   obtain ⟨t1,t2⟩:=bg b1
   have ly:ys.length<=i:=by rw [ey,Bh,BS];lia
   refine cY <| ⟨_,rfl,a,_,_,_,rfl,SqT.of (s4 _ _ ha),t1,.inr ⟨_,rfl⟩,t2,A0 b2 AW,h4,aY AX,_,AX,rfl,AX,ad,?_,fun b o h=>?_⟩
   .rw [ey,Cz,BL,BH,bt hi2]
    rfl
   .rw [ai (ak h hD)]
    exact s4 b o h
  .rintro ys H4 ⟨h4,ey,s4⟩
   rw [lz,Ce (EM (Bh ..))] at ey
   subst ey
   exact kQ D _ H4 (fun every pe se=>(nH LI pe se fdn).1) h4 (s1.trans s4) (s1.free hD)
 .refine ⟨_,rfl,rfl,_,rfl,bV ?_⟩
  refine ⟨_,rfl,rfl,_,rfl,dJ ?_⟩
  obtain ⟨ks1,hd1,kr1⟩:=LA.dc
  refine ⟨_,rfl,h,hx,_,rfl,ho,lfn,h,hx,hd,_,ks1,rfl,ho,cV,hd1,?_⟩
  refine ⟨_,rfl,h,hx,_,rfl,ho,lfn,h,hd,hl,s,rfl,LA,fun q xs H1 hq rr s1=>?_⟩
  have lx:=rr.len
  have lk:=kr1.len
  refine ⟨q,xs,rfl,.inr (SqT.of hq),sz2,fun t ht=>?_⟩
  rw [lx,lk]
  have b1:((s.there.length:Nat):Int).natAbs<10 ^ 31:=BM (A0 AX st) AV
  have b2:((s.row.length:Nat):Int).natAbs<10 ^ 31:=BM (A0 AX st) AV
  refine gnew ht fun H2 s2 g2=>?_
  refine ⟨t,_,_,_,rfl,SqT.of g2,(bg b1).1,(bg b2).1,(bg b1).2,(bg b2).2,sz1,fun D hD=>?_⟩
  exact kQ D _ ad ((s1.trans s2).trans (aq hD)) ((s1.trans s2).free hD)
 .refine ⟨_,rfl,rfl,_,rfl,bV ?_⟩
  refine ⟨_,rfl,rfl,_,rfl,bV ?_⟩
  refine ⟨_,rfl,rfl,_,rfl,dJ ?_⟩
  refine ⟨_,rfl,p,dx,_,rfl,hp,eJ AV AV,_,rfl,p,dx,d,e,h,hd,hl,_,ks,js,z,s,j,rfl,hp,rfl,rfl,kd,ke,vh,LA,vj,.inl ⟨_,rfl,bF (BZ lj AV),?_⟩⟩
  refine ⟨sz1,fun D hD=>?_⟩
  exact kQ D _ ad (aq hD) hD
 have nx:x≠"first"/\x≠"room"/\x≠"works":=by
  cases dd <;> (injection ed with e1 _;injection e1 with e1;rw [<-e1];decide +kernel)
 refine ⟨_,rfl,rfl,_,rfl,aO (fun c=>absurd (V.str.inj (Ba c)) nx.1) (fun _=>?_)⟩
 refine ⟨_,rfl,rfl,_,rfl,aO (fun c=>absurd (V.str.inj (Ba c)) nx.2.1) (fun _=>?_)⟩
 refine ⟨_,rfl,rfl,_,rfl,aO (fun c=>absurd (V.str.inj (Ba c)) nx.2.2) (fun _=>?_)⟩
 have sz:=LA.notup
 refine ⟨_,rfl,_,rfl,sz1,fun t ht=>?_⟩
 refine gnew ht fun H1 s1 g1=>?_
 have lr:rest.length<=2:=by
  have:=congrArg List.length ed
  rw [Bj] at this
  have q:dd.v.length<=3:=by cases dd <;> (simp only [Deed.v,Bj,CG];lia)
  lia
 have hr1:=sQ hrr s1
 have fin:∀(t2:Addr) (H2:Hp),H2 t2=some (.tup (.str x::rest))->Same H H2->∀(R:V->Hp->Prop),(∀v H3,(v=.non->∀D,H3 D=none->Q (.ref D) (upd H3 D (.lst [])))->(∀a w n,v=.ref a->H3 a=some (.tup [.int w,.str n])->w.natAbs<10 ^ 31->n.length<=10->∀D,H3 D=none->Q (.ref D) (upd H3 D (.lst [.str (mM (w,n))])))->(v=.non∨∃ a w n,v=.ref a/\H3 a=some (.tup [.int w,.str n])/\w.natAbs<10 ^ 31/\n.length<=10)->R v H3)->km CL CC CN [.ref h,.ref t2] H2 R E:=fun t2 H2 g2 s2 R hR=>by
  refine ⟨h,hd,hl,t2,s,dd,rfl,LA.same s2,LI,st,by rw [g2,ed],dok,fun ft v l' H3 L3 a3 k3 f3=>?_,fun nf=>kE nf H2 s2⟩
  have kk:Kept [h,hd,hl] H H3:=fun b o e n=>k3 b o (s2 _ _ e) n
  have fr:Fr3 H hl l':=f3.elim .inl fun z=>.inr (s2.free z)
  have go:∀(D:Addr) (ys:List V),H3 D=none->ys=uF (ay s dd).2->Q (.ref D) (upd H3 D (.lst ys)):=fun D ys z e=>by
   refine kQ ft D l' _ (L3.same (aq z)) (by rw [ad,e]) (fun b o e n=>?_) fr
   exact aq z b o (kk b o e n)
  rcases gT LI ft with ea | ⟨w',n',ea,mm⟩
  .rw [ea] at a3 go
   refine hR v H3 (fun _ D z=>go D _ z rfl) (fun a w n e=>?_) (.inl a3)
   rw [show v=.non from a3] at e
   cases e
  .rw [ea] at a3 go
   obtain ⟨a,e,ha⟩:=a3
   obtain ⟨m1,m2⟩:=sm _ mm
   refine hR v H3 (fun q=>by rw [e] at q;cases q) (fun a' w n e' h' _ _ D z=>?_) (.inr ⟨a,w',n',e,ha,m1,m2⟩)
   rw [e] at e'
   cases e'
   rw [ha] at h'
   cases h'
   exact go D _ z rfl
 refine ⟨_,rfl,t,r,_,_,rfl,rfl,SqT.of g1,hr1,by show 1+rest.length<=sizeLine;exact A0 AX (show 3<=sizeLine by decide),(fun z=>nomatch z),fun _ e0=>?_,fun _ _ t2 ht2=>?_⟩
 .refine fin t H1 (by rw [g1,e0]) s1 _ fun v H3 q1 q2 q3=>?_
  rcases q3 with rfl | ⟨a,w,n,rfl,ha,m1,m2⟩
  .refine ⟨_,rfl,rfl,_,rfl,aO (fun _=>?_) (fun c=>absurd (Bb rfl) c)⟩
   exact ⟨sz0,fun D hD=>q1 rfl D hD⟩
  .refine ⟨_,rfl,rfl,_,rfl,aO (fun c=>nomatch Ba c) (fun _=>?_)⟩
   exact ⟨_,rfl,a,_,_,_,rfl,SqT.of ha,(bg m1).1,.inr ⟨_,rfl⟩,(bg m1).2,A0 m2 AW,sz1,fun D hD=>q2 a w n rfl ha m1 m2 D hD⟩
 refine fin t2 _ ad (s1.trans (aq ht2)) _ fun v H3 q1 q2 q3=>?_
 rcases q3 with rfl | ⟨a,w,n,rfl,ha,m1,m2⟩
 .refine ⟨_,rfl,rfl,_,rfl,aO (fun _=>?_) (fun c=>absurd (Bb rfl) c)⟩
  exact ⟨sz0,fun D hD=>q1 rfl D hD⟩
 refine ⟨_,rfl,rfl,_,rfl,aO (fun c=>nomatch Ba c) (fun _=>?_)⟩
 exact ⟨_,rfl,a,_,_,_,rfl,SqT.of ha,(bg m1).1,.inr ⟨_,rfl⟩,(bg m1).2,A0 m2 AW,sz1,fun D hD=>q2 a w n rfl ha m1 m2 D hD⟩
theorem AnsC.same {H1:Hp}{h hd hl:Addr}{s:LS}{j:Int}{rest:List V}{Q:VK}{E:XK}(a:AnsC CL CC CN H h hd hl s j x rest Q E)(k:Same H H1):AnsC CL CC CN H1 h hd hl s j x rest Q E:=by
 rcases a with ⟨e,n,r,q⟩ | ⟨e,q⟩ | ⟨e,q⟩ | ⟨dd,e,o,q,q'⟩
 .exact .inl ⟨e,n,r,fun D xs H' c g s1 z=>q D xs H' c g (k.trans s1) (k.free z)⟩
 .exact .inr (.inl ⟨e,fun D H' g s1 z=>q D H' g (k.trans s1) (k.free z)⟩)
 .exact .inr (.inr (.inl ⟨e,fun D H' g s1 z=>q D H' g (k.trans s1) (k.free z)⟩))
 exact .inr (.inr (.inr ⟨dd,e,o,fun f D l' H' L3 g k3 f3=>q f D l' H' L3 g (fun b u e n=>k3 b u (k _ _ e) n) (f3.elim .inl fun z=>.inr (k.free z)),fun nf H' s1=>q' nf H' (k.trans s1)⟩))
theorem fQ {dx:Addr}{x y:HO}(hp:H p=none)(hdx:H dx=none)(k:Kept [p] (upd (upd H dx x) p y) H'):Same H H':=fun b o e=>by
 have np:b≠p:=ak e hp
 refine k b o ?_ (fun z=>np (AZ z))
 rw [ai np,ai (ak e hdx)]
 exact e
theorem cu {c:Addr}{x y:HO}(h:(upd (upd H a x) b y) c=none):H c=none:=by
 by_cases e:c=b
 .subst e;rw [ad] at h;cases h
 rw [ai e] at h
 by_cases e2:c=a
 .subst e2;rw [ad] at h;cases h
 rw [ai e2] at h;exact h
structure ye (C CL:Addr)(H H':Hp)(p d e:Addr)(ks js:List (Key×V))(z:Str)(n:Int)(h hd hl:Addr):Prop where
 la:LateAt CL H' h hd hl (Gm.newL n)
 da:ci C H' p d e (a8 ks (Sum.inr z) (.ref h)) (a8 js (Sum.inr z) (.int 0))
 kp:Kept [d,e] H H'
 f1:H h=none
 f2:H hd=none
 f3:H hl=none
abbrev yT:Stmt:=aV (top 31) 1
theorem x5:au ["self","line","asked"] ["self","line"] (ao yT):=fs0
def oZ (K:W.Frag)(forms:List (Str×Addr))(C CL CC CN:Addr):Sp:=fun vs H Q E=>∃ (p d e:Addr) (ks js:List (Key×V)) (ws:List Str) (vv:List V),vs=[.ref p,.str (Str.join " " ws)]/\ws≠[]/\(∀w∈ws,32∉w.cps.toList)/\(Str.join " " ws).length<=900/\ci C H p d e ks js/\Und K forms ks ws vv /\
 ((∃ (z:Str) (n:Int),vv=[.str "heap",.str z,.int n]/\d≠e/\ks.length<1000/\js.length<1000/\∀h hd hl D H',ye C CL H H' p d e ks js z n h hd hl->H' D=some (.lst [])->Q (.ref D) H') ∨
 ∃ (x z:Str) (rest:List V) (h hd hl:Addr) (s:LS) (j:Int),vv=.str x::.str z::rest/\x≠"heap"/\x≠"join"/\aX ks (Sum.inr z)=some (.ref h)/\aX js (Sum.inr z)=some (.int j)/\LateAt CL H h hd hl s/\Gm.LInv slt s/\s.stamp<=800/\Sml s.there/\((s.looks:Int)+j).natAbs<10 ^ 31/\AnsC CL CC CN H h hd hl s j x rest Q E)
theorem zb {fu fs fI:Addr}{fdu fdI:FuncData}(F:Fun K "ask" "Desk.ask" yT f fd)(T:Bl mg)(L:DK K C)(LL:LT K CL)(mLate:mg "Late"=some (.ref CL))(MkLate:Mk K CL fI)(GLate__init__:av P w K mg base CX0 2 fI fdI ["self","slack"] (qr CL))(BLate__init__:Binds K fdI ["self","slack"] [])(Munderstood:bx K C "understood" fu)(Gunderstood:av P w K mg base CX0 6 fu fdu ["self","words"] (yb C forms K))(Bunderstood:Binds K fdu ["self","words"] [])(Mstand:bx K C "stand" fs)(Gstand:av P w K mg base CX0 1 fs fds ["self","name","heap","joined"] (qx C))(Bstand:Binds K fds ["self","name","heap","joined"] [])(Manswer:bx K C "answer" fa)(Ganswer:av P w K mg base (CXe P w) 8 fa fda ["self","word","name","rest"] (lC K C CL CC CN))(Banswer:Binds K fda ["self","word","name","rest"] []):
  av P w K mg base (CXe P w) 9 f fd ["self","line"] (oZ K forms C CL CC CN):=by
 have sc:=x5
 refine F.okEQ x5 (fun vs H Q E h=>?_) (fun cdv A outer s_ H vs Q E hr h=>?_)
 .obtain ⟨p,d,e,ks,js,ws,vv,rfl,_⟩:=h
  rfl
 obtain ⟨p,d,e,ks,js,ws,vv,rfl,w0,wf,wl,DA,U,cs⟩:=h
 have hu:=hr.units0
 refine ⟨_,(ac (qst 2 sc.nd (bd (qv 0) L.cl Munderstood Gunderstood hr.mo Bunderstood .nil aG (aa (jm Fx PySem.F.slot_str_split PySem.F.type_str_split u6 (qv 1) (aa ar ag)) ag)))
  (ac (aR (aw bz (aD aI (qv 2) af pix) ar (aE _)) (ac (aJ (bd (qv 0) L.cl Mstand Gstand hr.mo Bstand .nil aG (aa (aD aI (qv 2) af pix) (aa (xz MkLate GLate__init__ hr.mo rfl mLate BLate__init__ .nil aG (aa (aD aI (qv 2) af pix) ag)) (aa af ag)))))
  (aj (aA (bn ag)))) aB)
  (ac (aR (aw bz (aD aI (qv 2) af pix) ar (aE _)) (ac cH
  (aj (aA (bn ag)))) aB)
  (aj (aA (bd (qv 0) L.cl Manswer Ganswer hr.mo Banswer .nil (bJ fun _ _ z=>z) (aa (aD aI (qv 2) af pix) (aa (aD aI (qv 2) af pix) (aa (cT pS (qv 2) (dY af) eu) ag))))))))),?_⟩
 obtain ⟨dx,hp⟩:=DA.ob
 refine ⟨_,rfl,p,dx,_,rfl,hp,eJ AV AV,_,rfl,rfl,_,_,rfl,rfl,AV,A0 (show _<=902 by lia) AW,fun l hl=>?_⟩
 rw [mK w0 wf]
 refine gnew hl fun H1 s1 g1=>?_
 refine ⟨p,dx,d,l,_,ks,ws,vv,rfl,s1 _ _ hp,rfl,eJ AV AV,s1 _ _ DA.hd,g1,U,fun t H2 s2 ht=>?_⟩
 have s02:=s1.trans s2
 rcases cs with ⟨z,n,rfl,nde,lk,lj,kQ⟩ | ⟨x,z,rest,h,hd,hl,s,j,rfl,nh,nj,vh,vj,LA,LI,st,sm,lj,an⟩
 .refine ⟨_,rfl,t,_,_,_,rfl,rfl,SqT.of ht,rfl,rfl,_,rfl,dJ ?_⟩
  have npd:p≠d:=fun y=>by rw [y,DA.hd] at hp;cases hp
  have npe:p≠e:=fun y=>by rw [y,DA.hj] at hp;cases hp
  refine ⟨_,rfl,p,dx,_,rfl,s02 _ _ hp,eJ AV AV,_,rfl,t,_,_,_,rfl,rfl,SqT.of ht,rfl,_,rfl,t,_,_,_,rfl,rfl,SqT.of ht,rfl,fun h hx fh fx nhx=>⟨h,hx,n,rfl,ad,fun hd hl H3 fd fl L3 k3=>⟨rfl,?_⟩⟩⟩
  have s3:Same H H3:=s02.trans (fQ fh fx k3)
  have fd0:H hd=none:=s02.free (cu fd)
  have fl0:H hl=none:=s02.free (cu fl)
  have fh0:H h=none:=s02.free fh
  refine ⟨p,dx,d,e,h,_,ks,js,z,0,rfl,s3 _ _ hp,rfl,rfl,s3 _ _ DA.hd,s3 _ _ DA.hj,nde,npd.symm,lk,lj,sz0,fun D hD=>?_⟩
  have off:∀b u,H b=some u->b≠h/\b≠hd/\b≠hl:=fun b u q=>⟨ak q fh0,ak q fd0,ak q fl0⟩
  have sD:=aq (o:=.lst []) hD
  obtain ⟨d1,d2,d3⟩:=off _ _ DA.hd
  obtain ⟨e1,e2,e3⟩:=off _ _ DA.hj
  refine kQ h hd hl D _ ⟨?_,⟨⟨dx,sD _ _ ?_⟩,sD _ _ ?_,sD _ _ ad⟩,fun b u q n=>sD _ _ ?_,fh0,fd0,fl0⟩ ad
  .refine LateAt.same ?_ sD
   refine L3.stay (fun b o hb q=>?_) (fun b l q=>?_)
   .have nd:b≠d:=by rcases hb with y | y | y <;> rw [y] <;> first | exact d1.symm | exact d2.symm | exact d3.symm
    have ne:b≠e:=by rcases hb with y | y | y <;> rw [y] <;> first | exact e1.symm | exact e2.symm | exact e3.symm
    rw [ai ne,ai nd]
    exact q
   .rw [ai (aU q (s3 _ _ DA.hj) (by intro y;cases y)),ai (aU q (s3 _ _ DA.hd) (by intro y;cases y))]
    exact q
  .rw [ai npe,ai npd]
   exact s3 _ _ hp
  .rw [ai nde]
   exact ad
  .simp only [ax,ah,Bn,Ef] at n
   rw [ai n.2,ai n.1]
   exact s3 _ _ q
 refine ⟨_,rfl,t,_,_,_,rfl,rfl,SqT.of ht,aL (j:=0) rfl,rfl,_,rfl,aO (fun c=>absurd (V.str.inj (Ba c)) nh) (fun _=>?_)⟩
 refine ⟨_,rfl,t,_,_,_,rfl,rfl,SqT.of ht,aL (j:=0) rfl,rfl,_,rfl,aO (fun c=>absurd (V.str.inj (Ba c)) nj) (fun _=>?_)⟩
 refine ⟨_,rfl,p,dx,_,rfl,s02 _ _ hp,eJ AV AV,_,rfl,t,_,_,_,rfl,rfl,SqT.of ht,aL (j:=0) rfl,_,rfl,t,_,_,_,rfl,rfl,SqT.of ht,aL (j:=1) rfl,_,rfl,_,rfl,.inl ⟨t,_,rfl,SqT.of ht,?_,fun r hr2=>?_⟩⟩
 .intro y
  have:=(HT.sIx_nat (V.str x::V.str z::rest).length 0 2).symm.trans y.1
  rw [Bj,Bj] at this
  lia
 have e2:eK (V.str x::V.str z::rest) (some 2) none=rest:=by
  unfold eK
  have:=HT.sIx_nat (V.str x::V.str z::rest).length 0 2
  rw [show (some (2:Int))=some ((2:Nat):Int) from rfl,this,Bj,Bj,FQ AX]
  show rest.take (rest.length+1+1-2)=rest
  exact Ce AX
 rw [e2]
 have s3:=s02.trans (aq (o:=.tup rest) hr2)
 exact ⟨p,d,e,r,h,hd,hl,ks,js,x,z,rest,s,j,rfl,⟨⟨dx,s3 _ _ hp⟩,s3 _ _ DA.hd,s3 _ _ DA.hj⟩,vh,vj,LA.same s3,LI,st,sm,lj,SqT.of ad,an.same s3⟩
abbrev oO:Stmt:=aV (top 31) 0
theorem pi:au ["self"] ["self"] (ao oO):=fs0
def qB (C:Addr):Sp:=fun vs H Q _=>∃ (p dx:Addr),vs=[.ref p]/\H p=some (.ins C dx [])/\∀d e H',H d=none->H e=none->d≠e->ci C H' p d e [] []->Kept [p] H H'->Q .non H'
theorem gG (F:Fun K "__init__" "Desk.__init__" oO f fd)(T:Bl mg)(L:DK K C):av P w K mg base CX0 1 f fd ["self"] (qB C):=by
 have sc:=pi
 refine F.okQ pi fun cdv A outer s H vs Q E hr h=>?_
 obtain ⟨p,dx,rfl,hp,k⟩:=h
 have hu:=hr.units0
 refine ⟨_,(ac (cn (qv 0) cG rfl)
  (aj (cn (qv 0) cG rfl))),?_⟩
 refine fun d hd=>?_
 have npd:p≠d:=ak hp hd
 refine ⟨_,rfl,p,C,dx,_,rfl,by rw [ai npd];exact hp,L.cl,L.hp,by show 0<1000;decide,fun e he=>?_⟩
 have nep:e≠p:=fun z=>by rw [z,ad] at he;cases he
 have ned:e≠d:=fun z=>by rw [z,ai npd.symm,ad] at he;cases he
 have he0:H e=none:=by rw [ai nep,ai ned] at he;exact he
 refine ⟨_,rfl,p,C,dx,_,rfl,by rw [ai nep.symm];exact ad,L.cl,L.jn,by show 1<1000;decide,?_⟩
 refine k d e _ hd he0 ned.symm ⟨⟨dx,ad⟩,?_,?_⟩ (fun b o q n=>?_)
 .rw [ai npd.symm,ai ned.symm,ai npd.symm];exact ad
 .rw [ai nep];exact ad
 have nb:b≠p:=fun z=>n (Bt.mpr z)
 rw [ai nb,ai (ak q he0),ai nb,ai (ak q hd)]
 exact q
abbrev tS:Stmt:=top 36
theorem uG:au ["script","k","many","cell","turn","mixed"] ["script","k"] (ao tS):=fs0
def itF:Nat->Int->Int
 | 0,c=>c
 | n+1,c=>itF n c / 1000003
def szF (ns:List Int):Int:=if (ns.length:Int)>1 then (ns.length:Int) else 1
def yS (c t:Int):Int:=if c ≥ 10 ^ 18∨c<=-(10 ^ 18) then itF (if (60:Int)<t then (60:Int) else t).toNat c % 1000003 else ((c % 2147483629+17+68209*t)*47791 % 2147483629)*((c % 2147483629+17+68209*t)*47791 % 2147483629) % 2147483587*38839 % 2147483579
def gy (ns:List Int)(k:Int):Int:=yS ((ns++[0]).getD (k % szF ns).toNat 0) (k / szF ns)
def fY (K:W.Frag):Sp:=fun vs H Q _=>∃ (a:Addr) (ns:List Int) (k:Int),vs=[.ref a,.int k]/\SqL K H a (ns.map V.int)/\ns.length<=63/\0<=k/\∀r H',r=gy ns k->0<=r->r<2147483648->Same H H'->Q (.int r) H'
theorem wI (F:Fun K "_law_draw" "_law_draw" tS f fd)(T:Bl mg)(z_max:mg "max"=none)(z_min:mg "min"=none):av P w K mg base CX0 1 f fd ["script","k"] (fY K):=by
 have sc:=uG
 refine F.okQ uG fun cdv A outer s H vs Q E hr h=>?_
 obtain ⟨a,ns,k,rfl,hS,hn,hk,kQ⟩:=h
 have hu:=hr.units0
 refine ⟨_,(ac (qst 2 sc.nd (qcB (rF rfl) z_max (aa af (aa (qcB aH T.z_len (aa (qv 0) ag)) ag))))
  (ac (qst 3 sc.nd (aD aK (ap u7 (qcT jZ T.z_list (aa (qv 0) ag)) (bn (aa af ag))) (ap aZ (qv 1) (qv 2)) pix))
  (ac (aR (QW.pt (qD (aw Aa (qv 3) (ap ic af af) (aE _)) (jX (aw vk (qv 3) (jd gd (ap ic af af)) (aE _))))) (ac (eT BW rfl (cW rfl T.z_range (aa (qcB (rR rfl) z_min (aa (ap bc (qv 1) (qv 2)) (aa af ag))) ag)) (cX (i:=4) sc.nd rfl (Or.inl rfl)) (aj (qst 3 sc.nd (ap bc (qv 3) af))))
  (aj (aA (ap aZ (qv 3) af)))) aB)
  (ac (qst 5 sc.nd (ap aZ (ap cz (ap aQ (ap aQ (ap aZ (qv 3) af) af) (ap cz af (ap bc (qv 1) (qv 2)))) af) af))
  (ac (qst 5 sc.nd (ap aZ (ap cz (qv 5) (qv 5)) af))
  (aj (aA (ap aZ (ap cz (qv 5) af) af)))))))),?_⟩
 have t1:∀{H':Hp},Same H H'->SqL K H' a (ns.map V.int):=fun k=>hS.imp (fun z=>z.imp (k _ _) (fun ⟨o,e⟩=>⟨o,k _ _ e⟩)) id
 have lm:(ns.map V.int).length=ns.length:=Bh ..
 refine ⟨_,rfl,a,_,rfl,.inl hS,_,_,rfl,?_⟩
 rw [lm]
 obtain ⟨sz,esz,z1,z2,z3⟩:∃ sz:Int,(if (ns.length:Int)>1 then (ns.length:Int) else 1)=sz/\1<=sz/\sz<=63/\sz<=(ns++[0]).length:=by
  refine ⟨_,rfl,?_,?_,?_⟩
  .split <;> lia
  .split <;> lia
  .rw [Bi]
   split <;> simp <;> lia
 rw [esz]
 refine ⟨_,rfl,a,_,rfl,.inl hS,fun l1 hl1=>?_⟩
 refine gnew hl1 fun H1 s1 g1=>?_
 refine ⟨sz1,fun l2 hl2=>?_⟩
 refine gnew hl2 fun H2 s2 g2=>?_
 refine ⟨l1,l2,_,_,rfl,rfl,s2 _ _ g1,g2,A0 (show (ns.map V.int).length+1<=1000 by lia) AW,fun l3 hl3=>?_⟩
 have e3:ns.map V.int++[.int 0]=(ns++[0]).map V.int:=by rw [BL];rfl
 rw [e3]
 have s3:=aq (o:=.lst ((ns++[0]).map V.int)) hl3
 have g3:=ad (H:=H2) (a:=l3) (o:=.lst ((ns++[0]).map V.int))
 have sH:=(s1.trans s2).trans s3
 generalize upd H2 l3 (.lst ((ns++[0]).map V.int))=H3 at s3 g3 sH ⊢
 have p0:0<=k % sz:=bh AX
 have p1:k % sz<sz:=be AX
 refine ⟨_,rfl,_,rfl,_,_,rfl,rfl,(by show (0:Int)<sz;lia),l3,_,_,_,rfl,rfl,SqL.of g3,uw p0 AX,?_⟩
 have tn:0<=k / sz:=Int.ediv_nonneg hk AX
 have eF:gy ns k=yS ((ns++[0]).getD (k % sz).toNat 0) (k / sz):=by
  unfold gy
  rw [show szF ns=sz from esz]
 generalize (ns++[0]).getD (k % sz).toNat 0=cell at eF ⊢
 unfold yS at eF
 have great:(∃ mt:Nat,(if (60:Int)<(k / sz) then (60:Int) else (k / sz))=(mt:Int)/\mt<=60):=by
  refine ⟨(if (60:Int)<(k / sz) then (60:Int) else (k / sz)).toNat,?_,?_⟩
  .split <;> lia
  .split <;> lia
 obtain ⟨mt,emt,y2⟩:=great
 refine ⟨_,rfl,_,_,rfl,rfl,⟨AW,AW,AW⟩,_,_,rfl,rfl,_,rfl,aO (fun w1=>?_) (fun w1=>⟨_,rfl,_,_,rfl,rfl,⟨AW,AW,AW⟩,_,rfl,_,_,rfl,rfl,_,rfl,aO (fun w2=>?_) (fun w2=>?_)⟩)⟩
 .refine ⟨_,rfl,_,rfl,_,_,rfl,rfl,⟨AX,AX⟩,(k / sz),60,rfl,?_⟩
  rw [emt]
  refine ⟨_,rfl,AX,AX,?_⟩
  rw [Cc]
  refine dP (lo:=0) (n:=mt) (fun i Z H4=>∃ (c:Int) (o:Option V),Z=[some (.ref a),some (.int k),some (.int sz),some (.int c),o,none]/\c=itF i cell/\H4=H3) ⟨cell,none,rfl,rfl,rfl⟩ ?_ ?_
  .rintro i Z H4 hi ⟨c,o,rfl,rfl,rfl⟩
   exact ⟨_,rfl,_,_,rfl,rfl,⟨AW,AW⟩,_,_,rfl,rfl,rfl⟩
  .rintro Z H4 ⟨c,o,rfl,rfl,rfl⟩
   rw [Bf (.inl (Ba w1)),emt,Cc] at eF
   exact ⟨_,rfl,_,_,rfl,rfl,(by show (0:Int)<_;decide),kQ _ _ eF.symm (bh AW) (EU (be AW) AW) sH⟩
 .refine ⟨_,rfl,_,rfl,_,_,rfl,rfl,⟨AX,AX⟩,(k / sz),60,rfl,?_⟩
  rw [emt]
  refine ⟨_,rfl,AX,AX,?_⟩
  rw [Cc]
  refine dP (lo:=0) (n:=mt) (fun i Z H4=>∃ (c:Int) (o:Option V),Z=[some (.ref a),some (.int k),some (.int sz),some (.int c),o,none]/\c=itF i cell/\H4=H3) ⟨cell,none,rfl,rfl,rfl⟩ ?_ ?_
  .rintro i Z H4 hi ⟨c,o,rfl,rfl,rfl⟩
   exact ⟨_,rfl,_,_,rfl,rfl,⟨AW,AW⟩,_,_,rfl,rfl,rfl⟩
  .rintro Z H4 ⟨c,o,rfl,rfl,rfl⟩
   rw [Bf (.inr (Ba w2)),emt,Cc] at eF
   exact ⟨_,rfl,_,_,rfl,rfl,(by show (0:Int)<_;decide),kQ _ _ eF.symm (bh AW) (EU (be AW) AW) sH⟩
 refine ⟨_,rfl,_,_,rfl,rfl,(by show (0:Int)<_;decide),_,_,rfl,rfl,_,rfl,_,rfl,_,_,rfl,rfl,⟨AX,AX⟩,_,_,rfl,rfl,.inl ⟨AW,AW⟩,_,_,rfl,rfl,_,_,rfl,rfl,.inr ⟨AW,AW⟩,_,_,rfl,rfl,(by show (0:Int)<_;decide),?_⟩
 refine ⟨_,rfl,_,rfl,_,_,rfl,rfl,.inl ⟨?b1,?b2⟩,_,_,rfl,rfl,(by show (0:Int)<_;decide),?_⟩
 case b1=>exact Int.lt_of_lt_of_le AW (bh (b:=2147483629) AW)
 case b2=>exact EU (be (b:=2147483629) AW) AW
 rw [Bc (fun y=>y.elim (fun y=>w1 (Bb y)) (fun y=>w2 (Bb y)))] at eF
 exact ⟨_,rfl,_,_,rfl,rfl,.inr ⟨AW,AW⟩,_,_,rfl,rfl,(by show (0:Int)<_;decide),kQ _ _ eF.symm (bh AW) (EU (be AW) AW) sH⟩
abbrev uU:Stmt:=top 37
theorem vC:au ["script","i","letters","words","pad","place","tail","sign","word"] ["script","i"] (ao uU):=fs0
def deskW:List Str:=["heap","put","drop","change","take","least","first","join","room","works"]
def i0 (c:Nat)(n:Int):Str:=⟨(List.replicate n.toNat c).toArray⟩
def wdF (d0 d1 d2 d3 d8 i:Int):Str :=
 if d8 % 4=1 then ⟨#[97+((i+d3) % 26).toNat]⟩
 else if d8 % 4=2/\i<10 then deskW.getD ((i+d3) % 10).toNat ""
 else (if i % 2=1/\(((i0 (97+(d0 % 26).toNat) (d1 % 7)++⟨#[97+((i+d3) % 26).toNat]⟩++i0 (97+(d0 % 26).toNat) (d2 % (7-d1 % 7)):Str).length:Nat):Int)<7 then i0 (97+(d0 % 26).toNat) (d1 % 7)++⟨#[97+((i+d3) % 26).toNat]⟩++i0 (97+(d0 % 26).toNat) (d2 % (7-d1 % 7))++⟨#[97+(d0 % 26).toNat]⟩ else i0 (97+(d0 % 26).toNat) (d1 % 7)++⟨#[97+((i+d3) % 26).toNat]⟩++i0 (97+(d0 % 26).toNat) (d2 % (7-d1 % 7)))++"x"
def fq (ns:List Int)(i:Int):Str:=wdF (gy ns 0) (gy ns 1) (gy ns 2) (gy ns 3) (gy ns 8) i
def oH (K:W.Frag):Sp:=fun vs H Q _=>∃ (a:Addr) (ns:List Int) (i:Int),vs=[.ref a,.int i]/\SqL K H a (ns.map V.int)/\ns.length<=63/\0<=i/\i<=100/\∀z H',z=fq ns i->AbcN z 8->Same H H'->Q (.str z) H'
theorem wR (F:Fun K "_law_word" "_law_word" uU f fd)(T:Bl mg)(G_law_draw:av P w K mg base CX0 1 fn fdn ["script","k"] (fY K))(D_law_draw:Nm K mg "_law_draw" fn fdn ["script","k"]):av P w K mg base CX0 2 f fd ["script","i"] (oH K):=by
 have sc:=vC
 refine F.okQ vC fun cdv A outer s H vs Q E hr h=>?_
 obtain ⟨a,ns,i,rfl,hS,hn,hi0,hi1,kQ⟩:=h
 have hu:=hr.units0
 refine ⟨_,(ac (qst 2 sc.nd ar)
  (ac (qst 3 sc.nd (bq (gq (vs:=[.str "heap",.str "put",.str "drop",.str "change",.str "take",.str "least",.str "first",.str "join",.str "room",.str "works"]) AV)))
  (ac (qst 4 sc.nd (aD tw (qv 2) (ap aZ (qcl G_law_draw hr D_law_draw aG (aa (qv 0) (aa af ag))) af) pix))
  (ac (qst 5 sc.nd (ap aZ (qcl G_law_draw hr D_law_draw aG (aa (qv 0) (aa af ag))) af))
  (ac (qst 6 sc.nd (ap aZ (qcl G_law_draw hr D_law_draw aG (aa (qv 0) (aa af ag))) (ap bK af (qv 5))))
  (ac (qst 7 sc.nd (aD tw (qv 2) (ap aZ (ap aQ (qv 1) (qcl G_law_draw hr D_law_draw aG (aa (qv 0) (aa af ag)))) af) pix))
  (ac (aR (aw bz (ap aZ (qcl G_law_draw hr D_law_draw aG (aa (qv 0) (aa af ag))) af) af (aE _)) (aj (aA (qv 7))) aB)
  (ac (aR (QW.pt (cN (aw bz (ap aZ (qcl G_law_draw hr D_law_draw aG (aa (qv 0) (aa af ag))) af) af (aE _)) (cb (aw dq (qv 1) af (aE _))))) (aj (aA (aD aI (qv 3) (ap aZ (ap aQ (qv 1) (qcl G_law_draw hr D_law_draw aG (aa (qv 0) (aa af ag)))) af) pix))) aB)
  (ac (qst 8 sc.nd (ap di (ap di (ap qH (qv 4) (qv 5)) (qv 7)) (ap qH (qv 4) (qv 6))))
  (ac (aR (QW.pt (cN (aw bz (ap aZ (qv 1) af) af (aE _)) (cb (aw dq (qcB ff T.z_len (aa (qv 8) ag)) af (aE _))))) (aj (qst 8 sc.nd (ap di (qv 8) (qv 4)))) aB)
  (aj (aA (ap di (qv 8) ar))))))))))))),?_⟩
 have t1:∀{H':Hp},Same H H'->SqL K H' a (ns.map V.int):=fun k=>SqL.same' hS k
 have L26:(Str.ofString "abcdefghijklmnopqrstuvwxyz").length<=sizeLine:=by decide +kernel
 refine ⟨sz10,fun q0 hq0=>?_⟩
 refine gnew hq0 fun H0 s0 g0=>?_
 refine ⟨_,rfl,_,rfl,a,ns,0,rfl,t1 s0,hn,AW,fun d1 H1 ed1 d10 d11 s1=>?_⟩
 have ep:=jB (bh (a:=d1) (b:=26) AW) (be AW)
 obtain ⟨pc,epc⟩:∃ c,97+(d1 % 26).toNat=c:=⟨_,rfl⟩
 have p0:97<=pc:=by lia
 have p1:pc<=122:=by have:=be (a:=d1) (b:=26) AW;lia
 rw [epc] at ep
 refine ⟨_,_,rfl,rfl,(by show (0:Int)<_;decide),_,_,_,rfl,rfl,L26,ep,?_⟩
 have s01:=s0.trans s1
 refine ⟨_,rfl,a,ns,1,rfl,t1 s01,hn,AW,fun d2 H2 ed2 d20 d21 s2=>⟨_,_,rfl,rfl,(by show (0:Int)<_;decide),?_⟩⟩
 have s02:=s01.trans s2
 have pl0:0<=d2 % 7:=bh AW
 have pl1:d2 % 7<7:=be AW
 refine ⟨_,rfl,a,ns,2,rfl,t1 s02,hn,AW,fun d3 H3 ed3 d30 d31 s3=>⟨_,rfl,_,_,rfl,rfl,_,_,rfl,rfl,(by show (0:Int)<7-d2 % 7;lia),?_⟩⟩
 have s03:=s02.trans s3
 have tl0:0<=d3 % (7-d2 % 7):=bh AX
 have tl1:d3 % (7-d2 % 7)<7-d2 % 7:=be AX
 refine ⟨_,rfl,_,rfl,_,rfl,a,ns,3,rfl,t1 s03,hn,AW,fun d4 H4 ed4 d40 d41 s4=>?_⟩
 have s04:=s03.trans s4
 have es:=jB (bh (a:=i+d4) (b:=26) AW) (be AW)
 obtain ⟨sg,esg⟩:∃ c,97+((i+d4) % 26).toNat=c:=⟨_,rfl⟩
 have q0':97<=sg:=by lia
 have q1':sg<=122:=by have:=be (a:=i+d4) (b:=26) AW;lia
 rw [esg] at es
 refine ⟨_,_,rfl,rfl,_,_,rfl,rfl,(by show (0:Int)<_;decide),_,_,_,rfl,rfl,L26,es,?_⟩
 have NS:=AbcN.one q0' q1'
 have NP:=AbcN.one p0 p1
 refine ⟨_,rfl,a,ns,8,rfl,t1 s04,hn,AW,fun d5 H5 ed5 d50 d51 s5=>⟨_,_,rfl,rfl,(by show (0:Int)<_;decide),rfl,_,rfl,aO (fun v1=>?_) (fun v1=>?_)⟩⟩
 .have eW:fq ns i=wdF d1 d2 d3 d4 d5 i:=by unfold fq;rw [ed1,ed2,ed3,ed4,ed5]
  unfold wdF at eW
  rw [epc,esg] at eW
  rw [Bf (V.int.inj (Ba v1))] at eW
  exact ⟨_,rfl,kQ _ _ eW.symm (NS.mono AW) (s04.trans s5)⟩
 have eW:fq ns i=wdF d1 d2 d3 d4 d5 i:=by unfold fq;rw [ed1,ed2,ed3,ed4,ed5]
 unfold wdF at eW
 rw [epc,esg] at eW
 rw [Bc (fun y=>v1 (Bb (show V.int (d5 % 4)=V.int 1 by rw [y])))] at eW
 have s05:=s04.trans s5
 refine ⟨_,rfl,a,ns,8,rfl,t1 s05,hn,AW,fun d6 H6 ed6 d60 d61 s6=>⟨_,_,rfl,rfl,(by show (0:Int)<_;decide),rfl,_,rfl,aO (fun v2=>⟨_,rfl,_,_,rfl,rfl,_,rfl,aO (fun v3=>?_) (fun v3=>?_)⟩) (fun v2=>?_)⟩⟩
 .have s06:=s05.trans s6
  refine ⟨_,rfl,_,rfl,_,rfl,a,ns,3,rfl,t1 s06,hn,AW,fun d7 H7 ed7 d70 d71 s7=>?_⟩
  have e0:0<=(i+d7) % 10:=bh AW
  have e1:(i+d7) % 10<10:=be AW
  obtain ⟨n,en⟩:=Dx e0
  have n10:n<10:=by lia
  have all:∀n:Fin 10,∃ z:Str,deskW.getD n.val ""=z/\[V.str "heap",.str "put",.str "drop",.str "change",.str "take",.str "least",.str "first",.str "join",.str "room",.str "works"][n.val]?=some (.str z)/\AbcN z 8:=by
   intro n
   match n with
   | 0=>exact ⟨_,rfl,rfl,AbcN.of AV⟩
   | 1=>exact ⟨_,rfl,rfl,AbcN.of AV⟩
   | 2=>exact ⟨_,rfl,rfl,AbcN.of AV⟩
   | 3=>exact ⟨_,rfl,rfl,AbcN.of AV⟩
   | 4=>exact ⟨_,rfl,rfl,AbcN.of AV⟩
   | 5=>exact ⟨_,rfl,rfl,AbcN.of AV⟩
   | 6=>exact ⟨_,rfl,rfl,AbcN.of AV⟩
   | 7=>exact ⟨_,rfl,rfl,AbcN.of AV⟩
   | 8=>exact ⟨_,rfl,rfl,AbcN.of AV⟩
   | 9=>exact ⟨_,rfl,rfl,AbcN.of AV⟩
  obtain ⟨z,ez0,ez,NZ⟩:=all ⟨n,n10⟩
  have d65:d6=d5:=by rw [ed6,ed5]
  have d74:d7=d4:=by rw [ed7,ed4]
  rw [Bf ⟨by rw [<-d65];exact V.int.inj (Ba v2),Ba v3⟩] at eW
  have eZ:z=fq ns i:=by
   rw [eW,<-d74,en,Cc]
   exact ez0.symm
  refine ⟨_,_,rfl,rfl,_,_,rfl,rfl,(by show (0:Int)<_;decide),q0,_,_,_,rfl,rfl,SqT.of (((((s1.trans s2).trans s3).trans s4).trans s5).trans (s6.trans s7) _ _ g0),(by show atI _ ((i+d7) % 10)=_;rw [en];exact aL ez),kQ z _ eZ NZ (s06.trans s7)⟩
 .rw [Bc (fun y=>v3 (Bb y.2))] at eW
  refine ⟨_,rfl,_,rfl,pc,d2 % 7,rfl,rfl,pl0,AX,fun r1 hr1=>?_⟩
  have l1:r1.length=(d2 % 7).toNat:=by rw [ba,hr1,Cp]
  refine ⟨_,rfl,_,_,rfl,rfl,A0 (show r1.length+1<=10 by lia) AW,_,rfl,_,rfl,pc,d3 % (7-d2 % 7),rfl,rfl,tl0,AX,fun r2 hr2=>?_⟩
  have l2:r2.length=(d3 % (7-d2 % 7)).toNat:=by rw [ba,hr2,Cp]
  have W:=(zC hr1 hr2 p0 p1 NS).mono (n:=7) AX
  have wl:=W.hi
  have wl2:=W.lo
  refine ⟨_,_,rfl,rfl,A0 (show _+r2.length<=20 by rw [a6];show r1.length+1+r2.length<=20;lia) AW,?_⟩
  have R1:r1=i0 pc (d2 % 7):=ca (by rw [hr1];exact (D0 ..).symm)
  have R2:r2=i0 pc (d3 % (7-d2 % 7)):=ca (by rw [hr2];exact (D0 ..).symm)
  rw [<-R1,<-R2] at eW
  generalize r1++(⟨#[sg]⟩:Str)++r2=wd at W wl wl2 eW ⊢
  have NX:AbcN "x" 1:=AbcN.of AV
  have l9:9<=sizeLine:=by decide
  have ret:∀wd':Str,AbcN wd' 7->wd'++"x"=fq ns i->Q (.str (wd'++"x")) _:=fun wd' W' e'=>kQ _ _ e' (W'.app NX) (s05.trans s6)
  refine ⟨_,rfl,_,_,rfl,rfl,(by show (0:Int)<_;decide),rfl,_,rfl,aO (fun u1=>⟨_,rfl,wd,rfl,AX,_,_,rfl,rfl,_,rfl,aO (fun c=>?_) (fun c=>?_)⟩) (fun u1=>?_)⟩
  .have c':(wd.length:Int)<7:=Ba c
   have W2:AbcN (wd++⟨#[pc]⟩) 7:=⟨(W.app NP).lo,by rw [a6];show wd.length+1<=7;lia,(W.app NP).abc⟩
   have:=W2.hi
   rw [Bf ⟨V.int.inj (Ba u1),c'⟩] at eW
   refine ⟨_,rfl,_,rfl,_,_,rfl,rfl,A0 (show wd.length+1<=9 by lia) l9,_,rfl,_,_,rfl,rfl,A0 (show (wd++(⟨#[pc]⟩:Str)).length+1<=9 by lia) l9,ret _ W2 eW.symm⟩
  .rw [Bc (fun y=>c (Bb y.2))] at eW
   exact ⟨_,rfl,_,_,rfl,rfl,A0 (show wd.length+1<=9 by lia) l9,ret _ W eW.symm⟩
  .rw [Bc (fun y=>u1 (Bb (show V.int (i % 2)=V.int 1 by rw [y.1])))] at eW
   exact ⟨_,rfl,_,_,rfl,rfl,A0 (show wd.length+1<=9 by lia) l9,ret _ W eW.symm⟩
 rw [Bc (fun y=>v2 (Bb (show V.int (d6 % 4)=V.int 2 by rw [show d6=d5 by rw [ed6,ed5],y.1])))] at eW
 refine ⟨_,rfl,_,rfl,pc,d2 % 7,rfl,rfl,pl0,AX,fun r1 hr1=>?_⟩
 have l1:r1.length=(d2 % 7).toNat:=by rw [ba,hr1,Cp]
 refine ⟨_,rfl,_,_,rfl,rfl,A0 (show r1.length+1<=10 by lia) AW,_,rfl,_,rfl,pc,d3 % (7-d2 % 7),rfl,rfl,tl0,AX,fun r2 hr2=>?_⟩
 have l2:r2.length=(d3 % (7-d2 % 7)).toNat:=by rw [ba,hr2,Cp]
 have W:=(zC hr1 hr2 p0 p1 NS).mono (n:=7) AX
 have wl:=W.hi
 have wl2:=W.lo
 refine ⟨_,_,rfl,rfl,A0 (show _+r2.length<=20 by rw [a6];show r1.length+1+r2.length<=20;lia) AW,?_⟩
 have R1:r1=i0 pc (d2 % 7):=ca (by rw [hr1];exact (D0 ..).symm)
 have R2:r2=i0 pc (d3 % (7-d2 % 7)):=ca (by rw [hr2];exact (D0 ..).symm)
 rw [<-R1,<-R2] at eW
 generalize r1++(⟨#[sg]⟩:Str)++r2=wd at W wl wl2 eW ⊢
 have NX:AbcN "x" 1:=AbcN.of AV
 have l9:9<=sizeLine:=by decide
 have ret:∀wd':Str,AbcN wd' 7->wd'++"x"=fq ns i->Q (.str (wd'++"x")) _:=fun wd' W' e'=>kQ _ _ e' (W'.app NX) (s05.trans s6)
 refine ⟨_,rfl,_,_,rfl,rfl,(by show (0:Int)<_;decide),rfl,_,rfl,aO (fun u1=>⟨_,rfl,wd,rfl,AX,_,_,rfl,rfl,_,rfl,aO (fun c=>?_) (fun c=>?_)⟩) (fun u1=>?_)⟩
 .have c':(wd.length:Int)<7:=Ba c
  have W2:AbcN (wd++⟨#[pc]⟩) 7:=⟨(W.app NP).lo,by rw [a6];show wd.length+1<=7;lia,(W.app NP).abc⟩
  have:=W2.hi
  rw [Bf ⟨V.int.inj (Ba u1),c'⟩] at eW
  refine ⟨_,rfl,_,rfl,_,_,rfl,rfl,A0 (show wd.length+1<=9 by lia) l9,_,rfl,_,_,rfl,rfl,A0 (show (wd++(⟨#[pc]⟩:Str)).length+1<=9 by lia) l9,ret _ W2 eW.symm⟩
 .rw [Bc (fun y=>c (Bb y.2))] at eW
  exact ⟨_,rfl,_,_,rfl,rfl,A0 (show wd.length+1<=9 by lia) l9,ret _ W eW.symm⟩
 rw [Bc (fun y=>u1 (Bb (show V.int (i % 2)=V.int 1 by rw [y.1])))] at eW
 exact ⟨_,rfl,_,_,rfl,rfl,A0 (show wd.length+1<=9 by lia) l9,ret _ W eW.symm⟩
theorem _root_.L2.EnR.bar' {t:V->List V}{st:Addr}(e:EnR t H xs)(k:Kept [st] H H')(hs:H st=some (.dK ks)):EnR t H' xs:=⟨e.tot,fun x hx=>by
 obtain ⟨a,ea,ha⟩:=e.mem x hx
 exact ⟨a,ea,k _ _ ha (fun z=>by rw [AZ z,hs] at ha;cases ha)⟩⟩
abbrev um:Stmt:=top 39
theorem u9:au ["heap","k","row","low"] ["heap","k"] (ao um):=fs0
def ku:Sp:=fun vs H Q _=>∃ (st r td:Addr) (s:LS) (wk:Nat) (xs:List V) (a:Nat) (t:V->List V),vs=[.ref st,.int a]/\H st=some (.dK (dkK r td s wk))/\H r=some (.lst xs)/\EnR t H xs/\xs.length<=1000 /\
 ∀H',H' r=some (.lst (dn (ltT t) xs.length xs a wk).1)->H' st=some (.dK (dkK r td s (dn (ltT t) xs.length xs a wk).2))->Kept [st,r] H H'->Q .non H'
theorem uA (F:Fun K "_law_down" "_law_down" um f fd)(T:Bl mg):av P w K mg base CX0 1 f fd ["heap","k"] ku:=by
 have sc:=u9
 refine F.okQ u9 fun cdv A outer s_ H vs Q E hr h=>?_
 obtain ⟨st,r,td,s,wk,xs,a,t,rfl,hs,hx,en,hl,k⟩:=h
 have hu:=hr.units0
 have nrs:r≠st:=aU hx hs (by intro z;cases z)
 refine ⟨_,(ac (qst 2 sc.nd (aN (aS hr) (qv 0) ar pix))
  (aj (cL BW (aw dq (ap aQ (ap cz af (qv 1)) af) (qcB aH T.z_len (aa (qv 2) ag)) (aE _)) (ac (qst 3 sc.nd (ap aQ (ap cz af (qv 1)) af))
  (ac (aR (aw dq (ap aQ (qv 3) af) (qcB aH T.z_len (aa (qv 2) ag)) (aE _)) (ac (b9 (aS hr) (qv 0) ar (ap aQ (aN (aS hr) (qv 0) ar pix) af) rfl)
  (aj (qst 3 sc.nd (ap aQ (qv 3) (qcT i8 T.z_int (aa (eA (jG hu) (aD aK (qv 2) (ap aQ (qv 3) af) pix) (aD aK (qv 2) (qv 3) pix) (aE _)) ag)))))) aB)
  (ac (b9 (aS hr) (qv 0) ar (ap aQ (aN (aS hr) (qv 0) ar pix) af) rfl)
  (ac (aR (cI (aw (jG hu) (aD aK (qv 2) (qv 3) pix) (aD aK (qv 2) (qv 1) pix) (aE _))) (aj lK) aB)
  (ac (gn (bq (aa (aD aK (qv 2) (qv 1) pix) (aa (aD aK (qv 2) (qv 3) pix) ag))) (tz rfl (e8 (dv (qv 2) (qv 3) ce) (e8 (dv (qv 2) (qv 1) ce) qf))))
  (aj (qst 1 sc.nd (qv 3))))))))))),?_⟩
 refine ⟨_,rfl,st,_,rfl,ie (r:=r) (td:=td) (s:=s) (wk:=wk)▸DGet.k (k:=Sum.inr "row") hs,?_⟩
 refine ⟨fun m Z H2=>∃ (f p lk:Nat) (bl:Option V) (ys:List V),Z=[some (.ref st),some (.int p),some (.ref r),bl]/\dn (ltT t) f ys p lk=dn (ltT t) xs.length xs a wk/\ys.length<=p+f/\H2 r=some (.lst ys)/\H2 st=some (.dK (dkK r td s lk))/\ys.length=xs.length/\(∀y∈ys,y∈xs)/\Kept [st,r] H H2/\m=ys.length-p,⟨_,xs.length,a,wk,none,xs,rfl,rfl,AX,hx,hs,rfl,fun y h=>h,Kept.refl,rfl⟩,?_⟩
 rintro m Z H2 ⟨f,p,lk,bl,ys,rfl,hd,hf,h2,g2,l2,s2,K2,rfl⟩
 have en2:EnR t H2 ys:=⟨en.tot,fun x hx'=>by
  obtain ⟨b,ea,ha⟩:=en.mem x (s2 x hx')
  refine ⟨b,ea,K2 _ _ ha (fun z=>?_)⟩
  simp only [ax,ah,Bn] at z
  rcases z with z | z
  .rw [z,hs] at ha;cases ha
  .rw [z,hx] at ha;cases ha⟩
 refine ⟨_,rfl,_,_,rfl,rfl,.inl ⟨AW,AW⟩,_,_,rfl,rfl,_,rfl,r,_,rfl,.inl (SqL.of h2),_,_,rfl,rfl,_,rfl,aO (fun c1=>?_) (fun c1=>?_)⟩
 rotate_left
 .have c1':¬ 2*(p:Int)+1<(ys.length:Int):=by simpa using c1
  rw [qJ AX] at hd
  have:=k H2
  rw [<-hd] at this
  exact this h2 g2 K2
 have c1':2*(p:Int)+1<(ys.length:Int):=by simpa using c1
 refine ⟨fun Z H2=>∃ m,m<ys.length-p/\∃ (f p lk:Nat) (bl:Option V) (ys:List V),Z=[some (.ref st),some (.int p),some (.ref r),bl]/\dn (ltT t) f ys p lk=dn (ltT t) xs.length xs a wk/\ys.length<=p+f/\H2 r=some (.lst ys)/\H2 st=some (.dK (dkK r td s lk))/\ys.length=xs.length/\(∀y∈ys,y∈xs)/\Kept [st,r] H H2/\m=ys.length-p,fun σ' H' z=>z,?_⟩
 refine ⟨_,rfl,_,_,rfl,rfl,.inl ⟨AW,AW⟩,_,_,rfl,rfl,?_⟩
 refine ⟨_,rfl,_,_,rfl,rfl,_,rfl,r,_,rfl,.inl (SqL.of h2),_,_,rfl,rfl,_,rfl,aO (fun c2=>?_) (fun c2=>?_)⟩
 .have c2':2*(p:Int)+1+1<(ys.length:Int):=by simpa using c2
  refine ⟨_,rfl,st,_,rfl,fE (r:=r) (td:=td) (s:=s) (wk:=lk)▸DGet.k (k:=Sum.inr "work") g2,_,_,rfl,rfl,_,rfl,st,_,rfl,DPut.k (k:=Sum.inr "work") g2 (by show 5<sizeLine;decide),?_⟩
  rw [show a8 (dkK r td s lk) (Sum.inr "work":Key) (.int ((lk:Nat)+1))=dkK r td s (lk+1) from gQ (w2:=lk+1)]
  have k3:Kept [st] H2 (upd H2 st (.dK (dkK r td s (lk+1)))):=Kept.refl.put AY
  have g3:=ad (H:=H2) (a:=st) (o:=.dK (dkK r td s (lk+1)))
  generalize upd H2 st (.dK (dkK r td s (lk+1)))=H3 at k3 g3 ⊢
  have h3:H3 r=some (.lst ys):=k3 _ _ h2 (fun z=>nrs (AZ z))
  have en3:EnR t H3 ys:=en2.bar' k3 g2
  have K3:Kept [st,r] H H3:=K2.trans (k3.mono fun b hb=>by rw [AZ hb];simp)
  obtain ⟨b3,e3,f3,m3,t3⟩:=en3.gat (show 2*p+2<ys.length by lia)
  obtain ⟨b4,e4,f4,m4,t4⟩:=en3.gat (show 2*p+1<ys.length by lia)
  rw [e3,show ((2*p+2:Nat):Int)=2*(p:Int)+1+1 by lia] at t3
  rw [e4,show ((2*p+1:Nat):Int)=2*(p:Int)+1 by lia] at t4
  refine ⟨_,rfl,_,rfl,_,rfl,_,_,rfl,rfl,r,_,_,_,rfl,rfl,SqL.of h3,t3,_,rfl,_,rfl,r,_,_,_,rfl,rfl,SqL.of h3,t4,b3,b4,_,_,rfl,rfl,SqT.of f3,SqT.of f4,en3.fit _ _,.inr ⟨_,rfl,_,_,rfl,rfl,?_⟩⟩
  have hB:2*(p:Int)+1+(if bv (t (g ys (2*p+2))) (t (g ys (2*p+1)))=true then 1 else 0)=((les (ltT t) ys p:Nat):Int):=(o3 (lt:=ltT t) AX).symm
  have kidsE:kids ys.length p=2:=by unfold kids;rw [Bf AX]
  refine ⟨_,rfl,st,_,rfl,fE (r:=r) (td:=td) (s:=s) (wk:=(lk+1))▸DGet.k (k:=Sum.inr "work") g3,_,_,rfl,rfl,_,rfl,st,_,rfl,DPut.k (k:=Sum.inr "work") g3 (by show 5<sizeLine;decide),?_⟩
  rw [show a8 (dkK r td s (lk+1)) (Sum.inr "work":Key) (.int (((lk+1):Nat)+1))=dkK r td s ((lk+1)+1) from gQ (w2:=(lk+1)+1)]
  have k4:Kept [st] H3 (upd H3 st (.dK (dkK r td s ((lk+1)+1)))):=Kept.refl.put AY
  have g4:=ad (H:=H3) (a:=st) (o:=.dK (dkK r td s ((lk+1)+1)))
  generalize upd H3 st (.dK (dkK r td s ((lk+1)+1)))=H4 at k4 g4 ⊢
  have h4:H4 r=some (.lst ys):=k4 _ _ h3 (fun z=>nrs (AZ z))
  have en4:EnR t H4 ys:=en3.bar' k4 g3
  have K4:Kept [st,r] H H4:=K3.trans (k4.mono fun b hb=>by rw [AZ hb];simp)
  have g4':=g4
  have hles:les (ltT t) ys p<ys.length:=cP AX
  have lo:=de (lt:=ltT t) (xs:=ys) (p:=p)
  obtain ⟨b1,e1,g1,m1,t1⟩:=en4.gat hles
  obtain ⟨b2,e2,g2,m2,t2⟩:=en4.gat (show p<ys.length by lia)
  rw [e1] at t1
  rw [e2] at t2
  rw [<-hB] at t1
  refine ⟨_,rfl,_,rfl,r,_,_,_,rfl,rfl,SqL.of h4,t1,_,rfl,_,rfl,r,_,_,_,rfl,rfl,SqL.of h4,t2,b1,b2,_,_,rfl,rfl,SqT.of g1,SqT.of g2,en4.fit _ _,_,rfl,aO (fun c3=>?_) (fun c3=>?_)⟩
  .have q3:ltT t (g ys (les (ltT t) ys p)) (g ys p)=false:=by
    cases q:ltT t (g ys (les (ltT t) ys p)) (g ys p) with
    | false=>rfl
    | true=>have c4:=(show (!ltT t (g ys (les (ltT t) ys p)) (g ys p))=true from c3);rw [q] at c4;cases c4
   obtain ⟨f,rfl⟩:∃ f0,f=f0+1:=⟨f-1,AX⟩
   rw [fy AX q3,kidsE] at hd
   have:=k H4
   rw [<-hd] at this
   exact this h4 g4' K4
  .have q3:ltT t (g ys (les (ltT t) ys p)) (g ys p)=true:=by
    cases q:ltT t (g ys (les (ltT t) ys p)) (g ys p) with
    | true=>rfl
    | false=>exact absurd (show (!ltT t (g ys (les (ltT t) ys p)) (g ys p))=true by rw [q];rfl) c3
   obtain ⟨f,rfl⟩:∃ f0,f=f0+1:=⟨f-1,AX⟩
   rw [lV AX q3,kidsE] at hd
   refine ⟨_,rfl,_,rfl,r,_,_,_,rfl,rfl,SqL.of h4,t2,_,rfl,_,rfl,r,_,_,_,rfl,rfl,SqL.of h4,t1,sz2,fun p2 hp=>?_⟩
   have hrp:r≠p2:=ak h4 hp
   have hsp:st≠p2:=ak g4' hp
   refine ⟨p2,_,rfl,SqT.of ad,rfl,_,_,rfl,_,rfl,_,rfl,r,ys,_,_,rfl,rfl,by rw [ai hrp];exact h4,cO AX (by rw [hB];lia),_,_,rfl,_,rfl,_,rfl,r,_,_,_,rfl,rfl,ad,cO AX (by rw [Cn];lia),rfl,?_⟩
   have esw:(ys.set (2*(p:Int)+1+(if bv (t (g ys (2*p+2))) (t (g ys (2*p+1)))=true then 1 else 0)).toNat (.ref b2)).set (p:Int).toNat (.ref b1)=sw ys p (les (ltT t) ys p):=by
    unfold sw
    rw [e1,e2,hB,Cc,Cc]
    exact List.set_comm _ _ AX
   rw [fP,esw]
   refine ⟨_,rfl,ys.length-les (ltT t) ys p,AX,f,les (ltT t) ys p,lk+1+1,some (.int (2*(p:Int)+1+(if bv (t (g ys (2*p+2))) (t (g ys (2*p+1)))=true then 1 else 0))),sw ys p (les (ltT t) ys p),?_,hd,by rw [aT];lia,ad,?_,by rw [aT];exact l2,fun y hy=>s2 y (eR AX hles y hy),?_,by rw [aT]⟩
   .show [some (V.ref st),some (V.int (2*(p:Int)+1+(if bv (t (g ys (2*p+2))) (t (g ys (2*p+1)))=true then 1 else 0))),some (V.ref r),some (V.int (2*(p:Int)+1+(if bv (t (g ys (2*p+2))) (t (g ys (2*p+1)))=true then 1 else 0)))]=_
    rw [hB]
   .rw [ai nrs.symm,ai hsp]
    exact g4'
   .exact (K4.new hp).put AY
 have c2':¬ 2*(p:Int)+1+1<(ys.length:Int):=by simpa using c2
 have hB:2*(p:Int)+1=((les (ltT t) ys p:Nat):Int):=by rw [pv AX];lia
 have kidsE:kids ys.length p=1:=by unfold kids;rw [Bc AX,Bf AX]
 refine ⟨_,rfl,st,_,rfl,fE (r:=r) (td:=td) (s:=s) (wk:=lk)▸DGet.k (k:=Sum.inr "work") g2,_,_,rfl,rfl,_,rfl,st,_,rfl,DPut.k (k:=Sum.inr "work") g2 (by show 5<sizeLine;decide),?_⟩
 rw [show a8 (dkK r td s lk) (Sum.inr "work":Key) (.int ((lk:Nat)+1))=dkK r td s (lk+1) from gQ (w2:=lk+1)]
 have k3:Kept [st] H2 (upd H2 st (.dK (dkK r td s (lk+1)))):=Kept.refl.put AY
 have g3:=ad (H:=H2) (a:=st) (o:=.dK (dkK r td s (lk+1)))
 generalize upd H2 st (.dK (dkK r td s (lk+1)))=H3 at k3 g3 ⊢
 have h3:H3 r=some (.lst ys):=k3 _ _ h2 (fun z=>nrs (AZ z))
 have en3:EnR t H3 ys:=en2.bar' k3 g2
 have K3:Kept [st,r] H H3:=K2.trans (k3.mono fun b hb=>by rw [AZ hb];simp)
 have g3':=g3
 have hles:les (ltT t) ys p<ys.length:=cP AX
 have lo:=de (lt:=ltT t) (xs:=ys) (p:=p)
 obtain ⟨b1,e1,g1,m1,t1⟩:=en3.gat hles
 obtain ⟨b2,e2,g2,m2,t2⟩:=en3.gat (show p<ys.length by lia)
 rw [e1] at t1
 rw [e2] at t2
 rw [<-hB] at t1
 refine ⟨_,rfl,_,rfl,r,_,_,_,rfl,rfl,SqL.of h3,t1,_,rfl,_,rfl,r,_,_,_,rfl,rfl,SqL.of h3,t2,b1,b2,_,_,rfl,rfl,SqT.of g1,SqT.of g2,en3.fit _ _,_,rfl,aO (fun c3=>?_) (fun c3=>?_)⟩
 .have q3:ltT t (g ys (les (ltT t) ys p)) (g ys p)=false:=by
   cases q:ltT t (g ys (les (ltT t) ys p)) (g ys p) with
   | false=>rfl
   | true=>have c4:=(show (!ltT t (g ys (les (ltT t) ys p)) (g ys p))=true from c3);rw [q] at c4;cases c4
  obtain ⟨f,rfl⟩:∃ f0,f=f0+1:=⟨f-1,AX⟩
  rw [fy AX q3,kidsE] at hd
  have:=k H3
  rw [<-hd] at this
  exact this h3 g3' K3
 have q3:ltT t (g ys (les (ltT t) ys p)) (g ys p)=true:=by
  cases q:ltT t (g ys (les (ltT t) ys p)) (g ys p) with
  | true=>rfl
  | false=>exact absurd (show (!ltT t (g ys (les (ltT t) ys p)) (g ys p))=true by rw [q];rfl) c3
 obtain ⟨f,rfl⟩:∃ f0,f=f0+1:=⟨f-1,AX⟩
 rw [lV AX q3,kidsE] at hd
 refine ⟨_,rfl,_,rfl,r,_,_,_,rfl,rfl,SqL.of h3,t2,_,rfl,_,rfl,r,_,_,_,rfl,rfl,SqL.of h3,t1,sz2,fun p2 hp=>?_⟩
 have hrp:r≠p2:=ak h3 hp
 have hsp:st≠p2:=ak g3' hp
 refine ⟨p2,_,rfl,SqT.of ad,rfl,_,_,rfl,_,rfl,_,rfl,r,ys,_,_,rfl,rfl,by rw [ai hrp];exact h3,cO AX (by rw [hB];lia),_,_,rfl,_,rfl,_,rfl,r,_,_,_,rfl,rfl,ad,cO AX (by rw [Cn];lia),rfl,?_⟩
 have esw:(ys.set (2*(p:Int)+1).toNat (.ref b2)).set (p:Int).toNat (.ref b1)=sw ys p (les (ltT t) ys p):=by
  unfold sw
  rw [e1,e2,hB,Cc,Cc]
  exact List.set_comm _ _ AX
 rw [fP,esw]
 refine ⟨_,rfl,ys.length-les (ltT t) ys p,AX,f,les (ltT t) ys p,lk+1,some (.int (2*(p:Int)+1)),sw ys p (les (ltT t) ys p),?_,hd,by rw [aT];lia,ad,?_,by rw [aT];exact l2,fun y hy=>s2 y (eR AX hles y hy),?_,by rw [aT]⟩
 .show [some (V.ref st),some (V.int (2*(p:Int)+1)),some (V.ref r),some (V.int (2*(p:Int)+1))]=_
  rw [hB]
 .rw [ai nrs.symm,ai hsp]
  exact g3'
 exact (K3.new hp).put AY
abbrev wa:Stmt:=top 40
theorem tT:au ["heap","entry","row","k"] ["heap","entry"] (ao wa):=fs0
def wq:Sp:=fun vs H Q _=>∃ (st r td e:Addr) (s:LS) (wk:Nat) (xs:List V) (t:V->List V),vs=[.ref st,.ref e]/\H st=some (.dK (dkK r td s wk))/\H r=some (.lst xs)/\EnR t H (xs++[.ref e])/\xs.length<=900 /\
 ∀H',H' r=some (.lst (up (ltT t) xs.length (xs++[.ref e]) xs.length wk).1)->H' st=some (.dK (dkK r td s (up (ltT t) xs.length (xs++[.ref e]) xs.length wk).2))->Kept [st,r] H H'->Q .non H'
theorem wZ (F:Fun K "_law_into" "_law_into" wa f fd)(T:Bl mg):av P w K mg base CX0 1 f fd ["heap","entry"] wq:=by
 have sc:=tT
 refine F.okQ tT fun cdv A outer s_ H vs Q E hr h=>?_
 obtain ⟨st,r,td,e,s,wk,xs,t,rfl,hs,hx,en,hl,k⟩:=h
 have hu:=hr.units0
 have nrs:r≠st:=aU hx hs (by intro z;cases z)
 refine ⟨_,(ac (qst 2 sc.nd (aN (aS hr) (qv 0) ar pix))
  (ac (aJ (jm Ct Di Dj cy (qv 2) (aa (qv 1) ag)))
  (ac (qst 3 sc.nd (ap bK (qcB aH T.z_len (aa (qv 2) ag)) af))
  (aj (cL BW (aw iu (qv 3) af (aE _)) (ac (b9 (aS hr) (qv 0) ar (ap aQ (aN (aS hr) (qv 0) ar pix) af) rfl)
  (ac (aR (cI (aw (jG hu) (aD aK (qv 2) (qv 3) pix) (aD aK (qv 2) (ap bc (ap bK (qv 3) af) af) pix) (aE _))) (aj lK) aB)
  (ac (gn (bq (aa (aD aK (qv 2) (ap bc (ap bK (qv 3) af) af) pix) (aa (aD aK (qv 2) (qv 3) pix) ag))) (tz rfl (e8 (dv (qv 2) (qv 3) ce) (e8 (dv (qv 2) (ap bc (ap bK (qv 3) af) af) ce) qf))))
  (aj (qst 3 sc.nd (ap bc (ap bK (qv 3) af) af))))))))))),?_⟩
 refine ⟨_,rfl,st,_,rfl,ie (r:=r) (td:=td) (s:=s) (wk:=wk)▸DGet.k (k:=Sum.inr "row") hs,?_⟩
 refine ⟨_,rfl,.inl ⟨rfl,xs,SqL.of hx⟩,_,rfl,r,xs,_,rfl,rfl,hx,aY AX,?_⟩
 have k1:Kept [r] H (upd H r (.lst (xs++[.ref e]))):=Kept.refl.put AY
 have h1:=ad (H:=H) (a:=r) (o:=.lst (xs++[.ref e]))
 generalize upd H r (.lst (xs++[.ref e]))=H1 at k1 h1 ⊢
 have ln:(xs++[V.ref e]).length=xs.length+1:=by rw [Bi];rfl
 refine ⟨_,rfl,r,_,rfl,.inl (SqL.of h1),_,_,rfl,rfl,?_⟩
 have ea0:((xs++[V.ref e]).length:Int)-1=((xs.length:Nat):Int):=by lia
 refine ⟨fun m Z H2=>∃ (f p lk:Nat) (ys:List V),Z=[some (.ref st),some (.ref e),some (.ref r),some (.int p)]/\up (ltT t) f ys p lk=up (ltT t) xs.length (xs++[.ref e]) xs.length wk/\p<=f/\p<ys.length/\H2 r=some (.lst ys)/\H2 st=some (.dK (dkK r td s lk))/\ys.length=xs.length+1/\(∀y∈ys,y∈xs++[.ref e])/\Kept [st,r] H H2/\m=p,⟨_,xs.length,xs.length,wk,xs++[.ref e],(by show [some (V.ref st),some (V.ref e),some (V.ref r),some (V.int (((xs++[V.ref e]).length:Int)-1))]=_;rw [ea0]),rfl,A9 _,AX,h1,k1 _ _ hs (fun z=>nrs (AZ z).symm),ln,fun y h=>h,k1.mono (fun b hb=>by rw [AZ hb];simp),rfl⟩,?_⟩
 rintro p Z H2 ⟨f,p',lk,ys,rfl,hd,hf,hp,h2,g2,l2,s2,K2,rfl⟩
 have en2:EnR t H2 ys:=⟨en.tot,fun x hx'=>by
  obtain ⟨b,ea,ha⟩:=en.mem x (s2 x hx')
  refine ⟨b,ea,K2 _ _ ha (fun z=>?_)⟩
  simp only [ax,ah,Bn] at z
  rcases z with z | z
  .rw [z,hs] at ha;cases ha
  .rw [z,hx] at ha;cases ha⟩
 refine ⟨_,rfl,_,_,rfl,rfl,_,rfl,aO (fun c1=>?_) (fun c1=>?_)⟩
 rotate_left
 .have c1':¬ (p:Int)>0:=by simpa using c1
  rw [up_stop AX] at hd
  have:=k H2
  rw [<-hd] at this
  exact this h2 g2 K2
 have c1':(p:Int)>0:=by simpa using c1
 obtain ⟨f,rfl⟩:∃ f0,f=f0+1:=⟨f-1,AX⟩
 have hq':(p-1) / 2<ys.length:=by lia
 have ea:((p:Int)-1) / 2=(((p-1) / 2:Nat):Int):=by lia
 refine ⟨fun Z H2=>∃ m',m'<p/\∃ (f p lk:Nat) (ys:List V),Z=[some (.ref st),some (.ref e),some (.ref r),some (.int p)]/\up (ltT t) f ys p lk=up (ltT t) xs.length (xs++[.ref e]) xs.length wk/\p<=f/\p<ys.length/\H2 r=some (.lst ys)/\H2 st=some (.dK (dkK r td s lk))/\ys.length=xs.length+1/\(∀y∈ys,y∈xs++[.ref e])/\Kept [st,r] H H2/\m'=p,fun σ' H' z=>z,?_⟩
 refine ⟨_,rfl,st,_,rfl,fE (r:=r) (td:=td) (s:=s) (wk:=lk)▸DGet.k (k:=Sum.inr "work") g2,_,_,rfl,rfl,_,rfl,st,_,rfl,DPut.k (k:=Sum.inr "work") g2 (by show 5<sizeLine;decide),?_⟩
 rw [show a8 (dkK r td s lk) (Sum.inr "work":Key) (.int ((lk:Nat)+1))=dkK r td s (lk+1) from gQ (w2:=lk+1)]
 have k3:Kept [st] H2 (upd H2 st (.dK (dkK r td s (lk+1)))):=Kept.refl.put AY
 have g3:=ad (H:=H2) (a:=st) (o:=.dK (dkK r td s (lk+1)))
 generalize upd H2 st (.dK (dkK r td s (lk+1)))=H3 at k3 g3 ⊢
 have h3:H3 r=some (.lst ys):=k3 _ _ h2 (fun z=>nrs (AZ z))
 have en3:EnR t H3 ys:=en2.bar' k3 g2
 have K3:Kept [st,r] H H3:=K2.trans (k3.mono fun b hb=>by rw [AZ hb];simp)
 obtain ⟨b1,e1,f1,m1,t1⟩:=en3.gat hp
 obtain ⟨b2,e2,f2,m2,t2⟩:=en3.gat hq'
 rw [e1] at t1
 rw [e2,<-ea] at t2
 refine ⟨_,rfl,_,rfl,r,_,_,_,rfl,rfl,SqL.of h3,t1,_,rfl,_,rfl,_,_,rfl,rfl,_,_,rfl,rfl,⟨AW,AW⟩,r,_,_,_,rfl,rfl,SqL.of h3,t2,b1,b2,_,_,rfl,rfl,SqT.of f1,SqT.of f2,en3.fit _ _,_,rfl,aO (fun c3=>?_) (fun c3=>?_)⟩
 .have q3:ltT t (g ys p) (g ys ((p-1) / 2))=false:=by
   cases q:ltT t (g ys p) (g ys ((p-1) / 2)) with
   | false=>rfl
   | true=>have c4:=(show (!ltT t (g ys p) (g ys ((p-1) / 2)))=true from c3);rw [q] at c4;cases c4
  rw [up_stay AX q3] at hd
  have:=k H3
  rw [<-hd] at this
  exact this h3 g3 K3
 have q3:ltT t (g ys p) (g ys ((p-1) / 2))=true:=by
  cases q:ltT t (g ys p) (g ys ((p-1) / 2)) with
  | true=>rfl
  | false=>exact absurd (show (!ltT t (g ys p) (g ys ((p-1) / 2)))=true by rw [q];rfl) c3
 rw [up_go AX q3] at hd
 refine ⟨_,rfl,_,rfl,_,_,rfl,rfl,_,_,rfl,rfl,⟨AW,AW⟩,r,_,_,_,rfl,rfl,SqL.of h3,t2,_,rfl,_,rfl,r,_,_,_,rfl,rfl,SqL.of h3,t1,sz2,fun p2 hp2=>?_⟩
 have hrp:r≠p2:=ak h3 hp2
 have hsp:st≠p2:=ak g3 hp2
 refine ⟨p2,_,rfl,SqT.of ad,rfl,_,_,rfl,_,rfl,_,rfl,r,ys,_,_,rfl,rfl,by rw [ai hrp];exact h3,cO AX AX,_,_,rfl,_,rfl,_,rfl,_,_,rfl,rfl,_,_,rfl,rfl,⟨AW,AW⟩,r,_,_,_,rfl,rfl,ad,cO AX (by rw [Cn,ea];lia),rfl,?_⟩
 have esw:(ys.set (p:Int).toNat (.ref b2)).set (((p:Int)-1) / 2).toNat (.ref b1)=sw ys p ((p-1) / 2):=by
  unfold sw
  rw [e1,e2,ea]
  rfl
 rw [fP,esw]
 refine ⟨_,rfl,_,_,rfl,rfl,_,_,rfl,rfl,⟨AW,AW⟩,(p-1) / 2,AX,f,(p-1) / 2,lk+1,sw ys p ((p-1) / 2),?_,hd,AX,by rw [aT];exact hq',ad,?_,by rw [aT];exact l2,fun y hy=>s2 y (eR hp hq' y hy),?_,rfl⟩
 .show [some (V.ref st),some (V.ref e),some (V.ref r),some (V.int (((p:Int)-1) / 2))]=_
  rw [ea]
 .rw [ai nrs.symm,ai hsp]
  exact g3
 exact (K3.new hp2).put AY
abbrev wj:Stmt:=top 38
theorem uO:au ["slack"] ["slack"] (ao wj):=fs0
def uf:Sp:=fun vs H Q _=>∃ (z:Int),vs=[.int z]/\∀st r td H',H st=none->H r=none->H td=none->DkAt H' st r td (Gm.newL z) 0->Same H H'->Q (.ref st) H'
theorem xD (F:Fun K "_law_new" "_law_new" wj f fd)(T:Bl mg):av P w K mg base CX0 1 f fd ["slack"] uf:=by
 have sc:=uO
 refine F.okQ uO fun cdv A outer s H vs Q E hr h=>?_
 obtain ⟨z,rfl,k⟩:=h
 have hu:=hr.units0
 refine ⟨_,(aj (aA (uT ar (bn ag) ar cG ar af ar (qv 0) ar af))),?_⟩
 refine fun st hst=>?_
 refine gnew hst fun H1 s1 g1=>?_
 refine ⟨sz0,fun r hr1=>?_⟩
 refine gnew hr1 fun H2 s2 g2=>?_
 refine fun td htd=>?_
 refine gnew htd fun H3 s3 g3=>?_
 have n1:st≠r:=ak g1 hr1
 have n2:st≠td:=ak (s2 _ _ g1) htd
 have n3:r≠td:=ak g2 htd
 refine ⟨_,rfl,s3 _ _ (s2 _ _ g1),[(Sum.inr "row",.ref r),(Sum.inr "now",.ref td),(Sum.inr "next",.int 0),(Sum.inr "slack",.int z),(Sum.inr "work",.int 0)],rfl,by show 5<=15;decide,?_⟩
 rw [uI]
 have old:∀{b:Addr} {X Y:Hp},Same X Y->Y b=none->X b=none:=fun {b X Y} sm h=>by
  cases e:X b with
  | none=>rfl
  | some o=>rw [sm b o e] at h;cases h
 refine k st r td _ hst (old s1 hr1) (old (s1.trans s2) htd) ⟨ad,⟨[],by rw [ai n1.symm];exact s3 _ _ g2,RR.nil⟩,⟨[],by rw [ai n2.symm];exact g3,KR.nil⟩,n2⟩ fun b o e=>?_
 rw [ai (ak e hst)]
 exact s3 _ _ (s2 _ _ (s1 _ _ e))
abbrev jP:Stmt:=top 42
theorem mJ:au ["heap","entry"] ["heap","entry"] (ao jP):=fs0
def iB:Sp:=fun vs H Q _=>∃ (st r td a:Addr) (s:LS) (wk:Nat) (e:En),vs=[.ref st,.ref a]/\DkAt H st r td s wk/\H a=some (.tup (enV e))/\Q (.bl (Gm.holds s.there e)) H
theorem rP (F:Fun K "_law_stands" "_law_stands" jP f fd)(T:Bl mg):av P w K mg base CX0 1 f fd ["heap","entry"] iB:=by
 have sc:=mJ
 refine F.okQ mJ fun cdv A outer s H vs Q E hr h=>?_
 obtain ⟨st,r,td,a,s,wk,e,rfl,O,ha,k⟩:=h
 have hu:=hr.units0
 obtain ⟨ks,hd,kr⟩:=O.ht
 refine ⟨_,(aj (aA (eA (pP hu) (mz (aS hr) (aN (aS hr) (qv 0) ar pix) (aD aI (qv 1) af pix) ⟨rfl,rfl,rfl,rfl⟩) (qv 1) (aE _)))),?_⟩
 refine ⟨_,rfl,st,_,rfl,O.now,td,rfl,.inl ⟨ks,.inl hd⟩,_,rfl,a,_,_,_,rfl,rfl,SqT.of ha,rfl,_,DGet.k (k:=Sum.inr e.n) hd,_,rfl,a,_,rfl,SqT.of ha,⟨_,_,_,rfl⟩,?_⟩
 rcases kr.get e.n with ⟨e1,e2⟩ | ⟨b,x,e1,e2,hb⟩
 .rw [e1]
  refine .inl ⟨rfl,?_⟩
  have h0:Gm.holds s.there e=false:=by unfold Gm.holds;rw [e2];exact Br (fun z=>nomatch z)
  rw [h0] at k
  exact k
 rw [e1]
 refine .inr ⟨b,_,rfl,SqT.of hb,⟨_,_,_,rfl⟩,?_⟩
 have h0:Gm.holds s.there e=decide (enV x=enV e):=by
  unfold Gm.holds
  rw [e2]
  rw [Cr,BR,BR]
  constructor
  .intro z
   rw [BI z]
  .intro z
   obtain ⟨xw,xn,xs⟩:=x
   obtain ⟨ew,en,es⟩:=e
   unfold enV at z
   injection z with z1 z;injection z with z2 z;injection z with z3 z
   injection z1 with z1;injection z2 with z2;injection z3 with z3
   rw [show xw=ew from z1,show xn=en from z2,show xs=es from z3]
 rw [h0] at k
 exact k
abbrev tU:Stmt:=top 41
theorem uM:au ["heap","last"] ["heap"] (ao tU):=fs0
def mY:Sp:=fun vs H Q _=>∃ (st r td:Addr) (s:LS),vs=[.ref st]/\DkAt H st r td s s.looks/\0<s.row.length/\s.row.length<=1000 /\
 ∀H',DkAt H' st r td (Gm.cut slt s) (Gm.cut slt s).looks->Kept [st,r] H H'->Q .non H'
theorem wA (F:Fun K "_law_out" "_law_out" tU f fd)(T:Bl mg)(G_law_down:av P w K mg base CX0 1 fn fdn ["heap","k"] ku)(D_law_down:Nm K mg "_law_down" fn fdn ["heap","k"]):av P w K mg base CX0 2 f fd ["heap"] mY:=by
 have sc:=uM
 refine F.okQ uM fun cdv A outer s_ H vs Q E hr h=>?_
 obtain ⟨st,r,td,s,rfl,O,h0,hl,k⟩:=h
 have hu:=hr.units0
 obtain ⟨xs,hx,rr⟩:=O.hr
 obtain ⟨n1,n2⟩:=O.apart
 have lx:=rr.len
 have eg:xs[xs.length-1]?=some (g xs (xs.length-1)):=by rw [g_get AX];exact bt _
 have mg':g xs (xs.length-1)∈xs:=BC eg
 have ld:xs.dropLast.length=xs.length-1:=BU
 have em:=pD (H:=H) (xs:=xs)
 rw [rr.eq] at em
 have r2:=rr.sub (ys:=(cutf (ltT (bO H)) xs).1) fun y hy=>(cv AX).mem_iff.mp (Bk _ hy)
 have fin:∀H',H' r=some (.lst (cutf (ltT (bO H)) xs).1)->H' st=some (.dK (dkK r td s (s.looks+(cutf (ltT (bO H)) xs).2)))->Kept [st,r] H H'->Q .non H':=fun H' h1 h2 kk=>by
  have tk:=O.tk kk fun b hb=>by simp only [ax,ah,Bn] at hb ⊢;rcases hb with z | z <;> simp [z]
  obtain ⟨ks,hd,kr⟩:=O.ht
  have e2:(cutf (ltT (bO H)) xs).2=(Hg.cutf lE s.row).2:=by rw [em]
  refine k H' ⟨?_,⟨_,h1,?_⟩,⟨ks,kk _ _ hd ?_,kr.stay tk⟩,O.ne⟩ kk
  .rw [e2] at h2
   exact h2
  .show RR H' _ (Hg.cutf lE s.row).1
   rw [em]
   exact r2.stay tk
  .simp only [ax,ah,Bn,Ef]
   exact ⟨O.ne.symm,n2.symm⟩
 refine ⟨_,(ac (qst 1 sc.nd (mX Ct FL FN vJ (aN (aS hr) (qv 0) ar pix)))
  (aj (aR (aw (v9 hu) (aN (aS hr) (qv 0) ar pix) (bn ag) (aE _)) (ac (gn (qv 1) (dv (aN (aS hr) (qv 0) ar pix) af ce))
  (aj (aJ (qcl G_law_down hr D_law_down aG (aa (qv 0) (aa af ag)))))) aB))),?_⟩
 refine ⟨_,rfl,st,_,rfl,O.row,.inl ⟨rfl,_,SqL.of hx⟩,r,xs,_,rfl,rfl,hx,eg,?_⟩
 have hs1:(upd H r (.lst xs.dropLast)) st=some (.dK (dkK r td s s.looks)):=by rw [ai n1.symm];exact O.hs
 refine ⟨_,rfl,st,_,rfl,ie (r:=r) (td:=td) (s:=s) (wk:=s.looks)▸DGet.k (k:=Sum.inr "row") hs1,sz0,fun q hq=>?_⟩
 have nrq:r≠q:=ak (ad (H:=H) (a:=r) (o:=.lst xs.dropLast)) hq
 have hq0:H q=none:=by rw [<-ai nrq.symm (H:=H) (o:=.lst xs.dropLast)];exact hq
 have hxd:(upd (upd H r (.lst xs.dropLast)) q (.lst [])) r=some (.lst xs.dropLast):=by rw [ai nrq];exact ad
 have kk0:Kept [st,r] H (upd (upd H r (.lst xs.dropLast)) q (.lst [])):=((Kept.refl.put AY).newer hq0)
 have kk1:Kept [r] H (upd (upd H r (.lst xs.dropLast)) q (.lst [])):=((Kept.refl.put AY).newer hq0)
 have tk0:=O.tk kk1 fun b hb=>by rw [AZ hb];simp
 have hqd:(upd (upd H r (.lst xs.dropLast)) q (.lst [])) q=some (.lst []):=ad
 generalize upd (upd H r (.lst xs.dropLast)) q (.lst [])=H2 at hxd kk0 kk1 tk0 hqd
 have hs2:=kk1 _ _ O.hs (fun z=>n1 (AZ z).symm)
 refine ⟨r,q,xs.dropLast,rfl,rfl,SqL.of hxd,SqL.of hqd,_,rfl,aO (fun c1=>?_) (fun c1=>?_)⟩
 rotate_left
 .have c1':xs.dropLast=[]:=by
   cases e:xs.dropLast with
   | nil=>rfl
   | cons a b=>exact absurd (show (!decide (xs.dropLast=[]))=true by rw [Br (by rw [e];simp)];rfl) c1
  have ec:cutf (ltT (bO H)) xs=([],0):=cE (by have:xs.dropLast.length=0:=(by rw [c1'];rfl);lia)
  exact fin H2 (by rw [ec,hxd,c1']) (by rw [ec];exact hs2) kk0
 have c1':xs.dropLast≠[]:=fun z=>by rw [Bb z] at c1;cases c1
 have c2:xs.dropLast.length≠0:=fun z=>c1' (Bx.mp z)
 have l2:(xs.dropLast.set 0 (g xs (xs.length-1))).length=xs.dropLast.length:=Cn
 have ec:cutf (ltT (bO H)) xs=dn (ltT (bO H)) xs.dropLast.length (xs.dropLast.set 0 (g xs (xs.length-1))) 0 0:=by
  unfold cutf
  rw [Bc c1']
 refine ⟨_,rfl,_,rfl,st,_,rfl,ie (r:=r) (td:=td) (s:=s) (wk:=s.looks)▸DGet.k (k:=Sum.inr "row") hs2,r,xs.dropLast,_,0,rfl,rfl,hxd,cO AX AX,?_⟩
 have en2:EnR (bO H) (upd H2 r (.lst (xs.dropLast.set 0 (g xs (xs.length-1))))) (xs.dropLast.set 0 (g xs (xs.length-1))):=by
  refine EnR.put ⟨eU H,fun x hx2=>?_⟩ hxd
  have hm:x∈xs:=by
   rcases EZ hx2 with z | z
   .exact (FP xs).mem z
   .rw [z];exact mg'
  obtain ⟨a,e1,e2⟩:=rr.en.mem x hm
  exact ⟨a,e1,tk0 _ _ e2⟩
 refine ⟨_,rfl,st,r,td,s,s.looks,_,0,bO H,rfl,by rw [ai n1.symm];exact hs2,ad,en2,AX,fun H' h' g' f'=>?_⟩
 rw [l2,jS,<-ec] at h' g'
 refine fin _ h' g' ?_
 intro b o e hb
 have nb:b≠r:=fun z=>hb (by rw [z];simp)
 refine f' b o ?_ hb
 rw [ai nb]
 exact kk0 b o e hb
abbrev kK:Stmt:=top 43
theorem lH:au ["heap"] ["heap"] (ao kK):=fs0
def kN:Sp:=fun vs H Q _=>∃ (st r td:Addr) (s:LS),vs=[.ref st]/\DkAt H st r td s s.looks/\Gm.LInv slt s/\s.there≠[]/\s.row.length<=1000 /\
 ∀H',DkAt H' st r td (Gm.leastL slt s) (Gm.leastL slt s).looks->Kept [st,r] H H'->Q .non H'
theorem qW {fi fo:Addr}{fdi:FuncData}(F:Fun K "_law_clean" "_law_clean" kK f fd)(T:Bl mg)(G_law_stands:av P w K mg base CX0 1 fi fdi ["heap","entry"] iB)(D_law_stands:Nm K mg "_law_stands" fi fdi ["heap","entry"])(G_law_out:av P w K mg base CX0 2 fo fdo ["heap"] mY)(D_law_out:Nm K mg "_law_out" fo fdo ["heap"]):av P w K mg base CX0 3 f fd ["heap"] kN:=by
 have sc:=lH
 refine F.okQ lH fun cdv A outer s_ H vs Q E hr h=>?_
 obtain ⟨st,r,td,s,rfl,O,LI,tne,hl,k⟩:=h
 have hu:=hr.units0
 refine ⟨_,(aj (cL BW (cI (bY (qcl G_law_stands hr D_law_stands aG (aa (qv 0) (aa (aD aK (aN (aS hr) (qv 0) ar pix) af pix) ag))))) (aj (aJ (qcl G_law_out hr D_law_out aG (aa (qv 0) ag)))))),?_⟩
 refine ⟨fun m Z H5=>∃ (f:Nat) (s2:LS),Z=[some (.ref st)]/\DkAt H5 st r td s2 s2.looks/\Gm.LInv slt s2/\s2.there=s.there/\s2.row.length<=f/\s2.row.length<=s.row.length/\Gm.clean slt f s2=Gm.leastL slt s/\Kept [st,r] H H5/\m=s2.row.length,⟨_,s.row.length,s,rfl,O,LI,rfl,A9 _,A9 _,rfl,Kept.refl,rfl⟩,?_⟩
 rintro m Z H5 ⟨f,s2,rfl,O5,LI5,e5,hf,hle,hc,K5,rfl⟩
 obtain ⟨xs5,hx5,rr5⟩:=O5.hr
 have h0:=Gm.row_pos LI5 (by rw [e5];exact tne)
 obtain ⟨a,ea,ha,ia⟩:=rr5.at h0
 refine ⟨_,rfl,_,rfl,st,_,rfl,O5.row,r,_,_,_,rfl,rfl,SqL.of hx5,ia,st,r,td,a,s2,_,_,rfl,O5,ha,_,rfl,?_⟩
 cases c2:Gm.holds s2.there (Hg.g s2.row 0) with
 | false =>
  have c3:¬ Gm.holds s2.there (Hg.g s2.row 0)=true:=by rw [c2];exact Bm
  obtain ⟨f,rfl⟩:∃ f0,f=f0+1:=⟨f-1,AX⟩
  have hc2:Gm.clean slt f (Gm.cut slt s2)=Gm.leastL slt s:=by
   rw [<-hc]
   conv=>rhs;unfold Gm.clean
   rw [Bc c3]
  have lc:(Gm.cut slt s2).row.length=s2.row.length-1:=Hg.cutf_len
  refine iQ ?_
  refine ⟨fun Z H5=>∃ m,m<s2.row.length/\∃ (f:Nat) (s2:LS),Z=[some (.ref st)]/\DkAt H5 st r td s2 s2.looks/\Gm.LInv slt s2/\s2.there=s.there/\s2.row.length<=f/\s2.row.length<=s.row.length/\Gm.clean slt f s2=Gm.leastL slt s/\Kept [st,r] H H5/\m=s2.row.length,fun σ' H' z=>z,?_⟩
  refine ⟨_,rfl,st,r,td,s2,rfl,O5,h0,AX,fun H7 O7 k7=>?_⟩
  exact ⟨(Gm.cut slt s2).row.length,AX,f,Gm.cut slt s2,rfl,O7,Gm.cut_inv slt_slo LI5 h0 c3,e5,AX,AX,hc2,K5.trans k7,rfl⟩
 | true =>
  refine bL ?_
  have ec:Gm.leastL slt s=s2:=by
   rw [<-hc]
   cases f with
   | zero=>rfl
   | succ f=>unfold Gm.clean;rw [Bf c2]
  exact k H5 (by rw [ec];exact O5) K5
theorem jO {α:Type}{xs:List α}{f:α->Bool}{x:α}(h:xs[i]?=some x):(xs.take (i+1)).filter f=(xs.take i).filter f++(if f x=true then [x] else []):=by
 rw [Cz,h,Ea]
 congr 1
 show List.filter f [x]=_
 rw [BO]
 rfl
abbrev gJ:Stmt:=top 44
theorem mE:au ["heap","gone","k"] ["heap"] (ao gJ):=fs0
def iw:Sp:=fun vs H Q _=>∃ (st r td:Addr) (s:LS),vs=[.ref st]/\DkAt H st r td s s.looks/\s.row.length<=1000 /\
 ∀(r':Addr) (H':Hp),DkAt H' st r' td (Gm.sweep slt s) (Gm.sweep slt s).looks->Kept [st,r] H H'->(r'=r∨H r'=none)->Q .non H'
theorem rD {fg fh:Addr}{fdg fdh:FuncData}(F:Fun K "_law_sweep" "_law_sweep" gJ f fd)(T:Bl mg)(G_law_stands:av P w K mg base CX0 1 fg fdg ["heap","entry"] iB)(D_law_stands:Nm K mg "_law_stands" fg fdg ["heap","entry"])(G_law_down:av P w K mg base CX0 1 fh fdh ["heap","k"] ku)(D_law_down:Nm K mg "_law_down" fh fdh ["heap","k"]):av P w K mg base CX0 2 f fd ["heap"] iw:=by
 have sc:=mE
 refine F.okQ mE fun cdv A outer s_ H vs Q E hr h=>?_
 obtain ⟨st,r,td,s,rfl,O,hl,k⟩:=h
 have hu:=hr.units0
 obtain ⟨ks,hd,kr⟩:=O.ht
 obtain ⟨xs,hx,rr⟩:=O.hr
 obtain ⟨n1,n2⟩:=O.apart
 have lx:=rr.len
 have lk':=kr.len
 refine ⟨_,(ac (qst 1 sc.nd (ap bK (qcB aH T.z_len (aa (aN (aS hr) (qv 0) ar pix) ag)) (qcB bZ T.z_len (aa (aN (aS hr) (qv 0) ar pix) ag))))
  (aj (aR (QW.pt (cN (aw iu (qv 1) (qcB bZ T.z_len (aa (aN (aS hr) (qv 0) ar pix) ag)) (aE _)) (cb (aw iu (qv 1) (aN (aS hr) (qv 0) ar pix) (aE _))))) (ac (b9 (aS hr) (qv 0) ar (dU (Blk.of (N:=["heap","gone","k"]) (esc:=ao gJ) (NB:=["heap"]) (cap:=[0]) rfl rfl (fun y hy=>bM hy) rfl AV AV AV rfl AV rfl AV) rfl rfl (j5 (aN (aS hr) (qv 0) ar pix)) (fun C fp s₀ H₀=>(pM (bY (qcl G_law_stands hr D_law_stands aG (aa (qv 1) (aa (qv 0) ag)))))) (fun C fp s₀ H₀=>(qv 0))) rfl)
  (aj (eT BW rfl (i9 rfl T.z_range (aa (ap bK (ap bc (qcB aH T.z_len (aa (aN (aS hr) (qv 0) ar pix) ag)) af) af) (aa (jd gd af) (aa (jd gd af) ag)))) (cX (i:=2) sc.nd rfl (Or.inl rfl)) (aj (aJ (qcl G_law_down hr D_law_down aG (aa (qv 0) (aa (qv 2) ag)))))))) aB))),?_⟩
 refine ⟨_,rfl,st,_,rfl,O.row,r,_,rfl,.inl (SqL.of hx),_,rfl,st,_,rfl,O.now,td,ks,rfl,hd,_,_,rfl,rfl,?_⟩
 have hdue:Gm.due s=(decide ((xs.length:Int)-(ks.length:Int)>(ks.length:Int))&&decide ((xs.length:Int)-(ks.length:Int)>s.slack)):=by
  unfold Gm.due
  rw [lx,lk']
 have no:¬ Gm.due s=true->Q .non H:=fun hn=>by
  have e:Gm.sweep slt s=s:=by unfold Gm.sweep;rw [Bc hn]
  exact k r H (by rw [e];exact O) Kept.refl (.inl rfl)
 refine ⟨_,rfl,_,rfl,st,_,rfl,O.now,td,ks,rfl,hd,_,_,rfl,rfl,_,rfl,aO (fun c1=>?_) (fun c1=>?_)⟩
 rotate_left
 .refine bL (no fun z=>?_)
  rw [hdue,By] at z
  exact c1 z.1
 refine ⟨_,rfl,_,rfl,st,_,rfl,O.slack,_,_,rfl,rfl,_,rfl,aO (fun c2=>?_) (fun c2=>?_)⟩
 rotate_left
 .refine no fun z=>?_
  rw [hdue,By] at z
  exact c2 z.2
 have hdu:Gm.due s=true:=by
  rw [hdue,By]
  exact ⟨c1,c2⟩
 refine ⟨_,rfl,st,_,rfl,O.row,r,rfl,⟨_,SqL.of hx⟩,fun D hD=>?_⟩
 refine iH (K:=K) (a:=r) (xs:=xs) (fun i ys H4=>H4 D=some (.lst ys)/\ys=(xs.take i).filter (fun x=>Gm.holds s.there (tE H x))/\Same H H4) ⟨ad,rfl,aq hD⟩ (fun i ys H4 z=>⟨z.1,SqL.of (z.2.2 _ _ hx)⟩) ?_ ?_
 .rintro i x ys H4 hi ⟨h4,e4,s4⟩
  have mx:=BC hi
  have li:i<xs.length:=(Bu.mp hi).1
  obtain ⟨a,rfl,ha⟩:=rr.mem x mx
  have ft:=jO (f:=fun x=>Gm.holds s.there (tE H x)) hi
  have ly:ys.length<=xs.length:=by rw [e4];exact A0 (BQ _ _) (List.length_take_le' _ _)
  refine ⟨_,rfl,_,rfl,st,r,td,a,s,_,tE H (.ref a),rfl,O.same s4,s4 _ _ ha,_,rfl,aO (fun c3=>⟨_,rfl,h4,aY AX,_,AX,rfl,AX,ad,?_,lX s4 hD⟩) (fun c3=>⟨_,AX,rfl,AX,h4,?_,s4⟩)⟩
  .rw [ft,Bf c3,e4]
  .rw [ft,Bc c3,Cg,e4]
 rintro ys H4 ⟨h4,e4,s4⟩
 rw [Co] at e4
 have ly:ys.length<=xs.length:=by rw [e4];exact BQ _ _
 have r4:RR H4 ys (s.row.filter (Gm.holds s.there)):=by
  have r0:=(rr.sub (ys:=ys) fun y hy=>by rw [e4] at hy;exact (BJ.mp hy).1).stay fun b l h=>s4 _ _ h
  have em:ys.map (tE H)=s.row.filter (Gm.holds s.there):=by
   rw [e4,<-rr.eq,FI]
   rfl
  rw [em] at r0
  exact r0
 refine ⟨_,rfl,st,_,rfl,DPut.k (k:=Sum.inr "row") (s4 _ _ O.hs) (by show 5<sizeLine;decide),?_⟩
 obtain ⟨s1,e1⟩:∃ s1:LS,s1={ s with row:=s.row.filter (Gm.holds s.there) }:=⟨_,rfl⟩
 have et1:s1.there=s.there:=by rw [e1]
 have er1:s1.row=s.row.filter (Gm.holds s.there):=by rw [e1]
 have ek1:s1.looks=s.looks:=by rw [e1]
 have ep:a8 (dkK r td s s.looks) (Sum.inr "row":Key) (.ref D)=dkK D td s1 s.looks:=yP (by rw [e1]) (by rw [e1])
 rw [ep]
 have nsD:st≠D:=ak O.hs hD
 have k5:Kept [st] H4 (upd H4 st (.dK (dkK D td s1 s.looks))):=Kept.refl.put AY
 have t5:=(O.same s4).tk k5 fun b hb=>by rw [AZ hb];simp
 have O5:DkAt (upd H4 st (.dK (dkK D td s1 s.looks))) st D td s1 s.looks:=⟨ad,⟨ys,by rw [ai nsD.symm];exact h4,by rw [er1];exact r4.stay t5⟩,⟨ks,by rw [ai O.ne.symm];exact s4 _ _ hd,by rw [et1];exact (kr.stay fun b l h=>s4 _ _ h).stay t5⟩,O.ne⟩
 have K5:Kept [st,r] H (upd H4 st (.dK (dkK D td s1 s.looks))):=(Kept.of_same s4).trans (k5.mono fun b hb=>by rw [AZ hb];simp)
 generalize upd H4 st (.dK (dkK D td s1 s.looks))=H5 at k5 t5 O5 K5 ⊢
 obtain ⟨zs,hz,rz⟩:=O5.hr
 have lz:=rz.len
 have lz1:zs.length<=1000:=by
  rw [lz,er1]
  exact A0 (BQ _ _) hl
 have en:=rz.en
 obtain ⟨t,et⟩:∃ t,t=bO H5:=⟨_,rfl⟩
 rw [<-et] at en
 have nDs:D≠st:=nsD.symm
 refine ⟨_,rfl,st,_,rfl,O5.row,D,_,rfl,.inl (SqL.of hz),_,_,rfl,rfl,⟨AW,AW⟩,_,_,rfl,rfl,_,rfl,_,rfl,_,_,rfl,⟨AX,AX,AX,AX⟩,?_⟩
 have en0:((zs.length:Int) / 2-1 - -1).toNat=zs.length / 2:=by lia
 refine hU (lo:=(zs.length:Int) / 2-1) (n:=((zs.length:Int) / 2-1 - -1).toNat) (fun i Z H6=>∃ (lk:Nat) (o:Option V) (us:List V) (og:V),Z=[some (.ref st),some og,o]/\H6 D=some (.lst us)/\H6 st=some (.dK (dkK D td s1 lk))/\us.length=zs.length/\(∀y∈us,y∈zs)/\Kept [st,D] H5 H6/\mk (ltT t) (zs.length / 2-i) us lk=mk (ltT t) (zs.length / 2) zs s.looks)
  ⟨s.looks,none,zs,_,rfl,hz,O5.hs,rfl,fun y h=>h,Kept.refl,rfl⟩ ?_ ?_
 .rintro i Z H6 hi ⟨lk,o,us,og,rfl,h6,g6,l6,s6,f6,m6⟩
  rw [en0] at hi
  have en6:EnR t H6 us:=⟨en.tot,fun x hx'=>by
   obtain ⟨b,ea,ha⟩:=en.mem x (s6 x hx')
   refine ⟨b,ea,f6 _ _ ha (fun z=>?_)⟩
   simp only [ax,ah,Bn] at z
   rcases z with z | z
   .rw [z,O5.hs] at ha;cases ha
   .rw [z,hz] at ha;cases ha⟩
  have ei:(zs.length:Int) / 2-1-(i:Int)=((zs.length / 2-1-i:Nat):Int):=by lia
  refine ⟨_,rfl,_,rfl,st,D,td,s1,lk,us,zs.length / 2-1-i,t,(by show [V.ref st,V.int ((zs.length:Int) / 2-1-(i:Int))]=_;rw [ei]),g6,h6,en6,AX,fun H7 h7 g7 f7=>?_⟩
  refine ⟨_,_,_,og,rfl,h7,g7,dn_len.trans l6,fun y hy=>s6 y (dn_perm.mem_iff.mp hy),f6.trans f7,?_⟩
  rw [<-m6,show zs.length / 2-i=(zs.length / 2-(i+1))+1 by lia]
  conv=>rhs;unfold mk
  rw [show zs.length / 2-(i+1)=zs.length / 2-1-i by lia]
  rw [jS]
 rintro Z H6 ⟨lk,o,us,og,rfl,h6,g6,l6,s6,f6,m6⟩
 rw [en0,Nat.sub_self] at m6
 have m5:(us,lk)=mk (ltT t) (zs.length / 2) zs s.looks:=m6
 have em:=mP (H:=H5) (k:=zs.length / 2) (xs:=zs) (lk:=s.looks)
 rw [rz.eq,<-et,<-m5,lz,er1] at em
 have tk6:=O5.tk f6 fun b hb=>by simp only [ax,ah,Bn] at hb ⊢;rcases hb with z | z <;> simp [z]
 have ru:RR H6 us (us.map (tE H5)):=(rz.sub s6).stay tk6
 have es:Gm.sweep slt s={ s1 with row:=us.map (tE H5),looks:=lk }:=by
  unfold Gm.sweep
  rw [Bf hdu]
  unfold Gm.swept
  have e2:Hg.mk (Gm.ltE slt) ((s.row.filter (Gm.holds s.there)).length / 2) (s.row.filter (Gm.holds s.there)) s.looks=(us.map (tE H5),lk):=em
  rw [jY] at e2
  injection e2 with e3 e4
  rw [e3,e4,e1]
 obtain ⟨kt,ht5,kr5⟩:=O5.ht
 have nDt:D≠td:=fun z=>by rw [z,ht5] at hz;cases hz
 refine k D H6 ?_ ?_ (.inr hD)
 .rw [es]
  exact ⟨g6,⟨us,h6,ru⟩,⟨kt,f6 _ _ ht5 (by simp only [ax,ah,Bn,Ef];exact ⟨O5.ne.symm,nDt.symm⟩),kr5.stay tk6⟩,O5.ne⟩
 intro b o e nb
 refine f6 b o (K5 b o e nb) fun z=>?_
 simp only [ax,ah,Bn] at z nb
 rcases z with z | z
 .exact nb (.inl z)
 exact ak e hD z
abbrev nl:Stmt:=top 45
theorem pE:au ["heap","name","worth","entry"] ["heap","name","worth"] (ao nl):=fs0
def p9:Sp:=fun vs H Q _=>∃ (st r td:Addr) (s:LS) (n:Str) (w:Int),vs=[.ref st,.str n,.int w]/\DkAt H st r td s s.looks/\s.row.length<=900/\s.there.length<=900 /\
 ∀(r':Addr) (H':Hp),DkAt H' st r' td (Gm.putL slt s n w) (Gm.putL slt s n w).looks->Kept [st,r,td] H H'->(r'=r∨H r'=none)->Q .non H'
theorem vW {fi fs:Addr}{fdi:FuncData}(F:Fun K "_law_give" "_law_give" nl f fd)(T:Bl mg)(G_law_into:av P w K mg base CX0 1 fi fdi ["heap","entry"] wq)(D_law_into:Nm K mg "_law_into" fi fdi ["heap","entry"])(G_law_sweep:av P w K mg base CX0 2 fs fds ["heap"] iw)(D_law_sweep:Nm K mg "_law_sweep" fs fds ["heap"]):av P w K mg base CX0 3 f fd ["heap","name","worth"] p9:=by
 have sc:=pE
 refine F.okQ pE fun cdv A outer s_ H vs Q E hr h=>?_
 obtain ⟨st,r,td,s,n,w,rfl,O,h1,h2,k⟩:=h
 have hu:=hr.units0
 obtain ⟨n1,n2⟩:=O.apart
 refine ⟨_,(ac (qst 3 sc.nd (bq (aa (qv 2) (aa (qv 1) (aa (aN (aS hr) (qv 0) ar pix) ag)))))
  (ac (b9 (aS hr) (qv 0) ar (ap aQ (aN (aS hr) (qv 0) ar pix) af) rfl)
  (ac (b9 (aS hr) (aN (aS hr) (qv 0) ar pix) (qv 1) (qv 3) rfl)
  (ac (aJ (qcl G_law_into hr D_law_into aG (aa (qv 0) (aa (qv 3) ag))))
  (aj (aJ (qcl G_law_sweep hr D_law_sweep aG (aa (qv 0) ag)))))))),?_⟩
 refine ⟨_,rfl,_,rfl,_,rfl,st,_,rfl,O.next,sz3,fun e he=>?_⟩
 have se:=aq (o:=.tup [.int w,.str n,.int s.stamp]) he
 have ge:(upd H e (.tup [.int w,.str n,.int s.stamp])) e=some (.tup (enV ⟨w,n,(s.stamp:Int)⟩)):=ad
 generalize upd H e (.tup [.int w,.str n,.int s.stamp])=H1 at se ge ⊢
 have O1:=O.same se
 refine ⟨_,rfl,st,_,rfl,O1.next,_,_,rfl,rfl,_,rfl,st,_,rfl,DPut.k (k:=Sum.inr "next") O1.hs (by show 5<sizeLine;decide),?_⟩
 have ep:a8 (dkK r td s s.looks) (Sum.inr "next":Key) (.int ((s.stamp:Int)+1))=dkK r td { s with stamp:=s.stamp+1 } s.looks:=xB rfl rfl
 rw [ep]
 have k2:Kept [st] H1 (upd H1 st (.dK (dkK r td { s with stamp:=s.stamp+1 } s.looks))):=Kept.refl.put AY
 have O2:=O1.dictTo (s':={ s with stamp:=s.stamp+1 }) (wk':=s.looks) (H':=upd H1 st (.dK (dkK r td { s with stamp:=s.stamp+1 } s.looks))) ad rfl rfl k2
 have ge2:=O1.tk k2 (fun b hb=>by rw [AZ hb];simp) _ _ ge
 generalize upd H1 st (.dK (dkK r td { s with stamp:=s.stamp+1 } s.looks))=H2 at k2 O2 ge2 ⊢
 obtain ⟨ks2,hd2,kr2⟩:=O2.ht
 have lk2:ks2.length=s.there.length:=kr2.len
 refine ⟨_,rfl,_,rfl,st,_,rfl,O2.now,_,rfl,td,_,rfl,DPut.k (k:=Sum.inr n) hd2 (aY AX),?_⟩
 have k3:Kept [td] H2 (upd H2 td (.dK (a8 ks2 (Sum.inr n) (.ref e)))):=Kept.refl.put AY
 have t3:=O2.tk k3 fun b hb=>by rw [AZ hb];simp
 have O3:=O2.thereTo (H':=upd H2 td (.dK (a8 ks2 (Sum.inr n) (.ref e)))) ad ((kr2.stay t3).put (t3 _ _ ge2)) k3
 have ge3:=t3 _ _ ge2
 generalize upd H2 td (.dK (a8 ks2 (Sum.inr n) (.ref e)))=H3 at k3 t3 O3 ge3 ⊢
 obtain ⟨s3,e3⟩:∃ s3:LS,s3={ s with stamp:=s.stamp+1,there:=Gm.dput s.there n ⟨w,n,(s.stamp:Int)⟩ }:=⟨_,rfl⟩
 have O3':DkAt H3 st r td s3 s.looks:=by rw [e3];exact O3
 obtain ⟨xs,hx,rr⟩:=O3'.hr
 have lx:=rr.len
 have er:s3.row=s.row:=by rw [e3]
 have rs:=rr.snoc ge3
 obtain ⟨t,et⟩:∃ t,t=bO H3:=⟨_,rfl⟩
 have em:=nQ (H:=H3) (f:=xs.length) (xs:=xs++[.ref e]) (p:=xs.length) (lk:=s.looks)
 rw [rs.eq,<-et] at em
 refine ⟨_,rfl,_,rfl,st,r,td,e,s3,s.looks,xs,t,rfl,O3'.hs,hx,(by rw [et];exact rs.en),by rw [lx,er];exact h1,fun H4 h4 g4 k4=>?_⟩
 have tk4:=O3'.tk k4 fun b hb=>by simp only [ax,ah,Bn] at hb ⊢;rcases hb with z | z <;> simp [z]
 have lxs:xs.length=s.row.length:=by rw [lx,er]
 have O4:DkAt H4 st r td (Gm.enter slt s n w) (Gm.enter slt s n w).looks:=by
  obtain ⟨ks3,hd3,kr3⟩:=O3'.ht
  have pm:∀y∈(up (ltT t) xs.length (xs++[V.ref e]) xs.length s.looks).1,y∈xs++[V.ref e]:=fun y hy=>(df (by rw [Bi];exact CS _)).mem_iff.mp hy
  have r4:=(rs.sub pm).stay tk4
  rw [lxs,er] at em
  have ea:=jQ (lt:=Gm.ltE slt) (f:=s.row.length) (xs:=s.row++[⟨w,n,(s.stamp:Int)⟩]) (p:=s.row.length) (lk:=s.looks)
  have em':Hg.up (Gm.ltE slt) s.row.length (s.row++[⟨w,n,(s.stamp:Int)⟩]) s.row.length s.looks=_:=em
  rw [ea] at em'
  injection em' with e5 e6
  refine ⟨?_,⟨_,h4,?_⟩,⟨ks3,k4 _ _ hd3 ?_,?_⟩,O.ne⟩
  .rw [g4,lxs]
   have e7:(Gm.enter slt s n w).looks=(up (ltT t) s.row.length (xs++[V.ref e]) s.row.length s.looks).2:=e6
   rw [<-e7,e3]
   rfl
  .show RR H4 _ (Hg.up (Gm.ltE slt) s.row.length (s.row++[⟨w,n,(s.stamp:Int)⟩]) s.row.length 0).1
   rw [e5,lxs]
   rw [lxs] at r4
   exact r4
  .simp only [ax,ah,Bn,Ef]
   exact ⟨O.ne.symm,n2.symm⟩
  .have:(Gm.enter slt s n w).there=s3.there:=by rw [e3];rfl
   rw [this]
   exact kr3.stay tk4
 have K4:Kept [st,r,td] H H4:=(((Kept.of_same se).trans (k2.mono fun b hb=>by rw [AZ hb];simp)).trans (k3.mono fun b hb=>by rw [AZ hb];simp)).trans (k4.mono fun b hb=>by simp only [ax,ah,Bn] at hb ⊢;rcases hb with z | z <;> simp [z])
 refine ⟨_,rfl,st,r,td,_,rfl,O4,(by rw [Gm.enter_row_perm.length_eq,Bi];show s.row.length+1<=1000;lia),fun r' H5 O5 k5 f5=>?_⟩
 refine k r' H5 O5 (K4.trans (k5.mono fun b hb=>by simp only [ax,ah,Bn] at hb ⊢;rcases hb with z | z <;> simp [z])) (f5.imp id fun z=>?_)
 cases q:H r' with
 | none=>rfl
 | some o =>
  by_cases m:r'∈[st,r,td]
  .obtain ⟨ys4,hr4,_⟩:=O4.hr
   obtain ⟨ks4,ht4,_⟩:=O4.ht
   simp only [ax,ah,Bn] at m
   rcases m with y | y | y
   .rw [y,O4.hs] at z;cases z
   .rw [y,hr4] at z;cases z
   .rw [y,ht4] at z;cases z
  .rw [K4 _ _ q m] at z;cases z
def nmD:Deed->Str
 | .put n _=>n
 | .drop n=>n
 | .change n _=>n
 | _=>""
def zH (H:Hp):Ans->V->Prop
 | .non,v=>v=.non
 | .clash,v=>v=.int 1
 | .nothing,v=>v=.int 2
 | .pair w n,v=>∃ a,v=.ref a/\H a=some (.tup [.int w,.str n])
abbrev nF:Stmt:=top 46
theorem qi:au ["heap","deed","name","there","found"] ["heap","deed"] (ao nF):=fs0
def qI:Sp:=fun vs H Q _=>∃ (st r td q:Addr) (s:LS) (dd:Deed),vs=[.ref st,.ref q]/\DkAt H st r td s s.looks/\Gm.LInv slt s/\s.stamp<=800/\H q=some (.tup dd.v) /\
 ∀v r' H',DkAt H' st r' td (ay s dd).1 (ay s dd).1.looks->zH H' (ay s dd).2 v->Kept [st,r,td] H H'->(r'=r∨H r'=none)->Q v H'
theorem ub {fg fs fc fo:Addr}{fdg fdc:FuncData}(F:Fun K "_law_deed" "_law_deed" nF f fd)(T:Bl mg)(G_law_give:av P w K mg base CX0 3 fg fdg ["heap","name","worth"] p9)(D_law_give:Nm K mg "_law_give" fg fdg ["heap","name","worth"])(G_law_sweep:av P w K mg base CX0 2 fs fds ["heap"] iw)(D_law_sweep:Nm K mg "_law_sweep" fs fds ["heap"])(G_law_clean:av P w K mg base CX0 3 fc fdc ["heap"] kN)(D_law_clean:Nm K mg "_law_clean" fc fdc ["heap"])(G_law_out:av P w K mg base CX0 2 fo fdo ["heap"] mY)(D_law_out:Nm K mg "_law_out" fo fdo ["heap"]):av P w K mg base CX0 4 f fd ["heap","deed"] qI:=by
 have sc:=qi
 refine F.okQ qi fun cdv A outer s_ H vs Q E hr h=>?_
 obtain ⟨st,r,td,q,s,dd,rfl,O0,LI,hst,hq0,k⟩:=h
 have hu:=hr.units0
 have r1:=LI.len
 have r2:=LI.tl
 refine ⟨_,(ac (qst 2 sc.nd (aD aI (ap pG (qv 1) (bq (aa ar ag))) af pix))
  (ac (qst 3 sc.nd (yo (aS hr) (qv 2) (aN (aS hr) (qv 0) ar pix)))
  (ac (aR (QW.pt (cN (aw bz (aD aI (qv 1) af pix) ar (aE _)) (cb (bY (qv 3))))) (aj (aA af)) aB)
  (ac (aR (QW.pt (qD (QW.pt (cN (aw nE (aD aI (qv 1) af pix) (bq (aa ar (aa ar ag))) rfl) (cb (cI (bY (qv 3)))))) (jX (QW.pt (cN (aw nE (aD aI (qv 1) af pix) (bq (aa ar (aa ar ag))) rfl) (cb (aw (xk hu) (aN (aS hr) (qv 0) ar pix) cG (aE _)))))))) (aj (aA af)) aB)
  (ac (aR (aw nE (aD aI (qv 1) af pix) (bq (aa ar (aa ar ag))) rfl) (ac (aJ (qcl G_law_give hr D_law_give aG (aa (qv 0) (aa (qv 2) (aa (aD aI (qv 1) af pix) ag)))))
  (aj (aA iA))) aB)
  (ac (aR (aw bz (aD aI (qv 1) af pix) ar (aE _)) (ac (aJ (fk (aN (aS hr) (qv 0) ar pix) (qv 2) ⟨rfl,rfl,rfl,rfl⟩))
  (ac (aJ (qcl G_law_sweep hr D_law_sweep aG (aa (qv 0) ag)))
  (aj (aA iA)))) aB)
  (ac (aJ (qcl G_law_clean hr D_law_clean aG (aa (qv 0) ag)))
  (ac (qst 4 sc.nd (cT sl_tup (aD aK (aN (aS hr) (qv 0) ar pix) af pix) eu (dY af)))
  (ac (aR (aw bz (aD aI (qv 1) af pix) ar (aE _)) (ac (aJ (fk (aN (aS hr) (qv 0) ar pix) (aD aI (qv 4) af pix) ⟨rfl,rfl,rfl,rfl⟩))
  (ac (aJ (qcl G_law_out hr D_law_out aG (aa (qv 0) ag)))
  (aj (aJ (qcl G_law_sweep hr D_law_sweep aG (aa (qv 0) ag)))))) aB)
  (aj (aA (qv 4)))))))))))),?_⟩
 have ix:atI (dd.v++[V.str ""]) 1=some (.str (nmD dd)):=by cases dd <;> exact aL (j:=1) rfl
 refine ⟨_,rfl,sz1,fun t1 ht1=>?_⟩
 refine gnew ht1 fun H1 s1 g1=>?_
 have lv:dd.v.length<=3:=by cases dd <;> (simp only [Deed.v,Bj,CG];lia)
 have nv:dd.v≠[]:=by cases dd <;> exact DD _ _
 refine ⟨q,t1,_,_,rfl,rfl,SqT.of (s1 _ _ hq0),SqT.of g1,A0 (show dd.v.length+1<=4 by lia) AW,(fun z=>absurd z nv),(fun _ z=>nomatch z),fun _ _ t2 ht2=>?_⟩
 have s2:=s1.trans (aq (o:=.tup (dd.v++[.str ""])) ht2)
 have g2:=ad (H:=H1) (a:=t2) (o:=.tup (dd.v++[.str ""]))
 generalize upd H1 t2 (.tup (dd.v++[.str ""]))=H2 at s2 g2 ⊢
 have O:=O0.same s2
 have hq:=s2 _ _ hq0
 have ks0:∀{F:List Addr} {H':Hp},Kept F H2 H'->Kept F H H':=fun kk=>(Kept.of_same s2).trans kk
 have fr0:∀{r':Addr},H2 r'=none->H r'=none:=fun z=>s2.free z
 obtain ⟨ks,hd,kr⟩:=O.ht
 obtain ⟨xs,hx,rr⟩:=O.hr
 have nq:q∉[st,r,td]:=fun z=>O.notup q z _ hq
 refine ⟨t2,_,_,_,rfl,rfl,SqT.of g2,ix,?_⟩
 refine ⟨_,rfl,_,rfl,st,_,rfl,O.now,td,_,rfl,DGet.k (k:=Sum.inr (nmD dd)) hd,?_⟩
 cases dd with
 | put n w =>
  refine ⟨_,rfl,q,_,_,_,rfl,rfl,SqT.of hq,rfl,rfl,_,rfl,dJ ?_⟩
  rcases kr.get n with ⟨e1,e2⟩ | ⟨b,e',e1,e2,hb⟩
  .have e1':aX ks (Sum.inr (nmD (.put n w)))=none:=e1
   rw [e1']
   refine ⟨_,rfl,_,rfl,aO (fun c=>nomatch c) (fun _=>?_)⟩
   refine ⟨_,rfl,q,_,_,_,rfl,rfl,SqT.of hq,rfl,sz2,fun l3 hl3=>⟨l3,_,["drop","change"],rfl,rfl,SqT.of ad,_,rfl,?_⟩⟩
   refine gnew hl3 fun H3 s3 _=>?_
   refine bV ?_
   refine bL ?_
   have hq3:=s3 _ _ hq
   refine ⟨_,rfl,q,_,_,_,rfl,rfl,SqT.of hq3,rfl,sz2,fun l4 hl4=>⟨l4,_,["take","least"],rfl,rfl,SqT.of ad,_,rfl,?_⟩⟩
   refine gnew hl4 fun H4 s4 _=>?_
   refine bV ?_
   refine bL ?_
   have s24:=s3.trans s4
   have hq4:=s24 _ _ hq
   refine ⟨_,rfl,q,_,_,_,rfl,rfl,SqT.of hq4,rfl,sz2,fun l5 hl5=>⟨l5,_,["put","change"],rfl,rfl,SqT.of ad,_,rfl,?_⟩⟩
   refine gnew hl5 fun H5 s5 _=>?_
   refine dJ ?_
   have s25:=s24.trans s5
   have hq5:=s25 _ _ hq
   have hes:ay s (.put n w)=(Gm.putL slt s n w,.non):=by unfold ay;dsimp only;rw [e2];rw [Bc (fun z=>nomatch z)]
   rw [hes] at k
   refine ⟨_,rfl,_,rfl,_,rfl,q,_,_,_,rfl,rfl,SqT.of hq5,rfl,st,r,td,s,n,w,rfl,O.same s25,AX,AX,fun r' H' O' k' f'=>?_⟩
   refine k _ r' H' ?_ ?_ (ks0 ((Kept.of_same s25).trans k')) (f'.imp id fun z=>fr0 ((s25).free z))
   .exact O'
   .exact rfl
  .have e1':aX ks (Sum.inr (nmD (.put n w)))=some (.ref b):=e1
   rw [e1']
   refine ⟨_,rfl,_,rfl,aO (fun _=>?_) (fun c=>absurd rfl c)⟩
   have hes:ay s (.put n w)=(s,.clash):=by unfold ay;dsimp only;rw [e2,D9];rw [Bf rfl]
   rw [hes] at k
   refine k _ r H2 ?_ ?_ (ks0 Kept.refl) (.inl rfl)
   .exact O
   .exact rfl
 | drop n =>
  refine ⟨_,rfl,q,_,_,_,rfl,rfl,SqT.of hq,rfl,rfl,_,rfl,bV ?_⟩
  refine bL ?_
  refine ⟨_,rfl,q,_,_,_,rfl,rfl,SqT.of hq,rfl,sz2,fun l3 hl3=>⟨l3,_,["drop","change"],rfl,rfl,SqT.of ad,_,rfl,?_⟩⟩
  refine gnew hl3 fun H3 s3 _=>?_
  refine dJ ?_
  have hq3:=s3 _ _ hq
  rcases kr.get n with ⟨e1,e2⟩ | ⟨b,e',e1,e2,hb⟩
  .have e1':aX ks (Sum.inr (nmD (.drop n)))=none:=e1
   rw [e1']
   refine ⟨_,rfl,_,rfl,iQ (iQ ?_)⟩
   have hes:ay s (.drop n)=(s,.nothing):=by unfold ay;dsimp only;rw [e2];rw [Bc (fun z=>nomatch z)]
   rw [hes] at k
   refine k _ r H3 ?_ ?_ (ks0 (Kept.of_same s3)) (.inl rfl)
   .exact O.same s3
   .exact rfl
  .have e1':aX ks (Sum.inr (nmD (.drop n)))=some (.ref b):=e1
   rw [e1']
   refine ⟨_,rfl,_,rfl,bL ?_⟩
   refine ⟨_,rfl,q,_,_,_,rfl,rfl,SqT.of hq3,rfl,sz2,fun l4 hl4=>⟨l4,_,["take","least"],rfl,rfl,SqT.of ad,_,rfl,?_⟩⟩
   refine gnew hl4 fun H4 s4 _=>?_
   refine bV ?_
   refine bL ?_
   have s24:=s3.trans s4
   have hq4:=s24 _ _ hq
   refine ⟨_,rfl,q,_,_,_,rfl,rfl,SqT.of hq4,rfl,sz2,fun l5 hl5=>⟨l5,_,["put","change"],rfl,rfl,SqT.of ad,_,rfl,?_⟩⟩
   refine gnew hl5 fun H5 s5 _=>?_
   refine bV ?_
   have s25:=s24.trans s5
   have hq5:=s25 _ _ hq
   refine ⟨_,rfl,q,_,_,_,rfl,rfl,SqT.of hq5,rfl,rfl,_,rfl,dJ ?_⟩
   have O5:=O.same s25
   have hd5:=s25 _ _ hd
   refine ⟨_,rfl,st,_,rfl,O5.now,td,rfl,.inl ⟨_,.inl hd5⟩,_,rfl,_,Sum.inr n,_,hd5,rfl,e1,?_⟩
   obtain ⟨O6,k6⟩:=O5.dropTo n hd5
   generalize upd H5 td (.dK (bU ks (Sum.inr n)))=H6 at O6 k6 ⊢
   refine ⟨_,rfl,st,r,td,_,rfl,O6,by show s.row.length<=1000;lia,fun r' H' O' k' f'=>?_⟩
   have K6:Kept [st,r,td] H2 H6:=(Kept.of_same s25).trans (k6.mono fun b hb=>by rw [AZ hb];simp)
   have fr6:∀z,H6 z=none->H2 z=none:=fun b hb=>by
    cases e:H2 b with
    | none=>rfl
    | some o =>
     by_cases z:b∈[st,r,td]
     .obtain ⟨ys,f2,_⟩:=O6.hr
      obtain ⟨kt,f3,_⟩:=O6.ht
      have f1:=O6.hs
      simp only [ax,ah,Bn] at z
      rcases z with y | y | y
      .rw [y,f1] at hb;cases hb
      .rw [y,f2] at hb;cases hb
      .rw [y,f3] at hb;cases hb
     .rw [K6 b o e z] at hb;cases hb
   have hes:ay s (.drop n)=(Gm.dropL slt s n,.non):=by unfold ay;dsimp only;rw [e2,D9];rw [Bf rfl]
   rw [hes] at k
   refine k _ r' H' ?_ ?_ (ks0 (K6.trans (k'.mono fun b hb=>by simp only [ax,ah,Bn] at hb ⊢;rcases hb with z | z <;> simp [z]))) (f'.imp id fun z=>fr0 (fr6 _ z))
   .exact O'
   .exact rfl
 | change n w =>
  refine ⟨_,rfl,q,_,_,_,rfl,rfl,SqT.of hq,rfl,rfl,_,rfl,bV ?_⟩
  refine bL ?_
  refine ⟨_,rfl,q,_,_,_,rfl,rfl,SqT.of hq,rfl,sz2,fun l3 hl3=>⟨l3,_,["drop","change"],rfl,rfl,SqT.of ad,_,rfl,?_⟩⟩
  refine gnew hl3 fun H3 s3 _=>?_
  refine dJ ?_
  have hq3:=s3 _ _ hq
  rcases kr.get n with ⟨e1,e2⟩ | ⟨b,e',e1,e2,hb⟩
  .have e1':aX ks (Sum.inr (nmD (.change n w)))=none:=e1
   rw [e1']
   refine ⟨_,rfl,_,rfl,iQ (iQ ?_)⟩
   have hes:ay s (.change n w)=(s,.nothing):=by unfold ay;dsimp only;rw [e2];rw [Bc (fun z=>nomatch z)]
   rw [hes] at k
   refine k _ r H3 ?_ ?_ (ks0 (Kept.of_same s3)) (.inl rfl)
   .exact O.same s3
   .exact rfl
  .have e1':aX ks (Sum.inr (nmD (.change n w)))=some (.ref b):=e1
   rw [e1']
   refine ⟨_,rfl,_,rfl,bL ?_⟩
   refine ⟨_,rfl,q,_,_,_,rfl,rfl,SqT.of hq3,rfl,sz2,fun l4 hl4=>⟨l4,_,["take","least"],rfl,rfl,SqT.of ad,_,rfl,?_⟩⟩
   refine gnew hl4 fun H4 s4 _=>?_
   refine bV ?_
   refine bL ?_
   have s24:=s3.trans s4
   have hq4:=s24 _ _ hq
   refine ⟨_,rfl,q,_,_,_,rfl,rfl,SqT.of hq4,rfl,sz2,fun l5 hl5=>⟨l5,_,["put","change"],rfl,rfl,SqT.of ad,_,rfl,?_⟩⟩
   refine gnew hl5 fun H5 s5 _=>?_
   refine dJ ?_
   have s25:=s24.trans s5
   have hq5:=s25 _ _ hq
   have hes:ay s (.change n w)=(Gm.putL slt s n w,.non):=by unfold ay;dsimp only;rw [e2,D9];rw [Bf rfl]
   rw [hes] at k
   refine ⟨_,rfl,_,rfl,_,rfl,q,_,_,_,rfl,rfl,SqT.of hq5,rfl,st,r,td,s,n,w,rfl,O.same s25,AX,AX,fun r' H' O' k' f'=>?_⟩
   refine k _ r' H' ?_ ?_ (ks0 ((Kept.of_same s25).trans k')) (f'.imp id fun z=>fr0 ((s25).free z))
   .exact O'
   .exact rfl
 | take =>
  refine ⟨_,rfl,q,_,_,_,rfl,rfl,SqT.of hq,rfl,rfl,_,rfl,bV ?_⟩
  refine bL ?_
  refine ⟨_,rfl,q,_,_,_,rfl,rfl,SqT.of hq,rfl,sz2,fun l3 hl3=>⟨l3,_,["drop","change"],rfl,rfl,SqT.of ad,_,rfl,?_⟩⟩
  refine gnew hl3 fun H3 s3 _=>?_
  refine bV ?_
  refine bL ?_
  have hq3:=s3 _ _ hq
  refine ⟨_,rfl,q,_,_,_,rfl,rfl,SqT.of hq3,rfl,sz2,fun l4 hl4=>⟨l4,_,["take","least"],rfl,rfl,SqT.of ad,_,rfl,?_⟩⟩
  refine gnew hl4 fun H4 s4 _=>?_
  refine dJ ?_
  have s24:=s3.trans s4
  have hq4:=s24 _ _ hq
  have O4:=O.same s24
  have hd4:=s24 _ _ hd
  refine ⟨_,rfl,st,_,rfl,O4.now,fun e1 he1=>⟨td,e1,_,rfl,rfl,aq he1 _ _ hd4,ad,_,rfl,aO (fun c=>?_) (fun c=>?_)⟩⟩
  .have c':ks=[]:=Ba c
   have e2:s.there=[]:=by
    have:=kr.len
    rw [c'] at this
    exact Bx.mp this.symm
   have hes:ay s .take=(s,.nothing):=by unfold ay;dsimp only;rw [Bf e2]
   rw [hes] at k
   refine k _ r _ ?_ ?_ (ks0 (Kept.of_same (s24.trans (aq he1)))) (.inl rfl)
   .exact O4.same (aq he1)
   .exact rfl
  have e2:s.there≠[]:=fun z=>c (Bb (by
   have:=kr.len
   rw [z] at this
   exact Bx.mp this))
  have hes:ay s .take=(Gm.takeL slt s,.pair (L2.hd s).w (L2.hd s).n):=by unfold ay;dsimp only;rw [Bc e2]
  rw [hes] at k
  have s25:=s24.trans (aq (o:=.dK []) he1)
  generalize upd H4 e1 (.dK [])=H5 at s25 ⊢
  have hq5:=s25 _ _ hq
  have O5:=O.same s25
  refine ⟨_,rfl,q,_,_,_,rfl,rfl,SqT.of hq5,rfl,sz2,fun l6 hl6=>⟨l6,_,["put","change"],rfl,rfl,SqT.of ad,_,rfl,?_⟩⟩
  refine gnew hl6 fun H6 s6 _=>?_
  refine bV ?_
  have s26:=s25.trans s6
  have hq6:=s26 _ _ hq
  refine ⟨_,rfl,q,_,_,_,rfl,rfl,SqT.of hq6,rfl,rfl,_,rfl,bV ?_⟩
  have O6:=O.same s26
  refine ⟨_,rfl,st,r,td,s,rfl,O6,LI,e2,AX,fun H7 O7 k7=>?_⟩
  have LL:=(Gm.least_ok slt_slo LI e2)
  have K7:Kept [st,r,td] H2 H7:=(Kept.of_same s26).trans (k7.mono fun b hb=>by simp only [ax,ah,Bn] at hb ⊢;rcases hb with z | z <;> simp [z])
  have hq7:=K7 _ _ hq nq
  obtain ⟨xs7,hx7,rr7⟩:=O7.hr
  have h0:=Gm.row_pos LL.inv (by rw [LL.there];exact e2)
  obtain ⟨a,ea,ha,ia⟩:=rr7.at h0
  refine ⟨_,rfl,st,_,rfl,O7.row,r,_,_,_,rfl,rfl,SqL.of hx7,ia,_,rfl,a,_,rfl,SqT.of ha,(by show ¬ (HT.sIx 3 0 none=0/\HT.sIx 3 3 (some 2)=3);decide),fun p hp=>?_⟩
  have s8:=aq (o:=.tup [.int (L2.hd s).w,.str (L2.hd s).n]) hp
  have g8:=ad (H:=H7) (a:=p) (o:=.tup [.int (L2.hd s).w,.str (L2.hd s).n])
  have ecut:eK (enV (Hg.g (Gm.leastL slt s).row 0)) none (some 2)=[.int (L2.hd s).w,.str (L2.hd s).n]:=rfl
  rw [ecut]
  generalize upd H7 p (.tup [.int (L2.hd s).w,.str (L2.hd s).n])=H8 at s8 g8 ⊢
  have O8:=O7.same s8
  have K8:=K7.trans (Kept.of_same s8)
  have hq8:=s8 _ _ hq7
  refine ⟨_,rfl,q,_,_,_,rfl,rfl,SqT.of hq8,rfl,rfl,_,rfl,dJ ?_⟩
  obtain ⟨ks8,hd8,kr8⟩:=O8.ht
  have hin:Gm.holds (Gm.leastL slt s).there (Hg.g (Gm.leastL slt s).row 0)=true:=LL.hold
  have hin2:=Gm.holds_in hin
  rcases kr8.get (L2.hd s).n with ⟨e1',e2'⟩ | ⟨b,e',e1',e2',hb⟩
  .have:=Gm.dget_of LL.inv.nd hin2
   rw [show (Hg.g (Gm.leastL slt s).row 0).n=(L2.hd s).n from rfl,e2'] at this
   cases this
  refine ⟨_,rfl,st,_,rfl,O8.now,td,rfl,.inl ⟨_,.inl hd8⟩,_,rfl,p,_,_,_,rfl,rfl,SqT.of g8,rfl,_,Sum.inr (L2.hd s).n,_,hd8,rfl,e1',?_⟩
  obtain ⟨O9,k9⟩:=O8.dropTo (L2.hd s).n hd8
  have g9:=k9 _ _ g8 (fun z=>by rw [AZ z,hd8] at g8;cases g8)
  generalize upd H8 td (.dK (bU ks8 (Sum.inr (L2.hd s).n)))=H9 at O9 k9 g9 ⊢
  have rl:(Gm.leastL slt s).row.length<=800:=A0 LL.inv.len (by rw [LL.stamp];exact hst)
  refine ⟨_,rfl,st,r,td,_,rfl,O9,h0,by show (Gm.leastL slt s).row.length<=1000;lia,fun HA OA kA=>?_⟩
  have K9:Kept [st,r,td] H2 H9:=K8.trans (k9.mono fun b hb=>by rw [AZ hb];simp)
  have KA:Kept [st,r,td] H2 HA:=K9.trans (kA.mono fun b hb=>by simp only [ax,ah,Bn] at hb ⊢;rcases hb with z | z <;> simp [z])
  have gA:=kA _ _ g9 (fun z=>O9.notup p (by simp only [ax,ah,Bn] at z ⊢;rcases z with y | y <;> simp [y]) _ g9)
  have lc:(Gm.cut slt (Gm.dropT (Gm.leastL slt s) (L2.hd s).n)).row.length=(Gm.leastL slt s).row.length-1:=Hg.cutf_len
  refine ⟨_,rfl,st,r,td,_,rfl,OA,AX,fun r' HB OB kB fB=>?_⟩
  have frA:∀z,HA z=none->H2 z=none:=fun b hb=>by
   cases e:H2 b with
   | none=>rfl
   | some o =>
    by_cases z:b∈[st,r,td]
    .obtain ⟨ys,f2,_⟩:=OA.hr
     obtain ⟨kt,f3,_⟩:=OA.ht
     have f1:=OA.hs
     simp only [ax,ah,Bn] at z
     rcases z with y | y | y
     .rw [y,f1] at hb;cases hb
     .rw [y,f2] at hb;cases hb
     .rw [y,f3] at hb;cases hb
    .rw [KA b o e z] at hb;cases hb
  have gB:=kB _ _ gA (fun z=>OA.notup p (by simp only [ax,ah,Bn] at z ⊢;rcases z with y | y <;> simp [y]) _ gA)
  refine ⟨_,rfl,k _ r' HB ?_ ?_ (ks0 (KA.trans (kB.mono fun b hb=>by simp only [ax,ah,Bn] at hb ⊢;rcases hb with z | z <;> simp [z]))) (fB.imp id fun z=>fr0 (frA _ z))⟩
  .exact OB
  .exact ⟨p,rfl,gB⟩
 | least =>
  refine ⟨_,rfl,q,_,_,_,rfl,rfl,SqT.of hq,rfl,rfl,_,rfl,bV ?_⟩
  refine bL ?_
  refine ⟨_,rfl,q,_,_,_,rfl,rfl,SqT.of hq,rfl,sz2,fun l3 hl3=>⟨l3,_,["drop","change"],rfl,rfl,SqT.of ad,_,rfl,?_⟩⟩
  refine gnew hl3 fun H3 s3 _=>?_
  refine bV ?_
  refine bL ?_
  have hq3:=s3 _ _ hq
  refine ⟨_,rfl,q,_,_,_,rfl,rfl,SqT.of hq3,rfl,sz2,fun l4 hl4=>⟨l4,_,["take","least"],rfl,rfl,SqT.of ad,_,rfl,?_⟩⟩
  refine gnew hl4 fun H4 s4 _=>?_
  refine dJ ?_
  have s24:=s3.trans s4
  have hq4:=s24 _ _ hq
  have O4:=O.same s24
  have hd4:=s24 _ _ hd
  refine ⟨_,rfl,st,_,rfl,O4.now,fun e1 he1=>⟨td,e1,_,rfl,rfl,aq he1 _ _ hd4,ad,_,rfl,aO (fun c=>?_) (fun c=>?_)⟩⟩
  .have c':ks=[]:=Ba c
   have e2:s.there=[]:=by
    have:=kr.len
    rw [c'] at this
    exact Bx.mp this.symm
   have hes:ay s .least=(s,.nothing):=by unfold ay;dsimp only;rw [Bf e2]
   rw [hes] at k
   refine k _ r _ ?_ ?_ (ks0 (Kept.of_same (s24.trans (aq he1)))) (.inl rfl)
   .exact O4.same (aq he1)
   .exact rfl
  have e2:s.there≠[]:=fun z=>c (Bb (by
   have:=kr.len
   rw [z] at this
   exact Bx.mp this))
  have hes:ay s .least=(Gm.leastL slt s,.pair (L2.hd s).w (L2.hd s).n):=by unfold ay;dsimp only;rw [Bc e2]
  rw [hes] at k
  have s25:=s24.trans (aq (o:=.dK []) he1)
  generalize upd H4 e1 (.dK [])=H5 at s25 ⊢
  have hq5:=s25 _ _ hq
  have O5:=O.same s25
  refine ⟨_,rfl,q,_,_,_,rfl,rfl,SqT.of hq5,rfl,sz2,fun l6 hl6=>⟨l6,_,["put","change"],rfl,rfl,SqT.of ad,_,rfl,?_⟩⟩
  refine gnew hl6 fun H6 s6 _=>?_
  refine bV ?_
  have s26:=s25.trans s6
  have hq6:=s26 _ _ hq
  refine ⟨_,rfl,q,_,_,_,rfl,rfl,SqT.of hq6,rfl,rfl,_,rfl,bV ?_⟩
  have O6:=O.same s26
  refine ⟨_,rfl,st,r,td,s,rfl,O6,LI,e2,AX,fun H7 O7 k7=>?_⟩
  have LL:=(Gm.least_ok slt_slo LI e2)
  have K7:Kept [st,r,td] H2 H7:=(Kept.of_same s26).trans (k7.mono fun b hb=>by simp only [ax,ah,Bn] at hb ⊢;rcases hb with z | z <;> simp [z])
  have hq7:=K7 _ _ hq nq
  obtain ⟨xs7,hx7,rr7⟩:=O7.hr
  have h0:=Gm.row_pos LL.inv (by rw [LL.there];exact e2)
  obtain ⟨a,ea,ha,ia⟩:=rr7.at h0
  refine ⟨_,rfl,st,_,rfl,O7.row,r,_,_,_,rfl,rfl,SqL.of hx7,ia,_,rfl,a,_,rfl,SqT.of ha,(by show ¬ (HT.sIx 3 0 none=0/\HT.sIx 3 3 (some 2)=3);decide),fun p hp=>?_⟩
  have s8:=aq (o:=.tup [.int (L2.hd s).w,.str (L2.hd s).n]) hp
  have g8:=ad (H:=H7) (a:=p) (o:=.tup [.int (L2.hd s).w,.str (L2.hd s).n])
  have ecut:eK (enV (Hg.g (Gm.leastL slt s).row 0)) none (some 2)=[.int (L2.hd s).w,.str (L2.hd s).n]:=rfl
  rw [ecut]
  generalize upd H7 p (.tup [.int (L2.hd s).w,.str (L2.hd s).n])=H8 at s8 g8 ⊢
  have O8:=O7.same s8
  have K8:=K7.trans (Kept.of_same s8)
  have hq8:=s8 _ _ hq7
  refine ⟨_,rfl,q,_,_,_,rfl,rfl,SqT.of hq8,rfl,rfl,_,rfl,bV ?_⟩
  refine ⟨_,rfl,k _ r H8 ?_ ?_ (ks0 K8) (.inl rfl)⟩
  .exact O8
  .exact ⟨p,rfl,g8⟩
abbrev jW:Stmt:=top 47
theorem lQ:au ["script","k","draw","some","worths"] ["script","k"] (ao jW):=fs0
def mh (K:W.Frag):Sp:=fun vs H Q _=>∃ (a:Addr) (ns:List Int) (k:Int),vs=[.ref a,.int k]/\SqL K H a (ns.map V.int)/\ns.length<=63/\0<=k/\∀(w:Int) H',w.natAbs<10 ^ 30->Same H H'->Q (.int w) H'
theorem qN (F:Fun K "_law_worth" "_law_worth" jW f fd)(T:Bl mg)(G_law_draw:av P w K mg base CX0 1 fn fdn ["script","k"] (fY K))(D_law_draw:Nm K mg "_law_draw" fn fdn ["script","k"]):av P w K mg base CX0 2 f fd ["script","k"] (mh K):=by
 have sc:=lQ
 refine F.okQ lQ fun cdv A outer s H vs Q E hr h=>?_
 obtain ⟨a,ns,k,rfl,hS,hn,hk,kQ⟩:=h
 have hu:=hr.units0
 refine ⟨_,(ac (qst 2 sc.nd (qcl G_law_draw hr D_law_draw aG (aa (qv 0) (aa (qv 1) ag))))
  (ac (qst 3 sc.nd (ap aZ (ap bc (qv 2) af) af))
  (ac (qst 4 sc.nd (bn (aa (qv 3) (aa (jd gd (qv 3)) (aa (ap aZ (ap bc (qv 2) af) (ap ic af af)) (aa (ap bK (ap bK (ap ic af af) af) (qv 3)) (aa (ap bK af (ap ic af af)) (aa af (aa af ag)))))))))
  (aj (aA (aD aK (ap u7 (qv 4) (bn (aa (ap aZ (ap bc (qv 2) af) af) ag))) (ap aZ (qv 2) af) pix)))))),?_⟩
 refine ⟨_,rfl,_,rfl,a,ns,k,rfl,hS,hn,hk,fun d H1 ed d0 d1 s1=>?_⟩
 refine ⟨_,rfl,_,_,rfl,rfl,⟨AW,AW⟩,_,_,rfl,rfl,(by show (0:Int)<_;decide),?_⟩
 have n0:0<=d / 8 % 5:=bh AW
 have n1:d / 8 % 5<5:=be AW
 have n2:0<=d / 8 % 10 ^ 6:=bh AW
 have n3:d / 8 % 10 ^ 6<10 ^ 6:=be AW
 have n4:0<=d / 8 % 9:=bh AW
 have n5:d / 8 % 9<9:=be AW
 refine ⟨_,rfl,_,rfl,_,rfl,_,rfl,_,_,rfl,rfl,⟨AW,AW⟩,_,_,rfl,rfl,⟨AW,AW,AW⟩,_,_,rfl,rfl,(by show (0:Int)<_;decide),_,_,rfl,rfl,⟨AW,AW,AW⟩,_,_,rfl,rfl,_,rfl,_,_,rfl,rfl,_,_,rfl,rfl,⟨AW,AW,AW⟩,_,_,rfl,rfl,sz7,fun l1 hl1=>?_⟩
 let L:List Int:=[d / 8 % 5,-(d / 8 % 5),d / 8 % 10 ^ 6,10 ^ 30-1-d / 8 % 5,1-10 ^ 30,0,7]
 have s2:=s1.trans (aq (o:=.lst (L.map V.int)) hl1)
 have g2:=ad (H:=H1) (a:=l1) (o:=.lst (L.map V.int))
 show (_:Hp->Prop) (upd H1 l1 (.lst (L.map V.int)))
 generalize upd H1 l1 (.lst (L.map V.int))=H2 at s2 g2 ⊢
 refine ⟨_,rfl,_,rfl,_,_,rfl,rfl,⟨AW,AW⟩,_,_,rfl,rfl,(by show (0:Int)<_;decide),sz1,fun l2 hl2=>?_⟩
 refine gnew hl2 fun H3 s3 g3=>?_
 refine ⟨l1,l2,_,_,rfl,rfl,s3 _ _ g2,g3,sz8,fun l3 hl3=>?_⟩
 have e0:0<=d % 8:=bh AW
 have e1:d % 8<8:=be AW
 have ix:atI ((L++[d / 8 % 9]).map V.int) (d % 8)=_:=uw e0 (by show d % 8<8;exact e1)
 refine ⟨_,rfl,_,_,rfl,rfl,(by show (0:Int)<_;decide),l3,_,_,_,rfl,rfl,SqL.of ad,ix,kQ _ _ ?_ ((s2.trans s3).trans (aq hl3))⟩
 have all:∀x∈L++[d / 8 % 9],x.natAbs<10 ^ 30:=by
  intro x hx
  have t30:(10:Int) ^ 30=1000000000000000000000000000000:=by decide
  have t30':(10:Nat) ^ 30=1000000000000000000000000000000:=by decide
  have t6:(10:Int) ^ 6=1000000:=by decide
  rw [t6] at n3
  rw [t30']
  simp only [L,Ck,EG,ax,ah,Bn,t30,t6] at hx n2
  rcases hx with rfl | rfl | rfl | rfl | rfl | rfl | rfl | rfl <;> lia
 rw [Bz]
 cases e:(L++[d / 8 % 9])[(d % 8).toNat]? with
 | none=>show (0:Int).natAbs<_;decide +kernel
 | some x=>exact all x (BC e)
abbrev oK:Stmt:=top 48
theorem pd:au ["script","k","heap","draw","name"] ["script","k","heap"] (ao oK):=fs0
def okD:Deed->Prop
 | .put n w=>AbcN n 8/\w.natAbs<10 ^ 30
 | .drop n=>AbcN n 8
 | .change n w=>AbcN n 8/\w.natAbs<10 ^ 30
 | _=>True
def cF (ns:List Int):List Str:=(List.range 9).map fun j:Nat=>fq ns (10+(j:Int))
def inD (N:List Str):Deed->Prop
 | .put n _=>n∈N
 | .change n _=>n∈N
 | _=>True
def qo (K:W.Frag):Sp:=fun vs H Q _=>∃ (a:Addr) (ns:List Int) (k:Int) (v:V),vs=[.ref a,.int k,v]/\SqL K H a (ns.map V.int)/\ns.length<=63/\0<=k/\∀q dd H',H' q=some (.tup (Deed.v dd))->okD dd->inD (cF ns) dd->Same H H'->Q (.ref q) H'
theorem vH {fw fo:Addr}(F:Fun K "_law_some_deed" "_law_some_deed" oK f fd)(T:Bl mg)(G_law_draw:av P w K mg base CX0 1 fn fdn ["script","k"] (fY K))(D_law_draw:Nm K mg "_law_draw" fn fdn ["script","k"])(G_law_word:av P w K mg base CX0 2 fw fdw ["script","i"] (oH K))(D_law_word:Nm K mg "_law_word" fw fdw ["script","i"])(G_law_worth:av P w K mg base CX0 2 fo fdo ["script","k"] (mh K))(D_law_worth:Nm K mg "_law_worth" fo fdo ["script","k"]):av P w K mg base CX0 3 f fd ["script","k","heap"] (qo K):=by
 have sc:=pd
 refine F.okQ pd fun cdv A outer s H vs Q E hr h=>?_
 obtain ⟨a,ns,k,v,rfl,hS,hn,hk,kQ⟩:=h
 have hu:=hr.units0
 refine ⟨_,(ac (qst 3 sc.nd (qcl G_law_draw hr D_law_draw aG (aa (qv 0) (aa (ap aQ af (qv 1)) ag))))
  (ac (qst 4 sc.nd (qcl G_law_word hr D_law_word aG (aa (qv 0) (aa (ap aQ af (ap aZ (ap bc (qv 3) af) (ap aQ af (ap aZ (ap bc (qv 3) af) af)))) ag))))
  (ac (aR (aw dq (ap aZ (qv 3) af) af (aE _)) (aj (aA (bq (aa ar (aa (qv 4) (aa (qcl G_law_worth hr D_law_worth aG (aa (qv 0) (aa (ap aQ af (qv 1)) ag))) ag)))))) aB)
  (ac (aR (aw dq (ap aZ (qv 3) af) af (aE _)) (aj (aA (bq (aa ar (aa (qv 4) (aa (qcl G_law_worth hr D_law_worth aG (aa (qv 0) (aa (ap aQ af (qv 1)) ag))) ag)))))) aB)
  (ac (aR (aw dq (ap aZ (qv 3) af) af (aE _)) (aj (aA (bq (aa ar (aa (qv 4) ag))))) aB)
  (aj (aA (aD aI (bq (xr (vss:=[[.str "take"],[.str "take"],[.str "least"],[.str "least"]]) AV)) (ap bK (ap aZ (qv 3) af) af) pix)))))))),?_⟩
 have t1:∀{H':Hp},Same H H'->SqL K H' a (ns.map V.int):=fun k=>SqL.same' hS k
 refine ⟨_,rfl,_,rfl,_,_,rfl,rfl,a,ns,100+k,rfl,hS,hn,AX,fun d H1 ed d0 d1 s1=>?_⟩
 have m0:0<=d / 160 % 9:=bh AW
 have m1:d / 160 % 9<9:=be AW
 have p0:0<=d / 16 % (1+d / 160 % 9):=bh AX
 have p1:d / 16 % (1+d / 160 % 9)<1+d / 160 % 9:=be AX
 refine ⟨_,rfl,_,rfl,_,_,rfl,rfl,⟨AW,AW⟩,_,rfl,_,_,rfl,rfl,⟨AW,AW⟩,_,_,rfl,rfl,(by show (0:Int)<_;decide),_,_,rfl,rfl,_,_,rfl,rfl,(by show (0:Int)<1+d / 160 % 9;lia),_,_,rfl,rfl,a,ns,10+d / 16 % (1+d / 160 % 9),rfl,t1 s1,hn,AX,AX,fun z H2 ez NZ s2=>?_⟩
 have inn:z∈cF ns:=by
  obtain ⟨j,ej⟩:=Dx p0
  refine BF.mpr ⟨j,DW.mpr AX,?_⟩
  rw [ez,ej]
 have e0:0<=d % 16:=bh AW
 have e1:d % 16<16:=be AW
 refine ⟨_,rfl,_,_,rfl,rfl,(by show (0:Int)<_;decide),_,_,rfl,rfl,_,rfl,aO (fun _=>?_) (fun _=>?_)⟩
 .refine ⟨_,rfl,_,rfl,_,rfl,_,_,rfl,rfl,a,ns,400+k,rfl,t1 (s1.trans s2),hn,AX,fun wv H3 wb s3=>⟨sz3,fun q hq=>?_⟩⟩
  exact kQ q (.put z wv) _ ad ⟨NZ,wb⟩ inn (((s1.trans s2).trans s3).trans (aq hq))
 refine ⟨_,rfl,_,_,rfl,rfl,(by show (0:Int)<_;decide),_,_,rfl,rfl,_,rfl,aO (fun _=>?_) (fun _=>?_)⟩
 .refine ⟨_,rfl,_,rfl,_,rfl,_,_,rfl,rfl,a,ns,400+k,rfl,t1 (s1.trans s2),hn,AX,fun wv H3 wb s3=>⟨sz3,fun q hq=>?_⟩⟩
  exact kQ q (.change z wv) _ ad ⟨NZ,wb⟩ inn (((s1.trans s2).trans s3).trans (aq hq))
 refine ⟨_,rfl,_,_,rfl,rfl,(by show (0:Int)<_;decide),_,_,rfl,rfl,_,rfl,aO (fun _=>?_) (fun c=>?_)⟩
 .refine ⟨_,rfl,sz2,fun q hq=>?_⟩
  exact kQ q (.drop z) _ ad NZ trivial ((s1.trans s2).trans (aq hq))
 have c':¬ d % 16<12:=fun z=>c (Bb z)
 refine ⟨sz1,fun q1 hq1=>⟨sz1,fun q2 hq2=>⟨sz1,fun q3 hq3=>⟨sz1,fun q4 hq4=>⟨sz4,fun q5 hq5=>?_⟩⟩⟩⟩⟩
 have u1:=aq (o:=.tup [.str "take"]) hq1
 have v1:=ad (H:=H2) (a:=q1) (o:=.tup [.str "take"])
 generalize upd H2 q1 (.tup [.str "take"])=G1 at u1 v1 hq2 hq3 hq4 hq5 ⊢
 have u2:=aq (o:=.tup [.str "take"]) hq2
 have v2:=ad (H:=G1) (a:=q2) (o:=.tup [.str "take"])
 generalize upd G1 q2 (.tup [.str "take"])=G2 at u2 v2 hq3 hq4 hq5 ⊢
 have u3:=aq (o:=.tup [.str "least"]) hq3
 have v3:=ad (H:=G2) (a:=q3) (o:=.tup [.str "least"])
 generalize upd G2 q3 (.tup [.str "least"])=G3 at u3 v3 hq4 hq5 ⊢
 have u4:=aq (o:=.tup [.str "least"]) hq4
 have v4:=ad (H:=G3) (a:=q4) (o:=.tup [.str "least"])
 generalize upd G3 q4 (.tup [.str "least"])=G4 at u4 v4 hq5 ⊢
 refine gnew hq5 fun G5 u5 v5=>?_
 have sA:Same H G5:=(((((s1.trans s2).trans u1).trans u2).trans u3).trans u4).trans u5
 have cs:d % 16-12=((0:Nat):Int)∨d % 16-12=((1:Nat):Int)∨d % 16-12=((2:Nat):Int)∨d % 16-12=((3:Nat):Int):=by lia
 refine ⟨_,rfl,_,_,rfl,rfl,(by show (0:Int)<_;decide),_,_,rfl,rfl,?_⟩
 rcases cs with z | z | z | z
 .exact ⟨q5,_,_,_,rfl,rfl,SqT.of v5,(by show atI _ (d % 16-12)=_;rw [z];exact aL rfl),kQ q1 .take G5 (u5 _ _ (u4 _ _ (u3 _ _ (u2 _ _ v1)))) trivial trivial sA⟩
 .exact ⟨q5,_,_,_,rfl,rfl,SqT.of v5,(by show atI _ (d % 16-12)=_;rw [z];exact aL rfl),kQ q2 .take G5 (u5 _ _ (u4 _ _ (u3 _ _ v2))) trivial trivial sA⟩
 .exact ⟨q5,_,_,_,rfl,rfl,SqT.of v5,(by show atI _ (d % 16-12)=_;rw [z];exact aL rfl),kQ q3 .least G5 (u5 _ _ (u4 _ _ v3)) trivial trivial sA⟩
 exact ⟨q5,_,_,_,rfl,rfl,SqT.of v5,(by show atI _ (d % 16-12)=_;rw [z];exact aL rfl),kQ q4 .least G5 (u5 _ _ v4) trivial trivial sA⟩
abbrev mS:Stmt:=top 49
theorem pU:au ["called","deed","line","part"] ["called","deed"] (ao mS):=fs0
def bu (z:Str):Deed->List Str
 | .put n w=>["put",z,n,txt w]
 | .drop n=>["drop",z,n]
 | .change n w=>["change",z,n,txt w]
 | .take=>["take",z]
 | .least=>["least",z]
def pK:Sp:=fun vs H Q _=>∃ (q:Addr) (z:Str) (dd:Deed),vs=[.str z,.ref q]/\AbcN z 8/\H q=some (.tup dd.v)/\okD dd/\∀H',Same H H'->Q (.str (Str.join " " (bu z dd))) H'
theorem ss (F:Fun K "_law_line" "_law_line" mS f fd)(T:Bl mg)(z_str:mg "str"=none):av P w K mg base CX0 1 f fd ["called","deed"] pK:=by
 have sc:=pU
 refine F.okQ pU fun cdv A outer s H vs Q E hr h=>?_
 obtain ⟨q,z,dd,rfl,nz,hq,ok,k⟩:=h
 have hu:=hr.units0
 refine ⟨_,(ac (qst 2 sc.nd (ap bf (ap bf (aD aI (qv 1) af pix) ar) (qv 0)))
  (ac (eT BW rfl (tN (cT sl_tup (qv 1) (dY af) eu)) (cX (i:=3) sc.nd rfl (Or.inl rfl)) (aj (qst 2 sc.nd (ap bf (ap bf (qv 2) ar) (qcT bp z_str (aa (qv 3) ag))))))
  (aj (aA (qv 2))))),?_⟩
 obtain ⟨x,vs,ev,hx⟩:∃ (x:Str) (vs:List V),dd.v=.str x::vs/\x.length<=10:=by
  cases dd <;> exact ⟨_,_,rfl,AV⟩
 rw [ev] at hq
 have nzl:=nz.hi
 have l1:(" ":Str).length=1:=by decide +kernel
 have S:1000<=sizeLine:=by decide
 have tv:vs.length<=2/\∀v∈vs,pX v/\(dt v).length<=40:=by
  cases dd with
  | put n w =>
   cases ev
   refine ⟨by show 2<=2;decide,fun v hv=>?_⟩
   simp only [ax,ah,Bn] at hv
   rcases hv with rfl | rfl
   .exact ⟨.inr ⟨_,rfl⟩,A0 ok.1.hi AW⟩
   .exact ⟨(bg (BZ ok.2 AV)).1,A0 (bR (k:=30) AW ok.2) AW⟩
  | change n w =>
   cases ev
   refine ⟨by show 2<=2;decide,fun v hv=>?_⟩
   simp only [ax,ah,Bn] at hv
   rcases hv with rfl | rfl
   .exact ⟨.inr ⟨_,rfl⟩,A0 ok.1.hi AW⟩
   .exact ⟨(bg (BZ ok.2 AV)).1,A0 (bR (k:=30) AW ok.2) AW⟩
  | drop n =>
   cases ev
   refine ⟨by show 1<=2;decide,fun v hv=>?_⟩
   rw [AZ hv]
   exact ⟨.inr ⟨_,rfl⟩,A0 (AbcN.hi (z:=n) ok) AW⟩
  | take=>cases ev;exact ⟨by show 0<=2;decide,fun v hv=>nomatch hv⟩
  | least=>cases ev;exact ⟨by show 0<=2;decide,fun v hv=>nomatch hv⟩
 have ew:bu z dd=x::z::vs.map dt:=by cases dd <;> (cases ev;rfl)
 refine ⟨_,rfl,q,_,_,_,rfl,rfl,SqT.of hq,aL (j:=0) rfl,_,_,rfl,rfl,AX,_,rfl,_,_,rfl,rfl,by rw [a6];lia,?_⟩
 refine ⟨_,rfl,_,rfl,q,_,rfl,SqT.of hq,?_,fun t ht=>?_⟩
 .intro y
  have:=(HT.sIx_nat (V.str x::vs).length 0 1).symm.trans y.1
  rw [Bj] at this
  lia
 have e2:eK (V.str x::vs) (some 1) none=vs:=by
  unfold eK
  have:=HT.sIx_nat (V.str x::vs).length 0 1
  rw [show (some (1:Int))=some ((1:Nat):Int) from rfl,this,Bj,FQ AX]
  show vs.take (vs.length+1-1)=vs
  exact Ce AX
 rw [e2]
 refine gnew ht fun H1 s1 g1=>?_
 refine ⟨t,rfl,⟨_,SqT.of g1⟩,?_⟩
 refine xy (K:=K) (a:=t) (xs:=vs) (fun i Z H2=>∃ (ln:Str) (o:Option V),Z=[some (.str z),some (.ref q),some (.str ln),o]/\ln=((vs.take i).map dt).foldl (fun (acc w:Str)=>acc++" "++w) (x++" "++z)/\ln.length<=40+50*i/\H2=H1) ⟨_,none,rfl,rfl,by rw [a6,a6];lia,rfl⟩ (fun i Z H2 _ h'=>by obtain ⟨ln,o,_,_,_,e⟩:=h';rw [e];exact SqT.of g1) ?_ ?_
 .rintro i v Z H2 hi ⟨ln,o,rfl,el,ll,rfl⟩
  obtain ⟨t1,t2⟩:=tv.2 v (BC hi)
  have li:i<vs.length:=(Bu.mp hi).1
  have fin:∃ (ln':Str) (o:Option V),[some (V.str z),some (V.ref q),some (V.str (ln++" "++dt v)),some v]=[some (.str z),some (.ref q),some (.str ln'),o]/\ln'=((vs.take (i+1)).map dt).foldl (fun (acc w:Str)=>acc++" "++w) (x++" "++z)/\ln'.length<=40+50*(i+1)/\H2=H2:=by
   refine ⟨_,_,rfl,?_,by rw [a6,a6];lia,rfl⟩
   rw [Cz,hi,BL,List.foldl_append,<-el]
   rfl
  have ll2:(ln++(" ":Str)).length=ln.length+1:=by rw [a6,l1]
  refine ⟨_,rfl,_,_,rfl,rfl,AX,_,rfl,?_⟩
  rcases t1 with ⟨n,rfl,ln2⟩ | ⟨u,rfl⟩
  .exact .inl ⟨n,rfl,ln2,_,_,rfl,rfl,by have:(dt (.int n)).length=(Str.ofString (toString n)).length:=rfl;lia,fin⟩
  .exact .inr ⟨u,rfl,_,_,rfl,rfl,by have:(dt (.str u)).length=u.length:=rfl;lia,fin⟩
 rintro Z H2 ⟨ln,o,rfl,el,ll,rfl⟩
 refine ⟨_,rfl,?_⟩
 have:=k H2 s1
 rw [ew] at this
 rw [Co,dM] at el
 rw [el]
 have ej:Str.join " " ((x++" "++z)::vs.map dt)=Str.join " " (x::z::vs.map dt):=by
  rw [<-dM,<-dM]
  rfl
 rw [ej]
 exact this
abbrev uv:Stmt:=top 51
theorem sT:au ["found"] ["found"] (ao uv):=fs0
def uC (K:W.Frag):Sp:=fun vs H Q _=>∃ (a:Ans) (v:V),vs=[v]/\zH H a v/\(∀w n,a=.pair w n->w.natAbs<10 ^ 31/\n.length<=10)/\(a=.clash->Q (.int 1) H)/\(a=.nothing->Q (.int 2) H)/\(a≠.clash->a≠.nothing->∀D H',H' D=some (.lst (uF a))->H D=none->Same H H'->Q (.ref D) H')
theorem xE (F:Fun K "_law_due" "_law_due" uv f fd)(T:Bl mg)(z_str:mg "str"=none):av P w K mg base CX0 1 f fd ["found"] (uC K):=by
 have sc:=sT
 refine F.okQ sT fun cdv A outer s H vs Q E hr h=>?_
 obtain ⟨a,v,rfl,an,sm,k1,k2,k3⟩:=h
 have hu:=hr.units0
 refine ⟨_,(ac (aR (aw uD (qv 0) iA (aE _)) (aj (aA (bn ag))) aB)
  (ac (aR (bY (qcB tP T.z_isinstance (aa (qv 0) (aa (xl (v:=.ty "int") (u:=.type "int") (by rfl) T.z_int AV (by rfl)) ag)))) (aj (aA (qv 0))) aB)
  (aj (aA (bn (aa (ap bf (ap bf (qcT bp z_str (aa (aD aI (qv 0) af pix) ag)) ar) (aD aI (qv 0) af pix)) ag)))))),?_⟩
 cases a with
 | non =>
  have e:v=.non:=an
  subst e
  refine ⟨_,rfl,rfl,_,rfl,aO (fun _=>?_) (fun c=>absurd (Bb rfl) c)⟩
  exact ⟨sz0,fun D hD=>k3 (fun z=>nomatch z) (fun z=>nomatch z) D _ ad hD (aq hD)⟩
 | clash =>
  have e:v=.int 1:=an
  subst e
  refine ⟨_,rfl,rfl,_,rfl,aO (fun c=>nomatch Ba c) (fun _=>?_)⟩
  exact ⟨_,rfl,_,_,_,true,rfl,.int _,rfl,_,rfl,iQ ⟨_,rfl,k1 rfl⟩⟩
 | nothing =>
  have e:v=.int 2:=an
  subst e
  refine ⟨_,rfl,rfl,_,rfl,aO (fun c=>nomatch Ba c) (fun _=>?_)⟩
  exact ⟨_,rfl,_,_,_,true,rfl,.int _,rfl,_,rfl,iQ ⟨_,rfl,k2 rfl⟩⟩
 | pair w n =>
  obtain ⟨p,e,hp⟩:=an
  subst e
  obtain ⟨m1,m2⟩:=sm w n rfl
  obtain ⟨t1,t2⟩:=bg m1
  have t3:(dt (.int w)).length=(Str.ofString (toString w)).length:=rfl
  have l1:(" ":Str).length=1:=by decide +kernel
  have S:1000<=sizeLine:=by decide
  refine ⟨_,rfl,rfl,_,rfl,aO (fun c=>nomatch Ba c) (fun _=>?_)⟩
  refine ⟨_,rfl,_,_,_,false,rfl,.tup hp,rfl,_,rfl,bL ?_⟩
  refine ⟨_,rfl,p,_,_,_,rfl,rfl,SqT.of hp,rfl,.inl ⟨w,rfl,bF (BZ m1 AV),_,_,rfl,rfl,AX,_,rfl,p,_,_,_,rfl,rfl,SqT.of hp,rfl,_,_,rfl,rfl,by rw [a6];lia,sz1,fun D hD=>?_⟩⟩
  exact k3 (fun z=>nomatch z) (fun z=>nomatch z) D _ ad hD (aq hD)
theorem made_of {u:Str}(h0:1<=z.length)(h1:z.length<=m)(h:∀c∈z.cps.toList,(!(PySem.Builtin.Str.occurrences u (sgn c) 0 u.length 1).isEmpty)=true):cQ z u m=true:=by
 unfold cQ
 rw [Bb h0,Bb (show (z.length:Int)<=(m:Int) by lia),D8,D8,Dz]
 exact h
theorem yB:∀n:Fin 26,(!(PySem.Builtin.Str.occurrences "abcdefghijklmnopqrstuvwxyz" (sgn (97+n.val)) 0 ("abcdefghijklmnopqrstuvwxyz":Str).length 1).isEmpty)=true:=by decide +kernel
theorem zt:∀n:Fin 10,(!(PySem.Builtin.Str.occurrences "0123456789" (sgn (48+n.val)) 0 ("0123456789":Str).length 1).isEmpty)=true:=by decide +kernel
theorem mO (h:AbcN z 8):jM z=true:=made_of h.lo h.hi fun c hc=>by
 obtain ⟨a,b⟩:=h.abc c hc
 have:=yB ⟨c-97,AX⟩
 rw [show 97+(⟨c-97,AX⟩:Fin 26).val=c from by show 97+(c-97)=c;lia] at this
 exact this
theorem md:iG (txt (Int.ofNat m))=txt (Int.ofNat m):=by
 unfold iG
 rw [Bc]
 rw [By]
 rintro ⟨_,h⟩
 rw [StrLaws.subAt_eq,EY,dX] at h
 have e:=eq_of_beq h
 have d:=fG m
 cases q:(Nat.toDigits 10 m).map Char.toNat with
 | nil=>exact gK m q
 | cons a l =>
  rw [q] at e d
  have l1:("-":Str).length=1:=by decide +kernel
  have l2:("-":Str).cps.toList=[45]:=by decide +kernel
  rw [l1,l2] at e
  have e':a=45:=(EB e).1
  have:=d a (BD ..)
  lia
theorem sK:(iG (txt (Int.negSucc m))).cps.toList=(Nat.toDigits 10 (m+1)).map Char.toNat:=by
 unfold iG
 have l1:("-":Str).length=1:=by decide +kernel
 have l2:("-":Str).cps.toList=[45]:=by decide +kernel
 have ll:1<=(txt (Int.negSucc m)).length:=by rw [ba,fO];exact Cu (BK _)
 rw [Bf]
 .show (StrLaws.sliceText (txt (Int.negSucc m)) (some 1) none).cps.toList=_
  rw [StrLaws.sliceText_from (i:=1) ⟨AW,by rw [<-ba];lia⟩,fO]
  show ((_:List Nat).take _)=_
  rw [Bj]
  show (((Nat.toDigits 10 (m+1)).map Char.toNat).take (((((Nat.toDigits 10 (m+1)).map Char.toNat).length+1:Nat):Int)-1).toNat)=_
  exact Ce AX
 rw [By]
 refine ⟨Bb (by rw [l1];lia),?_⟩
 rw [StrLaws.subAt_eq,EY,fO,l1,l2]
 rfl
theorem pj (h:z.cps.toList=(Nat.toDigits 10 m).map Char.toNat)(hm:m<10 ^ 30):cQ z "0123456789" 30=true/\z.cps.all (·<128)=true:=by
 have d:=fG m
 rw [<-h] at d
 refine ⟨made_of (m:=30) ?_ ?_ fun c hc=>?_,?_⟩
 .rw [ba,h]
  cases q:(Nat.toDigits 10 m).map Char.toNat with
  | nil=>exact absurd q (gK m)
  | cons a l=>exact Cu (BK _)
 .rw [ba,h]
  exact ik AW hm
 .obtain ⟨a,b⟩:=d c hc
  have:=zt ⟨c-48,AX⟩
  rw [show 48+(⟨c-48,AX⟩:Fin 10).val=c from by show 48+(c-48)=c;lia] at this
  exact this
 rw [<-Array.all_toList,Dz]
 intro c hc
 obtain ⟨a,b⟩:=d c hc
 exact Bb AX
theorem gO {n:Int}(h:n.natAbs<10 ^ 30):uR (txt n) n:=by
 have l:=bR (k:=30) AW h
 have v:=wO (BZ h AV)
 have g:=bF (BZ h AV)
 cases n with
 | ofNat m =>
  obtain ⟨a,b⟩:=pj (dX m) h
  exact ⟨by rw [md];exact b,AX,by rw [md];exact a,v,g,rfl⟩
 | negSucc m =>
  obtain ⟨a,b⟩:=pj (sK (m:=m)) h
  exact ⟨b,AX,a,v,g,rfl⟩
def nO:List (Str×List Str):=[("heap",["word","name","count"]),("put",["word","heap","name","number"]),("drop",["word","heap","name"]),("change",["word","heap","name","number"]),("take",["word","heap"]),("least",["word","heap"]),("first",["word","heap","count"]),("join",["word","heap","heap"]),("room",["word","heap"]),("works",["word","heap"])]
def gZ (K:W.Frag)(forms:List (Str×Addr)):Prop:=∀p∈nO,∃ q,forms.lookup p.1=some q/\∀H,SqT K H q (p.2.map V.str)
inductive MeantL (ks:List (Key×V)):List Str->List Str->List V->Prop
 | nil:MeantL ks [] [] []
 | cons {a z:Str} {v:V} {l m:List Str} {n:List V}:cK ks a z v->MeantL ks l m n->MeantL ks (a::l) (z::m) (v::n)
theorem MeantL.len {l m:List Str}{n:List V}(h:MeantL ks l m n):l.length=m.length/\n.length=m.length:=by
 induction h with
 | nil=>exact ⟨rfl,rfl⟩
 | cons _ _ ih=>exact ⟨congrArg (·+1) ih.1,congrArg (·+1) ih.2⟩
theorem MeantL.at {l m:List Str}{n:List V}(h:MeantL ks l m n):∀(i:Nat) (kd z:Str),l[i]?=some kd->m[i]?=some z->∃ v,n[i]?=some v/\cK ks kd z v:=by
 induction h with
 | nil=>intro i _ _ e;cases e
 | cons r _ ih =>
  intro i kd z e1 e2
  cases i with
  | zero=>cases e1;cases e2;exact ⟨_,rfl,r⟩
  | succ i=>exact ih i kd z e1 e2
theorem db (FO:gZ K forms){kinds ws:List Str}{vs:List V}(m:(x,kinds)∈nO)(h:MeantL ks kinds (x::ws) (.str x::vs))(few:ws.length<=10)(nj:x≠"join"):Und K forms ks (x::ws) (.str x::vs):=by
 obtain ⟨q,h1,h2⟩:=FO _ m
 obtain ⟨l1,l2⟩:=h.len
 exact ⟨⟨x,q,kinds,rfl,h1,h2,l1,h.at⟩,l2,by rw [Bj];lia,⟨x,rfl⟩,fun e=>absurd (V.str.inj (BI e)) nj⟩
theorem dw (n:AbcN z 8)(h:(aX ks (Sum.inr z)).isSome=true):cK ks "heap" z (.str z):=.heap n.asc (A0 n.hi AW) (mO n) h
theorem ko (n:AbcN z 8):cK ks "name" z (.str z):=.name n.asc (A0 n.hi AW) (mO n)
theorem vK (FO:gZ K forms)(n:AbcN z 8)(h:(aX ks (Sum.inr z)).isSome=true)(ok:okD dd):
  ∃ (x:Str) (rest:List V),dd.v=.str x::rest/\x≠"heap"/\x≠"join"/\Und K forms ks (bu z dd) (.str x::.str z::rest):=by
 have F2:2<=10:=by decide
 cases dd with
 | put m w=>exact ⟨_,_,rfl,AV,AV,db FO (kinds:=["word","heap","name","number"]) AV (.cons .word (.cons (dw n h) (.cons (ko ok.1) (.cons (.number (gO ok.2)) .nil)))) (by show 3<=10;decide) AV⟩
 | drop m=>exact ⟨_,_,rfl,AV,AV,db FO (kinds:=["word","heap","name"]) AV (.cons .word (.cons (dw n h) (.cons (ko ok) .nil))) (by show 2<=10;decide) AV⟩
 | change m w=>exact ⟨_,_,rfl,AV,AV,db FO (kinds:=["word","heap","name","number"]) AV (.cons .word (.cons (dw n h) (.cons (ko ok.1) (.cons (.number (gO ok.2)) .nil)))) (by show 3<=10;decide) AV⟩
 | take=>exact ⟨_,_,rfl,AV,AV,db FO (kinds:=["word","heap"]) AV (.cons .word (.cons (dw n h) .nil)) (by show 1<=10;decide) AV⟩
 | least=>exact ⟨_,_,rfl,AV,AV,db FO (kinds:=["word","heap"]) AV (.cons .word (.cons (dw n h) .nil)) (by show 1<=10;decide) AV⟩
def z5:Deed->Int
 | .put _ _=>1
 | _=>2
abbrev nI:Stmt:=top 50
theorem oY:au ["desk","line","found"] ["desk","line"] (ao nI):=fs0
def qC (K:W.Frag)(C CL:Addr):Sp:=fun vs H Q _=>∃ (p d e h hd hl:Addr) (ks js:List (Key×V)) (z:Str) (dd:Deed) (s:LS) (j:Int),vs=[.ref p,.str (Str.join " " (bu z dd))]/\AbcN z 8/\okD dd/\ci C H p d e ks js/\aX ks (Sum.inr z)=some (.ref h)/\aX js (Sum.inr z)=some (.int j)/\LateAt CL H h hd hl s/\Gm.LInv slt s/\s.stamp<=800/\Sml s.there/\((s.looks:Int)+j).natAbs<10 ^ 31 /\
 (dd.fit s->∀D l' H',LateAt CL H' h hd l' (ay s dd).1->H' D=some (.lst (uF (ay s dd).2))->Kept [h,hd,hl] H H'->Fr3 H hl l'->Q (.ref D) H')/\(¬ dd.fit s->∀H',Same H H'->Q (.int (z5 dd)) H')
theorem ng (n:AbcN z 8)(ok:okD dd):∀w∈bu z dd,32∉w.cps.toList:=by
 have W:∀x:Str,x.cps.toList.contains 32=false->32∉x.cps.toList:=fun x e m=>by
  rw [Es.mpr m] at e
  cases e
 intro w hw
 cases dd with
 | put m v =>
  simp only [bu,ax,ah,Bn] at hw
  rcases hw with rfl | rfl | rfl | rfl
  .exact W _ AV
  .exact n.free
  .exact ok.1.free
  .exact fM _
 | drop m =>
  simp only [bu,ax,ah,Bn] at hw
  rcases hw with rfl | rfl | rfl
  .exact W _ AV
  .exact n.free
  .exact AbcN.free (m:=8) ok
 | change m v =>
  simp only [bu,ax,ah,Bn] at hw
  rcases hw with rfl | rfl | rfl | rfl
  .exact W _ AV
  .exact n.free
  .exact ok.1.free
  .exact fM _
 | take =>
  simp only [bu,ax,ah,Bn] at hw
  rcases hw with rfl | rfl
  .exact W _ AV
  .exact n.free
 | least =>
  simp only [bu,ax,ah,Bn] at hw
  rcases hw with rfl | rfl
  .exact W _ AV
  .exact n.free
theorem eV:∀(ws:List Str) (m:Nat),(∀w∈ws,w.length<=m)->(Str.join " " ws).length<=ws.length*(m+1)
 | [],m,_=>by show 0<=_;exact BK _
 | [a],m,h=>by
  have:=h a AY
  show a.length<=1*(m+1)
  lia
 | a::b::l,m,h=>by
  have l1:(" ":Str).length=1:=by decide +kernel
  have i1:=h a AY
  have i2:=eV (b::l) m fun w hw=>h w (Bk _ hw)
  show (a++" "++Str.join " " (b::l)).length<=(l.length+1+1)*(m+1)
  rw [a6,a6,l1,Nat.succ_mul]
  rw [Bj] at i2
  lia
theorem qU (n:AbcN z 8)(ok:okD dd):(Str.join " " (bu z dd)).length<=900:=by
 have h:∀w∈bu z dd,w.length<=40:=by
  intro w hw
  have nh:=n.hi
  cases dd with
  | put m v =>
   have a:=ok.1.hi
   have b:=bR (k:=30) AW ok.2
   simp only [bu,ax,ah,Bn] at hw
   rcases hw with rfl | rfl | rfl | rfl <;> first | lia | (exact AV)
  | drop m =>
   have a:=AbcN.hi (z:=m) ok
   simp only [bu,ax,ah,Bn] at hw
   rcases hw with rfl | rfl | rfl <;> first | lia | (exact AV)
  | change m v =>
   have a:=ok.1.hi
   have b:=bR (k:=30) AW ok.2
   simp only [bu,ax,ah,Bn] at hw
   rcases hw with rfl | rfl | rfl | rfl <;> first | lia | (exact AV)
  | take =>
   simp only [bu,ax,ah,Bn] at hw
   rcases hw with rfl | rfl <;> first | lia | (exact AV)
  | least =>
   simp only [bu,ax,ah,Bn] at hw
   rcases hw with rfl | rfl <;> first | lia | (exact AV)
 have j:=eV _ _ h
 have l:(bu z dd).length<=4:=by cases dd <;> (simp only [bu,Bj,CG];lia)
 have:=FX (40+1) l
 lia
theorem uj (F:Fun K "_law_told" "_law_told" nI f fd)(T:Bl mg)(L:DK K C)(FO:gZ K forms)(mClash:mg "Clash"=some (.ref CC))(mNoThing:mg "NoThing"=some (.ref CN))(xCC:W.exmOne K (.ref CC) (.ref CC)=some true)(xNC:W.exmOne K (.ref CN) (.ref CC)=some false)(xNN:W.exmOne K (.ref CN) (.ref CN)=some true)(Mask:bx K C "ask" fa)(Gask:av P w K mg base (CXe P w) 9 fa fda ["self","line"] (oZ K forms C CL CC CN))(Bask:Binds K fda ["self","line"] []):
  av P w K mg base CX0 10 f fd ["desk","line"] (qC K C CL):=by
 have sc:=oY
 refine F.ok oY fun cdv A outer s_ H vs Q E hr h=>?_
 obtain ⟨p,d,e,h,hd,hl,ks,js,z,dd,s,j,rfl,nz,ok,DA,vh,vj,LA,LI,st,sm,lj,kQ,kE⟩:=h
 have hu:=hr.units0
 refine ⟨_,(QSs.to (ac (qst 2 sc.nd iA)
  (ac (QS.mk (wy (vm (wL (i:=2) sc.nd rfl (Or.inl rfl) (sR (QE.to (qv 0)) L.cl Mask Gask hr.mo Bask .nil (QA.to (aa (qv 1) ag))))) rfl rfl rfl mClash rfl mNoThing (fun e=>QSs.to (aj (qst 2 sc.nd af))) (fun e=>QSs.to (aj (qst 2 sc.nd af)))))
  (aj (aA (qv 2)))))),?_⟩
 obtain ⟨dx,hp⟩:=DA.ob
 obtain ⟨x,rest,ev,nh,nj,U⟩:=vK FO nz (by rw [vh];rfl) ok
 refine ⟨_,rfl,p,dx,_,rfl,hp,eJ AV AV,_,rfl,p,d,e,ks,js,bu z dd,_,rfl,(by cases dd <;> exact DD _ _),ng nz ok,qU nz ok,DA,U,.inr ⟨x,z,rest,h,hd,hl,s,j,rfl,nh,nj,vh,vj,LA,LI,st,sm,lj,.inr (.inr (.inr ⟨dd,ev,?_,fun ft D l' H' L' g' k' f'=>⟨_,rfl,kQ ft D l' H' L' g' k' f'⟩,fun nf H' s'=>?_⟩))⟩⟩
 .cases dd with
  | put m v=>exact A0 ok.1.hi AW
  | drop m=>exact A0 (AbcN.hi (z:=m) ok) AW
  | change m v=>exact A0 ok.1.hi AW
  | take=>trivial
  | least=>trivial
 have q:=kE nf H' s'
 cases dd with
 | put m v=>exact ⟨CC,rfl,.inl ⟨xCC,_,rfl,q⟩⟩
 | drop m=>exact ⟨CN,rfl,.inr ⟨xNC,xNN,_,rfl,q⟩⟩
 | change m v=>exact ⟨CN,rfl,.inr ⟨xNC,xNN,_,rfl,q⟩⟩
 | take=>exact ⟨CN,rfl,.inr ⟨xNC,xNN,_,rfl,q⟩⟩
 | least=>exact ⟨CN,rfl,.inr ⟨xNC,xNN,_,rfl,q⟩⟩
theorem vf (h:X.K=K):SlR X (fun x lo hi H Q=>yw K x lo hi H Q∨∃ a xs,x=.ref a/\SqT K H a xs/\(HT.sIx xs.length 0 lo=0/\HT.sIx xs.length xs.length hi=xs.length)/\Q (.ref a) H):=by subst h;exact pS
def DR (H:Hp)(zs:List V)(L:List (Int×Str)):Prop:=Paired (fun (z:V) (p:Int×Str)=>∃ a,z=.ref a/\H a=some (.tup [.int p.1,.str p.2])) zs L
theorem DR.stay (r:DR H zs L)(k:∀b l,H b=some (.tup l)->H' b=some (.tup l)):DR H' zs L:=Paired.mapP r fun p q ⟨a,b,c⟩=>⟨a,b,k _ _ c⟩
def kD (H:Hp):V->Int×Str
 | .ref a=>match H a with
  | some (.tup [.int w,.str n])=>(w,n)
  | _=>(0,"")
 | _=>(0,"")
theorem DR.key (r:DR H zs L):zs.map (kD H)=L:=by
 induction r with
 | nil=>rfl
 | cons h _ ih =>
  obtain ⟨a,rfl,e⟩:=h
  rw [BA,ih]
  congr 1
  show (match H a with | some (.tup [.int w,.str n])=>(w,n) | _=>((0:Int),("":Str)))=_
  rw [e]
theorem DR.mem (r:DR H zs L):∀x∈zs,∃ a,x=.ref a/\H a=some (.tup [.int (kD H x).1,.str (kD H x).2]):=by
 induction r with
 | nil=>intro x h;cases h
 | cons h _ ih =>
  intro x hx
  rcases ax.mp hx with rfl | hx
  .obtain ⟨a,rfl,e⟩:=h
   refine ⟨a,rfl,?_⟩
   have z:kD H (.ref a)=_:=show (match H a with | some (.tup [.int w,.str n])=>(w,n) | _=>((0:Int),("":Str)))=_ by rw [e]
   rw [z]
   exact e
  .exact ih x hx
theorem DR.of (h:∀x∈zs,∃ a,x=.ref a/\H a=some (.tup [.int (kD H x).1,.str (kD H x).2])):DR H zs (zs.map (kD H)):=by
 induction zs with
 | nil=>exact .nil
 | cons x zs ih=>exact .cons (h x BD) (ih fun y hy=>h y (Bk _ hy))
abbrev lZ:Stmt:=top 52
theorem uY:au ["script","desk","called","heap","k","room","many","things","told"] ["script","desk","called","heap","k"] (ao lZ):=fs0
structure Pair (C CL:Addr)(H:Hp)(p d e:Addr)(ks js:List (Key×V))(z:Str)(h hd hl st r td:Addr)(s:LS):Prop where
 da:ci C H p d e ks js
 nz:AbcN z 8
 vh:aX ks (Sum.inr z)=some (.ref h)
 vj:aX js (Sum.inr z)=some (.int 0)
 la:LateAt CL H h hd hl s
 ow:DkAt H st r td s s.looks
 li:Gm.LInv slt s
 sp:s.stamp<=800
 sm:Sml s.there
 lk:s.looks<10 ^ 30
 ts:s.there.length<64
theorem Pair.same {h hd hl st r:Addr}{s:LS}(W:Pair C CL H p d e ks js z h hd hl st r td s)(k:Same H H'):Pair C CL H' p d e ks js z h hd hl st r td s :=
 ⟨⟨W.da.ob.imp fun _ x=>k _ _ x,k _ _ W.da.hd,k _ _ W.da.hj⟩,W.nz,W.vh,W.vj,W.la.same k,W.ow.same k,W.li,W.sp,W.sm,W.lk,W.ts⟩
theorem Pair.lj {h hd hl st r:Addr}{s:LS}(W:Pair C CL H p d e ks js z h hd hl st r td s):((s.looks:Int)+0).natAbs<10 ^ 31:=by
 have:=W.lk
 rw [Gi,EV]
 exact BZ this AV
def tK (K:W.Frag)(C CL:Addr):Sp:=fun vs H Q _=>∃ (a:Addr) (ns:List Int) (p d e h hd hl st r td:Addr) (ks js:List (Key×V)) (z:Str) (s:LS) (k:Int),vs=[.ref a,.ref p,.str z,.ref st,.int k]/\SqL K H a (ns.map V.int)/\ns.length<=63/\0<=k/\Pair C CL H p d e ks js z h hd hl st r td s/\∀H',Same H H'->Q (.bl true) H'
theorem xx (F:Fun K "_law_all_right" "_law_all_right" lZ f fd)(T:Bl mg)(L:DK K C)(FO:gZ K forms)(z_str:mg "str"=none)(Mask:bx K C "ask" fa)(Gask:av P w K mg base (CXe P w) 9 fa fda ["self","line"] (oZ K forms C CL CC CN))(Bask:Binds K fda ["self","line"] [])(G_law_draw:av P w K mg base CX0 1 fn fdn ["script","k"] (fY K))(D_law_draw:Nm K mg "_law_draw" fn fdn ["script","k"]):
  av P w K mg base CX0 10 f fd ["script","desk","called","heap","k"] (tK K C CL):=by
 have sc:=uY
 refine F.okQ uY fun cdv A outer s_ H vs Q E hr h=>?_
 obtain ⟨a,ns,p,d,e,h,hd,hl,st,r,td,ks,js,z,s,k,rfl,hS,hn,hk,W,kQ⟩:=h
 have hu:=hr.units0
 have hu1:=hr.u100
 refine ⟨_,(ac (qst 5 sc.nd (ap bf (ap bf (qcT bp z_str (aa (qcB bZ T.z_len (aa (aN (aS hr) (qv 3) ar pix) ag)) ag)) ar) (qcT bp z_str (aa (qcB aH T.z_len (aa (aN (aS hr) (qv 3) ar pix) ag)) ag))))
  (ac (aR (QW.pt (qD (aw (fA hu1) (bd (qv 1) L.cl Mask Gask hr.mo Bask .nil gW (aa (ap bf ar (qv 2)) ag)) (bn (aa (qv 5) ag)) (aE _)) (jX (aw (fA hu1) (bd (qv 1) L.cl Mask Gask hr.mo Bask .nil gW (aa (ap bf ar (qv 2)) ag)) (bn (aa (qcT bp z_str (aa (aN (aS hr) (qv 3) ar pix) ag)) ag)) (aE _))))) (aj (aA gu)) aB)
  (ac (qst 6 sc.nd (aD aK (bn (gq (vs:=[.int 0,.int 1,.int 3,.int 250]) AV)) (ap aZ (qcl G_law_draw hr D_law_draw aG (aa (qv 0) (aa (ap aQ af (qv 4)) ag))) af) pix))
  (ac (qst 7 sc.nd (qcB iZ T.z_sorted (aa (wt (dU (Blk.of (N:=["script","desk","called","heap","k","room","many","things","told"]) (esc:=ao lZ) (NB:=[]) (cap:=[]) rfl rfl (fun y hy=>bM hy) rfl AV AV AV rfl AV rfl AV) rfl rfl (wM (mX Ds Fe PySem.F.type_dict_values qY (aN (aS hr) (qv 3) ar pix))) (fun C fp s₀ H₀=>dR) (fun C fp s₀ H₀=>(cT (vf (K:=K) rfl) (qv 0) eu (dY af))))) ag)))
  (ac (qst 8 sc.nd (bd (qv 1) L.cl Mask Gask hr.mo Bask .nil gW (aa (ap bf (ap bf (ap bf ar (qv 2)) ar) (qcT bp z_str (aa (qv 6) ag))) ag)))
  (ac (aR (aw (fA hu1) (qv 8) (uc (Blk2.of (N:=["script","desk","called","heap","k","room","many","things","told"]) (esc:=ao lZ) (NB:=[]) (cap:=[]) rfl rfl (fun y hy=>bM hy) rfl AV AV AV rfl AV rfl rfl AV) rfl rfl (j5 (cT wX (qv 7) eu (dY (qv 6)))) (fun C fp s₀ H₀=>dR) (fun C fp s₀ H₀=>(ap bf (ap bf (qcT bp z_str (aa (qv 0) ag)) ar) (qv 1)))) (aE _)) (aj (aA gu)) aB)
  (ac (aJ (jm Ct Di Dj cy (qv 8) (aa ar ag)))
  (aj (aA gu))))))))),?_⟩
 obtain ⟨dx,hp⟩:=W.da.ob
 obtain ⟨kt,htd,krt⟩:=W.ow.ht
 obtain ⟨xs,hx,rr⟩:=W.ow.hr
 have lx:=rr.len
 have lk:=krt.len
 have r1:=W.li.len
 have r2:=W.li.tl
 have st8:=W.sp
 have lz:=W.nz.hi
 have b1:((s.there.length:Nat):Int).natAbs<10 ^ 31:=BM (A0 AX st8) AV
 have b2:((s.row.length:Nat):Int).natAbs<10 ^ 31:=BM (A0 AX st8) AV
 have c1:(txt s.there.length).length<=32:=bR (k:=31) AW b1
 have c2:(txt s.row.length).length<=32:=bR (k:=31) AW b2
 have l1:(" ":Str).length=1:=by decide +kernel
 have S:1000<=sizeLine:=by decide
 refine ⟨_,rfl,st,_,rfl,W.ow.now,td,kt,rfl,htd,.inl ⟨_,rfl,by rw [lk];exact bF (BZ b1 AV),_,_,rfl,rfl,by rw [lk];show (txt s.there.length).length+1<=_;lia,_,rfl,st,_,rfl,W.ow.row,r,_,rfl,.inl (SqL.of hx),.inl ⟨_,rfl,by rw [lx];exact bF (BZ b2 AV),_,_,rfl,rfl,?_,?_⟩⟩⟩
 .rw [a6,lk,lx]
  show (txt s.there.length).length+1+(txt s.row.length).length<=_
  lia
 rw [lk,lx]
 have LEN:∀ws:List Str,(∀w∈ws,w.length<=40)->ws.length<=4->(Str.join " " ws).length<=900:=fun ws h l=>by
  have j:=eV _ _ h
  have:=FX (40+1) l
  lia
 have W0:∀x:Str,x.cps.toList.contains 32=false->32∉x.cps.toList:=fun x e m=>by
  rw [Es.mpr m] at e
  cases e
 have e1:("room ":Str)++z=Str.join " " ["room",z]:=by
  have:("room ":Str)="room"++" ":=by decide +kernel
  rw [this]
  rfl
 have U1:Und K forms ks ["room",z] [.str "room",.str z]:=db FO (kinds:=["word","heap"]) AV (.cons .word (.cons (dw W.nz (by rw [W.vh];rfl)) .nil)) (by show 1<=10;decide) AV
 refine ⟨_,rfl,p,dx,_,rfl,hp,eJ AV AV,_,rfl,_,_,rfl,rfl,?_,p,d,e,ks,js,["room",z],_,(by rw [e1];rfl),DD _ _,?_,?_,W.da,U1,.inr ⟨"room",z,[],h,hd,hl,s,0,rfl,AV,AV,W.vh,W.vj,W.la,W.li,W.sp,W.sm,W.lj,.inr (.inl ⟨rfl,fun D1 H1 g1 s1 f1=>?_⟩)⟩⟩
 .have:("room ":Str).length=5:=by decide +kernel
  lia
 .intro w hw
  simp only [ax,ah,Bn] at hw
  rcases hw with rfl | rfl
  .exact W0 _ AV
  .exact W.nz.free
 .refine LEN _ (fun w hw=>?_) (by show 2<=4;decide)
  simp only [ax,ah,Bn] at hw
  rcases hw with rfl | rfl
  .decide +kernel
  .lia
 refine ⟨_,rfl,sz1,fun l2 hl2=>?_⟩
 have s2:=s1.trans (aq (o:=.lst [.str (Str.ofString (toString (s.there.length:Int))++" "++Str.ofString (toString (s.row.length:Int)))]) hl2)
 refine ⟨.lst (SqL.of (aq hl2 _ _ g1)) (SqL.of ad) (AlL.same fun x hx=>by rw [AZ hx];rfl),_,rfl,bL ?_⟩
 generalize upd H1 l2 (.lst [.str (Str.ofString (toString (s.there.length:Int))++" "++Str.ofString (toString (s.row.length:Int)))])=H2 at s2 ⊢
 have W2:=W.same s2
 have e2:("works ":Str)++z=Str.join " " ["works",z]:=by
  have:("works ":Str)="works"++" ":=by decide +kernel
  rw [this]
  rfl
 have U2:Und K forms ks ["works",z] [.str "works",.str z]:=db FO (kinds:=["word","heap"]) AV (.cons .word (.cons (dw W.nz (by rw [W.vh];rfl)) .nil)) (by show 1<=10;decide) AV
 refine ⟨_,rfl,p,dx,_,rfl,s2 _ _ hp,eJ AV AV,_,rfl,_,_,rfl,rfl,?_,p,d,e,ks,js,["works",z],_,(by rw [e2];rfl),DD _ _,?_,?_,W2.da,U2,.inr ⟨"works",z,[],h,hd,hl,s,0,rfl,AV,AV,W.vh,W.vj,W2.la,W.li,W.sp,W.sm,W.lj,.inr (.inr (.inl ⟨rfl,fun D3 H3 g3 s3 f3=>?_⟩))⟩⟩
 .have:("works ":Str).length=6:=by decide +kernel
  lia
 .intro w hw
  simp only [ax,ah,Bn] at hw
  rcases hw with rfl | rfl
  .exact W0 _ AV
  .exact W.nz.free
 .refine LEN _ (fun w hw=>?_) (by show 2<=4;decide)
  simp only [ax,ah,Bn] at hw
  rcases hw with rfl | rfl
  .decide +kernel
  .lia
 have s03:=s2.trans s3
 have W3:=W.same s03
 rw [Gi] at g3
 refine ⟨_,rfl,st,_,rfl,W3.ow.work,.inl ⟨_,rfl,bF (by rw [EV];exact BZ W.lk AV),sz1,fun l4 hl4=>?_⟩⟩
 have s04:=s03.trans (aq (o:=.lst [.str (Str.ofString (toString (s.looks:Int)))]) hl4)
 refine ⟨.lst (SqL.of (aq hl4 _ _ g3)) (SqL.of ad) (AlL.same fun x hx=>by rw [AZ hx];rfl),_,rfl,bL ?_⟩
 generalize upd H3 l4 (.lst [.str (Str.ofString (toString (s.looks:Int)))])=H4 at s04 ⊢
 refine ⟨sz4,fun l5 hl5=>?_⟩
 have s05:=s04.trans (aq (o:=.lst [.int 0,.int 1,.int 3,.int 250]) hl5)
 have g5:=ad (H:=H4) (a:=l5) (o:=.lst [.int 0,.int 1,.int 3,.int 250])
 generalize upd H4 l5 (.lst [.int 0,.int 1,.int 3,.int 250])=H5 at s05 g5 ⊢
 refine ⟨_,rfl,_,rfl,_,_,rfl,rfl,a,ns,700+k,rfl,SqL.same' hS s05,hn,AX,fun dr H6 _ _ _ s6=>?_⟩
 obtain ⟨m,em,m250⟩:∃ m:Nat,atI [V.int 0,.int 1,.int 3,.int 250] (dr % 4)=some (.int (m:Int))/\m<=250:=by
  have q0:0<=dr % 4:=bh AW
  have q1:dr % 4<4:=be AW
  have cs:dr % 4=((0:Nat):Int)∨dr % 4=((1:Nat):Int)∨dr % 4=((2:Nat):Int)∨dr % 4=((3:Nat):Int):=by lia
  rcases cs with y | y | y | y <;> rw [y]
  .exact ⟨0,aL rfl,AW⟩
  .exact ⟨1,aL rfl,AW⟩
  .exact ⟨3,aL rfl,AW⟩
  .exact ⟨250,aL rfl,AW⟩
 refine ⟨_,_,rfl,rfl,(by show (0:Int)<_;decide),l5,_,_,_,rfl,rfl,SqL.of (s6 _ _ g5),em,?_⟩
 have s06:=s05.trans s6
 have W6:=W.same s06
 refine ⟨_,rfl,st,_,rfl,W6.ow.now,.inr (.inr (.inl ⟨rfl,.inl ⟨kt,s06 _ _ htd⟩⟩)),td,kt,rfl,rfl,s06 _ _ htd,fun vw hvw=>?_⟩
 refine gnew hvw fun HV sV gV=>?_
 have s0V:=s06.trans sV
 have htV:=s0V _ _ htd
 refine ⟨vw,td,kt,rfl,gV,htV,fun ob D hD=>?_⟩
 have ntD:td≠D:=fun y=>by rw [<-y,ad] at hD;cases hD
 have hDV:HV D=none:=by rw [ai ntD.symm] at hD;exact hD
 have lpr:(prs s.there).length=s.there.length:=Bh ..
 have tk7:∀{H8:Hp},(∀b u,HV b=some u->b≠td->H8 b=some u)->∀b l,H b=some (.tup l)->H8 b=some (.tup l):=fun kk b l q=>kk b _ (s0V _ _ q) (aU q htd (by intro y;cases y))
 refine oQ (d:=td) (o:=ob) (kvs:=kt) (fun i ys H8=>H8 D=some (.lst ys)/\DR H8 ys ((prs s.there).take i)/\H8 td=some (.frz ob (.dK kt))/\∀b u,HV b=some u->b≠td->H8 b=some u) ⟨ad,.nil,by rw [ai ntD];exact ad,fun b u q n=>by rw [ai (ak q hDV),ai n];exact q⟩ (fun i ys H8 y=>⟨y.1,y.2.2.1⟩) ?_ ?_
 .rintro i key v ys H8 hi ⟨h8,dr8,f8,k8⟩
  have li:i<kt.length:=(Bu.mp hi).1
  have li2:i<s.there.length:=by lia
  obtain ⟨ek,ea,rfl,hea⟩:=j4 krt hi (bt li2)
  have nm:=(W.li.inr _ _ (Cj li2)).1
  have ly:ys.length=i:=by
   rw [CU dr8,BS]
   lia
  refine cY <| ⟨_,rfl,_,rfl,.inl ⟨ea,_,rfl,SqT.of (tk7 k8 _ _ hea),(by show ¬ (HT.sIx 3 0 none=0/\HT.sIx 3 3 (some 2)=3);decide),fun t ht=>?_⟩⟩
  have ntD2:D≠t:=ak h8 ht
  have ntt:td≠t:=ak f8 ht
  refine ⟨by rw [ai ntD2];exact h8,aY AX,_,AX,rfl,AX,ad,?_,?_,fun b u q n=>?_⟩
  .have et:(prs s.there).take (i+1)=(prs s.there).take i++[((s.there[i]).2.w,(s.there[i]).1)]:=by
    rw [Cz]
    unfold prs
    rw [BH,bt li2]
    rfl
   rw [et]
   have tk:∀b l,H8 b=some (.tup l)->(upd (upd H8 t (.tup (eK (enV (s.there[i]).2) none (some 2)))) D (.lst (ys++[.ref t]))) b=some (.tup l):=fun b l q=>by
    rw [ai (aU q h8 (by intro y;cases y)),ai (ak q ht)]
    exact q
   refine Gb (dr8.stay tk) ⟨t,rfl,?_⟩
   have nm':(s.there[i]).2.n=(s.there[i]).1:=nm
   rw [ai ntD2.symm,ad]
   show some (HO.tup [V.int (s.there[i]).2.w,V.str (s.there[i]).2.n])=some (HO.tup [V.int (s.there[i]).2.w,V.str (s.there[i]).1])
   rw [nm']
  .rw [ai ntD,ai ntt]
   exact f8
  .rw [ai (ak q hDV),ai (ak (k8 b u q n) ht)]
   exact k8 b u q n
 rintro ys H8 ⟨h8,dr8,f8,k8⟩
 rw [lk,<-lpr,Co] at dr8
 refine ⟨td,ob,kt,f8,(fun o u q=>by have q':H td=_:=q;rw [htd] at q';cases q'),?_⟩
 have g9:=ad (H:=H8) (a:=td) (o:=.dK kt)
 have h9:(upd H8 td (.dK kt)) D=some (.lst ys):=by rw [ai ntD.symm];exact h8
 have dr9:DR (upd H8 td (.dK kt)) ys (prs s.there):=dr8.stay fun b l q=>by rw [ai (aU q f8 (by intro y;cases y))];exact q
 have s09:Same H (upd H8 td (.dK kt)):=fun b u q=>by
  by_cases e:b=td
  .subst e;rw [ad,<-htd];exact q
  .rw [ai e];exact k8 b u (s0V _ _ q) e
 generalize upd H8 td (.dK kt)=H9 at g9 h9 dr9 s09 ⊢
 refine ⟨D,ys,kD H9,rfl,SqL.of h9,(fun x hx=>by obtain ⟨a,e1,e2⟩:=dr9.mem x hx;exact ⟨a,e1,SqT.of e2⟩),(by rw [CU dr9,lpr];exact W.ts),fun l zs hll pm srt=>?_⟩
 have s0A:=s09.trans (aq (o:=.lst zs) hll)
 have gA:=ad (H:=H9) (a:=l) (o:=.lst zs)
 have pe:(zs.map (kD H9)).Perm (prs s.there):=by rw [<-dr9.key];exact pm.map _
 have se:(zs.map (kD H9)).Pairwise fun x y=>ltP y x=false:=by rw [CJ];exact srt
 have drz:DR (upd H9 l (.lst zs)) zs (zs.map (kD H9)):=(DR.of fun x hx=>dr9.mem x (pm.mem_iff.mp hx)).stay fun b l' q=>aq hll _ _ q
 have lzs:zs.length=s.there.length:=by rw [pm.length_eq,CU dr9,lpr]
 generalize upd H9 l (.lst zs)=HA at s0A gA drz ⊢
 generalize zs.map (kD H9)=every at pe se drz
 have WA:=W.same s0A
 have bm:((m:Nat):Int).natAbs<10 ^ 30:=BM (A0 AX m250) AV
 have cm:(txt m).length<=31:=bR (k:=30) AW bm
 have cm':(Str.ofString (toString (m:Int))).length<=31:=cm
 have lf:("first ":Str).length=6:=by decide +kernel
 have e3:("first ":Str)++z++" "++Str.ofString (toString (m:Int))=Str.join " " ["first",z,txt m]:=by
  have:("first ":Str)="first"++" ":=by decide +kernel
  rw [this]
  show _="first"++" "++(z++" "++txt m)
  rw [bH,bH,bH z]
  rfl
 have U3:Und K forms ks ["first",z,txt m] [.str "first",.str z,.int m]:=db FO (kinds:=["word","heap","count"]) AV (.cons .word (.cons (dw W.nz (by rw [W.vh];rfl)) (.cons (.count (gO bm) AX) .nil))) (by show 2<=10;decide) AV
 refine ⟨_,rfl,p,dx,_,rfl,s0A _ _ hp,eJ AV AV,_,rfl,_,_,rfl,rfl,AX,_,_,rfl,rfl,by rw [a6];lia,_,rfl,.inl ⟨_,rfl,bF (BZ bm AV),_,_,rfl,rfl,by rw [a6,a6];lia,p,d,e,ks,js,["first",z,txt m],_,(by rw [e3];rfl),DD _ _,?_,?_,WA.da,U3,.inr ⟨"first",z,[.int m],h,hd,hl,s,0,rfl,AV,AV,W.vh,W.vj,WA.la,W.li,W.sp,W.sm,W.lj,.inl ⟨rfl,m,rfl,fun DB xs' HB ex gB sB fB=>?_⟩⟩⟩⟩
 .intro w hw
  simp only [ax,ah,Bn] at hw
  rcases hw with rfl | rfl | rfl
  .exact W0 _ AV
  .exact W.nz.free
  .exact fM _
 .refine LEN _ (fun w hw=>?_) (by show 3<=4;decide)
  simp only [ax,ah,Bn] at hw
  rcases hw with rfl | rfl | rfl
  .decide +kernel
  .lia
  .lia
 have ex:=ex every pe se
 have s0B:=s0A.trans sB
 have drB:=drz.stay (H':=HB) fun b l q=>sB _ _ q
 have gB2:=sB _ _ gA
 have le:every.length=s.there.length:=by rw [pe.length_eq,lpr]
 have ecut:eK zs none (some (m:Int))=zs.take m:=by
  unfold eK
  rw [HT.sIx_nat]
  show (zs.drop 0).take (min m zs.length-0)=_
  rw [EY,Nat.sub_zero]
  by_cases c:m<=zs.length
  .rw [FQ c]
  .rw [Nat.min_eq_right AX,Co,Ce AX]
 refine ⟨_,rfl,_,rfl,_,rfl,_,rfl,l,zs,rfl,SqL.of gB2,fun sl hsl=>?_⟩
 rw [ecut]
 refine gnew hsl fun HS sS gS=>?_
 refine ⟨sl,rfl,⟨_,SqL.of gS⟩,fun D2 hD2=>?_⟩
 have ltz:(zs.take m).length<=s.there.length:=by rw [BS];lia
 have lte:(zs.take m).length=(every.take m).length:=by rw [BS,BS,le,lzs]
 refine lY (K:=K) (a:=sl) (xs:=zs.take m) (fun i ys HC=>HC D2=some (.lst ys)/\ys=((every.take m).take i).map (fun p=>V.str (mM p))/\Same HS HC) ⟨ad,rfl,aq hD2⟩ (fun i ys HC y=>⟨y.1,SqL.of (y.2.2 _ _ gS)⟩) ?_ ?_
 .rintro i x ys' HC hi ⟨hC,eC,sC⟩
  have li:i<(zs.take m).length:=(Bu.mp hi).1
  have li2:i<(every.take m).length:=by lia
  have li3:i<every.length:=by rw [BS] at li2;lia
  have hi2:zs[i]?=some x:=by
   rw [EL] at hi
   split at hi
   .exact hi
   .cases hi
  obtain ⟨b,rfl,hb⟩:=j4 drB hi2 (bt li3)
  obtain ⟨m1,m2⟩:=W.sm _ (pe.mem_iff.mp (Cj li3))
  have cw:(Str.ofString (toString (every[i]).1)).length<=32:=bR (k:=31) AW m1
  have ly:ys'.length<=i:=by rw [eC,Bh,BS];lia
  refine ⟨b,_,_,rfl,SqT.of (sC _ _ (sS _ _ hb)),?_⟩
  refine cY <| ⟨_,rfl,.inl ⟨_,rfl,bF (BZ m1 AV),_,_,rfl,rfl,AX,_,rfl,_,_,rfl,rfl,by rw [a6];lia,hC,aY AX,_,AX,rfl,AX,ad,?_,fun b' u q=>?_⟩⟩
  .rw [eC,Cz,BL,bt li2,E7]
   rfl
  .rw [ai (ak q hD2)]
   exact sC b' u q
 rintro ys' HC ⟨hC,eC,sC⟩
 rw [lte,Co,<-ex] at eC
 subst eC
 have sBC:=sS.trans sC
 have gC:=sBC _ _ gB
 refine ⟨.lst (SqL.of gC) (SqL.of hC) (AlL.same fun x hx=>by obtain ⟨y,_,rfl⟩:=BF.mp hx;rfl),_,rfl,bL ?_⟩
 have lxs:xs'.length<=s.there.length:=by rw [ex,BS];lia
 refine ⟨_,rfl,.inl ⟨rfl,_,SqL.of gC⟩,DB,_,_,rfl,rfl,gC,aY (by rw [Bh];lia),?_⟩
 refine kQ _ fun b u q=>?_
 have nb:b≠DB:=ak q (s0A.free fB)
 rw [ai nb]
 exact sBC _ _ (s0B _ _ q)
structure Cell where
 (h hd hl st r td:Addr)
 s:LS
def Cell.ft (c:Cell):List Addr:=[c.h,c.hd,c.hl,c.st,c.r,c.td]
structure Dsk where
 (p d e m:Addr)
def Dsk.fx (D:Dsk):List Addr:=[D.p,D.d,D.e,D.m]
structure CellOk (N:List Str)(CL:Addr)(H:Hp)(c:Cell)(z:Str)(n:Nat):Prop where
 la:LateAt CL H c.h c.hd c.hl c.s
 ow:DkAt H c.st c.r c.td c.s c.s.looks
 n1:c.hd≠c.st
 n2:c.hd≠c.td
 n3:c.hl≠c.r
 li:Gm.LInv slt c.s
 sp:c.s.stamp<=n
 sm:Sml c.s.there
 nn:∀p∈prs c.s.there,p.2∈N
 pt:Gm.pot 10 c.s<=70*n
 nz:AbcN z 8
structure SideOk (C:Addr)(H:Hp)(D:Dsk)(f:Str->Option Cell)(n:Nat):Prop where
 dk:∃ ks js ms,ci C H D.p D.d D.e ks js/\H D.m=some (.dK ms)/\(∀z,aX ks (Sum.inr z)=(f z).map fun c=>V.ref c.h)/\(∀z c,f z=some c->aX js (Sum.inr z)=some (.int 0))/\(∀z,aX ms (Sum.inr z)=(f z).map fun c=>V.ref c.st)/\(∀p∈ms,∃ z,p.1=Sum.inr z)/\ks.length<=n/\js.length<=n/\ms.length<=n
 nd:D.fx.Nodup
section
variable {N:List Str}{C CL:Addr}{H H':Hp}{c:Cell}{z:Str}{n n':Nat}{D:Dsk}{f:Str->Option Cell}
theorem CellOk.live (O:CellOk N CL H c z n):∀a∈c.ft,∃ o,H a=some o/\∀l,o≠.tup l:=by
 obtain ⟨dx,h1⟩:=O.la.ob
 obtain ⟨ks,h2,_⟩:=O.la.dc
 obtain ⟨xs,h3,_⟩:=O.la.ls
 obtain ⟨ys,h4,_⟩:=O.ow.hr
 obtain ⟨kt,h5,_⟩:=O.ow.ht
 intro a ha
 simp only [Cell.ft,ax,ah,Bn] at ha
 rcases ha with rfl | rfl | rfl | rfl | rfl | rfl
 .exact ⟨_,h1,fun l z=>nomatch z⟩
 .exact ⟨_,h2,fun l z=>nomatch z⟩
 .exact ⟨_,h3,fun l z=>nomatch z⟩
 .exact ⟨_,O.ow.hs,fun l z=>nomatch z⟩
 .exact ⟨_,h4,fun l z=>nomatch z⟩
 exact ⟨_,h5,fun l z=>nomatch z⟩
theorem CellOk.stay (O:CellOk N CL H c z n)(k:∀a∈c.ft,∀o,H a=some o->H' a=some o)(t:∀b l,H b=some (.tup l)->H' b=some (.tup l))(hn:n<=n'):CellOk N CL H' c z n' :=
 ⟨O.la.stay (fun b o hb e=>k b (by rcases hb with y | y | y <;> rw [y] <;> simp [Cell.ft]) o e) t,O.ow.stay (fun b o hb e=>k b (by rcases hb with y | y | y <;> rw [y] <;> simp [Cell.ft]) o e) t,O.n1,O.n2,O.n3,O.li,A0 O.sp hn,O.sm,O.nn,by have:=O.pt;lia,O.nz⟩
theorem SideOk.live (S:SideOk C H D f n):∀a∈D.fx,∃ o,H a=some o/\∀l,o≠.tup l:=by
 obtain ⟨ks,js,ms,DA,hm,_⟩:=S.dk
 obtain ⟨dx,hp⟩:=DA.ob
 intro a ha
 simp only [Dsk.fx,ax,ah,Bn] at ha
 rcases ha with rfl | rfl | rfl | rfl
 .exact ⟨_,hp,fun l z=>nomatch z⟩
 .exact ⟨_,DA.hd,fun l z=>nomatch z⟩
 .exact ⟨_,DA.hj,fun l z=>nomatch z⟩
 exact ⟨_,hm,fun l z=>nomatch z⟩
theorem SideOk.stay (S:SideOk C H D f n){f':Str->Option Cell}(k:∀a∈D.fx,∀o,H a=some o->H' a=some o)(hn:n<=n')(e1:∀z,(f' z).map (fun c=>V.ref c.h)=(f z).map fun c=>V.ref c.h)(e2:∀z,(f' z).map (fun c=>V.ref c.st)=(f z).map fun c=>V.ref c.st):SideOk C H' D f' n':=by
 obtain ⟨ks,js,ms,DA,hm,a1,a2,a3,a4,l1,l2,l3⟩:=S.dk
 refine ⟨⟨ks,js,ms,⟨DA.ob.imp fun _ e=>k _ (by simp [Dsk.fx]) _ e,k _ (by simp [Dsk.fx]) _ DA.hd,k _ (by simp [Dsk.fx]) _ DA.hj⟩,k _ (by simp [Dsk.fx]) _ hm,fun z=>by rw [a1,e1],fun z c e=>?_,fun z=>by rw [a3,e2],a4,AX,AX,AX⟩,S.nd⟩
 cases q:f z with
 | none =>
  have:=e1 z
  rw [e,q] at this
  cases this
 | some c0=>exact a2 z c0 q
end
def dG (f:Bool->Str->Option Cell)(b:Bool)(z:Str)(c:Cell):Bool->Str->Option Cell:=fun b' z'=>if b'=b/\z'=z then some c else f b' z'
structure Wld (N:List Str)(C CL:Addr)(H0:Hp)(X:List (Addr×HO))(H:Hp)(D:Bool->Dsk)(f:Bool->Str->Option Cell)(n:Nat):Prop where
 side:∀b,SideOk C H (D b) (f b) n
 cell:∀b z c,f b z=some c->CellOk N CL H c z n
 dj:∀b z c b' z' c',f b z=some c->f b' z'=some c'->(b≠b'∨z≠z')->∀a∈c.ft,a∉c'.ft
 bs:∀b z c b',f b z=some c->∀a∈c.ft,a∉(D b').fx
 dd:∀b b',b≠b'->∀a∈(D b).fx,a∉(D b').fx
 s0:Same H0 H
 px:∀p∈X,H p.1=some p.2
 nc:∀b z c,f b z=some c->∀a∈c.ft,H0 a=none/\∀p∈X,p.1≠a
 nf:∀b,∀a∈(D b).fx,H0 a=none/\∀p∈X,p.1≠a
section
variable {N:List Str}{C CL:Addr}{H0 H H':Hp}{X:List (Addr×HO)}{D:Bool->Dsk}{f:Bool->Str->Option Cell}{n n':Nat}
theorem Wld.same (W:Wld N C CL H0 X H D f n)(k:Same H H'):Wld N C CL H0 X H' D f n :=
 ⟨fun b=>(W.side b).stay (fun a _ o e=>k a o e) (A9 _) (fun _=>rfl) fun _=>rfl,fun b z c e=>(W.cell b z c e).stay (fun a _ o e=>k a o e) (fun b l e=>k _ _ e) (A9 _),W.dj,W.bs,W.dd,W.s0.trans k,fun p hp=>k _ _ (W.px p hp),W.nc,W.nf⟩
theorem Wld.step (W:Wld N C CL H0 X H D f n){b:Bool}{c c':Cell}(hc:f b z=some c)(ok:CellOk N CL H' c' z n')(kp:Kept c.ft H H')(fr:∀a o,H a=some o->a∉c.ft->a∉c'.ft)(hn:n<=n')(e1:c'.h=c.h)(e2:c'.st=c.st):Wld N C CL H0 X H' D (dG f b z c') n':=by
 have O:=W.cell b z c hc
 have tk:∀b l,H b=some (.tup l)->H' b=some (.tup l):=fun x l e=>kp x _ e fun m=>by
  obtain ⟨o,h1,h2⟩:=O.live x m
  rw [h1] at e
  cases e
  exact h2 _ rfl
 have get:∀b' z' c2,dG f b z c' b' z'=some c2->(b'=b/\z'=z/\c2=c')∨((b'≠b∨z'≠z)/\f b' z'=some c2):=fun b' z' c2 e=>by
  unfold dG at e
  split at e
  .rename_i q
   cases e
   exact .inl ⟨q.1,q.2,rfl⟩
  .rename_i q
   refine .inr ⟨?_,e⟩
   by_cases y:b'=b
   .exact .inr fun w=>q ⟨y,w⟩
   .exact .inl y
 have off:∀b' z' c2,(b'≠b∨z'≠z)->f b' z'=some c2->∀a∈c2.ft,a∉c'.ft:=fun b' z' c2 ne e a ha=>by
  obtain ⟨o,h1,_⟩:=(W.cell b' z' c2 e).live a ha
  exact fr a o h1 (W.dj _ _ _ _ _ _ e hc ne a ha)
 refine ⟨fun b'=>?_,fun b' z' c2 e=>?_,fun b1 z1 c1 b2 z2 c2 e1 e2 ne a h1 h2=>?_,fun b' z' c2 b2 e a ha hx=>?_,W.dd,fun a o e=>kp a o (W.s0 a o e) (fun m=>by rw [(W.nc _ _ _ hc a m).1] at e;cases e),fun p hp=>kp _ _ (W.px p hp) fun m=>(W.nc _ _ _ hc _ m).2 p hp rfl,fun b' z' c2 e a ha=>?_,W.nf⟩
 .have mp:∀(g:Cell->V),g c'=g c->∀z',(dG f b z c' b' z').map g=(f b' z').map g:=fun g eg z'=>by
   unfold dG
   split
   .rename_i q
    rw [q.1,q.2,hc]
    exact congrArg some eg
   .rfl
  refine (W.side b').stay (fun a ha o e=>kp a o e fun m=>W.bs b z c b' hc a m ha) hn (mp _ (by rw [e1])) (mp _ (by rw [e2]))
 .rcases get _ _ _ e with ⟨rfl,rfl,rfl⟩ | ⟨ne,e⟩
  .exact ok
  .exact (W.cell _ _ _ e).stay (fun a ha o q=>kp a o q (W.dj _ _ _ _ _ _ e hc ne a ha)) tk hn
 .rcases get _ _ _ e1 with ⟨rfl,rfl,rfl⟩ | ⟨n1,q1⟩ <;> rcases get _ _ _ e2 with ⟨rfl,rfl,rfl⟩ | ⟨n2,q2⟩
  .rcases ne with y | y <;> exact y rfl
  .exact off _ _ _ n2 q2 a h2 h1
  .exact off _ _ _ n1 q1 a h1 h2
  .exact W.dj _ _ _ _ _ _ q1 q2 ne a h1 h2
 .rcases get _ _ _ e with ⟨rfl,rfl,rfl⟩ | ⟨ne,e⟩
  .obtain ⟨o,h1,_⟩:=(W.side b2).live a hx
   exact fr a o h1 (fun m=>W.bs _ _ _ b2 hc a m hx) ha
  .exact W.bs _ _ _ b2 e a ha hx
 rcases get _ _ _ e with ⟨rfl,rfl,rfl⟩ | ⟨ne,e⟩
 .constructor
  .cases q:H0 a with
   | none=>rfl
   | some o=>exact absurd ha (fr a o (W.s0 a o q) fun m=>by rw [(W.nc _ _ _ hc a m).1] at q;cases q)
  .rintro p hp rfl
   exact fr _ _ (W.px p hp) (fun m=>(W.nc _ _ _ hc _ m).2 p hp rfl) ha
 exact W.nc _ _ _ e a ha
theorem Wld.begin (W:Wld N C CL H0 X H D f n){b:Bool}{c':Cell}(ok:CellOk N CL H' c' z n')(sd:SideOk C H' (D b) (dG f b z c' b) n')(kp:Kept [(D b).d,(D b).e,(D b).m] H H')(fr:∀a o,H a=some o->a∉c'.ft)(hn:n<=n'):Wld N C CL H0 X H' D (dG f b z c') n':=by
 have ix:∀a,a∈[(D b).d,(D b).e,(D b).m]->a∈(D b).fx:=fun a ha=>by
  simp only [Dsk.fx,ax,ah,Bn] at ha ⊢
  exact .inr ha
 have tk:∀b l,H b=some (.tup l)->H' b=some (.tup l):=fun x l e=>kp x _ e fun m=>by
  obtain ⟨o,h1,h2⟩:=(W.side b).live x (ix x m)
  rw [h1] at e
  cases e
  exact h2 _ rfl
 have get:∀b' z' c2,dG f b z c' b' z'=some c2->(b'=b/\z'=z/\c2=c')∨((b'≠b∨z'≠z)/\f b' z'=some c2):=fun b' z' c2 e=>by
  unfold dG at e
  split at e
  .rename_i q
   cases e
   exact .inl ⟨q.1,q.2,rfl⟩
  .rename_i q
   refine .inr ⟨?_,e⟩
   by_cases y:b'=b
   .exact .inr fun w=>q ⟨y,w⟩
   .exact .inl y
 have off:∀b' z' c2,f b' z'=some c2->∀a∈c2.ft,a∉c'.ft:=fun b' z' c2 e a ha=>by
  obtain ⟨o,h1,_⟩:=(W.cell b' z' c2 e).live a ha
  exact fr a o h1
 refine ⟨fun b'=>?_,fun b' z' c2 e=>?_,fun b1 z1 c1 b2 z2 c2 e1 e2 ne a h1 h2=>?_,fun b' z' c2 b2 e a ha hx=>?_,W.dd,fun a o e=>kp a o (W.s0 a o e) (fun m=>by rw [(W.nf b a (ix a m)).1] at e;cases e),fun p hp=>kp _ _ (W.px p hp) fun m=>(W.nf b _ (ix _ m)).2 p hp rfl,fun b' z' c2 e a ha=>?_,W.nf⟩
 .by_cases y:b'=b
  .subst y
   exact sd
  .have es:dG f b z c' b'=f b':=funext fun z'=>Bc fun q=>y q.1
   rw [es]
   exact (W.side b').stay (fun a ha o e=>kp a o e fun m=>W.dd b b' (Cm y) a (ix a m) ha) hn (fun _=>rfl) fun _=>rfl
 .rcases get _ _ _ e with ⟨rfl,rfl,rfl⟩ | ⟨ne,e⟩
  .exact ok
  .exact (W.cell _ _ _ e).stay (fun a ha o q=>kp a o q (fun m=>W.bs _ _ _ b e a ha (ix a m))) tk hn
 .rcases get _ _ _ e1 with ⟨rfl,rfl,rfl⟩ | ⟨n1,q1⟩ <;> rcases get _ _ _ e2 with ⟨rfl,rfl,rfl⟩ | ⟨n2,q2⟩
  .rcases ne with y | y <;> exact y rfl
  .exact off _ _ _ q2 a h2 h1
  .exact off _ _ _ q1 a h1 h2
  .exact W.dj _ _ _ _ _ _ q1 q2 ne a h1 h2
 .rcases get _ _ _ e with ⟨rfl,rfl,rfl⟩ | ⟨ne,e⟩
  .obtain ⟨o,h1,_⟩:=(W.side b2).live a hx
   exact fr a o h1 ha
  .exact W.bs _ _ _ b2 e a ha hx
 rcases get _ _ _ e with ⟨rfl,rfl,rfl⟩ | ⟨ne,e⟩
 .constructor
  .cases q:H0 a with
   | none=>rfl
   | some o=>exact absurd ha (fr a o (W.s0 a o q))
  .rintro p hp rfl
   exact fr _ _ (W.px p hp) ha
 exact W.nc _ _ _ e a ha
end
theorem ju {s:LS}(h:¬ dd.fit s):(ay s dd).1=s/\(match dd with | .put _ _=>(ay s dd).2=.clash | _=>(ay s dd).2=.nothing):=by
 cases dd with
 | put n w =>
  have e:(Gm.dget s.there n).isSome=true:=by
   cases q:Gm.dget s.there n with
   | none=>exact absurd q h
   | some _=>rfl
  unfold ay;dsimp only;rw [Bf e];exact ⟨rfl,rfl⟩
 | drop n =>
  have e:Gm.dget s.there n=none:=Em.mp h
  unfold ay;dsimp only;rw [e];exact ⟨rfl,rfl⟩
 | change n w =>
  have e:Gm.dget s.there n=none:=Em.mp h
  unfold ay;dsimp only;rw [e];exact ⟨rfl,rfl⟩
 | take =>
  have e:s.there=[]:=Em.mp h
  unfold ay;dsimp only;rw [Bf e];exact ⟨rfl,rfl⟩
 | least =>
  have e:s.there=[]:=Em.mp h
  unfold ay;dsimp only;rw [Bf e];exact ⟨rfl,rfl⟩
theorem prs_thW {T:List (Str×En)}{w:Int}{n:Str}:(w,n)∈prs T↔(n,w)∈thW T:=by
 unfold prs thW
 simp only [BF,Fh]
 constructor
 .rintro ⟨p,h,e1,e2⟩;exact ⟨p,h,e2,e1⟩
 rintro ⟨p,h,e1,e2⟩;exact ⟨p,h,e2,e1⟩
theorem uE {s:LS}(I:Gm.LInv slt s)(ok:okD dd)(sm:Sml s.there):Sml (ay s dd).1.there:=by
 rintro ⟨w,n⟩ hp
 rw [prs_thW,iP I] at hp
 have old:(n,w)∈thW s.there->w.natAbs<10 ^ 31/\n.length<=10:=fun h=>sm _ (prs_thW.mpr h)
 have big:∀{v:Int},v.natAbs<10 ^ 30->v.natAbs<10 ^ 31:=fun h=>BZ h AV
 cases dd with
 | put m v =>
  cases e:(ay s (.put m v)).2 <;> rw [e] at hp <;> first | exact old hp | skip
  rcases Gm.dput_mem hp with ⟨e1,e2⟩ | ⟨_,h⟩
  .subst e1 e2;exact ⟨big ok.2,A0 ok.1.hi AW⟩
  .exact old h
 | drop m =>
  cases e:(ay s (.drop m)).2 <;> rw [e] at hp <;> first | exact old hp | exact old (Gm.ddel_mem.mp hp).2
 | change m v =>
  cases e:(ay s (.change m v)).2 <;> rw [e] at hp <;> first | exact old hp | skip
  rcases Gm.dput_mem hp with ⟨e1,e2⟩ | ⟨_,h⟩
  .subst e1 e2;exact ⟨big ok.2,A0 ok.1.hi AW⟩
  .exact old h
 | take =>
  cases e:(ay s .take).2 <;> rw [e] at hp <;> first | exact old hp | exact old (Gm.ddel_mem.mp hp).2
 | least =>
  cases e:(ay s .least).2 <;> rw [e] at hp <;> exact old hp
theorem wE {s:LS}(I:Gm.LInv slt s)(ok:inD N dd)(sm:∀p∈prs s.there,p.2∈N):∀p∈prs (ay s dd).1.there,p.2∈N:=by
 rintro ⟨w,n⟩ hp
 rw [prs_thW,iP I] at hp
 have old:(n,w)∈thW s.there->n∈N:=fun h=>sm _ (prs_thW.mpr h)
 cases dd with
 | put m v =>
  cases e:(ay s (.put m v)).2 <;> rw [e] at hp <;> first | exact old hp | skip
  rcases Gm.dput_mem hp with ⟨e1,e2⟩ | ⟨_,h⟩
  .subst e1;exact ok
  .exact old h
 | drop m =>
  cases e:(ay s (.drop m)).2 <;> rw [e] at hp <;> first | exact old hp | exact old (Gm.ddel_mem.mp hp).2
 | change m v =>
  cases e:(ay s (.change m v)).2 <;> rw [e] at hp <;> first | exact old hp | skip
  rcases Gm.dput_mem hp with ⟨e1,e2⟩ | ⟨_,h⟩
  .subst e1;exact ok
  .exact old h
 | take =>
  cases e:(ay s .take).2 <;> rw [e] at hp <;> first | exact old hp | exact old (Gm.ddel_mem.mp hp).2
 | least =>
  cases e:(ay s .least).2 <;> rw [e] at hp <;> exact old hp
theorem vI {s:LS}(I:Gm.LInv slt s)(sm:∀p∈prs s.there,p.2∈N):s.there.length<=N.length:=by
 have h:=Gm.nodup_len (R:=N) I.nd fun n hn=>by
  obtain ⟨p,hp,e⟩:=BF.mp hn
  rw [<-e]
  exact sm (p.2.w,p.1) (BF.mpr ⟨p,hp,rfl⟩)
 rw [Bh] at h
 exact h
theorem vc {s:LS}(I:Gm.LInv slt s)(st:s.stamp<=800)(h:Gm.pot 10 s<=70*n):Gm.pot 10 (ay s dd).1<=70*((n+1:Nat):Int):=by
 have rl:=I.len
 by_cases f:dd.fit s
 .have p:=tp I f (b:=10) (by have:sx dd<=1:=(by cases dd <;> (simp only [sx];lia));show _<=1024;lia)
  have q:lS 10 dd<=70:=by cases dd <;> (simp only [lS];lia)
  lia
 rw [(ju f).1]
 lia
theorem gv {s:LS}(I:Gm.LInv slt s)(hn:n<=800)(h:Gm.pot 10 s<=70*n):s.looks<10 ^ 30:=by
 have l:=Gm.LInv.le I
 unfold Gm.pot at h
 have:(s.looks:Int)<=56000:=by
  have h2:(0:Int)<=(2*(10:Nat)+2)*((s.row.length:Int)-s.there.length):=Int.mul_nonneg AW AX
  lia
 exact BM (show s.looks<=56000 by lia) AV
section
variable {N:List Str}{C CL:Addr}{H0 H H':Hp}{X:List (Addr×HO)}{D:Bool->Dsk}{f:Bool->Str->Option Cell}{n n':Nat}
theorem Wld.pair (W:Wld N C CL H0 X H D f n)(hN:N.length<=9){b:Bool}{c:Cell}(hc:f b z=some c)(hn:n<=800):∃ ks js,Pair C CL H (D b).p (D b).d (D b).e ks js z c.h c.hd c.hl c.st c.r c.td c.s:=by
 have O:=W.cell b z c hc
 obtain ⟨ks,js,ms,DA,hm,a1,a2,a3,a4,l1,l2,l3⟩:=(W.side b).dk
 refine ⟨ks,js,DA,O.nz,?_,a2 z c hc,O.la,O.ow,O.li,A0 O.sp hn,O.sm,gv O.li hn O.pt,by have:=vI O.li O.nn;lia⟩
 rw [a1,hc]
 rfl
theorem Wld.mono (W:Wld N C CL H0 X H D f n)(hn:n<=n'):Wld N C CL H0 X H D f n' :=
 ⟨fun b=>(W.side b).stay (fun _ _ _ e=>e) hn (fun _=>rfl) fun _=>rfl,fun b z c e=>(W.cell b z c e).stay (fun _ _ _ e=>e) (fun _ _ e=>e) hn,W.dj,W.bs,W.dd,W.s0,W.px,W.nc,W.nf⟩
theorem Wld.start (D:Bool->Dsk)(s0:Same H0 H)(px:∀p∈X,H p.1=some p.2)(sd:∀b,ci C H (D b).p (D b).d (D b).e [] []/\H (D b).m=some (.dK [])/\(D b).fx.Nodup)(dd:∀b b',b≠b'->∀a∈(D b).fx,a∉(D b').fx)(nf:∀b,∀a∈(D b).fx,H0 a=none/\∀p∈X,p.1≠a):Wld N C CL H0 X H D (fun _ _=>none) 0 :=
 ⟨fun b=>⟨⟨[],[],[],(sd b).1,(sd b).2.1,fun _=>rfl,(fun _ _ e=>nomatch e),fun _=>rfl,(fun _ e=>nomatch e),A9 _,A9 _,A9 _⟩,(sd b).2.2⟩,(fun _ _ _ e=>nomatch e),(fun _ _ _ _ _ _ e=>nomatch e),(fun _ _ _ _ e=>nomatch e),dd,s0,px,(fun _ _ _ e=>nomatch e),nf⟩
theorem ua {k:Key}{v:V}{p:Key×V}(h:p∈a8 ms k v):p.1=k∨p∈ms:=by
 unfold a8 at h
 split at h
 .obtain ⟨q,hq,e⟩:=BF.mp h
  split at e
  .rename_i y
   rw [<-e]
   exact .inl y
  .rw [<-e]
   exact .inr hq
 rcases BG.mp h with y | y
 .exact .inr y
 rw [AZ y]
 exact .inl rfl
theorem Wld.begun (W:Wld N C CL H0 X H D f n)(hn:n<=800){b:Bool}(nz:AbcN z 8){sk:Nat}{st r:Addr}{H1:Hp}(f1:H st=none)(f2:H r=none)(f3:H td=none)(O:DkAt H1 st r td (Gm.newL sk) 0)(s1:Same H H1)(hm:H (D b).m=some (.dK ms))(DA:ci C H (D b).p (D b).d (D b).e ks js){h hd hl:Addr}(B:ye C CL (upd H1 (D b).m (.dK (a8 ms (Sum.inr z) (.ref st)))) H' (D b).p (D b).d (D b).e ks js z sk h hd hl):Wld N C CL H0 X H' D (dG f b z ⟨h,hd,hl,st,r,td,Gm.newL sk⟩) (n+1):=by
 have S:=W.side b
 obtain ⟨ks2,js2,ms2,DA2,hm2,a1,a2,a3,a4,l1,l2,l3⟩:=S.dk
 rw [hm] at hm2
 obtain ⟨ob2,hd2,hj2⟩:=DA2
 rw [DA.hd] at hd2
 cases hd2
 rw [DA.hj] at hj2
 cases hj2
 cases hm2
 have nd:=S.nd
 simp only [Dsk.fx,BP,ax,ah,Bn,Ef,DT,CF,Gj] at nd
 obtain ⟨⟨p1,p2,p3⟩,⟨q1,q2⟩,q3⟩:=nd
 have hm1:=s1 _ _ hm
 have alive:∀a o,H a=some o->∃ o',(upd H1 (D b).m (.dK (a8 ms (Sum.inr z) (.ref st)))) a=some o':=fun a o e=>by
  by_cases y:a=(D b).m
  .rw [y];exact ⟨_,ad⟩
  .exact ⟨o,by rw [ai y];exact s1 _ _ e⟩
 have fr:∀a o,H a=some o->a∉(⟨h,hd,hl,st,r,td,Gm.newL sk⟩:Cell).ft:=fun a o e m=>by
  obtain ⟨o',e'⟩:=alive a o e
  simp only [Cell.ft,ax,ah,Bn] at m
  rcases m with y | y | y | y | y | y
  .rw [y,B.f1] at e';cases e'
  .rw [y,B.f2] at e';cases e'
  .rw [y,B.f3] at e';cases e'
  .rw [y,f1] at e;cases e
  .rw [y,f2] at e;cases e
  .rw [y,f3] at e;cases e
 obtain ⟨xs,hr,rr⟩:=O.hr
 obtain ⟨kt,ht,kr⟩:=O.ht
 have live2:∀a o,H1 a=some o->a≠(D b).m->(upd H1 (D b).m (.dK (a8 ms (Sum.inr z) (.ref st)))) a=some o:=fun a o e y=>by rw [ai y];exact e
 have nst:st≠(D b).m:=fun y=>by rw [y,hm] at f1;cases f1
 have nr:r≠(D b).m:=fun y=>by rw [y,hm] at f2;cases f2
 have ntd:td≠(D b).m:=fun y=>by rw [y,hm] at f3;cases f3
 have kp2:∀a o,H1 a=some o->a≠(D b).m->a≠(D b).d->a≠(D b).e->H' a=some o:=fun a o e y1 y2 y3=>B.kp a o (live2 a o e y1) (by simp only [ax,ah,Bn,Ef];exact ⟨y2,y3⟩)
 have tk:∀a l,H1 a=some (.tup l)->H' a=some (.tup l):=fun a l e=>kp2 a _ e (aU e hm1 (by intro y;cases y)) (aU e (s1 _ _ DA.hd) (by intro y;cases y)) (aU e (s1 _ _ DA.hj) (by intro y;cases y))
 have OW:DkAt H' st r td (Gm.newL sk) 0:=O.stay (fun a o ha e=>by
  have g:∀x o,H x=some o->a≠x:=fun x o e2 y=>by
   rcases ha with w | w | w
   .rw [w] at y;rw [<-y,f1] at e2;cases e2
   .rw [w] at y;rw [<-y,f2] at e2;cases e2
   .rw [w] at y;rw [<-y,f3] at e2;cases e2
  exact kp2 a o e (g _ _ hm) (g _ _ DA.hd) (g _ _ DA.hj)) tk
 refine W.begin (c':=⟨h,hd,hl,st,r,td,Gm.newL sk⟩) ⟨B.la,OW,?_,?_,?_,Gm.new_inv,BK _,(fun p hp=>nomatch hp),(fun p hp=>nomatch hp),?_,nz⟩ ⟨⟨_,_,a8 ms (Sum.inr z) (.ref st),B.da,?_,fun z'=>?_,fun z' c e=>?_,fun z'=>?_,fun p hp=>?_,?_,?_,?_⟩,S.nd⟩ (fun a o e m=>?_) fr (Ci _)
 .intro y
  exact ak (live2 _ _ O.hs nst) B.f2 y.symm
 .intro y
  exact ak (live2 _ _ ht ntd) B.f2 y.symm
 .intro y
  exact ak (live2 _ _ hr nr) B.f3 y.symm
 .show (((0:Nat):Int)+(2*(10:Nat)+2)*(((0:Nat):Int)-((0:Nat):Int)))<=70*((n+1:Nat):Int)
  lia
 .exact B.kp _ _ ad (by simp only [ax,ah,Bn,Ef];exact ⟨Cm q2,Cm q3⟩)
 .rw [iK]
  unfold dG
  by_cases y:z'=z
  .rw [Bf (by rw [y]),Bf ⟨rfl,y⟩]
   rfl
  .rw [Bc (fun w=>y (Cf w)),Bc (fun w=>y w.2)]
   exact a1 z'
 .rw [iK]
  unfold dG at e
  by_cases y:z'=z
  .rw [Bf (by rw [y])]
  .rw [Bc (fun w=>y w.2)] at e
   rw [Bc (fun w=>y (Cf w))]
   exact a2 z' c e
 .rw [iK]
  unfold dG
  by_cases y:z'=z
  .rw [Bf (by rw [y]),Bf ⟨rfl,y⟩]
   rfl
  .rw [Bc (fun w=>y (Cf w)),Bc (fun w=>y w.2)]
   exact a3 z'
 .rcases ua hp with y | y
  .exact ⟨z,y⟩
  .exact a4 p y
 .exact A0 (bS _ _ _) (Cu l1)
 .exact A0 (bS _ _ _) (Cu l2)
 .exact A0 (bS _ _ _) (Cu l3)
 simp only [ax,ah,Bn,Ef] at m
 exact kp2 a o (s1 _ _ e) m.2.2 m.1 m.2.1
theorem Pair.stay {h hd hl st r m:Addr}{s:LS}(W:Pair C CL H p d e ks js z h hd hl st r td s)(hm:∀l,H m≠some (.tup l))(nm:m∉[p,d,e,h,hd,hl,st,r,td])(k:∀b u,H b=some u->b≠m->H' b=some u):Pair C CL H' p d e ks js z h hd hl st r td s:=by
 simp only [ax,ah,Bn,Ef] at nm
 obtain ⟨m1,m2,m3,m4,m5,m6,m7,m8,m9⟩:=nm
 have t:∀b l,H b=some (.tup l)->H' b=some (.tup l):=fun b l e=>k b _ e fun y=>hm l (by rw [<-y];exact e)
 exact ⟨⟨W.da.ob.imp fun _ e=>k _ _ e (Cm m1),k _ _ W.da.hd (Cm m2),k _ _ W.da.hj (Cm m3)⟩,W.nz,W.vh,W.vj,W.la.stay (fun b o hb e=>k b o e (by rcases hb with y | y | y <;> rw [y] <;> first | exact Cm m4 | exact Cm m5 | exact Cm m6)) t,W.ow.stay (fun b o hb e=>k b o e (by rcases hb with y | y | y <;> rw [y] <;> first | exact Cm m7 | exact Cm m8 | exact Cm m9)) t,W.li,W.sp,W.sm,W.lk,W.ts⟩
end
theorem uN (FO:gZ K forms)(n:AbcN z 8)(hm:((m:Nat):Int).natAbs<10 ^ 30):Und K forms ks ["heap",z,txt m] [.str "heap",.str z,.int m] :=
 db FO (kinds:=["word","name","count"]) AV (.cons .word (.cons (ko n) (.cons (.count (gO hm) AX) .nil))) (by show 2<=10;decide) AV
theorem aW {k k':Str}{v:Addr}{l:List (Str×Addr)}(h:(k == k')=false):((k',v)::l).lookup k=l.lookup k:=by rw [Cb,h]
theorem cR {k:Str}{v:Addr}{l:List (Str×Addr)}:((k,v)::l).lookup k=some v:=by rw [Cb];simp
theorem vA {q0 q1 q2 q3 q4 q5 q6 q7 q8 q9:Addr}{n0 n1 n2 n3 n4 n5 n6 n7 n8 n9:Nat}{a00 a01 a02 a10 a11 a12 a13 a20 a21 a22 a30 a31 a32 a33 a40 a41 a50 a51 a60 a61 a62 a70 a71 a72 a80 a81 a90 a91:Tok}(h0:K.lookup q0=some { cls:=.type "tuple",data:=.seq #[.str "word" a00,.str "name" a01,.str "count" a02] n0 })(h1:K.lookup q1=some { cls:=.type "tuple",data:=.seq #[.str "word" a10,.str "heap" a11,.str "name" a12,.str "number" a13] n1 })(h2:K.lookup q2=some { cls:=.type "tuple",data:=.seq #[.str "word" a20,.str "heap" a21,.str "name" a22] n2 })(h3:K.lookup q3=some { cls:=.type "tuple",data:=.seq #[.str "word" a30,.str "heap" a31,.str "name" a32,.str "number" a33] n3 })(h4:K.lookup q4=some { cls:=.type "tuple",data:=.seq #[.str "word" a40,.str "heap" a41] n4 })(h5:K.lookup q5=some { cls:=.type "tuple",data:=.seq #[.str "word" a50,.str "heap" a51] n5 })(h6:K.lookup q6=some { cls:=.type "tuple",data:=.seq #[.str "word" a60,.str "heap" a61,.str "count" a62] n6 })(h7:K.lookup q7=some { cls:=.type "tuple",data:=.seq #[.str "word" a70,.str "heap" a71,.str "heap" a72] n7 })(h8:K.lookup q8=some { cls:=.type "tuple",data:=.seq #[.str "word" a80,.str "heap" a81] n8 })(h9:K.lookup q9=some { cls:=.type "tuple",data:=.seq #[.str "word" a90,.str "heap" a91] n9 }):
  gZ K [("heap",q0),("put",q1),("drop",q2),("change",q3),("take",q4),("least",q5),("first",q6),("join",q7),("room",q8),("works",q9)]:=by
 intro p hp
 simp only [nO,ax,ah,Bn] at hp
 rcases hp with rfl | rfl | rfl | rfl | rfl | rfl | rfl | rfl | rfl | rfl
 .exact ⟨q0,by exact cR,fun H=>.inr ⟨_,_,_,h0,rfl,rfl,sz3,(.cons ⟨a00,rfl⟩ (.cons ⟨a01,rfl⟩ (.cons ⟨a02,rfl⟩ .nil)))⟩⟩
 .exact ⟨q1,by rw [aW AV];exact cR,fun H=>.inr ⟨_,_,_,h1,rfl,rfl,sz4,(.cons ⟨a10,rfl⟩ (.cons ⟨a11,rfl⟩ (.cons ⟨a12,rfl⟩ (.cons ⟨a13,rfl⟩ .nil))))⟩⟩
 .exact ⟨q2,by rw [aW AV];rw [aW AV];exact cR,fun H=>.inr ⟨_,_,_,h2,rfl,rfl,sz3,(.cons ⟨a20,rfl⟩ (.cons ⟨a21,rfl⟩ (.cons ⟨a22,rfl⟩ .nil)))⟩⟩
 .exact ⟨q3,by rw [aW AV];rw [aW AV];rw [aW AV];exact cR,fun H=>.inr ⟨_,_,_,h3,rfl,rfl,sz4,(.cons ⟨a30,rfl⟩ (.cons ⟨a31,rfl⟩ (.cons ⟨a32,rfl⟩ (.cons ⟨a33,rfl⟩ .nil))))⟩⟩
 .exact ⟨q4,by rw [aW AV];rw [aW AV];rw [aW AV];rw [aW AV];exact cR,fun H=>.inr ⟨_,_,_,h4,rfl,rfl,sz2,(.cons ⟨a40,rfl⟩ (.cons ⟨a41,rfl⟩ .nil))⟩⟩
 .exact ⟨q5,by rw [aW AV];rw [aW AV];rw [aW AV];rw [aW AV];rw [aW AV];exact cR,fun H=>.inr ⟨_,_,_,h5,rfl,rfl,sz2,(.cons ⟨a50,rfl⟩ (.cons ⟨a51,rfl⟩ .nil))⟩⟩
 .exact ⟨q6,by rw [aW AV];rw [aW AV];rw [aW AV];rw [aW AV];rw [aW AV];rw [aW AV];exact cR,fun H=>.inr ⟨_,_,_,h6,rfl,rfl,sz3,(.cons ⟨a60,rfl⟩ (.cons ⟨a61,rfl⟩ (.cons ⟨a62,rfl⟩ .nil)))⟩⟩
 .exact ⟨q7,by rw [aW AV];rw [aW AV];rw [aW AV];rw [aW AV];rw [aW AV];rw [aW AV];rw [aW AV];exact cR,fun H=>.inr ⟨_,_,_,h7,rfl,rfl,sz3,(.cons ⟨a70,rfl⟩ (.cons ⟨a71,rfl⟩ (.cons ⟨a72,rfl⟩ .nil)))⟩⟩
 .exact ⟨q8,by rw [aW AV];rw [aW AV];rw [aW AV];rw [aW AV];rw [aW AV];rw [aW AV];rw [aW AV];rw [aW AV];exact cR,fun H=>.inr ⟨_,_,_,h8,rfl,rfl,sz2,(.cons ⟨a80,rfl⟩ (.cons ⟨a81,rfl⟩ .nil))⟩⟩
 exact ⟨q9,by rw [aW AV];rw [aW AV];rw [aW AV];rw [aW AV];rw [aW AV];rw [aW AV];rw [aW AV];rw [aW AV];rw [aW AV];exact cR,fun H=>.inr ⟨_,_,_,h9,rfl,rfl,sz2,(.cons ⟨a90,rfl⟩ (.cons ⟨a91,rfl⟩ .nil))⟩⟩
theorem ol {d1:ClassData}{b1:Bool}(x1:W.subIn K (.ref CC) (.type "BaseException")=some true)(c1:W.clsIn K CC=some d1)(t1:W.typeIn K (.ref CC)=some (.type "type"))(s1:W.subIn K (.ref C) (.ref CC)=some b1):W.exmOne K (.ref C) (.ref CC)=some b1:=by
 unfold W.exmOne;rw [x1,Bf AW];unfold W.kitCls;dsimp only;rw [c1,t1,Bf AY];exact s1
abbrev iW:Stmt:=top 53
theorem xT:au ["script","desks","heaps","names","k","draw","side","called","slack","heap","deed","due"] ["script"] (ao iW):=fs0
def pV (K:W.Frag):Sp:=fun vs H Q _=>∃ (a:Addr) (ns:List Int),vs=[.ref a]/\SqL K H a (ns.map V.int)/\ns.length<=63/\∀H',Q (.bl true) H'
theorem zj {fI a_law_draw a_law_word a_law_new a_law_some_deed a_law_deed a_law_due a_law_line a_law_told a_law_all_right:Addr}{fdI f_law_draw f_law_word f_law_new f_law_some_deed f_law_deed f_law_due f_law_line f_law_told f_law_all_right:FuncData}(F:Fun K "law" "law" iW f fd)(T:Bl mg)(z_str:mg "str"=none)(L:DK K C)(FO:gZ K forms)(mDesk:mg "Desk"=some (.ref C))(MkDesk:Mk K C fI)(GDesk__init__:av P w K mg base CX0 1 fI fdI ["self"] (qB C))(BDesk__init__:Binds K fdI ["self"] [])(Mask:bx K C "ask" fa)(Gask:av P w K mg base (CXe P w) 9 fa fda ["self","line"] (oZ K forms C CL CC CN))(Bask:Binds K fda ["self","line"] [])(G_law_draw:av P w K mg base CX0 1 a_law_draw f_law_draw ["script","k"] (fY K))(D_law_draw:Nm K mg "_law_draw" a_law_draw f_law_draw ["script","k"])(G_law_word:av P w K mg base CX0 2 a_law_word f_law_word ["script","i"] (oH K))(D_law_word:Nm K mg "_law_word" a_law_word f_law_word ["script","i"])(G_law_new:av P w K mg base CX0 1 a_law_new f_law_new ["slack"] uf)(D_law_new:Nm K mg "_law_new" a_law_new f_law_new ["slack"])(G_law_some_deed:av P w K mg base CX0 3 a_law_some_deed f_law_some_deed ["script","k","heap"] (qo K))(D_law_some_deed:Nm K mg "_law_some_deed" a_law_some_deed f_law_some_deed ["script","k","heap"])(G_law_deed:av P w K mg base CX0 4 a_law_deed f_law_deed ["heap","deed"] qI)(D_law_deed:Nm K mg "_law_deed" a_law_deed f_law_deed ["heap","deed"])(G_law_due:av P w K mg base CX0 1 a_law_due f_law_due ["found"] (uC K))(D_law_due:Nm K mg "_law_due" a_law_due f_law_due ["found"])(G_law_line:av P w K mg base CX0 1 a_law_line f_law_line ["called","deed"] pK)(D_law_line:Nm K mg "_law_line" a_law_line f_law_line ["called","deed"])(G_law_told:av P w K mg base CX0 10 a_law_told f_law_told ["desk","line"] (qC K C CL))(D_law_told:Nm K mg "_law_told" a_law_told f_law_told ["desk","line"])(G_law_all_right:av P w K mg base CX0 10 a_law_all_right f_law_all_right ["script","desk","called","heap","k"] (tK K C CL))(D_law_all_right:Nm K mg "_law_all_right" a_law_all_right f_law_all_right ["script","desk","called","heap","k"]):
  av P w K mg base CX0 11 f fd ["script"] (pV K):=by
 have sc:=xT
 refine F.okQ xT fun cdv A outer s_ H vs Q E hr h=>?_
 obtain ⟨a,ns,rfl,hS,hn,kQ⟩:=h
 have hu:=hr.units0
 have hu1:=hr.u100
 refine ⟨_,(ac (qst 1 sc.nd (bn (aa (mf MkDesk GDesk__init__ hr.mo rfl mDesk BDesk__init__ .nil aG ) (aa (mf MkDesk GDesk__init__ hr.mo rfl mDesk BDesk__init__ .nil aG ) ag))))
  (ac (qst 2 sc.nd (bn (aa cG (aa cG ag))))
  (ac (nC (i:=3) sc.nd rfl (Or.inl rfl) (Blk.of (N:=["script","desks","heaps","names","k","draw","side","called","slack","heap","deed","due"]) (esc:=ao iW) (NB:=["script"]) (cap:=[0]) rfl rfl (fun y hy=>bM hy) rfl AV AV AV rfl AV rfl AV) rfl rfl (cW rfl T.z_range (aa af ag)) (fun C fp s₀ H₀=>dR) (fun C fp s₀ H₀=>(qcl G_law_word hr D_law_word aG (aa (qv 1) (aa (qv 0) ag)))))
  (ac (eT BW rfl (cW rfl T.z_range (aa (ap aQ af (ap aZ (qcl G_law_draw hr D_law_draw aG (aa (qv 0) (aa af ag))) af)) ag)) (cX (i:=4) sc.nd rfl (Or.inl rfl)) (ac (qst 5 sc.nd (qcl G_law_draw hr D_law_draw aG (aa (qv 0) (aa (ap aQ af (qv 4)) ag))))
  (ac (qst 6 sc.nd (ap cz (ap aZ (qv 5) af) (qcT i8 T.z_int (aa (eA bz (ap aZ (qcl G_law_draw hr D_law_draw aG (aa (qv 0) (aa af ag))) af) af (aE _)) ag))))
  (ac (qst 7 sc.nd (aD aK (qv 3) (ap aZ (ap bc (qv 5) af) (ap aQ af (ap aZ (qcl G_law_draw hr D_law_draw aG (aa (qv 0) (aa af ag))) af))) pix))
  (ac (nT (wW (QW.pt (qD (gp (aS hr) (qv 7) (aD aK (qv 2) (qv 6) pix)) (jX (aw bz (ap aZ (ap bc (qv 5) af) af) af (aE _)))))) (ac (qst 8 sc.nd (aD aK (bn (gq (vs:=[.int 0,.int 1,.int 3,.int 10,.int 200]) AV)) (ap aZ (ap bc (qv 5) af) af) pix))
  (ac (b9 (aS hr) (aD aK (qv 2) (qv 6) pix) (qv 7) (qcl G_law_new hr D_law_new aG (aa (qv 8) ag)) rfl)
  (aj (aR (aw (fA hu1) (bd (aD aK (qv 1) (qv 6) pix) L.cl Mask Gask hr.mo Bask .nil gW (aa (ap bf (ap bf (ap bf ar (qv 7)) ar) (qcT bp z_str (aa (qv 8) ag))) ag)) (bn ag) (aE _)) (aj (aA gu)) aB)))) aB)
  (ac (qst 9 sc.nd (aN (aS hr) (aD aK (qv 2) (qv 6) pix) (qv 7) pix))
  (ac (qst 10 sc.nd (qcl G_law_some_deed hr D_law_some_deed aG (aa (qv 0) (aa (qv 4) (aa (qv 9) ag)))))
  (ac (sU (qst 11 sc.nd (qcl G_law_due hr D_law_due aG (aa (qcl G_law_deed hr D_law_deed aG (aa (qv 9) (aa (qv 10) ag))) ag))))
  (ac (nT (aw (fA hu1) (qcl G_law_told hr D_law_told aG (aa (aD aK (qv 1) (qv 6) pix) (aa (qcl G_law_line hr D_law_line aG (aa (qv 7) (aa (qv 10) ag))) ag))) (qv 11) (aE _)) (aj (aA gu)) aB)
  (aj (aR (cI (bY (qcl G_law_all_right hr D_law_all_right aG (aa (qv 0) (aa (aD aK (qv 1) (qv 6) pix) (aa (qv 7) (aa (qv 9) (aa (qv 4) ag)))))))) (aj (aA gu)) aB)))))))))))
  (ac (eT BW rfl (cW rfl T.z_range (aa af ag)) (cX (i:=6) sc.nd rfl (Or.inl rfl)) (aj (wH (eT BW rfl (xL (aD aK (qv 2) (qv 6) pix)) (cX (i:=7) sc.nd rfl (Or.inl rfl)) (aj (aR (cI (bY (qcl G_law_all_right hr D_law_all_right aG (aa (qv 0) (aa (aD aK (qv 1) (qv 6) pix) (aa (qv 7) (aa (aN (aS hr) (aD aK (qv 2) (qv 6) pix) (qv 7) pix) (aa af ag)))))))) (aj (aA gu)) aB))))))
  (aj (aA gu))))))),?_⟩
 have t1:∀{H':Hp},Same H H'->SqL K H' a (ns.map V.int):=fun k=>SqL.same' hS k
 refine fun p0 dx0 hp0 hdx0 ndx0=>⟨p0,dx0,rfl,ad,fun d0 e0 H1 hd0 he0 nde0 DA0 k0=>⟨rfl,?_⟩⟩
 have s1:Same H H1:=fQ hp0 hdx0 k0
 have fd0:H d0=none:=cu hd0
 have fe0:H e0=none:=cu he0
 refine fun p1 dx1 hp1 hdx1 ndx1=>⟨p1,dx1,rfl,ad,fun d1 e1 H2 hd1 he1 nde1 DA1 k1=>⟨rfl,?_⟩⟩
 have s2:Same H1 H2:=fQ hp1 hdx1 k1
 have fd1:H1 d1=none:=cu hd1
 have fe1:H1 e1=none:=cu he1
 refine ⟨sz2,fun La hLa=>?_⟩
 refine gnew hLa fun H3 s3 g3=>?_
 refine fun m0 hm0=>?_
 refine gnew hm0 fun H4 s4 g4=>?_
 refine fun m1 hm1=>?_
 refine gnew hm1 fun H5 s5 g5=>?_
 refine ⟨sz2,fun Lb hLb=>?_⟩
 refine gnew hLb fun H6 s6 g6=>?_
 have s06:Same H H6:=((((s1.trans s2).trans s3).trans s4).trans s5).trans s6
 refine ⟨_,rfl,AW,AW,fun Lc hLc=>?_⟩
 refine gt (lo:=0) (n:=3) (fun i ys HX=>HX Lc=some (.lst ys)/\(∃ zs:List Str,ys=zs.map V.str/\(∀z∈zs,AbcN z 8)/\zs.length=i)/\Same H6 HX) ⟨ad,⟨[],rfl,(fun _ e=>nomatch e),rfl⟩,aq hLc⟩ (fun i ys HX z=>z.1) ?_ ?_
 .rintro i ys HX hi ⟨h1,⟨zs,rfl,az,lz⟩,sX⟩
  refine cY <| ⟨_,rfl,_,rfl,a,ns,0+(i:Int),rfl,t1 (s06.trans sX),hn,AX,AX,fun z HY _ nz sY=>⟨sY _ _ h1,aY (by rw [Bh];lia),_,AX,rfl,AX,ad,⟨zs++[z],by rw [BL];rfl,fun w hw=>?_,by rw [Bi];show zs.length+1=i+1;lia⟩,fun b u e=>?_⟩⟩
  .rcases BG.mp hw with y | y
   .exact az w y
   .rw [AZ y];exact nz
  .rw [ai (ak e hLc)]
   exact sY _ _ (sX _ _ e)
 rintro ys H7 ⟨g7,⟨zs,rfl,az,lz⟩,s7⟩
 have s07:=s06.trans s7
 obtain ⟨D,eD⟩:∃ D:Bool->Dsk,D=fun b=>if b=true then ⟨p1,d1,e1,m1⟩ else ⟨p0,d0,e0,m0⟩:=⟨_,rfl⟩
 have W0:Wld (cF ns) C CL H [(La,.lst [.ref (D false).p,.ref (D true).p]),(Lb,.lst [.ref (D false).m,.ref (D true).m]),(Lc,.lst (zs.map V.str))] H7 D (fun _ _=>none) 0:=by
  obtain ⟨x0,u0⟩:=DA0.ob
  obtain ⟨x1,u1⟩:=DA1.ob
  have t12:=s2
  have t13:=s2.trans s3
  have t14:=t13.trans s4
  have t15:=t14.trans s5
  have t16:=t15.trans s6
  have t17:=t16.trans s7
  have r23:=s3
  have r24:=s3.trans s4
  have r25:=r24.trans s5
  have r26:=r25.trans s6
  have r27:=r26.trans s7
  have c46:=s5.trans s6
  have c47:=c46.trans s7
  have h0:∀x o,H1 x=some o->x≠p1/\x≠d1/\x≠e1/\x≠La/\x≠m0/\x≠m1/\x≠Lb/\x≠Lc:=fun x o q=>⟨ak q hp1,ak q fd1,ak q fe1,ak (t12 _ _ q) hLa,ak (t13 _ _ q) hm0,ak (t14 _ _ q) hm1,ak (t15 _ _ q) hLb,ak (t16 _ _ q) hLc⟩
  have h1:∀x o,H2 x=some o->x≠La/\x≠m0/\x≠m1/\x≠Lb/\x≠Lc:=fun x o q=>⟨ak q hLa,ak (r23 _ _ q) hm0,ak (r24 _ _ q) hm1,ak (r25 _ _ q) hLb,ak (r26 _ _ q) hLc⟩
  obtain ⟨A1,A2,A3,A4,A5,A6,A7,A8⟩:=h0 _ _ u0
  obtain ⟨B1,B2,B3,B4,B5,B6,B7,B8⟩:=h0 _ _ DA0.hd
  obtain ⟨C1,C2,C3,C4,C5,C6,C7,C8⟩:=h0 _ _ DA0.hj
  obtain ⟨E1,E2,E3,E4,E5⟩:=h1 _ _ u1
  obtain ⟨F1,F2,F3,F4,F5⟩:=h1 _ _ DA1.hd
  obtain ⟨G1,G2,G3,G4,G5⟩:=h1 _ _ DA1.hj
  have m01:m0≠m1:=ak g4 hm1
  have am:La≠m0:=ak g3 hm0
  have am1:La≠m1:=ak (s4 _ _ g3) hm1
  have mb:m0≠Lb:=ak (s5 _ _ g4) hLb
  have mb1:m1≠Lb:=ak g5 hLb
  have mc:m0≠Lc:=ak (c46 _ _ g4) hLc
  have mc1:m1≠Lc:=ak (s6 _ _ g5) hLc
  have pd0:p0≠d0:=aU u0 DA0.hd (by intro y;cases y)
  have pe0:p0≠e0:=aU u0 DA0.hj (by intro y;cases y)
  have pd1:p1≠d1:=aU u1 DA1.hd (by intro y;cases y)
  have pe1:p1≠e1:=aU u1 DA1.hj (by intro y;cases y)
  have q1:H p1=none:=s1.free hp1
  have q2:H d1=none:=s1.free fd1
  have q3:H e1=none:=s1.free fe1
  have q4:H m0=none:=((s1.trans s2).trans s3).free hm0
  have q5:H m1=none:=(((s1.trans s2).trans s3).trans s4).free hm1
  subst eD
  refine Wld.start _ s07 (fun x hx=>?_) (fun b=>?_) (fun b b' nb x hx hx'=>?_) (fun b x hx=>⟨?_,fun y hy=>?_⟩)
  .simp only [ax,ah,Bn] at hx
   rcases hx with rfl | rfl | rfl
   .exact s7 _ _ (s6 _ _ (s5 _ _ (s4 _ _ g3)))
   .exact s7 _ _ g6
   .exact g7
  .cases b
   .refine ⟨⟨⟨x0,t17 _ _ u0⟩,t17 _ _ DA0.hd,t17 _ _ DA0.hj⟩,c47 _ _ g4,?_⟩
    show [p0,d0,e0,m0].Nodup
    simp only [BP,ax,ah,Bn,Ef,DT,CF,Gj]
    exact ⟨⟨pd0,pe0,A5⟩,⟨nde0,B5⟩,C5⟩
   .refine ⟨⟨⟨x1,r27 _ _ u1⟩,r27 _ _ DA1.hd,r27 _ _ DA1.hj⟩,s7 _ _ (s6 _ _ g5),?_⟩
    show [p1,d1,e1,m1].Nodup
    simp only [BP,ax,ah,Bn,Ef,DT,CF,Gj]
    exact ⟨⟨pd1,pe1,E3⟩,⟨nde1,F3⟩,G3⟩
  .have cross:∀x,x∈[p0,d0,e0,m0]->x∈[p1,d1,e1,m1]->False:=fun x h1 h2=>by
    simp only [ax,ah,Bn] at h1 h2
    rcases h1 with y | y | y | y <;> rcases h2 with w | w | w | w <;> rw [y] at w
    .exact A1 w
    .exact A2 w
    .exact A3 w
    .exact A6 w
    .exact B1 w
    .exact B2 w
    .exact B3 w
    .exact B6 w
    .exact C1 w
    .exact C2 w
    .exact C3 w
    .exact C6 w
    .exact E2 w.symm
    .exact F2 w.symm
    .exact G2 w.symm
    .exact m01 w
   cases b <;> cases b'
   .exact nb rfl
   .exact cross x hx hx'
   .exact cross x hx' hx
   .exact nb rfl
  .cases b
   .have hx:x∈[p0,d0,e0,m0]:=hx
    simp only [ax,ah,Bn] at hx
    rcases hx with y | y | y | y <;> rw [y] <;> assumption
   .have hx:x∈[p1,d1,e1,m1]:=hx
    simp only [ax,ah,Bn] at hx
    rcases hx with y | y | y | y <;> rw [y] <;> assumption
  .have ly:y.1=La∨y.1=Lb∨y.1=Lc:=by
    simp only [ax,ah,Bn] at hy
    rcases hy with w | w | w <;> rw [w]
    .exact .inl rfl
    .exact .inr (.inl rfl)
    .exact .inr (.inr rfl)
   intro yx
   rw [yx] at ly
   cases b
   .have hx:x∈[p0,d0,e0,m0]:=hx
    simp only [ax,ah,Bn] at hx
    rcases hx with w | w | w | w <;> rw [w] at ly <;> rcases ly with v | v | v
    .exact A4 v
    .exact A7 v
    .exact A8 v
    .exact B4 v
    .exact B7 v
    .exact B8 v
    .exact C4 v
    .exact C7 v
    .exact C8 v
    .exact am v.symm
    .exact mb v
    .exact mc v
   .have hx:x∈[p1,d1,e1,m1]:=hx
    simp only [ax,ah,Bn] at hx
    rcases hx with w | w | w | w <;> rw [w] at ly <;> rcases ly with v | v | v
    .exact E1 v
    .exact E4 v
    .exact E5 v
    .exact F1 v
    .exact F4 v
    .exact F5 v
    .exact G1 v
    .exact G4 v
    .exact G5 v
    .exact am1 v.symm
    .exact mb1 v
    .exact mc1 v
 have eLs:∀sd:Bool,atI [V.ref (D false).p,.ref (D true).p] (if sd=true then 1 else 0)=some (.ref (D sd).p)/\atI [V.ref (D false).m,.ref (D true).m] (if sd=true then 1 else 0)=some (.ref (D sd).m):=fun sd=>by
  cases sd
  .exact ⟨aL (j:=0) rfl,aL (j:=0) rfl⟩
  .exact ⟨aL (j:=1) rfl,aL (j:=1) rfl⟩
 obtain ⟨X,eX⟩:∃ X:List (Addr×HO),X=[(La,.lst [.ref (D false).p,.ref (D true).p]),(Lb,.lst [.ref (D false).m,.ref (D true).m]),(Lc,.lst (zs.map V.str))]:=⟨_,rfl⟩
 rw [<-eX] at W0
 have xa:∀{HX:Hp} {fC:Bool->Str->Option Cell} {n:Nat},Wld (cF ns) C CL H X HX D fC n->HX La=some (.lst [.ref (D false).p,.ref (D true).p])/\HX Lb=some (.lst [.ref (D false).m,.ref (D true).m])/\HX Lc=some (.lst (zs.map V.str)):=fun W=>by
  subst eX
  exact ⟨W.px (La,_) AY,W.px (Lb,_) AY,W.px (Lc,_) AY⟩
 have xin:∃ o,(La,o)∈X:=by subst eX;exact ⟨_,BD ..⟩
 clear eX eD
 have lN:(cF ns).length<=9:=by unfold cF;rw [Bh,Ek];exact A9 _
 refine ⟨_,rfl,a,ns,5,rfl,t1 s07,hn,AW,fun dn H8 _ dn0 dn1 s8=>?_⟩
 have q60:0<=dn % 60:=bh AW
 have q61:dn % 60<60:=be AW
 have W8:=W0.same s8
 obtain ⟨N,eN,N64⟩:∃ N:Nat,5+dn % 60=(N:Int)/\N<=64:=⟨(5+dn % 60).toNat,AX,AX⟩
 refine ⟨_,_,rfl,rfl,(by show (0:Int)<_;decide),_,_,rfl,rfl,_,rfl,by show -2 ^ 62<=5+dn % 60;lia,by show 5+dn % 60<2 ^ 62;lia,?_⟩
 rw [eN,Cc]
 refine dP (lo:=0) (n:=N) (fun i Z HX=>∃ (fC:Bool->Str->Option Cell) (o4 o5 o6 o7 o8 o9 o10 o11:Option V),Z=[some (.ref a),some (.ref La),some (.ref Lb),some (.ref Lc),o4,o5,o6,o7,o8,o9,o10,o11]/\Wld (cF ns) C CL H X HX D fC (2*i)) ⟨fun _ _=>none,none,none,none,none,none,none,none,none,rfl,W8⟩ ?_ ?_
 .rintro i Z HX hi ⟨fC,o4,o5,o6,o7,o8,o9,o10,o11,rfl,W⟩
  refine ⟨_,rfl,_,rfl,_,_,rfl,rfl,a,ns,200+(0+(i:Int)),rfl,t1 W.s0,hn,AX,fun dr HA _ dr0 dr1 sA=>?_⟩
  refine ⟨_,rfl,_,_,rfl,rfl,(by show (0:Int)<_;decide),_,rfl,a,ns,6,rfl,t1 (W.s0.trans sA),hn,AW,fun d6 HB _ _ _ sB=>?_⟩
  refine ⟨_,_,rfl,rfl,(by show (0:Int)<_;decide),rfl,.inr ⟨_,rfl,_,_,rfl,rfl,.inl ⟨?b1,?b2⟩,?_⟩⟩
  case b1=>exact Int.lt_of_lt_of_le AW (bh (b:=2) AW)
  case b2=>exact EU (be (b:=2) AW) AW
  obtain ⟨sd,esd⟩:∃ sd:Bool,(dr % 2)*(if decide (V.int (d6 % 2)=V.int 1)=true then 1 else 0)=(if sd=true then 1 else 0:Int):=by
   have q0:0<=dr % 2:=bh AW
   have q1:dr % 2<2:=be AW
   by_cases c:decide (V.int (d6 % 2)=V.int 1)=true
   .rw [Bf c]
    rcases (show dr % 2=0∨dr % 2=1 by lia) with y | y <;> rw [y]
    .exact ⟨false,rfl⟩
    .exact ⟨true,rfl⟩
   .rw [Bc c,Int.mul_zero]
    exact ⟨false,rfl⟩
  show dE 6 (V.int ((dr % 2)*(if decide (V.int (d6 % 2)=V.int 1)=true then 1 else 0))) _ _ _
  rw [esd]
  obtain ⟨i1,i2⟩:=eLs sd
  have WB:=W.same (sA.trans sB)
  refine ⟨_,rfl,_,rfl,_,_,rfl,rfl,⟨AW,AW⟩,_,rfl,a,ns,7,rfl,t1 WB.s0,hn,AW,fun d7 HC _ _ _ sC=>?_⟩
  have WC:=WB.same sC
  have q70:0<=d7 % 3:=bh AW
  have q71:d7 % 3<3:=be AW
  have q72:0<=dr / 2 % (1+d7 % 3):=bh AX
  have q73:dr / 2 % (1+d7 % 3)<1+d7 % 3:=be AX
  obtain ⟨z,ez,nz⟩:∃ z:Str,atI (zs.map V.str) (dr / 2 % (1+d7 % 3))=some (.str z)/\AbcN z 8:=by
   obtain ⟨m,em⟩:=Dx q72
   have hm:m<zs.length:=by lia
   refine ⟨zs[m],?_,az _ (Cj hm)⟩
   rw [em]
   exact aL (by rw [BH,bt hm];rfl)
  obtain ⟨ga,gb,gc⟩:=xa WC
  refine ⟨_,_,rfl,rfl,(by show (0:Int)<_;decide),_,_,rfl,rfl,_,_,rfl,rfl,(by show (0:Int)<1+d7 % 3;lia),Lc,_,_,_,rfl,rfl,SqL.of gc,ez,?_⟩
  have lz8:=nz.hi
  have l1:(" ":Str).length=1:=by decide +kernel
  have S:1000<=sizeLine:=by decide
  refine ⟨fun σ' H'=>∃ (fD:Bool->Str->Option Cell) (c:Cell) (o8:Option V),σ'=[some (.ref a),some (.ref La),some (.ref Lb),some (.ref Lc),some (.int (0+(i:Int))),some (.int dr),some (.int (if sd=true then 1 else 0)),some (.str z),o8,o9,o10,o11]/\fD sd z=some c/\Wld (cF ns) C CL H X H' D fD (2*i+1),?_,?_⟩
  .obtain ⟨ks,js,ms,DA,hm,a1,a2,a3,a4,k1',k2',k3'⟩:=(WC.side sd).dk
   refine ⟨fun b H'=>HC=H'/\(b=false->∃ c,fC sd z=some c),?_,?_⟩
   .refine ⟨_,rfl,_,rfl,_,rfl,Lb,_,_,_,rfl,rfl,SqL.of gb,i2,(D sd).m,_,rfl,DGet.k (k:=Sum.inr z) hm,_,rfl,?_⟩
    rw [a3]
    cases q:fC sd z with
    | none=>exact iQ ⟨rfl,fun y=>nomatch y⟩
    | some c =>
     refine bL ⟨_,rfl,_,_,rfl,rfl,⟨AW,AW⟩,_,_,rfl,rfl,(by show (0:Int)<_;decide),rfl,_,rfl,rfl,fun _=>⟨c,rfl⟩⟩
   .rintro b H' ⟨rfl,hb⟩
    cases b with
    | false =>
     obtain ⟨c,ec⟩:=hb rfl
     exact bL ⟨fC,c,_,rfl,ec,WC.mono (Ci _)⟩
    | true =>
     refine iQ ?_
     refine ⟨sz5,fun l5 hl5=>?_⟩
     have s5':=aq (o:=.lst [.int 0,.int 1,.int 3,.int 10,.int 200]) hl5
     have g5':=ad (H:=HC) (a:=l5) (o:=.lst [.int 0,.int 1,.int 3,.int 10,.int 200])
     generalize upd HC l5 (.lst [.int 0,.int 1,.int 3,.int 10,.int 200])=HE at s5' g5' ⊢
     obtain ⟨sk,esk,sk2⟩:∃ m:Nat,atI [V.int 0,.int 1,.int 3,.int 10,.int 200] (dr / 512 % 5)=some (.int (m:Int))/\m<=200:=by
      have q0:0<=dr / 512 % 5:=bh AW
      have q1:dr / 512 % 5<5:=be AW
      have cs:dr / 512 % 5=((0:Nat):Int)∨dr / 512 % 5=((1:Nat):Int)∨dr / 512 % 5=((2:Nat):Int)∨dr / 512 % 5=((3:Nat):Int)∨dr / 512 % 5=((4:Nat):Int):=by lia
      rcases cs with y | y | y | y | y <;> rw [y]
      .exact ⟨0,aL rfl,AW⟩
      .exact ⟨1,aL rfl,AW⟩
      .exact ⟨3,aL rfl,AW⟩
      .exact ⟨10,aL rfl,AW⟩
      .exact ⟨200,aL rfl,AW⟩
     refine ⟨_,rfl,_,_,rfl,rfl,⟨AW,AW⟩,_,_,rfl,rfl,(by show (0:Int)<_;decide),l5,_,_,_,rfl,rfl,SqL.of g5',esk,?_⟩
     have WE:=WC.same s5'
     have hmE:=s5' _ _ hm
     have DAE:ci C HE (D sd).p (D sd).d (D sd).e ks js:=⟨DA.ob.imp fun _ x=>s5' _ _ x,s5' _ _ DA.hd,s5' _ _ DA.hj⟩
     refine ⟨_,rfl,sk,rfl,fun st r td HF f1 f2 f3 O sF=>?_⟩
     have nd:=(WC.side sd).nd
     simp only [Dsk.fx,BP,ax,ah,Bn,Ef,DT,CF,Gj] at nd
     obtain ⟨⟨p1',p2',p3'⟩,⟨r1',r2'⟩,r3'⟩:=nd
     refine ⟨_,rfl,_,rfl,Lb,_,_,_,rfl,rfl,SqL.of (sF _ _ (s5' _ _ gb)),i2,_,rfl,(D sd).m,_,rfl,DPut.k (k:=Sum.inr z) (sF _ _ hmE) (aY AX),?_⟩
     obtain ⟨dx,hpx⟩:=DAE.ob
     have naM:La≠(D sd).m:=aU ga hm (by intro y;cases y)
     have bk:((sk:Nat):Int).natAbs<10 ^ 30:=BM (A0 AX sk2) AV
     have ck:(Str.ofString (toString (sk:Int))).length<=31:=bR (k:=30) AW bk
     have lh:("heap ":Str).length=5:=by decide +kernel
     have e3:("heap ":Str)++z++" "++Str.ofString (toString (sk:Int))=Str.join " " ["heap",z,txt sk]:=by
      have:("heap ":Str)="heap"++" ":=by decide +kernel
      rw [this]
      show _="heap"++" "++(z++" "++txt sk)
      rw [bH,bH,bH z]
      rfl
     refine ⟨_,rfl,_,rfl,La,_,_,_,rfl,rfl,SqL.of (by rw [ai naM];exact sF _ _ (s5' _ _ ga)),i1,(D sd).p,dx,_,rfl,(by rw [ai p3'];exact sF _ _ hpx),eJ AV AV,_,rfl,_,_,rfl,rfl,AX,_,_,rfl,rfl,by rw [a6];lia,_,rfl,.inl ⟨_,rfl,bF (BZ bk AV),_,_,rfl,rfl,by rw [a6,a6];lia,(D sd).p,(D sd).d,(D sd).e,ks,js,["heap",z,txt sk],_,(by rw [e3];rfl),DD _ _,?_,?_,⟨⟨dx,by rw [ai p3'];exact sF _ _ hpx⟩,by rw [ai r2'];exact sF _ _ DAE.hd,by rw [ai r3'];exact sF _ _ DAE.hj⟩,uN FO nz bk,.inl ⟨z,sk,rfl,r1',AX,AX,fun h hd hl Dl H' B g=>?_⟩⟩⟩
     .intro w hw
      have W0:∀x:Str,x.cps.toList.contains 32=false->32∉x.cps.toList:=fun x e m=>by
       rw [Es.mpr m] at e
       cases e
      simp only [ax,ah,Bn] at hw
      rcases hw with rfl | rfl | rfl
      .exact W0 _ AV
      .exact nz.free
      .exact fM _
     .have ckt:(txt sk).length<=31:=ck
      have j:=eV ["heap",z,txt sk] 40 fun w hw=>by
       simp only [ax,ah,Bn] at hw
       rcases hw with rfl | rfl | rfl
       .decide +kernel
       .lia
       .lia
      exact A0 j (by show 3*41<=900;decide)
     refine ⟨sz0,fun l0 hl0=>⟨.lst (SqL.of (aq hl0 _ _ g)) (SqL.of ad) (AlL.same fun x hx=>nomatch hx),_,rfl,bL ?_⟩⟩
     exact ⟨_,_,_,rfl,Bf ⟨rfl,rfl⟩,(WE.begun AX nz f1 f2 f3 O sF hmE DAE B).same (aq hl0)⟩
  rintro σ' HD ⟨fD,c,o8',rfl,ec,WD⟩
  obtain ⟨ga,gb,gc⟩:=xa WD
  obtain ⟨ks,js,ms,DA,hm,a1,a2,a3,a4,k1',k2',k3'⟩:=(WD.side sd).dk
  have CO:=WD.cell sd z c ec
  have dg:DGet HD (D sd).m (.str z) (some (.ref c.st)):=by
   have:=DGet.k (k:=Sum.inr z) hm
   rw [a3,ec] at this
   exact this
  refine ⟨_,rfl,_,rfl,Lb,_,_,_,rfl,rfl,SqL.of gb,i2,_,rfl,(D sd).m,_,rfl,dg,?_⟩
  refine ⟨_,rfl,_,rfl,_,rfl,a,ns,0+(i:Int),_,rfl,t1 WD.s0,hn,AX,fun q dd HE hq ok inn sE=>?_⟩
  have WE:=WD.same sE
  have CE:=WE.cell sd z c ec
  have sp8:c.s.stamp<=800:=A0 CE.sp AX
  have nq:q∉c.ft:=fun m=>by
   obtain ⟨o,h1,h2⟩:=CE.live q m
   rw [h1] at hq
   cases hq
   exact h2 _ rfl
  have ftb:∀x,x∈[c.st,c.r,c.td]->x∈c.ft:=fun x hx=>by
   simp only [Cell.ft,ax,ah,Bn] at hx ⊢
   exact .inr (.inr (.inr hx))
  have fta:∀x,x∈[c.h,c.hd,c.hl]->x∈c.ft:=fun x hx=>by
   simp only [Cell.ft,ax,ah,Bn] at hx ⊢
   rcases hx with y | y | y <;> simp [y]
  obtain ⟨dxh,uh⟩:=CE.la.ob
  obtain ⟨kh,uhd,_⟩:=CE.la.dc
  obtain ⟨xh,uhl,_⟩:=CE.la.ls
  obtain ⟨yr,ur,_⟩:=CE.ow.hr
  obtain ⟨kt,ut,_⟩:=CE.ow.ht
  have us:=CE.ow.hs
  have hn1:c.h∉[c.st,c.r,c.td]:=by
   simp only [ax,ah,Bn,Ef]
   exact ⟨aU uh us (by intro y;cases y),aU uh ur (by intro y;cases y),aU uh ut (by intro y;cases y)⟩
  have hn2:c.hd∉[c.st,c.r,c.td]:=by
   simp only [ax,ah,Bn,Ef]
   exact ⟨CE.n1,aU uhd ur (by intro y;cases y),CE.n2⟩
  have hn3:c.hl∉[c.st,c.r,c.td]:=by
   simp only [ax,ah,Bn,Ef]
   exact ⟨aU uhl us (by intro y;cases y),CE.n3,aU uhl ut (by intro y;cases y)⟩
  refine ⟨fun σ' H'=>∃ (vd:V) (r':Addr),σ'=[some (.ref a),some (.ref La),some (.ref Lb),some (.ref Lc),some (.int (0+(i:Int))),some (.int dr),some (.int (if sd=true then 1 else 0)),some (.str z),o8',some (.ref c.st),some (.ref q),some vd]/\DkAt H' c.st r' c.td (ay c.s dd).1 (ay c.s dd).1.looks/\Kept [c.st,c.r,c.td] HE H'/\(r'=c.r∨HE r'=none)/\(dd.fit c.s->∃ Dd,vd=.ref Dd/\H' Dd=some (.lst (uF (ay c.s dd).2))/\Dd∉[c.h,c.hd,c.hl])/\(¬ dd.fit c.s->vd=.int (z5 dd)),?_,?_⟩
  .refine ⟨_,rfl,_,rfl,c.st,c.r,c.td,q,c.s,dd,rfl,CE.ow,CE.li,sp8,hq,fun v r' HF O' an kp fr=>⟨(ay c.s dd).2,v,rfl,an,fun w' n' ep=>?_,fun ecl=>?_,fun eno=>?_,fun n1 n2 Dd HG gD fD' sG=>?_⟩⟩
   .by_cases ft:dd.fit c.s
    .rcases gT CE.li ft with y | ⟨w2,n2,y,m2⟩
     .rw [y] at ep;cases ep
     .rw [y] at ep
      cases ep
      exact CE.sm _ m2
    .have:=(ju ft).2
     cases dd <;> (dsimp only at this;rw [this] at ep;cases ep)
   .have nf:¬ dd.fit c.s:=fun ft=>by
     rcases gT CE.li ft with y | ⟨w2,n2,y,m2⟩ <;> (rw [y] at ecl;cases ecl)
    have w2:=(ju nf).2
    refine ⟨_,r',rfl,O',kp,fr,fun ft=>absurd ft nf,fun _=>?_⟩
    cases dd <;> first | rfl | (dsimp only at w2;rw [w2] at ecl;cases ecl)
   .have nf:¬ dd.fit c.s:=fun ft=>by
     rcases gT CE.li ft with y | ⟨w2,n2,y,m2⟩ <;> (rw [y] at eno;cases eno)
    have w2:=(ju nf).2
    refine ⟨_,r',rfl,O',kp,fr,fun ft=>absurd ft nf,fun _=>?_⟩
    cases dd <;> first | rfl | (dsimp only at w2;rw [w2] at eno;cases eno)
   .refine ⟨_,r',rfl,O'.same sG,kp.trans (Kept.of_same sG),fr,fun _=>⟨Dd,rfl,gD,?_⟩,fun nf=>?_⟩
    .simp only [ax,ah,Bn,Ef]
     exact ⟨(ak (kp _ _ uh hn1) fD').symm,(ak (kp _ _ uhd hn2) fD').symm,(ak (kp _ _ uhl hn3) fD').symm⟩
    .have w2:=(ju nf).2
     cases dd <;> (dsimp only at w2;first | exact absurd w2 n1 | exact absurd w2 n2)
  rintro σ' HG ⟨vd,r',rfl,O',kpG,frG,yes,no⟩
  have naF:La∉c.ft:=fun m=>by
   obtain ⟨o,hx⟩:=xin
   exact (WE.nc sd z c ec La m).2 _ hx rfl
  have gaG:=kpG _ _ (sE _ _ ga) (fun m=>naF (ftb _ m))
  have hqG:=kpG _ _ hq (fun m=>nq (ftb _ m))
  have uhG:=kpG _ _ uh hn1
  have uhdG:=kpG _ _ uhd hn2
  have uhlG:=kpG _ _ uhl hn3
  obtain ⟨ysG,urG,_⟩:=O'.hr
  obtain ⟨ktG,utG,_⟩:=O'.ht
  have usG:=O'.hs
  have rh:r'≠c.h:=aU urG uhG (by intro y;cases y)
  have rhd:r'≠c.hd:=aU urG uhdG (by intro y;cases y)
  have rhl:r'≠c.hl:=fun y=>by
   rcases frG with w | w
   .exact CE.n3 (by rw [<-y,w])
   .rw [y,uhl] at w;cases w
  have tkG:∀b l,HE b=some (.tup l)->HG b=some (.tup l):=CE.ow.tk kpG fun b hb=>hb
  have LG:LateAt CL HG c.h c.hd c.hl c.s:=CE.la.stay (fun b o hb e=>kpG b o e (by rcases hb with y | y | y <;> rw [y] <;> assumption)) tkG
  have fxo:∀x∈(D sd).fx,x∉c.ft:=fun x hx m=>WE.bs sd z c sd ec x m hx
  have DAE:ci C HE (D sd).p (D sd).d (D sd).e ks js:=⟨DA.ob.imp fun _ x=>sE _ _ x,sE _ _ DA.hd,sE _ _ DA.hj⟩
  have DAG:ci C HG (D sd).p (D sd).d (D sd).e ks js:=⟨DAE.ob.imp fun _ x=>kpG _ _ x (fun m=>fxo _ (by simp [Dsk.fx]) (ftb _ m)),kpG _ _ DAE.hd (fun m=>fxo _ (by simp [Dsk.fx]) (ftb _ m)),kpG _ _ DAE.hj (fun m=>fxo _ (by simp [Dsk.fx]) (ftb _ m))⟩
  have vh:aX ks (Sum.inr z)=some (.ref c.h):=by rw [a1,ec];rfl
  have vj:=a2 z c ec
  have lkS:=gv CE.li AX CE.pt
  have lj:((c.s.looks:Int)+0).natAbs<10 ^ 31:=by
   rw [Gi,EV]
   exact BZ lkS AV
  have done:∀(HH HI:Hp) (l':Addr),Same HG HH->LateAt CL HI c.h c.hd l' (ay c.s dd).1->Kept [c.h,c.hd,c.hl] HH HI->Fr3 HH c.hl l'->Wld (cF ns) C CL H X HI D (dG fD sd z ⟨c.h,c.hd,l',c.st,r',c.td,(ay c.s dd).1⟩) (2*i+2):=fun HH HI l' sH LI' kI fI=>by
   have off:∀x,x∈[c.st,r',c.td]->x∉[c.h,c.hd,c.hl]:=fun x hx m=>by
    simp only [ax,ah,Bn] at hx m hn1 hn2 hn3
    rcases hx with w | w | w <;> rcases m with y | y | y <;> rw [w] at y
    .exact hn1 (.inl y.symm)
    .exact hn2 (.inl y.symm)
    .exact hn3 (.inl y.symm)
    .exact rh y
    .exact rhd y
    .exact rhl y
    .exact hn1 (.inr (.inr y.symm))
    .exact hn2 (.inr (.inr y.symm))
    .exact hn3 (.inr (.inr y.symm))
   have OH:=O'.same sH
   have tkI:∀b l,HH b=some (.tup l)->HI b=some (.tup l):=fun b l e=>kI b _ e (fun m=>(LG.same sH).notup b m _ e)
   have OI:DkAt HI c.st r' c.td (ay c.s dd).1 (ay c.s dd).1.looks:=OH.stay (fun b o hb e=>kI b o e (off b (by rcases hb with y | y | y <;> rw [y] <;> simp))) tkI
   have lr:l'≠r':=fun y=>by
    rcases fI with w | w
    .exact rhl (by rw [<-y,w])
    .rw [y,sH _ _ urG] at w;cases w
   refine WE.step (n':=2*i+2) ec ⟨LI',OI,CE.n1,CE.n2,lr,tG CE.li dd,?_,uE CE.li ok CE.sm,wE CE.li inn CE.nn,?_,CE.nz⟩ (fun b o e n=>?_) (fun b o e n=>?_) AX rfl rfl
   .exact A0 (om CE.li dd) (Cu CE.sp)
   .exact vc CE.li sp8 CE.pt
   .exact kI b o (sH _ _ (kpG b o e (fun m=>n (ftb _ m)))) (fun m=>n (fta _ m))
   .have eH:=sH _ _ (kpG b o e (fun m=>n (ftb _ m)))
    simp only [Cell.ft,ax,ah,Bn,Ef] at n ⊢
    obtain ⟨y1,y2,y3,y4,y5,y6⟩:=n
    refine ⟨y1,y2,fun y=>?_,y4,fun y=>?_,y6⟩
    .rcases fI with w | w
     .exact y3 (y.trans w)
     .rw [<-y,eH] at w;cases w
    .rcases frG with w | w
     .exact y5 (y.trans w)
     .rw [<-y,e] at w;cases w
  refine ⟨fun σ' H'=>∃ (c':Cell),σ'=[some (.ref a),some (.ref La),some (.ref Lb),some (.ref Lc),some (.int (0+(i:Int))),some (.int dr),some (.int (if sd=true then 1 else 0)),some (.str z),o8',some (.ref c.st),some (.ref q),some vd]/\c'.st=c.st/\Wld (cF ns) C CL H X H' D (dG fD sd z c') (2*i+2),?_,?_⟩
  .refine ⟨_,rfl,_,rfl,La,_,_,_,rfl,rfl,SqL.of gaG,i1,_,rfl,_,rfl,q,z,dd,rfl,nz,hqG,ok,fun HH sH=>?_⟩
   refine ⟨(D sd).p,(D sd).d,(D sd).e,c.h,c.hd,c.hl,ks,js,z,dd,c.s,0,rfl,nz,ok,⟨DAG.ob.imp fun _ x=>sH _ _ x,sH _ _ DAG.hd,sH _ _ DAG.hj⟩,vh,vj,LG.same sH,CE.li,sp8,CE.sm,lj,fun ft Dt l' HI LI' gI kI fI=>?_,fun nf HI sI=>?_⟩
   .obtain ⟨Dd,rfl,hDd,nDd⟩:=yes ft
    have hDI:=kI _ _ (sH _ _ hDd) nDd
    refine ⟨_,rfl,.lst (SqL.of gI) (SqL.of hDI) (AlL.same fun x hx=>?_),_,rfl,bL ⟨⟨c.h,c.hd,l',c.st,r',c.td,(ay c.s dd).1⟩,rfl,rfl,done HH HI l' sH LI' kI fI⟩⟩
    cases e:(ay c.s dd).2 <;> rw [e] at hx <;> first | (cases hx;done) | (rw [AZ hx];rfl)
   .have ev:=no nf
    subst ev
    refine ⟨_,rfl,.int _,_,rfl,bL ⟨⟨c.h,c.hd,c.hl,c.st,r',c.td,(ay c.s dd).1⟩,rfl,rfl,done HH HI c.hl sH ?_ (Kept.of_same sI) (.inl rfl)⟩⟩
    rw [(ju nf).1]
    exact (LG.same sH).same sI
  rintro σ' HI ⟨c',rfl,es,WI⟩
  have ec':dG fD sd z c' sd z=some c':=Bf ⟨rfl,rfl⟩
  obtain ⟨ksI,jsI,PR⟩:=WI.pair lN ec' AX
  obtain ⟨gaI,gbI,gcI⟩:=xa WI
  refine ⟨_,rfl,_,rfl,_,rfl,La,_,_,_,rfl,rfl,SqL.of gaI,i1,_,rfl,_,rfl,_,rfl,a,ns,(D sd).p,(D sd).d,(D sd).e,c'.h,c'.hd,c'.hl,c'.st,c'.r,c'.td,ksI,jsI,z,c'.s,0+(i:Int),(by rw [es];rfl),t1 WI.s0,hn,AX,PR,fun HJ sJ=>⟨_,rfl,bL ?_⟩⟩
  exact ⟨_,_,_,_,_,_,_,_,_,rfl,WI.same sJ⟩
 rintro Z H9 ⟨fC,o4,o5,o6,o7,o8,o9,o10,o11,rfl,W9⟩
 have N2:2*N<=800:=by lia
 refine ⟨_,rfl,AW,AW,?_⟩
 refine dP (lo:=0) (n:=2) (fun i Z HX=>∃ (o6 o7:Option V),Z=[some (.ref a),some (.ref La),some (.ref Lb),some (.ref Lc),o4,o5,o6,o7,o8,o9,o10,o11]/\Wld (cF ns) C CL H X HX D fC (2*N)) ⟨o6,o7,rfl,W9⟩ ?_ ?_
 .rintro i Z HX hi ⟨o6',o7',rfl,W⟩
  obtain ⟨sd,esd⟩:∃ sd:Bool,(0+(i:Int))=(if sd=true then 1 else 0:Int):=by
   rcases (show i=0∨i=1 by lia) with y | y <;> rw [y]
   .exact ⟨false,rfl⟩
   .exact ⟨true,rfl⟩
  show (_:V->St->Hp->(St->Hp->Prop)->Prop) (V.int (0+(i:Int))) _ _ _
  rw [esd]
  obtain ⟨i1,i2⟩:=eLs sd
  obtain ⟨ga,gb,gc⟩:=xa W
  obtain ⟨ks,js,ms,DA,hm,a1,a2,a3,a4,k1',k2',k3'⟩:=(W.side sd).dk
  have nfm:=W.nf sd (D sd).m (by simp [Dsk.fx])
  have nd:=(W.side sd).nd
  simp only [Dsk.fx,BP,ax,ah,Bn,Ef,DT,CF,Gj] at nd
  obtain ⟨⟨p1',p2',p3'⟩,⟨r1',r2'⟩,r3'⟩:=nd
  have naM:La≠(D sd).m:=aU ga hm (by intro y;cases y)
  have nbM:Lb≠(D sd).m:=aU gb hm (by intro y;cases y)
  refine ⟨_,rfl,_,rfl,Lb,_,_,_,rfl,rfl,SqL.of gb,i2,(D sd).m,ms,rfl,hm,fun ob=>?_⟩
  refine ui (d:=(D sd).m) (o:=ob) (kvs:=ms) (fun _ Z HY=>∃ o7,Z=[some (.ref a),some (.ref La),some (.ref Lb),some (.ref Lc),o4,o5,some (.int (if sd=true then 1 else 0)),o7,o8,o9,o10,o11]/\HY (D sd).m=some (.frz ob (.dK ms))/\∀b u,HX b=some u->b≠(D sd).m->HY b=some u) ⟨o7',rfl,ad,fun b u q n=>by rw [ai n];exact q⟩ (fun _ _ _ h'=>by obtain ⟨_,_,e,_⟩:=h';exact e) ?_ ?_
  .rintro i' key v Z HY hk ⟨o7'',rfl,fz,kY⟩
   have mk:=BC hk
   obtain ⟨z,ez⟩:=a4 _ mk
   have ez':key=Sum.inr z:=ez
   subst ez'
   have isS:(aX ms (Sum.inr z)).isSome=true:=by
    rw [<-du,Dy]
    exact ⟨_,mk,Bb rfl⟩
   rw [a3] at isS
   obtain ⟨c,ec⟩:∃ c,fC sd z=some c:=by
    cases q:fC sd z with
    | none=>rw [q] at isS;cases isS
    | some c=>exact ⟨c,rfl⟩
   obtain ⟨ksI,jsI,PR⟩:=W.pair lN ec N2
   have sY:Same H HY:=fun b u q=>kY b u (W.s0 b u q) fun y=>by rw [y,nfm.1] at q;cases q
   have PY:=PR.stay (m:=(D sd).m) (H':=HY) (fun l y=>by rw [hm] at y;cases y) (by
    simp only [ax,ah,Bn,Ef]
    have off:∀x∈c.ft,(D sd).m≠x:=fun x hx y=>W.bs sd z c sd ec x hx (by rw [<-y];simp [Dsk.fx])
    exact ⟨Cm p3',Cm r2',Cm r3',off _ (by simp [Cell.ft]),off _ (by simp [Cell.ft]),off _ (by simp [Cell.ft]),off _ (by simp [Cell.ft]),off _ (by simp [Cell.ft]),off _ (by simp [Cell.ft])⟩) kY
   have dg:DGet HY (D sd).m (.str z) (some (.ref c.st)):=.inl ⟨ms,Sum.inr z,.inr ⟨ob,fz⟩,rfl,by rw [a3,ec];rfl⟩
   refine ⟨_,rfl,_,rfl,_,rfl,La,_,_,_,rfl,rfl,SqL.of (kY _ _ ga naM),i1,_,rfl,_,rfl,_,rfl,Lb,_,_,_,rfl,rfl,SqL.of (kY _ _ gb nbM),i2,_,rfl,(D sd).m,_,rfl,dg,a,ns,(D sd).p,(D sd).d,(D sd).e,c.h,c.hd,c.hl,c.st,c.r,c.td,ksI,jsI,z,c.s,90,rfl,t1 sY,hn,AW,PY,fun HZ sZ=>⟨_,rfl,bL ?_⟩⟩
   exact ⟨_,rfl,sZ _ _ fz,fun b u q n=>sZ _ _ (kY b u q n)⟩
  .rintro Z HY ⟨o7'',rfl,fz,kY⟩
   refine ⟨(D sd).m,ob,ms,fz,(fun o u q=>by have q':H (D sd).m=_:=q;rw [nfm.1] at q';cases q'),_,_,rfl,W.same fun b u q=>?_⟩
   by_cases y:b=(D sd).m
   .rw [y,ad,<-hm,<-y];exact q
   .rw [ai y];exact kY b u q y
 rintro Z HX ⟨o6',o7',rfl,W⟩
 exact kQ HX
end
section
variable {P:Program}{w:World}{K:W.Frag}{mg:Str->Option Value}{base:Heap}
open PySem.W
theorem all_mk {l:OpenLaw}{w:World}{K:Frag}{h:Heap}{mg:Str->Option Value}{fa C C2 CB CC CN f_aa f_ab f_ac f_ad f_ae f_af f_ag f_ah f_ai f_aj f_ak f_al f_am f_an f_ao f_ap f_aq f_ar f_as f_at f_au f_av f_aw f_ax f_ay f_az f_ba f_bb f_bc f_bd f_be f_bf f_bg f_bh f_bi f_bj f_bk f_bl f_bm f_bn f_bo f_bp f_bq f_br f_bs f_bt f_bu f_bv f_bw f_bx f_by f_bz f_ca f_cb f_cc f_cd f_ce f_cf f_cg:Addr}(X:K.In h)(G:h.Ns mainGlobals mg)(hfa:mg "law"=some (.ref fa))
     {tL:Tok} {tFg:Tok} {dF q0 q1 q2 q3 q4 q5 q6 q7 q8 q9:Addr} {epF n0 n1 n2 n3 n4 n5 n6 n7 n8 n9:Nat} {t0 t1 t2 t3 t4 t5 t6 t7 t8 t9 a00 a01 a02 a10 a11 a12 a13 a20 a21 a22 a30 a31 a32 a33 a40 a41 a50 a51 a60 a61 a62 a70 a71 a72 a80 a81 a90 a91:Tok} {cl_CC cl_CN:ClassData} {od_cg an_cg:Option Addr} {sl_cg:Array (Option Value)} {oc_cg kV_cg dc_cg pm_cg cd_cg ct_cg:Value}
    (aC:nsIn K mainGlobals "Late"=some (some (.ref C)))
    (aCB:nsIn K mainGlobals "Named"=some (some (.ref CB)))
    (aC2:nsIn K mainGlobals "Desk"=some (some (.ref C2)))
    (aCC:nsIn K mainGlobals "Clash"=some (some (.ref CC)))
    (aCN:nsIn K mainGlobals "NoThing"=some (some (.ref CN)))
    (h_aa:Df K "exchange" v7 f_aa)
    (h_ab:Df K "lift" tW f_ab)
    (h_ac:Df K "lay_in" yj f_ac)
    (h_ad:Df K "let_down" iU f_ad)
    (h_ae:Df K "cut_first" yW f_ae)
    (h_af:Df K "order" nA f_af)
    (h_ag:Bs K CB "__init__" "Named.__init__" nV f_ag)
    (h_ah:Mt K C "holds" "Named.holds" oF f_ah)
    (h_ai:Mt K C "need" "Named.need" wm f_ai)
    (h_aj:Mt K C "need_free" "Named.need_free" tm f_aj)
    (h_ak:Mt K C "need_any" "Named.need_any" zn f_ak)
    (h_al:Mt K C "stamped" "Named.stamped" iD f_al)
    (h_am:Mt K C "__init__" "Late.__init__" nD f_am)
    (h_an:Mt K C "enter" "Late.enter" oj f_an)
    (h_ao:Mt K C "cut" "Late.cut" ve f_ao)
    (h_ap:Mt K C "sweep_if_due" "Late.sweep_if_due" jF f_ap)
    (h_aq:Mt K C "first_there" "Late.first_there" oI f_aq)
    (h_ar:Mt K C "put" "Late.put" vU f_ar)
    (h_as:Mt K C "drop" "Late.drop" oG f_as)
    (h_at:Mt K C "change" "Late.change" iV f_at)
    (h_au:Mt K C "least" "Late.least" jL f_au)
    (h_av:Mt K C "take" "Late.take" mW f_av)
    (h_aw:Mt K C "many" "Named.many" vi f_aw)
    (h_ax:Mt K C "row" "Late.row" tM f_ax)
    (h_ay:Mt K C "work" "Late.work" mQ f_ay)
    (h_az:Df K "offer" oh f_az)
    (h_ba:Df K "firsts" jK f_ba)
    (h_bb:Df K "made_of" gR f_bb)
    (h_bc:Df K "is_name" kl f_bc)
    (h_bd:Df K "is_number" fV f_bd)
    (h_be:Df K "number" j7 f_be)
    (h_bf:Df K "counted" hJ f_bf)
    (h_bg:Mt K C2 "meant" "Desk.meant" nN f_bg)
    (h_bh:Mt K C2 "understood" "Desk.understood" xK f_bh)
    (h_bi:Df K "shown" nM f_bi)
    (h_bj:Mt K C2 "stand" "Desk.stand" nS f_bj)
    (h_bk:Mt K C2 "works_of" "Desk.works_of" mU f_bk)
    (h_bl:Df K "carry_out" ou f_bl)
    (h_bm:Mt K C2 "answer" "Desk.answer" gP f_bm)
    (h_bn:Mt K C2 "ask" "Desk.ask" yT f_bn)
    (h_bo:Mt K C2 "__init__" "Desk.__init__" oO f_bo)
    (h_bp:Df K "_law_draw" tS f_bp)
    (h_bq:Df K "_law_word" uU f_bq)
    (h_br:Df K "_law_new" wj f_br)
    (h_bs:Df K "_law_down" um f_bs)
    (h_bt:Df K "_law_into" wa f_bt)
    (h_bu:Df K "_law_out" tU f_bu)
    (h_bv:Df K "_law_stands" jP f_bv)
    (h_bw:Df K "_law_clean" kK f_bw)
    (h_bx:Df K "_law_sweep" gJ f_bx)
    (h_by:Df K "_law_give" nl f_by)
    (h_bz:Df K "_law_deed" nF f_bz)
    (h_ca:Df K "_law_worth" jW f_ca)
    (h_cb:Df K "_law_some_deed" oK f_cb)
    (h_cc:Df K "_law_line" mS f_cc)
    (h_cd:Df K "_law_told" nI f_cd)
    (h_ce:Df K "_law_due" uv f_ce)
    (h_cf:Df K "_law_all_right" lZ f_cf)
    (a_cg:nsIn K mainGlobals "law"=some (some (.ref f_cg)))
    (l_cg:K.lookup f_cg=some ⟨oc_cg,od_cg,.func (fnOf "law" "law" (bW iW) (bA iW) (ao iW) .none kV_cg dc_cg pm_cg an_cg cd_cg ct_cg),sl_cg⟩)
    (c_cg:codeIn K cd_cg "law"=true)
    (k_cg:keepIn K (.ref f_cg)=true)
    (z_len:nsIn K mainGlobals "len"=some none)
    (z_sum:nsIn K mainGlobals "sum"=some none)
    (z_abs:nsIn K mainGlobals "abs"=some none)
    (z_range:nsIn K mainGlobals "range"=some none)
    (z_list:nsIn K mainGlobals "list"=some none)
    (z_tuple:nsIn K mainGlobals "tuple"=some none)
    (z_int:nsIn K mainGlobals "int"=some none)
    (z_bool:nsIn K mainGlobals "bool"=some none)
    (z_sorted:nsIn K mainGlobals "sorted"=some none)
    (z_isinstance:nsIn K mainGlobals "isinstance"=some none)
    (z_max:nsIn K mainGlobals "max"=some none)
    (z_min:nsIn K mainGlobals "min"=some none)
    (z_all:nsIn K mainGlobals "all"=some none)
    (z_str:nsIn K mainGlobals "str"=some none)
    (pg:W.plainGet K C Str.empty=true)
    (hd:W.hasDictIn K C=true)
    (po:W.plainOver K C=true)
    (sa:findIn K (.ref C) "__setattr__"=some (some (.builtin "object.__setattr__")))
    (mk:makesIn K C=true)
    (kc:keepIn K (.ref C)=true)
    (ga:specialIn K (.ref CB) "__getattribute__"=some (some (.builtin "type.__getattribute__")))
    (rd:W.readsIn K CB (.type "type")=true)
    (pg2:W.plainGet K C2 Str.empty=true)
    (hd2:W.hasDictIn K C2=true)
    (po2:W.plainOver K C2=true)
    (sa2:findIn K (.ref C2) "__setattr__"=some (some (.builtin "object.__setattr__")))
    (mk2:makesIn K C2=true)
    (kc2:keepIn K (.ref C2)=true)
    (n2_there:findIn K (.ref C2) "there"=some none)
    (n2_stamp:findIn K (.ref C2) "stamp"=some none)
    (n2_heaps:findIn K (.ref C2) "heaps"=some none)
    (n2_joined:findIn K (.ref C2) "joined"=some none)
    (n_there:findIn K (.ref C) "there"=some none)
    (n_stamp:findIn K (.ref C) "stamp"=some none)
    (n_slack:findIn K (.ref C) "slack"=some none)
    (n_entries:findIn K (.ref C) "entries"=some none)
    (n_looks:findIn K (.ref C) "looks"=some none)
    (a_LETTERS:nsIn K mainGlobals "LETTERS"=some (some (.str "abcdefghijklmnopqrstuvwxyz" tL)))
    (a_FIGURES:nsIn K mainGlobals "FIGURES"=some (some (.str "0123456789" tFg)))
    (aF:nsIn K mainGlobals "FORMS"=some (some (.ref dF)))
    (lF:K.lookup dF=some { cls:=.type "dict",data:=.dict #[{ hash:=PyData.keyHash w.params "heap",key:=.str "heap" t0,val:=.ref q0 },{ hash:=PyData.keyHash w.params "put",key:=.str "put" t1,val:=.ref q1 },{ hash:=PyData.keyHash w.params "drop",key:=.str "drop" t2,val:=.ref q2 },{ hash:=PyData.keyHash w.params "change",key:=.str "change" t3,val:=.ref q3 },{ hash:=PyData.keyHash w.params "take",key:=.str "take" t4,val:=.ref q4 },{ hash:=PyData.keyHash w.params "least",key:=.str "least" t5,val:=.ref q5 },{ hash:=PyData.keyHash w.params "first",key:=.str "first" t6,val:=.ref q6 },{ hash:=PyData.keyHash w.params "join",key:=.str "join" t7,val:=.ref q7 },{ hash:=PyData.keyHash w.params "room",key:=.str "room" t8,val:=.ref q8 },{ hash:=PyData.keyHash w.params "works",key:=.str "works" t9,val:=.ref q9 }] epF })
    (sF:(dF == sysModules)=false)
    (lq0:K.lookup q0=some { cls:=.type "tuple",data:=.seq #[.str "word" a00,.str "name" a01,.str "count" a02] n0 })
    (lq1:K.lookup q1=some { cls:=.type "tuple",data:=.seq #[.str "word" a10,.str "heap" a11,.str "name" a12,.str "number" a13] n1 })
    (lq2:K.lookup q2=some { cls:=.type "tuple",data:=.seq #[.str "word" a20,.str "heap" a21,.str "name" a22] n2 })
    (lq3:K.lookup q3=some { cls:=.type "tuple",data:=.seq #[.str "word" a30,.str "heap" a31,.str "name" a32,.str "number" a33] n3 })
    (lq4:K.lookup q4=some { cls:=.type "tuple",data:=.seq #[.str "word" a40,.str "heap" a41] n4 })
    (lq5:K.lookup q5=some { cls:=.type "tuple",data:=.seq #[.str "word" a50,.str "heap" a51] n5 })
    (lq6:K.lookup q6=some { cls:=.type "tuple",data:=.seq #[.str "word" a60,.str "heap" a61,.str "count" a62] n6 })
    (lq7:K.lookup q7=some { cls:=.type "tuple",data:=.seq #[.str "word" a70,.str "heap" a71,.str "heap" a72] n7 })
    (lq8:K.lookup q8=some { cls:=.type "tuple",data:=.seq #[.str "word" a80,.str "heap" a81] n8 })
    (lq9:K.lookup q9=some { cls:=.type "tuple",data:=.seq #[.str "word" a90,.str "heap" a91] n9 })
    (bC:subIn K (.ref CC) (.type "BaseException")=some true)
    (bN:subIn K (.ref CN) (.type "BaseException")=some true)
    (clCC:W.clsIn K CC=some cl_CC)
    (tpCC:W.typeIn K (.ref CC)=some (.type "type"))
    (clCN:W.clsIn K CN=some cl_CN)
    (tpCN:W.typeIn K (.ref CN)=some (.type "type"))
    (sCCCC:subIn K (.ref CC) (.ref CC)=some true)
    (sCNCC:subIn K (.ref CN) (.ref CC)=some false)
    (sCNCN:subIn K (.ref CN) (.ref CN)=some true)
    (xCC:W.excIn K CC bmV "ValueError.__new__"=true)
    (xCN:W.excIn K CN bmV "ValueError.__new__"=true) :
    ∃ fd:FuncData,(∀(s:Shared) (v:Value),BindsTo s fd ⟨[v],[]⟩ [("script",v)])/\∀base:Heap,K.In base->base.Ns mainGlobals mg->av l.prog w K mg base CX0 11 fa fd ["script"] (pV K):=by
  have e:=hfa.symm.trans (mg_of X G a_cg)
  cases e
  have T:Bl mg:=⟨mg_none_of X G z_len,mg_none_of X G z_sum,mg_none_of X G z_abs,mg_none_of X G z_range,mg_none_of X G z_list,mg_none_of X G z_tuple,mg_none_of X G z_int,mg_none_of X G z_bool,mg_none_of X G z_sorted,mg_none_of X G z_isinstance⟩
  have Z_max:=mg_none_of X G z_max
  have Z_min:=mg_none_of X G z_min
  have Z_all:=mg_none_of X G z_all
  have Z_str:=mg_none_of X G z_str
  have L:LT K C:=⟨⟨⟨pg,hd,po,sa⟩,n_there,n_stamp⟩,n_slack,n_entries,n_looks⟩
  have mCC:=mg_of X G aCC
  have mCN:=mg_of X G aCN
  have mCB:=mg_of X G aCB
  have mC:=mg_of X G aC
  have LW:DK K C2:=⟨⟨pg2,hd2,po2,sa2⟩,n2_heaps,n2_joined⟩
  have mC2:=mg_of X G aC2
  have mLETTERS:=mg_of X G a_LETTERS
  have mFIGURES:=mg_of X G a_FIGURES
  have mFORMS:=mg_of X G aF
  have SF:tZ w K dF [("heap",q0),("put",q1),("drop",q2),("change",q3),("take",q4),("least",q5),("first",q6),("join",q7),("room",q8),("works",q9)]:=⟨_,epF,lF,.cons (.cons (.cons (.cons (.cons (.cons (.cons (.cons (.cons (.cons (.nil))))))))))⟩
  have FO:=vA lq0 lq1 lq2 lq3 lq4 lq5 lq6 lq7 lq8 lq9
  have xCCC:=ol bC clCC tpCC sCCCC
  have xCNC:=ol bC clCC tpCC sCNCC
  have xCNN:=ol bN clCN tpCN sCNCN
  obtain ⟨_,F_aa,D_aa⟩:=h_aa.get X G ["heap","place","other"]
  obtain ⟨_,F_ab,D_ab⟩:=h_ab.get X G ["heap","start"]
  obtain ⟨_,F_ac,D_ac⟩:=h_ac.get X G ["heap","entry"]
  obtain ⟨_,F_ad,D_ad⟩:=h_ad.get X G ["heap","start"]
  obtain ⟨_,F_ae,D_ae⟩:=h_ae.get X G ["heap"]
  obtain ⟨_,F_af,D_af⟩:=h_af.get X G ["heap"]
  obtain ⟨_,F_ag,B_ag,M_ag⟩:=h_ag.get ["self"] ga rd
  obtain ⟨_,F_ah,B_ah,M_ah⟩:=h_ah.get ["self","entry"]
  obtain ⟨_,F_ai,B_ai,M_ai⟩:=h_ai.get ["self","name"]
  obtain ⟨_,F_aj,B_aj,M_aj⟩:=h_aj.get ["self","name"]
  obtain ⟨_,F_ak,B_ak,M_ak⟩:=h_ak.get ["self"]
  obtain ⟨_,F_al,B_al,M_al⟩:=h_al.get ["self","name","worth"]
  obtain ⟨_,F_am,B_am,N_am⟩:=h_am.get ["self","slack"]
  have M_am:Mk K C f_am:=⟨mk,N_am.at_,N_am.fn,kc⟩
  obtain ⟨_,F_an,B_an,M_an⟩:=h_an.get ["self","name","worth"]
  obtain ⟨_,F_ao,B_ao,M_ao⟩:=h_ao.get ["self"]
  obtain ⟨_,F_ap,B_ap,M_ap⟩:=h_ap.get ["self"]
  obtain ⟨_,F_aq,B_aq,M_aq⟩:=h_aq.get ["self"]
  obtain ⟨_,F_ar,B_ar,M_ar⟩:=h_ar.get ["self","name","worth"]
  obtain ⟨_,F_as,B_as,M_as⟩:=h_as.get ["self","name"]
  obtain ⟨_,F_at,B_at,M_at⟩:=h_at.get ["self","name","worth"]
  obtain ⟨_,F_au,B_au,M_au⟩:=h_au.get ["self"]
  obtain ⟨_,F_av,B_av,M_av⟩:=h_av.get ["self"]
  obtain ⟨_,F_aw,B_aw,M_aw⟩:=h_aw.get ["self"]
  obtain ⟨_,F_ax,B_ax,M_ax⟩:=h_ax.get ["self"]
  obtain ⟨_,F_ay,B_ay,M_ay⟩:=h_ay.get ["self"]
  obtain ⟨_,F_az,D_az⟩:=h_az.get X G ["places","row","place"]
  obtain ⟨_,F_ba,D_ba⟩:=h_ba.get X G ["heap","k"]
  obtain ⟨_,F_bb,D_bb⟩:=h_bb.get X G ["word","signs","most"]
  obtain ⟨_,F_bc,D_bc⟩:=h_bc.get X G ["word"]
  obtain ⟨_,F_bd,D_bd⟩:=h_bd.get X G ["word"]
  obtain ⟨_,F_be,D_be⟩:=h_be.get X G ["word"]
  obtain ⟨_,F_bf,D_bf⟩:=h_bf.get X G ["word"]
  obtain ⟨_,F_bg,B_bg,M_bg⟩:=h_bg.get ["self","kind","word"]
  obtain ⟨_,F_bh,B_bh,M_bh⟩:=h_bh.get ["self","words"]
  obtain ⟨_,F_bi,D_bi⟩:=h_bi.get X G ["pair"]
  obtain ⟨_,F_bj,B_bj,M_bj⟩:=h_bj.get ["self","name","heap","joined"]
  obtain ⟨_,F_bk,B_bk,M_bk⟩:=h_bk.get ["self","name"]
  obtain ⟨_,F_bl,D_bl⟩:=h_bl.get X G ["heap","deed"]
  obtain ⟨_,F_bm,B_bm,M_bm⟩:=h_bm.get ["self","word","name","rest"]
  obtain ⟨_,F_bn,B_bn,M_bn⟩:=h_bn.get ["self","line"]
  obtain ⟨_,F_bo,B_bo,N_bo⟩:=h_bo.get ["self"]
  have M_bo:Mk K C2 f_bo:=⟨mk2,N_bo.at_,N_bo.fn,kc2⟩
  obtain ⟨_,F_bp,D_bp⟩:=h_bp.get X G ["script","k"]
  obtain ⟨_,F_bq,D_bq⟩:=h_bq.get X G ["script","i"]
  obtain ⟨_,F_br,D_br⟩:=h_br.get X G ["slack"]
  obtain ⟨_,F_bs,D_bs⟩:=h_bs.get X G ["heap","k"]
  obtain ⟨_,F_bt,D_bt⟩:=h_bt.get X G ["heap","entry"]
  obtain ⟨_,F_bu,D_bu⟩:=h_bu.get X G ["heap"]
  obtain ⟨_,F_bv,D_bv⟩:=h_bv.get X G ["heap","entry"]
  obtain ⟨_,F_bw,D_bw⟩:=h_bw.get X G ["heap"]
  obtain ⟨_,F_bx,D_bx⟩:=h_bx.get X G ["heap"]
  obtain ⟨_,F_by,D_by⟩:=h_by.get X G ["heap","name","worth"]
  obtain ⟨_,F_bz,D_bz⟩:=h_bz.get X G ["heap","deed"]
  obtain ⟨_,F_ca,D_ca⟩:=h_ca.get X G ["script","k"]
  obtain ⟨_,F_cb,D_cb⟩:=h_cb.get X G ["script","k","heap"]
  obtain ⟨_,F_cc,D_cc⟩:=h_cc.get X G ["called","deed"]
  obtain ⟨_,F_cd,D_cd⟩:=h_cd.get X G ["desk","line"]
  obtain ⟨_,F_ce,D_ce⟩:=h_ce.get X G ["found"]
  obtain ⟨_,F_cf,D_cf⟩:=h_cf.get X G ["script","desk","called","heap","k"] (fun _ _ _ _ _ _=>lnS fun _=>lnS fun _=>lnS fun _=>lnS fun _=>ln1 fun _=>rfl)
  have F_cg:=kF (st:=iW) l_cg c_cg k_cg
  refine ⟨fnOf "law" "law" (bW iW) (bA iW) (ao iW) .none kV_cg dc_cg pm_cg an_cg cd_cg ct_cg,fun s v=>.of_eq rfl,fun base _ _=>?_⟩
  have G_aa:=w9 (P:=l.prog) (w:=w) (base:=base) F_aa T
  have G_ab:=xH (P:=l.prog) (w:=w) (base:=base) F_ab T G_aa D_aa
  have G_ac:=yN (P:=l.prog) (w:=w) (base:=base) F_ac T G_ab D_ab
  have G_ad:=oa (P:=l.prog) (w:=w) (base:=base) F_ad T G_aa D_aa
  have G_ae:=zl (P:=l.prog) (w:=w) (base:=base) F_ae T G_ad D_ad
  have G_af:=sr (P:=l.prog) (w:=w) (base:=base) F_af T G_ad D_ad
  have G_ag:=fS (P:=l.prog) (w:=w) (base:=base) F_ag T L.nt
  have G_ah:=va (P:=l.prog) (w:=w) (base:=base) F_ah T L.nt
  have G_ai:=wT (P:=l.prog) (w:=w) (base:=base) F_ai T L.nt mCN xCN
  have G_aj:=kg (P:=l.prog) (w:=w) (base:=base) F_aj T L.nt mCC xCC
  have G_ak:=kT (P:=l.prog) (w:=w) (base:=base) F_ak T L.nt mCN xCN
  have G_al:=mT (P:=l.prog) (w:=w) (base:=base) F_al T L.nt
  have G_am:=gE (P:=l.prog) (w:=w) (base:=base) F_am T L mCB M_ag G_ag B_ag
  have G_an:=wg (P:=l.prog) (w:=w) (base:=base) F_an T L G_ac D_ac M_al G_al B_al
  have G_ao:=xI (P:=l.prog) (w:=w) (base:=base) F_ao T L G_ae D_ae
  have G_ap:=uH (P:=l.prog) (w:=w) (base:=base) F_ap T L G_af D_af M_ah G_ah B_ah
  have G_aq:=iS (P:=l.prog) (w:=w) (base:=base) F_aq T L M_ak G_ak B_ak M_ah G_ah B_ah M_ao G_ao B_ao
  have G_ar:=yt (P:=l.prog) (w:=w) (base:=base) F_ar T L M_aj G_aj B_aj M_ap G_ap B_ap M_an G_an B_an
  have G_as:=wu (P:=l.prog) (w:=w) (base:=base) F_as T L M_ai G_ai B_ai M_ap G_ap B_ap
  have G_at:=qP (P:=l.prog) (w:=w) (base:=base) F_at T L M_ai G_ai B_ai M_ap G_ap B_ap M_an G_an B_an
  have G_au:=vn (P:=l.prog) (w:=w) (base:=base) F_au T L M_aq G_aq B_aq
  have G_av:=uz (P:=l.prog) (w:=w) (base:=base) F_av T L M_aq G_aq B_aq M_ao G_ao B_ao M_ap G_ap B_ap
  have G_aw:=xJ (P:=l.prog) (w:=w) (base:=base) F_aw T L.nt
  have G_ax:=yI (P:=l.prog) (w:=w) (base:=base) F_ax T L
  have G_ay:=xq (P:=l.prog) (w:=w) (base:=base) F_ay T L
  have G_az:=vo (P:=l.prog) (w:=w) (base:=base) F_az T G_ac D_ac
  have G_ba:=qS (P:=l.prog) (w:=w) (base:=base) F_ba T L M_ax G_ax B_ax M_ah G_ah B_ah G_az D_az G_ae D_ae
  have G_bb:=rn (P:=l.prog) (w:=w) (base:=base) F_bb T Z_all
  have G_bc:=rj (P:=l.prog) (w:=w) (base:=base) F_bc T mLETTERS G_bb D_bb
  have G_bd:=mj (P:=l.prog) (w:=w) (base:=base) F_bd T Z_str mFIGURES G_bb D_bb
  have G_be:=rq (P:=l.prog) (w:=w) (base:=base) F_be T G_bd D_bd
  have G_bf:=nR (P:=l.prog) (w:=w) (base:=base) F_bf T G_be D_be
  have G_bg:=uS (P:=l.prog) (w:=w) (base:=base) F_bg T LW G_bc D_bc G_be D_be G_bf D_bf
  have G_bh:=yV (P:=l.prog) (w:=w) (base:=base) F_bh T LW SF sF mFORMS M_bg G_bg B_bg
  have G_bi:=qZ (P:=l.prog) (w:=w) (base:=base) F_bi T Z_str
  have G_bj:=tD (P:=l.prog) (w:=w) (base:=base) F_bj T LW
  have G_bk:=vR (P:=l.prog) (w:=w) (base:=base) F_bk T LW L M_ay G_ay B_ay
  have G_bl:=vb (P:=l.prog) (w:=w) (base:=base) F_bl T L M_ar G_ar B_ar M_as G_as B_as M_at G_at B_at M_av G_av B_av M_au G_au B_au
  have G_bm:=rS (P:=l.prog) (w:=w) (base:=base) F_bm T LW L Z_str G_ba D_ba G_bl D_bl G_bi D_bi M_aw G_aw B_aw M_ax G_ax B_ax M_bk G_bk B_bk
  have G_bn:=zb (P:=l.prog) (w:=w) (base:=base) F_bn T LW L mC M_am G_am B_am M_bh G_bh B_bh M_bj G_bj B_bj M_bm G_bm B_bm
  have G_bo:=gG (P:=l.prog) (w:=w) (base:=base) F_bo T LW
  have G_bp:=wI (P:=l.prog) (w:=w) (base:=base) F_bp T Z_max Z_min
  have G_bq:=wR (P:=l.prog) (w:=w) (base:=base) F_bq T G_bp D_bp
  have G_br:=xD (P:=l.prog) (w:=w) (base:=base) F_br T
  have G_bs:=uA (P:=l.prog) (w:=w) (base:=base) F_bs T
  have G_bt:=wZ (P:=l.prog) (w:=w) (base:=base) F_bt T
  have G_bu:=wA (P:=l.prog) (w:=w) (base:=base) F_bu T G_bs D_bs
  have G_bv:=rP (P:=l.prog) (w:=w) (base:=base) F_bv T
  have G_bw:=qW (P:=l.prog) (w:=w) (base:=base) F_bw T G_bv D_bv G_bu D_bu
  have G_bx:=rD (P:=l.prog) (w:=w) (base:=base) F_bx T G_bv D_bv G_bs D_bs
  have G_by:=vW (P:=l.prog) (w:=w) (base:=base) F_by T G_bt D_bt G_bx D_bx
  have G_bz:=ub (P:=l.prog) (w:=w) (base:=base) F_bz T G_by D_by G_bx D_bx G_bw D_bw G_bu D_bu
  have G_ca:=qN (P:=l.prog) (w:=w) (base:=base) F_ca T G_bp D_bp
  have G_cb:=vH (P:=l.prog) (w:=w) (base:=base) F_cb T G_bp D_bp G_bq D_bq G_ca D_ca
  have G_cc:=ss (P:=l.prog) (w:=w) (base:=base) F_cc T Z_str
  have G_cd:=uj (P:=l.prog) (w:=w) (base:=base) F_cd T LW FO mCC mCN xCCC xCNC xCNN M_bn G_bn B_bn
  have G_ce:=xE (P:=l.prog) (w:=w) (base:=base) F_ce T Z_str
  have G_cf:=xx (P:=l.prog) (w:=w) (base:=base) F_cf T LW FO Z_str M_bn G_bn B_bn G_bp D_bp
  exact zj F_cg T Z_str LW FO mC2 M_bo G_bo B_bo M_bn G_bn B_bn G_bp D_bp G_bq D_bq G_br D_br G_cb D_cb G_bz D_bz G_ce D_ce G_cc D_cc G_cd D_cd G_cf D_cf
theorem walk {l:OpenLaw}{q:Program}{loose:List Str}{XP:(Str->Option Value)->Heap->Prop}{YP:World->Heap->Prop}{d:DefRec}{K:Params->Frag}(hn:l.most=some 63)(hdf:d.params.defaults=[])
  (hY:∀(w:World) (h:Heap),YP w h->(K w.params).In h)
  (F:∀(w:World) (mg:Str->Option Value) (fa:Addr) (h:Heap),(K w.params).In h->h.Ns mainGlobals mg->mg d.name=some (.ref fa) ->
   ∃ fd:FuncData,(∀(s:Shared) (u:Value),BindsTo s fd ⟨[u],[]⟩ [("script",u)])/\∀base:Heap,(K w.params).In base->base.Ns mainGlobals mg->av l.prog w (K w.params) mg base CX0 11 fa fd ["script"] (pV (K w.params))) :
  W.WalkO q loose XP YP l.row.toRowW d [] (fun f vs=>PySem.call f vs) :=
 L2.walk_of (n:=63) (k:=11) (x:="script") (CX:=fun _=>CX0) (sp:=fun w=>pV (K w.params)) hn AW hdf ⟨rfl,AW,AW⟩ hY F (fun _ _ a ns hl _ hS=>⟨a,ns,rfl,hS,hl,fun _=>rfl⟩) fun _ _ _ _ _ z=>z
end
end Kx
section
open PySem PySem.W PyProof.Rows L2
set_option maxRecDepth 100000 in
set_option maxHeartbeats 0 in
theorem PySem.Challenge.cw_lategone_k35_desk_heaps_holds : PySem.Challenge.rw_lategone_k35_desk_heaps.Holds := by
 w_on;o_law;k_head;(case hw=>w_witness2)
 k_fill
 refine Kx.walk (l:=PySem.Challenge.rw_lategone_k35_desk_heaps) rfl rfl (fun w h Y=>W.kIn_of Y) ?F
 case F =>
  intro w mg fa h KX G hmg
  refine' Kx.all_mk KX G hmg ?aC ?aCB ?aC2 ?aCC ?aCN ?h_aa ?h_ab ?h_ac ?h_ad ?h_ae ?h_af ?h_ag ?h_ah ?h_ai ?h_aj ?h_ak ?h_al ?h_am ?h_an ?h_ao ?h_ap ?h_aq ?h_ar ?h_as ?h_at ?h_au ?h_av ?h_aw ?h_ax ?h_ay ?h_az ?h_ba ?h_bb ?h_bc ?h_bd ?h_be ?h_bf ?h_bg ?h_bh ?h_bi ?h_bj ?h_bk ?h_bl ?h_bm ?h_bn ?h_bo ?h_bp ?h_bq ?h_br ?h_bs ?h_bt ?h_bu ?h_bv ?h_bw ?h_bx ?h_by ?h_bz ?h_ca ?h_cb ?h_cc ?h_cd ?h_ce ?h_cf ?a_cg ?l_cg ?c_cg ?k_cg ?z_len ?z_sum ?z_abs ?z_range ?z_list ?z_tuple ?z_int ?z_bool ?z_sorted ?z_isinstance ?z_max ?z_min ?z_all ?z_str ?pg ?hd ?po ?sa ?mk ?kc ?ga ?rd ?pg2 ?hd2 ?po2 ?sa2 ?mk2 ?kc2 ?n2_there ?n2_stamp ?n2_heaps ?n2_joined ?n_there ?n_stamp ?n_slack ?n_entries ?n_looks ?a_LETTERS ?a_FIGURES ?aF ?lF ?sF ?lq0 ?lq1 ?lq2 ?lq3 ?lq4 ?lq5 ?lq6 ?lq7 ?lq8 ?lq9 ?bC ?bN ?clCC ?tpCC ?clCN ?tpCN ?sCCCC ?sCNCC ?sCNCN ?xCC ?xCN
  (case aC|aCB|aC2|aCC|aCN=>k_is)
  (case h_aa|h_ab|h_ac|h_ad|h_ae|h_af=>(refine' dfI ?a ?l ?c ?k);(case a=>k_is);(case l=>k_is);(case c=>k_is);(case k=>k_is))
  (case h_ag=>(refine' bsI ?a ?l ?c ?k);(case a=>k_is);(case l=>k_is);(case c=>k_is);(case k=>k_is))
  (case h_ah|h_ai|h_aj|h_ak|h_al|h_am|h_an|h_ao|h_ap|h_aq|h_ar|h_as|h_at|h_au|h_av|h_aw|h_ax|h_ay=>(refine' mtI ?a ?i ?l ?c ?k);(case a=>k_is);(case i=>k_is);(case l=>k_is);(case c=>k_is);(case k=>k_is))
  (case h_az|h_ba|h_bb|h_bc|h_bd|h_be|h_bf=>(refine' dfI ?a ?l ?c ?k);(case a=>k_is);(case l=>k_is);(case c=>k_is);(case k=>k_is))
  (case h_bg|h_bh=>(refine' mtI ?a ?i ?l ?c ?k);(case a=>k_is);(case i=>k_is);(case l=>k_is);(case c=>k_is);(case k=>k_is))
  (case h_bi=>(refine' dfI ?a ?l ?c ?k);(case a=>k_is);(case l=>k_is);(case c=>k_is);(case k=>k_is))
  (case h_bj|h_bk=>(refine' mtI ?a ?i ?l ?c ?k);(case a=>k_is);(case i=>k_is);(case l=>k_is);(case c=>k_is);(case k=>k_is))
  (case h_bl=>(refine' dfI ?a ?l ?c ?k);(case a=>k_is);(case l=>k_is);(case c=>k_is);(case k=>k_is))
  (case h_bm|h_bn|h_bo=>(refine' mtI ?a ?i ?l ?c ?k);(case a=>k_is);(case i=>k_is);(case l=>k_is);(case c=>k_is);(case k=>k_is))
  (case h_bp|h_bq|h_br|h_bs|h_bt|h_bu|h_bv|h_bw|h_bx|h_by|h_bz|h_ca|h_cb|h_cc|h_cd|h_ce|h_cf=>(refine' dfI ?a ?l ?c ?k);(case a=>k_is);(case l=>k_is);(case c=>k_is);(case k=>k_is))
  (case a_cg|l_cg|c_cg|k_cg|z_len|z_sum|z_abs|z_range|z_list|z_tuple|z_int|z_bool|z_sorted|z_isinstance|z_max|z_min|z_all|z_str|pg|hd|po|sa|mk|kc|ga|rd|pg2|hd2|po2|sa2|mk2|kc2|n2_there|n2_stamp|n2_heaps|n2_joined|n_there|n_stamp|n_slack|n_entries|n_looks|a_LETTERS|a_FIGURES|aF|lF=>k_is)
  (case sF=>decide)
  (case lq0|lq1|lq2|lq3|lq4|lq5|lq6|lq7|lq8|lq9|bC|bN|clCC|tpCC|clCN|tpCN|sCCCC|sCNCC|sCNCN=>k_is)
  (case xCC=>k_exc)
  (case xCN=>k_exc)
#print axioms PySem.Challenge.cw_lategone_k35_desk_heaps_holds
end
