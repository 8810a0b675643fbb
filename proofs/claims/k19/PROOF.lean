import PyProof.Rows.All
import Wide.All
import OpenK.AllK
import Wide.FinOn
import Lean
import PyProof.EqAt
import PyProof.EqKinds
import PyProof.TupleCall
import PyProof.LongRange
import KE.KDictLaws
import KE.KDictList
import KE.KDictOf
import KE.KDictSum
import KE.KEqDict
import KE.KTryMore
import KE.LcSums
import PyProof.AttrMissHeap
import PyProof.ConsumeWalk
import PyProof.DictValues
import PyProof.DictWalks
import PyProof.EnumMake
import PyProof.MaxThree
import PyProof.Rows.RuleIs
import PyProof.Rows.SetFrom
import PyProof.Rows.SortKey
import PyProof.Rows.SortRuns
import PyProof.Rows.SortShellK
import PyProof.RulesTry
import PyProof.SetRoads
import PyProof.StrBlockI
import PyProof.StrCalls2
import PyProof.StrLawsJoin
import PyProof.WalkInts
import PyProof.WalksEnum
import PySem.Challenge.RW_lategone_k19_whole_ledgers_told_otherwis
set_option Elab.async false
set_option linter.all false
set_option maxRecDepth 100000
set_option maxHeartbeats 4000000

namespace PySem.W.Fast
def tw7647534150969485352:=0
def tw8399652797166408881:=0
def tw4838150821927429075:=0
def tw1002498811234335240:=0
def tw1792975523020259526:=0
def tw16440584145316798156:=0
def tw16618092286931593842:=0
def tw18195398351043822279:=0
def tw7960870329606801903:=0
def tw1196446029440029108:=0
def tw6094951791125797828:=0
def tw3544794029960086593:=0
def tw9174865446710139622:=0
def tw1858140356742765514:=0
def tw2033238496304711576:=0
def tw10667827041219314799:=0
def tw10135579833294010721:=0
def tw5933048651500693802:=0
def tw14099315583671748626:=0
def tw17612685387151404628:=0
def tw15149203936967581963:=0
def tw3435396536392232262:=0
def tw5650422218725469076:=0
def tw8673006018179933379:=0
def tw10940966608807449636:=0
def tw8167796000706925967:=0
def tw10729672341829471315:=0
def tw1439149035107360352:=0
def tw5239050963222973372:=0
def tw7719498337870226696:=0
def tw9977994438843772188:=0
def tw12488297232339379279:=0
def tw1285890198258092139:=0
def tw10154217604984617772:=0
def tw8976103086857634550:=0
def tw12568649431583755687:=0
def tw14384962938218812843:=0
def tw11396815315796816633:=0
def tw14231323912579695880:=0
def tw4481829265148135641:=0
def tw4986525379443622781:=0
def tw18022610957705761761:=0
def tw946727966400440650:=0
def tw2537432180409663240:=0
def tw8582767927999502116:=0
def tw18238724523696245940:=0
def tw13442732899673067724:=0
def tw15877947875913361562:=0
def tw14073415381786625753:=0
def tw1131792442755108245:=0
def tw12915056268333567821:=0
def tw14205097006550717739:=0
def tw2877052148268507949:=0
def tw13383541114371260574:=0
def tw9604299663931070020:=0
def tw4823390329486454631:=0
def tw1917243258636845076:=0
def tw11744659694595490641:=0
def tw15189768117002192788:=0
def tw9423561671123487246:=0
def tw14782278776462107932:=0
def tw4550167501597002919:=0
def tw1388287289200756727:=0
def tw15598303309442555624:=0
def tw11841390074324582431:=0
def tw3144681792686948716:=0
def tw13201399219514907698:=0
def tw13856750068888527645:=0
def tw669098717668192650:=0
def tw13432926554215342056:=0
def tw14763828428348604956:=0
def tw8769426828173429931:=0
def tw17885847178722785981:=0
def tw17444439201186615505:=0
def tw183703529532417398:=0
def tw11634325589955744754:=0
def tw1861619884492685356:=0
def tw6073300315527870603:=0
def tw14949008468801578867:=0
def tw8999526488527485890:=0
def tw10851903151852102701:=0
def tw15362924576465870111:=0
def tw10700054349825135843:=0
def tw7258675865120496489:=0
def tw8666083736783895496:=0
def tw16927765188200746647:=0
def tw15128685406614540938:=0
def tw11160437623297395208:=0
def tw18363250077839819468:=0
def tw12103133174521740174:=0
def tw10163422725467112611:=0
def tw6163988127569113430:=0
def tw679272789169596693:=0
def tw13338544057431380311:=0
def tw13443636125944817689:=0
def tw7916548019258089457:=0
def tw17688158737106677023:=0
def tw13297088132473356856:=0
def tw2046913358752682315:=0
def tw1456350191484638767:=0
def tw12149427371331458204:=0
def tw13271228459050692150:=0
def tw2613281252005928091:=0
def tw10984019327852157639:=0
def tw5123965557395818821:=0
def tw11382887304116485927:=0
def tw17187358555902855433:=0
def tw9054388151432984345:=0
def tw5742259119202815387:=0
def tw8864658907595160868:=0
def tw13560041534293340794:=0
def tw6442803102382488205:=0
def tw1152577649371162108:=0
def tw16032565498083848488:=0
def tw2860077633557332256:=0
def tw3749053055567480825:=0
def tw16990376235201824569:=0
def tw12417311313959626062:=0
def tw12188311620553612434:=0
def tw1191506174612149857:=0
def tw15712371192004237326:=0
def tw3108470707943725973:=0
def tw7469298079220326290:=0
def tw638380314056800188:=0
def tw17229476661731347027:=0
def tw14606754794004990941:=0
def tw6845425521678542600:=0
def tw2650816242944292668:=0
def tw10362843672362429037:=0
def tw17697677098271964941:=0
def tw4342159567457936520:=0
def tw14454805102629942216:=0
def tw5417675060532270188:=0
def tw2402459874278123989:=0
def tw4184049142931417650:=0
def tw8936472343201032821:=0
def tw5286189092812902012:=0
def tw12495181505273838360:=0
def tw5293078567349822212:=0
def tw16187580244328656466:=0
def tw4926121999814904576:=0
def tw4037217714246197596:=0
def tw9945757334588973939:=0
def tw15423848164840136189:=0
def tw11270172766443680125:=0
def tw12701861000751895543:=0
def tw7954379335774766291:=0
def tw1097127713562266858:=0
def tw4187667418273416245:=0
def tw6873735974416038532:=0
def tw10172631787907047041:=0
def tw15472929386542797517:=0
def tw15811524999238876449:=0
def tw3976401363807113148:=0
def tw12751423914077684807:=0
def tw9069126001406447911:=0
def tw12762276634913807333:=0
def tw12603549024104119521:=0
def tw11036967599518418620:=0
def tw7847507167718168730:=0
def tw11424760204863492232:=0
def tw2922054984186654593:=0
def tw6907845794424802080:=0
def tw6491193485340390957:=0
def tw16779517073426221269:=0
def tw7589022001840462510:=0
def tw18249824746178852790:=0
def tw15511156491492720356:=0
def tw4690297825628540487:=0
def tw5875158881359572167:=0
def tw6304492632186457312:=0
def tw9593167536034114141:=0
def tw11956903222913670542:=0
def tw3858744425414944454:=0
def tw16371602138051552700:=0
def tw17985928001044832081:=0
def tw7168005939386146253:=0
def tw12555985836042764253:=0
def tw18275098940758148396:=0
def tw12740275661730474521:=0
def tw9923652339244526307:=0
def tw6406826676987078243:=0
def tw13280248598022567018:=0
def tw3156520310096202540:=0
def tw14569798505144958547:=0
def tw1026949174093275603:=0
def tw8114446527133598068:=0
def tw4223426890094795164:=0
def tw7791629882298794760:=0
def tw8222652922097530112:=0
def tw8024102011142806476:=0
def tw771684626812508175:=0
def tw17574281425464948069:=0
def tw1010016138224107054:=0
def tw17780929289144795907:=0
def tw13422701310191145832:=0
def tw7647253567531664557:=0
def tw3778992724707438609:=0
def tw18044649910072916753:=0
def tw16093514909000981255:=0
def tw17073102159942970759:=0
def tw16038378832351474818:=0
def tw4847945896766916259:=0
def tw17835214855532949016:=0
def tw8981586663214648260:=0
def tw2382445605812718453:=0
def tw16585351941238246862:=0
def tw2666584379767490495:=0
def tw6718056830203446004:=0
def tw11208838164117024235:=0
def tw12182812943471595982:=0
def tw6781724246605351664:=0
def tw10492013102540416811:=0
def tw17180302768400093654:=0
def tw6266781711410447986:=0
def tw8818451042008310780:=0
def tw7308836482785019010:=0
def tw8848327545705743728:=0
def tw1161812353715351227:=0
def tw14302060337850970921:=0
def tw14393732617644396617:=0
def tw6335639520166259749:=0
end PySem.W.Fast
section
end
variable {Q E Q₁:PySem.Value->PySem.Shared->Prop}{fd fdn fdsweep_if_due fdfirst_there fda fdw fde fdneed fdenter fdcut:PySem.FuncData}{pins pins':List (PySem.Addr×PySem.Obj)}{i n j lo kt ep nrem:Nat}{f a C l p l1 l2 D fn fsweep_if_due i1 i2 ffirst_there fa fneed fenter fe fcut:PySem.Addr}{s s':PySem.Shared}{K:PySem.W.Frag}{cap:List Nat}{x qual m:PySem.Str}{A:PySem.Around}{w:PySem.World}{pos apos cpos pos' px:PySem.Pos}{h h' base:PySem.Heap}{z:Int}{us vs its':List PySem.Value}{u:PySem.Value}{items its ys:Array PySem.Value}{scope:PySem.Scope}{ifs elts:List PySem.Expr}{tg iter e elt value:PySem.Expr}{es es' es1:Array (Int×PySem.Value)}{NB ps ns N O loose os:List PySem.Str}{mg mA:PySem.Str->Option PySem.Value}{b b1 b2 L left:Bool}{use:Option (PySem.Value->PySem.Sem Unit)}{o oT:PySem.Obj}{st:PySem.Stmt}{kw:List (PySem.Str×PySem.Value)}{rows:List (Int×Int)}{ks:List (PySem.Str×Int)}{osl:Array (Option PySem.Value)}{YP:PySem.World->PySem.Heap->Prop}{ch fp:List PySem.Addr}{prog q:PySem.Program}{ms wm gs:List Int}{env:PySem.Env}{outer:List PySem.Env}{body:List PySem.Stmt}{hi:Option Int}{B:Prop}
def gV:=@PySem.wpAny_bind
def tx:=@List.getElem?_eq_getElem
def Ap:=@PySem.Heap.get?_push_of_some
def Aq:=@PySem.wpAny_pure
def Ar:=@List.length_map
def As:=@List.length_append
def Au:=@List.getElem?_eq_some_iff
def Av:=@Nat.le_refl
def Aw:=@List.mem_cons
def Ax:=@List.not_mem_nil
def Ay:=@if_neg
def Az:=@if_pos
def AA:=@PySem.Heap.lt_size
def AB:=@List.append_assoc
def AC:=@PyProof.Rows.wpS_bind
def AD:=@List.getD_eq_getElem?_getD
def AE:=@Bool.false_eq_true
def AF:=@PySem.Heap.get?_push_size
def AG:=@List.getElem?_append_right
def AH:=@List.mem_cons_of_mem
def AI:=@List.size_toArray
def AJ:=@Nat.ne_of_lt
def AK:=@List.mem_map
def AL:=@Bool.false_ne_true
def AM:=@PyProof.Rows.wpS_pure
def AN:=@List.map_cons
def AO:=@decide_eq_true
def AQ:=@List.mem_of_getElem?
def AR:=@decide_eq_false
def AS:=@List.getElem?_map
def AU:=@List.mem_append
def AV:=@Nat.le_trans
def AW:=@List.getElem?_append_left
def AX:=@List.mem_cons_self
def AY:=@List.length_eq_zero_iff
def AZ:=@PySem.F.plainAttrs_list
def A0:=@List.length_take
def A1:=@List.map_append
def A2:=@Nat.lt_of_lt_of_le
def A3:=@PySem.F.slot_list_append
def A4:=@PySem.F.type_list_append
def A5:=@List.getElem?_toArray
def A6:=@List.take_of_length_le
def A7:=@PySem.wpAny_holding
def A8:=@List.length_cons
def A9:=@List.pairwise_append
def Ba:=@List.getElem_of_mem
def Bb:=@List.take_append_drop
def Bc:=@of_decide_eq_true
def Be:=@Option.some.inj
def Bf:=@Array.length_toList
def Bg:=@or_false
def Bh:=@List.mem_singleton
def Bi:=@List.mem_append_right
def Bj:=@Nat.lt_of_le_of_lt
def Bk:=@PySem.Paired.length
def Bm:=@PySem.wpAny_callSpecial?_slot
def Bn:=@List.drop_eq_getElem_cons
def Bo:=@if_false
def Bp:=@PySem.wpAny_call_entry
def Bq:=@Bool.and_eq_true
def Br:=@PySem.wpAny_setField_rec
def Bt:=@PyProof.Rows.callWith_type1
def Bu:=@List.length_drop
def Bv:=@PySem.wpAny_newObj_type
def Bw:=@decide_eq_true_eq
def Bx:=@List.take_length
def By:=@List.length_range
def Bz:=@PySem.PassesOwn.never
def BA:=@Nat.zero_le
def BB:=@PySem.Heap.size_push
def BC:=@Array.getElem?_eq_getElem
def BD:=@Nat.ne_of_gt
def BE:=@List.getElem_mem
def BF:=@List.any_eq_true
def BG:=@Array.toList_push
def BH:=@List.take_sublist
def BI:=@PySem.wpAny_field
def BJ:=@PyProof.Rows.slot_tuple_getitem
def BK:=@List.find?_cons
def BL:=@List.pairwise_map
def BM:=@PyProof.Rows.wpS_forRange
def BN:=@List.perm_append_comm
def BO:=@List.getElem?_eq_none
def BP:=@List.append_nil
def BQ:=@Int.toNat_natCast
def BR:=@List.take_add_one
def BS:=@List.mem_of_mem_take
def BU:=@PySem.Around.under_plainId
def BV:=@Option.map_eq_some_iff
def BW:=@beq_eq_false_iff_ne
def BX:=@Nat.le_succ
def BY:=@List.nodup_cons
def BZ:=@List.length_filter_le
def B0:=@PySem.wpAny_seqItems
def B5:=@PySem.wpAny_rule
def B6:=@List.drop_sublist
def B7:=@Nat.lt_succ_of_lt
def B8:=@List.length_dropLast
def B9:=@List.mem_range
def Ca:=@Bool.eq_iff_iff
def Cb:=@List.lookup_cons
def Cc:=@Nat.le_add_right
def Cd:=@Sum.inr.inj
def Ce:=@List.mem_filter
def Cf:=@PySem.codeAny_builtin
def Cg:=@beq_self_eq_true
def Ci:=@List.cons_append
def Cj:=@List.filter_cons
def Ck:=@Array.perm_iff_toList_perm
def Cn:=@PySem.wpAny_mono
def Co:=@List.pairwise_iff_getElem
def Cp:=@PySem.strLen_append
def Cq:=@List.length_set
def Cr:=@Array.getElem?_toList
def Cs:=@PySem.Calls.spliced_cons
def Ct:=@List.Pairwise.imp_of_mem
def Cu:=@Nat.lt_succ_self
def Cv:=@List.take_append_of_le_length
def Cw:=@Decidable.of_not_not
def Cy:=@List.mem_append_left
def Cz:=@PySem.lookup_relabel_local
def CA:=@List.pairwise_singleton
def CD:=@Nat.lt_irrefl
def CF:=@List.map_map
def CG:=@PyProof.Rows.F.plain_set_update_loop
def CH:=@PySem.Calls.spliced_nil
def CI:=@PySem.wpAny_pyIter_list
def CJ:=@PyProof.Rows.KeyOrd.kle_refl
def CK:=@List.drop_eq_nil_of_le
def CL:=@if_true
def CM:=@List.nodup_iff_pairwise_ne
def CO:=@List.Perm.append_left
def CP:=@List.map_nil
def CQ:=@PySem.plainId_quiet
def CS:=@PySem.builtinLookup_eq_fast
def CT:=@List.drop_zero
def CU:=@PyProof.Rows.wpS_mono
def CV:=@PySem.Heap.get?_push_ne
def CY:=@List.forIn_cons
def CZ:=@PySem.wpAny_passesOwn
def C0:=@PySem.F.slot_str_getitem
def C1:=@PySem.wpAny_setState_of
def C4:=@List.range_succ
def C5:=@Array.eq_empty_of_size_eq_zero
def C6:=@Nat.le_of_lt
def C7:=@PySem.codeAny_mono
def C8:=@PySem.wpAny_typeOf
def C9:=@Nat.lt_trans
def Da:=@PySem.mem_of_lookup
def Dc:=@PySem.wpAny_getItem_str_slice
def Dd:=@List.length_take_le
def De:=@PySem.wpAny_pyNext_list_item
def Dg:=@PySem.Heap.get?_update_other
def Dh:=@PySem.Calls.callWith_builtin
def Di:=@List.length_pos_of_mem
def Dj:=@List.getElem?_take
def Dk:=@List.zip_cons_cons
def Dl:=@PySem.wpAny_Call_Name_kw
def Dm:=@PySem.tupleKind_room_in1
def Do:=@List.foldl_cons
def Dp:=@Nat.sub_self
def Dq:=@PySem.wpAny_pyNext_list_end
def Dr:=@PySem.Heap.get?_update_self
def Ds:=@PySem.wpAny_ite_split
def Dt:=@PyProof.Rows.KeyOrd.kle_of_klt
def Du:=@PySem.wpAny_attempt
def Dv:=@PyProof.Rows.wpS_modify
def Dw:=@Bool.not_true
def Dx:=@List.getElem_drop
def Dy:=@PySem.wpAny_truthy_bool
def Dz:=@beq_iff_eq
def DB:=@List.any_cons
def DC:=@List.nodup_append
def DD:=@PySem.fits_of_scanBound
def DE:=@Array.getElem?_eq_some_iff
def DF:=@List.mem_of_mem_drop
def DG:=@List.take_zero
def DH:=@PySem.wpAny_newTuple
def DI:=@PySem.Calls.call_function_entry
def DJ:=@List.forIn_nil
def DK:=@List.mem_take_iff_getElem
def DL:=@PyProof.Rows.F.entry_set_update_loop
def DM:=@List.mem_or_eq_of_mem_set
def DN:=@PyProof.Rows.KeyOrd.kle_trans
def DO:=@List.mem_reverse
def DP:=@PySem.Heap.size_update
def DQ:=@List.getElem_inj
def DR:=@PySem.wpAny_isInstance
def DS:=@Array.toList_append
def DT:=@List.map_congr_left
def DU:=@PySem.Heap.SameBut.update
def DV:=@List.length_erase_of_mem
def DW:=@List.getElem?_drop
def DX:=@List.nil_append
def DY:=@List.getElem?_cons_succ
def DZ:=@List.length_nil
def D0:=@PySem.wpAny_execs_nil
def D1:=@List.filter_map
def Ea:=@PySem.typeLookup_type
def Eb:=@List.append_cancel_left
def Ec:=@Array.getElem?_eq_none
def Ed:=@List.getElem_take
def Ee:=@bne_self_eq_false
def Ef:=@List.eraseIdxIfInBounds_toArray
def Eg:=@Option.isSome_map
def Eh:=@List.foldl_append
def Ei:=@List.drop_drop
def Ej:=@List.Perm.refl
def Ek:=@PyProof.Rows.pairsOf_toList
def El:=@PyProof.Rows.pairsOf_size
def Em:=@PyProof.Rows.callWith_builtin1
def Eo:=@PySem.F.slot_dict_get
def Ep:=@List.map_set
def Er:=@PySem.Txt.slice_le
def Es:=@List.cons_lt_cons_iff
def Et:=@PySem.F.slot_list_pop
def Eu:=@PySem.F.type_list_pop
def Ew:=@Nat.succ_le_succ
def Ex:=@PySem.Calls.evalArgs_plain
def Ey:=@PySem.wpAny_updateSeq_pair
def Ez:=@PySem.wpAny_standAt
def EA:=@List.dropLast_concat_getLast
def EB:=@List.dropLast_cons_of_ne_nil
def EC:=@Bool.and_true
def ED:=@PyProof.Rows.wpS_get
def EE:=@List.filterMap_cons
def EF:=@Ne.symm
def EG:=@List.length_zip
def EH:=@PySem.post_val_or_str
def EI:=@List.replicate_succ
def EJ:=@List.length_zipWith
def EK:=@PySem.Calls.Name_function_global
def EL:=@PySem.wpAny_pyIter_tuple
def EM:=@PyProof.Rows.mem_zip_self
def EN:=@List.drop_left
def EO:=@List.take_left
def ER:=@List.getElem?_zip_eq_some
def ET:=@List.getElem?_eq_none_iff
def EU:=@PySem.F.slot_dict_getitem
def EV:=@List.nodup_nil
def EW:=@PySem.isSubtype_stop
def EX:=@Option.isNone_iff_eq_none
def EY:=@PySem.Value.isInt_shape
def EZ:=@PySem.wpAny_assign_Name
def E1:=@PySem.typeIs_str
def E2:=@PySem.Heap.SameBut.refl
def E3:=@List.filter_congr
def E4:=@List.take_append_getElem
def E5:=@List.take_add
def E6:=@PySem.wpAny_newList
def E7:=@List.getLast_eq_getElem
def E8:=@PySem.F.args_dict_get_2
def E9:=@PySem.F.plainAttrs_dict
def Fb:=@PySem.wpAny_onRaise
def Fc:=@List.zipIdx_cons
def Fd:=@PySem.SeqAt.eq_tupleAt
def Fe:=@Array.toList_map
def Ff:=@List.all_eq_true
def Fg:=@PySem.wpAny_pyIter_zip
def Fh:=@PySem.wpAny_askSetting
def Fi:=@decide_eq_decide
def Fj:=@List.getElem?_set_self
def Fk:=@PySem.F.entry_dict_get
def Fl:=@List.pairwise_lt_range
def Fm:=@List.length_eq_one_iff
def Fn:=@List.Perm.of_eq
def Fo:=@List.pairwise_reverse
def Fp:=@List.of_mem_zip
def Fq:=@List.length_replicate
def Fs:=@PySem.SeqAt.EqAt.same
def Ft:=@Bool.or_eq_true
def Fu:=@PySem.F.slot_dict_pop
def Fv:=@PySem.wpAny_specialOf
def Fw:=@PySem.Heap.DictOf.new
def Fx:=@List.cons.injEq
def Fy:=@Nat.succ.inj
def Fz:=@List.dropLast_sublist
def FA:=@PyProof.Rows.wpS_lift
def FB:=@PySem.call_meets
def FC:=@Nat.not_lt
def FD:=@List.getElem?_set_ne
def FE:=@List.getElem?_of_mem
def FH:=@List.mem_erase_of_ne
def FI:=@List.length_eraseIdx
def FJ:=@PySem.isSubtype_type
def FK:=@PySem.entryFor_alias
def FL:=@Array.toList_modify
def FM:=@PySem.sizeLine_eq
def FN:=@Int.toNat_of_nonneg
def FO:=@List.filter_sublist
def FP:=@List.map_eq_nil_iff
def FQ:=@List.getElem?_range
def FR:=@Int.lt_irrefl
def FS:=@List.take_nil
def FT:=@List.Pairwise.imp₂
def FU:=@List.map_take
def FV:=@getElem?_pos
def FX:=@Nat.zero_add
def FY:=@Nat.le_of_eq
theorem L2.sz0:0<=PySem.sizeLine:=by decide
theorem L2.sz1:1<=PySem.sizeLine:=by decide
theorem L2.sz14:14<=PySem.sizeLine:=by decide
theorem L2.sz2:2<=PySem.sizeLine:=by decide
theorem L2.sz3:3<=PySem.sizeLine:=by decide
theorem L2.sz4:4<=PySem.sizeLine:=by decide
theorem L2.sz5:5<=PySem.sizeLine:=by decide
theorem L2.sz8:8<=PySem.sizeLine:=by decide
theorem Aj {p:Prop}(h:p:=by decide +kernel):p:=h
theorem Ak {p:Prop}(h:p:=by decide):p:=h
theorem Am {p:Prop}(h:p:=by lia):p:=h
theorem An {p:Prop}(h:p:=by simp):p:=h
theorem Ao {α:Type _}{a b:α}(h:a∈[b]):a=b:=List.mem_singleton.mp h
namespace TS
open PySem PyProof.Rows
def gal:Bool->Keyed->Array Keyed->Nat->Nat->Nat->StateT SortSt Sem (Option Nat):=sortPriv% PySem.Builtin.gallop
def mLo:Array Keyed->Array Keyed->StateT SortSt Sem (Array Keyed):=sortPriv% PySem.Builtin.mergeLo
def mHi:Array Keyed->Array Keyed->StateT SortSt Sem (Array Keyed):=sortPriv% PySem.Builtin.mergeHi
def zK:Nat->StateT SortSt Sem Unit:=sortPriv% PySem.Builtin.setMinGallop
def kf (J:KeyKind)(p:Keyed):J.α:=(J.keyOf p.1).getD J.dflt
def Lb (J:KeyKind)(p q:Keyed):Bool:=J.blt (kf J p) (kf J q)
def Le (J:KeyKind)(p q:Keyed):Prop:=Lb J q p=false
section ord
variable {J:KeyKind}{p q r:Keyed}
theorem Le.refl (p:Keyed):Le J p p:=J.irrefl _
theorem Le.trans (h:Le J p q)(h':Le J q r):Le J p r:=DN (O:=J.toKeyOrd) h h'
theorem Le.of_lt (h:Lb J p q=true):Le J p q:=Dt (O:=J.toKeyOrd) h
theorem zn (h:Le J p q)(h':Lb J q r=true):Lb J p r=true:=KeyOrd.klt_of_kle_of_klt (O:=J.toKeyOrd) h h'
end ord
structure Cmp (prog:Program)(w:World)(A:Around)(s:Shared)(J:KeyKind)(kd:SortKind)(a₀:Array Keyed):Prop where
 on:∀x y:Keyed,x∈a₀.toList->y∈a₀.toList->∀(E:Value->Shared->Prop) (Q:Bool->Shared->Prop),Q (Lb J x y) s->wpAny (model prog w) A (keyLt' kd x.1 y.1) Q E s
structure SB (kd:SortKind)(a₀:Array Keyed)(st:SortSt):Prop where
 perm:(arrOf st).Perm a₀
 kind:kindOf st=kd
 fail:failedOf st=none
theorem wS {J:KeyKind}{xs:Array Keyed}{p:Keyed}(h:xs[i]?=some p):KK J xs i=kf J p:=by
 unfold KK;rw [h];rfl
section
variable {kd:SortKind}{a₀:Array Keyed}{st:SortSt}{J:KeyKind}
theorem SB.size (B:SB kd a₀ st):(arrOf st).size=a₀.size:=B.perm.size_eq
theorem SB.at (B:SB kd a₀ st)(h:i<a₀.size):∃ p,(arrOf st)[i]?=some p/\p∈a₀.toList/\KK J (arrOf st) i=kf J p:=by
 have h':i<(arrOf st).size:=by rw [B.size];exact h
 have e:(arrOf st)[i]?=some (arrOf st)[i]:=FV _ i h'
 exact ⟨_,e,(Ck.mp B.perm).mem_iff.mp An,wS e⟩
theorem SB.arr (B:SB kd a₀ st){xs:Array Keyed}(h:xs.Perm (arrOf st)):SB kd a₀ (setArr st xs):=⟨h.trans B.perm,B.kind,B.fail⟩
end
section
variable {prog:Program}{w:World}{A:Around}{E:Value->Shared->Prop}{s:Shared}{J:KeyKind}{kd:SortKind}{a₀:Array Keyed}{st:SortSt}
theorem a8 {arr:Array Keyed}{p:Keyed}{Q:Keyed->SortSt->Prop}(h:arr[i]?=some p)(q:Q p st):wpS (model prog w) A E s (elem' arr i) Q st:=by
 rw [elem'_eq,h];exact AM q
theorem ug (C:Cmp prog w A s J kd a₀){x y:Keyed}{Q:Option Bool->SortSt->Prop}(hx:x∈a₀.toList)(hy:y∈a₀.toList)(hk:kindOf st=kd)(q:Q (some (Lb J x y)) st):
  wpS (model prog w) A E s (lt' x y) Q st:=by
 rw [lt'_eq]
 refine AC (ED ?_)
 rw [hk]
 refine AC (FA (Du (C.on x y hx hy _ _ ⟨rfl,?_⟩)))
 exact AM q
theorem iT (C:Cmp prog w A s J kd a₀)(B:SB kd a₀ st){Q:Option Bool->SortSt->Prop}(hi:i<a₀.size)(hj:j<a₀.size)(q:Q (some (J.blt (KK J (arrOf st) i) (KK J (arrOf st) j))) st):wpS (model prog w) A E s (ltAt' i j) Q st:=by
 obtain ⟨x,ex,mx,kx⟩:=B.at (J:=J) hi
 obtain ⟨y,ey,my,ky⟩:=B.at (J:=J) hj
 rw [ltAt'_eq]
 refine AC (ED ?_)
 show wpS _ _ _ _ (do let x <-elem' (arrOf st) i;let y <-elem' (arrOf st) j;lt' x y) Q st
 refine AC (a8 ex (AC (a8 ey (ug C mx my B.kind ?_))))
 rw [kx,ky] at q;exact q
def Up (J:KeyKind)(xs:Array Keyed)(lo n:Nat):Prop:=∀i j,lo<=i->i<=j->j<lo+n->J.kle (KK J xs i) (KK J xs j)
def Dn (J:KeyKind)(xs:Array Keyed)(lo n:Nat):Prop:=∀i j,lo<=i->i<=j->j<lo+n->J.kle (KK J xs j) (KK J xs i)
def Kp (lo:Nat)(xs ys:Array Keyed):Prop:=∀k,k<lo->xs[k]?=ys[k]?
theorem Kp.trans {x y z:Array Keyed}(a:Kp lo x y)(b:Kp lo y z):Kp lo x z:=fun k h=>(a k h).trans (b k h)
theorem Kp.refl {x:Array Keyed}:Kp lo x x:=fun _ _=>rfl
theorem dE {xs:Array Keyed}(hj:j<=xs.size)(hl:lo<=i):Kp lo (mirror xs i j ((j-i) / 2)) xs:=fun k h=>by
 rw [getElem?_mirror_all hj,Ay Am]
theorem qm {xs:Array Keyed}{src d:Nat}(hs:src<xs.size)(hd:d<=src)(hl:lo<=src-d):Kp lo (bubble xs src d) xs:=fun k h=>by
 rw [getElem?_bubble hs d hd,Ay Am,Ay Am]
theorem xt {xs:Array Keyed}:Up J xs lo 1:=fun i j a b c=>by
 have e:i=j:=by lia
 subst e;exact CJ _
theorem Up.snoc {xs:Array Keyed}(h:Up J xs lo n)(h1:1<=n)(h2:J.blt (KK J xs (lo+n)) (KK J xs (lo+n-1))=false):Up J xs lo (n+1):=fun i j a b c=>by
 by_cases hj:j<lo+n
 .exact h i j a b hj
 have e:j=lo+n:=by lia
 subst e
 by_cases hi:i=lo+n
 .subst hi;exact CJ _
 exact DN (h i (lo+n-1) a Am Am) h2
theorem Dn.snoc {xs:Array Keyed}(h:Dn J xs lo n)(h1:1<=n)(h2:J.kle (KK J xs (lo+n)) (KK J xs (lo+n-1))):Dn J xs lo (n+1):=fun i j a b c=>by
 by_cases hj:j<lo+n
 .exact h i j a b hj
 have e:j=lo+n:=by lia
 subst e
 by_cases hi:i=lo+n
 .subst hi;exact CJ _
 exact DN h2 (h i (lo+n-1) a Am Am)
theorem Dn.same {xs ys:Array Keyed}(h:Dn J xs lo n)(e:∀k,KK J ys k=KK J xs k):Dn J ys lo n:=fun i j a b c=>by rw [e,e];exact h i j a b c
theorem Dn.turn {xs:Array Keyed}(h:Dn J xs lo n)(hs:lo+n<=xs.size):Up J (mirror xs lo (lo+n) ((lo+n-lo) / 2)) lo n:=fun i j a b c=>by
 rw [KK_mirror hs,KK_mirror hs,Az Am,Az Am]
 exact h _ _ Am Am Am
def Run (J:KeyKind)(kd:SortKind)(a₀:Array Keyed)(lo nrem:Nat)(st₀:SortSt)(m:Nat)(st:SortSt):Prop :=
 SB kd a₀ st/\pendingOf st=pendingOf st₀/\Kp lo (arrOf st) (arrOf st₀)/\1<=m/\m<=nrem/\Up J (arrOf st) lo m
theorem dG {Q:Unit->SortSt->Prop}(h:Q () (setArr st (mirror (arrOf st) i j ((j-i) / 2)))):wpS (model prog w) A E s (reverseSlice' i j) Q st:=by
 rw [reverseSlice'_eq];exact Dv h
abbrev C2:=Option (Option Nat)×Nat
abbrev C3:=Option (Option Nat)×Nat×Nat
def clb (lo n nrem:Nat):StateT SortSt Sem C2 :=
 forIn [n:nrem] ((none,n):C2) fun _ c=>ltAt' (lo+c.2) (lo+c.2-1) >>= fun x=>match x with
  | some b=>if b=true then pure (ForInStep.done (none,c.2)) else pure (ForInStep.yield (none,c.2+1))
  | _=>pure (ForInStep.done (some none,c.2))
def trn (lo m nrem:Nat):StateT SortSt Sem (Option Nat) :=
 reverseSlice' lo (lo+m) >>= fun _=>clb lo m nrem >>= fun d=>match d.1 with
  | some r=>pure r
  | none=>pure (some d.2)
def fll (lo n nrem:Nat):StateT SortSt Sem C3 :=
 forIn [n:nrem] ((none,n,0):C3) fun _ c=>ltAt' (lo+c.2.1) (lo+c.2.1-1) >>= fun x=>match x with
  | some b=>if b=true then
     if c.2.2>0 then reverseSlice' (lo+c.2.1-(c.2.2+1)) (lo+c.2.1) >>= fun _=>pure (ForInStep.yield (none,c.2.1+1,0))
     else pure (ForInStep.yield (none,c.2.1+1,0))
    else ltAt' (lo+c.2.1-1) (lo+c.2.1) >>= fun y=>match y with
     | some b'=>if b'=true then pure (ForInStep.done (none,c.2.1,c.2.2)) else pure (ForInStep.yield (none,c.2.1+1,c.2.2+1))
     | _=>pure (ForInStep.done (some none,c.2.1,c.2.2))
  | _=>pure (ForInStep.done (some none,c.2.1,c.2.2))
def fpt (lo n nrem:Nat):StateT SortSt Sem (Option Nat) :=
 liftM (rule "list.sort.descending-run") >>= fun _=>fll lo (n+1) nrem >>= fun c=>match c.1 with
  | some r=>pure r
  | none=>if c.2.2>0 then reverseSlice' (lo+c.2.1-(c.2.2+1)) (lo+c.2.1) >>= fun _=>trn lo c.2.1 nrem else trn lo c.2.1 nrem
theorem yb (lo nrem:Nat):countRun' lo nrem=clb lo 1 nrem >>= fun c=>match c.1 with
  | some r=>pure r
  | none=>if (c.2 == nrem)=true then pure (some c.2) else
    if c.2>1 then ltAt' lo (lo+c.2-1) >>= fun x=>match x with
     | some b=>if b=true then pure (some c.2) else reverseSlice' lo (lo+c.2) >>= fun _=>fpt lo c.2 nrem
     | _=>pure none
    else fpt lo c.2 nrem:=by
 have leaf:∀n,(liftM (rule "list.sort.descending-run") >>= fun _=>forIn [n+1:nrem] ((none,n+1,0):C3) (fun _ c=>ltAt' (lo+c.2.1) (lo+c.2.1-1) >>= fun x=>match x with
  | some b=>if b=true then
     if c.2.2>0 then reverseSlice' (lo+c.2.1-(c.2.2+1)) (lo+c.2.1) >>= fun _=>pure (ForInStep.yield (none,c.2.1+1,0))
     else pure (ForInStep.yield (none,c.2.1+1,0))
    else ltAt' (lo+c.2.1-1) (lo+c.2.1) >>= fun y=>match y with
     | some b'=>if b'=true then pure (ForInStep.done (none,c.2.1,c.2.2)) else pure (ForInStep.yield (none,c.2.1+1,c.2.2+1))
     | _=>pure (ForInStep.done (some none,c.2.1,c.2.2))
  | _=>pure (ForInStep.done (some none,c.2.1,c.2.2))) >>= fun c=>match c.1 with
  | some r=>pure r
  | none=>if c.2.2>0 then reverseSlice' (lo+c.2.1-(c.2.2+1)) (lo+c.2.1) >>= fun _=>trn lo c.2.1 nrem else trn lo c.2.1 nrem)=fpt lo n nrem:=fun n=>rfl
 rw [countRun'_eq]
 dsimp only
 unfold clb
 congr 1
 funext c
 obtain ⟨r,n⟩:=c
 cases r with
 | some r=>rfl
 | none =>
  dsimp only
  split
  .rfl
  .split
   .congr 1
    funext x
    cases x with
    | none=>rfl
    | some b =>
     dsimp only
     split
     .rfl
     .congr 1
      funext _
      rw [<-leaf n]
      congr 1;funext _;congr 1;funext c;obtain ⟨r,m,q⟩:=c
      cases r with
      | some r=>rfl
      | none =>
       dsimp only
       unfold trn clb
       split
       .congr 1;funext _;congr 1;funext _;congr 1;funext d;obtain ⟨r,m⟩:=d;cases r <;> rfl
       .congr 1;funext _;congr 1;funext d;obtain ⟨r,m⟩:=d;cases r <;> rfl
   .rw [<-leaf n]
    congr 1;funext _;congr 1;funext c;obtain ⟨r,m,q⟩:=c
    cases r with
    | some r=>rfl
    | none =>
     dsimp only
     unfold trn clb
     split
     .congr 1;funext _;congr 1;funext _;congr 1;funext d;obtain ⟨r,m⟩:=d;cases r <;> rfl
     .congr 1;funext _;congr 1;funext d;obtain ⟨r,m⟩:=d;cases r <;> rfl
theorem wG (C:Cmp prog w A s J kd a₀)(B:SB kd a₀ st){Q:C2->SortSt->Prop}(hn:lo+nrem=a₀.size)(h1:1<=n)(h2:n<=nrem)(u:Up J (arrOf st) lo n)(k:∀m,n<=m->m<=nrem->Up J (arrOf st) lo m->(m=nrem∨J.blt (KK J (arrOf st) (lo+m)) (KK J (arrOf st) (lo+m-1))=true)->Q (none,m) st):
  wpS (model prog w) A E s (clb lo n nrem) Q st:=by
 unfold clb
 refine BM (I:=fun x c st'=>st'=st/\c=(none,x)/\Up J (arrOf st) lo x) ?_ ?_ ⟨rfl,rfl,u⟩
 .rintro x c st' ha hb ⟨rfl,rfl,u'⟩
  dsimp only
  refine AC (iT C B Am Am ?_)
  cases e:J.blt (KK J (arrOf st') (lo+x)) (KK J (arrOf st') (lo+x-1)) with
  | true=>simp only [CL];exact AM (k x ha Am u' (.inr e))
  | false=>simp only [AE,Bo];exact AM ⟨rfl,rfl,u'.snoc Am e⟩
 rintro c st' ⟨rfl,rfl,u'⟩
 rw [show max n nrem=nrem by lia] at u' ⊢
 exact k nrem h2 (Av _) u' (.inl rfl)
theorem wu (C:Cmp prog w A s J kd a₀)(B:SB kd a₀ st){st0:SortSt}{m:Nat}{Q:Option Nat->SortSt->Prop}(hn:lo+nrem=a₀.size)(p:pendingOf st=pendingOf st0)(kp:Kp lo (arrOf st) (arrOf st0))(hm1:1<=m)(hm2:m<=nrem)(d2:Dn J (arrOf st) lo m)(h:∀m st',Run J kd a₀ lo nrem st0 m st'->Q (some m) st'):wpS (model prog w) A E s (trn lo m nrem) Q st:=by
 unfold trn
 have sz:lo+m<=(arrOf st).size:=by rw [B.size];lia
 refine AC (dG ?_)
 have B3:SB kd a₀ (setArr st (mirror (arrOf st) lo (lo+m) ((lo+m-lo) / 2))):=B.arr (mirror_perm _ _ _ _)
 refine AC (wG C B3 hn hm1 hm2 (d2.turn sz) fun x hx1 hx2 ux _=>?_)
 exact AM (h x _ ⟨B3,p,(dE sz (Av _)).trans kp,Am,hx2,ux⟩)
theorem wY (C:Cmp prog w A s J kd a₀)(B:SB kd a₀ st){st0:SortSt}{Q:Option Nat->SortSt->Prop}(hn:lo+nrem=a₀.size)(p:pendingOf st=pendingOf st0)(kp:Kp lo (arrOf st) (arrOf st0))(hn1:1<=n)(hn2:n+1<=nrem)(d:Dn J (arrOf st) lo (n+1))(h:∀m st',Run J kd a₀ lo nrem st0 m st'->Q (some m) st'):wpS (model prog w) A E s (fpt lo n nrem) Q st:=by
 unfold fpt
 refine AC (FA (B5 ⟨rfl,?_⟩))
 refine AC ?_
 unfold fll
 refine CU (BM (I:=fun x c st'=>∃ q,c=(none,x,q)/\SB kd a₀ st'/\pendingOf st'=pendingOf st0/\Kp lo (arrOf st') (arrOf st0)/\Dn J (arrOf st') lo x/\q+1<=x /\
   ∀i,lo+x-(q+1)<=i->i<lo+x->KK J (arrOf st') i=KK J (arrOf st') (lo+x-1))
  (Q:=fun c st'=>∃ x q,c=(none,x,q)/\1<=x/\x<=nrem/\SB kd a₀ st'/\pendingOf st'=pendingOf st0/\Kp lo (arrOf st') (arrOf st0)/\Dn J (arrOf st') lo x/\q+1<=x /\
   ∀i,lo+x-(q+1)<=i->i<lo+x->KK J (arrOf st') i=KK J (arrOf st') (lo+x-1)) ?_ ?_ ⟨0,rfl,B,p,kp,d,Am,fun i a b=>by congr 1;lia⟩) ?_
 .rintro x c st' ha hb ⟨q,rfl,B',p',k',d',hq,he⟩
  dsimp only
  have sz:lo+x<=(arrOf st').size:=by rw [B'.size];lia
  refine AC (iT C B' Am Am ?_)
  cases e:J.blt (KK J (arrOf st') (lo+x)) (KK J (arrOf st') (lo+x-1)) with
  | true =>
   simp only [CL]
   have d2:Dn J (arrOf st') lo (x+1):=d'.snoc Am (Dt e)
   by_cases hq0:q>0
   .rw [Az hq0]
    refine AC (dG (AM ⟨0,rfl,B'.arr (mirror_perm _ _ _ _),p',(dE sz Am).trans k',d2.same (KK_mirror_equal sz he),Am,fun i a b=>by congr 1;lia⟩))
   .rw [Ay hq0]
    exact AM ⟨0,rfl,B',p',k',d2,Am,fun i a b=>by congr 1;lia⟩
  | false =>
   simp only [AE,Bo]
   refine AC (iT C B' Am Am ?_)
   cases e2:J.blt (KK J (arrOf st') (lo+x-1)) (KK J (arrOf st') (lo+x)) with
   | true=>simp only [CL];exact AM ⟨x,q,rfl,Am,Am,B',p',k',d',hq,he⟩
   | false =>
    simp only [AE,Bo]
    have eq1:KK J (arrOf st') (lo+x)=KK J (arrOf st') (lo+x-1):=J.total _ _ e e2
    refine AM ⟨q+1,rfl,B',p',k',d'.snoc Am (by rw [eq1];exact CJ _),Am,fun i a b=>?_⟩
    rw [show lo+(x+1)-1=lo+x by lia]
    by_cases hi:i=lo+x
    .rw [hi]
    .rw [eq1];exact he i Am Am
 .rintro c st' ⟨q,rfl,B',p',k',d',hq,he⟩
  rw [show max (n+1) nrem=nrem by lia] at d' hq he ⊢
  exact ⟨nrem,q,rfl,Am,Av _,B',p',k',d',hq,he⟩
 rintro c st' ⟨x,q,rfl,hx1,hx2,B',p',k',d',hq,he⟩
 dsimp only
 have sz:lo+x<=(arrOf st').size:=by rw [B'.size];lia
 by_cases hq0:q>0
 .rw [Az hq0]
  exact AC (dG (wu C (B'.arr (mirror_perm _ _ _ _)) hn p' ((dE sz Am).trans k') hx1 hx2 (d'.same (KK_mirror_equal sz he)) h))
 rw [Ay hq0]
 exact wu C B' hn p' k' hx1 hx2 d' h
theorem vK (C:Cmp prog w A s J kd a₀)(B:SB kd a₀ st){Q:Option Nat->SortSt->Prop}(hn:lo+nrem=a₀.size)(h1:1<=nrem)(h:∀m st',Run J kd a₀ lo nrem st m st'->Q (some m) st'):wpS (model prog w) A E s (countRun' lo nrem) Q st:=by
 rw [yb]
 refine AC (wG C B hn (Av _) h1 xt fun n hn1 hn2 u or=>?_)
 dsimp only
 by_cases hnn:n=nrem
 .rw [Az (by simpa using hnn)]
  exact AM (h n st ⟨B,rfl,Kp.refl,hn1,hn2,u⟩)
 rw [Ay (by simpa using hnn)]
 have lt:=or.resolve_left hnn
 by_cases hg:n>1
 .rw [Az hg]
  refine AC (iT C B Am Am ?_)
  cases e:J.blt (KK J (arrOf st) lo) (KK J (arrOf st) (lo+n-1)) with
  | true=>simp only [CL];exact AM (h n st ⟨B,rfl,Kp.refl,hn1,hn2,u⟩)
  | false =>
   simp only [AE,Bo]
   have sz:lo+n<=(arrOf st).size:=by rw [B.size];lia
   have all:∀k,lo<=k->k<lo+n->KK J (arrOf st) k=KK J (arrOf st) (lo+n-1):=fun k a b =>
    KeyOrd.kle_antisymm (u k (lo+n-1) a Am Am) (DN e (u lo k (Av _) a b))
   refine AC (dG (wY C (B.arr (mirror_perm _ _ _ _)) (st0:=st) hn rfl (dE sz (Av _)) hn1 Am ?_ h))
   refine Dn.same (xs:=arrOf st) (Dn.snoc (fun i j a b c=>?_) hn1 (Dt lt)) (KK_mirror_equal sz all)
   rw [all i a Am,all j Am c];exact CJ _
 rw [Ay hg]
 have e1:n=1:=by lia
 subst e1
 refine wY C B hn rfl Kp.refl (Av _) Am (Dn.snoc (fun i j a b c=>?_) (Av _) (Dt lt)) h
 have e:i=j:=by lia
 subst e;exact CJ _
theorem y9 (C:Cmp prog w A s J kd a₀)(B:SB kd a₀ st){ok:Nat}{Q:Bool->SortSt->Prop}(hn:lo+n<=a₀.size)(hok:ok<=n)(h1:1<=ok)(u:Up J (arrOf st) lo ok)(h:∀st',SB kd a₀ st'->pendingOf st'=pendingOf st->Kp lo (arrOf st') (arrOf st)->Up J (arrOf st') lo n->Q true st'):wpS (model prog w) A E s (binarySort' lo n ok) Q st:=by
 rw [binarySort'_eq]
 refine AC (CU (BM (I:=fun k c st'=>c=(none,())/\SB kd a₀ st'/\pendingOf st'=pendingOf st/\Kp lo (arrOf st') (arrOf st)/\Up J (arrOf st') lo (min k n))
  (Q:=fun c st'=>c=(none,())/\SB kd a₀ st'/\pendingOf st'=pendingOf st/\Kp lo (arrOf st') (arrOf st)/\Up J (arrOf st') lo n) ?_ ?_ ⟨rfl,B,rfl,Kp.refl,?_⟩) ?_)
 .rintro k c st' ha hb ⟨rfl,B',p',k',u'⟩
  rw [show min k n=k by lia] at u'
  refine AC (CU (BM (I:=fun x c st2=>st2=st'/\∃ l r,c=(none,l,r)/\l<=r/\r<=k/\r-l<=k-x /\
    (∀i,i<l->J.kle (KK J (arrOf st') (lo+i)) (KK J (arrOf st') (lo+k)))/\∀i,r<=i->i<k->J.klt (KK J (arrOf st') (lo+k)) (KK J (arrOf st') (lo+i)))
   (Q:=fun c st2=>st2=st'/\∃ l r,c=(none,l,r)/\l<=k /\
    (∀i,i<l->J.kle (KK J (arrOf st') (lo+i)) (KK J (arrOf st') (lo+k)))/\∀i,l<=i->i<k->J.klt (KK J (arrOf st') (lo+k)) (KK J (arrOf st') (lo+i))) ?_ ?_
   ⟨rfl,0,k,rfl,Am,Am,Am,fun i hi=>by lia,fun i a b=>by lia⟩) ?_)
  .rintro x c st2 _ hx ⟨rfl,l,r,rfl,h1',h2',h3',a,b⟩
   dsimp only
   by_cases hg:l ≥ r
   .rw [Az hg]
    have e:l=r:=by lia
    subst e
    exact AM ⟨rfl,l,l,rfl,h2',a,b⟩
   .rw [Ay hg]
    refine AC (iT C B' Am Am ?_)
    cases e:J.blt (KK J (arrOf st2) (lo+k)) (KK J (arrOf st2) (lo+(l+r) / 2)) with
    | true =>
     simp only [CL]
     refine AM ⟨rfl,l,(l+r) / 2,rfl,Am,Am,Am,a,fun i c d=>?_⟩
     exact KeyOrd.klt_of_klt_of_kle e (u' _ _ Am Am Am)
    | false =>
     simp only [AE,Bo]
     refine AM ⟨rfl,(l+r) / 2+1,r,rfl,Am,Am,Am,fun i c=>?_,b⟩
     exact DN (u' (lo+i) (lo+(l+r) / 2) Am Am Am) (show J.kle _ _ from e)
  .rintro c st2 ⟨rfl,l,r,rfl,h1',h2',h3',a,b⟩
   have e:l=r:=by lia
   subst e
   exact ⟨rfl,l,l,rfl,h2',a,b⟩
  .rintro c st2 ⟨rfl,l,r,rfl,hl,a,b⟩
   show wpS _ _ _ _ (moveDown' (lo+k) (lo+l) >>= fun _=>pure (ForInStep.yield (none,()))) _ _
   rw [moveDown'_eq]
   have sz:lo+k<(arrOf st2).size:=by rw [B'.size];lia
   refine AC (Dv (AM ⟨rfl,B'.arr (bubble_perm _ _ _),p',(qm sz Am Am).trans k',?_⟩))
   rw [show min (k+1) n=k+1 by lia]
   intro i j hi hij hj
   show J.kle (KK J (bubble (arrOf st2) (lo+k) (lo+k-(lo+l))) i) (KK J (bubble (arrOf st2) (lo+k) (lo+k-(lo+l))) j)
   rw [KK_bubble sz Am,KK_bubble sz Am,show lo+k-(lo+k-(lo+l))=lo+l by lia]
   have a':∀i,lo<=i->i<lo+l->J.kle (KK J (arrOf st2) i) (KK J (arrOf st2) (lo+k)):=fun i c d=>by
    have:=a (i-lo) Am
    rwa [show lo+(i-lo)=i by lia] at this
   have b':∀i,lo+l<=i->i<lo+k->J.kle (KK J (arrOf st2) (lo+k)) (KK J (arrOf st2) i):=fun i c d=>by
    have:=Dt (b (i-lo) Am Am)
    rwa [show lo+(i-lo)=i by lia] at this
   repeat' split
   all_goals first
    | (exfalso;lia)
    | exact CJ _
    | exact a' _ Am Am
    | exact b' _ Am Am
    | exact u' _ _ Am Am Am
 .rintro c st' ⟨hc,B',p',k',u'⟩
  refine ⟨hc,B',p',k',?_⟩
  rwa [show min (max (max ok 1) n) n=n by lia] at u'
 .rw [show min (max ok 1) n=ok by lia];exact u
 rintro c st' ⟨rfl,B',p',k',u'⟩
 exact AM (h st' B' p' k' u')
def bey (J:KeyKind)(left:Bool)(key:Keyed)(p:Keyed):Bool:=if left then Lb J p key else !Lb J key p
theorem rF {key p q:Keyed}(h:bey J left key q=true)(l:Le J p q):bey J left key p=true:=by
 unfold bey at *
 cases left with
 | true=>simp only [CL] at *;exact zn l h
 | false =>
  simp only [AE,Bo,Bool.not_eq_true',Bool.not_eq_eq_eq_not,Dw] at *
  exact Le.trans (p:=p) l h
theorem yN (C:Cmp prog w A s J kd a₀)(hk:kindOf st=kd){key:Keyed}{arr:Array Keyed}{base hint:Nat}{Q:Option Nat->SortSt->Prop}(hkey:key∈a₀.toList)(f:Nat->Keyed)(hf:∀i,i<n->arr[base+i]?=some (f i)/\f i∈a₀.toList)(up:∀i j,i<=j->j<n->Le J (f i) (f j))(hh:hint<n)(h:∀k,k<=n->(∀i,i<k->bey J left key (f i)=true)->(∀i,k<=i->i<n->bey J left key (f i)=false)->Q (some k) st):wpS (model prog w) A E s (gal left key arr base n hint) Q st:=by
 have one:∀i,i<n->∀R:Option Bool->SortSt->Prop,R (some (bey J left key (f i))) st->wpS (model prog w) A E s (elem' arr (base+i) >>= fun x=>if left=true then lt' x key else lt' key x >>= fun r=>pure (Option.map (fun b=>!b) r)) R st:=by
  intro i hi R r
  obtain ⟨e,m⟩:=hf i hi
  refine AC (a8 e ?_)
  cases left with
  | true=>simp only [CL];exact ug C m hkey hk r
  | false=>simp only [AE,Bo];exact AC (ug C hkey m hk (AM r))
 have dn:∀i j,i<=j->j<n->bey J left key (f j)=true->bey J left key (f i)=true:=fun i j a b c=>rF c (up i j a b)
 have no:∀i j,i<=j->j<n->bey J left key (f i)=false->bey J left key (f j)=false:=fun i j a b c=>by
  cases e:bey J left key (f j) with
  | false=>rfl
  | true=>rw [dn i j a b e] at c;cases c
 show wpS (model prog w) A E s (gal left key arr base n hint) Q st
 refine AC (one hint hh _ ?_)
 dsimp only
 cases e:bey J left key (f hint) with
 | true =>
  simp only [CL]
  refine AC (CU (BM (I:=fun x c st'=>st'=st/\∃ la o,c=(none,la,o)/\la<o/\x<o/\hint+la<n/\bey J left key (f (hint+la))=true)
   (Q:=fun c st'=>st'=st/\∃ la o,c=(none,la,o)/\la<o/\hint+la<n/\bey J left key (f (hint+la))=true/\(n-hint<=o∨bey J left key (f (hint+o))=false)) ?_ ?_ ⟨rfl,0,1,rfl,Am,Am,Am,e⟩) ?_)
  .rintro x c st' _ hx ⟨rfl,la,o,rfl,h1,h2,h3,h4⟩
   dsimp only
   by_cases hg:o ≥ n-hint
   .rw [Az hg]
    exact AM ⟨rfl,la,o,rfl,h1,h3,h4,.inl hg⟩
   .rw [Ay hg]
    refine AC (one _ Am _ ?_)
    cases e2:bey J left key (f (hint+o)) with
    | true =>
     simp only [Dw,AE,Bo]
     exact AM ⟨rfl,o,2*o+1,rfl,Am,Am,Am,e2⟩
    | false =>
     simp only [Bool.not_false,CL]
     exact AM ⟨rfl,la,o,rfl,h1,h3,h4,.inr e2⟩
  .rintro c st' ⟨rfl,la,o,rfl,h1,h2,h3,h4⟩
   exact ⟨rfl,la,o,rfl,h1,h3,h4,.inl Am⟩
  .rintro c st' ⟨rfl,la,o,rfl,h1,h3,h4,h5⟩
   have q1:hint+la+1<=hint+min o (n-hint):=by lia
   have q2:hint+min o (n-hint)<=n:=by lia
   have q3:∀i,i<hint+la+1->bey J left key (f i)=true:=fun i a=>dn i _ Am h3 h4
   have q4:∀i,hint+min o (n-hint)<=i->i<n->bey J left key (f i)=false:=fun i a b=>by
    rcases h5 with h5 | h5
    .lia
    .exact no _ i Am b h5
   dsimp only
   refine AC (CU (BM (I:=fun x c z=>z=st'/\∃ lo hi,c=(none,lo,hi)/\lo<=hi/\hi<=n/\hi-lo<=n-x/\(∀i,i<lo->bey J left key (f i)=true)/\∀i,hi<=i->i<n->bey J left key (f i)=false)
    (Q:=fun c z=>z=st'/\∃ k,c=(none,k,k)/\k<=n/\(∀i,i<k->bey J left key (f i)=true)/\∀i,k<=i->i<n->bey J left key (f i)=false) ?_ ?_ ⟨rfl,_,_,rfl,q1,q2,Am,q3,q4⟩) ?_)
   .rintro x c st2 _ hx ⟨rfl,lo,hi,rfl,h1,h2,h3,a,b⟩
    dsimp only
    by_cases hg:lo ≥ hi
    .rw [Az hg]
     have e:lo=hi:=by lia
     subst e
     exact AM ⟨rfl,lo,rfl,h2,a,b⟩
    .rw [Ay hg]
     refine AC (one _ Am _ ?_)
     cases e:bey J left key (f (lo+(hi-lo) / 2)) with
     | true =>
      simp only [CL]
      exact AM ⟨rfl,_,_,rfl,Am,Am,Am,fun i c=>dn i _ Am Am e,b⟩
     | false =>
      simp only [AE,Bo]
      exact AM ⟨rfl,_,_,rfl,Am,Am,Am,a,fun i c d=>no _ i c d e⟩
   .rintro c st2 ⟨rfl,lo,hi,rfl,h1,h2,h3,a,b⟩
    have e:lo=hi:=by lia
    subst e
    exact ⟨rfl,lo,rfl,h2,a,b⟩
   .rintro c st2 ⟨rfl,k,rfl,hk,a,b⟩
    exact AM (h k hk a b)
 | false =>
  simp only [AE,Bo]
  refine AC (CU (BM (I:=fun x c st'=>st'=st/\∃ la o,c=(none,la,o)/\la<o/\x<o/\la<=hint/\bey J left key (f (hint-la))=false)
   (Q:=fun c st'=>st'=st/\∃ la o,c=(none,la,o)/\la<o/\la<=hint/\bey J left key (f (hint-la))=false/\(hint+1<=o∨bey J left key (f (hint-o))=true)) ?_ ?_ ⟨rfl,0,1,rfl,Am,Am,Am,e⟩) ?_)
  .rintro x c st' _ hx ⟨rfl,la,o,rfl,h1,h2,h3,h4⟩
   dsimp only
   by_cases hg:o ≥ hint+1
   .rw [Az hg]
    exact AM ⟨rfl,la,o,rfl,h1,h3,h4,.inl hg⟩
   .rw [Ay hg]
    refine AC (one _ Am _ ?_)
    cases e2:bey J left key (f (hint-o)) with
    | true =>
     simp only [CL]
     exact AM ⟨rfl,la,o,rfl,h1,h3,h4,.inr e2⟩
    | false =>
     simp only [AE,Bo]
     exact AM ⟨rfl,o,2*o+1,rfl,Am,Am,Am,e2⟩
  .rintro c st' ⟨rfl,la,o,rfl,h1,h2,h3,h4⟩
   exact ⟨rfl,la,o,rfl,h1,h3,h4,.inl Am⟩
  .rintro c st' ⟨rfl,la,o,rfl,h1,h3,h4,h5⟩
   have q1:hint+1-min o (hint+1)<=hint-la:=by lia
   have q2:hint-la<=n:=by lia
   have q3:∀i,i<hint+1-min o (hint+1)->bey J left key (f i)=true:=fun i a=>by
    rcases h5 with h5 | h5
    .lia
    .exact dn i _ Am Am h5
   have q4:∀i,hint-la<=i->i<n->bey J left key (f i)=false:=fun i a b=>no _ i a b h4
   dsimp only
   refine AC (CU (BM (I:=fun x c z=>z=st'/\∃ lo hi,c=(none,lo,hi)/\lo<=hi/\hi<=n/\hi-lo<=n-x/\(∀i,i<lo->bey J left key (f i)=true)/\∀i,hi<=i->i<n->bey J left key (f i)=false)
    (Q:=fun c z=>z=st'/\∃ k,c=(none,k,k)/\k<=n/\(∀i,i<k->bey J left key (f i)=true)/\∀i,k<=i->i<n->bey J left key (f i)=false) ?_ ?_ ⟨rfl,_,_,rfl,q1,q2,Am,q3,q4⟩) ?_)
   .rintro x c st2 _ hx ⟨rfl,lo,hi,rfl,h1,h2,h3,a,b⟩
    dsimp only
    by_cases hg:lo ≥ hi
    .rw [Az hg]
     have e:lo=hi:=by lia
     subst e
     exact AM ⟨rfl,lo,rfl,h2,a,b⟩
    .rw [Ay hg]
     refine AC (one _ Am _ ?_)
     cases e:bey J left key (f (lo+(hi-lo) / 2)) with
     | true =>
      simp only [CL]
      exact AM ⟨rfl,_,_,rfl,Am,Am,Am,fun i c=>dn i _ Am Am e,b⟩
     | false =>
      simp only [AE,Bo]
      exact AM ⟨rfl,_,_,rfl,Am,Am,Am,a,fun i c d=>no _ i c d e⟩
   .rintro c st2 ⟨rfl,lo,hi,rfl,h1,h2,h3,a,b⟩
    have e:lo=hi:=by lia
    subst e
    exact ⟨rfl,lo,rfl,h2,a,b⟩
   .rintro c st2 ⟨rfl,k,rfl,hk,a,b⟩
    exact AM (h k hk a b)
end
structure Wv (J:KeyKind)(a b out:List Keyed)(ia ib:Nat):Prop where
 perm:out.Perm (a.take ia++b.take ib)
 srt:out.Pairwise (Le J)
 la:∀x∈out,∀y∈a.drop ia,Le J x y
 lb:∀x∈out,∀y∈b.drop ib,Le J x y
def Pst (J:KeyKind)(a b r:List Keyed):Prop:=r.Perm (a++b)/\r.Pairwise (Le J)
section
variable {J:KeyKind}{a b out:List Keyed}{ia ib:Nat}
theorem Wv.swap (h:Wv J a b out ia ib):Wv J b a out ib ia:=⟨h.perm.trans BN,h.srt,h.lb,h.la⟩
theorem Wv.app (h:Wv J a b out ia ib)(sb:b.Pairwise (Le J))(k:Nat)(hle:∀x∈(b.drop ib).take k,∀y∈a.drop ia,Le J x y):Wv J a b (out++(b.drop ib).take k) ia (ib+k):=by
 have sd:(b.drop ib).Pairwise (Le J):=sb.sublist (B6 _ _)
 have e:b.drop ib=(b.drop ib).take k++b.drop (ib+k):=by rw [<-Ei,Bb]
 have sd2:((b.drop ib).take k++b.drop (ib+k)).Pairwise (Le J):=e▸sd
 refine ⟨?_,?_,?_,?_⟩
 .have e2:b.take (ib+k)=b.take ib++(b.drop ib).take k:=E5
  rw [e2,<-AB]
  exact h.perm.append_right _
 .refine A9.mpr ⟨h.srt,(A9.mp sd2).1,fun x hx y hy=>h.lb x hx y (BS hy)⟩
 .intro x hx y hy
  rcases AU.mp hx with hx | hx
  .exact h.la x hx y hy
  .exact hle x hx y hy
 intro x hx y hy
 rcases AU.mp hx with hx | hx
 .exact h.lb x hx y (by rw [e];exact Bi _ hy)
 exact (A9.mp sd2).2.2 x hx y hy
theorem oX {l:List Keyed}{p:Keyed}(h:l[i]?=some p):(l.drop i).take 1=[p]:=by
 obtain ⟨hi,e⟩:=Au.mp h
 rw [Bn hi,e];rfl
theorem bM {l:List Keyed}{x:Keyed}(h:x∈l.drop i):∃ j,i<=j/\l[j]?=some x:=by
 obtain ⟨j,hj,e⟩:=Ba h
 refine ⟨i+j,Am,?_⟩
 rw [Dx] at e
 rw [<-e]
 rw [Bu] at hj
 exact tx Am
theorem b6 (sa:a.Pairwise (Le J)){x y:Keyed}(hx:a[i]?=some x)(hy:a[j]?=some y)(h:i<=j):Le J x y:=by
 obtain ⟨hi,ex⟩:=Au.mp hx
 obtain ⟨hj,ey⟩:=Au.mp hy
 rcases Nat.lt_or_ge i j with q | q
 .have:=Co.mp sa i j hi hj q
  rw [ex,ey] at this;exact this
 have e:i=j:=by lia
 subst e
 rw [ex] at ey;subst ey;exact Le.refl _
theorem Wv.push (h:Wv J a b out ia ib)(sb:b.Pairwise (Le J)){p:Keyed}(hp:b[ib]?=some p)(hle:∀y∈a.drop ia,Le J p y):Wv J a b (out++[p]) ia (ib+1):=by
 have:=h.app sb 1 (by rw [oX hp];intro x hx y hy;rw [Ao hx];exact hle y hy)
 rwa [oX hp] at this
theorem Wv.cat (h:Wv J a b out ia ib){rest:List Keyed}(hp:rest.Perm (a.drop ia++b.drop ib))(hs:rest.Pairwise (Le J)):Pst J a b (out++rest):=by
 refine ⟨?_,A9.mpr ⟨h.srt,hs,fun x hx y hy=>?_⟩⟩
 .have p1:(out++rest).Perm ((a.take ia++b.take ib)++(a.drop ia++b.drop ib)):=h.perm.append hp
  have p2:((a.take ia++b.take ib)++(a.drop ia++b.drop ib)).Perm ((a.take ia++a.drop ia)++(b.take ib++b.drop ib)):=by
   rw [AB,AB]
   refine CO _ ?_
   rw [<-AB,<-AB]
   exact BN.append_right _
  rw [Bb,Bb] at p2
  exact p1.trans p2
 rcases AU.mp (hp.mem_iff.mp hy) with q | q
 .exact h.la x hx y q
 exact h.lb x hx y q
theorem Wv.done (h:Wv J a b out ia ib)(sa:a.Pairwise (Le J))(sb:b.Pairwise (Le J))(hz:a.length<=ia∨b.length<=ib):Pst J a b (out++a.drop ia++b.drop ib):=by
 rw [AB]
 refine h.cat (Ej _) ?_
 rcases hz with z | z
 .rw [CK z];exact sb.sublist (B6 _ _)
 rw [CK z,BP];exact sa.sublist (B6 _ _)
theorem Wv.last (h:Wv J a b out ia ib)(sb:b.Pairwise (Le J))(hz:ia+1=a.length)(hl:∀y∈b,∀x,a[a.length-1]?=some x->Le J y x):Pst J a b (out++b.drop ib++a.drop ia):=by
 rw [AB]
 have ⟨x,ex⟩:∃ x,a[ia]?=some x:=⟨a[ia],tx Am⟩
 have e:a.drop ia=[x]:=by
  obtain ⟨hi,e⟩:=Au.mp ex
  rw [Bn hi,e,CK Am]
 refine h.cat BN ?_
 rw [e]
 refine A9.mpr ⟨sb.sublist (B6 _ _),CA _ _,fun y hy z hz=>?_⟩
 rw [Ao hz]
 exact hl y (DF hy) x (by rw [show a.length-1=ia by lia];exact ex)
end
def St0 (st st':SortSt):Prop:=kindOf st'=kindOf st/\arrOf st'=arrOf st/\pendingOf st'=pendingOf st/\failedOf st'=failedOf st
theorem St0.refl (st:SortSt):St0 st st:=⟨rfl,rfl,rfl,rfl⟩
section
variable {prog:Program}{w:World}{A:Around}{E:Value->Shared->Prop}{s:Shared}{J:KeyKind}{kd:SortKind}{a₀:Array Keyed}{st:SortSt}
theorem fS {g:Nat}{st1:SortSt}{Q:Unit->SortSt->Prop}(hs:St0 st st1)(h:∀st',St0 st st'->Q () st'):wpS (model prog w) A E s (zK g) Q st1:=by
 refine Dv (h _ ?_)
 exact ⟨hs.1,hs.2.1,hs.2.2.1,hs.2.2.2⟩
theorem mi (a:List Keyed)(i k:Nat):(a.toArray.extract i (i+k)).toList=(a.drop i).take k:=by simp
theorem iR (C:Cmp prog w A s J kd a₀)(hk:kindOf st=kd){key:Keyed}{l:List Keyed}{base hint:Nat}{Q:Option Nat->SortSt->Prop}(hkey:key∈a₀.toList)(hm:∀p∈l,p∈a₀.toList)(hs:((l.drop base).take n).Pairwise (Le J))(hb:base+n<=l.length)(hh:hint<n)(h:∀k,k<=n->(∀x∈(l.drop base).take k,bey J left key x=true)->(∀x∈((l.drop base).take n).drop k,bey J left key x=false)->Q (some k) st):
  wpS (model prog w) A E s (gal left key l.toArray base n hint) Q st:=by
 have at':∀i,i<n->∃ p,l[base+i]?=some p:=fun i hi=>⟨l[base+i],tx Am⟩
 have seg:∀i,i<n->((l.drop base).take n)[i]?=l[base+i]?:=fun i hi=>by rw [Dj,Az hi,DW]
 have fe:∀i,i<n->l[base+i]?=some ((l[base+i]?).getD key):=fun i hi=>by
  obtain ⟨p,e⟩:=at' i hi;rw [e];rfl
 refine yN C hk hkey (fun i=>(l[base+i]?).getD key) (fun i hi=>⟨?_,?_⟩) (fun i j hij hj=>?_) hh fun k hk1 hk2 hk3=>h k hk1 (fun x hx=>?_) fun x hx=>?_
 .rw [A5];exact fe i hi
 .exact hm _ (AQ (fe i hi))
 .exact b6 hs ((seg i Am).trans (fe i Am)) ((seg j hj).trans (fe j hj)) hij
 .obtain ⟨i,hi,e⟩:=Ba hx
  have hi':i<k:=by rw [A0] at hi;lia
  have e2:l[base+i]?=some x:=by
   rw [Ed,Dx] at e
   rw [<-e];exact tx Am
  have:=hk2 i hi'
  rw [e2] at this;exact this
 obtain ⟨j,hj,e⟩:=bM hx
 have hjn:j<n:=by
  have:=(Au.mp e).1
  rw [A0] at this;lia
 rw [seg j hjn] at e
 have:=hk3 j hj hjn
 rw [e] at this;exact this
theorem zJ {γ:Type}{P:SortSt->Prop}{c:Nat->StateT SortSt Sem γ}{Q:γ->SortSt->Prop}{G:Prop}(t:∀g x,P x->wpS (model prog w) A E s (c g) Q x)(m:(∀g x,P x->wpS (model prog w) A E s (c g) Q x)->G):G:=m t
theorem vL {γ:Type}{P:Array Keyed->Nat->Prop}{c:Array Keyed->Nat->StateT SortSt Sem γ}{Q:γ->SortSt->Prop}{st4:SortSt}{G:Prop}(t:∀x y,P x y->wpS (model prog w) A E s (c x y) Q st4)(m:(∀x y,P x y->wpS (model prog w) A E s (c x y) Q st4)->G):G:=m t
theorem zd {a b:List Keyed}{Q:Array Keyed->SortSt->Prop}(C:Cmp prog w A s J kd a₀)(hk:kindOf st=kd)(ha:∀p∈a,p∈a₀.toList)(hb:∀p∈b,p∈a₀.toList)(sa:a.Pairwise (Le J))(sb:b.Pairwise (Le J))(na:0<a.length)(nb:0<b.length)(h0:∀p,b[0]?=some p->∀x∈a,Le J p x)(hl:∀y∈b,∀x,a[a.length-1]?=some x->Le J y x)(h:∀r st',St0 st st'->Pst J a b r.toList->Q r st'):wpS (model prog w) A E s (mLo a.toArray b.toArray) Q st:=by
 have atA:∀i,i<a.length->∃ p,a.toArray[i]?=some p/\a[i]?=some p/\p∈a₀.toList:=fun i hi=>⟨a[i],by simp [hi],by simp [hi],ha _ (BE hi)⟩
 have atB:∀i,i<b.length->∃ p,b.toArray[i]?=some p/\b[i]?=some p/\p∈a₀.toList:=fun i hi=>⟨b[i],by simp [hi],by simp [hi],hb _ (BE hi)⟩
 have fD:∀(out:Array Keyed) ia ib,(out++a.toArray.extract ia++b.toArray.extract ib).toList=out.toList++a.drop ia++b.drop ib:=fun out ia ib=>by simp [A6]
 have fL:∀(out:Array Keyed) ia ib,(out++b.toArray.extract ib++a.toArray.extract ia).toList=out.toList++b.drop ib++a.drop ia:=fun out ia ib=>by simp [A6]
 have szA:a.toArray.size=a.length:=by simp
 have szB:b.toArray.size=b.length:=by simp
 obtain ⟨b0,eb,eb',mb⟩:=atB 0 nb
 have w0:Wv J a b [b0] 0 1:=by
  have e:=oX eb'
  rw [CT] at e
  refine ⟨by rw [e];exact Ej _,CA _ _,fun x hx y hy=>?_,fun x hx y hy=>?_⟩
  .rw [Ao hx];exact h0 _ eb' y (by simpa using hy)
  .rw [Ao hx]
   obtain ⟨j,hj,ej⟩:=bM hy
   exact b6 sb eb' ej Am
 refine AC (m:=liftM (rule _)) (FA (B5 ⟨rfl,?_⟩))
 dsimp only
 refine AC (a8 eb ?_)
 by_cases g1:1=b.length
 .rw [Az (by rw [szB];simpa using g1)]
  refine AM (h _ _ (St0.refl _) ?_)
  rw [fD];exact w0.done sa sb (.inr Am)
 rw [Ay (by rw [szB];simpa using g1)]
 by_cases g2:0+1=a.length
 .rw [Az (by rw [szA];simpa using g2)]
  refine AM (h _ _ (St0.refl _) ?_)
  rw [fL];exact w0.last sb g2 hl
 rw [Ay (by rw [szA];simpa using g2)]
 refine AC (ED ?_)
 refine AC (CU (BM (I:=fun x c st'=>∃ out ia ib g,c=(none,out,ia,ib,g)/\Wv J a b out.toList ia ib/\ia+1<a.length/\ib<b.length/\x<ia+ib/\St0 st st')
  (Q:=fun c st'=>∃ r z,c=(some r,z)/\Pst J a b r.toList/\St0 st st') ?_ ?_ ⟨_,0,1,_,rfl,w0,Am,Am,Am,St0.refl _⟩) ?_)
 .rintro x c st1 _ hx ⟨out,ia,ib,g,rfl,W,hia,hib,hm,hs⟩
  dsimp only
  refine AC (CU (BM (I:=fun y c st'=>∃ out' ia' ib' ac bc,c=(none,out',ia',ib',ac,bc)/\Wv J a b out'.toList ia' ib'/\ia'+1<a.length/\ib'<b.length/\y+ia+ib<=ia'+ib'/\St0 st st')
   (Q:=fun c st'=>St0 st st'/\((∃ r z,c=(some r,z)/\Pst J a b r.toList)∨∃ out' ia' ib' ac bc,c=(none,out',ia',ib',ac,bc)/\Wv J a b out'.toList ia' ib'/\ia'+1<a.length/\ib'<b.length/\1+ia+ib<=ia'+ib')) ?_ ?_
   ⟨out,ia,ib,0,0,rfl,W,hia,hib,Am,hs⟩) ?_)
  .rintro y c st2 _ hy ⟨out',ia',ib',ac,bc,rfl,W',hia',hib',hm',hs'⟩
   dsimp only
   obtain ⟨p,ep,ep',mp⟩:=atB ib' hib'
   obtain ⟨q,eq,eq',mq⟩:=atA ia' Am
   refine AC (a8 ep (AC (a8 eq (AC (ug C mp mq (hs'.1.trans hk) ?_)))))
   cases e:Lb J p q with
   | true =>
    simp only [CL]
    refine AC (a8 ep ?_)
    have W2:Wv J a b (out'.push p).toList ia' (ib'+1):=by
     rw [BG]
     refine W'.push sb ep' fun y hy=>?_
     obtain ⟨j,hj,ej⟩:=bM hy
     exact Le.trans (Le.of_lt e) (b6 sa eq' ej hj)
    by_cases g3:ib'+1=b.length
    .rw [Az (by rw [szB];simpa using g3)]
     refine AM ⟨hs',.inl ⟨_,_,rfl,?_⟩⟩
     rw [fD];exact W2.done sa sb (.inr Am)
    .rw [Ay (by rw [szB];simpa using g3)]
     split
     .exact AM ⟨hs',.inr ⟨_,_,_,_,_,rfl,W2,hia',Am,Am⟩⟩
     .exact AM ⟨_,_,_,_,_,rfl,W2,hia',Am,Am,hs'⟩
   | false =>
    simp only [AE,Bo]
    refine AC (a8 eq ?_)
    have W2:Wv J a b (out'.push q).toList (ia'+1) ib':=by
     rw [BG]
     refine (W'.swap.push sa eq' fun y hy=>?_).swap
     obtain ⟨j,hj,ej⟩:=bM hy
     exact Le.trans (show Le J q p from e) (b6 sb ep' ej hj)
    by_cases g3:ia'+1+1=a.length
    .rw [Az (by rw [szA];simpa using g3)]
     refine AM ⟨hs',.inl ⟨_,_,rfl,?_⟩⟩
     rw [fL];exact W2.last sb g3 hl
    .rw [Ay (by rw [szA];simpa using g3)]
     split
     .exact AM ⟨hs',.inr ⟨_,_,_,_,_,rfl,W2,Am,Am,Am⟩⟩
     .exact AM ⟨_,_,_,_,_,rfl,W2,Am,Am,Am,hs'⟩
  .rintro c st2 ⟨out',ia',ib',ac,bc,rfl,W',hia',hib',hm',hs'⟩
   exfalso
   rw [szA,szB] at hm'
   lia
  .rintro c st2 ⟨hs',⟨r,z,rfl,hr⟩ | ⟨out',ia',ib',ac,bc,rfl,W',hia',hib',hm'⟩⟩
   .dsimp only
    exact AM ⟨_,_,rfl,hr,hs'⟩
   .dsimp only
    refine AC (m:=liftM (rule _)) (FA (B5 ⟨rfl,?_⟩))
    refine AC (CU (BM (I:=fun y c st'=>∃ o i j g ac bc,c=(none,o,i,j,g,ac,bc)/\Wv J a b o.toList i j/\i+1<a.length/\j<b.length/\y+ia'+ib'<=i+j/\St0 st st')
     (Q:=fun c st'=>St0 st st'/\((∃ r z,c=(some r,z)/\Pst J a b r.toList)∨∃ o i j g ac bc,c=(none,o,i,j,g,ac,bc)/\Wv J a b o.toList i j/\i+1<a.length/\j<b.length/\ia'+ib'<=i+j)) ?_ ?_
     ⟨out',ia',ib',_,ac,bc,rfl,W',hia',hib',Am,hs'⟩) ?_)
    .rintro y c st3 _ hy ⟨o,i,j,g',ac',bc',rfl,V,hi,hj,hm3,hs3⟩
     dsimp only
     obtain ⟨p,ep,ep',mp⟩:=atB j hj
     refine' zJ (P:=St0 st) ?t0 fun t0=>?m0
     case m0 =>
      by_cases gg:¬ g'>1
      .rw [Ay gg]
       refine AC (fS hs3 fun x hx=>?_)
       generalize g'=g'
       exact t0 g' x hx
      .rw [Az (Cw gg)]
       exact AC (fS hs3 fun x hx=>t0 _ x hx)
     intro g' st4 hs4
     refine AC (a8 ep (AC (iR C (hs4.1.trans hk) mp ha (sa.sublist ((BH _ _).trans (B6 _ _))) (by rw [szA];lia) (by rw [szA];lia) fun k hk1 hk2 hk3=>?_)))
     rw [szA] at hk1 hk3
     rw [A6 (by rw [Bu];lia),Ei] at hk3
     dsimp only
     have hp:∀y∈a.drop (i+k),Le J p y:=fun y hy=>by
      have:=hk3 y hy
      unfold bey at this;exact Le.of_lt (by simpa using this)
     refine' vL (P:=fun o i=>Wv J a b o.toList i j/\i+1<a.length/\y+ia'+ib'<=i+j/\∀y∈a.drop i,Le J p y) ?t1 fun t1=>?m1
     case m1 =>
      by_cases g3:¬ k>0
      .rw [Ay g3]
       rw [show i+k=i by lia] at hp
       have F:=And.intro V (And.intro hi (And.intro hm3 hp))
       generalize o=o,i=i at F ⊢
       exact t1 o i F
      have g3:=Cw g3
      rw [Az g3]
      have V1:Wv J a b (o++a.toArray.extract i (i+k)).toList (i+k) j:=by
       rw [DS,mi]
       refine (V.swap.app sa k fun x hx y hy=>?_).swap
       have:=hk2 x hx
       unfold bey at this
       obtain ⟨jj,hjj,ejj⟩:=bM hy
       exact Le.trans (show Le J x p from (show Lb J p x=false by simpa using this)) (b6 sb ep' ejj hjj)
      by_cases g8:i+k+1=a.length
      .rw [Az (by rw [szA];simpa using g8)]
       refine AM ⟨hs4,.inl ⟨_,_,rfl,?_⟩⟩
       rw [fL];exact V1.last sb g8 hl
      rw [Ay (by rw [szA];simpa using g8)]
      by_cases g9:i+k=a.length
      .rw [Az (by rw [szA];simpa using g9)]
       refine AM ⟨hs4,.inl ⟨_,_,rfl,?_⟩⟩
       rw [fD];exact V1.done sa sb (.inl Am)
      rw [Ay (by rw [szA];simpa using g9)]
      exact t1 _ _ ⟨V1,Am,Am,hp⟩
     clear hp hk1 hk2 hk3 V hi hm3
     rintro o i ⟨V,hi,hm3,hp⟩
     refine AC (a8 ep ?_)
     have V2:Wv J a b (o.push p).toList i (j+1):=by
      rw [BG]
      exact V.push sb ep' hp
     by_cases g4:j+1=b.length
     .rw [Az (by rw [szB];simpa using g4)]
      refine AM ⟨hs4,.inl ⟨_,_,rfl,?_⟩⟩
      rw [fD];exact V2.done sa sb (.inr Am)
     rw [Ay (by rw [szB];simpa using g4)]
     obtain ⟨q,eq,eq',mq⟩:=atA i Am
     generalize o.push p=o at V2 ⊢
     generalize ej:j+1=j1 at V2 g4 ⊢
     refine AC (a8 eq (AC (iR C (hs4.1.trans hk) mq hb (sb.sublist ((BH _ _).trans (B6 _ _))) (by rw [szB];lia) (by rw [szB];lia) fun k' hk1' hk2' hk3'=>?_)))
     rw [szB] at hk1' hk3'
     rw [A6 (by rw [Bu];lia),Ei] at hk3'
     dsimp only
     have hq:∀y∈b.drop (j1+k'),Le J q y:=fun y hy=>by
      have:=hk3' y hy
      unfold bey at this;exact (show Lb J y q=false by simpa using this)
     refine' vL (P:=fun o j'=>Wv J a b o.toList i j'/\j'<b.length/\y+ia'+ib'+1<=i+j'/\∀y∈b.drop j',Le J q y) ?t2 fun t2=>?m2
     case m2 =>
      by_cases g6:¬ k'>0
      .rw [Ay g6]
       rw [show j1+k'=j1 by lia] at hq
       have F:_/\j1<b.length/\y+ia'+ib'+1<=i+j1/\_:=⟨V2,Am,Am,hq⟩
       generalize o=o,j1=j1 at F ⊢
       exact t2 o j1 F
      have g6:=Cw g6
      rw [Az g6]
      have V3:Wv J a b (o++b.toArray.extract j1 (j1+k')).toList i (j1+k'):=by
       rw [DS,mi]
       refine V2.app sb k' fun x hx y hy=>?_
       have:=hk2' x hx
       unfold bey at this
       obtain ⟨jj,hjj,ejj⟩:=bM hy
       exact Le.trans (Le.of_lt (by simpa using this)) (b6 sa eq' ejj hjj)
      by_cases g7:j1+k'=b.length
      .rw [Az (by rw [szB];simpa using g7)]
       refine AM ⟨hs4,.inl ⟨_,_,rfl,?_⟩⟩
       rw [fD];exact V3.done sa sb (.inr Am)
      rw [Ay (by rw [szB];simpa using g7)]
      exact t2 _ _ ⟨V3,Am,Am,hq⟩
     rintro o j' ⟨V3,hj',hm',hq⟩
     refine AC (a8 eq ?_)
     have V4:Wv J a b (o.push q).toList (i+1) j':=by
      rw [BG]
      exact (V3.swap.push sa eq' hq).swap
     by_cases g5:i+1+1=a.length
     .rw [Az (by rw [szA];simpa using g5)]
      refine AM ⟨hs4,.inl ⟨_,_,rfl,?_⟩⟩
      rw [fL];exact V4.last sb g5 hl
     .rw [Ay (by rw [szA];simpa using g5)]
      split
      .exact AM ⟨hs4,.inr ⟨_,_,_,_,_,_,rfl,V4,Am,Am,Am⟩⟩
      .exact AM ⟨_,_,_,_,_,_,rfl,V4,Am,Am,Am,hs4⟩
    .rintro c st3 ⟨o,i,j,g',ac',bc',rfl,V,hi,hj,hm3,hs3⟩
     exfalso
     rw [szA,szB] at hm3
     lia
    .rintro c st3 ⟨hs3,⟨r,z,rfl,hr⟩ | ⟨o,i,j,g',ac',bc',rfl,V,hi,hj,hm3⟩⟩
     .dsimp only
      exact AM ⟨_,_,rfl,hr,hs3⟩
     .dsimp only
      refine AC (fS hs3 fun st4 hs4=>?_)
      exact AM ⟨_,_,_,_,rfl,V,hi,hj,Am,hs4⟩
 .rintro c st1 ⟨out,ia,ib,g,rfl,W,hia,hib,hm,hs⟩
  exfalso
  rw [szA,szB] at hm
  lia
 rintro c st1 ⟨r,z,rfl,hr,hs⟩
 exact AM (h r st1 hs hr)
end
structure Vv (J:KeyKind)(a b out:List Keyed)(na nb:Nat):Prop where
 perm:out.Perm (a.drop na++b.drop nb)
 srt:out.Pairwise (fun x y=>Le J y x)
 la:∀x∈out,∀y∈a.take na,Le J y x
 lb:∀x∈out,∀y∈b.take nb,Le J y x
section
variable {J:KeyKind}{a b out:List Keyed}{na nb:Nat}
theorem Vv.swap (h:Vv J a b out na nb):Vv J b a out nb na:=⟨h.perm.trans BN,h.srt,h.lb,h.la⟩
theorem tH (l:List Keyed)(h:i<=j):l.drop i=(l.drop i).take (j-i)++l.drop j:=by
 have e:l.drop j=(l.drop i).drop (j-i):=by rw [Ei,show i+(j-i)=j by lia]
 rw [e,Bb]
theorem uz (l:List Keyed)(h:i<=j):l.take j=l.take i++(l.drop i).take (j-i):=by
 have e:=E5 (l:=l) (i:=i) (j:=j-i)
 rwa [show i+(j-i)=j by lia] at e
theorem Vv.app (h:Vv J a b out na nb)(sb:b.Pairwise (Le J)){k:Nat}(hk:k<=nb)(hle:∀x∈(b.drop k).take (nb-k),∀y∈a.take na,Le J y x):
  Vv J a b (out++((b.drop k).take (nb-k)).reverse) na k:=by
 have e1:=tH b hk
 have e2:=uz b hk
 have st:(b.take nb).Pairwise (Le J):=sb.sublist (BH _ _)
 rw [e2] at st
 refine ⟨?_,?_,?_,?_⟩
 .refine List.Perm.trans ?_ (Fn (congrArg (a.drop na++·) e1.symm))
  show List.Perm _ (a.drop na++((b.drop k).take (nb-k)++b.drop nb))
  have p1:(out++((b.drop k).take (nb-k)).reverse).Perm ((a.drop na++b.drop nb)++(b.drop k).take (nb-k)):=h.perm.append (List.reverse_perm _)
  refine p1.trans ?_
  rw [AB]
  exact CO _ BN
 .refine A9.mpr ⟨h.srt,Fo.mpr (A9.mp st).2.1,fun x hx y hy=>?_⟩
  exact h.lb x hx y (by rw [e2];exact Bi _ (DO.mp hy))
 .intro x hx y hy
  rcases AU.mp hx with hx | hx
  .exact h.la x hx y hy
  .exact hle x (DO.mp hx) y hy
 intro x hx y hy
 rcases AU.mp hx with hx | hx
 .exact h.lb x hx y (by rw [e2];exact Cy _ hy)
 exact (A9.mp st).2.2 y hy x (DO.mp hx)
theorem zw {l:List Keyed}{p:Keyed}(hj:j=i+1)(h:l[i]?=some p):(l.drop i).take (j-i)=[p]:=by
 rw [show j-i=1 by lia];exact oX h
theorem Vv.push (h:Vv J a b out na nb)(sb:b.Pairwise (Le J)){p:Keyed}{k:Nat}(hk:nb=k+1)(hp:b[k]?=some p)(hle:∀y∈a.take na,Le J y p):Vv J a b (out++[p]) na k:=by
 have:=h.app sb (k:=k) Am (by rw [zw hk hp];intro x hx y hy;rw [Ao hx];exact hle y hy)
 rwa [zw hk hp,List.reverse_singleton] at this
theorem Vv.cat (h:Vv J a b out na nb){rest:List Keyed}(hp:rest.Perm (a.take na++b.take nb))(hs:rest.Pairwise (Le J)):Pst J a b (rest++out.reverse):=by
 refine ⟨?_,A9.mpr ⟨hs,Fo.mpr h.srt,fun x hx y hy=>?_⟩⟩
 .have p1:(rest++out.reverse).Perm ((a.take na++b.take nb)++(a.drop na++b.drop nb)):=hp.append ((List.reverse_perm _).trans h.perm)
  have p2:((a.take na++b.take nb)++(a.drop na++b.drop nb)).Perm ((a.take na++a.drop na)++(b.take nb++b.drop nb)):=by
   rw [AB,AB]
   refine CO _ ?_
   rw [<-AB,<-AB]
   exact BN.append_right _
  rw [Bb,Bb] at p2
  exact p1.trans p2
 have hy':=DO.mp hy
 rcases AU.mp (hp.mem_iff.mp hx) with q | q
 .exact h.la y hy' x q
 exact h.lb y hy' x q
theorem Vv.done (h:Vv J a b out na nb)(sa:a.Pairwise (Le J))(sb:b.Pairwise (Le J))(hz:na=0∨nb=0):Pst J a b (a.take na++b.take nb++out.reverse):=by
 refine h.cat (Ej _) ?_
 rcases hz with z | z
 .rw [z,DG,DX];exact sb.sublist (BH _ _)
 rw [z,DG,BP];exact sa.sublist (BH _ _)
theorem Vv.first (h:Vv J a b out na nb)(sa:a.Pairwise (Le J))(hz:nb=1)(h0:∀p,b[0]?=some p->∀x∈a,Le J p x):Pst J a b (b.take nb++a.take na++out.reverse):=by
 refine h.cat BN ?_
 rw [hz]
 refine A9.mpr ⟨?_,sa.sublist (BH _ _),fun x hx y hy=>?_⟩
 .cases b with
  | nil=>exact List.Pairwise.nil
  | cons p r=>exact CA _ _
 cases b with
 | nil=>cases hx
 | cons p r =>
  have e:x=p:=by simpa using hx
  rw [e];exact h0 p rfl y (BS hy)
end
section
variable {prog:Program}{w:World}{A:Around}{E:Value->Shared->Prop}{s:Shared}{J:KeyKind}{kd:SortKind}{a₀:Array Keyed}{st:SortSt}
theorem cb {l:List Keyed}{x:Keyed}(h:x∈l.take n):∃ j,j<n/\l[j]?=some x:=by
 obtain ⟨j,hj,e⟩:=Ba h
 rw [A0] at hj
 rw [Ed] at e
 exact ⟨j,Am,by rw [<-e];exact tx Am⟩
theorem uk (C:Cmp prog w A s J kd a₀)(hk:kindOf st=kd){key:Keyed}{l:List Keyed}{hint:Nat}{Q:Option Nat->SortSt->Prop}(hkey:key∈a₀.toList)(hm:∀p∈l,p∈a₀.toList)(hs:l.Pairwise (Le J))(hb:n<=l.length)(hh:hint<n)(h:∀k,k<=n->(∀x∈l.take k,bey J left key x=true)->(∀x∈(l.drop k).take (n-k),bey J left key x=false)->Q (some k) st):
  wpS (model prog w) A E s (gal left key l.toArray 0 n hint) Q st:=by
 refine iR C hk hkey hm (hs.sublist ((BH _ _).trans (B6 _ _))) Am hh fun k h1 h2 h3=>?_
 rw [CT] at h2 h3
 rw [List.drop_take] at h3
 exact h k h1 h2 h3
theorem y4 {a b:List Keyed}{Q:Array Keyed->SortSt->Prop}(C:Cmp prog w A s J kd a₀)(hk:kindOf st=kd)(ha:∀p∈a,p∈a₀.toList)(hb:∀p∈b,p∈a₀.toList)(sa:a.Pairwise (Le J))(sb:b.Pairwise (Le J))(pa:0<a.length)(pb:0<b.length)(h0:∀p,b[0]?=some p->∀x∈a,Le J p x)(hl:∀y∈b,∀x,a[a.length-1]?=some x->Le J y x)(h:∀r st',St0 st st'->Pst J a b r.toList->Q r st'):wpS (model prog w) A E s (mHi a.toArray b.toArray) Q st:=by
 have atA:∀i,i<a.length->∃ p,a.toArray[i]?=some p/\a[i]?=some p/\p∈a₀.toList:=fun i hi=>⟨a[i],by simp [hi],by simp [hi],ha _ (BE hi)⟩
 have atB:∀i,i<b.length->∃ p,b.toArray[i]?=some p/\b[i]?=some p/\p∈a₀.toList:=fun i hi=>⟨b[i],by simp [hi],by simp [hi],hb _ (BE hi)⟩
 have fD:∀(out:Array Keyed) na nb,(a.toArray.extract 0 na++b.toArray.extract 0 nb++out.reverse).toList=a.take na++b.take nb++out.toList.reverse:=fun out na nb=>by simp
 have fF:∀(out:Array Keyed) na nb,(b.toArray.extract 0 nb++a.toArray.extract 0 na++out.reverse).toList=b.take nb++a.take na++out.toList.reverse:=fun out na nb=>by simp
 have fR:∀(l:List Keyed) (out:Array Keyed) i j,(out++(l.toArray.extract i j).reverse).toList=out.toList++((l.drop i).take (j-i)).reverse:=fun l out i j=>by simp
 have szA:a.toArray.size=a.length:=by simp
 have szB:b.toArray.size=b.length:=by simp
 obtain ⟨al,ea,ea',ma⟩:=atA (a.length-1) Am
 have w0:Vv J a b [al] (a.length-1) b.length:=by
  have e:a.drop (a.length-1)=[al]:=by
   obtain ⟨hi,e⟩:=Au.mp ea'
   rw [Bn hi,e,CK Am]
  refine ⟨by rw [e,CK (Av _),BP],CA _ _,fun x hx y hy=>?_,fun x hx y hy=>?_⟩
  .rw [Ao hx]
   obtain ⟨j,hj,ej⟩:=cb hy
   exact b6 sa ej ea' Am
  .rw [Ao hx]
   exact hl y (BS hy) _ ea'
 refine AC (m:=liftM (rule _)) (FA (B5 ⟨rfl,?_⟩))
 dsimp only
 rw [<-szA] at ea w0
 rw [<-szB] at w0
 refine AC (a8 ea ?_)
 by_cases g1:a.toArray.size-1=0
 .rw [Az (by simpa using g1)]
  refine AM (h _ _ (St0.refl _) ?_)
  rw [fD];exact w0.done sa sb (.inl g1)
 rw [Ay (by simpa using g1)]
 by_cases g2:b.toArray.size=1
 .rw [Az (by simpa using g2)]
  refine AM (h _ _ (St0.refl _) ?_)
  rw [fF];exact w0.first sa g2 h0
 rw [Ay (by simpa using g2)]
 refine AC (ED ?_)
 refine AC (CU (BM (I:=fun x c st'=>∃ na nb out g,c=(none,na,nb,out,g)/\Vv J a b out.toList na nb/\0<na/\na<a.length/\1<nb/\nb<=b.length/\x+na+nb<a.length+b.length/\St0 st st')
  (Q:=fun c st'=>∃ r z,c=(some r,z)/\Pst J a b r.toList/\St0 st st') ?_ ?_ ⟨_,_,_,_,rfl,w0,Am,Am,Am,Am,Am,St0.refl _⟩) ?_)
 .rintro x c st1 _ hx ⟨na,nb,out,g,rfl,W,hia,hia2,hib,hib2,hm,hs⟩
  dsimp only
  refine AC (CU (BM (I:=fun y c st'=>∃ na' nb' out' ac bc,c=(none,na',nb',out',ac,bc)/\Vv J a b out'.toList na' nb'/\0<na'/\na'<a.length/\1<nb'/\nb'<=b.length/\y+na'+nb'<=na+nb/\St0 st st')
   (Q:=fun c st'=>St0 st st'/\((∃ r z,c=(some r,z)/\Pst J a b r.toList)∨∃ na' nb' out' ac bc,c=(none,na',nb',out',ac,bc)/\Vv J a b out'.toList na' nb'/\0<na'/\na'<a.length/\1<nb'/\nb'<=b.length/\1+na'+nb'<=na+nb)) ?_ ?_
   ⟨na,nb,out,0,0,rfl,W,hia,hia2,hib,hib2,Am,hs⟩) ?_)
  .rintro y c st2 _ hy ⟨na',nb',out',ac,bc,rfl,W',h1',h2',h3',h4',hm',hs'⟩
   dsimp only
   obtain ⟨p,ep,ep',mp⟩:=atB (nb'-1) Am
   obtain ⟨q,eq,eq',mq⟩:=atA (na'-1) Am
   refine AC (a8 ep (AC (a8 eq (AC (ug C mp mq (hs'.1.trans hk) ?_)))))
   cases e:Lb J p q with
   | true =>
    simp only [CL]
    refine AC (a8 eq ?_)
    have W2:Vv J a b (out'.push q).toList (na'-1) nb':=by
     rw [BG]
     refine (W'.swap.push sa Am eq' fun y hy=>?_).swap
     obtain ⟨j,hj,ej⟩:=cb hy
     exact Le.trans (b6 sb ej ep' Am) (Le.of_lt e)
    by_cases g3:na'-1=0
    .rw [Az (by simpa using g3)]
     refine AM ⟨hs',.inl ⟨_,_,rfl,?_⟩⟩
     rw [fD];exact W2.done sa sb (.inl g3)
    .rw [Ay (by simpa using g3)]
     split
     .exact AM ⟨hs',.inr ⟨_,_,_,_,_,rfl,W2,Am,Am,Am,Am,Am⟩⟩
     .exact AM ⟨_,_,_,_,_,rfl,W2,Am,Am,Am,Am,Am,hs'⟩
   | false =>
    simp only [AE,Bo]
    refine AC (a8 ep ?_)
    have W2:Vv J a b (out'.push p).toList na' (nb'-1):=by
     rw [BG]
     refine W'.push sb Am ep' fun y hy=>?_
     obtain ⟨j,hj,ej⟩:=cb hy
     exact Le.trans (b6 sa ej eq' Am) (show Le J q p from e)
    by_cases g3:nb'-1=1
    .rw [Az (by simpa using g3)]
     refine AM ⟨hs',.inl ⟨_,_,rfl,?_⟩⟩
     rw [fF];exact W2.first sa g3 h0
    .rw [Ay (by simpa using g3)]
     split
     .exact AM ⟨hs',.inr ⟨_,_,_,_,_,rfl,W2,Am,Am,Am,Am,Am⟩⟩
     .exact AM ⟨_,_,_,_,_,rfl,W2,Am,Am,Am,Am,Am,hs'⟩
  .rintro c st2 ⟨na',nb',out',ac,bc,rfl,W',h1',h2',h3',h4',hm',hs'⟩
   exfalso
   rw [szA,szB] at hm'
   lia
  .rintro c st2 ⟨hs',⟨r,z,rfl,hr⟩ | ⟨na',nb',out',ac,bc,rfl,W',h1',h2',h3',h4',hm'⟩⟩
   .dsimp only
    exact AM ⟨_,_,rfl,hr,hs'⟩
   .dsimp only
    refine AC (m:=liftM (rule _)) (FA (B5 ⟨rfl,?_⟩))
    refine AC (CU (BM (I:=fun y c st'=>∃ i j o g ac bc,c=(none,i,j,o,g,ac,bc)/\Vv J a b o.toList i j/\0<i/\i<a.length/\1<j/\j<=b.length/\y+i+j<=na'+nb'/\St0 st st')
     (Q:=fun c st'=>St0 st st'/\((∃ r z,c=(some r,z)/\Pst J a b r.toList)∨∃ i j o g ac bc,c=(none,i,j,o,g,ac,bc)/\Vv J a b o.toList i j/\0<i/\i<a.length/\1<j/\j<=b.length/\i+j<=na'+nb')) ?_ ?_
     ⟨na',nb',out',_,ac,bc,rfl,W',h1',h2',h3',h4',Am,hs'⟩) ?_)
    .rintro y c st3 _ hy ⟨i,j,o,g',ac',bc',rfl,V,hi,hi2,hj,hj2,hm3,hs3⟩
     dsimp only
     obtain ⟨p,ep,ep',mp⟩:=atB (j-1) Am
     refine' zJ (P:=St0 st) ?t0 fun t0=>?m0
     case m0 =>
      by_cases gg:¬ g'>1
      .rw [Ay gg]
       refine AC (fS hs3 fun x hx=>?_)
       generalize g'=g'
       exact t0 g' x hx
      .rw [Az (Cw gg)]
       exact AC (fS hs3 fun x hx=>t0 _ x hx)
     intro g' st4 hs4
     refine AC (a8 ep (AC (uk C (hs4.1.trans hk) mp ha sa Am Am fun k hk1 hk2 hk3=>?_)))
     dsimp only
     have hp:∀y∈a.take k,Le J y p:=fun y hy=>by
      have:=hk2 y hy
      unfold bey at this;exact (show Lb J p y=false by simpa using this)
     generalize ek:i-k=kk
     refine' vL (P:=fun o i=>Vv J a b o.toList i j/\0<i/\i<a.length/\y+i+j<=na'+nb'/\∀y∈a.take i,Le J y p) ?t1 fun t1=>?m1
     case m1 =>
      by_cases g3:¬ kk>0
      .rw [Ay g3]
       rw [show k=i by lia] at hp
       have F:=And.intro V (And.intro hi (And.intro hi2 (And.intro hm3 hp)))
       generalize o=o,i=i at F ⊢
       exact t1 o i F
      have g3:=Cw g3
      rw [Az g3]
      have V1:Vv J a b (o++(a.toArray.extract k i).reverse).toList k j:=by
       rw [fR]
       refine (V.swap.app sa hk1 fun x hx y hy=>?_).swap
       have:=hk3 x hx
       unfold bey at this
       obtain ⟨jj,hjj,ejj⟩:=cb hy
       exact Le.trans (b6 sb ejj ep' Am) (Le.of_lt (show Lb J p x=true by simpa using this))
      by_cases g9:k=0
      .rw [Az (by simpa using g9)]
       refine AM ⟨hs4,.inl ⟨_,_,rfl,?_⟩⟩
       rw [fD];exact V1.done sa sb (.inl g9)
      rw [Ay (by simpa using g9)]
      exact t1 _ _ ⟨V1,Am,Am,Am,hp⟩
     clear hp hk1 hk2 hk3 V hi hi2 hm3 ek
     rintro o i ⟨V,hi,hi2,hm3,hp⟩
     refine AC (a8 ep ?_)
     have V2:Vv J a b (o.push p).toList i (j-1):=by
      rw [BG]
      exact V.push sb Am ep' hp
     by_cases g4:j-1=1
     .rw [Az (by simpa using g4)]
      refine AM ⟨hs4,.inl ⟨_,_,rfl,?_⟩⟩
      rw [fF];exact V2.first sa g4 h0
     rw [Ay (by simpa using g4)]
     obtain ⟨q,eq,eq',mq⟩:=atA (i-1) Am
     generalize o.push p=o at V2 ⊢
     generalize ej:j-1=j1 at V2 g4 ⊢
     refine AC (a8 eq (AC (uk C (hs4.1.trans hk) mq hb sb Am Am fun k' hk1' hk2' hk3'=>?_)))
     dsimp only
     have hq:∀y∈b.take k',Le J y q:=fun y hy=>by
      have:=hk2' y hy
      unfold bey at this;exact Le.of_lt (by simpa using this)
     generalize ek:j1-k'=kk
     refine' vL (P:=fun o j'=>Vv J a b o.toList i j'/\1<j'/\j'<=b.length/\y+i+j'<=na'+nb'/\∀y∈b.take j',Le J y q) ?t2 fun t2=>?m2
     case m2 =>
      by_cases g6:¬ kk>0
      .rw [Ay g6]
       rw [show k'=j1 by lia] at hq
       have F:_/\1<j1/\j1<=b.length/\y+i+j1<=na'+nb'/\_:=⟨V2,Am,Am,Am,hq⟩
       generalize o=o,j1=j1 at F ⊢
       exact t2 o j1 F
      have g6:=Cw g6
      rw [Az g6]
      have V3:Vv J a b (o++(b.toArray.extract k' j1).reverse).toList i k':=by
       rw [fR]
       refine V2.app sb hk1' fun x hx y hy=>?_
       have:=hk3' x hx
       unfold bey at this
       obtain ⟨jj,hjj,ejj⟩:=cb hy
       exact Le.trans (b6 sa ejj eq' Am) (show Le J q x from (show Lb J x q=false by simpa using this))
      by_cases g7:k'=1
      .rw [Az (by simpa using g7)]
       refine AM ⟨hs4,.inl ⟨_,_,rfl,?_⟩⟩
       rw [fF];exact V3.first sa g7 h0
      rw [Ay (by simpa using g7)]
      by_cases g8:k'=0
      .rw [Az (by simpa using g8)]
       refine AM ⟨hs4,.inl ⟨_,_,rfl,?_⟩⟩
       rw [fD];exact V3.done sa sb (.inr g8)
      rw [Ay (by simpa using g8)]
      exact t2 _ _ ⟨V3,Am,Am,Am,hq⟩
     rintro o j' ⟨V3,hj',hj2',hm',hq⟩
     refine AC (a8 eq ?_)
     have V4:Vv J a b (o.push q).toList (i-1) j':=by
      rw [BG]
      exact (V3.swap.push sa Am eq' hq).swap
     by_cases g5:i-1=0
     .rw [Az (by simpa using g5)]
      refine AM ⟨hs4,.inl ⟨_,_,rfl,?_⟩⟩
      rw [fD];exact V4.done sa sb (.inl g5)
     .rw [Ay (by simpa using g5)]
      split
      .exact AM ⟨hs4,.inr ⟨_,_,_,_,_,_,rfl,V4,Am,Am,Am,Am,Am⟩⟩
      .exact AM ⟨_,_,_,_,_,_,rfl,V4,Am,Am,Am,Am,Am,hs4⟩
    .rintro c st3 ⟨i,j,o,g',ac',bc',rfl,V,hi,hi2,hj,hj2,hm3,hs3⟩
     exfalso
     rw [szA,szB] at hm3
     lia
    .rintro c st3 ⟨hs3,⟨r,z,rfl,hr⟩ | ⟨i,j,o,g',ac',bc',rfl,V,hi,hi2,hj,hj2,hm3⟩⟩
     .dsimp only
      exact AM ⟨_,_,rfl,hr,hs3⟩
     .dsimp only
      refine AC (fS hs3 fun st4 hs4=>?_)
      exact AM ⟨_,_,_,_,rfl,V,hi,hi2,hj,hj2,Am,hs4⟩
 .rintro c st1 ⟨na,nb,out,g,rfl,W,hia,hia2,hib,hib2,hm,hs⟩
  exfalso
  rw [szA,szB] at hm
  lia
 rintro c st1 ⟨r,z,rfl,hr,hs⟩
 exact AM (h r st1 hs hr)
end
section
variable {J:KeyKind}
theorem gK {l:List Keyed}(h:i<l.length):KK J l.toArray i=kf J l[i]:=wS (by simp [h])
theorem up_iff {l:List Keyed}(h:lo+n<=l.length):Up J l.toArray lo n↔((l.drop lo).take n).Pairwise (Le J):=by
 have len:((l.drop lo).take n).length=n:=by rw [A0,Bu];lia
 constructor
 .intro u
  refine List.pairwise_iff_getElem.mpr fun i j hi hj hij=>?_
  rw [len] at hi hj
  have:=u (lo+i) (lo+j) Am Am Am
  rw [gK Am,gK Am] at this
  rw [Ed,Dx,Ed,Dx]
  exact this
 intro p i j h1 h2 h3
 rw [gK Am,gK Am]
 have a1:((l.drop lo).take n)[i-lo]?=some l[i]:=by
  rw [Dj,Az Am,DW,show lo+(i-lo)=i by lia]
  exact tx Am
 have a2:((l.drop lo).take n)[j-lo]?=some l[j]:=by
  rw [Dj,Az Am,DW,show lo+(j-lo)=j by lia]
  exact tx Am
 exact b6 p a1 a2 Am
theorem wb (s0:Nat):∀(M:List Keyed) (c:Nat) (xs:Array Keyed) (k:Nat),s0+c+M.length<=xs.size ->
  ((M.zipIdx c).foldl (fun (a:Array Keyed) (x:Keyed×Nat)=>a.setIfInBounds (s0+x.2) x.1) xs)[k]?=if s0+c<=k/\k<s0+c+M.length then M[k-(s0+c)]? else xs[k]?
 | [],c,xs,k,_=>by
  rw [Ay An];rfl
 | p::M,c,xs,k,h=>by
  rw [Fc,Do]
  rw [wb s0 M (c+1) _ k (by rw [Array.size_setIfInBounds];simp at h;lia)]
  simp only [A8] at h ⊢
  by_cases h1:s0+(c+1)<=k/\k<s0+(c+1)+M.length
  .rw [Az h1,Az Am,show k-(s0+c)=(k-(s0+(c+1)))+1 by lia,DY]
  .rw [Ay h1]
   rw [Array.getElem?_setIfInBounds]
   by_cases h2:s0+c=k
   .rw [Az h2,Az Am,Az Am,show k-(s0+c)=0 by lia,List.getElem?_cons_zero]
   .rw [Ay h2,Ay Am]
theorem u9 (l M:List Keyed)(P X R:List Keyed)(e:l=P++X++R)(hl:M.length=X.length):
  ((M.zipIdx).foldl (fun (a:Array Keyed) (x:Keyed×Nat)=>a.setIfInBounds (P.length+x.2) x.1) l.toArray)=(P++M++R).toArray:=by
 subst e
 apply Array.ext_getElem?
 intro k
 rw [wb P.length M 0 _ k (by simp;lia)]
 simp only [Nat.add_zero,A5]
 by_cases h:P.length<=k/\k<P.length+M.length
 .rw [Az h,AB,AG h.1,AW Am]
 rw [Ay h]
 by_cases h2:k<P.length
 .rw [AB,AB,AW h2,AW h2]
 rw [AB,AB,AG Am,AG Am,AG Am,AG Am,hl]
end
section
variable {prog:Program}{w:World}{A:Around}{E:Value->Shared->Prop}{s:Shared}{J:KeyKind}{kd:SortKind}{a₀:Array Keyed}{st:SortSt}
theorem zo {x:SortSt}{Q:PUnit->SortSt->Prop}(h:Q ⟨⟩ x):wpS (model prog w) A E s (set x:StateT SortSt Sem PUnit) Q st:=by
 unfold wpS;rw [StateT.run_set];exact Aq ⟨rfl,h⟩
theorem rm (l:List Keyed)(i j:Nat):l.toArray.extract i j=((l.drop i).take (j-i)).toArray:=by simp
theorem zH (C:Cmp prog w A s J kd a₀)(B:SB kd a₀ st){sa na pw sb nb pw2:Nat}{Q:Bool->SortSt->Prop}(h1:(pendingOf st)[i]?=some (sa,na,pw))(h2:(pendingOf st)[i+1]?=some (sb,nb,pw2))(hsb:sb=sa+na)(pa:1<=na)(pb:1<=nb)(hz:sb+nb<=a₀.size)(ua:Up J (arrOf st) sa na)(ub:Up J (arrOf st) sb nb)(h:∀st',SB kd a₀ st'->pendingOf st'=((pendingOf st).setIfInBounds i (sa,na+nb,pw)).eraseIdxIfInBounds (i+1)->(∀k,k<sa∨sb+nb<=k->(arrOf st')[k]?=(arrOf st)[k]?) ->
   Up J (arrOf st') sa (na+nb)->Q true st'):wpS (model prog w) A E s (mergeAt' i) Q st:=by
 obtain ⟨l,hl⟩:∃ l:List Keyed,arrOf st=l.toArray:=⟨(arrOf st).toList,An⟩
 have hm:∀p∈l,p∈a₀.toList:=fun p hp=>(Ck.mp B.perm).mem_iff.mp (by rw [hl];simpa using hp)
 have hlen:l.length=a₀.size:=by have:=B.size;rw [hl] at this;simpa using this
 rw [hl] at ua ub
 have sa':=(up_iff Am).mp ua
 have sb':=(up_iff Am).mp ub
 obtain ⟨P,X0,Y0,R,el,eP,eX,eY⟩:∃ P X0 Y0 R:List Keyed,l=P++X0++Y0++R/\P.length=sa/\X0.length=na/\Y0.length=nb:=by
  refine ⟨l.take sa,(l.drop sa).take na,(l.drop sb).take nb,l.drop (sb+nb),?_,?_,?_,?_⟩
  .rw [hsb,<-E5,<-E5,Bb]
  .rw [A0];lia
  .rw [A0,Bu];lia
  .rw [A0,Bu];lia
 have dX:(l.drop sa).take na=X0:=by
  rw [el,AB,AB,<-eP,EN,<-eX,EO]
 have dY:(l.drop sb).take nb=Y0:=by
  have e:sb=(P++X0).length:=by rw [As];lia
  rw [el,AB,e,EN,<-eY,EO]
 rw [dX] at sa'
 rw [dY] at sb'
 unfold mergeAt'
 refine AC (m:=get) (ED ?_)
 have h1':((sortPriv% PySem.Builtin.SortState.pending) st)[i]?=some (sa,na,pw):=h1
 have h2':((sortPriv% PySem.Builtin.SortState.pending) st)[i+1]?=some (sb,nb,pw2):=h2
 have hl':(sortPriv% PySem.Builtin.SortState.a) st=l.toArray:=hl
 rw [h1',h2']
 dsimp only
 rw [hl']
 refine AC (zo ?_)
 have K1:kindOf (SortSt.mk' (kindOf st) l.toArray (((pendingOf st).setIfInBounds i (sa,na+nb,pw)).eraseIdxIfInBounds (i+1)) (gallopOf st) (failedOf st))=kd:=B.kind
 have eY0:∃ y0 Y',Y0=y0::Y':=by
  cases Y0 with
  | nil=>simp at eY;lia
  | cons y Y'=>exact ⟨y,Y',rfl⟩
 obtain ⟨y0,Y',eY1⟩:=eY0
 have my:l[sb]?=some y0:=by
  have e:sb=(P++X0).length:=by rw [As];lia
  rw [el,AB,e,AG (Av _),Dp,eY1];rfl
 have y0le:∀y∈Y0,Le J y0 y:=fun y hy=>by
  rw [eY1] at hy sb'
  rcases Aw.mp hy with z | z
  .rw [z];exact Le.refl _
  .exact (List.pairwise_cons.mp sb').1 y z
 have my0:y0∈a₀.toList:=hm _ (AQ my)
 refine AC (a8 (by rw [A5];exact my) (AC (iR (hint:=0) C K1 my0 hm (by rw [dX];exact sa') Am Am fun k hk1 hk2 hk3=>?_)))
 rw [dX] at hk3
 have eXt:(l.drop sa).take k=X0.take k:=by
  rw [<-dX,List.take_take,show min k na=k by lia]
 rw [eXt] at hk2
 dsimp only
 have X1le:∀x∈X0.take k,Le J x y0:=fun x hx=>by
  have:=hk2 x hx
  unfold bey at this;exact (show Lb J y0 x=false by simpa using this)
 have X2gt:∀x∈X0.drop k,Lb J y0 x=true:=fun x hx=>by
  have:=hk3 x hx
  unfold bey at this;simpa using this
 have same:Up J l.toArray sa (na+nb)↔(X0++Y0).Pairwise (Le J):=by
  rw [up_iff Am]
  have e:(l.drop sa).take (na+nb)=X0++Y0:=by
   rw [el,AB,AB,<-eP,EN,<-AB,show na+nb=(X0++Y0).length by rw [As];lia,EO]
  rw [e]
 have here:∀(B':(X0++Y0).Pairwise (Le J)),Q true (SortSt.mk' (kindOf st) l.toArray (((pendingOf st).setIfInBounds i (sa,na+nb,pw)).eraseIdxIfInBounds (i+1)) (gallopOf st) (failedOf st)):=fun B' =>
  h _ ⟨by have:=B.perm;rwa [hl] at this,B.kind,B.fail⟩ rfl (fun k _=>by rw [hl]) (same.mpr B')
 by_cases g1:na-k=0
 .rw [Az (by simpa using g1)]
  refine AM (here (A9.mpr ⟨sa',sb',fun x hx y hy=>Le.trans (X1le x ?_) (y0le y hy)⟩))
  rw [A6 Am];exact hx
 rw [Ay (by simpa using g1)]
 have ⟨xl,exl⟩:∃ xl,X0[na-1]?=some xl:=⟨X0[na-1],tx Am⟩
 have mx:l[sa+k+(na-k)-1]?=some xl:=by
  rw [el,AB,AB,AG Am,AW Am,show sa+k+(na-k)-1-P.length=na-1 by lia]
  exact exl
 have lexl:∀x∈X0,Le J x xl:=fun x hx=>by
  obtain ⟨j,hj,e⟩:=Ba hx
  exact b6 sa' (by rw [<-e];exact tx hj) exl Am
 have mxl:xl∈a₀.toList:=hm _ (AQ mx)
 refine AC (a8 (by rw [A5];exact mx) (AC (iR (hint:=nb-1) C K1 mxl hm (by rw [dY];exact sb') Am Am fun n2 hn1 hn2 hn3=>?_)))
 rw [dY] at hn3
 have eYt:(l.drop sb).take n2=Y0.take n2:=by
  rw [<-dY,List.take_take,show min n2 nb=n2 by lia]
 rw [eYt] at hn2
 dsimp only
 have Y1lt:∀y∈Y0.take n2,Lb J y xl=true:=fun y hy=>by
  have:=hn2 y hy
  unfold bey at this;simpa using this
 have Y2ge:∀y∈Y0.drop n2,Le J xl y:=fun y hy=>by
  have:=hn3 y hy
  unfold bey at this;exact (show Lb J y xl=false by simpa using this)
 by_cases g2:n2=0
 .rw [Az (by simpa using g2)]
  refine AM (here (A9.mpr ⟨sa',sb',fun x hx y hy=>Le.trans (lexl x hx) (Y2ge y ?_)⟩))
  rw [g2,CT];exact hy
 rw [Ay (by simpa using g2)]
 rw [rm,rm]
 have eX2:(l.drop (sa+k)).take (sb-(sa+k))=X0.drop k:=by
  have e:l.drop (sa+k)=(l.drop sa).drop k:=by rw [Ei]
  rw [e,show sb-(sa+k)=na-k by lia,<-List.drop_take,dX]
 have eY2:(l.drop sb).take (sb+n2-sb)=Y0.take n2:=by rw [show sb+n2-sb=n2 by lia,eYt]
 rw [eX2,eY2]
 have sX:(X0.drop k).Pairwise (Le J):=sa'.sublist (B6 _ _)
 have sY:(Y0.take n2).Pairwise (Le J):=sb'.sublist (BH _ _)
 have mX:∀p∈X0.drop k,p∈a₀.toList:=fun p hp=>hm p (by rw [el];have:=DF hp;simp [this])
 have mY:∀p∈Y0.take n2,p∈a₀.toList:=fun p hp=>hm p (by rw [el];have:=BS hp;simp [this])
 have lX:0<(X0.drop k).length:=by rw [Bu];lia
 have lY:0<(Y0.take n2).length:=by rw [A0];lia
 have c0:∀p,(Y0.take n2)[0]?=some p->∀x∈X0.drop k,Le J p x:=fun p hp x hx=>by
  rw [Dj,Az Am,eY1] at hp
  have e:y0=p:=by simpa using hp
  rw [<-e];exact Le.of_lt (X2gt x hx)
 have c1:∀y∈Y0.take n2,∀x,(X0.drop k)[(X0.drop k).length-1]?=some x->Le J y x:=fun y hy x hx=>by
  rw [Bu,DW,show k+(X0.length-k-1)=na-1 by lia,exl] at hx
  cases hx
  exact Le.of_lt (Y1lt y hy)
 have fin:∀(M:Array Keyed) (st2:SortSt),St0 (SortSt.mk' (kindOf st) l.toArray (((pendingOf st).setIfInBounds i (sa,na+nb,pw)).eraseIdxIfInBounds (i+1)) (gallopOf st) (failedOf st)) st2->Pst J (X0.drop k) (Y0.take n2) M.toList ->
   Q true (SortSt.mk' (kindOf st2) (M.toList.zipIdx.foldl (fun (a:Array Keyed) (x:Keyed×Nat)=>a.setIfInBounds (sa+k+x.2) x.1) (arrOf st2)) (pendingOf st2) (gallopOf st2) (failedOf st2)):=by
  intro M st2 hs hP
  have eM:M.toList.length=(X0.drop k++Y0.take n2).length:=hP.1.length_eq
  have el2:l=(P++X0.take k)++(X0.drop k++Y0.take n2)++(Y0.drop n2++R):=by
   rw [el]
   conv=>lhs;rw [<-Bb k X0,<-Bb n2 Y0]
   simp only [AB]
  have ePk:(P++X0.take k).length=sa+k:=by rw [As,A0];lia
  have wbe:=u9 l M.toList _ _ _ el2 eM
  rw [ePk] at wbe
  have e2:arrOf st2=l.toArray:=hs.2.1
  rw [e2,wbe]
  have pl:((P++X0.take k)++M.toList++(Y0.drop n2++R)).Perm l:=by
   refine List.Perm.trans ?_ (Fn el2.symm)
   exact (CO _ hP.1).append_right _
  refine h _ ⟨?_,hs.1.trans B.kind,hs.2.2.2.trans B.fail⟩ hs.2.2.1 (fun j hj=>?_) ?_
  .have p0:=B.perm
   rw [hl] at p0
   exact (Array.perm_iff_toList_perm.mpr (by simpa using pl)).trans p0
  .show ((P++X0.take k)++M.toList++(Y0.drop n2++R)).toArray[j]?=(arrOf st)[j]?
   rw [hl,el2,A5,A5]
   have q1:=As (as:=P) (bs:=X0.take k)
   rcases hj with hj | hj
   .simp only [AB]
    rw [AW Am,AW Am]
   .have q2:(X0.drop k++Y0.take n2).length=na-k+n2:=by rw [As,Bu,A0];lia
    have f:∀Z:List Keyed,Z.length=na-k+n2->((P++X0.take k)++Z++(Y0.drop n2++R))[j]?=(Y0.drop n2++R)[j-(sa+k+(na-k+n2))]?:=fun Z hZ=>by
     rw [AG (by rw [As,ePk];lia),As,ePk,hZ]
    rw [f _ (eM.trans q2),f _ q2]
  .show Up J ((P++X0.take k)++M.toList++(Y0.drop n2++R)).toArray sa (na+nb)
   have ll:=pl.length_eq
   rw [up_iff Am]
   have e:((((P++X0.take k)++M.toList++(Y0.drop n2++R))).drop sa).take (na+nb)=X0.take k++(M.toList++Y0.drop n2):=by
    rw [AB,AB,<-eP,EN]
    have e3:X0.take k++(M.toList++(Y0.drop n2++R))=(X0.take k++(M.toList++Y0.drop n2))++R:=by simp only [AB]
    rw [e3]
    have e4:na+nb=(X0.take k++(M.toList++Y0.drop n2)).length:=by
     rw [As,As,eM,As,A0,Bu,A0,Bu];lia
    rw [e4,EO]
   rw [e]
   have cross:∀x∈X0.take k,∀z∈X0.drop k,Le J x z:=fun x hx z hz=>by
    have:=sa'
    rw [<-Bb k X0] at this
    exact (A9.mp this).2.2 x hx z hz
   have crossY:∀x∈Y0.take n2,∀z∈Y0.drop n2,Le J x z:=fun x hx z hz=>by
    have:=sb'
    rw [<-Bb n2 Y0] at this
    exact (A9.mp this).2.2 x hx z hz
   refine A9.mpr ⟨sa'.sublist (BH _ _),A9.mpr ⟨hP.2,sb'.sublist (B6 _ _),fun x hx y hy=>?_⟩,fun x hx y hy=>?_⟩
   .rcases AU.mp (hP.1.mem_iff.mp hx) with z | z
    .exact Le.trans (lexl x (DF z)) (Y2ge y hy)
    .exact crossY x z y hy
   .rcases AU.mp hy with z | z
    .rcases AU.mp (hP.1.mem_iff.mp z) with z | z
     .exact cross x hx y z
     .exact Le.trans (X1le x hx) (y0le y (BS z))
    .exact Le.trans (X1le x hx) (y0le y (DF z))
 have out:∀(M:Array Keyed) (st2:SortSt),St0 (SortSt.mk' (kindOf st) l.toArray (((pendingOf st).setIfInBounds i (sa,na+nb,pw)).eraseIdxIfInBounds (i+1)) (gallopOf st) (failedOf st)) st2->failedOf st2=none:=fun M st2 hs=>hs.2.2.2.trans B.fail
 by_cases g3:na-k<=n2
 case' pos=>rw [Az g3]
 case' neg=>rw [Ay g3]
 case' pos=>refine AC (zd C K1 mX mY sX sY lX lY c0 c1 fun M st2 hs hP=>?_)
 case' neg=>refine AC (y4 C K1 mX mY sX sY lX lY c0 c1 fun M st2 hs hP=>?_)
 all_goals
  refine AC (Dv (AC (ED (AM ?_))))
  have e:=out M st2 hs
  have f:=fin M st2 hs hP
  show Q (failedOf st2).isNone _
  rw [e]
  exact f
end
def Rs (J:KeyKind)(xs:Array Keyed):Nat->List (Nat×Nat×Nat)->Nat->Prop
 | a,[],b=>a=b
 | a,r::l,b=>r.1=a/\1<=r.2.1/\Up J xs a r.2.1/\Rs J xs (a+r.2.1) l b
section
variable {J:KeyKind}{xs ys:Array Keyed}
theorem Rs.app:∀{p q:List (Nat×Nat×Nat)} {a b:Nat},Rs J xs a (p++q) b↔∃ m,Rs J xs a p m/\Rs J xs m q b
 | [],q,a,b=>⟨fun h=>⟨a,rfl,h⟩,fun ⟨m,e,h⟩=>by cases e;exact h⟩
 | r::p,q,a,b=>⟨fun ⟨h1,h2,h3,h4⟩=>let ⟨m,x,y⟩:=Rs.app.mp h4;⟨m,⟨h1,h2,h3,x⟩,y⟩,fun ⟨m,⟨h1,h2,h3,x⟩,y⟩=>⟨h1,h2,h3,Rs.app.mpr ⟨m,x,y⟩⟩⟩
theorem Rs.len:∀{p:List (Nat×Nat×Nat)} {a b:Nat},Rs J xs a p b->a+p.length<=b
 | [],a,b,h=>by cases h;simp
 | r::p,a,b,⟨h1,h2,h3,h4⟩=>by
  have:=Rs.len h4
  rw [A8];lia
theorem jM (h:Up J xs lo n)(e:∀k,lo<=k->k<lo+n->ys[k]?=xs[k]?):Up J ys lo n:=fun i j a b c=>by
 rw [KK_congr (e i a Am),KK_congr (e j Am c)];exact h i j a b c
theorem Rs.keep:∀{p:List (Nat×Nat×Nat)} {a b:Nat},Rs J xs a p b->(∀k,a<=k->k<b->ys[k]?=xs[k]?)->Rs J ys a p b
 | [],a,b,h,_=>h
 | r::p,a,b,⟨h1,h2,h3,h4⟩,e=>by
  have:=h4.len
  exact ⟨h1,h2,jM h3 fun k c d=>e k c Am,Rs.keep h4 fun k c d=>e k Am d⟩
theorem xx {α:Type}{l:List α}(h:i+1<l.length):∃ p x y q,l=p++x::y::q/\p.length=i:=by
 refine ⟨l.take i,l[i],l[i+1],l.drop (i+2),?_,by rw [A0];lia⟩
 have e1:=Bn (l:=l) (i:=i) Am
 have e2:=Bn (l:=l) (i:=i+1) h
 rw [<-e2,<-e1,Bb]
end
section
variable {prog:Program}{w:World}{A:Around}{E:Value->Shared->Prop}{s:Shared}{J:KeyKind}{kd:SortKind}{a₀:Array Keyed}{st:SortSt}
theorem nE (C:Cmp prog w A s J kd a₀)(B:SB kd a₀ st){hi:Nat}{Q:Bool->SortSt->Prop}(R:Rs J (arrOf st) 0 (pendingOf st).toList hi)(hh:hi<=a₀.size)(h2:i+1<(pendingOf st).size)(h:∀st',SB kd a₀ st'->Rs J (arrOf st') 0 (pendingOf st').toList hi->(pendingOf st').size+1=(pendingOf st).size->(∀k,hi<=k->(arrOf st')[k]?=(arrOf st)[k]?)->Q true st'):
  wpS (model prog w) A E s (mergeAt' i) Q st:=by
 obtain ⟨l,hl⟩:∃ l,pendingOf st=l.toArray:=⟨(pendingOf st).toList,An⟩
 rw [hl] at R h2
 have R0:Rs J (arrOf st) 0 l hi:=R
 have h2':i+1<l.length:=h2
 obtain ⟨p,⟨sa,na,pw⟩,⟨sb,nb,pw2⟩,q,e,ep⟩:=xx h2'
 rw [e] at R0
 obtain ⟨m,Rp,⟨e1,n1,u1,⟨e2,n2,u2,Rq⟩⟩⟩:=Rs.app.mp R0
 dsimp only at e1 n1 u1 e2 n2 u2 Rq
 have lp:=Rp.len
 have lq:=Rq.len
 have g1:(pendingOf st)[i]?=some (sa,na,pw):=by rw [hl,A5,e,<-ep,AG (Av _),Dp];rfl
 have g2:(pendingOf st)[i+1]?=some (sb,nb,pw2):=by rw [hl,A5,e,<-ep,AG Am,show p.length+1-p.length=1 by lia];rfl
 subst e1
 refine zH C B g1 g2 Am n1 n2 Am u1 (e2▸u2) fun st' B' ep' kp u'=>?_
 have el:(pendingOf st').toList=p++(sa,na+nb,pw)::q:=by
  rw [ep',hl,e]
  have a1:((p++(sa,na,pw)::(sb,nb,pw2)::q).toArray.setIfInBounds i (sa,na+nb,pw))=(p++(sa,na+nb,pw)::(sb,nb,pw2)::q).toArray:=by
   rw [List.setIfInBounds_toArray,List.set_append_right _ _ Am,show i-p.length=0 by lia];rfl
  rw [a1]
  have a2:i+1<(p++(sa,na+nb,pw)::(sb,nb,pw2)::q).toArray.size:=by simp;lia
  rw [Array.eraseIdxIfInBounds_eq,dif_pos a2]
  rw [List.eraseIdx_toArray]
  rw [List.eraseIdx_append_of_length_le Am,show i+1-p.length=1 by lia]
  rfl
 refine h st' B' ?_ ?_ fun k hk=>kp k (.inr Am)
 .rw [el]
  refine Rs.app.mpr ⟨sa,Rp.keep fun k a b=>kp k (.inl b),rfl,by dsimp only;lia,u',?_⟩
  dsimp only
  rw [<-Nat.add_assoc]
  exact Rq.keep fun k a b=>kp k (.inr Am)
 have e3:(pendingOf st').size=(p++(sa,na+nb,pw)::q).length:=by rw [<-el];simp
 rw [e3,hl,e];simp;lia
end
theorem Rs.modify {J:KeyKind}{xs:Array Keyed}:∀{p:List (Nat×Nat×Nat)} {a b:Nat},Rs J xs a p b->∀(i:Nat) (f:Nat×Nat×Nat->Nat×Nat×Nat),(∀r,(f r).1=r.1/\(f r).2.1=r.2.1)->Rs J xs a (p.modify i f) b
 | [],a,b,h,i,f,hf=>by cases i <;> exact h
 | r::p,a,b,⟨h1,h2,h3,h4⟩,0,f,hf=>by
  refine ⟨(hf r).1.trans h1,by rw [(hf r).2];exact h2,by rw [(hf r).2];exact h3,by rw [(hf r).2];exact h4⟩
 | r::p,a,b,⟨h1,h2,h3,h4⟩,i+1,f,hf=>⟨h1,h2,h3,Rs.modify h4 i f hf⟩
section
variable {prog:Program}{w:World}{A:Around}{E:Value->Shared->Prop}{s:Shared}{J:KeyKind}{kd:SortKind}{a₀:Array Keyed}{st:SortSt}
theorem za (C:Cmp prog w A s J kd a₀)(B:SB kd a₀ st)(hp:pendingOf st=#[]){Q:Unit->SortSt->Prop}(h:∀st',SB kd a₀ st'->Up J (arrOf st') 0 a₀.size->Q () st'):wpS (model prog w) A E s sortRuns' Q st:=by
 rw [sortRuns'_eq]
 refine AC (ED ?_)
 dsimp only
 simp only [B.size]
 refine AC (CU (BM (I:=fun x c st'=>∃ lo,c=(none,lo)/\SB kd a₀ st'/\Rs J (arrOf st') 0 (pendingOf st').toList lo/\lo<=a₀.size/\(x<=lo∨lo=a₀.size))
  (Q:=fun c st'=>c=(none,a₀.size)/\SB kd a₀ st'/\Rs J (arrOf st') 0 (pendingOf st').toList a₀.size) ?_ ?_ ⟨0,rfl,B,by rw [hp];rfl,Am,Am⟩) ?_)
 .rintro x c st1 _ hx ⟨lo,rfl,B1,R1,h1,h2⟩
  dsimp only
  by_cases g1:lo ≥ a₀.size
  .rw [Az g1]
   have e:lo=a₀.size:=by lia
   subst e
   exact AM ⟨rfl,B1,R1⟩
  rw [Ay g1]
  refine AC (vK C B1 Am Am fun n st2 zz=>?_)
  obtain ⟨B2,p2,k2,n1,n2,U2⟩:=zz
  have R2:Rs J (arrOf st2) 0 (pendingOf st2).toList lo:=by rw [p2];exact R1.keep fun k a b=>k2 k b
  dsimp only
  by_cases g2:n<minRun' a₀.size a₀.size 0
  .rw [Az g2]
   refine AC (FA (B5 ⟨rfl,?_⟩))
   refine AC (y9 C B2 Am Am n1 U2 fun st3 B3 p3 k3 U3=>?_)
   simp only [Dw,AE,Bo]
   have R3:Rs J (arrOf st3) 0 (pendingOf st3).toList lo:=by rw [p3];exact R2.keep fun k a b=>k3 k b
   have mn:1<=min (a₀.size-lo) (minRun' a₀.size a₀.size 0):=by lia
   refine AC (ED ?_)
   have fin:∀st4:SortSt,SB kd a₀ st4->Rs J (arrOf st4) 0 (pendingOf st4).toList lo->Up J (arrOf st4) lo (min (a₀.size-lo) (minRun' a₀.size a₀.size 0))->
     ∃ lo',(ForInStep.yield ((none:Option Unit),lo+min (a₀.size-lo) (minRun' a₀.size a₀.size 0)))=ForInStep.yield (none,lo')/\SB kd a₀ (setPending st4 ((pendingOf st4).push (lo,min (a₀.size-lo) (minRun' a₀.size a₀.size 0),0)))/\Rs J (arrOf st4) 0 ((pendingOf st4).push (lo,min (a₀.size-lo) (minRun' a₀.size a₀.size 0),0)).toList lo'/\lo'<=a₀.size/\(x+1<=lo'∨lo'=a₀.size):=fun st4 B4 R4 U4=>by
    refine ⟨lo+min (a₀.size-lo) (minRun' a₀.size a₀.size 0),rfl,⟨B4.perm,B4.kind,B4.fail⟩,?_,Am,Am⟩
    rw [BG]
    exact Rs.app.mpr ⟨lo,R4,rfl,by dsimp only;lia,U4,rfl⟩
   cases hb:(pendingOf st3).back? with
   | none =>
    dsimp only
    obtain ⟨lo',e1,e2,e3,e4,e5⟩:=fin st3 B3 R3 U3
    exact AC (Dv (AM ⟨lo+min (a₀.size-lo) (minRun' a₀.size a₀.size 0),rfl,e2,by cases e1;exact e3,by cases e1;exact e4,by cases e1;exact e5⟩))
   | some bk =>
    obtain ⟨s1,n1,o1⟩:=bk
    dsimp only
    have hpos:0<(pendingOf st3).size:=by
     rcases Nat.eq_zero_or_pos (pendingOf st3).size with z | z
     .rw [C5 z] at hb;cases hb
     .exact z
    refine AC (CU (BM (I:=fun _ c st'=>c=(none,())/\SB kd a₀ st'/\Rs J (arrOf st') 0 (pendingOf st').toList lo/\0<(pendingOf st').size/\Up J (arrOf st') lo (min (a₀.size-lo) (minRun' a₀.size a₀.size 0)))
     (Q:=fun c st'=>c=(none,())/\SB kd a₀ st'/\Rs J (arrOf st') 0 (pendingOf st').toList lo/\0<(pendingOf st').size/\Up J (arrOf st') lo (min (a₀.size-lo) (minRun' a₀.size a₀.size 0))) ?_ (fun c st' z=>z) ⟨rfl,B3,R3,hpos,U3⟩) ?_)
    .rintro y c st3 _ _ ⟨rfl,B3,R3,p3,U3⟩
     refine AC (ED ?_)
     by_cases g2:(pendingOf st3).size>1
     .have g2':(pendingOf st3).size>1:=g2
      rw [Az g2']
      have ⟨o,eo⟩:∃ o,(pendingOf st3)[(pendingOf st3).size-2]?=some o:=⟨_,FV _ _ Am⟩
      rw [eo]
      obtain ⟨o1,o2,o3⟩:=o
      dsimp only
      split
      .exact AM ⟨rfl,B3,R3,p3,U3⟩
      .refine AC (nE C B3 R3 Am (by have:=g2;lia) fun st4 B4 R4 p4 k4=>?_)
       simp only [Dw,AE,Bo]
       exact AM ⟨rfl,B4,R4,Am,jM U3 fun k a b=>k4 k a⟩
     .have g2':¬ (pendingOf st3).size>1:=g2
      rw [Ay g2']
      exact AM ⟨rfl,B3,R3,p3,U3⟩
    .rintro c st3 ⟨rfl,B3,R3,p3,U3⟩
     dsimp only
     refine AC (Dv ?_)
     have R4:∀pw,Rs J (arrOf st3) 0 ((pendingOf st3).modify ((pendingOf st3).size-1) fun x=>match x with | (st,len,_)=>(st,len,pw)).toList lo:=fun pw=>by
      rw [FL]
      exact Rs.modify R3 _ _ fun r=>⟨rfl,rfl⟩
     obtain ⟨lo',e1,e2,e3,e4,e5⟩:=fin (setPending st3 ((pendingOf st3).modify ((pendingOf st3).size-1) fun x=>match x with | (st,len,_)=>(st,len,power' a₀.size (2*s1+n1) (2*s1+n1+n1+min (a₀.size-lo) (minRun' a₀.size a₀.size 0)) a₀.size))) ⟨B3.perm,B3.kind,B3.fail⟩ (R4 _) U3
     refine AC (Dv (AM ⟨lo+min (a₀.size-lo) (minRun' a₀.size a₀.size 0),rfl,⟨B3.perm,B3.kind,B3.fail⟩,?_,by cases e1;exact e4,by cases e1;exact e5⟩))
     cases e1
     exact e3
  .rw [Ay g2]
   refine AC (ED ?_)
   have fin:∀st4:SortSt,SB kd a₀ st4->Rs J (arrOf st4) 0 (pendingOf st4).toList lo->Up J (arrOf st4) lo (n)->
     ∃ lo',(ForInStep.yield ((none:Option Unit),lo+n))=ForInStep.yield (none,lo')/\SB kd a₀ (setPending st4 ((pendingOf st4).push (lo,n,0)))/\Rs J (arrOf st4) 0 ((pendingOf st4).push (lo,n,0)).toList lo'/\lo'<=a₀.size/\(x+1<=lo'∨lo'=a₀.size):=fun st4 B4 R4 U4=>by
    refine ⟨lo+n,rfl,⟨B4.perm,B4.kind,B4.fail⟩,?_,Am,Am⟩
    rw [BG]
    exact Rs.app.mpr ⟨lo,R4,rfl,by dsimp only;lia,U4,rfl⟩
   cases hb:(pendingOf st2).back? with
   | none =>
    dsimp only
    obtain ⟨lo',e1,e2,e3,e4,e5⟩:=fin st2 B2 R2 U2
    exact AC (Dv (AM ⟨lo+n,rfl,e2,by cases e1;exact e3,by cases e1;exact e4,by cases e1;exact e5⟩))
   | some bk =>
    obtain ⟨s1,n1,o1⟩:=bk
    dsimp only
    have hpos:0<(pendingOf st2).size:=by
     rcases Nat.eq_zero_or_pos (pendingOf st2).size with z | z
     .rw [C5 z] at hb;cases hb
     .exact z
    refine AC (CU (BM (I:=fun _ c st'=>c=(none,())/\SB kd a₀ st'/\Rs J (arrOf st') 0 (pendingOf st').toList lo/\0<(pendingOf st').size/\Up J (arrOf st') lo (n))
     (Q:=fun c st'=>c=(none,())/\SB kd a₀ st'/\Rs J (arrOf st') 0 (pendingOf st').toList lo/\0<(pendingOf st').size/\Up J (arrOf st') lo (n)) ?_ (fun c st' z=>z) ⟨rfl,B2,R2,hpos,U2⟩) ?_)
    .rintro y c st3 _ _ ⟨rfl,B3,R3,p3,U3⟩
     refine AC (ED ?_)
     by_cases g2:(pendingOf st3).size>1
     .have g2':(pendingOf st3).size>1:=g2
      rw [Az g2']
      have ⟨o,eo⟩:∃ o,(pendingOf st3)[(pendingOf st3).size-2]?=some o:=⟨_,FV _ _ Am⟩
      rw [eo]
      obtain ⟨o1,o2,o3⟩:=o
      dsimp only
      split
      .exact AM ⟨rfl,B3,R3,p3,U3⟩
      .refine AC (nE C B3 R3 Am (by have:=g2;lia) fun st4 B4 R4 p4 k4=>?_)
       simp only [Dw,AE,Bo]
       exact AM ⟨rfl,B4,R4,Am,jM U3 fun k a b=>k4 k a⟩
     .have g2':¬ (pendingOf st3).size>1:=g2
      rw [Ay g2']
      exact AM ⟨rfl,B3,R3,p3,U3⟩
    .rintro c st3 ⟨rfl,B3,R3,p3,U3⟩
     dsimp only
     refine AC (Dv ?_)
     have R4:∀pw,Rs J (arrOf st3) 0 ((pendingOf st3).modify ((pendingOf st3).size-1) fun x=>match x with | (st,len,_)=>(st,len,pw)).toList lo:=fun pw=>by
      rw [FL]
      exact Rs.modify R3 _ _ fun r=>⟨rfl,rfl⟩
     obtain ⟨lo',e1,e2,e3,e4,e5⟩:=fin (setPending st3 ((pendingOf st3).modify ((pendingOf st3).size-1) fun x=>match x with | (st,len,_)=>(st,len,power' a₀.size (2*s1+n1) (2*s1+n1+n1+n) a₀.size))) ⟨B3.perm,B3.kind,B3.fail⟩ (R4 _) U3
     refine AC (Dv (AM ⟨lo+n,rfl,⟨B3.perm,B3.kind,B3.fail⟩,?_,by cases e1;exact e4,by cases e1;exact e5⟩))
     cases e1
     exact e3
 .rintro c st1 ⟨lo,rfl,B1,R1,h1,h2⟩
  have e:lo=a₀.size:=by lia
  subst e
  exact ⟨rfl,B1,R1⟩
 rintro c st1 ⟨rfl,B1,R1⟩
 dsimp only
 refine AC (CU (BM (I:=fun x c st'=>c=(none,())/\SB kd a₀ st'/\Rs J (arrOf st') 0 (pendingOf st').toList a₀.size/\((pendingOf st').size<=1∨(pendingOf st').size+x<=a₀.size))
  (Q:=fun c st'=>c=(none,())/\SB kd a₀ st'/\Rs J (arrOf st') 0 (pendingOf st').toList a₀.size/\(pendingOf st').size<=1) ?_ ?_ ⟨rfl,B1,R1,?_⟩) ?_)
 .rintro x c st2 _ hx ⟨rfl,B2,R2,h2⟩
  refine AC (ED ?_)
  by_cases g1:(pendingOf st2).size<=1
  .rw [Az g1]
   exact AM ⟨rfl,B2,R2,g1⟩
  .rw [Ay g1]
   refine AC (nE C B2 R2 (Av _) ?_ fun st3 B3 R3 p3 k3=>?_)
   .have it:∀(c:Prop) [Decidable c] (n:Nat),1<n->(if c then n-2-1 else n-2)+1<n:=fun c _ n h=>by split <;> lia
    exact it _ _ Am
   .simp only [Dw,AE,Bo]
    exact AM ⟨rfl,B3,R3,Am⟩
 .rintro c st2 ⟨rfl,B2,R2,h2⟩
  exact ⟨rfl,B2,R2,Am⟩
 .have:=R1.len
  right
  simp only [Bf] at this
  lia
 rintro c st2 ⟨rfl,B2,R2,h2⟩
 refine AM (h st2 B2 ?_)
 generalize el:(pendingOf st2).toList=l at R2
 have ell:l.length<=1:=by rw [<-el];simpa using h2
 cases l with
 | nil =>
  have e:0=a₀.size:=R2
  intro i j a b c
  lia
 | cons r l =>
  obtain ⟨e1,e2,u,R⟩:=R2
  have e0:l=[]:=by
   cases l with
   | nil=>rfl
   | cons _ _=>simp at ell
  subst e0
  have e3:0+r.2.1=a₀.size:=R
  rw [FX] at e3
  rw [<-e3];exact u
end
section
variable {prog:Program}{w:World}{A:Around}{E:Value->Shared->Prop}{s:Shared}{J:KeyKind}{kd:SortKind}
theorem mt {P:Fin->Shared->Prop}(ho:s.heap.get? a=some (seqObj "list" vs.toArray n))(hn:vs.length<=sizeLine)(hkk:∀h':Heap,(∀b o,b≠a->s.heap.get? b=some o->h'.get? b=some o)->2<=vs.length->∀Q:SortKind->Shared->Prop,Q kd { s with heap:=h' }->wpAny (model prog w) A (keyKind' vs.toArray) Q E { s with heap:=h' })(hC:∀h':Heap,(∀b o,b≠a->s.heap.get? b=some o->h'.get? b=some o)->2<=vs.length->Cmp prog w A { s with heap:=h' } J kd (pairsOf vs))(h:∀st':SortSt,(arrOf st').Perm (pairsOf vs)->Up J (arrOf st') 0 (pairsOf vs).size->P (.done (.ret .none)) { s with heap:=sortedHeap s.heap a vs ((arrOf st').map (·.2)) }):
  wpAny (model prog w) A (Builtin.«list.sort» ⟨[.ref a],[]⟩) P E s:=by
 rw [list_sort_plain]
 have ha:a<s.heap.objs.size:=AA ho
 refine gV (listItems_at ho rfl ?_)
 refine gV (listUpdate_at ho rfl ?_ (hsz:=by simpa using hn))
 obtain ⟨e1,ho1⟩:∃ e1,(s.heap.update a (Obj.mapSeq fun _=>#[])).get? a=some (seqObj "list" #[] e1):=⟨_,get?_update_seq ho (fun _=>#[])⟩
 refine gV (seqEpoch_at ho1 rfl ?_)
 refine gV (DH ?_)
 refine gV (E6 ?_)
 refine A7 ?_
 have ho6:(((s.heap.update a (Obj.mapSeq fun _=>#[])).push (seqObj "tuple" vs.toArray 0)).push (seqObj "list" #[] 0)).get? a=some (seqObj "list" #[] e1):=by
  rw [CV _ _ _ (by rw [size_push',DP];exact AJ (B7 ha)),CV _ _ _ (by rw [DP];exact AJ ha)]
  exact ho1
 have keep:∀b o,b≠a->s.heap.get? b=some o->(((s.heap.update a (Obj.mapSeq fun _=>#[])).push (seqObj "tuple" vs.toArray 0)).push (seqObj "list" #[] 0)).get? b=some o:=fun b o hb e=>by
  have hlt:=AA e
  rw [CV _ _ _ (by rw [size_push',DP];exact AJ (B7 hlt)),CV _ _ _ (by rw [DP];exact AJ hlt),Heap.get?_update_ne _ _ _ _ hb]
  exact e
 show wpAny (model prog w) A _ P E { s with heap:=((s.heap.update a (Obj.mapSeq fun _=>#[])).push (seqObj "tuple" vs.toArray 0)).push (seqObj "list" #[] 0) }
 dsimp only
 have hsz:vs.toArray.size=vs.length:=by simp
 by_cases h2:vs.toArray.size<2
 .rw [Az h2,Az h2]
  refine gV (Aq ?_)
  rw [StateT.run_pure]
  refine gV (Aq ?_)
  dsimp only
  refine gV (seqEpoch_at ho6 rfl ?_)
  refine gV (listUpdate_at ho6 rfl ?_ (hsz2:=by rw [Array.size_map];show (pairsOf vs).size<=_;rw [El];lia))
  simp only [Ee,AE,Bo]
  refine Aq (h (SortSt.mk' general' (vs.toArray.zip vs.toArray) #[] 7 none) (Array.Perm.refl _) ?_)
  intro i j _ hij hj
  have:i=j:=by rw [El] at hj;lia
  subst this;exact CJ _
 rw [Ay h2,Ay h2]
 refine gV (hkk _ keep Am _ ?_)
 refine gV (Cn (za (E:=E) (hC _ keep Am) (a₀:=pairsOf vs) (st:=SortSt.mk' kd (vs.toArray.zip vs.toArray) #[] 7 none)
  (Q:=fun _ st'=>SB kd (pairsOf vs) st'/\Up J (arrOf st') 0 (pairsOf vs).size) ⟨Array.Perm.refl _,rfl,rfl⟩ rfl fun st' a1 a2=>⟨a1,a2⟩) ?_ fun _ _ e=>e)
 rintro ⟨⟨⟩,st'⟩ s' ⟨rfl,B,U⟩
 dsimp only
 refine gV (seqEpoch_at ho6 rfl ?_)
 refine gV (listUpdate_at ho6 rfl ?_ (hsz2:=by refine AV (FY ((Array.size_map ..).trans (B.perm.size_eq.trans (El _)))) ?_;lia))
 rw [B.fail]
 simp only [Ee,AE,Bo]
 exact Aq (h st' B.perm U)
theorem sorted_any (hl:s.heap.IsList l vs.toArray)(hn:vs.length<=sizeLine)(hkk:∀h':Heap,(∀b o,s.heap.get? b=some o->h'.get? b=some o)->2<=vs.length->∀(E:Value->Shared->Prop) (A:Around) (Q:SortKind->Shared->Prop),Q kd { s with heap:=h' }->wpAny (model prog w) A (keyKind' vs.toArray) Q E { s with heap:=h' })(hC:∀h':Heap,(∀b o,s.heap.get? b=some o->h'.get? b=some o)->2<=vs.length->∀A:Around,Cmp prog w A { s with heap:=h' } J kd (pairsOf vs))(h:∀st':SortSt,(arrOf st').Perm (pairsOf vs)->Up J (arrOf st') 0 (pairsOf vs).size->Q (.ref (s.heap.objs.size+1)) { s with heap:=sortedAll s.heap vs ((arrOf st').map (·.2)) }):
  wpAny (model prog w) A (call (.builtin "sorted") [.ref l]) Q E s:=by
 refine DI kind_sorted plain_sorted entry_sorted (args_sorted1 _) ?_
 unfold Builtin.«sorted»
 refine gV (m:=checkCount "sorted" 1 1 _) (Aq ?_)
 refine gV (collect_list hl ?_)
 refine gV (E6 ?_)
 have hsz:((s.heap.push (seqObj "list" #[] 0)).update s.heap.objs.size (Obj.mapSeq (·++vs.toArray))).objs.size=s.heap.objs.size+1:=by
  rw [DP,size_push']
 have hoL:(((s.heap.push (seqObj "list" #[] 0)).update s.heap.objs.size (Obj.mapSeq (·++vs.toArray))).push (seqObj "list" vs.toArray 0)).get? (s.heap.objs.size+1)=some (seqObj "list" vs.toArray 0):=by
  rw [<-hsz];exact AF _ rfl
 have keep:∀b o,s.heap.get? b=some o->(((s.heap.push (seqObj "list" #[] 0)).update s.heap.objs.size (Obj.mapSeq (·++vs.toArray))).push (seqObj "list" vs.toArray 0)).get? b=some o:=fun b o e=>by
  have hlt:=AA e
  rw [CV _ _ _ (by rw [hsz];exact AJ (B7 hlt)),Heap.get?_update_ne _ _ _ _ (AJ hlt),CV _ _ _ (AJ hlt)]
  exact e
 have nb:∀b o,s.heap.get? b=some o->b≠s.heap.objs.size+1:=fun b o e=>AJ (B7 (AA e))
 show wpAny _ _ _ _ _ { s with heap:=((s.heap.push (seqObj "list" #[] 0)).update s.heap.objs.size (Obj.mapSeq (·++vs.toArray))).push (seqObj "list" vs.toArray 0) }
 rw [hsz]
 refine gV (A7 (Bp slot_list_sort ⟨_,hoL,rfl⟩ entry_list_sort (mt hoL hn (fun h' k g Q q=>hkk h' (fun b o e=>k b o (nb b o e) (keep b o e)) g _ _ Q q) (fun h' k g=>hC h' (fun b o e=>k b o (nb b o e) (keep b o e)) g _) fun st' a1 a2=>⟨_,rfl,?_⟩) (args_list_sort _)))
 exact Aq ⟨_,rfl,h st' a1 a2⟩
end
end TS

namespace L2
open PySem PySem.Spec PyProof.Rows
abbrev Key:=Sum Int Str
def keyIs:Key->Value->Bool
 | .inl k,v=>Value.isInt k v
 | .inr x,v=>Value.isStrOf x v
def zN (w:World):Key->Int
 | .inl k=>hashInt k
 | .inr x=>hashStr w x
theorem keyIs_shape:∀{k:Key} {v:Value},keyIs k v=true->(∃ i t,k=Sum.inl i/\v=Value.int i t)∨(∃ x t,k=Sum.inr x/\v=Value.str x t)
 | .inl i,v,h=>by
  obtain ⟨t,e⟩:=EY (k:=i) (v:=v) h
  exact .inl ⟨i,t,rfl,e⟩
 | .inr x,v,h=>by
  obtain ⟨t,e⟩:=Value.isStrOf_shape (x:=x) (v:=v) h
  exact .inr ⟨x,t,rfl,e⟩
theorem qr (i:Int)(t:Tok):keyIs (.inl i) (.int i t)=true:=by simp [keyIs,Value.isInt]
theorem qG (x:Str)(t:Tok):keyIs (.inr x) (.str x t)=true:=by simp [keyIs,Value.isStrOf]
theorem yr (a b:Int):decide ((Sum.inl a:Key)=Sum.inl b)=(a == b):=by
 by_cases e:a=b
 .subst e;simp
 have h:¬ (Sum.inl a:Key)=Sum.inl b:=fun q=>e (Sum.inl.inj q)
 rw [AR h]
 exact (BW.mpr e).symm
theorem xW (a b:Str):decide ((Sum.inr a:Key)=Sum.inr b)=decide (a=b):=by
 by_cases e:a=b
 .subst e;simp
 have h:¬ (Sum.inr a:Key)=Sum.inr b:=fun q=>e (Cd q)
 rw [AR h,AR e]
theorem x4 (a:Int)(b:Str):decide ((Sum.inl a:Key)=Sum.inr b)=false:=AR (fun q=>nomatch q)
theorem yh (a:Str)(b:Int):decide ((Sum.inr a:Key)=Sum.inl b)=false:=AR (fun q=>nomatch q)
def mixKind (prog:Program)(w:World):PySem.KeyKind prog w Key where
 is:=keyIs
 hash:=zN w
 inj:=fun v a b ha hb=>by
  rcases keyIs_shape ha with ⟨i,t,rfl,rfl⟩ | ⟨x,t,rfl,rfl⟩
  .rcases keyIs_shape hb with ⟨j,u,rfl,e⟩ | ⟨y,u,rfl,e⟩
   .injection e with e1 _;rw [e1]
   .exact nomatch e
  .rcases keyIs_shape hb with ⟨j,u,rfl,e⟩ | ⟨y,u,rfl,e⟩
   .exact nomatch e
   .injection e with e1 _;rw [e1]
 byValue:=fun k v h=>by
  rcases keyIs_shape h with ⟨i,t,rfl,rfl⟩ | ⟨x,t,rfl,rfl⟩ <;> rfl
 pyHash:=fun hv h=>by
  rcases keyIs_shape hv with ⟨i,t,rfl,rfl⟩ | ⟨x,t,rfl,rfl⟩
  .exact wpAny_pyHash_int h
  .exact wpAny_pyHash_str h
 eqBool:=fun hu hv h=>by
  rcases keyIs_shape hu with ⟨i,t,rfl,rfl⟩ | ⟨x,t,rfl,rfl⟩
  .rcases keyIs_shape hv with ⟨j,u,rfl,rfl⟩ | ⟨y,u,rfl,rfl⟩
   .rw [yr] at h;exact wpAny_eqBool_int h
   .rw [x4] at h;exact SeqAt.EqAt.int_str i t y u _ _ _ _ h
  .rcases keyIs_shape hv with ⟨j,u,rfl,rfl⟩ | ⟨y,u,rfl,rfl⟩
   .rw [yh] at h;exact SeqAt.EqAt.str_int x t j u _ _ _ _ h
   .rw [xW] at h;exact wpAny_eqBool_str h
 «strs»:=fun k x t v h=>by
  rcases keyIs_shape h with ⟨i,u,rfl,e⟩ | ⟨y,u,rfl,e⟩
  .exact nomatch e
  .injection e with e1 _
   subst e1
   cases v <;> rfl
theorem kP (prog:Program)(w:World)(i:Int)(t:Tok):(mixKind prog w).is (.inl i) (.int i t)=true:=qr i t
theorem cz (prog:Program)(w:World)(x:Str)(t:Tok):(mixKind prog w).is (.inr x) (.str x t)=true:=qG x t
inductive V where
 | non | bl (b:Bool) | int (i:Int) | str (x:Str) | byt (b:Array UInt8) | flt (b:UInt64) | ref (a:Addr) | ty (n:String)
 deriving DecidableEq
def RelV:V->Value->Prop
 | .non,u=>u=Value.none
 | .bl b,u=>u=Value.bool b
 | .int i,u=>∃ t,u=Value.int i t
 | .str x,u=>∃ t,u=Value.str x t
 | .byt b,u=>∃ t,u=Value.bytes b t
 | .flt b,u=>∃ t,u=Value.float b t
 | .ref a,u=>u=Value.ref a
 | .ty n,u=>u=Value.type n
abbrev Vals:List V->List Value->Prop:=Paired RelV
theorem Vals.length {xs:List V}(r:Vals xs us):xs.length=us.length:=Bk r
theorem Vals.get:∀{xs:List V} {us:List Value} {i:Nat} {x:V},Vals xs us->xs[i]?=some x->∃ u,us[i]?=some u/\RelV x u
 | _,_,_,_,.nil,e=>by simp at e
 | _,_,0,_,.cons r _,e=>by simp at e;subst e;exact ⟨_,rfl,r⟩
 | _,_,i+1,x,.cons _ t,e=>by
  obtain ⟨u,h1,h2⟩:=Vals.get (i:=i) (x:=x) t (by simpa using e)
  exact ⟨u,by simpa using h1,h2⟩
theorem Vals.set {x:V}(r:RelV x u):∀{xs:List V} {us:List Value} (i:Nat),Vals xs us->Vals (xs.set i x) (us.set i u)
 | _,_,_,.nil=>.nil
 | _,_,0,.cons _ t=>.cons r t
 | _,_,i+1,.cons q t=>.cons q (Vals.set r i t)
theorem Vals.append:∀{xs ys:List V} {us ws:List Value},Vals xs us->Vals ys ws->Vals (xs++ys) (us++ws)
 | _,_,_,_,.nil,s=>s
 | _,_,_,_,.cons r t,s=>.cons r (Vals.append t s)
theorem Vals.take:∀{xs:List V} {us:List Value} (n:Nat),Vals xs us->Vals (xs.take n) (us.take n)
 | _,_,0,_=>.nil
 | _,_,_+1,.nil=>.nil
 | _,_,n+1,.cons r t=>.cons r (Vals.take n t)
theorem Vals.drop:∀{xs:List V} {us:List Value} (n:Nat),Vals xs us->Vals (xs.drop n) (us.drop n)
 | _,_,0,r=>r
 | _,_,_+1,.nil=>.nil
 | _,_,n+1,.cons _ t=>Vals.drop n t
def RelO:Option V->Option Value->Prop
 | some v,some u=>RelV v u
 | none,none=>True
 | _,_=>False
def KV {J:Type}:List (J×V)->List (J×Value)->Prop:=Paired fun (p:J×V) (q:J×Value)=>p.1=q.1/\RelV p.2 q.2
def kV:Key->V
 | .inl i=>.int i
 | .inr x=>.str x
inductive HO where
 /-- a list -/
 | lst (xs:List V)
 /-- a tuple (never changes) -/
 | tup (xs:List V)
 /-- a dict whose keys are ints and texts;one whose keys are tuples of ints and texts (the empty one is both) -/
 | dK (kvs:List (Key×V)) | dT (kvs:List (List Key×V))
 /-- a set of ints: its members,its size -/
 | set (S:Int->Bool) (n:Nat)
 /-- an instance of the class at C,its dict at dx,its attributes -/
 | ins (C dx:Addr) (fs:List (Str×V))
 /-- the dict of the instance at x -/
 | own (x:Addr)
 /-- the dict of an exception -/
 | xd (fs:List (Str×V))
 /-- a bound method,f of x -/
 | met (f x:Addr)
 /-- a range object lo,lo+1,.. below hi -/
 | rng (lo hi:Int)
 /-- a thing that is known to the object (the script;a dict while a loop walks it): read,never written while it is so -/
 | frz (o:Obj) (u:HO)
 /-- a code object's table -/
 | tbl (ps:Array Value)
 /-- any other thing,by what is true of its one object (a def of one's own: SetO a S n:=HO.ext fun h=>..) -/
 | ext (φ:Heap->Prop)
abbrev Hp:=Addr->Option HO
def upd (H:Hp)(a:Addr)(o:HO):Hp:=fun b=>if b=a then some o else H b
theorem ag {H:Hp}{o:HO}:upd H a o a=some o:=by unfold upd;rw [Az rfl]
theorem ao {H:Hp}{b:Addr}{o:HO}(h:b≠a):upd H a o b=H b:=by unfold upd;rw [Ay h]
theorem cu {H:Hp}{o u:HO}:upd (upd H a o) a u=upd H a u:=by
 funext b;unfold upd;split <;> rfl
theorem bv {H:Hp}{b:Addr}{o u:HO}(h:H a=some o)(h':H b=some u)(d:o≠u):a≠b:=by
 intro e;subst e;rw [h] at h';exact d (Be h')
theorem ap {H:Hp}{b:Addr}{o:HO}(h:H a=some o)(h':H b=none):a≠b:=by
 intro e;subst e;rw [h] at h';cases h'
section
variable (P:Program)(w:World)
def ObjOk (H:Hp)(h:Heap)(a:Addr):HO->Prop
 | .lst xs=>xs.length<=sizeLine/\∃ (its:List Value) (n:Nat),Vals xs its/\h.get? a=some { cls:=.type "list",data:=.seq its.toArray n }
 | .tup xs=>xs.length<=sizeLine/\∃ its:List Value,Vals xs its/\IsTup h a its.toArray
 | .dK kvs=>kvs.length<=sizeLine/\(a == sysModules)=false/\∃ vs,KV kvs vs/\h.DictOf (mixKind P w) a vs
 | .dT kvs=>kvs.length<=sizeLine/\(a == sysModules)=false/\∃ xs:List (List Key×Addr×Value),
   Paired (fun (p:List Key×V) (q:List Key×Addr×Value)=>p.1=q.1/\H q.2.1=some (.tup (p.1.map kV))/\RelV p.2 q.2.2) kvs xs /\
   ∃ o es ep,h.get? a=some o/\o.ExactDict/\o.data=.dict es ep/\es.toList=xs.map (entryOfKey (tupleKind (mixKind P w)))/\(xs.map (·.1)).Nodup
 | .set S n=>h.SetOf (intKind P w) a S n
 | .ins C dx fs=>H dx=some (.own a)/\fs.length<=1000/\dx≠a/\h.get? a=some (W.instObj C dx) /\
   ∃ mA,h.Ns1 dx mA/\(∀f,RelO (fs.lookup f) (mA f))/\PySem.Within mA (fs.map (·.1))
 | .own _=>∃ o,h.get? a=some o
 | .xd fs=>∃ mA,h.Ns1 a mA/\∀f,RelO (fs.lookup f) (mA f)
 | .rng lo hi=>∃ t u v,h.get? a=some { cls:=.type "range",data:=.fields #[.int lo t,.int hi u,.int 1 v] }
 | .frz o u=>h.get? a=some o/\ObjOk H h a u
 | .tbl ps=>h.get? a=some { cls:=.none,data:=.fields ps }
 | .met f x=>h.get? a=some (W.methodObj (.ref f) (.ref x))
 | .ext φ=>φ h/\(∃ o,h.get? a=some o)/\∀h1 h2:Heap,φ h1->(∀o,h1.get? a=some o->h2.get? a=some o)->φ h2
def HOk (H:Hp)(h:Heap):Prop:=∀a o,H a=some o->ObjOk P w H h a o
end
section
variable {P:Program}{w:World}{H H':Hp}{h h':Heap}{a:Addr}{o:HO}
theorem ObjOk.lt (x:ObjOk P w H h a o):a<h.objs.size:=by
 cases o with
 | lst xs=>obtain ⟨_,_,_,_,e⟩:=x;exact AA e
 | tup xs=>obtain ⟨_,_,_,p⟩:=x;exact p.lt
 | dK kvs=>obtain ⟨_,_,_,_,o,_,_,e,_⟩:=x;exact AA e
 | dT kvs=>obtain ⟨_,_,_,_,o,_,_,e,_⟩:=x;exact AA e
 | set S n=>obtain ⟨o,_,_,_,e,_⟩:=x;exact AA e
 | ins C dx fs=>obtain ⟨_,_,_,e,_⟩:=x;exact AA e
 | own y=>obtain ⟨_,e⟩:=x;exact AA e
 | xd fs=>obtain ⟨_,⟨_,_,_,e,_⟩,_⟩:=x;exact AA e
 | rng lo hi=>obtain ⟨_,_,_,e⟩:=x;exact AA e
 | frz ob u=>obtain ⟨e,_⟩:=x;exact AA e
 | tbl ps=>exact AA (show h.get? a=some _ from x)
 | met f y=>exact AA (show h.get? a=some _ from x)
 | ext φ=>obtain ⟨_,⟨_,e⟩,_⟩:=x;exact AA e
theorem Paired.mapP {α β:Type}{F G:α->β->Prop}:∀{l₁:List α} {l₂:List β},Paired F l₁ l₂->(∀a b,F a b->G a b)->Paired G l₁ l₂
 | _,_,.nil,_=>.nil
 | _,_,.cons r t,f=>.cons (f _ _ r) (Paired.mapP t f)
theorem Paired.imp' {α β:Type}{F G:α->β->Prop}(f:∀a b,F a b->G a b){l₁:List α}{l₂:List β}(r:Paired F l₁ l₂):Paired G l₁ l₂:=Paired.mapP r f
theorem ObjOk.stay (x:ObjOk P w H h a o)(k:∀b u,(b=a∨H b=some (.own a))->h.get? b=some u->h'.get? b=some u)(ho:∀b,H b=some (.own a)->H' b=some (.own a))(ht:∀b xs,H b=some (.tup xs)->H' b=some (.tup xs)):ObjOk P w H' h' a o:=by
 induction o with
 | lst xs=>obtain ⟨z,its,n,r,e⟩:=x;exact ⟨z,its,n,r,k _ _ (.inl rfl) e⟩
 | tup xs=>obtain ⟨z,its,r,ob,e,c⟩:=x;exact ⟨z,its,r,ob,k _ _ (.inl rfl) e,c⟩
 | dK kvs=>obtain ⟨z,y,vs,r,ob,es,ep,e,c⟩:=x;exact ⟨z,y,vs,r,ob,es,ep,k _ _ (.inl rfl) e,c⟩
 | dT kvs =>
  obtain ⟨z,y,xs,r,ob,es,ep,e,c⟩:=x
  exact ⟨z,y,xs,Paired.mapP r fun p q z=>⟨z.1,ht _ _ z.2.1,z.2.2⟩,ob,es,ep,k _ _ (.inl rfl) e,c⟩
 | set S n=>obtain ⟨ob,es,ep,t,e,c⟩:=x;exact ⟨ob,es,ep,t,k _ _ (.inl rfl) e,c⟩
 | ins C dx fs =>
  obtain ⟨d,z,ne,e,mA,⟨od,es,ep,e2,c⟩,r⟩:=x
  exact ⟨ho _ d,z,ne,k _ _ (.inl rfl) e,mA,⟨od,es,ep,k _ _ (.inr d) e2,c⟩,r⟩
 | own y=>obtain ⟨ob,e⟩:=x;exact ⟨ob,k _ _ (.inl rfl) e⟩
 | xd fs=>obtain ⟨mA,⟨od,es,ep,e,c⟩,r⟩:=x;exact ⟨mA,⟨od,es,ep,k _ _ (.inl rfl) e,c⟩,r⟩
 | rng lo hi=>obtain ⟨t,u,v,e⟩:=x;exact ⟨t,u,v,k _ _ (.inl rfl) e⟩
 | frz ob u ih=>obtain ⟨e,q⟩:=x;exact ⟨k _ _ (.inl rfl) e,ih q⟩
 | tbl ps =>
  have e:h.get? a=some { cls:=.none,data:=.fields ps }:=x
  show h'.get? a=some { cls:=.none,data:=.fields ps }
  exact k a _ (.inl rfl) e
 | met f y =>
  have e:h.get? a=some (W.methodObj (.ref f) (.ref y)):=x
  show h'.get? a=some (W.methodObj (.ref f) (.ref y))
  exact k a _ (.inl rfl) e
 | ext φ=>obtain ⟨p,⟨o,e⟩,st⟩:=x;exact ⟨st _ _ p fun o q=>k _ _ (.inl rfl) q,⟨o,k _ _ (.inl rfl) e⟩,st⟩
theorem HOk.lt (x:HOk P w H h)(e:H a=some o):a<h.objs.size:=(x a o e).lt
theorem HOk.fresh (x:HOk P w H h)(e:h.objs.size<=a):H a=none:=by
 cases q:H a with
 | none=>rfl
 | some u=>exact absurd (A2 (x.lt q) e) (CD _)
theorem HOk.kept (x:HOk P w H h)(k:∀b u,h.get? b=some u->h'.get? b=some u):HOk P w H h':=fun a o e =>
 (x a o e).stay (fun b u _ q=>k b u q) (fun _ q=>q) fun _ _ q=>q
theorem HOk.laid (x:HOk P w H h)(k:∀b u,h.get? b=some u->h'.get? b=some u)(hp:h.objs.size<=a)(new:ObjOk P w (upd H a o) h' a o):HOk P w (upd H a o) h':=fun b u e=>by
 have hn:=x.fresh hp
 by_cases hb:b=a
 .subst hb;rw [ag] at e;cases e;exact new
 rw [ao hb] at e
 exact (x b u e).stay (fun c v _ q=>k c v q) (fun c q=>by rw [ao (ap q hn)];exact q) fun c xs q=>by rw [ao (ap q hn)];exact q
end
def Rd (H:Hp)(a:Addr)(u:HO):Prop:=H a=some u∨∃ o,H a=some (.frz o u)
theorem Rd.of {H:Hp}{u:HO}(h:H a=some u):Rd H a u:=.inl h
theorem Rd.ok {P:Program}{H:Hp}{u:HO}(r:Rd H a u)(x:HOk P w H h):ObjOk P w H h a u:=by
 rcases r with r | ⟨o,r⟩
 .exact x a u r
 obtain ⟨_,q⟩:=x a _ r
 exact q
def Mut:Option HO->Prop
 | some (.lst _)=>True
 | some (.dK _)=>True
 | some (.dT _)=>True
 | some (.set _ _)=>True
 | some (.ins _ _ _)=>True
 | some (.ext _)=>True
 | _=>False
section
variable {P:Program}{w:World}{H:Hp}{h h':Heap}{x e:Addr}{o':HO}
theorem HOk.write (ok:HOk P w H h)(mu:Mut (H x))(he:e=x∨H e=some (.own x))(k:∀b u,b≠e->h.get? b=some u->h'.get? b=some u)(heo:∃ u,h'.get? e=some u)(new:ObjOk P w (upd H x o') h' x o'):HOk P w (upd H x o') h':=fun b u q=>by
 have nown:∀c y,H c=some (.own y)->c≠x:=fun c y r z=>by subst z;rw [r] at mu;exact mu
 have ntup:∀c xs,H c=some (.tup xs)->c≠x:=fun c xs r z=>by subst z;rw [r] at mu;exact mu
 by_cases hb:b=x
 .subst hb;rw [ag] at q;cases q;exact new
 rw [ao hb] at q
 by_cases hbe:b=e
 .have q':H b=some (.own x):=by
   rcases he with z | z
   .exact absurd (hbe.trans z) hb
   .rw [hbe];exact z
  rw [q] at q';cases q'
  obtain ⟨v,hv⟩:=heo
  exact ⟨v,by rw [hbe];exact hv⟩
 refine (ok b u q).stay (fun c v hc r=>k c v ?_ r) (fun c r=>by rw [ao (nown c b r)];exact r) fun c xs r=>by rw [ao (ntup c xs r)];exact r
 rcases hc with rfl | hc
 .exact hbe
 rintro rfl
 rcases he with z | z
 .exact nown c b hc z
 rw [hc] at z;cases z;exact hb rfl
end
structure Un (fs ex:List Addr)(H H':Hp)(h h':Heap):Prop where
 keep:∀b o,h.get? b=some o->H b=none->b∉fs->b∉ex->h'.get? b=some o
 slot:∀b o,h.get? b=some o->H b=none->b∈fs->b∉ex->∃ sl,h'.get? b=some { o with slots:=sl }
 free:∀b o,h.get? b=some o->H b=none->b∉ex->H' b=none
 there:∀b o,h.get? b=some o->b∉ex->∃ o',h'.get? b=some o'
 tups:∀b xs,H b=some (.tup xs)->H' b=some (.tup xs)
 frzs:∀b o u,H b=some (.frz o u)->H' b=some (.frz o u)
 tbls:∀b ps,H b=some (.tbl ps)->∃ more,H' b=some (.tbl (ps++more))
section
variable {fs fs' ex ex':List Addr}{H H1 H2:Hp}{h h1 h2 h':Heap}{a x e:Addr}{o:HO}
theorem Un.any (u:Un fs ex H H1 h h1){b:Addr}{ob:Obj}(q:h.get? b=some ob)(n:H b=none)(hx:b∉ex):∃ sl,h1.get? b=some { ob with slots:=sl }:=by
 by_cases hb:b∈fs
 .exact u.slot b ob q n hb hx
 exact ⟨ob.slots,u.keep b ob q n hb hx⟩
theorem Un.kept (k:∀b u,h.get? b=some u->h'.get? b=some u):Un fs ex H H h h' :=
 ⟨fun b ob q _ _ _=>k b ob q,fun b ob q _ _ _=>⟨ob.slots,k b ob q⟩,fun _ _ _ n _=>n,fun b ob q _=>⟨ob,k b ob q⟩,fun _ _ q=>q,fun _ _ _ q=>q,fun _ ps q=>⟨#[],by rw [q];simp⟩⟩
theorem Un.refl:Un fs ex H H h h:=Un.kept fun _ _ q=>q
theorem Un.laid (k:∀b u,h.get? b=some u->h'.get? b=some u)(hp:h.objs.size<=a)(hn:H a=none):Un fs ex H (upd H a o) h h' where
 keep:=fun b u q _ _ _=>k b u q
 slot:=fun b u q _ _ _=>⟨u.slots,k b u q⟩
 free:=fun b u q n _=>by rw [ao (AJ (A2 (AA q) hp))];exact n
 there:=fun b u q _=>⟨u,k b u q⟩
 tups:=fun b xs q=>by rw [ao (ap q hn)];exact q
 frzs:=fun b u xs q=>by rw [ao (ap q hn)];exact q
 tbls:=fun b ps q=>⟨#[],by rw [ao (ap q hn),q];simp⟩
theorem Un.write (mu:Mut (H x))(he:e=x∨H e=some (.own x))(k:∀b u,b≠e->h.get? b=some u->h'.get? b=some u)(heo:∃ u,h'.get? e=some u):Un fs ex H (upd H x o) h h':=by
 have hx:∀b,H b=none->b≠x:=fun b n z=>by subst z;rw [n] at mu;exact mu
 have hb:∀b,H b=none->b≠e:=fun b n z=>by
  subst z
  rcases he with r | r
  .exact hx b n r
  .rw [n] at r;cases r
 have hm:∀b u,H b=some u->¬ Mut (some u)->b≠x:=fun b u q nm z=>by subst z;rw [q] at mu;exact nm mu
 refine ⟨fun b u q n _ _=>k b u (hb b n) q,fun b u q n _ _=>⟨u.slots,k b u (hb b n) q⟩,fun b u q n _=>by rw [ao (hx b n)];exact n,fun b u q _=>?_,
  fun b xs q=>by rw [ao (hm b _ q fun z=>z)];exact q,fun b u xs q=>by rw [ao (hm b _ q fun z=>z)];exact q,fun b ps q=>⟨#[],by rw [ao (hm b _ q fun z=>z),q];simp⟩⟩
 by_cases hbe:b=e
 .subst hbe;exact heo
 exact ⟨u,k b u hbe q⟩
end
def trk (h:Heap)(H:Hp):List Addr:=(List.range h.objs.size).filter fun a=>(H a).isSome
def jV (h:Heap)(H:Hp):Heap:=W.hideAll h (trk h H)
theorem qc (h:Heap)(H:Hp):(jV h H).objs.size=h.objs.size:=W.hideAll_size _ _
theorem tQ {H:Hp}{b:Addr}(e:h.get? b=some o)(n:H b=none):(jV h H).get? b=some o :=
 W.hideAll_get _ e fun hm=>by
  have q:(H b).isSome=true:=(Ce.mp hm).2
  rw [n] at q;simp at q
theorem vH {H:Hp}{b:Addr}(e:(jV h H).get? b=some o):h.get? b=some o/\H b=none:=by
 have e':h.get? b=some o:=W.of_hideAll (trk h H) e
 refine ⟨e',?_⟩
 cases q:H b with
 | none=>rfl
 | some x =>
  have hm:b∈trk h H:=Ce.mpr ⟨B9.mpr (AA e'),by simp [q]⟩
  have z:(jV h H).get? b=none:=W.hideAll_none (trk h H) hm
  rw [z] at e;cases e
def vO (g h:Heap)(L:Addr):List (Addr×Obj):=(List.range h.objs.size).filterMap fun a=>if a=L∨(g.get? a).isSome=true then none else (h.get? a).map fun o=>(a,o)
def rest (g h:Heap)(L d:Addr):List (Addr×Obj):=(vO g h L).filter fun p=>decide (p.1≠d)
structure Mod (K:W.Frag)(mg:Str->Option Value)(base:Heap):Prop where
 kin:K.In base
 glob:base.Ns mainGlobals mg
 blt:∃ mb,base.Ns builtinsNs mb/\∀x:Str,x≠"__name__"->mb x=bootBuiltins x
 nolimit:base.NoLimit
structure Cx where
 prog:Program
 w:World
 K:W.Frag
 mg:Str->Option Value
 base:Heap
 A:Around
 N:List Str
 s₀:Shared
 H₀:Hp
 env:Env
 outer:List Env
 stack:List Env
 ex:List Addr
 fn:Str->Bool
 calm:Bool
 pn:List (Addr×Obj)
 xe:Value->Shared->Prop
def frs (l:List Env):List Addr:=l.filterMap (·.frame)
abbrev Cx.fs (X:Cx):List Addr:=frs X.outer
def Vis (sc:Scope)(x:Str):Prop:=sc.names.lookup x=some .local∨sc.names.lookup x=some .cell∨sc.names.lookup x=some .free
def Loc (sc:Scope)(x:Str):Prop:=sc.names.lookup x=some .local∨sc.names.lookup x=some .cell
def zS (env:Env)(h:Heap)(m:Str->Option Value)(x:Str)(u:Value):Prop :=
 (env.kindOf x=some .local/\m x=some u)∨((env.kindOf x=some .cell∨env.kindOf x=some .free)/\∃ c,env.cells.lookup x=some c/\h.IsCell c (some u))
structure Cx.Ok (X:Cx):Prop where
 mod:Mod X.K X.mg X.base
 kind:X.env.scope.kind=.function
 glob:X.env.globals=mainGlobals
 blt:X.env.builtins=builtinsNs
 above:X.s₀.heap.objs.size<=X.env.locals
 inj:∀x y c,X.env.cells.lookup x=some c->X.env.cells.lookup y=some c->x=y
 has:∀x,(X.env.kindOf x=some .cell∨X.env.kindOf x=some .free)->∃ c,X.env.cells.lookup x=some c
 cab:∀x c,X.fn x=true->X.env.cells.lookup x=some c->X.s₀.heap.objs.size<=c
 hd:X.calm=true->X.A.handled=none
 frames:X.A.frames=some X.stack
 stk:X.stack=X.outer∨(X.stack=X.env::X.outer/\X.env.frame=some X.env.locals)
 exf:∀b∈X.ex,b≠X.env.locals/\∀x c,X.env.cells.lookup x=some c->c≠b
 bs:∀b o,X.base.get? b=some o->X.s₀.heap.get? b=some o/\X.H₀ b=none
 bsz:X.base.objs.size<=X.s₀.heap.objs.size
 noex:∀b o,X.base.get? b=some o->b∉X.ex
 exfs:∀b∈X.ex,b∉X.fs
 funs:X.s₀.heap.FunFrames X.base X.outer
 frf:∀b∈X.fs,X.H₀ b=none
structure Inv (X:Cx)(pins:List (Addr×Obj))(U:List (Option V))(H:Hp)(s:Shared):Prop where
 ok:X.Ok
 os:s.os=X.s₀.os
 bare:AllBare s.gens
 base:Un X.fs X.ex X.H₀ H X.s₀.heap s.heap
 loc:∃ m,s.heap.Ns X.env.locals m/\∀(i:Nat) (x:Str) (v:V),X.N[i]?=some x->U[i]?=some (some v)->Vis X.env.scope x->∃ u,RelV v u/\zS X.env s.heap m x u
 cell:∀x c,X.env.cells.lookup x=some c->∃ v,s.heap.IsCell c v
 free:H X.env.locals=none
 freeC:∀x c,X.env.cells.lookup x=some c->H c=none
 pin:∀p∈X.pn++pins,s.heap.get? p.1=some p.2/\H p.1=none/\p.1≠X.env.locals/\p.1∉X.fs/\∀v,p.2.data≠.cell v
 hok:HOk X.prog X.w H s.heap
 len:U.length=X.N.length
section
variable {X:Cx}{pins:List (Addr×Obj)}{U:List (Option V)}{H H':Hp}{s:Shared}{h':Heap}
theorem Cx.Ok.nofr (ok:X.Ok){b:Addr}(e:X.base.get? b=some o):b∉X.fs:=fun hb=>by
 have:=(ok.funs.mem hb).1
 rw [e] at this;cases this
theorem Inv.bs (I:Inv X pins U H s):∀b o,X.base.get? b=some o->s.heap.get? b=some o/\H b=none:=fun b o e =>
 ⟨I.base.keep b o (I.ok.bs b o e).1 (I.ok.bs b o e).2 (I.ok.nofr e) (I.ok.noex b o e),I.base.free b o (I.ok.bs b o e).1 (I.ok.bs b o e).2 (I.ok.noex b o e)⟩
theorem Inv.bk (I:Inv X pins U H s):∀b o,X.base.get? b=some o->s.heap.get? b=some o:=fun b o e=>(I.bs b o e).1
theorem Inv.mod (I:Inv X pins U H s):Mod X.K X.mg X.base:=I.ok.mod
theorem Inv.kIn (I:Inv X pins U H s):X.K.In s.heap:=I.ok.mod.kin.keeps I.bk
theorem Inv.lt (I:Inv X pins U H s):X.env.locals<s.heap.objs.size:=let ⟨_,hn,_⟩:=I.loc;hn.lt
theorem Inv.sz (I:Inv X pins U H s):X.s₀.heap.objs.size<=s.heap.objs.size:=AV I.ok.above (C6 I.lt)
theorem Inv.nofs (I:Inv X pins U H s)(h:s.heap.objs.size<=a):a∉X.fs:=fun hb=>by
 obtain ⟨_,o,ho,_⟩:=I.ok.funs.mem hb
 exact absurd (A2 (AA ho) (AV I.sz h)) (CD _)
theorem Inv.cne (I:Inv X pins U H s):∀x c,X.env.cells.lookup x=some c->c≠X.env.locals:=fun x c e z=>by
 obtain ⟨v,o,ho,hd⟩:=I.cell x c e
 obtain ⟨m,⟨o',es,ep,ho',hd',_⟩,_⟩:=I.loc
 rw [z,ho'] at ho;cases ho;rw [hd'] at hd;cases hd
theorem Inv.funs (I:Inv X pins U H s):s.heap.FunFrames X.base X.outer:=by
 have all:∀(l:List Env),(∀b∈frs l,b∈X.fs)->X.s₀.heap.FunFrames X.base l->s.heap.FunFrames X.base l:=by
  intro l
  induction l with
  | nil=>intro _ _;trivial
  | cons env r ih =>
   intro hs hl
   obtain ⟨hk,⟨L,o,hf,hn,ho,hd⟩,hr⟩:=hl
   have hL:L∈X.fs:=hs L (by unfold frs;rw [EE,hf];exact AX)
   obtain ⟨sl,e⟩:=I.base.slot L o ho (I.ok.frf L hL) hL fun z=>I.ok.exfs L z hL
   exact ⟨hk,⟨L,_,hf,hn,e,hd⟩,ih (fun b hb=>hs b (by unfold frs;rw [EE,hf];exact AH _ hb)) hr⟩
 exact all X.outer (fun _ hb=>hb) I.ok.funs
theorem Inv.stack (I:Inv X pins U H s):s.heap.FunFrames X.base X.stack:=by
 rcases I.ok.stk with e | ⟨e,hf⟩
 .rw [e];exact I.funs
 rw [e]
 obtain ⟨m,hn,_⟩:=I.loc
 refine .cons (by rw [I.ok.kind];decide) hf hn ?_ I.funs
 exact Heap.get?_none_of_le (AV I.ok.bsz I.ok.above)
theorem Inv.stkSub (I:Inv X pins U H s):∀b∈frs X.stack,b∈X.env.locals::X.fs:=fun b hb=>by
 rcases I.ok.stk with e | ⟨e,hf⟩
 .rw [e] at hb;exact AH _ hb
 rw [e] at hb
 unfold frs at hb
 rw [EE,hf] at hb
 exact hb
theorem Inv.stkFree (I:Inv X pins U H s):∀b∈frs X.stack,H b=none:=fun b hb=>by
 rcases Aw.mp (I.stkSub b hb) with e | hb
 .rw [e];exact I.free
 obtain ⟨_,o,ho,_⟩:=I.ok.funs.mem hb
 exact I.base.free b o ho (I.ok.frf b hb) fun z=>I.ok.exfs b z hb
theorem Inv.step {g':Array GenState}{t':Nat}{d':Drawn}(I:Inv X pins U H s)(hch:∀b∈ch,(b∈X.ex∨X.s₀.heap.objs.size<=b)/\b≠X.env.locals/\(∀x c,X.env.cells.lookup x=some c->c≠b)/\∀p∈X.pn++pins,p.1≠b)(keep:∀b o,b≠X.env.locals->b∉X.fs->b∉ch->s.heap.get? b=some o->H b=none->h'.get? b=some o)(slot:∀b o,b≠X.env.locals->b∈X.fs->b∉ch->s.heap.get? b=some o->H b=none->∃ sl,h'.get? b=some { o with slots:=sl })(free:∀b o,b∉ch->s.heap.get? b=some o->H b=none->H' b=none)(there:∀b o,b∉ch->s.heap.get? b=some o->∃ o',h'.get? b=some o')(tups:∀b xs,H b=some (.tup xs)->H' b=some (.tup xs))(frzs:∀b o u,H b=some (.frz o u)->H' b=some (.frz o u))(tbls:∀b ps,H b=some (.tbl ps)->∃ more,H' b=some (.tbl (ps++more)))(ns:∀m,s.heap.Ns X.env.locals m->h'.Ns X.env.locals m)(hok:HOk X.prog X.w H' h')(hg:AllBare g'):
  Inv X pins U H' { s with heap:=h',gens:=g',drawn:=d',toks:=t' }:=by
 have neL:∀b o,X.s₀.heap.get? b=some o->b≠X.env.locals:=fun b o e=>AJ (A2 (AA e) I.ok.above)
 have neC:∀b o,X.s₀.heap.get? b=some o->b∉X.ex->b∉ch:=fun b o e hx hb=>by
  rcases (hch b hb).1 with z | z
  .exact hx z
  .exact absurd (A2 (AA e) z) (CD _)
 have cellK:∀x c,X.env.cells.lookup x=some c->∀v,s.heap.IsCell c v->h'.IsCell c v:=fun x c e v ⟨o,ho,hd⟩=>by
  have nch:c∉ch:=fun z=>(hch c z).2.2.1 x c e rfl
  by_cases hc:c∈X.fs
  .obtain ⟨sl,q⟩:=slot c o (I.cne x c e) hc nch ho (I.freeC x c e)
   exact ⟨_,q,hd⟩
  .exact ⟨o,keep c o (I.cne x c e) hc nch ho (I.freeC x c e),hd⟩
 refine ⟨I.ok,I.os,hg,⟨fun b o e n hb hx=>?_,fun b o e n hb hx=>?_,fun b o e n hx=>?_,fun b o e hx=>?_,fun b xs e=>tups b xs (I.base.tups b xs e),fun b o xs e=>frzs b o xs (I.base.frzs b o xs e),fun b ps e=>?_⟩,?_,fun x c e=>?_,?_,fun x c e=>?_,fun p hp=>?_,hok,I.len⟩
 .exact keep b o (neL b o e) hb (neC b o e hx) (I.base.keep b o e n hb hx) (I.base.free b o e n hx)
 .obtain ⟨sl,e1⟩:=I.base.slot b o e n hb hx
  obtain ⟨sl',e2⟩:=slot b _ (neL b o e) hb (neC b o e hx) e1 (I.base.free b o e n hx)
  exact ⟨sl',e2⟩
 .obtain ⟨o',e1⟩:=I.base.there b o e hx
  exact free b o' (neC b o e hx) e1 (I.base.free b o e n hx)
 .obtain ⟨o',e1⟩:=I.base.there b o e hx
  exact there b o' (neC b o e hx) e1
 .obtain ⟨m1,e1⟩:=I.base.tbls b ps e
  obtain ⟨m2,e2⟩:=tbls b _ e1
  exact ⟨m1++m2,by rw [e2,Array.append_assoc]⟩
 .obtain ⟨m,hn,hl⟩:=I.loc
  refine ⟨m,ns m hn,fun i x v e1 e2 e3=>?_⟩
  obtain ⟨u,r,l⟩:=hl i x v e1 e2 e3
  refine ⟨u,r,?_⟩
  rcases l with l | ⟨k,c,e,z⟩
  .exact .inl l
  .exact .inr ⟨k,c,e,cellK x c e _ z⟩
 .obtain ⟨v,z⟩:=I.cell x c e
  exact ⟨v,cellK x c e v z⟩
 .obtain ⟨m,⟨o,_,_,ho,_⟩,_⟩:=I.loc
  exact free _ o (fun z=>(hch _ z).2.1 rfl) ho I.free
 .obtain ⟨v,o,ho,hd⟩:=I.cell x c e
  exact free c o (fun z=>(hch c z).2.2.1 x c e rfl) ho (I.freeC x c e)
 obtain ⟨e,n,ne,nf,d⟩:=I.pin p hp
 have nch:p.1∉ch:=fun z=>(hch p.1 z).2.2.2 p hp rfl
 exact ⟨keep p.1 p.2 ne nf nch e n,free p.1 p.2 nch e n,ne,nf,d⟩
theorem Inv.un {t':Nat}(I:Inv X pins U H s)(u:Un X.fs [] H H' s.heap h')(hok:HOk X.prog X.w H' h'):Inv X pins U H' { s with heap:=h',toks:=t' }:=by
 obtain ⟨m,⟨o,es,ep,ho,r⟩,_⟩:=id I.loc
 obtain ⟨sl,hL⟩:=u.any ho I.free An
 exact I.step (g':=s.gens) (d':=s.drawn) (ch:=[]) (fun _ z=>nomatch z) (fun b o _ hb _ e n=>u.keep b o e n hb An) (fun b o _ hb _ e n=>u.slot b o e n hb An) (fun b o _ e n=>u.free b o e n An) (fun b o _ e=>u.there b o e An) u.tups u.frzs u.tbls (fun m' hm=>by
  obtain ⟨o',es',ep',ho',r'⟩:=hm
  rw [ho] at ho';cases ho'
  exact ⟨_,es',ep',hL,r'⟩) hok I.bare
theorem Inv.call {g':Array GenState}{t':Nat}{d':Drawn}(I:Inv X pins U H s)(u:Un (frs X.stack) ch H H' s.heap h')(hok:HOk X.prog X.w H' h')(hg:AllBare g')(hch:∀b∈ch,(b∈X.ex∨X.s₀.heap.objs.size<=b)/\b≠X.env.locals/\(∀x c,X.env.cells.lookup x=some c->c≠b)/\∀p∈X.pn++pins,p.1≠b):
  Inv X pins U H' { s with heap:=h',gens:=g',drawn:=d',toks:=t' }:=by
 obtain ⟨m,⟨o,es,ep,ho,r⟩,_⟩:=id I.loc
 obtain ⟨sl,hL⟩:=u.any ho I.free fun z=>(hch _ z).2.1 rfl
 exact I.step (ch:=ch) hch (fun b o hL hb hc e n=>u.keep b o e n (fun z=>(Aw.mp (I.stkSub b z)).elim hL hb) hc) (fun b o _ _ hc e n=>u.any e n hc) (fun b o hc e n=>u.free b o e n hc) (fun b o hc e=>u.there b o e hc) u.tups u.frzs u.tbls (fun m' hm=>by
  obtain ⟨o',es',ep',ho',r'⟩:=hm
  rw [ho] at ho';cases ho'
  exact ⟨_,es',ep',hL,r'⟩) hok hg
theorem Inv.turned {t':Nat}{it:Addr}(I:Inv X pins U H s)(k:∀b o,b≠it->s.heap.get? b=some o->h'.get? b=some o)(hn:H it=none)(hL:it≠X.env.locals)(h1:it∈X.ex∨X.s₀.heap.objs.size<=it)(h2:∀x c,X.env.cells.lookup x=some c->c≠it)(h3:∀p∈X.pn++pins,p.1≠it):Inv X pins U H { s with heap:=h',toks:=t' }:=by
 have nit:∀b u,H b=some u->b≠it:=fun b u e z=>by rw [z,hn] at e;cases e
 refine I.step (g':=s.gens) (d':=s.drawn) (ch:=[it]) (fun b hb=>?_) (fun b o _ _ hc e _=>k b o (fun z=>hc (by simp [z])) e) (fun b o _ _ hc e _=>⟨o.slots,k b o (fun z=>hc (by simp [z])) e⟩) (fun _ _ _ _ n=>n)
  (fun b o hc e=>⟨o,k b o (fun z=>hc (by simp [z])) e⟩) (fun _ _ e=>e) (fun _ _ _ e=>e) (fun b ps e=>⟨#[],by rw [e];simp⟩) (fun m hm=>?_) (fun b u e=>?_) I.bare
 .have e:b=it:=by simpa using hb
  subst e
  exact ⟨h1,hL,h2,h3⟩
 .obtain ⟨o,es,ep,ho,r⟩:=hm
  exact ⟨o,es,ep,k _ o (EF hL) ho,r⟩
 refine (I.hok b u e).stay (fun c v hc q=>k c v ?_ q) (fun _ q=>q) fun _ _ q=>q
 rcases hc with z | z
 .rw [z];exact nit b u e
 exact nit c _ z
theorem Inv.tok (I:Inv X pins U H s)(t:Nat):Inv X pins U H { s with toks:=t }:=I.un (h':=s.heap) (t':=t) Un.refl I.hok
theorem Inv.kept {t':Nat}(I:Inv X pins U H s)(k:∀b u,s.heap.get? b=some u->h'.get? b=some u):Inv X pins U H { s with heap:=h',toks:=t' }:=I.un (Un.kept k) (I.hok.kept k)
theorem Inv.laid {o:HO}{t':Nat}(I:Inv X pins U H s)(k:∀b u,s.heap.get? b=some u->h'.get? b=some u)(hp:s.heap.objs.size<=a)(new:ObjOk X.prog X.w (upd H a o) h' a o):
  Inv X pins U (upd H a o) { s with heap:=h',toks:=t' }:=I.un (Un.laid k hp (I.hok.fresh hp)) (I.hok.laid k hp new)
theorem Inv.write {x e:Addr}{o:HO}{t':Nat}(I:Inv X pins U H s)(mu:Mut (H x))(he:e=x∨H e=some (.own x))(k:∀b u,b≠e->s.heap.get? b=some u->h'.get? b=some u)(heo:∃ u,h'.get? e=some u)(new:ObjOk X.prog X.w (upd H x o) h' x o):Inv X pins U (upd H x o) { s with heap:=h',toks:=t' }:=I.un (Un.write mu he k heo) (I.hok.write mu he k heo new)
theorem Inv.weak {σ':List (Option V)}(I:Inv X pins U H s)(hl:σ'.length=U.length)(w:∀(i:Nat) v,σ'[i]?=some (some v)->U[i]?=some (some v)):Inv X pins σ' H s :=
 ⟨I.ok,I.os,I.bare,I.base,let ⟨m,hn,hl'⟩:=I.loc;⟨m,hn,fun i x v e1 e2 e3=>hl' i x v e1 (w i v e2) e3⟩,I.cell,I.free,I.freeC,I.pin,I.hok,hl.trans I.len⟩
theorem Inv.pins_of (I:Inv X pins U H s)(h:∀p∈pins',s.heap.get? p.1=some p.2/\H p.1=none/\p.1≠X.env.locals/\p.1∉X.fs/\∀v,p.2.data≠.cell v):Inv X pins' U H s :=
 ⟨I.ok,I.os,I.bare,I.base,I.loc,I.cell,I.free,I.freeC,fun p hp=>(AU.mp hp).elim (fun z=>I.pin p (Cy _ z)) (h p),I.hok,I.len⟩
theorem kI (hN:N.Nodup)(a:N[i]?=some x)(b:N[j]?=some x):i=j:=by
 obtain ⟨h1,e1⟩:=Au.mp a
 obtain ⟨h2,e2⟩:=Au.mp b
 exact (DQ hN).mp (e1.trans e2.symm)
theorem fX {M:Model}{v:V}{Q:Unit->Shared->Prop}(I:Inv X pins U H s)(hN:X.N.Nodup)(hi:X.N[i]?=some x)(hx:Loc X.env.scope x)(r:RelV v u)(h:∀s',Inv X pins (U.set i (some v)) H s'->(∃ a,Heap.SameBut a s.heap s'.heap/\(a=X.env.locals∨X.env.cells.lookup x=some a))->Q () s')(hf:X.fn x=true∨X.env.scope.names.lookup x=some .local:=by first | exact .inl rfl | exact .inr rfl | assumption):wpAny M A (storeName X.env x u) Q E s:=by
 obtain ⟨m,hn,hl⟩:=id I.loc
 have hcls:(X.env.scope.kind == .class || (X.env.scope.kind == .module&&X.env.locals != X.env.globals))=false:=by rw [I.ok.kind];rfl
 have hiσ:i<U.length:=by rw [I.len];exact (Au.mp hi).1
 have cne:=I.cne
 have tracked:∀{a:Addr} {h':Heap},(∃ o,s.heap.get? a=some o/\H a=none)->Heap.SameBut a s.heap h'->HOk X.prog X.w H h':=fun {a h'} ha hs b ob e=>by
  obtain ⟨_,_,hfree⟩:=ha
  refine (I.hok b ob e).stay (fun c w' hc q=>(hs.2 c ?_).trans q) (fun _ q=>q) fun _ _ q=>q
  rintro rfl
  rcases hc with rfl | hc
  .rw [hfree] at e;cases e
  .rw [hfree] at hc;cases hc
 rcases hx with hk | hk
 .refine wpAny_storeName_local hk hn (fun h' hn' hs=>?_) hcls
  obtain ⟨oL,_,_,hoL,_⟩:=id hn
  refine h _ ⟨I.ok,I.os,I.bare,⟨fun b o e n hb hx=>?_,fun b o e n hb hx=>?_,I.base.free,fun b o e hx=>?_,I.base.tups,I.base.frzs,I.base.tbls⟩,⟨_,hn',fun j y v' e1 e2 e3=>?_⟩,fun y c e=>?_,I.free,I.freeC,fun p hp=>?_,tracked ⟨oL,hoL,I.free⟩ hs,by simpa using I.len⟩ ⟨_,hs,.inl rfl⟩
  .exact (hs.2 b (AJ (A2 (AA e) I.ok.above))).trans (I.base.keep b o e n hb hx)
  .obtain ⟨sl,e1⟩:=I.base.slot b o e n hb hx
   exact ⟨sl,(hs.2 b (AJ (A2 (AA e) I.ok.above))).trans e1⟩
  .obtain ⟨o',e1⟩:=I.base.there b o e hx
   exact ⟨o',(hs.2 b (AJ (A2 (AA e) I.ok.above))).trans e1⟩
  .by_cases hj:j=i
   .subst hj
    rw [hi] at e1;cases e1
    rw [Fj hiσ] at e2
    cases e2
    exact ⟨u,r,.inl ⟨hk,An⟩⟩
   .rw [FD (EF hj)] at e2
    obtain ⟨u',r',q⟩:=hl j y v' e1 e2 e3
    refine ⟨u',r',?_⟩
    rcases q with ⟨k,e⟩ | ⟨k,c,e,z⟩
    .refine .inl ⟨k,?_⟩
     have:y≠x:=fun e=>hj (kI hN e1 (e▸hi))
     simp [this,e]
    .exact .inr ⟨k,c,e,z.sameBut hs (cne y c e)⟩
  .obtain ⟨w',z⟩:=I.cell y c e
   exact ⟨w',z.sameBut hs (cne y c e)⟩
  .obtain ⟨e,n,ne,nf,d⟩:=I.pin p hp
   exact ⟨(hs.2 p.1 ne).trans e,n,ne,nf,d⟩
 have hfn:X.fn x=true:=by
  rcases hf with z | z
  .exact z
  .rw [z] at hk;cases hk
 obtain ⟨c,hc⟩:=I.ok.has x (.inl hk)
 obtain ⟨w',z⟩:=I.cell x c hc
 refine wpAny_storeName_cell I.ok.kind hk hc z (fun h' hc' hs=>?_)
 obtain ⟨oc,hoc,hocd⟩:=id z
 refine h { s with heap:=h' } ⟨I.ok,I.os,I.bare,⟨fun b o e n hb hx=>?_,fun b o e n hb hx=>?_,I.base.free,fun b o e hx=>?_,I.base.tups,I.base.frzs,I.base.tbls⟩,⟨m,hn.sameBut hs (EF (cne x c hc)),fun j y v' e1 e2 e3=>?_⟩,fun y c' e=>?_,I.free,I.freeC,fun p hp=>?_,tracked ⟨oc,hoc,I.freeC x c hc⟩ hs,by simpa using I.len⟩ ⟨c,hs,.inr hc⟩
 .exact (hs.2 b (AJ (A2 (AA e) (I.ok.cab x c hfn hc)))).trans (I.base.keep b o e n hb hx)
 .obtain ⟨sl,e1⟩:=I.base.slot b o e n hb hx
  exact ⟨sl,(hs.2 b (AJ (A2 (AA e) (I.ok.cab x c hfn hc)))).trans e1⟩
 .obtain ⟨o',e1⟩:=I.base.there b o e hx
  exact ⟨o',(hs.2 b (AJ (A2 (AA e) (I.ok.cab x c hfn hc)))).trans e1⟩
 .by_cases hj:j=i
  .subst hj
   rw [hi] at e1;cases e1
   rw [Fj hiσ] at e2
   cases e2
   exact ⟨u,r,.inr ⟨.inl hk,c,hc,hc'⟩⟩
  .rw [FD (EF hj)] at e2
   obtain ⟨u',r',q⟩:=hl j y v' e1 e2 e3
   refine ⟨u',r',?_⟩
   rcases q with q | ⟨k,c',e,z'⟩
   .exact .inl q
   .refine .inr ⟨k,c',e,z'.sameBut hs ?_⟩
    rintro rfl
    exact hj (kI hN e1 (I.ok.inj _ _ _ e hc▸hi))
 .by_cases hcc:c'=c
  .subst hcc;exact ⟨_,hc'⟩
  .obtain ⟨w2,z2⟩:=I.cell y c' e
   exact ⟨w2,z2.sameBut hs hcc⟩
 obtain ⟨e,n,ne,nf,d⟩:=I.pin p hp
 refine ⟨(hs.2 p.1 ?_).trans e,n,ne,nf,d⟩
 intro q
 rw [q,hoc] at e
 have q':oc=p.2:=Be e
 exact d w' (by rw [<-q'];exact hocd)
theorem kX {M:Model}{v:V}{Q:Unit->Shared->Prop}(I:Inv X pins U H s)(hN:X.N.Nodup)(hi:X.N[i]?=some x)(hx:Loc X.env.scope x)(r:RelV v u)(h:∀s',Inv X pins (U.set i (some v)) H s'->Q () s')(hf:X.fn x=true∨X.env.scope.names.lookup x=some .local:=by first | exact .inl rfl | exact .inr rfl | assumption):wpAny M A (storeName X.env x u) Q E s :=
 fX I hN hi hx r (fun s' I' _=>h s' I') hf
theorem Inv.call' (I:Inv X pins U H s)(ho:s'.os=s.os)(u:Un (frs X.stack) ch H H' s.heap s'.heap)(hok:HOk X.prog X.w H' s'.heap)(hg:AllBare s'.gens)(hch:∀b∈ch,(b∈X.ex∨X.s₀.heap.objs.size<=b)/\b≠X.env.locals/\(∀x c,X.env.cells.lookup x=some c->c≠b)/\∀p∈X.pn++pins,p.1≠b):Inv X pins U H' s':=by
 obtain ⟨h',g',d',t',o'⟩:=s'
 have e:o'=s.os:=ho
 subst e
 exact I.call (g':=g') (t':=t') (d':=d') u hok hg hch
end
abbrev XK:=Value->Option Addr->Hp->Prop
abbrev St:=List (Option V)
abbrev VK:=V->Hp->Prop
abbrev TE:=St->Hp->VK->Prop
abbrev TT:=St->Hp->(Bool->Hp->Prop)->Prop
abbrev TA:=St->Hp->(List V->Hp->Prop)->Prop
structure iq where
 nx:St->Hp->Prop
 rt:VK
 bk:St->Hp->Prop:=fun _ _=>False
 ct:St->Hp->Prop:=fun _ _=>False
abbrev TS:=iq->St->Hp->Prop
def EP (X:Cx)(pins:List (Addr×Obj))(U:St)(Q:VK)(u:Value)(s':Shared):Prop:=∃ v H',Inv X pins U H' s'/\RelV v u/\Q v H'
def TP (X:Cx)(pins:List (Addr×Obj))(U:St)(Q:Bool->Hp->Prop)(b:Bool)(s':Shared):Prop:=∃ H',Inv X pins U H' s'/\Q b H'
def AP (X:Cx)(pins:List (Addr×Obj))(U:St)(Q:List V->Hp->Prop)(us:List Value)(s':Shared):Prop:=∃ vs H',Inv X pins U H' s'/\Vals vs us/\Q vs H'
def SP (X:Cx)(pins:List (Addr×Obj))(D:iq)(f:Flow)(s':Shared):Prop :=
 match f with
 | .next=>∃ σ' H',Inv X pins σ' H' s'/\D.nx σ' H'
 | .brk=>∃ σ' H',Inv X pins σ' H' s'/\D.bk σ' H'
 | .cont=>∃ σ' H',Inv X pins σ' H' s'/\D.ct σ' H'
 | .ret u=>∃ v σ' H',Inv X pins σ' H' s'/\RelV v u/\D.rt v H'
def PE (X:Cx)(e:Expr)(t:TE):Prop :=
 ∀(pins:List (Addr×Obj)) (s:Shared) (U:St) (H:Hp) (Q:VK),Inv X pins U H s->t U H Q->wpAny (model X.prog X.w) X.A (eval e X.env) (EP X pins U Q) X.xe s
def PT (X:Cx)(e:Expr)(t:TT):Prop :=
 ∀(pins:List (Addr×Obj)) (s:Shared) (U:St) (H:Hp) (Q:Bool->Hp->Prop),Inv X pins U H s->t U H Q->wpAny (model X.prog X.w) X.A (isTrue e X.env (eval e X.env)) (TP X pins U Q) X.xe s
def PW (X:Cx)(e:Expr)(t:TT):Prop :=
 ∀(whole:Sem Value) (pins:List (Addr×Obj)) (s:Shared) (U:St) (H:Hp) (Q:Bool->Hp->Prop),Inv X pins U H s->t U H Q->wpAny (model X.prog X.w) X.A (isTrue e X.env whole) (TP X pins U Q) X.xe s
theorem PW.pt {X:Cx}{t:TT}(h:PW X e t):PT X e t:=h _
def PA (X:Cx)(es:List Expr)(t:TA):Prop :=
 ∀(pos:Pos) (pins:List (Addr×Obj)) (s:Shared) (U:St) (H:Hp) (Q:List V->Hp->Prop),Inv X pins U H s->t U H Q->wpAny (model X.prog X.w) X.A (spliced (backTo pos (starEach es X.env))) (AP X pins U Q) X.xe s
def PS (X:Cx)(st:Stmt)(t:TS):Prop :=
 ∀(pins:List (Addr×Obj)) (s:Shared) (U:St) (H:Hp) (D:iq),Inv X pins U H s->t D U H->wpAny (model X.prog X.w) X.A (exec st X.env) (SP X pins D) X.xe s
def PSs (X:Cx)(st:List Stmt)(t:TS):Prop :=
 ∀(pins:List (Addr×Obj)) (s:Shared) (U:St) (H:Hp) (D:iq),Inv X pins U H s->t D U H->wpAny (model X.prog X.w) X.A (execs st X.env) (SP X pins D) X.xe s
theorem thn {α:Type}{t:Sem α}{Q Q':α->Shared->Prop}{M:Model}(h:wpAny M A t Q E s)(hQ:∀a s,Q a s->Q' a s):wpAny M A t Q' E s:=Cn h hQ fun _ _ x=>x
section
variable {X:Cx}
def onO (o:Option (Option V))(f:V->Prop):Prop:=Option.casesOn (motive:=fun _=>Prop) o False fun x=>Option.casesOn (motive:=fun _=>Prop) x False f
theorem yd {o:Option (Option V)}{f:V->Prop}(h:onO o f):∃ v,o=some (some v)/\f v:=by
 rcases o with _ | _ | v
 .exact h.elim
 .exact h.elim
 exact ⟨v,rfl,h⟩
def onI (x:V)(f:Int->Prop):Prop:=V.casesOn (motive:=fun _=>Prop) x False (fun _=>False) f (fun _=>False) (fun _=>False) (fun _=>False) (fun _=>False) fun _=>False
theorem cV {x:V}{f:Int->Prop}(h:onI x f):∃ i,x=.int i/\f i:=by
 cases x with
 | int i=>exact ⟨i,rfl,h⟩
 | _=>exact h.elim
def onR (x:V)(f:Addr->Prop):Prop:=V.casesOn (motive:=fun _=>Prop) x False (fun _=>False) (fun _=>False) (fun _=>False) (fun _=>False) (fun _=>False) f fun _=>False
theorem rT {x:V}{f:Addr->Prop}(h:onR x f):∃ i,x=.ref i/\f i:=by
 cases x with
 | ref i=>exact ⟨i,rfl,h⟩
 | _=>exact h.elim
def Af (i:Nat):TE:=fun U H Q=>onO U[i]? fun v=>Q v H
def tC (v:V):TE:=fun _ H Q=>Q v H
theorem uv {i j pos}:PE X (.Constant (.int i) j pos) (tC (.int i)):=fun _ _ _ H _ I h=>wpAny_Constant_int ⟨.int i,H,I.tok _,⟨_,rfl⟩,h⟩
theorem sK {x j pos}:PE X (.Constant (.str x) j pos) (tC (.str x)):=fun _ _ _ H _ I h=>Calls.Constant_str ⟨.str x,H,I.tok _,⟨_,rfl⟩,h⟩
def Gl (X:Cx)(x:Str):Prop:=X.env.kindOf x=some .globalImplicit
theorem km {U:St}{H:Hp}(I:Inv X pins U H s)(hg:Gl X x)(hm:X.mg x=some u)(h:Q u s)(hd:(x == ("__debug__":Str))=false:=by decide):wpAny (model X.prog X.w) X.A (eval (.Name x pos) X.env) Q E s :=
 EK I.ok.kind hg (Calls.loadGlobal_global (by rw [I.ok.glob];exact I.mod.glob.keeps I.bk) hm h) hd
theorem cB {U:St}{H:Hp}(I:Inv X pins U H s)(hg:Gl X x)(hm:X.mg x=none)(hv:bootBuiltins x=some u)(h:Q u s)(hn:x≠"__name__":=by decide)(hd:(x == ("__debug__":Str))=false:=by decide):wpAny (model X.prog X.w) X.A (eval (.Name x pos) X.env) Q E s:=by
 obtain ⟨mb,h1,h2⟩:=I.mod.blt
 exact EK I.ok.kind hg (Calls.loadGlobal_builtin (by rw [I.ok.glob];exact I.mod.glob.keeps I.bk) hm (by rw [I.ok.blt];exact h1.keeps I.bk) ((h2 x hn).trans hv) h) hd
variable {a b:Expr}{ta tb:TE}{pos:Pos}
def PC (X:Cx)(op:CmpOp)(a b:Expr)(t:TE):Prop :=
 ∀(pins:List (Addr×Obj)) (s:Shared) (U:St) (H:Hp) (Q:VK),Inv X pins U H s->t U H Q ->
  wpAny (model X.prog X.w) X.A (eval a X.env) (fun v s₁=>wpAny (model X.prog X.w) X.A (eval b X.env) (fun u s₂=>wpAny (model X.prog X.w) X.A (compareOp op v u) (EP X pins U Q) X.xe s₂) X.xe s₁) X.xe s
def tB (t:TE):TT:=fun U H Q=>t U H fun x H1=>∃ c,x=.bl c/\Q c H1
theorem ut {op:CmpOp}{t:TE}(h:PC X op a b t)(h1:behindInMarks op b=false:=by first | exact nobehind _ Ak Ak | rfl):PT X (.Compare a [op] [b] pos) (tB t):=by
 intro pins s U H Q I hw
 refine wpAny_isTrue_Compare1 (thn (h pins s U H _ I hw) fun v s1 h1=>thn h1 fun u s2 h2=>thn h2 fun c s3 zz=>?_) h1
 obtain ⟨x,H1,I1,r1,q1⟩:=zz
 obtain ⟨d,rfl,q⟩:=q1
 cases r1
 exact Dy ⟨H1,I1,q⟩
variable {tA tB':TT}{rest:List Expr}
def zV (t u:TT):TT:=fun U H Q=>t U H fun c H1=>if c=true then u U H1 Q else Q false H1
def tOr (t u:TT):TT:=fun U H Q=>t U H fun c H1=>if c=true then Q true H1 else u U H1 Q
def zY (t:TT):TT:=fun U H Q=>t U H fun c H1=>Q (!c) H1
def zF (ta tb:TE):TE:=fun U H Q=>ta U H fun x H1=>∃ c,x=.bl c/\if c=true then tb U H1 Q else Q (.bl false) H1
end
def SqL (K:W.Frag)(H:Hp)(a:Addr)(xs:List V):Prop :=
 Rd H a (.lst xs) ∨
  ∃ (o:Obj) (its:Array Value) (n:Nat),K.lookup a=some o/\o.cls=.type "list"/\o.dict=none/\o.data=.seq its n/\its.size<=sizeLine/\Vals xs its.toList
def SqT (K:W.Frag)(H:Hp)(a:Addr)(xs:List V):Prop :=
 Rd H a (.tup xs) ∨
  ∃ (o:Obj) (its:Array Value) (n:Nat),K.lookup a=some o/\o.cls=.type "tuple"/\o.data=.seq its n/\its.size<=sizeLine/\Vals xs its.toList
def zR:Value->Option V
 | .none=>some .non
 | .bool b=>some (.bl b)
 | .int i _=>some (.int i)
 | .str x _=>some (.str x)
 | .bytes b _=>some (.byt b)
 | .float b _=>some (.flt b)
 | .ref a=>some (.ref a)
 | .type n=>some (.ty n)
 | _=>none
theorem RelV.abs {x:V}(r:RelV x u):zR u=some x:=by
 cases x with
 | non=>cases r;rfl
 | bl _=>cases r;rfl
 | int _=>obtain ⟨t,rfl⟩:=r;rfl
 | str _=>obtain ⟨t,rfl⟩:=r;rfl
 | byt _=>obtain ⟨t,rfl⟩:=r;rfl
 | flt _=>obtain ⟨t,rfl⟩:=r;rfl
 | ref _=>cases r;rfl
 | ty _=>cases r;rfl
theorem RelV.inj {x y:V}(r:RelV x u)(q:RelV y u):x=y:=Be (r.abs.symm.trans q.abs)
theorem Vals.inj:∀{xs ys:List V} {us:List Value},Vals xs us->Vals ys us->xs=ys
 | _,_,_,.nil,.nil=>rfl
 | _,_,_,.cons r t,.cons r' t'=>by rw [r.inj r',Vals.inj t t']
section
variable {X:Cx}{pins:List (Addr×Obj)}{U:St}{H:Hp}{s:Shared}{a:Addr}{xs ys:List V}
theorem SqL.of (h:H a=some (.lst xs)):SqL K H a xs:=.inl (.inl h)
theorem SqT.of (h:H a=some (.tup xs)):SqT K H a xs:=.inl (.inl h)
theorem Inv.list (I:Inv X pins U H s)(h:SqL X.K H a xs):∃ its:List Value,Vals xs its/\PlainL s.heap a its.toArray/\xs.length<=sizeLine:=by
 rcases h with h | ⟨o,its,n,hk,hc,hd,hs,hz,r⟩
 .obtain ⟨z,its,n,r,e⟩:=h.ok I.hok
  exact ⟨its,r,⟨_,n,e,rfl,rfl,rfl⟩,z⟩
 refine ⟨its.toList,r,⟨o,n,I.kIn a o hk,hc,hd,by simpa using hs⟩,?_⟩
 have e:=r.length
 simp only [Bf] at e
 lia
theorem Inv.tuple (I:Inv X pins U H s)(h:SqT X.K H a xs):∃ its:List Value,Vals xs its/\IsTup s.heap a its.toArray/\xs.length<=sizeLine:=by
 rcases h with h | ⟨o,its,n,hk,hc,hs,hz,r⟩
 .obtain ⟨z,its,r,p⟩:=h.ok I.hok
  exact ⟨its,r,p,z⟩
 refine ⟨its.toList,r,⟨o,I.kIn a o hk,hc,n,by simpa using hs⟩,?_⟩
 have e:=r.length
 simp only [Bf] at e
 lia
theorem Inv.list_inj (I:Inv X pins U H s)(h:SqL X.K H a xs)(h':SqL X.K H a ys):xs=ys:=by
 obtain ⟨its,r,⟨o,n,e,_,_,d⟩,_⟩:=I.list h
 obtain ⟨its',r',⟨o',n',e',_,_,d'⟩,_⟩:=I.list h'
 rw [e] at e';cases e'
 rw [d] at d'
 injection d' with d1 _
 have:its=its':=by simpa using congrArg Array.toList d1
 subst this
 exact r.inj r'
theorem Inv.tuple_inj (I:Inv X pins U H s)(h:SqT X.K H a xs)(h':SqT X.K H a ys):xs=ys:=by
 obtain ⟨its,r,⟨o,e,_,n,d⟩,_⟩:=I.tuple h
 obtain ⟨its',r',⟨o',e',_,n',d'⟩,_⟩:=I.tuple h'
 rw [e] at e';cases e'
 rw [d] at d'
 injection d' with d1 _
 have:its=its':=by simpa using congrArg Array.toList d1
 subst this
 exact r.inj r'
end
abbrev Cx.wish (X:Cx)(E:Value->Shared->Prop):Cx:={ X with xe:=E }
abbrev Cx.nox (X:Cx):Cx:=X.wish fun _ _=>False
theorem Cx.Ok.wish {X:Cx}(ok:X.Ok)(E:Value->Shared->Prop):(X.wish E).Ok :=
 ⟨ok.mod,ok.kind,ok.glob,ok.blt,ok.above,ok.inj,ok.has,ok.cab,ok.hd,ok.frames,ok.stk,ok.exf,ok.bs,ok.bsz,ok.noex,ok.exfs,ok.funs,ok.frf⟩
theorem Cx.Ok.unwish {X:Cx}(ok:(X.wish E).Ok):X.Ok :=
 ⟨ok.mod,ok.kind,ok.glob,ok.blt,ok.above,ok.inj,ok.has,ok.cab,ok.hd,ok.frames,ok.stk,ok.exf,ok.bs,ok.bsz,ok.noex,ok.exfs,ok.funs,ok.frf⟩
section
variable {X:Cx}{pins:List (Addr×Obj)}{U:St}{H:Hp}{s:Shared}{E:Value->Shared->Prop}
theorem Inv.wish (I:Inv X pins U H s)(E:Value->Shared->Prop):Inv (X.wish E) pins U H s:=⟨I.ok.wish E,I.os,I.bare,I.base,I.loc,I.cell,I.free,I.freeC,I.pin,I.hok,I.len⟩
theorem Inv.unwish (I:Inv (X.wish E) pins U H s):Inv X pins U H s:=⟨I.ok.unwish,I.os,I.bare,I.base,I.loc,I.cell,I.free,I.freeC,I.pin,I.hok,I.len⟩
theorem SP.unwish {D:iq}{f:Flow}(h:SP (X.wish E) pins D f s'):SP X pins D f s':=by
 cases f with
 | next=>obtain ⟨σ',H',I,q⟩:=h;exact ⟨σ',H',I.unwish,q⟩
 | brk=>obtain ⟨σ',H',I,q⟩:=h;exact ⟨σ',H',I.unwish,q⟩
 | cont=>obtain ⟨σ',H',I,q⟩:=h;exact ⟨σ',H',I.unwish,q⟩
 | ret u=>obtain ⟨v,σ',H',I,r,q⟩:=h;exact ⟨v,σ',H',I.unwish,r,q⟩
theorem PSs.nox {st:List Stmt}{t:TS}(h:PSs X.nox st t):PSs X st t:=fun pins s U H D I hw =>
 Cn (h pins s U H D (I.wish _) hw) (fun _ _ q=>q.unwish) fun _ _ z=>False.elim z
end
section
variable {X:Cx}{st:Stmt}{rest:List Stmt}{t u:TS}{e:Expr}{te:TE}{pos:Pos}
def zA:TS:=fun D U H=>D.nx U H
def Ae (t u:TS):TS:=fun D U H=>t { D with nx:=u D } U H
theorem Inv.quiet {U:St}{H:Hp}(I:Inv X pins U H s):interactive X.env=false:=by simp [interactive,I.ok.kind]
def zC (te:TE):TS:=fun D U H=>te U H fun _ H1=>D.nx U H1
def Ac (te:TE):TS:=fun D U H=>te U H D.rt
def zk (c:TT)(t u:TS):TS:=fun D U H=>c U H fun b H1=>if b=true then t D U H1 else u D U H1
theorem wM {c:Expr}{a b:List Stmt}{tc:TT}(hc:PT X c tc)(ha:PSs X a t)(hb:PSs X b u):PS X (.If c a b pos) (zk tc t u):=by
 intro pins s U H D I h
 refine wpAny_If (thn (hc pins s U H _ I h) fun d s1 zz=>?_)
 obtain ⟨H1,I1,q1⟩:=zz
 cases d with
 | true=>exact ha pins s1 U H1 D I1 q1
 | false=>exact hb pins s1 U H1 D I1 q1
def tNever:TS:=fun _ _ _=>False
end
abbrev TG:=V->St->Hp->(St->Hp->Prop)->Prop
abbrev TGs:=List V->St->Hp->(St->Hp->Prop)->Prop
def PG (X:Cx)(target:Expr)(t:TG):Prop :=
 ∀(pins:List (Addr×Obj)) (s:Shared) (U:St) (H:Hp) (v:V) (u:Value) (Q:St->Hp->Prop),Inv X pins U H s->RelV v u->t v U H Q ->
  wpAny (model X.prog X.w) X.A (assign target X.env u) (fun _ s'=>∃ σ' H',Inv X pins σ' H' s'/\Q σ' H') X.xe s
def PGs (X:Cx)(ts:List Expr)(t:TGs):Prop :=
 ∀(pins:List (Addr×Obj)) (s:Shared) (U:St) (H:Hp) (vs:List V) (us:List Value) (Q:St->Hp->Prop),Inv X pins U H s->Vals vs us->t vs U H Q ->
  wpAny (model X.prog X.w) X.A (assignInOrder ((assignEach ts X.env).map (·.2)) us) (fun _ s'=>∃ σ' H',Inv X pins σ' H' s'/\Q σ' H') X.xe s
abbrev xY:=V->V->V->Hp->(Hp->Prop)->Prop
def yQ (X:Cx)(t:xY):Prop :=
 ∀(pins:List (Addr×Obj)) (s:Shared) (U:St) (H:Hp) (o i v:V) (ov iv u:Value) (Q:Hp->Prop),Inv X pins U H s->RelV o ov->RelV i iv->RelV v u->t o i v H Q ->
  wpAny (model X.prog X.w) X.A (setItem ov iv u) (fun _ s'=>∃ H',Inv X pins U H' s'/\Q H') X.xe s
section
variable {X:Cx}{pos:Pos}
def eZ (i:Nat):TG:=fun v U H Q=>Q (U.set i (some v)) H
theorem gJ (hN:X.N.Nodup)(hi:X.N[i]?=some x)(hx:Loc X.env.scope x)(hf:X.fn x=true∨X.env.scope.names.lookup x=some .local:=by first | exact .inl rfl | exact .inr rfl | assumption):PG X (.Name x pos) (eZ i):=by
 intro pins s U H v u Q I r h
 exact EZ (kX I hN hi hx r (fun s' I'=>⟨_,H,I',h⟩) hf)
def ya:TGs:=fun vs U H Q=>vs=[]/\Q U H
def oJ (t:TG)(u:TGs):TGs:=fun vs U H Q=>∃ v r,vs=v::r/\t v U H fun σ' H'=>u r σ' H' Q
theorem pe:PGs X [] ya:=by
 intro pins s U H vs us Q I r h
 obtain ⟨e,h⟩:=h
 subst e
 cases r
 exact assignInOrder_nil ⟨U,H,I,h⟩
theorem iI {es:List Expr}{t:TG}{u:TGs}(h1:PG X e t)(h2:PGs X es u)(hs:(assignEach (e::es) X.env).map (·.2)=assign e X.env::(assignEach es X.env).map (·.2):=by rfl):PGs X (e::es) (oJ t u):=by
 intro pins s U H vs us Q I r h
 obtain ⟨v,vr,e1,h⟩:=h
 subst e1
 cases r with
 | cons r rr =>
  rw [hs]
  refine assignInOrder_cons (thn (h1 pins s U H _ _ _ I r h) fun _ s1 zz=>?_)
  obtain ⟨σ1,H1,I1,q1⟩:=zz
  exact h2 pins s1 σ1 H1 _ _ Q I1 rr q1
def yj (K:W.Frag)(n:Nat)(t:TGs):TG:=fun v U H Q=>∃ a xs,v=.ref a/\SqT K H a xs/\xs.length=n/\t xs U H Q
theorem sy {es:List Expr}{k:Nat}{t:TGs}(hc:X.calm=true)(h:PGs X es t)(hn:(assignEach es X.env).length=n:=by rfl)(hst:(assignEach es X.env).findIdx? (·.1)=none:=by rfl):PG X (.Tuple es k pos) (yj X.K n t):=by
 intro pins s U H v u Q I r hw
 obtain ⟨a,xs,e1,hq,hl,hw⟩:=hw
 subst e1
 cases r
 obtain ⟨its,rv,ht,hz⟩:=I.tuple hq
 refine assign_Tuple_tuple (I.ok.hd hc) ht (by simp [hn,<-hl,rv.length]) hst fun h' hx=>?_
 have I1:Inv X pins U H { s with heap:=h' }:=I.kept (t':=s.toks) fun b o e=>hx b o (AJ (AA e)) e
 exact h pins _ U H xs _ Q I1 (by simpa using rv) hw
def z9 (to ti:TE)(t:xY):TG:=fun v U H Q=>to U H fun o H1=>ti U H1 fun i H2=>t o i v H2 fun H3=>Q U H3
def rp (te:TE)(g:TG):TS:=fun D U H=>te U H fun x H1=>g x U H1 D.nx
def yl (c:TT)(tb:TS):TS:=fun D U H=>∃ W:Nat->St->Hp->Prop,(∃ m,W m U H)/\∀m U H,W m U H ->
 c U H fun b H1=>if b=true then ∃ N:St->Hp->Prop,(∀σ' H',N σ' H'->∃ m',m'<m/\W m' σ' H')/\tb { D with nx:=N,ct:=N,bk:=D.nx } U H1 else D.nx U H1
end
structure It where
 go:Nat->Hp->Prop
 yld:Nat->Hp->V->Hp->Prop
 stop:Nat->Hp->Prop
def kL (X:Cx)(pins:List (Addr×Obj))(H:Hp)(b:Addr):Prop :=
 H b=none/\b≠X.env.locals/\b∉X.fs/\(b∈X.ex∨X.s₀.heap.objs.size<=b)/\(∀x c,X.env.cells.lookup x=some c->c≠b)/\∀p∈X.pn++pins,p.1≠b
theorem Inv.fpOk {X:Cx}{U:St}{H H':Hp}{b:Addr}(I:Inv X pins U H s)(hb:s.heap.objs.size<=b)(hn:H' b=none):kL X pins H' b:=by
 refine ⟨hn,BD (A2 I.lt hb),I.nofs hb,.inr (AV I.sz hb),fun x c e z=>?_,fun p hp z=>?_⟩
 .obtain ⟨v,q⟩:=I.cell x c e
  exact absurd (A2 q.lt (by rw [z];exact hb)) (CD _)
 exact absurd (A2 (AA (I.pin p hp).1) (by rw [z];exact hb)) (CD _)
structure nZ (P:Program)(w:World)(K:W.Frag)(tg:Expr)(J:It)(fp:List Addr)(it:Addr)(tn:Nat->Heap->Prop):Prop where
 mem:it∈fp
 obj:∀i h,tn i h->∀b∈fp,∃ o,h.get? b=some o/\∀v,o.data≠.cell v
 keep:∀i h h',tn i h->(∀b∈fp,∀o,h.get? b=some o->h'.get? b=some o)->tn i h'
 item:∀(X:Cx),X.prog=P->X.w=w->X.K=K->X.calm=true->∀(i:Nat) (pins:List (Addr×Obj)) (s:Shared) (U:St) (H:Hp) (E:Value->Shared->Prop),Inv X pins U H s->(∀b∈fp,kL X pins H b)->tn i s.heap->J.go i H ->
  wpAny (model P w) X.A (pyNext (.ref it)) (fun r s1=>∃ u,r=some u /\
   wpAny (model P w) X.A (letOwnedTupleGo tg (.ref it) u) (fun _ s2=>∃ x H',Inv X pins U H' s2/\RelV x u/\J.yld i H x H'/\tn (i+1) s2.heap/\∀b∈fp,H' b=none) E s1) E s
 done:∀(X:Cx),X.prog=P->X.w=w->X.K=K->X.calm=true->∀(i:Nat) (pins:List (Addr×Obj)) (s:Shared) (U:St) (H:Hp) (E:Value->Shared->Prop),Inv X pins U H s->(∀b∈fp,kL X pins H b)->tn i s.heap->J.stop i H ->
  wpAny (model P w) X.A (pyNext (.ref it)) (fun r s1=>r=none/\Inv X pins U H s1) E s
 self:∀(A:Around) (i:Nat) (s:Shared) (Q:Value->Shared->Prop) (E:Value->Shared->Prop),tn i s.heap->Q (.ref it) s->wpAny (model P w) A (pyIter (.ref it)) Q E s
abbrev TI:=St->Hp->(It->Hp->Prop)->Prop
def PIE (X:Cx)(pins:List (Addr×Obj))(U:St)(tg:Expr)(R:It->Hp->Prop)(itv:Value)(s2:Shared):Prop :=
 ∃ (it:Addr) (fp:List Addr) (tn:Nat->Heap->Prop) (J:It) (H':Hp),itv=.ref it/\Inv X pins U H' s2/\nZ X.prog X.w X.K tg J fp it tn/\tn 0 s2.heap/\(∀b∈fp,kL X pins H' b)/\R J H'
def PI (X:Cx)(tg iter:Expr)(wi:TI):Prop :=
 ∀(pins:List (Addr×Obj)) (s:Shared) (U:St) (H:Hp) (R:It->Hp->Prop),Inv X pins U H s->wi U H R ->
  wpAny (model X.prog X.w) X.A (eval iter X.env) (fun v s1=>wpAny (model X.prog X.w) X.A (pyIter v) (PIE X pins U tg R) X.xe s1) X.xe s
theorem oQ {M:Model}{it:Addr}{n:String}{vs:Array Value}{Q:Unit->Shared->Prop}(ho:s.heap.get? it=some o)(hc:o.cls=.type n)(hd:o.data=.fields vs)(hn:["enumerate","zip","dict_itemiterator","dict_reverseitemiterator","odict_iterator","itertools.zip_longest","itertools.pairwise"].contains n=false)(hQ:Q () s):wpAny M A (letOwnedTupleGo tg (.ref it) u) Q E s:=by
  unfold letOwnedTupleGo
  cases tg <;> first
    | exact Aq hQ
    | (cases u <;> first
        | exact Aq hQ
        | (refine gV (wpAny_load ho ?_)
           rw [hc,hd]
           show wpAny M A (if (["enumerate","zip","dict_itemiterator","dict_reverseitemiterator","odict_iterator","itertools.zip_longest","itertools.pairwise"].contains n&&vs[0]? == some (rawInt _))=true then _ else _) Q E s
           rw [Ay (by intro h;rw [hn,Bool.false_and] at h;cases h)]
           exact Aq hQ))
def Itl (K:W.Frag)(a:Addr):It :=
 ⟨fun i H=>∃ xs x,SqL K H a xs/\xs[i]?=some x,fun i H x H'=>H'=H/\∀xs,SqL K H a xs->xs[i]?=some x,fun i H=>∃ xs,SqL K H a xs/\xs.length<=i⟩
def Itt (K:W.Frag)(a:Addr):It :=
 ⟨fun i H=>∃ xs x,SqT K H a xs/\xs[i]?=some x,fun i H x H'=>H'=H/\∀xs,SqT K H a xs->xs[i]?=some x,fun i H=>∃ xs,SqT K H a xs/\xs.length<=i⟩
def Itr (lo:Int)(n:Nat):It:=⟨fun i _=>i<n,fun i H x H'=>H'=H/\x=.int (lo+i),fun i _=>n<=i⟩
theorem jo {P:Program}(a it:Addr):nZ P w K tg (Itl K a) [it] it (fun i h=>h.IsListIter it a i) where
 mem:=by simp
 obj:=fun i h st b hb=>by
  have e:b=it:=by simpa using hb
  subst e
  obtain ⟨o,e,c,d⟩:=st
  exact ⟨o,e,fun v z=>by rw [d] at z;cases z⟩
 keep:=fun i h h' st k=>st.at fun o e=>k it An o e
 item:=by
  intro X hP hw hK hc i pins s U H E I hf st hg
  subst hP hw hK
  obtain ⟨xs,x,hq,hx⟩:=hg
  obtain ⟨its,rv,p,hz⟩:=I.list hq
  obtain ⟨u,hu,ru⟩:=rv.get hx
  obtain ⟨f0,f1,f2,f3,f4,f5⟩:=hf it An
  refine De st p.isList (x:=u) (by simpa using hu) fun h' st' sb=>?_
  have I1:Inv X pins U H { s with heap:=h' }:=I.turned (t':=s.toks) (fun b o hb e=>(sb.2 b hb).trans e) f0 f1 f3 f4 f5
  obtain ⟨o,e,c,d⟩:=id st'
  exact ⟨u,rfl,oQ (s:={ s with heap:=h' }) e c d Ak ⟨x,H,I1,ru,⟨rfl,fun ys hy=>by rw [I.list_inj hy hq];exact hx⟩,st',fun b hb=>(hf b hb).1⟩⟩
 done:=by
  intro X hP hw hK hc i pins s U H E I hf st hg
  subst hP hw hK
  obtain ⟨xs,hq,hx⟩:=hg
  obtain ⟨its,rv,p,hz⟩:=I.list hq
  obtain ⟨f0,f1,f2,f3,f4,f5⟩:=hf it An
  have hl:=rv.length
  exact Dq (I.ok.hd hc) st p.isList (by simp;lia) fun h' eb=>⟨rfl,I.turned (t':=s.toks) (fun b o hb e=>eb b o hb e) f0 f1 f3 f4 f5⟩
 self:=fun _ _ _ _ _ st h=>wpAny_pyIter_listiter st h
theorem iy {P:Program}(a it:Addr):nZ P w K tg (Itt K a) [it] it (fun i h=>h.IsTupleIter it a i) where
 mem:=by simp
 obj:=fun i h st b hb=>by
  have e:b=it:=by simpa using hb
  subst e
  obtain ⟨o,e,c,d⟩:=st
  exact ⟨o,e,fun v z=>by rw [d] at z;cases z⟩
 keep:=fun i h h' st k=>st.at fun o e=>k it An o e
 item:=by
  intro X hP hw hK hc i pins s U H E I hf st hg
  subst hP hw hK
  obtain ⟨xs,x,hq,hx⟩:=hg
  obtain ⟨its,rv,p,hz⟩:=I.tuple hq
  obtain ⟨u,hu,ru⟩:=rv.get hx
  obtain ⟨f0,f1,f2,f3,f4,f5⟩:=hf it An
  refine wpAny_pyNext_tuple_item st (show s.heap.IsTuple a its.toArray from p) (x:=u) (by simpa using hu) fun h' st' sb=>?_
  have I1:Inv X pins U H { s with heap:=h' }:=I.turned (t':=s.toks) (fun b o hb e=>(sb.2 b hb).trans e) f0 f1 f3 f4 f5
  obtain ⟨o,e,c,d⟩:=id st'
  exact ⟨u,rfl,oQ (s:={ s with heap:=h' }) e c d Ak ⟨x,H,I1,ru,⟨rfl,fun ys hy=>by rw [I.tuple_inj hy hq];exact hx⟩,st',fun b hb=>(hf b hb).1⟩⟩
 done:=by
  intro X hP hw hK hc i pins s U H E I hf st hg
  subst hP hw hK
  obtain ⟨xs,hq,hx⟩:=hg
  obtain ⟨its,rv,p,hz⟩:=I.tuple hq
  obtain ⟨f0,f1,f2,f3,f4,f5⟩:=hf it An
  have hl:=rv.length
  exact wpAny_pyNext_tuple_end (I.ok.hd hc) st (show s.heap.IsTuple a its.toArray from p) (by simp;lia) fun h' eb=>⟨rfl,I.turned (t':=s.toks) (fun b o hb e=>eb b o hb e) f0 f1 f3 f4 f5⟩
 self:=fun _ _ _ _ _ st h=>wpAny_pyIter_tupleiter st h
theorem mL {P:Program}{K:PySem.W.Frag}(it:Addr)(lo:Int)(n:Nat):nZ P w K tg (Itr lo n) [it] it (fun i h=>IsRangeIter h it (lo+(i:Nat)*1) ((n:Int)-(i:Nat)) 1) where
 mem:=by simp
 obj:=fun i h st b hb=>by
  have e:b=it:=by simpa using hb
  subst e
  exact ⟨_,st,fun v z=>by
   have z':Data.fields _=Data.cell v:=z
   cases z'⟩
 keep:=fun i h h' st k=>k it An _ st
 item:=by
  intro X hP hw hK hc i pins s U H E I hf st hg
  subst hP hw hK
  obtain ⟨f0,f1,f2,f3,f4,f5⟩:=hf it An
  have W:=Walks.range (prog:=X.prog) (w:=X.w) (I.ok.hd hc) it lo 1 n
  refine W.item i s _ _ hg st fun v h' tk hv st' kk=>?_
  obtain ⟨t,rfl⟩:=hv
  have I1:Inv X pins U H { s with heap:=h',toks:=tk }:=I.turned (fun b o hb e=>kk b o (by simpa using hb) e) f0 f1 f3 f4 f5
  refine ⟨_,rfl,oQ (s:={ s with heap:=h',toks:=tk }) (n:="range_iterator") st' rfl rfl Ak ⟨.int (lo+i),H,I1,⟨t,?_⟩,⟨rfl,rfl⟩,st',fun b hb=>(hf b hb).1⟩⟩
  rw [Int.mul_one]
 done:=by
  intro X hP hw hK hc i pins s U H E I hf st hg
  subst hP hw hK
  obtain ⟨f0,f1,f2,f3,f4,f5⟩:=hf it An
  exact wpAny_pyNext_range_end (I.ok.hd hc) st (by have:n<=i:=hg;lia) fun h' eb=>⟨rfl,I.turned (t':=s.toks) (fun b o hb e=>eb b o hb e) f0 f1 f3 f4 f5⟩
 self:=fun _ _ _ _ _ st h=>wpAny_pyIter_rangeiter st h
section
variable {X:Cx}{tg:Expr}
def zg (K:W.Frag)(tl:TE):TI:=fun U H R=>tl U H fun x H1=>∃ a,x=.ref a/\(∃ xs,SqL K H1 a xs)/\R (Itl K a) H1
def zW (K:W.Frag)(tl:TE):TI:=fun U H R=>tl U H fun x H1=>∃ a,x=.ref a/\(∃ xs,SqT K H1 a xs)/\R (Itt K a) H1
theorem sv {U:St}{H:Hp}{R:It->Hp->Prop}{lo hi:Int}{t u v:Tok}{tk:Nat}(I:Inv X pins U H s)(h1:-(2 ^ 62)<=lo)(h2:lo<2 ^ 62)(h3:-(2 ^ 62)<=hi)(h4:hi<2 ^ 62)(q:R (Itr lo (hi-lo).toNat) H):wpAny (model X.prog X.w) X.A (pyIter (.ref s.heap.objs.size)) (PIE X pins U tg R) E { s with heap:=s.heap.push { cls:=.type "range",data:=.fields #[.int lo t,.int hi u,.int 1 v] },toks:=tk }:=by
 refine wpAny_pyIter_range (IsRange.new ..) (small_one h1 h2 h3 h4) ?_
 have I1:Inv X pins U H { s with heap:=s.heap.push { cls:=.type "range",data:=.fields #[.int lo t,.int hi u,.int 1 v] },toks:=tk }:=I.kept fun b o e=>Ap _ e
 refine ⟨(s.heap.push { cls:=.type "range",data:=.fields #[.int lo t,.int hi u,.int 1 v] }).objs.size,[(s.heap.push { cls:=.type "range",data:=.fields #[.int lo t,.int hi u,.int 1 v] }).objs.size],_,_,H,rfl,
  I1.kept (t':=tk) fun b o e=>Ap _ e,mL _ lo (hi-lo).toNat,?_,fun b hb=>?_,q⟩
 .have e1:lo+((0:Nat):Int)*1=lo:=by simp
  have e2:(((hi-lo).toNat:Nat):Int)-((0:Nat):Int)=Builtin.Range.rangeSize lo hi 1:=by rw [rangeSize_one];split <;> lia
  show IsRangeIter _ _ (lo+((0:Nat):Int)*1) ((((hi-lo).toNat:Nat):Int)-((0:Nat):Int)) 1
  rw [e1,e2]
  exact AF _ rfl
 have e:b=(s.heap.push { cls:=.type "range",data:=.fields #[.int lo t,.int hi u,.int 1 v] }).objs.size:=by simpa using hb
 subst e
 exact I1.fpOk (Av _) (I1.hok.fresh (Av _))
def yS (ta:TA):TI:=fun U H R=>ta U H fun vs H1=>∃ j:Int,vs=[.int j]/\-(2 ^ 62)<=j/\j<2 ^ 62/\R (Itr 0 j.toNat) H1
def FW (J:It)(g:TG)(tb:TS)(D:iq)(U:St)(H0:Hp):Prop:=∃ W:Nat->Nat->St->Hp->Prop,(∃ m,W 0 m U H0)/\∀i m U H,W i m U H ->
 (J.stop i H/\D.nx U H)∨(J.go i H/\∃ N:St->Hp->Prop,(∀σ' H',N σ' H'->∃ m',m'<m/\W (i+1) m' σ' H')/\∀x H',J.yld i H x H'->g x U H' fun σ2 H2=>tb { D with nx:=N,ct:=N,bk:=D.nx } σ2 H2)
def z5 (wi:TI)(g:TG)(tb:TS):TS:=fun D U H=>wi U H fun J H1=>FW J g tb D U H1
def hV (fp:List Addr)(h:Heap):List (Addr×Obj):=fp.filterMap fun b=>(h.get? b).map fun o=>(b,o)
theorem cQ {b:Addr}(hb:b∈fp)(e:h.get? b=some o):(b,o)∈hV fp h:=List.mem_filterMap.mpr ⟨b,hb,by rw [e];rfl⟩
theorem p9 {p:Addr×Obj}(hp:p∈hV fp h):p.1∈fp/\h.get? p.1=some p.2:=by
 obtain ⟨b,hb,e⟩:=List.mem_filterMap.mp hp
 cases q:h.get? b with
 | none=>rw [q] at e;cases e
 | some o =>
  rw [q] at e
  have e':(b,o)=p:=Be e
  subst e'
  exact ⟨hb,q⟩
theorem Inv.pinned {U:St}{H:Hp}(I:Inv X pins U H s)(hf:∀b∈fp,kL X pins H b)(ho:∀b∈fp,∃ o,s.heap.get? b=some o/\∀v,o.data≠.cell v):Inv X (pins++hV fp s.heap) U H s :=
 I.pins_of fun p hp=>(AU.mp hp).elim (fun z=>I.pin p (Bi _ z)) fun z=>by
  obtain ⟨hb,e⟩:=p9 z
  obtain ⟨f0,f1,f2,_⟩:=hf p.1 hb
  obtain ⟨o,e',d⟩:=ho p.1 hb
  rw [e] at e';cases e'
  exact ⟨e,f0,f1,f2,d⟩
theorem Inv.unpinned {pl:List (Addr×Obj)}{U:St}{H:Hp}(I:Inv X (pins++pl) U H s):Inv X pins U H s:=I.pins_of fun p hp=>I.pin p (Bi _ (Cy _ hp))
end
theorem gY {xs:List V}{g:TG}{tb:TS}{D:iq}{U:St}{H:Hp}(Pv:Nat->St->Hp->Prop)(h0:Pv 0 U H)(hl:∀i U H,i<=xs.length->Pv i U H->SqL K H a xs)(hs:∀i x U H,xs[i]?=some x->Pv i U H->g x U H fun σ2 H2=>tb { D with nx:=Pv (i+1),ct:=Pv (i+1),bk:=D.nx } σ2 H2)(hd:∀U H,Pv xs.length U H->D.nx U H):
  FW (Itl K a) g tb D U H:=by
 refine ⟨fun i m U H=>m=xs.length-i/\i<=xs.length/\Pv i U H,⟨xs.length,An,BA _,h0⟩,?_⟩
 rintro i m U H ⟨rfl,hi,p⟩
 have q:=hl i U H hi p
 by_cases hlt:i<xs.length
 .refine .inr ⟨⟨xs,xs[i],q,by simp [hlt]⟩,Pv (i+1),fun σ' H' p'=>⟨xs.length-(i+1),Am,rfl,hlt,p'⟩,fun x H' y=>?_⟩
  obtain ⟨e,y⟩:=y
  subst e
  exact hs i x U _ (y xs q) p
 have e:i=xs.length:=by lia
 subst e
 exact .inl ⟨⟨xs,q,Av _⟩,hd U H p⟩
theorem vk {xs:List V}{g:TG}{tb:TS}{D:iq}{U:St}{H:Hp}(Pv:Nat->St->Hp->Prop)(h0:Pv 0 U H)(hl:∀i U H,i<=xs.length->Pv i U H->SqT K H a xs)(hs:∀i x U H,xs[i]?=some x->Pv i U H->g x U H fun σ2 H2=>tb { D with nx:=Pv (i+1),ct:=Pv (i+1),bk:=D.nx } σ2 H2)(hd:∀U H,Pv xs.length U H->D.nx U H):
  FW (Itt K a) g tb D U H:=by
 refine ⟨fun i m U H=>m=xs.length-i/\i<=xs.length/\Pv i U H,⟨xs.length,An,BA _,h0⟩,?_⟩
 rintro i m U H ⟨rfl,hi,p⟩
 have q:=hl i U H hi p
 by_cases hlt:i<xs.length
 .refine .inr ⟨⟨xs,xs[i],q,by simp [hlt]⟩,Pv (i+1),fun σ' H' p'=>⟨xs.length-(i+1),Am,rfl,hlt,p'⟩,fun x H' y=>?_⟩
  obtain ⟨e,y⟩:=y
  subst e
  exact hs i x U _ (y xs q) p
 have e:i=xs.length:=by lia
 subst e
 exact .inl ⟨⟨xs,q,Av _⟩,hd U H p⟩
theorem dN {lo:Int}{g:TG}{tb:TS}{D:iq}{U:St}{H:Hp}(Pv:Nat->St->Hp->Prop)(h0:Pv 0 U H)(hs:∀i U H,i<n->Pv i U H->g (.int (lo+i)) U H fun σ2 H2=>tb { D with nx:=Pv (i+1),ct:=Pv (i+1),bk:=D.nx } σ2 H2)(hd:∀U H,Pv n U H->D.nx U H):
  FW (Itr lo n) g tb D U H:=by
 refine ⟨fun i m U H=>m=n-i/\i<=n/\Pv i U H,⟨n,An,BA _,h0⟩,?_⟩
 rintro i m U H ⟨rfl,hi,p⟩
 by_cases hlt:i<n
 .refine .inr ⟨hlt,Pv (i+1),fun σ' H' p'=>⟨n-(i+1),Am,rfl,hlt,p'⟩,fun x H' y=>?_⟩
  obtain ⟨e,y⟩:=y
  subst e y
  exact hs i U _ hlt p
 have e:i=n:=by lia
 subst e
 exact .inl ⟨Av _,hd U H p⟩
abbrev R2:=V->V->Hp->VK->Prop
def OpR (X:Cx)(f:Value->Value->Sem Value)(r:R2):Prop :=
 ∀(pins:List (Addr×Obj)) (s:Shared) (U:St) (H:Hp) (x y:V) (v u:Value) (Q:VK),Inv X pins U H s->RelV x v->RelV y u->r x y H Q ->
  wpAny (model X.prog X.w) X.A (f v u) (EP X pins U Q) X.xe s
def UnR (X:Cx)(f:Value->Sem Value)(r:V->Hp->VK->Prop):Prop :=
 ∀(pins:List (Addr×Obj)) (s:Shared) (U:St) (H:Hp) (x:V) (v:Value) (Q:VK),Inv X pins U H s->RelV x v->r x H Q ->
  wpAny (model X.prog X.w) X.A (f v) (EP X pins U Q) X.xe s
def cf (X:Cx)(f:Value)(r:List V->Hp->VK->Prop):Prop :=
 ∀(pins:List (Addr×Obj)) (s:Shared) (U:St) (H:Hp) (xs:List V) (us:List Value) (Q:VK),Inv X pins U H s->Vals xs us->r xs H Q ->
  wpAny (model X.prog X.w) X.A (call f us) (EP X pins U Q) X.xe s
def tOp (r:R2)(ta tb:TE):TE:=fun U H Q=>ta U H fun x H1=>tb U H1 fun y H2=>r x y H2 Q
def tUn (r:V->Hp->VK->Prop)(ta:TE):TE:=fun U H Q=>ta U H fun x H1=>r x H1 Q
def rI (C:Int->Int->Prop)(g:Int->Int->V):R2:=fun x y H Q=>onI x fun i=>onI y fun j=>C i j/\Q (g i j) H
def rI0 (g:Int->Int->V):R2:=fun x y H Q=>onI x fun i=>onI y fun j=>Q (g i j) H
def rU (g:Int->V):V->Hp->VK->Prop:=fun x H Q=>onI x fun i=>Q (g i) H
section
variable {X:Cx}{a b c:Expr}{ta tb tc:TE}{pos:Pos}
theorem xv (ha:PE X a ta)(hb:PE X b tb){U:St}{H:Hp}{R:V->V->Hp->Prop}(I:Inv X pins U H s)(h:ta U H fun x H1=>tb U H1 fun y H2=>R x y H2){f:Value->Value->Sem Value}(hf:∀v u s2 x y H2,Inv X pins U H2 s2->RelV x v->RelV y u->R x y H2->wpAny (model X.prog X.w) X.A (f v u) Q X.xe s2):
  wpAny (model X.prog X.w) X.A (eval a X.env) (fun v s₁=>wpAny (model X.prog X.w) X.A (eval b X.env) (fun u s₂=>wpAny (model X.prog X.w) X.A (f v u) Q X.xe s₂) X.xe s₁) X.xe s:=by
 refine thn (ha pins s U H _ I h) fun v s1 zz=>?_
 obtain ⟨x,H1,I1,r1,q1⟩:=zz
 refine thn (hb pins s1 U H1 _ I1 q1) fun u s2 zz=>?_
 obtain ⟨y,H2,I2,r2,q2⟩:=zz
 exact hf v u s2 x y H2 I2 r1 r2 q2
theorem opI {f:Value->Value->Sem Value}{C:Int->Int->Prop}{g:Int->Int->Int}(rule:∀(i j:Int) (t u:Tok) (s:Shared) (Q:Value->Shared->Prop) (E:Value->Shared->Prop),C i j->Q (.int (g i j) s.toks) { s with toks:=s.toks+1 }->wpAny (model X.prog X.w) X.A (f (.int i t) (.int j u)) Q E s):
  OpR X f (rI C fun i j=>.int (g i j)):=by
 intro pins s U H x y v u Q I rx ry h
 obtain ⟨i,rfl,z⟩:=cV h
 obtain ⟨j,rfl,hc,q⟩:=cV z
 obtain ⟨t,rfl⟩:=rx
 obtain ⟨t',rfl⟩:=ry
 exact rule i j t t' s _ _ hc ⟨.int (g i j),H,I.tok _,⟨_,rfl⟩,q⟩
theorem zh {f:Value->Value->Sem Value}{g:Int->Int->Int}(rule:∀(i j:Int) (t u:Tok) (s:Shared) (Q:Value->Shared->Prop) (E:Value->Shared->Prop),Q (.int (g i j) s.toks) { s with toks:=s.toks+1 }->wpAny (model X.prog X.w) X.A (f (.int i t) (.int j u)) Q E s):
  OpR X f (rI0 fun i j=>.int (g i j)):=by
 intro pins s U H x y v u Q I rx ry h
 obtain ⟨i,rfl,z⟩:=cV h
 obtain ⟨j,rfl,q⟩:=cV z
 obtain ⟨t,rfl⟩:=rx
 obtain ⟨t',rfl⟩:=ry
 exact rule i j t t' s _ _ ⟨.int (g i j),H,I.tok _,⟨_,rfl⟩,q⟩
theorem vq {f:Value->Value->Sem Value}{g:Int->Int->Bool}(rule:∀(i j:Int) (t u:Tok) (s:Shared) (Q:Value->Shared->Prop) (E:Value->Shared->Prop),Q (.bool (g i j)) s->wpAny (model X.prog X.w) X.A (f (.int i t) (.int j u)) Q E s):
  OpR X f (rI0 fun i j=>.bl (g i j)):=by
 intro pins s U H x y v u Q I rx ry h
 obtain ⟨i,rfl,z⟩:=cV h
 obtain ⟨j,rfl,q⟩:=cV z
 obtain ⟨t,rfl⟩:=rx
 obtain ⟨t',rfl⟩:=ry
 exact rule i j t t' s _ _ ⟨.bl (g i j),H,I,rfl,q⟩
def zX (i j:Int):Prop:=0<=j/\j<=1000000/\i.natAbs<2 ^ 64
def CMul (i j:Int):Prop:=(-(2 ^ 64)<i/\i<2 ^ 64)∨(-(2 ^ 64)<j/\j<2 ^ 64)
theorem CMul.ok {i j:Int}(h:CMul i j):IntMulOk i j:=by
 rcases h with ⟨h1,h2⟩ | ⟨h1,h2⟩
 .exact .of_left (intBits_le_64 h1 h2)
 exact .of_right (intBits_le_64 h1 h2)
theorem aK:OpR X (binaryOp .Add) (rI0 fun i j=>.int (i+j)):=zh fun _ _ _ _ _ _ _ q=>add_int q
theorem bH:OpR X (binaryOp .Sub) (rI0 fun i j=>.int (i-j)):=zh fun _ _ _ _ _ _ _ q=>sub_int q
theorem cW:OpR X (binaryOp .Mult) (rI CMul fun i j=>.int (i*j)):=opI fun _ _ _ _ _ _ _ hc q=>mul_int q hc.ok
theorem cc:OpR X (binaryOp .Mod) (rI (fun _ j=>0<j) fun i j=>.int (i % j)):=opI fun i j _ _ _ _ _ hc q=>by
 have h1:(0:Int)<j:=hc
 exact mod_int' Am (by rw [Int.fmod_eq_emod_of_nonneg i Am];exact q)
theorem eQ:OpR X (binaryOp .Pow) (rI zX fun i j=>.int (i ^ j.toNat)):=opI fun _ _ _ _ _ _ _ hc q=>pow_int_small hc.1 hc.2.1 hc.2.2 q
theorem unI {f:Value->Sem Value}{g:Int->Int}(rule:∀(i:Int) (t:Tok) (s:Shared) (Q:Value->Shared->Prop) (E:Value->Shared->Prop),Q (.int (g i) s.toks) { s with toks:=s.toks+1 }->wpAny (model X.prog X.w) X.A (f (.int i t)) Q E s):
  UnR X f (rU fun i=>.int (g i)):=by
 intro pins s U H x v Q I rx h
 obtain ⟨i,rfl,q⟩:=cV h
 obtain ⟨t,rfl⟩:=rx
 exact rule i t s _ _ ⟨.int (g i),H,I.tok _,⟨_,rfl⟩,q⟩
theorem jG:UnR X (unaryOp .USub) (rU fun i=>.int (-i)):=unI fun _ _ _ _ _ q=>neg_int q
end
def zl:V->V->Bool
 | .non,.non=>true | .non,.int _=>true | .int _,.non=>true | .non,.bl _=>true | .bl _,.non=>true | .non,.str _=>true | .str _,.non=>true
 | .int _,.int _=>true | .bl _,.bl _=>true | .str _,.str _=>true | .byt _,.byt _=>true
 | .int _,.str _=>true | .str _,.int _=>true | .bl _,.str _=>true | .str _,.bl _=>true
 | _,_=>false
def rEq:R2:=fun x y H Q=>zl x y=true/\Q (.bl (decide (x=y))) H
def rNe:R2:=fun x y H Q=>zl x y=true/\Q (.bl (!decide (x=y))) H
theorem oo {i j:Int}:decide (V.int i=V.int j)=(i == j):=by
 rw [Ca]
 simp
theorem rR {i j:Bool}:decide (V.bl i=V.bl j)=(i == j):=by
 rw [Ca]
 simp
theorem pf {i j:Str}:decide (V.str i=V.str j)=(i == j):=by
 rw [Ca]
 simp
theorem ow {i j:Array UInt8}:decide (V.byt i=V.byt j)=(i.toList == j.toList):=by
 rw [Ca]
 cases i
 cases j
 simp
section
variable {X:Cx}{a b c:Expr}{ta tb tc:TE}{pos:Pos}
theorem aT {U:St}{H:Hp}{Q:VK}{k k':Bool}(I:Inv X pins U H s)(q:Q (.bl k) H)(e:k=k'):EP X pins U Q (.bool k') s:=by
 subst e
 exact ⟨.bl k,H,I,rfl,q⟩
theorem bz:OpR X (compareOp .Eq) rEq:=by
 intro pins s U H x y v u Q I rx ry h
 obtain ⟨hs,q⟩:=h
 cases x with
 | non =>
  cases rx
  cases y with
  | non=>cases ry;exact PySem.EqNone.eq_none_none (aT I q An)
  | bl j=>cases ry;exact PySem.EqNone.eq_none_bool (aT I q An)
  | int j=>obtain ⟨t',rfl⟩:=ry;exact PySem.EqNone.eq_none_int (aT I q An)
  | str j=>obtain ⟨t',rfl⟩:=ry;exact PySem.EqNone.eq_none_str (aT I q An)
  | _=>exact absurd (show false=true from hs) AL
 | bl i =>
  cases rx
  cases y with
  | non=>cases ry;exact PySem.EqNone.eq_bool_none (aT I q An)
  | bl j=>cases ry;exact eq_bool (aT I q rR)
  | str j=>obtain ⟨t',rfl⟩:=ry;exact PySem.EqMixed.eq_bool_str (aT I q An)
  | _=>exact absurd (show false=true from hs) AL
 | int i =>
  obtain ⟨t,rfl⟩:=rx
  cases y with
  | non=>cases ry;exact PySem.EqNone.eq_int_none (aT I q An)
  | int j=>obtain ⟨t',rfl⟩:=ry;exact eq_int (aT I q oo)
  | str j=>obtain ⟨t',rfl⟩:=ry;exact PySem.EqMixed.eq_int_str (aT I q An)
  | _=>exact absurd (show false=true from hs) AL
 | str i =>
  obtain ⟨t,rfl⟩:=rx
  cases y with
  | non=>cases ry;exact PySem.EqNone.eq_str_none (aT I q An)
  | bl j=>cases ry;exact PySem.EqMixed.eq_str_bool (aT I q An)
  | int j=>obtain ⟨t',rfl⟩:=ry;exact PySem.EqMixed.eq_str_int (aT I q An)
  | str j=>obtain ⟨t',rfl⟩:=ry;exact eq_str (aT I q pf)
  | _=>exact absurd (show false=true from hs) AL
 | byt i =>
  obtain ⟨t,rfl⟩:=rx
  cases y with
  | byt j=>obtain ⟨t',rfl⟩:=ry;exact W.eq_bytes (aT I q ow)
  | _=>exact absurd (show false=true from hs) AL
 | _=>cases y <;> exact absurd (show false=true from hs) AL
theorem wW:OpR X (compareOp .NotEq) rNe:=by
 intro pins s U H x y v u Q I rx ry h
 obtain ⟨hs,q⟩:=h
 cases x with
 | non =>
  cases rx
  cases y with
  | non=>cases ry;exact PySem.EqNone.ne_none_none (aT I q An)
  | bl j=>cases ry;exact PySem.EqNone.ne_none_bool (aT I q An)
  | int j=>obtain ⟨t',rfl⟩:=ry;exact PySem.EqNone.ne_none_int (aT I q An)
  | str j=>obtain ⟨t',rfl⟩:=ry;exact PySem.EqNone.ne_none_str (aT I q An)
  | _=>exact absurd (show false=true from hs) AL
 | bl i =>
  cases rx
  cases y with
  | non=>cases ry;exact PySem.EqNone.ne_bool_none (aT I q An)
  | bl j=>cases ry;exact ne_bool (aT I q (congrArg not rR))
  | str j=>obtain ⟨t',rfl⟩:=ry;exact PySem.EqMixed.ne_bool_str (aT I q An)
  | _=>exact absurd (show false=true from hs) AL
 | int i =>
  obtain ⟨t,rfl⟩:=rx
  cases y with
  | non=>cases ry;exact PySem.EqNone.ne_int_none (aT I q An)
  | int j=>obtain ⟨t',rfl⟩:=ry;exact ne_int (aT I q (congrArg not oo))
  | str j=>obtain ⟨t',rfl⟩:=ry;exact PySem.EqMixed.ne_int_str (aT I q An)
  | _=>exact absurd (show false=true from hs) AL
 | str i =>
  obtain ⟨t,rfl⟩:=rx
  cases y with
  | non=>cases ry;exact PySem.EqNone.ne_str_none (aT I q An)
  | bl j=>cases ry;exact PySem.EqMixed.ne_str_bool (aT I q An)
  | int j=>obtain ⟨t',rfl⟩:=ry;exact PySem.EqMixed.ne_str_int (aT I q An)
  | str j=>obtain ⟨t',rfl⟩:=ry;exact ne_str (aT I q (congrArg not pf))
  | _=>exact absurd (show false=true from hs) AL
 | byt i =>
  obtain ⟨t,rfl⟩:=rx
  cases y with
  | byt j=>obtain ⟨t',rfl⟩:=ry;exact W.ne_bytes (aT I q (congrArg not ow))
  | _=>exact absurd (show false=true from hs) AL
 | _=>cases y <;> exact absurd (show false=true from hs) AL
theorem fA:OpR X (compareOp .Lt) (rI0 fun i j=>.bl (decide (i<j))):=vq fun _ _ _ _ _ _ _ q=>lt_int q
theorem zx:OpR X (compareOp .LtE) (rI0 fun i j=>.bl (decide (i<=j))):=vq fun _ _ _ _ _ _ _ q=>le_int q
theorem fZ:OpR X (compareOp .Gt) (rI0 fun i j=>.bl (decide (j<i))):=vq fun _ _ _ _ _ _ _ q=>gt_int q
theorem wt:OpR X (compareOp .GtE) (rI0 fun i j=>.bl (decide (j<=i))):=vq fun _ _ _ _ _ _ _ q=>ge_int q
theorem aD (b:Expr){op:CmpOp}(h:op≠.In:=by decide)(h2:op≠.NotIn:=by decide):behindInMarks op b=false:=by
 have e1:(op == CmpOp.In)=false:=by cases op <;> first | rfl | exact absurd rfl h
 have e2:(op == CmpOp.NotIn)=false:=by cases op <;> first | rfl | exact absurd rfl h2
 cases b <;> simp [behindInMarks,e1,e2]
def zj (t:TE):TT:=fun U H Q=>t U H fun x H'=>∃ k,x=.bl k/\Q k H'
theorem fM:(sizeLine:Nat)<2 ^ 63:=by rw [FM];decide
theorem bJ:OpR X (binaryOp .Add) (fun x y H Q=>∃ i j,x=.str i/\y=.str j/\i.length+j.length<=sizeLine/\Q (.str (i++j)) H):=by
 intro pins s U H x y v u Q I rx ry h
 obtain ⟨i,j,rfl,rfl,hz,q⟩:=h
 obtain ⟨t,rfl⟩:=rx
 obtain ⟨t',rfl⟩:=ry
 exact add_str (fun t' tk=>⟨.str (i++j),H,I.tok _,⟨_,rfl⟩,q⟩) hz
theorem c9 {x:V}(r:Vals [x] us):∃ u,us=[u]/\RelV x u:=by
 cases r with
 | cons r1 r2=>cases r2;exact ⟨_,rfl,r1⟩
theorem zB {x y:V}(r:Vals [x,y] us):∃ u w',us=[u,w']/\RelV x u/\RelV y w':=by
 cases r with
 | cons r1 r2 =>
  cases r2 with
  | cons r3 r4=>cases r4;exact ⟨_,_,rfl,r1,r3⟩
theorem io:cf X (.builtin "abs") (fun xs H Q=>∃ i,xs=[.int i]/\Q (.int (if i<0 then -i else i)) H):=by
 intro pins s U H xs us Q I r h
 obtain ⟨i,rfl,q⟩:=h
 obtain ⟨u,rfl,t,rfl⟩:=c9 r
 exact call_abs_int fun u tk=>⟨.int (if i<0 then -i else i),H,I.tok _,⟨_,rfl⟩,q⟩
theorem cF:cf X (.type "int") (fun xs H Q=>(∃ i,xs=[.int i]/\Q (.int i) H)∨∃ k,xs=[.bl k]/\Q (.int (if k then 1 else 0)) H):=by
 intro pins s U H xs us Q I r h
 rcases h with ⟨i,rfl,q⟩ | ⟨k,rfl,q⟩
 .obtain ⟨u,rfl,t,rfl⟩:=c9 r
  exact call_int_int ⟨.int i,H,I,⟨_,rfl⟩,q⟩
 obtain ⟨u,rfl,r1⟩:=c9 r
 cases r1
 exact call_int_bool ⟨.int (if k then 1 else 0),H,I.tok _,⟨_,rfl⟩,q⟩
end
structure ObjM (h:Heap)(x dx C:Addr)(mA:Str->Option Value):Prop where
 obj:h.get? x=some (W.instObj C dx)
 ns:h.Ns1 dx mA
 ne:dx≠x
theorem qj {dx:Addr}(n:h.Ns1 dx mA):∃ od,h.get? dx=some od/\∀name,W.lookIn name od=some (mA name):=by
 obtain ⟨o,es,ep,ho,hd,hk,_,hm⟩:=n
 refine ⟨o,ho,fun name=>?_⟩
 have e:=hm name
 unfold nsFind findBy at e
 rw [<-Array.find?_toList] at e
 unfold W.lookIn
 rw [hd]
 dsimp only
 split
 .rename_i y q
  rw [q] at e
  exact congrArg some e
 rename_i q
 rw [q] at e
 have a:es.toList.any (·.refKey)=false:=by
  rw [List.any_eq_false]
  intro y hy
  obtain ⟨z,t,hkey⟩:=hk y (Array.mem_toList_iff.mp hy)
  simp [DictEntry.refKey,hkey]
 have a':¬ es.toList.any (·.refKey)=true:=by rw [a];exact AL
 rw [Ay a']
 exact congrArg some e
theorem ObjM.look {x dx:Addr}(I:ObjM h x dx C mA):∃ od,W.InstAt h x (W.instObj C dx) C (some od)/\∀name,W.lookIn name od=some (mA name) :=
 let ⟨od,ho,hl⟩:=qj I.ns
 ⟨od,⟨I.obj,rfl,rfl,ho⟩,hl⟩
section
variable {prog:Program}{w:World}{A:Around}{E:Value->Shared->Prop}{s:Shared}{K:W.Frag}{x dx C f:Addr}{mA:Str->Option Value}{name:Str}{v:Value}
theorem ve {expr:Bool}(X:K.In s.heap)(I:ObjM s.heap x dx C mA)(hg:W.plainGet K C name=true)(hh:W.hasDictIn K C=true)(ha:W.findIn K (.ref C) name=some none)(hv:mA name=some v)(hv':W.handedIn v=true)(h:Q v { s with toks:=s.toks+1 }):
  wpAny (model prog w) A (getAttr (.ref x) name expr) Q E s:=by
 obtain ⟨od,J,hl⟩:=I.look
 exact W.get_value X J (W.plainGet_of hg).1 (W.findObj_own hh ha rfl (by rw [hl,hv])) hv' h
theorem qT {pl:Sem Bool}{Q:Value×List Value->Shared->Prop}(X:K.In s.heap)(I:ObjM s.heap x dx C mA)(hg:W.plainGet K C name=true)(hf:W.findIn K (.ref C) name=some (some (.ref f)))(ht:W.isFn K (.ref f)=true)(hv:mA name=none)(h:Q (.ref f,[.ref x]) s):
  wpAny (model prog w) A (getMethod (.ref x) name pl) Q E s:=by
 obtain ⟨od,J,hl⟩:=I.look
 exact W.method_fn X J (W.plainGet_of hg).1 (W.plainGet_of hg).2 hf (Dz.mp ht) (by show (W.lookIn name od).map (·.isSome)=some false;rw [hl,hv];rfl) h
theorem vT {Q:Unit->Shared->Prop}(X:K.In s.heap)(I:ObjM s.heap x dx C mA)(hs:W.findIn K (.ref C) "__setattr__"=some (some (.builtin "object.__setattr__")))(hp:W.plainOver K C=true)(ht:W.takerIn K C name=some none)(hh:W.hasDictIn K C=true)(hw:PySem.Within mA ns)(hsz:ns.length<=sizeLine)(h:∀h',ObjM h' x dx C (fun y=>if y=name then some v else mA y)->Heap.SameBut dx s.heap h'->Q () { s with heap:=h',toks:=s.toks+2 }):
  wpAny (model prog w) A (setAttr (.ref x) name v) Q E s:=by
 obtain ⟨od,J,hl⟩:=I.look
 refine W.set_plain X J hs (W.osa_open (s:={ s with toks:=s.toks+1 }) (r:=none) X J hp ht fun b=>?_)
 obtain ⟨cd,hc,hd'⟩:=W.any_some hh
 have hx:s.heap.get? x=some ⟨.ref C,some dx,.plain,#[]⟩:=I.obj
 refine gV (Aq (gV (gV (wpAny_loadPart hx (gV (W.Looks.here (s:={ s with toks:=s.toks+1 }) (W.looks_clsIn X hc) ?_))))))
 rw [hd']
 refine Aq (a:=some dx) (gV (Aq (gV ?_)))
 refine wpAny_nsSet1 (s:={ s with toks:=s.toks+1 }) I.ns fun h' hn2 hs2=>?_
 obtain ⟨oD,esD,epD,hoD,hdD,hcD⟩:=hn2.count (PySem.Within.cons name v hw)
 refine gV (wpAny_lookBehind hoD (by rw [hdD];exact pastItsLine_dict (AV hcD (by rw [A8];lia))) ?_)
 exact Aq (h _ ⟨(hs2.2 _ (EF I.ne)).trans I.obj,hn2,I.ne⟩ hs2)
theorem sO {R:Result->Shared->Prop}(X:K.In s.heap)(hm:W.makesIn K C=true)(hi:W.findIn K (.ref C) "__init__"=some (some (.ref f)))(hf:W.typeIn K (.ref f)=some (.type "function"))(h:codeAny (model prog w) (A.under (.builtin "type.__call__" ⟨.ref C::vs,kw⟩)) (.call (.ref f) ⟨.ref (s.heap.objs.size+1)::vs,kw⟩) (W.InitBack (s.heap.objs.size+1) R)
   { s with heap:=(s.heap.push W.emptyDict).push (W.instObj C s.heap.objs.size) }):
  codeAny (model prog w) A (.call (.ref C) ⟨vs,kw⟩) R s:=by
 obtain ⟨hh,g,d,t,os⟩:=s
 exact W.make_core (W.makes_of X hm) (W.looks_findIn X hi) (fun self=>W.bind_fn X self hf) (.inl rfl) h
end
def bB (f:Str)(v:V):List (Str×V)->List (Str×V)
 | []=>[(f,v)]
 | (g,x)::r=>if g=f then (g,v)::r else (g,x)::bB f v r
theorem dg (f g:Str)(v:V):∀fs:List (Str×V),(bB f v fs).lookup g=if g=f then some v else fs.lookup g
 | []=>by
  show List.lookup g [(f,v)]=_
  by_cases h:g=f
  .have hb:(g == f)=true:=Dz.mpr h
   simp only [List.lookup,hb,Az h]
  .have hb:(g == f)=false:=BW.mpr h
   simp only [List.lookup,hb,Ay h]
 | (k,x)::r=>by
  have ih:=dg f g v r
  rw [show bB f v ((k,x)::r)=(if k=f then (k,v)::r else (k,x)::bB f v r) from rfl]
  by_cases hk:k=f
  .rw [Az hk]
   by_cases h:g=k
   .have hb:(g == k)=true:=Dz.mpr h
    simp only [List.lookup,hb,Az (h.trans hk)]
   .have hb:(g == k)=false:=BW.mpr h
    simp only [List.lookup,hb,Ay (fun e:g=f=>h (e.trans hk.symm))]
  .rw [Ay hk]
   by_cases h:g=k
   .have hb:(g == k)=true:=Dz.mpr h
    simp only [List.lookup,hb,Ay (fun e:g=f=>hk (h.symm.trans e))]
   .have hb:(g == k)=false:=BW.mpr h
    simp only [List.lookup,hb]
    exact ih
theorem fT (f:Str)(v:V):∀fs:List (Str×V),f∈(bB f v fs).map (·.1)/\∀g,g∈fs.map (·.1)->g∈(bB f v fs).map (·.1)
 | []=>⟨by simp [bB],fun g h=>by simp at h⟩
 | (k,x)::r=>by
  obtain ⟨i1,i2⟩:=fT f v r
  rw [show bB f v ((k,x)::r)=(if k=f then (k,v)::r else (k,x)::bB f v r) from rfl]
  by_cases hk:k=f
  .rw [Az hk]
   subst hk
   exact ⟨An,fun g h=>by simpa using h⟩
  .rw [Ay hk]
   refine ⟨?_,fun g h=>?_⟩
   .rw [AN]
    exact AH _ i1
   .rw [AN] at h ⊢
    rcases Aw.mp h with e | e
    .exact List.mem_cons.mpr (.inl e)
    .exact AH _ (i2 g e)
theorem gf (f:Str)(v:V):∀fs:List (Str×V),(bB f v fs).length<=fs.length+1
 | []=>by simp [bB]
 | (k,x)::r=>by
  have ih:=gf f v r
  rw [show bB f v ((k,x)::r)=(if k=f then (k,v)::r else (k,x)::bB f v r) from rfl]
  by_cases hk:k=f
  .rw [Az hk,A8,A8];lia
  .rw [Ay hk,A8,A8];lia
theorem RelO.some_of {v:V}{o:Option Value}(r:RelO (some v) o):∃ u,o=some u/\RelV v u:=by
 cases o with
 | none=>exact (show False from r).elim
 | some u=>exact ⟨u,rfl,r⟩
theorem RelO.none_of {o:Option Value}(r:RelO none o):o=none:=by
 cases o with
 | none=>rfl
 | some u=>exact (show False from r).elim
theorem qd {v:V}(r:RelV v u):W.handedIn u=true:=by
 cases v with
 | non=>cases (show u=Value.none from r);rfl
 | bl b=>cases (show u=Value.bool b from r);rfl
 | int i=>obtain ⟨t,e⟩:=(show ∃ t,u=Value.int i t from r);cases e;rfl
 | str x=>obtain ⟨t,e⟩:=(show ∃ t,u=Value.str x t from r);cases e;rfl
 | byt b=>obtain ⟨t,e⟩:=(show ∃ t,u=Value.bytes b t from r);cases e;rfl
 | flt b=>obtain ⟨t,e⟩:=(show ∃ t,u=Value.float b t from r);cases e;rfl
 | ref a=>cases (show u=Value.ref a from r);rfl
 | ty n=>cases (show u=Value.type n from r);rfl
section
variable {P:Program}{w:World}{H H':Hp}{h h':Heap}{a C dx:Addr}{fs fs':List (Str×V)}
theorem j7 (hok:HOk P w H h)(e:H a=some (.ins C dx fs)):∃ mA,ObjM h a dx C mA/\(∀f,RelO (fs.lookup f) (mA f))/\PySem.Within mA (fs.map (·.1))/\fs.length<=1000/\H dx=some (.own a):=by
 obtain ⟨d,z,ne,ob,mA,n,r,q⟩:=(show ObjOk P w H h a (.ins C dx fs) from hok a _ e)
 exact ⟨mA,⟨ob,n,ne⟩,r,q,z,d⟩
end
structure Cls (K:W.Frag)(C:Addr):Prop where
 pg:W.plainGet K C Str.empty=true
 hd:W.hasDictIn K C=true
 po:W.plainOver K C=true
 sa:W.findIn K (.ref C) "__setattr__"=some (some (.builtin "object.__setattr__"))
theorem Cls.get (c:Cls K C)(f:Str):W.plainGet K C f=true:=c.pg
def NoAttr (K:W.Frag)(C:Addr)(f:Str):Prop:=W.findIn K (.ref C) f=some none
theorem NoAttr.taker {f:Str}(n:NoAttr K C f):W.takerIn K C f=some none:=by
 unfold W.takerIn
 rw [show W.findIn K (.ref C) f=some none from n]
 rfl
structure b8 (K:W.Frag)(C:Addr)(m:Str)(f:Addr):Prop where
 at_:W.findIn K (.ref C) m=some (some (.ref f))
 fn:W.isFn K (.ref f)=true
 kp:W.keepIn K (.ref f)=true
section
variable {X:Cx}{pins:List (Addr×Obj)}{U:St}{H:Hp}{s:Shared}{a C dx:Addr}{fs:List (Str×V)}{f:Str}{v:V}{A:Around}{E:Value->Shared->Prop}
theorem mV (I:Inv X pins U H s)(e:H a=some (.ins C dx fs))(c:Cls X.K C)(n:NoAttr X.K C f)(l:fs.lookup f=some v)(h:∀u s',Inv X pins U H s'->RelV v u->Q u s'):wpAny (model X.prog X.w) A (getAttr (.ref a) f b) Q E s:=by
 obtain ⟨mA,O,r,_,_,_⟩:=j7 I.hok e
 obtain ⟨u,hu,ru⟩:=RelO.some_of (v:=v) (o:=mA f) (by rw [<-l];exact r f)
 exact ve I.kIn O (c.get f) c.hd n hu (qd ru) (h u _ (I.tok _) ru)
theorem gW {g:Addr}{pl:Sem Bool}{Q:Value×List Value->Shared->Prop}(I:Inv X pins U H s)(e:H a=some (.ins C dx fs))(c:Cls X.K C)(k:b8 X.K C m g)(l:fs.lookup m=none)(h:Q (.ref g,[.ref a]) s):wpAny (model X.prog X.w) A (getMethod (.ref a) m pl) Q E s:=by
 obtain ⟨mA,O,r,_,_,_⟩:=j7 I.hok e
 have hn:mA m=none:=RelO.none_of (by rw [<-l];exact r m)
 exact qT I.kIn O (c.get m) k.at_ k.fn hn h
theorem nN {y:V}{Q:Unit->Shared->Prop}(I:Inv X pins U H s)(e:H a=some (.ins C dx fs))(c:Cls X.K C)(n:NoAttr X.K C f)(hl:fs.length<1000)(ry:RelV y u)(h:∀s',Inv X pins U (upd H a (.ins C dx (bB f y fs))) s'->Q () s'):wpAny (model X.prog X.w) A (setAttr (.ref a) f u) Q E s:=by
 obtain ⟨mA,O,r,wi,_,ho⟩:=j7 I.hok e
 have hz:(fs.map (·.1)).length<=sizeLine:=by rw [Ar,FM];lia
 refine vT I.kIn O c.sa c.po n.taker c.hd wi hz fun h' O' sb=>h _ ?_
 have hd:∃ o,h'.get? dx=some o:=let ⟨o,_,_,e',_⟩:=O'.ns;⟨o,e'⟩
 refine I.write (x:=a) (e:=dx) (by rw [e];exact True.intro) (.inr ho) (fun b q hb z=>(sb.2 b hb).trans z) hd ?_
 refine ⟨by rw [ao O.ne];exact ho,?_,O.ne,O'.obj,_,O'.ns,fun g=>?_,fun g hg=>?_⟩
 .have:=gf f y fs;lia
 .show RelO ((bB f y fs).lookup g) (if g=f then some u else mA g)
  rw [dg]
  by_cases q:g=f
  .rw [Az q,Az q];exact ry
  .rw [Ay q,Ay q];exact r g
 by_cases q:g=f
 .rw [q];exact (fT f y fs).1
 refine (fT f y fs).2 g (wi g fun z=>hg ?_)
 show (if g=f then some u else mA g)=none
 rw [Ay q];exact z
theorem Inv.made (I:Inv X pins U H s):Inv X pins U (upd (upd H s.heap.objs.size (.own (s.heap.objs.size+1))) (s.heap.objs.size+1) (.ins C s.heap.objs.size []))
  { s with heap:=(s.heap.push W.emptyDict).push (W.instObj C s.heap.objs.size) }:=by
 have e1:(s.heap.push W.emptyDict).get? s.heap.objs.size=some W.emptyDict:=AF s.heap rfl
 have e2:((s.heap.push W.emptyDict).push (W.instObj C s.heap.objs.size)).get? (s.heap.objs.size+1)=some (W.instObj C s.heap.objs.size):=by
  have:=AF (s.heap.push W.emptyDict) (o:=W.instObj C s.heap.objs.size) rfl
  rwa [BB] at this
 have e3:(s.heap.push W.emptyDict).Ns s.heap.objs.size (fun _=>none):=⟨W.emptyDict,#[],_,e1,rfl,(fun e he=>absurd he An),fun _=>rfl⟩
 have I1:=I.laid (a:=s.heap.objs.size) (o:=.own (s.heap.objs.size+1)) (h':=s.heap.push W.emptyDict) (t':=s.toks) (fun b u q=>Ap _ q) (Av _) ⟨_,e1⟩
 refine I1.laid (a:=s.heap.objs.size+1) (o:=.ins C s.heap.objs.size []) (t':=s.toks) (fun b u q=>Ap _ q) (FY (BB _ _)) ?_
 have ne:s.heap.objs.size≠s.heap.objs.size+1:=AJ (Cu _)
 refine ⟨by rw [ao ne,ag],BA _,ne,e2,fun _=>none,(Heap.Ns1.of_empty e3).at fun o q=>Ap _ q,fun _=>True.intro,fun y hy=>absurd rfl hy⟩
theorem vB {f:Str}(hb:attributeBase e f env (eval e env)=eval e env)(h:wpAny (model prog w) A (eval e env) (fun o s₁=>wpAny (model prog w) A (getAttr o f true) Q E s₁) E s):wpAny (model prog w) A (eval (.Attribute e f pos) env) Q E s :=
 Attribute_any_ h (by rw [arm_eval_Attribute,hb])
end
def zZ (K:W.Frag)(ta:TE)(f:Str):TE:=fun U H Q=>ta U H fun x H1=>∃ a C dx fs v,x=.ref a/\H1 a=some (.ins C dx fs)/\Cls K C/\NoAttr K C f/\fs.lookup f=some v/\Q v H1
def z8 (K:W.Frag)(ta tv:TE)(f:Str):TS:=fun D U H=>tv U H fun y H1=>ta U H1 fun x H2=>∃ a C dx fs,x=.ref a/\H2 a=some (.ins C dx fs)/\Cls K C/\NoAttr K C f/\fs.length<1000 /\
 D.nx U (upd H2 a (.ins C dx (bB f y fs)))
structure Room (k:Nat)(A:Around):Prop where
 hd:A.handled=none
 dp:A.depth+3*k+5<recursionLimit
 un:A.units+16*k+200<cLine
theorem Room.mono {k:Nat}(r:Room k A)(h:j<=k):Room j A:=⟨r.hd,by have:=r.dp;lia,by have:=r.un;lia⟩
theorem Room.deeper {k:Nat}(r:Room (k+1) A)(env:Env):Room k (A.deeper env) :=
 ⟨r.hd,by have:=r.dp;show A.depth+1+3*k+5<_;lia,by have:=r.un;show A.units+3+16*k+200<_;lia⟩
theorem nM:(A.under (.builtin "type.__call__" ⟨.ref C::us,kw⟩)).depth=A.depth+1:=by
 first | rfl | simp [Around.under,Code.weight,Code.isCreation,Code.isGuard,Code.isCaller,Code.frames,Code.isFrame,guardIds]
theorem nu:(A.under (.builtin "type.__call__" ⟨.ref C::us,kw⟩)).units=A.units+1:=by
 first | rfl | simp [Around.under,Code.cUnits,Code.frames,Code.isFrame]
theorem Room.make {k:Nat}(r:Room (k+1) A)(C:Addr)(us:List Value)(kw:List (Str×Value)):Room k (A.under (.builtin "type.__call__" ⟨.ref C::us,kw⟩)) :=
 ⟨r.hd,by have:=r.dp;rw [nM];lia,by have:=r.un;rw [nu];lia⟩
theorem Room.depth {k:Nat}(r:Room k A):A.depth<recursionLimit:=by have:=r.dp;lia
theorem Room.units {k:Nat}(r:Room k A):A.units+64<cLine:=by have:=r.un;lia
theorem Room.units0 {k:Nat}(r:Room k A):A.units<cLine:=by have:=r.un;lia
def qM:TA:=fun _ H Q=>Q [] H
def wB (ta:TE)(tr:TA):TA:=fun U H Q=>ta U H fun x H1=>tr U H1 fun xs H2=>Q (x::xs) H2
section
variable {X:Cx}{e:Expr}{es:List Expr}{te:TE}{t:TA}{pos:Pos}
theorem um:PA X [] qM:=fun _ _ _ _ H Q I h=>CH ⟨[],H,I,.nil,h⟩
theorem pc (ha:PE X e te)(hr:PA X es t)(hs:starEach (e::es) X.env=(false,eval e X.env)::starEach es X.env:=by rfl):PA X (e::es) (wB te t):=by
 intro pos pins s U H Q I h
 rw [hs]
 show wpAny _ _ (spliced ((false,eval e X.env)::backTo pos (starEach es X.env))) _ _ s
 refine Cs (thn (ha pins s U H _ I h) fun u s1 zz=>?_)
 obtain ⟨x,H1,I1,r1,q1⟩:=zz
 exact thn (hr pos pins s1 U H1 _ I1 q1) fun us s2 ⟨xs,H2,I2,r2,q2⟩=>⟨x::xs,H2,I2,.cons r1 r2,q2⟩
def Ab (t:TA):TE:=fun U H Q=>t U H fun xs H1=>xs.length<=sizeLine/\∀p,H1 p=none->Q (.ref p) (upd H1 p (.tup xs))
def z7 (t:TA):TE:=fun U H Q=>t U H fun xs H1=>xs.length<=sizeLine/\∀p,H1 p=none->Q (.ref p) (upd H1 p (.lst xs))
end
abbrev Sp:=List V->Hp->VK->XK->Prop
abbrev CXT:=List Env->Hp->Shared->XK->Value->Shared->Prop
structure Env0 (P:Program)(w:World)(K:W.Frag)(mg:Str->Option Value)(base:Heap)(A:Around)(outer:List Env)(s:Shared)(H:Hp):Prop where
 frames:A.frames=some outer
 mod:Mod K mg base
 bs:∀b o,base.get? b=some o->s.heap.get? b=some o/\H b=none
 bsz:base.objs.size<=s.heap.objs.size
 funs:s.heap.FunFrames base outer
 frf:∀b∈frs outer,H b=none
 hok:HOk P w H s.heap
 bare:AllBare s.gens
def CE (outer:List Env)(P:Program)(w:World)(H:Hp)(s:Shared)(Q:VK)(u:Value)(s':Shared):Prop :=
 ∃ v H',s'.os=s.os/\AllBare s'.gens/\Un (frs outer) [] H H' s.heap s'.heap/\HOk P w H' s'.heap/\RelV v u/\Q v H'
def CR (CX:CXT)(outer:List Env)(P:Program)(w:World)(H:Hp)(s:Shared)(Q:VK)(E:XK)(r:Result)(s':Shared):Prop :=
 match r with
 | .ok (.ret u)=>CE outer P w H s Q u s'
 | .ok _=>False
 | .error e=>CX outer H s E e s'
structure aB (P:Program)(w:World)(K:W.Frag)(mg:Str->Option Value)(base:Heap)(CX:CXT)(k:Nat)(f:Addr)(fd:FuncData)(ps:List Str)(sp:Sp):Prop where
 len:∀vs H Q E,sp vs H Q E->vs.length=ps.length
 run:∀(A:Around) (outer:List Env) (s:Shared) (H:Hp) (args:Args) (us:List Value) (vs:List V) (Q:VK) (E:XK),Room k A->Env0 P w K mg base A outer s H->BindsTo s fd args (ps.zip us)->Vals vs us->sp vs H Q E ->
  codeAny (model P w) A (.call (.ref f) args) (CR CX outer P w H s Q E) s
theorem Env0.make {P:Program}{H:Hp}(e:Env0 P w K mg base A outer s H)(C:Addr)(us:List Value)(kw:List (Str×Value)):
  Env0 P w K mg base (A.under (.builtin "type.__call__" ⟨.ref C::us,kw⟩)) outer s H:=⟨by first | exact e.frames | (simpa [Around.under,Code.envs,Code.isFrame,pushEnvs] using e.frames),e.mod,e.bs,e.bsz,e.funs,e.frf,e.hok,e.bare⟩
section
variable {X:Cx}{pins:List (Addr×Obj)}{U:St}{H:Hp}{s s':Shared}
theorem Inv.env0 (I:Inv X pins U H s):Env0 X.prog X.w X.K X.mg X.base X.A X.stack s H :=
 ⟨I.ok.frames,I.ok.mod,I.bs,AV I.ok.bsz I.sz,I.stack,I.stkFree,I.hok,I.bare⟩
theorem Inv.after {Q:VK}(I:Inv X pins U H s)(h:CE X.stack X.prog X.w H s Q u s'):EP X pins U Q u s':=by
 obtain ⟨v,H',os,bare,un,hok,r,q⟩:=h
 obtain ⟨hh,g,d,t,os'⟩:=s'
 obtain rfl:os'=s.os:=os
 exact ⟨v,H',I.call (h':=hh) (g':=g) (d':=d) (t':=t) (ch:=[]) un hok bare (fun b z=>absurd z An),r,q⟩
end
def rA (sp:Sp)(dvs:List V)(E:XK)(t:TA):TE:=fun U H Q=>t U H fun vs H1=>sp (vs++dvs) H1 Q E
def wI (C:Addr)(m:Str)(sp:Sp)(dvs:List V)(E:XK)(ta:TE)(t:TA):TE:=fun U H Q=>ta U H fun x H1=>∃ a dx fs,x=.ref a/\H1 a=some (.ins C dx fs)/\fs.lookup m=none /\
 t U H1 fun vs H2=>sp (x::(vs++dvs)) H2 Q E
def yP (C:Addr)(sp:Sp)(dvs:List V)(E:XK)(t:TA):TE:=fun U H Q=>t U H fun vs H1=>∀x dx,H1 x=none->H1 dx=none->dx≠x ->
 sp (.ref x::(vs++dvs)) (upd (upd H1 dx (.own x)) x (.ins C dx [])) (fun v H2=>v=.non/\Q (.ref x) H2) E
def Binds (K:W.Frag)(fd:FuncData)(ps:List Str)(ds:List Value):Prop :=
 ∀(s:Shared) (us:List Value),K.In s.heap->(us++ds).length=ps.length->BindsTo s fd ⟨us,[]⟩ (ps.zip (us++ds))
theorem Binds.all (h:∀us:List Value,us.length=ps.length->bindArgs fd ⟨us,[]⟩=pure (ps.zip us)):Binds K fd ps []:=fun s us _ hl=>by
 rw [BP] at hl ⊢
 exact .of_eq (h us hl)
def cR (CX:CXT)(X:Cx)(E:XK):Prop:=∀(pins:List (Addr×Obj)) (U:St) (H:Hp) (s:Shared) (e:Value) (s':Shared),Inv X pins U H s->CX X.stack H s E e s'->X.xe e s'
section
variable {X:Cx}{CX:CXT}{k:Nat}{f C:Addr}{fd:FuncData}{ps:List Str}{sp:Sp}{dvs:List V}{ds:List Value}{E:XK}{x m:Str}{p pos apos:Pos}{e o:Expr}{es:List Expr}{ta:TE}{t:TA}
theorem jS {U:St}{H:Hp}{Q:VK}{vs:List V}(F:aB X.prog X.w X.K X.mg X.base CX k f fd ps sp)(hr:Room k X.A)(hb:Binds X.K fd ps ds)(hd:Vals dvs ds)(hx:cR CX X E)(I:Inv X pins U H s)(r:Vals vs us)(h:sp (vs++dvs) H Q E):wpAny (model X.prog X.w) X.A (call (.ref f) us) (EP X pins U Q) X.xe s:=by
 have r2:Vals (vs++dvs) (us++ds):=r.append hd
 have hl:(us++ds).length=ps.length:=by rw [<-r2.length];exact F.len _ _ _ _ h
 refine wpAny_call (C7 (F.run X.A X.stack s H ⟨us,[]⟩ (us++ds) (vs++dvs) Q E hr I.env0 (hb s us I.kIn hl) r2 h) fun r s' hq=>?_)
 cases r with
 | error e=>exact hx pins U H s e s' I hq
 | ok fl =>
  cases fl with
  | ret u=>exact I.after hq
  | next=>exact False.elim hq
  | brk=>exact False.elim hq
  | cont=>exact False.elim hq
structure Mk (K:W.Frag)(C f:Addr):Prop where
 makes:W.makesIn K C=true
 init:W.findIn K (.ref C) "__init__"=some (some (.ref f))
 fn:W.isFn K (.ref f)=true
 kp:W.keepIn K (.ref C)=true
theorem tT {U:St}{H:Hp}{Q:VK}{vs:List V}(M:Mk X.K C f)(F:aB X.prog X.w X.K X.mg X.base CX k f fd ps sp)(hr:Room (k+1) X.A)(hb:Binds X.K fd ps ds)(hd:Vals dvs ds)(hx:cR CX X E)(I:Inv X pins U H s)(r:Vals vs us)(h:∀x dx,H x=none->H dx=none->dx≠x->sp (.ref x::(vs++dvs)) (upd (upd H dx (.own x)) x (.ins C dx [])) (fun v H2=>v=.non/\Q (.ref x) H2) E):
  wpAny (model X.prog X.w) X.A (call (.ref C) us) (EP X pins U Q) X.xe s:=by
 have hq:=h (s.heap.objs.size+1) s.heap.objs.size (I.hok.fresh (BX _)) (I.hok.fresh (Av _)) (AJ (Cu _))
 have I2:=Inv.made (C:=C) I
 have r2:Vals (V.ref (s.heap.objs.size+1)::(vs++dvs)) (Value.ref (s.heap.objs.size+1)::(us++ds)):=.cons rfl (r.append hd)
 have hl:(Value.ref (s.heap.objs.size+1)::us++ds).length=ps.length:=by
  have e:=r2.length
  rw [F.len _ _ _ _ hq] at e
  exact e.symm
 refine wpAny_call (sO (f:=f) I.kIn M.makes M.init (Dz.mp M.fn) (C7 (F.run _ X.stack _ _ ⟨Value.ref (s.heap.objs.size+1)::us,[]⟩ (Value.ref (s.heap.objs.size+1)::(us++ds)) _ _ E (hr.make C us [])
  (I2.env0.make C us []) (hb _ (Value.ref (s.heap.objs.size+1)::us) I2.kIn hl) r2 hq) fun r s' hq'=>?_))
 cases r with
 | error e=>exact hx pins U _ _ e s' I2 hq'
 | ok fl =>
  cases fl with
  | ret u =>
   obtain ⟨v,H',I3,rv,ev,q3⟩:=I2.after hq'
   subst ev
   exact ⟨rv,⟨V.ref (s.heap.objs.size+1),H',I3,rfl,q3⟩⟩
  | next=>exact False.elim hq'
  | brk=>exact False.elim hq'
  | cont=>exact False.elim hq'
end
structure aA (N P:List Str)(sc:Scope):Prop where
 kind:sc.kind=.function
 co:sc.isCoroutine=false
 gen:sc.isGenerator=false
 nd:N.Nodup
 pre:N.take P.length=P
 par:∀x∈P,sc.names.lookup x=some .local∨sc.names.lookup x=some .cell
 nofree:∀y∈sc.names,y.2≠.free
theorem fs0 {P:List Str}{sc:Scope}(a:sc.kind=.function:=by rfl)(b:sc.isCoroutine=false:=by rfl)(c:sc.isGenerator=false:=by rfl)(d:N.Nodup:=by decide +kernel)(e:N.take P.length=P:=by rfl)(f:∀x∈P,sc.names.lookup x=some .local∨sc.names.lookup x=some .cell:=by decide +kernel)(g:∀y∈sc.names,y.2≠.free:=by decide +kernel):aA N P sc:=⟨a,b,c,d,e,f,g⟩
theorem i7 {kindOf:Str->Option NameKind}{x:Str}:∀{binds:List (Str×Value)} {m:Str->Option Value},(∀v,(x,v)∉binds)->bindL kindOf binds m x=m x
 | [],_,_=>rfl
 | (n,v)::r,m,h=>by
  unfold bindL
  rw [i7 fun w hw=>h w (AH _ hw)]
  split
  .have:x≠n:=by rintro rfl;exact h v AX
   simp [this]
  .rfl
theorem jh {kindOf:Str->Option NameKind}{x:Str}:∀{binds:List (Str×Value)} {m:Str->Option Value},(∀v,(x,v)∉binds)->bindC kindOf binds m x=m x
 | [],_,_=>rfl
 | (n,v)::r,m,h=>by
  unfold bindC
  rw [jh fun w hw=>h w (AH _ hw)]
  split
  .rfl
  .have:x≠n:=by rintro rfl;exact h v AX
   simp [this]
theorem jc {kindOf:Str->Option NameKind}{x:Str}{v:Value}:∀{P:List Str} {vs:List Value} {i:Nat} {m:Str->Option Value},P.Nodup->P[i]?=some x->vs[i]?=some v->kindOf x=some .local ->
  bindL kindOf (P.zip vs) m x=some v
 | [],_,_,_,_,h,_,_=>by simp at h
 | _::_,[],_,_,_,_,h,_=>by simp at h
 | p::P,w::vs,0,m,nd,h1,h2,hk=>by
  simp at h1 h2;subst h1;subst h2
  show bindL kindOf ((p,w)::P.zip vs) m p=_
  unfold bindL
  rw [i7 fun v hv=>(BY.mp nd).1 (Fp hv).1,Az hk]
  simp
 | p::P,w::vs,i+1,m,nd,h1,h2,hk=>by
  show bindL kindOf ((p,w)::P.zip vs) m x=_
  unfold bindL
  exact jc (i:=i) (BY.mp nd).2 (by simpa using h1) (by simpa using h2) hk
theorem jq {kindOf:Str->Option NameKind}{x:Str}{v:Value}:∀{P:List Str} {vs:List Value} {i:Nat} {m:Str->Option Value},P.Nodup->P[i]?=some x->vs[i]?=some v->kindOf x≠some .local ->
  bindC kindOf (P.zip vs) m x=some v
 | [],_,_,_,_,h,_,_=>by simp at h
 | _::_,[],_,_,_,_,h,_=>by simp at h
 | p::P,w::vs,0,m,nd,h1,h2,hk=>by
  simp at h1 h2;subst h1;subst h2
  show bindC kindOf ((p,w)::P.zip vs) m p=_
  unfold bindC
  rw [jh fun v hv=>(BY.mp nd).1 (Fp hv).1,Ay hk]
  simp
 | p::P,w::vs,i+1,m,nd,h1,h2,hk=>by
  show bindC kindOf ((p,w)::P.zip vs) m x=_
  unfold bindC
  exact jq (i:=i) (BY.mp nd).2 (by simpa using h1) (by simpa using h2) hk
def fE (N:List Str)(vs:List V):St:=vs.map some++List.replicate (N.length-vs.length) none
def nJ (CX:CXT)(P:Program)(w:World)(K:W.Frag)(mg:Str->Option Value)(base:Heap)(N:List Str)(qual:Str)(scope:Scope)(f:Addr)(cd:Value)(A:Around)(outer:List Env)(s:Shared)(H:Hp)(E:XK):Cx where
 prog:=P
 w:=w
 K:=K
 mg:=mg
 base:=base
 A:=A.deeper (envOfC qual scope s.heap.objs.size f cd)
 N:=N
 s₀:=s
 H₀:=H
 env:=envOfC qual scope s.heap.objs.size f cd
 outer:=outer
 stack:=envOfC qual scope s.heap.objs.size f cd::outer
 ex:=[]
 calm:=true
 fn:=fun _=>true
 pn:=[]
 xe:=fun e s'=>wpAny (model P w) (A.deeper (envOfC qual scope s.heap.objs.size f cd)) (leaving (envOfC qual scope s.heap.objs.size f cd) e) (fun _ s''=>CX outer H s E e s'') (fun e' s''=>CX outer H s E e' s'') s'
theorem aM {sc:Scope}(h:sc.names.lookup x=some .cell):∃ c,(cellsFrom n sc.names []).lookup x=some c:=by
 have q:=W.cellsFrom_some sc.names n [] (.inl h)
 exact Option.isSome_iff_exists.mp q
theorem qi {CX:CXT}{P:Program}{cd:Value}{s1:Shared}{H:Hp}{E:XK}{vs:List V}(S:aA N ps scope)(hd:A.handled=none)(e0:Env0 P w K mg base A outer s H)(hl:vs.length=ps.length)(r:Vals vs us)(x:InCallC s s.heap.objs.size (bindL (envOfC qual scope s.heap.objs.size f cd).kindOf (ps.zip us) fun _=>none) (cellsFrom (s.heap.objs.size+1) scope.names []) (bindC (envOfC qual scope s.heap.objs.size f cd).kindOf (ps.zip us) fun _=>none) s1):
  Inv (nJ CX P w K mg base N qual scope f cd A outer s H E) [] (fE N vs) H s1:=by
 have hpl:ps.length<=N.length:=by have:=congrArg List.length S.pre;rw [A0] at this;lia
 obtain ⟨h1,tk,rfl,hk⟩:=x.done
 have noA:∀b:Addr,b∉(nJ CX P w K mg base N qual scope f cd A outer s H E).ex:=fun b z=>absurd (show b∈([]:List Addr) from z) An
 refine ⟨⟨e0.mod,S.kind,rfl,rfl,Av _,fun y z c h1 h2=>?_,fun y hy=>?_,fun y c _ h=>?_,fun _=>hd,Around.frames_deeper e0.frames,.inr ⟨rfl,rfl⟩,fun b z=>absurd z (noA b),e0.bs,e0.bsz,fun b _ _=>noA b,fun b z=>absurd z (noA b),e0.funs,e0.frf⟩,
  rfl,e0.bare,Un.kept hk,⟨_,x.toInCall.ns,fun i y v h1 h2 h3=>?_⟩,fun y c h=>⟨_,x.cell y c h⟩,e0.hok.fresh (Av _),fun y c h=>?_,fun p hp=>absurd (show p∈([]:List (Addr×Obj)) from hp) An,e0.hok.kept hk,?_⟩
 .exact name_of_addr x.apart (Da h1) (Da h2)
 .have hy:scope.names.lookup y=some .cell∨scope.names.lookup y=some .free:=hy
  rcases hy with hy | hy
  .exact aM hy
  .exact absurd rfl (S.nofree _ (Da hy))
 .exact C6 (x.above y c (Da h))
 .have hi:i<vs.length:=by
   unfold fE at h2
   by_cases hi:i<vs.length
   .exact hi
   .rw [AG (by simpa using hi)] at h2
    rw [List.getElem?_replicate] at h2
    split at h2 <;> cases h2
  have ha:vs[i]?=some v:=by
   unfold fE at h2
   rw [AW (by simpa using hi),AS] at h2
   cases e:vs[i]? with
   | none=>rw [e] at h2;cases h2
   | some a=>rw [e] at h2;cases h2;rfl
  obtain ⟨u,hu,rv⟩:=r.get ha
  have hp:ps[i]?=some y:=by
   rw [<-S.pre,List.getElem?_take_of_lt Am];exact h1
  have ndP:ps.Nodup:=by rw [<-S.pre];exact S.nd.sublist (BH _ _)
  refine ⟨u,rv,?_⟩
  rcases S.par y (AQ hp) with k | k
  .exact .inl ⟨k,jc ndP hp hu k⟩
  .obtain ⟨c,e⟩:=aM (n:=s.heap.objs.size+1) k
   refine .inr ⟨.inl k,c,e,?_⟩
   have q:=x.cell y c e
   rw [jq ndP hp hu (by show scope.names.lookup y≠_;rw [k];decide)] at q
   exact q
 .exact e0.hok.fresh (C6 (x.above y c (Da h)))
 unfold fE
 show _=N.length
 rw [As,Ar,Fq]
 lia
theorem zq {CX:CXT}{P:Program}{k:Nat}{name:Str}{params:Arguments}{dV kV doc pm cdv ct oc:Value}{an od:Option Addr}{sp:Sp}(lk:K.lookup f=some ⟨oc,od,.func (W.fnOf name qual params body scope dV kV doc pm an cdv ct),osl⟩)(hcd:W.codeIn K cdv qual=true)(S:aA N ps scope)(len:∀vs H Q E,sp vs H Q E->vs.length=ps.length)(hbody:∀(A:Around) (outer:List Env) (s:Shared) (H:Hp) (vs:List V) (Q:VK) (E:XK),Room k (A.deeper (envOfC qual scope s.heap.objs.size f cdv))->sp vs H Q E ->
   ∃ t,PSs (nJ CX P w K mg base N qual scope f cdv A outer s H E) body t/\t { nx:=fun _ H'=>Q .non H',rt:=Q } (fE N vs) H):
  aB P w K mg base CX (k+1) f (W.fnOf name qual params body scope dV kV doc pm an cdv ct) ps sp:=by
 refine ⟨len,fun A outer s H args us vs Q E hr e0 hb r hsp=>?_⟩
 have hl:=len _ _ _ _ hsp
 have KX:K.In s.heap:=e0.mod.kin.keeps fun b o e=>(e0.bs b o e).1
 have lim:s.heap.NoLimit:=e0.mod.nolimit.keeps fun b o e=>(e0.bs b o e).1
 have hkind:∀y∈ps.zip us,scope.names.lookup y.1=some .local∨(scope.names.lookup y.1=some .cell/\((cellsFrom (s.heap.objs.size+1) scope.names []).lookup y.1).isSome=true):=fun ⟨n,v⟩ hy=>by
  rcases S.par n (Fp hy).1 with q | q
  .exact .inl q
  .exact .inr ⟨q,W.cellsFrom_some _ _ _ (.inl q)⟩
 refine codeAny_call_function hr.depth (KX _ _ lk) rfl S.co S.gen rfl (W.codeRec_of KX hcd) (hb _ _ _ _ ?_)
 refine wpAny_newFunctionEnv_cells S.kind hkind fun env he s1 x=>?_
 subst he
 refine ⟨lim.keeps x.toInCall.keep,codeAny_func ?_⟩
 obtain ⟨t,ht,hq⟩:=hbody A outer s H vs Q E (hr.deeper _) hsp
 have I:Inv (nJ CX P w K mg base N qual scope f cdv A outer s H E) [] (fE N vs) H s1:=qi S hr.hd e0 hl r x
 refine Cn (ht [] s1 (fE N vs) H _ I hq) (fun fl s' hs=>?_) fun e s' hs=>hs
 have fin:∀{σ':St} {H':Hp} {v:V} {u:Value},Inv (nJ CX P w K mg base N qual scope f cdv A outer s H E) [] σ' H' s'->RelV v u->Q v H'->CE outer P w H s Q u s' :=
  fun {σ' H' v u} J rv q=>⟨v,H',J.os,J.bare,J.base,J.hok,rv,q⟩
 cases fl with
 | ret u =>
  obtain ⟨v,σ',H',J,rv,q⟩:=hs
  exact fin J rv q
 | next =>
  obtain ⟨σ',H',J,q⟩:=hs
  exact fin (v:=V.non) (u:=Value.none) J rfl q
 | brk =>
  obtain ⟨_,_,_,q⟩:=hs
  exact False.elim q
 | cont =>
  obtain ⟨_,_,_,q⟩:=hs
  exact False.elim q
section
variable {X:Cx}{x:Str}{p pos:Pos}{e:Expr}{es:List Expr}{t:TA}{id T:String}{r:List V->Hp->VK->Prop}
def tCB (r:List V->Hp->VK->Prop)(t:TA):TE:=fun U H Q=>t U H fun vs H1=>r vs H1 Q
end
end L2
variable {H H':L2.Hp}{xs zs nv dz:List L2.V}{U:L2.St}{X:L2.Cx}{kvs:List (List L2.Key×L2.V)}{te:L2.TE}{r:List L2.V->L2.Hp->L2.VK->Prop}{tt t tA:L2.TT}{wi:L2.TI}{y:L2.V}{sp:L2.Sp}{trs:List (L2.TE×L2.TE)}{tb:L2.TS}{ta:L2.TA}{r':L2.V->Option Int->Option Int->L2.Hp->L2.VK->Prop}
namespace HT
open PySem PyProof.Rows
section
variable {prog:Program}{w:World}{A:Around}{E:Value->Shared->Prop}{s:Shared}
def sIx (n d:Nat):Option Int->Nat
 | none=>d
 | some v=>if v<0 then (v+(n:Int)).toNat else min v.toNat n
theorem sIx_nat (n d k:Nat):sIx n d (some (k:Int))=min k n:=by
 show (if (k:Int)<0 then ((k:Int)+(n:Int)).toNat else min (k:Int).toNat n)=min k n
 rw [Ay Am,BQ]
theorem sn (n d:Nat)(hd:d<=n)(o:Option Int):sIx n d o<=n:=by
 cases o with
 | none=>exact hd
 | some v =>
  show (if v<0 then (v+(n:Int)).toNat else min v.toNat n)<=n
  by_cases hv:v<0
  .rw [Az hv];lia
  .rw [Ay hv];exact Nat.min_le_right _ _
theorem oM (v:Int)(n d:Nat):(if v<0 then max (v+(n:Int)) 0 else min v (n:Int))=((sIx n d (some v):Nat):Int):=by
 show (if v<0 then max (v+(n:Int)) 0 else min v (n:Int))=(((if v<0 then (v+(n:Int)).toNat else min v.toNat n):Nat):Int)
 by_cases hv:v<0
 .simp only [Az hv];lia
 simp only [Ay hv];lia
theorem m8 (lo hi:Option Int)(n:Nat):Builtin.Slice.sliceAdjust lo hi 1 (n:Int)=(((sIx n 0 lo:Nat):Int),((sIx n n hi:Nat):Int)):=by
 have h1:¬ ((1:Int)<0):=by lia
 unfold Builtin.Slice.sliceAdjust
 simp only [h1,Bo]
 refine Prod.ext ?_ ?_
 .cases lo with
  | none=>rfl
  | some v=>exact oM v n 0
 cases hi with
 | none=>rfl
 | some v=>exact oM v n n
theorem mz (i j:Nat):Builtin.Slice.slicePlaces (i:Int) (j:Int) 1=j-i:=by
 unfold Builtin.Slice.slicePlaces
 have h1:(1:Int)>0:=by lia
 simp only [h1,CL,Int.ediv_one]
 split <;> lia
theorem iB {v:Value}{o:Option Int}{Q:Option Int->Shared->Prop}(p:IsPart v o)(h:Q o s):wpAny (model prog w) A (Builtin.Slice.slicePartIndex v) Q E s:=by
 cases p with
 | none=>exact slicePart_none h
 | int i t=>exact slicePart_int h
theorem cJ {sl:Addr}{vl vu:Value}{lo:Option Int}{Q:Int×Int×Nat->Shared->Prop}(hs:s.heap.IsSliceOf sl vl vu .none)(pl:IsPart vl lo)(pu:IsPart vu hi)(h:Q (((sIx n 0 lo:Nat):Int),1,sIx n n hi-sIx n 0 lo) s):wpAny (model prog w) A (Builtin.Slice.sliceApplied (.ref sl) (pure (n:Int))) Q E s:=by
 obtain ⟨os,hos,hcs,hds⟩:=id hs
 unfold Builtin.Slice.sliceApplied Builtin.Slice.sliceFields
 refine gV (gV (BI hos hds (x:=vl) rfl (gV (BI hos hds (x:=vu) rfl (gV (BI hos hds (x:=.none) rfl (Aq ?_)))))))
 refine gV (slicePart_none ?_)
 show wpAny _ _ (if ((1:Int) == 0)=true then _ else _) _ _ s
 rw [Ay Ak]
 refine gV (iB pl (gV (iB pu (gV (Aq ?_)))))
 show wpAny _ _ (match Builtin.Slice.sliceAdjust lo hi 1 (n:Int) with | (lo,hi)=>pure (lo,(1:Int),Builtin.Slice.slicePlaces lo hi 1)) _ _ s
 rw [m8 lo hi n]
 show wpAny _ _ (pure (((sIx n 0 lo:Nat):Int),(1:Int),Builtin.Slice.slicePlaces ((sIx n 0 lo:Nat):Int) ((sIx n n hi:Nat):Int) 1)) _ _ s
 rw [mz]
 exact Aq h
theorem uf (xs:Array Value)(i k:Nat):((List.range k).filterMap fun (m:Nat)=>xs[((i:Int)+(m:Int)*1).toNat]?).toArray=((xs.toList.drop i).take k).toArray:=by
 have e:(fun (m:Nat)=>xs[((i:Int)+(m:Int)*1).toNat]?)=fun m=>xs[i+m]?:=by
  funext m
  have:((i:Int)+(m:Int)*1).toNat=i+m:=by lia
  rw [this]
 rw [e]
 have:=pick_run xs i k
 rw [List.filterMap_map] at this
 have e2:((fun x=>xs[x]?) ∘ fun x=>i+x)=fun m=>xs[i+m]?:=rfl
 rw [e2] at this
 rw [this]
theorem getItem_tuple_cut {t sl:Addr}{vl vu:Value}{lo:Option Int}(ht:IsTup s.heap t items)(hs:s.heap.IsSliceOf sl vl vu .none)(pl:IsPart vl lo)(pu:IsPart vu hi)(hw:¬ (sIx items.size 0 lo=0/\sIx items.size items.size hi=items.size))(h:Q (.ref s.heap.objs.size) { s with heap:=s.heap.push { cls:=.type "tuple",data:=.seq ((items.toList.drop (sIx items.size 0 lo)).take (sIx items.size items.size hi-sIx items.size 0 lo)).toArray } })(hsz:items.size<=sizeLine):wpAny (model prog w) A (getItem (.ref t) (.ref sl)) Q E s:=by
 have htake:sizeOk (.seq ((items.toList.drop (sIx items.size 0 lo)).take (sIx items.size items.size hi-sIx items.size 0 lo)).toArray):=by
  show ((items.toList.drop (sIx items.size 0 lo)).take (sIx items.size items.size hi-sIx items.size 0 lo)).toArray.size<=sizeLine
  rw [AI,A0,Bu,Bf]
  lia
 have hj:sIx items.size items.size hi<=items.size:=sn _ _ (Av _) hi
 obtain ⟨os,hos,hcs,hds⟩:=id hs
 have hTs:s.TypeIs (.ref sl) "slice":=⟨os,hos,hcs⟩
 unfold getItem
 try with_reducible refine A7 ?_
 first | refine gV (Aq ?_) | skip
 refine gV (wpAny_sequenceKey ht.typeIs Ak ?_)
 refine gV (Bm (name:=Str.ofString "__getitem__") ht.typeIs BJ
  (Bp BJ ht.typeIs entry_tuple_getitem ?_ (args_tuple_getitem _ _)))
 show wpAny _ _ (Builtin.Tuple.tupleItemsOf (.ref t) >>= _) _ _ s
 refine gV (tupleItemsOf_ ht ?_)
 refine gV (C8 hTs ?_)
 rw [Az Ak]
 refine gV (cJ hs pl pu ?_)
 have hno:¬ ((((sIx items.size 0 lo:Nat):Int) == 0&&(1:Int) == 1&&(sIx items.size items.size hi-sIx items.size 0 lo) == items.size)=true):=by
  intro q
  rw [Bq,Bq] at q
  have q1:((sIx items.size 0 lo:Nat):Int)=0:=eq_of_beq q.1.1
  have q2:sIx items.size items.size hi-sIx items.size 0 lo=items.size:=eq_of_beq q.2
  exact hw ⟨Am,Am⟩
 show wpAny _ _ (if (((sIx items.size 0 lo:Nat):Int) == 0&&(1:Int) == 1&&(sIx items.size items.size hi-sIx items.size 0 lo) == items.size)=true then _ else _) _ _ s
 rw [Ay hno,uf]
 first
  | exact gV (m:=Builtin.Tuple.tupleExact _) (Bv (Aq ⟨_,rfl,Aq h⟩) htake)
  | exact gV (m:=Builtin.Tuple.tupleExact _) (Bv (gV (Aq (Aq ⟨_,rfl,Aq h⟩))) htake)
  | exact gV (gV (m:=Builtin.Tuple.tupleExact _) (Bv (Aq (Aq ⟨_,rfl,Aq h⟩)) htake))
  | exact gV (gV (m:=Builtin.Tuple.tupleExact _) (Bv (Aq ⟨_,rfl,Aq h⟩) htake))
end
end HT
namespace L2
open PySem PySem.Spec PyProof.Rows
abbrev TO:=St->Hp->(Option Int->Hp->Prop)->Prop
def PO (X:Cx)(e:Option Expr)(t:TO):Prop :=
 ∀(pins:List (Addr×Obj)) (s:Shared) (U:St) (H:Hp) (Q:Option Int->Hp->Prop),Inv X pins U H s->t U H Q ->
  wpAny (model X.prog X.w) X.A (evalPart e X.env) (fun u s'=>∃ o H',Inv X pins U H' s'/\IsPart u o/\Q o H') X.xe s
def vz:TO:=fun _ H Q=>Q none H
def yR (t:TE):TO:=fun U H Q=>t U H fun x H1=>∃ i,x=.int i/\Q (some i) H1
section
variable {X:Cx}{e:Expr}{te:TE}{lo hi:Option Expr}{tl th:TO}{pos p2:Pos}
def SlR (X:Cx)(r:V->Option Int->Option Int->Hp->VK->Prop):Prop :=
 ∀(pins:List (Addr×Obj)) (s:Shared) (U:St) (H:Hp) (x:V) (v vl vu:Value) (lo hi:Option Int) (sl:Addr) (Q:VK),Inv X pins U H s->RelV x v->s.heap.IsSliceOf sl vl vu .none->IsPart vl lo->IsPart vu hi->r x lo hi H Q ->
  ∃ T id,typeLookup (.type T) "__getitem__"=pure (some (.builtin id))/\s.TypeIs v T/\wpAny (model X.prog X.w) X.A (getItem v (.ref sl)) (EP X pins U Q) X.xe s
theorem SlR.or {r:V->Option Int->Option Int->Hp->VK->Prop}(h:SlR X r)(h':SlR X r'):SlR X (fun x lo hi H Q=>r x lo hi H Q∨r' x lo hi H Q):=by
 intro pins s U H x v vl vu lo hi sl Q I rx hs pl pu q
 rcases q with q | q
 .exact h pins s U H x v vl vu lo hi sl Q I rx hs pl pu q
 exact h' pins s U H x v vl vu lo hi sl Q I rx hs pl pu q
def tSl (r:V->Option Int->Option Int->Hp->VK->Prop)(te:TE)(tl th:TO):TE:=fun U H Q=>te U H fun x H1=>tl U H1 fun l H2=>th U H2 fun u H3=>r x l u H3 Q
def c7 (xs:List V)(lo hi:Option Int):List V:=(xs.drop (HT.sIx xs.length 0 lo)).take (HT.sIx xs.length xs.length hi-HT.sIx xs.length 0 lo)
theorem f8 (xs:List V)(lo hi:Option Int):(c7 xs lo hi).length<=xs.length:=by
 unfold c7
 rw [A0,Bu]
 lia
def yp (K:W.Frag):V->Option Int->Option Int->Hp->VK->Prop:=fun x lo hi H Q=>∃ a xs,x=.ref a/\SqT K H a xs /\
 ¬ (HT.sIx xs.length 0 lo=0/\HT.sIx xs.length xs.length hi=xs.length)/\∀p,H p=none->Q (.ref p) (upd H p (.tup (c7 xs lo hi)))
theorem sl_tup:SlR X (yp X.K):=by
 intro pins s U H x v vl vu lo hi sl Q I rx hs pl pu h
 obtain ⟨a,xs,rfl,hx,hw,q⟩:=h
 cases rx
 obtain ⟨its,r,ht,hz⟩:=I.tuple hx
 have hlen:its.toArray.size=xs.length:=by rw [AI];exact r.length.symm
 refine ⟨"tuple",_,BJ.lookup,ht.typeIs,?_⟩
 refine HT.getItem_tuple_cut ht hs pl pu (by rw [hlen];exact hw) ?_ (by rw [hlen];exact hz)
 rw [hlen]
 refine ⟨.ref s.heap.objs.size,_,I.laid (t':=s.toks) (o:=.tup (c7 xs lo hi)) (fun b ob q=>Ap _ q) (Av _) ?_,rfl,q _ (I.hok.fresh (Av _))⟩
 exact ⟨AV (f8 xs lo hi) hz,_,(r.drop (HT.sIx xs.length 0 lo)).take (HT.sIx xs.length xs.length hi-HT.sIx xs.length 0 lo),IsTup.new _ _⟩
end
def ixN (n:Nat)(i:Int):Option Nat:=if 0<=i then (if i<n then some i.toNat else none) else if -(n:Int)<=i then some (i+n).toNat else none
def atI {α:Type}(xs:List α)(i:Int):Option α:=(ixN xs.length i).bind fun j=>xs[j]?
theorem pd {i:Int}(h:ixN n i=some j):seqIndex? i n=some j/\j<n/\-(n:Int)<=i/\i<n:=by
 unfold ixN at h
 by_cases h0:0<=i
 .rw [Az h0] at h
  by_cases h1:i<n
  .rw [Az h1] at h
   have e:i.toNat=j:=Be h
   exact ⟨by rw [seqIndex_of h0 h1,e],Am,Am,h1⟩
  .rw [Ay h1] at h;cases h
 rw [Ay h0] at h
 by_cases h1:-(n:Int)<=i
 .rw [Az h1] at h
  have e:(i+n).toNat=j:=Be h
  exact ⟨by rw [seqIndex_neg Am h1,e],Am,h1,Am⟩
 rw [Ay h1] at h;cases h
theorem jX {α:Type}{xs:List α}{i:Int}{v:α}(h:atI xs i=some v):∃ j,seqIndex? i xs.length=some j/\xs[j]?=some v/\j<xs.length/\-(xs.length:Int)<=i/\i<xs.length:=by
 unfold atI at h
 cases e:ixN xs.length i with
 | none=>rw [e] at h;cases h
 | some j =>
  rw [e] at h
  obtain ⟨h1,h2,h3,h4⟩:=pd e
  exact ⟨j,h1,h,h2,h3,h4⟩
theorem br {α:Type}{xs:List α}{v:α}(h:xs[j]?=some v):atI xs (j:Int)=some v:=by
 have hj:j<xs.length:=(Au.mp h).1
 have e:ixN xs.length (j:Int)=some j:=by
  unfold ixN
  rw [Az Am,Az Am];simp
 unfold atI;rw [e];exact h
def vn (b:Expr):Prop:=∀o i,subscripted b false o i=operate [o,i] (getItem o i)
def IxR (X:Cx)(r:R2):Prop :=
 ∀(value slice:Expr) (pins:List (Addr×Obj)) (s:Shared) (U:St) (H:Hp) (x y:V) (v u:Value) (Q:VK),Inv X pins U H s->RelV x v->RelV y u->r x y H Q ->
  subscripted slice false v u=operate [v,u] (getItem v u)->wpAny (model X.prog X.w) X.A (subscriptTail value slice v u) (EP X pins U Q) X.xe s
def MtR (X:Cx)(id:String)(r:V->List V->Hp->VK->Prop):Prop :=
 ∀(pins:List (Addr×Obj)) (s:Shared) (U:St) (H:Hp) (x:V) (xs:List V) (v:Value) (us:List Value) (Q:VK),Inv X pins U H s->RelV x v->Vals xs us->r x xs H Q ->
  wpAny (model X.prog X.w) X.A (call (.builtin id) (v::us)) (EP X pins U Q) X.xe s
section
variable {X:Cx}{a b:Expr}{ta tb:TE}{pos:Pos}
def zM (K:W.Frag):R2:=fun x y H Q=>onR x fun p=>onI y fun i=>∃ xs v,SqL K H p xs/\atI xs i=some v/\Q v H
def zu (K:W.Frag):R2:=fun x y H Q=>onR x fun p=>onI y fun i=>∃ xs v,SqT K H p xs/\atI xs i=some v/\Q v H
def zU:R2:=fun x y H Q=>∃ z i c,x=.str z/\y=.int i/\z.length<=sizeLine/\atI z.cps.toList i=some c/\Q (.str ⟨#[c]⟩) H
theorem aw:IxR X (zM X.K):=by
 intro value slice pins s U H x y v u Q I rx ry h hs
 obtain ⟨p,rfl,y⟩:=rT h
 obtain ⟨i,rfl,xs,z,hq,he,q⟩:=cV y
 cases rx
 obtain ⟨t,rfl⟩:=ry
 obtain ⟨its,r,pl,hz⟩:=I.list hq
 obtain ⟨j,h1,h2,h3,h4,h5⟩:=jX he
 obtain ⟨w,ew,rw'⟩:=r.get h2
 have hl:=r.length
 have hn:=fM
 have fin:EP X pins U Q w s:=⟨z,H,I,rw',q⟩
 by_cases h0:0<=i
 .have hj:i.toNat=j:=by
   rw [seqIndex_of h0 h5] at h1
   exact Be h1
  exact item_listR pl.isList h0 Am (by rw [hj];simpa using ew) fin hs
 have hj:(i+(its.toArray.size:Int)).toNat=j:=by
  rw [seqIndex_neg Am h4] at h1
  rw [AI,<-hl]
  exact Be h1
 exact subscriptTail_builtinR (x:=w) pl.isList.typeIs slot_list_getitem.lookup
  (wpAny_getItem_list_neg (Q:=fun r s'=>r=w/\EP X pins U Q r s') pl.isList Am (by rw [AI] <;> lia) Am (by rw [hj];simpa using ew) ⟨rfl,fin⟩) hs
theorem aJ:IxR X (zu X.K):=by
 intro value slice pins s U H x y v u Q I rx ry h hs
 obtain ⟨p,rfl,y⟩:=rT h
 obtain ⟨i,rfl,xs,z,hq,he,q⟩:=cV y
 cases rx
 obtain ⟨t,rfl⟩:=ry
 obtain ⟨its,r,pl,hz⟩:=I.tuple hq
 obtain ⟨j,h1,h2,h3,h4,h5⟩:=jX he
 obtain ⟨w,ew,rw'⟩:=r.get h2
 have hl:=r.length
 have hn:=fM
 have fin:EP X pins U Q w s:=⟨z,H,I,rw',q⟩
 exact subscriptTail_builtinR (x:=w) pl.typeIs slot_tuple_getitem.lookup
  (getItem_tuple (j:=j) (Q:=fun r s'=>r=w/\EP X pins U Q r s') pl Am Am (by rw [AI,<-hl];exact h1) (by simpa using ew) ⟨rfl,fin⟩) hs
theorem j8:IxR X zU:=by
 intro value slice pins s U H x y v u Q I rx ry h hs
 obtain ⟨z,i,c,rfl,rfl,hz,he,q⟩:=h
 obtain ⟨t,rfl⟩:=rx
 obtain ⟨t',rfl⟩:=ry
 obtain ⟨j,h1,h2,h3,h4,h5⟩:=jX he
 have hl:z.cps.toList.length=z.length:=by simp [Str.length]
 rw [hl] at h1 h4 h5
 have hn:=fM
 exact tail_any (E1 s z t) slot_str_getitem.lookup (getItem_str (c:=c) (by
  have e1:decide (i < -(2 ^ 63:Int))=false:=AR Am
  have e2:decide (i ≥ 2 ^ 63)=false:=AR Am
  rw [e1,e2,Bool.or_false]) (by rw [h1];simpa using h2) ⟨.str ⟨#[c]⟩,H,I.tok _,⟨_,rfl⟩,q⟩) hs
theorem mw (its:List Value)(n j:Nat)(u:Value):Obj.mapSeq (·.setIfInBounds j u) { cls:=.type "list",data:=.seq its.toArray n }={ cls:=.type "list",data:=.seq (its.set j u).toArray n }:=by
 simp [Obj.mapSeq]
theorem Inv.lst (I:Inv X pins U H s)(h:H p=some (.lst xs)):
  ∃ (its:List Value) (n:Nat),Vals xs its/\s.heap.get? p=some { cls:=.type "list",data:=.seq its.toArray n }/\xs.length<=sizeLine:=by
 obtain ⟨z,its,n,r,e⟩:=I.hok p _ h
 exact ⟨its,n,r,e,z⟩
theorem Inv.lstUpd {ys:List V}{its:List Value}{n':Nat}{f:Obj->Obj}(I:Inv X pins U H s)(h:H p=some (.lst xs))(ho:s.heap.get? p=some { cls:=.type "list",data:=.seq its.toArray n })(hf:f { cls:=.type "list",data:=.seq its.toArray n }={ cls:=.type "list",data:=.seq its'.toArray n' })(r:Vals ys its')(hz:ys.length<=sizeLine)(t:Nat):
  Inv X pins U (upd H p (.lst ys)) { s with heap:=s.heap.update p f,toks:=t }:=by
 have e:(s.heap.update p f).get? p=some { cls:=.type "list",data:=.seq its'.toArray n' }:=by
  rw [Dr f ho (by rw [hf] <;> rfl),hf]
 refine I.write (x:=p) (e:=p) (by rw [h];trivial) (.inl rfl) (fun b u hb q=>(Dg _ _ (EF hb)).trans q) ⟨_,e⟩ ?_
 exact ⟨hz,its',n',r,e⟩
def y2:V->V->V->Hp->(Hp->Prop)->Prop:=fun o i v H Q=>∃ p xs k j,o=.ref p/\i=.int k/\H p=some (.lst xs)/\ixN xs.length k=some j/\Q (upd H p (.lst (xs.set j v)))
theorem bh:yQ X y2:=by
 intro pins s U H o i v ov iv u Q I ro ri rv h
 obtain ⟨p,xs,k,j,rfl,rfl,hp,hj,q⟩:=h
 cases ro
 obtain ⟨t,rfl⟩:=ri
 obtain ⟨its,n,r,ho,hz⟩:=I.lst hp
 obtain ⟨h1,h2,h3,h4⟩:=pd hj
 have hl:=r.length
 have hn:=fM
 have I':Inv X pins U (upd H p (.lst (xs.set j v))) { s with heap:=s.heap.update p (Obj.mapSeq (·.setIfInBounds j u)) } :=
  I.lstUpd hp ho (mw its n j u) (r.set rv j) (by rw [Cq];exact hz) s.toks
 by_cases h0:0<=k
 .have hk:k.toNat=j:=by
   rw [seqIndex_of h0 h4] at h1
   exact Be h1
  exact W.ki_setAt ho h0 Am (by rw [AI,<-hl];exact h4) (by rw [hk];exact ⟨_,I',q⟩)
 have hk:(k+(its.toArray.size:Int)).toNat=j:=by
  rw [seqIndex_neg Am h3] at h1
  rw [AI,<-hl]
  exact Be h1
 exact W.ki_setBack ho Am (by rw [AI,<-hl];exact h3) Am (by rw [hk];exact ⟨_,I',q⟩)
theorem jx (lo hi:Option Int)(n:Nat):(sliceBounds lo hi none n).1=((HT.sIx n 0 lo:Nat):Int)/\(sliceBounds lo hi none n).2.1=((HT.sIx n n hi:Nat):Int)/\(sliceBounds lo hi none n).2.2=1:=by
 refine ⟨?_,?_,rfl⟩
 .cases lo with
  | none=>simp [sliceBounds,HT.sIx]
  | some i =>
   simp only [sliceBounds,HT.sIx,Option.getD_none,show (1:Int)>0 by decide,CL]
   by_cases h:i<0
   .simp only [h,CL] <;> lia
   .simp only [h,Bo] <;> lia
 cases hi with
 | none=>simp [sliceBounds,HT.sIx]
 | some i =>
  simp only [sliceBounds,HT.sIx,Option.getD_none,show (1:Int)>0 by decide,CL]
  by_cases h:i<0
  .simp only [h,CL] <;> lia
  .simp only [h,Bo] <;> lia
theorem i4 (its:List Value)(lo hi:Option Int):slicePick its.toArray lo hi none=((its.drop (HT.sIx its.length 0 lo)).take (HT.sIx its.length its.length hi-HT.sIx its.length 0 lo)).toArray:=by
 obtain ⟨h1,h2,h3⟩:=jx lo hi its.toArray.size
 unfold slicePick
 rw [h1,h2,h3]
 simp only [sliceRange_one,pick_run,AI] <;> rfl
def zQ (K:W.Frag):V->Option Int->Option Int->Hp->VK->Prop:=fun x lo hi H Q=>∃ a xs,x=.ref a/\SqL K H a xs/\∀p,H p=none->Q (.ref p) (upd H p (.lst (c7 xs lo hi)))
theorem jW:SlR X (zQ X.K):=by
 intro pins s U H x v vl vu lo hi sl Q I rx hs pl pu h
 obtain ⟨a,xs,rfl,hx,q⟩:=h
 cases rx
 obtain ⟨its,r,ht,hz⟩:=I.list hx
 have hlen:=r.length
 refine ⟨"list",_,slot_list_getitem.lookup,ht.isList.typeIs,?_⟩
 refine wpAny_getItem_list_slice ht.isList hs pl pu .none An ?_ (by rw [AI] <;> lia)
 rw [i4,<-hlen]
 refine ⟨.ref s.heap.objs.size,_,I.laid (t':=s.toks) (o:=.lst (c7 xs lo hi)) (fun b ob q=>Ap _ q) (Av _) ?_,rfl,q _ (I.hok.fresh (Av _))⟩
 exact ⟨AV (f8 xs lo hi) hz,_,0,(r.drop (HT.sIx xs.length 0 lo)).take (HT.sIx xs.length xs.length hi-HT.sIx xs.length 0 lo),AF _ rfl⟩
theorem aG:cf X (.builtin "len") (fun xs H Q=>∃ p ys,xs=[.ref p]/\(SqL X.K H p ys∨SqT X.K H p ys)/\Q (.int ys.length) H):=by
 intro pins s U H xs us Q I r h
 obtain ⟨p,ys,rfl,hq,q⟩:=h
 obtain ⟨u,rfl,rx⟩:=c9 r
 cases rx
 have hn:=fM
 rcases hq with hq | hq
 .obtain ⟨its,r',pl,hz⟩:=I.list hq
  have hlen:=r'.length
  exact Calls.call_len_list pl.isList (by simp only [AI] <;> lia) ⟨.int ys.length,H,I.tok _,⟨s.toks+1,by rw [AI,hlen]⟩,q⟩
 obtain ⟨its,r',pl,hz⟩:=I.tuple hq
 have hlen:=r'.length
 exact len_tuple pl (by simp only [AI] <;> lia) ⟨.int ys.length,H,I.tok _,⟨s.toks+1,by rw [AI,hlen]⟩,q⟩
theorem jP:cf X (.builtin "len") (fun xs H Q=>∃ z,xs=[.str z]/\z.length<=sizeLine/\Q (.int z.length) H):=by
 intro pins s U H xs us Q I r h
 obtain ⟨z,rfl,hz,q⟩:=h
 obtain ⟨u,rfl,t,rfl⟩:=c9 r
 have hn:=fM
 exact len_str Am ⟨.int z.length,H,I.tok _,⟨_,rfl⟩,q⟩
theorem b9:cf X (.type "tuple") (fun xs H Q=>∃ p ys,xs=[.ref p]/\((SqL X.K H p ys/\∀l,H l=none->Q (.ref l) (upd H l (.tup ys)))∨(SqT X.K H p ys/\Q (.ref p) H))):=by
 intro pins s U H xs us Q I r h
 obtain ⟨p,ys,rfl,h⟩:=h
 obtain ⟨u,rfl,rx⟩:=c9 r
 cases rx
 rcases h with ⟨hq,q⟩ | ⟨hq,q⟩
 .obtain ⟨its,r',pl,hz⟩:=I.list hq
  have hlen:=r'.length
  refine call_tuple_list pl.isList (fun h' kp=>?_) (by simp only [AI] <;> lia)
  have I1:Inv X pins U H { s with heap:=h' }:=I.kept (t':=s.toks) kp
  have I2:Inv X pins U (upd H h'.objs.size (.tup ys)) { s with heap:=h'.push { cls:=.type "tuple",data:=.seq its.toArray } } :=
   I1.laid (t':=s.toks) (fun b o e=>Ap _ e) (Av _) (show ObjOk X.prog X.w _ _ _ (.tup ys) from ⟨hz,its,r',IsTup.new _ _⟩)
  exact ⟨.ref h'.objs.size,_,I2,rfl,q _ (I1.hok.fresh (Av _))⟩
 obtain ⟨its,r',pl,hz⟩:=I.tuple hq
 exact call_tuple_same pl ⟨.ref p,H,I,rfl,q⟩
def tyV (K:W.Frag)(T:String)(x:V)(H:Hp):Prop:=match x with
 | .str _=>T="str"
 | .int _=>T="int"
 | .ref p=>(T="list"/\∃ xs,SqL K H p xs)∨(T="tuple"/\∃ o,K.lookup p=some o/\o.cls=.type "tuple"/\o.dict=none) ∨
   (T="dict"/\((∃ kvs,H p=some (.dK kvs))∨∃ kvs,H p=some (.dT kvs)))∨(T="set"/\∃ S n,H p=some (.set S n))
 | _=>False
theorem uq {T:String}{x:V}{v:Value}(I:Inv X pins U H s)(r:RelV x v)(ty:tyV X.K T x H):
  s.TypeIs v T/\∀a,v=.ref a->∃ ob,s.heap.get? a=some ob/\ob.dict=none:=by
 cases x with
 | str z =>
  obtain ⟨t,rfl⟩:=r
  cases (show T="str" from ty)
  exact ⟨E1 s z t,fun _ e=>nomatch e⟩
 | int i =>
  obtain ⟨t,rfl⟩:=r
  cases (show T="int" from ty)
  exact ⟨typeIs_int s i t,fun _ e=>nomatch e⟩
 | ref p =>
  cases r
  rcases ty with ⟨rfl,xs,hq⟩ | ⟨rfl,o,hk,hc,hd⟩ | ⟨rfl,hk⟩ | ⟨rfl,S,n,hk⟩
  .obtain ⟨its,_,pl,_⟩:=I.list hq
   refine ⟨pl.isList.typeIs,fun a e=>?_⟩
   cases e
   obtain ⟨o,n,e,c,hd,_⟩:=pl
   exact ⟨o,e,hd⟩
  .refine ⟨⟨o,I.kIn p o hk,hc⟩,fun a e=>?_⟩
   cases e
   exact ⟨o,I.kIn _ o hk,hd⟩
  .have z:∃ o,s.heap.get? p=some o/\o.ExactDict:=by
    rcases hk with ⟨kvs,hk⟩ | ⟨kvs,hk⟩
    .obtain ⟨_,_,_,_,o,_,_,e,ex,_⟩:=I.hok p _ hk
     exact ⟨o,e,ex⟩
    .obtain ⟨_,_,_,_,o,_,_,e,ex,_⟩:=I.hok p _ hk
     exact ⟨o,e,ex⟩
   obtain ⟨o,e,ex⟩:=z
   refine ⟨⟨o,e,ex.1⟩,fun a e2=>?_⟩
   cases e2
   exact ⟨o,e,ex.2.1⟩
  .obtain ⟨o,_,_,_,e,ex,_⟩:=I.hok p _ hk
   refine ⟨⟨o,e,ex.1⟩,fun a e2=>?_⟩
   cases e2
   exact ⟨o,e,ex.2.1⟩
 | _=>exact False.elim ty
def Ad (K:W.Frag)(T:String)(r:V->List V->Hp->VK->Prop)(to:TE):TE:=fun U H Q=>to U H fun x H1=>tyV K T x H1/\r x [] H1 Q
def tBM (K:W.Frag)(T:String)(r:V->List V->Hp->VK->Prop)(to:TE)(t:TA):TE:=fun U H Q=>to U H fun x H1=>tyV K T x H1/\t U H1 fun xs H2=>r x xs H2 Q
variable {o e:Expr}{es:List Expr}{to:TE}{t:TA}{name:Str}{apos cpos:Pos}{T id:String}{r:V->List V->Hp->VK->Prop}
theorem wF (pa:PlainAttrs T)(slot:Slot T name id)(hty:typeOf (.builtin id)=pure (.type "method_descriptor"))(hm:MtR X id r)(ho:PE X o to)(ha:PA X (e::es) t)(hbase:attributeBase o name X.env (eval o X.env)=eval o X.env:=by rfl)(hfew:((backTo cpos (starEach (e::es) X.env)).all (fun x=>!x.1)&&(backToKw cpos (keywordEach [] X.env)).all (fun x=>x.1.isSome)
   && decide ((e::es).length+([]:List Keyword).length+(if ([]:List Keyword).isEmpty then 0 else 1)<30))=true:=by rfl)(hline:(apos.endLine == cpos.line)=true:=by rfl)(hs:starEach (e::es) X.env=(false,eval e X.env)::starEach es X.env:=by rfl)(hplain:(backTo cpos (starEach es X.env)).any (·.1)=false:=by rfl):
  PE X (.Call (.Attribute o name apos) (e::es) [] cpos) (tBM X.K T r to t):=by
 intro pins s U H Q I h
 refine wpAny_Call_method_late hbase hfew hline rfl (thn (ho pins s U H _ I h) fun v s1 zz=>?_)
 obtain ⟨x,H1,I1,r1,ty,q1⟩:=zz
 obtain ⟨h1,h2⟩:=uq I1 r1 ty
 refine ⟨T,id,pa,slot,hty,h1,h2,?_⟩
 have hA:=ha cpos pins s1 U H1 _ I1 q1
 rw [hs] at hA ⊢
 refine Dh (by show (false || (backTo cpos (starEach es X.env)).any (·.1))=false;rw [hplain] <;> rfl) (Ex ?_)
 exact thn hA fun us s2 ⟨vs,H2,I2,r2,q2⟩=>hm pins s2 U H2 x vs v us Q I2 r1 r2 q2
end
def MtM (X:Cx)(id:String)(r:V->List V->Hp->VK->Prop):Prop :=
 ∀(pins:List (Addr×Obj)) (s:Shared) (U:St) (H:Hp) (x:V) (xs:List V) (v:Value) (us:List Value) (Q:VK),Inv X pins U H s->RelV x v->Vals xs us->r x xs H Q ->
  wpAny (model X.prog X.w) X.A (call (.builtin id) (v::us)) (EP X pins U Q) X.xe s
theorem Vals.one:∀{x:V} {us:List Value},Vals [x] us->∃ u,us=[u]/\RelV x u
 | _,_,.cons r .nil=>⟨_,rfl,r⟩
theorem Vals.zero:∀{us:List Value},Vals [] us->us=[]
 | _,.nil=>rfl
theorem Vals.dropLast (h:Vals xs us):Vals xs.dropLast us.dropLast:=by
 induction h with
 | nil=>exact .nil
 | cons r t ih =>
  cases t with
  | nil=>exact .nil
  | cons q t'=>exact .cons r ih
theorem Vals.eraseIdx:∀{xs:List V} {us:List Value} (i:Nat),Vals xs us->Vals (xs.eraseIdx i) (us.eraseIdx i)
 | _,_,_,.nil=>.nil
 | _,_,0,.cons _ t=>t
 | _,_,i+1,.cons r t=>.cons r (Vals.eraseIdx i t)
theorem mW {α:Type}(l:List α):l.eraseIdx (l.length-1)=l.dropLast:=by
 induction l with
 | nil=>rfl
 | cons a r ih =>
  cases r with
  | nil=>rfl
  | cons b r =>
   have e:(a::b::r).length-1=((b::r).length-1)+1:=by
    have h1:(a::b::r).length=r.length+2:=rfl
    have h2:(b::r).length=r.length+1:=rfl
    lia
   rw [e,List.eraseIdx_cons_succ,ih]
   all_goals rfl
theorem jr {α:Type}:∀(l:List α) (i:Nat),(l.eraseIdx i).length<=l.length
 | [],_=>Av _
 | _::_,0=>BX _
 | _::r,i+1=>Ew (jr r i)
section
variable {X:Cx}{pins:List (Addr×Obj)}{U:St}{H:Hp}{s:Shared}{l b:Addr}{xs ys zs:List V}
theorem Inv.lset {its:List Value}{f:Array Value->Array Value}{t':Nat}(I:Inv X pins U H s)(hH:H l=some (.lst xs))(e:s.heap.get? l=some { cls:=.type "list",data:=.seq its.toArray n })(hf:f its.toArray=its'.toArray)(hv:Vals ys its')(hz:ys.length<=sizeLine):
  Inv X pins U (upd H l (.lst ys)) { s with heap:=s.heap.update l (Obj.mapSeq f),toks:=t' }:=by
 have q:=PySem.IsL.update e f
 rw [hf] at q
 refine I.write (x:=l) (e:=l) (by rw [hH];exact trivial) (.inl rfl) (fun b' u hb hu=>(Dg s.heap (Obj.mapSeq f) (EF hb)).trans hu) ⟨_,q⟩ ?_
 exact ⟨hz,its',_,hv,q⟩
theorem Inv.lnew {its:List Value}{t':Nat}(I:Inv X pins U H s)(hv:Vals ys its)(hz:ys.length<=sizeLine):
  Inv X pins U (upd H s.heap.objs.size (.lst ys)) { s with heap:=s.heap.push { cls:=.type "list",data:=.seq its.toArray },toks:=t' } :=
 I.laid (fun _ _ q=>Ap _ q) (Av _) ⟨hz,its,0,hv,AF _ rfl⟩
theorem Inv.fresh (I:Inv X pins U H s):H s.heap.objs.size=none:=I.hok.fresh (Av _)
theorem Inv.lstM (I:Inv X pins U H s)(hH:H l=some (.lst xs)):xs.length<=sizeLine/\∃ (its:List Value) (n:Nat),Vals xs its/\xs.length=its.length/\s.heap.get? l=some { cls:=.type "list",data:=.seq its.toArray n }:=by
 obtain ⟨z,its,n,r,e⟩:=I.hok l _ hH
 exact ⟨z,its,n,r,r.length,e⟩
end
section
variable {X:Cx}
def uQ:V->List V->Hp->VK->Prop:=fun x vs H Q=>∃ l xs y,x=.ref l/\vs=[y]/\H l=some (.lst xs)/\xs.length<sizeLine/\Q .non (upd H l (.lst (xs++[y])))
theorem aW:MtM X "list.append" uQ:=by
 intro pins s U H x vs v us Q I rx rv h
 obtain ⟨l,xs,y,rfl,rfl,hH,hz,q⟩:=h
 cases rx
 obtain ⟨u,rfl,ru⟩:=rv.one
 obtain ⟨z,its,n,r,hl,e⟩:=I.lstM hH
 refine FB F.slot_list_append ⟨_,e,rfl⟩ F.entry_list_append (F.args_list_append_2 _ _) (PySem.list_append l its.toArray n u (by rw [AI];lia)) ⟨e,?_⟩
 refine ⟨.non,_,I.lset (its':=its++[u]) hH e An (r.append (.cons ru .nil)) ?_,rfl,q⟩
 rw [As,List.length_singleton]
 lia
def zT:V->List V->Hp->VK->Prop:=fun x vs H Q=>∃ l xs y,x=.ref l/\vs=[]/\H l=some (.lst xs)/\xs[xs.length-1]?=some y/\Q y (upd H l (.lst xs.dropLast))
theorem sV:MtM X "list.pop" zT:=by
 intro pins s U H x vs v us Q I rx rv h
 obtain ⟨l,xs,y,rfl,rfl,hH,hy,q⟩:=h
 cases rx
 have hus:=rv.zero
 subst hus
 obtain ⟨z,its,n,r,hl,e⟩:=I.lstM hH
 obtain ⟨u,hu,ru⟩:=r.get hy
 have hy':its.toArray[its.toArray.size-1]?=some u:=by
  show its.toArray[its.length-1]?=some u
  rw [<-Cr,<-hl]
  exact hu
 refine FB F.slot_list_pop ⟨_,e,rfl⟩ F.entry_list_pop (F.args_list_pop_1 _) (MeetsSeq.list_pop_last l its.toArray n u hy' (by rw [AI];lia)) ⟨e,?_⟩
 refine ⟨y,_,I.lset (its':=its.dropLast) hH e ?_ r.dropLast ?_,ru,q⟩
 .show its.toArray.eraseIdxIfInBounds (its.toArray.size-1)=its.dropLast.toArray
  rw [AI,Ef,mW]
 rw [B8]
 lia
def xN:V->List V->Hp->VK->Prop:=fun x vs H Q=>∃ l xs i k y,x=.ref l/\vs=[.int i]/\H l=some (.lst xs)/\-(2 ^ 63)<=i/\i<2 ^ 63/\seqIndex? i xs.length=some k/\xs[k]?=some y/\Q y (upd H l (.lst (xs.eraseIdx k)))
theorem uy:MtM X "list.pop" xN:=by
 intro pins s U H x vs v us Q I rx rv h
 obtain ⟨l,xs,i,k,y,rfl,rfl,hH,h1,h2,hk,hy,q⟩:=h
 cases rx
 obtain ⟨u,rfl,ru⟩:=rv.one
 obtain ⟨t,rfl⟩:=ru
 obtain ⟨z,its,n,r,hl,e⟩:=I.lstM hH
 obtain ⟨w,hw,rw'⟩:=r.get hy
 refine FB F.slot_list_pop ⟨_,e,rfl⟩ F.entry_list_pop (F.args_list_pop_2 _ _)
  (MeetsSeq.list_pop_at l its.toArray n i t k w (fitsIndex_both h1 h2) (by rw [AI,<-hl];exact hk) (by rw [<-Cr];exact hw) (by rw [AI];lia)) ⟨e,?_⟩
 refine ⟨y,_,I.lset (its':=its.eraseIdx k) hH e ?_ (r.eraseIdx k) ?_,rw',q⟩
 .show its.toArray.eraseIdxIfInBounds k=(its.eraseIdx k).toArray
  rw [Ef]
 have:=jr xs k
 lia
def zL:R2:=fun x y H Q=>∃ l b xs zs,x=.ref l/\y=.ref b/\H l=some (.lst xs)/\H b=some (.lst zs)/\xs.length+zs.length<=sizeLine/\∀p,H p=none->Q (.ref p) (upd H p (.lst (xs++zs)))
theorem xS:OpR X (binaryOp .Add) zL:=by
 intro pins s U H x y v u Q I rx ry h
 obtain ⟨l,b,xs,zs,rfl,rfl,hH,hB,hz,q⟩:=h
 cases rx
 cases ry
 obtain ⟨z,its,n,r,hl,e⟩:=I.lstM hH
 obtain ⟨z2,its2,n2,r2,hl2,e2⟩:=I.lstM hB
 refine PySem.P.add_list e e2 ?_ (by rw [AI,AI];lia)
 have ea:its.toArray++its2.toArray=(its++its2).toArray:=by simp
 rw [ea]
 exact ⟨.ref _,_,I.lnew (t':=s.toks) (r.append r2) (by rw [As];lia),rfl,q _ I.fresh⟩
end
end L2
namespace Att
open PySem PySem.W PySem.Calls PyProof.Rows
theorem gk {P:Params}:∀(ns:List Int) (vs:List Value),WellAll P h vs (ns.map WData.int)->IntsAre vs ns:=by
 intro ns
 induction ns with
 | nil =>
  intro vs w
  rw [CP] at w
  cases w
  exact .nil
 | cons n ns ih =>
  intro vs w
  rw [AN] at w
  cases w with
  | cons a b =>
   cases a
   exact .cons _ _ (ih _ b)
theorem qx {l:OpenLaw}(hn:l.most=some n){P:Params}{args:List WData}{vals:List Value}(hpre:l.row.toRowW.claim.pre args=true)(hwl:WellAll P h vals args):
  ∃ a vs ns,vals=[Value.ref a]/\args=[WData.list (ns.map WData.int)]/\h.get? a=some { cls:=.type "list",data:=.seq vs.toArray }/\IntsAre vs ns/\ns.length<=n:=by
 have hsh:WShape.hasAll [] args [.list .int]=true:=(pre_splitW hpre).1
 have hc:l.pre.holds [] { args:=args }=true:=(pre_splitW hpre).2
 obtain ⟨d,r,rfl,h1,h2⟩:=hasAllW_cons hsh
 obtain rfl:=hasAllW_nil h2
 obtain ⟨xs,rfl,h3⟩:=hasW_list h1
 obtain ⟨ns,rfl⟩:=items_int h3
 have hlen:ns.length<=n:=by
  unfold OpenLaw.pre at hc
  have h4:(WTm.not (.lt (.lit (.int (n:Int))) (.len (.arg 0)))).holds [] { args:=[.list (ns.map .int)] }=true:=by
   have h4:=(holds_andW hc).1
   rw [hn] at h4
   exact h4
  have h5:=condW_of h4 (w_not (w_lt w_lit (w_len_list (w_arg rfl))))
  rw [Ar] at h5
  refine Nat.le_of_not_lt fun q=>?_
  have q':(n:Int)<((ns.length:Nat):Int):=by lia
  first
   | (rw [AO q'] at h5;exact absurd h5 Ak)
   | (simp at h5;lia)
 cases hwl with
 | cons w1 w2 =>
  cases w2
  cases w1 with
  | list ho hall=>exact ⟨_,_,ns,rfl,rfl,ho,gk ns _ hall,hlen⟩
theorem qb (l:OpenLaw)(args:List WData):l.row.toRowW.claim.post args (.bool true) args=true :=
 postW_of (r:=l.row.toRowW) (X:=(true == true))
  (show WShape.has [] (.bool true) .bool=true by first | rfl | decide | simp [WShape.has,WShape.arms,WShape.armsAll])
  (show (WTm.eq .res (.lit (.bool true))).value [] { args:=args,res:=some (.bool true),after:=args }=some (.bool (true == true)) from w_eq_bool (w_res rfl) w_lit) rfl
theorem attach_call {l:OpenLaw}{XP:(Str->Option Value)->Heap->Prop}{d:DefRec}(hn:l.most=some n)(hdf:d.params.defaults=[])(call:∀(w:World) (s₀ s₁:Shared) (mg mb:Str->Option Value) (fa:Addr) (o:Obj) (pm cd doc:Value) (a:Addr) (vs:List Value) (ns:List Int),
   Ground q loose [] XP w s₀ mg mb s₁.heap->YP w s₁.heap ->
   s₁.heap.get? fa=some o->o.data=.func (docDef d.name d.params d.body d.scope pm cd doc)->s₁.heap.CodeRec cd d.name->mg d.name=some (.ref fa) ->
   s₁.heap.get? a=some { cls:=.type "list",data:=.seq vs.toArray }->IntsAre vs ns->ns.length<=n->s₁.gens=#[] ->
   codeAny (model l.prog w) callerA (.call (.ref fa) ⟨[.ref a],[]⟩) (fun r s'=>r=.ok (.ret (.bool true))/\OldK s₁.heap s'.heap/\s'.os=s₁.os/\AllBare s'.gens) s₁):
  WalkO q loose XP YP l.row.toRowW d [] (fun f vs=>PySem.call f vs):=by
 intro w s₀ s₁ mg mb G Y fa o pm cd doc dV kV ho hd hcd hD hmg hg args vals as hpre hlay hrd hwl hlo
 obtain rfl:dV=.none:=Dflts.none hD hdf
 obtain rfl:kV=.none:=Dflts.noKw hD
 obtain ⟨a,vs,ns,rfl,rfl,hobj,hints,hlen⟩:=qx hn hpre hwl
 refine enter_call (C7 (call w s₀ s₁ mg mb fa o pm cd doc a vs ns G Y ho (fd_plain hd) hcd hmg hobj hints hlen hg) fun r s' hq=>?_)
 obtain ⟨rfl,h2,h3,h4⟩:=hq
 exact ⟨.inl ⟨.bool true,.bool true,[],rfl,fun _=>rfl,.bool true,qb l _,fun _=>⟨List.Pairwise.nil,fun _ hm=>(nomatch hm)⟩⟩,h2,h3,h4⟩
section
variable {prog:Program}{w:World}{A:Around}{E:Value->Shared->Prop}{s:Shared}{K:Frag}
def ledger (h:Heap)(L d:Addr):List (Addr×Obj):=(List.range h.objs.size).filterMap fun a=>if a=L∨a=d then none else (h.get? a).map fun o=>(a,o)
end
end Att
namespace L2
open PySem PySem.Spec PyProof.Rows
theorem jd:∀{vs:List Value} {ns:List Int},IntsAre vs ns->Vals (ns.map V.int) vs
 | _,_,.nil=>.nil
 | _,_,.cons n t h=>.cons ⟨t,rfl⟩ (jd h)
def yt (H:Hp):Prop:=∀b,H b=none∨∃ o xs,H b=some (.frz o (.lst xs))
theorem tX {P:Program}{mb:Str->Option Value}{CX:CXT}{k:Nat}{s₁:Shared}{ns:List Int}(KX:K.In s₁.heap)(hns:s₁.heap.Ns mainGlobals mg)(hb:s₁.heap.Ns builtinsNs mb)(hbb:∀x:Str,x≠"__name__"->mb x=bootBuiltins x)(hlim:s₁.heap.NoLimit)(hg:s₁.gens=#[])(ha:s₁.heap.get? a=some { cls:=.type "list",data:=.seq vs.toArray })(hi:IntsAre vs ns)(hl:ns.length<=sizeLine)(hr:Room k callerA)(F:∀base:Heap,K.In base->base.Ns mainGlobals mg->aB P w K mg base CX k fa fd [x] sp)(hbind:∀(s:Shared) (u:Value),BindsTo s fd ⟨[u],[]⟩ [(x,u)])(hsp:∀H:Hp,yt H->SqL K H a (ns.map V.int)->sp [.ref a] H (fun v _=>v=.bl true) fun _ _ _=>False)(hCX:∀H e s',CX [] H s₁ (fun _ _ _=>False) e s'->False):
  codeAny (model P w) callerA (.call (.ref fa) ⟨[.ref a],[]⟩) (fun r s'=>r=.ok (.ret (.bool true))/\OldK s₁.heap s'.heap/\s'.os=s₁.os/\AllBare s'.gens) s₁:=by
 have rv:=jd hi
 have lenV:=hi.length
 have core:∀H:Hp,yt H->SqL K H a (ns.map V.int)->HOk P w H s₁.heap->(∀b,H b≠none->b=a)->(H a≠none->K.lookup a=none) ->
   codeAny (model P w) callerA (.call (.ref fa) ⟨[.ref a],[]⟩) (fun r s'=>r=.ok (.ret (.bool true))/\OldK s₁.heap s'.heap/\s'.os=s₁.os/\AllBare s'.gens) s₁:=by
  intro H hO hS hok hA hK
  have base_of:∀{b:Addr} {o:Obj},s₁.heap.get? b=some o->H b=none->(jV s₁.heap H).get? b=some o:=fun e n=>tQ e n
  have noA:∀{b:Addr} {o:Obj} {es:Array DictEntry} {ep:Nat},s₁.heap.get? b=some o->o.data=.dict es ep->H b=none:=fun {b o es ep} e d=>by
   cases q:H b with
   | none=>rfl
   | some u =>
    have e':b=a:=hA b (by rw [q];simp)
    subst e'
    rw [ha] at e;cases e
    have d':Data.seq vs.toArray _=Data.dict es ep:=d
    cases d'
  have nsK:∀{b:Addr} {m:Str->Option Value},s₁.heap.Ns b m->(jV s₁.heap H).Ns b m:=fun {b m} ⟨o,es,ep,e,d,r⟩=>⟨o,es,ep,base_of e (noA e d),d,r⟩
  have hKb:K.In (jV s₁.heap H):=fun b o e=>base_of (KX b o e) (by
   cases q:H b with
   | none=>rfl
   | some u =>
    have e':b=a:=hA b (by rw [q];simp)
    subst e'
    rw [hK (by rw [q];simp)] at e;cases e)
  have hM:Mod K mg (jV s₁.heap H):=⟨hKb,nsK hns,⟨mb,nsK hb,hbb⟩,let ⟨mc,h1,h2⟩:=hlim;⟨mc,nsK h1,h2⟩⟩
  have e0:Env0 P w K mg (jV s₁.heap H) callerA [] s₁ H:=⟨rfl,hM,fun b o e=>vH e,FY (qc _ _),trivial,fun b hb=>absurd (show b∈([]:List Addr) from hb) An,hok,.of_eq hg⟩
  refine C7 ((F _ hKb (nsK hns)).run callerA [] s₁ H ⟨[.ref a],[]⟩ [.ref a] [.ref a] _ _ hr e0 (hbind s₁ (.ref a)) (.cons rfl .nil) (hsp H hO hS)) fun r s' h=>?_
  cases r with
  | error e=>exact (hCX H e s' h).elim
  | ok fl =>
   cases fl with
   | next=>exact False.elim h
   | brk=>exact False.elim h
   | cont=>exact False.elim h
   | ret u =>
    obtain ⟨v,H',os,bare,un,hok',r',q⟩:=h
    have q':v=.bl true:=q
    subst q'
    obtain rfl:u=Value.bool true:=r'
    refine ⟨rfl,OldK.of_keep fun b o e=>?_,os,bare⟩
    cases q:H b with
    | none=>exact un.keep b o e q (by intro z;exact absurd (show b∈([]:List Addr) from z) An) An
    | some u =>
     rcases hO b with z | ⟨ob,xs,z⟩
     .rw [q] at z;cases z
     .have z2:=un.frzs b ob _ z
      obtain ⟨e1,_⟩:=hok b _ z
      obtain ⟨e2,_⟩:=hok' b _ z2
      rw [e] at e1;cases e1
      exact e2
 cases hk:K.lookup a with
 | some o =>
  have e:=KX a o hk
  rw [ha] at e
  cases e
  refine core (fun _=>none) (fun _=>.inl rfl) (.inr ⟨_,vs.toArray,_,hk,rfl,rfl,rfl,by rw [AI,lenV];exact hl,by simpa using rv⟩) (fun b u z=>by have z':(none:Option HO)=some u:=z;cases z') (fun b z=>absurd rfl z) fun z=>absurd rfl z
 | none =>
  refine core (fun b=>if b=a then some (.frz { cls:=.type "list",data:=.seq vs.toArray } (.lst (ns.map V.int))) else none) (fun b=>?_) (.inl (.inr ⟨{ cls:=.type "list",data:=.seq vs.toArray },Az rfl⟩)) (fun b u z=>?_) (fun b z=>?_) fun _=>hk
  .by_cases hb:b=a
   .exact .inr ⟨_,_,Az hb⟩
   .exact .inl (Ay hb)
  .by_cases hb:b=a
   .have z':=(Az hb).symm.trans z
    cases z'
    subst hb
    exact ⟨ha,by rw [Ar];exact hl,vs,_,rv,ha⟩
   .have z':=(Ay hb).symm.trans z
    cases z'
  .by_cases hb:b=a
   .exact hb
   .exact absurd (Ay hb) z
theorem walk_of {l:W.OpenLaw}{k:Nat}{XP:(Str->Option Value)->Heap->Prop}{d:DefRec}{K:Params->W.Frag}{CX:World->CXT}{sp:World->Sp}(hn:l.most=some n)(hn2:n<=sizeLine)(hdf:d.params.defaults=[])(hr:Room k callerA)(hY:∀(w:World) (h:Heap),YP w h->(K w.params).In h)(F:∀(w:World) (mg:Str->Option Value) (fa:Addr) (h:Heap),(K w.params).In h->h.Ns mainGlobals mg->mg d.name=some (.ref fa) ->
   ∃ fd:FuncData,(∀(s:Shared) (u:Value),BindsTo s fd ⟨[u],[]⟩ [(x,u)]) /\
    ∀base:Heap,(K w.params).In base->base.Ns mainGlobals mg->aB l.prog w (K w.params) mg base (CX w) k fa fd [x] (sp w))(hsp:∀(w:World) (H:Hp) (a:Addr) (ns:List Int),ns.length<=n->yt H->SqL (K w.params) H a (ns.map V.int)->sp w [.ref a] H (fun v _=>v=.bl true) fun _ _ _=>False)(hCX:∀(w:World) (H:Hp) (s:Shared) (e:Value) (s':Shared),CX w [] H s (fun _ _ _=>False) e s'->False):
  W.WalkO q loose XP YP l.row.toRowW d [] (fun f vs=>PySem.call f vs):=by
 refine Att.attach_call hn hdf fun w s₀ s₁ mg mb fa o pm cd doc a vs ns G Y ho hd hcd hmg hobj hints hlen hg=>?_
 have KX:=hY w _ Y
 obtain ⟨fd,hb,hF⟩:=F w mg fa _ KX G.T.g hmg
 exact tX KX G.T.g G.T.b G.T.builtins G.T.nolimit hg hobj hints (AV hlen hn2) hr hF hb (fun H hO hS=>hsp w H a ns hlen hO hS) fun H e s'=>hCX w H s₁ e s'
def bg (s:Stmt)(j:Nat):Stmt:=match s with
 | .ClassDef _ _ _ body _ _ _ _ _ _ _=>body.getD j (.Pass ⟨0,0,0,0⟩)
 | _=>.Pass ⟨0,0,0,0⟩
def bT (s:Stmt):Arguments:=match s with
 | .FunctionDef _ a _ _ _ _ _ _ _ _=>a
 | _=>{ posonlyargs:=[],args:=[],vararg:=none,kwonlyargs:=[],kw_defaults:=[],kwarg:=none,defaults:=[] }
def bC (s:Stmt):List Stmt:=match s with
 | .FunctionDef _ _ b _ _ _ _ _ _ _=>b
 | _=>[]
def am (s:Stmt):Scope:=match s with
 | .FunctionDef _ _ _ _ _ _ sc _ _ _=>sc
 | _=>{ kind:=.function,names:=[],isGenerator:=false,isCoroutine:=false }
abbrev CX0:CXT:=fun _ _ _ _ _ _=>False
abbrev E0:XK:=fun _ _ _=>False
theorem az:cR CX0 X E0:=fun _ _ _ _ _ _ _ h=>h.elim
structure Fun (K:W.Frag)(x qual:Str)(st:Stmt)(f:Addr)(fd:FuncData):Prop where
 ex:∃ (oc:Value) (od:Option Addr) (kV doc pm:Value) (an:Option Addr) (cdv ct:Value) (osl:Array (Option Value)),
  fd=W.fnOf x qual (bT st) (bC st) (am st) .none kV doc pm an cdv ct/\K.lookup f=some ⟨oc,od,.func fd,osl⟩/\W.codeIn K cdv qual=true
 kp:W.keepIn K (.ref f)=true
section
variable {P:Program}{w:World}{K:W.Frag}{mg:Str->Option Value}{base:Heap}
theorem Fun.ok {k:Nat}(F:Fun K x qual st f fd)(S:aA N ps (am st))(hbody:∀(cdv:Value) (A:Around) (outer:List Env) (s:Shared) (H:Hp) (vs:List V) (Q:VK) (E:XK),Room k (A.deeper (envOfC qual (am st) s.heap.objs.size f cdv))->sp vs H Q E ->
   ∃ t,PSs (nJ CX0 P w K mg base N qual (am st) f cdv A outer s H E).nox (bC st) t/\t { nx:=fun _ H'=>Q .non H',rt:=Q } (fE N vs) H)(len:∀vs H Q E,sp vs H Q E->vs.length=ps.length:=by intro vs H Q E h;repeat (first | (obtain ⟨rfl,_⟩:=h;rfl) | obtain ⟨_,h⟩:=h)):aB P w K mg base CX0 (k+1) f fd ps sp:=by
 obtain ⟨oc,od,kV,doc,pm,an,cdv,ct,osl,rfl,lk,hcd⟩:=F.ex
 refine zq lk hcd S len fun A outer s H vs Q E hr hsp=>?_
 obtain ⟨t,h,q⟩:=hbody cdv A outer s H vs Q E hr hsp
 exact ⟨t,h.nox,q⟩
theorem Fun.binds (F:Fun K x qual st f fd)(h:∀(kV doc pm:Value) (an:Option Addr) (cdv ct:Value) (us:List Value),us.length=ps.length->bindArgs (W.fnOf x qual (bT st) (bC st) (am st) .none kV doc pm an cdv ct) ⟨us,[]⟩=pure (ps.zip us)):Binds K fd ps []:=by
 obtain ⟨oc,od,kV,doc,pm,an,cdv,ct,osl,rfl,lk,hcd⟩:=F.ex
 exact .all (h kV doc pm an cdv ct)
theorem jJ {oc:Value}{od an:Option Addr}{kV doc pm cdv ct:Value}(l:K.lookup f=some ⟨oc,od,.func (W.fnOf x qual (bT st) (bC st) (am st) .none kV doc pm an cdv ct),osl⟩)(c:W.codeIn K cdv qual=true)(k:W.keepIn K (.ref f)=true):Fun K x qual st f (W.fnOf x qual (bT st) (bC st) (am st) .none kV doc pm an cdv ct):=⟨⟨oc,od,kV,doc,pm,an,cdv,ct,osl,rfl,l,c⟩,k⟩
end
theorem aR {k:Nat}(hr:Room k A):A.units+1<cLine:=Bj (Nat.add_le_add_left (by decide:1<=64) _) hr.units
theorem aH (h:n<=1000):n<sizeLine:=Bj h Ak
theorem gq {A:Prop}(h:B):if false=true then A else B:=by
 rw [Ay AL]
 exact h
theorem qk {A:Prop}(h:A):if true=true then A else B:=by
 rw [Az rfl]
 exact h
theorem aU {c A:Prop}[Decidable c](h1:c->A)(h2:¬ c->B):if c then A else B:=by
 by_cases h:c
 .rw [Az h]
  exact h1 h
 rw [Ay h]
 exact h2 h
def Same (H H':Hp):Prop:=∀b o,H b=some o->H' b=some o
theorem Same.trans {H1 H2:Hp}(a:Same H H1)(b:Same H1 H2):Same H H2:=fun c o h=>b c o (a c o h)
def ltV:V->V->Bool
 | .int a,.int b=>decide (a<b)
 | .str a,.str b=>decide (a.cps.toList<b.cps.toList)
 | _,_=>false
def vf:V->V->Prop
 | .int _,.int _=>True
 | .str _,.str _=>True
 | _,_=>False
def cP:List V->List V->Bool
 | [],[]=>false
 | [],_::_=>true
 | _::_,[]=>false
 | x::xs,y::ys=>if x=y then cP xs ys else ltV x y
theorem bZ (x y:V)(xs ys:List V):cP (x::xs) (y::ys)=if x=y then cP xs ys else ltV x y:=rfl
def oi:List V->List V->Prop
 | x::xs,y::ys=>vf x y/\oi xs ys
 | _,_=>True
theorem cy (a c:Str):((a == c)=true)↔a=c:=by simp
theorem cG {a c:V}{v:Value}(A:Around)(s:Shared)(h:vf a c)(ra:RelV a v)(rc:RelV c u):∃ e,SeqAt.EqAt A s v u e/\(e=true↔a=c):=by
 cases a with
 | int i =>
  cases c with
  | int j =>
   obtain ⟨t,rfl⟩:=ra
   obtain ⟨t',rfl⟩:=rc
   exact ⟨_,SeqAt.EqAt.int_int i t j t',An⟩
  | _=>exact h.elim
 | str i =>
  cases c with
  | str j =>
   obtain ⟨t,rfl⟩:=ra
   obtain ⟨t',rfl⟩:=rc
   exact ⟨_,SeqAt.EqAt.str_str i t j t',An⟩
  | _=>exact h.elim
 | _=>exact h.elim
theorem qU {a c:V}{v:Value}(A:Around)(s:Shared)(h:vf a c)(ra:RelV a v)(rc:RelV c u)(prog:Program)(w:World)(q:Q (.bool (ltV a c)) s):
  wpAny (model prog w) A (richCompare .Lt v u) Q E s:=by
 cases a with
 | int i =>
  cases c with
  | int j =>
   obtain ⟨t,rfl⟩:=ra
   obtain ⟨t',rfl⟩:=rc
   exact (PyProof.Rows.lt_int q:wpAny (model prog w) A (compareOp .Lt (.int i t) (.int j t')) Q E s)
  | _=>exact h.elim
 | str i =>
  cases c with
  | str j =>
   obtain ⟨t,rfl⟩:=ra
   obtain ⟨t',rfl⟩:=rc
   exact (PySem.P.lt_str q:wpAny (model prog w) A (compareOp .Lt (.str i t) (.str j t')) Q E s)
  | _=>exact h.elim
 | _=>exact h.elim
section
open PySem.SeqAt
open PySem.AutoSeq1 (wpAny_loadPart')
open PySem.MeetsSeq PySem.MeetsSeq2 PySem.MeetsSeq3
theorem mJ (l b:Addr)(items items2:Array Value)(n n2:Nat)(dd dd2:Option Addr)(sl sl2:Array (Option Value))(xs ys:List V)(hi:Vals xs items.toList)(hj:Vals ys items2.toList)(hf:oi xs ys):
  Meets (Builtin.«tuple.__lt__» ⟨[.ref l,.ref b],[]⟩)
   (fun _ R s=>s.heap.get? l=some { cls:=.type "tuple",dict:=dd,data:=.seq items n,slots:=sl }/\s.heap.get? b=some { cls:=.type "tuple",dict:=dd2,data:=.seq items2 n2,slots:=sl2 } /\
    R (.ok (.ret (.bool (cP xs ys)))) s) :=
 .of_wp fun prog w A R s h=>by
  obtain ⟨hp,g,d,tk,os⟩:=s;obtain ⟨hl,hb,h⟩:=h
  have f2:=AutoSeq1.sub_tuple_tuple
  have z1:items.size=xs.length:=by rw [hi.length];simp
  have z2:items2.size=ys.length:=by rw [hj.length];simp
  wp_walk using wpAny_loadPart' hl,wpAny_loadPart' hb,wpAny_forIn_list _ (fun rest b s'=>b.1=none/\s'=⟨hp,g,d,tk,os⟩/\∃ (vs ws:List Value) (xs' ys':List V),rest=vs.zip ws /\
   Vals xs' vs/\Vals ys' ws/\oi xs' ys'/\xs'.length+items2.size=ys'.length+items.size/\R (.ok (.ret (.bool (cP xs' ys')))) ⟨hp,g,d,tk,os⟩) _
  case turn =>
   rintro ⟨y,x⟩ rest b s' ⟨hb',rfl,vs,ws,xs',ys',hz,hvi,hwi,hft,hlen,hR⟩
   cases hvi with
   | nil=>rw [List.zip_nil_left] at hz;cases hz
   | @cons a v as vs' ra hvi' =>
    cases hwi with
    | nil=>rw [List.zip_nil_right] at hz;cases hz
    | @cons c u cs ws' rc hwi' =>
     rw [Dk] at hz
     injection hz with hyx hrest
     injection hyx with hy hx
     subst hy hx
     simp only [A8] at hlen
     obtain ⟨fac,fit'⟩:vf a c/\oi as cs:=hft
     obtain ⟨e,he,hiff⟩:=cG A.in1 ⟨hp,g,d,tk,os⟩ fac ra rc
     refine gV (he prog w _ _ ?_)
     cases e with
     | true =>
      have hac:=hiff.mp rfl
      have hR2:R (.ok (.ret (.bool (cP as cs)))) ⟨hp,g,d,tk,os⟩:=by
       subst hac
       rw [bZ,Az rfl] at hR;exact hR
      wp_walk
      exact ⟨rfl,rfl,_,_,_,_,hrest,hvi',hwi',fit',Am,hR2⟩
     | false =>
      have hac:¬ a=c:=fun q=>absurd (hiff.mpr q) AL
      have hR2:R (.ok (.ret (.bool (ltV a c)))) ⟨hp,g,d,tk,os⟩:=by
       rw [bZ,Ay (by intro q;exact hac q)] at hR;exact hR
      have hri:=fun E Q h=>qU (E:=E) (Q:=Q) A.in1 ⟨hp,g,d,tk,os⟩ fac ra rc prog w h
      wp_walk using hri
      exact ⟨_,rfl,by simpa using hR2⟩
  case fin =>
   rintro ⟨b1,b2⟩ s' ⟨hb',rfl,vs,ws,xs',ys',hz,hvi,hwi,hft,hlen,hR⟩
   simp only at hb'
   subst hb'
   have hv:cP xs' ys'=decide (items.size<items2.size):=by
    cases hvi with
    | nil =>
     cases hwi with
     | nil =>
      simp only [DZ] at hlen
      rw [show cP [] []=false from rfl]
      exact (AR Am).symm
     | cons ru hw =>
      simp only [DZ,A8] at hlen
      exact (AO Am).symm
    | cons ra hv =>
     cases hwi with
     | nil =>
      simp only [DZ,A8] at hlen
      exact (AR Am).symm
     | cons ru hw =>
      rw [Dk] at hz
      cases hz
   rw [hv] at hR
   wp_walk
   exact ⟨_,rfl,by simpa [Builtin.Tuple.tupleCompareSizes] using hR⟩
  case h =>
   exact ⟨rfl,rfl,items.toList,items2.toList,xs,ys,rfl,hi,hj,hf,Am,h⟩
end
def zP (K:W.Frag):R2:=fun x y H Q=>∃ a b xs ys,x=.ref a/\y=.ref b/\SqT K H a xs/\SqT K H b ys/\oi xs ys/\Q (.bl (cP xs ys)) H
theorem fH (hu:X.A.units<cLine):OpR X (compareOp .Lt) (zP X.K):=by
 intro pins s U H x y v u Q I rx ry h
 obtain ⟨a,b,xs,ys,rfl,rfl,ha,hb,hf,q⟩:=h
 cases rx
 cases ry
 obtain ⟨its,r1,p1,_⟩:=I.tuple ha
 obtain ⟨its2,r2,p2,_⟩:=I.tuple hb
 obtain ⟨⟨cls,dd,data,sl⟩,ho,hc,n,hd⟩:=id p1
 obtain ⟨⟨cls2,dd2,data2,sl2⟩,ho2,hc2,n2,hd2⟩:=id p2
 simp only at hc hd hc2 hd2
 subst hc hd hc2 hd2
 exact richCompare_meets_room (op:=.Lt) ⟨_,ho,rfl⟩ ⟨_,ho2,rfl⟩ PySem.F.slot_tuple_lt PySem.F.entry_tuple_lt (PySem.F.args_tuple_lt_2 _ _) (mJ a b _ _ n n2 dd dd2 sl sl2 xs ys r1 r2 hf)
  ⟨ho,ho2,show Value.bool (cP xs ys)≠Value.notImplemented/\EP X pins U Q (.bool (cP xs ys)) s from ⟨(fun x=>nomatch x),.bl _,H,I,rfl,q⟩⟩ hu
def intOrd:KeyOrd where
 α:=Int
 blt a b:=decide (a<b)
 irrefl a:=by simp
 trans a b c h1 h2:=by simp only [Bw] at *;lia
 negTrans a b c h:=by simp only [Bw] at *;lia
 total a b h1 h2:=by simp only [decide_eq_false_iff_not] at *;lia
def gr (l:List V):Prop:=∃ i x j,l=[.int i,.str x,.int j]
theorem wg {a b:Str}(h:a.cps.toList=b.cps.toList):a=b:=by
 cases a with | mk c=>cases b with | mk d=>congr 1;exact Array.toList_inj.mp h
theorem yf {a b:List V}(ha:gr a)(hb:gr b):oi a b:=by
 obtain ⟨i,x,j,rfl⟩:=ha
 obtain ⟨i',x',j',rfl⟩:=hb
 exact ⟨trivial,trivial,trivial,trivial⟩
section
variable {X:Cx}
theorem qR {x z:V}(r:Vals [x,y,z] us):∃ u v w,us=[u,v,w]/\RelV x u/\RelV y v/\RelV z w:=by
 cases r with
 | cons r1 r2 =>
  cases r2 with
  | cons r3 r4 =>
   cases r4 with
   | cons r5 r6=>cases r6;exact ⟨_,_,_,rfl,r1,r3,r5⟩
end
def Cx.blk (X:Cx)(scope:Scope)(cl:List (Str×Addr))(C:Addr)(NB:List Str)(fp:List Addr)(s₀:Shared)(H₀:Hp):Cx :=
 { X with N:=NB,s₀:=s₀,H₀:=H₀,env:=compEnvC scope cl C X.env,outer:=X.stack,ex:=X.ex++fp,fn:=fun _=>false,pn:=[],xe:=fun _ _=>False }
structure yW (X:Cx)(scope:Scope)(cl:List (Str×Addr))(NB:List Str)(cap:List Nat):Prop where
 clos:closureFor scope X.env=pure cl
 nocell:∀y∈scope.names,y.2≠.cell
 kind:scope.kind=.function
 names:∀y∈scope.names,y.2=.local->scope.names.lookup y.1=some .local
 cells:∀y c,cl.lookup y=some c->X.env.cells.lookup y=some c
 has:∀y,((relabel scope X.env).names.lookup y=some .cell∨(relabel scope X.env).names.lookup y=some .free)->∃ c,cl.lookup y=some c
 len:cap.length=NB.length
 cap:∀(j i:Nat),cap[j]?=some i->∃ y,NB[j]?=some y/\X.N[i]?=some y/\Vis X.env.scope y/\(X.env.kindOf y=some .cell∨X.env.kindOf y=some .free)/\((relabel scope X.env).names.lookup y=some .cell∨(relabel scope X.env).names.lookup y=some .free)
structure Blk (X:Cx)(scope:Scope)(cl:List (Str×Addr))(x:Str)(NB:List Str)(cap:List Nat):Prop where
 c:yW X scope cl NB cap
 own:scope.names.lookup x=some .local
 nd:(x::NB).Nodup
def bW (cap:List Nat)(U:St):St:=cap.map fun i=>U[i]?.join
def CW (J:It)(tt:TT)(te:TE)(cap:List Nat)(U:St)(H0:Hp)(D:Addr)(R:Hp->Prop):Prop:=∃ W:Nat->Nat->List V->Hp->Prop,(∃ m,W 0 m [] (upd H0 D (.lst [])))/\∀i m ys H,W i m ys H->H D=some (.lst ys) /\
  ((J.stop i H/\R H)∨(J.go i H/\∀x H',J.yld i H x H'->tt (some x::bW cap U) H' fun b H3 =>
   if b=true then te (some x::bW cap U) H3 fun v H4=>H4 D=some (.lst ys)/\ys.length<sizeLine/\∃ m',m'<m/\W (i+1) m' (ys++[v]) (upd H4 D (.lst (ys++[v])))
   else ∃ m',m'<m/\W (i+1) m' ys H3))
def tR (wi:TI)(tt:TT)(te:TE)(cap:List Nat):TE:=fun U H Q=>wi U H fun J H1=>∀D,H1 D=none ->
 CW J tt te cap U H1 D (fun H=>Q (.ref D) H)
def PTs (X:Cx)(ifs:List Expr)(t:TT):Prop :=
 ∀(pins:List (Addr×Obj)) (s:Shared) (U:St) (H:Hp) (Q:Bool->Hp->Prop),Inv X pins U H s->t U H Q ->
  wpAny (model X.prog X.w) X.A (forIn ifs true fun c r=>if r=true then do let ok <-isTrue c X.env (eval c X.env);pure (ForInStep.yield ok) else pure (ForInStep.yield r)) (TP X pins U Q) X.xe s
def oa:TT:=fun _ H Q=>Q true H
theorem cY {τ:St}{A B:Hp->Prop}(h:A H):oa τ H fun b H3=>if b=true then A H3 else B H3:=by show if true=true then A H else B H;rw [Az rfl];exact h
theorem j5 {R:Result->Shared->Prop}{target:Expr}{it acc:Value}(I:Nat->Shared->Prop)(turn:∀n s,I n s->wpAny (model prog w) A (pyNext it) (fun r s₁=>match r with
   | none=>R (.ok .next) s₁
   | some v=>wpAny (model prog w) A (letOwnedTupleGo target it v) (fun _ s1'=>wpAny (model prog w) A (assign target env v) (fun _ s₂ =>
     wpAny (model prog w) A (forIn ifs true fun c r=>if r=true then do let ok <-isTrue c env (eval c env);pure (ForInStep.yield ok) else pure (ForInStep.yield r)) (fun ok s₃ =>
      if ok=true then wpAny (model prog w) A (eval elt env) (fun x s₄ =>
       wpAny (model prog w) A (call (.builtin "list.append") [acc,x]) (fun _ s₅=>∃ m,m<n/\I m s₅) (fun _ _=>False) s₄) (fun _ _=>False) s₃
      else ∃ m,m<n/\I m s₃) (fun _ _=>False) s₂) (fun _ _=>False) s1') (fun _ _=>False) s₁) (fun _ _=>False) s)(n:Nat)(h:I n s):codeAny (model prog w) A (.compLoop (.ListComp elt [⟨target,iter,ifs,0⟩] scope pos) 0 it acc env) R s:=by
 refine codeAny_loop rfl I (fun n s hI=>?_) n h
 show wpAny _ A ((compTurn (.ListComp elt [⟨target,iter,ifs,0⟩] scope pos) 0 it acc env).onRaise (fun x=>do noteFrame x env;theTreesLotGoes x)) _ _ s
 refine wpAny_noted ?_
 rw [compTurn_list]
 refine gV (Ez (gV (Cn (turn n s hI) (fun r s₁ h₁=>?_) fun _ _ z=>z.elim)))
 cases r with
 | none=>exact Aq h₁
 | some v =>
  refine gV (Cn h₁ (fun _ s1' h₁'=>?_) fun _ _ z=>z.elim)
  refine gV (Cn h₁' (fun _ s₂ h₂=>gV (Cn h₂ (fun ok s₃ h₃=>?_) fun _ _ z=>z.elim)) fun _ _ z=>z.elim)
  cases ok with
  | false=>exact Aq ⟨rfl,h₃⟩
  | true =>
   exact gV (gV (Cn h₃ (fun x s₄ h₄=>gV (Cn h₄ (fun _ s₅ h₅=>Aq (Aq ⟨rfl,h₅⟩)) fun _ _ z=>z.elim)) fun _ _ z=>z.elim))
structure xq (X:Cx)(pins:List (Addr×Obj))(H:Hp)(C:Addr)(s:Shared):Prop where
 ns:∃ m,s.heap.Ns C m
 fp:kL X pins H C
theorem oN {τ:St}{v:V}(e:(ns.map (fun _=>none)++τ)[j]?=some (some v)):ns.length<=j/\τ[j-ns.length]?=some (some v):=by
 by_cases hj:j<ns.length
 .rw [AW (by rw [Ar];exact hj),AS,tx hj] at e
  cases e
 rw [AG (by rw [Ar];lia),Ar] at e
 exact ⟨Am,e⟩
theorem iK {gt:TG}{cl:List (Str×Addr)}{Q:VK}{R:Value->Shared->Prop}{A:It->Hp->Prop}(B:yW X scope cl NB cap)(hc:X.calm=true)(hex:X.ex=[])(hi:PI X tg iter wi)(hg:∀C fp s₀ H₀,PG (X.blk scope cl C (ns++NB) fp s₀ H₀) tg gt)(ht:∀C fp s₀ H₀,PTs (X.blk scope cl C (ns++NB) fp s₀ H₀) ifs tt)(he:∀C fp s₀ H₀,PE (X.blk scope cl C (ns++NB) fp s₀ H₀) elt te)(hs:∀v,foldedSetIterable iter X.env v=pure v)(I:Inv X pins U H s)(h:wi U H A)(hA:∀J H1,A J H1->∀D,H1 D=none->∃ W:Nat->Nat->List V->Hp->Prop,(∃ m,W 0 m [] (upd H1 D (.lst [])))/\∀i m ys H,W i m ys H->H D=some (.lst ys) /\
   ((J.stop i H/\Q (.ref D) H)∨(J.go i H/\∀x H',J.yld i H x H'->gt x (ns.map (fun _=>none)++bW cap U) H' fun τ H6=>∃ pr:St,pr.length=ns.length/\τ=pr++bW cap U/\H6=H'/\tt τ H' fun b H3 =>
    if b=true then te τ H3 fun v H4=>H4 D=some (.lst ys)/\ys.length<sizeLine/\∃ m',m'<m/\W (i+1) m' (ys++[v]) (upd H4 D (.lst (ys++[v])))
    else ∃ m',m'<m/\W (i+1) m' ys H3)))(fin:∀(D C:Addr) (H':Hp) (s':Shared),Inv X pins U H' s'->xq X pins H' C s'->Q (.ref D) H'->compPost (model X.prog X.w) X.A X.xe use R (.ref D) C (.ok .next) s'):
  wpAny (model X.prog X.w) X.A (comprehension (.ListComp elt [⟨tg,iter,ifs,0⟩] scope pos) scope X.env pos' (newList []) false (eval iter X.env) use) R X.xe s:=by
 refine wpAny_comprehension_free (use:=use) rfl hs B.clos B.kind B.names (thn (hi pins s U H _ I h) fun v s1 h1=>thn h1 fun itv s2 h2=>?_)
 obtain ⟨it,fp,tn,J,H2,e,I2,T,st2,f2,h2⟩:=h2
 subst e
 refine Bv (wpAny_newFunctionEnv B.nocell (by intro y hy;simp at hy) (fun h₁ hns1 hsb1=>?_) B.kind)
 dsimp only at hns1 hsb1 ⊢
 have I3:=I2.lnew (ys:=[]) (its:=[]) (t':=s2.toks) .nil (BA _)
 have hD:=I2.fresh
 obtain ⟨W,⟨m0,w0⟩,turn⟩:=hA _ _ h2 _ hD
 generalize eD:s2.heap.objs.size=D at hD I3 W w0 turn ⊢
 generalize eH2:s2.heap.push { cls:=.type "list",dict:=none,data:=.seq ([]:List Value).toArray }=G3 at hns1 hsb1 I3 ⊢
 generalize eH3:upd H2 D (.lst [])=H3 at I3 w0
 have hC:G3.objs.size=D+1:=by rw [<-eH2,BB,eD]
 generalize eC:G3.objs.size=C at hns1 hsb1 hC ⊢
 have old:∀b o,G3.get? b=some o->h₁.get? b=some o:=fun b o e =>
  hsb1.extBut b o (by rw [<-eC];exact AJ (AA e)) (Ap _ e)
 have old2:∀b o,s2.heap.get? b=some o->G3.get? b=some o:=fun b o e=>by rw [<-eH2];exact Ap _ e
 have fpo:∀b∈fp,b<D:=fun b hb=>by
  obtain ⟨o,e,_⟩:=T.obj 0 _ st2 b hb
  rw [<-eD];exact AA e
 have fpx:∀b∈fp,b∉frs X.stack:=fun b hb z=>by
  obtain ⟨f0,f1,f2',_⟩:=f2 b hb
  rcases Aw.mp (I2.stkSub b z) with q | q
  .exact f1 q
  .exact f2' q
 let Y:Cx:=X.blk scope cl C (ns++NB) fp { s2 with heap:=G3,toks:=s2.toks } H3
 have okY:Y.Ok:=by
  refine ⟨I3.ok.mod,B.kind,I3.ok.glob,I3.ok.blt,?_,?_,B.has,?_,I3.ok.hd,I3.ok.frames,.inl rfl,?_,I3.bs,?_,?_,?_,I3.stack,I3.stkFree⟩
  .show G3.objs.size<=C
   lia
  .intro y z c e1 e2
   exact I3.ok.inj y z c (B.cells y c e1) (B.cells z c e2)
  .intro y c z
   cases z
  .intro b hb
   have hb':b∈fp:=by
    have:b∈X.ex++fp:=hb
    rw [hex] at this;simpa using this
   refine ⟨?_,fun y c e=>(f2 b hb').2.2.2.2.1 y c (B.cells y c e)⟩
   show b≠C
   exact AJ (A2 (fpo b hb') (by rw [hC];exact BX _))
  .show X.base.objs.size<=G3.objs.size
   exact AV I3.ok.bsz I3.sz
  .intro b o e hb
   have hb':b∈fp:=by
    have:b∈X.ex++fp:=hb
    rw [hex] at this;simpa using this
   rcases (f2 b hb').2.2.2.1 with z | z
   .rw [hex] at z;cases z
   .exact absurd (A2 (A2 (AA e) I3.ok.bsz) z) (CD _)
  .intro b hb
   have hb':b∈fp:=by
    have:b∈X.ex++fp:=hb
    rw [hex] at this;simpa using this
   exact fpx b hb'
 have IY:Inv Y [] (ns.map (fun _=>none)++bW cap U) H3 { s2 with heap:=h₁,toks:=s2.toks }:=by
  refine ⟨okY,rfl,I3.bare,Un.kept old,⟨_,hns1,?_⟩,?_,?_,?_,?_,I3.hok.kept old,?_⟩
  .intro j y v e1 e2 hv
   obtain ⟨lj,e2'⟩:=oN e2
   have e1':NB[j-ns.length]?=some y:=(AG lj).symm.trans e1
   generalize j-ns.length=j at e1' e2'
   .unfold bW at e2'
    rw [AS] at e2'
    cases ec:cap[j]? with
    | none=>rw [ec] at e2';cases e2'
    | some i =>
     rw [ec] at e2'
     have e3:U[i]?.join=some v:=Be e2'
     have e4:U[i]?=some (some v):=by
      cases q:U[i]? with
      | none=>rw [q] at e3;cases e3
      | some z=>rw [q] at e3;exact congrArg some e3
     obtain ⟨y',n1,n2,n3,n4,n5⟩:=B.cap j i ec
     rw [e1'] at n1
     cases n1
     obtain ⟨m,hn,hl⟩:=I3.loc
     obtain ⟨u,r,lk⟩:=hl i y v n2 e4 n3
     refine ⟨u,r,.inr ⟨n5,?_⟩⟩
     obtain ⟨c,hcl⟩:=B.has y n5
     refine ⟨c,hcl,?_⟩
     rcases lk with ⟨k1,_⟩ | ⟨_,c',ec',cell⟩
     .rcases n4 with n4 | n4 <;> (rw [n4] at k1;cases k1)
     .rw [B.cells y c hcl] at ec'
      cases ec'
      obtain ⟨o,ho,hd⟩:=cell
      exact ⟨o,old c o ho,hd⟩
  .intro y c e
   obtain ⟨v,o,ho,hd⟩:=I3.cell y c (B.cells y c e)
   exact ⟨v,o,old c o ho,hd⟩
  .exact I3.hok.fresh (show G3.objs.size<=C by lia)
  .intro y c e
   exact I3.freeC y c (B.cells y c e)
  .intro p hp
   cases hp
  .show (ns.map (fun _=>none)++bW cap U).length=(ns++NB).length
   unfold bW
   rw [As,As,Ar,Ar,B.len]
 have fpY:∀{H':Hp},(∀b∈fp,H' b=none)->∀b∈fp,kL Y [] H' b:=fun {H'} hn b hb=>by
  refine ⟨hn b hb,?_,fpx b hb,.inl ?_,fun y c e=>(f2 b hb).2.2.2.2.1 y c (B.cells y c e),fun p hp=>by cases hp⟩
  .show b≠C
   exact AJ (A2 (fpo b hb) (by rw [hC];exact BX _))
  .show b∈X.ex++fp
   exact Bi _ hb
 have st4:tn 0 h₁:=T.keep _ _ _ st2 fun b hb o e=>old b o (old2 b o e)
 have fr4:∀b∈fp,H3 b=none:=fun b hb=>by
  rw [<-eH3,ao (AJ (fpo b hb))];exact (f2 b hb).1
 have leave:∀(H':Hp) (s':Shared),Inv Y [] (ns.map (fun _=>none)++bW cap U) H' s'->Q (.ref D) H'->compPost (model X.prog X.w) X.A X.xe use R (.ref D) C (.ok .next) s':=by
  intro H' s' I' q
  obtain ⟨m,hn,_⟩:=id I'.loc
  have u:=I'.base
  have I5:Inv X pins U H' s':=by
   refine I3.call' (s':=s') (ch:=X.ex++fp) I'.os u I'.hok I'.bare fun b hb=>?_
   have hb':b∈fp:=by rw [hex] at hb;simpa using hb
   obtain ⟨f0,f1,f2',f3,f4,f5⟩:=f2 b hb'
   exact ⟨f3,f1,f4,f5⟩
  exact fin D C H' s' I5 ⟨⟨m,hn⟩,I3.fpOk (show G3.objs.size<=C by rw [eC];exact Av _) I'.free⟩ q
 have loop:∀s₄:Shared,s₄={ s2 with heap:=h₁,toks:=s2.toks } ->
   codeAny (model X.prog X.w) X.A (.compLoop (.ListComp elt [⟨tg,iter,ifs,0⟩] scope pos) 0 (.ref it) (.ref D) (compEnvC scope cl C X.env)) (compPost (model X.prog X.w) X.A X.xe use R (.ref D) C) s₄:=by
  rintro s₄ rfl
  refine j5 (fun n s'=>∃ i ys H',Inv Y [] (ns.map (fun _=>none)++bW cap U) H' s'/\tn i s'.heap/\(∀b∈fp,H' b=none)/\W i n ys H') ?_ m0 ⟨0,[],H3,IY,st4,fr4,w0⟩
  rintro n s3 ⟨i,ys,H',I',st',fr',w'⟩
  obtain ⟨hDl,tr⟩:=turn i n ys H' w'
  rcases tr with ⟨stop,q⟩ | ⟨go,step⟩
  .refine thn (T.done Y rfl rfl rfl hc i [] s3 _ H' (fun _ _=>False) I' (fpY fr') st' stop) fun r s4 ⟨hr,I4⟩=>?_
   subst hr
   exact leave H' s4 I4 q
  .refine thn (T.item Y rfl rfl rfl hc i [] s3 _ H' (fun _ _=>False) I' (fpY fr') st' go) fun r s4 zz=>?_
   obtain ⟨u,hr,h4⟩:=zz
   subst hr
   refine thn h4 fun _ s5 zz=>?_
   obtain ⟨v,H5,I5,r5,y5,st5,fr5⟩:=zz
   have I5':=I5.pinned (fpY fr5) (T.obj _ _ st5)
   have back:∀{pr:St} {H7:Hp} {s7:Shared},pr.length=ns.length->Inv Y ([]++hV fp s5.heap) (pr++bW cap U) H7 s7->Inv Y [] (ns.map (fun _=>none)++bW cap U) H7 s7/\tn (i+1) s7.heap/\∀b∈fp,H7 b=none:=fun {pr H7 s7} lp I7=>by
    refine ⟨I7.unpinned.weak (by rw [As,As,Ar,lp]) fun j z e=>?_,T.keep _ _ _ st5 fun b hb o e=>(I7.pin (b,o) (Bi _ (Bi _ (cQ hb e)))).1,fun b hb=>?_⟩
    .obtain ⟨lj,e⟩:=oN e
     rw [AG Am,lp]
     exact e
    .obtain ⟨o,e,d⟩:=T.obj _ _ st5 b hb
     exact (I7.pin (b,o) (Bi _ (Bi _ (cQ hb e)))).2.1
   refine thn (hg C fp _ _ _ s5 _ H5 v u _ I5' r5 (step v H5 y5)) fun _ s6 zz=>?_
   obtain ⟨σ6,H6,I6,pr,lp,e6,e6',step⟩:=zz
   subst e6 e6'
   refine thn (ht C fp _ _ _ s6 _ H6 _ I6 step) fun ok s7 zz=>?_
   obtain ⟨H7,I7,q7⟩:=zz
   cases ok with
   | false =>
    simp only [AE,Bo] at q7 ⊢
    obtain ⟨m',hm,w7⟩:=q7
    obtain ⟨a,b,c⟩:=back lp I7
    exact ⟨m',hm,i+1,ys,H7,a,b,c,w7⟩
   | true =>
    simp only [CL] at q7 ⊢
    refine thn (he C fp _ _ _ s7 _ H7 _ I7 q7) fun u8 s8 zz=>?_
    obtain ⟨v8,H8,I8,r8,q8⟩:=zz
    obtain ⟨d8,l8,m',hm,w8⟩:=q8
    refine thn (aW (X:=Y) _ s8 _ H8 (.ref D) [v8] (.ref D) [u8] (fun _ H9=>H9=upd H8 D (.lst (ys++[v8]))) I8 rfl (.cons r8 .nil) ⟨D,ys,v8,rfl,rfl,d8,l8,rfl⟩) fun _ s9 zz=>?_
    obtain ⟨_,H9,I9,_,e9⟩:=zz
    subst e9
    obtain ⟨a,b,c⟩:=back lp I9
    exact ⟨m',hm,i+1,ys++[v8],_,a,b,c,w8⟩
 refine codeAny_compStart_list (loop _ ?_) (T.self _ 0 _ _ _ ?_ (loop _ ?_))
 .rfl
 .exact st4
 rfl
theorem jg {cl:List (Str×Addr)}{Q:VK}{R:Value->Shared->Prop}(B:Blk X scope cl x NB cap)(hc:X.calm=true)(hex:X.ex=[])(hi:PI X (.Name x px) iter wi)(ht:∀C fp s₀ H₀,PTs (X.blk scope cl C (x::NB) fp s₀ H₀) ifs tt)(he:∀C fp s₀ H₀,PE (X.blk scope cl C (x::NB) fp s₀ H₀) elt te)(hs:∀v,foldedSetIterable iter X.env v=pure v)(I:Inv X pins U H s)(h:tR wi tt te cap U H Q)(fin:∀(D C:Addr) (H':Hp) (s':Shared),Inv X pins U H' s'->xq X pins H' C s'->Q (.ref D) H'->compPost (model X.prog X.w) X.A X.xe use R (.ref D) C (.ok .next) s'):
  wpAny (model X.prog X.w) X.A (comprehension (.ListComp elt [⟨.Name x px,iter,ifs,0⟩] scope pos) scope X.env pos' (newList []) false (eval iter X.env) use) R X.xe s:=by
 refine iK (ns:=[x]) B.c hc hex hi (fun C fp s₀ H₀=>gJ (i:=0) B.nd rfl (.inl (Cz B.own)) (.inr (Cz B.own))) ht he hs I h (fun J H1 a D hD=>?_) fin
 obtain ⟨W,w0,st⟩:=a D hD
 exact ⟨W,w0,fun i m ys H' w=>⟨(st i m ys H' w).1,(st i m ys H' w).2.imp id fun z=>⟨z.1,fun x H'' y=>⟨[some x],rfl,rfl,rfl,z.2 x H'' y⟩⟩⟩⟩
section
variable {X:Cx}
theorem iL (hu:X.A.units<cLine):OpR X (compareOp .Eq) (fun x y H Q=>∃ a b xs,x=.ref a/\y=.ref b/\SqL X.K H a xs/\SqL X.K H b []/\Q (.bl (decide (xs=[]))) H):=by
 intro pins s U H x y v u Q I rx ry h
 obtain ⟨a,b,xs,rfl,rfl,ha,hb,q⟩:=h
 cases rx
 cases ry
 obtain ⟨its,r1,p1,_⟩:=I.list ha
 obtain ⟨its2,r2,p2,_⟩:=I.list hb
 cases r2
 cases xs with
 | nil =>
  cases r1
  exact SeqAt.eq_listAt (e:=fun _=>true) p1.isList p2.isList rfl hu (fun j h1 _=>absurd h1 An) ⟨.bl true,H,I,rfl,by simpa using q⟩
 | cons z zs =>
  cases r1 with
  | cons _ _=>exact SeqAt.eq_list_lengthsAt p1.isList p2.isList An hu ⟨.bl false,H,I,rfl,by simpa using q⟩
theorem rb (hu:X.A.units<cLine):OpR X (compareOp .NotEq) (fun x y H Q=>∃ a b xs,x=.ref a/\y=.ref b/\SqL X.K H a xs/\SqL X.K H b []/\Q (.bl (!decide (xs=[]))) H):=by
 intro pins s U H x y v u Q I rx ry h
 obtain ⟨a,b,xs,rfl,rfl,ha,hb,q⟩:=h
 cases rx
 cases ry
 obtain ⟨its,r1,p1,_⟩:=I.list ha
 obtain ⟨its2,r2,p2,_⟩:=I.list hb
 cases r2
 cases xs with
 | nil =>
  cases r1
  exact SeqAt.RcNeAt.lists (e:=fun _=>true) p1.isList p2.isList rfl hu (fun j h1 _=>absurd h1 An) _ _ _ _ ⟨.bl false,H,I,rfl,by simpa using q⟩
 | cons z zs =>
  cases r1 with
  | cons _ _=>exact SeqAt.RcNeAt.lists_lengths p1.isList p2.isList An hu _ _ _ _ ⟨.bl true,H,I,rfl,by simpa using q⟩
end
def wN (_ j:Int):Prop:=0<j/\j<2 ^ 200
theorem bS:OpR X (binaryOp .FloorDiv) (rI wN fun i j=>.int (i / j)):=opI fun i j _ _ _ _ _ hc q=>by
 have h1:(0:Int)<j:=hc.1
 have h2:j<2 ^ 200:=hc.2
 rw [<-Int.fdiv_eq_ediv_of_nonneg i Am] at q
 refine floordiv_int Am q (.inl (PyProof.noPylong_of_log2 ?_))
 have h3:j.natAbs<2 ^ 200:=by lia
 have h4:j.natAbs.log2<200:=(Nat.log2_lt Am).mpr h3
 lia
structure Bl (mg:Str->Option Value):Prop where
 z_len:mg "len"=none
 z_sum:mg "sum"=none
 z_abs:mg "abs"=none
 z_range:mg "range"=none
 z_list:mg "list"=none
 z_tuple:mg "tuple"=none
 z_int:mg "int"=none
 z_bool:mg "bool"=none
 z_sorted:mg "sorted"=none
 z_isinstance:mg "isinstance"=none
structure Nm (K:W.Frag)(mg:Str->Option Value)(x:Str)(a:Addr)(fd:FuncData)(ps:List Str):Prop where
 m:mg x=some (.ref a)
 k:W.keepIn K (.ref a)=true
 b:Binds K fd ps []
theorem xC {cs:List Int}{i:Int}(h0:0<=i)(h1:i<cs.length):atI (cs.map V.int) i=some (.int (cs.getD i.toNat 0)):=by
 have h2:i.toNat<cs.length:=by lia
 have e:(cs.map V.int)[i.toNat]?=some (.int (cs.getD i.toNat 0)):=by
  rw [AS,tx h2]
  simp [List.getD,tx h2]
 have:=br e
 rwa [FN h0] at this
theorem cD {i:Int}(h0:0<=i)(h1:i<n):ixN n i=some i.toNat:=by
 unfold ixN
 rw [Az h0,Az h1]
theorem du {a b:Int}(h:0<b):0<=a % b:=Int.emod_nonneg _ Am
theorem dv {a b:Int}(h:0<b):a % b<b:=Int.emod_lt_of_pos _ h
def bq (names:List (Str×NameKind)):List Str:=(names.filter fun y=>y.2 == .free).map (·.1)
def uS (scope:Scope)(env:Env):List (Str×Addr):=(bq scope.names).reverse.map fun n=>(n,(env.cells.lookup n).getD 0)
theorem iw {g:Str->Addr}{y:Str}{c:Addr}:∀{l:List Str},(l.map fun n=>(n,g n)).lookup y=some c->y∈l/\c=g y
 | [],h=>by cases h
 | a::l,h=>by
  rw [AN,Cb] at h
  cases e:y == a with
  | true =>
   rw [e] at h
   have e':y=a:=by simpa using e
   subst e'
   exact ⟨AX,(Be h).symm⟩
  | false =>
   rw [e] at h
   obtain ⟨m,q⟩:=iw h
   exact ⟨AH _ m,q⟩
theorem dw {g:Str->Addr}{y:Str}:∀{l:List Str},y∈l->(l.map fun n=>(n,g n)).lookup y=some (g y)
 | [],h=>by cases h
 | a::l,h=>by
  rw [AN,Cb]
  cases e:y == a with
  | true =>
   have e':y=a:=by simpa using e
   subst e'
   rfl
  | false =>
   rcases Aw.mp h with z | z
   .subst z;simp at e
   .exact dw z
theorem eA (env:Env):∀(names:List (Str×NameKind)) (acc:List (Str×Addr)),(∀n∈bq names,∃ c,env.cells.lookup n=some c) ->
  (forIn names acc fun y cs=>if (y.2 == NameKind.free)=true then (do let c <-cellOf env y.1;pure (ForInStep.yield ((y.1,c)::cs))) else pure (ForInStep.yield cs):Sem (List (Str×Addr))) =
   pure ((bq names).reverse.map (fun n=>(n,(env.cells.lookup n).getD 0))++acc)
 | [],acc,_=>by rw [DJ];rfl
 | (n,k)::r,acc,h=>by
  rw [CY]
  cases e:k == NameKind.free with
  | true =>
   have hn:bq ((n,k)::r)=n::bq r:=by unfold bq;rw [List.filter_cons_of_pos (by simpa using e)];rfl
   rw [hn] at h ⊢
   obtain ⟨c,hc⟩:=h n AX
   simp only [e,CL]
   have h2:cellOf env n=pure c:=by unfold cellOf;rw [hc]
   rw [h2]
   have ih:=eA env r ((n,c)::acc) fun m hm=>h m (AH _ hm)
   show (forIn r ((n,c)::acc) _:Sem (List (Str×Addr)))=_
   rw [ih,List.reverse_cons,A1,AB]
   rw [AN,CP,hc]
   rfl
  | false =>
   have hn:bq ((n,k)::r)=bq r:=by unfold bq;rw [List.filter_cons_of_neg (by simpa using e)]
   rw [hn] at h ⊢
   simp only [e,AE,Bo]
   exact eA env r acc h
theorem oj (scope:Scope)(env:Env)(h:∀n∈bq scope.names,∃ c,env.cells.lookup n=some c):closureFor scope env=pure (uS scope env):=by
 have:=eA env scope.names [] h
 rw [BP] at this
 simp only [closureFor]
 rw [this]
 rfl
theorem qJ {names:List (Str×NameKind)}{y:Str}(h:(y,NameKind.free)∈names):y∈bq names:=by
 unfold bq
 exact AK.mpr ⟨(y,.free),Ce.mpr ⟨h,by rfl⟩,rfl⟩
theorem rj {names:List (Str×NameKind)}{y:Str}(h:y∈bq names):(y,NameKind.free)∈names:=by
 unfold bq at h
 obtain ⟨⟨a,k⟩,hm,e⟩:=AK.mp h
 obtain ⟨h1,h2⟩:=Ce.mp hm
 cases e
 have:k=.free:=by simpa using h2
 rw [<-this];exact h1
theorem cg {env:Env}:∀{names:List (Str×NameKind)} {y:Str} {k:NameKind},
  (names.map fun (n,k)=>if (k == NameKind.free&&env.scope.kind == .function&&env.kindOf n == some .cell) then (n,NameKind.cell) else (n,k)).lookup y=some k->(k=.cell∨k=.free)->(∀z∈names,z.2≠.cell)->(y,NameKind.free)∈names
 | [],y,k,h,_,_=>by cases h
 | (n,k0)::r,y,k,h,hk,hn=>by
  rw [AN] at h
  dsimp only at h
  by_cases hc:(k0 == NameKind.free&&env.scope.kind == .function&&env.kindOf n == some .cell)=true
  .rw [Az hc,Cb] at h
   have hf:k0=.free:=by
    rw [Bq,Bq] at hc
    simpa using hc.1.1
   cases e:y == n with
   | true =>
    have e':y=n:=by simpa using e
    subst e';subst hf
    exact AX
   | false =>
    rw [e] at h
    exact AH _ (cg h hk fun z hz=>hn z (AH _ hz))
  .rw [Ay hc,Cb] at h
   cases e:y == n with
   | true =>
    have e':y=n:=by simpa using e
    subst e'
    rw [e] at h
    have e2:k0=k:=Be h
    have:=hn (y,k0) AX
    rcases hk with z | z
    .rw [z] at e2;exact absurd e2 this
    .rw [z] at e2;rw [e2];exact AX
   | false =>
    rw [e] at h
    exact AH _ (cg h hk fun z hz=>hn z (AH _ hz))
theorem cX {env:Env}:∀{names:List (Str×NameKind)} {y:Str},names.lookup y=some .free ->
  (names.map fun (n,k)=>if (k == NameKind.free&&env.scope.kind == .function&&env.kindOf n == some .cell) then (n,NameKind.cell) else (n,k)).lookup y=some .cell ∨
  (names.map fun (n,k)=>if (k == NameKind.free&&env.scope.kind == .function&&env.kindOf n == some .cell) then (n,NameKind.cell) else (n,k)).lookup y=some .free
 | [],y,h=>by cases h
 | (n,k0)::r,y,h=>by
  rw [Cb] at h
  rw [AN]
  dsimp only
  by_cases hc:(k0 == NameKind.free&&env.scope.kind == .function&&env.kindOf n == some .cell)=true
  .rw [Az hc,Cb]
   cases e:y == n with
   | true=>exact .inl rfl
   | false=>rw [e] at h;exact cX h
  .rw [Ay hc,Cb]
   cases e:y == n with
   | true=>rw [e] at h;exact .inr h
   | false=>rw [e] at h;exact cX h
theorem Blk.of {esc:Scope}(eN:X.N=N)(eS:X.env.scope=esc)(hX:∀y,esc.names.lookup y=some .cell->∃ c,X.env.cells.lookup y=some c)(hk:scope.kind=.function)(h1:∀y∈scope.names,y.2≠.cell)(h2:∀y∈scope.names,y.2=.local->scope.names.lookup y.1=some .local)(h3:∀y∈scope.names,y.2=.free->esc.names.lookup y.1=some .cell)(hl:cap.length=NB.length)(h4:∀p∈NB.zip cap,N[p.2]?=some p.1/\esc.names.lookup p.1=some .cell/\scope.names.lookup p.1=some .free)(h5:scope.names.lookup x=some .local)(nd:(x::NB).Nodup):
  Blk X scope (uS scope X.env) x NB cap:=by
 have hfr:∀n∈bq scope.names,∃ c,X.env.cells.lookup n=some c:=fun n hn=>hX n (h3 _ (rj hn) rfl)
 refine ⟨⟨oj scope X.env hfr,h1,hk,h2,fun y c e=>?_,fun y e=>?_,hl,fun j i e=>?_⟩,h5,nd⟩
 .unfold uS at e
  obtain ⟨m,q⟩:=iw e
  obtain ⟨c',hc⟩:=hfr y (DO.mp m)
  rw [hc] at q
  rw [hc,q];rfl
 .have hm:(y,NameKind.free)∈scope.names:=by
   rcases e with e | e
   .exact cg e (.inl rfl) h1
   .exact cg e (.inr rfl) h1
  exact ⟨_,dw (List.mem_reverse.mpr (qJ hm))⟩
 have hj:j<cap.length:=(Au.mp e).1
 have hj2:j<NB.length:=by lia
 have ey:NB[j]?=some NB[j]:=tx hj2
 have ez:(NB.zip cap)[j]?=some (NB[j],i):=by rw [ER];exact ⟨ey,e⟩
 obtain ⟨a1,a2,a3⟩:=h4 _ (AQ ez)
 refine ⟨NB[j],ey,by rw [eN];exact a1,.inr (.inl (by rw [eS];exact a2)),.inl (by show X.env.scope.names.lookup _=_;rw [eS];exact a2),?_⟩
 exact cX a3
theorem fJ {α:Type}{l:List α}{i:Int}(h0:0<=i)(h1:i<l.length):∃ v,atI l i=some v/\v∈l:=by
 have h2:i.toNat<l.length:=by lia
 have e:l[i.toNat]?=some l[i.toNat]:=tx h2
 have:=br e
 rw [FN h0] at this
 exact ⟨_,this,BE h2⟩
theorem nk {lo:Int}{Q:VK}(Pv:Nat->List V->Hp->Prop)(h0:Pv 0 [] (upd H D (.lst [])))(hD:∀i ys H,Pv i ys H->H D=some (.lst ys))(hs:∀i ys H,i<n->Pv i ys H->tt (some (.int (lo+i))::bW cap U) H fun b H3 =>
   if b=true then te (some (.int (lo+i))::bW cap U) H3 fun v H4=>H4 D=some (.lst ys)/\ys.length<sizeLine/\∃ m',m'<n-i/\m'=n-(i+1)/\i+1<=n/\Pv (i+1) (ys++[v]) (upd H4 D (.lst (ys++[v])))
   else ∃ m',m'<n-i/\m'=n-(i+1)/\i+1<=n/\Pv (i+1) ys H3)(hd:∀ys H,Pv n ys H->Q (.ref D) H):
  CW (Itr lo n) tt te cap U H D (fun H=>Q (.ref D) H):=by
 refine ⟨fun i m ys H=>m=n-i/\i<=n/\Pv i ys H,⟨n,An,BA _,h0⟩,?_⟩
 rintro i m ys H ⟨rfl,hi,p⟩
 refine ⟨hD i ys H p,?_⟩
 by_cases hlt:i<n
 .refine .inr ⟨hlt,fun x H' y=>?_⟩
  obtain ⟨e,y⟩:=y
  subst e y
  exact hs i ys _ hlt p
 have e:i=n:=by lia
 subst e
 exact .inl ⟨Av _,hd ys H p⟩
def oh:Expr->Option V
 | .Constant (.int i) _ _=>some (.int i)
 | .Constant (.str x) _ _=>some (.str x)
 | _=>none
def fB:List Expr->Option (List V)
 | []=>some []
 | e::es=>match oh e,fB es with
  | some v,some vs=>some (v::vs)
  | _,_=>none
theorem ja {X:Cx}:∀{es:List Expr} {vs:List V},fB es=some vs->PA X es (fun _ H Q=>Q vs H)
 | [],vs,h=>by
  cases h
  exact um
 | e::es,vs,h=>by
  unfold fB at h
  cases e1:oh e with
  | none=>rw [e1] at h;cases h
  | some v =>
   cases e2:fB es with
   | none=>rw [e1,e2] at h;cases h
   | some ws =>
    rw [e1,e2] at h
    cases h
    have ih:=ja (X:=X) e2
    have he:PE X e (tC v)/\starEach (e::es) X.env=(false,eval e X.env)::starEach es X.env:=by
     unfold oh at e1
     split at e1
     .cases e1;exact ⟨uv,rfl⟩
     .cases e1;exact ⟨sK,rfl⟩
     .cases e1
    exact pc he.1 ih he.2
end L2
namespace L2
open PySem
theorem aq {o:HO}(h:H p=none):Same H (upd H p o):=fun b u e=>by rw [ao (ap e h)];exact e
@[elab_as_elim] theorem gnew {R:Hp->Prop} {H:Hp} {a:Addr} {o:HO} (h:H a=none) (k:∀H1,Same H H1->H1 a=some o->R H1):R (upd H a o):=k _ (aq h) ag
theorem aZ {c A:Prop}[Decidable c](k:B)(h:¬ c:=by decide +kernel):if c then A else B:=by rw [Ay h];exact k
theorem db {c A:Prop}[Decidable c](k:A)(h:c:=by decide +kernel):if c then A else B:=by rw [Az h];exact k
theorem bj {o:HO}(s:Same H H')(h:H p=none):Same H (upd H' p o):=fun b u e=>by rw [ao (ap e h)];exact s b u e
end L2
namespace L2
open PySem PySem.Spec PyProof.Rows
@[irreducible] def QE (X:Cx) (e:Expr) (t:TE):Prop:=PE X e t
@[irreducible] def QT (X:Cx) (e:Expr) (t:TT):Prop:=PT X e t
@[irreducible] def QW (X:Cx) (e:Expr) (t:TT):Prop:=PW X e t
@[irreducible] def QA (X:Cx) (es:List Expr) (t:TA):Prop:=PA X es t
@[irreducible] def QS (X:Cx) (st:Stmt) (t:TS):Prop:=PS X st t
@[irreducible] def QSs (X:Cx) (st:List Stmt) (t:TS):Prop:=PSs X st t
@[irreducible] def QG (X:Cx) (e:Expr) (t:TG):Prop:=PG X e t
@[irreducible] def QGs (X:Cx) (e:List Expr) (t:TGs):Prop:=PGs X e t
@[irreducible] def QI (X:Cx) (tg iter:Expr) (wi:TI):Prop:=PI X tg iter wi
@[irreducible] def QTs (X:Cx) (ifs:List Expr) (t:TT):Prop:=PTs X ifs t
@[irreducible] def QO (X:Cx) (e:Option Expr) (t:TO):Prop:=PO X e t
section
variable {X:Cx}{e a b c:Expr}{es:List Expr}{t te ta tb tc:TE}{tt:TT}{pos:Pos}
theorem QE.mk {t:TE}(h:PE X e t):QE X e t:=by unfold QE;exact h
theorem QE.to {t:TE}(h:QE X e t):PE X e t:=by unfold QE at h;exact h
theorem QT.mk {t:TT}(h:PT X e t):QT X e t:=by unfold QT;exact h
theorem QT.to {t:TT}(h:QT X e t):PT X e t:=by unfold QT at h;exact h
theorem QW.mk {t:TT}(h:PW X e t):QW X e t:=by unfold QW;exact h
theorem QW.to {t:TT}(h:QW X e t):PW X e t:=by unfold QW at h;exact h
theorem QA.mk {t:TA}(h:PA X es t):QA X es t:=by unfold QA;exact h
theorem QA.to {t:TA}(h:QA X es t):PA X es t:=by unfold QA at h;exact h
theorem QS.mk {t:TS}(h:PS X st t):QS X st t:=by unfold QS;exact h
theorem QS.to {t:TS}(h:QS X st t):PS X st t:=by unfold QS at h;exact h
theorem QSs.mk {st:List Stmt}{t:TS}(h:PSs X st t):QSs X st t:=by unfold QSs;exact h
theorem QSs.to {st:List Stmt}{t:TS}(h:QSs X st t):PSs X st t:=by unfold QSs at h;exact h
theorem QG.mk {t:TG}(h:PG X e t):QG X e t:=by unfold QG;exact h
theorem QG.to {t:TG}(h:QG X e t):PG X e t:=by unfold QG at h;exact h
theorem QGs.mk {t:TGs}(h:PGs X es t):QGs X es t:=by unfold QGs;exact h
theorem QGs.to {t:TGs}(h:QGs X es t):PGs X es t:=by unfold QGs at h;exact h
theorem QI.mk (h:PI X tg e wi):QI X tg e wi:=by unfold QI;exact h
theorem QI.to (h:QI X tg e wi):PI X tg e wi:=by unfold QI at h;exact h
theorem QTs.mk {t:TT}(h:PTs X es t):QTs X es t:=by unfold QTs;exact h
theorem QTs.to {t:TT}(h:QTs X es t):PTs X es t:=by unfold QTs at h;exact h
theorem QO.mk {o:Option Expr}{t:TO}(h:PO X o t):QO X o t:=by unfold QO;exact h
theorem QO.to {o:Option Expr}{t:TO}(h:QO X o t):PO X o t:=by unfold QO at h;exact h
theorem qv (i:Nat)(hN:X.N[i]?=some x:=by rfl)(hv:Vis X.env.scope x:=by first | exact Or.inl rfl | exact Or.inr (Or.inl rfl) | exact Or.inr (Or.inr rfl))(hd:(x == ("__debug__":Str))=false:=by decide)(hcd:(x == ("__classdict__":Str))=false:=by decide):QE X (.Name x pos) (Af i):=.mk (by
 intro pins s U H Q I h
 obtain ⟨v,e,h⟩:=yd h
 obtain ⟨m,hn,hl⟩:=I.loc
 obtain ⟨u,r,l⟩:=hl i x v hN e hv
 have fin:EP X pins U Q u s:=⟨v,H,I,r,h⟩
 rcases l with ⟨hk,hm⟩ | ⟨hk,c,hc,hcell⟩
 .exact wpAny_Name (wpAny_loadName_local I.ok.kind hk hn hm fin) hd
 rcases hk with hk | hk
 .exact wpAny_Name (wpAny_loadName_cell I.ok.kind hk hc hcell fin) hd
 exact wpAny_Name (wpAny_loadName_free I.ok.kind hk hc hcell fin hcd) hd)
theorem ah {i j}:QE X (.Constant (.int i) j pos) (tC (.int i)):=.mk uv
theorem ul {b j}:QE X (.Constant (.bool b) j pos) (tC (.bl b)):=.mk (fun _ _ _ H _ I h=>Constant_bool ⟨.bl b,H,I,rfl,h⟩)
theorem av {x j}:QE X (.Constant (.str x) j pos) (tC (.str x)):=.mk sK
theorem au {op:Operator}{r:R2}(ho:OpR X (binaryOp op) r)(ha:QE X a ta)(hb:QE X b tb):QE X (.BinOp a op b pos) (tOp r ta tb):=.mk (by
 have ha:=ha.to
 have hb:=hb.to
 intro pins s U H Q I h
 exact wpAny_BinOp (xv ha hb I h fun v u s2 x y H2 I2 rx ry q=>ho pins s2 U H2 x y v u Q I2 rx ry q))
theorem oF {op:UnaryOp}{r:V->Hp->VK->Prop}(ho:UnR X (unaryOp op) r)(ha:QE X a ta):QE X (.UnaryOp op a pos) (tUn r ta):=.mk (by
 have ha:=ha.to
 intro pins s U H Q I h
 exact UnaryOp_ (thn (ha pins s U H _ I h) fun v s1 ⟨x,H1,I1,r1,q1⟩=>ho pins s1 U H1 x v Q I1 r1 q1))
theorem cx {op:CmpOp}{r:R2}(ho:OpR X (compareOp op) r)(ha:QE X a ta)(hb:QE X b tb)(hm:behindInMarks op b=false):QE X (.Compare a [op] [b] pos) (tOp r ta tb):=.mk (by
 have ha:=ha.to
 have hb:=hb.to
 intro pins s U H Q I h
 exact wpAny_Compare1 (xv ha hb I h fun v u s2 x y H2 I2 rx ry q=>ho pins s2 U H2 x y v u Q I2 rx ry q) hm)
theorem ar {r:R2}(hr:IxR X r)(ha:QE X a ta)(hb:QE X b tb)(hs:vn b):QE X (.Subscript a b pos) (tOp r ta tb):=.mk (by
 have ha:=ha.to
 have hb:=hb.to
 intro pins s U H Q I h
 exact Subscript_ (xv ha hb I h fun v u s2 x y H2 I2 rx ry q=>hr a b pins s2 U H2 x y v u Q I2 rx ry q (hs _ _)))
theorem cj {r:V->Option Int->Option Int->Hp->VK->Prop}{lo hi:Option Expr}{tl th:TO}{p2:Pos}(hr:SlR X r)(he:QE X e te)(hl:QO X lo tl)(hu:QO X hi th):QE X (.Subscript e (.Slice lo hi none p2) pos) (tSl r te tl th):=.mk (by
 have he:=he.to
 have hl:=hl.to
 have hu:=hu.to
 intro pins s U H Q I h
 refine Subscript_ (thn (he pins s U H _ I h) fun v s1 zz=>?_)
 obtain ⟨x,H1,I1,r1,q1⟩:=zz
 refine wpAny_Slice (thn (hl pins s1 U H1 _ I1 q1) fun vl s2 ⟨l,H2,I2,pl,q2⟩=>thn (hu pins s2 U H2 _ I2 q2) fun vu s3 zz=>?_)
 obtain ⟨u,H3,I3,pu,q3⟩:=zz
 rw [evalPart_none]
 refine Aq ?_
 have I4:Inv X pins U H3 { s3 with heap:=s3.heap.push { cls:=.type "slice",data:=.fields #[vl,vu,.none] } }:=I3.kept (t':=s3.toks) fun b ob q=>Ap _ q
 obtain ⟨T,id,hT,ht,hg⟩:=hr pins { s3 with heap:=s3.heap.push { cls:=.type "slice",data:=.fields #[vl,vu,.none] } } U H3 x v vl vu l u s3.heap.objs.size Q I4 r1 (Heap.IsSliceOf.new ..) pl pu q3
 show wpAny (model X.prog X.w) X.A (subscriptTail e (.Slice lo hi none p2) v (.ref s3.heap.objs.size)) (EP X pins U Q) X.xe { s3 with heap:=s3.heap.push { cls:=.type "slice",data:=.fields #[vl,vu,.none] } }
 exact tail_any (ops:=[.ref s3.heap.objs.size,v]) ht hT hg (by with_unfolding_all rfl))
theorem cS:QO X none vz:=.mk (by
 intro pins s U H Q I h
 rw [evalPart_none]
 exact Aq ⟨none,H,I,.none,h⟩)
theorem cU (h:QE X e te):QO X (some e) (yR te):=.mk (by
 have h:=h.to
 intro pins s U H Q I hw
 rw [evalPart_some]
 refine thn (h pins s U H _ I hw) fun u s1 zz=>?_
 obtain ⟨x,H1,I1,r1,q1⟩:=zz
 obtain ⟨i,rfl,q⟩:=q1
 obtain ⟨t,rfl⟩:=r1
 exact ⟨some i,H1,I1,.int i t,q⟩)
theorem aV {t:TA}(h:QA X es t):QE X (.List es pos) (z7 t):=.mk (by
 have h:=h.to
 intro pins s U H Q I hq
 refine wpAny_List_spliced (thn (h pos pins s U H _ I hq) fun us s1 ⟨xs,H1,I1,r,z,q⟩=>⟨by rw [<-r.length];exact z,?_⟩)
 have hf:H1 s1.heap.objs.size=none:=I1.hok.fresh (Av _)
 refine ⟨.ref s1.heap.objs.size,upd H1 s1.heap.objs.size (.lst xs),I1.laid (t':=s1.toks) (fun b u e=>Ap _ e) (Av _) ?_,rfl,q _ hf⟩
 exact ⟨z,us,0,r,AF _ rfl⟩)
theorem aQ {t:TA}{x1}(h:QA X es t):QE X (.Tuple es x1 pos) (Ab t):=.mk (by
 have h:=h.to
 intro pins s U H Q I hq
 refine wpAny_Tuple_spliced (thn (h pos pins s U H _ I hq) fun us s1 ⟨xs,H1,I1,r,z,q⟩=>⟨by rw [<-r.length];exact z,?_⟩)
 have hf:H1 s1.heap.objs.size=none:=I1.hok.fresh (Av _)
 refine ⟨.ref s1.heap.objs.size,upd H1 s1.heap.objs.size (.tup xs),I1.laid (t':=s1.toks) (fun b u e=>Ap _ e) (Av _) ?_,rfl,q _ hf⟩
 exact ⟨z,us,r,⟨_,AF _ rfl,rfl,_,rfl⟩⟩)
theorem aj:QA X [] qM:=.mk um
theorem ae {t:TA}(ha:QE X e te)(hr:QA X es t)(hs:starEach (e::es) X.env=(false,eval e X.env)::starEach es X.env:=by rfl):QA X (e::es) (wB te t):=.mk (pc ha.to hr.to hs)
theorem dH {vs:List V}(h:fB es=some vs):QA X es (fun _ H Q=>Q vs H):=.mk (ja h)
theorem gX {id:String}{p:Pos}{t:TA}(hc:cf X (.builtin id) r)(hg:Gl X x)(hm:X.mg x=none)(hv:bootBuiltins x=some (.builtin id))(ha:QA X (e::es) t)(hn:x≠"__name__":=by decide)(hdb:(x == ("__debug__":Str))=false:=by decide)(he:starEach (e::es) X.env=(false,eval e X.env)::starEach es X.env:=by rfl)(hpl:(backTo pos (starEach es X.env)).any (·.1)=false:=by rfl):QE X (.Call (.Name x p) (e::es) [] pos) (tCB r t):=.mk (by
 have ha:=ha.to
 intro pins s U H Q I h
 refine Dl (cB I hg hm hv ?_ hn hdb)
 exact Em (thn (ha pos pins s U H _ I h) fun us s1 ⟨vs,H1,I1,r1,q1⟩=>hc pins s1 U H1 vs us Q I1 r1 q1) he hpl)
theorem qE {T:String}{p:Pos}{t:TA}(hc:cf X (.type T) r)(hg:Gl X x)(hm:X.mg x=none)(hv:bootBuiltins x=some (.type T))(ha:QA X (e::es) t)(hn:x≠"__name__":=by decide)(hdb:(x == ("__debug__":Str))=false:=by decide)(he:starEach (e::es) X.env=(false,eval e X.env)::starEach es X.env:=by rfl)(hpl:(backTo pos (starEach es X.env)).any (·.1)=false:=by rfl):QE X (.Call (.Name x p) (e::es) [] pos) (tCB r t):=.mk (by
 have ha:=ha.to
 intro pins s U H Q I h
 refine Dl (cB I hg hm hv ?_ hn hdb)
 exact Bt (thn (ha pos pins s U H _ I h) fun us s1 ⟨vs,H1,I1,r1,q1⟩=>hc pins s1 U H1 vs us Q I1 r1 q1) he hpl)
theorem uU {CX:CXT}{k:Nat}{dvs:List V}{ds:List Value}{E:XK}{p:Pos}{t:TA}(F:aB X.prog X.w X.K X.mg X.base CX k f fd ps sp)(hr:Room k X.A)(hg:Gl X x)(hm:X.mg x=some (.ref f))(hk:W.keepIn X.K (.ref f)=true)(hb:Binds X.K fd ps ds)(hd:Vals dvs ds)(hx:cR CX X E)(ha:QA X (e::es) t)(hdb:(x == ("__debug__":Str))=false:=by decide)(he:starEach (e::es) X.env=(false,eval e X.env)::starEach es X.env:=by rfl)(hpl:(backTo pos (starEach es X.env)).any (·.1)=false:=by rfl):
  QE X (.Call (.Name x p) (e::es) [] pos) (rA sp dvs E t):=.mk (by
 have ha:=ha.to
 intro pins s U H Q I h
 refine Dl (km I hg hm ?_ hdb)
 refine W.callWith_K (h₀:=X.base) I.ok.mod.kin hk (thn (ha pos pins s U H _ I h) fun us s1 ⟨vs,H1,I1,r,q⟩=>⟨I1.kIn,?_⟩) he hpl
 exact jS F hr hb hd hx I1 r q)
theorem ci {o:Expr}{to:TE}{t:TA}{name:Str}{T id:String}{r:V->List V->Hp->VK->Prop}(pa:PlainAttrs T)(slot:Slot T name id)(hty:typeOf (.builtin id)=pure (.type "method_descriptor"))(hm:MtR X id r)(ho:QE X o to)(ha:QA X (e::es) t)(hbase:attributeBase o name X.env (eval o X.env)=eval o X.env:=by rfl)(hfew:((backTo cpos (starEach (e::es) X.env)).all (fun x=>!x.1)&&(backToKw cpos (keywordEach [] X.env)).all (fun x=>x.1.isSome)
   && decide ((e::es).length+([]:List Keyword).length+(if ([]:List Keyword).isEmpty then 0 else 1)<30))=true:=by rfl)(hline:(apos.endLine == cpos.line)=true:=by rfl)(hs:starEach (e::es) X.env=(false,eval e X.env)::starEach es X.env:=by rfl)(hplain:(backTo cpos (starEach es X.env)).any (·.1)=false:=by rfl):
  QE X (.Call (.Attribute o name apos) (e::es) [] cpos) (tBM X.K T r to t):=.mk (wF pa slot hty hm ho.to ha.to hbase hfew hline hs hplain)
theorem bA {cl:List (Str×Addr)}(B:Blk X scope cl x NB cap)(hc:X.calm=true)(hex:X.ex=[])(hi:QI X (.Name x px) iter wi)(ht:∀C fp s₀ H₀,QTs (X.blk scope cl C (x::NB) fp s₀ H₀) ifs tt)(he:∀C fp s₀ H₀,QE (X.blk scope cl C (x::NB) fp s₀ H₀) elt te)(hs:∀v,foldedSetIterable iter X.env v=pure v:=by intro _;rfl):QE X (.ListComp elt [⟨.Name x px,iter,ifs,0⟩] scope pos) (tR wi tt te cap):=.mk (by
 have hi:=hi.to
 have ht:=(fun C fp s₀ H₀=>(ht C fp s₀ H₀).to)
 have he:=(fun C fp s₀ H₀=>(he C fp s₀ H₀).to)
 intro pins s U H Q I h
 rw [eval_ListComp]
 refine jg (use:=none) (R:=EP X pins U Q) B hc hex hi ht he hs I h fun D C H' s' I' G q=>?_
 obtain ⟨m,hn⟩:=G.ns
 obtain ⟨f0,f1,f2,f3,f4,f5⟩:=G.fp
 refine ⟨m,hn,fun h' hs'=>⟨.ref D,H',?_,rfl,q⟩⟩
 exact I'.turned (t':=s'.toks) (fun b o hb e=>(hs'.2 b hb).trans e) f0 f1 f3 f4 f5)
theorem ay {op:CmpOp}{r:R2}(ho:OpR X (compareOp op) r)(ha:QE X a ta)(hb:QE X b tb)(hm:behindInMarks op b=false):QT X (.Compare a [op] [b] pos) (zj (tOp r ta tb)):=.mk (by
 have ha:=ha.to
 have hb:=hb.to
 intro pins s U H Q I h
 refine wpAny_isTrue_Compare1 (thn (ha pins s U H _ I h) fun v s1 ⟨x,H1,I1,r1,q1⟩=>thn (hb pins s1 U H1 _ I1 q1) fun u s2 ⟨y,H2,I2,r2,q2⟩ =>
  thn (ho pins s2 U H2 x y v u _ I2 r1 r2 q2) fun c s3 ⟨z,H3,I3,r3,k,e,q3⟩=>?_) hm
 subst e
 cases r3
 exact Dy ⟨H3,I3,q3⟩)
theorem eK (ha:QT X a tA):QT X (.UnaryOp .Not a pos) (zY tA):=.mk (by
 have ha:=ha.to
 intro pins s U H Q I h
 exact isTrue_not (ha pins s U H (fun c H1=>Q (!c) H1) I h))
theorem eF {t:TE}(h:QE X e t)(he:∀whole,isTrue e X.env whole=(do let v <-whole;standAt e.pos;holding [v] (truthy v)):=by intro _;rfl):QT X e (tB t):=.mk (by
 have h:=h.to
 intro pins s U H Q I hw
 refine isTrue_plain (thn (h pins s U H _ I hw) fun v s1 zz=>?_) (he _)
 obtain ⟨x,H1,I1,r1,q1⟩:=zz
 obtain ⟨d,rfl,q⟩:=q1
 cases r1
 exact Dy ⟨H1,I1,q⟩)
theorem QW.pt {t:TT}(h:QW X e t):QT X e t:=.mk h.to.pt
theorem dL (ha:QT X a tA):QW X (.BoolOp .And [a] pos) tA:=.mk (by
 have ha:=ha.to
 intro wh pins s U H Q I h
 refine isTrue_and (thn (ha pins s U H Q I h) fun c s1 e=>?_)
 cases c with
 | true=>exact isTrue_and_nil e
 | false=>exact e)
theorem rW (ha:QT X a tA):QW X (.BoolOp .Or [a] pos) tA:=.mk (by
 have ha:=ha.to
 intro wh pins s U H Q I h
 refine isTrue_or (thn (ha pins s U H Q I h) fun c s1 e=>?_)
 cases c with
 | false=>exact isTrue_or_nil e
 | true=>exact e)
theorem eE {tB':TT}{rest:List Expr}(ha:QT X a tA)(hb:QW X (.BoolOp .And (b::rest) pos) tB'):QW X (.BoolOp .And (a::b::rest) pos) (zV tA tB'):=.mk (by
 have ha:=ha.to
 have hb:=hb.to
 intro wh pins s U H Q I h
 refine isTrue_and (thn (ha pins s U H _ I h) fun c s1 zz=>?_)
 obtain ⟨H1,I1,q1⟩:=zz
 cases c with
 | true=>exact hb wh pins s1 U H1 Q I1 q1
 | false=>exact ⟨H1,I1,q1⟩)
theorem xc {tB':TT}{rest:List Expr}(ha:QT X a tA)(hb:QW X (.BoolOp .Or (b::rest) pos) tB'):QW X (.BoolOp .Or (a::b::rest) pos) (tOr tA tB'):=.mk (by
 have ha:=ha.to
 have hb:=hb.to
 intro wh pins s U H Q I h
 refine isTrue_or (thn (ha pins s U H _ I h) fun c s1 zz=>?_)
 obtain ⟨H1,I1,q1⟩:=zz
 cases c with
 | true=>exact ⟨H1,I1,q1⟩
 | false=>exact hb wh pins s1 U H1 Q I1 q1)
theorem a7:QTs X [] oa:=.mk (fun pins s U H Q I h=>wpAny_tests_nil ⟨H,I,h⟩)
theorem gC {t:TT}(h:QT X c t):QTs X [c] t:=.mk (by
 have h:=h.to
 exact fun pins s U H Q I hq=>wpAny_tests_one (h pins s U H Q I hq))
theorem bx {ta:TA}{p:Pos}(hg:Gl X "range")(hm:X.mg "range"=none)(ha:QA X [a] ta)(hs:starEach [a] X.env=[(false,eval a X.env)]:=by rfl):QI X tg (.Call (.Name "range" p) [a] [] pos) (yS ta):=.mk (by
 have ha:=ha.to
 intro pins s U H R I h
 refine Call_ (cB I hg hm boot_range (Bt (thn (ha pos pins s U H _ I h) fun us s1 zz=>?_) hs rfl))
 obtain ⟨vs,H1,I1,r1,q1⟩:=zz
 obtain ⟨j,e,q1,q2,q⟩:=q1
 subst e
 cases r1 with
 | cons r rr =>
  cases rr
  obtain ⟨t,rfl⟩:=r
  exact call_range_1 (sv I1 Am Am q1 q2 (by simpa using q)))
theorem cA (h:QE X e te):QI X tg e (zg X.K te):=.mk (by
 have hl:=h.to
 intro pins s U H R I h
 refine thn (hl pins s U H _ I h) fun v s1 zz=>?_
 obtain ⟨x,H1,I1,r1,q1⟩:=zz
 obtain ⟨a,e,⟨xs,hq⟩,q⟩:=q1
 subst e
 cases r1
 obtain ⟨its,rv,p,hz⟩:=I1.list hq
 refine CI p.isList ?_
 refine ⟨s1.heap.objs.size,[s1.heap.objs.size],_,_,H1,rfl,I1.kept (t':=s1.toks) fun b o e=>Ap _ e,jo a _,⟨_,AF _ rfl,rfl,rfl⟩,fun b hb=>?_,q⟩
 have e:b=s1.heap.objs.size:=by simpa using hb
 subst e
 exact I1.fpOk (Av _) (I1.hok.fresh (Av _)))
theorem dj (h:QE X e te):QI X tg e (zW X.K te):=.mk (by
 have hl:=h.to
 intro pins s U H R I h
 refine thn (hl pins s U H _ I h) fun v s1 zz=>?_
 obtain ⟨x,H1,I1,r1,q1⟩:=zz
 obtain ⟨a,e,⟨xs,hq⟩,q⟩:=q1
 subst e
 cases r1
 obtain ⟨its,rv,p,hz⟩:=I1.tuple hq
 refine EL (show s1.heap.IsTuple a its.toArray from p) ?_
 refine ⟨s1.heap.objs.size,[s1.heap.objs.size],_,_,H1,rfl,I1.kept (t':=s1.toks) fun b o e=>Ap _ e,iy a _,⟨_,AF _ rfl,rfl,rfl⟩,fun b hb=>?_,q⟩
 have e:b=s1.heap.objs.size:=by simpa using hb
 subst e
 exact I1.fpOk (Av _) (I1.hok.fresh (Av _)))
theorem bu (hN:X.N.Nodup)(hi:X.N[i]?=some x)(hx:Loc X.env.scope x)(hf:X.fn x=true∨X.env.scope.names.lookup x=some .local:=by first | exact .inl rfl | exact .inr rfl | assumption):QG X (.Name x pos) (eZ i):=.mk (gJ hN hi hx hf)
theorem bR {o i:Expr}{to ti:TE}{t:xY}(ho:QE X o to)(hi:QE X i ti)(hs:yQ X t)(ha:∀v,assign (.Subscript o i pos) X.env v=(do
   let ov <-holding [v] (eval o X.env)
   let iv <-holding [v,ov] (eval i X.env)
   standAt pos
   holding [v,ov,iv] (setItem ov iv v)
   release [v,ov,iv] []):=by intro _;rfl):QG X (.Subscript o i pos) (z9 to ti t):=.mk (by
 have ho:=ho.to
 have hi:=hi.to
 intro pins s U H v u Q I r h
 rw [ha]
 refine gV (A7 (thn (ho pins s U H _ I h) fun ov s1 zz=>?_))
 obtain ⟨x,H1,I1,r1,q1⟩:=zz
 refine gV (A7 (thn (hi pins s1 U H1 _ I1 q1) fun iv s2 zz=>?_))
 obtain ⟨y,H2,I2,r2,q2⟩:=zz
 refine gV (Ez (gV (A7 (thn (hs pins s2 U H2 x y v ov iv u _ I2 r1 r2 r q2) fun _ s3 zz=>?_))))
 obtain ⟨H3,I3,q3⟩:=zz
 exact wpAny_release ⟨U,H3,I3,q3⟩)
theorem gG:QGs X [] ya:=.mk pe
theorem bF {t:TG}{u:TGs}(h1:QG X e t)(h2:QGs X es u)(hs:(assignEach (e::es) X.env).map (·.2)=assign e X.env::(assignEach es X.env).map (·.2):=by rfl):QGs X (e::es) (oJ t u):=.mk (iI h1.to h2.to hs)
theorem tL {k:Nat}{t:TGs}(hc:X.calm=true)(h:QGs X es t)(hn:(assignEach es X.env).length=n:=by rfl)(hst:(assignEach es X.env).findIdx? (·.1)=none:=by rfl):QG X (.Tuple es k pos) (yj X.K n t):=.mk (sy hc h.to hn hst)
section
variable {st:Stmt}{rest body:List Stmt}{s u:TS}
theorem aE:QSs X [] zA:=.mk (fun _ _ U H _ I h=>D0 ⟨U,H,I,h⟩)
theorem af (h1:QS X st s)(h2:QSs X rest u):QSs X (st::rest) (Ae s u):=.mk (by
 have h1:=h1.to
 have h2:=h2.to
 intro pins s U H D I h
 refine wpAny_execs_cons (thn (h1 pins s U H { D with nx:=u D } I h) fun f s1 q=>?_)
 cases f with
 | next =>
  obtain ⟨σ',H',I',q⟩:=q
  exact h2 pins s1 σ' H' D I' q
 | ret v=>exact q
 | brk=>exact q
 | cont=>exact q)
theorem ak (h1:QS X st s):QSs X [st] s:=.mk (by
 have h1:=h1.to
 intro pins s U H D I h
 refine wpAny_execs_cons (thn (h1 pins s U H D I h) fun f s1 q=>?_)
 cases f with
 | next=>exact D0 q
 | ret v=>exact q
 | brk=>exact q
 | cont=>exact q)
theorem aL (he:QE X e te)(hs:swapsWith e none pos.line X.env=pure false:=by rfl):QS X (.Expr e pos) (zC te):=.mk (by
 have he:=he.to
 intro pins s U H D I h
 exact wpAny_Expr_any (thn (he pins s U H _ I h) fun v s1 ⟨x,H1,I1,r1,q1⟩=>⟨U,H1,I1,q1⟩) I.quiet hs)
theorem aF (he:QE X e te):QS X (.Return (some e) pos) (Ac te):=.mk (by
 have he:=he.to
 intro pins s U H D I h
 exact wpAny_Return_some (thn (he pins s U H _ I h) fun v s1 ⟨x,H1,I1,r1,q1⟩=>⟨x,U,H1,I1,r1,q1⟩))
theorem aO {a' b':List Stmt}(hc:QT X c tt)(ha:QSs X a' s)(hb:QSs X b' u):QS X (.If c a' b' pos) (zk tt s u):=.mk (wM hc.to ha.to hb.to)
theorem eO (hN:X.N.Nodup)(hi:X.N[i]?=some x)(hx:Loc X.env.scope x)(he:QE X e te)(hs:swapsWith e (some (.Name x pos')) pos.line X.env=pure false:=by rfl)(hf:X.fn x=true∨X.env.scope.names.lookup x=some .local:=by first | exact .inl rfl | exact .inr rfl | assumption):
  QS X (.Assign [.Name x pos'] e pos) (rp te (eZ i)):=.mk (by
 have he:=he.to
 intro pins s U H D I h
 refine wpAny_Assign_Name (thn (he pins s U H _ I h) fun v s1 zz=>?_) hs
 obtain ⟨y,H1,I1,r1,q1⟩:=zz
 exact kX I1 hN hi hx r1 (fun s2 I2=>⟨_,H1,I2,q1⟩) hf)
theorem bX {y:Str}{py spos:Pos}{cl:List (Str×Addr)}(hN:X.N.Nodup)(hi':X.N[i]?=some y)(hx:Loc X.env.scope y)(B:Blk X scope cl x NB cap)(hc:X.calm=true)(hex:X.ex=[])(hi:QI X (.Name x px) iter wi)(ht:∀C fp s₀ H₀,QTs (X.blk scope cl C (x::NB) fp s₀ H₀) ifs tt)(he:∀C fp s₀ H₀,QE (X.blk scope cl C (x::NB) fp s₀ H₀) elt te)(hsw:swapsWith (.ListComp elt [⟨.Name x px,iter,ifs,0⟩] scope pos) (some (.Name y py)) spos.line X.env=pure true:=by rfl)(hs:∀v,foldedSetIterable iter X.env v=pure v:=by intro _;rfl)(hf:X.fn y=true∨X.env.scope.names.lookup y=some .local:=by first | exact .inl rfl | exact .inr rfl | assumption):
  QS X (.Assign [.Name y py] (.ListComp elt [⟨.Name x px,iter,ifs,0⟩] scope pos) spos) (rp (tR wi tt te cap) (eZ i)):=.mk (by
 have hi:=hi.to
 have ht:=(fun C fp s₀ H₀=>(ht C fp s₀ H₀).to)
 have he:=(fun C fp s₀ H₀=>(he C fp s₀ H₀).to)
 intro pins s U H D I h
 rw [exec_Assign_Name_used _ _ _ _ hsw]
 refine gV (Ez (gV ?_))
 show wpAny _ X.A (do let _ <-comprehension (.ListComp elt [⟨.Name x px,iter,ifs,0⟩] scope pos) scope X.env _ (newList []) false (eval iter X.env) (some (assign (.Name y py) X.env))) _ _ s
 refine gV (Cn (jg (use:=some (assign (.Name y py) X.env)) (R:=fun _ s'=>SP X pins D .next s') B hc hex hi ht he hs I h fun L C H' s' I' G q=>?_) (fun _ s' hq=>Aq (Aq hq)) fun _ _ e=>e)
 obtain ⟨m,hn⟩:=G.ns
 obtain ⟨f0,f1,f2,f3,f4,f5⟩:=G.fp
 refine EZ (fX (v:=.ref L) I' hN hi' hx rfl (fun s'' I'' zz=>?_) hf)
 obtain ⟨a,sb,ha⟩:=zz
 have hC:C≠a:=by
  rcases ha with z | z
  .rw [z];exact f1
  .exact fun e=>f4 y a z e.symm
 refine ⟨m,hn.sameBut sb hC,fun h' hs'=>⟨_,H',?_,q⟩⟩
 exact I''.turned (t':=s''.toks) (fun b o hb e=>(hs'.2 b hb).trans e) f0 f1 f3 f4 f5)
theorem bU {g:TG}(he:QE X e te)(hg:QG X tg g)(hs:swapsWithSole [tg] e pos.line X.env=pure false:=by rfl)(hw:swappedStores [tg] e X.env=pure none:=by rfl)(h1:(assignEach [tg] X.env).map (·.2)=[assign tg X.env]:=by rfl):QS X (.Assign [tg] e pos) (rp te g):=.mk (by
 have he:=he.to
 have hg:=hg.to
 intro pins s U H D I h
 refine wpAny_Assign_stores (thn (he pins s U H _ I h) fun v s1 zz=>?_) hs hw
 obtain ⟨x,H1,I1,r1,q1⟩:=zz
 rw [h1]
 exact thn (hg pins s1 U H1 x v _ I1 r1 q1) fun _ s2 q=>q)
theorem c6 {g:TG}(hp:PassesOwn (model X.prog X.w) X.A X.env X.xe)(hc:X.calm=true)(hi:QI X tg iter wi)(hg:QG X tg g)(hb:QSs X body s)(hs:∀x,foldedSetIterable iter X.env x=pure x:=by intro _;rfl):QS X (.For tg iter body [] pos) (z5 wi g s):=.mk (by
 have hi:=hi.to
 have hg:=hg.to
 have hb:=hb.to
 intro pins s U H D I h
 refine wpAny_For (thn (hi pins s U H _ I h) fun v s1 h1=>thn h1 fun itv s2 h2=>?_) hs
 obtain ⟨it,fp,tn,J,H2,e,I2,T,st2,f2,W,⟨m0,w0⟩,turn⟩:=h2
 subst e
 have stat:∀{H':Hp},(∀b∈fp,H' b=none)->∀b∈fp,kL X pins H' b:=fun hn b hb=>⟨hn b hb,(f2 b hb).2⟩
 refine codeAny_forLoop_any (fun n s'=>∃ i σ' H',Inv X pins σ' H' s'/\tn i s'.heap/\(∀b∈fp,H' b=none)/\W i n σ' H') ?_ m0 ⟨0,U,H2,I2,st2,fun b hb=>(f2 b hb).1,w0⟩
 rintro n s3 ⟨i,σ3,H3,I3,st3,fr3,w3⟩
 rcases turn i n σ3 H3 w3 with ⟨stop,qn⟩ | ⟨go,N,hN,step⟩
 .refine CZ hp (thn (T.done X rfl rfl rfl hc i pins s3 σ3 H3 X.xe I3 (stat fr3) st3 stop) fun r s4 ⟨hr,I4⟩=>?_)
  subst hr
  exact D0 ⟨σ3,H3,I4,qn⟩
 refine CZ hp (thn (T.item X rfl rfl rfl hc i pins s3 σ3 H3 X.xe I3 (stat fr3) st3 go) fun r s4 zz=>?_)
 obtain ⟨u,hr,h4⟩:=zz
 subst hr
 refine CZ hp (thn h4 fun _ s5 zz=>?_)
 obtain ⟨x,H5,I5,r5,y5,st5,fr5⟩:=zz
 have I5':=I5.pinned (stat fr5) (T.obj _ _ st5)
 refine CZ hp (thn (hg _ s5 σ3 H5 x u _ I5' r5 (step x H5 y5)) fun _ s6 zz=>?_)
 obtain ⟨σ6,H6,I6,q6⟩:=zz
 refine CZ hp (thn (hb _ s6 σ6 H6 _ I6 q6) fun f s7 q7=>?_)
 have again:∀{σ7:St} {H7:Hp},Inv X (pins++hV fp s5.heap) σ7 H7 s7->N σ7 H7->∃ m,m<n/\∃ i σ' H',Inv X pins σ' H' s7/\tn i s7.heap/\(∀b∈fp,H' b=none)/\W i m σ' H':=fun {σ7 H7} I7 n7=>by
  obtain ⟨m',hm,w7⟩:=hN σ7 H7 n7
  refine ⟨m',hm,i+1,σ7,H7,I7.unpinned,T.keep _ _ _ st5 fun b hb o e=>(I7.pin (b,o) (Bi _ (Bi _ (cQ hb e)))).1,fun b hb=>?_,w7⟩
  obtain ⟨o,e,d⟩:=T.obj _ _ st5 b hb
  exact (I7.pin (b,o) (Bi _ (Bi _ (cQ hb e)))).2.1
 cases f with
 | next=>obtain ⟨σ7,H7,I7,n7⟩:=q7;exact again I7 n7
 | cont=>obtain ⟨σ7,H7,I7,n7⟩:=q7;exact again I7 n7
 | brk=>obtain ⟨σ7,H7,I7,q7⟩:=q7;exact ⟨σ7,H7,I7.unpinned,q7⟩
 | ret v=>obtain ⟨x7,σ7,H7,I7,r7,q7⟩:=q7;exact ⟨x7,σ7,H7,I7.unpinned,r7,q7⟩)
theorem cO (hp:PassesOwn (model X.prog X.w) X.A X.env X.xe)(hc:QT X c tt)(hb:QSs X body s):QS X (.While c body [] pos) (yl tt s):=.mk (by
 have hc:=hc.to
 have hb:=hb.to
 intro pins s U H D I h
 obtain ⟨W,⟨m0,w0⟩,turn⟩:=h
 refine wpAny_While (codeAny_whileLoop (fun n s'=>∃ σ' H',Inv X pins σ' H' s'/\W n σ' H') ?_ m0 ⟨U,H,I,w0⟩)
 rintro n s1 ⟨σ1,H1,I1,w1⟩
 refine CZ hp (thn (hc pins s1 σ1 H1 _ I1 (turn n σ1 H1 w1)) fun b s2 zz=>?_)
 obtain ⟨H2,I2,q2⟩:=zz
 cases b with
 | true =>
  obtain ⟨N,hN,q2⟩:=q2
  rw [Az rfl]
  refine CZ hp (thn (hb pins s2 σ1 H2 _ I2 q2) fun f s3 q3=>?_)
  cases f with
  | next =>
   obtain ⟨σ3,H3,I3,n3⟩:=q3
   obtain ⟨m',hm,w3⟩:=hN σ3 H3 n3
   exact ⟨m',hm,σ3,H3,I3,w3⟩
  | cont =>
   obtain ⟨σ3,H3,I3,n3⟩:=q3
   obtain ⟨m',hm,w3⟩:=hN σ3 H3 n3
   exact ⟨m',hm,σ3,H3,I3,w3⟩
  | brk=>exact q3
  | ret v=>exact q3
 | false =>
  rw [Ay AL]
  exact D0 ⟨σ1,H2,I2,q2⟩)
end
end
end L2
namespace L2
open PySem PySem.Spec PyProof.Rows
open PySem.SeqAt (EqAt RcAt RcNeAt)
def okV:V->Bool
 | .byt _=>false
 | .flt _=>false
 | _=>true
inductive Al (K:W.Frag)(H:Hp):Nat->V->V->Prop
 | same {n:Nat} {x:V}:okV x=true->Al K H n x x
 | tup {n:Nat} {a b:Addr} {xs ys:List V}:SqT K H a xs->SqT K H b ys->xs.length=ys.length->(∀(i:Nat) (x y:V),xs[i]?=some x->ys[i]?=some y->Al K H n x y)->Al K H (n+1) (.ref a) (.ref b)
 | lst {n:Nat} {a b:Addr} {xs ys:List V}:SqL K H a xs->SqL K H b ys->xs.length=ys.length->(∀(i:Nat) (x y:V),xs[i]?=some x->ys[i]?=some y->Al K H n x y)->Al K H (n+1) (.ref a) (.ref b)
theorem Vals.at {xs:List V}{us:List Value}(r:Vals xs us){j:Nat}(h:j<us.length):∃ x,xs[j]?=some x/\RelV x us[j]:=by
 have h1:j<xs.length:=by rw [r.length];exact h
 have e:xs[j]?=some xs[j]:=tx h1
 obtain ⟨u,hu,ru⟩:=r.get e
 rw [tx h] at hu
 cases hu
 exact ⟨_,e,ru⟩
section
variable {X:Cx}
theorem Al.eqAt (I:Inv X pins U H s){x:V}(h:Al X.K H n x y):∀{v u:Value} (A:Around),RelV x v->RelV y u->A.units+n<cLine->EqAt A s v u true:=by
 induction h with
 | @same n x hk =>
  intro v u A rx ry hu
  cases x with
  | non=>cases rx;cases ry;exact Fs _
  | bl b=>cases rx;cases ry;exact Fs _
  | int i =>
   obtain ⟨t,rfl⟩:=rx
   obtain ⟨t',rfl⟩:=ry
   have:=EqAt.int_int (A:=A) (s:=s) i t i t'
   rwa [Cg] at this
  | str i =>
   obtain ⟨t,rfl⟩:=rx
   obtain ⟨t',rfl⟩:=ry
   have:=EqAt.str_str (A:=A) (s:=s) i t i t'
   rwa [Cg] at this
  | byt b=>cases hk
  | flt b=>cases hk
  | ref a=>cases rx;cases ry;exact Fs _
  | ty a=>cases rx;cases ry;exact Fs _
 | @tup n a b xs ys ha hb hl hs ih =>
  intro v u A rx ry hu
  cases rx
  cases ry
  by_cases hab:a=b
  .subst hab;exact Fs _
  obtain ⟨its,r,ht,_⟩:=I.tuple ha
  obtain ⟨its2,r2,ht2,_⟩:=I.tuple hb
  have e1:=r.length
  have e2:=r2.length
  have q:=RcAt.tuples (e:=fun _=>true) ht ht2 (A:=A) (Bj (Cc _ _) hu) (fun j h1 h2=>by
   obtain ⟨x,ex,rx⟩:=r.at (j:=j) (by simpa using h1)
   obtain ⟨y,ey,ry⟩:=r2.at (j:=j) (by simpa using h2)
   have:=ih j x y ex ey A.in1 rx ry (by show A.units+1+n<cLine;lia)
   simpa using this)
  have z:((List.range (min its.toArray.size its2.toArray.size)).all (fun _=>true)&&its.toArray.size == its2.toArray.size)=true:=by
   simp;lia
  rw [z] at q
  exact EqAt.of_refs hab q
 | @lst n a b xs ys ha hb hl hs ih =>
  intro v u A rx ry hu
  cases rx
  cases ry
  by_cases hab:a=b
  .subst hab;exact Fs _
  obtain ⟨its,r,ht,_⟩:=I.list ha
  obtain ⟨its2,r2,ht2,_⟩:=I.list hb
  have e1:=r.length
  have e2:=r2.length
  have q:=RcAt.lists (e:=fun _=>true) ht.isList ht2.isList (A:=A) (by simp;lia) (Bj (Cc _ _) hu) (fun j h1 h2=>by
   obtain ⟨x,ex,rx⟩:=r.at (j:=j) (by simpa using h1)
   obtain ⟨y,ey,ry⟩:=r2.at (j:=j) (by simpa using h2)
   have:=ih j x y ex ey A.in1 rx ry (by show A.units+1+n<cLine;lia)
   simpa using this)
  have z:((List.range its.toArray.size).all (fun _=>true))=true:=by simp
  rw [z] at q
  exact EqAt.of_refs hab q
def AlL (K:W.Frag)(H:Hp)(n:Nat)(xs ys:List V):Prop:=xs.length=ys.length/\∀(i:Nat) (x y:V),xs[i]?=some x->ys[i]?=some y->Al K H n x y
def ze (K:W.Frag)(b:Bool):R2:=fun x y H Q=>∃ p q xs ys,x=.ref p/\y=.ref q/\SqT K H p xs/\SqT K H q ys/\AlL K H 8 xs ys/\Q (.bl b) H
def yZ (K:W.Frag)(b:Bool):R2:=fun x y H Q=>∃ p q xs ys,x=.ref p/\y=.ref q/\SqL K H p xs/\SqL K H q ys/\AlL K H 8 xs ys/\Q (.bl b) H
theorem yC (hu:X.A.units+100<cLine):OpR X (compareOp .Eq) (ze X.K true):=by
 intro pins s U H x y v u Q I rx ry h
 obtain ⟨a,b,xs,ys,rfl,rfl,ha,hb,⟨hl,al⟩,q⟩:=h
 cases rx
 cases ry
 obtain ⟨its,r,ht,_⟩:=I.tuple ha
 obtain ⟨its2,r2,ht2,_⟩:=I.tuple hb
 have e1:=r.length
 have e2:=r2.length
 refine Fd (e:=fun _=>true) ht ht2 Am (fun j h1 h2=>?_) ⟨.bl true,H,I,?_,q⟩
 .obtain ⟨x,ex,rx⟩:=r.at (j:=j) (by simpa using h1)
  obtain ⟨y,ey,ry⟩:=r2.at (j:=j) (by simpa using h2)
  have:=(al j x y ex ey).eqAt I X.A.in1 rx ry (by show X.A.units+1+8<cLine;lia)
  simpa using this
 show Value.bool _=Value.bool true
 simp;lia
theorem xX (hu:X.A.units+100<cLine):OpR X (compareOp .NotEq) (ze X.K false):=by
 intro pins s U H x y v u Q I rx ry h
 obtain ⟨a,b,xs,ys,rfl,rfl,ha,hb,⟨hl,al⟩,q⟩:=h
 cases rx
 cases ry
 obtain ⟨its,r,ht,_⟩:=I.tuple ha
 obtain ⟨its2,r2,ht2,_⟩:=I.tuple hb
 have e1:=r.length
 have e2:=r2.length
 refine SeqAt.RcNeAt.tuples (e:=fun _=>true) ht ht2 Am (fun j h1 h2=>?_) _ _ _ _ ⟨.bl false,H,I,?_,q⟩
 .obtain ⟨x,ex,rx⟩:=r.at (j:=j) (by simpa using h1)
  obtain ⟨y,ey,ry⟩:=r2.at (j:=j) (by simpa using h2)
  have:=(al j x y ex ey).eqAt I X.A.in1 rx ry (by show X.A.units+1+8<cLine;lia)
  simpa using this
 show Value.bool _=Value.bool false
 simp;lia
theorem vY (hu:X.A.units+100<cLine):OpR X (compareOp .Eq) (yZ X.K true):=by
 intro pins s U H x y v u Q I rx ry h
 obtain ⟨a,b,xs,ys,rfl,rfl,ha,hb,⟨hl,al⟩,q⟩:=h
 cases rx
 cases ry
 obtain ⟨its,r,ht,_⟩:=I.list ha
 obtain ⟨its2,r2,ht2,_⟩:=I.list hb
 have e1:=r.length
 have e2:=r2.length
 refine SeqAt.eq_listAt (e:=fun _=>true) ht.isList ht2.isList (by simp;lia) Am (fun j h1 h2=>?_) ⟨.bl true,H,I,?_,q⟩
 .obtain ⟨x,ex,rx⟩:=r.at (j:=j) (by simpa using h1)
  obtain ⟨y,ey,ry⟩:=r2.at (j:=j) (by simpa using h2)
  have:=(al j x y ex ey).eqAt I X.A.in1 rx ry (by show X.A.units+1+8<cLine;lia)
  simpa using this
 show Value.bool _=Value.bool true
 simp
theorem vV (hu:X.A.units+100<cLine):OpR X (compareOp .NotEq) (yZ X.K false):=by
 intro pins s U H x y v u Q I rx ry h
 obtain ⟨a,b,xs,ys,rfl,rfl,ha,hb,⟨hl,al⟩,q⟩:=h
 cases rx
 cases ry
 obtain ⟨its,r,ht,_⟩:=I.list ha
 obtain ⟨its2,r2,ht2,_⟩:=I.list hb
 have e1:=r.length
 have e2:=r2.length
 refine SeqAt.RcNeAt.lists (e:=fun _=>true) ht.isList ht2.isList (by simp;lia) Am (fun j h1 h2=>?_) _ _ _ _ ⟨.bl false,H,I,?_,q⟩
 .obtain ⟨x,ex,rx⟩:=r.at (j:=j) (by simpa using h1)
  obtain ⟨y,ey,ry⟩:=r2.at (j:=j) (by simpa using h2)
  have:=(al j x y ex ey).eqAt I X.A.in1 rx ry (by show X.A.units+1+8<cLine;lia)
  simpa using this
 show Value.bool _=Value.bool false
 simp
end
theorem Room.u100 {k:Nat}(r:Room k A):A.units+100<cLine:=by have:=r.un;lia
theorem AlL.same (h:∀x∈xs,okV x=true):AlL K H n xs xs:=⟨rfl,fun i x y e1 e2=>by
 rw [e1] at e2
 cases e2
 exact .same (h x (AQ e1))⟩
end L2
namespace Hm
open PySem L2
abbrev g (xs:List V)(i:Nat):V:=xs.getD i .non
def sw (xs:List V)(i j:Nat):List V:=(xs.set i (g xs j)).set j (g xs i)
structure Od (lt:V->V->Bool):Prop where
 as:∀a b,lt a b=true->lt b a=false
 nt:∀a b c,lt a b=false->lt b c=false->lt a c=false
theorem aS:(sw xs i j).length=xs.length:=by simp [sw]
theorem g_get (h:i<xs.length):g xs i=xs[i]:=by simp [g,AD,h]
theorem cw (hi:i<xs.length)(hj:j<xs.length):(sw xs i j).Perm xs:=by
 unfold sw
 rw [g_get hi,g_get hj]
 exact List.set_set_perm hi hj
def les (lt:V->V->Bool)(xs:List V)(p:Nat):Nat:=if 2*p+2<xs.length/\lt (g xs (2*p+2)) (g xs (2*p+1))=true then 2*p+2 else 2*p+1
def kids (n p:Nat):Nat:=if 2*p+2<n then 2 else if 2*p+1<n then 1 else 0
def dn (lt:V->V->Bool):Nat->List V->Nat->Nat->List V×Nat
 | 0,xs,_,lk=>(xs,lk)
 | f+1,xs,p,lk=>if 2*p+1<xs.length then
   if lt (g xs (les lt xs p)) (g xs p)=true then dn lt f (sw xs p (les lt xs p)) (les lt xs p) (lk+kids xs.length p) else (xs,lk+kids xs.length p)
  else (xs,lk)
def up (lt:V->V->Bool):Nat->List V->Nat->Nat->List V×Nat
 | 0,xs,_,lk=>(xs,lk)
 | f+1,xs,p,lk=>if 0<p then
   if lt (g xs p) (g xs ((p-1) / 2))=true then up lt f (sw xs p ((p-1) / 2)) ((p-1) / 2) (lk+1) else (xs,lk+1)
  else (xs,lk)
theorem eJ {lt:V->V->Bool}{p:Nat}:2*p+1<=les lt xs p:=by unfold les;split <;> lia
theorem cC {lt:V->V->Bool}{p:Nat}(h:2*p+1<xs.length):les lt xs p<xs.length:=by unfold les;split <;> lia
theorem dn_len {lt:V->V->Bool}:∀{f:Nat} {xs:List V} {p lk:Nat},(dn lt f xs p lk).1.length=xs.length
 | 0,xs,p,lk=>rfl
 | f+1,xs,p,lk=>by
  unfold dn
  split
  .split
   .rw [dn_len,aS]
   .rfl
  .rfl
theorem dn_perm {lt:V->V->Bool}:∀{f:Nat} {xs:List V} {p lk:Nat},(dn lt f xs p lk).1.Perm xs
 | 0,xs,p,lk=>.refl _
 | f+1,xs,p,lk=>by
  unfold dn
  split
  .rename_i h
   split
   .exact dn_perm.trans (cw Am (cC h))
   .exact .refl _
  .exact .refl _
theorem dJ {lt:V->V->Bool}:∀{f:Nat} {xs:List V} {p lk:Nat},p<xs.length->(up lt f xs p lk).1.Perm xs
 | 0,xs,p,lk,_=>.refl _
 | f+1,xs,p,lk,hp=>by
  unfold up
  split
  .split
   .exact (dJ (by rw [aS];lia)).trans (cw Am Am)
   .exact .refl _
  .exact .refl _
def HF (lt:V->V->Bool)(q:Nat)(xs:List V):Prop:=∀k,0<k->k<xs.length->q<=(k-1) / 2->lt (g xs k) (g xs ((k-1) / 2))=false
def IsH (lt:V->V->Bool)(xs:List V):Prop:=∀k,0<k->k<xs.length->lt (g xs k) (g xs ((k-1) / 2))=false
def mk (lt:V->V->Bool):Nat->List V->Nat->List V×Nat
 | 0,xs,lk=>(xs,lk)
 | k+1,xs,lk=>mk lt k (dn lt xs.length xs k 0).1 (lk+(dn lt xs.length xs k 0).2)
theorem mk_perm {lt:V->V->Bool}:∀{k:Nat} {xs:List V} {lk:Nat},(mk lt k xs lk).1.Perm xs
 | 0,_,_=>.refl _
 | k+1,xs,lk=>by unfold mk;exact mk_perm.trans dn_perm
end Hm
namespace L2
open PySem
def vW:Option HO->List V
 | some (.tup [.int i,.str n,.int j])=>[.int i,.str n,.int j]
 | _=>[.int 0,.str "",.int 0]
theorem we (o:Option HO):gr (vW o):=by
 unfold vW
 split
 .exact ⟨_,_,_,rfl⟩
 exact ⟨_,_,_,rfl⟩
def bG (H:Hp):V->List V
 | .ref a=>vW (H a)
 | _=>[.int 0,.str "",.int 0]
theorem dO (H:Hp)(x:V):gr (bG H x):=by
 unfold bG
 split
 .exact we _
 exact ⟨_,_,_,rfl⟩
theorem uX {l:List V}(h:H a=some (.tup l))(e:gr l):bG H (.ref a)=l:=by
 obtain ⟨i,n,j,rfl⟩:=e
 show vW (H a)=_
 rw [h]
 rfl
def ltT (t:V->List V)(a b:V):Bool:=cP (t a) (t b)
structure EnR (t:V->List V)(H:Hp)(xs:List V):Prop where
 tot:∀x,gr (t x)
 mem:∀x∈xs,∃ a,x=.ref a/\H a=some (.tup (t x))
section
variable {t:V->List V}{H H':Hp}{xs ys:List V}
theorem EnR.sub (e:EnR t H xs)(s:∀y∈ys,y∈xs):EnR t H ys:=⟨e.tot,fun x hx=>e.mem x (s x hx)⟩
theorem EnR.move (e:EnR t H xs)(s:∀b l,H b=some (.tup l)->H' b=some (.tup l)):EnR t H' xs:=⟨e.tot,fun x hx=>by
 obtain ⟨a,rfl,h⟩:=e.mem x hx
 exact ⟨a,rfl,s _ _ h⟩⟩
theorem EnR.put (e:EnR t H xs){o:HO}(h:H p=some (.lst zs)):EnR t (upd H p o) xs:=e.move fun b l q=>by rw [ao (bv q h (by intro z;cases z))];exact q
theorem EnR.bar (e:EnR t H xs){r:Addr}(h:H r=some (.lst zs))(s:∀b o,H b=some o->b≠r->H' b=some o):EnR t H' xs:=e.move fun b l q =>
 s b _ q (bv q h (by intro z;cases z))
theorem EnR.fit (e:EnR t H xs)(x y:V):oi (t x) (t y):=yf (e.tot _) (e.tot _)
theorem EnR.gat (e:EnR t H xs)(h:i<xs.length):∃ a,Hm.g xs i=.ref a/\H a=some (.tup (t (Hm.g xs i)))/\Hm.g xs i∈xs/\atI xs (i:Int)=some (Hm.g xs i):=by
 have hm:Hm.g xs i∈xs:=by rw [Hm.g_get h];exact BE h
 obtain ⟨a,e1,h1⟩:=e.mem _ hm
 refine ⟨a,e1,h1,hm,br ?_⟩
 rw [Hm.g_get h]
 exact tx h
end
theorem xU (h:i<xs.length):atI xs (i:Int)=some (Hm.g xs i):=br (by rw [Hm.g_get h];exact tx h)
end L2
namespace Hm
open PySem L2
variable {lt:V->V->Bool}{xs:List V}{f p lk:Nat}
theorem oE (h:¬ 2*p+1<xs.length):dn lt f xs p lk=(xs,lk):=by
 cases f with
 | zero=>rfl
 | succ f=>unfold dn;rw [Ay h]
theorem fk (h:2*p+1<xs.length)(q:lt (g xs (les lt xs p)) (g xs p)=false):dn lt (f+1) xs p lk=(xs,lk+kids xs.length p):=by
 unfold dn;rw [Az h,Ay (by rw [q];exact AL)]
theorem me (h:2*p+1<xs.length)(q:lt (g xs (les lt xs p)) (g xs p)=true):dn lt (f+1) xs p lk=dn lt f (sw xs p (les lt xs p)) (les lt xs p) (lk+kids xs.length p):=by
 conv=>lhs;unfold dn
 rw [Az h,Az q]
theorem oA (h:¬ 0<p):up lt f xs p lk=(xs,lk):=by
 cases f with
 | zero=>rfl
 | succ f=>unfold up;rw [Ay h]
theorem oU (h:0<p)(q:lt (g xs p) (g xs ((p-1) / 2))=false):up lt (f+1) xs p lk=(xs,lk+1):=by
 unfold up;rw [Az h,Ay (by rw [q];exact AL)]
theorem wR (h:0<p)(q:lt (g xs p) (g xs ((p-1) / 2))=true):up lt (f+1) xs p lk=up lt f (sw xs p ((p-1) / 2)) ((p-1) / 2) (lk+1):=by
 conv=>lhs;unfold up
 rw [Az h,Az q]
theorem oO (h:2*p+2<xs.length):(les lt xs p:Int)=2*(p:Int)+1+(if lt (g xs (2*p+2)) (g xs (2*p+1))=true then 1 else 0):=by
 unfold les
 by_cases q:lt (g xs (2*p+2)) (g xs (2*p+1))=true
 .rw [Az ⟨h,q⟩,Az q];lia
 rw [Ay (fun z=>q z.2),Ay q];lia
theorem pI (h:¬ 2*p+2<xs.length):les lt xs p=2*p+1:=by
 unfold les
 rw [Ay (fun z=>h z.1)]
theorem eT (hi:i<xs.length)(hj:j<xs.length):∀y∈sw xs i j,y∈xs:=fun y hy=>(cw hi hj).mem_iff.mp hy
end Hm
namespace L2
open PySem
theorem qI {Q:VK}(Pv:Nat->List V->Hp->Prop)(h0:Pv 0 [] (upd H D (.lst [])))(hD:∀i ys H,Pv i ys H->H D=some (.lst ys)/\SqL K H a xs)(hs:∀i x ys H,xs[i]?=some x->Pv i ys H->tt (some x::bW cap U) H fun b H3 =>
   if b=true then te (some x::bW cap U) H3 fun v H4=>H4 D=some (.lst ys)/\ys.length<sizeLine/\∃ m',m'<xs.length-i/\m'=xs.length-(i+1)/\i+1<=xs.length/\Pv (i+1) (ys++[v]) (upd H4 D (.lst (ys++[v])))
   else ∃ m',m'<xs.length-i/\m'=xs.length-(i+1)/\i+1<=xs.length/\Pv (i+1) ys H3)(hd:∀ys H,Pv xs.length ys H->Q (.ref D) H):
  CW (Itl K a) tt te cap U H D (fun H=>Q (.ref D) H):=by
 refine ⟨fun i m ys H=>m=xs.length-i/\i<=xs.length/\Pv i ys H,⟨xs.length,An,BA _,h0⟩,?_⟩
 rintro i m ys H ⟨rfl,hi,p⟩
 obtain ⟨q1,q⟩:=hD i ys H p
 refine ⟨q1,?_⟩
 by_cases hlt:i<xs.length
 .refine .inr ⟨⟨xs,xs[i],q,by simp [hlt]⟩,fun x H' y=>?_⟩
  obtain ⟨e,y⟩:=y
  subst e
  exact hs i x ys _ (y xs q) p
 have e:i=xs.length:=by lia
 subst e
 exact .inl ⟨⟨xs,q,Av _⟩,hd ys H p⟩
end L2
namespace Hm
open PySem L2
def wy:Nat->Nat->List Nat
 | 0,_=>[]
 | f+1,p=>if 0<p then (p-1) / 2::wy f ((p-1) / 2) else []
end Hm
namespace L2
open PySem PySem.Spec PyProof.Rows
def Itd (lo:Int)(n:Nat):It:=⟨fun i _=>i<n,fun i H x H'=>H'=H/\x=.int (lo-i),fun i _=>n<=i⟩
theorem sg (a b:Int):Builtin.Range.rangeSize a b (-1)=((a-b).toNat:Int):=by
 unfold Builtin.Range.rangeSize
 rw [Ay Ak]
 split
 .rw [show -(-1:Int)=1 by decide,Int.ediv_one];lia
 lia
theorem rK {a b:Int}(ha:-(2 ^ 62)<=a)(ha':a<2 ^ 62)(hb:-(2 ^ 62)<=b)(hb':b<2 ^ 62):Builtin.Range.small a b (-1)=true:=by
 unfold Builtin.Range.small
 rw [sg]
 simp only [Builtin.Range.rangeFitsLong,Bq,Ft,Bw,Dz,show ¬ ((-1:Int)>0) by decide,Bo]
 lia
theorem lC {P:Program}{K:PySem.W.Frag}(it:Addr)(lo:Int)(n:Nat):nZ P w K tg (Itd lo n) [it] it (fun i h=>IsRangeIter h it (lo+(i:Nat)*(-1)) ((n:Int)-(i:Nat)) (-1)) where
 mem:=by simp
 obj:=fun i h st b hb=>by
  have e:b=it:=by simpa using hb
  subst e
  exact ⟨_,st,fun v z=>by
   have z':Data.fields _=Data.cell v:=z
   cases z'⟩
 keep:=fun i h h' st k=>k it An _ st
 item:=by
  intro X hP hw hK hc i pins s U H E I hf st hg
  subst hP hw hK
  obtain ⟨f0,f1,f2,f3,f4,f5⟩:=hf it An
  have W:=Walks.range (prog:=X.prog) (w:=X.w) (I.ok.hd hc) it lo (-1) n
  refine W.item i s _ _ hg st fun v h' tk hv st' kk=>?_
  obtain ⟨t,rfl⟩:=hv
  have I1:Inv X pins U H { s with heap:=h',toks:=tk }:=I.turned (fun b o hb e=>kk b o (by simpa using hb) e) f0 f1 f3 f4 f5
  refine ⟨_,rfl,oQ (s:={ s with heap:=h',toks:=tk }) (n:="range_iterator") st' rfl rfl Ak ⟨.int (lo-i),H,I1,⟨t,?_⟩,⟨rfl,rfl⟩,st',fun b hb=>(hf b hb).1⟩⟩
  rw [show lo+(i:Int)*(-1)=lo-i by lia]
 done:=by
  intro X hP hw hK hc i pins s U H E I hf st hg
  subst hP hw hK
  obtain ⟨f0,f1,f2,f3,f4,f5⟩:=hf it An
  exact wpAny_pyNext_range_end (I.ok.hd hc) st (by have:n<=i:=hg;lia) fun h' eb=>⟨rfl,I.turned (t':=s.toks) (fun b o hb e=>eb b o hb e) f0 f1 f3 f4 f5⟩
 self:=fun _ _ _ _ _ st h=>wpAny_pyIter_rangeiter st h
section
variable {X:Cx}{tg:Expr}
theorem qw {R:It->Hp->Prop}{lo hi:Int}{t u v:Tok}{tk:Nat}(I:Inv X pins U H s)(h1:-(2 ^ 62)<=lo)(h2:lo<2 ^ 62)(h3:-(2 ^ 62)<=hi)(h4:hi<2 ^ 62)(q:R (Itd lo (lo-hi).toNat) H):wpAny (model X.prog X.w) X.A (pyIter (.ref s.heap.objs.size)) (PIE X pins U tg R) E { s with heap:=s.heap.push { cls:=.type "range",data:=.fields #[.int lo t,.int hi u,.int (-1) v] },toks:=tk }:=by
 refine wpAny_pyIter_range (IsRange.new ..) (rK h1 h2 h3 h4) ?_
 have I1:Inv X pins U H { s with heap:=s.heap.push { cls:=.type "range",data:=.fields #[.int lo t,.int hi u,.int (-1) v] },toks:=tk }:=I.kept fun b o e=>Ap _ e
 refine ⟨(s.heap.push { cls:=.type "range",data:=.fields #[.int lo t,.int hi u,.int (-1) v] }).objs.size,[(s.heap.push { cls:=.type "range",data:=.fields #[.int lo t,.int hi u,.int (-1) v] }).objs.size],_,_,H,rfl,
  I1.kept (t':=tk) fun b o e=>Ap _ e,lC _ lo (lo-hi).toNat,?_,fun b hb=>?_,q⟩
 .have e1:lo+((0:Nat):Int)*(-1)=lo:=by simp
  have e2:(((lo-hi).toNat:Nat):Int)-((0:Nat):Int)=Builtin.Range.rangeSize lo hi (-1):=by rw [sg];lia
  show IsRangeIter _ _ (lo+((0:Nat):Int)*(-1)) ((((lo-hi).toNat:Nat):Int)-((0:Nat):Int)) (-1)
  rw [e1,e2]
  exact AF _ rfl
 have e:b=(s.heap.push { cls:=.type "range",data:=.fields #[.int lo t,.int hi u,.int (-1) v] }).objs.size:=by simpa using hb
 subst e
 exact I1.fpOk (Av _) (I1.hok.fresh (Av _))
def yK (ta:TA):TI:=fun U H R=>ta U H fun vs H1=>∃ i j:Int,vs=[.int i,.int j,.int (-1)]/\(-(2 ^ 62)<=i/\i<2 ^ 62/\-(2 ^ 62)<=j/\j<2 ^ 62)/\R (Itd i (i-j).toNat) H1
theorem i8 {a b c:Expr}{p:Pos}(hg:Gl X "range")(hm:X.mg "range"=none)(ha:QA X [a,b,c] ta)(hs:starEach [a,b,c] X.env=[(false,eval a X.env),(false,eval b X.env),(false,eval c X.env)]:=by rfl)(hs2:starEach [b,c] X.env=[(false,eval b X.env),(false,eval c X.env)]:=by rfl):
  QI X tg (.Call (.Name "range" p) [a,b,c] [] pos) (yK ta):=.mk (by
 have ha:=ha.to
 intro pins s U H R I h
 refine Call_ (cB I hg hm boot_range (Bt (thn (ha pos pins s U H _ I h) fun us s1 ⟨vs,H1,I1,r1,q1⟩=>?_) (by rw [hs,hs2]) (by rw [hs2];rfl)))
 obtain ⟨i,j,e,⟨q1,q2,q3,q4⟩,q⟩:=q1
 subst e
 cases r1 with
 | cons r rr =>
  cases rr with
  | cons r' rr =>
   cases rr with
   | cons r'' rr =>
    cases rr
    obtain ⟨t,rfl⟩:=r
    obtain ⟨t',rfl⟩:=r'
    obtain ⟨t'',rfl⟩:=r''
    exact call_range_3 Ak (qw I1 q1 q2 q3 q4 q) (.inl (PyProof.noPylong_small Ak)))
theorem iQ {lo:Int}{g:TG}{D:iq}(Pv:Nat->St->Hp->Prop)(h0:Pv 0 U H)(hs:∀i U H,i<n->Pv i U H->g (.int (lo-i)) U H fun σ2 H2=>tb { D with nx:=Pv (i+1),ct:=Pv (i+1),bk:=D.nx } σ2 H2)(hd:∀U H,Pv n U H->D.nx U H):
  FW (Itd lo n) g tb D U H:=by
 refine ⟨fun i m U H=>m=n-i/\i<=n/\Pv i U H,⟨n,An,BA _,h0⟩,?_⟩
 rintro i m U H ⟨rfl,hi,p⟩
 by_cases hlt:i<n
 .refine .inr ⟨hlt,Pv (i+1),fun σ' H' p'=>⟨n-(i+1),Am,rfl,hlt,p'⟩,fun x H' y=>?_⟩
  obtain ⟨e,y⟩:=y
  subst e y
  exact hs i U _ hlt p
 have e:i=n:=by lia
 subst e
 exact .inl ⟨Av _,hd U H p⟩
end
end L2
namespace L2
open PySem
theorem bY {R:Hp->Prop}(Pv:Nat->List V->Hp->Prop)(h0:Pv 0 [] (upd H D (.lst [])))(hD:∀i ys H,Pv i ys H->H D=some (.lst ys)/\SqL K H a xs)(hs:∀i x ys H,xs[i]?=some x->Pv i ys H->tt (some x::bW cap U) H fun b H3 =>
   if b=true then te (some x::bW cap U) H3 fun v H4=>H4 D=some (.lst ys)/\ys.length<sizeLine/\∃ m',m'<xs.length-i/\m'=xs.length-(i+1)/\i+1<=xs.length/\Pv (i+1) (ys++[v]) (upd H4 D (.lst (ys++[v])))
   else ∃ m',m'<xs.length-i/\m'=xs.length-(i+1)/\i+1<=xs.length/\Pv (i+1) ys H3)(hd:∀ys H,Pv xs.length ys H->R H):
  CW (Itl K a) tt te cap U H D R :=
 qI (Q:=fun _ H=>R H) Pv h0 hD hs hd
end L2
namespace Hm
open PySem L2
def lgs (n:Nat):Nat->Nat
 | 0=>0
 | k+1=>lgs n k+(n / (k+1)).log2
def cutf (lt:V->V->Bool)(xs:List V):List V×Nat :=
 if xs.dropLast=[] then ([],0) else dn lt xs.dropLast.length (xs.dropLast.set 0 (g xs (xs.length-1))) 0 0
theorem c5 (h:2<=xs.length):∃ mid,xs=g xs 0::mid++[g xs (xs.length-1)]/\xs.dropLast=g xs 0::mid:=by
 cases xs with
 | nil=>simp at h
 | cons a l =>
  have hl:l≠[]:=by intro e;rw [e] at h;simp at h
  refine ⟨l.dropLast,?_,?_⟩
  .show a::l=a::l.dropLast++[g (a::l) l.length]
   have:g (a::l) l.length=l.getLast hl:=by
    rw [g_get An]
    rw [E7]
    rw [List.getElem_cons]
    have:l.length≠0:=by intro e;exact hl (AY.mp e)
    simp [this]
   rw [this,Ci,EA]
  .show (a::l).dropLast=a::l.dropLast
   exact EB hl
theorem cH {lt:V->V->Bool}(h:xs.length=1):cutf lt xs=([],0):=by
 unfold cutf
 rw [Az]
 rw [<-AY,B8,h]
theorem fu {lt:V->V->Bool}{mid:List V}(e:xs.dropLast=g xs 0::mid):cutf lt xs=dn lt (mid.length+1) (g xs (xs.length-1)::mid) 0 0:=by
 unfold cutf
 rw [Ay (by rw [e];simp),e]
 rfl
theorem cutf_perm {lt:V->V->Bool}(h:0<xs.length):(g xs 0::(cutf lt xs).1).Perm xs:=by
 by_cases h2:2<=xs.length
 .obtain ⟨mid,e,e2⟩:=c5 h2
  rw [fu e2]
  refine (List.Perm.cons _ dn_perm).trans ?_
  conv=>rhs;rw [e]
  rw [Ci]
  refine List.Perm.cons _ ?_
  exact (BN (l₁:=[g xs (xs.length-1)]) (l₂:=mid))
 rw [cH Am]
 cases xs with
 | nil=>simp at h
 | cons a l =>
  have:l=[]:=AY.mp (by rw [A8] at h2;lia)
  subst this
  exact .refl _
end Hm
namespace L2
open PySem PySem.Spec PyProof.Rows
open PySem.SeqAt (EqAt RcAt RcNeAt)
theorem sM {o:Expr}{to:TE}{name:Str}{T id:String}{r:V->List V->Hp->VK->Prop}(pa:PlainAttrs T)(slot:Slot T name id)(hty:typeOf (.builtin id)=pure (.type "method_descriptor"))(hm:MtR X id r)(ho:QE X o to)(hbase:attributeBase o name X.env (eval o X.env)=eval o X.env:=by rfl)(hline:(apos.endLine == cpos.line)=true:=by rfl):QE X (.Call (.Attribute o name apos) [] [] cpos) (Ad X.K T r to):=.mk (by
 have ho:=ho.to
 intro pins s U H Q I h
 refine wpAny_Call_method0_late hbase hline (thn (ho pins s U H _ I h) fun v s1 zz=>?_)
 obtain ⟨x,H1,I1,r1,ty,q1⟩:=zz
 obtain ⟨h1,h2⟩:=uq I1 r1 ty
 exact ⟨T,id,pa,slot,hty,h1,h2,Dh rfl (PySem.evalArgs_none (hm pins s1 U H1 x [] v [] Q I1 r1 .nil q1))⟩)
theorem iW:QS X st (fun _ _ _=>False):=.mk (fun _ _ _ _ _ _ h=>h.elim)
end L2
namespace PySem
open Sem (wp)
namespace Heap
def TracedC (h base:Heap)(e:Addr)(cls a0:Value):Prop :=
 ∃ oe vs T oT ts,h.get? e=some oe/\(oe.cls=cls/\(vs[0]?=some a0/\vs[2]?=some .none))/\oe.data=.fields vs/\vs[1]?=some (.ref T)/\base.get? T=none/\T≠e/\h.get? T=some oT/\oT.data=.fields ts/\ts[3]?=some .none
end Heap
section
variable {M:Model}{A:Around}{E:Value->Shared->Prop}{s:Shared}
def Heap.FlyingC (base:Heap)(l:List Env)(e:Addr)(cls a0:Value)(h:Heap):Prop :=
 base.StaysIn h/\base.get? e=none/\h.FunFrames base l/\h.TracedC base e cls a0
end
end PySem
namespace L2
open PySem PySem.Spec PyProof.Rows
structure Ground (P:Program)(w:World)(fs:List Addr)(H H':Hp)(h B:Heap):Prop where
 ok:HOk P w H' B
 old:∀b o,h.get? b=some o->H b=none->b∉fs->B.get? b=some o
 there:∀b o,h.get? b=some o->b∉fs->∃ o',B.get? b=some o'
section
variable {X:Cx}{pins:List (Addr×Obj)}{U:St}{H H':Hp}{s s':Shared}{B:Heap}
def Kp (X:Cx)(pins:List (Addr×Obj))(U:St)(H':Hp)(s':Shared)(B:Heap):Prop:=∀h' t',B.StaysIn h'->s'.heap.UpToSlots h'->Inv X pins U H' { s' with heap:=h',toks:=t' }
def Kt (X:Cx)(pins:List (Addr×Obj))(U:St)(H':Hp)(s':Shared)(B:Heap):Prop:=∀h' t' e o,B.StaysIn h'->s'.heap.UpToSlots h'->B.get? e=none->e∉frs X.stack->ObjOk X.prog X.w (upd H' e o) h' e o->Inv X pins U (upd H' e o) { s' with heap:=h',toks:=t' }
def XP (X:Cx)(pins:List (Addr×Obj))(U:St)(E:XK)(v:Value)(s':Shared):Prop:=∃ (e C:Addr) (H':Hp) (B:Heap) (a0:Value),v=.ref e/\Heap.FlyingC B X.stack e (.ref C) a0 s'.heap /\
 Kp X pins U H' s' B/\Kt X pins U H' s' B/\HOk X.prog X.w H' B/\(∀b o,X.s₀.heap.get? b=some o->X.H₀ b=none->b∉X.ex->b∉frs X.stack->B.get? b=some o)/\(∀b o,X.s₀.heap.get? b=some o->b∉X.ex->b∉frs X.stack->∃ o',B.get? b=some o')/\E (.ref C) none H'
end
abbrev TEX:=St->Hp->VK->XK->Prop
end L2
namespace L2
open PySem PySem.W PySem.Spec PySem.Calls PyProof.Rows PySem.Builtin PySem.Builtin.ObjectAttr PySem.Builtin.Getset_descriptor
section
variable {X:Cx}
theorem ph {v:V}(hg:Gl X x)(hm:X.mg x=some u)(r:RelV v u)(hd:(x == ("__debug__":Str))=false:=by decide):QE X (.Name x pos) (tC v):=.mk (fun _ _ _ H _ I h=>km I hg hm ⟨v,H,I,r,h⟩ hd)
end
end L2
namespace Hm
open PySem L2
def wd (lt:V->V->Bool)(xs:List V):Nat->Nat->List Nat
 | 0,_=>[]
 | f+1,p=>if 2*p+1<xs.length then les lt xs p::wd lt xs f (les lt xs p) else []
variable {lt:V->V->Bool}
end Hm
namespace L2
open PySem PySem.Spec PyProof.Rows
section
variable {J:Type}[DecidableEq J]
def bp (kvs:List (J×V))(k:J):Option V:=(kvs.find? fun kv=>decide (kv.1=k)).map (·.2)
def aX (kvs:List (J×V))(k:J)(v:V):List (J×V) :=
 if (kvs.any fun kv=>decide (kv.1=k))=true then kvs.map (fun kv=>if kv.1=k then (kv.1,v) else kv) else kvs++[(k,v)]
def bD (kvs:List (J×V))(k:J):List (J×V):=kvs.filter fun kv=>decide (kv.1≠k)
theorem cL {p:J×V}{r:List (J×V)}{k:J}(e:p.1=k):bp (p::r) k=some p.2:=by simp [bp,BK,e]
theorem cI {p:J×V}{r:List (J×V)}{k:J}(e:¬ p.1=k):bp (p::r) k=bp r k:=by simp [bp,BK,e]
theorem lT (k:J):∀kvs:List (J×V),(kvs.any fun kv=>decide (kv.1=k))=(bp kvs k).isSome
 | []=>rfl
 | p::r=>by
  rw [DB]
  by_cases e:p.1=k
  .simp only [cL e,AO e,Bool.true_or,Option.isSome_some]
  .rw [cI e,AR e,Bool.false_or];exact lT k r
theorem dC (kvs:List (J×V))(k:J)(v:V):(aX kvs k v).length<=kvs.length+1:=by
 unfold aX
 split
 .rw [Ar];lia
 rw [As,A8,DZ];lia
theorem RelO.isSome_eq {o:Option V}{u:Option Value}(r:RelO o u):o.isSome=u.isSome:=by
 cases o with
 | none=>cases u with
  | none=>rfl
  | some _=>exact (show False from r).elim
 | some _=>cases u with
  | none=>exact (show False from r).elim
  | some _=>rfl
theorem RelO.getD {o:Option V}{u:Option Value}{d:V}{d':Value}(r:RelO o u)(rd:RelV d d'):RelV (o.getD d) (u.getD d'):=by
 cases o with
 | none=>cases u with
  | none=>exact rd
  | some _=>exact (show False from r).elim
 | some _=>cases u with
  | none=>exact (show False from r).elim
  | some _=>exact r
theorem KV.val {kvs:List (J×V)}{vs:List (J×Value)}(r:KV kvs vs)(k:J):RelO (bp kvs k) (valueAt vs k):=by
 unfold KV at r
 induction r with
 | nil=>exact True.intro
 | @cons p q ps qs h t ih =>
  obtain ⟨h1,h2⟩:=h
  by_cases e:p.1=k
  .have e':q.1=k:=h1.symm.trans e
   have b:valueAt (q::qs) k=some q.2:=by simp [valueAt,BK,e']
   rw [cL e,b];exact h2
  .have e':¬ q.1=k:=fun z=>e (h1.trans z)
   have b:valueAt (q::qs) k=valueAt qs k:=by simp [valueAt,BK,e']
   rw [cI e,b];exact ih
theorem KV.any {kvs:List (J×V)}{vs:List (J×Value)}(r:KV kvs vs)(k:J):(kvs.any fun kv=>decide (kv.1=k))=vs.any fun kv=>decide (kv.1=k):=by
 unfold KV at r
 induction r with
 | nil=>rfl
 | cons h t ih=>rw [DB,DB,ih,h.1]
theorem KV.repl {kvs:List (J×V)}{vs:List (J×Value)}(r:KV kvs vs)(k:J)(ry:RelV y u):
  KV (kvs.map fun kv=>if kv.1=k then (kv.1,y) else kv) (vs.map fun kv=>if kv.1=k then (kv.1,u) else kv):=by
 unfold KV at r ⊢
 induction r with
 | nil=>exact .nil
 | @cons p q ps qs h t ih =>
  rw [AN,AN]
  refine .cons ?_ ih
  obtain ⟨h1,h2⟩:=h
  by_cases e:p.1=k
  .rw [Az e,Az (h1.symm.trans e)];exact ⟨h1,ry⟩
  .rw [Ay e,Ay (fun z=>e (h1.trans z))];exact ⟨h1,h2⟩
theorem KV.put {kvs:List (J×V)}{vs:List (J×Value)}(r:KV kvs vs)(k:J)(ry:RelV y u):KV (aX kvs k y) (stored vs k u):=by
 unfold aX stored
 rw [r.any k]
 by_cases e:(vs.any fun kv=>decide (kv.1=k))=true
 .rw [Az e,Az e];exact r.repl k ry
 rw [Ay e,Ay e];exact Paired.snoc r ⟨rfl,ry⟩
theorem KV.drop {kvs:List (J×V)}{vs:List (J×Value)}(r:KV kvs vs)(k:J):KV (bD kvs k) (without vs k):=by
 unfold KV at r ⊢
 unfold bD without
 induction r with
 | nil=>exact .nil
 | @cons p q ps qs h t ih =>
  obtain ⟨h1,h2⟩:=h
  rw [Cj,Cj]
  by_cases e:p.1=k
  .have a:¬ decide (p.1≠k)=true:=by simp [e]
   have b:¬ decide (q.1≠k)=true:=by simp [h1.symm.trans e]
   rw [Ay a,Ay b];exact ih
  .have e':¬ q.1=k:=fun z=>e (h1.trans z)
   have a:decide (p.1≠k)=true:=by simp [e]
   have b:decide (q.1≠k)=true:=by simp [e']
   rw [Az a,Az b];exact .cons ⟨h1,h2⟩ ih
theorem KV.keys {kvs:List (J×V)}{vs:List (J×Value)}(r:KV kvs vs):kvs.map (·.1)=vs.map (·.1):=by
 unfold KV at r
 induction r with
 | nil=>rfl
 | cons h t ih=>rw [AN,AN,ih,h.1]
theorem KV.length {kvs:List (J×V)}{vs:List (J×Value)}(r:KV kvs vs):kvs.length=vs.length:=Bk r
theorem sN (kvs:List (J×V))(k:J):(bD kvs k).length<=kvs.length:=BZ _ _
end
theorem dA {P:Program}{k:Key}(r:RelV (kV k) u):(mixKind P w).is k u=true:=by
 cases k with
 | inl i=>obtain ⟨t,e⟩:=(show ∃ t,u=Value.int i t from r);subst e;exact kP P w i t
 | inr x=>obtain ⟨t,e⟩:=(show ∃ t,u=Value.str x t from r);subst e;exact cz P w x t
theorem jv {P:Program}{w:World}:∀{ks:List Key} {us:List Value},Vals (ks.map kV) us->ItemsAre (mixKind P w) ks us
 | [],_,r=>by rw [CP] at r;cases r;exact .nil
 | k::ks,_,r=>by
  rw [AN] at r
  cases r with
  | cons h t=>exact .cons (dA h) (jv t)
abbrev KT (H:Hp):List (List Key×V)->List (List Key×Addr×Value)->Prop:=Paired fun p q=>p.1=q.1/\H q.2.1=some (.tup (p.1.map kV))/\RelV p.2 q.2.2
theorem KT.val {xs:List (List Key×Addr×Value)}(r:KT H kvs xs)(k:List Key):RelO (bp kvs k) ((atKey xs k).map (·.2)):=by
 induction r with
 | nil=>exact True.intro
 | @cons p q ps qs h t ih =>
  obtain ⟨h1,_,h2⟩:=h
  by_cases e:p.1=k
  .have e':q.1=k:=h1.symm.trans e
   have b:atKey (q::qs) k=some q.2:=by simp [atKey,BK,e']
   rw [cL e,b];exact h2
  .have e':¬ q.1=k:=fun z=>e (h1.trans z)
   have b:atKey (q::qs) k=atKey qs k:=by simp [atKey,BK,e']
   rw [cI e,b];exact ih
theorem KT.repl {xs:List (List Key×Addr×Value)}(r:KT H kvs xs)(k:List Key)(ry:RelV y u):
  KT H (kvs.map fun kv=>if kv.1=k then (kv.1,y) else kv) (xs.map (putAt k u)):=by
 induction r with
 | nil=>exact .nil
 | @cons p q ps qs h t ih =>
  rw [AN,AN]
  refine .cons ?_ ih
  obtain ⟨h1,h2,h3⟩:=h
  unfold putAt
  by_cases e:p.1=k
  .rw [Az e,Az (h1.symm.trans e)];exact ⟨h1,h2,ry⟩
  .rw [Ay e,Ay (fun z=>e (h1.trans z))];exact ⟨h1,h2,h3⟩
theorem KT.put {xs:List (List Key×Addr×Value)}(r:KT H kvs xs)(k:List Key){b:Addr}(hb:H b=some (.tup (k.map kV)))(ry:RelV y u):
  KT H (aX kvs k y) (storedH xs k b u):=by
 have e:(kvs.any fun kv=>decide (kv.1=k))=(atKey xs k).isSome:=by
  rw [lT,(r.val k).isSome_eq,Eg]
 unfold aX storedH
 rw [e]
 by_cases q:(atKey xs k).isSome=true
 .rw [Az q,Az q];exact r.repl k ry
 rw [Ay q,Ay q];exact Paired.snoc r ⟨rfl,hb,ry⟩
theorem KT.keeps {xs:List (List Key×Addr×Value)}(r:KT H kvs xs)(ht:∀b ys,H b=some (.tup ys)->H' b=some (.tup ys)):KT H' kvs xs :=
 Paired.mapP r fun _ _ z=>⟨z.1,ht _ _ z.2.1,z.2.2⟩
section
variable {P:Program}{w:World}{H:Hp}{h:Heap}{a:Addr}
theorem xa {u:HO}(ok:HOk P w H h)(e:Rd H a u):ObjOk P w H h a u:=e.ok ok
theorem gh {kvs:List (Key×V)}(ok:HOk P w H h)(e:Rd H a (.dK kvs)):kvs.length<=sizeLine/\(a == sysModules)=false/\∃ vs,KV kvs vs/\h.DictOf (mixKind P w) a vs :=
 show ObjOk P w H h a (.dK kvs) from xa ok e
theorem jw {kvs:List (Key×V)}(ok:HOk P w H h)(e:H a=some (.dK kvs)):kvs.length<=sizeLine/\(a == sysModules)=false/\∃ vs,KV kvs vs/\h.DictOf (mixKind P w) a vs:=gh ok (.inl e)
theorem fY {ks:List Key}(ok:HOk P w H h)(e:H a=some (.tup (ks.map kV))):(tupleKind (mixKind P w)).is h ks a:=by
 obtain ⟨_,its,r,o,h1,h2,n,h3⟩:=(show ObjOk P w H h a (.tup (ks.map kV)) from ok a _ e)
 exact ⟨o,its.toArray,n,h1,h2,h3,by simpa using jv r⟩
theorem iG (ok:HOk P w H h)(e:Rd H a (.dT kvs)):kvs.length<=sizeLine/\(a == sysModules)=false /\
  ∃ xs,KT H kvs xs/\h.DictOfH (tupleKind (mixKind P w)) a xs:=by
 obtain ⟨z,y,xs,r,o,es,ep,h1,h2,h3,h4,h5⟩:=(show ObjOk P w H h a (.dT kvs) from xa ok e)
 refine ⟨z,y,xs,r,o,es,ep,h1,h2,h3,h4,fun x hx=>?_,h5⟩
 have all:∀{l:List (List Key×V)} {m:List (List Key×Addr×Value)},KT H l m->∀x∈m,(tupleKind (mixKind P w)).is h x.1 x.2.1:=by
  intro l m q
  induction q with
  | nil=>intro x hx;exact nomatch hx
  | @cons p q ps qs hq t ih =>
   intro x hx
   rcases Aw.mp hx with e | hx
   .subst e
    exact fY ok (by rw [<-hq.1];exact hq.2.1)
   .exact ih x hx
 exact all r x hx
theorem yT (ok:HOk P w H h)(e:H a=some (.dT kvs)):kvs.length<=sizeLine/\(a == sysModules)=false /\
  ∃ xs,KT H kvs xs/\h.DictOfH (tupleKind (mixKind P w)) a xs:=iG ok (.inl e)
end
def DGet (H:Hp)(a:Addr)(y:V)(r:Option V):Prop :=
 (∃ kvs k,Rd H a (.dK kvs)/\y=kV k/\r=bp kvs k)∨∃ kvs k b,Rd H a (.dT kvs)/\y=.ref b/\H b=some (.tup (k.map kV))/\r=bp kvs k
def DPut (H:Hp)(a:Addr)(y v:V)(H':Hp):Prop :=
 (∃ kvs k,H a=some (.dK kvs)/\y=kV k/\kvs.length<sizeLine/\H'=upd H a (.dK (aX kvs k v))) ∨
 ∃ kvs k b,H a=some (.dT kvs)/\y=.ref b/\H b=some (.tup (k.map kV))/\kvs.length<sizeLine/\H'=upd H a (.dT (aX kvs k v))
theorem DGet.k {H:Hp}{a:Addr}{kvs:List (Key×V)}{k:Key}(e:H a=some (.dK kvs)):DGet H a (kV k) (bp kvs k):=.inl ⟨kvs,k,.inl e,rfl,rfl⟩
theorem DPut.k {H:Hp}{a:Addr}{kvs:List (Key×V)}{k:Key}{v:V}(e:H a=some (.dK kvs))(hl:kvs.length<sizeLine):DPut H a (kV k) v (upd H a (.dK (aX kvs k v))):=.inl ⟨kvs,k,e,rfl,hl,rfl⟩
section
variable {X:Cx}{pins:List (Addr×Obj)}{U:St}{H:Hp}{s:Shared}{a:Addr}{y v:V}{u r:Value}{o:Option V}{A:Around}{E:Value->Shared->Prop}
theorem Inv.big (I:Inv X pins U H s):sysModules<s.heap.objs.size:=by
 have h:mainGlobals<s.heap.objs.size:=(I.mod.glob.keeps I.bk).lt
 exact C9 Ak h
theorem qe (hu:A.units+1<cLine)(I:Inv X pins U H s)(g:DGet H a y (some v))(ry:RelV y u)(h:∀w' s',Inv X pins U H s'->RelV v w'->Q w' s'):
  wpAny (model X.prog X.w) A (getItem (.ref a) u) Q E s:=by
 rcases g with ⟨kvs,k,e,ey,l⟩ | ⟨kvs,k,b,e,ey,eb,l⟩
 .subst ey
  obtain ⟨z,hd,vs,rel,dd⟩:=gh I.hok e
  obtain ⟨w',hw,rw'⟩:=RelO.some_of (v:=v) (o:=valueAt vs k) (by rw [l];exact rel.val k)
  exact wpAny_getItem_of (dA ry) dd.mapOf hw (h w' _ (I.tok _) rw')
 subst ey
 cases (show u=Value.ref b from ry)
 obtain ⟨z,hd,xs,rel,dd⟩:=iG I.hok e
 obtain ⟨w',hw,rw'⟩:=RelO.some_of (v:=v) (o:=(atKey xs k).map (·.2)) (by rw [l];exact rel.val k)
 obtain ⟨p,hp,hp2⟩:=BV.mp hw
 refine wpAny_getItem_heap (Dm hu) (fY I.hok eb) dd hp ?_
 rw [hp2]
 exact h w' _ (I.tok _) rw'
theorem Ai (hu:A.units+1<cLine)(I:Inv X pins U H s)(g:DGet H a y o)(ry:RelV y u)(h:∀s',Inv X pins U H s'->Q (.bool o.isSome) s'):
  wpAny (model X.prog X.w) A (compareOp .In u (.ref a)) Q E s:=by
 rcases g with ⟨kvs,k,e,ey,l⟩ | ⟨kvs,k,b,e,ey,eb,l⟩
 .subst ey
  obtain ⟨z,hd,vs,rel,dd⟩:=gh I.hok e
  refine wpAny_in_of (dA ry) hd dd.mapOf ?_
  rw [<-(rel.val k).isSome_eq,<-l]
  exact h _ (I.tok _)
 subst ey
 cases (show u=Value.ref b from ry)
 obtain ⟨z,hd,xs,rel,dd⟩:=iG I.hok e
 refine wpAny_in_heap (Dm hu) (fY I.hok eb) hd dd ?_
 have q:=(rel.val k).isSome_eq
 rw [Eg] at q
 rw [<-q,<-l]
 exact h _ (I.tok _)
theorem vZ (hu:A.units+1<cLine)(I:Inv X pins U H s)(g:DGet H a y o)(ry:RelV y u)(h:∀s',Inv X pins U H s'->Q (.bool (!o.isSome)) s'):
  wpAny (model X.prog X.w) A (compareOp .NotIn u (.ref a)) Q E s:=by
 rcases g with ⟨kvs,k,e,ey,l⟩ | ⟨kvs,k,b,e,ey,eb,l⟩
 .subst ey
  obtain ⟨z,hd,vs,rel,dd⟩:=gh I.hok e
  refine wpAny_notIn_of (dA ry) hd dd.mapOf ?_
  rw [<-(rel.val k).isSome_eq,<-l]
  exact h _ (I.tok _)
 subst ey
 cases (show u=Value.ref b from ry)
 obtain ⟨z,hd,xs,rel,dd⟩:=iG I.hok e
 refine wpAny_notIn_heap (Dm hu) (fY I.hok eb) hd dd ?_
 have q:=(rel.val k).isSome_eq
 rw [Eg] at q
 rw [<-q,<-l]
 exact h _ (I.tok _)
theorem gw {t':Nat}{ob:HO}(I:Inv X pins U H s)(mu:Mut (H a))(hs:Heap.SameBut a s.heap h')(he:∃ q,h'.get? a=some q)(new:ObjOk X.prog X.w (upd H a ob) h' a ob):
  Inv X pins U (upd H a ob) { s with heap:=h',toks:=t' } :=
 I.write (x:=a) (e:=a) mu (.inl rfl) (fun b q hb z=>(hs.2 b hb).trans z) he new
theorem iE {P:Program}{kvs:List (Key×V)}{vs:List (Key×Value)}(z:kvs.length<=sizeLine)(hd:(a == sysModules)=false)(rel:KV kvs vs)(dd:h'.DictOf (mixKind P w) a vs):
  ObjOk P w H' h' a (.dK kvs):=⟨z,hd,vs,rel,dd⟩
theorem ql {Q:Unit->Shared->Prop}(hu:A.units+1<cLine)(I:Inv X pins U H s)(g:DPut H a y v H')(ry:RelV y u)(rv:RelV v r)(h:∀s',Inv X pins U H' s'->Q () s'):
  wpAny (model X.prog X.w) A (setItem (.ref a) u r) Q E s:=by
 rcases g with ⟨kvs,k,e,ey,l,eH⟩ | ⟨kvs,k,b,e,ey,eb,l,eH⟩
 .subst ey eH
  obtain ⟨z,hd,vs,rel,dd⟩:=jw I.hok e
  have hz:vs.length<=sizeLine:=by rw [<-rel.length];exact z
  have hl:(aX kvs k v).length<=sizeLine:=by have:=dC kvs k v;lia
  refine wpAny_setItem_pairs (hsz:=hz) (dA ry) dd fun h' dd' hs=>h _ ?_
  have he:∃ q,h'.get? a=some q:=let ⟨q,_,_,hq,_⟩:=dd';⟨q,hq⟩
  exact gw I (by rw [e];exact True.intro) hs he (iE hl hd (rel.put k rv) dd')
 subst ey eH
 cases (show u=Value.ref b from ry)
 obtain ⟨z,hd,xs,rel,dd⟩:=yT I.hok e
 have hz:xs.length<=sizeLine:=by rw [<-Bk rel];exact z
 have hl:(aX kvs k v).length<=sizeLine:=by have:=dC kvs k v;lia
 refine wpAny_setItem_heap (hsz:=hz) (Dm hu) (fY I.hok eb) dd fun h' dd' hs=>h _ ?_
 obtain ⟨q,es,ep,hq,h2,h3,h4,_,h5⟩:=dd'
 refine gw I (by rw [e];exact True.intro) hs ⟨q,hq⟩ ⟨hl,hd,_,(rel.put k eb rv).keeps fun c ys ec=>?_,q,es,ep,hq,h2,h3,h4,h5⟩
 rw [ao (bv ec e (fun z=>nomatch z))]
 exact ec
end
section
variable {X:Cx}{pins:List (Addr×Obj)}{U:St}{H:Hp}{s:Shared}{a:Addr}{kvs:List (Key×V)}{k:Key}{u:Value}{A:Around}{E:Value->Shared->Prop}
theorem yU {v:V}{more:List Value}(I:Inv X pins U H s)(e:H a=some (.dK kvs))(ry:RelV (kV k) u)(l:bp kvs k=some v)(hm:more=[]∨∃ x,more=[x])(h:∀w' s',Inv X pins U (upd H a (.dK (bD kvs k))) s'->RelV v w'->Q w' s'):wpAny (model X.prog X.w) A (call (.builtin "dict.pop") (.ref a::u::more)) Q E s:=by
 obtain ⟨z,hd,vs,rel,dd⟩:=jw I.hok e
 obtain ⟨w',hw,rw'⟩:=RelO.some_of (v:=v) (o:=valueAt vs k) (by rw [<-l];exact rel.val k)
 have hp:(keyPart u).isSome=true:=by
  cases k with
  | inl i=>obtain ⟨t,q⟩:=(show ∃ t,u=Value.int i t from ry);subst q;rfl
  | inr x=>obtain ⟨t,q⟩:=(show ∃ t,u=Value.str x t from ry);subst q;rfl
 have ha:argsOk "dict.pop" ⟨.ref a::u::more,[]⟩:=by
  rcases hm with q | ⟨x,q⟩
  .subst q;exact PySem.F.args_dict_pop_2 _ _
  .subst q;exact PySem.F.args_dict_pop_3 _ _ _
 refine call_meetsIn Fu dd.typeIs PySem.F.entry_dict_pop ha (meets_dict_pop_there (mixKind X.prog X.w) a (dA ry) more hm hp)
  ⟨vs,w',dd,by rw [<-rel.length];exact z,hw,fun h' dd' hs=>h w' _ ?_ rw'⟩
 have he:∃ q,h'.get? a=some q:=let ⟨q,_,_,hq,_⟩:=dd';⟨q,hq⟩
 exact gw I (by rw [e];exact True.intro) hs he (iE (AV (sN kvs k) z) hd (rel.drop k) dd')
theorem y8 (I:Inv X pins U H s)(e:Rd H a (.dK kvs))(h:∀t s',Inv X pins U H s'->Q (.int kvs.length t) s'):wpAny (model X.prog X.w) A (call (.builtin "len") [.ref a]) Q E s:=by
 obtain ⟨z,hd,vs,rel,dd⟩:=gh I.hok e
 refine call_len_dict hd dd (by rw [<-rel.length];rw [FM] at z;lia) ?_
 rw [<-rel.length]
 exact h _ _ (I.tok _)
end
def xI (i:Expr):Prop:=∀ov iv,subscripted i false ov iv=operate [ov,iv] (getItem ov iv)
theorem oC {slice:Expr}{T id:String}(hl:typeLookup (.type T) "__getitem__"=pure (some (.builtin id)))(hs:xI slice)(h:wpAny (model prog w) A (eval value env) (fun o s₁=>wpAny (model prog w) A (eval slice env) (fun i s₂=>s₂.TypeIs o T/\wpAny (model prog w) A (getItem o i) Q E s₂) E s₁) E s):
  wpAny (model prog w) A (eval (.Subscript value slice pos) env) Q E s:=by
 refine Subscript_ (Cn h (fun o s₁ h₁=>Cn h₁ (fun i s₂ h₂=>?_) fun _ _ x=>x) fun _ _ x=>x)
 obtain ⟨hT,h₂⟩:=h₂
 unfold subscriptTail
 refine gV ?_
 rw [getitemInPython_of_ne hT.not_modules]
 refine gV (Fv hT hl ?_)
 have fin:wpAny (model prog w) A (subscripted slice false o i) (fun r s₃=>wpAny (model prog w) A (letTemporaryGo value o r >>= fun _=>pure r) Q E s₃) E s₂:=by
  rw [hs o i]
  exact wpAny_operating (Cn h₂ (fun r s₃ h₃=>gV (wpAny_letTemporaryGo (Aq h₃))) fun _ _ x=>x)
 first
  | exact Aq (gV fin)
  | exact gV (Aq (gV fin))
  | exact gV fin
theorem kM {o:Option V}(I:Inv X pins U H s)(g:DGet H a y o):s.TypeIs (.ref a) "dict":=by
 rcases g with ⟨kvs,k,e,_,_⟩ | ⟨kvs,k,b,e,_,_,_⟩
 .obtain ⟨_,_,vs,_,dd⟩:=gh I.hok e
  exact dd.typeIs
 obtain ⟨_,_,xs,_,dd⟩:=iG I.hok e
 exact dd.typeIs
def zc (td ty:TE):TE:=fun U H Q=>td U H fun x H1=>ty U H1 fun y H2=>∃ a v,x=.ref a/\DGet H2 a y (some v)/\Q v H2
def xJ (ty td:TE):TE:=fun U H Q=>ty U H fun y H1=>td U H1 fun x H2=>∃ a o,x=.ref a/\DGet H2 a y o/\Q (.bl o.isSome) H2
def oG (ty td:TE):TE:=fun U H Q=>ty U H fun y H1=>td U H1 fun x H2=>∃ a o,x=.ref a/\DGet H2 a y o/\Q (.bl (!o.isSome)) H2
def zv (td ty tv:TE):TS:=fun D U H=>tv U H fun v H1=>td U H1 fun x H2=>ty U H2 fun y H3=>∃ a H4,x=.ref a/\DPut H3 a y v H4/\D.nx U H4
section
variable {X:Cx}{o i e value:Expr}{pos pos' tpos:Pos}{td ty tv:TE}
theorem ue (hu:X.A.units+1<cLine)(hi:PE X i ty)(ho:PE X o td):PC X .In i o (xJ ty td):=by
 intro pins s U H Q I h
 refine thn (hi pins s U H _ I h) fun iv s1 ⟨y,H1,I1,ry,q1⟩=>thn (ho pins s1 U H1 _ I1 q1) fun u s2 zz=>?_
 obtain ⟨x,H2,I2,rx,a,ov,ex,g,q2⟩:=zz
 subst ex
 obtain rfl:u=Value.ref a:=rx
 exact Ai hu I2 g ry fun s3 I3=>⟨.bl ov.isSome,H2,I3,rfl,q2⟩
theorem qA (hu:X.A.units+1<cLine)(hi:PE X i ty)(ho:PE X o td):PC X .NotIn i o (oG ty td):=by
 intro pins s U H Q I h
 refine thn (hi pins s U H _ I h) fun iv s1 ⟨y,H1,I1,ry,q1⟩=>thn (ho pins s1 U H1 _ I1 q1) fun u s2 zz=>?_
 obtain ⟨x,H2,I2,rx,a,ov,ex,g,q2⟩:=zz
 subst ex
 obtain rfl:u=Value.ref a:=rx
 exact vZ hu I2 g ry fun s3 I3=>⟨.bl (!ov.isSome),H2,I3,rfl,q2⟩
end
theorem lh {P:Program}(h:Heap)(hb:sysModules<h.objs.size):ObjOk P w H (h.push { cls:=.type "dict",data:=.dict #[] }) h.objs.size (.dK []) :=
 ⟨BA _,BW.mpr (EF (AJ hb)),[],.nil,Fw h⟩
def xo:TE:=fun _ H Q=>∀p,H p=none->Q (.ref p) (upd H p (.dK []))
def mH:List (TE×TE)->St->Hp->(List (V×V)->Hp->Prop)->Prop
 | [],_,H,Q=>Q [] H
 | (tk,tv)::r,U,H,Q=>tk U H fun x H1=>tv U H1 fun y H2=>mH r U H2 fun ps H3=>Q ((x,y)::ps) H3
abbrev VV:List (V×V)->List (Value×Value)->Prop:=Paired fun p q=>RelV p.1 q.1/\RelV p.2 q.2
def PPs (X:Cx)(pos:Pos)(keys:List (Option Expr))(values:List Expr)(trs:List (TE×TE)):Prop :=
 ∀(pins:List (Addr×Obj)) (s:Shared) (U:St) (H:Hp) (Q:List (V×V)->Hp->Prop),Inv X pins U H s->mH trs U H Q ->
  wpAny (model X.prog X.w) X.A (evalPairs (pairTrees keys values X.env pos)) (fun vs s'=>∃ ps H',Inv X pins U H' s'/\VV ps vs/\Q ps H') X.xe s
theorem vJ:PPs X pos [] [] []:=fun pins s U H Q I h=>pairTrees_nil_walk ⟨[],H,I,.nil,h⟩
theorem dB {k v:Expr}{ks:List (Option Expr)}{vs:List Expr}{tk tv:TE}(hk:PE X k tk)(hv:PE X v tv)(hr:PPs X pos ks vs trs):
  PPs X pos (some k::ks) (v::vs) ((tk,tv)::trs):=fun pins s U H Q I h =>
 pairTrees_cons_walk (thn (hk pins s U H _ I h) fun u s1 ⟨x,H1,I1,rx,q1⟩=>thn (hv pins s1 U H1 _ I1 q1) fun w2 s2 ⟨y,H2,I2,ry,q2⟩ =>
  thn (hr pins s2 U H2 _ I2 q2) fun ws s3 ⟨ps,H3,I3,rel,q3⟩=>⟨(x,y)::ps,H3,I3,.cons ⟨rx,ry⟩ rel,q3⟩)
def fU (kvs more:List (Key×V)):List (Key×V):=more.foldl (fun acc kv=>aX acc kv.1 kv.2) kvs
theorem KV.merge:∀{more:List (Key×V)} {rs:List (Key×Value)} {kvs:List (Key×V)} {vs:List (Key×Value)},KV more rs->KV kvs vs->KV (fU kvs more) (merged vs rs):=by
 intro more rs kvs vs r
 unfold KV at r
 induction r generalizing kvs vs with
 | nil=>intro q;exact q
 | @cons p q ps qs h t ih =>
  intro r0
  have e:KV (aX kvs p.1 p.2) (stored vs q.1 q.2):=by
   have:=r0.put p.1 h.2
   rw [<-h.1];exact this
  exact ih e
theorem dZ:∀(more kvs:List (Key×V)),(fU kvs more).length<=kvs.length+more.length
 | [],kvs=>by show kvs.length<=kvs.length+0;lia
 | p::r,kvs=>by
  have h1:=dZ r (aX kvs p.1 p.2)
  have h2:=dC kvs p.1 p.2
  show (fU (aX kvs p.1 p.2) r).length<=_
  rw [A8];lia
theorem gM {P:Program}{w:World}:∀{kvs:List (Key×V)} {ws:List (Value×Value)},VV (kvs.map fun kv=>(kV kv.1,kv.2)) ws->∃ rs,Carries (mixKind P w) ws rs/\KV kvs rs
 | [],_,r=>by rw [CP] at r;cases r;exact ⟨[],True.intro,.nil⟩
 | p::kvs,_,r=>by
  rw [AN] at r
  cases r with
  | @cons a b as bs h t =>
   obtain ⟨rs,c,q⟩:=gM (P:=P) (w:=w) t
   obtain ⟨b1,b2⟩:=b
   exact ⟨(p.1,b2)::rs,⟨dA h.1,rfl,c⟩,.cons ⟨rfl,h.2⟩ q⟩
def wT (trs:List (TE×TE)):TE:=fun U H Q=>∀p,H p=none->mH trs U (upd H p (.dK [])) fun ps H2=>H2 p=some (.dK [])/\∃ kvs:List (Key×V),ps=kvs.map (fun kv=>(kV kv.1,kv.2))/\kvs.length<=15/\Q (.ref p) (upd H2 p (.dK (fU [] kvs)))
theorem vc {keys:List (Option Expr)}{values:List Expr}(h:PPs X pos keys values trs)(hall:keys.all (·.isSome)=true)(hl:keys.length=values.length)(h0:keys≠[])(h15:keys.length<=15):PE X (.Dict keys values pos) (wT trs):=by
 intro pins s U H Q I q
 have hn:=I.hok.fresh (Av s.heap.objs.size)
 have I1:=I.laid (a:=s.heap.objs.size) (o:=.dK []) (h':=s.heap.push { cls:=.type "dict",data:=.dict #[] }) (t':=s.toks) (fun _ _ q=>Ap _ q) (Av _) (lh s.heap I.big)
 refine wpAny_Dict_walk (knd:=mixKind X.prog X.w) hall hl h0 h15 (thn (h pins _ U _ _ I1 (q _ hn)) fun ws s2 zz=>?_)
 obtain ⟨ps,H2,I2,rel,e,kvs,ep,lk,q2⟩:=zz
 subst ep
 obtain ⟨rs,c,rk⟩:=gM (P:=X.prog) (w:=X.w) rel
 obtain ⟨z,hd,vs0,r0,dd⟩:=jw I2.hok e
 cases r0
 refine ⟨rs,c,dd,fun h' dd' hs=>⟨.ref s.heap.objs.size,_,?_,rfl,q2⟩⟩
 have hz:(fU [] kvs).length<=sizeLine:=by
  have h1:=dZ kvs []
  rw [DZ] at h1
  rw [FM];lia
 have he:∃ q,h'.get? s.heap.objs.size=some q:=let ⟨q,_,_,hq,_⟩:=dd';⟨q,hq⟩
 exact gw I2 (by rw [e];exact True.intro) hs he (iE hz hd (rk.merge .nil) dd')
structure M1 (X:Cx)(o:Expr)(m:Str)(apos:Pos)(e:Expr)(cpos:Pos):Prop where
 base:attributeBase o m X.env (eval o X.env)=eval o X.env
 few:((backTo cpos (starEach [e] X.env)).all (fun x=>!x.1)&&(backToKw cpos (keywordEach [] X.env)).all (fun x=>x.1.isSome)
  && decide (([e]:List Expr).length+([]:List Keyword).length+(if ([]:List Keyword).isEmpty then 0 else 1)<30))=true
 line:(apos.endLine == cpos.line)=true
 trees:backTo cpos (starEach [e] X.env)=[(false,eval e X.env)]
def IsD (H:Hp)(a:Addr):Prop:=(∃ kvs,Rd H a (.dK kvs))∨∃ kvs,Rd H a (.dT kvs)
theorem re (I:Inv X pins U H s)(d:IsD H a):
  s.TypeIs (.ref a) "dict"/\(∀b,Value.ref a=.ref b->∃ ob,s.heap.get? b=some ob/\ob.dict=none)/\(a == sysModules)=false:=by
 rcases d with ⟨kvs,e⟩ | ⟨kvs,e⟩
 .obtain ⟨_,hd,vs,_,dd⟩:=gh I.hok e
  refine ⟨dd.typeIs,fun b q=>?_,hd⟩
  cases q
  obtain ⟨ob,_,_,h1,h2,_⟩:=dd
  exact ⟨ob,h1,h2.2.1⟩
 obtain ⟨_,hd,xs,_,dd⟩:=iG I.hok e
 refine ⟨dd.typeIs,fun b q=>?_,hd⟩
 cases q
 obtain ⟨ob,_,_,h1,h2,_⟩:=dd
 exact ⟨ob,h1,h2.2.1⟩
section
variable {X:Cx}{pins:List (Addr×Obj)}{U:St}{H:Hp}{s:Shared}{a:Addr}{y d:V}{u r:Value}{o:Option V}{A:Around}{E:Value->Shared->Prop}
theorem xD (hu:A.units+1<cLine)(I:Inv X pins U H s)(g:DGet H a y o)(ry:RelV y u)(h:∀w' s',Inv X pins U H s'->RelV (o.getD .non) w'->Q w' s'):
  wpAny (model X.prog X.w) A (call (.builtin "dict.get") [.ref a,u]) Q E s:=by
 rcases g with ⟨kvs,k,e,ey,l⟩ | ⟨kvs,k,b,e,ey,eb,l⟩
 .subst ey
  obtain ⟨z,hd,vs,rel,dd⟩:=gh I.hok e
  refine call_meetsIn Eo dd.typeIs Fk (E8 _ _) (meets_dict_get (mixKind X.prog X.w) a (dA ry) hd) ⟨_,dd.mapOf,h _ _ (I.tok _) ?_⟩
  rw [l]
  exact (rel.val k).getD rfl
 subst ey
 cases (show u=Value.ref b from ry)
 obtain ⟨z,hd,xs,rel,dd⟩:=iG I.hok e
 refine call_meetsIn Eo dd.typeIs Fk (E8 _ _) (meetsH_dict_get (tupleKind (mixKind X.prog X.w)) a b hd) ⟨Dm hu,k,xs,fY I.hok eb,dd,h _ _ (I.tok _) ?_⟩
 rw [l]
 exact (rel.val k).getD rfl
end
def ym (td ty:TE):TE:=fun U H Q=>td U H fun x H1=>∃ a,x=.ref a/\IsD H1 a/\ty U H1 fun y H2=>∃ o,DGet H2 a y o/\Q (o.getD .non) H2
def xA (td ty:TE):TE:=fun U H Q=>td U H fun x H1=>∃ a,x=.ref a/\IsD H1 a/\ty U H1 fun y H2=>∃ kvs k v,H2 a=some (.dK kvs)/\y=kV k/\bp kvs k=some v/\Q v (upd H2 a (.dK (bD kvs k)))
section
variable {X:Cx}
theorem cK:cf X (.builtin "len") (fun xs H Q=>∃ a kvs,xs=[V.ref a]/\H a=some (.dK kvs)/\Q (.int kvs.length) H):=by
 intro pins s U H xs us Q I r h
 obtain ⟨a,kvs,rfl,ha,q⟩:=h
 obtain ⟨u,rfl,ru⟩:=c9 r
 cases ru
 exact y8 I (.inl ha) fun t s' I'=>⟨.int kvs.length,H,I',⟨t,rfl⟩,q⟩
end
end L2
namespace L2
open PySem PySem.Spec PyProof.Rows
open PySem.SeqAt (EqAt RcAt RcNeAt)
section
variable {X:Cx}
theorem yx {H:Hp}{i i' j j':Int}{n n':Str}(r:Vals [.int i,.str n,.int j] us)(r':Vals [.int i',.str n',.int j'] vs):
  ∃ e:Nat->Bool,(∀k (h1:k<us.toArray.size) (h2:k<vs.toArray.size),EqAt A s us.toArray[k] vs.toArray[k] (e k))/\us.length=3/\vs.length=3/\(((List.range 3).all e)=decide ([V.int i,.str n,.int j]=[.int i',.str n',.int j'])):=by
 obtain ⟨u0,u1,u2,rfl,a0,a1,a2⟩:=qR r
 obtain ⟨v0,v1,v2,rfl,b0,b1,b2⟩:=qR r'
 obtain ⟨e0,q0,z0⟩:=cG (a:=.int i) (c:=.int i') A s trivial a0 b0
 obtain ⟨e1,q1,z1⟩:=cG (a:=.str n) (c:=.str n') A s trivial a1 b1
 obtain ⟨e2,q2,z2⟩:=cG (a:=.int j) (c:=.int j') A s trivial a2 b2
 refine ⟨fun k=>if k=0 then e0 else if k=1 then e1 else e2,fun k h1 h2=>?_,rfl,rfl,?_⟩
 .match k,h1,h2 with
  | 0,_,_=>exact q0
  | 1,_,_=>exact q1
  | 2,_,_=>exact q2
  | k+3,h1,_=>exact absurd h1 An
 rw [Ca,Bw]
 have el:(List.range 3).all (fun k=>if k=0 then e0 else if k=1 then e1 else e2)=(e0&&(e1&&e2)):=by
  show (e0&&(e1&&(e2&&true)))=_
  rw [EC]
 rw [el,Bq,Bq,z0,z1,z2]
 constructor
 .rintro ⟨h0,h1,h2⟩
  rw [h0,h1,h2]
 intro h
 injection h with h0 h
 injection h with h1 h
 injection h with h2 _
 exact ⟨h0,h1,h2⟩
theorem vU (hu:X.A.units<cLine):OpR X (compareOp .Eq) (fun x y H Q=>∃ a b xs ys,x=.ref a/\y=.ref b/\SqT X.K H a xs/\SqT X.K H b ys/\gr xs/\gr ys/\Q (.bl (decide (xs=ys))) H):=by
 intro pins s U H x y v u Q I rx ry h
 obtain ⟨a,b,xs,ys,rfl,rfl,ha,hb,⟨i,n,j,rfl⟩,⟨i',n',j',rfl⟩,q⟩:=h
 cases rx
 cases ry
 obtain ⟨its,r,ht,_⟩:=I.tuple ha
 obtain ⟨its2,r2,ht2,_⟩:=I.tuple hb
 obtain ⟨e,he,l1,l2,ee⟩:=yx (H:=H) (s:=s) (A:=X.A.in1) r r2
 refine Fd (e:=e) ht ht2 hu he ⟨.bl _,H,I,?_,q⟩
 show Value.bool _=Value.bool _
 rw [AI,AI,l1,l2,<-ee]
 show Value.bool ((List.range 3).all e&&true)=_
 rw [EC]
end
end L2
namespace L2
open PySem PySem.W PySem.Spec PySem.Calls PyProof.Rows
structure yA (K:Frag)(C:Addr)(mc:Value)(m:Str)(f:Addr):Prop where
 ga:specialIn K (.ref C) "__getattribute__"=some (some (.builtin "type.__getattribute__"))
 rd:readsIn K C mc=true
 fc:findCls K (.ref C) mc m=some (.val (.ref f))
 kp:keepIn K (.ref f)=true
end L2
namespace L2
open PySem PySem.W PySem.Spec PySem.Calls PyProof.Rows
open PySem.SeqAt (EqAt RcAt RcNeAt)
section
variable {X:Cx}
theorem uZ (hu:X.A.units<cLine):OpR X (compareOp .Eq) (fun x y H Q=>∃ a b kvs,x=.ref a/\y=.ref b/\H a=some (.dK kvs)/\H b=some (.dK [])/\Q (.bl (decide (kvs=[]))) H):=by
 intro pins s U H x y v u Q I rx ry h
 obtain ⟨a,b,kvs,rfl,rfl,ha,hb,q⟩:=h
 cases rx
 cases ry
 obtain ⟨_,n1,vs,r1,d1⟩:=jw I.hok ha
 obtain ⟨_,n2,vs2,r2,d2⟩:=jw I.hok hb
 cases r2
 refine keq_eq (r:=true) n1 n2 d1 d2 hu (fun hl=>?_) ⟨.bl _,H,I,?_,q⟩
 .obtain rfl:=AY.mp hl
  exact .nil
 show Value.bool _=Value.bool _
 congr 1
 rw [Ca,Bw,EC,Dz]
 show vs.length=0↔_
 rw [<-r1.length]
 exact AY
theorem vN (hu:X.A.units<cLine):OpR X (compareOp .Eq) (fun x y H Q=>∃ b ys,y=.ref b/\SqT X.K H b ys/\gr ys/\((x=.non/\Q (.bl false) H)∨∃ a xs,x=.ref a/\SqT X.K H a xs/\gr xs/\Q (.bl (decide (xs=ys))) H)):=by
 intro pins s U H x y v u Q I rx ry h
 obtain ⟨b,ys,rfl,hb,en,⟨rfl,q⟩ | ⟨a,xs,rfl,ha,en',q⟩⟩:=h
 .cases rx
  cases ry
  obtain ⟨its,r,ht,_⟩:=I.tuple hb
  exact RcAt.none_tuple ht hu X.prog X.w _ _ ⟨.bl false,H,I,rfl,q⟩
 exact vU hu pins s U H _ _ v u Q I rx ry ⟨a,b,xs,ys,rfl,rfl,ha,hb,en',en,q⟩
inductive AlT (K:Frag)(H:Hp):V->V->Prop
 | non:AlT K H .non .non
 | str (n:Str):AlT K H (.str n) (.str n)
 | int (i:Int):AlT K H (.int i) (.int i)
 | tup {p q:Addr} {xs ys:List V}:SqT K H p xs->SqT K H q ys->AlL K H 8 xs ys->AlT K H (.ref p) (.ref q)
 | lst {p q:Addr} {xs ys:List V}:SqL K H p xs->SqL K H q ys->AlL K H 8 xs ys->AlT K H (.ref p) (.ref q)
theorem oH (hu:X.A.units+100<cLine):OpR X (compareOp .Eq) (fun x y H Q=>AlT X.K H x y/\Q (.bl true) H):=by
 intro pins s U H x y v u Q I rx ry ⟨a,q⟩
 cases a with
 | non=>cases rx;cases ry;exact RcAt.none_none X.prog X.w _ _ ⟨.bl true,H,I,rfl,q⟩
 | str n =>
  obtain ⟨t,rfl⟩:=rx
  obtain ⟨t',rfl⟩:=ry
  exact RcAt.str_str n t n t' X.prog X.w _ _ ⟨.bl true,H,I,by rw [(cy n n).mpr rfl];rfl,q⟩
 | int i =>
  obtain ⟨t,rfl⟩:=rx
  obtain ⟨t',rfl⟩:=ry
  exact RcAt.int_int i t i t' X.prog X.w _ _ ⟨.bl true,H,I,by rw [Cg];rfl,q⟩
 | tup h1 h2 al=>exact yC hu pins s U H _ _ v u Q I rx ry ⟨_,_,_,_,rfl,rfl,h1,h2,al,q⟩
 | lst h1 h2 al=>exact vY hu pins s U H _ _ v u Q I rx ry ⟨_,_,_,_,rfl,rfl,h1,h2,al,q⟩
theorem pQ (hu:X.A.units+100<cLine):OpR X (compareOp .NotEq) (fun x y H Q=>AlT X.K H x y/\Q (.bl false) H):=by
 intro pins s U H x y v u Q I rx ry ⟨a,q⟩
 cases a with
 | non=>cases rx;cases ry;exact RcNeAt.none_none X.prog X.w _ _ ⟨.bl false,H,I,rfl,q⟩
 | str n =>
  obtain ⟨t,rfl⟩:=rx
  obtain ⟨t',rfl⟩:=ry
  exact RcNeAt.str_str n t n t' X.prog X.w _ _ ⟨.bl false,H,I,by rw [(cy n n).mpr rfl];rfl,q⟩
 | int i =>
  obtain ⟨t,rfl⟩:=rx
  obtain ⟨t',rfl⟩:=ry
  exact RcNeAt.int_int i t i t' X.prog X.w _ _ ⟨.bl false,H,I,by rw [Cg];rfl,q⟩
 | tup h1 h2 al=>exact xX hu pins s U H _ _ v u Q I rx ry ⟨_,_,_,_,rfl,rfl,h1,h2,al,q⟩
 | lst h1 h2 al=>exact vV hu pins s U H _ _ v u Q I rx ry ⟨_,_,_,_,rfl,rfl,h1,h2,al,q⟩
end
end L2
namespace TS
open PySem PyProof.Rows PySem.W
section
variable {prog:Program}{w:World}{A:Around}{E:Value->Shared->Prop}{s:Shared}
theorem cmp_strs (hS:∀v∈vs,∃ x t,v=Value.str x t):Cmp prog w A s PyProof.Rows.strKind oneType' (pairsOf vs):=by
 have hm:∀p∈(pairsOf vs).toList,∃ x t,p.1=Value.str x t:=fun p hp=>by
  rw [Ek] at hp
  exact hS _ (EM hp).2
 refine ⟨fun x y hx hy E Q q=>?_⟩
 obtain ⟨a,ta,ea⟩:=hm x hx
 obtain ⟨b,tb,eb⟩:=hm y hy
 have eL:Lb PyProof.Rows.strKind x y=decide (a.cps.toList<b.cps.toList):=by unfold Lb kf;rw [ea,eb];rfl
 rw [eL] at q
 rw [ea,eb,keyLt'_oneType]
 exact oneLt_str q
theorem kind_of_strs (hS:∀v∈vs,∃ x t,v=Value.str x t)(h2:2<=vs.length):keyKind' vs.toArray=pure oneType':=by
 match vs,h2 with
 | v1::v2::r,_=>exact keyKind_strs (strsAre_map _ hS)
theorem sorted_dict {d:Addr}{kvs:List (L2.Key×Value)}(hh:A.handled=none)(nsm:(d == sysModules)=false)(hm:s.heap.DictAt (L2.mixKind prog w) d kvs ep)(hn:kvs.length<=sizeLine)(hS:∀kv∈kvs,∃ x,kv.1=Sum.inr x)(h:∀(h1 h3:Heap) (tk:Nat) (vs:List Value) (st':SortSt),vs.length=kvs.length->(∀(i:Nat) v,vs[i]?=some v->∃ k x,kvs[i]?=some (k,x)/\L2.keyIs k v=true)->(arrOf st').Perm (pairsOf vs)->Up PyProof.Rows.strKind (arrOf st') 0 (pairsOf vs).size ->
   (∀b o,s.heap.get? b=some o->h1.get? b=some o)->(∀b o,h1.get? b=some o->h3.get? b=some o)->(∃ n,h3.get? h1.objs.size=some (seqObj "list" ((arrOf st').map (·.2)) n))->Q (.ref h1.objs.size) { s with heap:=h3,toks:=tk }):
  wpAny (model prog w) A (call (.builtin "sorted") [.ref d]) Q E s:=by
 refine DI kind_sorted plain_sorted entry_sorted (args_sorted1 _) ?_
 unfold Builtin.«sorted»
 refine gV (m:=checkCount "sorted" 1 1 _) (Aq ?_)
 refine gV (kdu_collect (kdl_dict (kvs:=kvs) (ep:=ep) nsm) hh hm hn fun h1 tk acc hk hacc=>?_)
 have hlen:acc.toList.length=kvs.length:=by rw [Bf];exact hacc.1
 have hat:∀(i:Nat) v,acc.toList[i]?=some v->∃ k x,kvs[i]?=some (k,x)/\L2.keyIs k v=true:=fun i v e=>hacc.2 i v (by rw [<-Cr];exact e)
 have hst:∀v∈acc.toList,∃ x t,v=Value.str x t:=fun v hv=>by
  obtain ⟨i,hi⟩:=FE hv
  obtain ⟨k,x,ek,ik⟩:=hat i v hi
  obtain ⟨y,ey⟩:=hS _ (AQ ek)
  dsimp only at ey
  subst ey
  rcases L2.keyIs_shape ik with ⟨_,_,z,_⟩ | ⟨_,t,_,z⟩
  .cases z
  .exact ⟨_,t,z⟩
 refine gV (E6 ?_)
 have hoL:(h1.push (seqObj "list" acc.toList.toArray 0)).get? h1.objs.size=some (seqObj "list" acc.toList.toArray 0):=AF _ rfl
 refine gV (A7 (Bp slot_list_sort ⟨_,hoL,rfl⟩ entry_list_sort (mt (s:={ s with heap:=h1.push (seqObj "list" acc.toList.toArray 0),toks:=tk }) (J:=PyProof.Rows.strKind) (kd:=oneType') hoL Am (fun h' k g Q q=>?_) (fun h' k g=>cmp_strs hst) fun st' a1 a2=>⟨_,rfl,?_⟩) (args_list_sort _)))
 .rw [kind_of_strs hst g]
  exact Aq q
 refine Aq ⟨_,rfl,h h1 _ _ acc.toList st' hlen hat a1 a2 hk (fun b o e1=>?_) (sortedHeap_at hoL)⟩
 rw [sortedHeap_old (AJ (AA e1)) (by rw [size_push'];exact B7 (AA e1))]
 exact Ap _ e1
end
end TS
namespace L2
open PySem PySem.W PySem.Spec PySem.Calls PyProof.Rows
def slt (a b:Str):Bool:=decide (a.cps.toList<b.cps.toList)
def bo:Value->Str
 | .str x _=>x
 | _=>default
section
variable {X:Cx}
theorem jD (hc:X.calm=true):cf X (.builtin "sorted") (fun zs H Q=>∃ (d:Addr) (kvs:List (Key×V)) (ks:List Str),zs=[.ref d]/\H d=some (.dK kvs)/\kvs.map (·.1)=ks.map Sum.inr /\
  ∀(l:Addr) (ys:List Str),H l=none->ys.Perm ks->ys.Pairwise (fun x y=>slt y x=false)->Q (.ref l) (upd H l (.lst (ys.map V.str)))):=by
 intro pins s U H zs us Q I r h
 obtain ⟨d,kvs,ks,rfl,hd,hks,q⟩:=h
 obtain ⟨u,rfl,ru⟩:=c9 r
 cases ru
 obtain ⟨hz,nsm,vs,rel,dd⟩:=jw I.hok hd
 obtain ⟨ep,da⟩:=dd.dictAt
 have ek:vs.map (·.1)=ks.map Sum.inr:=by rw [<-rel.keys];exact hks
 refine TS.sorted_dict (I.ok.hd hc) nsm da (by rw [<-rel.length];exact hz) (fun kv hkv=>?_) fun h1 h3 tk us st' hl hat pm up k1 k3 ⟨n,hn⟩=>?_
 .have:kv.1∈ks.map Sum.inr:=by rw [<-ek];exact AK.mpr ⟨kv,hkv,rfl⟩
  obtain ⟨x,_,e⟩:=AK.mp this
  exact ⟨x,e.symm⟩
 have eus:us.map bo=ks/\∀u∈us,∃ x t,u=Value.str x t:=by
  have lks:us.length=ks.length:=by have:=congrArg List.length ek;rw [Ar,Ar] at this;lia
  have at':∀(i:Nat) u,us[i]?=some u->∃ x t,u=Value.str x t/\ks[i]?=some x:=fun i u e=>by
   obtain ⟨k,x,e1,e2⟩:=hat i u e
   have e3:(vs.map (·.1))[i]?=some k:=by rw [AS,e1];rfl
   rw [ek,AS] at e3
   cases e4:ks[i]? with
   | none=>rw [e4] at e3;cases e3
   | some y =>
    rw [e4] at e3
    cases e3
    rcases keyIs_shape e2 with ⟨_,_,z,_⟩ | ⟨y',t,z,e5⟩
    .cases z
    .cases z
     exact ⟨_,t,e5,rfl⟩
  refine ⟨List.ext_getElem? fun i=>?_,fun u hu=>?_⟩
  .rw [AS]
   cases e:us[i]? with
   | none=>rw [Option.map_none,eq_comm,List.getElem?_eq_none_iff,<-lks];exact ET.mp e
   | some u =>
    obtain ⟨x,t,rfl,ex⟩:=at' i u e
    rw [ex];rfl
  .obtain ⟨i,hi⟩:=FE hu
   obtain ⟨x,t,e,_⟩:=at' i u hi
   exact ⟨x,t,e⟩
 obtain ⟨eks,hst⟩:=eus
 have pm':(arrOf st').toList.Perm (us.zip us):=by rw [<-Ek];exact Ck.mp pm
 have mem:∀k∈(arrOf st').toList,k.1=k.2/\∃ x t,k.2=Value.str x t:=fun k hk=>by
  obtain ⟨e1,m⟩:=EM (pm'.mem_iff.mp hk)
  exact ⟨e1,e1▸hst _ m⟩
 have vs':∀l:List Keyed,(∀k∈l,∃ x t,k.2=Value.str x t)->Vals ((l.map fun k=>bo k.2).map V.str) (l.map (·.2)):=by
  intro l
  induction l with
  | nil=>intro _;exact .nil
  | cons k l ih =>
   intro f
   obtain ⟨x,t,ex⟩:=f k AX
   refine .cons ⟨t,?_⟩ (ih fun k' hk'=>f k' (AH _ hk'))
   show k.2=Value.str (bo k.2) t
   rw [ex];rfl
 have hsz:(arrOf st').toList.length=us.length:=by rw [pm'.length_eq,EG];lia
 have I1:Inv X pins U H { s with heap:=h1,toks:=tk }:=I.kept k1
 have pk:((arrOf st').toList.map fun k=>bo k.2).Perm ks:=by
  have e3:(us.zip us).map (fun k:Keyed=>bo k.2)=ks:=by
   rw [<-eks]
   have aux:∀l:List Value,(l.zip l).map (fun k:Keyed=>bo k.2)=l.map bo:=by
    intro l
    induction l with
    | nil=>rfl
    | cons a l ih=>rw [Dk,AN,AN,ih]
   exact aux us
  rw [<-e3]
  exact pm'.map _
 refine ⟨.ref h1.objs.size,upd H h1.objs.size (.lst (((arrOf st').toList.map fun k=>bo k.2).map V.str)),I1.laid (t':=tk) k3 (Av _) ?_,rfl,q _ _ (I1.hok.fresh (Av _)) pk ?_⟩
 .refine ⟨by rw [Ar,Ar,hsz,hl,<-rel.length];exact hz,(arrOf st').toList.map (·.2),n,vs' _ fun k hk=>(mem k hk).2,?_⟩
  rw [hn,<-Fe]
 have el:(arrOf st')=(arrOf st').toList.toArray:=by simp
 rw [el] at up
 have hs2:(pairsOf us).size=(arrOf st').toList.length:=by rw [El,hsz]
 have up2:=(TS.up_iff Am).mp up
 rw [CT,hs2,Bx] at up2
 refine BL.mpr (Ct (fun {k k'} hk hk' hle=>?_) up2)
 obtain ⟨e1,x,t,ex⟩:=mem k hk
 obtain ⟨e1',x',t',ex'⟩:=mem k' hk'
 have hle':TS.Lb PyProof.Rows.strKind k' k=false:=hle
 unfold TS.Lb TS.kf at hle'
 rw [e1,e1',ex,ex'] at hle'
 show slt (bo k'.2) (bo k.2)=false
 rw [ex,ex']
 exact hle'
end
def prV (k:Int×Str):List V:=[.int k.1,.str k.2]
def ltP (a b:Int×Str):Bool:=cP (prV a) (prV b)
section
variable {X:Cx}{e o i a b:Expr}{te to ti ta tb:TE}{pos pos':Pos}{f:Str}
theorem a9 (he:QE X e te)(hb:attributeBase e f X.env (eval e X.env)=eval e X.env):QE X (.Attribute e f pos) (zZ X.K te f):=.mk (by
 have he:=he.to
 intro pins s U H Q I h
 refine vB hb (thn (he pins s U H _ I h) fun u s1 zz=>?_)
 obtain ⟨x,H1,I1,rx,a,C,dx,fs,v,ex,ea,c,n,l,q⟩:=zz
 subst ex
 obtain rfl:u=Value.ref a:=rx
 exact mV I1 ea c n l fun u' s2 I2 ru=>⟨v,H1,I2,ru,q⟩)
theorem cE {tv:TE}(ha:QE X o to)(hv:QE X value tv)(hs:swapsWith value (some (.Attribute o f pos')) pos.line X.env=pure false):QS X (.Assign [.Attribute o f pos'] value pos) (z8 X.K to tv f):=.mk (by
 have ha:=ha.to
 have hv:=hv.to
 intro pins s U H D I h
 refine plainObj_wpAny_Assign_Attribute (thn (hv pins s U H _ I h) fun u s1 ⟨y,H1,I1,ry,q⟩=>thn (ha pins s1 U H1 _ I1 q) fun ov s2 zz=>?_) hs
 obtain ⟨x,H2,I2,rx,a,C,dx,fs,ex,ea,c,n,l,q2⟩:=zz
 subst ex
 obtain rfl:ov=Value.ref a:=rx
 exact nN I2 ea c n l ry fun s3 I3=>⟨U,_,I3,q2⟩)
theorem hU:QE X (.Dict [] [] pos) xo:=.mk (fun pins s U H Q I h =>
 wpAny_Dict_empty ⟨.ref s.heap.objs.size,_,I.laid (a:=s.heap.objs.size) (o:=.dK []) (t':=s.toks) (fun _ _ q=>Ap _ q) (Av _) (lh s.heap I.big),rfl,h _ (I.hok.fresh (Av _))⟩)
theorem aN (hu:X.A.units+1<cLine)(ho:QE X o to)(hi:QE X i ti)(hs:xI i):QE X (.Subscript o i pos) (zc to ti):=.mk (by
 have ho:=ho.to
 have hi:=hi.to
 intro pins s U H Q I h
 refine oC EU.lookup hs (thn (ho pins s U H _ I h) fun u s1 ⟨x,H1,I1,rx,q1⟩=>thn (hi pins s1 U H1 _ I1 q1) fun iv s2 zz=>?_)
 obtain ⟨y,H2,I2,ry,a,v,ex,g,q2⟩:=zz
 subst ex
 obtain rfl:u=Value.ref a:=rx
 exact ⟨kM I2 g,qe hu I2 g ry fun w' s3 I3 rw'=>⟨v,H2,I3,rw',q2⟩⟩)
theorem qZ (hu:X.A.units+1<cLine)(hi:QE X i ti)(ho:QE X o to)(h1:behindInMarks .In o=false:=by rfl):QE X (.Compare i [.In] [o] pos) (xJ ti to):=.mk (by
 have h:=(ue hu hi.to ho.to)
 exact fun pins s U H Q I hw=>wpAny_Compare1 (h pins s U H Q I hw) h1)
theorem x8 (hu:X.A.units+1<cLine)(hi:QE X i ti)(ho:QE X o to)(h1:behindInMarks .In o=false:=by rfl):QT X (.Compare i [.In] [o] pos) (tB (xJ ti to)):=.mk (ut (ue hu hi.to ho.to) h1)
theorem jp (hu:X.A.units+1<cLine)(hi:QE X i ti)(ho:QE X o to)(h1:behindInMarks .NotIn o=false:=by rfl):QT X (.Compare i [.NotIn] [o] pos) (tB (oG ti to)):=.mk (ut (qA hu hi.to ho.to) h1)
theorem fy {tv:TE}(hu:X.A.units+1<cLine)(ho:QE X o to)(hi:QE X i ti)(hv:QE X value tv)(hs:swapsWith value (some (.Subscript o i pos')) pos.line X.env=pure false):QS X (.Assign [.Subscript o i pos'] value pos) (zv to ti tv):=.mk (by
 have ho:=ho.to
 have hi:=hi.to
 have hv:=hv.to
 intro pins s U H D I h
 refine wpAny_Assign_Subscript (thn (hv pins s U H _ I h) fun r s1 ⟨v,H1,I1,rv,q1⟩=>thn (ho pins s1 U H1 _ I1 q1) fun u s2 ⟨x,H2,I2,rx,q2⟩=>thn (hi pins s2 U H2 _ I2 q2) fun iv s3 zz=>?_) hs
 obtain ⟨y,H3,I3,ry,a,H4,ex,g,q3⟩:=zz
 subst ex
 obtain rfl:u=Value.ref a:=rx
 exact ql hu I3 g ry rv fun s4 I4=>⟨U,H4,I4,q3⟩)
theorem kG (hu:X.A.units+1<cLine)(ho:QE X o to)(he:QE X e te)(m:M1 X o "get" apos e cpos):QE X (.Call (.Attribute o "get" apos) [e] [] cpos) (ym to te):=.mk (by
 have ho:=ho.to
 have he:=he.to
 intro pins s U H Q I h
 refine wpAny_Call_method m.base m.few m.line E9 Eo PySem.F.type_dict_get (thn (ho pins s U H _ I h) fun u s1 zz=>?_)
 obtain ⟨x,H1,I1,rx,a,ex,d,q1⟩:=zz
 subst ex
 obtain rfl:u=Value.ref a:=rx
 obtain ⟨t1,t2,_⟩:=re I1 d
 refine ⟨t1,t2,?_⟩
 rw [m.trees]
 refine Dh rfl (Ex (Cs (thn (he pins s1 U H1 _ I1 q1) fun iv s2 ⟨y,H2,I2,ry,ov,g,q2⟩=>CH ?_)))
 exact xD hu I2 g ry fun w' s3 I3 rw'=>⟨_,H2,I3,rw',q2⟩)
theorem eW (ho:QE X o to)(he:QE X e te)(m:M1 X o "pop" apos e cpos):QE X (.Call (.Attribute o "pop" apos) [e] [] cpos) (xA to te):=.mk (by
 have ho:=ho.to
 have he:=he.to
 intro pins s U H Q I h
 refine wpAny_Call_method m.base m.few m.line E9 Fu PySem.F.type_dict_pop (thn (ho pins s U H _ I h) fun u s1 zz=>?_)
 obtain ⟨x,H1,I1,rx,a,ex,d,q1⟩:=zz
 subst ex
 obtain rfl:u=Value.ref a:=rx
 obtain ⟨t1,t2,_⟩:=re I1 d
 refine ⟨t1,t2,?_⟩
 rw [m.trees]
 refine Dh rfl (Ex (Cs (thn (he pins s1 U H1 _ I1 q1) fun iv s2 ⟨y,H2,I2,ry,kvs,k,v,ea,ey,l,q2⟩=>CH ?_)))
 subst ey
 exact yU I2 ea ry l (.inl rfl) fun w' s3 I3 rw'=>⟨v,_,I3,rw',q2⟩)
theorem yc {rest:List Expr}(ha:QE X a ta)(hb:QE X (.BoolOp .And (b::rest) pos) tb):QE X (.BoolOp .And (a::b::rest) pos) (zF ta tb):=.mk (by
 have ha:=ha.to
 have hb:=hb.to
 intro pins s U H Q I h
 refine BoolOp_and (thn (ha pins s U H _ I h) fun v s1 zz=>?_)
 obtain ⟨x,H1,I1,r1,q1⟩:=zz
 obtain ⟨c,rfl,q1⟩:=q1
 cases r1
 refine Dy ?_
 cases c with
 | true=>exact hb pins s1 U H1 Q I1 q1
 | false=>exact ⟨.bl false,H1,I1,rfl,q1⟩)
theorem yy {op}(h:QE X a ta):QE X (.BoolOp op [a] pos) ta:=.mk (by
 have h:=h.to
 exact fun pins s U H Q I hw=>BoolOp_one (h pins s U H Q I hw))
section
variable {CX:CXT}{k:Nat}{g C:Addr}{mc:Value}{fd:FuncData}{ps:List Str}{sp:Sp}{dvs:List V}{ds:List Value}{E:XK}{m x:Str}{p apos:Pos}{es:List Expr}{t:TA}{pl:Sem Bool}
theorem bO (ho:QE X o to)(c:Cls X.K C)(hm:b8 X.K C m g)(F:aB X.prog X.w X.K X.mg X.base CX k g fd ps sp)(hr:Room k X.A)(hb:Binds X.K fd ps ds)(hd:Vals dvs ds)(hx:cR CX X E)(ha:QA X (e::es) t)(hst:starEach (e::es) X.env=(false,eval e X.env)::starEach es X.env:=by rfl)(hpl:(backTo pos (starEach es X.env)).any (·.1)=false:=by rfl)(ht:eval (.Call (.Attribute o m apos) (e::es) [] pos) X.env=(do
   let ov <-eval o X.env
   standAt apos.atName
   let (f,first) <-holding [ov] (getMethod ov m pl)
   callWith pos f first (backTo pos (starEach (e::es) X.env)) (backToKw pos (keywordEach [] X.env))):=by rfl):
  QE X (.Call (.Attribute o m apos) (e::es) [] pos) (wI C m sp dvs E to t):=.mk (by
 have he:=ho.to
 have ha:=ha.to
 intro pins s U H Q I h
 refine W.methodCall_KW (pl:=pl) (thn (he pins s U H _ I h) fun u s1 zz=>?_) ht
 obtain ⟨x,H1,I1,rx,a,dx,fs,ex,ea,l,q⟩:=zz
 subst ex
 obtain rfl:u=Value.ref a:=rx
 refine gW I1 ea c hm l ?_
 refine W.callWith_K (first:=[.ref a]) (h₀:=X.base) I.ok.mod.kin hm.kp (thn (ha pos pins s1 U H1 _ I1 q) fun us s2 ⟨vs,H2,I2,r,q2⟩=>⟨I2.kIn,?_⟩) hst hpl
 exact jS (us:=.ref a::us) (vs:=.ref a::vs) F hr hb hd hx I2 (.cons rfl r) q2)
theorem bn (ho:QE X o to)(c:Cls X.K C)(hm:b8 X.K C m g)(F:aB X.prog X.w X.K X.mg X.base CX k g fd ps sp)(hr:Room k X.A)(hb:Binds X.K fd ps ds)(hd:Vals dvs ds)(hx:cR CX X E)(ht:eval (.Call (.Attribute o m apos) [] [] pos) X.env=(do
   let ov <-eval o X.env
   standAt apos.atName
   let (f,first) <-holding [ov] (getMethod ov m pl)
   callWith pos f first (backTo pos (starEach [] X.env)) (backToKw pos (keywordEach [] X.env))):=by rfl):
  QE X (.Call (.Attribute o m apos) [] [] pos) (wI C m sp dvs E to qM):=.mk (by
 have he:=ho.to
 intro pins s U H Q I h
 refine W.methodCall_KW (pl:=pl) (thn (he pins s U H _ I h) fun u s1 zz=>?_) ht
 obtain ⟨x,H1,I1,rx,a,dx,fs,ex,ea,l,q⟩:=zz
 subst ex
 obtain rfl:u=Value.ref a:=rx
 refine gW I1 ea c hm l ?_
 exact W.callWith_K0 (first:=[.ref a]) I1.kIn hm.kp (jS (us:=[.ref a]) (vs:=[.ref a]) F hr hb hd hx I1 (.cons rfl .nil) q))
theorem vh (M:Mk X.K C g)(F:aB X.prog X.w X.K X.mg X.base CX k g fd ps sp)(hr:Room (k+1) X.A)(hg:Gl X x)(hm:X.mg x=some (.ref C))(hb:Binds X.K fd ps ds)(hd:Vals dvs ds)(hx:cR CX X E)(ha:QA X (e::es) t)(hdb:(x == ("__debug__":Str))=false:=by decide)(he:starEach (e::es) X.env=(false,eval e X.env)::starEach es X.env:=by rfl)(hpl:(backTo pos (starEach es X.env)).any (·.1)=false:=by rfl):
  QE X (.Call (.Name x p) (e::es) [] pos) (yP C sp dvs E t):=.mk (by
 have ha:=ha.to
 intro pins s U H Q I h
 refine Dl (km I hg hm ?_ hdb)
 refine W.callWith_K (h₀:=X.base) I.ok.mod.kin M.kp (thn (ha pos pins s U H _ I h) fun us s1 ⟨vs,H1,I1,r,q⟩=>⟨I1.kIn,?_⟩) he hpl
 exact tT M F hr hb hd hx I1 r q)
theorem v4 (ho:QE X o (tC (.ref C)))(M:yA X.K C mc m g)(F:aB X.prog X.w X.K X.mg X.base CX k g fd ps sp)(hr:Room k X.A)(hb:Binds X.K fd ps ds)(hd:Vals dvs ds)(hx:cR CX X E)(ha:QA X (e::es) t)(hst:starEach (e::es) X.env=(false,eval e X.env)::starEach es X.env:=by rfl)(hpl:(backTo pos (starEach es X.env)).any (·.1)=false:=by rfl)(ht:eval (.Call (.Attribute o m apos) (e::es) [] pos) X.env=(do
   let ov <-eval o X.env
   standAt apos.atName
   let (f,first) <-holding [ov] (getMethod ov m pl)
   callWith pos f first (backTo pos (starEach (e::es) X.env)) (backToKw pos (keywordEach [] X.env))):=by rfl):
  QE X (.Call (.Attribute o m apos) (e::es) [] pos) (rA sp dvs E t):=.mk (by
 have ho:=ho.to
 have ha:=ha.to
 intro pins s U H Q I h
 refine methodCall_KW (pl:=pl) (thn (ho pins s U H (fun v H'=>v=.ref C/\H'=H) I ⟨rfl,rfl⟩) fun u s1 zz=>?_) ht
 obtain ⟨x,H1,I1,rx,ex,eH⟩:=zz
 subst ex eH
 obtain rfl:u=Value.ref C:=rx
 refine method_cls I1.kIn M.ga (cls_value I1.kIn M.rd M.fc rfl ?_)
 have I2:=I1.tok (s1.toks+1)
 refine callWith_K (h₀:=X.base) I.ok.mod.kin M.kp (thn (ha pos pins _ U H1 _ I2 h) fun us s2 ⟨vs,H2,I3,r,q2⟩=>⟨I3.kIn,?_⟩) hst hpl
 exact jS F hr hb hd hx I3 r q2)
end
end
theorem dI {K:Frag}(h:X.K=K):IxR X (zu K):=by subst h;exact aJ
end L2
namespace Hg
section
variable {α:Type}[Inhabited α]
abbrev g (xs:List α)(i:Nat):α:=xs.getD i default
def sw (xs:List α)(i j:Nat):List α:=(xs.set i (g xs j)).set j (g xs i)
structure Od (lt:α->α->Bool):Prop where
 as:∀a b,lt a b=true->lt b a=false
 nt:∀a b c,lt a b=false->lt b c=false->lt a c=false
theorem Od.irr {lt:α->α->Bool}(o:Od lt)(a:α):lt a a=false:=by
 cases e:lt a a with
 | false=>rfl
 | true=>have:=o.as a a e;rw [e] at this;exact this
theorem wD {xs:List α}{k:Nat}{v:α}:g (xs.set i v) k=if i=k/\k<xs.length then v else g xs k:=by
 simp only [g,AD,List.getElem?_set]
 by_cases h:i=k
 .subst h
  by_cases h2:i<xs.length
  .simp [h2]
  .simp [h2,BO (Nat.le_of_not_lt h2)]
 simp [h]
theorem aS {xs:List α}:(sw xs i j).length=xs.length:=by simp [sw]
theorem kT {xs:List α}{k:Nat}(hi:i<xs.length)(hj:j<xs.length):g (sw xs i j) k=if k=j then g xs i else if k=i then g xs j else g xs k:=by
 unfold sw
 rw [wD,wD,Cq]
 by_cases h1:k=j
 .subst h1;simp [hj]
 rw [Ay (by intro z;exact h1 z.1.symm),Ay h1]
 by_cases h2:k=i
 .subst h2;simp [hi]
 rw [Ay (by intro z;exact h2 z.1.symm),Ay h2]
theorem g_get {xs:List α}(h:i<xs.length):g xs i=xs[i]:=by simp [g,AD,h]
theorem cw {xs:List α}(hi:i<xs.length)(hj:j<xs.length):(sw xs i j).Perm xs:=by
 unfold sw
 rw [g_get hi,g_get hj]
 exact List.set_set_perm hi hj
def les (lt:α->α->Bool)(xs:List α)(p:Nat):Nat:=if 2*p+2<xs.length/\lt (g xs (2*p+2)) (g xs (2*p+1))=true then 2*p+2 else 2*p+1
def kids (n p:Nat):Nat:=if 2*p+2<n then 2 else if 2*p+1<n then 1 else 0
def dn (lt:α->α->Bool):Nat->List α->Nat->Nat->List α×Nat
 | 0,xs,_,lk=>(xs,lk)
 | f+1,xs,p,lk=>if 2*p+1<xs.length then
   if lt (g xs (les lt xs p)) (g xs p)=true then dn lt f (sw xs p (les lt xs p)) (les lt xs p) (lk+kids xs.length p) else (xs,lk+kids xs.length p)
  else (xs,lk)
def up (lt:α->α->Bool):Nat->List α->Nat->Nat->List α×Nat
 | 0,xs,_,lk=>(xs,lk)
 | f+1,xs,p,lk=>if 0<p then
   if lt (g xs p) (g xs ((p-1) / 2))=true then up lt f (sw xs p ((p-1) / 2)) ((p-1) / 2) (lk+1) else (xs,lk+1)
  else (xs,lk)
theorem eJ {lt:α->α->Bool}{xs:List α}{p:Nat}:2*p+1<=les lt xs p:=by unfold les;split <;> lia
theorem x3 {lt:α->α->Bool}{xs:List α}{p:Nat}:les lt xs p<=2*p+2:=by unfold les;split <;> lia
theorem cC {lt:α->α->Bool}{xs:List α}{p:Nat}(h:2*p+1<xs.length):les lt xs p<xs.length:=by unfold les;split <;> lia
theorem vG {lt:α->α->Bool}(o:Od lt){xs:List α}{p k:Nat}(hk:k<xs.length)(hp:k=2*p+1∨k=2*p+2):lt (g xs k) (g xs (les lt xs p))=false:=by
 unfold les
 split
 .rename_i h
  rcases hp with rfl | rfl
  .exact o.as _ _ h.2
  .exact o.irr _
 rename_i h
 rcases hp with rfl | rfl
 .exact o.irr _
 cases e:lt (g xs (2*p+2)) (g xs (2*p+1)) with
 | false=>rfl
 | true=>exact absurd ⟨hk,e⟩ h
theorem dn_len {lt:α->α->Bool}:∀{f:Nat} {xs:List α} {p lk:Nat},(dn lt f xs p lk).1.length=xs.length
 | 0,xs,p,lk=>rfl
 | f+1,xs,p,lk=>by
  unfold dn
  split
  .split
   .rw [dn_len,aS]
   .rfl
  .rfl
theorem dn_perm {lt:α->α->Bool}:∀{f:Nat} {xs:List α} {p lk:Nat},(dn lt f xs p lk).1.Perm xs
 | 0,xs,p,lk=>.refl _
 | f+1,xs,p,lk=>by
  unfold dn
  split
  .rename_i h
   split
   .exact dn_perm.trans (cw Am (cC h))
   .exact .refl _
  .exact .refl _
theorem dJ {lt:α->α->Bool}:∀{f:Nat} {xs:List α} {p lk:Nat},p<xs.length->(up lt f xs p lk).1.Perm xs
 | 0,xs,p,lk,_=>.refl _
 | f+1,xs,p,lk,hp=>by
  unfold up
  split
  .split
   .exact (dJ (by rw [aS];lia)).trans (cw Am Am)
   .exact .refl _
  .exact .refl _
def HF (lt:α->α->Bool)(q:Nat)(xs:List α):Prop:=∀k,0<k->k<xs.length->q<=(k-1) / 2->lt (g xs k) (g xs ((k-1) / 2))=false
def IsH (lt:α->α->Bool)(xs:List α):Prop:=∀k,0<k->k<xs.length->lt (g xs k) (g xs ((k-1) / 2))=false
theorem HF.zero {lt:α->α->Bool}{xs:List α}(h:HF lt 0 xs):IsH lt xs:=fun k a b=>h k a b (BA _)
theorem j6 {lt:α->α->Bool}(o:Od lt){q:Nat}:∀{f:Nat} {xs:List α} {p lk:Nat},xs.length<=p+f->q<=p ->
  (∀k,0<k->k<xs.length->q<=(k-1) / 2->(k-1) / 2≠p->lt (g xs k) (g xs ((k-1) / 2))=false) ->
  (p=q∨(0<p/\q<=(p-1) / 2/\∀k,0<k->k<xs.length->(k-1) / 2=p->lt (g xs k) (g xs ((p-1) / 2))=false))->HF lt q (dn lt f xs p lk).1
 | 0,xs,p,lk,hf,hq,h1,h2=>by
  intro k k0 k1 k2
  exact h1 k k0 k1 k2 (by have:k<xs.length:=k1;lia)
 | f+1,xs,p,lk,hf,hq,h1,h2=>by
  unfold dn
  split
  .rename_i hc
   have b1:=eJ (lt:=lt) (xs:=xs) (p:=p)
   have b2:=x3 (lt:=lt) (xs:=xs) (p:=p)
   have b3:=cC (lt:=lt) hc
   have bm:=fun k hk hp=>vG o (xs:=xs) (p:=p) (k:=k) hk hp
   split
   .rename_i hl
    generalize les lt xs p=b at *
    have hpl:p<xs.length:=by lia
    refine j6 o (by rw [aS];lia) Am (fun k k0 k1 k2 k3=>?_) (.inr ⟨Am,Am,fun k k0 k1 k2=>?_⟩)
    .rw [aS] at k1
     rw [kT hpl b3,kT hpl b3]
     by_cases e1:k=b
     .subst e1
      have e2:(k-1) / 2=p:=by lia
      rw [Az rfl,e2,Ay Am,Az rfl]
      exact o.as _ _ hl
     .rw [Ay e1,Ay (by lia:¬ (k-1) / 2=b)]
      by_cases e2:(k-1) / 2=p
      .rw [Ay Am,Az e2]
       exact bm k k1 Am
      .rw [Ay e2]
       by_cases e3:k=p
       .subst e3
        rw [Az rfl]
        rcases h2 with h2 | ⟨_,_,h2⟩
        .lia
        .exact h2 b Am b3 Am
       .rw [Ay e3]
        exact h1 k k0 k1 k2 e2
    .rw [aS] at k1
     have e1:(b-1) / 2=p:=by lia
     rw [e1,kT hpl b3,kT hpl b3,Ay Am,Ay Am,Ay Am,Az rfl]
     have:=h1 k k0 k1 Am Am
     rwa [k2] at this
   .rename_i hl
    intro k k0 k1 k2
    by_cases e2:(k-1) / 2=p
    .rw [e2]
     have hl':lt (g xs (les lt xs p)) (g xs p)=false:=by simpa using hl
     exact o.nt _ _ _ (bm k k1 Am) hl'
    .exact h1 k k0 k1 k2 e2
  .intro k k0 k1 k2
   exact h1 k k0 k1 k2 (by have:k<xs.length:=k1;lia)
theorem pB {lt:α->α->Bool}(o:Od lt):∀{f:Nat} {xs:List α} {p lk:Nat},p<=f->p<xs.length ->
  (∀k,0<k->k<xs.length->k≠p->lt (g xs k) (g xs ((k-1) / 2))=false) ->
  (∀k,0<k->k<xs.length->(k-1) / 2=p->0<p->lt (g xs k) (g xs ((p-1) / 2))=false)->IsH lt (up lt f xs p lk).1
 | 0,xs,p,lk,hf,hp,h1,h2=>fun k k0 k1=>h1 k k0 k1 Am
 | f+1,xs,p,lk,hf,hp,h1,h2=>by
  unfold up
  split
  .rename_i hc
   split
   .rename_i hl
    generalize ha:(p-1) / 2=a at *
    have hal:a<xs.length:=by lia
    refine pB o Am (by rw [aS];lia) (fun k k0 k1 k2=>?_) (fun k k0 k1 k2 k3=>?_)
    .rw [aS] at k1
     rw [kT hp hal,kT hp hal,Ay k2]
     by_cases e1:k=p
     .subst e1
      rw [Az rfl,ha,Az rfl]
      exact o.as _ _ hl
     .rw [Ay e1]
      by_cases e2:(k-1) / 2=a
      .rw [Az e2]
       have q1:=h1 k k0 k1 e1
       rw [e2] at q1
       exact o.nt _ _ _ q1 (o.as _ _ hl)
      .rw [Ay e2]
       by_cases e3:(k-1) / 2=p
       .rw [Az e3]
        exact h2 k k0 k1 e3 hc
       .rw [Ay e3]
        exact h1 k k0 k1 e1
    .rw [aS] at k1
     rw [kT hp hal,kT hp hal,Ay Am,Ay (by lia:¬ (a-1) / 2=a),Ay (by lia:¬ (a-1) / 2=p)]
     have qa:=h1 a Am hal Am
     by_cases e1:k=p
     .rw [Az e1];exact qa
     .rw [Ay e1]
      have q1:=h1 k k0 k1 e1
      rw [k2] at q1
      exact o.nt _ _ _ q1 qa
   .rename_i hl
    intro k k0 k1
    by_cases e1:k=p
    .subst e1;simpa using hl
    .exact h1 k k0 k1 e1
  .intro k k0 k1
   exact h1 k k0 k1 Am
def mk (lt:α->α->Bool):Nat->List α->Nat->List α×Nat
 | 0,xs,lk=>(xs,lk)
 | k+1,xs,lk=>mk lt k (dn lt xs.length xs k 0).1 (lk+(dn lt xs.length xs k 0).2)
theorem mk_perm {lt:α->α->Bool}:∀{k:Nat} {xs:List α} {lk:Nat},(mk lt k xs lk).1.Perm xs
 | 0,_,_=>.refl _
 | k+1,xs,lk=>by unfold mk;exact mk_perm.trans dn_perm
theorem oY {lt:α->α->Bool}(o:Od lt):∀{k:Nat} {xs:List α} {lk:Nat},HF lt k xs->IsH lt (mk lt k xs lk).1
 | 0,_,_,h=>h.zero
 | k+1,xs,lk,h=>by
  unfold mk
  refine oY o (j6 o Am (Av _) (fun j j0 j1 j2 j3=>h j j0 j1 Am) (.inl rfl))
theorem wa {lt:α->α->Bool}{xs:List α}:HF lt (xs.length / 2) xs:=fun k k0 k1 k2=>by lia
variable {lt:α->α->Bool}{xs:List α}{f p lk:Nat}
def lgs (n:Nat):Nat->Nat
 | 0=>0
 | k+1=>lgs n k+(n / (k+1)).log2
theorem uG {lt:α->α->Bool}(o:Od lt){xs:List α}(h:IsH lt xs):∀k,k<xs.length->lt (g xs k) (g xs 0)=false:=fun k=>by
 induction k using Nat.strongRecOn with
 | _ k ih =>
  intro hk
  by_cases k0:k=0
  .subst k0;exact o.irr _
  .exact o.nt _ _ _ (h k Am hk) (ih ((k-1) / 2) Am Am)
theorem uH {lt:α->α->Bool}(o:Od lt){xs:List α}(h:IsH lt xs){y:α}(hy:y∈xs):lt y (g xs 0)=false:=by
 obtain ⟨k,hk,e⟩:=Ba hy
 rw [<-e,<-g_get hk]
 exact uG o h k hk
def cutf (lt:α->α->Bool)(xs:List α):List α×Nat :=
 if xs.dropLast=[] then ([],0) else dn lt xs.dropLast.length (xs.dropLast.set 0 (g xs (xs.length-1))) 0 0
theorem c5 {xs:List α}(h:2<=xs.length):∃ mid,xs=g xs 0::mid++[g xs (xs.length-1)]/\xs.dropLast=g xs 0::mid:=by
 cases xs with
 | nil=>simp at h
 | cons a l =>
  have hl:l≠[]:=by intro e;rw [e] at h;simp at h
  refine ⟨l.dropLast,?_,?_⟩
  .show a::l=a::l.dropLast++[g (a::l) l.length]
   have:g (a::l) l.length=l.getLast hl:=by
    rw [g_get An]
    rw [E7]
    rw [List.getElem_cons]
    have:l.length≠0:=by intro e;exact hl (AY.mp e)
    simp [this]
   rw [this,Ci,EA]
  .show (a::l).dropLast=a::l.dropLast
   exact EB hl
theorem cH {lt:α->α->Bool}{xs:List α}(h:xs.length=1):cutf lt xs=([],0):=by
 unfold cutf
 rw [Az]
 rw [<-AY,B8,h]
theorem fu {lt:α->α->Bool}{xs mid:List α}(e:xs.dropLast=g xs 0::mid):cutf lt xs=dn lt (mid.length+1) (g xs (xs.length-1)::mid) 0 0:=by
 unfold cutf
 rw [Ay (by rw [e];simp),e]
 rfl
theorem cutf_len {lt:α->α->Bool}{xs:List α}:(cutf lt xs).1.length=xs.length-1:=by
 unfold cutf
 split
 .rename_i h
  have:=congrArg List.length h
  rw [B8] at this
  exact this.symm
 rw [dn_len,Cq,B8]
theorem cutf_perm {lt:α->α->Bool}{xs:List α}(h:0<xs.length):(g xs 0::(cutf lt xs).1).Perm xs:=by
 by_cases h2:2<=xs.length
 .obtain ⟨mid,e,e2⟩:=c5 h2
  rw [fu e2]
  refine (List.Perm.cons _ dn_perm).trans ?_
  conv=>rhs;rw [e]
  rw [Ci]
  refine List.Perm.cons _ ?_
  exact (BN (l₁:=[g xs (xs.length-1)]) (l₂:=mid))
 rw [cH Am]
 cases xs with
 | nil=>simp at h
 | cons a l =>
  have:l=[]:=AY.mp (by rw [A8] at h2;lia)
  subst this
  exact .refl _
theorem i5 {lt:α->α->Bool}(o:Od lt){xs:List α}(h:IsH lt xs)(hl:0<xs.length):IsH lt (cutf lt xs).1:=by
 by_cases h2:2<=xs.length
 .obtain ⟨mid,e,e2⟩:=c5 h2
  rw [fu e2]
  have len:xs.length=mid.length+2:=by
   have:=congrArg List.length e2
   rw [B8,A8] at this
   lia
  have gm:∀k,k<mid.length->g (g xs (xs.length-1)::mid) (k+1)=g xs (k+1):=fun k hk=>by
   have e3:(g xs 0::mid++[g xs (xs.length-1)])[k+1]?=some mid[k]:=by
    rw [Ci,DY,AW hk,tx hk]
   rw [<-e] at e3
   show (g xs (xs.length-1)::mid).getD (k+1) default=xs.getD (k+1) default
   rw [AD,AD,e3,DY,tx hk]
  refine HF.zero (j6 o (by rw [A8];lia) (Av _) (fun k k0 k1 _ k3=>?_) (.inl rfl))
  rw [A8] at k1
  obtain ⟨k',rfl⟩:∃ k',k=k'+1:=⟨k-1,Am⟩
  obtain ⟨j,hj⟩:∃ j,(k'+1-1) / 2=j+1:=⟨(k'+1-1) / 2-1,Am⟩
  rw [hj,gm k' Am,gm j Am]
  have:=h (k'+1) Am Am
  rwa [hj] at this
 rw [cH Am]
 intro k k0 k1
 exact absurd k1 An
end
end Hg
namespace Gm
open Hg
structure En (N:Type) where
 w:Int
 n:N
 s:Int
 deriving DecidableEq
instance {N:Type} [Inhabited N]:Inhabited (En N):=⟨⟨0,default,0⟩⟩
structure Slo {N:Type}(sl:N->N->Bool):Prop where
 irr:∀a,sl a a=false
 tr:∀a b c,sl a b=true->sl b c=true->sl a c=true
 tot:∀a b,a≠b->sl a b=true∨sl b a=true
section
variable {N:Type}[DecidableEq N][Inhabited N](sl:N->N->Bool)
def ltE (a b:En N):Bool:=if a.w=b.w then if a.n=b.n then decide (a.s<b.s) else sl a.n b.n else decide (a.w<b.w)
variable {sl}
theorem Slo.as (o:Slo sl){a b:N}(h:sl a b=true):sl b a=false:=by
 cases e:sl b a with
 | false=>rfl
 | true=>have:=o.tr a b a h e;rw [o.irr] at this;cases this
theorem Slo.nt (o:Slo sl){a b c:N}(h:sl a b=false)(h':sl b c=false):sl a c=false:=by
 cases e:sl a c with
 | false=>rfl
 | true =>
  by_cases hab:a=b
  .subst hab;rw [h'] at e;cases e
  .by_cases hbc:b=c
   .subst hbc;rw [h] at e;cases e
   .have h1:=(o.tot a b hab).resolve_left (by rw [h];exact AL)
    have h2:=(o.tot b c hbc).resolve_left (by rw [h'];exact AL)
    have:=o.tr c b a h2 h1
    have:=o.as this
    rw [this] at e;cases e
theorem ltE_iff {a b:En N}:ltE sl a b=true↔a.w<b.w∨(a.w=b.w/\((a.n≠b.n/\sl a.n b.n=true)∨(a.n=b.n/\a.s<b.s))):=by
 unfold ltE
 by_cases h:a.w=b.w
 .rw [Az h]
  by_cases h2:a.n=b.n
  .rw [Az h2,Bw]
   constructor
   .intro z;exact .inr ⟨h,.inr ⟨h2,z⟩⟩
   .rintro (z | ⟨_,⟨z,_⟩ | ⟨_,z⟩⟩)
    .lia
    .exact absurd h2 z
    .exact z
  .rw [Ay h2]
   constructor
   .intro z;exact .inr ⟨h,.inl ⟨h2,z⟩⟩
   .rintro (z | ⟨_,⟨_,z⟩ | ⟨z,_⟩⟩)
    .lia
    .exact z
    .exact absurd z h2
 rw [Ay h,Bw]
 constructor
 .intro z;exact .inl z
 rintro (z | ⟨z,_⟩)
 .exact z
 exact absurd z h
theorem gZ (o:Slo sl):Od (ltE sl) where
 as:=fun a b h=>by
  cases e:ltE sl b a with
  | false=>rfl
  | true =>
   rw [ltE_iff] at h e
   rcases h with h | ⟨h1,⟨h2,h3⟩ | ⟨h2,h3⟩⟩ <;> rcases e with e | ⟨e1,⟨e2,e3⟩ | ⟨e2,e3⟩⟩ <;> try omega
   .rw [o.as h3] at e3;cases e3
   .exact absurd e2.symm h2
   .exact absurd h2.symm e2
 nt:=fun a b c h h'=>by
  cases e:ltE sl a c with
  | false=>rfl
  | true =>
   have h1:¬ ltE sl a b=true:=by rw [h];exact AL
   have h2:¬ ltE sl b c=true:=by rw [h'];exact AL
   rw [ltE_iff] at h1 h2 e
   exfalso
   have w1:b.w<=a.w:=by
    rcases Int.lt_or_le a.w b.w with z | z
    .exact absurd (.inl z) h1
    .exact z
   have w2:c.w<=b.w:=by
    rcases Int.lt_or_le b.w c.w with z | z
    .exact absurd (.inl z) h2
    .exact z
   rcases e with e | ⟨e1,e2⟩
   .lia
   .have wab:a.w=b.w:=by lia
    have wbc:b.w=c.w:=by lia
    have n1:sl a.n b.n=false:=by
     cases z:sl a.n b.n with
     | false=>rfl
     | true =>
      by_cases q:a.n=b.n
      .rw [q,o.irr] at z;cases z
      .exact absurd (.inr ⟨wab,.inl ⟨q,z⟩⟩) h1
    have n2:sl b.n c.n=false:=by
     cases z:sl b.n c.n with
     | false=>rfl
     | true =>
      by_cases q:b.n=c.n
      .rw [q,o.irr] at z;cases z
      .exact absurd (.inr ⟨wbc,.inl ⟨q,z⟩⟩) h2
    have n3:=o.nt n1 n2
    rcases e2 with ⟨_,z⟩ | ⟨z1,z2⟩
    .rw [n3] at z;cases z
    .have:a.n=b.n:=by
      by_cases q:a.n=b.n
      .exact q
      .have q1:=(o.tot _ _ q).resolve_left (by rw [n1];exact AL)
       rw [<-z1] at n2
       rw [n2] at q1;cases q1
     have e4:b.n=c.n:=this.symm.trans z1
     have s1:¬ a.s<b.s:=fun z=>h1 (.inr ⟨wab,.inr ⟨this,z⟩⟩)
     have s2:¬ b.s<c.s:=fun z=>h2 (.inr ⟨wbc,.inr ⟨e4,z⟩⟩)
     lia
end
section
variable {N β γ:Type}[DecidableEq N]
def dget (L:List (N×β))(n:N):Option β:=(L.find? fun p=>decide (p.1=n)).map (·.2)
def dput (L:List (N×β))(n:N)(b:β):List (N×β):=if L.any (fun p=>decide (p.1=n)) then L.map (fun p=>if p.1=n then (p.1,b) else p) else L++[(n,b)]
def ddel (L:List (N×β))(n:N):List (N×β):=L.filter fun p=>decide (p.1≠n)
theorem dget_some {L:List (N×β)}{n:N}{b:β}(h:dget L n=some b):(n,b)∈L:=by
 unfold dget at h
 obtain ⟨p,hp,rfl⟩:=BV.mp h
 have h1:=List.mem_of_find?_eq_some hp
 have h2:=List.find?_some hp
 simp at h2
 subst h2
 exact h1
theorem dget_of {L:List (N×β)}(nd:(L.map (·.1)).Nodup){n:N}{b:β}(h:(n,b)∈L):dget L n=some b:=by
 induction L with
 | nil=>cases h
 | cons p r ih =>
  rw [AN,BY] at nd
  unfold dget
  rw [BK]
  by_cases e:p.1=n
  .rw [AO e]
   rcases Aw.mp h with rfl | h
   .rfl
   .exact absurd (AK.mpr ⟨_,h,e.symm⟩) nd.1
  .rw [AR e]
   rcases Aw.mp h with rfl | h
   .exact absurd rfl e
   .exact ih nd.2 h
theorem dget_none {L:List (N×β)}{n:N}:dget L n=none↔n∉L.map (·.1):=by
 unfold dget
 rw [Option.map_eq_none_iff,List.find?_eq_none]
 constructor
 .intro h z
  obtain ⟨p,hp,e⟩:=AK.mp z
  have:=h p hp
  simp [e] at this
 intro h p hp
 simp
 intro e
 exact h (AK.mpr ⟨p,hp,e⟩)
theorem dput_keys {L:List (N×β)}{n:N}{b:β}:(dput L n b).map (·.1)=if n∈L.map (·.1) then L.map (·.1) else L.map (·.1)++[n]:=by
 unfold dput
 by_cases h:L.any (fun p=>decide (p.1=n))=true
 .rw [Az h]
  have:n∈L.map (·.1):=by
   obtain ⟨p,hp,e⟩:=BF.mp h
   exact AK.mpr ⟨p,hp,Bc e⟩
  rw [Az this,CF]
  apply DT
  intro p _
  show (if p.1=n then (p.1,b) else p).1=p.1
  split <;> rfl
 rw [Ay h]
 have:¬ n∈L.map (·.1):=fun z=>h (by
  obtain ⟨p,hp,e⟩:=AK.mp z
  exact BF.mpr ⟨p,hp,AO e⟩)
 rw [Ay this,A1]
 rfl
theorem fC {L:List (N×β)}{n:N}{b:β}(nd:(L.map (·.1)).Nodup):((dput L n b).map (·.1)).Nodup:=by
 rw [dput_keys]
 split
 .exact nd
 rename_i h
 rw [DC]
 refine ⟨nd,BY.mpr ⟨Ax,EV⟩,?_⟩
 intro a ha c hc
 rw [Bh] at hc
 subst hc
 intro z;subst z;exact h ha
theorem dput_mem {L:List (N×β)}{n m:N}{b c:β}(h:(m,c)∈dput L n b):(m=n/\c=b)∨(m≠n/\(m,c)∈L):=by
 unfold dput at h
 split at h
 .obtain ⟨p,hp,e⟩:=AK.mp h
  split at e
  .rename_i q
   cases e
   exact .inl ⟨q,rfl⟩
  .rename_i q
   subst e
   exact .inr ⟨q,hp⟩
 rename_i hn
 rcases AU.mp h with h | h
 .refine .inr ⟨fun z=>hn (BF.mpr ⟨_,h,AO z⟩),h⟩
 rw [Bh] at h
 cases h
 exact .inl ⟨rfl,rfl⟩
theorem uN {L:List (N×β)}{n m:N}{b c:β}(h:(m,c)∈L)(hm:m≠n):(m,c)∈dput L n b:=by
 unfold dput
 split
 .exact AK.mpr ⟨_,h,by rw [Ay hm]⟩
 exact AU.mpr (.inl h)
theorem qD {L:List (N×β)}{n:N}{b:β}:(n,b)∈dput L n b:=by
 unfold dput
 split
 .rename_i h
  obtain ⟨p,hp,e⟩:=BF.mp h
  have e:=Bc e
  exact AK.mpr ⟨p,hp,by rw [Az e,e]⟩
 exact AU.mpr (.inr (Bh.mpr rfl))
theorem ddel_mem {L:List (N×β)}{n m:N}{c:β}:(m,c)∈ddel L n↔m≠n/\(m,c)∈L:=by
 unfold ddel
 rw [List.mem_filter]
 simp
 exact And.comm
theorem fG {L:List (N×β)}{n:N}(nd:(L.map (·.1)).Nodup):((ddel L n).map (·.1)).Nodup :=
 (List.Sublist.map _ FO).nodup nd
theorem dput_map {L:List (N×β)}{n:N}{b:β}{f:β->γ}:(dput L n b).map (fun p=>(p.1,f p.2))=dput (L.map fun p=>(p.1,f p.2)) n (f b):=by
 unfold dput
 have e:(L.map fun p=>(p.1,f p.2)).any (fun p=>decide (p.1=n))=L.any (fun p=>decide (p.1=n)):=by
  rw [List.any_map];rfl
 rw [e]
 split
 .rw [CF,CF]
  apply DT
  intro p _
  show ((if p.1=n then (p.1,b) else p).1,f (if p.1=n then (p.1,b) else p).2)=if p.1=n then (p.1,f b) else (p.1,f p.2)
  split <;> rfl
 rw [A1];rfl
theorem ddel_map {L:List (N×β)}{n:N}{f:β->γ}:(ddel L n).map (fun p=>(p.1,f p.2))=ddel (L.map fun p=>(p.1,f p.2)) n:=by
 unfold ddel
 rw [D1]
 rfl
theorem rV {L:List (N×β)}{n:N}{b:β}:(dput L n b).length<=L.length+1:=by
 unfold dput
 split
 .rw [Ar];lia
 rw [As];exact Av _
theorem kO {L:List (N×β)}{n:N}:(ddel L n).length<=L.length:=BZ _ _
end
structure LS (N:Type) where
 slack:Int
 there:List (N×En N)
 stamp:Nat
 row:List (En N)
 looks:Nat
section
variable {N:Type}[DecidableEq N][Inhabited N](sl:N->N->Bool)
def holds (T:List (N×En N))(e:En N):Bool:=decide (dget T e.n=some e)
def enter (s:LS N)(n:N)(w:Int):LS N :=
 { s with there:=dput s.there n ⟨w,n,(s.stamp:Int)⟩,stamp:=s.stamp+1,row:=(up (ltE sl) s.row.length (s.row++[⟨w,n,(s.stamp:Int)⟩]) s.row.length 0).1,looks:=s.looks+(up (ltE sl) s.row.length (s.row++[⟨w,n,(s.stamp:Int)⟩]) s.row.length 0).2 }
def cut (s:LS N):LS N:={ s with row:=(cutf (ltE sl) s.row).1,looks:=s.looks+(cutf (ltE sl) s.row).2 }
def clean:Nat->LS N->LS N
 | 0,s=>s
 | f+1,s=>if holds s.there (g s.row 0) then s else clean f (cut sl s)
def due (s:LS N):Bool:=decide ((s.row.length:Int)-s.there.length>s.there.length)&&decide ((s.row.length:Int)-s.there.length>s.slack)
def swept (s:LS N):LS N:={ s with row:=(mk (ltE sl) ((s.row.filter (holds s.there)).length / 2) (s.row.filter (holds s.there)) 0).1,looks:=s.looks+(mk (ltE sl) ((s.row.filter (holds s.there)).length / 2) (s.row.filter (holds s.there)) 0).2 }
def sweep (s:LS N):LS N:=if due s=true then swept sl s else s
def putL (s:LS N)(n:N)(w:Int):LS N:=sweep sl (enter sl s n w)
def dropT (s:LS N)(n:N):LS N:={ s with there:=ddel s.there n }
def dropL (s:LS N)(n:N):LS N:=sweep sl (dropT s n)
def leastL (s:LS N):LS N:=clean sl s.row.length s
def takeL (s:LS N):LS N:=sweep sl (dropT (cut sl (leastL sl s)) (g (leastL sl s).row 0).n)
def newL (slack:Int):LS N:=⟨slack,[],0,[],0⟩
structure LInv (s:LS N):Prop where
 nd:(s.there.map (·.1)).Nodup
 inr:∀n e,(n,e)∈s.there->e.n=n/\e∈s.row
 st:(s.row.map (·.s)).Nodup
 lts:∀e∈s.row,e.s<(s.stamp:Int)
 hp:IsH (ltE sl) s.row
 len:s.row.length<=s.stamp
 tl:s.there.length<=s.stamp
variable {sl}
theorem new_inv {z:Int}:LInv sl (newL (N:=N) z):=⟨EV,(fun _ _ h=>nomatch h),EV,(fun _ h=>nomatch h),(fun _ _ h=>absurd h (Nat.not_lt_zero _)),Av _,Av _⟩
theorem LInv.held {s:LS N}(I:LInv sl s){n:N}{e:En N}(h:(n,e)∈s.there):holds s.there e=true:=by
 unfold holds
 rw [Bw,(I.inr n e h).1]
 exact dget_of I.nd h
theorem LInv.get {s:LS N}(I:LInv sl s){n:N}{e:En N}(h:dget s.there n=some e):e.n=n/\e∈s.row:=I.inr n e (dget_some h)
theorem holds_in {T:List (N×En N)}{e:En N}(h:holds T e=true):(e.n,e)∈T:=dget_some (Bc h)
theorem wJ {α:Type}[Inhabited α]{xs:List α}{e:α}{k:Nat}(h:k<xs.length):g (xs++[e]) k=g xs k:=by
 simp only [g,AD,AW h]
theorem tK {α:Type}[Inhabited α]{lt:α->α->Bool}(o:Od lt){xs:List α}(h:IsH lt xs){e:α}:IsH lt (up lt xs.length (xs++[e]) xs.length 0).1:=by
 have l1:(xs++[e]).length=xs.length+1:=by rw [As];rfl
 refine pB o (Av _) Am (fun k k0 k1 k2=>?_) (fun k k0 k1 k2 k3=>by lia)
 rw [wJ Am,wJ Am]
 exact h k k0 Am
theorem enter_row_perm {s:LS N}{n:N}{w:Int}:(enter sl s n w).row.Perm (s.row++[⟨w,n,(s.stamp:Int)⟩]):=dJ (by rw [As];exact Cu _)
theorem enter_inv (o:Slo sl){s:LS N}(I:LInv sl s){n:N}{w:Int}:LInv sl (enter sl s n w) where
 nd:=fC I.nd
 inr:=fun m e h=>by
  have p:=enter_row_perm (sl:=sl) (s:=s) (n:=n) (w:=w)
  rcases dput_mem h with ⟨rfl,rfl⟩ | ⟨_,h⟩
  .exact ⟨rfl,p.mem_iff.mpr (AU.mpr (.inr (Bh.mpr rfl)))⟩
  .obtain ⟨h1,h2⟩:=I.inr m e h
   exact ⟨h1,p.mem_iff.mpr (AU.mpr (.inl h2))⟩
 st:=by
  have p:=(enter_row_perm (sl:=sl) (s:=s) (n:=n) (w:=w)).map (·.s)
  refine p.nodup_iff.mpr ?_
  rw [A1,DC]
  refine ⟨I.st,BY.mpr ⟨Ax,EV⟩,?_⟩
  intro a ha c hc
  obtain ⟨e,he,rfl⟩:=AK.mp ha
  rw [AN,CP,Bh] at hc
  have:=I.lts e he
  subst hc
  exact Int.ne_of_lt this
 lts:=fun e h=>by
  have p:=enter_row_perm (sl:=sl) (s:=s) (n:=n) (w:=w)
  rcases AU.mp (p.mem_iff.mp h) with h | h
  .have:=I.lts e h
   show e.s<((s.stamp+1:Nat):Int)
   lia
  .rw [Bh] at h
   subst h
   show (s.stamp:Int)<((s.stamp+1:Nat):Int)
   lia
 hp:=tK (gZ o) I.hp
 len:=by
  have:=(enter_row_perm (sl:=sl) (s:=s) (n:=n) (w:=w)).length_eq
  rw [As] at this
  have l:=I.len
  show _<=s.stamp+1
  rw [this]
  exact Ew l
 tl:=AV rV (Ew I.tl)
theorem LInv.root {s:LS N}(I:LInv sl s)(o:Slo sl){e:En N}(h:e∈s.row):ltE sl e (g s.row 0)=false:=uH (gZ o) I.hp h
theorem cut_inv (o:Slo sl){s:LS N}(I:LInv sl s)(h0:0<s.row.length)(hh:¬ holds s.there (g s.row 0)=true):LInv sl (cut sl s):=by
 have p:=cutf_perm (lt:=ltE sl) h0
 have sub:∀e∈(cutf (ltE sl) s.row).1,e∈s.row:=fun e he=>p.mem_iff.mp (AH _ he)
 refine ⟨I.nd,fun n e h=>?_,?_,fun e he=>I.lts e (sub e he),i5 (gZ o) I.hp h0,?_,I.tl⟩
 .obtain ⟨h1,h2⟩:=I.inr n e h
  refine ⟨h1,?_⟩
  rcases Aw.mp (p.mem_iff.mpr h2) with z | z
  .exact absurd (z▸I.held h) hh
  .exact z
 .have:=(p.map (·.s)).nodup_iff.mpr I.st
  rw [AN,BY] at this
  exact this.2
 show (cutf (ltE sl) s.row).1.length<=s.stamp
 rw [cutf_len]
 have:=I.len
 lia
theorem cut_take_inv (o:Slo sl){s:LS N}(I:LInv sl s)(h0:0<s.row.length):LInv sl (dropT (cut sl s) (g s.row 0).n):=by
 have p:=cutf_perm (lt:=ltE sl) h0
 have sub:∀e∈(cutf (ltE sl) s.row).1,e∈s.row:=fun e he=>p.mem_iff.mp (AH _ he)
 refine ⟨fG I.nd,fun n e h=>?_,?_,fun e he=>I.lts e (sub e he),i5 (gZ o) I.hp h0,?_,AV kO I.tl⟩
 .obtain ⟨hn,h⟩:=ddel_mem.mp h
  obtain ⟨h1,h2⟩:=I.inr n e h
  refine ⟨h1,?_⟩
  rcases Aw.mp (p.mem_iff.mpr h2) with z | z
  .exact absurd (h1.symm.trans (congrArg (·.n) z)) hn
  .exact z
 .have:=(p.map (·.s)).nodup_iff.mpr I.st
  rw [AN,BY] at this
  exact this.2
 show (cutf (ltE sl) s.row).1.length<=s.stamp
 rw [cutf_len]
 have:=I.len
 lia
theorem drop_inv {s:LS N}(I:LInv sl s){n:N}:LInv sl (dropT s n):=⟨fG I.nd,fun m e h=>I.inr m e (ddel_mem.mp h).2,I.st,I.lts,I.hp,I.len,AV kO I.tl⟩
theorem swept_perm {s:LS N}:(swept sl s).row.Perm (s.row.filter (holds s.there)):=mk_perm
theorem qQ (o:Slo sl){s:LS N}(I:LInv sl s):LInv sl (swept sl s):=by
 have p:=swept_perm (sl:=sl) (s:=s)
 have sub:∀e∈(swept sl s).row,e∈s.row:=fun e he=>(Ce.mp (p.mem_iff.mp he)).1
 refine ⟨I.nd,fun n e h=>?_,?_,fun e he=>I.lts e (sub e he),oY (gZ o) wa,?_,I.tl⟩
 .obtain ⟨h1,h2⟩:=I.inr n e h
  exact ⟨h1,p.mem_iff.mpr (Ce.mpr ⟨h2,I.held h⟩)⟩
 .refine (p.map (·.s)).nodup_iff.mpr ?_
  exact (List.Sublist.map _ FO).nodup I.st
 rw [p.length_eq]
 exact AV (BZ _ _) I.len
theorem sweep_inv (o:Slo sl){s:LS N}(I:LInv sl s):LInv sl (sweep sl s):=by
 unfold sweep
 split
 .exact qQ o I
 exact I
theorem sweep_there {s:LS N}:(sweep sl s).there=s.there:=by unfold sweep;split <;> rfl
theorem sweep_stamp {s:LS N}:(sweep sl s).stamp=s.stamp:=by unfold sweep;split <;> rfl
structure pH (s s':LS N):Prop where
 inv:LInv sl s'
 there:s'.there=s.there
 stamp:s'.stamp=s.stamp
 slack:s'.slack=s.slack
 pos:0<s'.row.length
 hold:holds s'.there (g s'.row 0)=true
theorem row_pos {s:LS N}(I:LInv sl s)(h:s.there≠[]):0<s.row.length:=by
 cases e:s.there with
 | nil=>exact absurd e h
 | cons p r=>exact Di (I.inr p.1 p.2 (by rw [e];exact AX)).2
theorem kR (o:Slo sl):∀{f:Nat} {s:LS N},LInv sl s->s.there≠[]->s.row.length<=f->pH (sl:=sl) s (clean sl f s)
 | 0,s,I,h,hf=>absurd (row_pos I h) Am
 | f+1,s,I,h,hf=>by
  unfold clean
  have h0:=row_pos I h
  split
  .rename_i hh
   exact ⟨I,rfl,rfl,rfl,h0,hh⟩
  .rename_i hh
   have c:=kR o (f:=f) (cut_inv o I h0 hh) h (by show (cutf (ltE sl) s.row).1.length<=f;rw [cutf_len];lia)
   exact ⟨c.inv,c.there,c.stamp,c.slack,c.pos,c.hold⟩
theorem least_ok (o:Slo sl){s:LS N}(I:LInv sl s)(h:s.there≠[]):pH (sl:=sl) s (leastL sl s):=kR o I h (Av _)
theorem jk:∀{f:Nat} {s:LS N},(clean sl f s).row.length<=s.row.length
 | 0,s=>Av _
 | f+1,s=>by
  unfold clean
  split
  .exact Av _
  .refine AV jk ?_
   show (cutf (ltE sl) s.row).1.length<=_
   rw [cutf_len]
   lia
theorem least_len {s:LS N}:(leastL sl s).row.length<=s.row.length:=jk
theorem put_inv (o:Slo sl){s:LS N}(I:LInv sl s){n:N}{w:Int}:LInv sl (putL sl s n w):=sweep_inv o (enter_inv o I)
theorem dropL_inv (o:Slo sl){s:LS N}(I:LInv sl s){n:N}:LInv sl (dropL sl s n):=sweep_inv o (drop_inv I)
theorem take_inv (o:Slo sl){s:LS N}(I:LInv sl s)(h:s.there≠[]):LInv sl (takeL sl s):=sweep_inv o (cut_take_inv o (least_ok o I h).inv (least_ok o I h).pos)
structure zi (T:List (N×En N))(e:En N):Prop where
 mem:(e.n,e)∈T
 le:∀n e',(n,e')∈T->ltE sl e' e=false
theorem least_is (o:Slo sl){s:LS N}(I:LInv sl s)(h:s.there≠[]):zi (sl:=sl) s.there (g (leastL sl s).row 0):=by
 have c:=least_ok o I h
 refine ⟨by have:=holds_in c.hold;rw [c.there] at this;exact this,fun n e' h'=>?_⟩
 exact c.inv.root o (c.inv.inr n e' (by rw [c.there];exact h')).2
theorem take_there {s:LS N}:(takeL sl s).there=ddel (leastL sl s).there (g (leastL sl s).row 0).n:=sweep_there
end
end Gm
namespace L2
open PySem
instance:Inhabited Str:=⟨""⟩
abbrev En:=Gm.En Str
abbrev LS:=Gm.LS Str
def enV (e:En):List V:=[.int e.w,.str e.n,.int e.s]
theorem mN (e:En):gr (enV e):=⟨_,_,_,rfl⟩
def vx:List V->En
 | [.int w,.str n,.int s]=>⟨w,n,s⟩
 | _=>⟨0,"",0⟩
theorem yk (e:En):vx (enV e)=e:=rfl
theorem ny {l:List V}(h:gr l):enV (vx l)=l:=by
 obtain ⟨i,n,j,rfl⟩:=h
 rfl
theorem vv {a b:En}(h:enV a=enV b):a=b:=by
 have:=congrArg vx h
 exact this
abbrev lE:En->En->Bool:=Gm.ltE slt
theorem slt_slo:Gm.Slo slt where
 irr:=fun a=>AR (List.lt_irrefl _)
 tr:=fun a b c h1 h2=>AO (List.lt_trans (Bc h1) (Bc h2))
 tot:=fun a b h=>by
  by_cases h1:a.cps.toList<b.cps.toList
  .exact .inl (AO h1)
  .by_cases h2:b.cps.toList<a.cps.toList
   .exact .inr (AO h2)
   .exact absurd (wg (List.le_antisymm (List.not_lt.mp h2) (List.not_lt.mp h1))) h
theorem vj (a b:En):cP (enV a) (enV b)=lE a b:=by
 unfold enV
 rw [bZ,bZ,bZ]
 show _=Gm.ltE slt a b
 unfold Gm.ltE
 by_cases h:a.w=b.w
 .rw [Az (by rw [h]),Az h]
  by_cases h2:a.n=b.n
  .rw [Az (by rw [h2]),Az h2]
   by_cases h3:a.s=b.s
   .rw [Az (by rw [h3])]
    show false=_
    rw [h3]
    exact (AR (FR _)).symm
   .rw [Ay (fun z=>h3 (V.int.inj z))]
    rfl
  .rw [Ay (fun z=>h2 (V.str.inj z)),Ay h2]
   rfl
 rw [Ay (fun z=>h (V.int.inj z)),Ay h]
 rfl
def tE (H:Hp)(x:V):En:=vx (bG H x)
theorem x9 (H:Hp):tE H .non=default:=rfl
theorem nC (H:Hp)(x y:V):ltT (bG H) x y=lE (tE H x) (tE H y):=by
 rw [<-vj]
 unfold tE ltT
 rw [ny (dO H x),ny (dO H y)]
theorem tF {e:En}(h:H a=some (.tup (enV e))):tE H (.ref a)=e:=by
 unfold tE
 rw [uX h (mN e),yk]
structure RR (H:Hp)(xs:List V)(es:List En):Prop where
 mem:∀x∈xs,∃ a,x=.ref a/\H a=some (.tup (enV (tE H x)))
 eq:xs.map (tE H)=es
section
variable {H H':Hp}{xs ys:List V}{es fs:List En}
theorem RR.en (r:RR H xs es):EnR (bG H) H xs:=⟨dO H,fun x hx=>by
 obtain ⟨a,rfl,h⟩:=r.mem x hx
 exact ⟨a,rfl,by rw [<-ny (dO H (.ref a))];exact h⟩⟩
theorem RR.len (r:RR H xs es):xs.length=es.length:=by rw [<-r.eq,Ar]
theorem RR.stay (r:RR H xs es)(k:∀b l,H b=some (.tup l)->H' b=some (.tup l)):RR H' xs es:=by
 have e:∀x∈xs,tE H' x=tE H x:=fun x hx=>by
  obtain ⟨a,rfl,h⟩:=r.mem x hx
  exact tF (k _ _ h)
 refine ⟨fun x hx=>?_,?_⟩
 .obtain ⟨a,rfl,h⟩:=r.mem x hx
  exact ⟨a,rfl,by rw [e _ hx];exact k _ _ h⟩
 rw [<-r.eq];exact DT e
theorem RR.nil:RR H [] []:=⟨(fun _ h=>nomatch h),rfl⟩
theorem RR.sub (r:RR H xs es)(s:∀y∈ys,y∈xs):RR H ys (ys.map (tE H)):=⟨fun x hx=>r.mem x (s x hx),rfl⟩
theorem RR.snoc (r:RR H xs es){e:En}(h:H a=some (.tup (enV e))):RR H (xs++[.ref a]) (es++[e]):=by
 refine ⟨fun x hx=>?_,?_⟩
 .rcases AU.mp hx with z | z
  .exact r.mem x z
  .rw [Ao z]
   exact ⟨a,rfl,by rw [tF h];exact h⟩
 rw [A1,r.eq]
 show es++[tE H (.ref a)]=_
 rw [tF h]
theorem RR.at (r:RR H xs es)(hi:i<es.length):∃ a,Hm.g xs i=.ref a/\H a=some (.tup (enV (Hg.g es i)))/\atI xs (i:Int)=some (.ref a):=by
 have hx:i<xs.length:=by rw [r.len];exact hi
 have m:Hm.g xs i∈xs:=by rw [Hm.g_get hx];exact BE hx
 obtain ⟨a,ea,h⟩:=r.mem _ m
 have eg:Hg.g es i=tE H (Hm.g xs i):=by
  rw [Hg.g_get hi,Hm.g_get hx]
  have:=r.eq
  subst this
  rw [List.getElem_map]
 refine ⟨a,ea,by rw [eg];exact h,?_⟩
 rw [<-ea];exact xU hx
end
section
variable {H:Hp}{xs:List V}
theorem g_map (i:Nat):Hg.g (xs.map (tE H)) i=tE H (Hm.g xs i):=by
 unfold Hg.g Hm.g
 rw [AD,AD,AS]
 cases xs[i]? with
 | none=>exact (x9 H).symm
 | some x=>rfl
theorem iS (i j:Nat):Hg.sw (xs.map (tE H)) i j=(Hm.sw xs i j).map (tE H):=by
 unfold Hg.sw Hm.sw
 rw [g_map,g_map,Ep,Ep]
theorem jA (p:Nat):Hg.les lE (xs.map (tE H)) p=Hm.les (ltT (bG H)) xs p:=by
 unfold Hg.les Hm.les
 rw [g_map,g_map,Ar,nC]
theorem eB:∀{f:Nat} {xs:List V} {p lk:Nat},Hg.dn lE f (xs.map (tE H)) p lk=((Hm.dn (ltT (bG H)) f xs p lk).1.map (tE H),(Hm.dn (ltT (bG H)) f xs p lk).2)
 | 0,xs,p,lk=>rfl
 | f+1,xs,p,lk=>by
  unfold Hg.dn Hm.dn
  rw [jA,Ar,g_map,g_map,nC,iS]
  have kd:Hg.kids xs.length p=Hm.kids xs.length p:=rfl
  rw [kd]
  split
  .split
   .exact eB
   .rfl
  .rfl
theorem up_map:∀{f:Nat} {xs:List V} {p lk:Nat},Hg.up lE f (xs.map (tE H)) p lk=((Hm.up (ltT (bG H)) f xs p lk).1.map (tE H),(Hm.up (ltT (bG H)) f xs p lk).2)
 | 0,xs,p,lk=>rfl
 | f+1,xs,p,lk=>by
  unfold Hg.up Hm.up
  rw [g_map,g_map,nC,iS]
  split
  .split
   .exact up_map
   .rfl
  .rfl
theorem mk_map:∀{k:Nat} {xs:List V} {lk:Nat},Hg.mk lE k (xs.map (tE H)) lk=((Hm.mk (ltT (bG H)) k xs lk).1.map (tE H),(Hm.mk (ltT (bG H)) k xs lk).2)
 | 0,xs,lk=>rfl
 | k+1,xs,lk=>by
  unfold Hg.mk Hm.mk
  rw [Ar,eB]
  exact mk_map
theorem pG:Hg.cutf lE (xs.map (tE H))=((Hm.cutf (ltT (bG H)) xs).1.map (tE H),(Hm.cutf (ltT (bG H)) xs).2):=by
 unfold Hg.cutf Hm.cutf
 rw [g_map,Ar,<-List.map_dropLast,<-Ep,Ar,eB]
 by_cases h:xs.dropLast=[]
 .rw [Az h,Az (by rw [h];rfl)]
  rfl
 rw [Ay h,Ay (fun z=>h (FP.mp z))]
end
def Kept (F:List Addr)(H H':Hp):Prop:=∀b o,H b=some o->b∉F->H' b=some o
section
variable {F G:List Addr}{H H1 H2:Hp}
theorem Kept.refl:Kept F H H:=fun _ _ h _=>h
theorem Kept.trans (a:Kept F H H1)(b:Kept F H1 H2):Kept F H H2:=fun x o h n=>b x o (a x o h n) n
theorem Kept.mono (a:Kept F H H1)(s:∀b∈F,b∈G):Kept G H H1:=fun x o h n=>a x o h fun z=>n (s x z)
theorem Kept.of_same (s:Same H H1):Kept F H H1:=fun b o h _=>s b o h
theorem Kept.new {o:HO}(k:Kept F H H1)(h:H1 p=none):Kept F H (upd H1 p o):=fun b u e n=>by
 have:=k b u e n
 rw [ao (ap this h)];exact this
theorem Kept.newer {o:HO}(k:Kept F H H1)(h:H p=none):Kept F H (upd H1 p o):=fun b u e n=>by
 rw [ao (ap e h)];exact k b u e n
theorem Kept.put {o:HO}(k:Kept F H H1)(h:p∈F):Kept F H (upd H1 p o):=fun b u e n=>by
 rw [ao (fun z=>by subst z;exact n h)];exact k b u e n
theorem Kept.none (k:Kept F H H1){b:Addr}(h:H1 b=none)(hb:b∉F):H b=none:=by
 cases q:H b with
 | none=>rfl
 | some o=>have:=k b o q hb;rw [h] at this;cases this
theorem Kept.tups (k:Kept F H H1)(hF:∀b∈F,∀xs,H b≠some (.tup xs)):∀b l,H b=some (.tup l)->H1 b=some (.tup l):=fun b l h=>k b _ h fun z=>hF b z l h
end
def KR (H:Hp)(ks:List (Key×V))(T:List (Str×En)):Prop:=Paired (fun (kv:Key×V) (ne:Str×En)=>kv.1=Sum.inr ne.1/\∃ a,kv.2=.ref a/\H a=some (.tup (enV ne.2))) ks T
section
variable {H H':Hp}{ks:List (Key×V)}{T:List (Str×En)}
theorem KR.nil:KR H [] []:=Paired.nil
theorem KR.len (r:KR H ks T):ks.length=T.length:=Bk r
theorem KR.stay (r:KR H ks T)(k:∀b l,H b=some (.tup l)->H' b=some (.tup l)):KR H' ks T:=Paired.mapP r fun p q ⟨a,b,c,d⟩=>⟨a,b,c,k _ _ d⟩
theorem di {a b:Str}(h:¬ a=b):¬ (Sum.inr a:Key)=Sum.inr b:=fun z=>h (Cd z)
theorem KR.get (r:KR H ks T)(n:Str):(bp ks (Sum.inr n)=none/\Gm.dget T n=none)∨∃ a e,bp ks (Sum.inr n)=some (.ref a)/\Gm.dget T n=some e/\H a=some (.tup (enV e)):=by
 induction r with
 | nil=>exact .inl ⟨rfl,rfl⟩
 | @cons p q l l' h _ ih =>
  obtain ⟨h1,a,h2,h3⟩:=h
  by_cases e:q.1=n
  .refine .inr ⟨a,q.2,?_,?_,h3⟩
   .rw [cL (by rw [h1,e]),h2]
   .unfold Gm.dget
    rw [BK,AO e]
    rfl
  .have e1:bp (p::l) (Sum.inr n)=bp l (Sum.inr n):=cI (by rw [h1];exact di e)
   have e2:Gm.dget (q::l') n=Gm.dget l' n:=by unfold Gm.dget;rw [BK,AR e]
   rw [e1,e2]
   exact ih
theorem KR.put (r:KR H ks T){n:Str}{e:En}(h:H a=some (.tup (enV e))):KR H (aX ks (Sum.inr n) (.ref a)) (Gm.dput T n e):=by
 have ha:(ks.any fun kv=>decide (kv.1=Sum.inr n))=T.any fun p=>decide (p.1=n):=by
  induction r with
  | nil=>rfl
  | @cons p q l l' hh _ ih =>
   rw [DB,DB,ih,hh.1]
   congr 1
   by_cases z:q.1=n
   .rw [AO z,AO (by rw [z])]
   .rw [AR z,AR (di z)]
 have hm:KR H (ks.map fun kv=>if kv.1=Sum.inr n then (kv.1,V.ref a) else kv) (T.map fun p=>if p.1=n then (p.1,e) else p):=by
  clear ha
  induction r with
  | nil=>exact .nil
  | @cons p q l l' hh _ ih =>
   rw [AN,AN]
   refine .cons ?_ ih
   obtain ⟨h1,b,h2,h3⟩:=hh
   by_cases z:q.1=n
   .rw [Az z,Az (by rw [h1,z])]
    exact ⟨h1,a,rfl,h⟩
   .rw [Ay z,Ay (by rw [h1];exact di z)]
    exact ⟨h1,b,h2,h3⟩
 have hs:KR H (ks++[(Sum.inr n,V.ref a)]) (T++[(n,e)]):=by
  clear ha hm
  induction r with
  | nil=>exact .cons ⟨rfl,a,rfl,h⟩ .nil
  | cons hh _ ih=>exact .cons hh ih
 unfold aX Gm.dput
 rw [ha]
 split
 .exact hm
 exact hs
theorem KR.drop (r:KR H ks T)(n:Str):KR H (bD ks (Sum.inr n)) (Gm.ddel T n):=by
 unfold Gm.ddel bD
 induction r with
 | nil=>exact .nil
 | @cons p q l l' hh _ ih =>
  rw [Cj,Cj]
  by_cases z:q.1=n
  .rw [Ay (by rw [hh.1,z];simp),Ay (by simp [z])]
   exact ih
  .rw [Az (by rw [hh.1];exact AO (di z)),Az (by simp [z])]
   exact .cons hh ih
end
inductive Deed where
 | put (n:Str) (w:Int) | drop (n:Str) | change (n:Str) (w:Int) | take | least
inductive Ans where
 | non | clash | nothing | pair (w:Int) (n:Str)
def Deed.v:Deed->List V
 | .put n w=>[.str "put",.str n,.int w]
 | .drop n=>[.str "drop",.str n]
 | .change n w=>[.str "change",.str n,.int w]
 | .take=>[.str "take"]
 | .least=>[.str "least"]
def Deed.ok:Deed->Prop
 | .put n _=>n.length<=10
 | .drop n=>n.length<=10
 | .change n _=>n.length<=10
 | _=>True
def hd (s:LS):En:=Hg.g (Gm.leastL slt s).row 0
def aY (s:LS):Deed->LS×Ans
 | .put n w=>if (Gm.dget s.there n).isSome=true then (s,.clash) else (Gm.putL slt s n w,.non)
 | .drop n=>if (Gm.dget s.there n).isSome=true then (Gm.dropL slt s n,.non) else (s,.nothing)
 | .change n w=>if (Gm.dget s.there n).isSome=true then (Gm.putL slt s n w,.non) else (s,.nothing)
 | .take=>if s.there=[] then (s,.nothing) else (Gm.takeL slt s,.pair (hd s).w (hd s).n)
 | .least=>if s.there=[] then (s,.nothing) else (Gm.leastL slt s,.pair (hd s).w (hd s).n)
theorem uc {s:LS}(I:Gm.LInv slt s)(d:Deed):Gm.LInv slt (aY s d).1:=by
 cases d with
 | put n w=>unfold aY;dsimp only;split;exact I;exact Gm.put_inv slt_slo I
 | drop n=>unfold aY;dsimp only;split;exact Gm.dropL_inv slt_slo I;exact I
 | change n w=>unfold aY;dsimp only;split;exact Gm.put_inv slt_slo I;exact I
 | take=>unfold aY;dsimp only;split;exact I;rename_i h;exact Gm.take_inv slt_slo I h
 | least=>unfold aY;dsimp only;split;exact I;rename_i h;exact (Gm.least_ok slt_slo I h).inv
theorem n0 {s:LS}(I:Gm.LInv slt s)(d:Deed):(aY s d).1.stamp<=s.stamp+1:=by
 cases d with
 | put n w =>
  unfold aY;dsimp only;split
  .exact BX _
  .show (Gm.sweep slt _).stamp<=_
   rw [Gm.sweep_stamp];exact Av _
 | drop n =>
  unfold aY;dsimp only;split
  .show (Gm.sweep slt _).stamp<=_
   rw [Gm.sweep_stamp];exact BX _
  .exact BX _
 | change n w =>
  unfold aY;dsimp only;split
  .show (Gm.sweep slt _).stamp<=_
   rw [Gm.sweep_stamp];exact Av _
  .exact BX _
 | take =>
  unfold aY;dsimp only;split
  .exact BX _
  .rename_i h
   show (Gm.sweep slt _).stamp<=_
   rw [Gm.sweep_stamp]
   show (Gm.leastL slt s).stamp<=_
   rw [(Gm.least_ok slt_slo I h).stamp];exact BX _
 | least =>
  unfold aY;dsimp only;split
  .exact BX _
  .rename_i h
   rw [(Gm.least_ok slt_slo I h).stamp];exact BX _
abbrev Tb:=List (Str×Int)
def thW (T:List (Str×En)):Tb:=T.map fun p=>(p.1,p.2.w)
theorem om {T:List (Str×En)}{n:Str}{e:En}:thW (Gm.dput T n e)=Gm.dput (thW T) n e.w:=Gm.dput_map
theorem oK {T:List (Str×En)}{n:Str}:thW (Gm.ddel T n)=Gm.ddel (thW T) n:=Gm.ddel_map
def rE (t:Tb):Deed->Ans->Tb
 | .put n w,.non=>Gm.dput t n w
 | .drop n,.non=>Gm.ddel t n
 | .change n w,.non=>Gm.dput t n w
 | .take,.pair _ n=>Gm.ddel t n
 | _,_=>t
theorem nh {s:LS}(I:Gm.LInv slt s)(d:Deed):thW (aY s d).1.there=rE (thW s.there) d (aY s d).2:=by
 cases d with
 | put n w =>
  unfold aY;dsimp only;split
  .rfl
  .show thW (Gm.sweep slt _).there=_
   rw [Gm.sweep_there];exact om
 | drop n =>
  unfold aY;dsimp only;split
  .show thW (Gm.sweep slt _).there=_
   rw [Gm.sweep_there];exact oK
  .rfl
 | change n w =>
  unfold aY;dsimp only;split
  .show thW (Gm.sweep slt _).there=_
   rw [Gm.sweep_there];exact om
  .rfl
 | take =>
  unfold aY;dsimp only;split
  .rfl
  .rename_i h
   rw [Gm.take_there,(Gm.least_ok slt_slo I h).there];exact oK
 | least =>
  unfold aY;dsimp only;split
  .rfl
  .rename_i h
   rw [(Gm.least_ok slt_slo I h).there];rfl
structure xV (t:Tb)(w:Int)(n:Str):Prop where
 mem:(n,w)∈t
 le:∀m v,(m,v)∈t->ltP (v,m) (w,n)=false
theorem u7 {a b:Int×Str}:ltP a b=true↔a.1<b.1∨(a.1=b.1/\slt a.2 b.2=true):=by
 unfold ltP prV
 rw [bZ,bZ]
 by_cases h:a.1=b.1
 .rw [Az (by rw [h])]
  by_cases h2:a.2=b.2
  .rw [Az (by rw [h2])]
   constructor
   .intro z;cases z
   .rintro (z | ⟨_,z⟩)
    .lia
    .rw [h2,slt_slo.irr] at z;cases z
  .rw [Ay (fun z=>h2 (V.str.inj z))]
   constructor
   .intro z;exact .inr ⟨h,z⟩
   .rintro (z | ⟨_,z⟩)
    .lia
    .exact z
 rw [Ay (fun z=>h (V.int.inj z))]
 constructor
 .intro z;exact .inl (Bc z)
 rintro (z | ⟨z,_⟩)
 .exact AO z
 exact absurd z h
theorem kS {s:LS}(I:Gm.LInv slt s)(h:s.there≠[]):xV (thW s.there) (hd s).w (hd s).n:=by
 have l:=Gm.least_is slt_slo I h
 refine ⟨AK.mpr ⟨_,l.mem,rfl⟩,fun m v hm=>?_⟩
 obtain ⟨⟨m',e⟩,hp,he⟩:=AK.mp hm
 cases he
 have q:=l.le m' e hp
 cases z:ltP (e.w,m') ((hd s).w,(hd s).n) with
 | false=>rfl
 | true =>
  have en:=(I.inr m' e hp).1
  rw [u7] at z
  have:Gm.ltE slt e (hd s)=true:=Gm.ltE_iff.mpr (by
   rcases z with z | ⟨z1,z2⟩
   .exact .inl z
   .refine .inr ⟨z1,.inl ⟨fun y=>?_,by rw [en];exact z2⟩⟩
    dsimp only at z2
    rw [<-en,y,slt_slo.irr] at z2;cases z2)
  have q':Gm.ltE slt e (hd s)=false:=q
  rw [q'] at this;cases this
end L2
variable {ds:List L2.Deed}{d:L2.Deed}
namespace L2
open PySem PySem.Spec PyProof.Rows
section
variable {P:Program}{w:World}{K:W.Frag}{mg:Str->Option Value}{base:Heap}
theorem Fun.okQ {k:Nat}(F:Fun K x qual st f fd)(S:aA N ps (am st))(hbody:∀(cdv:Value) (A:Around) (outer:List Env) (s:Shared) (H:Hp) (vs:List V) (Q:VK) (E:XK),Room k (A.deeper (envOfC qual (am st) s.heap.objs.size f cdv))->sp vs H Q E ->
   ∃ t,QSs (nJ CX0 P w K mg base N qual (am st) f cdv A outer s H E).nox (bC st) t/\t { nx:=fun _ H'=>Q .non H',rt:=Q } (fE N vs) H)(len:∀vs H Q E,sp vs H Q E->vs.length=ps.length:=by intro vs H Q E h;repeat (first | (obtain ⟨rfl,_⟩:=h;rfl) | obtain ⟨_,h⟩:=h)):aB P w K mg base CX0 (k+1) f fd ps sp :=
 F.ok S (fun cdv A outer s H vs Q E hr h=>let ⟨t,a,b⟩:=hbody cdv A outer s H vs Q E hr h;⟨t,a.to,b⟩) len
end
section
variable {X:Cx}
def z6 (c:TT)(t u:TS):TS:=fun D U H=>∃ J:St->Hp->Prop,(c U H fun b H1=>if b=true then t { D with nx:=J } U H1 else u { D with nx:=J } U H1)/\∀σ' H',J σ' H'->D.nx σ' H'
theorem jy {c:Expr}{a b:List Stmt}{tc:TT}{t u:TS}(hc:QT X c tc)(ha:QSs X a t)(hb:QSs X b u):QS X (.If c a b pos) (z6 tc t u):=.mk (by
 have hc:=hc.to
 have ha:=ha.to
 have hb:=hb.to
 intro pins s U H D I ⟨J,h,j⟩
 refine thn (wM hc ha hb pins s U H { D with nx:=J } I h) fun f s' q=>?_
 cases f with
 | next=>obtain ⟨σ',H',I',z⟩:=q;exact ⟨σ',H',I',j _ _ z⟩
 | ret v=>exact q
 | brk=>exact q
 | cont=>exact q)
def yI (t:TT):TT:=fun U H Q=>∃ J:Bool->Hp->Prop,t U H J/\∀b H',J b H'->Q b H'
theorem jO (h:QT X e t):QT X e (yI t):=.mk fun pins s U H Q I ⟨J,h1,j⟩=>thn (h.to pins s U H J I h1) fun b s' ⟨H',I',z⟩=>⟨H',I',j b H' z⟩
end
end L2
namespace TS
open PySem PyProof.Rows
theorem kJ {b:Addr}(x:h.IsList a items)(hs:Heap.ExtBut b h h')(hab:a≠b):h'.IsList a items:=let ⟨o,ho,r⟩:=x;⟨o,hs a o hab ho,r⟩
theorem ji (x:h.IsList a items)(o:Obj):(h.push o).IsList a items:=let ⟨o',ho,r⟩:=x;⟨o',Ap o ho,r⟩
section
variable {prog:Program}{w:World}{A:Around}{E:Value->Shared->Prop}
theorem qo {it:Addr}(hne:l≠it):∀(n i:Nat) (s:Shared) (Q:List Value->Shared->Prop),s.heap.IsListIter it l i->s.heap.IsList l items->i+n<=items.size ->
  (∀h',h'.IsListIter it l (i+n)->Heap.SameBut it s.heap h'->Q ((items.toList.drop i).take n) { s with heap:=h' })->wpAny (model prog w) A (draw (.ref it) n) Q E s:=by
 intro n
 induction n with
 | zero =>
  intro i s Q hit hl hi hQ
  show wpAny _ _ (pure []) Q E s
  exact Aq (by simpa using hQ s.heap hit (E2 ..))
 | succ n ih =>
  intro i s Q hit hl hi hQ
  have hlt:i<items.size:=by lia
  show wpAny _ _ (pyNext (.ref it) >>= _) Q E s
  refine gV (De hit hl (x:=items[i]) (by simp [hlt]) fun h₁ hit₁ hs1=>?_)
  refine gV (A7 (ih (i+1) _ _ hit₁ (kJ hl hs1.extBut hne) Am fun h₂ hit2 hs₂=>Aq ?_))
  have hd:items.toList.drop i=items[i]::items.toList.drop (i+1):=by simp [Bn,hlt]
  have:=hQ h₂ (by rw [show i+(n+1)=i+1+n by lia];exact hit2) (hs1.trans hs₂)
  rw [hd,List.take_succ_cons] at this
  exact this
variable {s:Shared}
theorem fK {Q:List Value->Shared->Prop}(hh:A.handled=none)(hl:s.heap.IsList l items)(hQ:∀h',Heap.ExtBut s.heap.objs.size s.heap h'->Q items.toList { s with heap:=h' }):wpAny (model prog w) A (unpackItems (.ref l) items.size none) Q E s:=by
 have hlt:l≠s.heap.objs.size:=by obtain ⟨o,ho,_⟩:=hl;exact AJ (AA ho)
 have hT:s.TypeIs (.ref l) "list":=by obtain ⟨o,ho,hc,_⟩:=hl;exact ⟨o,ho,hc⟩
 unfold unpackItems
 refine gV ?_
 unfold notIterableAtAll
 refine gV (Fv hT slot_list_iter.lookup ?_)
 refine Aq ?_
 simp only [AE,Bo]
 refine gV (A7 (CI hl ?_))
 refine gV (A7 (qo hlt items.size 0 _ _ ⟨_,AF _ rfl,rfl,rfl⟩ (ji hl _) Am fun h₁ hit₁ hs1=>?_))
 have hall:List.take items.size (List.drop 0 items.toList)=items.toList:=by
  rw [CT];exact A6 An
 rw [hall]
 rw [Ay An]
 have ht₁:h₁.IsList l items:=kJ (ji hl _) hs1.extBut hlt
 refine gV (A7 (Dq hh hit₁ ht₁ An fun h₂ he₂=>?_))
 simp only [Option.isSome_none,AE,Bo]
 exact Aq (hQ h₂ fun b o hb e=>he₂ b o hb (hs1.extBut b o hb (Ap _ e)))
theorem assign_Tuple_list {x1}{Q:Unit->Shared->Prop}(hh:A.handled=none)(hl:s.heap.IsList l items)(hn:(assignEach elts env).length=items.size)(hstar:(assignEach elts env).findIdx? (·.1)=none)(h:∀h',Heap.ExtBut s.heap.objs.size s.heap h'->wpAny (model prog w) A (assignInOrder ((assignEach elts env).map (·.2)) items.toList) Q E { s with heap:=h' }):
  wpAny (model prog w) A (assign (.Tuple elts x1 pos) env (.ref l)) Q E s:=by
 rw [assign_Tuple]
 refine gV (Ez ?_)
 unfold unpack
 rw [hn,hstar]
 exact gV (A7 (fK hh hl h))
end
end TS
namespace L2
open PySem PyProof.Rows
section
variable {X:Cx}{pos:Pos}
def Aa (K:W.Frag)(n:Nat)(t:TGs):TG:=fun v U H Q=>∃ a xs,v=.ref a/\SqL K H a xs/\xs.length=n/\t xs U H Q
theorem uo {es:List Expr}{k:Nat}{t:TGs}(hc:X.calm=true)(h:QGs X es t)(hn:(assignEach es X.env).length=n:=by rfl)(hst:(assignEach es X.env).findIdx? (·.1)=none:=by rfl):QG X (.Tuple es k pos) (Aa X.K n t):=.mk (by
 have h:=h.to
 intro pins s U H v u Q I r hw
 obtain ⟨a,xs,e1,hq,hl,hw⟩:=hw
 subst e1
 cases r
 obtain ⟨its,rv,ht,hz⟩:=I.list hq
 refine TS.assign_Tuple_list (I.ok.hd hc) ht.isList (by simp [hn,<-hl,rv.length]) hst fun h' hx=>?_
 have I1:Inv X pins U H { s with heap:=h' }:=I.kept (t':=s.toks) fun b o e=>hx b o (AJ (AA e)) e
 exact h pins _ U H xs _ Q I1 (by simpa using rv) hw)
end
end L2
namespace TS
open PySem PyProof.Rows PySem.W
section
variable {prog:Program}{w:World}{A:Around}{E:Value->Shared->Prop}{s:Shared}
def intKindS:KeyKind:={ L2.intOrd with keyOf:=fun v=>some (numOf v),dflt:=(0:Int) }
theorem sR (hS:∀v∈vs,∃ x t,v=Value.int x t):Cmp prog w A s intKindS oneType' (pairsOf vs):=by
 have hm:∀p∈(pairsOf vs).toList,∃ x t,p.1=Value.int x t:=fun p hp=>by
  rw [Ek] at hp
  exact hS _ (EM hp).2
 refine ⟨fun x y hx hy E Q q=>?_⟩
 obtain ⟨a,ta,ea⟩:=hm x hx
 obtain ⟨b,tb,eb⟩:=hm y hy
 have eL:Lb intKindS x y=decide (a<b):=by unfold Lb kf;rw [ea,eb];rfl
 rw [eL] at q
 rw [ea,eb,keyLt'_oneType]
 exact oneLt_int q
theorem jB (hS:∀v∈vs,∃ x t,v=Value.int x t)(h2:2<=vs.length):keyKind' vs.toArray=pure oneType':=by
 match vs,h2 with
 | v1::v2::r,_=>exact keyKind_ints (intsAre_map _ hS)
end
end TS
namespace L2
open PySem PySem.W PySem.Spec PySem.Calls PyProof.Rows
theorem dR:∀{us:List Value},(∀v∈us,∃ x t,v=Value.int x t)->Vals ((us.map numOf).map V.int) us
 | [],_=>.nil
 | u::us,h=>by
  obtain ⟨x,t,rfl⟩:=h u AX
  exact .cons ⟨t,rfl⟩ (dR fun v hv=>h v (AH _ hv))
section
variable {X:Cx}
def zO (K:W.Frag)(tl:TE):TI:=fun U H R=>tl U H fun x H1=>∃ a,x=.ref a/\(((∃ xs,SqL K H1 a xs)/\R (Itl K a) H1)∨((∃ xs,SqT K H1 a xs)/\R (Itt K a) H1))
theorem yD (h:QE X e te):QI X tg e (zO X.K te):=.mk (by
 have hl:=h.to
 intro pins s U H R I h
 refine thn (hl pins s U H _ I h) fun v s1 zz=>?_
 obtain ⟨x,H1,I1,r1,q1⟩:=zz
 obtain ⟨a,e,q1⟩:=q1
 subst e
 cases r1
 rcases q1 with ⟨⟨xs,hq⟩,q⟩ | ⟨⟨xs,hq⟩,q⟩
 .obtain ⟨its,rv,p,hz⟩:=I1.list hq
  refine CI p.isList ?_
  refine ⟨s1.heap.objs.size,[s1.heap.objs.size],_,_,H1,rfl,I1.kept (t':=s1.toks) fun b o e=>Ap _ e,jo a _,⟨_,AF _ rfl,rfl,rfl⟩,fun b hb=>?_,q⟩
  have e:b=s1.heap.objs.size:=by simpa using hb
  subst e
  exact I1.fpOk (Av _) (I1.hok.fresh (Av _))
 obtain ⟨its,rv,p,hz⟩:=I1.tuple hq
 refine EL (show s1.heap.IsTuple a its.toArray from p) ?_
 refine ⟨s1.heap.objs.size,[s1.heap.objs.size],_,_,H1,rfl,I1.kept (t':=s1.toks) fun b o e=>Ap _ e,iy a _,⟨_,AF _ rfl,rfl,rfl⟩,fun b hb=>?_,q⟩
 have e:b=s1.heap.objs.size:=by simpa using hb
 subst e
 exact I1.fpOk (Av _) (I1.hok.fresh (Av _)))
end
theorem bK {R:Hp->Prop}(Pv:Nat->List V->Hp->Prop)(h0:Pv 0 [] (upd H D (.lst [])))(hD:∀i ys H,Pv i ys H->H D=some (.lst ys)/\SqT K H a xs)(hs:∀i x ys H,xs[i]?=some x->Pv i ys H->tt (some x::bW cap U) H fun b H3 =>
   if b=true then te (some x::bW cap U) H3 fun v H4=>H4 D=some (.lst ys)/\ys.length<sizeLine/\∃ m',m'<xs.length-i/\m'=xs.length-(i+1)/\i+1<=xs.length/\Pv (i+1) (ys++[v]) (upd H4 D (.lst (ys++[v])))
   else ∃ m',m'<xs.length-i/\m'=xs.length-(i+1)/\i+1<=xs.length/\Pv (i+1) ys H3)(hd:∀ys H,Pv xs.length ys H->R H):
  CW (Itt K a) tt te cap U H D R:=by
 refine ⟨fun i m ys H=>m=xs.length-i/\i<=xs.length/\Pv i ys H,⟨xs.length,An,BA _,h0⟩,?_⟩
 rintro i m ys H ⟨rfl,hi,p⟩
 obtain ⟨q1,q⟩:=hD i ys H p
 refine ⟨q1,?_⟩
 by_cases hlt:i<xs.length
 .refine .inr ⟨⟨xs,xs[i],q,by simp [hlt]⟩,fun x H' y=>?_⟩
  obtain ⟨e,y⟩:=y
  subst e
  exact hs i x ys _ (y xs q) p
 have e:i=xs.length:=by lia
 subst e
 exact .inl ⟨⟨xs,q,Av _⟩,hd ys H p⟩
end L2
namespace L2
open PySem PySem.Spec PyProof.Rows
theorem bN {lo:Int}{R:Hp->Prop}(Pv:Nat->List V->Hp->Prop)(h0:Pv 0 [] (upd H D (.lst [])))(hD:∀i ys H,Pv i ys H->H D=some (.lst ys))(hs:∀i ys H,i<n->Pv i ys H->tt (some (.int (lo+i))::bW cap U) H fun b H3 =>
   if b=true then te (some (.int (lo+i))::bW cap U) H3 fun v H4=>H4 D=some (.lst ys)/\ys.length<sizeLine/\∃ m',m'<n-i/\m'=n-(i+1)/\i+1<=n/\Pv (i+1) (ys++[v]) (upd H4 D (.lst (ys++[v])))
   else ∃ m',m'<n-i/\m'=n-(i+1)/\i+1<=n/\Pv (i+1) ys H3)(hd:∀ys H,Pv n ys H->R H):
  CW (Itr lo n) tt te cap U H D R:=nk (Q:=fun _ H=>R H) Pv h0 hD hs hd
structure Blk2 (X:Cx)(scope:Scope)(cl:List (Str×Addr))(x x2:Str)(NB:List Str)(cap:List Nat):Prop where
 b:Blk X scope cl x NB cap
 own2:scope.names.lookup x2=some .local
 nd:(x::x2::NB).Nodup
def CW2 (K:PySem.W.Frag)(J:It)(tt:TT)(te:TE)(cap:List Nat)(U:St)(H0:Hp)(D:Addr)(R:Hp->Prop):Prop:=∃ W:Nat->Nat->List V->Hp->Prop,(∃ m,W 0 m [] (upd H0 D (.lst [])))/\∀i m ys H,W i m ys H->H D=some (.lst ys) /\
  ((J.stop i H/\R H)∨(J.go i H/\∀x H',J.yld i H x H'->∃ a v1 v2,x=.ref a/\SqT K H' a [v1,v2]/\tt (some v1::some v2::bW cap U) H' fun b H3 =>
   if b=true then te (some v1::some v2::bW cap U) H3 fun v H4=>H4 D=some (.lst ys)/\ys.length<sizeLine/\∃ m',m'<m/\W (i+1) m' (ys++[v]) (upd H4 D (.lst (ys++[v])))
   else ∃ m',m'<m/\W (i+1) m' ys H3))
def mO (K:W.Frag)(wi:TI)(tt:TT)(te:TE)(cap:List Nat):TE:=fun U H Q=>wi U H fun J H1=>∀D,H1 D=none ->
 CW2 K J tt te cap U H1 D (fun H=>Q (.ref D) H)
theorem il {x2:Str}{px2 pt:Pos}{cl:List (Str×Addr)}{Q:VK}{R:Value->Shared->Prop}(B:Blk2 X scope cl x x2 NB cap)(hc:X.calm=true)(hex:X.ex=[])(hi:PI X (.Tuple [.Name x px,.Name x2 px2] kt pt) iter wi)(ht:∀C fp s₀ H₀,PTs (X.blk scope cl C (x::x2::NB) fp s₀ H₀) ifs tt)(he:∀C fp s₀ H₀,PE (X.blk scope cl C (x::x2::NB) fp s₀ H₀) elt te)(hs:∀v,foldedSetIterable iter X.env v=pure v)(I:Inv X pins U H s)(h:mO X.K wi tt te cap U H Q)(fin:∀(D C:Addr) (H':Hp) (s':Shared),Inv X pins U H' s'->xq X pins H' C s'->Q (.ref D) H'->compPost (model X.prog X.w) X.A X.xe use R (.ref D) C (.ok .next) s'):
  wpAny (model X.prog X.w) X.A (comprehension (.ListComp elt [⟨(.Tuple [.Name x px,.Name x2 px2] kt pt),iter,ifs,0⟩] scope pos) scope X.env pos' (newList []) false (eval iter X.env) use) R X.xe s:=by
 refine iK (ns:=[x,x2]) (gt:=yj X.K 2 (oJ (eZ 0) (oJ (eZ 1) ya))) B.b.c hc hex hi (fun C fp s₀ H₀=>sy (X:=X.blk scope cl C (x::x2::NB) fp s₀ H₀) hc (iI (gJ (i:=0) B.nd rfl (.inl (Cz B.b.own)) (.inr (Cz B.b.own))) (iI (gJ (i:=1) B.nd rfl (.inl (Cz B.own2)) (.inr (Cz B.own2))) pe))) ht he hs I h (fun J H1 a D hD=>?_) fin
 obtain ⟨W,w0,st⟩:=a D hD
 refine ⟨W,w0,fun i m ys H' w=>⟨(st i m ys H' w).1,(st i m ys H' w).2.imp id fun z=>⟨z.1,fun x H'' y=>?_⟩⟩⟩
 obtain ⟨ta,v1,v2,rfl,htup,step⟩:=z.2 x H'' y
 exact ⟨ta,[v1,v2],rfl,htup,rfl,v1,[v2],rfl,v2,[],rfl,rfl,[some v1,some v2],rfl,rfl,rfl,step⟩
theorem Blk2.of {esc:Scope}{x2:Str}(eN:X.N=N)(eS:X.env.scope=esc)(hX:∀y,esc.names.lookup y=some .cell->∃ c,X.env.cells.lookup y=some c)(hk:scope.kind=.function)(h1:∀y∈scope.names,y.2≠.cell)(h2:∀y∈scope.names,y.2=.local->scope.names.lookup y.1=some .local)(h3:∀y∈scope.names,y.2=.free->esc.names.lookup y.1=some .cell)(hl:cap.length=NB.length)(h4:∀p∈NB.zip cap,N[p.2]?=some p.1/\esc.names.lookup p.1=some .cell/\scope.names.lookup p.1=some .free)(h5:scope.names.lookup x=some .local)(h6:scope.names.lookup x2=some .local)(nd:(x::x2::NB).Nodup):
  Blk2 X scope (uS scope X.env) x x2 NB cap:=by
 exact ⟨Blk.of eN eS hX hk h1 h2 h3 hl h4 h5 (nd.sublist (.cons₂ _ (List.sublist_cons_self ..))),h6,nd⟩
theorem lU {x2:Str}{px2 pt:Pos}{cl:List (Str×Addr)}(B:Blk2 X scope cl x x2 NB cap)(hc:X.calm=true)(hex:X.ex=[])(hi:QI X (.Tuple [.Name x px,.Name x2 px2] kt pt) iter wi)(ht:∀C fp s₀ H₀,QTs (X.blk scope cl C (x::x2::NB) fp s₀ H₀) ifs tt)(he:∀C fp s₀ H₀,QE (X.blk scope cl C (x::x2::NB) fp s₀ H₀) elt te)(hs:∀v,foldedSetIterable iter X.env v=pure v:=by intro _;rfl):QE X (.ListComp elt [⟨.Tuple [.Name x px,.Name x2 px2] kt pt,iter,ifs,0⟩] scope pos) (mO X.K wi tt te cap):=.mk (by
 have hi:=hi.to
 have ht:=(fun C fp s₀ H₀=>(ht C fp s₀ H₀).to)
 have he:=(fun C fp s₀ H₀=>(he C fp s₀ H₀).to)
 intro pins s U H Q I h
 rw [eval_ListComp]
 refine il (use:=none) (R:=EP X pins U Q) B hc hex hi ht he hs I h fun D C H' s' I' G q=>?_
 obtain ⟨m,hn⟩:=G.ns
 obtain ⟨f0,f1,f2,f3,f4,f5⟩:=G.fp
 refine ⟨m,hn,fun h' hs'=>⟨.ref D,H',?_,rfl,q⟩⟩
 exact I'.turned (t':=s'.toks) (fun b o hb e=>(hs'.2 b hb).trans e) f0 f1 f3 f4 f5)
end L2
namespace Gm
open Hg
section
variable {N:Type}[DecidableEq N][Inhabited N]{sl:N->N->Bool}
theorem nodup_len {α:Type}[DecidableEq α]:∀{G R:List α},G.Nodup->(∀e∈G,e∈R)->G.length<=R.length
 | [],R,_,_=>BA _
 | a::l,R,nd,h=>by
  rw [BY] at nd
  have ih:=nodup_len (R:=R.erase a) nd.2 fun e he=>(FH (fun (z:e=a)=>nd.1 (z▸he))).mpr (h e (AH _ he))
  have m:=h a AX
  rw [DV m] at ih
  have:=Di m
  rw [A8]
  lia
end
section
variable {N:Type}[DecidableEq N]{β:Type}
structure Tw (t t':List (N×β)):Prop where
 n1:(t.map (·.1)).Nodup
 n2:(t'.map (·.1)).Nodup
 mem:∀p,p∈t↔p∈t'
theorem Tw.refl {t:List (N×β)}(n:(t.map (·.1)).Nodup):Tw t t:=⟨n,n,fun _=>Iff.rfl⟩
theorem Tw.get {t t':List (N×β)}(h:Tw t t')(n:N):dget t n=dget t' n:=by
 cases e:dget t n with
 | some b=>exact (dget_of h.n2 ((h.mem _).mp (dget_some e))).symm
 | none =>
  cases e':dget t' n with
  | none=>rfl
  | some b =>
   rw [dget_of h.n1 ((h.mem _).mpr (dget_some e'))] at e
   cases e
theorem gL {t:List (N×β)}(h:(t.map (·.1)).Nodup):t.Nodup:=List.Pairwise.of_map _ (fun _ _ h z=>h (congrArg _ z)) h
theorem Tw.perm {t t':List (N×β)}(h:Tw t t'):t.Perm t':=(List.perm_ext_iff_of_nodup (gL h.n1) (gL h.n2)).mpr h.mem
theorem Tw.len {t t':List (N×β)}(h:Tw t t'):t.length=t'.length:=h.perm.length_eq
theorem Tw.nil {t t':List (N×β)}(h:Tw t t'):t=[]↔t'=[]:=by rw [<-AY,<-AY,h.len]
theorem fv {t:List (N×β)}{n m:N}{b c:β}:(m,c)∈dput t n b↔(m=n/\c=b)∨(m≠n/\(m,c)∈t):=⟨dput_mem,fun h=>by
 rcases h with ⟨rfl,rfl⟩ | ⟨h1,h2⟩
 .exact qD
 exact uN h2 h1⟩
theorem Tw.put {t t':List (N×β)}(h:Tw t t')(n:N)(b:β):Tw (dput t n b) (dput t' n b):=⟨fC h.n1,fC h.n2,fun ⟨m,c⟩=>by rw [fv,fv,h.mem]⟩
theorem Tw.del {t t':List (N×β)}(h:Tw t t')(n:N):Tw (ddel t n) (ddel t' n):=⟨fG h.n1,fG h.n2,fun ⟨m,c⟩=>by rw [ddel_mem,ddel_mem,h.mem]⟩
theorem Tw.chg {t t':List (N×β)}(h:Tw t t')(n:N)(b:β):Tw (dput (ddel t n) n b) (dput t' n b):=⟨fC (fG h.n1),fC h.n2,fun ⟨m,c⟩=>by
 rw [fv,fv,ddel_mem,h.mem]
 constructor
 .rintro (z | ⟨z,_,y⟩)
  .exact .inl z
  .exact .inr ⟨z,y⟩
 rintro (z | ⟨z,y⟩)
 .exact .inl z
 exact .inr ⟨z,z,y⟩⟩
end
end Gm
namespace L2
open PySem
def ltr (i:Nat):Str:=⟨#[97+i]⟩
theorem j4 (h:i<26):atI ("abcdefghijklmnopqrstuvwxyz":Str).cps.toList (i:Int)=some (97+i):=by
 have:∀i:Nat,i<26->atI ("abcdefghijklmnopqrstuvwxyz":Str).cps.toList (i:Int)=some (97+i):=by decide +kernel
 exact this i h
def psV (e:En):List V:=[.int e.w,.int e.s]
def KP (H:Hp)(ks:List (Key×V))(T:List (Str×En)):Prop:=Paired (fun (kv:Key×V) (ne:Str×En)=>kv.1=Sum.inr ne.1/\∃ a,kv.2=.ref a/\H a=some (.tup (psV ne.2))) ks T
section
variable {H H':Hp}{ks:List (Key×V)}{T:List (Str×En)}
theorem KP.nil:KP H [] []:=Paired.nil
theorem KP.len (r:KP H ks T):ks.length=T.length:=Bk r
theorem KP.stay (r:KP H ks T)(k:∀b l,H b=some (.tup l)->H' b=some (.tup l)):KP H' ks T:=Paired.mapP r fun p q ⟨a,b,c,d⟩=>⟨a,b,c,k _ _ d⟩
theorem KP.keys (r:KP H ks T):ks.map (·.1)=(T.map (·.1)).map Sum.inr:=by
 induction r with
 | nil=>rfl
 | cons h _ ih=>rw [AN,AN,AN,ih,h.1]
theorem KP.get (r:KP H ks T)(n:Str):(bp ks (Sum.inr n)=none/\Gm.dget T n=none)∨∃ a e,bp ks (Sum.inr n)=some (.ref a)/\Gm.dget T n=some e/\H a=some (.tup (psV e)):=by
 induction r with
 | nil=>exact .inl ⟨rfl,rfl⟩
 | @cons p q l l' h _ ih =>
  obtain ⟨h1,a,h2,h3⟩:=h
  by_cases e:q.1=n
  .refine .inr ⟨a,q.2,?_,?_,h3⟩
   .rw [cL (by rw [h1,e]),h2]
   .unfold Gm.dget
    rw [BK,AO e]
    rfl
  .have e1:bp (p::l) (Sum.inr n)=bp l (Sum.inr n):=cI (by rw [h1];exact di e)
   have e2:Gm.dget (q::l') n=Gm.dget l' n:=by unfold Gm.dget;rw [BK,AR e]
   rw [e1,e2]
   exact ih
theorem KP.put (r:KP H ks T){n:Str}{e:En}(h:H a=some (.tup (psV e))):KP H (aX ks (Sum.inr n) (.ref a)) (Gm.dput T n e):=by
 have ha:(ks.any fun kv=>decide (kv.1=Sum.inr n))=T.any fun p=>decide (p.1=n):=by
  induction r with
  | nil=>rfl
  | @cons p q l l' hh _ ih =>
   rw [DB,DB,ih,hh.1]
   congr 1
   by_cases z:q.1=n
   .rw [AO z,AO (by rw [z])]
   .rw [AR z,AR (di z)]
 have hm:KP H (ks.map fun kv=>if kv.1=Sum.inr n then (kv.1,V.ref a) else kv) (T.map fun p=>if p.1=n then (p.1,e) else p):=by
  clear ha
  induction r with
  | nil=>exact .nil
  | @cons p q l l' hh _ ih =>
   rw [AN,AN]
   refine .cons ?_ ih
   obtain ⟨h1,b,h2,h3⟩:=hh
   by_cases z:q.1=n
   .rw [Az z,Az (by rw [h1,z])]
    exact ⟨h1,a,rfl,h⟩
   .rw [Ay z,Ay (by rw [h1];exact di z)]
    exact ⟨h1,b,h2,h3⟩
 have hs:KP H (ks++[(Sum.inr n,V.ref a)]) (T++[(n,e)]):=by
  clear ha hm
  induction r with
  | nil=>exact .cons ⟨rfl,a,rfl,h⟩ .nil
  | cons hh _ ih=>exact .cons hh ih
 unfold aX Gm.dput
 rw [ha]
 split
 .exact hm
 exact hs
theorem KP.drop (r:KP H ks T)(n:Str):KP H (bD ks (Sum.inr n)) (Gm.ddel T n):=by
 unfold Gm.ddel bD
 induction r with
 | nil=>exact .nil
 | @cons p q l l' hh _ ih =>
  rw [Cj,Cj]
  by_cases z:q.1=n
  .rw [Ay (by rw [hh.1,z];simp),Ay (by simp [z])]
   exact ih
  .rw [Az (by rw [hh.1];exact AO (di z)),Az (by simp [z])]
   exact .cons hh ih
end
end L2
namespace L2
open PySem PySem.W PySem.Spec PySem.Calls PyProof.Rows
theorem dW {K:Frag}(h:X.K=K):cf X (.builtin "len") (fun xs H Q=>∃ p ys,xs=[.ref p]/\(SqL K H p ys∨SqT K H p ys)/\Q (.int ys.length) H):=by subst h;exact aG
theorem xz {K:Frag}{es:List Expr}{o:Expr}{to:TE}{t:TA}{name:Str}{T id:String}{r:V->List V->Hp->VK->Prop}(hK:X.K=K)(pa:PlainAttrs T)(slot:Slot T name id)(hty:typeOf (.builtin id)=pure (.type "method_descriptor"))(hm:MtR X id r)(ho:QE X o to)(ha:QA X (e::es) t)(hbase:attributeBase o name X.env (eval o X.env)=eval o X.env:=by rfl)(hfew:((backTo cpos (starEach (e::es) X.env)).all (fun x=>!x.1)&&(backToKw cpos (keywordEach [] X.env)).all (fun x=>x.1.isSome)
   && decide ((e::es).length+([]:List Keyword).length+(if ([]:List Keyword).isEmpty then 0 else 1)<30))=true:=by rfl)(hline:(apos.endLine == cpos.line)=true:=by rfl)(hs:starEach (e::es) X.env=(false,eval e X.env)::starEach es X.env:=by rfl)(hplain:(backTo cpos (starEach es X.env)).any (·.1)=false:=by rfl):
  QE X (.Call (.Attribute o name apos) (e::es) [] cpos) (tBM K T r to t):=by subst hK;exact .mk (wF pa slot hty hm ho.to ha.to hbase hfew hline hs hplain)
end L2
namespace PySem
namespace F
theorem entry_dict_update_loop:entryFor table "dict.update.loop"=some Builtin.«dict.update.loop»:=entryFor_of_tree (by kernel_rfl)
theorem plain_dict_update_loop:plainId "dict.update.loop"=true:=by decide +kernel
end F
section
variable {prog:Program}{w:World}{K:Type}[DecidableEq K]{knd:KeyKind prog w K}{A:Around}{R:Result->Shared->Prop}{I ax d:Addr}{items:Array Value}{kvs:List (K×Value)}
theorem im (l:List (K×Value))(k:K)(v:Value)(h:k∉l.map (·.1)):stored l k v=l++[(k,v)]:=by
 unfold stored
 rw [Ay]
 rw [BF]
 rintro ⟨kv,hkv,he⟩
 exact h (AK.mpr ⟨kv,hkv,Bc he⟩)
def vD (knd:KeyKind prog w K)(I d:Addr)(items:Array Value)(kvs:List (K×Value))(h:Heap):Prop :=
 ∀(i:Nat) (kv:K×Value),kvs[i]?=some kv->∃ (b:Addr) (key:Value),items[i]?=some (.ref b)/\b≠d/\b≠I/\h.IsTuple b #[key,kv.2]/\knd.is kv.1 key=true
end
end PySem
namespace L2
open PySem PySem.W PySem.Spec PySem.Calls PyProof.Rows
section
variable {X:Cx}{pins:List (Addr×Obj)}{U:St}{H:Hp}{s:Shared}{d:Addr}
def PKV (H:Hp)(zs:List V)(kvs:List (Key×V)):Prop:=Paired (fun (z:V) (kv:Key×V)=>∃ a,z=.ref a/\H a=some (.tup [kV kv.1,kv.2])) zs kvs
theorem PKV.vals {P:Program}(hok:HOk P w H h){kvs:List (Key×V)}(r:PKV H zs kvs){its:List Value}(rv:Vals zs its):
  ∃ vs:List (Key×Value),KV kvs vs/\∀(i:Nat) (kv:Key×Value),vs[i]?=some kv->∃ (b:Addr) (key:Value),its[i]?=some (.ref b)/\h.IsTuple b #[key,kv.2]/\(mixKind P w).is kv.1 key=true:=by
 induction r generalizing its with
 | nil=>exact ⟨[],.nil,fun i kv e=>by cases i <;> cases e⟩
 | @cons z kv zs kvs h1 _ ih =>
  obtain ⟨a,rfl,ha⟩:=h1
  cases rv with
  | @cons _ u _ us ru rus =>
   obtain ⟨vs,r1,r2⟩:=ih rus
   cases (show u=Value.ref a from ru)
   obtain ⟨_,jts,r3,r4⟩:=(show _/\_ from hok a _ ha)
   obtain ⟨key,v,rfl,rk,rvv⟩:=zB r3
   refine ⟨(kv.1,v)::vs,.cons ⟨rfl,rvv⟩ r1,fun i p e=>?_⟩
   cases i with
   | zero =>
    cases e
    exact ⟨a,key,rfl,r4,dA rk⟩
   | succ i=>exact r2 i p e
end
end L2
namespace Gm
open Hg
section
variable {N:Type}[DecidableEq N][Inhabited N]{sl:N->N->Bool}
theorem cut_sub {s:LS N}:∀x∈(cut sl s).row,x∈s.row:=by
 intro x hx
 have hx':x∈(cutf (ltE sl) s.row).1:=hx
 by_cases h0:0<s.row.length
 .exact (cutf_perm (lt:=ltE sl) h0).mem_iff.mp (AH _ hx')
 have:=Di hx'
 rw [cutf_len] at this
 lia
theorem clean_sub:∀{f:Nat} {s:LS N},∀x∈(clean sl f s).row,x∈s.row
 | 0,s=>fun x h=>h
 | f+1,s=>by
  unfold clean
  split
  .exact fun x h=>h
  .exact fun x h=>cut_sub x (clean_sub x h)
end
end Gm
namespace L2
open PySem
theorem qz {α β:Type}{F:α->β->Prop}{l:List α}{l':List β}(r:Paired F l l'):∀{i:Nat} {a:α},l[i]?=some a->∃ b,l'[i]?=some b/\F a b:=by
 induction r with
 | nil=>intro i a h;cases h
 | @cons x y l l' h _ ih =>
  intro i a e
  cases i with
  | zero=>cases e;exact ⟨y,rfl,h⟩
  | succ i=>exact ih e
section
variable {K:W.Frag}{H H':Hp}{sc b:Addr}{xs:List V}
def KSq (K:W.Frag)(a:Addr)(xs:List V):Prop:=∃ (o:Obj) (its:Array Value) (n:Nat),K.lookup a=some o/\o.cls=.type "list"/\o.dict=none/\o.data=.seq its n/\its.size<=sizeLine/\Vals xs its.toList
def Off (K:W.Frag)(sc:Addr)(xs:List V)(b:Addr):Prop:=b≠sc∨KSq K sc xs
theorem SqL.fresh (h:SqL K H sc xs)(e:H b=none):Off K sc xs b:=by
 rcases h with h | h
 .refine .inl fun z=>?_
  rw [z] at e
  rcases h with h | ⟨o,h⟩ <;> (rw [h] at e;cases e)
 exact .inr h
theorem SqL.unlike (h:SqL K H sc xs){u:HO}(e:H b=some u)(n:∀ys,u=.lst ys->ys≠xs)(n2:∀o v,u≠.frz o v):Off K sc xs b:=by
 rcases h with h | h
 .refine .inl fun z=>?_
  rw [z] at e
  rcases h with h | ⟨o,h⟩
  .rw [h] at e;cases e;exact n _ rfl rfl
  .rw [h] at e;cases e;exact n2 _ _ rfl
 exact .inr h
theorem SqL.kept {F:List Addr}(h:SqL K H sc xs)(hF:∀b∈F,Off K sc xs b)(k:Kept F H H'):SqL K H' sc xs:=by
 rcases h with h | h
 .by_cases z:sc∈F
  .rcases hF sc z with q | q
   .exact absurd rfl q
   .exact .inr q
  .refine .inl ?_
   rcases h with h | ⟨o,h⟩
   .exact .inl (k _ _ h z)
   .exact .inr ⟨o,k _ _ h z⟩
 exact .inr h
theorem SqL.same' (h:SqL K H sc xs)(k:Same H H'):SqL K H' sc xs:=h.kept (F:=[]) (fun _ z=>nomatch z) fun b o e _=>k b o e
end
structure Pile (K:W.Frag)(H:Hp)(pl sc:Addr)(ns:List Int):Prop where
 to:∃ a b c e:Int,H pl=some (.lst [.ref sc,.int a,.int b,.int c,.int e])/\0<=a/\0<=c/\c<2147483629
 hs:SqL K H sc (ns.map V.int)
 ln:ns.length<=63
section
variable {K:W.Frag}{H H':Hp}{pl sc b:Addr}{ns:List Int}
theorem uM {x:V}{l:List V}{ns:List Int}(hx:∀i,x≠.int i):(x::l)≠ns.map V.int:=fun z=>by
 cases ns with
 | nil=>cases z
 | cons n ns =>
  rw [AN] at z
  injection z with z _
  exact hx n z
theorem Pile.offP (P:Pile K H pl sc ns):Off K sc (ns.map V.int) pl:=by
 obtain ⟨a,b,c,e,h,_⟩:=P.to
 exact P.hs.unlike h (fun ys z=>by cases z;exact uM fun i=>by intro z;cases z) (fun _ _ z=>nomatch z)
theorem Pile.kept {F:List Addr}(P:Pile K H pl sc ns)(hF:∀b∈F,b≠pl/\Off K sc (ns.map V.int) b)(k:Kept F H H'):Pile K H' pl sc ns:=by
 obtain ⟨a,b,c,e,h,r⟩:=P.to
 exact ⟨⟨a,b,c,e,k _ _ h (fun z=>(hF _ z).1 rfl),r⟩,P.hs.kept (fun b hb=>(hF b hb).2) k,P.ln⟩
theorem Pile.same (P:Pile K H pl sc ns)(k:Same H H'):Pile K H' pl sc ns:=P.kept (F:=[]) (fun _ z=>nomatch z) fun b o e _=>k b o e
theorem Pile.there (P:Pile K H pl sc ns):∃ u,H pl=some u:=let ⟨_,_,_,_,h,_⟩:=P.to;⟨_,h⟩
theorem Pile.new (P:Pile K H pl sc ns)(e:H b=none):b≠pl/\Off K sc (ns.map V.int) b:=by
 obtain ⟨u,h⟩:=P.there
 exact ⟨(ap h e).symm,P.hs.fresh e⟩
theorem Pile.unlike (P:Pile K H pl sc ns){u:HO}(e:H b=some u)(n:∀ys,u≠.lst ys)(n2:∀o v,u≠.frz o v):b≠pl/\Off K sc (ns.map V.int) b:=by
 obtain ⟨a1,b1,c1,e1,h,_⟩:=P.to
 exact ⟨fun z=>by rw [z,h] at e;cases e;exact n _ rfl,P.hs.unlike e (fun ys z=>absurd z (n ys)) n2⟩
theorem Pile.put {a b' c e:Int}(P:Pile K H pl sc ns)(h0:0<=a)(h1:0<=c)(h2:c<2147483629):Pile K (upd H pl (.lst [.ref sc,.int a,.int b',.int c,.int e])) pl sc ns :=
 ⟨⟨a,b',c,e,ag,h0,h1,h2⟩,P.hs.kept (F:=[pl]) (fun b hb=>by rw [Ao hb];exact P.offP) (Kept.refl.put An),P.ln⟩
end
def cT (K:W.Frag):Sp:=fun vs H Q _=>∃ (pl sc:Addr) (ns:List Int) (most:Int),vs=[.ref pl,.int most]/\Pile K H pl sc ns/\0<most/\most<2 ^ 120 /\
 ∀x H',0<=x->x<most->Pile K H' pl sc ns->Kept [pl] H H'->(∀b,H b=none->H' b=none)->Q (.int x) H'
end L2
namespace L2
open PySem PySem.W PySem.Spec PySem.Calls PyProof.Rows
section
variable {X:Cx}
theorem ss:SlR X (fun x lo hi H Q=>∃ z,x=.str z/\z.length<=sizeLine/\Q (.str (Txt.slice z lo hi)) H):=by
 intro pins s U H x v vl vu lo hi sl Q I rx hs pl pu h
 obtain ⟨z,rfl,hz,q⟩:=h
 obtain ⟨t,rfl⟩:=rx
 have fin:∀(l u:Option Int),lo=l->hi=u->∀t' k,EP X pins U Q (.str (Txt.slice z l u) t') { s with toks:=k }:=fun l u e1 e2 t' k=>by
  subst e1 e2
  exact ⟨.str _,H,I.tok _,⟨t',rfl⟩,q⟩
 cases pl with
 | none =>
  cases pu with
  | none=>exact ⟨"str",_,C0.lookup,E1 _ _ _,Dc (l:=none) (u:=none) (st:=none) hs rfl (EH ⟨AV (Er z _ _) hz,fin none none rfl rfl⟩)⟩
  | int j u=>exact ⟨"str",_,C0.lookup,E1 _ _ _,Dc (l:=none) (u:=some (j,u)) (st:=none) hs rfl (EH ⟨AV (Er z _ _) hz,fin none (some j) rfl rfl⟩)⟩
 | int i u0 =>
  cases pu with
  | none=>exact ⟨"str",_,C0.lookup,E1 _ _ _,Dc (l:=some (i,u0)) (u:=none) (st:=none) hs rfl (EH ⟨AV (Er z _ _) hz,fin (some i) none rfl rfl⟩)⟩
  | int j u=>exact ⟨"str",_,C0.lookup,E1 _ _ _,Dc (l:=some (i,u0)) (u:=some (j,u)) (st:=none) hs rfl (EH ⟨AV (Er z _ _) hz,fin (some i) (some j) rfl rfl⟩)⟩
theorem l9:∀{zs:List Str} {its:List Value},Vals (zs.map V.str) its->∃ l:List (Str×Tok),its=strValues l/\l.map (·.1)=zs
 | [],_,.nil=>⟨[],rfl,rfl⟩
 | z::zs,_,.cons r rs=>by
  obtain ⟨t,rfl⟩:=(show ∃ t,_=Value.str z t from r)
  obtain ⟨l,e1,e2⟩:=l9 rs
  exact ⟨(z,t)::l,by rw [e1];rfl,by rw [<-e2];rfl⟩
theorem vm:MtR X "str.join" (fun x xs H Q=>∃ (sep:Str) (p:Addr) (zs:List Str),x=.str sep/\xs=[.ref p]/\SqL X.K H p (zs.map V.str)/\sep.length<=100/\zs.length<=1000/\(∀y∈zs,y.length<=100)/\Q (.str (Txt.join sep zs)) H):=by
 intro pins s U H x xs v us Q I rx rv h
 obtain ⟨sep,p,zs,rfl,rfl,hp,h1,h2,h3,q⟩:=h
 obtain ⟨t,rfl⟩:=rx
 obtain ⟨u,rfl,ru⟩:=c9 rv
 cases ru
 obtain ⟨its,r,pl,hz⟩:=I.list hp
 obtain ⟨l,e1,e2⟩:=l9 r
 subst e1
 refine SC.join (l:=l) (texts:=zs) pl.isList e2 ?_ fun t' k=>⟨.str _,H,I.tok _,⟨t',rfl⟩,q⟩
 have m1:zs.length*100<=1000*100:=Nat.mul_le_mul_right _ h2
 have m2:zs.length*sep.length<=1000*100:=Nat.mul_le_mul h2 h1
 have:=StrLaws.joinFits (sep:=sep) (texts:=zs) (B:=100) h3 Am
 unfold JoinOk
 rw [Bool.not_eq_true']
 exact this
theorem ui {zs:List Str}(h:∀y∈zs,y.length<=1):(Txt.join "" zs).length<=zs.length:=by
 have e:Txt.join "" zs=Str.join "" zs:=StrLaws.glued_eq_join "" zs
 rw [e]
 have a:=StrLaws.join_length_le "" zs
 have b:(zs.map (·.length)).sum<=zs.length:=by
  clear a e
  induction zs with
  | nil=>exact Av _
  | cons z zs ih =>
   have h1:=h z AX
   have h2:=ih fun y hy=>h y (AH _ hy)
   rw [AN,List.sum_cons,A8]
   lia
 have c:(("":Str)).length=0:=rfl
 rw [c] at a
 lia
end
end L2
namespace L2
open PySem PyProof.Rows
section
variable {X:Cx}
theorem rq {x:V}(r:Vals [x,y] us):∃ u v,us=[u,v]/\RelV x u/\RelV y v:=by
 cases r with
 | cons r1 r2 =>
  cases r2 with
  | cons r3 r4=>cases r4;exact ⟨_,_,rfl,r1,r3⟩
end
end L2
namespace Wb
open PySem L2
abbrev Row:=Str×Str×Int
abbrev Web:=List Row
section
variable {web:Web}{first:Str}{far:Tb}
def rl (c:Tb×Bool)(r:Row):Tb×Bool :=
 match Gm.dget c.1 r.1 with
 | none=>c
 | some u=>match Gm.dget c.1 r.2.1 with
  | none=>(Gm.dput c.1 r.2.1 (u+r.2.2),true)
  | some v=>if u+r.2.2<v then (Gm.dput c.1 r.2.1 (u+r.2.2),true) else c
def wL (L:Tb)(r:Row):Prop:=∃ u,Gm.dget L r.1=some u/\Gm.dget L r.2.1=some (u+r.2.2)
inductive oI (web:Web)(first:Str)(L:Tb):Str->Prop
 | base:oI web first L first
 | step {r:Row}:oI web first L r.1->r∈web->wL L r->oI web first L r.2.1
end
end Wb
namespace L2
open PySem PySem.W PySem.Spec PySem.Calls PyProof.Rows
section
variable {X:Cx}
theorem oz {z:Array Nat}:∀(n:Nat) (a:Array Nat),((List.replicate n z).foldl (·++·) a).size=a.size+z.size*n
 | 0,a=>by simp
 | n+1,a=>by rw [EI,Do,oz n,Array.size_append,Nat.mul_succ];lia
end
end L2
namespace L2
open PySem PySem.W PySem.Spec PySem.Calls PyProof.Rows
open PySem.SeqAt (EqAt RcAt RcNeAt)
section
variable {X:Cx}
theorem vt (hu:X.A.units<cLine):OpR X (compareOp .Eq) (fun x y H Q=>∃ (b:Addr) (i' j':Int),y=.ref b/\SqT X.K H b [.int i',.int j']/\((x=.non/\Q (.bl false) H)∨∃ (a:Addr) (i j:Int),x=.ref a/\SqT X.K H a [.int i,.int j]/\Q (.bl (decide (i=i'/\j=j'))) H)):=by
 intro pins s U H x y v u Q I rx ry h
 obtain ⟨b,i',j',rfl,hb,⟨rfl,q⟩ | ⟨a,i,j,rfl,ha,q⟩⟩:=h
 .cases rx
  cases ry
  obtain ⟨its,r,ht,_⟩:=I.tuple hb
  exact RcAt.none_tuple ht hu X.prog X.w _ _ ⟨.bl false,H,I,rfl,q⟩
 cases rx
 cases ry
 obtain ⟨its,r,ht,_⟩:=I.tuple ha
 obtain ⟨its2,r2,ht2,_⟩:=I.tuple hb
 obtain ⟨u0,u1,rfl,a0,a1⟩:=rq r
 obtain ⟨v0,v1,rfl,b0,b1⟩:=rq r2
 obtain ⟨e0,q0,z0⟩:=cG (a:=.int i) (c:=.int i') X.A.in1 s trivial a0 b0
 obtain ⟨e1,q1,z1⟩:=cG (a:=.int j) (c:=.int j') X.A.in1 s trivial a1 b1
 refine Fd (e:=fun k=>if k=0 then e0 else e1) ht ht2 hu (fun k h1 h2=>?_) ⟨.bl _,H,I,?_,q⟩
 .match k,h1,h2 with
  | 0,_,_=>exact q0
  | 1,_,_=>exact q1
  | k+2,h1,_=>exact absurd h1 An
 show Value.bool ((e0&&(e1&&true))&&true)=Value.bool _
 rw [EC,EC]
 congr 1
 rw [Ca,Bw,Bq,z0,z1]
 exact ⟨fun ⟨x,y⟩=>⟨V.int.inj x,V.int.inj y⟩,fun ⟨x,y⟩=>⟨by rw [x],by rw [y]⟩⟩
theorem jF:OpR X (compareOp .In) (fun x y H Q=>∃ (a:Addr) (n:Str) (xs:List Str),x=.str n/\y=.ref a/\SqT X.K H a (xs.map V.str)/\Q (.bl (decide (n∈xs))) H):=by
 intro pins s U H x y v u Q I rx ry h
 obtain ⟨a,n,xs,rfl,rfl,ha,q⟩:=h
 obtain ⟨t,rfl⟩:=rx
 cases ry
 obtain ⟨its,r,p,_⟩:=I.tuple ha
 have hv:∀y∈its,∃ z∈xs,∃ t,y=Value.str z t:=fun y hy=>by
  obtain ⟨j,hj,ej⟩:=Ba hy
  obtain ⟨x,ex,rx⟩:=r.at hj
  rw [AS] at ex
  cases e:xs[j]? with
  | none=>rw [e] at ex;cases ex
  | some z =>
   rw [e] at ex
   cases ex
   obtain ⟨t,et⟩:=rx
   exact ⟨z,AQ e,t,ej▸et⟩
 have hw:∀z∈xs,∃ t,Value.str z t∈its:=fun z hz=>by
  obtain ⟨j,hj,ej⟩:=Ba hz
  have e:(xs.map V.str)[j]?=some (V.str z):=by rw [AS,tx hj,ej];rfl
  obtain ⟨u,hu,t,et⟩:=r.get e
  exact ⟨t,et▸AQ hu⟩
 let e:Value->Bool:=fun y=>match y with | .str z _=>z == n | _=>false
 refine SeqAt.in_tupleAt e p (fun y hy=>?_) ⟨.bl _,H,I,?_,q⟩
 .obtain ⟨z,_,t',rfl⟩:=hv y (by simpa using hy)
  exact EqAt.str_str z t' n t
 have ea:its.toArray.any e=its.any e:=by simp
 show Value.bool (its.toArray.any e)=Value.bool _
 rw [ea]
 congr 1
 rw [Ca,Bw,BF]
 constructor
 .rintro ⟨y,hy,ey⟩
  obtain ⟨z,hz,t',rfl⟩:=hv y hy
  have ez:z=n:=(cy z n).mp ey
  exact ez▸hz
 intro hn
 obtain ⟨t',ht⟩:=hw n hn
 exact ⟨_,ht,(cy n n).mpr rfl⟩
theorem tO {e1 e2 e3 e4 e5 f1 f2 f3 f4 f5:Expr}{a1 a2 a3 a4 a5 b1 b2 b3 b4 b5:TE}(g1:QE X e1 a1)(h1:QE X f1 b1)(g2:QE X e2 a2)(h2:QE X f2 b2)(g3:QE X e3 a3)(h3:QE X f3 b3)(g4:QE X e4 a4)(h4:QE X f4 b4)(g5:QE X e5 a5)(h5:QE X f5 b5):
  QE X (.Dict [some e1,some e2,some e3,some e4,some e5] [f1,f2,f3,f4,f5] pos) (wT [(a1,b1),(a2,b2),(a3,b3),(a4,b4),(a5,b5)]) :=
 .mk (vc (dB g1.to h1.to (dB g2.to h2.to (dB g3.to h3.to (dB g4.to h4.to (dB g5.to h5.to vJ))))) rfl rfl An An)
end
def stK (r td:Addr)(s:LS)(wk:Nat):List (Key×V):=[(Sum.inr "slack",.int s.slack),(Sum.inr "row",.ref r),(Sum.inr "there",.ref td),(Sum.inr "next",.int s.stamp),(Sum.inr "work",.int wk)]
theorem st_ne:("slack":Str)≠"row"/\("slack":Str)≠"there"/\("slack":Str)≠"next"/\("slack":Str)≠"work"/\("row":Str)≠"there"/\("row":Str)≠"next"/\("row":Str)≠"work"/\("there":Str)≠"next"/\("there":Str)≠"work"/\("next":Str)≠"work":=by decide +kernel
theorem ku {k:Key}{v:V}{l:List (Key×V)}:bp ((k,v)::l) k=some v:=by unfold bp;rw [List.find?_cons_of_pos An];rfl
theorem dS {a b:Str}{v:V}{l:List (Key×V)}(h:a≠b):bp ((Sum.inr a,v)::l) (Sum.inr b:Key)=bp l (Sum.inr b):=by
 unfold bp
 rw [List.find?_cons_of_neg (by simpa using fun z:a=b=>h z)]
section
variable {r td D:Addr}{s:LS}{wk w2:Nat}
theorem tY:bp (stK r td s wk) (Sum.inr "slack":Key)=some (.int s.slack):=ku
theorem sQ:bp (stK r td s wk) (Sum.inr "row":Key)=some (.ref r):=by unfold stK;rw [dS st_ne.1,ku]
theorem tW:bp (stK r td s wk) (Sum.inr "there":Key)=some (.ref td):=by unfold stK;rw [dS st_ne.2.1,dS st_ne.2.2.2.2.1,ku]
theorem vp:bp (stK r td s wk) (Sum.inr "next":Key)=some (.int s.stamp):=by unfold stK;rw [dS st_ne.2.2.1,dS st_ne.2.2.2.2.2.1,dS st_ne.2.2.2.2.2.2.2.1,ku]
theorem v6:bp (stK r td s wk) (Sum.inr "work":Key)=some (.int wk):=by unfold stK;rw [dS st_ne.2.2.2.1,dS st_ne.2.2.2.2.2.2.1,dS st_ne.2.2.2.2.2.2.2.2.1,dS st_ne.2.2.2.2.2.2.2.2.2,ku]
theorem jK {k:Str}{v:V}(h:k∈(["slack","row","there","next","work"]:List Str)):aX (stK r td s wk) (Sum.inr k:Key) v=(stK r td s wk).map fun kv=>if kv.1=(Sum.inr k:Key) then (kv.1,v) else kv:=by
 unfold aX
 rw [Az]
 rw [BF]
 simp only [Aw,Ax,Bg] at h
 unfold stK
 rcases h with rfl | rfl | rfl | rfl | rfl
 .exact ⟨(Sum.inr "slack",.int s.slack),An,AO rfl⟩
 .exact ⟨(Sum.inr "row",.ref r),An,AO rfl⟩
 .exact ⟨(Sum.inr "there",.ref td),An,AO rfl⟩
 .exact ⟨(Sum.inr "next",.int s.stamp),An,AO rfl⟩
 exact ⟨(Sum.inr "work",.int wk),An,AO rfl⟩
theorem xM {s':LS}(h1:s'.slack=s.slack)(h2:s'.stamp=s.stamp):aX (stK r td s wk) (Sum.inr "row":Key) (.ref D)=stK D td s' wk:=by
 rw [jK An]
 unfold stK
 simp only [AN,CP]
 rw [Ay (fun z=>st_ne.1 (Cd z)),Az trivial,Ay (fun z=>st_ne.2.2.2.2.1 (Cd z).symm),Ay (fun z=>st_ne.2.2.2.2.2.1 (Cd z).symm),Ay (fun z=>st_ne.2.2.2.2.2.2.1 (Cd z).symm),h1,h2]
theorem vP {s':LS}(h1:s'.slack=s.slack)(h2:s'.stamp=s.stamp+1):aX (stK r td s wk) (Sum.inr "next":Key) (.int ((s.stamp:Int)+1))=stK r td s' wk:=by
 rw [jK An]
 unfold stK
 simp only [AN,CP]
 rw [Ay (fun z=>st_ne.2.2.1 (Cd z)),Ay (fun z=>st_ne.2.2.2.2.2.1 (Cd z)),Ay (fun z=>st_ne.2.2.2.2.2.2.2.1 (Cd z)),Az trivial,Ay (fun z=>st_ne.2.2.2.2.2.2.2.2.2 (Cd z).symm),h1,h2]
 rfl
theorem v7:aX (stK r td s wk) (Sum.inr "work":Key) (.int w2)=stK r td s w2:=by
 rw [jK An]
 unfold stK
 simp only [AN,CP]
 rw [Ay (fun z=>st_ne.2.2.2.1 (Cd z)),Ay (fun z=>st_ne.2.2.2.2.2.2.1 (Cd z)),Ay (fun z=>st_ne.2.2.2.2.2.2.2.2.1 (Cd z)),Ay (fun z=>st_ne.2.2.2.2.2.2.2.2.2 (Cd z)),Az trivial]
end
theorem iV {k:Str}{v:V}{l:List (Key×V)}(h:∀p∈l,p.1≠(Sum.inr k:Key)):aX l (Sum.inr k:Key) v=l++[(Sum.inr k,v)]:=by
 unfold aX
 rw [Ay]
 rw [BF]
 rintro ⟨p,hp,e⟩
 exact h p hp (Bc e)
theorem uJ {r td:Addr}:fU [] [(Sum.inr "slack",.int z),(Sum.inr "row",.ref r),(Sum.inr "there",.ref td),(Sum.inr "next",.int 0),(Sum.inr "work",.int 0)]=stK r td (Gm.newL z) 0:=by
 have q:∀{a b:Str},a≠b->(Sum.inr a:Key)≠Sum.inr b:=fun h z=>h (Cd z)
 have e0:aX ([]:List (Key×V)) (Sum.inr "slack") (V.int z)=([(Sum.inr "slack",V.int z)]:List (Key×V)):=iV (l:=[]) (fun p hp=>nomatch hp)
 have e1:aX ([(Sum.inr "slack",V.int z)]:List (Key×V)) (Sum.inr "row") (V.ref r)=([(Sum.inr "slack",V.int z),(Sum.inr "row",V.ref r)]:List (Key×V)):=iV (by
  intro p hp
  simp only [Aw,Ax,Bg] at hp
  rcases hp with rfl
  .exact q st_ne.1)
 have e2:aX ([(Sum.inr "slack",V.int z),(Sum.inr "row",V.ref r)]:List (Key×V)) (Sum.inr "there") (V.ref td)=([(Sum.inr "slack",V.int z),(Sum.inr "row",V.ref r),(Sum.inr "there",V.ref td)]:List (Key×V)):=iV (by
  intro p hp
  simp only [Aw,Ax,Bg] at hp
  rcases hp with rfl | rfl
  .exact q st_ne.2.1
  .exact q st_ne.2.2.2.2.1)
 have e3:aX ([(Sum.inr "slack",V.int z),(Sum.inr "row",V.ref r),(Sum.inr "there",V.ref td)]:List (Key×V)) (Sum.inr "next") (V.int 0)=([(Sum.inr "slack",V.int z),(Sum.inr "row",V.ref r),(Sum.inr "there",V.ref td),(Sum.inr "next",V.int 0)]:List (Key×V)):=iV (by
  intro p hp
  simp only [Aw,Ax,Bg] at hp
  rcases hp with rfl | rfl | rfl
  .exact q st_ne.2.2.1
  .exact q st_ne.2.2.2.2.2.1
  .exact q st_ne.2.2.2.2.2.2.2.1)
 have e4:aX ([(Sum.inr "slack",V.int z),(Sum.inr "row",V.ref r),(Sum.inr "there",V.ref td),(Sum.inr "next",V.int 0)]:List (Key×V)) (Sum.inr "work") (V.int 0)=([(Sum.inr "slack",V.int z),(Sum.inr "row",V.ref r),(Sum.inr "there",V.ref td),(Sum.inr "next",V.int 0),(Sum.inr "work",V.int 0)]:List (Key×V)):=iV (by
  intro p hp
  simp only [Aw,Ax,Bg] at hp
  rcases hp with rfl | rfl | rfl | rfl
  .exact q st_ne.2.2.2.1
  .exact q st_ne.2.2.2.2.2.2.1
  .exact q st_ne.2.2.2.2.2.2.2.2.1
  .exact q st_ne.2.2.2.2.2.2.2.2.2)
 show (aX (aX (aX (aX (aX ([]:List (Key×V)) (Sum.inr "slack":Key) (V.int z)) (Sum.inr "row":Key) (V.ref r)) (Sum.inr "there":Key) (V.ref td)) (Sum.inr "next":Key) (V.int 0)) (Sum.inr "work":Key) (V.int 0))=_
 rw [e0,e1,e2,e3,e4]
 rfl
structure StAt (H:Hp)(st r td:Addr)(s:LS)(wk:Nat):Prop where
 hs:H st=some (.dK (stK r td s wk))
 hr:∃ xs,H r=some (.lst xs)/\RR H xs s.row
 ht:∃ ks,H td=some (.dK ks)/\KP H ks s.there
 ne:st≠td
section
variable {H H':Hp}{st r td:Addr}{s:LS}{wk:Nat}
theorem StAt.slack (O:StAt H st r td s wk):DGet H st (.str "slack") (some (.int s.slack)):=tY (r:=r) (td:=td) (s:=s) (wk:=wk)▸DGet.k (k:=Sum.inr "slack") O.hs
theorem StAt.row (O:StAt H st r td s wk):DGet H st (.str "row") (some (.ref r)):=sQ (r:=r) (td:=td) (s:=s) (wk:=wk)▸DGet.k (k:=Sum.inr "row") O.hs
theorem StAt.there (O:StAt H st r td s wk):DGet H st (.str "there") (some (.ref td)):=tW (r:=r) (td:=td) (s:=s) (wk:=wk)▸DGet.k (k:=Sum.inr "there") O.hs
theorem StAt.next (O:StAt H st r td s wk):DGet H st (.str "next") (some (.int s.stamp)):=vp (r:=r) (td:=td) (s:=s) (wk:=wk)▸DGet.k (k:=Sum.inr "next") O.hs
theorem StAt.work (O:StAt H st r td s wk):DGet H st (.str "work") (some (.int wk)):=v6 (r:=r) (td:=td) (s:=s) (wk:=wk)▸DGet.k (k:=Sum.inr "work") O.hs
theorem StAt.stay (O:StAt H st r td s wk)(k:∀b o,(b=st∨b=r∨b=td)->H b=some o->H' b=some o)(t:∀b l,H b=some (.tup l)->H' b=some (.tup l)):StAt H' st r td s wk:=by
 obtain ⟨xs,hx,rr⟩:=O.hr
 obtain ⟨ks,hd,kr⟩:=O.ht
 exact ⟨k _ _ (.inl rfl) O.hs,⟨xs,k _ _ (.inr (.inl rfl)) hx,rr.stay t⟩,⟨ks,k _ _ (.inr (.inr rfl)) hd,kr.stay t⟩,O.ne⟩
theorem StAt.same (O:StAt H st r td s wk)(k:Same H H'):StAt H' st r td s wk:=O.stay (fun b o _ e=>k b o e) fun b l e=>k _ _ e
theorem StAt.notup (O:StAt H st r td s wk):∀b∈[st,r,td],∀xs,¬ H b=some (.tup xs):=by
 obtain ⟨ys,hr,_⟩:=O.hr
 obtain ⟨kt,ht,_⟩:=O.ht
 intro b hb xs z
 simp only [Aw,Ax,Bg] at hb
 rcases hb with rfl | rfl | rfl
 .rw [O.hs] at z;cases z
 .rw [hr] at z;cases z
 rw [ht] at z;cases z
theorem StAt.apart (O:StAt H st r td s wk):r≠st/\r≠td:=by
 obtain ⟨xs,hx,_⟩:=O.hr
 obtain ⟨ks,hd,_⟩:=O.ht
 exact ⟨bv hx O.hs (by intro z;cases z),bv hx hd (by intro z;cases z)⟩
theorem StAt.tk (O:StAt H st r td s wk){F:List Addr}(k:Kept F H H')(h:∀b∈F,b∈[st,r,td]):∀b zs,H b=some (.tup zs)->H' b=some (.tup zs):=k.tups fun b hb zs=>O.notup b (h b hb) zs
theorem StAt.rowTo (O:StAt H st r td s wk){ys:List V}{es:List En}(h:H' r=some (.lst ys))(rr:RR H' ys es)(k:Kept [r] H H'){lk:Nat}:StAt H' st r td { s with row:=es,looks:=lk } wk:=by
 obtain ⟨ks,hd,kr⟩:=O.ht
 obtain ⟨n1,n2⟩:=O.apart
 exact ⟨k _ _ O.hs (fun z=>n1 (Ao z).symm),⟨ys,h,rr⟩,⟨ks,k _ _ hd (fun z=>n2 (Ao z).symm),kr.stay (O.tk k fun b hb=>by rw [Ao hb];simp)⟩,O.ne⟩
theorem StAt.thereTo (O:StAt H st r td s wk){ks:List (Key×V)}{T:List (Str×En)}(h:H' td=some (.dK ks))(kr:KP H' ks T)(k:Kept [td] H H'):StAt H' st r td { s with there:=T } wk:=by
 obtain ⟨xs,hx,rr⟩:=O.hr
 obtain ⟨n1,n2⟩:=O.apart
 exact ⟨k _ _ O.hs (fun z=>O.ne (Ao z)),⟨xs,k _ _ hx (fun z=>n2 (Ao z)),rr.stay (O.tk k fun b hb=>by rw [Ao hb];simp)⟩,⟨ks,h,kr⟩,O.ne⟩
theorem StAt.dictTo (O:StAt H st r td s wk){s':LS}{wk':Nat}(h:H' st=some (.dK (stK r td s' wk')))(e1:s'.row=s.row)(e2:s'.there=s.there)(k:Kept [st] H H'):StAt H' st r td s' wk':=by
 obtain ⟨xs,hx,rr⟩:=O.hr
 obtain ⟨ks,hd,kr⟩:=O.ht
 obtain ⟨n1,n2⟩:=O.apart
 have t:=O.tk k fun b hb=>by rw [Ao hb];simp
 exact ⟨h,⟨xs,k _ _ hx (fun z=>n1 (Ao z)),by rw [e1];exact rr.stay t⟩,⟨ks,k _ _ hd (fun z=>O.ne (Ao z).symm),by rw [e2];exact kr.stay t⟩,O.ne⟩
theorem StAt.workTo (O:StAt H st r td s wk){lk:Nat}(h:s.looks=wk+lk):StAt (upd H st (.dK (aX (stK r td s wk) (Sum.inr "work":Key) (.int ((wk:Int)+(lk:Int)))))) st r td s s.looks/\Kept [st] H (upd H st (.dK (aX (stK r td s wk) (Sum.inr "work":Key) (.int ((wk:Int)+(lk:Int)))))):=by
 have e:aX (stK r td s wk) (Sum.inr "work":Key) (.int ((wk:Int)+(lk:Int)))=stK r td s s.looks:=by
  rw [h]
  exact v7 (w2:=wk+lk)
 rw [e]
 have k:Kept [st] H (upd H st (.dK (stK r td s s.looks))):=Kept.refl.put An
 exact ⟨O.dictTo ag rfl rfl k,k⟩
theorem StAt.dropTo (O:StAt H st r td s wk){ks:List (Key×V)}(n:Str)(hd:H td=some (.dK ks)):StAt (upd H td (.dK (bD ks (Sum.inr n)))) st r td (Gm.dropT s n) wk/\Kept [td] H (upd H td (.dK (bD ks (Sum.inr n)))):=by
 obtain ⟨ks',hd',kr⟩:=O.ht
 rw [hd] at hd'
 cases hd'
 have k:Kept [td] H (upd H td (.dK (bD ks (Sum.inr n)))):=Kept.refl.put An
 exact ⟨O.thereTo ag ((kr.drop n).stay (O.tk k fun b hb=>by rw [Ao hb];simp)) k,k⟩
end
end L2
namespace L2
open PySem PySem.Spec PyProof.Rows
open PySem.SeqAt (EqAt RcAt RcNeAt)
def Deed.inN (ns:List V):Deed->Prop
 | .put n _=>V.str n∈ns
 | .drop n=>V.str n∈ns
 | .change n _=>V.str n∈ns
 | _=>True
def InN (ns:List V)(t:Tb):Prop:=∀p∈t,V.str p.1∈ns
theorem InN.plain {ns:List V}{t:Tb}(h:InN ns t)(hd:d.inN ns)(a:Ans):InN ns (rE t d a):=by
 have put:∀n w,V.str n∈ns->InN ns (Gm.dput t n w):=fun n w hn p hp=>by
  obtain ⟨m,c⟩:=p
  rcases Gm.dput_mem hp with ⟨e,_⟩ | ⟨_,e⟩
  .show V.str m∈ns
   rw [e];exact hn
  .exact h _ e
 have del:∀n,InN ns (Gm.ddel t n):=fun n p hp=>by
  obtain ⟨m,c⟩:=p
  exact h _ (Gm.ddel_mem.mp hp).2
 cases d <;> cases a <;> first | exact h | exact put _ _ hd | exact del _
theorem InN.len {ns:List V}{T:List (Str×En)}(h:InN ns (thW T))(nd:(T.map (·.1)).Nodup):T.length<=ns.length:=by
 have n2:((T.map (·.1)).map V.str).Nodup:=by
  rw [CM,BL]
  exact (CM.mp nd).imp fun n z=>n (V.str.inj z)
 have:=Gm.nodup_len n2 (R:=ns) (fun e he=>by
  obtain ⟨n,hn,rfl⟩:=AK.mp he
  obtain ⟨p,hp,rfl⟩:=AK.mp hn
  exact h (p.1,p.2.w) (AK.mpr ⟨p,hp,rfl⟩))
 rw [Ar,Ar] at this
 exact this
end L2
namespace L2
open PySem
def Deed.fit (s:LS):Deed->Prop
 | .put n _=>Gm.dget s.there n=none
 | .drop n=>Gm.dget s.there n≠none
 | .change n _=>Gm.dget s.there n≠none
 | .take=>s.there≠[]
 | .least=>s.there≠[]
def stepS (s:LS):Deed->LS
 | .put n w=>Gm.putL slt s n w
 | .drop n=>Gm.dropL slt s n
 | .change n w=>Gm.sweep slt (Gm.enter slt (Gm.dropT s n) n w)
 | .take=>Gm.takeL slt s
 | .least=>Gm.leastL slt s
theorem p6 {s:LS}(I:Gm.LInv slt s)(h:d.fit s):Gm.LInv slt (stepS s d):=by
 cases d with
 | put n w=>exact Gm.put_inv slt_slo I
 | drop n=>exact Gm.dropL_inv slt_slo I
 | change n w=>exact Gm.sweep_inv slt_slo (Gm.enter_inv slt_slo (Gm.drop_inv I))
 | take=>exact Gm.take_inv slt_slo I h
 | least=>exact (Gm.least_ok slt_slo I h).inv
structure Sim (s t:LS):Prop where
 row:s.row=t.row
 lk:s.looks=t.looks
 st:s.stamp=t.stamp
 sl:s.slack=t.slack
 tw:Gm.Tw s.there t.there
theorem Sim.holds {s t:LS}(h:Sim s t)(e:En):Gm.holds s.there e=Gm.holds t.there e:=by
 unfold Gm.holds
 rw [h.tw.get]
theorem Sim.len {s t:LS}(h:Sim s t):s.there.length=t.there.length:=h.tw.len
theorem Sim.due {s t:LS}(h:Sim s t):Gm.due s=Gm.due t:=by
 unfold Gm.due
 rw [h.row,h.len,h.sl]
theorem Sim.sweep {s t:LS}(h:Sim s t):Sim (Gm.sweep slt s) (Gm.sweep slt t):=by
 unfold Gm.sweep
 rw [h.due]
 split
 .have ef:s.row.filter (Gm.holds s.there)=t.row.filter (Gm.holds t.there):=by
   rw [h.row]
   exact E3 fun e _=>h.holds e
  unfold Gm.swept
  rw [ef,h.lk]
  exact ⟨rfl,rfl,h.st,h.sl,h.tw⟩
 exact h
theorem Sim.enter {s t:LS}(h:Sim s t)(n:Str)(w:Int):Sim (Gm.enter slt s n w) (Gm.enter slt t n w):=by
 unfold Gm.enter
 rw [h.row,h.lk,h.st,h.sl]
 exact ⟨rfl,rfl,rfl,rfl,h.tw.put _ _⟩
theorem Sim.enterC {s t:LS}(h:Sim s t)(n:Str)(w:Int):Sim (Gm.enter slt (Gm.dropT s n) n w) (Gm.enter slt t n w):=by
 unfold Gm.enter Gm.dropT
 dsimp only
 rw [h.row,h.lk,h.st,h.sl]
 exact ⟨rfl,rfl,rfl,rfl,h.tw.chg _ _⟩
theorem Sim.drop {s t:LS}(h:Sim s t)(n:Str):Sim (Gm.dropT s n) (Gm.dropT t n):=⟨h.row,h.lk,h.st,h.sl,h.tw.del n⟩
theorem Sim.cut {s t:LS}(h:Sim s t):Sim (Gm.cut slt s) (Gm.cut slt t):=by
 unfold Gm.cut
 rw [h.row,h.lk,h.st,h.sl]
 exact ⟨rfl,rfl,rfl,rfl,h.tw⟩
theorem Sim.clean:∀(f:Nat) {s t:LS},Sim s t->Sim (Gm.clean slt f s) (Gm.clean slt f t)
 | 0,_,_,h=>h
 | f+1,s,t,h=>by
  unfold Gm.clean
  rw [h.row,h.holds]
  split
  .exact h
  .exact Sim.clean f h.cut
theorem Sim.least {s t:LS}(h:Sim s t):Sim (Gm.leastL slt s) (Gm.leastL slt t):=by
 unfold Gm.leastL
 rw [h.row]
 exact Sim.clean _ h
theorem Sim.take {s t:LS}(h:Sim s t):Sim (Gm.takeL slt s) (Gm.takeL slt t):=by
 unfold Gm.takeL
 rw [h.least.row]
 exact (h.least.cut.drop _).sweep
theorem Sim.nil {s t:LS}(h:Sim s t):s.there=[]↔t.there=[]:=h.tw.nil
theorem Sim.step {s t:LS}(h:Sim s t)(f:d.fit s):Sim (stepS s d) (aY t d).1:=by
 cases d with
 | put n w =>
  have e:Gm.dget t.there n=none:=by rw [<-h.tw.get];exact f
  show Sim (Gm.putL slt s n w) (if (Gm.dget t.there n).isSome=true then (t,Ans.clash) else (Gm.putL slt t n w,Ans.non)).1
  rw [e]
  exact (h.enter n w).sweep
 | drop n =>
  have e:(Gm.dget t.there n).isSome=true:=by
   rw [<-h.tw.get]
   cases z:Gm.dget s.there n with
   | none=>exact absurd z f
   | some _=>rfl
  show Sim (Gm.dropL slt s n) (if (Gm.dget t.there n).isSome=true then (Gm.dropL slt t n,Ans.non) else (t,Ans.nothing)).1
  rw [Az e]
  exact (h.drop n).sweep
 | change n w =>
  have e:(Gm.dget t.there n).isSome=true:=by
   rw [<-h.tw.get]
   cases z:Gm.dget s.there n with
   | none=>exact absurd z f
   | some _=>rfl
  show Sim (Gm.sweep slt (Gm.enter slt (Gm.dropT s n) n w)) (if (Gm.dget t.there n).isSome=true then (Gm.putL slt t n w,Ans.non) else (t,Ans.nothing)).1
  rw [Az e]
  exact (h.enterC n w).sweep
 | take =>
  have e:t.there≠[]:=fun z=>f (h.nil.mpr z)
  show Sim (Gm.takeL slt s) (if t.there=[] then (t,Ans.nothing) else (Gm.takeL slt t,Ans.pair (L2.hd t).w (L2.hd t).n)).1
  rw [Ay e]
  exact h.take
 | least =>
  have e:t.there≠[]:=fun z=>f (h.nil.mpr z)
  show Sim (Gm.leastL slt s) (if t.there=[] then (t,Ans.nothing) else (Gm.leastL slt t,Ans.pair (L2.hd t).w (L2.hd t).n)).1
  rw [Ay e]
  exact h.least
theorem Sim.refl {s:LS}(I:Gm.LInv slt s):Sim s s:=⟨rfl,rfl,rfl,rfl,Gm.Tw.refl I.nd⟩
theorem Sim.fit {s t:LS}(h:Sim s t)(f:d.fit s):d.fit t:=by
 cases d with
 | put n w=>exact (h.tw.get n).symm.trans f
 | drop n=>exact fun z=>f ((h.tw.get n).trans z)
 | change n w=>exact fun z=>f ((h.tw.get n).trans z)
 | take=>exact fun z=>f (h.nil.mpr z)
 | least=>exact fun z=>f (h.nil.mpr z)
theorem lH {s:LS}(I:Gm.LInv slt s)(f:d.fit s):(stepS s d).stamp<=s.stamp+1:=by
 rw [((Sim.refl I).step f).st]
 exact n0 I d
theorem InN.stepS {nv:List V}{s:LS}(h:InN nv (thW s.there))(I:Gm.LInv slt s){d:Deed}(f:d.fit s)(hd:d.inN nv):InN nv (thW (stepS s d).there):=fun p hp=>by
 obtain ⟨⟨n,e⟩,hq,rfl⟩:=AK.mp hp
 have m:=(((Sim.refl I).step f).tw.mem (n,e)).mp hq
 have h2:InN nv (thW (aY s d).1.there):=by
  rw [nh I d]
  exact h.plain hd _
 exact h2 (n,e.w) (AK.mpr ⟨(n,e),m,rfl⟩)
def bV (z:Int)(ds:List Deed):LS:=ds.foldl stepS (Gm.newL z)
def bE (z:Int)(ds:List Deed):LS:=ds.foldl (fun t d=>(aY t d).1) (Gm.newL z)
theorem bw:bV z (ds++[d])=stepS (bV z ds) d:=by unfold bV;rw [Eh];rfl
theorem bL:bE z (ds++[d])=(aY (bE z ds) d).1:=by unfold bE;rw [Eh];rfl
inductive Fits (z:Int):List Deed->Prop
 | nil:Fits z []
 | snoc {ds:List Deed} {d:Deed}:Fits z ds->d.fit (bV z ds)->Fits z (ds++[d])
theorem Fits.inv (h:Fits z ds):Gm.LInv slt (bV z ds):=by
 induction h with
 | nil=>exact Gm.new_inv
 | snoc _ f ih=>rw [bw];exact p6 ih f
theorem Fits.stamp (h:Fits z ds):(bV z ds).stamp<=ds.length:=by
 induction h with
 | nil=>exact Av _
 | snoc h f ih =>
  rw [bw,As]
  exact AV (lH h.inv f) (Ew ih)
theorem Fits.inN (h:Fits z ds)(hd:∀d∈ds,d.inN nv):InN nv (thW (bV z ds).there):=by
 induction h with
 | nil=>exact fun _ z=>nomatch z
 | snoc h f ih =>
  rw [bw]
  exact (ih fun d m=>hd d (Cy _ m)).stepS h.inv f (hd _ An)
theorem Fits.sim (h:Fits z ds):Sim (bV z ds) (bE z ds):=by
 induction h with
 | nil=>exact Sim.refl Gm.new_inv
 | snoc _ f ih=>rw [bw,bL];exact ih.step f
theorem Fits.invL (h:Fits z ds):Gm.LInv slt (bE z ds):=by
 induction h with
 | nil=>exact Gm.new_inv
 | snoc _ _ ih=>rw [bL];exact uc ih _
theorem Fits.at {z:Int}{ds:List Deed}(h:Fits z ds):∀{i:Nat} {d:Deed},ds[i]?=some d->Fits z (ds.take i)/\d.fit (bV z (ds.take i)):=by
 induction h with
 | nil=>intro i d e;cases e
 | @snoc ds x h f ih =>
  intro i d e
  by_cases hi:i<ds.length
  .rw [AW hi] at e
   rw [Cv (C6 hi)]
   exact ih e
  .have l:=(Au.mp e).1
   rw [As] at l
   have l1:i<ds.length+1:=l
   have ei:i=ds.length:=by lia
   subst ei
   rw [AG (Av _),Dp] at e
   cases e
   rw [Cv (Av _),Bx]
   exact ⟨h,f⟩
theorem nQ (d:Deed):∃ n more,d.v=V.str n::more:=by cases d <;> exact ⟨_,_,rfl⟩
def DDs (H:Hp)(zs:List V)(ds:List Deed):Prop:=Paired (fun (v:V) (d:Deed)=>∃ a,v=.ref a/\H a=some (.tup d.v)) zs ds
theorem DDs.stay (r:DDs H zs ds)(k:∀b l,H b=some (.tup l)->H' b=some (.tup l)):DDs H' zs ds:=Paired.mapP r fun p q ⟨a,b,c⟩=>⟨a,b,k _ _ c⟩
def mv (f:Str->Int)(ys:List Str)(p:LS×LS):LS×LS:=ys.foldl (fun p n=>(Gm.putL slt p.1 n (f n),Gm.dropL slt p.2 n)) p
end L2
namespace L2
open PySem PySem.W PySem.Spec PySem.Calls PyProof.Rows
section
variable {X:Cx}
theorem qO (hc:X.calm=true):cf X (.builtin "max") (fun xs H Q=>∃ i j k:Int,xs=[.int i,.int j,.int k]/\Q (.int (if k>(if j>i then j else i) then k else (if j>i then j else i))) H):=by
 intro pins s U H xs us Q I r h
 obtain ⟨i,j,k,rfl,q⟩:=h
 obtain ⟨u,v,w',rfl,⟨t,rfl⟩,⟨t',rfl⟩,⟨t2,rfl⟩⟩:=qR r
 refine max_three_ints (I.ok.hd hc) fun h' tk kk=>⟨_,H,I.kept kk,?_,q⟩
 by_cases hj:j>i
 .rw [Az hj]
  by_cases hk:k>j
  .rw [Az hk];simp [hj,hk];exact ⟨_,rfl⟩
  .rw [Ay hk];simp [hj,hk];exact ⟨_,rfl⟩
 rw [Ay hj]
 by_cases hk:k>i
 .rw [Az hk];simp [hj,hk];exact ⟨_,rfl⟩
 rw [Ay hk];simp [hj,hk];exact ⟨_,rfl⟩
end
end L2
namespace L2
open PySem PySem.Spec PyProof.Rows
section
variable {X:Cx}
inductive ES (p:Params):List DictEntry->List (Str×Int)->Prop
 | nil:ES p [] []
 | cons {k:Str} {v:Int} {t u:Tok} {es:List DictEntry} {ks:List (Str×Int)}:ES p es ks->ES p ({ hash:=PyData.keyHash p k,key:=.str k t,val:=.int v u }::es) ((k,v)::ks)
def uh (w:World)(K:W.Frag)(d:Addr)(ks:List (Str×Int)):Prop:=∃ (es:List DictEntry) (ep:Nat),K.lookup d=some { cls:=.type "dict",data:=.dict es.toArray ep }/\ES w.params es ks
theorem xp {P:Program}{k:Key}{t:Tok}:(mixKind P w).is k (.str x t)=decide (k=Sum.inr x):=by
 by_cases h:k=Sum.inr x
 .rw [h,cz,AO rfl]
 rw [AR h]
 cases e:(mixKind P w).is k (.str x t) with
 | false=>rfl
 | true=>exact absurd ((mixKind P w).inj _ _ _ e (cz P w x t)) h
theorem ES.keys {P:Program}{es:List DictEntry}(h:ES w.params es ks):∀e∈es,∃ k,(mixKind P w).is k e.key=true/\e.hash=(mixKind P w).hash k:=by
 induction h with
 | nil=>intro e he;cases he
 | @cons k v t u es ks _ ih =>
  intro e he
  rcases Aw.mp he with z | z
  .rw [z];exact ⟨Sum.inr k,cz P w k t,rfl⟩
  .exact ih e z
theorem ES.find {P:Program}{es:List DictEntry}(h:ES w.params es ks){k:Str}{v:Int}(hk:ks.lookup k=some v):∃ u,(es.find? fun e=>(mixKind P w).is (Sum.inr k) e.key).map (·.val)=some (.int v u):=by
 induction h with
 | nil=>cases hk
 | @cons k' v' t u es ks _ ih =>
  rw [Cb] at hk
  rw [BK]
  show ∃ u',(match (mixKind P w).is (Sum.inr k) (.str k' t) with | true=>_ | false=>_:Option DictEntry).map (·.val)=_
  rw [xp]
  cases e:k == k' with
  | true =>
   rw [e] at hk
   have:k=k':=by simpa using e
   rw [AO (by rw [this])]
   exact ⟨u,by rw [<-Be hk];rfl⟩
  | false =>
   rw [e] at hk
   have:¬ (Sum.inr k:Key)=Sum.inr k':=fun z=>by cases z;simp at e
   rw [AR this]
   exact ih hk
def yM (d:Addr)(ks:List (Str×Int))(td ty:TE):TE:=fun U H Q=>td U H fun x H1=>ty U H1 fun y H2=>∃ (k:Str) (v:Int),x=.ref d/\y=.str k/\ks.lookup k=some v/\Q (.int v) H2
theorem uY {d:Addr}{o i:Expr}{td ty:TE}(S:uh X.w X.K d ks)(ho:QE X o td)(hi:QE X i ty)(hs:xI i):QE X (.Subscript o i pos) (yM d ks td ty):=by
 refine .mk fun pins s U H Q I h=>?_
 refine oC EU.lookup hs (thn (ho.to pins s U H _ I h) fun u s1 ⟨x,H1,I1,rx,q1⟩=>thn (hi.to pins s1 U H1 _ I1 q1) fun iv s2 zz=>?_)
 obtain ⟨y,H2,I2,ry,k,v,ex,ey,lk,q2⟩:=zz
 subst ex
 subst ey
 obtain rfl:u=Value.ref d:=rx
 obtain ⟨es,ep,hd,E⟩:=S
 have hg:=I2.kIn d _ hd
 refine ⟨⟨_,hg,rfl⟩,?_⟩
 obtain ⟨u',hf⟩:=E.find (P:=X.prog) lk
 refine wpAny_getItem_of (knd:=mixKind X.prog X.w) (k:=Sum.inr k) (f:=findBy (mixKind X.prog X.w).is es.toArray) (dA (k:=Sum.inr k) ry) ⟨_,es.toArray,ep,hg,⟨rfl,rfl,rfl⟩,rfl,fun e he=>E.keys e (by simpa using he),fun _=>rfl⟩ (v:=.int v u') ?_ ⟨.int v,H2,I2.tok _,⟨u',rfl⟩,q2⟩
 unfold findBy
 rw [List.find?_toArray]
 exact hf
end
section
variable {prog:Program}{w:World}{A:Around}{E:Value->Shared->Prop}{s:Shared}
abbrev wP (a b:Value):Obj:={ cls:=Value.type "tuple",data:=Data.seq #[a,b] }
abbrev Ah (TI TO:Addr):Obj:={ cls:=Value.type "zip",data:=Data.fields #[Value.none,Value.bool false,Value.bool false,Value.ref TI,Value.ref TO] }
end
end L2
namespace L2
open PySem
section
variable {T:List (Str×En)}{n m:Str}{b:En}
theorem pO:m∈(Gm.dput T n b).map (·.1)↔m=n∨m∈T.map (·.1):=by
 rw [Gm.dput_keys]
 by_cases h:n∈T.map (·.1)
 .rw [Az h]
  exact ⟨.inr,fun z=>z.elim (fun e=>by rw [e];exact h) id⟩
 rw [Ay h,AU,Bh]
 exact Or.comm
theorem jE:m∈(Gm.ddel T n).map (·.1)↔m≠n/\m∈T.map (·.1):=by
 rw [AK,AK]
 constructor
 .rintro ⟨⟨a,c⟩,h,rfl⟩
  exact ⟨(Gm.ddel_mem.mp h).1,⟨a,c⟩,(Gm.ddel_mem.mp h).2,rfl⟩
 rintro ⟨h1,⟨a,c⟩,h2,rfl⟩
 exact ⟨⟨a,c⟩,Gm.ddel_mem.mpr ⟨h1,h2⟩,rfl⟩
end
structure Has (z:Int)(ds:List Deed)(S:List Str):Prop where
 fits:Fits z ds
 keys:∀n,n∈(bV z ds).there.map (·.1)↔n∈S
section
variable {z:Int}{ds:List Deed}{S:List Str}{n:Str}{w:Int}
theorem Has.nil:Has z [] []:=⟨.nil,fun _=>⟨fun h=>(nomatch h),fun h=>(nomatch h)⟩⟩
theorem Has.is (h:Has z ds S):Gm.dget (bV z ds).there n≠none↔n∈S:=by
 rw [<-h.keys,ne_eq,Gm.dget_none,Decidable.not_not]
theorem Has.put (h:Has z ds S)(hn:n∉S):Has z (ds++[.put n w]) (S++[n]):=by
 have f:Deed.fit (bV z ds) (.put n w):=Classical.byContradiction fun z=>hn (h.is.mp z)
 refine ⟨h.fits.snoc f,fun m=>?_⟩
 rw [bw]
 show m∈(Gm.sweep slt _).there.map (·.1)↔_
 rw [Gm.sweep_there]
 show m∈(Gm.dput _ n _).map (·.1)↔_
 rw [pO,h.keys,AU,Bh]
 exact Or.comm
theorem Has.drop (h:Has z ds (n::S))(hn:n∉S):Has z (ds++[.drop n]) S:=by
 have f:Deed.fit (bV z ds) (.drop n):=h.is.mpr AX
 refine ⟨h.fits.snoc f,fun m=>?_⟩
 rw [bw]
 show m∈(Gm.sweep slt _).there.map (·.1)↔_
 rw [Gm.sweep_there]
 show m∈(Gm.ddel _ n).map (·.1)↔_
 rw [jE,h.keys,Aw]
 constructor
 .rintro ⟨h1,h2 | h2⟩
  .exact absurd h2 h1
  .exact h2
 intro h2
 exact ⟨fun e=>hn (e▸h2),.inr h2⟩
theorem Has.change (h:Has z ds S)(hn:n∈S):Has z (ds++[.change n w]) S:=by
 have f:Deed.fit (bV z ds) (.change n w):=h.is.mpr hn
 refine ⟨h.fits.snoc f,fun m=>?_⟩
 rw [bw]
 show m∈(Gm.sweep slt _).there.map (·.1)↔_
 rw [Gm.sweep_there]
 show m∈(Gm.dput (Gm.ddel _ n) n _).map (·.1)↔_
 rw [pO,jE,h.keys]
 constructor
 .rintro (h1 | ⟨_,h2⟩)
  .rw [h1];exact hn
  .exact h2
 intro h2
 by_cases e:m=n
 .exact .inl e
 exact .inr ⟨e,h2⟩
theorem Has.ne (h:Has z ds S)(hS:S≠[]):(bV z ds).there≠[]:=fun e=>by
 cases S with
 | nil=>exact hS rfl
 | cons a S =>
  have:=(h.keys a).mpr AX
  rw [e] at this;cases this
theorem Has.least (h:Has z ds S)(hS:S≠[]):Has z (ds++[.least]) S:=by
 have f:Deed.fit (bV z ds) .least:=h.ne hS
 refine ⟨h.fits.snoc f,fun m=>?_⟩
 rw [bw]
 show m∈(Gm.leastL slt _).there.map (·.1)↔_
 rw [(Gm.least_ok slt_slo h.fits.inv (h.ne hS)).there]
 exact h.keys m
theorem Has.take (h:Has z ds S)(hS:S≠[])(nd:S.Nodup):∃ S',Has z (ds++[.take]) S'/\S'.length+1=S.length/\S'.Nodup:=by
 have ne:=h.ne hS
 have f:Deed.fit (bV z ds) .take:=ne
 have lo:=Gm.least_ok slt_slo h.fits.inv ne
 have li:=(Gm.least_is slt_slo h.fits.inv ne)
 generalize hk:(Hg.g (Gm.leastL slt (bV z ds)).row 0).n=k at li
 have mk:k∈S:=by
  have:=(kS h.fits.inv ne).mem
  rw [<-h.keys]
  obtain ⟨p,hp,e⟩:=AK.mp this
  have e1:p.1=(hd (bV z ds)).n:=congrArg Prod.fst e
  have e2:(hd (bV z ds)).n=k:=hk
  exact AK.mpr ⟨p,hp,e1.trans e2⟩
 refine ⟨S.erase k,⟨h.fits.snoc f,fun m=>?_⟩,?_,nd.erase k⟩
 .rw [bw]
  show m∈(Gm.takeL slt _).there.map (·.1)↔_
  rw [Gm.take_there,lo.there,jE,h.keys,hk,nd.mem_erase_iff]
 rw [DV mk]
 have:=Di mk
 lia
end
theorem Fits.take (h:Fits z ds)(m:Nat):Fits z (ds.take m):=by
 induction h with
 | nil=>rw [FS];exact .nil
 | @snoc ds d h f ih =>
  by_cases z:m<=ds.length
  .rw [Cv z];exact ih
  .rw [A6 (by rw [As];show ds.length+1<=m;lia)]
   exact h.snoc f
end L2
namespace L2
open PySem PySem.Spec PyProof.Rows
open PySem.SeqAt (EqAt RcAt RcNeAt)
section
variable {X:Cx}
theorem qy (hc:X.calm=true):cf X (.builtin "all") (fun xs H Q=>∃ (p:Addr) (bs:List Bool),xs=[.ref p]/\SqL X.K H p (bs.map V.bl)/\Q (.bl (bs.all id)) H):=by
 intro pins s U H xs us Q I r h
 obtain ⟨p,bs,rfl,hp,q⟩:=h
 obtain ⟨u,rfl,rx⟩:=c9 r
 cases rx
 obtain ⟨its,rv,pl,hz⟩:=I.list hp
 have hl:=pl.isList
 have hlt:p<s.heap.objs.size:=by obtain ⟨_,e,_⟩:=hl;exact AA e
 have hb:∀(i:Nat) (v:Value),its[i]?=some v->∃ b,bs[i]?=some b/\v=.bool b:=fun i v e=>by
  have hi:=(Au.mp e).1
  obtain ⟨x,ex,rx⟩:=rv.at hi
  rw [(Au.mp e).2] at rx
  rw [AS] at ex
  cases e2:bs[i]? with
  | none=>rw [e2] at ex;cases ex
  | some b=>rw [e2] at ex;cases ex;exact ⟨b,rfl,rx⟩
 have ln:its.length=bs.length:=by rw [<-rv.length,Ar]
 refine call_all_walk (CI hl ?_)
 refine ⟨s.heap.objs.size,[s.heap.objs.size,p],[s.heap.objs.size],its.toArray.size,_,_,fun i=>(bs[i]?).getD false,rfl,Walks.list (A:=X.A.in1) (by simp [I.ok.hd hc]) _ p (AJ hlt) its.toArray,
  ⟨⟨_,AF _ rfl,rfl,rfl⟩,hl.push _⟩,fun i v s' Q' E' hP hQ=>?_,fun h' tk hk=>?_⟩
 .obtain ⟨b,e,rfl⟩:=hb i v (by simpa using hP)
  simp only [e,Option.getD_some] at hQ
  exact Dy hQ
 have e:((List.range its.toArray.size).all fun i=>(bs[i]?).getD false)=bs.all id:=by
  rw [AI,ln,Ca,Ff,Ff]
  constructor
  .intro h b hb
   obtain ⟨i,hi,e2⟩:=Ba hb
   have:=h i (B9.mpr hi)
   rw [tx hi,e2] at this
   exact this
  .intro h i hi
   have hi':=B9.mp hi
   rw [tx hi']
   exact h _ (BE hi')
 rw [e]
 refine ⟨.bl _,H,I.kept (t':=tk) (fun b o e=>?_),rfl,q⟩
 exact hk b o (fun z=>by rw [Ao z] at e;exact CD _ (AA e)) (Ap _ e)
end
end L2
namespace L2
open PySem PySem.Spec PySem.Calls PyProof.Rows
theorem uW {h₀:ExceptHandler}{hs:List ExceptHandler}{t:TS}(hb:QSs X.nox body t):QS X (.Try body (h₀::hs) [] [] pos) t:=.mk fun pins s U H D I h=>by
 refine wpAny_Try_except (Cn (hb.to pins s U H D (I.wish _) h) (fun f s1 hf=>?_) fun _ _ z=>False.elim z)
 have q:=SP.unwish hf
 cases f with
 | next=>exact D0 q
 | _=>exact q
end L2
namespace L2
open PySem PySem.Spec PyProof.Rows
def Ite (l:Addr):It :=
  ⟨fun i H=>∃ xs x,H l=some (.lst xs)/\xs[i]?=some x,
   fun i H v H'=>∃ T x,v=.ref T/\H T=none/\H'=upd H T (.tup [.int i,x])/\∀xs,H l=some (.lst xs)->xs[i]?=some x,
   fun i H=>∃ xs,H l=some (.lst xs)/\xs.length=i⟩
def tnE (l e it:Addr)(i:Nat)(h:Heap):Prop:=(∃ old,IsEnum h e it i old)/\h.IsListIter it l i
theorem p5 {P:Program}{K:PySem.W.Frag}{pt:Pos}{e it:Addr}(n1:e≠it)(n2:l≠e)(n3:l≠it):
  nZ P w K (.Tuple elts kt pt) (Ite l) [e,it] e (tnE l e it) where
 mem:=by simp
 obj:=fun i h ⟨⟨old,a⟩,d⟩ x hx=>by
  simp only [Aw,Ax,Bg] at hx
  rcases hx with q | q
  .rw [q];exact ⟨_,a,fun v y=>by cases y⟩
  .rw [q];obtain ⟨o,e1,_,dd⟩:=d;exact ⟨o,e1,fun v y=>by rw [dd] at y;cases y⟩
 keep:=fun i h h' ⟨⟨old,a⟩,d⟩ k=>⟨⟨old,k e An _ a⟩,d.at fun o q=>k it An o q⟩
 item:=by
  intro X hP hw hK hc i pins s U H E I hf st hg
  subst hP hw hK
  obtain ⟨xs,x,hx,ex⟩:=hg
  obtain ⟨z1,its1,m1,r1,_,e1⟩:=I.lstM hx
  obtain ⟨u,hu,ru⟩:=r1.get ex
  have W:=WalksT.enumerate (prog:=X.prog) (w:=X.w) (A:=X.A) (I.ok.hd hc) e it l n1 n2 n3 its1.toArray
  obtain ⟨sa,sd⟩:=st
  have nH:∀b∈[e,it],H b=none:=fun b hb=>(hf b hb).1
  have li1:i<its1.length:=(Au.mp hu).1
  refine W.item i s _ _ (by simp only [AI];lia) ⟨sa,sd,⟨_,e1,rfl,_,rfl⟩⟩ fun T vals h1 tk hp hT hIs hMid kp=>?_
  obtain ⟨t',u',hu',ev⟩:=hp
  rw [A5,hu] at hu'
  cases hu'
  subst ev
  refine ⟨.ref T,rfl,?_⟩
  have nT:=W.apart i T h1 hMid
  refine W.go elts kt pt i T _ _ _ hMid fun h2 st2 kp2=>?_
  have hTn:H T=none:=I.hok.fresh hT
  have kk:∀b o,b∉[e,it]->s.heap.get? b=some o->h2.get? b=some o:=fun b o nb q=>kp2 b o nb (kp b o nb q)
  have hT2:h2.IsTuple T #[.int i t',u]:=by
   obtain ⟨o,q,r⟩:=hIs
   exact ⟨o,kp2 T o nT q,r⟩
  have ltT:∀b o,s.heap.get? b=some o->b≠T:=fun b o q=>AJ (A2 (AA q) hT)
  refine ⟨.ref T,upd H T (.tup [.int i,x]),?_,rfl,⟨T,x,rfl,hTn,rfl,fun xs' hx'=>?_⟩,⟨st2.1,st2.2.1⟩,fun b hb=>?_⟩
  .refine Inv.step (s:=s) (t':=tk) (ch:=[e,it]) (g':=s.gens) (d':=s.drawn) I (fun b hb=>?_) (fun b o _ _ hc e _=>kk b o hc e) (fun b o _ _ hc e _=>⟨o.slots,kk b o hc e⟩) (fun b o _ e n=>?_) (fun b o hc e=>⟨o,kk b o hc e⟩)
    (fun b l e=>by rw [ao (ap e hTn)];exact e) (fun b o l e=>by rw [ao (ap e hTn)];exact e) (fun b ps e=>⟨#[],by rw [ao (ap e hTn),e];simp⟩) (fun m hm=>?_) (fun b q e=>?_) I.bare
   .obtain ⟨f0,f1,f2,f3,f4,f5⟩:=hf b hb
    exact ⟨f3,f1,f4,f5⟩
   .rw [ao (ltT b o e)];exact n
   .obtain ⟨o,es,ep,ho,r⟩:=hm
    exact ⟨o,es,ep,kk _ o (fun z'=>(hf X.env.locals z').2.1 rfl) ho,r⟩
   .by_cases hb:b=T
    .subst hb
     rw [ag] at e
     cases e
     exact ⟨sz2,[.int i t',u],.cons ⟨t',rfl⟩ (.cons ru .nil),hT2⟩
    .rw [ao hb] at e
     refine (I.hok b q e).stay (fun c ob hc r=>kk c ob (fun z'=>?_) r) (fun c r=>by rw [ao (ap r hTn)];exact r) fun c l r=>by rw [ao (ap r hTn)];exact r
     have:=nH c z'
     rcases hc with hc | hc
     .rw [hc,e] at this;cases this
     .rw [hc] at this;cases this
  .rw [hx] at hx'
   cases hx'
   exact ex
  .have hbn:=(hf b hb).1
   obtain ⟨o,q⟩:∃ o,s.heap.get? b=some o:=by
    simp only [Aw,Ax,Bg] at hb
    rcases hb with q | q
    .rw [q];obtain ⟨_,sa⟩:=sa;exact ⟨_,sa⟩
    .rw [q];obtain ⟨o,e1,_⟩:=sd;exact ⟨o,e1⟩
   rw [ao (ltT b o q)]
   exact hbn
 done:=by
  intro X hP hw hK hc i pins s U H E I hf st hg
  subst hP hw hK
  obtain ⟨xs,hx,em⟩:=hg
  obtain ⟨z1,its1,m1,r1,lx,e1⟩:=I.lstM hx
  have W:=WalksT.enumerate (prog:=X.prog) (w:=X.w) (A:=X.A) (I.ok.hd hc) e it l n1 n2 n3 its1.toArray
  obtain ⟨sa,sd⟩:=st
  have en:its1.toArray.size=i:=by simp only [AI];lia
  refine W.done s _ _ (by rw [en];exact ⟨sa,sd,⟨_,e1,rfl,_,rfl⟩⟩) fun h1 tk kp=>⟨rfl,?_⟩
  have nH:∀b∈[e,it],H b=none:=fun b hb=>(hf b hb).1
  refine Inv.step (s:=s) (t':=tk) (ch:=[e,it]) (g':=s.gens) (d':=s.drawn) I (fun b hb=>?_) (fun b o _ _ hc e _=>kp b o hc e) (fun b o _ _ hc e _=>⟨o.slots,kp b o hc e⟩) (fun b o _ e n=>n) (fun b o hc e=>⟨o,kp b o hc e⟩)
    (fun b l e=>e) (fun b o l e=>e) (fun b ps e=>⟨#[],by rw [e];simp⟩) (fun m hm=>?_) (fun b q e=>?_) I.bare
  .obtain ⟨f0,f1,f2,f3,f4,f5⟩:=hf b hb
   exact ⟨f3,f1,f4,f5⟩
  .obtain ⟨o,es,ep,ho,r⟩:=hm
   exact ⟨o,es,ep,kp _ o (fun z'=>(hf X.env.locals z').2.1 rfl) ho,r⟩
  .refine (I.hok b q e).stay (fun c ob hc r=>kp c ob (fun z'=>?_) r) (fun c r=>r) fun c l r=>r
   have:=nH c z'
   rcases hc with hc | hc
   .rw [hc,e] at this;cases this
   .rw [hc] at this;cases this
 self:=fun A i s Q E st h=>by
  obtain ⟨⟨old,a⟩,_⟩:=st
  exact wpAny_pyIter_enum a h
section
variable {X:Cx}
def zE (te:TE):TI:=fun U H R=>te U H fun v H1=>∃ (l:Addr) (xs:List V),v=.ref l/\H1 l=some (.lst xs)/\R (Ite l) H1
theorem wj {a:Expr}{p:Pos}{pt:Pos}(hg:Gl X "enumerate")(hm:X.mg "enumerate"=none)(ha:QE X a te)(hs:starEach [a] X.env=[(false,eval a X.env)]:=by rfl):
  QI X (.Tuple elts kt pt) (.Call (.Name "enumerate" p) [a] [] pos) (zE te):=.mk (by
 have ha:=ha.to
 intro pins s U H R I h
 refine Call_ (cB I hg hm boot_enumerate (Bt ?_ hs rfl))
 rw [hs]
 refine Cs (thn (ha pins s U H _ I h) fun u s1 ⟨v,H1,I1,r1,q1⟩=>CH ?_)
 obtain ⟨l,xs,rfl,h1,q⟩:=q1
 cases r1
 obtain ⟨z1,its1,m1,rv1,_,e1⟩:=I1.lstM h1
 refine call_enumerate_list (items:=its1.toArray) ⟨_,e1,rfl,_,rfl⟩ fun h' g1 g2 _ kp=>?_
 have lt1:@LT.lt Nat _ l s1.heap.objs.size:=AA e1
 have n1:@Ne Addr (s1.heap.objs.size+1) s1.heap.objs.size:=Nat.succ_ne_self _
 have n2:l≠s1.heap.objs.size+1:=AJ (B7 lt1)
 have n3:l≠s1.heap.objs.size:=AJ lt1
 refine wpAny_pyIter_enum g1 ?_
 refine ⟨s1.heap.objs.size+1,[s1.heap.objs.size+1,s1.heap.objs.size],_,_,H1,rfl,I1.kept (t':=s1.toks) kp,p5 n1 n2 n3,⟨⟨_,g1⟩,g2⟩,fun b hb=>?_,q⟩
 have hb':s1.heap.objs.size<=b:=by
  simp only [Aw,Ax,Bg] at hb
  rcases hb with z | z <;> rw [z]
  .exact BX _
  .exact Av _
 exact I1.fpOk hb' (I1.hok.fresh hb'))
end
end L2
namespace PySem
def Heap.ItS (b:Bool)(h:Heap)(it l:Addr)(i:Nat):Prop:=match b with | true=>h.IsTupleIter it l i | false=>h.IsListIter it l i
def Heap.SqS (b:Bool)(h:Heap)(l:Addr)(xs:Array Value):Prop:=match b with | true=>h.IsTuple l xs | false=>h.IsList l xs
theorem Heap.ItS.at' {it:Addr}(x:h.ItS b it l i)(k:∀o,h.get? it=some o->h'.get? it=some o):h'.ItS b it l i:=by
 cases b <;> (obtain ⟨o,e,r⟩:=x;exact ⟨o,k o e,r⟩)
theorem Heap.SqS.at' {xs:Array Value}(x:h.SqS b l xs)(k:∀o,h.get? l=some o->h'.get? l=some o):h'.SqS b l xs:=by
 cases b <;> (obtain ⟨o,e,r⟩:=x;exact ⟨o,k o e,r⟩)
theorem Heap.ItS.lt {it:Addr}(x:h.ItS b it l i):it<h.objs.size:=by
 cases b <;> (obtain ⟨o,e,r⟩:=x;exact AA e)
theorem Heap.ItS.ob {it:Addr}(x:h.ItS b it l i):∃ o,h.get? it=some o/\∀v,o.data≠.cell v:=by
 cases b <;> (obtain ⟨o,e,_,d⟩:=x;exact ⟨o,e,fun v y=>by rw [d] at y;cases y⟩)
section
variable {prog:Program}{w:World}{A:Around}{E:Value->Shared->Prop}{s:Shared}
theorem tm {it:Addr}{x:Value}(gi:s.heap.IsTupleIter it l i)(gl:s.heap.IsTuple l its)(gx:its[i]?=some x)(gQ:∀h',h'.IsTupleIter it l (i+1)->Heap.SameBut it s.heap h'->Q x { s with heap:=h' }):wpAny (model prog w) A (Builtin.SmallTypes.nextOf (.ref it)) Q E s:=by
 have gt:=gi.typeIs
 obtain ⟨ob,go,gc,gd⟩:=gi
 obtain ⟨ol,gol,_,nl,gdl⟩:=gl
 unfold Builtin.SmallTypes.nextOf
 refine gV (Bm (name:=Str.ofString "__next__") gt F.slot_tuple_iterator_next (Bp F.slot_tuple_iterator_next gt F.entry_tuple_iterator_next ?_ (F.args_tuple_iterator_next_1 _)))
 show wpAny _ _ (field (Value.ref it) 0 >>= _) _ _ s
 refine gV (BI go gd (x:=.ref l) rfl ?_)
 show wpAny _ _ (if (Value.ref l == Value.none)=true then _ else _) _ _ _
 have nn:¬ ((Value.ref l == Value.none)=true):=AL
 rw [Ay nn]
 show wpAny _ _ (field (Value.ref it) 1 >>= _) _ _ s
 refine gV (BI go gd (x:=.int i 0) rfl ?_)
 show wpAny _ _ (seqItems? (Value.ref l) >>= _) _ _ s
 refine gV (B0 gol gdl ?_)
 simp only [BQ,gx]
 refine gV (wpAny_setField go gd An (Aq ⟨x,rfl,Aq (gQ _ ?_ (DU ..))⟩))
 refine ⟨_,Dr _ go (Obj.isFreed_of_fields (Obj.data_mapFields gd _)),(Obj.cls_mapFields ..).trans gc,?_⟩
 rw [Obj.data_mapFields gd]
 simp [rawInt]
theorem vd {it:Addr}(hA:A.handled=none)(gi:s.heap.IsTupleIter it l i)(gl:s.heap.IsTuple l its)(gx:its[i]?=none)(gE:∀h' e,Heap.ExtBut it s.heap h'->(∃ o,h'.get? e=some o/\o.cls=.type "StopIteration")->E (.ref e) { s with heap:=h' }):wpAny (model prog w) A (Builtin.SmallTypes.nextOf (.ref it)) Q E s:=by
 have gt:=gi.typeIs
 obtain ⟨ob,go,gc,gd⟩:=gi
 obtain ⟨ol,gol,_,nl,gdl⟩:=gl
 unfold Builtin.SmallTypes.nextOf
 refine gV (Bm (name:=Str.ofString "__next__") gt F.slot_tuple_iterator_next (Bp F.slot_tuple_iterator_next gt F.entry_tuple_iterator_next ?_ (F.args_tuple_iterator_next_1 _)))
 show wpAny _ _ (field (Value.ref it) 0 >>= _) _ _ s
 refine gV (BI go gd (x:=.ref l) rfl ?_)
 show wpAny _ _ (if (Value.ref l == Value.none)=true then _ else _) _ _ _
 have nn:¬ ((Value.ref l == Value.none)=true):=AL
 rw [Ay nn]
 show wpAny _ _ (field (Value.ref it) 1 >>= _) _ _ s
 refine gV (BI go gd (x:=.int i 0) rfl ?_)
 show wpAny _ _ (seqItems? (Value.ref l) >>= _) _ _ s
 refine gV (B0 gol gdl ?_)
 simp only [BQ,gx]
 refine gV (B5 (gV (wpAny_setField go gd An ?_)))
 show wpAny _ _ (newExc (Value.type "StopIteration") [] >>= _) _ _ _
 refine gV ?_
 simp only [newExc,newTuple]
 refine gV (Bv ?_ (by size_fits))
 refine gV (m:=firstArgMember _ _) (wpAny_of_eq (a:=Value.none) ?_ ?_)
 .first | rfl | (simp only [firstArgMember];rfl)
 refine Bv ?_ (by size_fits)
 simp only [raiseNew]
 refine gV (wpAny_handled ?_)
 rw [show A.in1.handled=none from hA]
 refine gV (Aq (wpAny_throw (gE _ _ (((DU ..).extBut.push _).push _) ?_)))
 exact ⟨_,AF _ rfl,rfl⟩
theorem cM {it:Addr}{x:Value}(gi:s.heap.ItS b it l i)(gl:s.heap.SqS b l its)(gx:its[i]?=some x)(gQ:∀h',h'.ItS b it l (i+1)->Heap.SameBut it s.heap h'->Q x { s with heap:=h' }):wpAny (model prog w) A (Builtin.SmallTypes.nextOf (.ref it)) Q E s:=by
 cases b
 .exact wpAny_nextOf_list_item gi gl gx gQ
 exact tm gi gl gx gQ
theorem gH {it:Addr}(hA:A.handled=none)(gi:s.heap.ItS b it l i)(gl:s.heap.SqS b l its)(gx:its[i]?=none)(gE:∀h' e,Heap.ExtBut it s.heap h'->(∃ o,h'.get? e=some o/\o.cls=.type "StopIteration")->E (.ref e) { s with heap:=h' }):wpAny (model prog w) A (Builtin.SmallTypes.nextOf (.ref it)) Q E s:=by
 cases b
 .exact wpAny_nextOf_list_end hA gi gl gx gE
 exact vd hA gi gl gx gE
theorem uA {z TI TO:Addr}{k:Nat}{xs:Array Value}{x y a b:Value}(D:ZipApart z TI TO i1 i2 l1 l2)(gz:IsZip s.heap z TI TO .none)(gI:IsPair s.heap TI (.ref i1) (.ref i2))(gO:IsPair s.heap TO a b)(g1:s.heap.ItS b1 i1 l1 k)(g2:s.heap.ItS b2 i2 l2 k)(m1:s.heap.SqS b1 l1 xs)(m2:s.heap.SqS b2 l2 ys)(ex:xs[k]?=some x)(ey:ys[k]?=some y)(gQ:∀h',IsZip h' z TI TO (rawInt s.heap.objs.size)->IsPair h' TO x y->h'.ItS b1 i1 l1 (k+1)->h'.ItS b2 i2 l2 (k+1)->IsPair h' s.heap.objs.size x y->(∀c o,c∉[z,TO,i1,i2]->s.heap.get? c=some o->h'.get? c=some o)->Q (.ref s.heap.objs.size) { s with heap:=h' }):
  wpAny (model prog w) A (Builtin.«zip.__next__» ⟨[.ref z],[]⟩) (fun fin s'=>∃ v,fin=.done (.ret v)/\Q v s') E s:=by
 show wpAny _ _ (field (Value.ref z) 2 >>= _) _ _ _
 refine gV (BI gz rfl (x:=.bool false) rfl ?_)
 show wpAny _ _ (field (Value.ref z) 3 >>= _) _ _ _
 refine gV (BI gz rfl (x:=.ref TI) rfl (gV (B0 gI rfl ?_)))
 show wpAny _ _ (Builtin.SmallTypes.ownedTupleIsFree (Value.ref z) >>= _) _ _ _
 refine gV ?_
 unfold Builtin.SmallTypes.ownedTupleIsFree
 refine gV (BI gz rfl (x:=.none) rfl (Aq ?_))
 simp only [CL]
 refine gV (B5 (gV (BI gz rfl (x:=.ref TO) rfl (gV (Br gz An fun ha gza ka=>gV ?_)))))
 replace gza:IsZip ha z TI TO .ellipsis:=gza
 simp only [Fc,List.zipIdx_nil,CY,DJ]
 refine gV (gV (Fb ?_))
 show wpAny _ _ (Builtin.SmallTypes.nextOf (Value.ref i1) >>= _) _ _ _
 refine gV (cM (g1.at' fun o=>ka.extBut _ o D.i1z) (m1.at' fun o=>ka.extBut _ o D.l1z) ex fun hb g1b kb=>Aq ?_)
 have gOb:IsPair hb TO a b:=kb.extBut _ _ D.TOi1 (ka.extBut _ _ D.TOz gO)
 refine gV (B0 gOb rfl (gV (Ey gOb fun hc gOc kc=>?_)))
 replace gOc:IsPair hc TO x b:=gOc
 refine gV (wpAny_letGo (Aq (gV (gV (Fb ?_)))))
 show wpAny _ _ (Builtin.SmallTypes.nextOf (Value.ref i2) >>= _) _ _ _
 refine gV (cM (g2.at' fun o e=>kc.extBut _ o D.TOi2.symm (kb.extBut _ o D.i12.symm (ka.extBut _ o D.i2z e))) (m2.at' fun o e=>kc.extBut _ o D.l2TO (kb.extBut _ o D.l2i1 (ka.extBut _ o D.l2z e))) ey fun hd g2d kd=>Aq ?_)
 have gOd:IsPair hd TO x b:=kd.extBut _ _ D.TOi2 gOc
 refine gV (B0 gOd rfl (gV (Ey gOd fun he gOe ke=>?_)))
 replace gOe:IsPair he TO x y:=gOe
 refine gV (wpAny_letGo (Aq (Aq (gV (B0 gOe rfl (gV (DH ?_)))))))
 have sz:he.objs.size=s.heap.objs.size:=by rw [ke.1,kd.1,kc.1,kb.1,ka.1]
 have gze:IsZip he z TI TO .ellipsis:=ke.extBut _ _ D.TOz.symm (kd.extBut _ _ D.i2z.symm (kc.extBut _ _ D.TOz.symm (kb.extBut _ _ D.i1z.symm gza)))
 have kpe:∀c o,c∉[z,TO,i1,i2]->s.heap.get? c=some o->he.get? c=some o:=fun c o n e=>by
  simp only [Aw,Ax,Bg,not_or] at n
  exact ke.extBut _ _ n.2.1 (kd.extBut _ _ n.2.2.2 (kc.extBut _ _ n.2.1 (kb.extBut _ _ n.2.2.1 (ka.extBut _ _ n.1 e))))
 have g1e:he.ItS b1 i1 l1 (k+1):=g1b.at' fun o e=>ke.extBut _ o D.TOi1.symm (kd.extBut _ o D.i12 (kc.extBut _ o D.TOi1.symm e))
 have g2e:he.ItS b2 i2 l2 (k+1):=g2d.at' fun o e=>ke.extBut _ o D.TOi2.symm e
 have zlt:z<he.objs.size:=AA gze
 show wpAny _ _ (Builtin.SmallTypes.ownedTupleHandOut (Value.ref z) (.ref he.objs.size) >>= _) _ _ _
 refine gV ?_
 unfold Builtin.SmallTypes.ownedTupleHandOut
 have gzf:IsZip (he.push { cls:=.type "tuple",data:=.seq #[x,y] }) z TI TO .ellipsis:=Ap _ gze
 refine gV (Br gzf An fun hg gzg kg=>?_)
 replace gzg:IsZip hg z TI TO (rawInt he.objs.size):=gzg
 refine Br gzg An fun hh gzh kh=>?_
 replace gzh:IsZip hh z TI TO (rawInt he.objs.size):=gzh
 have up:∀c o,c≠z->he.get? c=some o->hh.get? c=some o:=fun c o n e=>kh.extBut _ _ n (kg.extBut _ _ n (Ap _ e))
 have gT:IsPair hh he.objs.size x y:=kh.extBut _ _ (BD zlt) (kg.extBut _ _ (BD zlt) (AF _ rfl))
 rw [sz] at gzh gT
 refine Aq ⟨_,rfl,?_⟩
 show Q (.ref he.objs.size) _
 rw [sz]
 exact gQ hh gzh (up _ _ D.TOz gOe) (g1e.at' fun o=>up _ o D.i1z) (g2e.at' fun o=>up _ o D.i2z) gT fun c o n e=>up c o (fun q=>n (by simp [q])) (kpe c o n e)
theorem vC {z TI TO:Addr}{k:Nat}{xs:Array Value}{a b:Value}{Q:Fin->Shared->Prop}(hA:A.handled=none)(D:ZipApart z TI TO i1 i2 l1 l2)(gz:IsZip s.heap z TI TO .none)(gI:IsPair s.heap TI (.ref i1) (.ref i2))(gO:IsPair s.heap TO a b)(g1:s.heap.ItS b1 i1 l1 k)(g2:s.heap.ItS b2 i2 l2 k)(m1:s.heap.SqS b1 l1 xs)(m2:s.heap.SqS b2 l2 ys)(ge:xs[k]?=none∨ys[k]?=none)(gE:∀h' e,(∀c o,c∉[z,TO,i1,i2]->s.heap.get? c=some o->h'.get? c=some o)->(∃ o,h'.get? e=some o/\o.cls=.type "StopIteration")->E (.ref e) { s with heap:=h' }):
  wpAny (model prog w) A (Builtin.«zip.__next__» ⟨[.ref z],[]⟩) Q E s:=by
 have un:∀c,c∉[z,TO,i1,i2]->c≠z/\c≠TO/\c≠i1/\c≠i2:=fun c n=>by
  simpa only [Aw,Ax,Bg,not_or] using n
 show wpAny _ _ (field (Value.ref z) 2 >>= _) _ _ _
 refine gV (BI gz rfl (x:=.bool false) rfl ?_)
 show wpAny _ _ (field (Value.ref z) 3 >>= _) _ _ _
 refine gV (BI gz rfl (x:=.ref TI) rfl (gV (B0 gI rfl ?_)))
 show wpAny _ _ (Builtin.SmallTypes.ownedTupleIsFree (Value.ref z) >>= _) _ _ _
 refine gV ?_
 unfold Builtin.SmallTypes.ownedTupleIsFree
 refine gV (BI gz rfl (x:=.none) rfl (Aq ?_))
 simp only [CL]
 refine gV (B5 (gV (BI gz rfl (x:=.ref TO) rfl (gV (Br gz An fun ha gza ka=>gV ?_)))))
 replace gza:IsZip ha z TI TO .ellipsis:=gza
 simp only [Fc,List.zipIdx_nil,CY,DJ]
 refine gV (gV (Fb ?_))
 show wpAny _ _ (Builtin.SmallTypes.nextOf (Value.ref i1) >>= _) _ _ _
 cases ex:xs[k]? with
 | none =>
  refine gV (gH hA (g1.at' fun o=>ka.extBut _ o D.i1z) (m1.at' fun o=>ka.extBut _ o D.l1z) ex fun hb e kb zz=>?_)
  obtain ⟨oe,goe,gce⟩:=zz
  have gzb:IsZip hb z TI TO .ellipsis:=kb _ _ D.i1z.symm gza
  have ne:e≠z:=fun q=>by subst q;rw [gzb] at goe;cases goe;simp at gce
  exact Br gzb An fun hc _ kc=>gE hc e (fun c o n q=>kc.extBut _ _ (un c n).1 (kb _ _ (un c n).2.2.1 (ka.extBut _ _ (un c n).1 q))) ⟨oe,kc.extBut _ _ ne goe,gce⟩
 | some x =>
  have ey:ys[k]?=none:=by
   rcases ge with q | q
   .rw [ex] at q;cases q
   .exact q
  refine gV (cM (g1.at' fun o=>ka.extBut _ o D.i1z) (m1.at' fun o=>ka.extBut _ o D.l1z) ex fun hb g1b kb=>Aq ?_)
  have gOb:IsPair hb TO a b:=kb.extBut _ _ D.TOi1 (ka.extBut _ _ D.TOz gO)
  refine gV (B0 gOb rfl (gV (Ey gOb fun hc gOc kc=>?_)))
  refine gV (wpAny_letGo (Aq (gV (gV (Fb ?_)))))
  show wpAny _ _ (Builtin.SmallTypes.nextOf (Value.ref i2) >>= _) _ _ _
  refine gV (gH hA (g2.at' fun o e=>kc.extBut _ o D.TOi2.symm (kb.extBut _ o D.i12.symm (ka.extBut _ o D.i2z e))) (m2.at' fun o e=>kc.extBut _ o D.l2TO (kb.extBut _ o D.l2i1 (ka.extBut _ o D.l2z e))) ey fun hd e kd zz=>?_)
  obtain ⟨oe,goe,gce⟩:=zz
  have gzd:IsZip hd z TI TO .ellipsis:=kd _ _ D.i2z.symm (kc.extBut _ _ D.TOz.symm (kb.extBut _ _ D.i1z.symm gza))
  have ne:e≠z:=fun q=>by subst q;rw [gzd] at goe;cases goe;simp at gce
  exact Br gzd An fun hf _ kf=>gE hf e (fun c o n q=>kf.extBut _ _ (un c n).1 (kd _ _ (un c n).2.2.2 (kc.extBut _ _ (un c n).2.1 (kb.extBut _ _ (un c n).2.2.1 (ka.extBut _ _ (un c n).1 q))))) ⟨oe,kf.extBut _ _ ne goe,gce⟩
theorem iP {z TI TO:Addr}{k:Nat}{xs:Array Value}{x y a b:Value}{Q:Option Value->Shared->Prop}(D:ZipApart z TI TO i1 i2 l1 l2)(gz:IsZip s.heap z TI TO .none)(gI:IsPair s.heap TI (.ref i1) (.ref i2))(gO:IsPair s.heap TO a b)(g1:s.heap.ItS b1 i1 l1 k)(g2:s.heap.ItS b2 i2 l2 k)(m1:s.heap.SqS b1 l1 xs)(m2:s.heap.SqS b2 l2 ys)(ex:xs[k]?=some x)(ey:ys[k]?=some y)(gQ:∀h',IsZip h' z TI TO (rawInt s.heap.objs.size)->IsPair h' TO x y->h'.ItS b1 i1 l1 (k+1)->h'.ItS b2 i2 l2 (k+1)->IsPair h' s.heap.objs.size x y->(∀c o,c∉[z,TO,i1,i2]->s.heap.get? c=some o->h'.get? c=some o)->Q (some (.ref s.heap.objs.size)) { s with heap:=h' }):
  wpAny (model prog w) A (pyNext (.ref z)) Q E s:=by
 have gT:s.TypeIs (.ref z) "zip":=⟨_,gz,rfl⟩
 unfold pyNext
 exact gV (Du (Bm (name:=Str.ofString "__next__") gT F.slot_zip_next (Bp F.slot_zip_next gT F.entry_zip_next (uA D gz gI gO g1 g2 m1 m2 ex ey fun h' a1 a2 a3 a4 a5 a6=>Aq (gQ h' a1 a2 a3 a4 a5 a6)) (F.args_zip_next_1 _))))
theorem je {z TI TO:Addr}{k:Nat}{xs:Array Value}{a b:Value}{Q:Option Value->Shared->Prop}(hA:A.handled=none)(D:ZipApart z TI TO i1 i2 l1 l2)(gz:IsZip s.heap z TI TO .none)(gI:IsPair s.heap TI (.ref i1) (.ref i2))(gO:IsPair s.heap TO a b)(g1:s.heap.ItS b1 i1 l1 k)(g2:s.heap.ItS b2 i2 l2 k)(m1:s.heap.SqS b1 l1 xs)(m2:s.heap.SqS b2 l2 ys)(ge:xs[k]?=none∨ys[k]?=none)(gQ:∀h',(∀c o,c∉[z,TO,i1,i2]->s.heap.get? c=some o->h'.get? c=some o)->Q none { s with heap:=h' }):
  wpAny (model prog w) A (pyNext (.ref z)) Q E s:=by
 have gT:s.TypeIs (.ref z) "zip":=⟨_,gz,rfl⟩
 unfold pyNext
 refine gV (Du (Bm (name:=Str.ofString "__next__") gT F.slot_zip_next (Bp F.slot_zip_next gT F.entry_zip_next (vC hA D gz gI gO g1 g2 m1 m2 ge fun h' e kp ⟨o,go,gc⟩=>?_) (F.args_zip_next_1 _))))
 exact gV (DR (T:="StopIteration") (b:=true) ⟨o,go,gc⟩ EW (Aq (gQ _ kp)))
end
end PySem
namespace L2
open PySem PySem.Spec PyProof.Rows
def sqO (b:Bool)(xs:List V):HO:=match b with | true=>.tup xs | false=>.lst xs
theorem sqO.inj {ys:List V}(h:sqO b xs=sqO b ys):xs=ys:=by cases b <;> (injection h)
theorem Inv.sqM (I:Inv X pins U H s)(h:H l=some (sqO b xs)):∃ its:List Value,Vals xs its/\s.heap.SqS b l its.toArray:=by
 cases b
 .obtain ⟨_,its,n,r,e⟩:=I.hok l _ h
  exact ⟨its,r,_,e,rfl,_,rfl⟩
 obtain ⟨_,its,r,e⟩:=I.hok l _ h
 exact ⟨its,r,e⟩
section
variable {prog:Program}{w:World}{A:Around}{E:Value->Shared->Prop}{s:Shared}
abbrev oIs (b:Bool)(l:Addr):Obj:={ cls:=Value.type (match b with | true=>"tuple_iterator" | false=>"list_iterator"),data:=Data.fields #[Value.ref l,Value.int 0 0] }
abbrev c8 (b1 b2:Bool)(h:Heap)(l1 l2 n:Addr):Heap:=((((h.push (oIs b1 l1)).push (oIs b2 l2)).push (wP (.ref n) (.ref (n+1)))).push (wP .none .none)).push (Ah (n+2) (n+3))
theorem wC {xs:Array Value}(h:s.heap.SqS b l xs)(k:Q (.ref s.heap.objs.size) { s with heap:=s.heap.push (oIs b l) }):wpAny (model prog w) A (pyIter (.ref l)) Q E s:=by
 cases b
 .exact CI h k
 exact EL h k
theorem nP {b1 b2:Bool}{l1 l2:Addr}:MeetsIn prog w (Builtin.«zip.__new__» { pos:=[.type "zip",.ref l1,.ref l2] }) (fun _ R s=>(∃ xs ys,s.heap.SqS b1 l1 xs/\s.heap.SqS b2 l2 ys)/\R (.ok (.ret (.ref (s.heap.objs.size+4)))) { s with heap:=c8 b1 b2 s.heap l1 l2 s.heap.objs.size }):=by
 intro A R s ⟨⟨xs,ys,h1,h2⟩,hR⟩
 unfold Builtin.«zip.__new__» Builtin.SmallTypes.newClass
 dsimp only
 refine gV (gV ?_)
 show wpAny _ _ (pure true) _ _ s
 refine Aq ?_
 rw [Ay Ak,F.called_zip.sub]
 refine gV (Aq ?_)
 rw [Ay Ak]
 refine Aq ?_
 rw [Ay Ak]
 refine gV ?_
 unfold Builtin.SmallTypes.iterAll
 dsimp only
 rw [CY]
 refine gV (gV (gV (A7 (wC h1 (Aq ?_)))))
 dsimp only
 rw [CY]
 refine gV (gV (A7 (wC (s:={ s with heap:=s.heap.push (oIs b1 l1) }) (h2.at' fun o e=>Ap _ e) (Aq ?_))))
 dsimp only
 rw [DJ]
 refine Aq (Aq ?_)
 refine gV (DH ?_ (show 2<=sizeLine by decide))
 refine gV (DH ?_ (show 2<=sizeLine by decide))
 refine gV ?_
 unfold Builtin.SmallTypes.newRecord
 dsimp only
 refine Bv ?_ (show 5<=sizeLine+2 by decide)
 refine Aq ?_
 simp only [BB]
 exact hR
theorem lL {xs:Array Value}(h1:s.heap.SqS b1 l1 xs)(h2:s.heap.SqS b2 l2 ys)(k:Q (.ref (s.heap.objs.size+4)) { s with heap:=c8 b1 b2 s.heap l1 l2 s.heap.objs.size }):
  wpAny (model prog w) A (call (Value.type "zip") [.ref l1,.ref l2]) Q E s:=by
 refine callType_newIn F.called_zip Ak rfl (F.newCall_zip_2 _ _) (fun obj=>?_) F.entry_zip_new nP ⟨⟨xs,ys,h1,h2⟩,?_,k⟩
 .exact F.args_object_init_3 _ _ _
 refine ⟨_,Heap.get?_push_at ?_ rfl,rfl⟩
 simp only [BB]
end
def tnS (b1 b2:Bool)(l1 l2 z TI TO i1 i2:Addr)(i:Nat)(h:Heap):Prop :=
 IsZip h z TI TO .none/\IsPair h TI (.ref i1) (.ref i2)/\(∃ a b,IsPair h TO a b)/\h.ItS b1 i1 l1 i/\h.ItS b2 i2 l2 i
theorem SqS.lt {xs:Array Value}(x:h.SqS b l xs):l<h.objs.size:=by
 cases b <;> (obtain ⟨o,e,r⟩:=x;exact AA e)
theorem dh {n:Addr}:∀b o,h.get? b=some o->(c8 b1 b2 h l1 l2 n).get? b=some o:=fun b o e=>Ap _ (Ap _ (Ap _ (Ap _ (Ap _ e))))
theorem lM {n:Addr}(en:h.objs.size=n):tnS b1 b2 l1 l2 (n+4) (n+2) (n+3) n (n+1) 0 (c8 b1 b2 h l1 l2 n):=by
 have g:∀{h:Heap} {o:Obj} {m:Addr},m=h.objs.size->o.isFreed=false->(h.push o).get? m=some o:=fun e f=>Heap.get?_push_at e f
 have e1:(c8 b1 b2 h l1 l2 n).get? n=some (oIs b1 l1):=Ap _ (Ap _ (Ap _ (Ap _ (g en.symm rfl))))
 have e2:(c8 b1 b2 h l1 l2 n).get? (n+1)=some (oIs b2 l2):=Ap _ (Ap _ (Ap _ (g (by simp only [BB,en]) rfl)))
 refine ⟨g (by simp only [BB,en]) rfl,Ap _ (Ap _ (g (by simp only [BB,en]) rfl)),⟨_,_,Ap _ (g (by simp only [BB,en]) rfl)⟩,?_,?_⟩
 .cases b1 <;> exact ⟨_,e1,rfl,rfl⟩
 cases b2 <;> exact ⟨_,e2,rfl,rfl⟩
theorem xj {n:Addr}(k1:l1<n)(k2:l2<n):ZipApart (n+4) (n+2) (n+3) n (n+1) l1 l2:=by
 have k1:@LT.lt Nat _ l1 n:=k1
 have k2:@LT.lt Nat _ l2 n:=k2
 have f:∀a b:Nat,a≠b->@Ne Addr a b:=fun _ _ h=>h
 constructor <;> (refine f _ _ ?_;lia)
def ye (b1 b2:Bool)(l1 l2:Addr):It :=
  ⟨fun i H=>∃ xs ys x y,H l1=some (sqO b1 xs)/\H l2=some (sqO b2 ys)/\xs[i]?=some x/\ys[i]?=some y,
   fun i H v H'=>∃ T x y,v=.ref T/\H T=none/\H'=upd H T (.tup [x,y])/\∀xs ys,H l1=some (sqO b1 xs)->H l2=some (sqO b2 ys)->xs[i]?=some x/\ys[i]?=some y,
   fun i H=>∃ xs ys,H l1=some (sqO b1 xs)/\H l2=some (sqO b2 ys)/\min xs.length ys.length=i⟩
theorem qN {P:Program}{pt:Pos}{z TI TO:Addr}(D:ZipApart z TI TO i1 i2 l1 l2):
  nZ P w K (.Tuple elts kt pt) (ye b1 b2 l1 l2) [z,TI,TO,i1,i2] z (tnS b1 b2 l1 l2 z TI TO i1 i2) where
 mem:=by simp
 obj:=fun i h ⟨a,b,⟨c1,c2,c⟩,d,e⟩ x hx=>by
  simp only [Aw,Ax,Bg] at hx
  rcases hx with q | q | q | q | q
  .rw [q];exact ⟨_,a,fun v y=>by cases y⟩
  .rw [q];exact ⟨_,b,fun v y=>by cases y⟩
  .rw [q];exact ⟨_,c,fun v y=>by cases y⟩
  .rw [q];exact d.ob
  .rw [q];exact e.ob
 keep:=fun i h h' ⟨a,b,⟨c1,c2,c⟩,d,e⟩ k=>⟨k z An _ a,k TI An _ b,⟨c1,c2,k TO An _ c⟩,d.at' fun o q=>k i1 An o q,e.at' fun o q=>k i2 An o q⟩
 item:=by
  intro X hP hw hK hc i pins s U H E I hf st hg
  subst hP hw hK
  obtain ⟨xs,ys,x,y,hx,hy,ex,ey⟩:=hg
  obtain ⟨its1,r1,m1⟩:=I.sqM hx
  obtain ⟨its2,r2,m2⟩:=I.sqM hy
  obtain ⟨u,hu,ru⟩:=r1.get ex
  obtain ⟨v,hv,rv⟩:=r2.get ey
  obtain ⟨sa,sb,⟨c1,c2,sc⟩,sd,se⟩:=st
  have nH:∀b∈[z,TO,i1,i2],H b=none:=fun b hb=>(hf b (by
   simp only [Aw,Ax,Bg] at hb ⊢
   rcases hb with q | q | q | q <;> simp [q])).1
  have zne:∀b o,s.heap.get? b=some o->s.heap.objs.size≠b:=fun b o e=>BD (AA e)
  have nT:s.heap.objs.size∉[z,TO,i1,i2]:=fun q=>by
   simp only [Aw,Ax,Bg] at q
   rcases q with q | q | q | q
   .exact zne _ _ sa q
   .exact zne _ _ sc q
   .exact absurd q (BD sd.lt)
   .exact absurd q (BD se.lt)
  refine iP D sa sb sc sd se m1 m2 (by rw [A5];exact hu) (by rw [A5];exact hv) fun h1 w1 w2 w3 w4 w5 kp=>?_
  refine ⟨.ref s.heap.objs.size,rfl,?_⟩
  refine wpAny_letOwnedTupleGo_zip w1 fun h2 st2 kp2=>?_
  have hTn:H s.heap.objs.size=none:=I.hok.fresh (Av _)
  have kk:∀b o,b∉[z,TO,i1,i2]->s.heap.get? b=some o->h2.get? b=some o:=fun b o nb q=>kp2.extBut b o (fun e=>nb (by simp [e])) (kp b o nb q)
  have hT2:h2.IsTuple s.heap.objs.size #[u,v]:=⟨_,kp2.extBut _ _ (fun e=>nT (by rw [e];simp)) w5,rfl,_,rfl⟩
  have ltT:∀b o,s.heap.get? b=some o->b≠s.heap.objs.size:=fun b o q=>AJ (AA q)
  refine ⟨.ref s.heap.objs.size,upd H s.heap.objs.size (.tup [x,y]),?_,rfl,⟨_,x,y,rfl,hTn,rfl,fun xs' ys' hx' hy'=>?_⟩,⟨st2,kp2.extBut _ _ D.TIz (kp _ _ (fun q=>?_) sb),⟨_,_,kp2.extBut _ _ D.TOz w2⟩,w3.at' fun o=>kp2.extBut _ o D.i1z,w4.at' fun o=>kp2.extBut _ o D.i2z⟩,fun b hb=>?_⟩
  .refine Inv.step (s:=s) (t':=s.toks) (ch:=[z,TO,i1,i2]) (g':=s.gens) (d':=s.drawn) I (fun b hb=>?_) (fun b o _ _ hc e _=>kk b o hc e) (fun b o _ _ hc e _=>⟨o.slots,kk b o hc e⟩) (fun b o _ e n=>?_) (fun b o hc e=>⟨o,kk b o hc e⟩)
    (fun b l e=>by rw [ao (ap e hTn)];exact e) (fun b o l e=>by rw [ao (ap e hTn)];exact e) (fun b ps e=>⟨#[],by rw [ao (ap e hTn),e];simp⟩) (fun m hm=>?_) (fun b q e=>?_) I.bare
   .obtain ⟨f0,f1,f2,f3,f4,f5⟩:=hf b (by
     simp only [Aw,Ax,Bg] at hb ⊢
     rcases hb with q | q | q | q <;> simp [q])
    exact ⟨f3,f1,f4,f5⟩
   .rw [ao (ltT b o e)];exact n
   .obtain ⟨o,es,ep,ho,r⟩:=hm
    refine ⟨o,es,ep,kk _ o (fun z'=>?_) ho,r⟩
    exact (hf X.env.locals (by
     simp only [Aw,Ax,Bg] at z' ⊢
     rcases z' with q | q | q | q <;> simp [q])).2.1 rfl
   .by_cases hb:b=s.heap.objs.size
    .subst hb
     rw [ag] at e
     cases e
     exact ⟨sz2,[u,v],.cons ru (.cons rv .nil),hT2⟩
    .rw [ao hb] at e
     refine (I.hok b q e).stay (fun c ob hc r=>kk c ob (fun z'=>?_) r) (fun c r=>by rw [ao (ap r hTn)];exact r) fun c l r=>by rw [ao (ap r hTn)];exact r
     have:=nH c z'
     rcases hc with hc | hc
     .rw [hc,e] at this;cases this
     .rw [hc] at this;cases this
  .rw [hx] at hx'
   rw [hy] at hy'
   injection hx' with hx'
   injection hy' with hy'
   rw [<-sqO.inj hx',<-sqO.inj hy']
   exact ⟨ex,ey⟩
  .simp only [Aw,Ax,Bg] at q
   rcases q with q | q | q | q
   .exact D.TIz q
   .exact D.TITO q
   .exact D.TIi1 q
   .exact D.TIi2 q
  .have hbn:=(hf b hb).1
   have q:b≠s.heap.objs.size:=by
    simp only [Aw,Ax,Bg] at hb
    rcases hb with q | q | q | q | q
    .rw [q];exact ltT _ _ sa
    .rw [q];exact ltT _ _ sb
    .rw [q];exact ltT _ _ sc
    .rw [q];exact AJ sd.lt
    .rw [q];exact AJ se.lt
   rw [ao q]
   exact hbn
 done:=by
  intro X hP hw hK hc i pins s U H E I hf st hg
  subst hP hw hK
  obtain ⟨xs,ys,hx,hy,em⟩:=hg
  obtain ⟨its1,r1,m1⟩:=I.sqM hx
  obtain ⟨its2,r2,m2⟩:=I.sqM hy
  have l1':=r1.length
  have l2':=r2.length
  obtain ⟨sa,sb,⟨c1,c2,sc⟩,sd,se⟩:=st
  have en:its1.toArray[i]?=none∨its2.toArray[i]?=none:=by
   rcases Nat.le_total its1.length its2.length with q | q
   .exact .inl (by rw [A5];exact BO Am)
   .exact .inr (by rw [A5];exact BO Am)
  refine je (I.ok.hd hc) D sa sb sc sd se m1 m2 en fun h1 kp=>⟨rfl,?_⟩
  have nH:∀b∈[z,TO,i1,i2],H b=none:=fun b hb=>(hf b (by
   simp only [Aw,Ax,Bg] at hb ⊢
   rcases hb with q | q | q | q <;> simp [q])).1
  refine Inv.step (s:=s) (t':=s.toks) (ch:=[z,TO,i1,i2]) (g':=s.gens) (d':=s.drawn) I (fun b hb=>?_) (fun b o _ _ hc e _=>kp b o hc e) (fun b o _ _ hc e _=>⟨o.slots,kp b o hc e⟩) (fun b o _ e n=>n) (fun b o hc e=>⟨o,kp b o hc e⟩)
    (fun b l e=>e) (fun b o l e=>e) (fun b ps e=>⟨#[],by rw [e];simp⟩) (fun m hm=>?_) (fun b q e=>?_) I.bare
  .obtain ⟨f0,f1,f2,f3,f4,f5⟩:=hf b (by
    simp only [Aw,Ax,Bg] at hb ⊢
    rcases hb with q | q | q | q <;> simp [q])
   exact ⟨f3,f1,f4,f5⟩
  .obtain ⟨o,es,ep,ho,r⟩:=hm
   refine ⟨o,es,ep,kp _ o (fun z'=>?_) ho,r⟩
   exact (hf X.env.locals (by
    simp only [Aw,Ax,Bg] at z' ⊢
    rcases z' with q | q | q | q <;> simp [q])).2.1 rfl
  .refine (I.hok b q e).stay (fun c ob hc r=>kp c ob (fun z'=>?_) r) (fun c r=>r) fun c l r=>r
   have:=nH c z'
   rcases hc with hc | hc
   .rw [hc,e] at this;cases this
   .rw [hc] at this;cases this
 self:=fun A i s Q E st h=>Fg st.1 h
section
variable {X:Cx}
def yX (b1 b2:Bool)(ta:TA):TI:=fun U H R=>ta U H fun vs H1=>∃ (l1 l2:Addr) (xs ys:List V),vs=[.ref l1,.ref l2]/\H1 l1=some (sqO b1 xs)/\H1 l2=some (sqO b2 ys)/\R (ye b1 b2 l1 l2) H1
theorem pE {a b:Expr}{p:Pos}{pt:Pos}(hg:Gl X "zip")(hm:X.mg "zip"=none)(ha:QA X [a,b] ta)(hs:starEach [a,b] X.env=[(false,eval a X.env),(false,eval b X.env)]:=by rfl)(hs2:starEach [b] X.env=[(false,eval b X.env)]:=by rfl):
  QI X (.Tuple elts kt pt) (.Call (.Name "zip" p) [a,b] [] pos) (yX b1 b2 ta):=.mk (by
 have ha:=ha.to
 intro pins s U H R I h
 refine Call_ (cB I hg hm boot_zip (Bt (thn (ha pos pins s U H _ I h) fun us s1 ⟨vs,H1,I1,r1,q1⟩=>?_) (by rw [hs,hs2]) (by rw [hs2];rfl)))
 obtain ⟨l1,l2,xs,ys,e,h1,h2,q⟩:=q1
 subst e
 cases r1 with
 | cons r rr =>
  cases rr with
  | cons r' rr =>
   cases rr
   cases r
   cases r'
   obtain ⟨its1,rv1,m1⟩:=I1.sqM h1
   obtain ⟨its2,rv2,m2⟩:=I1.sqM h2
   refine lL m1 m2 ?_
   have lt1:=SqS.lt m1
   have lt2:=SqS.lt m2
   generalize en:s1.heap.objs.size=n at lt1 lt2 ⊢
   have st:=lM (b1:=b1) (b2:=b2) (l1:=l1) (l2:=l2) en
   refine Fg st.1 ?_
   refine ⟨n+4,[n+4,n+2,n+3,n,n+1],_,_,H1,rfl,I1.kept (t':=s1.toks) dh,qN (xj lt1 lt2),st,fun b hb=>?_,q⟩
   have hb':s1.heap.objs.size<=b:=by
    simp only [Aw,Ax,Bg] at hb
    rw [en]
    rcases hb with z | z | z | z | z <;> rw [z]
    .exact Cc n 4
    .exact Cc n 2
    .exact Cc n 3
    .exact Av n
    .exact Cc n 1
   exact I1.fpOk hb' (I1.hok.fresh hb'))
theorem vX:OpR X (binaryOp .Mult) (fun x y H Q=>∃ (z:Str) (k:Nat),x=.str z/\y=.int k/\k<=1000/\z.length<=1000/\Q (.str ⟨(List.replicate k z.cps).foldl (·++·) #[]⟩) H):=by
 intro pins s U H x y v u Q I rx ry h
 obtain ⟨z,k,rfl,rfl,h1,hz,q⟩:=h
 obtain ⟨t,rfl⟩:=rx
 obtain ⟨t',rfl⟩:=ry
 have hm:z.length*k<=1000000:=AV (Nat.mul_le_mul hz h1) Ak
 refine PySem.P.mul_str (by rw [AR Am,AR Am];rfl) (fun _ _ h4=>?_) (fun _ _=>?_) ?_
 .have:(1000:Int)<=(2 ^ 63-1) / k:=Int.le_ediv_of_mul_le Am Am
  lia
 .unfold PySem.Builtin.Str.tooLong
  exact AR (FC.mpr (AV hm Ak))
 by_cases k0:k=0
 .subst k0
  rw [Az Ak]
  exact ⟨BA _,.str _,H,I.tok _,⟨_,rfl⟩,q⟩
 rw [Ay Am]
 by_cases e:((k:Int) == 1 || z.length == 0)=true
 .rw [Az e]
  refine ⟨.str z,H,I,⟨t,rfl⟩,?_⟩
  have ez:(⟨(List.replicate k z.cps).foldl (·++·) #[]⟩:Str)=z:=by
   cases z with
   | mk z =>
    congr 1
    rw [Ft,Dz,Dz] at e
    rcases e with e | e
    .have:k=1:=by lia
     subst this
     simp
    .have e0:z=#[]:=C5 e
     subst e0
     have:∀n (a:Array Nat),(List.replicate n (#[]:Array Nat)).foldl (·++·) a=a:=by
      intro n
      induction n with
      | zero=>intro a;rfl
      | succ n ih=>intro a;rw [EI,Do,ih];simp
     exact this k #[]
  rw [ez] at q
  exact q
 rw [Ay e]
 refine ⟨?_,.str _,H,I.tok _,⟨_,rfl⟩,q⟩
 show Array.size (List.foldl _ _ _)<=sizeLine
 rw [oz]
 exact AV (show 0+z.cps.size*_<=1000000 by rw [FX];exact hm) Ak
end
theorem qV {R:Hp->Prop}(Pv:Nat->List V->Hp->Prop)(h0:Pv 0 [] (upd H D (.lst [])))(hD:∀i ys H,Pv i ys H->H D=some (.lst ys)/\H l=some (.lst xs))(hs:∀i x ys H T,xs[i]?=some x->Pv i ys H->H T=none->tt (some (.int i)::some x::bW cap U) (upd H T (.tup [.int i,x])) fun b H3 =>
   if b=true then te (some (.int i)::some x::bW cap U) H3 fun v H4=>H4 D=some (.lst ys)/\ys.length<sizeLine/\∃ m',m'<xs.length-i/\m'=xs.length-(i+1)/\i+1<=xs.length/\Pv (i+1) (ys++[v]) (upd H4 D (.lst (ys++[v])))
   else ∃ m',m'<xs.length-i/\m'=xs.length-(i+1)/\i+1<=xs.length/\Pv (i+1) ys H3)(hd:∀ys H,Pv xs.length ys H->R H):
  CW2 K (Ite l) tt te cap U H D R:=by
 refine ⟨fun i m ys H=>m=xs.length-i/\i<=xs.length/\Pv i ys H,⟨xs.length,An,BA _,h0⟩,?_⟩
 rintro i m ys H ⟨rfl,hi,p⟩
 obtain ⟨q1,q⟩:=hD i ys H p
 refine ⟨q1,?_⟩
 by_cases hlt:i<xs.length
 .refine .inr ⟨⟨xs,xs[i],q,by simp [hlt]⟩,?_⟩
  rintro x H' ⟨T,y,rfl,hT,rfl,ab⟩
  exact ⟨T,_,_,rfl,SqT.of ag,hs i y ys H T (ab xs q) p hT⟩
 have e:i=xs.length:=by lia
 subst e
 exact .inl ⟨⟨xs,q,rfl⟩,hd ys H p⟩
theorem ko {ys':List V}{R:Hp->Prop}(Pv:Nat->List V->Hp->Prop)(h0:Pv 0 [] (upd H D (.lst [])))(lx:xs.length=n)(ly:ys'.length=n)(hD:∀i ys H,Pv i ys H->H D=some (.lst ys)/\H l1=some (sqO b1 xs)/\H l2=some (sqO b2 ys'))(hs:∀i x y ys H T,xs[i]?=some x->ys'[i]?=some y->Pv i ys H->H T=none->tt (some x::some y::bW cap U) (upd H T (.tup [x,y])) fun b H3 =>
   if b=true then te (some x::some y::bW cap U) H3 fun v H4=>H4 D=some (.lst ys)/\ys.length<sizeLine/\∃ m',m'<n-i/\m'=n-(i+1)/\i+1<=n/\Pv (i+1) (ys++[v]) (upd H4 D (.lst (ys++[v])))
   else ∃ m',m'<n-i/\m'=n-(i+1)/\i+1<=n/\Pv (i+1) ys H3)(hd:∀ys H,Pv n ys H->R H):
  CW2 K (ye b1 b2 l1 l2) tt te cap U H D R:=by
 refine ⟨fun i m ys H=>m=n-i/\i<=n/\Pv i ys H,⟨n,An,BA _,h0⟩,?_⟩
 rintro i m ys H ⟨rfl,hi,p⟩
 obtain ⟨q1,q2,q3⟩:=hD i ys H p
 refine ⟨q1,?_⟩
 by_cases hlt:i<n
 .refine .inr ⟨⟨xs,ys',xs[i],ys'[i],q2,q3,tx Am,tx Am⟩,?_⟩
  rintro x H' ⟨T,x1,y1,rfl,hT,rfl,ab⟩
  obtain ⟨ea,eb⟩:=ab xs ys' q2 q3
  exact ⟨T,_,_,rfl,SqT.of ag,hs i x1 y1 ys H T ea eb p hT⟩
 have e:i=n:=by lia
 subst e
 exact .inl ⟨⟨xs,ys',q2,q3,Am⟩,hd ys H p⟩
end L2
namespace PySem
def TabOk (L:Bool)(t:SetTable):Prop:=t.led=L/\t.dummies=#[]/\(t.plain=true->t.place.toList.Pairwise (·<·))
theorem pw_get {xs:Array Nat}(h:xs.toList.Pairwise (·<·)){a b:Nat}(ab:a<b)(hb:b<xs.size)(j:Nat):xs.getD a j<xs.getD b j:=by
 have:=Co.mp h a b (by simpa using C9 ab hb) (by simpa using hb) ab
 simpa [Array.getD,C9 ab hb,hb] using this
theorem rS {xs:Array Nat}(h:xs.toList.Pairwise (·<·)):∀(fuel lo hi:Nat),hi-lo<=fuel->lo<=hi->hi<=xs.size->(∀k,k<lo->xs.getD k j<j)->(∀k,hi<=k->k<xs.size->j<=xs.getD k j) ->
  ∃ p,SetTable.below.go xs j fuel lo hi=p/\p<=xs.size/\(∀k,k<p->xs.getD k j<j)/\∀k,p<=k->k<xs.size->j<=xs.getD k j:=by
 intro fuel
 induction fuel with
 | zero =>
  intro lo hi f l1 l2 a b
  have:lo=hi:=by lia
  subst this
  exact ⟨lo,rfl,l2,a,b⟩
 | succ fuel ih =>
  intro lo hi f l1 l2 a b
  unfold SetTable.below.go
  by_cases c:lo<hi
  .rw [Az c]
   dsimp only
   have m1:lo<=(lo+hi) / 2:=by lia
   have m2:(lo+hi) / 2<hi:=by lia
   generalize (lo+hi) / 2=m at m1 m2 ⊢
   by_cases q:xs.getD m j<j
   .rw [Az q]
    refine ih (m+1) hi Am Am l2 (fun k hk=>?_) b
    by_cases e:k=m
    .rw [e];exact q
    .exact C9 (pw_get h Am Am j) q
   .rw [Ay q]
    refine ih lo m Am m1 Am a fun k k1 k2=>?_
    by_cases e:k=m
    .rw [e];lia
    .have:=pw_get h (show m<k by lia) k2 j
     lia
  .rw [Ay c]
   have:lo=hi:=by lia
   subst this
   exact ⟨lo,rfl,l2,a,b⟩
theorem iN {xs:Array Nat}(h:xs.toList.Pairwise (·<·)):SetTable.below xs j<=xs.size/\(∀k,k<SetTable.below xs j->xs.getD k j<j)/\∀k,SetTable.below xs j<=k->k<xs.size->j<=xs.getD k j:=by
 obtain ⟨p,e,r⟩:=rS (j:=j) h xs.size 0 xs.size Am (BA _) (Av _) (fun k q=>absurd q Am) (fun k q1 q2=>absurd q2 Am)
 have e:SetTable.below xs j=p:=e
 rw [e]
 exact r
theorem i3 {α:Type}(xs:Array α)(p:Nat)(x:α):(SetTable.insertAt xs p x).toList=xs.toList.take p++x::xs.toList.drop p:=by
 unfold SetTable.insertAt
 simp
 exact A6 An
theorem p7 {xs:Array Nat}(h:xs.toList.Pairwise (·<·))(nj:xs[SetTable.below xs j]?≠some j):(SetTable.insertAt xs (SetTable.below xs j) j).toList.Pairwise (·<·):=by
 obtain ⟨b1,b2,b3⟩:=iN (j:=j) h
 rw [i3]
 generalize SetTable.below xs j=p at b1 b2 b3 nj ⊢
 rw [List.pairwise_append]
 have gd:∀k (hk:k<xs.size),xs.getD k j=xs[k]:=fun k hk=>by simp [Array.getD,hk]
 have tk:∀a∈xs.toList.take p,a<j:=fun a ha=>by
  obtain ⟨k,hk,e⟩:=DK.mp ha
  have k1:k<p:=by lia
  have k2:k<xs.size:=by simp at hk;lia
  have:=b2 k k1
  rw [gd k k2] at this
  rw [<-e]
  simpa using this
 have dk:∀a∈xs.toList.drop p,j<a:=fun a ha=>by
  obtain ⟨k,hk,e⟩:=List.mem_drop_iff_getElem.mp ha
  have k2:p+k<xs.size:=by simp at hk;lia
  have e:xs[p+k]=a:=by rw [<-e];simp [Nat.add_comm]
  have pl:p<xs.size:=by lia
  have j1:=b3 p (Av _) pl
  rw [gd p pl] at j1
  have j2:xs[p]≠j:=fun q=>nj (by rw [BC pl,q])
  by_cases k0:k=0
  .subst k0
   have:xs[p]=a:=e
   lia
  .have:=pw_get h (show p<p+k by lia) k2 j
   rw [gd p pl,gd _ k2,e] at this
   lia
 refine ⟨h.sublist (BH _ _),List.pairwise_cons.mpr ⟨dk,h.sublist (B6 _ _)⟩,fun a ha b hb=>?_⟩
 rcases Aw.mp hb with q | q
 .rw [q];exact tk a ha
 exact C9 (tk a ha) (dk b q)
theorem ud {t:SetTable}(hd:t.dummies=#[]){f:Nat->Int}{h:Int}:∀(fuel:Nat) (p:SetTable.Probe) (j:Nat) (d:Option Nat),p.dummy=none->SetTable.probe.go t f h fuel p=some (.empty j d)->d=none/\t.place[SetTable.below t.place j]?≠some j:=by
 intro fuel
 induction fuel with
 | zero=>intro p j d _ e;cases e
 | succ fuel ih =>
  intro p j d hp e
  unfold SetTable.probe.go at e
  have nd:∀k,SetTable.has t.dummies k=false:=fun k=>by rw [hd];rfl
  have ad:∀q:SetTable.Probe,q.dummy=none->(t.advance q).dummy=none:=fun q hq=>by
   unfold SetTable.advance
   split
   .exact hq
   .exact hq
  by_cases c:(t.place[SetTable.below t.place p.j]? == some p.j)=true
  .have sl:t.slot p.j=.live (SetTable.below t.place p.j):=by unfold SetTable.slot;dsimp only;rw [Az c]
   rw [sl] at e
   dsimp only at e
   split at e
   .cases e
   .exact ih _ j d (ad p hp) e
  .have sl:t.slot p.j=.empty:=by
    unfold SetTable.slot
    dsimp only
    rw [Ay c,nd]
    rfl
   rw [sl] at e
   dsimp only at e
   injection e with e
   injection e with e1 e2
   subst e1
   exact ⟨by rw [<-e2,hp],fun q=>c (by rw [q];exact Cg _)⟩
theorem lW {t:SetTable}(hd:t.dummies=#[]){h:Int}(e:t.freeSlot h=some (j,b)):t.place[SetTable.below t.place j]?≠some j:=by
 unfold SetTable.freeSlot SetTable.probe at e
 split at e
 .rename_i k d q
  obtain ⟨rfl,r⟩:=ud hd _ _ _ _ rfl q
  injection e with e
  injection e with e1 e2
  have e1:k=j:=e1
  subst e1
  exact r
 cases e
theorem TabOk.standIn {t:SetTable}(h:t.led=L)(n:Nat):TabOk L (t.standIn n):=⟨h,rfl,fun q=>by cases q⟩
theorem TabOk.orStand {t:SetTable}(h:TabOk L t)(n:Nat):TabOk L (t.orStandIn n):=by
 unfold SetTable.orStandIn
 split
 .exact h
 exact TabOk.standIn h.1 n
theorem TabOk.layNew {t:SetTable}(ok:TabOk L t)(es:Array (Int×Value))(h:Int)(x:Value):TabOk L (PySem.layNew t es h x).2.1:=by
 unfold PySem.layNew
 split
 .rename_i j b e
  have nj:=lW ok.2.1 e
  refine TabOk.orStand (t:=(t.put j).1) ⟨ok.1,?_,fun q=>p7 (ok.2.2 q) nj⟩ _
  show (if SetTable.has t.dummies j then _ else t.dummies)=#[]
  rw [ok.2.1]
  rfl
 exact TabOk.standIn ok.1 _
theorem TabOk.relayAll {t:SetTable}(ok:TabOk L t)(es:Array (Int×Value))(n:Nat):TabOk L (PySem.relayAll t es n).2.1:=by
 unfold PySem.relayAll
 split
 .rename_i t' order e
  dsimp only
  split
  .unfold SetTable.relaid SetTable.laid at e
   simp only [Option.bind_eq_bind,Option.bind_eq_some_iff] at e
   obtain ⟨owner,_,e⟩:=e
   injection e with e
   injection e with e1 e2
   subst e1
   refine ⟨ok.1,rfl,fun _=>?_⟩
   show (List.map _ (List.filterMap _ _)).Pairwise (·<·)
   rw [BL]
   refine List.Pairwise.filterMap _ (fun a b ab x hx y hy=>?_) Fl
   obtain ⟨_,_,rfl⟩:=BV.mp hx
   obtain ⟨_,_,rfl⟩:=BV.mp hy
   exact ab
  .exact TabOk.standIn ok.1 _
 exact TabOk.standIn ok.1 _
theorem m9 {xs:Array Nat}(h:xs.toList.Pairwise (·<·)){k:Nat}(hk:k<xs.size):SetTable.below xs (xs[k]+1)=k+1:=by
 obtain ⟨b1,b2,b3⟩:=iN (j:=xs[k]+1) h
 generalize SetTable.below xs (xs[k]+1)=p at b1 b2 b3 ⊢
 have gd:∀m (hm:m<xs.size),xs.getD m (xs[k]+1)=xs[m]:=fun m hm=>by simp [Array.getD,hm]
 by_cases c1:p<=k
 .have:=b3 k c1 hk
  rw [gd k hk] at this
  lia
 by_cases c2:k+1<p
 .have q:=b2 (k+1) c2
  have l2:k+1<xs.size:=by lia
  have:=pw_get h (show k<k+1 by lia) l2 (xs[k]+1)
  rw [gd k hk] at this
  lia
 lia
theorem mP {xs:Array Nat}(h:xs.toList.Pairwise (·<·)):SetTable.below xs 0=0:=by
 obtain ⟨b1,b2,b3⟩:=iN (j:=0) h
 generalize SetTable.below xs 0=p at b1 b2 b3 ⊢
 by_cases c:p=0
 .exact c
 have:=b2 0 Am
 lia
section
variable {prog:Program}{w:World}{K:Type}[DecidableEq K]{knd:KeyKind prog w K}{A:Around}{E:Value->Shared->Prop}{s:Shared}
def Heap.SetL (h:Heap)(knd:KeyKind prog w K)(a:Addr)(S:K->Bool)(n:Nat)(L:Bool):Prop :=
 ∃ o es ep t,h.get? a=some o/\o.ExactSet/\o.data=.set es ep t/\ElemsOf knd es.toList/\(∀k,S k=true↔∃ e∈es.toList,knd.is k e.2=true)/\es.size<scanBound/\t.fits es.size=true/\es.size=n/\TabOk L t
theorem iA {t:SetTable}(ho:h.get? a=some o)(hex:o.ExactSet)(hd:o.data=.set es ep t){t':SetTable}{S':K->Bool}(g1:ElemsOf knd es'.toList)(g2:∀k,S' k=true↔∃ e∈es'.toList,knd.is k e.2=true)(g3:es'.size<scanBound)(g4:t'.fits es'.size=true)(g5:TabOk L t'):
  (h.update a (Obj.putSet es' t')).get? a=some { o with data:=.set es' (ep+1) t' }/\(h.update a (Obj.putSet es' t')).SetL knd a S' es'.size L:=by
 have hg:=(SetOf_store (knd:=knd) ho hex hd g1 g2 g3 g4).1
 exact ⟨hg,_,es',ep+1,t',hg,hex,rfl,g1,g2,g3,g4,rfl,g5⟩
theorem kH {g:Bool->Sem Unit}(hg:∀(b:Bool) (s₁:Shared) (Q':Unit->Shared->Prop),Q' () s₁->wpAny (model prog w) A (g b) Q' E s₁){t:SetTable}(ho:s.heap.get? a=some o)(hex:o.ExactSet)(hd:o.data=.set es ep t){t2:SetTable}{S':K->Bool}(g1:ElemsOf knd es1.toList)(g2:∀k',S' k'=true↔∃ e∈es1.toList,knd.is k' e.2=true)(g3:es1.size<scanBound)(g4:t2.fits es1.size=true)(g5:TabOk L t2){wd:Bool}{R:Option Bool->Shared->Prop}(h:∀h',Heap.SameBut a s.heap h'->h'.SetL knd a S' es1.size L->R (some true) { s with heap:=h' }):
  wpAny (model prog w) A (do
    storeSet a es1 t2
    if (!wd&&t2.tooFull)=true then do
      g (relayAll t2 es1 (SetTable.grown es1.size)).2.2
      storeSet a (relayAll t2 es1 (SetTable.grown es1.size)).1 (relayAll t2 es1 (SetTable.grown es1.size)).2.1
      pure (some true)
     else pure (some true)) R E s:=by
 refine gV (wpAny_storeSet_of ho hd ?_ (DD g3))
 obtain ⟨o1,m1⟩:=iA (knd:=knd) ho hex hd g1 g2 g3 g4 g5
 have k1:=DU s.heap a (Obj.putSet es1 t2)
 split
 .have hp:=relayAll_perm t2 es1 (SetTable.grown es1.size)
  have hf:=relayAll_fits t2 es1 (SetTable.grown es1.size)
  have ht:=g5.relayAll es1 (SetTable.grown es1.size)
  generalize relayAll t2 es1 (SetTable.grown es1.size)=Rl at hp hf ht ⊢
  obtain ⟨es2,t3,gv⟩:=Rl
  dsimp only at hp hf ht ⊢
  have sz:es2.size=es1.size:=by rw [<-Bf,hp.length_eq,Bf]
  refine gV (hg _ _ _ (gV (wpAny_storeSet_of o1 rfl ?_ (DD (sz▸g3)))))
  obtain ⟨_,m2⟩:=iA (knd:=knd) (S':=S') o1 hex rfl (g1.perm hp) (fun k'=>(g2 k').trans ⟨fun ⟨e,he,q⟩=>⟨e,hp.mem_iff.mpr he,q⟩,fun ⟨e,he,q⟩=>⟨e,hp.mem_iff.mp he,q⟩⟩) (by rw [sz];exact g3) hf ht
  rw [sz] at m2
  exact Aq (h _ (k1.trans (DU _ a _)) m2)
 exact Aq (h _ k1 m1)
theorem vy {S:K->Bool}{k:K}{x:Value}{Q:Bool->Shared->Prop}(hkey:knd.is k x=true)(hsc:x.scannable=true)(hpl:plainKind x=true)(hS:s.heap.SetL knd a S n L)(hroom:n+1<scanBound)(h:∀h',Heap.SameBut a s.heap h'->h'.SetL knd a (fun k'=>S k' || decide (k'=k)) (if S k then n else n+1) L->Q (!S k) { s with heap:=h' }):
  wpAny (model prog w) A (setAddHashed a x (knd.hash k)) Q E s:=by
 obtain ⟨o,es,ep,t,ho,hex,hd,hel,hmem,hb,hf,hn,ht⟩:=hS
 have hb1:es.size+1<scanBound:=by rw [hn];exact hroom
 unfold setAddHashed setAddHashedIn
 refine A7 (gV (C1 ho hd hf ?_))
 dsimp only
 rw [byScan_of hsc hb hel]
 simp only [↓reduceIte]
 unfold setAddByScan
 refine gV (gV (B5 (gV (wpAny_setScan_of hkey ho hd hf hel ?_))))
 cases hr:List.findIdx? (fun e=>knd.is k e.2) es.toList with
 | some j =>
  dsimp only
  obtain ⟨hj,pj,_⟩:=List.findIdx?_eq_some_iff_getElem.mp hr
  have hk:S k=true:=(hmem k).mpr ⟨es.toList[j],BE hj,pj⟩
  have:=h s.heap (E2 a s.heap) ⟨o,es,ep,t,ho,hex,hd,hel,fun k'=>by
   rw [Ft,Bw,<-hmem k']
   exact ⟨fun q=>q.elim id (fun e=>e▸hk),.inl⟩,hb,hf,by rw [hk];exact hn,ht⟩
  rw [hk] at this
  exact Aq (Aq this)
 | none =>
  dsimp only
  have hk:S k=false:=by
   cases q:S k with
   | false=>rfl
   | true =>
    obtain ⟨e,he,hp⟩:=(hmem k).mp q
    have:=List.findIdx?_eq_none_iff.mp hr e he
    rw [hp] at this
    cases this
  have hgw:∀(b:Bool) {s₁:Shared} {Q':Unit->Shared->Prop},Q' () s₁->wpAny (model prog w) A (match b with | true=>rule "set.scan.the-table-gave-way" | false=>pure ()) Q' E s₁ :=
   fun b s₁ Q' q=>by cases b <;> first | exact Aq q | exact B5 q
  have hp:=layNew_perm t es (knd.hash k) x
  have hf1:=layNew_fits t es (knd.hash k) x
  have ht1:=ht.layNew es (knd.hash k) x
  generalize layNew t es (knd.hash k) x=N at hp hf1 ht1 ⊢
  obtain ⟨es1,t1,wd,gv⟩:=N
  dsimp only at hp hf1 ht1 ⊢
  rw [BG] at hp
  have e1:ElemsOf knd es1.toList:=(hel.push hkey hsc).perm hp
  have e2:∀k',(S k' || decide (k'=k))=true↔∃ e∈es1.toList,knd.is k' e.2=true:=mem_push_iff hkey hmem hp
  have sz:es1.size=n+1:=by rw [<-Bf,hp.length_eq,As,Bf,hn];rfl
  have e3:es1.size<scanBound:=by rw [sz];exact hroom
  refine gV (hgw _ ?_)
  have fin:∀h',Heap.SameBut a s.heap h'->h'.SetL knd a (fun k'=>S k' || decide (k'=k)) es1.size L->Q true { s with heap:=h' }:=fun h' q1 q2=>by
   have:=h h' q1
   rw [hk] at this
   rw [sz] at q2
   exact this q2
  split
  .refine gV ?_
   rw [hashByValue_scannable 8 hsc,hpl]
   refine Aq ?_
   simp only [↓reduceIte]
   refine kH ?_ ho hex hd e1 e2 e3 hf1 ht1 fun h' q1 q2=>Aq (fin h' q1 q2)
   intro b s₁ Q' q
   cases b <;> first | exact Aq q | exact B5 q
  .refine gV (Aq ?_)
   simp only [↓reduceIte]
   refine kH ?_ ho hex hd e1 e2 e3 hf1 ht1 fun h' q1 q2=>Aq (fin h' q1 q2)
   intro b s₁ Q' q
   cases b <;> first | exact Aq q | exact B5 q
end
end PySem
namespace PySem
open PyProof.Rows
section
variable {prog:Program}{w:World}{A:Around}{E:Value->Shared->Prop}{s:Shared}
theorem qp (a:Value)(h:Q₁ (.ref s.heap.objs.size) { s with heap:=s.heap.push { cls:=.type "set",dict:=none,data:=.set #[] 0 (.fresh 0 0 (!w.params.followText "set-order")) } }):
  codeAny (model prog w) A (.call (.builtin "set.__new__") ⟨[.type "set",a],[]⟩) (wants Q₁ E) s:=by
 refine codeAny_of_tree ?_
 show wpAny _ A.in1 (do checkBuiltinCall "set.__new__" ⟨[.type "set",a],[]⟩;again (.builtin "set.__new__" ⟨[.type "set",a],[]⟩)) _ _ s
 refine gV (wpAny_of_eq (F.newCall_set_1 a) (Aq ⟨CQ F.plain_set_new _,Cf F.entry_set_new ?_⟩))
 rw [BU F.plain_set_new _]
 unfold Builtin.«set.__new__» Builtin.Frozenset.newClass
 have sb:=sub_set_self
 obtain ⟨hp,g,d,tk,os⟩:=s
 dsimp only
 wp_walk
 refine Fh (Aq ?_)
 dsimp only
 simp only [newObj]
 refine gV (wpAny_alloc (Aq (Aq ?_)))
 exact h
theorem SetL.move {K:Type}[DecidableEq K]{knd:KeyKind prog w K}{S:K->Bool}(q:h.SetL knd a S n L)(k:∀o,h.get? a=some o->h'.get? a=some o):h'.SetL knd a S n L:=by
 obtain ⟨o,es,ep,t,ho,r⟩:=q
 exact ⟨o,es,ep,t,k o ho,r⟩
theorem SetL.congr {K:Type}[DecidableEq K]{knd:KeyKind prog w K}{S S':K->Bool}{n':Nat}(q:h.SetL knd a S n L)(e:∀k,S k=S' k)(en:n=n'):h.SetL knd a S' n' L:=by
 have:S=S':=funext e
 subst this
 subst en
 exact q
def g0 (val:Nat->Int)(i:Nat):Int->Bool:=fun k=>(firstMet val i).any (· == k)
theorem qP {R:Result->Shared->Prop}{I:Addr}{S:Addr}(hA:A.in1.handled=none)(aI:a≠I)(SI:S≠I)(Sa:S≠a)(val:Nat->Int)(hval:∀(i:Nat) (v:Value),its[i]?=some v->∃ t,v=.int (val i) t)(hb:its.size+1<scanBound):
  ∀(k i:Nat) (s:Shared),its.size-i=k->i<=its.size->s.heap.IsListIter I a i->s.heap.IsList a its->s.heap.SetL (intKind prog w) S (g0 val i) (firstMet val i).length L ->
   (∀h' tk,(∀b o,b≠S->b≠I->s.heap.get? b=some o->h'.get? b=some o)->h'.SetL (intKind prog w) S (g0 val its.size) (firstMet val its.size).length L->R (.ok (.ret .none)) { s with heap:=h',toks:=tk }) ->
   codeAny (model prog w) A (.builtin "set.update.loop" ⟨[.ref S,.ref I],[]⟩) R s:=by
 intro k
 induction k with
 | zero =>
  intro i s hk hi gi ga gS gR
  have hin:i=its.size:=by lia
  subst hin
  refine Cf DL ?_
  rw [BU CG _]
  show wpAny _ A.in1 (pyNext (Value.ref I) >>= _) _ _ s
  refine gV (Dq hA gi ga An fun h' ex=>?_)
  show wpAny _ A.in1 (ret Value.none) _ _ _
  exact Aq (gR h' s.toks (fun b o _ q e=>ex b o q e) (SetL.move gS fun o=>ex _ o SI))
 | succ k ih =>
  intro i s hk hi gi ga gS gR
  have hlt:i<its.size:=by lia
  refine Cf DL ?_
  rw [BU CG _]
  show wpAny _ A.in1 (pyNext (Value.ref I) >>= _) _ _ s
  refine gV (De gi ga (BC hlt) fun h1 gi1 k1=>?_)
  obtain ⟨t,et⟩:=hval i _ (BC hlt)
  rw [et]
  have gS1:h1.SetL (intKind prog w) S (g0 val i) (firstMet val i).length L:=SetL.move gS fun o=>k1.extBut _ o SI
  have ga1:h1.IsList a its:=ga.extBut k1.extBut aI
  show wpAny _ A.in1 (holding [Value.int (val i) t] (setAdd S (.int (val i) t)) >>= _) _ _ _
  refine gV (A7 ?_)
  unfold setAdd
  refine A7 (gV ((intKind prog w).pyHash (k:=val i) (intKind_is _ _ _ _) ?_))
  have room:(firstMet val i).length+1<scanBound:=by have:=firstMet_length_le val i;lia
  refine vy (knd:=intKind prog w) (intKind_is _ _ _ _) rfl rfl gS1 room fun h2 k2 gS2=>?_
  have gS3:h2.SetL (intKind prog w) S (g0 val (i+1)) (firstMet val (i+1)).length L:=SetL.congr gS2 (fun k'=>by unfold g0;rw [firstMet_succ,step_any]) (by unfold g0;rw [firstMet_succ,step_length])
  refine Aq ⟨CQ CG _,ih (i+1) _ Am hlt (gi1.extBut k2.extBut SI.symm) (ga1.extBut k2.extBut Sa.symm) gS3 fun h' tk kp q=>?_⟩
  exact gR h' tk (fun b o n1 n2 e=>kp b o n1 n2 (k2.extBut b o n1 (k1.extBut b o n2 e))) q
theorem qt {ns:List Int}(hA:A.handled=none)(gl:s.heap.IsList l its)(gi:PyProof.Rows.IntsAre its.toList ns)(hb:its.size+1<scanBound)(h:∀(h':Heap) (tk:Nat),h'.SetL (intKind prog w) s.heap.objs.size (g0 (fun i=>ns.getD i 0) its.size) (firstMet (fun i=>ns.getD i 0) its.size).length (!w.params.followText "set-order") ->
   (∀b o,b<s.heap.objs.size->s.heap.get? b=some o->h'.get? b=some o)->Q (.ref s.heap.objs.size) { s with heap:=h',toks:=tk }):
  wpAny (model prog w) A (call (.type "set") [.ref l]) Q E s:=by
 obtain ⟨c,tl,hmro⟩:=F.called_set.mro
 have hmade:=F.called_set.made
 have hsub:=F.called_set.sub
 refine wpAny_call (codeAny_of_tree ?_)
 show wpAny _ _ (callAny (Value.type "set") _) _ _ _
 refine Aq ⟨Code.quiet_builtin _ Aj,Cf F.entry_type_call ?_⟩
 rw [Around.under_plain (weight_type_call_type "set" [.ref l] []) rfl]
 have h1:=F.called_set.notType
 have h2:=F.called_set.canCreate
 have hct:=F.typeCall_set_1 (.ref l)
 repeat (any_goals (first | assumption | wp_step))
 generalize eL:(!w.params.followText "set-order")=L at h
 refine C7 (qp (.ref l) (E:=E) (Q₁:=fun obj s₁=>obj=.ref s.heap.objs.size/\s₁={ s with heap:=s.heap.push { cls:=.type "set",dict:=none,data:=.set #[] 0 (.fresh 0 0 L) } }) (by rw [eL];exact ⟨rfl,rfl⟩)) fun r s₁ hr=>?_
 cases r with
 | error e=>exact hr
 | ok fl =>
  cases fl with
  | ret obj =>
   obtain ⟨rfl,rfl⟩:=hr
   have gS:(s.heap.push { cls:=.type "set",dict:=none,data:=.set #[] 0 (.fresh 0 0 L) }).get? s.heap.objs.size=some { cls:=.type "set",dict:=none,data:=.set #[] 0 (.fresh 0 0 L) }:=AF _ rfl
   have gT:Shared.TypeIs { s with heap:=s.heap.push { cls:=.type "set",dict:=none,data:=.set #[] 0 (.fresh 0 0 L) } } (.ref s.heap.objs.size) "set":=⟨_,gS,rfl⟩
   have hli:=F.called_set.init.lookup
   have hbi:=F.called_set.init.bind (.ref s.heap.objs.size)
   repeat (any_goals (first | assumption | wp_step))
   refine C7 (codeAny_call_builtin (R:=wants (fun r s₂=>r=.none/\∃ h' tk,s₂={ s with heap:=h',toks:=tk } /\
     h'.SetL (intKind prog w) s.heap.objs.size (g0 (fun i=>ns.getD i 0) its.size) (firstMet (fun i=>ns.getD i 0) its.size).length L /\
     (∀b o,b<s.heap.objs.size->s.heap.get? b=some o->h'.get? b=some o)) E) F.called_set.init.plain F.entry_set_init (check_set_init_1 gT ?_)) fun r₂ s₂ hr2=>?_
   .obtain ⟨ol,hol,hcl,nl,hdl⟩:=gl
    obtain ⟨ocls,odict,odata,oslots⟩:=ol
    simp only at hcl hdl
    subst hcl
    subst hdl
    have hol':(s.heap.push { cls:=.type "set",dict:=none,data:=.set #[] 0 (.fresh 0 0 L) }).get? l=some { cls:=.type "list",dict:=odict,data:=.seq its nl,slots:=oslots }:=Ap _ hol
    have hsls:=F.sub_list_set
    have hslf:=F.sub_list_frozenset
    have hne:(Value.type "list" == Value.type "dict")=false:=by decide
    have hl1:(s.heap.push { cls:=.type "set",dict:=none,data:=.set #[] 0 (.fresh 0 0 L) }).IsList l its:=⟨_,hol',rfl,nl,rfl⟩
    unfold Builtin.«set.__init__» noKeywords Builtin.Frozenset.updateFrom
    generalize hPI:pyIter=PI
    wp_walk
    subst hPI
    refine CI hl1 (gV (wpAny_runValue ?_))
    have lS:l<s.heap.objs.size:=AA hol
    have hh3:A.in1.in1.in1.handled=none:=by simp [hA]
    have eI:(s.heap.push { cls:=.type "set",dict:=none,data:=.set #[] 0 (.fresh 0 0 L) }).objs.size=s.heap.objs.size+1:=BB ..
    have lI:l≠(s.heap.push { cls:=.type "set",dict:=none,data:=.set #[] 0 (.fresh 0 0 L) }).objs.size:=by rw [eI];exact AJ (B7 lS)
    have sI:s.heap.objs.size≠(s.heap.push { cls:=.type "set",dict:=none,data:=.set #[] 0 (.fresh 0 0 L) }).objs.size:=by rw [eI];exact AJ (Cu _)
    have hval:∀(i:Nat) (v:Value),its[i]?=some v->∃ t,v=.int ((fun i=>ns.getD i 0) i) t:=fun i v hv=>PyProof.Rows.IntsAre.int_at gi i v (by rw [Cr];exact hv)
    refine qP (L:=L) hh3 lI sI (BD lS) (fun i=>ns.getD i 0) hval hb (its.size-0) 0 _ Am (BA _) ⟨_,AF _ rfl,rfl,rfl⟩ (hl1.push _) ?hS0 ?hR
    case hS0 =>
     refine ⟨_,#[],0,_,Ap _ gS,⟨rfl,rfl,rfl⟩,rfl,fun e he=>by simp at he,fun k=>?_,by unfold scanBound;decide,rfl,rfl,rfl,rfl,fun _=>by show List.Pairwise _ [];exact .nil⟩
     simp [g0,firstMet_zero]
    case hR =>
     intro h' tk kp q
     show wpAny _ _ _ _ _ _
     refine Aq ?_
     show wpAny _ _ (ret Value.none) _ _ _
     refine Aq ⟨rfl,h',tk,rfl,q,fun b o lb e=>?_⟩
     refine kp b o (AJ lb) ?_ (Ap _ (Ap _ e))
     rw [eI]
     exact AJ (B7 lb)
   .cases r₂ with
    | error e=>exact hr2
    | ok fl2 =>
     cases fl2 with
     | ret r =>
      obtain ⟨rfl,h',tk,rfl,q,kp⟩:=hr2
      repeat (any_goals (first | assumption | wp_step))
      exact h _ _ q kp
     | _=>exact hr2.elim
  | _=>exact hr.elim
end
end PySem
namespace PySem
namespace F
theorem sl_setit_next:Slot "set_iterator" "__next__" "set_iterator.__next__":=.of (owner:="set_iterator") (n:="__next__") (by rw [Ea,CS];kernel_rfl) Aj Aj Aj (by first | exact .inl Aj | exact .inr Aj) (by rw [FJ];kernel_rfl)
theorem sl_setit_iter:Slot "set_iterator" "__iter__" "set_iterator.__iter__":=.of (owner:="set_iterator") (n:="__iter__") (by rw [Ea,CS];kernel_rfl) Aj Aj Aj (by first | exact .inl Aj | exact .inr Aj) (by rw [FJ];kernel_rfl)
theorem en_setit_next:entryFor table "set_iterator.__next__"=some Builtin.«set_iterator.__next__»:=entryFor_of_tree (by kernel_rfl)
theorem en_setit_iter:entryFor table "set_iterator.__iter__"=some Builtin.«dict_keyiterator.__iter__»:=FK (id':="dict_keyiterator.__iter__") (by kernel_rfl) (by first | rfl | decide +kernel | (unfold String.splitOn;simp +decide [String.splitOnAux])) Aj (by kernel_rfl)
theorem en_set_iter:entryFor table "set.__iter__"=some Builtin.«frozenset.__iter__»:=FK (id':="frozenset.__iter__") (by kernel_rfl) Aj Aj (by kernel_rfl)
theorem kF:Manifest.owners.lookup (String.ofList ['r','o','t','a','r','e','t','i','_','t','e','s'].reverse)=some Manifest.sig_set_iterator:=by kernel_rfl
theorem ar_setit_next (a:Value):argsOk "set_iterator.__next__" ⟨[a],[]⟩:=by
 unfold argsOk;rw [signature?_of (id:="set_iterator.__next__") (n:=['_','_','t','x','e','n','_','_']) (o:=['r','o','t','a','r','e','t','i','_','t','e','s']) (by kernel_rfl) kF];kernel_rfl
theorem ar_setit_iter (a:Value):argsOk "set_iterator.__iter__" ⟨[a],[]⟩:=by
 unfold argsOk;rw [signature?_of (id:="set_iterator.__iter__") (n:=['_','_','r','e','t','i','_','_']) (o:=['r','o','t','a','r','e','t','i','_','t','e','s']) (by kernel_rfl) kF];kernel_rfl
end F
theorem b7 {α:Type}:∀{l:List α} {i:Nat} (h:i<l.length),(l[i]::l.eraseIdx i).Perm l
 | [],i,h=>absurd h An
 | a::l,0,h=>.refl _
 | a::l,i+1,h=>by
  have:=b7 (l:=l) (i:=i) (by simpa using h)
  exact (List.Perm.swap _ _ _).trans (List.Perm.cons a this)
theorem lK {α:Type}(next:Nat->Nat):∀(fuel k:Nat) (left:List α) (out:Array α),left.length<=fuel->(pickOrder.go next fuel k left out).toList.Perm (out.toList++left):=by
 intro fuel
 induction fuel with
 | zero =>
  intro k left out h
  have:left=[]:=AY.mp Am
  subst this
  simp [pickOrder.go]
 | succ fuel ih =>
  intro k left out h
  unfold pickOrder.go
  by_cases hl:left=[]
  .subst hl
   simp
  .have hp:0<left.length:=List.length_pos_iff.mpr hl
   have hi:next k % left.length<left.length:=Nat.mod_lt _ hp
   rw [tx hi]
   dsimp only
   have le:(left.eraseIdx (next k % left.length)).length=left.length-1:=by rw [FI];simp [hi]
   refine (ih (k+1) _ _ Am).trans ?_
   rw [BG,AB]
   exact CO _ (b7 hi)
theorem qF {α:Type}(next:Nat->Nat)(xs:Array α):(pickOrder next xs).toList.Perm xs.toList:=by
 have:=lK next xs.size 0 xs.toList #[] An
 simpa [pickOrder] using this
section
variable {prog:Program}{w:World}{A:Around}{E:Value->Shared->Prop}{s:Shared}
theorem nz {α:Type}:∀(n:Nat) (xs:List α) (s:Shared) (Q:List α->Shared->Prop),xs.length=n->(∀ys d,ys.Perm xs->Q ys { s with drawn:=d })->wpAny (model prog w) A (drawOrder n xs) Q E s:=by
 intro n
 induction n with
 | zero =>
  intro xs s Q h k
  have:xs=[]:=AY.mp h
  subst this
  unfold drawOrder
  exact Aq (k [] s.drawn (.refl _))
 | succ n ih =>
  intro xs s Q h k
  match xs,h with
  | x::xs,h =>
   unfold drawOrder
   refine gV ?_
   refine fun Γ p hΓ=>?_
   show Sem.wp _ _ (Sem.choose Source.order (x::xs).length pure) _ _ _ _
   rw [Sem.wp_choose]
   refine ⟨An,?_⟩
   generalize hd:(s.drawn.bump Source.order)=d
   have hi:(model prog w).w.draws Source.order (s.drawn.get Source.order) % (x::xs).length<(x::xs).length:=Nat.mod_lt _ An
   generalize (model prog w).w.draws Source.order (s.drawn.get Source.order) % (x::xs).length=i at hi
   have key:wpAny (model prog w) A (match (x::xs)[i]? with | some y=>do return y::(<-drawOrder n ((x::xs).eraseIdx i)) | none=>unsupported "internal:drawOrder") Q E { s with drawn:=d }:=by
    rw [tx hi]
    dsimp only
    refine gV (ih _ _ _ (by rw [FI,Az hi];simpa using h) fun ys d' pm=>Aq (k _ d' ?_))
    exact (List.Perm.cons _ pm).trans (b7 hi)
   exact Aq (a:=i) key Γ p hΓ
end
abbrev dU (h:Heap)(I S:Addr)(first:Value)(i n ep:Nat):Prop :=
 h.get? I=some { cls:=.type "set_iterator",dict:=none,data:=.fields #[first,.int i 0,.ref S,.int n 0,.int ep 0],slots:=#[] }
section
variable {prog:Program}{w:World}{A:Around}{E:Value->Shared->Prop}{s:Shared}
theorem df {t:SetTable}{Q:Array (Int×Value)->Shared->Prop}(ho:s.heap.get? a=some o)(hd:o.data=.set es ep t)(hf:t.fits es.size=true)(h:Q es s):wpAny (model prog w) A (setEntries a) Q E s:=by
 unfold setEntries
 exact gV (C1 ho hd hf (Aq h))
theorem j9 {Q:Bool->Shared->Prop}(h:Q (w.params.followText "set-order") s):wpAny (model prog w) A setsByText Q E s:=by
 unfold setsByText
 exact gV (Fh (Aq h))
def ce (w:World)(a:Addr)(ep:Nat)(es:Array (Int×Value)):Array (Int×Value):=if w.params.followText "set-order" then pickOrder (w.params.setOrder a ep) es else es
theorem setOrd_perm:(ce w a ep es).toList.Perm es.toList:=by
 unfold ce
 split
 .exact qF _ _
 exact .refl _
def iC (w:World)(t:SetTable)(i slot:Nat):Prop:=w.params.followText "set-order"=true∨(i=0/\slot=0)∨∃ j,0<i/\t.place[i-1]?=some j/\slot=j+1
theorem uE {slot:Nat}{t:SetTable}{Q:Option (Value×Nat)->Shared->Prop}(ho:s.heap.get? a=some o)(hd:o.data=.set es ep t)(hf:t.fits es.size=true)(hL:TabOk (!w.params.followText "set-order") t)(np:w.params.followText "set-order"=true∨(!t.plain&&decide (es.size>1))=false)(sl:iC w t i slot)(li:i<=es.size)(h:∀r,(match (ce w a ep es)[i]? with | some e=>∃ slot',r=some (e.2,slot')/\iC w t (i+1) slot' | none=>r=none)->Q r s):wpAny (model prog w) A (setNext a slot i ep) Q E s:=by
 unfold setNext
 refine gV (C1 ho hd hf ?_)
 dsimp only
 refine gV (j9 ?_)
 by_cases bt:w.params.followText "set-order"=true
 .rw [Az bt]
  simp only [Ee,AE,Bo]
  unfold setWalk
  refine gV (gV (C1 ho hd hf ?_))
  dsimp only
  refine gV (j9 ?_)
  rw [Az bt]
  refine gV (Fh (Aq (Aq (h _ ?_))))
  unfold ce
  rw [Az bt]
  cases e:(pickOrder (w.params.setOrder a ep) es)[i]? with
  | none =>
   have e':(pickOrder ((model prog w).w.params.setOrder a ep) es)[i]?=none:=e
   rw [e']
   rfl
  | some x =>
   have e':(pickOrder ((model prog w).w.params.setOrder a ep) es)[i]?=some x:=e
   exact ⟨slot,by rw [e'];rfl,.inl bt⟩
 have bf:w.params.followText "set-order"=false:=by simpa using bt
 rw [Ay bt]
 replace np:(!t.plain&&decide (es.size>1))=false:=by
  rcases np with q | q
  .rw [bf] at q;cases q
  .exact q
 refine Ds (fun q=>absurd (np.symm.trans q) AL) fun _=>?_
 show wpAny _ _ ((if (!t.led&&!es.isEmpty)=true then unsupported "set:maker-not-led" else pure ()) >>= _) _ _ _
 rw [hL.1,bf]
 simp only [Bool.not_false,Dw,Bool.false_and,AE,Bo]
 refine gV (Aq (Aq (h _ ?_)))
 have psz:t.place.size=es.size:=by
  simp only [SetTable.fits,Bq,Dz] at hf
  exact hf.1
 have pw:t.place.toList.Pairwise (·<·):=by
  cases hp:t.plain with
  | true=>exact hL.2.2 hp
  | false =>
   rw [hp] at np
   have:es.size<=1:=by simpa using np
   rw [<-psz] at this
   have l1:t.place.toList.length<=1:=by simpa using this
   match t.place.toList,l1 with
   | [],_=>exact .nil
   | [_],_=>exact CA _ _
 have be:SetTable.below t.place slot=i:=by
  rcases sl with q | ⟨q1,q2⟩ | ⟨j,q1,q2,q3⟩
  .rw [bf] at q;cases q
  .rw [q1,q2];exact mP pw
  .obtain ⟨l2,e2⟩:=DE.mp q2
   rw [q3,<-e2,m9 pw l2]
   lia
 rw [be]
 unfold ce
 rw [bf]
 simp only [AE,Bo]
 by_cases c:i<es.size
 .rw [BC c,BC (show i<t.place.size by lia)]
  exact ⟨_,rfl,.inr (.inr ⟨_,Am,by rw [Nat.add_sub_cancel];exact BC Am,rfl⟩)⟩
 rw [Ec Am]
end
section
variable {prog:Program}{w:World}{A:Around}{E:Value->Shared->Prop}{s:Shared}{a I:Addr}{o:Obj}{es:Array (Int×Value)}{ep:Nat}{t:SetTable}
theorem tj:((n:Int) != (n:Int))=false:=by simp
theorem iJ {R:Value->Shared->Prop}(hA:A.handled=none)(gE:∀h' e,(∀b ob,s.heap.get? b=some ob->h'.get? b=some ob)->(∃ o,h'.get? e=some o/\o.cls=.type "StopIteration")->R (.ref e) { s with heap:=h' }){Q:Fin->Shared->Prop}:wpAny (model prog w) A (newExc (.type "StopIteration") [] >>= fun e=>raiseNew e) Q R s:=by
 refine gV ?_
 simp only [newExc,newTuple]
 refine gV (Bv ?_ (by size_fits))
 refine gV (m:=firstArgMember _ _) (wpAny_of_eq (a:=Value.none) ?_ ?_)
 .first | rfl | (simp only [firstArgMember];rfl)
 refine Bv ?_ (by size_fits)
 simp only [raiseNew]
 refine gV (wpAny_handled ?_)
 rw [hA]
 refine gV (Aq (wpAny_throw (gE _ _ (fun b ob e=>Ap _ (Ap _ e)) ?_)))
 exact ⟨_,AF _ rfl,rfl⟩
theorem ii {slot:Nat}{Q:Option Value->Shared->Prop}(hA:A.handled=none)(ho:s.heap.get? a=some o)(hd:o.data=.set es ep t)(hf:t.fits es.size=true)(hL:TabOk (!w.params.followText "set-order") t)(np:w.params.followText "set-order"=true∨(!t.plain&&decide (es.size>1))=false)(sl:iC w t i slot)(li:i<=es.size)(gI:dU s.heap I a (.int slot 0) i es.size ep)(g1:∀e (slot':Nat) h',(ce w a ep es)[i]?=some e->dU h' I a (.int slot' 0) (i+1) es.size ep->iC w t (i+1) slot'->Heap.SameBut I s.heap h'->Q (some e.2) { s with heap:=h' })(g2:∀h',(ce w a ep es)[i]?=none->Heap.ExtBut I s.heap h'->Q none { s with heap:=h' }):wpAny (model prog w) A (pyNext (.ref I)) Q E s:=by
 have gT:s.TypeIs (.ref I) "set_iterator":=⟨_,gI,rfl⟩
 unfold pyNext
 refine gV (Du (Bm (name:=Str.ofString "__next__") gT F.sl_setit_next (Bp F.sl_setit_next gT F.en_setit_next ?_ (F.ar_setit_next _))))
 show wpAny _ _ (fieldsOf (Value.ref I) >>= _) _ _ s
 refine gV (wpAny_fieldsOf gI rfl ?_)
 show wpAny _ _ (setEntries a >>= _) _ _ s
 refine gV (df ho hd hf ?_)
 rw [tj]
 simp only [AE,Bo]
 show wpAny _ _ (setNext a ((slot:Int).toNat) ((i:Int).toNat) ((ep:Int).toNat) >>= _) _ _ s
 simp only [BQ]
 refine gV (uE ho hd hf hL np sl li fun r hr=>?_)
 cases e:(ce w a ep es)[i]? with
 | some x =>
  rw [e] at hr
  obtain ⟨slot',rfl,sl'⟩:=hr
  dsimp only
  refine gV (Br gI An fun ha gA ka=>?_)
  refine gV (Br gA An fun hb gB kb=>Aq ⟨x.2,rfl,Aq (g1 x slot' hb e ?_ sl' (ka.trans kb))⟩)
  have:((i:Int)+1)=((i+1:Nat):Int):=by lia
  unfold dU
  rw [<-this]
  exact gB
 | none =>
  rw [e] at hr
  subst hr
  dsimp only
  refine gV (Br gI An fun ha gA ka=>?_)
  refine iJ (show A.in1.handled=none from hA) fun h' ex kp zz=>?_
  obtain ⟨oe,hoe,hce⟩:=zz
  refine gV (DR (T:="StopIteration") (b:=true) ⟨oe,hoe,hce⟩ EW (Aq (g2 _ e fun b ob n q=>kp b ob (ka.extBut b ob n q))))
end
section
variable {prog:Program}{w:World}{A:Around}{E:Value->Shared->Prop}{s:Shared}{a I T:Addr}{o:Obj}{es:Array (Int×Value)}{ep:Nat}{t:SetTable}
abbrev yO (h:Heap)(T:Addr)(ps:List Nat):Prop:=h.get? T=some { cls:=.type "tuple",data:=.seq (ps.map fun (p:Nat)=>rawInt p).toArray }
theorem gj {ps:List Nat}{Q:Option Value->Shared->Prop}(hA:A.handled=none)(ho:s.heap.get? a=some o)(hd:o.data=.set es ep t)(hf:t.fits es.size=true)(hp:∀p∈ps,p<es.size)(gT:yO s.heap T ps)(gI:dU s.heap I a (.ref T) i es.size ep)(g1:∀p e h',ps[i]?=some p->es[p]?=some e->dU h' I a (.ref T) (i+1) es.size ep->Heap.SameBut I s.heap h'->Q (some e.2) { s with heap:=h' })(g2:∀h',ps[i]?=none->Heap.ExtBut I s.heap h'->Q none { s with heap:=h' }):wpAny (model prog w) A (pyNext (.ref I)) Q E s:=by
 have gy:s.TypeIs (.ref I) "set_iterator":=⟨_,gI,rfl⟩
 unfold pyNext
 refine gV (Du (Bm (name:=Str.ofString "__next__") gy F.sl_setit_next (Bp F.sl_setit_next gy F.en_setit_next ?_ (F.ar_setit_next _))))
 show wpAny _ _ (fieldsOf (Value.ref I) >>= _) _ _ s
 refine gV (wpAny_fieldsOf gI rfl ?_)
 show wpAny _ _ (setEntries a >>= _) _ _ s
 refine gV (df ho hd hf ?_)
 rw [tj]
 simp only [AE,Bo]
 show wpAny _ _ (seqItems? (Value.ref T) >>= _) _ _ s
 refine gV (B0 gT rfl ?_)
 simp only [BQ,A5,AS]
 cases e:ps[i]? with
 | some p =>
  have lp:p<es.size:=hp p (AQ e)
  have ee:es[p]?=some es[p]:=BC lp
  show wpAny _ _ (setNextDrawn a ((p:Int).toNat) ((ep:Int).toNat) >>= _) _ _ s
  simp only [BQ]
  refine gV ?_
  unfold setNextDrawn
  refine gV (C1 ho hd hf ?_)
  dsimp only
  simp only [Ee,AE,Bo]
  rw [ee]
  refine Aq (gV (Br gI An fun hb gB kb=>Aq ⟨es[p].2,rfl,Aq (g1 p es[p] hb e ee ?_ kb)⟩))
  have:((i:Int)+1)=((i+1:Nat):Int):=by lia
  unfold dU
  rw [<-this]
  exact gB
 | none =>
  show wpAny _ _ (setField (Value.ref I) 0 (rawInt 0) >>= _) _ _ s
  refine gV (Br gI An fun ha gA ka=>?_)
  refine gV (Br gA An fun hb gB kb=>?_)
  refine iJ (show A.in1.handled=none from hA) fun h' ex kp zz=>?_
  obtain ⟨oe,hoe,hce⟩:=zz
  exact gV (DR (T:="StopIteration") (b:=true) ⟨oe,hoe,hce⟩ EW (Aq (g2 _ e fun b ob n q=>kp b ob (kb.extBut b ob n (ka.extBut b ob n q)))))
theorem gN {first:Value}(gI:dU s.heap I a first i n ep)(h:Q (.ref I) s):wpAny (model prog w) A (pyIter (.ref I)) Q E s:=by
 have gT:s.TypeIs (.ref I) "set_iterator":=⟨_,gI,rfl⟩
 refine wpAny_pyIter_slot gT F.sl_setit_iter (Bp F.sl_setit_iter gT F.en_setit_iter ?_ (F.ar_setit_iter _))
 show wpAny _ _ (ret (Value.ref I)) _ _ s
 exact Aq ⟨_,rfl,"set_iterator",_,gT,F.sl_setit_next.lookup,h⟩
theorem qL (hA:A.handled=none)(aI:a≠I)(hd:o.data=.set es ep t)(hf:t.fits es.size=true)(hL:TabOk (!w.params.followText "set-order") t)(np:w.params.followText "set-order"=true∨(!t.plain&&decide (es.size>1))=false):
  Walks prog w A I [I,a] [I] es.size (fun i v=>((ce w a ep es).toList.map (·.2))[i]?=some v) (fun i h=>i<=es.size/\h.get? a=some o/\∃ slot,dU h I a (.int (slot:Nat) 0) i es.size ep/\iC w t i slot) where
 sub:=fun b hb=>by simp at hb;simp [hb]
 frame:=fun i h h' ⟨l,g,slot,q,r⟩ k=>⟨l,k a An _ g,slot,k I An _ q,r⟩
 item:=fun i s Q E hi ⟨l,g,slot,q,r⟩ gQ=>by
  have sz:(ce w a ep es).size=es.size:=by rw [<-Bf,setOrd_perm.length_eq,Bf]
  refine ii hA g hd hf hL np r l q (fun e slot' h' e1 e2 e3 k=>?_) fun h' e1 _=>?_
  .refine gQ e.2 h' s.toks ?_ ⟨hi,k.extBut a o aI g,slot',e2,e3⟩ fun b ob n x=>k.extBut b ob (fun y=>n (by simp [y])) x
   rw [AS,Cr,e1]
   rfl
  .have:=Array.getElem?_eq_none_iff.mp e1
   lia
 done:=fun s Q E ⟨l,g,slot,q,r⟩ gQ=>by
  have sz:(ce w a ep es).size=es.size:=by rw [<-Bf,setOrd_perm.length_eq,Bf]
  refine ii hA g hd hf hL np r l q (fun e slot' h' e1 e2 e3 k=>?_) fun h' e1 k=>?_
  .obtain ⟨l2,_⟩:=DE.mp e1
   lia
  .exact gQ h' s.toks fun b ob n x=>k b ob (fun y=>n (by simp [y])) x
 self:=fun i s Q E ⟨l,g,slot,q,r⟩ h=>gN q h
theorem nc {ps:List Nat}(hA:A.handled=none)(aI:a≠I)(TI:T≠I)(hd:o.data=.set es ep t)(hf:t.fits es.size=true)(hp:ps.Perm (List.range es.size)):
  Walks prog w A I [I,a,T] [I] es.size (fun i v=>(ps.map fun p=>(es.getD p (0,.none)).2)[i]?=some v) (fun i h=>h.get? a=some o/\yO h T ps/\dU h I a (.ref T) i es.size ep) where
 sub:=fun b hb=>by simp at hb;simp [hb]
 frame:=fun i h h' ⟨g,q,r⟩ k=>⟨k a An _ g,k T An _ q,k I An _ r⟩
 item:=fun i s Q E hi ⟨g,q,r⟩ gQ=>by
  have ln:ps.length=es.size:=by rw [hp.length_eq,By]
  refine gj hA g hd hf (fun p m=>B9.mp (hp.mem_iff.mp m)) q r (fun p e h' e1 e2 e3 k=>?_) fun h' e1 _=>?_
  .refine gQ e.2 h' s.toks ?_ ⟨k.extBut a o aI g,k.extBut T _ TI q,e3⟩ fun b ob n x=>k.extBut b ob (fun y=>n (by simp [y])) x
   rw [AS,e1]
   obtain ⟨l2,e2⟩:=DE.mp e2
   simp [Array.getD,l2,e2]
  .have:=ET.mp e1
   lia
 done:=fun s Q E ⟨g,q,r⟩ gQ=>by
  have ln:ps.length=es.size:=by rw [hp.length_eq,By]
  refine gj hA g hd hf (fun p m=>B9.mp (hp.mem_iff.mp m)) q r (fun p e h' e1 e2 e3 k=>?_) fun h' e1 k=>?_
  .obtain ⟨l2,_⟩:=Au.mp e1
   lia
  .exact gQ h' s.toks fun b ob n x=>k b ob (fun y=>n (by simp [y])) x
 self:=fun i s Q E ⟨g,q,r⟩ h=>gN r h
theorem mK (ho:s.heap.get? a=some o)(hc:o.cls=.type "set")(hd:o.data=.set es ep t)(hf:t.fits es.size=true)(hb:es.size<scanBound)(hL:TabOk (!w.params.followText "set-order") t)(h:∀(I:Addr) (fp:List Addr) (vs:List Value) (St:Nat->Heap->Prop) (h':Heap) (d':Drawn),vs.Perm (es.toList.map (·.2))->(∀A',A'.handled=none->Walks prog w A' I fp [I] es.size (fun i v=>vs[i]?=some v) St)->St 0 h'->(∀b ob,s.heap.get? b=some ob->h'.get? b=some ob)->s.heap.objs.size<=I->(∀b∈fp,b=a∨s.heap.objs.size<=b)->Q (.ref I) { s with heap:=h',drawn:=d' }):
  wpAny (model prog w) A (pyIter (.ref a)) Q E s:=by
 have gT:s.TypeIs (.ref a) "set":=⟨_,ho,hc⟩
 have la:a<s.heap.objs.size:=AA ho
 refine wpAny_pyIter_slot gT F.slot_set_iter (Bp F.slot_set_iter gT F.en_set_iter ?_ (F.args_set_iter_1 _))
 show wpAny _ _ (Builtin.Frozenset.sizeOf a >>= _) _ _ s
 refine gV ?_
 unfold Builtin.Frozenset.sizeOf
 refine gV (df ho hd hf (Aq ?_))
 refine gV ?_
 unfold setDrawn
 refine gV (C1 ho hd hf ?_)
 dsimp only
 refine gV (j9 (Aq ?_))
 have fl:es.size<=sizeLine:=DD hb
 by_cases dr:(!w.params.followText "set-order"&&(!t.plain&&decide (es.size>1)))=true
 .refine Ds (fun _=>?_) fun q=>absurd dr q
  refine gV (nz es.size (List.range es.size) s _ (By) fun ps d pm=>?_)
  have ln:ps.length=es.size:=by rw [pm.length_eq,By]
  refine gV (DH ?_ (by rw [Ar];lia))
  refine gV (wpAny_setEpoch_of (s:={ s with heap:=_,drawn:=d }) (Ap _ ho) hd hf ?_)
  refine gV (Bv (Aq ⟨_,rfl,"set_iterator",_,⟨_,AF _ rfl,rfl⟩,F.sl_setit_next.lookup,?_⟩))
  refine h _ [_,a,s.heap.objs.size] (ps.map fun p=>(es.getD p (0,.none)).2) _ _ d ?_ (fun A' hA'=>nc hA' ?_ ?_ hd hf pm) ⟨Ap _ (Ap _ ho),Ap _ (AF _ rfl),AF _ rfl⟩ (fun b ob e=>Ap _ (Ap _ e)) ?_ ?_
  .refine (pm.map _).trans (Fn (List.ext_getElem An fun i h1 h2=>?_))
   have:i<es.size:=by simpa using h2
   simp [Array.getD,this]
  .rw [BB];exact AJ (B7 la)
  .rw [BB];exact AJ (Cu _)
  .rw [BB];exact BX _
  .intro b hb'
   simp only [Aw,Ax,Bg] at hb'
   rcases hb' with q | q | q
   .right;rw [q,BB];exact BX _
   .exact .inl q
   .right;rw [q];exact Av _
 refine Ds (fun q=>absurd q dr) fun _=>?_
 refine gV (Aq (gV (wpAny_setEpoch_of ho hd hf ?_)))
 refine gV (Bv (Aq ⟨_,rfl,"set_iterator",_,⟨_,AF _ rfl,rfl⟩,F.sl_setit_next.lookup,?_⟩))
 have ai:a≠s.heap.objs.size:=AJ la
 have sub:∀b∈[s.heap.objs.size,a],b=a∨s.heap.objs.size<=b:=fun b hb'=>by
  simp only [Aw,Ax,Bg] at hb'
  rcases hb' with q | q
  .right;rw [q];exact Av _
  .exact .inl q
 have st0:∀np:iC w t 0 0,0<=es.size/\(s.heap.push { cls:=.type "set_iterator",data:=.fields [rawInt 0,rawInt 0,.ref a,rawInt es.size,rawInt ep].toArray }).get? a=some o/\∃ slot,dU (s.heap.push { cls:=.type "set_iterator",data:=.fields [rawInt 0,rawInt 0,.ref a,rawInt es.size,rawInt ep].toArray }) s.heap.objs.size a (.int (slot:Nat) 0) 0 es.size ep/\iC w t 0 slot:=fun np=>⟨BA _,Ap _ ho,0,AF _ rfl,np⟩
 have np:w.params.followText "set-order"=true∨(!t.plain&&decide (es.size>1))=false:=by
  cases bf:w.params.followText "set-order" with
  | true=>exact .inl rfl
  | false =>
   rw [bf] at dr
   exact .inr (by simpa using dr)
 exact h _ [_,a] ((ce w a ep es).toList.map (·.2)) _ _ s.drawn (setOrd_perm.map _) (fun A' hA'=>qL hA' ai hd hf hL np) (st0 (.inr (.inl ⟨rfl,rfl⟩))) (fun b ob e=>Ap _ e) (Av _) sub
end
section
variable {prog:Program}{w:World}{A:Around}{E:Value->Shared->Prop}{s:Shared}{a:Addr}{o:Obj}{es:Array (Int×Value)}{ep:Nat}{t:SetTable}
theorem q9 {Q:Bool->Shared->Prop}(gT:s.TypeIs (.ref a) "set")(h:Q false s):wpAny (model prog w) A (Builtin.List.listLengthHint (.ref a)) Q E s:=by
 unfold Builtin.List.listLengthHint
 refine gV (Fv gT F.slot_set_len.lookup ?_)
 generalize hid:("set.__len__":String)=id0
 wp_delta
 rw [show splitId id0=some ("set","__len__") from by subst hid;decide +kernel]
 subst hid
 refine gV (DR (T:="set") (b:=true) gT (by rw [FJ];kernel_rfl) ?_)
 refine Ds (fun q=>absurd q Ak) fun _=>?_
 refine Ds (fun _=>?_) fun q=>absurd Aj q
 exact gV (C8 gT (Aq h))
theorem mr {R:List Value->Shared->Prop}(hA:A.handled=none)(ho:s.heap.get? a=some o)(hc:o.cls=.type "set")(hd:o.data=.set es ep t)(hf:t.fits es.size=true)(hb:es.size<scanBound)(hL:TabOk (!w.params.followText "set-order") t)(h:∀(h':Heap) (tk:Nat) (d':Drawn) (vs:List Value),(∀b ob,s.heap.get? b=some ob->h'.get? b=some ob)->vs.Perm (es.toList.map (·.2))->R vs { s with heap:=h',toks:=tk,drawn:=d' }):wpAny (model prog w) A (collect (.ref a)) R E s:=by
 have la:a<s.heap.objs.size:=AA ho
 have fl:es.size<=sizeLine:=DD hb
 unfold collect
 refine gV (wpAny_runValue (Cf F.entry_proto_collect ?_))
 rw [BU F.plain_proto_collect _]
 show wpAny _ A.in1 (newList [] >>= fun l=>again (.builtin "list.__iadd__" ⟨[l,Value.ref a],[]⟩)) _ _ s
 refine gV (Bv ?_)
 refine Aq ⟨CQ F.plain_list_iadd _,Cf F.entry_list_iadd ?_⟩
 rw [BU F.plain_list_iadd _]
 show wpAny _ A.in1 (Builtin.List.listExtendWith (Value.ref s.heap.objs.size) (.ref a) (.ref s.heap.objs.size)) _ _ _
 have gS:(s.heap.push { cls:=.type "list",data:=.seq ([]:List Value).toArray }).get? s.heap.objs.size=some { cls:=.type "list",data:=.seq #[] }:=AF _ rfl
 have sz1:(s.heap.push { cls:=.type "list",data:=.seq ([]:List Value).toArray }).objs.size=s.heap.objs.size+1:=BB ..
 have ho1:(s.heap.push { cls:=.type "list",data:=.seq ([]:List Value).toArray }).get? a=some o:=Ap _ ho
 have kp1:∀b ob,s.heap.get? b=some ob->(s.heap.push { cls:=.type "list",data:=.seq ([]:List Value).toArray }).get? b=some ob:=fun b ob e=>Ap _ e
 generalize (s.heap.push { cls:=.type "list",data:=.seq ([]:List Value).toArray })=hp at gS sz1 ho1 kp1 ⊢
 unfold Builtin.List.listExtendWith
 refine gV (C8 (s:={ s with heap:=hp }) (T:="set") ⟨_,ho1,hc⟩ ?_)
 have n1:Builtin.List.listSameRef (.ref s.heap.objs.size) (.ref a)=false:=by
  simp only [Builtin.List.listSameRef,BW]
  exact BD la
 have n2:(Value.type "set" == Value.type "list")=false:=by decide
 have n3:(Value.type "set" == Value.type "tuple")=false:=by decide
 simp only [n1,n2,n3,Bool.or_false,AE,Bo]
 refine gV (mK (s:={ s with heap:=hp }) ho1 hc hd hf hb hL fun I fp vs St h2 d2 pm W st kp2 lI sf=>?_)
 have gS2:=kp2 _ _ gS
 have lI':s.heap.objs.size+1<=I:=by rw [<-sz1];exact lI
 have nS:s.heap.objs.size∉fp:=fun q=>by
  rcases sf _ q with e | e
  .exact absurd e (BD la)
  .have:hp.objs.size<=s.heap.objs.size:=e
   rw [sz1] at this
   exact absurd this (Nat.not_succ_le_self _)
 refine gV (A7 (q9 (s:={ s with heap:=h2,drawn:=d2 }) ⟨_,kp2 _ _ ho1,hc⟩ ?_))
 have nv:vs.length=es.size:=by rw [pm.length_eq,Ar,Bf]
 have key:∀(h3:Heap) (c tk:Nat),St 0 h3->(∀b ob,s.heap.get? b=some ob->h3.get? b=some ob)->h3.get? s.heap.objs.size=some { cls:=.type "list",data:=.seq #[] c } ->
   codeAny (model prog w) A (.builtin "list.extend.loop" ⟨[.ref s.heap.objs.size,.ref I,.ref s.heap.objs.size],[]⟩) (fun q s'=>∃ (h':Heap) (tk:Nat) (acc:Array Value) (c':Nat),q=.ok (.ret (.ref s.heap.objs.size))/\s'={ s with heap:=h',toks:=tk,drawn:=d2 }/\(∀b ob,s.heap.get? b=some ob->h'.get? b=some ob)/\h'.get? s.heap.objs.size=some { cls:=.type "list",dict:=none,data:=.seq acc c',slots:=#[] }/\acc.toList=vs) { s with heap:=h3,toks:=tk,drawn:=d2 }:=by
  intro h3 c tk st3 k3 g3
  refine codeAny_extend_loopS (W A.in1 (by simp [hA])).toS fl s.heap.objs.size nS _ es.size 0 _ #[] c rfl (BA _) st3 g3 (ItemsOf.nil _) fun s' acc c' hm gS' hacc=>?_
  rw [Moved.eq_with hm]
  refine ⟨s'.heap,s'.toks,acc,c',rfl,rfl,fun b ob e=>hm.heap b ob (fun q=>?_) (k3 b ob e),gS',?_⟩
  .have lb:@LT.lt Nat _ b s.heap.objs.size:=AA e
   rcases Aw.mp q with q | q
   .exact absurd lb (by rw [show b=s.heap.objs.size from q];exact CD _)
   .have:b=I:=Ao q
    rw [this] at lb
    exact absurd (A2 lb (BX _)) (FC.mpr lI')
  .refine List.ext_getElem? fun i=>?_
   by_cases c:i<acc.size
   .have e1:acc[i]?=some acc[i]:=BC c
    rw [hacc.2 i _ e1,Cr,e1]
   .rw [BO (by simpa using c),BO (by rw [nv,<-hacc.1];lia)]
 have fin:∀(q:Result) (s':Shared),(∃ (h':Heap) (tk:Nat) (acc:Array Value) (c':Nat),q=.ok (.ret (.ref s.heap.objs.size))/\s'={ s with heap:=h',toks:=tk,drawn:=d2 }/\(∀b ob,s.heap.get? b=some ob->h'.get? b=some ob)/\h'.get? s.heap.objs.size=some { cls:=.type "list",dict:=none,data:=.seq acc c',slots:=#[] }/\acc.toList=vs) ->
   q=.ok (.ret (.ref s.heap.objs.size))/\wpAny (model prog w) A (load s.heap.objs.size >>= fun ob=>match ob.data with | .seq xs _=>pure xs.toList | _=>unsupported "internal:collect") R E s':=by
  rintro q s' ⟨h',tk,acc,c',e,rfl,kp,g,ea⟩
  refine ⟨e,gV (wpAny_load g (Aq ?_))⟩
  rw [ea]
  exact h h' tk d2 vs kp pm
 have ends:∀(h3:Heap) (c tk:Nat),St 0 h3->(∀b ob,s.heap.get? b=some ob->h3.get? b=some ob)->h3.get? s.heap.objs.size=some { cls:=.type "list",data:=.seq #[] c }->_:=fun h3 c tk q1 q2 q3=>C7 (key h3 c tk q1 q2 q3) fin
 refine Ds (fun _=>?_) fun _=>Aq ⟨CQ F.plain_extend_loop _,C7 (ends h2 0 s.toks st (fun b ob e=>kp2 b ob (kp1 b ob e)) gS2) ?_⟩
 .refine gV (B5 (gV ?_))
  show wpAny _ _ (updateSeq s.heap.objs.size (·.push Value.none) >>= fun _=>updateSeq s.heap.objs.size (·.pop)) _ _ _
  refine gV (wpAny_updateSeq gS2 rfl ?_)
  have gA:=Dr (Obj.mapSeq (·.push Value.none)) gS2 rfl
  refine wpAny_updateSeq (hz:=by seq_fits) gA rfl ?_
  have gB:=Dr (Obj.mapSeq (·.pop)) gA rfl
  have oth:∀b ob,b≠s.heap.objs.size->h2.get? b=some ob->((h2.update s.heap.objs.size (Obj.mapSeq (·.push Value.none))).update s.heap.objs.size (Obj.mapSeq (·.pop))).get? b=some ob:=fun b ob n e =>
   (Dg _ _ (EF n)).trans ((Dg _ _ (EF n)).trans e)
  refine Aq ⟨CQ F.plain_extend_loop _,C7 (ends _ _ s.toks ((W A hA).frame 0 _ _ st fun b hb ob e=>oth b ob (fun q=>nS (q▸hb)) e) (fun b ob e=>oth b ob (AJ (AA e)) (kp2 b ob (kp1 b ob e))) gB) ?_⟩
  rintro q s' ⟨rfl,r⟩
  exact r
 rintro q s' ⟨rfl,r⟩
 exact r
end
end PySem
namespace PySem
open PyProof.Rows
theorem gb {α:Type}[DecidableEq α]:∀{l1 l2:List α},l1.Nodup->(∀x∈l1,x∈l2)->l2.length=l1.length->l1.Perm l2
 | [],l2,_,_,h=>by
  have:l2=[]:=AY.mp h
  rw [this]
 | x::l1,l2,nd,sub,h=>by
  have hx:x∈l2:=sub x AX
  have p:=List.perm_cons_erase hx
  have nd':=BY.mp nd
  refine (List.Perm.cons x (gb nd'.2 (fun y hy=>?_) ?_)).trans p.symm
  .have:y≠x:=fun e=>nd'.1 (e▸hy)
   exact (FH this).mpr (sub y (AH _ hy))
  .rw [DV hx,h]
   simp
theorem cr (val:Nat->Int):∀i,(firstMet val i).Nodup
 | 0=>by rw [firstMet_zero];exact .nil
 | i+1=>by
  rw [firstMet_succ]
  have ih:=cr val i
  unfold step_dedup
  by_cases h:(firstMet val i).any (· == val i)=true
  .rw [Az h];exact ih
  .rw [Ay h,DC]
   refine ⟨ih,An,fun a ha b hb e=>h ?_⟩
   have:b=val i:=by simpa using hb
   rw [this] at e
   exact BF.mpr ⟨a,ha,by rw [e];exact Cg _⟩
end PySem
namespace TS
open PySem PyProof.Rows PySem.W
section
variable {prog:Program}{w:World}{A:Around}{E:Value->Shared->Prop}{s:Shared}
theorem sorted_set {S:Int->Bool}(hA:A.handled=none)(hS:s.heap.SetL (intKind prog w) a S n (!w.params.followText "set-order"))(h:∀(h1 h3:Heap) (tk:Nat) (d:Drawn) (vs:List Value) (st':SortSt),(∀v∈vs,∃ x t,v=Value.int x t)->vs.length=n->(∀k,S k=true↔k∈vs.map numOf)->(arrOf st').Perm (pairsOf vs)->Up intKindS (arrOf st') 0 (pairsOf vs).size ->
   (∀b o,s.heap.get? b=some o->h1.get? b=some o)->(∀b o,h1.get? b=some o->h3.get? b=some o)->(∃ n,h3.get? h1.objs.size=some (seqObj "list" ((arrOf st').map (·.2)) n))->Q (.ref h1.objs.size) { s with heap:=h3,toks:=tk,drawn:=d }):
  wpAny (model prog w) A (call (.builtin "sorted") [.ref a]) Q E s:=by
 obtain ⟨o,es,ep,t,ho,hex,hd,hel,hmem,hb,hf,hn,ht⟩:=hS
 refine DI kind_sorted plain_sorted entry_sorted (args_sorted1 _) ?_
 unfold Builtin.«sorted»
 refine gV (m:=checkCount "sorted" 1 1 _) (Aq ?_)
 refine gV (mr (A:=A.in1) hA ho hex.1 hd hf hb ht fun h1 tk d vs kp pm=>?_)
 have fl:es.size<=sizeLine:=DD hb
 have ln:vs.length=es.size:=by rw [pm.length_eq,Ar,Bf]
 have mm:∀v,v∈vs↔∃ e∈es.toList,e.2=v:=fun v=>by rw [pm.mem_iff,AK]
 have hI:∀v∈vs,∃ x t,v=Value.int x t:=fun v hv=>by
  obtain ⟨e,he,rfl⟩:=(mm v).mp hv
  obtain ⟨⟨k,hk,_⟩,_⟩:=hel e he
  obtain ⟨t,et⟩:=EY hk
  exact ⟨k,t,et⟩
 have hK:∀k,S k=true↔k∈vs.map numOf:=fun k=>by
  rw [hmem k,AK]
  constructor
  .rintro ⟨e,he,hk⟩
   obtain ⟨t,et⟩:=EY hk
   exact ⟨e.2,(mm _).mpr ⟨e,he,rfl⟩,by rw [et];rfl⟩
  .rintro ⟨v,hv,e⟩
   obtain ⟨x,t,ev⟩:=hI v hv
   obtain ⟨p,hp,e2⟩:=(mm v).mp hv
   rw [ev] at e
   have e:x=k:=e
   exact ⟨p,hp,by rw [e2,ev,e];exact intKind_is _ _ _ _⟩
 refine gV (E6 ?_ Am)
 have hoL:(h1.push (seqObj "list" vs.toArray 0)).get? h1.objs.size=some (seqObj "list" vs.toArray 0):=AF _ rfl
 refine gV (A7 (Bp slot_list_sort ⟨_,hoL,rfl⟩ entry_list_sort (mt (s:={ s with heap:=h1.push (seqObj "list" vs.toArray 0),toks:=tk,drawn:=d }) (J:=intKindS) (kd:=oneType') hoL Am (fun h' k g Q q=>?_) (fun h' k g=>sR hI) fun st' a1 a2=>⟨_,rfl,?_⟩) (args_list_sort _)))
 .rw [jB hI g]
  exact Aq q
 refine Aq ⟨_,rfl,h h1 _ _ d vs st' hI (by rw [ln,hn]) hK a1 a2 kp (fun b o e1=>?_) (sortedHeap_at hoL)⟩
 rw [sortedHeap_old (AJ (AA e1)) (by rw [size_push'];exact B7 (AA e1))]
 exact Ap _ e1
end
end TS
namespace L2
open PySem PySem.W PySem.Spec PySem.Calls PyProof.Rows
theorem lN:∀{ns:List Int} {its:List Value},Vals (ns.map V.int) its->IntsAre its ns
 | [],_,.nil=>.nil
 | n::ns,_,.cons r rs=>by
  obtain ⟨t,rfl⟩:=(show ∃ t,_=Value.int n t from r)
  exact .cons n t (lN rs)
section
variable {X:Cx}{pins:List (Addr×Obj)}{U:St}{H:Hp}{s:Shared}
theorem Inv.drew (I:Inv X pins U H s)(d':Drawn):Inv X pins U H { s with drawn:=d' } :=
 Inv.step (h':=s.heap) (H':=H) (g':=s.gens) (t':=s.toks) (d':=d') (ch:=[]) I (fun b hb=>by cases hb) (fun b o _ _ _ e _=>e) (fun b o _ _ _ e _=>⟨o.slots,e⟩) (fun b o _ _ n=>n) (fun b o _ e=>⟨o,e⟩) (fun b xs e=>e) (fun b o u e=>e) (fun b ps e=>⟨#[],by rw [e];simp⟩) (fun m hm=>hm) I.hok I.bare
def zp (te:TE):TE:=fun U H Q=>te U H fun v H1=>∃ (p:Addr) (ns:List Int),v=.ref p/\SqL X.K H1 p (ns.map V.int)/\ns.length<=2000/\∀(l:Addr) (ms:List Int),H1 l=none->ms.Pairwise (·<·)->(∀k,k∈ms↔k∈ns)->ms.length<=ns.length->Q (.ref l) (upd H1 l (.lst (ms.map V.int)))
theorem tV {p p2 pos2:Pos}(hc:X.calm=true)(hg:Gl X "set")(hm:X.mg "set"=none)(hg2:Gl X "sorted")(hm2:X.mg "sorted"=none)(he:QE X e te)(hs:starEach [e] X.env=[(false,eval e X.env)]:=by rfl)(hs3:starEach [.Call (.Name "set" p) [e] [] pos] X.env=[(false,eval (.Call (.Name "set" p) [e] [] pos) X.env)]:=by rfl):
  QE X (.Call (.Name "sorted" p2) [.Call (.Name "set" p) [e] [] pos] [] pos2) (zp (X:=X) te):=.mk (by
 have he:=he.to
 intro pins s U H Q I h
 refine Dl (cB I hg2 hm2 boot_sorted (Em ?_ hs3 rfl))
 rw [hs3]
 refine Cs ?_
 refine Call_ (cB I hg hm boot_set (Bt ?_ hs rfl))
 rw [hs]
 refine Cs (thn (he pins s U H _ I h) fun u s1 ⟨v,H1,I1,r1,q1⟩=>CH ?_)
 obtain ⟨q,ns,rfl,hq,hl,k⟩:=q1
 cases r1
 obtain ⟨its,rv,pl,hz⟩:=I1.list hq
 have hlen:=rv.length
 rw [Ar] at hlen
 have hd:X.A.handled=none:=I.ok.hd hc
 have sb:(2000:Nat)+1<scanBound:=by unfold scanBound;decide
 refine qt (its:=its.toArray) (ns:=ns) hd pl.isList (by simpa using lN rv) (by simp only [AI];lia) fun h2 tk hS kp=>CH ?_
 have kp':∀b o,s1.heap.get? b=some o->h2.get? b=some o:=fun b o e=>kp b o (AA e) e
 refine TS.sorted_set (s:={ s1 with heap:=h2,toks:=tk }) hd hS fun h3 h4 tk2 d vs st' hI lv hK pm up k1 k2 ⟨n,hn⟩=>?_
 have ks:∀b o,s1.heap.get? b=some o->h4.get? b=some o:=fun b o e=>k2 b o (k1 b o (kp' b o e))
 have ge:s1.heap.objs.size<=h3.objs.size:=by
  rcases Nat.lt_or_ge h3.objs.size s1.heap.objs.size with c | c
  .exfalso
   have hlt:s1.heap.objs.size<h3.objs.size:=by
    obtain ⟨o1,_,_,_,g,_⟩:=hS
    exact AA (k1 _ _ g)
   exact absurd (C9 c hlt) (CD _)
  .exact c
 have pm':(arrOf st').toList.Perm (vs.zip vs):=by rw [<-Ek];exact Ck.mp pm
 have mem:∀k∈(arrOf st').toList,k.1=k.2/\∃ x t,k.2=Value.int x t:=fun k hk=>by
  obtain ⟨e1,m⟩:=EM (pm'.mem_iff.mp hk)
  exact ⟨e1,e1▸hI _ m⟩
 have hsz:(arrOf st').toList.length=vs.length:=by rw [pm'.length_eq,EG];lia
 have em:(arrOf st').toList.map (fun k=>numOf k.2)=((arrOf st').toList.map (·.2)).map numOf:=by rw [CF];rfl
 have pmn:((arrOf st').toList.map fun k=>numOf k.2).Perm (vs.map numOf):=by
  have e3:(vs.zip vs).map (fun k:Keyed=>numOf k.2)=vs.map numOf:=by
   have aux:∀l:List Value,(l.zip l).map (fun k:Keyed=>numOf k.2)=l.map numOf:=by
    intro l
    induction l with
    | nil=>rfl
    | cons a l ih=>rw [Dk,AN,AN,ih]
   exact aux vs
  rw [<-e3]
  exact pm'.map _
 have le:((arrOf st').toList.map fun k=>numOf k.2).Pairwise (·<=·):=by
  have el:(arrOf st')=(arrOf st').toList.toArray:=by simp
  rw [el] at up
  have hs2:(pairsOf vs).size=(arrOf st').toList.length:=by rw [El,hsz]
  have up2:=(TS.up_iff Am).mp up
  rw [CT,hs2,Bx] at up2
  refine BL.mpr (Ct (fun {k k'} hk hk' hle=>?_) up2)
  obtain ⟨e1,x,t,ex⟩:=mem k hk
  obtain ⟨e1',x',t',ex'⟩:=mem k' hk'
  have hle':TS.Lb TS.intKindS k' k=false:=hle
  unfold TS.Lb TS.kf at hle'
  rw [e1,e1',ex,ex'] at hle'
  rw [ex,ex']
  have h3:decide (x'<x)=false:=hle'
  have h4:=of_decide_eq_false h3
  show x<=x'
  lia
 have nm:∀k,g0 (fun i=>ns.getD i 0) its.toArray.size k=true↔k∈ns:=fun k=>by
  unfold g0
  rw [firstMet_any,BF]
  simp only [AI,<-hlen]
  constructor
  .rintro ⟨x,hx,e⟩
   obtain ⟨i,hi,rfl⟩:=AK.mp hx
   have hi:=B9.mp hi
   rw [<-eq_of_beq e,AD,tx hi]
   exact BE hi
  .intro hk
   obtain ⟨i,hi,e⟩:=Ba hk
   exact ⟨k,AK.mpr ⟨i,B9.mpr hi,by rw [AD,tx hi];exact e⟩,Cg _⟩
 have fm:∀k,k∈firstMet (fun i=>ns.getD i 0) its.toArray.size->k∈vs.map numOf:=fun k hk=>(hK k).mp (BF.mpr ⟨k,hk,Cg _⟩)
 have nd:(vs.map numOf).Nodup:=(gb (cr _ _) fm (by rw [Ar];exact lv)).nodup_iff.mp (cr _ _)
 have nd2:=pmn.nodup_iff.mpr nd
 have lt:((arrOf st').toList.map fun k=>numOf k.2).Pairwise (·<·):=by
  refine FT (fun a b h1 h2=>?_) le nd2
  have:a≠b:=h2
  lia
 have lle:vs.length<=ns.length:=by
  have:=firstMet_length_le (fun i=>ns.getD i 0) its.toArray.size
  simp only [AI,<-hlen] at this lv
  lia
 refine ⟨.ref h3.objs.size,upd H1 h3.objs.size (.lst (((arrOf st').toList.map fun k=>numOf k.2).map V.int)),(I1.laid (t':=tk2) ks ge ?_).drew d,rfl,k _ _ (I1.hok.fresh ge) lt (fun x=>?_) ?_⟩
 .refine ⟨by rw [Ar,Ar,hsz];exact AV lle (by rw [Ar] at hz;exact hz),(arrOf st').toList.map (·.2),n,?_,?_⟩
  .rw [em]
   refine dR fun v hv=>?_
   obtain ⟨k,hk,rfl⟩:=AK.mp hv
   exact (mem k hk).2
  .rw [hn,<-Fe]
 .rw [pmn.mem_iff,<-hK x,nm x]
 rw [Ar,hsz];exact lle)
end
end L2
namespace PySem
namespace F
theorem lk_list_keys:typeLookup (.type "list") "keys"=pure none:=by rw [Ea,CS];kernel_rfl
end F
section
variable {prog:Program}{w:World}{A:Around}{E:Value->Shared->Prop}{s:Shared}
theorem iH {xs:Array Value}{k:Nat}{Q:Option Value->Shared->Prop}(hx:s.heap.get? a=some o)(hc:o.cls=.type "list")(hdat:o.data=.seq xs k)(hd:o.dict=none)(hA:A.handled=none)(h:∀h' tk,(∀b ob,s.heap.get? b=some ob->h'.get? b=some ob)->Q none { s with heap:=h',toks:=tk }):
  wpAny (model prog w) A (getAttr? (.ref a) "keys") Q E s:=by
 obtain ⟨c,dct,dat,sl⟩:=o
 simp only at hc hdat hd
 subst hc hdat hd
 obtain ⟨hp,g,d,tk,os⟩:=s
 have hT:∀tk',(⟨hp,g,d,tk',os⟩:Shared).TypeIs (.ref a) "list":=fun _=>⟨_,hx,rfl⟩
 have f1:=sub_AttributeError
 have f3:=F.slot_list_getattribute.lookup
 have f4:=F.slot_list_getattribute.bind (.ref a)
 have f5:=am_list_getattr_none
 unfold getAttr? getAttrBy? getAttrBy
 repeat (any_goals (first | assumption | exact hT _ | ((with_reducible show wpAny _ _ (call (Value.builtin "list.__getattribute__") _ _) _ _ _);refine FB F.slot_list_getattribute (hT _) am_entry_list_getattribute (F.args_list_getattribute_2 _ _) (meets_getattribute_miss_list a xs k sl "keys" _ F.lk_list_keys Aj) ⟨hx,hA,fun h' tk' e hx'=>?_⟩) | wp_step))
 obtain ⟨t',u',he⟩:=hx'.there
 show wpAny _ _ (getattributeRaised _ _ _ _ _ _ _) _ _ _
 unfold getattributeRaised
 repeat (any_goals (first | assumption | wp_step))
 exact h _ _ hx'.keeps
end
section
variable {prog:Program}{w:World}{K:Type}[DecidableEq K]{knd:KeyKind prog w K}{A:Around}{R:Result->Shared->Prop}{I ax d:Addr}{items:Array Value}{kvs:List (K×Value)}
theorem eU (hh:A.in1.handled=none)(hne:ax≠I)(hdI:d≠I)(hda:d≠ax)(len:items.size=kvs.length)(hn:(kvs.map (·.1)).Nodup)(hz:kvs.length<=sizeLine):
  ∀(k i:Nat) (c:Int) (u:Tok) (s:Shared),kvs.length-i=k->i<=kvs.length->s.heap.IsListIter I ax i->s.heap.IsList ax items->s.heap.DictOf knd d (kvs.take i)->vD knd I d items kvs s.heap ->
   (∀h' tk,(∀b o,b≠d->b≠I->s.heap.get? b=some o->h'.get? b=some o)->h'.DictOf knd d kvs->R (.ok (.ret .none)) { s with heap:=h',toks:=tk }) ->
   codeAny (model prog w) A (.builtin "dict.update.loop" ⟨[.ref d,.ref I,.int c u,.none],[]⟩) R s:=by
 intro k
 induction k with
 | zero =>
  intro i c u s hk hi hit ht hd pr hR
  have hin:i=kvs.length:=by lia
  subst hin
  refine Cf F.entry_dict_update_loop ?_
  rw [BU F.plain_dict_update_loop _]
  show wpAny _ A.in1 (pyNext (.ref I) >>= _) _ _ s
  refine gV (Dq hh hit ht (by rw [<-len];simp) fun h' ex=>?_)
  show wpAny _ A.in1 (Builtin.Dict.addKeywords d [] >>= _) _ _ _
  refine gV (Aq ?_)
  refine Aq ?_
  rw [Bx] at hd
  exact hR h' s.toks (fun b o _ h2 e=>ex b o h2 e) (hd.extBut ex hdI)
 | succ k ih =>
  intro i c u s hk hi hit ht hd pr hR
  have hlt:i<kvs.length:=by lia
  obtain ⟨b,key,hb,bd,bI,hbt,hkey⟩:=pr i _ (tx hlt)
  refine Cf F.entry_dict_update_loop ?_
  rw [BU F.plain_dict_update_loop _]
  show wpAny _ A.in1 (pyNext (.ref I) >>= _) _ _ s
  refine gV (De hit ht hb fun h1 hit1 sb1=>?_)
  have ht1:h1.IsList ax items:=ht.extBut sb1.extBut hne
  have hbt1:h1.IsTuple b #[key,kvs[i].2]:=hbt.extBut sb1.extBut bI
  have hd1:h1.DictOf knd d (kvs.take i):=hd.sameBut sb1 hdI
  have hbt2:=hbt1
  obtain ⟨ob,hob,hcb,nb,hdb⟩:=hbt1
  have hT:(Shared.mk h1 s.gens s.drawn s.toks s.os).TypeIs (.ref b) "tuple":=⟨_,hob,hcb⟩
  show wpAny _ A.in1 ((holding [Value.ref b] _) >>= _) _ _ _
  refine gV (A7 ?_)
  refine gV (wpAny_tryCatch ?_)
  unfold Builtin.Dict.pairItems
  refine gV (C8 hT ?_)
  rw [Az Ak]
  refine gV (B0 hob hdb (Aq ?_))
  show wpAny _ A.in1 (holding [key,kvs[i].2] (dictSet d key kvs[i].2)) _ _ _
  refine A7 (wpAny_dictSet_pairs hkey hd1 (fun h2 hd2 sb2=>?_) (by rw [A0];lia))
  have hnew:kvs[i].1∉(kvs.take i).map (·.1):=by
   intro hm
   have hp:((kvs.take i).map (·.1)++(kvs.drop i).map (·.1)).Nodup:=by rw [<-A1,Bb];exact hn
   rw [DC] at hp
   exact hp.2.2 _ hm _ (AK.mpr ⟨kvs[i],by rw [Bn hlt];exact AX,rfl⟩) rfl
  rw [im _ _ _ hnew,show (kvs[i].1,kvs[i].2)=kvs[i] from rfl,E4 hlt] at hd2
  refine Aq ⟨CQ F.plain_dict_update_loop _,ih (i+1) _ _ _ Am hlt (hit1.extBut sb2.extBut (EF hdI)) (ht1.extBut sb2.extBut (EF hda)) hd2 ?_ fun h' tk kp hd'=>?_⟩
  .intro j kv hj
   obtain ⟨b',key',hb',bd',bI',hbt',hkey'⟩:=pr j kv hj
   exact ⟨b',key',hb',bd',bI',(hbt'.extBut sb1.extBut bI').extBut sb2.extBut bd',hkey'⟩
  .exact hR h' tk (fun b o h1' h2' e=>kp b o h1' h2' (sb2.extBut b o h1' (sb1.extBut b o h2' e))) hd'
end
section
variable {prog:Program}{w:World}{K:Type}[DecidableEq K]{knd:KeyKind prog w K}{A:Around}{E:Value->Shared->Prop}{s:Shared}
theorem fW {q:Addr}{kvs:List (K×Value)}(hh:A.handled=none)(ho:s.heap.get? q=some o)(hc:o.cls=.type "list")(hdat:o.data=.seq items n)(hd:o.dict=none)(len:items.size=kvs.length)(hn:(kvs.map (·.1)).Nodup)(hz:kvs.length<=sizeLine)(pr:∀(i:Nat) (kv:K×Value),kvs[i]?=some kv->∃ (b:Addr) (key:Value),items[i]?=some (.ref b)/\s.heap.IsTuple b #[key,kv.2]/\knd.is kv.1 key=true)(h:∀h' tk,(∀b ob,s.heap.get? b=some ob->h'.get? b=some ob)->h'.DictOf knd s.heap.objs.size kvs->Q (.ref s.heap.objs.size) { s with heap:=h',toks:=tk }):
  wpAny (model prog w) A (call (.type "dict") [.ref q]) Q E s:=by
 refine callType_codes (Q₁:=fun obj s₁=>obj=.ref s.heap.objs.size/\s₁={ s with heap:=s.heap.push { cls:=.type "dict",data:=.dict #[] } }) F.kt_called_dict (F.kt_typeCall_dict_1 _) F.entry_dict_init (kt_code_dict_new _ ⟨rfl,rfl⟩) ?_
 rintro obj s₁ ⟨rfl,rfl⟩
 have hnew:(s.heap.push { cls:=.type "dict",data:=.dict #[] }).DictOf knd s.heap.objs.size []:=Fw s.heap
 have ho':(s.heap.push { cls:=.type "dict",data:=.dict #[] }).get? q=some o:=Ap _ ho
 have hlt:q<s.heap.objs.size:=AA ho
 have hT:Shared.TypeIs { s with heap:=s.heap.push { cls:=.type "dict",data:=.dict #[] } } (.ref q) "list":=⟨_,ho',hc⟩
 refine ⟨hnew.typeIs,F.args_dict_init_2 _ _,?_⟩
 unfold Builtin.«dict.__init__»
 refine gV ?_
 unfold Builtin.Dict.selfAndRest
 refine gV (wpAny_notOrdered_dict hnew.typeIs ?_)
 show wpAny _ _ (pure (s.heap.objs.size,[Value.ref q])) _ _ _
 refine Aq ?_
 show wpAny _ _ (Builtin.Dict.updateFrom "dict.__init__" s.heap.objs.size (.ref q) [] .none) _ _ _
 unfold Builtin.Dict.updateFrom
 refine gV (C8 hT ?_)
 rw [Az Ak]
 refine gV ?_
 have hA2:A.in1.in1.handled=none:=by simp [hh]
 refine iH (s:={ s with heap:=s.heap.push { cls:=.type "dict",data:=.dict #[] } }) ho' hc hdat hd hA2 fun h1 tk1 kp1=>?_
 rw [Az (show (none:Option Value).isNone=true from rfl)]
 have ht1:h1.IsList q items:=⟨o,kp1 _ _ ho',hc,n,hdat⟩
 refine gV (B5 (gV (CI (s:={ s with heap:=h1,toks:=tk1 }) ht1 (Aq ⟨CQ F.plain_dict_update_loop _,?_⟩))))
 have hsz:s.heap.objs.size<h1.objs.size:=by
  obtain ⟨o1,h0⟩:∃ o1,(s.heap.push { cls:=.type "dict",data:=.dict #[] }).get? s.heap.objs.size=some o1:=⟨_,AF _ rfl⟩
  exact AA (kp1 _ _ h0)
 have hd1:h1.DictOf knd s.heap.objs.size []:=by
  obtain ⟨o1,es,ep,h0,r⟩:=hnew
  exact ⟨o1,es,ep,kp1 _ _ h0,r⟩
 refine eU (ax:=q) (items:=items) (kvs:=kvs) (knd:=knd) hA2 (AJ (C9 hlt hsz)) (AJ hsz) (BD hlt) len hn hz kvs.length 0 0 0 _ Am (BA _)
  ⟨_,AF _ rfl,rfl,rfl⟩ (ht1.push _) (hd1.push _) (fun i kv hi=>?_) fun h' tk kp hd'=>⟨rfl,?_⟩
 .obtain ⟨b,key,e1,⟨ob,hob,hcb,nb,hdb⟩,e3⟩:=pr i kv hi
  have hb:=AA hob
  exact ⟨b,key,e1,AJ hb,AJ (C9 hb hsz),⟨ob,Ap _ (kp1 _ _ (Ap _ hob)),hcb,nb,hdb⟩,e3⟩
 refine h h' tk (fun b ob e=>?_) hd'
 have hb:=AA e
 exact kp b ob (AJ hb) (AJ (C9 hb hsz)) (Ap _ (kp1 _ _ (Ap _ e)))
end
end PySem
namespace L2
open PySem PySem.W PySem.Spec PySem.Calls PyProof.Rows
section
variable {X:Cx}{pins:List (Addr×Obj)}{U:St}{H:Hp}{s:Shared}{d:Addr}
theorem n6 (hc:X.calm=true):cf X (.type "dict") (fun xs H Q=>∃ (q:Addr) (zs:List V) (kvs:List (Key×V)),xs=[.ref q]/\H q=some (.lst zs)/\PKV H zs kvs/\(kvs.map (·.1)).Nodup/\∀d,H d=none->Q (.ref d) (upd H d (.dK kvs))):=by
 intro pins s U H xs us Q I r h
 obtain ⟨q,zs,kvs,rfl,hq,pr,nd,k⟩:=h
 obtain ⟨u,rfl,rx⟩:=c9 r
 cases rx
 obtain ⟨hz,its,n,rv,ho⟩:=(show _/\∃ (its:List Value) (n:Nat),_/\_ from I.hok q _ hq)
 obtain ⟨vs,rel,pv⟩:=pr.vals I.hok rv
 have l1:=rel.length
 have l2:zs.length=kvs.length:=Bk pr
 have l3:=rv.length
 have nd2:(vs.map (·.1)).Nodup:=by rw [<-rel.keys];exact nd
 refine fW (knd:=mixKind X.prog X.w) (kvs:=vs) (I.ok.hd hc) ho rfl rfl rfl (by simp only [AI];lia) nd2 Am (fun i kv e=>?_) fun h' tk kp dd=>?_
 .obtain ⟨b,key,e1,e2,e3⟩:=pv i kv e
  exact ⟨b,key,by simpa using e1,e2,e3⟩
 have nsm:(s.heap.objs.size == sysModules)=false:=by
  have:=I.big
  simp only [BW]
  exact BD this
 exact ⟨.ref s.heap.objs.size,_,I.laid (o:=.dK kvs) kp (Av _) (iE Am nsm rel dd),rfl,k _ (I.hok.fresh (Av _))⟩
end
end L2
namespace PySem
namespace F
theorem lk_zip_keys:typeLookup (.type "zip") "keys"=pure none:=by rw [Ea,CS];kernel_rfl
theorem lk_zip_ga:typeLookup (.type "zip") "__getattr__"=pure none:=by rw [Ea,CS];kernel_rfl
theorem en_zip_ga:entryFor table "zip.__getattribute__"=some Builtin.«object.__getattribute__»:=FK (id':="object.__getattribute__") (by kernel_rfl) Aj Aj (by kernel_rfl)
end F
theorem v3 (a:Addr)(vs:Array Value)(u:Tok):Meets (Builtin.«object.__getattribute__» ⟨[.ref a,.str "keys" u],[]⟩) (fun A R s=>s.heap.get? a=some { cls:=.type "zip",dict:=none,data:=.fields vs,slots:=#[] }/\raisesAttr (.ref a) "keys" A R s) :=
 Meets.of_wp fun prog w A R s hs=>by
  obtain ⟨hp,g,d,tk,os⟩:=s
  obtain ⟨gx,hs⟩:=hs
  have gT:(⟨hp,g,d,tk,os⟩:Shared).TypeIs (.ref a) "zip":=⟨_,gx,rfl⟩
  have f0:=F.lk_zip_keys
  have gn:(["__module__","__name__","__qualname__","__doc__","__annotations__"]:List Str).contains "keys"=false:=by decide +kernel
  unfold Builtin.«object.__getattribute__»
  repeat (any_goals (first | assumption | wp_step))
  try simp only [gn,AE,Bo]
  repeat (any_goals (first | assumption | wp_step))
  exact wpAny_raiseAttrError hs.1 hs.2 (attrMsg_fits Aj (by size_fits))
section
variable {prog:Program}{w:World}{A:Around}{E:Value->Shared->Prop}{s:Shared}
theorem iY {vs:Array Value}{Q:Option Value->Shared->Prop}(gx:s.heap.get? a=some { cls:=.type "zip",dict:=none,data:=.fields vs,slots:=#[] })(hA:A.handled=none)(h:∀h' tk,(∀b ob,s.heap.get? b=some ob->h'.get? b=some ob)->Q none { s with heap:=h',toks:=tk }):wpAny (model prog w) A (getAttr? (.ref a) "keys") Q E s:=by
 obtain ⟨hp,g,d,tk,os⟩:=s
 have gT:∀tk',(⟨hp,g,d,tk',os⟩:Shared).TypeIs (.ref a) "zip":=fun _=>⟨_,gx,rfl⟩
 have f1:=sub_AttributeError
 have f3:=F.slot_zip_getattribute.lookup
 have f4:=F.slot_zip_getattribute.bind (.ref a)
 have f5:=F.lk_zip_ga
 unfold getAttr? getAttrBy? getAttrBy
 repeat (any_goals (first | assumption | exact gT _ | ((with_reducible show wpAny _ _ (call (Value.builtin "zip.__getattribute__") _ _) _ _ _);refine FB F.slot_zip_getattribute (gT _) F.en_zip_ga (F.args_zip_getattribute_2 _ _) (v3 a vs _) ⟨gx,hA,fun h' tk' e hx'=>?_⟩) | wp_step))
 obtain ⟨t',u',he⟩:=hx'.there
 show wpAny _ _ (getattributeRaised _ _ _ _ _ _ _) _ _ _
 unfold getattributeRaised
 repeat (any_goals (first | assumption | wp_step))
 exact h _ _ hx'.keeps
end
abbrev cq (h:Heap)(z TI TO T:Addr)(f:Bool):Prop :=
 h.get? z=some { cls:=.type "zip",dict:=none,data:=.fields #[rawInt T,.bool f,.bool false,.ref TI,.ref TO],slots:=#[] }
section
variable {prog:Program}{w:World}{A:Around}{E:Value->Shared->Prop}{s:Shared}
theorem zG {z TI TO T:Addr}{f:Bool}{Q:Bool->Shared->Prop}(gz:cq s.heap z TI TO T f)(gT:s.heap.get? T=some oT)(gQ:∀h',cq h' z TI TO T true->Heap.SameBut z s.heap h'->Q false { s with heap:=h' }):wpAny (model prog w) A (Builtin.SmallTypes.ownedTupleIsFree (.ref z)) Q E s:=by
 unfold Builtin.SmallTypes.ownedTupleIsFree
 refine gV (BI gz rfl (x:=rawInt T) rfl ?_)
 show wpAny _ _ (loadIfAlive ((T:Int).toNat) >>= _) _ _ _
 rw [BQ]
 refine gV (PySem.W.kdx_alive gT ?_)
 simp only [Option.isNone_some,AE,Bo]
 refine gV (BI gz rfl (x:=.bool f) rfl ?_)
 cases f with
 | true =>
  have nn:¬ ((Value.bool true != Value.bool true)=true):=AL
  rw [Ay nn]
  exact Aq (gQ _ gz (E2 _ _))
 | false =>
  have nn:(Value.bool false != Value.bool true)=true:=rfl
  rw [Az nn]
  exact gV (Br gz An fun h' g' k'=>Aq (gQ h' g' k'))
theorem tS {z TI TO T:Addr}{f:Bool}{k:Nat}{xs:Array Value}{x y:Value}(D:ZipApart z TI TO i1 i2 l1 l2)(gz:cq s.heap z TI TO T f)(gT:s.heap.get? T=some oT)(gI:IsPair s.heap TI (.ref i1) (.ref i2))(g1:s.heap.ItS b1 i1 l1 k)(g2:s.heap.ItS b2 i2 l2 k)(m1:s.heap.SqS b1 l1 xs)(m2:s.heap.SqS b2 l2 ys)(ex:xs[k]?=some x)(ey:ys[k]?=some y)(gQ:∀h',cq h' z TI TO T true->h'.ItS b1 i1 l1 (k+1)->h'.ItS b2 i2 l2 (k+1)->IsPair h' s.heap.objs.size x y->(∀c o,c∉[z,i1,i2]->s.heap.get? c=some o->h'.get? c=some o)->Q (.ref s.heap.objs.size) { s with heap:=h' }):
  wpAny (model prog w) A (Builtin.«zip.__next__» ⟨[.ref z],[]⟩) (fun fin s'=>∃ v,fin=.done (.ret v)/\Q v s') E s:=by
 show wpAny _ _ (field (Value.ref z) 2 >>= _) _ _ _
 refine gV (BI gz rfl (x:=.bool false) rfl ?_)
 show wpAny _ _ (field (Value.ref z) 3 >>= _) _ _ _
 refine gV (BI gz rfl (x:=.ref TI) rfl (gV (B0 gI rfl ?_)))
 show wpAny _ _ (Builtin.SmallTypes.ownedTupleIsFree (Value.ref z) >>= _) _ _ _
 refine gV (zG gz gT fun ha gza ka=>?_)
 simp only [AE,Bo]
 refine gV ?_
 simp only [List.forIn_toArray,CY,DJ]
 refine gV (gV (A7 ?_))
 show wpAny _ _ (Builtin.SmallTypes.nextOf (Value.ref i1) >>= _) _ _ _
 refine gV (cM (g1.at' fun o=>ka.extBut _ o D.i1z) (m1.at' fun o=>ka.extBut _ o D.l1z) ex fun hb g1b kb=>Aq (Aq ?_))
 refine gV (gV (A7 ?_))
 show wpAny _ _ (Builtin.SmallTypes.nextOf (Value.ref i2) >>= _) _ _ _
 refine gV (cM (g2.at' fun o e=>kb.extBut _ o D.i12.symm (ka.extBut _ o D.i2z e)) (m2.at' fun o e=>kb.extBut _ o D.l2i1 (ka.extBut _ o D.l2z e)) ey fun hc g2c kc=>Aq (Aq (Aq ?_)))
 refine gV (DH ?_ (show 2<=sizeLine by decide))
 have sz:hc.objs.size=s.heap.objs.size:=by rw [kc.1,kb.1,ka.1]
 refine Aq ⟨_,rfl,?_⟩
 have up:∀c o,hc.get? c=some o->(hc.push { cls:=.type "tuple",data:=.seq #[x,y] }).get? c=some o:=fun c o e=>Ap _ e
 have gP:IsPair (hc.push { cls:=.type "tuple",data:=.seq #[x,y] }) s.heap.objs.size x y:=by rw [<-sz];exact AF _ rfl
 show Q (.ref hc.objs.size) _
 rw [sz]
 refine gQ _ (up _ _ (kc.extBut _ _ D.i2z.symm (kb.extBut _ _ D.i1z.symm gza))) (g1b.at' fun o e=>up _ o (kc.extBut _ o D.i12 e)) (g2c.at' fun o e=>up _ o e) gP fun c o n e=>up c o ?_
 simp only [Aw,Ax,Bg,not_or] at n
 exact kc.extBut _ _ n.2.2 (kb.extBut _ _ n.2.1 (ka.extBut _ _ n.1 e))
theorem vI {z TI TO T:Addr}{f:Bool}{k:Nat}{xs:Array Value}{Q:Fin->Shared->Prop}(hA:A.handled=none)(D:ZipApart z TI TO i1 i2 l1 l2)(gz:cq s.heap z TI TO T f)(gT:s.heap.get? T=some oT)(gI:IsPair s.heap TI (.ref i1) (.ref i2))(g1:s.heap.ItS b1 i1 l1 k)(g2:s.heap.ItS b2 i2 l2 k)(m1:s.heap.SqS b1 l1 xs)(m2:s.heap.SqS b2 l2 ys)(ge:xs[k]?=none∨ys[k]?=none)(gE:∀h' e,(∀c o,c∉[z,TO,i1,i2]->s.heap.get? c=some o->h'.get? c=some o)->(∃ o,h'.get? e=some o/\o.cls=.type "StopIteration")->E (.ref e) { s with heap:=h' }):
  wpAny (model prog w) A (Builtin.«zip.__next__» ⟨[.ref z],[]⟩) Q E s:=by
 have un:∀c,c∉[z,TO,i1,i2]->c≠z/\c≠TO/\c≠i1/\c≠i2:=fun c n=>by
  simpa only [Aw,Ax,Bg,not_or] using n
 show wpAny _ _ (field (Value.ref z) 2 >>= _) _ _ _
 refine gV (BI gz rfl (x:=.bool false) rfl ?_)
 show wpAny _ _ (field (Value.ref z) 3 >>= _) _ _ _
 refine gV (BI gz rfl (x:=.ref TI) rfl (gV (B0 gI rfl ?_)))
 show wpAny _ _ (Builtin.SmallTypes.ownedTupleIsFree (Value.ref z) >>= _) _ _ _
 refine gV (zG gz gT fun ha gza ka=>?_)
 simp only [AE,Bo]
 refine gV ?_
 simp only [List.forIn_toArray,CY,DJ]
 refine gV (gV (A7 ?_))
 show wpAny _ _ (Builtin.SmallTypes.nextOf (Value.ref i1) >>= _) _ _ _
 cases ex:xs[k]? with
 | none =>
  exact gV (gH hA (g1.at' fun o=>ka.extBut _ o D.i1z) (m1.at' fun o=>ka.extBut _ o D.l1z) ex fun hb e kb he=>gE hb e (fun c o n q=>kb _ _ (un c n).2.2.1 (ka.extBut _ _ (un c n).1 q)) he)
 | some x =>
  have ey:ys[k]?=none:=by
   rcases ge with q | q
   .rw [ex] at q;cases q
   .exact q
  refine gV (cM (g1.at' fun o=>ka.extBut _ o D.i1z) (m1.at' fun o=>ka.extBut _ o D.l1z) ex fun hb g1b kb=>Aq (Aq ?_))
  refine gV (gV (A7 ?_))
  show wpAny _ _ (Builtin.SmallTypes.nextOf (Value.ref i2) >>= _) _ _ _
  exact gV (gH hA (g2.at' fun o e=>kb.extBut _ o D.i12.symm (ka.extBut _ o D.i2z e)) (m2.at' fun o e=>kb.extBut _ o D.l2i1 (ka.extBut _ o D.l2z e)) ey fun hc e kc he=>gE hc e (fun c o n q=>kc _ _ (un c n).2.2.2 (kb.extBut _ _ (un c n).2.2.1 (ka.extBut _ _ (un c n).1 q))) he)
def ZdAt (b1 b2:Bool)(z TI TO i1 i2 l1 l2:Addr)(k:Nat)(h:Heap):Prop :=
 (IsZip h z TI TO .none∨∃ T f oT,cq h z TI TO T f/\h.get? T=some oT/\T∉[z,TI,TO,i1,i2])/\IsPair h TI (.ref i1) (.ref i2)/\(∃ a b,IsPair h TO a b)/\h.ItS b1 i1 l1 k/\h.ItS b2 i2 l2 k
theorem ZdAt.keep {z TI TO:Addr}{k:Nat}(q:ZdAt b1 b2 z TI TO i1 i2 l1 l2 k h){d:Addr}(hd:d∉[z,TI,TO,i1,i2])(hT:∀T f,cq h z TI TO T f->T≠d)(kp:∀b o,b≠d->h.get? b=some o->h'.get? b=some o):ZdAt b1 b2 z TI TO i1 i2 l1 l2 k h':=by
 obtain ⟨a,b,⟨c1,c2,c⟩,e1,e2⟩:=q
 have n:∀x∈[z,TI,TO,i1,i2],x≠d:=fun x hx e=>hd (e▸hx)
 refine ⟨?_,kp _ _ (n _ An) b,⟨_,_,kp _ _ (n _ An) c⟩,e1.at' fun o=>kp _ o (n _ An),e2.at' fun o=>kp _ o (n _ An)⟩
 rcases a with a | ⟨T,f,oT,a,g,m⟩
 .exact .inl (kp _ _ (n _ An) a)
 exact .inr ⟨T,f,oT,kp _ _ (n _ An) a,kp _ _ (hT T f a) g,m⟩
theorem u5 {z TI TO:Addr}{k:Nat}{xs:Array Value}{x y:Value}{Q:Option Value->Shared->Prop}(D:ZipApart z TI TO i1 i2 l1 l2)(gz:ZdAt b1 b2 z TI TO i1 i2 l1 l2 k s.heap)(m1:s.heap.SqS b1 l1 xs)(m2:s.heap.SqS b2 l2 ys)(ex:xs[k]?=some x)(ey:ys[k]?=some y)(gQ:∀h',ZdAt b1 b2 z TI TO i1 i2 l1 l2 (k+1) h'->(∀T f,cq h' z TI TO T f->T=s.heap.objs.size∨∃ f',cq s.heap z TI TO T f')->IsPair h' s.heap.objs.size x y->(∀c o,c∉[z,TO,i1,i2]->s.heap.get? c=some o->h'.get? c=some o)->Q (some (.ref s.heap.objs.size)) { s with heap:=h' }):
  wpAny (model prog w) A (pyNext (.ref z)) Q E s:=by
 obtain ⟨a,b,⟨c1,c2,c⟩,e1,e2⟩:=gz
 have nI:TI∉[z,TO,i1,i2]:=fun q=>by
  simp only [Aw,Ax,Bg] at q
  rcases q with q | q | q | q
  .exact D.TIz q
  .exact D.TITO q
  .exact D.TIi1 q
  .exact D.TIi2 q
 have lt:∀b o,s.heap.get? b=some o->s.heap.objs.size≠b:=fun b o e=>BD (AA e)
 rcases a with a | ⟨T,f,oT,a,g,m⟩
 .refine iP D a b c e1 e2 m1 m2 ex ey fun h' w1 w2 w3 w4 w5 kp=>gQ h' ⟨.inr ⟨_,_,_,w1,w5,fun q=>?_⟩,kp _ _ nI b,⟨_,_,w2⟩,w3,w4⟩ (fun T f e=>?_) w5 kp
  .simp only [Aw,Ax,Bg] at q
   rcases q with q | q | q | q | q
   .exact lt _ _ a q
   .exact lt _ _ b q
   .exact lt _ _ c q
   .exact absurd q (BD e1.lt)
   .exact absurd q (BD e2.lt)
  .have e:some _=some _:=w1.symm.trans e
   simp only [Option.some.injEq,Obj.mk.injEq,Data.fields.injEq,Array.mk.injEq,Fx,rawInt,Value.int.injEq] at e
   exact .inl (by have:=e.2.2.1.1.1;exact (Int.ofNat.inj this).symm)
 have gT:s.TypeIs (.ref z) "zip":=⟨_,a,rfl⟩
 unfold pyNext
 refine gV (Du (Bm (name:=Str.ofString "__next__") gT F.slot_zip_next (Bp F.slot_zip_next gT F.entry_zip_next (tS D a g b e1 e2 m1 m2 ex ey fun h' w1 w3 w4 w5 kp=>Aq ?_) (F.args_zip_next_1 _))))
 have mm:∀c,c∈[z,i1,i2]->c∈[z,TI,TO,i1,i2]:=fun c q=>by
  simp only [Aw,Ax,Bg] at q ⊢
  rcases q with q | q | q <;> simp [q]
 have mn:∀c,c∈[z,i1,i2]->c∈[z,TO,i1,i2]:=fun c q=>by
  simp only [Aw,Ax,Bg] at q ⊢
  rcases q with q | q | q <;> simp [q]
 have nO:TO∉[z,i1,i2]:=fun q=>by
  simp only [Aw,Ax,Bg] at q
  rcases q with q | q | q
  .exact D.TOz q
  .exact D.TOi1 q
  .exact D.TOi2 q
 refine gQ h' ⟨.inr ⟨T,_,_,w1,kp _ _ (fun q=>m (mm _ q)) g,m⟩,kp _ _ (fun q=>nI (mn _ q)) b,⟨_,_,kp _ _ nO c⟩,w3,w4⟩ (fun T' f' e=>?_) w5 fun c o n=>kp c o fun q=>n (mn _ q)
 have e:some _=some _:=w1.symm.trans e
 simp only [Option.some.injEq,Obj.mk.injEq,Data.fields.injEq,Array.mk.injEq,Fx,rawInt,Value.int.injEq] at e
 have:T=T':=Int.ofNat.inj e.2.2.1.1.1
 subst this
 exact .inr ⟨_,a⟩
theorem xK {z TI TO:Addr}{k:Nat}{xs:Array Value}{Q:Option Value->Shared->Prop}(hA:A.handled=none)(D:ZipApart z TI TO i1 i2 l1 l2)(gz:ZdAt b1 b2 z TI TO i1 i2 l1 l2 k s.heap)(m1:s.heap.SqS b1 l1 xs)(m2:s.heap.SqS b2 l2 ys)(ge:xs[k]?=none∨ys[k]?=none)(gQ:∀h',(∀c o,c∉[z,TO,i1,i2]->s.heap.get? c=some o->h'.get? c=some o)->Q none { s with heap:=h' }):
  wpAny (model prog w) A (pyNext (.ref z)) Q E s:=by
 obtain ⟨a,b,⟨c1,c2,c⟩,e1,e2⟩:=gz
 rcases a with a | ⟨T,f,oT,a,g,m⟩
 .exact je hA D a b c e1 e2 m1 m2 ge gQ
 have gT:s.TypeIs (.ref z) "zip":=⟨_,a,rfl⟩
 unfold pyNext
 refine gV (Du (Bm (name:=Str.ofString "__next__") gT F.slot_zip_next (Bp F.slot_zip_next gT F.entry_zip_next (vI hA D a g b e1 e2 m1 m2 ge fun h' e kp ⟨o,go,gc⟩=>?_) (F.args_zip_next_1 _))))
 exact gV (DR (T:="StopIteration") (b:=true) ⟨o,go,gc⟩ EW (Aq (gQ _ kp)))
end
section
variable {prog:Program}{w:World}{K:Type}[DecidableEq K]{knd:KeyKind prog w K}{A:Around}{R:Result->Shared->Prop}{b1 b2:Bool}{z TI TO i1 i2 l1 l2 d:Addr}{xs ys:Array Value}{kvs:List (K×Value)}
theorem eG (hA:A.in1.handled=none)(D:ZipApart z TI TO i1 i2 l1 l2)(dz:d∉[z,TI,TO,i1,i2])(dl1:l1≠d)(dl2:l2≠d)(len:min xs.size ys.size=kvs.length)(hn:(kvs.map (·.1)).Nodup)(hz:kvs.length<=sizeLine)(pr:∀(i:Nat) (kv:K×Value),kvs[i]?=some kv->∃ key:Value,xs[i]?=some key/\ys[i]?=some kv.2/\knd.is kv.1 key=true):
  ∀(k i:Nat) (c:Int) (u:Tok) (s:Shared),kvs.length-i=k->i<=kvs.length->ZdAt b1 b2 z TI TO i1 i2 l1 l2 i s.heap->(∀T f,cq s.heap z TI TO T f->T≠d)->s.heap.SqS b1 l1 xs->s.heap.SqS b2 l2 ys->s.heap.DictOf knd d (kvs.take i) ->
   (∀h' tk,(∀b o,b≠d->b∉[z,TO,i1,i2]->s.heap.get? b=some o->h'.get? b=some o)->h'.DictOf knd d kvs->R (.ok (.ret .none)) { s with heap:=h',toks:=tk }) ->
   codeAny (model prog w) A (.builtin "dict.update.loop" ⟨[.ref d,.ref z,.int c u,.none],[]⟩) R s:=by
 have nd:∀x∈[z,TI,TO,i1,i2],x≠d:=fun x hx e=>dz (e▸hx)
 have d4:d∉[z,TO,i1,i2]:=fun q=>dz (by
  simp only [Aw,Ax,Bg] at q ⊢
  rcases q with q | q | q | q <;> simp [q])
 have n1:l1∉[z,TO,i1,i2]:=fun q=>by
  simp only [Aw,Ax,Bg] at q
  rcases q with q | q | q | q
  .exact D.l1z q
  .exact D.l1TO q
  .exact D.l1i1 q
  .exact D.l1i2 q
 have n2:l2∉[z,TO,i1,i2]:=fun q=>by
  simp only [Aw,Ax,Bg] at q
  rcases q with q | q | q | q
  .exact D.l2z q
  .exact D.l2TO q
  .exact D.l2i1 q
  .exact D.l2i2 q
 intro k
 induction k with
 | zero =>
  intro i c u s hk hi st hT m1 m2 hd hR
  have hin:i=kvs.length:=by lia
  subst hin
  refine Cf F.entry_dict_update_loop ?_
  rw [BU F.plain_dict_update_loop _]
  show wpAny _ A.in1 (pyNext (.ref z) >>= _) _ _ s
  refine gV (xK hA D st m1 m2 ?_ fun h' kp=>?_)
  .rcases Nat.le_total xs.size ys.size with q | q
   .exact .inl (Ec Am)
   .exact .inr (Ec Am)
  show wpAny _ A.in1 (Builtin.Dict.addKeywords d [] >>= _) _ _ _
  refine gV (Aq ?_)
  refine Aq ?_
  rw [Bx] at hd
  refine hR h' s.toks (fun b o _ h2 e=>kp b o h2 e) ?_
  obtain ⟨o1,es,ep,h0,r⟩:=hd
  exact ⟨o1,es,ep,kp _ _ d4 h0,r⟩
 | succ k ih =>
  intro i c u s hk hi st hT m1 m2 hd hR
  have hlt:i<kvs.length:=by lia
  obtain ⟨key,ex,ey,hkey⟩:=pr i _ (tx hlt)
  refine Cf F.entry_dict_update_loop ?_
  rw [BU F.plain_dict_update_loop _]
  show wpAny _ A.in1 (pyNext (.ref z) >>= _) _ _ s
  have dlt:d<s.heap.objs.size:=by
   obtain ⟨o1,es,ep,h0,r⟩:=hd
   exact AA h0
  refine gV (u5 D st m1 m2 ex ey fun h1 st1 hT1 hp kp=>?_)
  have hd1:h1.DictOf knd d (kvs.take i):=by
   obtain ⟨o1,es,ep,h0,r⟩:=hd
   exact ⟨o1,es,ep,kp _ _ d4 h0,r⟩
  have gT:(Shared.mk h1 s.gens s.drawn s.toks s.os).TypeIs (.ref s.heap.objs.size) "tuple":=⟨_,hp,rfl⟩
  show wpAny _ A.in1 ((holding [Value.ref s.heap.objs.size] _) >>= _) _ _ _
  refine gV (A7 ?_)
  refine gV (wpAny_tryCatch ?_)
  unfold Builtin.Dict.pairItems
  refine gV (C8 gT ?_)
  rw [Az Ak]
  refine gV (B0 hp rfl (Aq ?_))
  show wpAny _ A.in1 (holding [key,kvs[i].2] (dictSet d key kvs[i].2)) _ _ _
  refine A7 (wpAny_dictSet_pairs hkey hd1 (fun h2 hd2 sb2=>?_) (by rw [A0];lia))
  have hnew:kvs[i].1∉(kvs.take i).map (·.1):=by
   intro hm
   have hp:((kvs.take i).map (·.1)++(kvs.drop i).map (·.1)).Nodup:=by rw [<-A1,Bb];exact hn
   rw [DC] at hp
   exact hp.2.2 _ hm _ (AK.mpr ⟨kvs[i],by rw [Bn hlt];exact AX,rfl⟩) rfl
  rw [im _ _ _ hnew,show (kvs[i].1,kvs[i].2)=kvs[i] from rfl,E4 hlt] at hd2
  have hT1':∀T f,cq h1 z TI TO T f->T≠d:=fun T f e=>by
   rcases hT1 T f e with q | ⟨f',q⟩
   .rw [q];exact BD dlt
   .exact hT T f' q
  refine Aq ⟨CQ F.plain_dict_update_loop _,ih (i+1) _ _ _ Am hlt (st1.keep dz hT1' fun b o n e=>sb2.extBut b o n e) (fun T f e=>?_) (m1.at' fun o e=>sb2.extBut _ o dl1 (kp _ o n1 e)) (m2.at' fun o e=>sb2.extBut _ o dl2 (kp _ o n2 e)) hd2 fun h' tk kp' hd'=>?_⟩
  .exact hT1' T f ((sb2.2 z (nd z An)).symm.trans e)
  .exact hR h' tk (fun b o h1' h2' e=>kp' b o h1' h2' (sb2.extBut b o h1' (kp b o h2' e))) hd'
end
section
variable {prog:Program}{w:World}{K:Type}[DecidableEq K]{knd:KeyKind prog w K}{A:Around}{E:Value->Shared->Prop}{s:Shared}
theorem iZ {z TI TO:Addr}{xs:Array Value}{kvs:List (K×Value)}(hh:A.handled=none)(D:ZipApart z TI TO i1 i2 l1 l2)(gz:IsZip s.heap z TI TO .none)(gI:IsPair s.heap TI (.ref i1) (.ref i2))(gO:∃ a b,IsPair s.heap TO a b)(g1:s.heap.ItS b1 i1 l1 0)(g2:s.heap.ItS b2 i2 l2 0)(m1:s.heap.SqS b1 l1 xs)(m2:s.heap.SqS b2 l2 ys)(len:min xs.size ys.size=kvs.length)(hn:(kvs.map (·.1)).Nodup)(hz:kvs.length<=sizeLine)(pr:∀(i:Nat) (kv:K×Value),kvs[i]?=some kv->∃ key:Value,xs[i]?=some key/\ys[i]?=some kv.2/\knd.is kv.1 key=true)(h:∀h' tk,(∀b ob,b∉[z,TO,i1,i2]->s.heap.get? b=some ob->h'.get? b=some ob)->h'.DictOf knd s.heap.objs.size kvs->Q (.ref s.heap.objs.size) { s with heap:=h',toks:=tk }):
  wpAny (model prog w) A (call (.type "dict") [.ref z]) Q E s:=by
 refine callType_codes (Q₁:=fun obj s₁=>obj=.ref s.heap.objs.size/\s₁={ s with heap:=s.heap.push { cls:=.type "dict",data:=.dict #[] } }) F.kt_called_dict (F.kt_typeCall_dict_1 _) F.entry_dict_init (kt_code_dict_new _ ⟨rfl,rfl⟩) ?_
 rintro obj s₁ ⟨rfl,rfl⟩
 have hnew:(s.heap.push { cls:=.type "dict",data:=.dict #[] }).DictOf knd s.heap.objs.size []:=Fw s.heap
 have ho':(s.heap.push { cls:=.type "dict",data:=.dict #[] }).get? z=some _:=Ap _ gz
 have gT:Shared.TypeIs { s with heap:=s.heap.push { cls:=.type "dict",data:=.dict #[] } } (.ref z) "zip":=⟨_,ho',rfl⟩
 refine ⟨hnew.typeIs,F.args_dict_init_2 _ _,?_⟩
 unfold Builtin.«dict.__init__»
 refine gV ?_
 unfold Builtin.Dict.selfAndRest
 refine gV (wpAny_notOrdered_dict hnew.typeIs ?_)
 show wpAny _ _ (pure (s.heap.objs.size,[Value.ref z])) _ _ _
 refine Aq ?_
 show wpAny _ _ (Builtin.Dict.updateFrom "dict.__init__" s.heap.objs.size (.ref z) [] .none) _ _ _
 unfold Builtin.Dict.updateFrom
 refine gV (C8 gT ?_)
 rw [Az Ak]
 refine gV ?_
 have hA2:A.in1.in1.handled=none:=by simp [hh]
 refine iY (s:={ s with heap:=s.heap.push { cls:=.type "dict",data:=.dict #[] } }) ho' hA2 fun h1 tk1 kp1=>?_
 rw [Az (show (none:Option Value).isNone=true from rfl)]
 have kq:∀b o,s.heap.get? b=some o->h1.get? b=some o:=fun b o e=>kp1 _ _ (Ap _ e)
 have gz1:IsZip h1 z TI TO .none:=kq _ _ gz
 refine gV (B5 (gV (Fg (s:={ s with heap:=h1,toks:=tk1 }) gz1 (Aq ⟨CQ F.plain_dict_update_loop _,?_⟩))))
 have hd1:h1.DictOf knd s.heap.objs.size []:=by
  obtain ⟨o1,es,ep,h0,r⟩:=hnew
  exact ⟨o1,es,ep,kp1 _ _ h0,r⟩
 have lt:∀b o,s.heap.get? b=some o->s.heap.objs.size≠b:=fun b o e=>BD (AA e)
 obtain ⟨c1,c2,gO⟩:=gO
 refine eG (xs:=xs) (ys:=ys) (kvs:=kvs) (knd:=knd) (b1:=b1) (b2:=b2) hA2 D (fun q=>?_) (AJ (L2.SqS.lt m1)) (AJ (L2.SqS.lt m2)) len hn hz pr kvs.length 0 0 0 _ Am (BA _)
  ⟨.inl gz1,kq _ _ gI,⟨_,_,kq _ _ gO⟩,g1.at' fun o=>kq _ o,g2.at' fun o=>kq _ o⟩ (fun T f e=>?_) (m1.at' fun o=>kq _ o) (m2.at' fun o=>kq _ o) hd1 fun h' tk kp hd'=>⟨rfl,?_⟩
 .simp only [Aw,Ax,Bg] at q
  rcases q with q | q | q | q | q
  .exact lt _ _ gz q
  .exact lt _ _ gI q
  .exact lt _ _ gO q
  .exact absurd q (BD g1.lt)
  .exact absurd q (BD g2.lt)
 .have e:some _=some _:=gz1.symm.trans e
  simp [rawInt] at e
 exact h h' tk (fun b ob n e=>kp b ob (AJ (AA e)) n (kq _ _ e)) hd'
end
end PySem
namespace L2
open PySem PySem.W PySem.Spec PySem.Calls PyProof.Rows
section
variable {X:Cx}
def y6 (ta:TA):TE:=fun U H Q=>ta U H fun vs H1=>∃ (l1 l2:Addr) (xs ys:List V) (kvs:List (Key×V)),vs=[.ref l1,.ref l2]/\H1 l1=some (.lst xs)/\H1 l2=some (.lst ys)/\min xs.length ys.length=kvs.length/\(kvs.map (·.1)).Nodup/\(∀(i:Nat) (kv:Key×V),kvs[i]?=some kv->xs[i]?=some (kV kv.1)/\ys[i]?=some kv.2)/\∀d,H1 d=none->Q (.ref d) (upd H1 d (.dK kvs))
theorem rN {H:Hp}:∀{kvs:List (Key×V)} {ys:List V} {vs:List Value},kvs.length<=ys.length->Vals ys vs->(∀(i:Nat) (kv:Key×V),kvs[i]?=some kv->ys[i]?=some kv.2)->∃ ws:List (Key×Value),KV kvs ws/\∀(i:Nat) (kw:Key×Value),ws[i]?=some kw->(∃ kv:Key×V,kvs[i]?=some kv/\kv.1=kw.1)/\vs[i]?=some kw.2
 | [],ys,vs,_,_,_=>⟨[],.nil,fun i kw e=>by cases i <;> cases e⟩
 | kv::kvs,[],vs,hl,_,_=>by simp at hl
 | kv::kvs,y::ys,vs,hl,r,hp=>by
  cases r with
  | @cons _ u _ us ru rus =>
   obtain ⟨ws,r1,r2⟩:=rN (H:=H) (kvs:=kvs) (by simpa using hl) rus fun i kv e=>hp (i+1) kv e
   have e0:=hp 0 kv rfl
   cases e0
   refine ⟨(kv.1,u)::ws,.cons ⟨rfl,ru⟩ r1,fun i kw e=>?_⟩
   cases i with
   | zero=>cases e;exact ⟨⟨kv,rfl,rfl⟩,rfl⟩
   | succ i=>exact r2 i kw e
theorem vF {a b:Expr}{p p2 pos2:Pos}(hc:X.calm=true)(hg:Gl X "zip")(hm:X.mg "zip"=none)(hg2:Gl X "dict")(hm2:X.mg "dict"=none)(ha:QA X [a,b] ta)(hs:starEach [a,b] X.env=[(false,eval a X.env),(false,eval b X.env)]:=by rfl)(hs2:starEach [b] X.env=[(false,eval b X.env)]:=by rfl)(hs3:starEach [.Call (.Name "zip" p) [a,b] [] pos] X.env=[(false,eval (.Call (.Name "zip" p) [a,b] [] pos) X.env)]:=by rfl):
  QE X (.Call (.Name "dict" p2) [.Call (.Name "zip" p) [a,b] [] pos] [] pos2) (y6 ta):=.mk (by
 have ha:=ha.to
 intro pins s U H Q I h
 refine Call_ (cB I hg2 hm2 boot_dict (Bt ?_ hs3 rfl))
 rw [hs3]
 refine Cs ?_
 refine Call_ (cB I hg hm boot_zip (Bt (thn (ha pos pins s U H _ I h) fun us s1 ⟨vs,H1,I1,r1,q1⟩=>?_) (by rw [hs,hs2]) (by rw [hs2];rfl)))
 obtain ⟨l1,l2,xs,ys,kvs,e,h1,h2,len,nd,pr,q⟩:=q1
 subst e
 cases r1 with
 | cons r rr =>
  cases rr with
  | cons r' rr =>
   cases rr
   cases r
   cases r'
   obtain ⟨its1,rv1,m1⟩:=I1.sqM (b:=false) h1
   obtain ⟨its2,rv2,m2⟩:=I1.sqM (b:=false) h2
   have z1:xs.length<=sizeLine:=(I1.lstM h1).1
   have k1:=rv1.length
   have k2:=rv2.length
   refine lL m1 m2 (CH ?_)
   have lt1:=SqS.lt m1
   have lt2:=SqS.lt m2
   generalize en:s1.heap.objs.size=n at lt1 lt2 ⊢
   have st:=lM (b1:=false) (b2:=false) (l1:=l1) (l2:=l2) en
   have I2:Inv X pins U H1 { s1 with heap:=c8 false false s1.heap l1 l2 n }:=I1.kept (t':=s1.toks) dh
   obtain ⟨ws,rel,pw⟩:=rN (H:=H1) Am rv2 fun i kv e=>(pr i kv e).2
   have l3:=rel.length
   have nd2:(ws.map (·.1)).Nodup:=by rw [<-rel.keys];exact nd
   have sz:(c8 false false s1.heap l1 l2 n).objs.size=n+5:=by simp only [BB,en]
   obtain ⟨sa,sb,sc,sd,se⟩:=st
   refine iZ (s:={ s1 with heap:=c8 false false s1.heap l1 l2 n }) (knd:=mixKind X.prog X.w) (kvs:=ws) (I.ok.hd hc) (xj lt1 lt2) sa sb sc sd se (m1.at' fun o=>dh _ o) (m2.at' fun o=>dh _ o) (by simp only [AI];lia) nd2 Am (fun i kw e=>?_) fun h' tk kp dd=>?_
   .obtain ⟨⟨kv,e1,e2⟩,e3⟩:=pw i kw e
    obtain ⟨u,hu,ru⟩:=rv1.get (pr i kv e1).1
    exact ⟨u,by rw [A5];exact hu,by rw [A5];exact e3,by rw [<-e2];exact dA ru⟩
   .have kk:∀b o,s1.heap.get? b=some o->h'.get? b=some o:=fun b o e=>kp b o (fun qq=>by
     have lb:@LT.lt Nat _ b n:=by rw [<-en];exact AA e
     simp only [Aw,Ax,Bg] at qq
     rcases qq with qq | qq | qq | qq
     .exact absurd lb (by rw [show b=n+4 from qq];exact FC.mpr (Cc n 4))
     .exact absurd lb (by rw [show b=n+3 from qq];exact FC.mpr (Cc n 3))
     .exact absurd lb (by rw [show b=n from qq];exact CD _)
     .exact absurd lb (by rw [show b=n+1 from qq];exact FC.mpr (Cc n 1))) (dh b o e)
    have nsm:((c8 false false s1.heap l1 l2 n).objs.size == sysModules)=false:=by
     have:=I2.big
     simp only [BW]
     exact BD this
    have ge:s1.heap.objs.size<=(c8 false false s1.heap l1 l2 n).objs.size:=by rw [sz,en];exact Cc n 5
    exact ⟨.ref (c8 false false s1.heap l1 l2 n).objs.size,_,I1.laid (o:=.dK kvs) kk ge (iE Am nsm rel dd),rfl,q _ (I1.hok.fresh ge)⟩)
end
end L2
namespace Wb
open PySem L2
section
variable {web:Web}{first:Str}{L:Tb}{F S:List Str}
variable {name:Str}{ds:Web}
structure GL (web:Web)(first:Str)(L:Tb)(led:List Str)(k:Nat):Prop where
 nd:led.Nodup
 fst:first∈led
 rch:∀n∈led,oI web first L n
 clo:∀j r,j<k->r∈web->wL L r->led[j]?=some r.1->r.2.1∈led
end
end Wb
namespace HT
open PySem PyProof.Rows
section
variable {prog:Program}{w:World}{A:Around}{E:Value->Shared->Prop}{s:Shared}
theorem getItem_tuple_whole {t sl:Addr}{vl vu:Value}{lo:Option Int}(ht:IsTup s.heap t items)(hs:s.heap.IsSliceOf sl vl vu .none)(pl:IsPart vl lo)(pu:IsPart vu hi)(hw:sIx items.size 0 lo=0/\sIx items.size items.size hi=items.size)(h:Q (.ref t) s)(hsz:items.size<=sizeLine):wpAny (model prog w) A (getItem (.ref t) (.ref sl)) Q E s:=by
 have hj:sIx items.size items.size hi<=items.size:=sn _ _ (Av _) hi
 obtain ⟨os,hos,hcs,hds⟩:=id hs
 have hTs:s.TypeIs (.ref sl) "slice":=⟨os,hos,hcs⟩
 unfold getItem
 try with_reducible refine A7 ?_
 first | refine gV (Aq ?_) | skip
 refine gV (wpAny_sequenceKey ht.typeIs Ak ?_)
 refine gV (Bm (name:=Str.ofString "__getitem__") ht.typeIs BJ
  (Bp BJ ht.typeIs entry_tuple_getitem ?_ (args_tuple_getitem _ _)))
 show wpAny _ _ (Builtin.Tuple.tupleItemsOf (.ref t) >>= _) _ _ s
 refine gV (tupleItemsOf_ ht ?_)
 refine gV (C8 hTs ?_)
 rw [Az Ak]
 refine gV (cJ hs pl pu ?_)
 have hyes:(((sIx items.size 0 lo:Nat):Int) == 0&&(1:Int) == 1&&(sIx items.size items.size hi-sIx items.size 0 lo) == items.size)=true:=by rw [hw.1,hw.2];simp
 show wpAny _ _ (if (((sIx items.size 0 lo:Nat):Int) == 0&&(1:Int) == 1&&(sIx items.size items.size hi-sIx items.size 0 lo) == items.size)=true then _ else _) _ _ s
 rw [Az hyes]
 refine gV (m:=Builtin.Tuple.tupleIsExact _) (gV (C8 ht.typeIs (Aq ?_)))
 rw [Az Ak]
 first
  | exact B5 (Aq ⟨_,rfl,Aq h⟩)
  | exact gV (B5 (gV (Aq (Aq ⟨_,rfl,Aq h⟩))))
  | exact gV (B5 (Aq (Aq ⟨_,rfl,Aq h⟩)))
  | exact gV (B5 (Aq ⟨_,rfl,Aq h⟩))
end
end HT
namespace L2
open PySem PySem.Spec PyProof.Rows
section
variable {X:Cx}
theorem wf:SlR X (fun x lo hi H Q=>∃ a xs,x=.ref a/\SqT X.K H a xs/\(HT.sIx xs.length 0 lo=0/\HT.sIx xs.length xs.length hi=xs.length)/\Q (.ref a) H):=by
 intro pins s U H x v vl vu lo hi sl Q I rx hs pl pu h
 obtain ⟨a,xs,rfl,hx,hw,q⟩:=h
 cases rx
 obtain ⟨its,r,ht,hz⟩:=I.tuple hx
 have hlen:its.toArray.size=xs.length:=by rw [AI];exact r.length.symm
 refine ⟨"tuple",_,BJ.lookup,ht.typeIs,?_⟩
 exact HT.getItem_tuple_whole ht hs pl pu (by rw [hlen];exact hw) ⟨.ref a,H,I,rfl,q⟩ (by rw [hlen];exact hz)
theorem vM:SlR X (fun x lo hi H Q=>yp X.K x lo hi H Q∨∃ a xs,x=.ref a/\SqT X.K H a xs/\(HT.sIx xs.length 0 lo=0/\HT.sIx xs.length xs.length hi=xs.length)/\Q (.ref a) H):=sl_tup.or wf
end
end L2
namespace L2
open PySem PySem.W PySem.Spec PySem.Calls PyProof.Rows
theorem iM:∀{ns:List Str} {us:List Value},Vals (ns.map V.str) us->(∀v∈us,∃ x t,v=Value.str x t)/\us.map bo=ns
 | [],_,.nil=>⟨(fun _ h=>nomatch h),rfl⟩
 | n::ns,_,.cons r t=>by
  obtain ⟨h1,h2⟩:=iM t
  obtain ⟨tk,rfl⟩:=r
  refine ⟨fun v hv=>?_,by rw [AN,h2];rfl⟩
  rcases Aw.mp hv with rfl | hv
  .exact ⟨n,tk,rfl⟩
  .exact h1 v hv
theorem d0:∀{us:List Value},(∀v∈us,∃ x t,v=Value.str x t)->Vals ((us.map bo).map V.str) us
 | [],_=>.nil
 | u::us,h=>by
  obtain ⟨x,t,rfl⟩:=h u AX
  exact .cons ⟨t,rfl⟩ (d0 fun v hv=>h v (AH _ hv))
section
variable {X:Cx}
theorem eh:cf X (.builtin "sorted") (fun zs H Q=>∃ (p:Addr) (ns:List Str),zs=[.ref p]/\SqL X.K H p (ns.map V.str) /\
  ∀(l:Addr) (ms:List Str),H l=none->ms.Perm ns->ms.Pairwise (fun x y=>slt y x=false)->Q (.ref l) (upd H l (.lst (ms.map V.str)))):=by
 intro pins s U H zs us Q I r h
 obtain ⟨p,ns,rfl,hq,q⟩:=h
 obtain ⟨u,rfl,ru⟩:=c9 r
 cases ru
 obtain ⟨its,rv,pl,hz⟩:=I.list hq
 have hlen:=rv.length
 obtain ⟨hI,hN⟩:=iM rv
 refine TS.sorted_any (kd:=oneType') (J:=PyProof.Rows.strKind) pl.isList Am (fun h' kp h2 E A Q q=>?_) (fun h' kp h2 A=>TS.cmp_strs hI) fun st' pm up=>?_
 .rw [TS.kind_of_strs hI h2]
  exact Aq q
 obtain ⟨e,he2⟩:=sortedAll_at s.heap its ((arrOf st').map (·.2))
 have pm':(arrOf st').toList.Perm (its.zip its):=by rw [<-Ek];exact Ck.mp pm
 have mem:∀k∈(arrOf st').toList,k.1=k.2/\∃ x t,k.2=Value.str x t:=fun k hk=>by
  obtain ⟨e1,m⟩:=EM (pm'.mem_iff.mp hk)
  exact ⟨e1,e1▸hI _ m⟩
 have hsz:(arrOf st').toList.length=its.length:=by rw [pm'.length_eq,EG];lia
 have em:(arrOf st').toList.map (fun k=>bo k.2)=((arrOf st').toList.map (·.2)).map bo:=by rw [CF];rfl
 refine ⟨.ref (s.heap.objs.size+1),upd H (s.heap.objs.size+1) (.lst (((arrOf st').toList.map fun k=>bo k.2).map V.str)),I.laid (t':=s.toks) (fun b o e=>sortedAll_old e) (BX _) ?_,rfl,q _ _ (I.hok.fresh (BX _)) ?_ ?_⟩
 .refine ⟨by rw [Ar,Ar,hsz,<-hlen];exact hz,(arrOf st').toList.map (·.2),e,?_,?_⟩
  .rw [em]
   refine d0 fun v hv=>?_
   obtain ⟨k,hk,rfl⟩:=AK.mp hv
   exact (mem k hk).2
  .rw [he2,<-Fe]
 .have e3:(its.zip its).map (fun k:Keyed=>bo k.2)=ns:=by
   rw [<-hN]
   have aux:∀l:List Value,(l.zip l).map (fun k:Keyed=>bo k.2)=l.map bo:=by
    intro l
    induction l with
    | nil=>rfl
    | cons a l ih=>rw [Dk,AN,AN,ih]
   exact aux its
  rw [<-e3]
  exact pm'.map _
 have el:(arrOf st')=(arrOf st').toList.toArray:=by simp
 rw [el] at up
 have hs2:(pairsOf its).size=(arrOf st').toList.length:=by rw [El,hsz]
 have up2:=(TS.up_iff Am).mp up
 rw [CT,hs2,Bx] at up2
 refine BL.mpr (Ct (fun {k k'} hk hk' hle=>?_) up2)
 obtain ⟨e1,x,t,ex⟩:=mem k hk
 obtain ⟨e1',x',t',ex'⟩:=mem k' hk'
 have hle':TS.Lb PyProof.Rows.strKind k' k=false:=hle
 unfold TS.Lb TS.kf at hle'
 rw [e1,e1',ex,ex'] at hle'
 show slt (bo k'.2) (bo k.2)=false
 rw [ex,ex']
 exact hle'
end
end L2
namespace Hg
section
variable {α:Type}[Inhabited α]{lt:α->α->Bool}{h:α->α}
def Cm (lt:α->α->Bool)(h:α->α)(xs:List α):Prop:=∀a∈xs,∀b∈xs,lt (h a) (h b)=lt a b
theorem g_map {xs:List α}(hi:i<xs.length):g (xs.map h) i=h (g xs i):=by
 rw [g_get (by rw [Ar];exact hi),g_get hi,List.getElem_map]
theorem g_in {xs:List α}(hi:i<xs.length):g xs i∈xs:=by rw [g_get hi];exact BE hi
theorem iS {xs:List α}(hi:i<xs.length)(hj:j<xs.length):sw (xs.map h) i j=(sw xs i j).map h:=by
 unfold sw
 rw [g_map hi,g_map hj,Ep,Ep]
theorem jA {xs:List α}{p:Nat}(C:Cm lt h xs):les lt (xs.map h) p=les lt xs p:=by
 unfold les
 rw [Ar]
 by_cases z:2*p+2<xs.length
 .rw [g_map z,g_map Am,C _ (g_in z) _ (g_in Am)]
 rw [Ay (fun y=>z y.1),Ay (fun y=>z y.1)]
theorem Cm.perm {xs ys:List α}(C:Cm lt h xs)(p:ys.Perm xs):Cm lt h ys:=fun a ha b hb=>C a (p.mem_iff.mp ha) b (p.mem_iff.mp hb)
theorem Cm.sub {xs ys:List α}(C:Cm lt h xs)(p:∀y∈ys,y∈xs):Cm lt h ys:=fun a ha b hb=>C a (p a ha) b (p b hb)
theorem eB:∀{f:Nat} {xs:List α} {p lk:Nat},Cm lt h xs->dn lt f (xs.map h) p lk=((dn lt f xs p lk).1.map h,(dn lt f xs p lk).2)
 | 0,xs,p,lk,_=>rfl
 | f+1,xs,p,lk,C=>by
  unfold dn
  rw [Ar]
  by_cases z:2*p+1<xs.length
  .have l:=cC (lt:=lt) z
   rw [Az z,Az z,jA C,g_map l,g_map Am,C _ (g_in l) _ (g_in Am)]
   by_cases y:lt (g xs (les lt xs p)) (g xs p)=true
   .rw [Az y,Az y,iS Am l]
    exact eB (C.perm (cw Am l))
   .rw [Ay y,Ay y]
  .rw [Ay z,Ay z]
theorem up_map:∀{f:Nat} {xs:List α} {p lk:Nat},Cm lt h xs->p<xs.length->up lt f (xs.map h) p lk=((up lt f xs p lk).1.map h,(up lt f xs p lk).2)
 | 0,xs,p,lk,_,_=>rfl
 | f+1,xs,p,lk,C,hp=>by
  unfold up
  by_cases z:0<p
  .rw [Az z,Az z,g_map hp,g_map Am,C _ (g_in hp) _ (g_in Am)]
   by_cases y:lt (g xs p) (g xs ((p-1) / 2))=true
   .rw [Az y,Az y,iS hp Am]
    exact up_map (C.perm (cw hp Am)) (by rw [aS];lia)
   .rw [Ay y,Ay y]
  .rw [Ay z,Ay z]
theorem mk_map:∀{k:Nat} {xs:List α} {lk:Nat},Cm lt h xs->mk lt k (xs.map h) lk=((mk lt k xs lk).1.map h,(mk lt k xs lk).2)
 | 0,xs,lk,_=>rfl
 | k+1,xs,lk,C=>by
  unfold mk
  rw [Ar,eB C]
  exact mk_map (C.perm dn_perm)
theorem cutf_map {xs:List α}(C:Cm lt h xs)(h0:0<xs.length):cutf lt (xs.map h)=((cutf lt xs).1.map h,(cutf lt xs).2):=by
 unfold cutf
 rw [<-List.map_dropLast]
 by_cases z:xs.dropLast=[]
 .rw [Az z,Az (by rw [z];rfl)];rfl
 rw [Ay z,Ay (fun y=>z (FP.mp y)),Ar,Ar,g_map Am,<-Ep]
 refine eB (C.sub fun y hy=>?_)
 rcases DM hy with q | q
 .exact List.dropLast_subset _ q
 rw [q];exact g_in Am
end
end Hg
namespace L2
open PySem
section
variable (f:Str->Str)(v:Int->Int)
def mE (e:En):En:=⟨v e.w,f e.n,e.s⟩
def mT (T:List (Str×En)):List (Str×En):=T.map fun p=>(f p.1,mE f v p.2)
def mS (s:LS):LS:=⟨s.slack,mT f v s.there,s.stamp,s.row.map (mE f v),s.looks⟩
def mD:Deed->Deed
 | .put n w=>.put (f n) (v w)
 | .drop n=>.drop (f n)
 | .change n w=>.change (f n) (v w)
 | .take=>.take
 | .least=>.least
end
structure Ren (f:Str->Str)(v:Int->Int)(N:Str->Prop)(W:Int->Prop):Prop where
 fo:∀a b,N a->N b->slt (f a) (f b)=slt a b
 vo:∀a b,W a->W b->(v a<v b↔a<b)
section
variable {f:Str->Str}{v:Int->Int}{N:Str->Prop}{W:Int->Prop}(R:Ren f v N W)
include R
theorem Ren.fi {a b:Str}(ha:N a)(hb:N b):f a=f b↔a=b:=by
 refine ⟨fun e=>?_,fun e=>by rw [e]⟩
 by_cases z:a=b
 .exact z
 rcases slt_slo.tot _ _ z with q | q
 .rw [<-R.fo a b ha hb,e,slt_slo.irr] at q;cases q
 rw [<-R.fo b a hb ha,e,slt_slo.irr] at q;cases q
theorem Ren.vi {a b:Int}(ha:W a)(hb:W b):v a=v b↔a=b:=by
 refine ⟨fun e=>?_,fun e=>by rw [e]⟩
 have h1:=R.vo a b ha hb
 have h2:=R.vo b a hb ha
 lia
def Gd (N:Str->Prop)(W:Int->Prop)(e:En):Prop:=N e.n/\W e.w
theorem Ren.lt {a b:En}(ha:Gd N W a)(hb:Gd N W b):Gm.ltE slt (mE f v a) (mE f v b)=Gm.ltE slt a b:=by
 unfold Gm.ltE mE
 dsimp only
 by_cases z:a.w=b.w
 .rw [Az z,Az (by rw [z])]
  by_cases y:a.n=b.n
  .rw [Az y,Az (by rw [y])]
  .rw [Ay y,Ay (fun e=>y ((R.fi ha.1 hb.1).mp e)),R.fo _ _ ha.1 hb.1]
 rw [Ay z,Ay (fun e=>z ((R.vi ha.2 hb.2).mp e))]
 exact Fi.mpr (R.vo _ _ ha.2 hb.2)
theorem Ren.ei {a b:En}(ha:Gd N W a)(hb:Gd N W b):mE f v a=mE f v b↔a=b:=by
 refine ⟨fun e=>?_,fun e=>by rw [e]⟩
 unfold mE at e
 injection e with e1 e2 e3
 cases a
 cases b
 have h1:=(R.vi ha.2 hb.2).mp e1
 have h2:=(R.fi ha.1 hb.1).mp e2
 dsimp only at h1 h2 e3
 rw [h1,h2,e3]
theorem Ren.cm {xs:List En}(h:∀e∈xs,Gd N W e):Hg.Cm (Gm.ltE slt) (mE f v) xs:=fun a ha b hb=>R.lt (h a ha) (h b hb)
theorem Ren.get {T:List (Str×En)}(h:∀p∈T,N p.1){n:Str}(hn:N n):Gm.dget (mT f v T) (f n)=(Gm.dget T n).map (mE f v):=by
 induction T with
 | nil=>rfl
 | cons p T ih =>
  unfold Gm.dget mT
  rw [AN,BK,BK]
  by_cases z:p.1=n
  .rw [AO z,AO (by rw [z])];rfl
  .rw [AR z,AR (fun e=>z ((R.fi (h p AX) hn).mp e))]
   exact ih fun q hq=>h q (AH _ hq)
theorem Ren.put {T:List (Str×En)}(h:∀p∈T,N p.1){n:Str}(hn:N n){e:En}:Gm.dput (mT f v T) (f n) (mE f v e)=mT f v (Gm.dput T n e):=by
 have ha:(mT f v T).any (fun p=>decide (p.1=f n))=T.any (fun p=>decide (p.1=n)):=by
  unfold mT
  rw [List.any_map,Ca,BF,BF]
  constructor
  .rintro ⟨p,hp,e⟩
   exact ⟨p,hp,AO ((R.fi (h p hp) hn).mp (Bc e))⟩
  .rintro ⟨p,hp,e⟩
   exact ⟨p,hp,AO ((R.fi (h p hp) hn).mpr (Bc e))⟩
 unfold Gm.dput
 rw [ha]
 split
 .unfold mT
  rw [CF,CF]
  refine DT fun p hp=>?_
  show (if f p.1=f n then (f p.1,mE f v e) else (f p.1,mE f v p.2))=(f (if p.1=n then (p.1,e) else p).1,mE f v (if p.1=n then (p.1,e) else p).2)
  by_cases z:p.1=n
  .rw [Az (by rw [z]),Az z]
  .rw [Ay (fun y=>z ((R.fi (h p hp) hn).mp y)),Ay z]
 unfold mT;rw [A1];rfl
theorem Ren.del {T:List (Str×En)}(h:∀p∈T,N p.1){n:Str}(hn:N n):Gm.ddel (mT f v T) (f n)=mT f v (Gm.ddel T n):=by
 unfold Gm.ddel mT
 rw [D1]
 congr 1
 refine E3 fun p hp=>?_
 show decide (f p.1≠f n)=decide (p.1≠n)
 exact Fi.mpr (not_congr (R.fi (h p hp) hn))
structure Gs (N:Str->Prop)(W:Int->Prop)(s:LS):Prop where
 inv:Gm.LInv slt s
 gd:∀e∈s.row,Gd N W e
omit R in
theorem Gs.key {s:LS}(G:Gs N W s):∀p∈s.there,N p.1:=fun p hp=>by
 obtain ⟨e1,e2⟩:=G.inv.inr p.1 p.2 hp
 rw [<-e1];exact (G.gd _ e2).1
theorem Ren.holds {s:LS}(G:Gs N W s){e:En}(he:Gd N W e):Gm.holds (mT f v s.there) (mE f v e)=Gm.holds s.there e:=by
 unfold Gm.holds
 show decide (Gm.dget (mT f v s.there) (f e.n)=some (mE f v e))=_
 rw [R.get G.key he.1]
 refine Fi.mpr ?_
 cases z:Gm.dget s.there e.n with
 | none=>exact ⟨(fun y=>nomatch y),(fun y=>nomatch y)⟩
 | some x =>
  have gx:=G.gd _ (G.inv.get z).2
  constructor
  .intro y;rw [(R.ei gx he).mp (Be y)]
  .intro y;rw [Be y];rfl
omit R in
theorem yz {T:List (Str×En)}:(mT f v T).length=T.length:=Ar ..
theorem Ren.sweep {s:LS}(G:Gs N W s):Gm.sweep slt (mS f v s)=mS f v (Gm.sweep slt s):=by
 have hd:Gm.due (mS f v s)=Gm.due s:=by
  unfold Gm.due mS
  dsimp only
  rw [Ar,yz]
 unfold Gm.sweep
 rw [hd]
 split
 .have ef:(s.row.map (mE f v)).filter (Gm.holds (mT f v s.there))=(s.row.filter (Gm.holds s.there)).map (mE f v):=by
   rw [D1]
   congr 1
   exact E3 fun e he=>R.holds G (G.gd e he)
  unfold Gm.swept mS
  dsimp only
  rw [ef,Ar,Hg.mk_map (R.cm fun e he=>G.gd e (Ce.mp he).1)]
 rfl
theorem Ren.enter {s:LS}(G:Gs N W s){n:Str}{w:Int}(hn:N n)(hw:W w):Gm.enter slt (mS f v s) (f n) (v w)=mS f v (Gm.enter slt s n w):=by
 have e1:(s.row.map (mE f v))++[(⟨v w,f n,(s.stamp:Int)⟩:En)]=(s.row++[(⟨w,n,(s.stamp:Int)⟩:En)]).map (mE f v):=by rw [A1];rfl
 unfold Gm.enter mS
 dsimp only
 rw [e1,Ar,Hg.up_map (R.cm fun e he=>?_) (by rw [As];exact Cu _)]
 .show Gm.LS.mk _ (Gm.dput (mT f v s.there) (f n) (mE f v ⟨w,n,(s.stamp:Int)⟩)) _ _ _=_
  rw [R.put G.key hn]
 rcases AU.mp he with y | y
 .exact G.gd e y
 rw [Ao y];exact ⟨hn,hw⟩
theorem Ren.cut {s:LS}(G:Gs N W s)(h0:0<s.row.length):Gm.cut slt (mS f v s)=mS f v (Gm.cut slt s):=by
 unfold Gm.cut mS
 dsimp only
 rw [Hg.cutf_map (R.cm G.gd) h0]
theorem Ren.clean:∀{c:Nat} {s:LS},Gs N W s->s.there≠[]->Gm.clean slt c (mS f v s)=mS f v (Gm.clean slt c s)
 | 0,s,_,_=>rfl
 | c+1,s,G,ht=>by
  have h0:=Gm.row_pos G.inv ht
  unfold Gm.clean
  have e1:Gm.holds (mS f v s).there (Hg.g (mS f v s).row 0)=Gm.holds s.there (Hg.g s.row 0):=by
   show Gm.holds (mT f v s.there) (Hg.g (s.row.map (mE f v)) 0)=_
   rw [Hg.g_map h0]
   exact R.holds G (G.gd _ (Hg.g_in h0))
  rw [e1]
  split
  .rfl
  .rename_i hh
   rw [R.cut G h0]
   refine Ren.clean ⟨Gm.cut_inv slt_slo G.inv h0 hh,fun e he=>?_⟩ ht
   have p:=Hg.cutf_perm (lt:=Gm.ltE slt) h0
   exact G.gd e (p.mem_iff.mp (AH _ he))
omit R in
theorem Gs.least {s:LS}(G:Gs N W s)(ht:s.there≠[]):Gs N W (Gm.leastL slt s):=⟨(Gm.least_ok slt_slo G.inv ht).inv,fun e he=>G.gd e (Gm.clean_sub e he)⟩
omit R in
theorem Gs.sweep {s:LS}(G:Gs N W s):Gs N W (Gm.sweep slt s):=⟨Gm.sweep_inv slt_slo G.inv,fun e he=>by
 unfold Gm.sweep at he
 split at he
 .exact G.gd e (Ce.mp (Gm.swept_perm.mem_iff.mp he)).1
 exact G.gd e he⟩
omit R in
theorem Gs.enter {s:LS}(G:Gs N W s){n:Str}{w:Int}(hn:N n)(hw:W w):Gs N W (Gm.enter slt s n w):=⟨Gm.enter_inv slt_slo G.inv,fun e he=>by
 rcases AU.mp (Gm.enter_row_perm.mem_iff.mp he) with y | y
 .exact G.gd e y
 rw [Ao y];exact ⟨hn,hw⟩⟩
omit R in
theorem Gs.drop {s:LS}(G:Gs N W s){n:Str}:Gs N W (Gm.dropT s n):=⟨Gm.drop_inv G.inv,G.gd⟩
theorem Ren.leastL {s:LS}(G:Gs N W s)(ht:s.there≠[]):Gm.leastL slt (mS f v s)=mS f v (Gm.leastL slt s):=by
 unfold Gm.leastL
 rw [show (mS f v s).row.length=s.row.length from Ar ..]
 exact R.clean G ht
theorem Ren.dropT {s:LS}(G:∀p∈s.there,N p.1){n:Str}(hn:N n):Gm.dropT (mS f v s) (f n)=mS f v (Gm.dropT s n):=by
 unfold Gm.dropT mS
 dsimp only
 rw [R.del G hn]
omit R in
theorem Gs.cutT {s:LS}(G:Gs N W s)(h0:0<s.row.length):Gs N W (Gm.dropT (Gm.cut slt s) (Hg.g s.row 0).n):=⟨Gm.cut_take_inv slt_slo G.inv h0,fun e he=>G.gd e (Gm.cut_sub e he)⟩
theorem Ren.takeL {s:LS}(G:Gs N W s)(ht:s.there≠[]):Gm.takeL slt (mS f v s)=mS f v (Gm.takeL slt s):=by
 have GL:=G.least ht
 have h0:=(Gm.least_ok slt_slo G.inv ht).pos
 unfold Gm.takeL
 rw [R.leastL G ht]
 have e1:(Hg.g (mS f v (Gm.leastL slt s)).row 0).n=f (Hg.g (Gm.leastL slt s).row 0).n:=by
  show (Hg.g ((Gm.leastL slt s).row.map (mE f v)) 0).n=_
  rw [Hg.g_map h0]
  rfl
 rw [e1,R.cut GL h0,R.dropT (s:=Gm.cut slt (Gm.leastL slt s)) GL.key (GL.gd _ (Hg.g_in h0)).1]
 exact R.sweep (GL.cutT h0)
omit R in
def gD (N:Str->Prop)(W:Int->Prop):Deed->Prop
 | .put n w=>N n/\W w
 | .drop n=>N n
 | .change n w=>N n/\W w
 | _=>True
omit R in
theorem mT_nil {T:List (Str×En)}:mT f v T=[]↔T=[]:=List.map_eq_nil_iff
theorem Ren.some {s:LS}(G:Gs N W s){n:Str}(hn:N n):(Gm.dget (mS f v s).there (f n)).isSome=(Gm.dget s.there n).isSome:=by
 show (Gm.dget (mT f v s.there) (f n)).isSome=_
 rw [R.get G.key hn,Eg]
theorem Ren.step {s:LS}(G:Gs N W s)(gd:gD N W d):(aY (mS f v s) (mD f v d)).1=mS f v (aY s d).1/\Gs N W (aY s d).1:=by
 cases d with
 | put n w =>
  show (if (Gm.dget (mS f v s).there (f n)).isSome=true then (mS f v s,Ans.clash) else (Gm.putL slt (mS f v s) (f n) (v w),Ans.non)).1=mS f v (if (Gm.dget s.there n).isSome=true then (s,Ans.clash) else (Gm.putL slt s n w,Ans.non)).1/\Gs N W (if (Gm.dget s.there n).isSome=true then (s,Ans.clash) else (Gm.putL slt s n w,Ans.non)).1
  rw [R.some G gd.1]
  split
  .exact ⟨rfl,G⟩
  .unfold Gm.putL
   rw [R.enter G gd.1 gd.2]
   exact ⟨R.sweep (G.enter gd.1 gd.2),(G.enter gd.1 gd.2).sweep⟩
 | drop n =>
  have hd':N n:=gd
  show (if (Gm.dget (mS f v s).there (f n)).isSome=true then (Gm.dropL slt (mS f v s) (f n),Ans.non) else (mS f v s,Ans.nothing)).1=mS f v (if (Gm.dget s.there n).isSome=true then (Gm.dropL slt s n,Ans.non) else (s,Ans.nothing)).1/\Gs N W (if (Gm.dget s.there n).isSome=true then (Gm.dropL slt s n,Ans.non) else (s,Ans.nothing)).1
  rw [R.some G hd']
  split
  .unfold Gm.dropL
   rw [R.dropT G.key hd']
   exact ⟨R.sweep G.drop,G.drop.sweep⟩
  .exact ⟨rfl,G⟩
 | change n w =>
  show (if (Gm.dget (mS f v s).there (f n)).isSome=true then (Gm.putL slt (mS f v s) (f n) (v w),Ans.non) else (mS f v s,Ans.nothing)).1=mS f v (if (Gm.dget s.there n).isSome=true then (Gm.putL slt s n w,Ans.non) else (s,Ans.nothing)).1/\Gs N W (if (Gm.dget s.there n).isSome=true then (Gm.putL slt s n w,Ans.non) else (s,Ans.nothing)).1
  rw [R.some G gd.1]
  split
  .unfold Gm.putL
   rw [R.enter G gd.1 gd.2]
   exact ⟨R.sweep (G.enter gd.1 gd.2),(G.enter gd.1 gd.2).sweep⟩
  .exact ⟨rfl,G⟩
 | take =>
  show (if (mS f v s).there=[] then (mS f v s,Ans.nothing) else (Gm.takeL slt (mS f v s),Ans.pair (hd (mS f v s)).w (hd (mS f v s)).n)).1=mS f v (if s.there=[] then (s,Ans.nothing) else (Gm.takeL slt s,Ans.pair (hd s).w (hd s).n)).1/\Gs N W (if s.there=[] then (s,Ans.nothing) else (Gm.takeL slt s,Ans.pair (hd s).w (hd s).n)).1
  by_cases z:s.there=[]
  .rw [Az z,Az (show (mS f v s).there=[] from mT_nil.mpr z)];exact ⟨rfl,G⟩
  .rw [Ay z,Ay (show ¬ (mS f v s).there=[] from fun y=>z (mT_nil.mp y))]
   exact ⟨R.takeL G z,((G.least z).cutT (Gm.least_ok slt_slo G.inv z).pos).sweep⟩
 | least =>
  show (if (mS f v s).there=[] then (mS f v s,Ans.nothing) else (Gm.leastL slt (mS f v s),Ans.pair (hd (mS f v s)).w (hd (mS f v s)).n)).1=mS f v (if s.there=[] then (s,Ans.nothing) else (Gm.leastL slt s,Ans.pair (hd s).w (hd s).n)).1/\Gs N W (if s.there=[] then (s,Ans.nothing) else (Gm.leastL slt s,Ans.pair (hd s).w (hd s).n)).1
  by_cases z:s.there=[]
  .rw [Az z,Az (show (mS f v s).there=[] from mT_nil.mpr z)];exact ⟨rfl,G⟩
  .rw [Ay z,Ay (show ¬ (mS f v s).there=[] from fun y=>z (mT_nil.mp y))]
   exact ⟨R.leastL G z,G.least z⟩
theorem Ren.fit {s:LS}(G:Gs N W s)(hd:gD N W d)(h:d.fit s):(mD f v d).fit (mS f v s):=by
 have nn:∀{n:Str},N n->(Gm.dget (mS f v s).there (f n)=none↔Gm.dget s.there n=none):=fun {n} hn=>by
  rw [<-EX,<-EX]
  have:=R.some G hn
  cases a:Gm.dget (mS f v s).there (f n) <;> cases b:Gm.dget s.there n <;> rw [a,b] at this <;> simp_all
 cases d with
 | put n w=>exact (nn hd.1).mpr h
 | drop n=>exact fun y=>h ((nn hd).mp y)
 | change n w=>exact fun y=>h ((nn hd.1).mp y)
 | take=>exact fun y=>h (mT_nil.mp y)
 | least=>exact fun y=>h (mT_nil.mp y)
theorem Ren.run (hd:∀d∈ds,gD N W d):bE z (ds.map (mD f v))=mS f v (bE z ds)/\Gs N W (bE z ds):=by
 have gen:∀(as bs:List Deed),(∀d∈bs,gD N W d)->bE z (as.map (mD f v))=mS f v (bE z as)->Gs N W (bE z as)->bE z ((as++bs).map (mD f v))=mS f v (bE z (as++bs))/\Gs N W (bE z (as++bs)):=by
  intro as bs
  induction bs generalizing as with
  | nil=>intro _ h1 h2;rw [BP];exact ⟨h1,h2⟩
  | cons b bs ih =>
   intro hb h1 h2
   obtain ⟨s1,s2⟩:=R.step h2 (hb b AX)
   have e1:bE z ((as++[b]).map (mD f v))=mS f v (bE z (as++[b])):=by
    rw [A1]
    show bE z (as.map (mD f v)++[mD f v b])=_
    rw [bL,h1,s1,bL]
   have:=ih (as++[b]) (fun d hd=>hb d (AH _ hd)) e1 (by rw [bL];exact s2)
   rw [AB] at this
   exact this
 exact gen [] ds hd rfl ⟨Gm.new_inv,(fun _ h=>nomatch h)⟩
end
def qh (k:Nat):Str:=⟨#[97+k / 26,97+k % 26,120]⟩
def mR (k:Nat):Str:=⟨((List.replicate k 97)++[98]).toArray⟩
theorem sF (h:i<j):slt (qh i) (qh j)=true:=by
 unfold slt qh
 refine AO ?_
 show [97+i / 26,97+i % 26,120]<[97+j / 26,97+j % 26,120]
 by_cases z:i / 26=j / 26
 .rw [z]
  refine Es.mpr (.inr ⟨rfl,Es.mpr (.inl ?_)⟩)
  lia
 refine Es.mpr (.inl ?_)
 lia
theorem rM (h:mR i=mR j):i=j:=by
 have h1:(List.replicate i 97++[98]).toArray=(List.replicate j 97++[98]).toArray:=congrArg Str.cps h
 have h2:=congrArg Array.size h1
 simpa using h2
def cv (S O:List Str)(n:Str):Str:=O.getD (S.idxOf n) n
theorem pw_str (h:O.Pairwise fun a b=>slt a b=true)(ij:i<j)(hj:j<O.length):slt O[i] O[j]=true:=Co.mp h i j Am hj ij
theorem fQ {S:List Str}(hS:S.Nodup)(hl:S.length<=O.length)(hi:i<S.length):cv S O S[i]=O[i]:=by
 unfold cv
 rw [hS.idxOf_getElem i hi,AD,tx Am]
 rfl
theorem dF {S:List Str}(h:S.Pairwise fun a b=>slt a b=true):S.Nodup:=h.imp fun {a b} q e=>by rw [e,slt_slo.irr] at q;cases q
theorem p8 {S:List Str}(hS:S.Pairwise fun a b=>slt a b=true)(hO:O.Pairwise fun a b=>slt a b=true)(hl:S.length<=O.length){a b:Str}(ha:a∈S)(hb:b∈S):slt (cv S O a) (cv S O b)=slt a b:=by
 have nd:=dF hS
 obtain ⟨i,hi,rfl⟩:=Ba ha
 obtain ⟨j,hj,rfl⟩:=Ba hb
 rw [fQ nd hl hi,fQ nd hl hj]
 rcases Nat.lt_trichotomy i j with q | q | q
 .rw [pw_str hS q hj,pw_str hO q Am]
 .subst q
  rw [slt_slo.irr,slt_slo.irr]
 have h1:=pw_str hS q hi
 have h2:=pw_str hO q (show i<O.length by lia)
 have asy:∀x y:Str,slt x y=true->slt y x=false:=fun x y h=>by
  cases z:slt y x with
  | false=>rfl
  | true =>
   have:=slt_slo.tr _ _ _ h z
   rw [slt_slo.irr] at this
   cases this
 rw [asy _ _ h1,asy _ _ h2]
def dm (ms:List Int)(st sh:Int)(n:Int):Int:=(ms.idxOf n:Int)*st-sh
theorem fO (h:ms.Pairwise (·<·)){st sh:Int}(hi:i<ms.length):dm ms st sh ms[i]=(i:Int)*st-sh:=by
 have nd:ms.Nodup:=h.imp fun {a b} q e=>by lia
 unfold dm
 rw [nd.idxOf_getElem i hi]
theorem sS (h:ms.Pairwise (·<·)){st sh:Int}(hs:0<st){a b:Int}(ha:a∈ms)(hb:b∈ms):dm ms st sh a<dm ms st sh b↔a<b:=by
 obtain ⟨i,hi,rfl⟩:=Ba ha
 obtain ⟨j,hj,rfl⟩:=Ba hb
 rw [fO h hi,fO h hj]
 have pw:∀{x y:Nat} (hy:y<ms.length) (xy:x<y),ms[x]<ms[y]:=fun {x y} hy xy=>Co.mp h x y Am hy xy
 have ml:∀{x y:Nat},x<y->(x:Int)*st-sh<(y:Int)*st-sh:=fun {x y} q=>by
  have:(x:Int)*st<(y:Int)*st:=Int.mul_lt_mul_of_pos_right Am hs
  lia
 rcases Nat.lt_trichotomy i j with q | q | q
 .exact ⟨fun _=>pw hj q,fun _=>ml q⟩
 .subst q
  exact ⟨fun z=>absurd z (FR _),fun z=>absurd z (FR _)⟩
 have h1:=pw hi q
 have h2:=ml q
 exact ⟨fun z=>by lia,fun z=>by lia⟩
theorem yH {S:List Str}{st sh:Int}(hS:S.Pairwise fun a b=>slt a b=true)(hO:O.Pairwise fun a b=>slt a b=true)(hl:S.length<=O.length)(hm:ms.Pairwise (·<·))(hs:0<st):
  Ren (cv S O) (dm ms st sh) (·∈S) (·∈ms):=⟨fun _ _ ha hb=>p8 hS hO hl ha hb,fun _ _ ha hb=>sS hm hs ha hb⟩
theorem wQ {S:List Str}(nd:S.Nodup)(h:S.Pairwise fun x y=>slt y x=false):S.Pairwise fun a b=>slt a b=true:=by
 refine FT (fun a b h1 h2=>?_) h nd
 rcases slt_slo.tot a b h2 with q | q
 .exact q
 rw [h1] at q;cases q
theorem xH (n:Nat):((List.range n).map qh).Pairwise fun a b=>slt a b=true:=by
 rw [BL]
 exact List.pairwise_lt_range.imp fun q=>sF q
end L2
namespace L2
open PySem PySem.Spec PyProof.Rows
theorem kK {x2 y:Str}{px2 pt py spos:Pos}{cl:List (Str×Addr)}(hN:X.N.Nodup)(hi':X.N[i]?=some y)(hx:Loc X.env.scope y)(B:Blk2 X scope cl x x2 NB cap)(hc:X.calm=true)(hex:X.ex=[])(hi:QI X (.Tuple [.Name x px,.Name x2 px2] kt pt) iter wi)(ht:∀C fp s₀ H₀,QTs (X.blk scope cl C (x::x2::NB) fp s₀ H₀) ifs tt)(he:∀C fp s₀ H₀,QE (X.blk scope cl C (x::x2::NB) fp s₀ H₀) elt te)(hsw:swapsWith (.ListComp elt [⟨(.Tuple [.Name x px,.Name x2 px2] kt pt),iter,ifs,0⟩] scope pos) (some (.Name y py)) spos.line X.env=pure true:=by rfl)(hs:∀v,foldedSetIterable iter X.env v=pure v:=by intro _;rfl)(hf:X.fn y=true∨X.env.scope.names.lookup y=some .local:=by first | exact .inl rfl | exact .inr rfl | assumption):
  QS X (.Assign [.Name y py] (.ListComp elt [⟨(.Tuple [.Name x px,.Name x2 px2] kt pt),iter,ifs,0⟩] scope pos) spos) (rp (mO X.K wi tt te cap) (eZ i)):=.mk (by
 have hi:=hi.to
 have ht:=(fun C fp s₀ H₀=>(ht C fp s₀ H₀).to)
 have he:=(fun C fp s₀ H₀=>(he C fp s₀ H₀).to)
 intro pins s U H D I h
 rw [exec_Assign_Name_used _ _ _ _ hsw]
 refine gV (Ez (gV ?_))
 show wpAny _ X.A (do let _ <-comprehension (.ListComp elt [⟨(.Tuple [.Name x px,.Name x2 px2] kt pt),iter,ifs,0⟩] scope pos) scope X.env _ (newList []) false (eval iter X.env) (some (assign (.Name y py) X.env))) _ _ s
 refine gV (Cn (il (use:=some (assign (.Name y py) X.env)) (R:=fun _ s'=>SP X pins D .next s') B hc hex hi ht he hs I h fun L C H' s' I' G q=>?_) (fun _ s' hq=>Aq (Aq hq)) fun _ _ e=>e)
 obtain ⟨m,hn⟩:=G.ns
 obtain ⟨f0,f1,f2,f3,f4,f5⟩:=G.fp
 refine EZ (fX (v:=.ref L) I' hN hi' hx rfl (fun s'' I'' zz=>?_) hf)
 obtain ⟨a,sb,ha⟩:=zz
 have hC:C≠a:=by
  rcases ha with z | z
  .rw [z];exact f1
  .exact fun e=>f4 y a z e.symm
 refine ⟨m,hn.sameBut sb hC,fun h' hs'=>⟨_,H',?_,q⟩⟩
 exact I''.turned (t':=s''.toks) (fun b o hb e=>(hs'.2 b hb).trans e) f0 f1 f3 f4 f5)
end L2
namespace L2
open PySem PySem.W
def Df (K:Frag)(x:Str)(st:Stmt)(f:Addr):Prop:=nsIn K mainGlobals x=some (some (.ref f))/\∃ fd,Fun K x x st f fd
def Mt (K:Frag)(C:Addr)(x q:Str)(st:Stmt)(f:Addr):Prop:=findIn K (.ref C) x=some (some (.ref f))/\isFn K (.ref f)=true/\∃ fd,Fun K x q st f fd
def Bs (K:Frag)(C:Addr)(x q:Str)(st:Stmt)(f:Addr):Prop:=findCls K (.ref C) (.type "type") x=some (.val (.ref f))/\∃ fd,Fun K x q st f fd
section
variable {K:Frag}{C f:Addr}{x q:Str}{st:Stmt}{fd:FuncData}{oc kV dc pm cd ct:Value}{od an:Option Addr}{sl:Array (Option Value)}
theorem dfI (a:nsIn K mainGlobals x=some (some (.ref f)))(l:K.lookup f=some ⟨oc,od,.func (fnOf x x (bT st) (bC st) (am st) .none kV dc pm an cd ct),sl⟩)(c:codeIn K cd x=true)(k:keepIn K (.ref f)=true):Df K x st f:=⟨a,_,jJ l c k⟩
theorem mtI (a:findIn K (.ref C) x=some (some (.ref f)))(i:isFn K (.ref f)=true)(l:K.lookup f=some ⟨oc,od,.func (fnOf x q (bT st) (bC st) (am st) .none kV dc pm an cd ct),sl⟩)(c:codeIn K cd q=true)(k:keepIn K (.ref f)=true):Mt K C x q st f:=⟨a,i,_,jJ l c k⟩
theorem bsI (a:findCls K (.ref C) (.type "type") x=some (.val (.ref f)))(l:K.lookup f=some ⟨oc,od,.func (fnOf x q (bT st) (bC st) (am st) .none kV dc pm an cd ct),sl⟩)(c:codeIn K cd q=true)(k:keepIn K (.ref f)=true):Bs K C x q st f:=⟨a,_,jJ l c k⟩
def Bd (x q:Str)(st:Stmt)(ps:List Str):Prop:=∀(kV doc pm:Value) (an:Option Addr) (cdv ct:Value) (us:List Value),us.length=ps.length->bindArgs (fnOf x q (bT st) (bC st) (am st) .none kV doc pm an cdv ct) ⟨us,[]⟩=pure (ps.zip us)
theorem ln1 {P:List Value->Prop}(h:∀a,P [a])(us:List Value)(hl:us.length=1):P us:=by
 obtain ⟨a,rfl⟩:=Fm.mp hl
 exact h a
theorem lnS {P:List Value->Prop}(h:∀a (us:List Value),us.length=n->P (a::us))(us:List Value)(hl:us.length=n+1):P us:=by
 cases us with
 | nil=>cases hl
 | cons a us=>exact h a us (Fy hl)
theorem Df.get (d:Df K x st f)(X:K.In h)(G:h.Ns mainGlobals mg)(ps:List Str)(b:Bd x x st ps:=by first | exact (fun _ _ _ _ _ _=>ln1 fun _=>rfl) | exact (fun _ _ _ _ _ _=>lnS fun _=>ln1 fun _=>rfl) | exact (fun _ _ _ _ _ _=>lnS fun _=>lnS fun _=>ln1 fun _=>rfl) | exact (fun _ _ _ _ _ _=>lnS fun _=>lnS fun _=>lnS fun _=>ln1 fun _=>rfl)):
  ∃ fd,Fun K x x st f fd/\Nm K mg x f fd ps:=by
 obtain ⟨a,fd,F⟩:=d
 exact ⟨fd,F,mg_of X G a,F.kp,F.binds b⟩
theorem Mt.get (d:Mt K C x q st f)(ps:List Str)(b:Bd x q st ps:=by first | exact (fun _ _ _ _ _ _=>ln1 fun _=>rfl) | exact (fun _ _ _ _ _ _=>lnS fun _=>ln1 fun _=>rfl) | exact (fun _ _ _ _ _ _=>lnS fun _=>lnS fun _=>ln1 fun _=>rfl) | exact (fun _ _ _ _ _ _=>lnS fun _=>lnS fun _=>lnS fun _=>ln1 fun _=>rfl)):
  ∃ fd,Fun K x q st f fd/\Binds K fd ps []/\b8 K C x f:=by
 obtain ⟨a,i,fd,F⟩:=d
 exact ⟨fd,F,F.binds b,a,i,F.kp⟩
theorem Bs.get (d:Bs K C x q st f)(ps:List Str)(ga:specialIn K (.ref C) "__getattribute__"=some (some (.builtin "type.__getattribute__")))(rd:readsIn K C (.type "type")=true)(b:Bd x q st ps:=by first | exact (fun _ _ _ _ _ _=>ln1 fun _=>rfl) | exact (fun _ _ _ _ _ _=>lnS fun _=>ln1 fun _=>rfl) | exact (fun _ _ _ _ _ _=>lnS fun _=>lnS fun _=>ln1 fun _=>rfl)):
  ∃ fd,Fun K x q st f fd/\Binds K fd ps []/\yA K C (.type "type") x f:=by
 obtain ⟨a,fd,F⟩:=d
 exact ⟨fd,F,F.binds b,ga,rd,a,F.kp⟩
end
end L2
namespace L2
open PySem
theorem Room.mo {a b:Nat}(h:Room b A)(hk:a<=b:=by decide):Room a A:=h.mono hk
theorem qst (i:Nat)(hN:X.N.Nodup)(he:QE X e te)(hi:X.N[i]?=some x:=by rfl)(hx:Loc X.env.scope x:=by exact Or.inl rfl)(hs:swapsWith e (some (.Name x pos')) pos.line X.env=pure false:=by rfl)(hf:X.fn x=true∨X.env.scope.names.lookup x=some .local:=by first | exact .inl rfl | exact .inr rfl | assumption):QS X (.Assign [.Name x pos'] e pos) (rp te (eZ i)):=eO hN hi hx he hs hf
section
variable {X:Cx}{e:Expr}{es:List Expr}{pos p:Pos}{x:Str}{t:TA}
theorem qcl {CX:CXT}{k k':Nat}{E:XK}(F:aB X.prog X.w X.K X.mg X.base CX k f fd ps sp)(hr:Room k' X.A)(D:Nm X.K X.mg x f fd ps)(hx:cR CX X E)(ha:QA X (e::es) t)(hk:k<=k':=by decide)(hg:Gl X x:=by rfl)(hdb:(x == ("__debug__":Str))=false:=by decide)(he:starEach (e::es) X.env=(false,eval e X.env)::starEach es X.env:=by rfl)(hpl:(backTo pos (starEach es X.env)).any (·.1)=false:=by rfl):QE X (.Call (.Name x p) (e::es) [] pos) (rA sp [] E t):=uU F (hr.mono hk) hg D.m D.k D.b .nil hx ha hdb he hpl
theorem qcB {id:String}(hc:cf X (.builtin id) r)(hm:X.mg x=none)(ha:QA X (e::es) t)(hg:Gl X x:=by rfl)(hv:bootBuiltins x=some (.builtin id):=by decide +kernel)(hn:x≠"__name__":=by decide)(hdb:(x == ("__debug__":Str))=false:=by decide)(he:starEach (e::es) X.env=(false,eval e X.env)::starEach es X.env:=by rfl)(hpl:(backTo pos (starEach es X.env)).any (·.1)=false:=by rfl):QE X (.Call (.Name x p) (e::es) [] pos) (tCB r t):=gX hc hg hm hv ha hn hdb he hpl
theorem qcT {T:String}(hc:cf X (.type T) r)(hm:X.mg x=none)(ha:QA X (e::es) t)(hg:Gl X x:=by rfl)(hv:bootBuiltins x=some (.type T):=by decide +kernel)(hn:x≠"__name__":=by decide)(hdb:(x == ("__debug__":Str))=false:=by decide)(he:starEach (e::es) X.env=(false,eval e X.env)::starEach es X.env:=by rfl)(hpl:(backTo pos (starEach es X.env)).any (·.1)=false:=by rfl):QE X (.Call (.Name x p) (e::es) [] pos) (tCB r t):=qE hc hg hm hv ha hn hdb he hpl
end
theorem pix {b:Expr}(h:∀o i,subscripted b false o i=operate [o,i] (getItem o i):=by exact fun _ _=>rfl):∀o i,subscripted b false o i=operate [o,i] (getItem o i):=h
theorem yY {P:List Value->Prop}(h:∀a,P [a])(us:List Value)(hl:us.length=1):P us:=by
  obtain ⟨a,rfl⟩:=Fm.mp hl
  exact h a
theorem zb {P:List Value->Prop}(h:∀a b,P [a,b])(us:List Value)(hl:us.length=2):P us:=by
  cases us with
  | nil=>cases hl
  | cons a us=>exact yY (P:=fun t=>P (a::t)) (h a) us (Fy hl)
theorem yV {P:List Value->Prop}(h:∀a b c,P [a,b,c])(us:List Value)(hl:us.length=3):P us:=by
  cases us with
  | nil=>cases hl
  | cons a us=>exact zb (P:=fun t=>P (a::t)) (h a) us (Fy hl)
theorem Ag {P:List Value->Prop}(h:∀a b c d,P [a,b,c,d])(us:List Value)(hl:us.length=4):P us:=by
  cases us with
  | nil=>cases hl
  | cons a us=>exact yV (P:=fun t=>P (a::t)) (h a) us (Fy hl)
theorem Fun.bi (F:Fun K x qual st f fd)(ps:List Str)(h:∀(kV doc pm:Value) (an:Option Addr) (cdv ct:Value) (us:List Value),us.length=ps.length->bindArgs (W.fnOf x qual (bT st) (bC st) (am st) .none kV doc pm an cdv ct) ⟨us,[]⟩=pure (ps.zip us):=by first | exact (fun _ _ _ _ _ _=>yY fun _=>rfl) | exact (fun _ _ _ _ _ _=>zb fun _ _=>rfl) | exact (fun _ _ _ _ _ _=>yV fun _ _ _=>rfl) | exact (fun _ _ _ _ _ _=>Ag fun _ _ _ _=>rfl)):Binds K fd ps []:=F.binds h
end L2
namespace Kx
open PySem L2
def top (i:Nat):Stmt:=PySem.Challenge.pw_lategone_k19_whole_ledgers_told_otherwis.main.body.getD i (.Pass ⟨0,0,0,0⟩)
section
variable {P:Program}{w:World}{K:W.Frag}{mg:Str->Option Value}{base:Heap}
open Hm
abbrev tU:Stmt:=top 13
theorem uI:aA ["heap","place","other","held"] ["heap","place","other"] (am tU):=fs0
def nr:Sp:=fun vs H Q _=>∃ (r:Addr) (xs:List V) (i j:Nat),vs=[.ref r,.int i,.int j]/\H r=some (.lst xs)/\i<xs.length/\j<xs.length/\Q .non (upd H r (.lst (sw xs i j)))
theorem v5 (F:Fun K "exchange" "exchange" tU f fd)(T:Bl mg):aB P w K mg base CX0 1 f fd ["heap","place","other"] nr:=by
 have sc:=uI
 refine F.ok uI fun cdv A outer s H vs Q E hr h=>?_
 obtain ⟨r,xs,i,j,rfl,hx,hi,hj,k⟩:=h
 have hu:=hr.units0
 refine ⟨_,(QSs.to (af (qst 3 sc.nd (ar aw (qv 0) (qv 1) pix))
  (af (bU (ar aw (qv 0) (qv 2) pix) (bR (qv 0) (qv 1) bh))
  (ak (bU (qv 3) (bR (qv 0) (qv 2) bh)))))),?_⟩
 refine ⟨_,_,SqL.of hx,xU hi,?_⟩
 refine ⟨_,_,SqL.of hx,xU hj,?_⟩
 refine ⟨r,xs,_,i,rfl,rfl,hx,cD Am Am,?_⟩
 refine ⟨r,_,_,j,rfl,rfl,ag,cD Am (by rw [Cq];lia),?_⟩
 rw [cu]
 exact k
abbrev uD:Stmt:=top 11
theorem rh:aA ["heap","start","place","looks","above"] ["heap","start"] (am uD):=fs0
def sj:Sp:=fun vs H Q _=>∃ (r:Addr) (xs:List V) (a:Nat) (t:V->List V),vs=[.ref r,.int a]/\H r=some (.lst xs)/\EnR t H xs/\a<xs.length/\xs.length<=1100 /\
 ∀H',H' r=some (.lst (up (ltT t) a xs a 0).1)->(∀b o,H b=some o->b≠r->H' b=some o)->Q (.int (up (ltT t) a xs a 0).2) H'
theorem wc (F:Fun K "lift" "lift" uD f fd)(T:Bl mg)(Gexchange:aB P w K mg base CX0 1 fe fde ["heap","place","other"] nr)(Dexchange:Nm K mg "exchange" fe fde ["heap","place","other"]):
  aB P w K mg base CX0 2 f fd ["heap","start"] sj:=by
 have sc:=rh
 refine F.ok rh fun cdv A outer s H vs Q E hr h=>?_
 obtain ⟨r,xs,a,t,rfl,hx,en,ha,hl,k⟩:=h
 have hu:=hr.units0
 refine ⟨_,(QSs.to (af (qst 2 sc.nd (qv 1))
  (af (qst 3 sc.nd ah)
  (af (cO Bz (ay fZ (qv 2) ah (aD _)) (af (qst 4 sc.nd (au bS (au bH (qv 2) ah) ah))
  (af (qst 3 sc.nd (au aK (qv 3) ah))
  (af (aO (eK (ay (fH hu) (ar aw (qv 0) (qv 2) pix) (ar aw (qv 0) (qv 4) pix) (aD _))) (ak (aF (qv 3))) aE)
  (af (aL (qcl Gexchange hr Dexchange az (ae (qv 0) (ae (qv 2) (ae (qv 4) aj)))))
  (ak (qst 2 sc.nd (qv 4))))))))
  (ak (aF (qv 3))))))),?_⟩
 refine (?_)
 refine ⟨fun m U H2=>∃ (f p lk:Nat) (bl:Option V) (ys:List V),U=[some (.ref r),some (.int a),some (.int p),some (.int lk),bl]/\up (ltT t) f ys p lk=up (ltT t) a xs a 0/\p<=f/\p<ys.length/\H2 r=some (.lst ys)/\ys.length=xs.length/\(∀y∈ys,y∈xs)/\(∀b o,H b=some o->b≠r->H2 b=some o)/\m=p,
  ⟨_,a,a,0,none,xs,rfl,rfl,Av _,ha,hx,rfl,fun y h=>h,fun b o e _=>e,rfl⟩,?_⟩
 rintro p U H2 ⟨f,p',lk,bl,ys,rfl,hd,hf,hp,h2,l2,s2,f2,rfl⟩
 have en2:EnR t H2 ys:=(en.bar hx f2).sub s2
 refine ⟨_,rfl,aU (fun c1=>?_) (fun c1=>(?_))⟩
 rotate_left
 .have c1':¬ (p:Int)>0:=by simpa using c1
  rw [oA Am] at hd
  have:=k H2
  rw [<-hd] at this
  exact this h2 f2
 have c1':(p:Int)>0:=by simpa using c1
 obtain ⟨f,rfl⟩:∃ f0,f=f0+1:=⟨f-1,Am⟩
 refine ⟨fun σ' H'=>∃ m',m'<p/\∃ (f p lk:Nat) (bl:Option V) (ys:List V),σ'=[some (.ref r),some (.int a),some (.int p),some (.int lk),bl]/\up (ltT t) f ys p lk=up (ltT t) a xs a 0/\p<=f/\p<ys.length/\H' r=some (.lst ys)/\ys.length=xs.length/\(∀y∈ys,y∈xs)/\(∀b o,H b=some o->b≠r->H' b=some o)/\m'=p,fun σ' H' z=>z,?_⟩
 refine ⟨⟨Ak,Ak⟩,?_⟩
 refine (?_)
 have hq:(p-1) / 2<ys.length:=by lia
 have ea:((p:Int)-1) / 2=(((p-1) / 2:Nat):Int):=by lia
 obtain ⟨b1,e1,g1,m1,t1⟩:=en2.gat hp
 obtain ⟨b2,e2,g2,m2,t2⟩:=en2.gat hq
 rw [e1] at t1
 rw [e2,<-ea] at t2
 refine ⟨_,_,SqL.of h2,t1,_,_,SqL.of h2,t2,b1,b2,_,_,rfl,rfl,SqT.of g1,SqT.of g2,en2.fit _ _,_,rfl,aU (fun c3=>?_) (fun c3=>?_)⟩
 .have q3:ltT t (g ys p) (g ys ((p-1) / 2))=false:=by
   cases q:ltT t (g ys p) (g ys ((p-1) / 2)) with
   | false=>rfl
   | true=>have c4:=(show (!ltT t (g ys p) (g ys ((p-1) / 2)))=true from c3);rw [q] at c4;cases c4
  refine (?_)
  rw [oU Am q3] at hd
  have:=k H2
  rw [<-hd] at this
  exact this h2 f2
 have q3:ltT t (g ys p) (g ys ((p-1) / 2))=true:=by
  cases q:ltT t (g ys p) (g ys ((p-1) / 2)) with
  | true=>rfl
  | false=>exact absurd (show (!ltT t (g ys p) (g ys ((p-1) / 2)))=true by rw [q];rfl) c3
 rw [wR Am q3] at hd
 refine ⟨r,ys,p,(p-1) / 2,(by show [V.ref r,V.int (p:Int),V.int (((p:Int)-1) / 2)]=[V.ref r,V.int (p:Int),V.int ((((p-1) / 2:Nat)):Int)];rw [ea]),h2,hp,hq,?_⟩
 refine ⟨(p-1) / 2,Am,f,(p-1) / 2,lk+1,some (.int ((((p-1) / 2:Nat)):Int)),sw ys p ((p-1) / 2),(by show [some (V.ref r),some (V.int a),some (V.int (((p:Int)-1) / 2)),some (V.int ((lk:Int)+1)),some (V.int (((p:Int)-1) / 2))]=_;rw [ea];rfl),hd,Am,by rw [aS];exact hq,ag,by rw [aS];exact l2,fun y hy=>s2 y (eT hp hq y hy),fun b o e nb=>by rw [ao nb];exact f2 b o e nb,rfl⟩
abbrev xR:Stmt:=top 8
theorem wv:aA ["heap","entry"] ["heap","entry"] (am xR):=fs0
def qX:Sp:=fun vs H Q _=>∃ (r:Addr) (xs:List V) (e:V) (t:V->List V),vs=[.ref r,e]/\H r=some (.lst xs)/\EnR t H (xs++[e])/\xs.length<=1000 /\
 ∀H',H' r=some (.lst (up (ltT t) xs.length (xs++[e]) xs.length 0).1)->(∀b o,H b=some o->b≠r->H' b=some o)->Q (.int (up (ltT t) xs.length (xs++[e]) xs.length 0).2) H'
theorem yw (F:Fun K "lay_in" "lay_in" xR f fd)(T:Bl mg)(Glift:aB P w K mg base CX0 2 fe fde ["heap","start"] sj)(Dlift:Nm K mg "lift" fe fde ["heap","start"]):
  aB P w K mg base CX0 3 f fd ["heap","entry"] qX:=by
 have sc:=wv
 refine F.ok wv fun cdv A outer s H vs Q E hr h=>?_
 obtain ⟨r,xs,e,t,rfl,hx,en,hl,k⟩:=h
 have hu:=hr.units0
 refine ⟨_,(QSs.to (af (aL (ci AZ A3 A4 aW (qv 0) (ae (qv 1) aj)))
  (ak (aF (qcl Glift hr Dlift az (ae (qv 0) (ae (au bH (qcB aG T.z_len (ae (qv 0) aj)) ah) aj))))))),?_⟩
 refine ⟨.inl ⟨rfl,_,SqL.of hx⟩,r,xs,e,rfl,rfl,hx,Bj hl Ak,?_⟩
 have l1:(xs++[e]).length=xs.length+1:=by rw [As];rfl
 refine ⟨r,_,rfl,.inl (SqL.of ag),r,xs++[e],xs.length,t,?_,ag,en.put hx,Am,Am,fun H' h' f'=>k H' h' fun b o q nb=>f' b o (by rw [ao nb];exact q) nb⟩
 rw [l1]
 show [V.ref r,V.int (((xs.length+1:Nat):Int)-1)]=_
 rw [show ((xs.length+1:Nat):Int)-1=(xs.length:Int) by lia]
abbrev iD:Stmt:=top 12
theorem jn:aA ["heap","start","place","looks","beneath"] ["heap","start"] (am iD):=fs0
def fP:Sp:=fun vs H Q _=>∃ (r:Addr) (xs:List V) (a:Nat) (t:V->List V),vs=[.ref r,.int a]/\H r=some (.lst xs)/\EnR t H xs/\xs.length<=1000 /\
 ∀H',H' r=some (.lst (dn (ltT t) xs.length xs a 0).1)->(∀b o,H b=some o->b≠r->H' b=some o)->Q (.int (dn (ltT t) xs.length xs a 0).2) H'
theorem ni (F:Fun K "let_down" "let_down" iD f fd)(T:Bl mg)(Gexchange:aB P w K mg base CX0 1 fe fde ["heap","place","other"] nr)(Dexchange:Nm K mg "exchange" fe fde ["heap","place","other"]):
  aB P w K mg base CX0 2 f fd ["heap","start"] fP:=by
 have sc:=jn
 refine F.ok jn fun cdv A outer s H vs Q E hr h=>?_
 obtain ⟨r,xs,a,t,rfl,hx,en,hl,k⟩:=h
 have hu:=hr.units0
 refine ⟨_,(QSs.to (af (qst 2 sc.nd (qv 1))
  (af (qst 3 sc.nd ah)
  (af (cO Bz (ay fA (au aK (au cW ah (qv 2)) ah) (qcB aG T.z_len (ae (qv 0) aj)) (aD _)) (af (qst 4 sc.nd (au aK (au cW ah (qv 2)) ah))
  (af (aO (ay fA (au aK (qv 4) ah) (qcB aG T.z_len (ae (qv 0) aj)) (aD _)) (af (qst 3 sc.nd (au aK (qv 3) ah))
  (ak (aO (ay (fH hu) (ar aw (qv 0) (au aK (qv 4) ah) pix) (ar aw (qv 0) (qv 4) pix) (aD _)) (ak (qst 4 sc.nd (au aK (qv 4) ah))) aE))) aE)
  (af (qst 3 sc.nd (au aK (qv 3) ah))
  (af (aO (eK (ay (fH hu) (ar aw (qv 0) (qv 4) pix) (ar aw (qv 0) (qv 2) pix) (aD _))) (ak (aF (qv 3))) aE)
  (af (aL (qcl Gexchange hr Dexchange az (ae (qv 0) (ae (qv 2) (ae (qv 4) aj)))))
  (ak (qst 2 sc.nd (qv 4)))))))))
  (ak (aF (qv 3))))))),?_⟩
 refine (?_)
 refine ⟨fun m U H2=>∃ (f p lk:Nat) (bl:Option V) (ys:List V),U=[some (.ref r),some (.int a),some (.int p),some (.int lk),bl]/\dn (ltT t) f ys p lk=dn (ltT t) xs.length xs a 0/\ys.length<=p+f/\H2 r=some (.lst ys)/\ys.length=xs.length/\(∀y∈ys,y∈xs)/\(∀b o,H b=some o->b≠r->H2 b=some o)/\m=ys.length-p,
  ⟨_,xs.length,a,0,none,xs,rfl,rfl,Am,hx,rfl,fun y h=>h,fun b o e _=>e,rfl⟩,?_⟩
 rintro m U H2 ⟨f,p,lk,bl,ys,rfl,hd,hf,h2,l2,s2,f2,rfl⟩
 have en2:EnR t H2 ys:=(en.bar hx f2).sub s2
 refine ⟨.inl ⟨Ak,Ak⟩,r,_,rfl,.inl (SqL.of h2),_,rfl,aU (fun c1=>?_) (fun c1=>(?_))⟩
 rotate_left
 .have c1':¬ 2*(p:Int)+1<(ys.length:Int):=by simpa using c1
  rw [oE Am] at hd
  have:=k H2
  rw [<-hd] at this
  exact this h2 f2
 have c1':2*(p:Int)+1<(ys.length:Int):=by simpa using c1
 refine ⟨fun σ' H'=>∃ m',m'<ys.length-p/\∃ (f p lk:Nat) (bl:Option V) (zs:List V),σ'=[some (.ref r),some (.int a),some (.int p),some (.int lk),bl]/\dn (ltT t) f zs p lk=dn (ltT t) xs.length xs a 0/\zs.length<=p+f/\H' r=some (.lst zs)/\zs.length=xs.length/\(∀y∈zs,y∈xs)/\(∀b o,H b=some o->b≠r->H' b=some o)/\m'=zs.length-p,fun σ' H' z=>z,?_⟩
 refine ⟨.inl ⟨Ak,Ak⟩,?_⟩
 refine ⟨r,_,rfl,.inl (SqL.of h2),_,rfl,aU (fun c2=>?_) (fun c2=>?_)⟩
 .have c2':2*(p:Int)+1+1<(ys.length:Int):=by simpa using c2
  refine (?_)
  obtain ⟨b3,e3,g3,m3,t3⟩:=en2.gat (show 2*p+2<ys.length by lia)
  obtain ⟨b4,e4,g4,m4,t4⟩:=en2.gat (show 2*p+1<ys.length by lia)
  rw [e3,show ((2*p+2:Nat):Int)=2*(p:Int)+1+1 by lia] at t3
  rw [e4,show ((2*p+1:Nat):Int)=2*(p:Int)+1 by lia] at t4
  have kidsE:kids ys.length p=2:=by unfold kids;rw [Az Am]
  have hB2:=oO (lt:=ltT t) (xs:=ys) (p:=p) Am
  refine ⟨_,_,SqL.of h2,t3,_,_,SqL.of h2,t4,b3,b4,_,_,rfl,rfl,SqT.of g3,SqT.of g4,en2.fit _ _,_,rfl,aU (fun c4=>?_) (fun c4=>?_)⟩
  .refine (?_)
   have hB:2*(p:Int)+1+1=((les (ltT t) ys p:Nat):Int):=by rw [hB2,Az (show ltT t (g ys (2*p+2)) (g ys (2*p+1))=true from c4)]
   have hles:les (ltT t) ys p<ys.length:=cC Am
   have lo:=eJ (lt:=ltT t) (xs:=ys) (p:=p)
   refine (?_)
   obtain ⟨b1,e1,g1,m1,t1⟩:=en2.gat hles
   obtain ⟨b2,e2,g2,m2,t2⟩:=en2.gat (show p<ys.length by lia)
   rw [e1] at t1
   rw [e2] at t2
   rw [<-hB] at t1
   refine ⟨_,_,SqL.of h2,t1,_,_,SqL.of h2,t2,b1,b2,_,_,rfl,rfl,SqT.of g1,SqT.of g2,en2.fit _ _,_,rfl,aU (fun c3=>?_) (fun c3=>?_)⟩
   .have q3:ltT t (g ys (les (ltT t) ys p)) (g ys p)=false:=by
     cases q:ltT t (g ys (les (ltT t) ys p)) (g ys p) with
     | false=>rfl
     | true=>have c4:=(show (!ltT t (g ys (les (ltT t) ys p)) (g ys p))=true from c3);rw [q] at c4;cases c4
    refine (?_)
    obtain ⟨f,rfl⟩:∃ f0,f=f0+1:=⟨f-1,Am⟩
    rw [fk Am q3,kidsE] at hd
    have:=k H2
    rw [<-hd] at this
    have ez:((lk:Int)+1+1)=((lk+2:Nat):Int):=by lia
    show Q (.int ((lk:Int)+1+1)) H2
    rw [ez]
    exact this h2 f2
   .have q3:ltT t (g ys (les (ltT t) ys p)) (g ys p)=true:=by
     cases q:ltT t (g ys (les (ltT t) ys p)) (g ys p) with
     | true=>rfl
     | false=>exact absurd (show (!ltT t (g ys (les (ltT t) ys p)) (g ys p))=true by rw [q];rfl) c3
    obtain ⟨f,rfl⟩:∃ f0,f=f0+1:=⟨f-1,Am⟩
    rw [me Am q3,kidsE] at hd
    refine ⟨r,ys,p,les (ltT t) ys p,(by show [V.ref r,V.int (p:Int),V.int (2*(p:Int)+1+1)]=_;rw [hB]),h2,Am,hles,?_⟩
    refine ⟨ys.length-les (ltT t) ys p,Am,f,les (ltT t) ys p,lk+2,some (.int (2*(p:Int)+1+1)),sw ys p (les (ltT t) ys p),?_,hd,by rw [aS];lia,ag,by rw [aS];exact l2,fun y hy=>s2 y (eT Am hles y hy),fun b o e nb=>by rw [ao nb];exact f2 b o e nb,by rw [aS]⟩
    have ez:((lk:Int)+1+1)=((lk+2:Nat):Int):=by lia
    show [some (V.ref r),some (V.int a),some (V.int (2*(p:Int)+1+1)),some (V.int ((lk:Int)+1+1)),some (V.int (2*(p:Int)+1+1))]=_
    rw [ez,hB]
  .have hB:2*(p:Int)+1=((les (ltT t) ys p:Nat):Int):=by rw [hB2,Ay (show ¬ ltT t (g ys (2*p+2)) (g ys (2*p+1))=true from c4)];lia
   have hles:les (ltT t) ys p<ys.length:=cC Am
   have lo:=eJ (lt:=ltT t) (xs:=ys) (p:=p)
   refine (?_)
   obtain ⟨b1,e1,g1,m1,t1⟩:=en2.gat hles
   obtain ⟨b2,e2,g2,m2,t2⟩:=en2.gat (show p<ys.length by lia)
   rw [e1] at t1
   rw [e2] at t2
   rw [<-hB] at t1
   refine ⟨_,_,SqL.of h2,t1,_,_,SqL.of h2,t2,b1,b2,_,_,rfl,rfl,SqT.of g1,SqT.of g2,en2.fit _ _,_,rfl,aU (fun c3=>?_) (fun c3=>?_)⟩
   .have q3:ltT t (g ys (les (ltT t) ys p)) (g ys p)=false:=by
     cases q:ltT t (g ys (les (ltT t) ys p)) (g ys p) with
     | false=>rfl
     | true=>have c4:=(show (!ltT t (g ys (les (ltT t) ys p)) (g ys p))=true from c3);rw [q] at c4;cases c4
    refine (?_)
    obtain ⟨f,rfl⟩:∃ f0,f=f0+1:=⟨f-1,Am⟩
    rw [fk Am q3,kidsE] at hd
    have:=k H2
    rw [<-hd] at this
    have ez:((lk:Int)+1+1)=((lk+2:Nat):Int):=by lia
    show Q (.int ((lk:Int)+1+1)) H2
    rw [ez]
    exact this h2 f2
   .have q3:ltT t (g ys (les (ltT t) ys p)) (g ys p)=true:=by
     cases q:ltT t (g ys (les (ltT t) ys p)) (g ys p) with
     | true=>rfl
     | false=>exact absurd (show (!ltT t (g ys (les (ltT t) ys p)) (g ys p))=true by rw [q];rfl) c3
    obtain ⟨f,rfl⟩:∃ f0,f=f0+1:=⟨f-1,Am⟩
    rw [me Am q3,kidsE] at hd
    refine ⟨r,ys,p,les (ltT t) ys p,(by show [V.ref r,V.int (p:Int),V.int (2*(p:Int)+1)]=_;rw [hB]),h2,Am,hles,?_⟩
    refine ⟨ys.length-les (ltT t) ys p,Am,f,les (ltT t) ys p,lk+2,some (.int (2*(p:Int)+1)),sw ys p (les (ltT t) ys p),?_,hd,by rw [aS];lia,ag,by rw [aS];exact l2,fun y hy=>s2 y (eT Am hles y hy),fun b o e nb=>by rw [ao nb];exact f2 b o e nb,by rw [aS]⟩
    have ez:((lk:Int)+1+1)=((lk+2:Nat):Int):=by lia
    show [some (V.ref r),some (V.int a),some (V.int (2*(p:Int)+1)),some (V.int ((lk:Int)+1+1)),some (V.int (2*(p:Int)+1))]=_
    rw [ez,hB]
 have c2':¬ 2*(p:Int)+1+1<(ys.length:Int):=by simpa using c2
 have hB:2*(p:Int)+1=((les (ltT t) ys p:Nat):Int):=by rw [pI Am];lia
 have kidsE:kids ys.length p=1:=by unfold kids;rw [Ay Am,Az Am]
 have hles:les (ltT t) ys p<ys.length:=cC Am
 have lo:=eJ (lt:=ltT t) (xs:=ys) (p:=p)
 refine (?_)
 obtain ⟨b1,e1,g1,m1,t1⟩:=en2.gat hles
 obtain ⟨b2,e2,g2,m2,t2⟩:=en2.gat (show p<ys.length by lia)
 rw [e1] at t1
 rw [e2] at t2
 rw [<-hB] at t1
 refine ⟨_,_,SqL.of h2,t1,_,_,SqL.of h2,t2,b1,b2,_,_,rfl,rfl,SqT.of g1,SqT.of g2,en2.fit _ _,_,rfl,aU (fun c3=>?_) (fun c3=>?_)⟩
 .have q3:ltT t (g ys (les (ltT t) ys p)) (g ys p)=false:=by
   cases q:ltT t (g ys (les (ltT t) ys p)) (g ys p) with
   | false=>rfl
   | true=>have c4:=(show (!ltT t (g ys (les (ltT t) ys p)) (g ys p))=true from c3);rw [q] at c4;cases c4
  refine (?_)
  obtain ⟨f,rfl⟩:∃ f0,f=f0+1:=⟨f-1,Am⟩
  rw [fk Am q3,kidsE] at hd
  have:=k H2
  rw [<-hd] at this
  have ez:((lk:Int)+1)=((lk+1:Nat):Int):=by lia
  show Q (.int ((lk:Int)+1)) H2
  rw [ez]
  exact this h2 f2
 have q3:ltT t (g ys (les (ltT t) ys p)) (g ys p)=true:=by
  cases q:ltT t (g ys (les (ltT t) ys p)) (g ys p) with
  | true=>rfl
  | false=>exact absurd (show (!ltT t (g ys (les (ltT t) ys p)) (g ys p))=true by rw [q];rfl) c3
 obtain ⟨f,rfl⟩:∃ f0,f=f0+1:=⟨f-1,Am⟩
 rw [me Am q3,kidsE] at hd
 refine ⟨r,ys,p,les (ltT t) ys p,(by show [V.ref r,V.int (p:Int),V.int (2*(p:Int)+1)]=_;rw [hB]),h2,Am,hles,?_⟩
 refine ⟨ys.length-les (ltT t) ys p,Am,f,les (ltT t) ys p,lk+1,some (.int (2*(p:Int)+1)),sw ys p (les (ltT t) ys p),?_,hd,by rw [aS];lia,ag,by rw [aS];exact l2,fun y hy=>s2 y (eT Am hles y hy),fun b o e nb=>by rw [ao nb];exact f2 b o e nb,by rw [aS]⟩
 have ez:((lk:Int)+1)=((lk+1:Nat):Int):=by lia
 show [some (V.ref r),some (V.int a),some (V.int (2*(p:Int)+1)),some (V.int ((lk:Int)+1)),some (V.int (2*(p:Int)+1))]=_
 rw [ez,hB]
abbrev xQ:Stmt:=top 9
theorem w9:aA ["heap","last"] ["heap"] (am xQ):=fs0
def rf:Sp:=fun vs H Q _=>∃ (r:Addr) (xs:List V) (t:V->List V),vs=[.ref r]/\H r=some (.lst xs)/\EnR t H xs/\0<xs.length/\xs.length<=1000 /\
 ∀H',H' r=some (.lst (cutf (ltT t) xs).1)->(∀b o,H b=some o->b≠r->H' b=some o)->Q (.int (cutf (ltT t) xs).2) H'
theorem xF (F:Fun K "cut_first" "cut_first" xQ f fd)(T:Bl mg)(Glet_down:aB P w K mg base CX0 2 fe fde ["heap","start"] fP)(Dlet_down:Nm K mg "let_down" fe fde ["heap","start"]):
  aB P w K mg base CX0 3 f fd ["heap"] rf:=by
 have sc:=w9
 refine F.ok w9 fun cdv A outer s H vs Q E hr h=>?_
 obtain ⟨r,xs,t,rfl,hx,en,h0,hl,k⟩:=h
 have hu:=hr.units0
 refine ⟨_,(QSs.to (af (qst 1 sc.nd (sM AZ Et Eu sV (qv 0)))
  (af (aO (ay bz (qcB aG T.z_len (ae (qv 0) aj)) ah (aD _)) (ak (aF ah)) aE)
  (af (bU (qv 1) (bR (qv 0) ah bh))
  (ak (aF (qcl Glet_down hr Dlet_down az (ae (qv 0) (ae ah aj))))))))),?_⟩
 have eg:xs[xs.length-1]?=some (g xs (xs.length-1)):=by rw [g_get Am];exact tx _
 have mg':g xs (xs.length-1)∈xs:=AQ eg
 refine ⟨.inl ⟨rfl,_,SqL.of hx⟩,r,xs,_,rfl,rfl,hx,eg,?_⟩
 have ld:xs.dropLast.length=xs.length-1:=B8
 refine ⟨r,_,rfl,.inl (SqL.of ag),rfl,_,rfl,aU (fun c1=>?_) (fun c1=>?_)⟩
 .have c1':xs.dropLast.length=0:=by
   have:=Bc c1
   have:=V.int.inj this
   lia
  have ec:cutf (ltT t) xs=([],0):=cH Am
  have:=k (upd H r (.lst xs.dropLast))
  rw [ec] at this
  exact this (by rw [ag,AY.mp c1']) fun b o e nb=>by rw [ao nb];exact e
 have c1':xs.dropLast.length≠0:=fun z=>c1 (AO (by rw [z];rfl))
 have l2:(xs.dropLast.set 0 (g xs (xs.length-1))).length=xs.dropLast.length:=Cq
 refine ⟨r,xs.dropLast,_,0,rfl,rfl,ag,cD Am Am,?_⟩
 rw [cu]
 have ec:cutf (ltT t) xs=dn (ltT t) xs.dropLast.length (xs.dropLast.set 0 (g xs (xs.length-1))) 0 0:=by
  unfold cutf
  rw [Ay (fun z=>c1' (by rw [z];rfl))]
 refine ⟨r,_,0,t,rfl,ag,(en.sub fun y hy=>?_).put hx,Am,fun H' h' f'=>?_⟩
 .rcases DM hy with z | z
  .exact (Fz xs).mem z
  .rw [z];exact mg'
 rw [l2,<-ec] at h'
 rw [l2,<-ec]
 exact k H' h' fun b o e nb=>f' b o (by rw [ao nb];exact e) nb
abbrev nL:Stmt:=top 10
theorem pS:aA ["heap","looks","place"] ["heap"] (am nL):=fs0
def jQ:Sp:=fun vs H Q _=>∃ (r:Addr) (xs:List V) (t:V->List V),vs=[.ref r]/\H r=some (.lst xs)/\EnR t H xs/\xs.length<=1000 /\
 ∀H',H' r=some (.lst (mk (ltT t) (xs.length / 2) xs 0).1)->(∀b o,H b=some o->b≠r->H' b=some o)->Q (.int (mk (ltT t) (xs.length / 2) xs 0).2) H'
theorem su (F:Fun K "order" "order" nL f fd)(T:Bl mg)(Glet_down:aB P w K mg base CX0 2 fn fdn ["heap","start"] fP)(Dlet_down:Nm K mg "let_down" fn fdn ["heap","start"]):
  aB P w K mg base CX0 3 f fd ["heap"] jQ:=by
 have sc:=pS
 refine F.ok pS fun cdv A outer s H vs Q E hr h=>?_
 obtain ⟨r,xs,t,rfl,hx,en,hl,k⟩:=h
 have hu:=hr.units0
 refine ⟨_,(QSs.to (af (qst 1 sc.nd ah)
  (af (c6 Bz rfl (i8 rfl T.z_range (ae (au bH (au bS (qcB aG T.z_len (ae (qv 0) aj)) ah) ah) (ae (oF jG ah) (ae (oF jG ah) aj)))) (bu (i:=2) sc.nd rfl (Or.inl rfl)) (ak (qst 1 sc.nd (au aK (qv 1) (qcl Glet_down hr Dlet_down az (ae (qv 0) (ae (qv 2) aj)))))))
  (ak (aF (qv 1)))))),?_⟩
 refine ⟨r,_,rfl,.inl (SqL.of hx),⟨Ak,Ak⟩,_,_,rfl,⟨Am,Am,Am,Am⟩,?_⟩
 have en0:((xs.length:Int) / 2-1 - -1).toNat=xs.length / 2:=by lia
 refine iQ (lo:=(xs.length:Int) / 2-1) (n:=((xs.length:Int) / 2-1 - -1).toNat) (fun i U H4=>∃ (lk:Nat) (o:Option V) (ys:List V),U=[some (.ref r),some (.int lk),o]/\H4 r=some (.lst ys)/\ys.length=xs.length/\(∀y∈ys,y∈xs)/\(∀b o,H b=some o->b≠r->H4 b=some o)/\mk (ltT t) (xs.length / 2-i) ys lk=mk (ltT t) (xs.length / 2) xs 0)
  ⟨0,none,xs,rfl,hx,rfl,fun y h=>h,fun b o e _=>e,rfl⟩ ?_ ?_
 .rintro i U H4 hi ⟨lk,o,ys,rfl,h4,l4,s4,f4,m4⟩
  rw [en0] at hi
  have en4:EnR t H4 ys:=(en.bar hx f4).sub s4
  have ei:(xs.length:Int) / 2-1-(i:Int)=((xs.length / 2-1-i:Nat):Int):=by lia
  refine ⟨r,ys,xs.length / 2-1-i,t,(by show [V.ref r,V.int ((xs.length:Int) / 2-1-(i:Int))]=_;rw [ei]),h4,en4,Am,fun H5 h5 f5=>(?_)⟩
  refine ⟨lk+(dn (ltT t) ys.length ys (xs.length / 2-1-i) 0).2,_,_,rfl,h5,dn_len.trans l4,fun y hy=>s4 y (dn_perm.mem_iff.mp hy),fun b o e nb=>f5 b o (f4 b o e nb) nb,?_⟩
  rw [<-m4,show xs.length / 2-i=(xs.length / 2-(i+1))+1 by lia]
  conv=>rhs;unfold mk
  rw [show xs.length / 2-(i+1)=xs.length / 2-1-i by lia]
 rintro U H4 ⟨lk,o,ys,rfl,h4,l4,s4,f4,m4⟩
 rw [en0,Dp] at m4
 have m5:(ys,lk)=mk (ltT t) (xs.length / 2) xs 0:=m4
 have:=k H4
 rw [<-m5] at this
 exact (this h4 f4)
abbrev bmV:List Value:=[.type "ValueError",.type "Exception",.type "BaseException",.type "object"]
structure NT (K:W.Frag)(C:Addr):Prop where
 cl:Cls K C
 th:NoAttr K C "there"
 st:NoAttr K C "stamp"
abbrev sMany:Stmt:=bg (top 6) 1
def spMany (C:Addr):Sp:=fun vs H Q _=>∃ (p dx d:Addr) (fs:List (Str×V)) (ks:List (Key×V)),vs=[.ref p]/\H p=some (.ins C dx fs)/\fs.lookup ("there":Str)=some (.ref d)/\H d=some (.dK ks)/\Q (.int ks.length) H
abbrev nV:Stmt:=bg (top 6) 3
theorem oB:aA ["self","entry"] ["self","entry"] (am nV):=fs0
def jN (C:Addr):Sp:=fun vs H Q _=>∃ (p dx d:Addr) (fs:List (Str×V)) (ks:List (Key×V)) (T:List (Str×En)) (a:Addr) (e:En),vs=[.ref p,.ref a]/\H p=some (.ins C dx fs)/\fs.lookup ("there":Str)=some (.ref d)/\H d=some (.dK ks)/\KR H ks T/\H a=some (.tup (enV e))/\Q (.bl (Gm.holds T e)) H
theorem uC (F:Fun K "holds" "Named.holds" nV f fd)(T:Bl mg)(L:NT K C):aB P w K mg base CX0 1 f fd ["self","entry"] (jN C):=by
 have sc:=oB
 refine F.ok oB fun cdv A outer s H vs Q E hr h=>?_
 obtain ⟨p,dx,d,fs,ks,T',a,e,rfl,hp,hl,hd,kr,ha,k⟩:=h
 have hu:=hr.units0
 refine ⟨_,(QSs.to (ak (aF (cx (vN hu) (kG (aR hr) (a9 (qv 0) rfl) (ar aJ (qv 1) ah pix) ⟨rfl,rfl,rfl,rfl⟩) (qv 1) (aD _))))),?_⟩
 refine ⟨p,C,dx,fs,_,rfl,hp,L.cl,L.th,hl,d,rfl,.inl ⟨ks,.inl hd⟩,_,_,SqT.of ha,rfl,_,DGet.k (k:=Sum.inr e.n) hd,a,enV e,rfl,SqT.of ha,mN e,?_⟩
 unfold Gm.holds at k
 rcases kr.get e.n with ⟨e1,e2⟩ | ⟨b,e',e1,e2,hb⟩
 .rw [e2,AR (fun z=>nomatch z)] at k
  rw [e1]
  exact .inl ⟨rfl,k⟩
 rw [e2] at k
 rw [e1]
 refine .inr ⟨b,enV e',rfl,SqT.of hb,mN e',?_⟩
 by_cases z:e'=e
 .rw [z] at k ⊢
  rw [AO rfl] at k ⊢
  exact k
 rw [AR (fun y=>z (Be y))] at k
 rw [AR (fun y=>z (vv y))]
 exact k
abbrev qW:Stmt:=bg (top 6) 4
theorem tu:aA ["self","name"] ["self","name"] (am qW):=fs0
def mB (C:Addr):Sp:=fun vs H Q E=>∃ (p dx d:Addr) (fs:List (Str×V)) (ks:List (Key×V)) (n:Str),vs=[.ref p,.str n]/\H p=some (.ins C dx fs)/\fs.lookup ("there":Str)=some (.ref d)/\H d=some (.dK ks)/\n.length<=1000/\((bp ks (Sum.inr n)).isSome=true->Q .non H)/\((bp ks (Sum.inr n)).isSome=false->False)
theorem vA (F:Fun K "need" "Named.need" qW f fd)(T:Bl mg)(L:NT K C):aB P w K mg base CX0 1 f fd ["self","name"] (mB C):=by
 have sc:=tu
 refine F.ok tu fun cdv A outer s H vs Q E hr h=>?_
 obtain ⟨p,dx,d,fs,ks,n,rfl,hp,hl,hd,hn,k,kE⟩:=h
 have hu:=hr.units0
 refine ⟨_,(QSs.to (ak (aO (jp (aR hr) (qv 1) (a9 (qv 0) rfl)) (ak iW) aE))),?_⟩
 refine ⟨p,C,dx,fs,_,rfl,hp,L.cl,L.th,hl,d,_,rfl,DGet.k (k:=Sum.inr n) hd,_,rfl,?_⟩
 cases e:(bp ks (Sum.inr n:Key)).isSome with
 | false=>exact qk (kE e)
 | true=>exact gq (k e)
abbrev rP:Stmt:=bg (top 6) 5
theorem rY:aA ["self","name"] ["self","name"] (am rP):=fs0
def uB (C:Addr):Sp:=fun vs H Q E=>∃ (p dx d:Addr) (fs:List (Str×V)) (ks:List (Key×V)) (n:Str),vs=[.ref p,.str n]/\H p=some (.ins C dx fs)/\fs.lookup ("there":Str)=some (.ref d)/\H d=some (.dK ks)/\n.length<=1000/\((bp ks (Sum.inr n)).isSome=false->Q .non H)/\((bp ks (Sum.inr n)).isSome=true->False)
theorem jU (F:Fun K "need_free" "Named.need_free" rP f fd)(T:Bl mg)(L:NT K C):aB P w K mg base CX0 1 f fd ["self","name"] (uB C):=by
 have sc:=rY
 refine F.ok rY fun cdv A outer s H vs Q E hr h=>?_
 obtain ⟨p,dx,d,fs,ks,n,rfl,hp,hl,hd,hn,k,kE⟩:=h
 have hu:=hr.units0
 refine ⟨_,(QSs.to (ak (aO (x8 (aR hr) (qv 1) (a9 (qv 0) rfl)) (ak iW) aE))),?_⟩
 refine ⟨p,C,dx,fs,_,rfl,hp,L.cl,L.th,hl,d,_,rfl,DGet.k (k:=Sum.inr n) hd,_,rfl,?_⟩
 cases e:(bp ks (Sum.inr n:Key)).isSome with
 | true=>exact qk (kE e)
 | false=>exact gq (k e)
abbrev xZ:Stmt:=bg (top 6) 6
theorem wU:aA ["self"] ["self"] (am xZ):=fs0
def wE (C:Addr):Sp:=fun vs H Q E=>∃ (p dx d:Addr) (fs:List (Str×V)) (ks:List (Key×V)),vs=[.ref p]/\H p=some (.ins C dx fs)/\fs.lookup ("there":Str)=some (.ref d)/\H d=some (.dK ks)/\(ks≠[]->Q .non H)/\(ks=[]->False)
theorem mh (F:Fun K "need_any" "Named.need_any" xZ f fd)(T:Bl mg)(L:NT K C):aB P w K mg base CX0 1 f fd ["self"] (wE C):=by
 have sc:=wU
 refine F.ok wU fun cdv A outer s H vs Q E hr h=>?_
 obtain ⟨p,dx,d,fs,ks,rfl,hp,hl,hd,k,kE⟩:=h
 have hu:=hr.units0
 refine ⟨_,(QSs.to (ak (aO (ay bz (qcB cK T.z_len (ae (a9 (qv 0) rfl) aj)) ah (aD _)) (ak iW) aE))),?_⟩
 refine ⟨p,C,dx,fs,_,rfl,hp,L.cl,L.th,hl,d,ks,rfl,hd,rfl,_,rfl,aU (fun c1=>?_) (fun c1=>?_)⟩
 .have:=V.int.inj (Bc c1)
  exact kE (AY.mp Am)
 exact k fun z=>c1 (AO (by rw [z];rfl))
abbrev iO:Stmt:=bg (top 6) 7
theorem i6:aA ["self","name","worth","entry"] ["self","name","worth"] (am iO):=fs0
def i9 (C:Addr):Sp:=fun vs H Q _=>∃ (p dx d:Addr) (fs:List (Str×V)) (ks:List (Key×V)) (n:Str) (w st:Int),vs=[.ref p,.str n,.int w]/\H p=some (.ins C dx fs)/\fs.lookup ("there":Str)=some (.ref d)/\H d=some (.dK ks)/\fs.lookup ("stamp":Str)=some (.int st)/\fs.length<=100/\ks.length<=1000 /\
 ∀q,H q=none->Q (.ref q) (upd (upd (upd H q (.tup [.int w,.str n,.int st])) p (.ins C dx (bB ("stamp":Str) (.int (st+1)) fs))) d (.dK (aX ks (Sum.inr n) (.ref q))))
theorem oq:¬ (("there":Str)="stamp"):=by decide +kernel
theorem mG (F:Fun K "stamped" "Named.stamped" iO f fd)(T:Bl mg)(L:NT K C):aB P w K mg base CX0 1 f fd ["self","name","worth"] (i9 C):=by
 have sc:=i6
 refine F.ok i6 fun cdv A outer s H vs Q E hr h=>?_
 obtain ⟨p,dx,d,fs,ks,n,w,st,rfl,hp,hl,hd,hs,hf,hk,k⟩:=h
 have hu:=hr.units0
 have npd:p≠d:=bv hp hd (by intro z;cases z)
 refine ⟨_,(QSs.to (af (qst 3 sc.nd (aQ (ae (qv 2) (ae (qv 1) (ae (a9 (qv 0) rfl) aj)))))
  (af (cE (qv 0) (au aK (a9 (qv 0) rfl) ah) rfl)
  (af (fy (aR hr) (a9 (qv 0) rfl) (qv 1) (qv 3) rfl)
  (ak (aF (qv 3))))))),?_⟩
 refine ⟨p,C,dx,fs,_,rfl,hp,L.cl,L.st,hs,sz3,fun q hq=>?_⟩
 have hp1:(upd H q (.tup [.int w,.str n,.int st])) p=some (.ins C dx fs):=by rw [ao (ap hp hq)];exact hp
 have hd1:(upd H q (.tup [.int w,.str n,.int st])) d=some (.dK ks):=by rw [ao (ap hd hq)];exact hd
 refine ⟨p,C,dx,fs,_,rfl,hp1,L.cl,L.st,hs,p,C,dx,fs,rfl,hp1,L.cl,L.st,Am,?_⟩
 have hl2:(bB ("stamp":Str) (.int (st+1)) fs).lookup ("there":Str)=some (.ref d):=by rw [dg,Ay oq];exact hl
 refine ⟨p,C,dx,_,_,rfl,ag,L.cl,L.th,hl2,d,_,rfl,DPut.k (k:=Sum.inr n) (by rw [ao npd.symm];exact hd1) (aH hk),?_⟩
 exact (k q hq)
def wOf (T:List (Str×En))(n:Str):Int:=((Gm.dget T n).getD default).w
def PR (H:Hp)(zs:List V)(L:List (Str×Int)):Prop:=Paired (fun (z:V) (nw:Str×Int)=>∃ a,z=.ref a/\H a=some (.tup [.str nw.1,.int nw.2])) zs L
abbrev nF:Stmt:=bg (top 6) 0
theorem pX:aA ["self"] ["self"] (am nF):=fs0
def pN (C:Addr):Sp:=fun vs H Q _=>∃ (p dx:Addr),vs=[.ref p]/\H p=some (.ins C dx [])/\∀d,H d=none->Q .non (upd (upd (upd H d (.dK [])) p (.ins C dx [("there",.ref d)])) p (.ins C dx [("there",.ref d),("stamp",.int 0)]))
theorem fN (F:Fun K "__init__" "Named.__init__" nF f fd)(T:Bl mg)(L:NT K C):aB P w K mg base CX0 1 f fd ["self"] (pN C):=by
 have sc:=pX
 refine F.ok pX fun cdv A outer s H vs Q E hr h=>?_
 obtain ⟨p,dx,rfl,hp,k⟩:=h
 have hu:=hr.units0
 refine ⟨_,(QSs.to (af (cE (qv 0) hU rfl)
  (ak (cE (qv 0) ah rfl)))),?_⟩
 intro d hd
 have npd:p≠d:=ap hp hd
 refine ⟨p,C,dx,[],rfl,(by rw [ao npd];exact hp),L.cl,L.th,(by show 0<1000;decide),p,C,dx,_,rfl,ag,L.cl,L.st,(by show 1<1000;decide),?_⟩
 have e1:bB ("stamp":Str) (.int 0) (bB ("there":Str) (.ref d) [])=([("there",V.ref d),("stamp",V.int 0)]:List (Str×V)):=by
  show (if ("there":Str)="stamp" then _ else _)=_
  rw [Ay oq]
  rfl
 rw [e1]
 exact k d hd
structure LT (K:W.Frag)(C:Addr):Prop where
 nt:NT K C
 sk:NoAttr K C "slack"
 en:NoAttr K C "entries"
 lk:NoAttr K C "looks"
theorem LT.cl (L:LT K C):Cls K C:=L.nt.cl
def lfs (d l:Addr)(s:LS):List (Str×V):=[("there",.ref d),("stamp",.int s.stamp),("slack",.int s.slack),("entries",.ref l),("looks",.int s.looks)]
theorem cp {a b:Str}{v:V}{r:List (Str×V)}(h:¬ b=a):List.lookup a ((b,v)::r)=List.lookup a r:=by
 rw [Cb,BW.mpr (fun z=>h z.symm)]
theorem lQ {a:Str}{v:V}{r:List (Str×V)}:List.lookup a ((a,v)::r)=some v:=by
 rw [Cb,Cg]
theorem ca {a b:Str}{v x:V}{r:List (Str×V)}(h:¬ b=a):bB a v ((b,x)::r)=(b,x)::bB a v r:=Ay h
theorem rB {a:Str}{v x:V}{r:List (Str×V)}:bB a v ((a,x)::r)=(a,v)::r:=Az rfl
theorem d1:¬ (("there":Str)="slack"):=by decide +kernel
theorem d2:¬ (("there":Str)="entries"):=by decide +kernel
theorem d3:¬ (("there":Str)="looks"):=by decide +kernel
theorem d4:¬ (("stamp":Str)="slack"):=by decide +kernel
theorem d5:¬ (("stamp":Str)="entries"):=by decide +kernel
theorem d6:¬ (("stamp":Str)="looks"):=by decide +kernel
theorem d7:¬ (("slack":Str)="entries"):=by decide +kernel
theorem d8:¬ (("slack":Str)="looks"):=by decide +kernel
theorem d9:¬ (("entries":Str)="looks"):=by decide +kernel
section
variable {d l l':Addr}{s:LS}
theorem dy:(lfs d l s).lookup ("there":Str)=some (.ref d):=lQ
theorem zm:(lfs d l s).lookup ("stamp":Str)=some (.int s.stamp):=by unfold lfs;rw [cp oq,lQ]
theorem yL:(lfs d l s).lookup ("slack":Str)=some (.int s.slack):=by unfold lfs;rw [cp d1,cp d4,lQ]
theorem ic:(lfs d l s).lookup ("entries":Str)=some (.ref l):=by unfold lfs;rw [cp d2,cp d5,cp d7,lQ]
theorem pP:(lfs d l s).lookup ("looks":Str)=some (.int s.looks):=by unfold lfs;rw [cp d3,cp d6,cp d8,cp d9,lQ]
theorem yJ (h1:¬ ("there":Str)=m)(h2:¬ ("stamp":Str)=m)(h3:¬ ("slack":Str)=m)(h4:¬ ("entries":Str)=m)(h5:¬ ("looks":Str)=m):(lfs d l s).lookup m=none:=by unfold lfs;rw [cp h1,cp h2,cp h3,cp h4,cp h5];rfl
theorem lfn (h1:¬ ("there":Str)=m:=by decide +kernel)(h2:¬ ("stamp":Str)=m:=by decide +kernel)(h3:¬ ("slack":Str)=m:=by decide +kernel)(h4:¬ ("entries":Str)=m:=by decide +kernel)(h5:¬ ("looks":Str)=m:=by decide +kernel):(lfs d l s).lookup m=none:=yJ h1 h2 h3 h4 h5
theorem zf {k:Nat}:bB ("stamp":Str) (.int ((s.stamp:Int)+1)) (lfs d l s)=lfs d l { s with stamp:=s.stamp+1 }:=by unfold lfs;rw [ca oq,rB];rfl
theorem zr:bB ("entries":Str) (.ref l') (lfs d l s)=lfs d l' s:=by unfold lfs;rw [ca d2,ca d5,ca d7,rB]
theorem tJ {k:Nat}:bB ("looks":Str) (.int ((s.looks:Int)+k)) (lfs d l s)=lfs d l { s with looks:=s.looks+k }:=by
 unfold lfs
 rw [ca d3,ca d6,ca d8,ca d9,rB]
 show _=[_,_,_,_,(_,V.int ((s.looks+k:Nat):Int))]
 rw [Int.natCast_add]
end
structure LateAt (C:Addr)(H:Hp)(p d l:Addr)(s:LS):Prop where
 ob:∃ dx,H p=some (.ins C dx (lfs d l s))
 dc:∃ ks,H d=some (.dK ks)/\KR H ks s.there
 ls:∃ xs,H l=some (.lst xs)/\RR H xs s.row
section
variable {C p d l:Addr}{H H':Hp}{s:LS}
theorem LateAt.notup (L:LateAt C H p d l s):∀b∈[p,d,l],∀xs,H b≠some (.tup xs):=by
 obtain ⟨dx,h1⟩:=L.ob
 obtain ⟨ks,h2,_⟩:=L.dc
 obtain ⟨xs,h3,_⟩:=L.ls
 intro b hb ys z
 simp only [Aw,Ax,Bg] at hb
 rcases hb with rfl | rfl | rfl
 .rw [h1] at z;cases z
 .rw [h2] at z;cases z
 rw [h3] at z;cases z
theorem LateAt.npd (L:LateAt C H p d l s):p≠d:=by
 obtain ⟨dx,h1⟩:=L.ob
 obtain ⟨ks,h2,_⟩:=L.dc
 exact bv h1 h2 (by intro z;cases z)
theorem LateAt.npl (L:LateAt C H p d l s):p≠l:=by
 obtain ⟨dx,h1⟩:=L.ob
 obtain ⟨ks,h2,_⟩:=L.ls
 exact bv h1 h2 (by intro z;cases z)
theorem LateAt.ndl (L:LateAt C H p d l s):d≠l:=by
 obtain ⟨dx,h1,_⟩:=L.dc
 obtain ⟨ks,h2,_⟩:=L.ls
 exact bv h1 h2 (by intro z;cases z)
theorem LateAt.stay (L:LateAt C H p d l s)(k:∀b o,b=p∨b=d∨b=l->H b=some o->H' b=some o)(t:∀b l,H b=some (.tup l)->H' b=some (.tup l)):LateAt C H' p d l s:=by
 obtain ⟨dx,h1⟩:=L.ob
 obtain ⟨ks,h2,r2⟩:=L.dc
 obtain ⟨xs,h3,r3⟩:=L.ls
 exact ⟨⟨dx,k _ _ (.inl rfl) h1⟩,⟨ks,k _ _ (.inr (.inl rfl)) h2,r2.stay t⟩,⟨xs,k _ _ (.inr (.inr rfl)) h3,r3.stay t⟩⟩
theorem LateAt.same (L:LateAt C H p d l s)(k:Same H H'):LateAt C H' p d l s:=L.stay (fun b o _ h=>k b o h) fun b l h=>k b _ h
end
def Fr3 (H:Hp)(l l':Addr):Prop:=l'=l∨H l'=none
abbrev n8:Stmt:=bg (top 15) 8
theorem ot:aA ["self","name","worth"] ["self","name","worth"] (am n8):=fs0
def jZ (C:Addr):Sp:=fun vs H Q _=>∃ (p d l:Addr) (s:LS) (n:Str) (w:Int),vs=[.ref p,.str n,.int w]/\LateAt C H p d l s/\s.row.length<=1000/\s.there.length<=1000 /\
 ∀H',LateAt C H' p d l (Gm.enter slt s n w)->Kept [p,d,l] H H'->Q .non H'
theorem vg {r:Addr}{es:List En}{e:En}{Q:VK}{E:XK}(h:H r=some (.lst xs))(rr:RR H xs es)(ha:H a=some (.tup (enV e)))(hl:es.length<=1000)(k:∀ys H',H' r=some (.lst ys)->RR H' ys (Hg.up lE es.length (es++[e]) es.length 0).1->Kept [r] H H'->Q (.int (Hg.up lE es.length (es++[e]) es.length 0).2) H'):qX [.ref r,.ref a] H Q E:=by
 have rs:=rr.snoc ha
 refine ⟨r,xs,.ref a,bG H,rfl,h,rs.en,by rw [rr.len];exact hl,fun H' h' kp=>?_⟩
 have em:=up_map (H:=H) (f:=xs.length) (xs:=xs++[.ref a]) (p:=xs.length) (lk:=0)
 rw [rs.eq,rr.len] at em
 have kk:Kept [r] H H':=fun b o q n=>kp b o q fun z=>n (Bh.mpr z)
 have:=k _ H' h' (by
  rw [em,rr.len]
  have r2:=rs.sub (ys:=(up (ltT (bG H)) es.length (xs++[.ref a]) es.length 0).1) fun y hy=>(dJ (by rw [As,rr.len];exact Cu _)).mem_iff.mp hy
  exact r2.stay (kk.tups fun b hb ys z=>by rw [Ao hb,h] at z;cases z)) kk
 rw [em] at this
 rw [rr.len]
 exact this
theorem sU {fb:Addr}{fdb:FuncData}(F:Fun K "enter" "Late.enter" n8 f fd)(T:Bl mg)(L:LT K C)(Glay_in:aB P w K mg base CX0 3 fa fda ["heap","entry"] qX)(Dlay_in:Nm K mg "lay_in" fa fda ["heap","entry"])(Mstamped:b8 K C "stamped" fb)(Gstamped:aB P w K mg base CX0 1 fb fdb ["self","name","worth"] (i9 C))(Bstamped:Binds K fdb ["self","name","worth"] []):aB P w K mg base CX0 4 f fd ["self","name","worth"] (jZ C):=by
 have sc:=ot
 refine F.ok ot fun cdv A outer s H vs Q E hr h=>?_
 obtain ⟨p,d,l,s,n,w,rfl,LA,h1,h2,k⟩:=h
 have hu:=hr.units0
 have npd:=LA.npd
 have npl:=LA.npl
 have ndl:=LA.ndl
 obtain ⟨dx,hp⟩:=LA.ob
 obtain ⟨ks,hd,kr⟩:=LA.dc
 obtain ⟨xs,hx,rr⟩:=LA.ls
 refine ⟨_,(QSs.to (ak (cE (qv 0) (au aK (a9 (qv 0) rfl) (qcl Glay_in hr Dlay_in az (ae (a9 (qv 0) rfl) (ae (bO (qv 0) L.cl Mstamped Gstamped hr.mo Bstamped .nil az (ae (qv 1) (ae (qv 2) aj))) aj)))) rfl))),?_⟩
 refine ⟨p,C,dx,_,_,rfl,hp,L.cl,L.lk,pP,p,C,dx,_,_,rfl,hp,L.cl,L.en,ic,p,dx,_,rfl,hp,lfn,p,dx,d,_,ks,n,w,s.stamp,rfl,hp,dy,hd,zm,by show 5<=100;decide,by rw [kr.len];exact h2,fun q hq=>?_⟩
 have npq:p≠q:=ap hp hq
 have ndq:d≠q:=ap hd hq
 have nlq:l≠q:=ap hx hq
 rw [zf (k:=0)]
 have q2:∀b o,H b=some o->b≠p->b≠d->(upd (upd (upd H q (.tup [.int w,.str n,.int s.stamp])) p (.ins C dx (lfs d l { s with stamp:=s.stamp+1 }))) d (.dK (aX ks (Sum.inr n) (.ref q)))) b=some o:=fun b o e n1 n2=>by
  rw [ao n2,ao n1,ao (ap e hq)];exact e
 have hq2:(upd (upd (upd H q (.tup [.int w,.str n,.int s.stamp])) p (.ins C dx (lfs d l { s with stamp:=s.stamp+1 }))) d (.dK (aX ks (Sum.inr n) (.ref q)))) q=some (.tup (enV ⟨w,n,(s.stamp:Int)⟩)):=by
  rw [ao ndq.symm,ao npq.symm,ag];rfl
 have hp2:(upd (upd (upd H q (.tup [.int w,.str n,.int s.stamp])) p (.ins C dx (lfs d l { s with stamp:=s.stamp+1 }))) d (.dK (aX ks (Sum.inr n) (.ref q)))) p=some (.ins C dx (lfs d l { s with stamp:=s.stamp+1 })):=by
  rw [ao npd,ag]
 have hd2:(upd (upd (upd H q (.tup [.int w,.str n,.int s.stamp])) p (.ins C dx (lfs d l { s with stamp:=s.stamp+1 }))) d (.dK (aX ks (Sum.inr n) (.ref q)))) d=some (.dK (aX ks (Sum.inr n) (.ref q))):=ag
 have kk2:Kept [p,d,l] H (upd (upd (upd H q (.tup [.int w,.str n,.int s.stamp])) p (.ins C dx (lfs d l { s with stamp:=s.stamp+1 }))) d (.dK (aX ks (Sum.inr n) (.ref q)))):=fun b o e nb=>q2 b o e (fun z=>nb (z▸by simp)) (fun z=>nb (z▸by simp))
 generalize (upd (upd (upd H q (.tup [.int w,.str n,.int s.stamp])) p (.ins C dx (lfs d l { s with stamp:=s.stamp+1 }))) d (.dK (aX ks (Sum.inr n) (.ref q))))=H2 at q2 hq2 hp2 hd2 kk2 ⊢
 have t2:=kk2.tups LA.notup
 have hx2:=q2 l _ hx npl.symm ndl.symm
 unfold qM
 dsimp only [Ci,DX]
 refine vg hx2 (rr.stay t2) hq2 h1 fun ys H3 h3 rr3 k3=>?_
 have pn:p∉[l]:=fun z=>npl (Ao z)
 have dn':d∉[l]:=fun z=>ndl (Ao z)
 have hp3:=k3 p _ hp2 pn
 have t3:=k3.tups (fun b hb zs z=>by rw [Ao hb,hx2] at z;cases z)
 refine ⟨p,C,dx,_,rfl,hp3,L.cl,L.lk,by show 5<1000;decide,?_⟩
 have e6:=tJ (d:=d) (l:=l) (s:={ s with stamp:=s.stamp+1 }) (k:=(Hg.up lE s.row.length (s.row++[⟨w,n,(s.stamp:Int)⟩]) s.row.length 0).2)
 have e7:bB ("looks":Str) (.int ((s.looks:Int)+((Hg.up lE s.row.length (s.row++[⟨w,n,(s.stamp:Int)⟩]) s.row.length 0).2:Nat))) (lfs d l { s with stamp:=s.stamp+1 })=lfs d l (Gm.enter slt s n w):=e6
 rw [e7]
 have t4:∀b zs,H3 b=some (.tup zs)->(upd H3 p (.ins C dx (lfs d l (Gm.enter slt s n w)))) b=some (.tup zs):=fun b zs z=>by rw [ao (bv z hp3 (by intro y;cases y))];exact z
 refine k _ ⟨⟨dx,ag⟩,⟨_,by rw [ao npd.symm];exact k3 d _ hd2 dn',((((kr.stay t2).put hq2).stay t3).stay t4)⟩,⟨ys,by rw [ao npl.symm];exact h3,rr3.stay t4⟩⟩ ?_
 exact (kk2.trans (k3.mono fun b hb=>by rw [Ao hb];simp)).put An
abbrev rH:Stmt:=bg (top 15) 9
theorem sP:aA ["self"] ["self"] (am rH):=fs0
def m7 (C:Addr):Sp:=fun vs H Q _=>∃ (p d l:Addr) (s:LS),vs=[.ref p]/\LateAt C H p d l s/\0<s.row.length/\s.row.length<=1000/\∀H',LateAt C H' p d l (Gm.cut slt s)->Kept [p,l] H H'->Q .non H'
theorem vQ {r:Addr}{es:List En}{Q:VK}{E:XK}(h:H r=some (.lst xs))(rr:RR H xs es)(h0:0<es.length)(hl:es.length<=1000)(k:∀ys H',H' r=some (.lst ys)->RR H' ys (Hg.cutf lE es).1->Kept [r] H H'->Q (.int (Hg.cutf lE es).2) H'):rf [.ref r] H Q E:=by
 refine ⟨r,xs,bG H,rfl,h,rr.en,by rw [rr.len];exact h0,by rw [rr.len];exact hl,fun H' h' kp=>?_⟩
 have em:=pG (H:=H) (xs:=xs)
 rw [rr.eq] at em
 have kk:Kept [r] H H':=fun b o q n=>kp b o q fun z=>n (Bh.mpr z)
 have:=k _ H' h' (by
  rw [em]
  have r2:=rr.sub (ys:=(cutf (ltT (bG H)) xs).1) fun y hy=>(cutf_perm (by rw [rr.len];exact h0)).mem_iff.mp (AH _ hy)
  exact r2.stay (kk.tups fun b hb ys z=>by rw [Ao hb,h] at z;cases z)) kk
 rw [em] at this
 exact this
theorem uR (F:Fun K "cut" "Late.cut" rH f fd)(T:Bl mg)(L:LT K C)(Gcut_first:aB P w K mg base CX0 3 fa fda ["heap"] rf)(Dcut_first:Nm K mg "cut_first" fa fda ["heap"]):aB P w K mg base CX0 4 f fd ["self"] (m7 C):=by
 have sc:=sP
 refine F.ok sP fun cdv A outer s H vs Q E hr h=>?_
 obtain ⟨p,d,l,s,rfl,LA,h0,h1,k⟩:=h
 have hu:=hr.units0
 have npd:=LA.npd
 have npl:=LA.npl
 have ndl:=LA.ndl
 obtain ⟨dx,hp⟩:=LA.ob
 obtain ⟨ks,hd,kr⟩:=LA.dc
 obtain ⟨xs,hx,rr⟩:=LA.ls
 refine ⟨_,(QSs.to (ak (cE (qv 0) (au aK (a9 (qv 0) rfl) (qcl Gcut_first hr Dcut_first az (ae (a9 (qv 0) rfl) aj))) rfl))),?_⟩
 refine ⟨p,C,dx,_,_,rfl,hp,L.cl,L.lk,pP,p,C,dx,_,_,rfl,hp,L.cl,L.en,ic,?_⟩
 unfold qM
 dsimp only [Ci,DX]
 refine vQ hx rr h0 h1 fun ys H3 h3 rr3 k3=>?_
 have pn:p∉[l]:=fun z=>npl (Ao z)
 have dn':d∉[l]:=fun z=>ndl (Ao z)
 have hp3:=k3 p _ hp pn
 have t3:=k3.tups (fun b hb zs z=>by rw [Ao hb,hx] at z;cases z)
 refine ⟨p,C,dx,_,rfl,hp3,L.cl,L.lk,by show 5<1000;decide,?_⟩
 have e7:bB ("looks":Str) (.int ((s.looks:Int)+((Hg.cutf lE s.row).2:Nat))) (lfs d l s)=lfs d l (Gm.cut slt s):=tJ
 rw [e7]
 have t4:∀b zs,H3 b=some (.tup zs)->(upd H3 p (.ins C dx (lfs d l (Gm.cut slt s)))) b=some (.tup zs):=fun b zs z=>by rw [ao (bv z hp3 (by intro y;cases y))];exact z
 refine k _ ⟨⟨dx,ag⟩,⟨ks,by rw [ao npd.symm];exact k3 d _ hd dn',(kr.stay t3).stay t4⟩,⟨ys,by rw [ao npl.symm];exact h3,rr3.stay t4⟩⟩ ?_
 exact (k3.mono fun b hb=>by rw [Ao hb];simp).put An
theorem LateAt.fresh {d l':Addr}{H2:Hp}{s:LS}(L:LateAt C H2 p d l s)(k:Kept [p,d,l] H H2)(z:H2 l'=none):H l'=none:=by
 obtain ⟨dx,h1⟩:=L.ob
 obtain ⟨ks,h2,_⟩:=L.dc
 obtain ⟨xs,h3,_⟩:=L.ls
 refine k.none z fun hb=>?_
 simp only [Aw,Ax,Bg] at hb
 rcases hb with rfl | rfl | rfl
 .rw [h1] at z;cases z
 .rw [h2] at z;cases z
 rw [h3] at z;cases z
theorem qg {r:Addr}{es:List En}{Q:VK}{E:XK}(h:H r=some (.lst xs))(rr:RR H xs es)(hl:es.length<=1000)(k:∀ys H',H' r=some (.lst ys)->RR H' ys (Hg.mk lE (es.length / 2) es 0).1->Kept [r] H H'->Q (.int (Hg.mk lE (es.length / 2) es 0).2) H'):jQ [.ref r] H Q E:=by
 refine ⟨r,xs,bG H,rfl,h,rr.en,by rw [rr.len];exact hl,fun H' h' kp=>?_⟩
 have em:=mk_map (H:=H) (k:=xs.length / 2) (xs:=xs) (lk:=0)
 rw [rr.eq,rr.len] at em
 rw [rr.len] at h' ⊢
 have kk:Kept [r] H H':=fun b o q n=>kp b o q fun z=>n (Bh.mpr z)
 have:=k _ H' h' (by
  rw [em]
  have r2:=rr.sub (ys:=(mk (ltT (bG H)) (es.length / 2) xs 0).1) fun y hy=>mk_perm.mem_iff.mp hy
  exact r2.stay (kk.tups fun b hb ys z=>by rw [Ao hb,h] at z;cases z)) kk
 rw [em] at this
 exact this
abbrev ki:Stmt:=bg (top 15) 11
theorem pD:aA ["self","gone"] ["self"] (am ki):=fs0
def fq (C:Addr):Sp:=fun vs H Q _=>∃ (p d l:Addr) (s:LS),vs=[.ref p]/\LateAt C H p d l s/\s.row.length<=1000/\∀l' H',LateAt C H' p d l' (Gm.sweep slt s)->Kept [p,d,l] H H'->Fr3 H l l'->Q .non H'
theorem lD {α:Type}{xs:List α}{f:α->Bool}{x:α}(h:xs[i]?=some x):(xs.take (i+1)).filter f=(xs.take i).filter f++(if f x=true then [x] else []):=by
 rw [BR,h,List.filter_append]
 congr 1
 show List.filter f [x]=_
 by_cases z:f x=true
 .rw [Az z,Cj,Az z,List.filter_nil]
 rw [Ay z,Cj,Ay z,List.filter_nil]
theorem uj {fholds:Addr}{fdholds:FuncData}(F:Fun K "sweep_if_due" "Late.sweep_if_due" ki f fd)(T:Bl mg)(L:LT K C)(Gorder:aB P w K mg base CX0 3 fa fda ["heap"] jQ)(Dorder:Nm K mg "order" fa fda ["heap"])(Mholds:b8 K C "holds" fholds)(Gholds:aB P w K mg base CX0 1 fholds fdholds ["self","entry"] (jN C))(Bholds:Binds K fdholds ["self","entry"] []):aB P w K mg base CX0 4 f fd ["self"] (fq C):=by
 have sc:=pD
 refine F.ok pD fun cdv A outer s H vs Q E hr h=>?_
 obtain ⟨p,d,l,s,rfl,LA,h1,kQ⟩:=h
 have hu:=hr.units0
 have npd:=LA.npd
 have npl:=LA.npl
 have ndl:=LA.ndl
 obtain ⟨dx,hp⟩:=LA.ob
 obtain ⟨ks,hd,kr⟩:=LA.dc
 obtain ⟨xs,hx,rr⟩:=LA.ls
 refine ⟨_,(QSs.to (af (qst 1 sc.nd (au bH (qcB aG T.z_len (ae (a9 (qv 0) rfl) aj)) (qcB cK T.z_len (ae (a9 (qv 0) rfl) aj))))
  (ak (aO (QW.pt (eE (ay fZ (qv 1) (qcB cK T.z_len (ae (a9 (qv 0) rfl) aj)) (aD _)) (dL (ay fZ (qv 1) (a9 (qv 0) rfl) (aD _))))) (af (cE (qv 0) (bA (Blk.of (N:=["self","gone"]) (esc:=am ki) (NB:=["self"]) (cap:=[0]) rfl rfl (fun y hy=>aM hy) rfl Aj Aj Aj rfl Aj rfl Aj) rfl rfl (cA (a9 (qv 0) rfl)) (fun C fp s₀ H₀=>(gC (eF (bO (qv 1) L.cl Mholds Gholds hr.mo Bholds .nil az (ae (qv 0) aj))))) (fun C fp s₀ H₀=>(qv 0))) rfl)
  (ak (cE (qv 0) (au aK (a9 (qv 0) rfl) (qcl Gorder hr Dorder az (ae (a9 (qv 0) rfl) aj))) rfl))) aE)))),?_⟩
 refine ⟨p,C,dx,_,_,rfl,hp,L.cl,L.en,ic,l,_,rfl,.inl (SqL.of hx),p,C,dx,_,_,rfl,hp,L.cl,L.nt.th,dy,d,ks,rfl,hd,?_⟩
 have lx:(xs.length:Int)=s.row.length:=by rw [rr.len]
 have lk:(ks.length:Int)=s.there.length:=by rw [kr.len]
 rw [lx,lk]
 have no:∀(hn:¬ Gm.due s=true),Q .non H:=fun hn=>by
  have e:Gm.sweep slt s=s:=by unfold Gm.sweep;rw [Ay hn]
  refine kQ l H (by rw [e];exact LA) Kept.refl (.inl rfl)
 refine ⟨p,C,dx,_,_,rfl,hp,L.cl,L.nt.th,dy,d,ks,rfl,hd,_,rfl,?_⟩
 rw [lk]
 refine aU (fun c1=>⟨p,C,dx,_,_,rfl,hp,L.cl,L.sk,yL,_,rfl,aU (fun c2=>?_) (fun c2=>no ?_)⟩) (fun c1=>gq (no ?_))
 rotate_left
 .unfold Gm.due
  rw [Bq]
  exact fun z=>c2 z.2
 .unfold Gm.due
  rw [Bq]
  exact fun z=>c1 z.1
 have hdue:Gm.due s=true:=by
  unfold Gm.due
  rw [Bq]
  exact ⟨c1,c2⟩
 refine ⟨p,C,dx,_,_,rfl,hp,L.cl,L.en,ic,l,rfl,⟨_,SqL.of hx⟩,fun D hD=>?_⟩
 refine bY (K:=K) (a:=l) (xs:=xs) (fun i ys H4=>H4 D=some (.lst ys)/\ys=(xs.take i).filter (fun x=>Gm.holds s.there (tE H x))/\Same H H4) ⟨ag,rfl,aq hD⟩ (fun i ys H4 z=>⟨z.1,SqL.of (z.2.2 _ _ hx)⟩) ?_ ?_
 .rintro i x ys H4 hi ⟨h4,e4,s4⟩
  have mx:=AQ hi
  have li:i<xs.length:=(Au.mp hi).1
  obtain ⟨a,rfl,ha⟩:=rr.mem x mx
  refine ⟨p,dx,_,rfl,s4 _ _ hp,lfn,p,dx,d,_,ks,s.there,a,tE H (.ref a),rfl,s4 _ _ hp,dy,s4 _ _ hd,kr.stay (fun b l h=>s4 _ _ h),s4 _ _ ha,_,rfl,?_⟩
  have ft:=lD (f:=fun x=>Gm.holds s.there (tE H x)) hi
  refine aU (fun c3=>⟨h4,?_,_,Am,rfl,Am,ag,?_,bj s4 hD⟩) (fun c3=>⟨_,Am,rfl,Am,h4,?_,s4⟩)
  .rw [e4]
   exact Bj (AV (BZ _ _) (Dd _ _)) (aH (by have:=rr.len;lia))
  .rw [ft,Az c3,e4]
  .rw [ft,Ay c3,BP,e4]
 rintro ys H4 ⟨h4,e4,s4⟩
 rw [Bx] at e4
 have hp4:=s4 _ _ hp
 refine ⟨p,C,dx,_,rfl,hp4,L.cl,L.en,by show 5<1000;decide,?_⟩
 rw [zr]
 have npD:p≠D:=ap hp hD
 have ndD:d≠D:=ap hd hD
 have t5:∀b zs,H b=some (.tup zs)->(upd H4 p (.ins C dx (lfs d D s))) b=some (.tup zs):=fun b zs z=>by rw [ao (bv z hp (by intro y;cases y))];exact s4 _ _ z
 have r5:RR (upd H4 p (.ins C dx (lfs d D s))) ys (s.row.filter (Gm.holds s.there)):=by
  have r0:=(rr.sub (ys:=ys) fun y hy=>by rw [e4] at hy;exact (Ce.mp hy).1).stay t5
  have em:ys.map (tE H)=s.row.filter (Gm.holds s.there):=by
   rw [e4,<-rr.eq,D1]
   rfl
  rw [em] at r0
  exact r0
 have hD5:(upd H4 p (.ins C dx (lfs d D s))) D=some (.lst ys):=by rw [ao npD.symm];exact h4
 have hd5:(upd H4 p (.ins C dx (lfs d D s))) d=some (.dK ks):=by rw [ao npd.symm];exact s4 _ _ hd
 have hp5:(upd H4 p (.ins C dx (lfs d D s))) p=some (.ins C dx (lfs d D s)):=ag
 have k5:Kept [p,d,l] H (upd H4 p (.ins C dx (lfs d D s))):=(Kept.of_same s4).put An
 generalize (upd H4 p (.ins C dx (lfs d D s)))=H5 at t5 r5 hD5 hd5 hp5 k5 ⊢
 refine ⟨p,C,dx,_,_,rfl,hp5,L.cl,L.lk,pP,p,C,dx,_,_,rfl,hp5,L.cl,L.en,ic,?_⟩
 unfold qM
 dsimp only [Ci,DX]
 refine qg hD5 r5 (AV (BZ _ _) h1) fun zs H6 h6 r6 k6=>?_
 have pn:p∉[D]:=fun z=>npD (Ao z)
 have dn':d∉[D]:=fun z=>ndD (Ao z)
 have hp6:=k6 p _ hp5 pn
 have t6:=k6.tups (fun b hb zs z=>by rw [Ao hb,hD5] at z;cases z)
 refine ⟨p,C,dx,_,rfl,hp6,L.cl,L.lk,by show 5<1000;decide,?_⟩
 have e7:bB ("looks":Str) (.int ((s.looks:Int)+((Hg.mk lE ((s.row.filter (Gm.holds s.there)).length / 2) (s.row.filter (Gm.holds s.there)) 0).2:Nat))) (lfs d D s)=lfs d D (Gm.swept slt s):=tJ
 rw [e7]
 have es:Gm.sweep slt s=Gm.swept slt s:=by unfold Gm.sweep;rw [Az hdue]
 have t7:∀b zs,H6 b=some (.tup zs)->(upd H6 p (.ins C dx (lfs d D (Gm.swept slt s)))) b=some (.tup zs):=fun b zs z=>by rw [ao (bv z hp6 (by intro y;cases y))];exact z
 refine kQ D _ (by rw [es];exact ⟨⟨dx,ag⟩,⟨ks,by rw [ao npd.symm];exact k6 d _ hd5 dn',((kr.stay t5).stay t6).stay t7⟩,⟨zs,by rw [ao npD.symm];exact h6,r6.stay t7⟩⟩) ?_ (.inr hD)
 refine Kept.put (fun b o e nb=>?_) An
 exact k6 b o (k5 b o e nb) fun z=>by rw [Ao z] at e;rw [hD] at e;cases e
abbrev nG:Stmt:=bg (top 15) 0
theorem oW:aA ["self","slack"] ["self","slack"] (am nG):=fs0
def pM (C:Addr):Sp:=fun vs H Q _=>∃ (p dx:Addr) (z:Int),vs=[.ref p,.int z]/\H p=some (.ins C dx [])/\∀d l H',H d=none->H l=none->LateAt C H' p d l (Gm.newL z)->Kept [p] H H'->Q .non H'
theorem gp {CNamed:Addr}{mc:Value}(F:Fun K "__init__" "Late.__init__" nG f fd)(T:Bl mg)(L:LT K C)(mNamed:mg "Named"=some (.ref CNamed))(MNamed__init__:yA K CNamed mc "__init__" fa)(GNamed__init__:aB P w K mg base CX0 1 fa fda ["self"] (pN C))(BNamed__init__:Binds K fda ["self"] []):aB P w K mg base CX0 2 f fd ["self","slack"] (pM C):=by
 have sc:=oW
 refine F.ok oW fun cdv A outer s H vs Q E hr h=>?_
 obtain ⟨p,dx,z,rfl,hp,kQ⟩:=h
 have hu:=hr.units0
 refine ⟨_,(QSs.to (af (aL (v4 (ph (v:=.ref CNamed) rfl mNamed rfl) MNamed__init__ GNamed__init__ hr.mo BNamed__init__ .nil az (ae (qv 0) aj)))
  (af (cE (qv 0) (qv 1) rfl)
  (af (cE (qv 0) (aV aj) rfl)
  (ak (cE (qv 0) ah rfl)))))),?_⟩
 refine ⟨p,dx,rfl,hp,fun d hd=>?_⟩
 have npd:p≠d:=ap hp hd
 refine ⟨p,C,dx,_,rfl,ag,L.cl,L.sk,by show 2<1000;decide,?_⟩
 refine ⟨sz0,fun l hl=>?_⟩
 have hl0:H l=none:=by
  cases q:H l with
  | none=>rfl
  | some o =>
   have h1:l≠p:=fun z=>by rw [z,ag] at hl;cases hl
   have h2:l≠d:=fun z=>by rw [z,hd] at q;cases q
   rw [ao h1,ao h1,ao h1,ao h2,q] at hl
   cases hl
 have npl:p≠l:=ap hp hl0
 have ndl:d≠l:=fun z=>by rw [<-z,ao npd.symm,ao npd.symm,ao npd.symm,ag] at hl;cases hl
 refine ⟨p,C,dx,_,rfl,by rw [ao npl,ag],L.cl,L.en,by show 3<1000;decide,?_⟩
 refine ⟨p,C,dx,_,rfl,ag,L.cl,L.lk,by show 4<1000;decide,?_⟩
 have e1:bB ("looks":Str) (.int 0) (bB ("entries":Str) (.ref l) (bB ("slack":Str) (.int z) [("there",V.ref d),("stamp",V.int 0)]))=lfs d l (Gm.newL z):=by
  rw [ca d1,ca d4]
  show bB ("looks":Str) (.int 0) (bB ("entries":Str) (.ref l) [("there",V.ref d),("stamp",V.int 0),("slack",V.int z)])=_
  rw [ca d2,ca d5,ca d7]
  show bB ("looks":Str) (.int 0) [("there",V.ref d),("stamp",V.int 0),("slack",V.int z),("entries",.ref l)]=_
  rw [ca d3,ca d6,ca d8,ca d9]
  rfl
 rw [e1]
 refine kQ d l _ hd hl0 ⟨⟨dx,ag⟩,⟨[],?_,.nil⟩,⟨[],?_,RR.nil⟩⟩ fun b o e nb=>?_
 .rw [ao npd.symm,ao npd.symm,ao ndl,ao npd.symm,ao npd.symm,ao npd.symm,ag]
 .rw [ao npl.symm,ao npl.symm,ag]
 have hb:b≠p:=fun z=>nb (Bh.mpr z)
 rw [ao hb,ao hb,ao (ap e hl0),ao hb,ao hb,ao hb,ao (ap e hd)]
 exact e
abbrev nU:Stmt:=bg (top 15) 10
theorem pp:aA ["self"] ["self"] (am nU):=fs0
def jI (C:Addr):Sp:=fun vs H Q E=>∃ (p d l:Addr) (s:LS),vs=[.ref p]/\LateAt C H p d l s/\Gm.LInv slt s/\s.row.length<=1000 /\
 (s.there≠[]->∀a H',LateAt C H' p d l (Gm.leastL slt s)->H' a=some (.tup (enV (Hg.g (Gm.leastL slt s).row 0)))->Kept [p,d,l] H H'->Q (.ref a) H')/\(s.there=[]->False)
theorem iX {fneed_any fholds:Addr}{fdneed_any fdholds:FuncData}(F:Fun K "first_there" "Late.first_there" nU f fd)(T:Bl mg)(L:LT K C)(Mneed_any:b8 K C "need_any" fneed_any)(Gneed_any:aB P w K mg base CX0 1 fneed_any fdneed_any ["self"] (wE C))(Bneed_any:Binds K fdneed_any ["self"] [])(Mholds:b8 K C "holds" fholds)(Gholds:aB P w K mg base CX0 1 fholds fdholds ["self","entry"] (jN C))(Bholds:Binds K fdholds ["self","entry"] [])(Mcut:b8 K C "cut" fcut)(Gcut:aB P w K mg base CX0 4 fcut fdcut ["self"] (m7 C))(Bcut:Binds K fdcut ["self"] []):aB P w K mg base CX0 5 f fd ["self"] (jI C):=by
 have sc:=pp
 refine F.ok pp fun cdv A outer s H vs Q E hr h=>?_
 obtain ⟨p,d,l,s,rfl,LA,LI,h1,kQ,kE⟩:=h
 have hu:=hr.units0
 have npd:=LA.npd
 have npl:=LA.npl
 have ndl:=LA.ndl
 obtain ⟨dx,hp⟩:=LA.ob
 obtain ⟨ks,hd,kr⟩:=LA.dc
 obtain ⟨xs,hx,rr⟩:=LA.ls
 refine ⟨_,(QSs.to (af (aL (bn (qv 0) L.cl Mneed_any Gneed_any hr.mo Bneed_any .nil az)) (QSs.mk (PSs.nox (QSs.to (af (cO Bz (eK (eF (bO (qv 0) L.cl Mholds Gholds hr.mo Bholds .nil az (ae (ar aw (a9 (qv 0) rfl) ah pix) aj)))) (ak (aL (bn (qv 0) L.cl Mcut Gcut hr.mo Bcut .nil az))))
  (ak (aF (ar aw (a9 (qv 0) rfl) ah pix))))))))),?_⟩
 refine ⟨p,dx,_,rfl,hp,lfn,p,dx,d,_,ks,rfl,hp,dy,hd,fun hne=>?_,fun he=>kE ?_⟩
 rotate_left
 .rw [he] at kr
  cases e:s.there with
  | nil=>rfl
  | cons a b=>rw [e] at kr;cases kr
 have hT:s.there≠[]:=fun z=>hne (by rw [z] at kr;cases kr;rfl)
 refine ⟨fun m U H2=>∃ (f:Nat) (s2:LS),U=[some (.ref p)]/\LateAt C H2 p d l s2/\Gm.LInv slt s2/\s2.there=s.there/\s2.row.length<=f/\s2.row.length<=s.row.length/\Gm.clean slt f s2=Gm.leastL slt s/\Kept [p,d,l] H H2/\m=s2.row.length,
  ⟨_,s.row.length,s,rfl,LA,LI,rfl,Av _,Av _,rfl,Kept.refl,rfl⟩,?_⟩
 rintro m U H2 ⟨f,s2,rfl,LA2,LI2,e2,hf,hle,hc,k2,rfl⟩
 obtain ⟨dx2,hp2⟩:=LA2.ob
 obtain ⟨ks2,hd2,kr2⟩:=LA2.dc
 obtain ⟨xs2,hx2,rr2⟩:=LA2.ls
 have h0:=Gm.row_pos LI2 (by rw [e2];exact hT)
 obtain ⟨a,ea,ha,ia⟩:=rr2.at h0
 refine ⟨p,dx2,_,rfl,hp2,lfn,p,C,dx2,_,_,rfl,hp2,L.cl,L.en,ic,_,_,SqL.of hx2,ia,p,dx2,d,_,ks2,s2.there,a,_,rfl,hp2,dy,hd2,kr2,ha,_,rfl,aU (fun c1=>?_) (fun c1=>?_)⟩
 rotate_left
 .have c2:Gm.holds s2.there (Hg.g s2.row 0)=true:=by
   cases z:Gm.holds s2.there (Hg.g s2.row 0) with
   | true=>rfl
   | false=>exact absurd (show (!Gm.holds s2.there (Hg.g s2.row 0))=true by rw [z];rfl) c1
  have ec:Gm.leastL slt s=s2:=by
   rw [<-hc]
   cases f with
   | zero=>rfl
   | succ f=>unfold Gm.clean;rw [Az c2]
  refine ⟨p,C,dx2,_,_,rfl,hp2,L.cl,L.en,ic,_,_,SqL.of hx2,ia,?_⟩
  exact kQ hT a H2 (by rw [ec];exact LA2) (by rw [ec];exact ha) k2
 have c2:¬ Gm.holds s2.there (Hg.g s2.row 0)=true:=fun z=>by
  have c3:(!Gm.holds s2.there (Hg.g s2.row 0))=true:=c1
  rw [z] at c3;cases c3
 obtain ⟨f,rfl⟩:∃ f0,f=f0+1:=⟨f-1,Am⟩
 have hc2:Gm.clean slt f (Gm.cut slt s2)=Gm.leastL slt s:=by
  rw [<-hc]
  conv=>rhs;unfold Gm.clean
  rw [Ay c2]
 have lc:(Gm.cut slt s2).row.length=s2.row.length-1:=Hg.cutf_len
 refine ⟨fun σ' H'=>∃ m',m'<s2.row.length/\∃ (f:Nat) (s2:LS),σ'=[some (.ref p)]/\LateAt C H' p d l s2/\Gm.LInv slt s2/\s2.there=s.there/\s2.row.length<=f/\s2.row.length<=s.row.length/\Gm.clean slt f s2=Gm.leastL slt s/\Kept [p,d,l] H H'/\m'=s2.row.length,fun σ' H' z=>z,?_⟩
 refine ⟨p,dx2,_,rfl,hp2,lfn,p,d,l,s2,rfl,LA2,h0,Am,fun H3 L3 k3=>?_⟩
 exact ⟨(Gm.cut slt s2).row.length,Am,f,Gm.cut slt s2,rfl,L3,Gm.cut_inv slt_slo LI2 h0 c2,e2,Am,Am,hc2,k2.trans (k3.mono fun b hb=>by simp only [Aw,Ax,Bg] at hb ⊢;rcases hb with h | h <;> simp [h]),rfl⟩
abbrev tM:Stmt:=bg (top 15) 1
theorem rg:aA ["self","name","worth"] ["self","name","worth"] (am tM):=fs0
def sC (C:Addr):Sp:=fun vs H Q E=>∃ (p d l:Addr) (s:LS) (n:Str) (w:Int),vs=[.ref p,.str n,.int w]/\LateAt C H p d l s/\s.row.length<=900/\s.there.length<=900/\n.length<=1000 /\
 (Gm.dget s.there n=none->∀l' H',LateAt C H' p d l' (Gm.putL slt s n w)->Kept [p,d,l] H H'->Fr3 H l l'->Q .non H')/\(Gm.dget s.there n≠none->False)
theorem yg {fneed_free:Addr}{fdneed_free:FuncData}(F:Fun K "put" "Late.put" tM f fd)(T:Bl mg)(L:LT K C)(Mneed_free:b8 K C "need_free" fneed_free)(Gneed_free:aB P w K mg base CX0 1 fneed_free fdneed_free ["self","name"] (uB C))(Bneed_free:Binds K fdneed_free ["self","name"] [])(Msweep_if_due:b8 K C "sweep_if_due" fsweep_if_due)(Gsweep_if_due:aB P w K mg base CX0 4 fsweep_if_due fdsweep_if_due ["self"] (fq C))(Bsweep_if_due:Binds K fdsweep_if_due ["self"] [])(Menter:b8 K C "enter" fenter)(Genter:aB P w K mg base CX0 4 fenter fdenter ["self","name","worth"] (jZ C))(Benter:Binds K fdenter ["self","name","worth"] []):aB P w K mg base CX0 5 f fd ["self","name","worth"] (sC C):=by
 have sc:=rg
 refine F.ok rg fun cdv A outer s H vs Q E hr h=>?_
 obtain ⟨p,d,l,s,n,w,rfl,LA,h1,h2,hn,kQ,kE⟩:=h
 have hu:=hr.units0
 have npd:=LA.npd
 have npl:=LA.npl
 have ndl:=LA.ndl
 obtain ⟨dx,hp⟩:=LA.ob
 obtain ⟨ks,hd,kr⟩:=LA.dc
 obtain ⟨xs,hx,rr⟩:=LA.ls
 refine ⟨_,(QSs.to (af (aL (bO (qv 0) L.cl Mneed_free Gneed_free hr.mo Bneed_free .nil az (ae (qv 1) aj)))
  (af (aL (bO (qv 0) L.cl Menter Genter hr.mo Benter .nil az (ae (qv 1) (ae (qv 2) aj))))
  (ak (aL (bn (qv 0) L.cl Msweep_if_due Gsweep_if_due hr.mo Bsweep_if_due .nil az)))))),?_⟩
 refine ⟨p,dx,_,rfl,hp,lfn,p,dx,d,_,ks,n,rfl,hp,dy,hd,hn,fun cs=>?_,fun cs=>?_⟩
 .rcases kr.get n with ⟨e1,e2⟩ | ⟨a,e,e1,e2,ha⟩
  rotate_left
  .rw [e1] at cs;cases cs
  refine ⟨p,dx,_,rfl,hp,lfn,p,d,l,s,n,w,rfl,LA,Am,Am,fun H2 L2 k2=>?_⟩
  obtain ⟨dx2,hp2⟩:=L2.ob
  refine ⟨p,dx2,_,rfl,hp2,lfn,p,d,l,_,rfl,L2,?_,fun l' H3 L3 k3 f3=>?_⟩
  .show (Gm.enter slt s n w).row.length<=1000
   rw [Gm.enter_row_perm.length_eq,As]
   show s.row.length+1<=1000
   lia
  .exact kQ e2 l' H3 L3 (k2.trans k3) (f3.imp id fun z=>L2.fresh k2 z)
 rcases kr.get n with ⟨e1,e2⟩ | ⟨a,e,e1,e2,ha⟩
 .rw [e1] at cs;cases cs
 exact kE (by rw [e2];intro z;cases z)
abbrev iU:Stmt:=bg (top 15) 3
theorem js:aA ["self","name","worth"] ["self","name","worth"] (am iU):=fs0
def jb (C:Addr):Sp:=fun vs H Q E=>∃ (p d l:Addr) (s:LS) (n:Str) (w:Int),vs=[.ref p,.str n,.int w]/\LateAt C H p d l s/\s.row.length<=900/\s.there.length<=900/\n.length<=1000 /\
 (Gm.dget s.there n≠none->∀l' H',LateAt C H' p d l' (Gm.putL slt s n w)->Kept [p,d,l] H H'->Fr3 H l l'->Q .non H')/\(Gm.dget s.there n=none->False)
theorem qB (F:Fun K "change" "Late.change" iU f fd)(T:Bl mg)(L:LT K C)(Mneed:b8 K C "need" fneed)(Gneed:aB P w K mg base CX0 1 fneed fdneed ["self","name"] (mB C))(Bneed:Binds K fdneed ["self","name"] [])(Msweep_if_due:b8 K C "sweep_if_due" fsweep_if_due)(Gsweep_if_due:aB P w K mg base CX0 4 fsweep_if_due fdsweep_if_due ["self"] (fq C))(Bsweep_if_due:Binds K fdsweep_if_due ["self"] [])(Menter:b8 K C "enter" fenter)(Genter:aB P w K mg base CX0 4 fenter fdenter ["self","name","worth"] (jZ C))(Benter:Binds K fdenter ["self","name","worth"] []):aB P w K mg base CX0 5 f fd ["self","name","worth"] (jb C):=by
 have sc:=js
 refine F.ok js fun cdv A outer s H vs Q E hr h=>?_
 obtain ⟨p,d,l,s,n,w,rfl,LA,h1,h2,hn,kQ,kE⟩:=h
 have hu:=hr.units0
 have npd:=LA.npd
 have npl:=LA.npl
 have ndl:=LA.ndl
 obtain ⟨dx,hp⟩:=LA.ob
 obtain ⟨ks,hd,kr⟩:=LA.dc
 obtain ⟨xs,hx,rr⟩:=LA.ls
 refine ⟨_,(QSs.to (af (aL (bO (qv 0) L.cl Mneed Gneed hr.mo Bneed .nil az (ae (qv 1) aj)))
  (af (aL (bO (qv 0) L.cl Menter Genter hr.mo Benter .nil az (ae (qv 1) (ae (qv 2) aj))))
  (ak (aL (bn (qv 0) L.cl Msweep_if_due Gsweep_if_due hr.mo Bsweep_if_due .nil az)))))),?_⟩
 refine ⟨p,dx,_,rfl,hp,lfn,p,dx,d,_,ks,n,rfl,hp,dy,hd,hn,fun cs=>?_,fun cs=>?_⟩
 .rcases kr.get n with ⟨e1,e2⟩ | ⟨a,e,e1,e2,ha⟩
  .rw [e1] at cs;cases cs
  refine ⟨p,dx,_,rfl,hp,lfn,p,d,l,s,n,w,rfl,LA,Am,Am,fun H2 L2 k2=>?_⟩
  obtain ⟨dx2,hp2⟩:=L2.ob
  refine ⟨p,dx2,_,rfl,hp2,lfn,p,d,l,_,rfl,L2,?_,fun l' H3 L3 k3 f3=>?_⟩
  .show (Gm.enter slt s n w).row.length<=1000
   rw [Gm.enter_row_perm.length_eq,As]
   show s.row.length+1<=1000
   lia
  .exact kQ (by rw [e2];intro z;cases z) l' H3 L3 (k2.trans k3) (f3.imp id fun z=>L2.fresh k2 z)
 rcases kr.get n with ⟨e1,e2⟩ | ⟨a,e,e1,e2,ha⟩
 .exact kE e2
 rw [e1] at cs;cases cs
abbrev mM:Stmt:=bg (top 15) 2
theorem pT:aA ["self","name"] ["self","name"] (am mM):=fs0
def pU (C:Addr):Sp:=fun vs H Q E=>∃ (p d l:Addr) (s:LS) (n:Str),vs=[.ref p,.str n]/\LateAt C H p d l s/\s.row.length<=900/\s.there.length<=900/\n.length<=1000 /\
 (Gm.dget s.there n≠none->∀l' H',LateAt C H' p d l' (Gm.dropL slt s n)->Kept [p,d,l] H H'->Fr3 H l l'->Q .non H')/\(Gm.dget s.there n=none->False)
theorem uL (F:Fun K "drop" "Late.drop" mM f fd)(T:Bl mg)(L:LT K C)(Mneed:b8 K C "need" fneed)(Gneed:aB P w K mg base CX0 1 fneed fdneed ["self","name"] (mB C))(Bneed:Binds K fdneed ["self","name"] [])(Msweep_if_due:b8 K C "sweep_if_due" fsweep_if_due)(Gsweep_if_due:aB P w K mg base CX0 4 fsweep_if_due fdsweep_if_due ["self"] (fq C))(Bsweep_if_due:Binds K fdsweep_if_due ["self"] []):aB P w K mg base CX0 5 f fd ["self","name"] (pU C):=by
 have sc:=pT
 refine F.ok pT fun cdv A outer s H vs Q E hr h=>?_
 obtain ⟨p,d,l,s,n,rfl,LA,h1,h2,hn,kQ,kE⟩:=h
 have hu:=hr.units0
 have npd:=LA.npd
 have npl:=LA.npl
 have ndl:=LA.ndl
 obtain ⟨dx,hp⟩:=LA.ob
 obtain ⟨ks,hd,kr⟩:=LA.dc
 obtain ⟨xs,hx,rr⟩:=LA.ls
 refine ⟨_,(QSs.to (af (aL (bO (qv 0) L.cl Mneed Gneed hr.mo Bneed .nil az (ae (qv 1) aj)))
  (af (aL (eW (a9 (qv 0) rfl) (qv 1) ⟨rfl,rfl,rfl,rfl⟩))
  (ak (aL (bn (qv 0) L.cl Msweep_if_due Gsweep_if_due hr.mo Bsweep_if_due .nil az)))))),?_⟩
 refine ⟨p,dx,_,rfl,hp,lfn,p,dx,d,_,ks,n,rfl,hp,dy,hd,hn,fun cs=>?_,fun cs=>?_⟩
 .rcases kr.get n with ⟨e1,e2⟩ | ⟨a,e,e1,e2,ha⟩
  .rw [e1] at cs;cases cs
  refine ⟨p,C,dx,_,_,rfl,hp,L.cl,L.nt.th,dy,d,rfl,.inl ⟨ks,.inl hd⟩,ks,Sum.inr n,_,hd,rfl,e1,?_⟩
  have tt:∀b zs,H b=some (.tup zs)->(upd H d (.dK (bD ks (Sum.inr n)))) b=some (.tup zs):=fun b zs z=>by rw [ao (bv z hd (by intro y;cases y))];exact z
  have L2:LateAt C (upd H d (.dK (bD ks (Sum.inr n)))) p d l (Gm.dropT s n):=⟨⟨dx,by rw [ao npd];exact hp⟩,⟨_,ag,(kr.drop n).stay tt⟩,⟨xs,by rw [ao ndl.symm];exact hx,rr.stay tt⟩⟩
  have k2:Kept [p,d,l] H (upd H d (.dK (bD ks (Sum.inr n)))):=Kept.refl.put An
  obtain ⟨dx2,hp2⟩:=L2.ob
  refine ⟨p,dx2,_,rfl,hp2,lfn,p,d,l,_,rfl,L2,?_,fun l' H3 L3 k3 f3=>?_⟩
  .show s.row.length<=1000
   lia
  .exact kQ (by rw [e2];intro z;cases z) l' H3 L3 (k2.trans k3) (f3.imp id fun z=>L2.fresh k2 z)
 rcases kr.get n with ⟨e1,e2⟩ | ⟨a,e,e1,e2,ha⟩
 .exact kE e2
 rw [e1] at cs;cases cs
abbrev jC:Stmt:=bg (top 15) 4
theorem kC:aA ["self","entry"] ["self"] (am jC):=fs0
def lG (C:Addr):Sp:=fun vs H Q E=>∃ (p d l:Addr) (s:LS),vs=[.ref p]/\LateAt C H p d l s/\Gm.LInv slt s/\s.row.length<=1000 /\
 (s.there≠[]->∀q H',LateAt C H' p d l (Gm.leastL slt s)->H' q=some (.tup [.int (Hg.g (Gm.leastL slt s).row 0).w,.str (Hg.g (Gm.leastL slt s).row 0).n])->Kept [p,d,l] H H'->Q (.ref q) H')/\(s.there=[]->False)
theorem sL (F:Fun K "least" "Late.least" jC f fd)(T:Bl mg)(L:LT K C)(Mfirst_there:b8 K C "first_there" ffirst_there)(Gfirst_there:aB P w K mg base CX0 5 ffirst_there fdfirst_there ["self"] (jI C))(Bfirst_there:Binds K fdfirst_there ["self"] []):aB P w K mg base CX0 6 f fd ["self"] (lG C):=by
 have sc:=kC
 refine F.ok kC fun cdv A outer s H vs Q E hr h=>?_
 obtain ⟨p,d,l,s,rfl,LA,LI,h1,kQ,kE⟩:=h
 have hu:=hr.units0
 have npd:=LA.npd
 have npl:=LA.npl
 have ndl:=LA.ndl
 obtain ⟨dx,hp⟩:=LA.ob
 obtain ⟨ks,hd,kr⟩:=LA.dc
 obtain ⟨xs,hx,rr⟩:=LA.ls
 refine ⟨_,(QSs.to (af (qst 1 sc.nd (bn (qv 0) L.cl Mfirst_there Gfirst_there hr.mo Bfirst_there .nil az))
  (ak (aF (aQ (ae (ar aJ (qv 1) ah pix) (ae (ar aJ (qv 1) ah pix) aj))))))),?_⟩
 refine ⟨p,dx,_,rfl,hp,lfn,p,d,l,s,rfl,LA,LI,h1,fun hT a H2 L2 ha k2=>?_,kE⟩
 refine ⟨_,_,SqT.of ha,rfl,_,_,SqT.of ha,rfl,sz2,fun q hq=>?_⟩
 exact kQ hT q _ (L2.same (aq hq)) ag (k2.new hq)
abbrev nK:Stmt:=bg (top 15) 5
theorem pz:aA ["self","entry"] ["self"] (am nK):=fs0
def oy (C:Addr):Sp:=fun vs H Q E=>∃ (p d l:Addr) (s:LS),vs=[.ref p]/\LateAt C H p d l s/\Gm.LInv slt s/\s.row.length<=1000 /\
 (s.there≠[]->∀q l' H',LateAt C H' p d l' (Gm.takeL slt s)->H' q=some (.tup [.int (Hg.g (Gm.leastL slt s).row 0).w,.str (Hg.g (Gm.leastL slt s).row 0).n])->Kept [p,d,l] H H'->Fr3 H l l'->Q (.ref q) H')/\(s.there=[]->False)
theorem rn (F:Fun K "take" "Late.take" nK f fd)(T:Bl mg)(L:LT K C)(Mfirst_there:b8 K C "first_there" ffirst_there)(Gfirst_there:aB P w K mg base CX0 5 ffirst_there fdfirst_there ["self"] (jI C))(Bfirst_there:Binds K fdfirst_there ["self"] [])(Mcut:b8 K C "cut" fcut)(Gcut:aB P w K mg base CX0 4 fcut fdcut ["self"] (m7 C))(Bcut:Binds K fdcut ["self"] [])(Msweep_if_due:b8 K C "sweep_if_due" fsweep_if_due)(Gsweep_if_due:aB P w K mg base CX0 4 fsweep_if_due fdsweep_if_due ["self"] (fq C))(Bsweep_if_due:Binds K fdsweep_if_due ["self"] []):aB P w K mg base CX0 6 f fd ["self"] (oy C):=by
 have sc:=pz
 refine F.ok pz fun cdv A outer s H vs Q E hr h=>?_
 obtain ⟨p,d,l,s,rfl,LA,LI,h1,kQ,kE⟩:=h
 have hu:=hr.units0
 have npd:=LA.npd
 have npl:=LA.npl
 have ndl:=LA.ndl
 obtain ⟨dx,hp⟩:=LA.ob
 obtain ⟨ks,hd,kr⟩:=LA.dc
 obtain ⟨xs,hx,rr⟩:=LA.ls
 refine ⟨_,(QSs.to (af (qst 1 sc.nd (bn (qv 0) L.cl Mfirst_there Gfirst_there hr.mo Bfirst_there .nil az))
  (af (aL (bn (qv 0) L.cl Mcut Gcut hr.mo Bcut .nil az))
  (af (aL (eW (a9 (qv 0) rfl) (ar aJ (qv 1) ah pix) ⟨rfl,rfl,rfl,rfl⟩))
  (af (aL (bn (qv 0) L.cl Msweep_if_due Gsweep_if_due hr.mo Bsweep_if_due .nil az))
  (ak (aF (aQ (ae (ar aJ (qv 1) ah pix) (ae (ar aJ (qv 1) ah pix) aj)))))))))),?_⟩
 refine ⟨p,dx,_,rfl,hp,lfn,p,d,l,s,rfl,LA,LI,h1,fun hT a H2 L2 ha k2=>?_,kE⟩
 have cl:=Gm.least_ok slt_slo LI hT
 have hle:(Gm.leastL slt s).row.length<=1000:=AV (Gm.least_len) h1
 obtain ⟨dx2,hp2⟩:=L2.ob
 refine ⟨p,dx2,_,rfl,hp2,lfn,p,d,l,_,rfl,L2,cl.pos,hle,fun H3 L3 k3=>?_⟩
 have k3':Kept [p,d,l] H2 H3:=k3.mono fun b hb=>by simp only [Aw,Ax,Bg] at hb ⊢;rcases hb with h | h <;> simp [h]
 have ha3:=k3'.tups L2.notup _ _ ha
 obtain ⟨dx3,hp3⟩:=L3.ob
 obtain ⟨ks3,hd3,kr3⟩:=L3.dc
 obtain ⟨xs3,hx3,rr3⟩:=L3.ls
 have hin:=Gm.holds_in cl.hold
 rcases kr3.get (Hg.g (Gm.leastL slt s).row 0).n with ⟨e1,e2⟩ | ⟨b,e',e1,e2,hb⟩
 .have:=Gm.dget_of cl.inv.nd hin
  have e3:Gm.dget (Gm.leastL slt s).there (Hg.g (Gm.leastL slt s).row 0).n=none:=e2
  rw [e3] at this
  cases this
 refine ⟨p,C,dx3,_,_,rfl,hp3,L.cl,L.nt.th,dy,d,rfl,.inl ⟨ks3,.inl hd3⟩,_,_,SqT.of ha3,rfl,ks3,Sum.inr (Hg.g (Gm.leastL slt s).row 0).n,_,hd3,rfl,e1,?_⟩
 have tt:∀b zs,H3 b=some (.tup zs)->(upd H3 d (.dK (bD ks3 (Sum.inr (Hg.g (Gm.leastL slt s).row 0).n)))) b=some (.tup zs):=fun b zs z=>by rw [ao (bv z hd3 (by intro y;cases y))];exact z
 have L4:LateAt C (upd H3 d (.dK (bD ks3 (Sum.inr (Hg.g (Gm.leastL slt s).row 0).n)))) p d l (Gm.dropT (Gm.cut slt (Gm.leastL slt s)) (Hg.g (Gm.leastL slt s).row 0).n):=⟨⟨dx3,by rw [ao npd];exact hp3⟩,⟨_,ag,(kr3.drop _).stay tt⟩,⟨xs3,by rw [ao ndl.symm];exact hx3,rr3.stay tt⟩⟩
 have k4:Kept [p,d,l] H (upd H3 d (.dK (bD ks3 (Sum.inr (Hg.g (Gm.leastL slt s).row 0).n)))):=(k2.trans k3').put An
 have ha4:=tt _ _ ha3
 generalize (upd H3 d (.dK (bD ks3 (Sum.inr (Hg.g (Gm.leastL slt s).row 0).n))))=H4 at L4 k4 ha4 ⊢
 obtain ⟨dx4,hp4⟩:=L4.ob
 refine ⟨p,dx4,_,rfl,hp4,lfn,p,d,l,_,rfl,L4,?_,fun l' H5 L5 k5 f5=>?_⟩
 .have lc:(Gm.cut slt (Gm.leastL slt s)).row.length=(Gm.leastL slt s).row.length-1:=Hg.cutf_len
  show (Gm.cut slt (Gm.leastL slt s)).row.length<=1000
  lia
 have ha5:=k5.tups L4.notup _ _ ha4
 have f6:Fr3 H l l':=f5.imp id fun z=>L4.fresh k4 z
 refine ⟨_,_,SqT.of ha5,rfl,_,_,SqT.of ha5,rfl,sz2,fun q hq=>?_⟩
 exact kQ hT q l' _ (L5.same (aq hq)) ag ((k4.trans k5).new hq) f6
abbrev n9:Stmt:=top 23
theorem oS:aA ["script"] ["script"] (am n9):=fs0
def uK (K:W.Frag):Sp:=fun vs H Q _=>∃ (a:Addr) (ns:List Int),vs=[.ref a]/\SqL K H a (ns.map V.int)/\ns.length<=63/\∀pl H',Pile K H' pl a ns->Same H H'->Q (.ref pl) H'
theorem uP (F:Fun K "_law_pile" "_law_pile" n9 f fd)(T:Bl mg):aB P w K mg base CX0 1 f fd ["script"] (uK K):=by
 have sc:=oS
 refine F.okQ oS fun cdv A outer s H vs Q E hr h=>?_
 obtain ⟨a,ns,rfl,hS,hn,k⟩:=h
 refine ⟨_,(ak (aF (aV (ae (qv 0) (ae ah (ae ah (ae ah (ae ah aj)))))))),?_⟩
 refine ⟨sz5,fun pl hpl=>?_⟩
 exact k pl _ ⟨⟨0,0,30103,0,ag,Ak,Ak,Ak⟩,hS.same' (aq hpl),hn⟩ (aq hpl)
abbrev mU:Stmt:=top 24
theorem pL:aA ["pile","most","found","cell"] ["pile","most"] (am mU):=fs0
theorem uO (F:Fun K "_law_next" "_law_next" mU f fd)(T:Bl mg):aB P w K mg base CX0 1 f fd ["pile","most"] (cT K):=by
 have sc:=pL
 refine F.okQ pL fun cdv A outer s H vs Q E hr h=>?_
 obtain ⟨pl,scr,ns,most,rfl,PL,m0,m1,k⟩:=h
 have hu:=hr.units0
 refine ⟨_,(af (aO (ay fZ (ar aw (qv 0) ah pix) ah (aD _)) (af (qst 2 sc.nd (au cc (ar aw (qv 0) ah pix) (qv 1)))
  (af (bU (au bS (ar aw (qv 0) ah pix) (qv 1)) (bR (qv 0) ah bh))
  (ak (aF (qv 2))))) aE)
  (af (aO (ay fA (ar aw (qv 0) ah pix) (qcB aG T.z_len (ae (ar aw (qv 0) ah pix) aj)) (aD _)) (af (qst 3 sc.nd (ar aw (ar aw (qv 0) ah pix) (ar aw (qv 0) ah pix) pix))
  (af (bU (au aK (ar aw (qv 0) ah pix) ah) (bR (qv 0) ah bh))
  (af (bU (au cc (au aK (au cW (ar aw (qv 0) ah pix) ah) (qv 3)) ah) (bR (qv 0) ah bh))
  (af (aO (ay wt (qcB io T.z_abs (ae (qv 3) aj)) (au eQ ah ah) (aD _)) (af (bU (au bS (qcB io T.z_abs (ae (qv 3) aj)) (qv 1)) (bR (qv 0) ah bh))
  (ak (aF (au cc (qcB io T.z_abs (ae (qv 3) aj)) (qv 1))))) aE)
  (ak (aF (au cc (qv 3) (qv 1)))))))) aE)
  (af (bU (au aK (ar aw (qv 0) ah pix) ah) (bR (qv 0) ah bh))
  (af (bU (au cc (au aK (au aK (au cW (ar aw (qv 0) ah pix) (ar aw (qv 0) ah pix)) (au cW ah (ar aw (qv 0) ah pix))) ah) ah) (bR (qv 0) ah bh))
  (ak (aF (au cc (au bS (ar aw (qv 0) ah pix) ah) (qv 1)))))))),?_⟩
 obtain ⟨a,b,c,e,hp,a0,c0,c1⟩:=PL.to
 have kn:∀(H1:Hp) (o:HO) (bb:Addr),(∀x,H x=none->H1 x=none)->H bb=none->(upd H1 pl o) bb=none:=fun H1 o bb h1 e=>by
  rw [ao (fun z=>by rw [z,hp] at e;cases e)]
  exact h1 bb e
 refine ⟨_,_,SqL.of hp,rfl,_,rfl,aU (fun _=>?_) (fun _=>?_)⟩
 .refine ⟨_,_,SqL.of hp,rfl,m0,?_⟩
  refine ⟨_,_,SqL.of hp,rfl,⟨m0,Am⟩,pl,_,_,2,rfl,rfl,hp,rfl,?_⟩
  refine (?_)
  exact k _ _ (du m0) (dv m0) (PL.put a0 c0 c1) (Kept.refl.put An) fun bb z=>kn H _ bb (fun _ q=>q) z
 have lm:(ns.map V.int).length=ns.length:=Ar ..
 refine ⟨_,_,SqL.of hp,rfl,_,_,SqL.of hp,rfl,scr,_,rfl,.inl PL.hs,_,rfl,aU (fun q1=>?_) (fun q1=>?_)⟩
 .have q1':a<(ns.length:Int):=by rw [lm] at q1;exact Bc q1
  refine ⟨_,_,SqL.of hp,rfl,_,_,SqL.of hp,rfl,_,_,PL.hs,xC a0 q1',?_⟩
  generalize ns.getD a.toNat 0=cell
  refine ⟨_,_,SqL.of hp,rfl,pl,_,_,1,rfl,rfl,hp,rfl,?_⟩
  have P1:Pile K (upd H pl (.lst ([V.ref scr,.int a,.int b,.int c,.int e].set 1 (.int (a+1))))) pl scr ns:=PL.put Am c0 c1
  have k1:Kept [pl] H (upd H pl (.lst ([V.ref scr,.int a,.int b,.int c,.int e].set 1 (.int (a+1))))):=Kept.refl.put An
  have n1:∀bb,H bb=none->(upd H pl (.lst ([V.ref scr,.int a,.int b,.int c,.int e].set 1 (.int (a+1))))) bb=none:=fun bb=>kn H _ bb (fun _ q=>q)
  have h1:(upd H pl (.lst ([V.ref scr,.int a,.int b,.int c,.int e].set 1 (.int (a+1))))) pl=some (.lst [.ref scr,.int (a+1),.int b,.int c,.int e]):=ag
  generalize (upd H pl (.lst ([V.ref scr,.int a,.int b,.int c,.int e].set 1 (.int (a+1)))))=H1 at P1 k1 n1 h1 ⊢
  refine ⟨_,_,SqL.of h1,rfl,.inr ⟨Ak,Ak⟩,(by show (0:Int)<_;decide),pl,_,_,3,rfl,rfl,h1,rfl,?_⟩
  have x0:=du (a:=c*69069+cell) (b:=2147483629) Ak
  have x1:=dv (a:=c*69069+cell) (b:=2147483629) Ak
  have P2:Pile K (upd H1 pl (.lst ([V.ref scr,.int (a+1),.int b,.int c,.int e].set 3 (.int ((c*69069+cell) % 2147483629))))) pl scr ns:=P1.put Am x0 x1
  have k2:Kept [pl] H (upd H1 pl (.lst ([V.ref scr,.int (a+1),.int b,.int c,.int e].set 3 (.int ((c*69069+cell) % 2147483629))))):=k1.put An
  have n2:∀bb,H bb=none->(upd H1 pl (.lst ([V.ref scr,.int (a+1),.int b,.int c,.int e].set 3 (.int ((c*69069+cell) % 2147483629))))) bb=none:=fun bb=>kn H1 _ bb n1
  have h2:(upd H1 pl (.lst ([V.ref scr,.int (a+1),.int b,.int c,.int e].set 3 (.int ((c*69069+cell) % 2147483629))))) pl=some (.lst [.ref scr,.int (a+1),.int b,.int ((c*69069+cell) % 2147483629),.int e]):=ag
  generalize (upd H1 pl (.lst ([V.ref scr,.int (a+1),.int b,.int c,.int e].set 3 (.int ((c*69069+cell) % 2147483629)))))=H2 at P2 k2 n2 h2 ⊢
  refine ⟨_,rfl,⟨Ak,Ak,Ak⟩,_,rfl,aU (fun _=>?_) (fun _=>?_)⟩
  .refine ⟨_,rfl,⟨m0,Am⟩,pl,_,_,2,rfl,rfl,h2,rfl,?_⟩
   refine ⟨_,rfl,m0,?_⟩
   exact k _ _ (du m0) (dv m0) (P2.put Am x0 x1) (k2.put An) fun bb z=>kn H2 _ bb n2 z
  .exact ⟨m0,k _ _ (du m0) (dv m0) P2 k2 n2⟩
 refine ⟨_,_,SqL.of hp,rfl,pl,_,_,4,rfl,rfl,hp,rfl,?_⟩
 have P1:Pile K (upd H pl (.lst ([V.ref scr,.int a,.int b,.int c,.int e].set 4 (.int (e+1))))) pl scr ns:=PL.put a0 c0 c1
 have k1:Kept [pl] H (upd H pl (.lst ([V.ref scr,.int a,.int b,.int c,.int e].set 4 (.int (e+1))))):=Kept.refl.put An
 have n1:∀bb,H bb=none->(upd H pl (.lst ([V.ref scr,.int a,.int b,.int c,.int e].set 4 (.int (e+1))))) bb=none:=fun bb=>kn H _ bb (fun _ q=>q)
 have h1:(upd H pl (.lst ([V.ref scr,.int a,.int b,.int c,.int e].set 4 (.int (e+1))))) pl=some (.lst [.ref scr,.int a,.int b,.int c,.int (e+1)]):=ag
 generalize (upd H pl (.lst ([V.ref scr,.int a,.int b,.int c,.int e].set 4 (.int (e+1)))))=H1 at P1 k1 n1 h1 ⊢
 refine ⟨_,_,SqL.of h1,rfl,_,_,SqL.of h1,rfl,.inl ⟨Am,Am⟩,_,_,SqL.of h1,rfl,.inl ⟨Ak,Ak⟩,(by show (0:Int)<_;decide),pl,_,_,3,rfl,rfl,h1,rfl,?_⟩
 have x0:=du (a:=c*c+40014*(e+1)+977) (b:=2147483629) Ak
 have x1:=dv (a:=c*c+40014*(e+1)+977) (b:=2147483629) Ak
 have P2:Pile K (upd H1 pl (.lst ([V.ref scr,.int a,.int b,.int c,.int (e+1)].set 3 (.int ((c*c+40014*(e+1)+977) % 2147483629))))) pl scr ns:=P1.put a0 x0 x1
 have k2:Kept [pl] H (upd H1 pl (.lst ([V.ref scr,.int a,.int b,.int c,.int (e+1)].set 3 (.int ((c*c+40014*(e+1)+977) % 2147483629))))):=k1.put An
 have n2:∀bb,H bb=none->(upd H1 pl (.lst ([V.ref scr,.int a,.int b,.int c,.int (e+1)].set 3 (.int ((c*c+40014*(e+1)+977) % 2147483629))))) bb=none:=fun bb=>kn H1 _ bb n1
 have h2:(upd H1 pl (.lst ([V.ref scr,.int a,.int b,.int c,.int (e+1)].set 3 (.int ((c*c+40014*(e+1)+977) % 2147483629))))) pl=some (.lst [.ref scr,.int a,.int b,.int ((c*c+40014*(e+1)+977) % 2147483629),.int (e+1)]):=ag
 generalize (upd H1 pl (.lst ([V.ref scr,.int a,.int b,.int c,.int (e+1)].set 3 (.int ((c*c+40014*(e+1)+977) % 2147483629)))))=H2 at P2 k2 n2 h2 ⊢
 exact ⟨_,_,SqL.of h2,rfl,⟨Ak,Ak⟩,m0,k _ _ (du m0) (dv m0) P2 k2 n2⟩
theorem b7 {α:Type}:∀{l:List α} {k:Nat} (h:k<l.length),(l[k]::l.eraseIdx k).Perm l
 | a::l,0,_=>Ej _
 | a::l,k+1,h=>by
  have hk:k<l.length:=Nat.lt_of_succ_lt_succ h
  have ih:=b7 (l:=l) (k:=k) hk
  show (l[k]::a::l.eraseIdx k).Perm (a::l)
  exact (List.Perm.swap _ _ _).trans (ih.cons a)
def lB (xs:List V):Prop:=∀v∈xs,∃ x,v=.str x/\x.length<=20
def nmk (p q:Str)(sh:Nat)(k:Nat):Str:=p++ltr ((sh+k) % 26)++(if k % 2=0 then ("":Str) else ("q":Str))++q++(["","w","ww","v","vw","u","uw","uu"]:List Str).getD (k / 26) ""
theorem xf (a b:Str):(a++b).cps.toList=a.cps.toList++b.cps.toList:=by
 show (a.cps++b.cps).toList=_
 rw [DS]
theorem wO {a b:Str}(h:a.cps.toList=b.cps.toList):a=b:=by
 cases a with
 | mk a =>
  cases b with
  | mk b=>exact congrArg Str.mk (Array.toList_inj.mp h)
theorem xT:∀i j:Nat,i<8->j<8->(["","w","ww","v","vw","u","uw","uu"]:List Str).getD i ""=(["","w","ww","v","vw","u","uw","uu"]:List Str).getD j ""->i=j:=by
 have nd:((["","w","ww","v","vw","u","uw","uu"]:List Str)).Nodup:=by decide +kernel
 intro i j hi hj h
 refine (DQ (h₀:=hi) (h₁:=hj) nd).mp ?_
 rw [AD,AD,tx (show i<((["","w","ww","v","vw","u","uw","uu"]:List Str)).length from hi),tx (show j<((["","w","ww","v","vw","u","uw","uu"]:List Str)).length from hj)] at h
 exact h
theorem v9 {p q:Str}{sh k k':Nat}(hk:k<208)(hk':k'<208)(h:nmk p q sh k=nmk p q sh k'):k=k':=by
 have e:=congrArg (fun x:Str=>x.cps.toList) h
 unfold nmk at e
 simp only [xf,AB] at e
 have e1:=Eb e
 have el:∀i,(ltr i).cps.toList=[97+i]:=fun i=>rfl
 rw [el,el] at e1
 simp only [Ci,DX,Fx] at e1
 obtain ⟨e2,e3⟩:=e1
 have m:(sh+k) % 26=(sh+k') % 26:=by lia
 have m2:k % 2=k' % 2:=by lia
 rw [m2] at e3
 have e4:=Eb (Eb e3)
 have:=xT (k / 26) (k' / 26) Am Am (wO e4)
 lia
theorem uT {p q:Str}{sh k:Nat}(h:p.length+q.length<=8):(nmk p q sh k).length<=20:=by
 have t1:∀i:Nat,((["","w","ww","v","vw","u","uw","uu"]:List Str).getD i "").length<=2:=by
  intro i
  by_cases hi:i<8
  .match i,hi with
   | 0,_=>decide +kernel
   | 1,_=>decide +kernel
   | 2,_=>decide +kernel
   | 3,_=>decide +kernel
   | 4,_=>decide +kernel
   | 5,_=>decide +kernel
   | 6,_=>decide +kernel
   | 7,_=>decide +kernel
   | i+8,h=>exact absurd h Am
  .rw [AD,BO (by show ((["","w","ww","v","vw","u","uw","uu"]:List Str)).length<=i;have:((["","w","ww","v","vw","u","uw","uu"]:List Str)).length=8:=rfl;lia)]
   decide +kernel
 have t2:(if k % 2=0 then ("":Str) else ("q":Str)).length<=1:=by split <;> decide +kernel
 have t3:(ltr ((sh+k) % 26)).length=1:=rfl
 have:=t1 (k / 26)
 unfold nmk
 rw [Cp,Cp,Cp,Cp,t3]
 lia
abbrev fz:Stmt:=top 25
theorem kY:aA ["pile","many","letters","menu","base","at","shift","found","k","sign","tail"] ["pile","many"] (am fz):=fs0
def kD (K:W.Frag):Sp:=fun vs H Q _=>∃ (pl sr:Addr) (ns:List Int) (many:Nat),vs=[.ref pl,.int many]/\Pile K H pl sr ns/\many<=200 /\
 ∀(l:Addr) (xs:List V) H',H' l=some (.lst xs)->lB xs->xs.Nodup->xs.length=many->Pile K H' pl sr ns->Kept [pl] H H'->H l=none->l≠pl->Off K sr (ns.map V.int) l->Q (.ref l) H'
theorem qK (F:Fun K "_law_names" "_law_names" fz f fd)(T:Bl mg)(G_law_next:aB P w K mg base CX0 1 fn fdn ["pile","most"] (cT K))(D_law_next:Nm K mg "_law_next" fn fdn ["pile","most"]):
  aB P w K mg base CX0 2 f fd ["pile","many"] (kD K):=by
 have sc:=kY
 refine F.okQ kY fun cdv A outer s H vs Q E hr h=>?_
 obtain ⟨pl,sr,ns,many,rfl,PL,hm,k⟩:=h
 have hu:=hr.units0
 refine ⟨_,(af (eO (i:=2) sc.nd rfl (Or.inr rfl) av)
  (af (eO (i:=3) sc.nd rfl (Or.inr rfl) (aV (dH (vs:=[.str "a",.str "b",.str "ab",.str "aa",.str "ba",.str "z",.str "put",.str "heap",.str "least",.str "take",.str "first",.str "zzzzzzzz",.str "abcdefgh",.str "drop"]) Aj)))
  (af (aO (jO (QW.pt (eE (ay zx (qv 1) ah (aD _)) (dL (ay bz (qcl G_law_next hr D_law_next az (ae (qv 0) (ae ah aj))) ah (aD _)))))) (ak (aF (bA (Blk.of (N:=["pile","many","letters","menu","base","at","shift","found","k","sign","tail"]) (esc:=am fz) (NB:=["menu","pile"]) (cap:=[3,0]) rfl rfl (fun y hy=>aM hy) rfl Aj Aj Aj rfl Aj rfl Aj) rfl rfl (bx rfl T.z_range (ae (qv 1) aj)) (fun C fp s₀ H₀=>a7) (fun C fp s₀ H₀=>(xz (K:=K) rfl AZ Et Eu uy (qv 1) (ae (qcl G_law_next hr D_law_next az (ae (qv 2) (ae (gX (dW (K:=K) rfl) (by rfl) T.z_len Aj (ae (qv 1) aj)) aj))) aj)))))) aE)
  (af (qst 4 sc.nd (ci PySem.F.plainAttrs_str PySem.F.slot_str_join PySem.F.type_str_join vm av (ae (bA (Blk.of (N:=["pile","many","letters","menu","base","at","shift","found","k","sign","tail"]) (esc:=am fz) (NB:=["letters","pile"]) (cap:=[2,0]) rfl rfl (fun y hy=>aM hy) rfl Aj Aj Aj rfl Aj rfl Aj) rfl rfl (bx rfl T.z_range (ae (qcl G_law_next hr D_law_next az (ae (qv 0) (ae ah aj))) aj)) (fun C fp s₀ H₀=>a7) (fun C fp s₀ H₀=>(ar j8 (qv 1) (qcl G_law_next hr D_law_next az (ae (qv 2) (ae ah aj))) pix))) aj)))
  (af (qst 5 sc.nd (qcl G_law_next hr D_law_next az (ae (qv 0) (ae (au aK (qcB jP T.z_len (ae (qv 4) aj)) ah) aj))))
  (af (qst 6 sc.nd (qcl G_law_next hr D_law_next az (ae (qv 0) (ae ah aj))))
  (af (qst 7 sc.nd (aV aj))
  (af (c6 Bz rfl (bx rfl T.z_range (ae (qv 1) aj)) (bu (i:=8) sc.nd rfl (Or.inl rfl)) (af (qst 9 sc.nd (ar j8 (qv 2) (au cc (au aK (qv 6) (qv 8)) ah) pix))
  (af (qst 10 sc.nd (ar aw (aV (dH (vs:=[.str "",.str "w",.str "ww",.str "v",.str "vw",.str "u",.str "uw",.str "uu"]) Aj)) (au bS (qv 8) ah) pix))
  (ak (aL (ci AZ A3 A4 aW (qv 7) (ae (au bJ (au bJ (au bJ (au bJ (cj ss (qv 4) cS (cU (qv 5))) (qv 9)) (ar aw (aV (ae av (ae av aj))) (au cc (qv 8) ah) pix)) (cj ss (qv 4) (cU (qv 5)) cS)) (qv 10)) aj)))))))
  (ak (aF (qv 7))))))))))),?_⟩
 refine ⟨sz14,fun ml hml=>?_⟩
 have PM:=PL.new hml
 refine gnew hml fun H1 s1 g1=>?_
 have P1:=PL.same s1
 have lmenu:([.str "a",.str "b",.str "ab",.str "aa",.str "ba",.str "z",.str "put",.str "heap",.str "least",.str "take",.str "first",.str "zzzzzzzz",.str "abcdefgh",.str "drop"]:List V).length=14:=rfl
 have ndm:([.str "a",.str "b",.str "ab",.str "aa",.str "ba",.str "z",.str "put",.str "heap",.str "least",.str "take",.str "first",.str "zzzzzzzz",.str "abcdefgh",.str "drop"]:List V).Nodup:=by decide +kernel
 have anm:lB [.str "a",.str "b",.str "ab",.str "aa",.str "ba",.str "z",.str "put",.str "heap",.str "least",.str "take",.str "first",.str "zzzzzzzz",.str "abcdefgh",.str "drop"]:=fun v hv=>by
  simp only [Aw,Ax,Bg] at hv
  rcases hv with h | h | h | h | h | h | h | h | h | h | h | h | h | h <;> exact ⟨_,h,Aj⟩
 refine ⟨fun b H'=>(b=true->many<=14)/\Pile K H' pl sr ns/\Kept [pl] H1 H',?_,?_⟩
 .refine ⟨_,rfl,aU (fun c1=>?_) (fun c1=>?_)⟩
  .have c1':(many:Int)<=14:=Bc c1
   exact ⟨pl,sr,ns,2,rfl,P1,Ak,Ak,fun x H2 x0 x1 P2 K2 N2=>⟨rfl,_,rfl,fun _=>by lia,P2,K2⟩⟩
  .exact ⟨(fun z=>nomatch z),P1,Kept.refl⟩
 rintro b H2 ⟨c1,P2,k12⟩
 have k2:Kept [pl] H H2:=fun c u e n=>k12 c u (s1 _ _ e) n
 have hm2:=k12 _ _ g1 (fun z=>PM.1 (Ao z))
 have fresh:∀(H3:Hp) (D:Addr),Kept [pl] H H3->Pile K H3 pl sr ns->H3 D=none->H D=none:=fun H3 D k3 P3 e=>by
  cases q:H D with
  | none=>rfl
  | some u=>rw [k3 _ _ q (fun z=>(P3.new e).1 (Ao z))] at e;cases e
 refine aU (fun hb=>?_) (fun hb=>?_)
 .-- out of the menu
  have m14:=c1 hb
  refine ⟨_,rfl,Am,Am,fun D hD=>?_⟩
  have PD:=P2.new hD
  have hD0:=fresh H2 D k2 P2 hD
  have nmD:ml≠D:=ap hm2 hD
  refine bN (lo:=0) (n:=many) (fun i ys H4=>H4 D=some (.lst ys)/\∃ ms,H4 ml=some (.lst ms)/\(ys++ms).Perm [.str "a",.str "b",.str "ab",.str "aa",.str "ba",.str "z",.str "put",.str "heap",.str "least",.str "take",.str "first",.str "zzzzzzzz",.str "abcdefgh",.str "drop"]/\ys.length=i/\Pile K H4 pl sr ns/\Kept [pl] H H4) ⟨ag,_,aq hD _ _ hm2,Ej _,rfl,P2.same (aq hD),k2.new hD⟩ (fun i ys H4 z=>z.1) ?_ ?_
  .rintro i ys H4 hi ⟨h4,ms,hms,pm,ly,P4,k4⟩
   have lm:ys.length+ms.length=14:=by have:=pm.length_eq;rw [As] at this;exact this
   refine cY <| ⟨.inl ⟨rfl,ms,SqL.of hms⟩,ml,ms,rfl,.inl (SqL.of hms),pl,sr,ns,(ms.length:Nat),rfl,P4,Am,Am,fun y H5 y0 y1 P5 K5 N5=>?_⟩
   have hms5:=K5 _ _ hms (fun z=>PM.1 (Ao z))
   have h5:=K5 _ _ h4 (fun z=>PD.1 (Ao z))
   have hk:y.toNat<ms.length:=by lia
   refine ⟨ml,ms,y,y.toNat,ms[y.toNat],rfl,rfl,hms5,Am,Am,PySem.StrLaws.seqIndex_nonneg y0 y1,tx hk,?_⟩
   refine ⟨by rw [ao nmD.symm];exact h5,by rw [ly];exact aH Am,_,Am,rfl,Am,ag,ms.eraseIdx y.toNat,by rw [ao nmD,ag],?_,by rw [As,ly];rfl,?_,?_⟩
   .rw [AB]
    exact ((b7 hk).append_left ys).trans pm
   .exact P5.kept (F:=[ml,D]) (fun c hc=>by
     rcases Aw.mp hc with z | z
     .rw [z];exact PM
     .rw [Ao z];exact PD) ((Kept.refl.put An).put An)
   .exact ((k4.trans K5).newer hml).newer hD0
  .rintro ys H4 ⟨h4,ms,hms,pm,ly,P4,k4⟩
   refine k D ys H4 h4 (fun v hv=>anm v (pm.mem_iff.mp (Cy _ hv))) ?_ ly P4 k4 hD0 PD.1 PD.2
   have:=pm.nodup_iff.mpr ndm
   exact (List.nodup_append.mp this).1
 -- made ones
 have LET:("abcdefghijklmnopqrstuvwxyz":Str).length<=sizeLine:=by decide +kernel
 refine ⟨rfl,pl,sr,ns,5,rfl,P2,Ak,Ak,fun n5 H3 n50 n51 P3 K3 N3=>?_⟩
 obtain ⟨m5,rfl⟩:∃ m5:Nat,n5=m5:=⟨n5.toNat,Am⟩
 have k3:=k2.trans K3
 refine ⟨_,rfl,Am,Am,fun D hD=>?_⟩
 have PD:=P3.new hD
 have hD0:=fresh H3 D k3 P3 hD
 refine bN (lo:=0) (n:=m5) (fun i ys H4=>H4 D=some (.lst ys)/\(∃ zs:List Str,ys=zs.map V.str/\zs.length=i/\∀y∈zs,y.length<=1)/\Pile K H4 pl sr ns/\Kept [pl] H H4) ⟨ag,⟨[],rfl,rfl,fun _ z=>nomatch z⟩,P3.same (aq hD),k3.new hD⟩ (fun i ys H4 z=>z.1) ?_ ?_
 .rintro i ys H4 hi ⟨h4,⟨zs,rfl,lz,al⟩,P4,k4⟩
  refine cY <| ⟨pl,sr,ns,26,rfl,P4,Ak,Ak,fun y H5 y0 y1 P5 K5 N5=>?_⟩
  obtain ⟨yn,rfl⟩:∃ yn:Nat,y=yn:=⟨y.toNat,Am⟩
  refine ⟨_,_,_,rfl,rfl,LET,j4 Am,?_⟩
  have h5:=K5 _ _ h4 (fun z=>PD.1 (Ao z))
  refine ⟨h5,by rw [Ar,lz];exact aH Am,_,Am,rfl,Am,ag,⟨zs++[ltr yn],by rw [A1];rfl,by rw [As,lz];rfl,fun z hz=>?_⟩,?_,(k4.trans K5).newer hD0⟩
  .rcases AU.mp hz with q | q
   .exact al z q
   .rw [Ao q];exact Av 1
  .exact P5.kept (F:=[D]) (fun c hc=>by rw [Ao hc];exact PD) (Kept.refl.put An)
 rintro ys H4 ⟨h4,⟨zs,rfl,lz,al⟩,P4,k4⟩
 refine ⟨"",D,zs,rfl,rfl,SqL.of h4,Aj,Am,fun y hy=>AV (al y hy) Ak,?_⟩
 have lb:(Txt.join (Str.ofString "") zs).length<=zs.length:=ui al
 revert lb
 generalize Txt.join (Str.ofString "") zs=bs
 intro lb
 have LB:bs.length<=sizeLine:=C6 (aH Am)
 refine ⟨bs,rfl,LB,pl,sr,ns,((bs.length:Nat):Int)+1,rfl,P4,Am,Am,fun at' H5 at0 at1 P5 K5 N5=>?_⟩
 refine ⟨pl,sr,ns,26,rfl,P5,Ak,Ak,fun sf H6 sf0 sf1 P6 K6 N6=>?_⟩
 obtain ⟨sh,rfl⟩:∃ sh:Nat,sf=sh:=⟨sf.toNat,Am⟩
 have k6:=(k4.trans K5).trans K6
 refine ⟨sz0,fun fl hfl=>?_⟩
 have PF:=P6.new hfl
 have hf0:=fresh H6 fl k6 P6 hfl
 have lp:=Er bs none (some at')
 have lq:=Er bs (some at') none
 have LS:∀k,(nmk (Txt.slice bs none (some at')) (Txt.slice bs (some at') none) sh k).length<=20:=fun k=>uT Am
 generalize hp:Txt.slice bs none (some at')=p at lp LS
 generalize hq:Txt.slice bs (some at') none=q at lq LS
 refine gnew hfl fun H7 s7 g7=>?_
 refine ⟨_,rfl,Am,Am,dN (lo:=0) (n:=many) (fun i U H8=>∃ (o8 o9 o10:Option V),U=[some (.ref pl),some (.int many),some (.str "abcdefghijklmnopqrstuvwxyz"),some (.ref ml),some (.str bs),some (.int at'),some (.int sh),some (.ref fl),o8,o9,o10]/\H8 fl=some (.lst ((List.range i).map fun k=>V.str (nmk p q sh k)))/\Pile K H8 pl sr ns/\Kept [pl] H H8)
  ⟨none,none,none,rfl,g7,P6.same s7,k6.trans (Kept.of_same s7)⟩ ?_ ?_⟩
 .rintro i U H8 hi ⟨o8,o9,o10,rfl,h8,P8,k8⟩
  have ei:(0:Int)+(i:Int)=(i:Int):=by lia
  rw [ei]
  have e1:((sh:Int)+(i:Int)) % 26=(((sh+i) % 26:Nat):Int):=by lia
  have a1:=j4 (i:=(sh+i) % 26) Am
  rw [<-e1] at a1
  refine ⟨(by show (0:Int)<26;decide),_,_,_,rfl,rfl,LET,a1,?_⟩
  refine ⟨sz8,fun l8 hl8=>?_⟩
  refine gnew hl8 fun H9 s9 g9=>?_
  have e2:(i:Int) / 26=((i / 26:Nat):Int):=by lia
  have a2:atI ([.str "",.str "w",.str "ww",.str "v",.str "vw",.str "u",.str "uw",.str "uu"]:List V) ((i:Int) / 26)=some (V.str ((["","w","ww","v","vw","u","uw","uu"]:List Str).getD (i / 26) "")):=by
   rw [e2]
   refine br ?_
   have hj:i / 26<8:=by lia
   generalize i / 26=j at hj
   match j,hj with
   | 0,_=>rfl
   | 1,_=>rfl
   | 2,_=>rfl
   | 3,_=>rfl
   | 4,_=>rfl
   | 5,_=>rfl
   | 6,_=>rfl
   | 7,_=>rfl
   | j+8,h=>exact absurd h Am
  refine ⟨⟨Ak,Ak⟩,_,_,SqL.of g9,a2,?_⟩
  have h9:=s9 _ _ h8
  have tl2:((["","w","ww","v","vw","u","uw","uu"]:List Str).getD (i / 26) "").length<=20:=by
   have:=LS i
   unfold nmk at this
   rw [Cp] at this
   lia
  generalize ht:(["","w","ww","v","vw","u","uw","uu"]:List Str).getD (i / 26) ""=tt at tl2 a2
  have t3:(ltr ((sh+i) % 26)).length=1:=rfl
  refine ⟨.inl ⟨rfl,_,SqL.of h9⟩,_,rfl,bs,rfl,LB,_,_,rfl,rfl,?z1,?_⟩
  case z1=>rw [hp];show p.length+(ltr ((sh+i) % 26)).length<=sizeLine;exact C6 (aH Am)
  refine ⟨sz2,fun l2 hl2=>?_⟩
  refine gnew hl2 fun HA sA gA=>?_
  have a3:atI ([.str "",.str "q"]:List V) ((i:Int) % 2)=some (V.str (if i % 2=0 then ("":Str) else ("q":Str))):=by
   have e3:(i:Int) % 2=((i % 2:Nat):Int):=by lia
   rw [e3]
   refine br ?_
   rcases Nat.mod_two_eq_zero_or_one i with z | z <;> rw [z] <;> rfl
  have t4:(if i % 2=0 then ("":Str) else ("q":Str)).length<=1:=by split <;> decide +kernel
  refine ⟨(by show (0:Int)<2;decide),_,_,SqL.of gA,a3,_,_,rfl,rfl,?z2,?_⟩
  case z2=>rw [hp,Cp];show p.length+(ltr ((sh+i) % 26)).length+_<=sizeLine;exact C6 (aH Am)
  refine ⟨_,rfl,bs,rfl,LB,_,_,rfl,rfl,?z3,_,_,rfl,rfl,?z4,?_⟩
  case z3=>rw [hp,hq,Cp,Cp];show p.length+(ltr ((sh+i) % 26)).length+_+_<=sizeLine;exact C6 (aH Am)
  case z4=>rw [hp,hq,Cp,Cp,Cp];show p.length+(ltr ((sh+i) % 26)).length+_+_+_<=sizeLine;exact C6 (aH Am)
  have hA:=sA _ _ h9
  have kA:Kept [pl] H HA:=k8.trans (Kept.of_same (s9.trans sA))
  have PA:=(P8.same s9).same sA
  refine ⟨fl,_,_,rfl,rfl,hA,by rw [Ar,By];exact aH Am,?_⟩
  refine ⟨_,_,_,rfl,?_,PA.kept (F:=[fl]) (fun c hc=>by rw [Ao hc];exact PF) (Kept.refl.put An),kA.newer hf0⟩
  rw [ag,C4,A1]
  have en:nmk p q sh i=Txt.slice bs none (some at')++⟨#[97+(sh+i) % 26]⟩++(if i % 2=0 then ("":Str) else ("q":Str))++Txt.slice bs (some at') none++tt:=by
   unfold nmk
   rw [hp,hq,ht]
   rfl
  rw [AN,CP,en]
 rintro U H8 ⟨o8,o9,o10,rfl,h8,P8,k8⟩
 refine (k fl _ H8 h8 (fun v hv=>?_) ?_ (by rw [Ar,By]) P8 k8 hf0 PF.1 PF.2)
 .obtain ⟨j,_,rfl⟩:=AK.mp hv
  exact ⟨_,rfl,LS j⟩
 rw [CM,BL]
 refine Ct (R:=fun x y=>x≠y) (fun {x y} hx hy n z=>n ?_) (CM.mp List.nodup_range)
 have:=B9.mp hx
 have:=B9.mp hy
 exact v9 Am Am (V.str.inj z)
abbrev jz:Stmt:=top 35
theorem mj:aA ["pile","way"] ["pile"] (am jz):=fs0
def ie (K:W.Frag):Sp:=fun vs H Q _=>∃ (pl sr:Addr) (ns:List Int),vs=[.ref pl]/\Pile K H pl sr ns/\∀x H',Pile K H' pl sr ns->Kept [pl] H H'->Q (.int x) H'
theorem qH (F:Fun K "_law_worth" "_law_worth" jz f fd)(T:Bl mg)(G_law_next:aB P w K mg base CX0 1 fn fdn ["pile","most"] (cT K))(D_law_next:Nm K mg "_law_next" fn fdn ["pile","most"]):
  aB P w K mg base CX0 2 f fd ["pile"] (ie K):=by
 have sc:=mj
 refine F.okQ mj fun cdv A outer s H vs Q E hr h=>?_
 obtain ⟨pl,sr,ns,rfl,PL,k⟩:=h
 have hu:=hr.units0
 refine ⟨_,(af (qst 1 sc.nd (qcl G_law_next hr D_law_next az (ae (qv 0) (ae ah aj))))
  (af (aO (ay fA (qv 1) ah (aD _)) (ak (aF (au bH (qcl G_law_next hr D_law_next az (ae (qv 0) (ae (ar aw (aV (dH (vs:=[.int 3,.int 7,.int 40]) Aj)) (au cc (qv 1) ah) pix) aj))) (ar aw (aV (dH (vs:=[.int 1,.int 3,.int 0]) Aj)) (au cc (qv 1) ah) pix)))) aE)
  (ak (aF (au aK (au bH (qcl G_law_next hr D_law_next az (ae (qv 0) (ae (au bH (au cW ah (au eQ ah ah)) ah) aj))) (au eQ ah ah)) ah))))),?_⟩
 refine ⟨pl,sr,ns,8,rfl,PL,Ak,Ak,fun x H1 x0 x1 P1 K1 N1=>?_⟩
 refine ⟨_,rfl,aU (fun q0=>?_) (fun q0=>?_)⟩
 .have m0:0<=x % 3:=du Ak
  have m1:x % 3<3:=dv Ak
  refine ⟨sz3,fun l1 hl1=>?_⟩
  refine gnew hl1 fun H2 s2 g2=>?_
  obtain ⟨v,ev,mv⟩:=fJ (l:=([.int 3,.int 7,.int 40]:List V)) (i:=x % 3) m0 m1
  obtain ⟨m,rfl,p0,p1⟩:∃ m:Int,v=.int m/\0<m/\m<2 ^ 120:=by
   simp only [Aw,Ax,Bg] at mv
   rcases mv with h | h | h <;> exact ⟨_,h,Ak,Ak⟩
  refine ⟨(by show (0:Int)<3;decide),_,_,SqL.of g2,ev,pl,sr,ns,m,rfl,P1.same s2,p0,p1,fun y H3 y0 y1 P3 K3 N3=>?_⟩
  refine ⟨sz3,fun l2 hl2=>?_⟩
  refine gnew hl2 fun H4 s4 g4=>?_
  obtain ⟨v2,ev2,mv2⟩:=fJ (l:=([.int 1,.int 3,.int 0]:List V)) (i:=x % 3) m0 m1
  obtain ⟨m2,rfl⟩:∃ m:Int,v2=.int m:=by
   simp only [Aw,Ax,Bg] at mv2
   rcases mv2 with h | h | h <;> exact ⟨_,h⟩
  refine ⟨(by show (0:Int)<3;decide),_,_,SqL.of g4,ev2,?_⟩
  exact k _ H4 (P3.same s4) (((K1.trans (Kept.of_same s2)).trans K3).trans (Kept.of_same s4))
 refine ⟨⟨Ak,Ak,Ak⟩,.inl ⟨Ak,Ak⟩,pl,sr,ns,_,rfl,P1,Ak,Ak,fun y H3 y0 y1 P3 K3 N3=>?_⟩
 refine ⟨⟨Ak,Ak,Ak⟩,?_⟩
 exact k _ H3 P3 (K1.trans K3)
abbrev qS:Stmt:=top 27
theorem si:aA ["row","k","looks","low"] ["row","k"] (am qS):=fs0
def mI:Sp:=fun vs H Q _=>∃ (r:Addr) (xs:List V) (a:Nat) (t:V->List V),vs=[.ref r,.int a]/\H r=some (.lst xs)/\EnR t H xs/\xs.length<=1000 /\
 ∀H',H' r=some (.lst (dn (ltT t) xs.length xs a 0).1)->(∀b o,H b=some o->b≠r->H' b=some o)->Q (.int (dn (ltT t) xs.length xs a 0).2) H'
theorem u6 (F:Fun K "_law_let_down" "_law_let_down" qS f fd)(T:Bl mg):aB P w K mg base CX0 1 f fd ["row","k"] mI:=by
 have sc:=si
 refine F.ok si fun cdv A outer s H vs Q E hr h=>?_
 obtain ⟨r,xs,a,t,rfl,hx,en,hl,k⟩:=h
 have hu:=hr.units0
 refine ⟨_,(QSs.to (af (qst 2 sc.nd ah)
  (af (cO Bz (ay fA (au aK (au cW ah (qv 1)) ah) (qcB aG T.z_len (ae (qv 0) aj)) (aD _)) (af (qst 3 sc.nd (au aK (au cW ah (qv 1)) ah))
  (af (aO (ay fA (au aK (qv 3) ah) (qcB aG T.z_len (ae (qv 0) aj)) (aD _)) (af (qst 2 sc.nd (au aK (qv 2) ah))
  (ak (qst 3 sc.nd (au aK (qv 3) (qcT cF T.z_int (ae (cx (fH hu) (ar aw (qv 0) (au aK (qv 3) ah) pix) (ar aw (qv 0) (qv 3) pix) (aD _)) aj)))))) aE)
  (af (qst 2 sc.nd (au aK (qv 2) ah))
  (af (aO (eK (ay (fH hu) (ar aw (qv 0) (qv 3) pix) (ar aw (qv 0) (qv 1) pix) (aD _))) (ak (aF (qv 2))) aE)
  (af (bU (aQ (ae (ar aw (qv 0) (qv 1) pix) (ae (ar aw (qv 0) (qv 3) pix) aj))) (tL rfl (bF (bR (qv 0) (qv 3) bh) (bF (bR (qv 0) (qv 1) bh) gG))))
  (ak (qst 1 sc.nd (qv 3)))))))))
  (ak (aF (qv 2)))))),?_⟩
 refine ⟨fun m U H2=>∃ (f p lk:Nat) (bl:Option V) (ys:List V),U=[some (.ref r),some (.int p),some (.int lk),bl]/\dn (ltT t) f ys p lk=dn (ltT t) xs.length xs a 0/\ys.length<=p+f/\H2 r=some (.lst ys)/\ys.length=xs.length/\(∀y∈ys,y∈xs)/\(∀b o,H b=some o->b≠r->H2 b=some o)/\m=ys.length-p,
  ⟨_,xs.length,a,0,none,xs,rfl,rfl,Am,hx,rfl,fun y h=>h,fun b o e _=>e,rfl⟩,?_⟩
 rintro m U H2 ⟨f,p,lk,bl,ys,rfl,hd,hf,h2,l2,s2,f2,rfl⟩
 have en2:EnR t H2 ys:=(en.bar hx f2).sub s2
 refine ⟨.inl ⟨Ak,Ak⟩,r,_,rfl,.inl (SqL.of h2),_,rfl,aU (fun c1=>?_) (fun c1=>(?_))⟩
 rotate_left
 .have c1':¬ 2*(p:Int)+1<(ys.length:Int):=by simpa using c1
  rw [oE Am] at hd
  have:=k H2
  rw [<-hd] at this
  exact this h2 f2
 have c1':2*(p:Int)+1<(ys.length:Int):=by simpa using c1
 refine ⟨fun σ' H'=>∃ m',m'<ys.length-p/\∃ (f p lk:Nat) (bl:Option V) (zs:List V),σ'=[some (.ref r),some (.int p),some (.int lk),bl]/\dn (ltT t) f zs p lk=dn (ltT t) xs.length xs a 0/\zs.length<=p+f/\H' r=some (.lst zs)/\zs.length=xs.length/\(∀y∈zs,y∈xs)/\(∀b o,H b=some o->b≠r->H' b=some o)/\m'=zs.length-p,fun σ' H' z=>z,?_⟩
 refine ⟨.inl ⟨Ak,Ak⟩,?_⟩
 refine ⟨r,_,rfl,.inl (SqL.of h2),_,rfl,aU (fun c2=>?_) (fun c2=>?_)⟩
 .have c2':2*(p:Int)+1+1<(ys.length:Int):=by simpa using c2
  refine (?_)
  obtain ⟨b3,e3,g3,m3,t3⟩:=en2.gat (show 2*p+2<ys.length by lia)
  obtain ⟨b4,e4,g4,m4,t4⟩:=en2.gat (show 2*p+1<ys.length by lia)
  rw [e3,show ((2*p+2:Nat):Int)=2*(p:Int)+1+1 by lia] at t3
  rw [e4,show ((2*p+1:Nat):Int)=2*(p:Int)+1 by lia] at t4
  refine ⟨_,_,SqL.of h2,t3,_,_,SqL.of h2,t4,b3,b4,_,_,rfl,rfl,SqT.of g3,SqT.of g4,en2.fit _ _,.inr ⟨_,rfl,?_⟩⟩
  have hB:2*(p:Int)+1+(if cP (t (g ys (2*p+2))) (t (g ys (2*p+1)))=true then 1 else 0)=((les (ltT t) ys p:Nat):Int):=(oO (lt:=ltT t) Am).symm
  have kidsE:kids ys.length p=2:=by unfold kids;rw [Az Am]
  have hles:les (ltT t) ys p<ys.length:=cC Am
  have lo:=eJ (lt:=ltT t) (xs:=ys) (p:=p)
  refine (?_)
  obtain ⟨b1,e1,g1,m1,t1⟩:=en2.gat hles
  obtain ⟨b2,e2,g2,m2,t2⟩:=en2.gat (show p<ys.length by lia)
  rw [e1] at t1
  rw [e2] at t2
  rw [<-hB] at t1
  refine ⟨_,_,SqL.of h2,t1,_,_,SqL.of h2,t2,b1,b2,_,_,rfl,rfl,SqT.of g1,SqT.of g2,en2.fit _ _,_,rfl,aU (fun c3=>?_) (fun c3=>?_)⟩
  .have q3:ltT t (g ys (les (ltT t) ys p)) (g ys p)=false:=by
    cases q:ltT t (g ys (les (ltT t) ys p)) (g ys p) with
    | false=>rfl
    | true=>have c4:=(show (!ltT t (g ys (les (ltT t) ys p)) (g ys p))=true from c3);rw [q] at c4;cases c4
   refine (?_)
   obtain ⟨f,rfl⟩:∃ f0,f=f0+1:=⟨f-1,Am⟩
   rw [fk Am q3,kidsE] at hd
   have:=k H2
   rw [<-hd] at this
   have ez:((lk:Int)+1+1)=((lk+2:Nat):Int):=by lia
   show Q (.int ((lk:Int)+1+1)) H2
   rw [ez]
   exact this h2 f2
  .have q3:ltT t (g ys (les (ltT t) ys p)) (g ys p)=true:=by
    cases q:ltT t (g ys (les (ltT t) ys p)) (g ys p) with
    | true=>rfl
    | false=>exact absurd (show (!ltT t (g ys (les (ltT t) ys p)) (g ys p))=true by rw [q];rfl) c3
   obtain ⟨f,rfl⟩:∃ f0,f=f0+1:=⟨f-1,Am⟩
   rw [me Am q3,kidsE] at hd
   refine ⟨_,_,SqL.of h2,t2,_,_,SqL.of h2,t1,sz2,fun p2 hp=>?_⟩
   have hrp:r≠p2:=ap h2 hp
   refine ⟨p2,_,rfl,SqT.of ag,rfl,_,_,rfl,r,ys,_,_,rfl,rfl,by rw [ao hrp];exact h2,cD Am (by rw [hB];lia),_,_,rfl,r,_,_,_,rfl,rfl,ag,cD Am (by rw [Cq];lia),rfl,?_⟩
   have esw:(ys.set (2*(p:Int)+1+(if cP (t (g ys (2*p+2))) (t (g ys (2*p+1)))=true then 1 else 0)).toNat (.ref b2)).set (p:Int).toNat (.ref b1)=sw ys p (les (ltT t) ys p):=by
    unfold sw
    rw [e1,e2,hB,BQ,BQ]
    exact List.set_comm _ _ Am
   rw [cu,esw]
   refine ⟨ys.length-les (ltT t) ys p,Am,f,les (ltT t) ys p,lk+2,some (.int (2*(p:Int)+1+(if cP (t (g ys (2*p+2))) (t (g ys (2*p+1)))=true then 1 else 0))),sw ys p (les (ltT t) ys p),?_,hd,by rw [aS];lia,ag,by rw [aS];exact l2,fun y hy=>s2 y (eT Am hles y hy),?_,by rw [aS]⟩
   .have ez:((lk:Int)+1+1)=((lk+2:Nat):Int):=by lia
    show [some (V.ref r),some (V.int (2*(p:Int)+1+(if cP (t (g ys (2*p+2))) (t (g ys (2*p+1)))=true then 1 else 0))),some (V.int ((lk:Int)+1+1)),some (V.int (2*(p:Int)+1+(if cP (t (g ys (2*p+2))) (t (g ys (2*p+1)))=true then 1 else 0)))]=_
    rw [ez,hB]
   .intro b o e nb
    rw [ao nb]
    have q:=f2 b o e nb
    rw [ao (ap q hp)];exact q
 have c2':¬ 2*(p:Int)+1+1<(ys.length:Int):=by simpa using c2
 have hB:2*(p:Int)+1=((les (ltT t) ys p:Nat):Int):=by rw [pI Am];lia
 have kidsE:kids ys.length p=1:=by unfold kids;rw [Ay Am,Az Am]
 have hles:les (ltT t) ys p<ys.length:=cC Am
 have lo:=eJ (lt:=ltT t) (xs:=ys) (p:=p)
 refine (?_)
 obtain ⟨b1,e1,g1,m1,t1⟩:=en2.gat hles
 obtain ⟨b2,e2,g2,m2,t2⟩:=en2.gat (show p<ys.length by lia)
 rw [e1] at t1
 rw [e2] at t2
 rw [<-hB] at t1
 refine ⟨_,_,SqL.of h2,t1,_,_,SqL.of h2,t2,b1,b2,_,_,rfl,rfl,SqT.of g1,SqT.of g2,en2.fit _ _,_,rfl,aU (fun c3=>?_) (fun c3=>?_)⟩
 .have q3:ltT t (g ys (les (ltT t) ys p)) (g ys p)=false:=by
   cases q:ltT t (g ys (les (ltT t) ys p)) (g ys p) with
   | false=>rfl
   | true=>have c4:=(show (!ltT t (g ys (les (ltT t) ys p)) (g ys p))=true from c3);rw [q] at c4;cases c4
  refine (?_)
  obtain ⟨f,rfl⟩:∃ f0,f=f0+1:=⟨f-1,Am⟩
  rw [fk Am q3,kidsE] at hd
  have:=k H2
  rw [<-hd] at this
  have ez:((lk:Int)+1)=((lk+1:Nat):Int):=by lia
  show Q (.int ((lk:Int)+1)) H2
  rw [ez]
  exact this h2 f2
 have q3:ltT t (g ys (les (ltT t) ys p)) (g ys p)=true:=by
  cases q:ltT t (g ys (les (ltT t) ys p)) (g ys p) with
  | true=>rfl
  | false=>exact absurd (show (!ltT t (g ys (les (ltT t) ys p)) (g ys p))=true by rw [q];rfl) c3
 obtain ⟨f,rfl⟩:∃ f0,f=f0+1:=⟨f-1,Am⟩
 rw [me Am q3,kidsE] at hd
 refine ⟨_,_,SqL.of h2,t2,_,_,SqL.of h2,t1,sz2,fun p2 hp=>?_⟩
 have hrp:r≠p2:=ap h2 hp
 refine ⟨p2,_,rfl,SqT.of ag,rfl,_,_,rfl,r,ys,_,_,rfl,rfl,by rw [ao hrp];exact h2,cD Am (by rw [hB];lia),_,_,rfl,r,_,_,_,rfl,rfl,ag,cD Am (by rw [Cq];lia),rfl,?_⟩
 have esw:(ys.set (2*(p:Int)+1).toNat (.ref b2)).set (p:Int).toNat (.ref b1)=sw ys p (les (ltT t) ys p):=by
  unfold sw
  rw [e1,e2,hB,BQ,BQ]
  exact List.set_comm _ _ Am
 rw [cu,esw]
 refine ⟨ys.length-les (ltT t) ys p,Am,f,les (ltT t) ys p,lk+1,some (.int (2*(p:Int)+1)),sw ys p (les (ltT t) ys p),?_,hd,by rw [aS];lia,ag,by rw [aS];exact l2,fun y hy=>s2 y (eT Am hles y hy),?_,by rw [aS]⟩
 .have ez:((lk:Int)+1)=((lk+1:Nat):Int):=by lia
  show [some (V.ref r),some (V.int (2*(p:Int)+1)),some (V.int ((lk:Int)+1)),some (V.int (2*(p:Int)+1))]=_
  rw [ez,hB]
 intro b o e nb
 rw [ao nb]
 have q:=f2 b o e nb
 rw [ao (ap q hp)];exact q
abbrev jY:Stmt:=top 26
theorem lJ:aA ["row","k","looks","up"] ["row"] (am jY):=fs0
def lV:Sp:=fun vs H Q _=>∃ (r:Addr) (xs:List V) (es:List En),vs=[.ref r]/\H r=some (.lst xs)/\RR H xs es/\0<es.length/\es.length<=1000 /\
 ∀ys H',H' r=some (.lst ys)->RR H' ys (Hg.up lE (es.length-1) es (es.length-1) 0).1->Kept [r] H H'->Q (.int (Hg.up lE (es.length-1) es (es.length-1) 0).2) H'
theorem qf (F:Fun K "_law_raised" "_law_raised" jY f fd)(T:Bl mg):aB P w K mg base CX0 1 f fd ["row"] lV:=by
 have sc:=lJ
 refine F.ok lJ fun cdv A outer s H vs Q E hr h=>?_
 obtain ⟨r,xs,es,rfl,hx,rr,h0,hl,k⟩:=h
 have hu:=hr.units0
 have lx:=rr.len
 have em:=up_map (H:=H) (f:=xs.length-1) (xs:=xs) (p:=xs.length-1) (lk:=0)
 rw [rr.eq] at em
 obtain ⟨t,et⟩:∃ t,t=bG H:=⟨_,rfl⟩
 rw [<-et] at em
 have nt5:∀H',Kept [r] H H'->∀b zs,H b=some (.tup zs)->H' b=some (.tup zs):=fun H' kk=>kk.tups (fun b hb zs z=>by rw [Ao hb,hx] at z;cases z)
 have fin:∀H',H' r=some (.lst (up (ltT t) (xs.length-1) xs (xs.length-1) 0).1)->Kept [r] H H'->Q (.int (up (ltT t) (xs.length-1) xs (xs.length-1) 0).2) H':=fun H' h1 kk=>by
  have e2:(up (ltT t) (xs.length-1) xs (xs.length-1) 0).2=(Hg.up lE (es.length-1) es (es.length-1) 0).2:=by rw [<-lx,em]
  rw [e2]
  refine k _ H' h1 ?_ kk
  rw [<-lx,em]
  have r2:=rr.sub (ys:=(up (ltT t) (xs.length-1) xs (xs.length-1) 0).1) fun y hy=>(dJ Am).mem_iff.mp hy
  exact r2.stay (nt5 H' kk)
 refine ⟨_,(QSs.to (af (qst 1 sc.nd (au bH (qcB aG T.z_len (ae (qv 0) aj)) ah))
  (af (qst 2 sc.nd ah)
  (af (cO Bz (ay fZ (qv 1) ah (aD _)) (af (qst 2 sc.nd (au aK (qv 2) ah))
  (af (qst 3 sc.nd (au bS (au bH (qv 1) ah) ah))
  (af (aO (eK (ay (fH hu) (ar aw (qv 0) (qv 1) pix) (ar aw (qv 0) (qv 3) pix) (aD _))) (ak (aF (qv 2))) aE)
  (af (bU (aQ (ae (ar aw (qv 0) (qv 3) pix) (ae (ar aw (qv 0) (qv 1) pix) aj))) (tL rfl (bF (bR (qv 0) (qv 1) bh) (bF (bR (qv 0) (qv 3) bh) gG))))
  (ak (qst 1 sc.nd (qv 3))))))))
  (ak (aF (qv 2))))))),?_⟩
 refine ⟨r,_,rfl,.inl (SqL.of hx),?_⟩
 have ea0:(xs.length:Int)-1=((xs.length-1:Nat):Int):=by lia
 refine ⟨fun m U H2=>∃ (f p lk:Nat) (ys:List V) (ou:Option V),U=[some (.ref r),some (.int p),some (.int lk),ou]/\up (ltT t) f ys p lk=up (ltT t) (xs.length-1) xs (xs.length-1) 0/\p<=f/\p<ys.length/\H2 r=some (.lst ys)/\ys.length=xs.length/\(∀y∈ys,y∈xs)/\Kept [r] H H2/\m=p,
  ⟨_,xs.length-1,xs.length-1,0,xs,none,(by show [some (V.ref r),some (V.int ((xs.length:Int)-1)),some (V.int 0),none]=_;rw [ea0];rfl),rfl,Av _,Am,hx,rfl,fun y h=>h,Kept.refl,rfl⟩,?_⟩
 rintro p U H2 ⟨f,p',lk,ys,ou,rfl,hdd,hf,hp,h2,l2,s2,kk2,rfl⟩
 have en2:EnR t H2 ys:=by
  refine ⟨by rw [et];exact dO H,fun y hy=>?_⟩
  obtain ⟨a,e1,e2⟩:=rr.en.mem y (s2 y hy)
  rw [<-et] at e2
  exact ⟨a,e1,nt5 H2 kk2 _ _ e2⟩
 refine ⟨_,rfl,aU (fun c1=>?_) (fun c1=>?_)⟩
 rotate_left
 .have c1':¬ (p:Int)>0:=by simpa using c1
  rw [oA Am] at hdd
  have:=fin H2
  rw [<-hdd] at this
  exact (this h2 kk2)
 have c1':(p:Int)>0:=by simpa using c1
 obtain ⟨f,rfl⟩:∃ f0,f=f0+1:=⟨f-1,Am⟩
 have hq':(p-1) / 2<ys.length:=by lia
 have ea:((p:Int)-1) / 2=(((p-1) / 2:Nat):Int):=by lia
 obtain ⟨b1,e1,g1,m1,t1⟩:=en2.gat hp
 obtain ⟨b2,e2,g2,m2,t2⟩:=en2.gat hq'
 rw [e1] at t1
 rw [e2,<-ea] at t2
 refine ⟨fun U H2=>∃ m',m'<p/\∃ (f p lk:Nat) (ys:List V) (ou:Option V),U=[some (.ref r),some (.int p),some (.int lk),ou]/\up (ltT t) f ys p lk=up (ltT t) (xs.length-1) xs (xs.length-1) 0/\p<=f/\p<ys.length/\H2 r=some (.lst ys)/\ys.length=xs.length/\(∀y∈ys,y∈xs)/\Kept [r] H H2/\m'=p,fun σ' H' z=>z,?_⟩
 refine (?_)
 refine ⟨⟨Ak,Ak⟩,?_⟩
 refine ⟨_,_,SqL.of h2,t1,_,_,SqL.of h2,t2,b1,b2,_,_,rfl,rfl,SqT.of g1,SqT.of g2,en2.fit _ _,_,rfl,aU (fun c3=>?_) (fun c3=>?_)⟩
 .have q3:ltT t (g ys p) (g ys ((p-1) / 2))=false:=by
   cases q:ltT t (g ys p) (g ys ((p-1) / 2)) with
   | false=>rfl
   | true=>have c4:=(show (!ltT t (g ys p) (g ys ((p-1) / 2)))=true from c3);rw [q] at c4;cases c4
  rw [oU Am q3] at hdd
  have:=fin H2
  rw [<-hdd] at this
  exact (this h2 kk2)
 have q3:ltT t (g ys p) (g ys ((p-1) / 2))=true:=by
  cases q:ltT t (g ys p) (g ys ((p-1) / 2)) with
  | true=>rfl
  | false=>exact absurd (show (!ltT t (g ys p) (g ys ((p-1) / 2)))=true by rw [q];rfl) c3
 rw [wR Am q3] at hdd
 refine ⟨_,_,SqL.of h2,t2,_,_,SqL.of h2,t1,sz2,fun p2 hp2=>?_⟩
 have hrp:r≠p2:=ap h2 hp2
 refine ⟨p2,_,rfl,SqT.of ag,rfl,_,_,rfl,r,ys,_,_,rfl,rfl,by rw [ao hrp];exact h2,cD Am Am,_,_,rfl,r,_,_,_,rfl,rfl,ag,cD Am (by rw [Cq,ea];lia),rfl,?_⟩
 have esw:(ys.set (p:Int).toNat (.ref b2)).set (((p:Int)-1) / 2).toNat (.ref b1)=sw ys p ((p-1) / 2):=by
  unfold sw
  rw [e1,e2,ea]
  rfl
 rw [cu,esw]
 refine ⟨(p-1) / 2,Am,f,(p-1) / 2,lk+1,sw ys p ((p-1) / 2),some (.int (((p:Int)-1) / 2)),?_,hdd,Am,by rw [aS];exact hq',ag,by rw [aS];exact l2,fun y hy=>s2 y (eT hp hq' y hy),?_,rfl⟩
 .show [some (V.ref r),some (V.int (((p:Int)-1) / 2)),some (V.int ((lk:Int)+1)),some (V.int (((p:Int)-1) / 2))]=_
  rw [ea]
  rfl
 exact (kk2.new hp2).put An
abbrev yv:Stmt:=top 28
theorem xg:aA ["row","last"] ["row"] (am yv):=fs0
def xb:Sp:=fun vs H Q _=>∃ (r:Addr) (xs:List V) (es:List En),vs=[.ref r]/\H r=some (.lst xs)/\RR H xs es/\0<es.length/\es.length<=1000 /\
 ∀ys H',H' r=some (.lst ys)->RR H' ys (Hg.cutf lE es).1->Kept [r] H H'->Q (.int (Hg.cutf lE es).2) H'
theorem yG (F:Fun K "_law_off" "_law_off" yv f fd)(T:Bl mg)(G_law_let_down:aB P w K mg base CX0 1 fn fdn ["row","k"] mI)(D_law_let_down:Nm K mg "_law_let_down" fn fdn ["row","k"]):aB P w K mg base CX0 2 f fd ["row"] xb:=by
 have sc:=xg
 refine F.ok xg fun cdv A outer s H vs Q E hr h=>?_
 obtain ⟨r,xs,es,rfl,hx,rr,h0,hl,k⟩:=h
 have hu:=hr.units0
 have lx:=rr.len
 have eg:xs[xs.length-1]?=some (g xs (xs.length-1)):=by rw [g_get Am];exact tx _
 have mg':g xs (xs.length-1)∈xs:=AQ eg
 have ld:xs.dropLast.length=xs.length-1:=B8
 have em:=pG (H:=H) (xs:=xs)
 rw [rr.eq] at em
 have r2:=rr.sub (ys:=(cutf (ltT (bG H)) xs).1) fun y hy=>(cutf_perm (by rw [rr.len];exact h0)).mem_iff.mp (AH _ hy)
 have fin:∀H',H' r=some (.lst (cutf (ltT (bG H)) xs).1)->Kept [r] H H'->Q (.int (cutf (ltT (bG H)) xs).2) H':=fun H' h1 kk=>by
  have tk:=kk.tups (fun b hb zs z=>by rw [Ao hb,hx] at z;cases z)
  have e2:(cutf (ltT (bG H)) xs).2=(Hg.cutf lE es).2:=by rw [em]
  rw [e2]
  exact k _ H' h1 (by rw [em];exact r2.stay tk) kk
 refine ⟨_,(QSs.to (af (qst 1 sc.nd (sM AZ Et Eu sV (qv 0)))
  (af (aO (ay (iL hu) (qv 0) (aV aj) (aD _)) (ak (aF ah)) aE)
  (af (bU (qv 1) (bR (qv 0) ah bh))
  (ak (aF (qcl G_law_let_down hr D_law_let_down az (ae (qv 0) (ae ah aj))))))))),?_⟩
 refine ⟨.inl ⟨rfl,_,SqL.of hx⟩,r,xs,_,rfl,rfl,hx,eg,?_⟩
 refine ⟨sz0,fun q hq=>?_⟩
 have nrq:r≠q:=ap (ag (H:=H) (a:=r) (o:=.lst xs.dropLast)) hq
 have hq0:H q=none:=by rw [<-ao nrq.symm (H:=H) (o:=.lst xs.dropLast)];exact hq
 have hxd:(upd (upd H r (.lst xs.dropLast)) q (.lst [])) r=some (.lst xs.dropLast):=by rw [ao nrq];exact ag
 have kk0:Kept [r] H (upd (upd H r (.lst xs.dropLast)) q (.lst [])):=((Kept.refl.put An).newer hq0)
 have tk0:∀b zs,H b=some (.tup zs)->(upd (upd H r (.lst xs.dropLast)) q (.lst [])) b=some (.tup zs):=fun b zs z=>by
  rw [ao (ap z hq0),ao (bv z hx (by intro y;cases y))];exact z
 have hqd:(upd (upd H r (.lst xs.dropLast)) q (.lst [])) q=some (.lst []):=ag
 generalize upd (upd H r (.lst xs.dropLast)) q (.lst [])=H2 at hxd kk0 tk0 hqd
 refine ⟨r,q,xs.dropLast,rfl,rfl,SqL.of hxd,SqL.of hqd,_,rfl,aU (fun c1=>?_) (fun c1=>?_)⟩
 .have c1':xs.dropLast=[]:=Bc c1
  have ec:cutf (ltT (bG H)) xs=([],0):=cH (by have:xs.dropLast.length=0:=(by rw [c1'];rfl);lia)
  have:=fin H2 (by rw [ec,hxd,c1']) kk0
  rw [ec] at this
  exact this
 have c1':xs.dropLast≠[]:=fun z=>c1 (AO z)
 have c2:xs.dropLast.length≠0:=fun z=>c1' (AY.mp z)
 have l2:(xs.dropLast.set 0 (g xs (xs.length-1))).length=xs.dropLast.length:=Cq
 have ec:cutf (ltT (bG H)) xs=dn (ltT (bG H)) xs.dropLast.length (xs.dropLast.set 0 (g xs (xs.length-1))) 0 0:=by
  unfold cutf
  rw [Ay c1']
 refine ⟨r,xs.dropLast,_,0,rfl,rfl,hxd,cD Am Am,?_⟩
 have en2:EnR (bG H) (upd H2 r (.lst (xs.dropLast.set 0 (g xs (xs.length-1))))) (xs.dropLast.set 0 (g xs (xs.length-1))):=by
  refine EnR.put ⟨dO H,fun x hx2=>?_⟩ hxd
  have hm:x∈xs:=by
   rcases DM hx2 with z | z
   .exact (Fz xs).mem z
   .rw [z];exact mg'
  obtain ⟨a,e1,e2⟩:=rr.en.mem x hm
  exact ⟨a,e1,tk0 _ _ e2⟩
 refine ⟨r,_,0,bG H,rfl,ag,en2,Am,fun H' h' f'=>?_⟩
 rw [l2,<-ec] at h'
 rw [l2,<-ec]
 refine fin _ h' ?_
 intro b o e hb
 refine f' b o ?_ fun z=>hb (by rw [z];simp)
 rw [ao fun z=>hb (by rw [z];simp)]
 exact kk0 b o e hb
abbrev yE:Stmt:=top 29
theorem w6:aA ["slack"] ["slack"] (am yE):=fs0
def xh:Sp:=fun vs H Q _=>∃ (z:Int),vs=[.int z]/\∀st r td H',H st=none->H r=none->H td=none->StAt H' st r td (Gm.newL z) 0->Same H H'->Q (.ref st) H'
theorem xE (F:Fun K "_law_new" "_law_new" yE f fd)(T:Bl mg):aB P w K mg base CX0 1 f fd ["slack"] xh:=by
 have sc:=w6
 refine F.ok w6 fun cdv A outer s H vs Q E hr h=>?_
 obtain ⟨z,rfl,k⟩:=h
 have hu:=hr.units0
 refine ⟨_,(QSs.to (ak (aF (tO av (qv 0) av (aV aj) av hU av ah av ah)))),?_⟩
 refine fun st hst=>?_
 refine gnew hst fun H1 s1 g1=>?_
 refine ⟨sz0,fun r hr1=>?_⟩
 refine gnew hr1 fun H2 s2 g2=>?_
 refine fun td htd=>?_
 refine gnew htd fun H3 s3 g3=>?_
 have n1:st≠r:=ap g1 hr1
 have n2:st≠td:=ap (s2 _ _ g1) htd
 have n3:r≠td:=ap g2 htd
 refine ⟨s3 _ _ (s2 _ _ g1),[(Sum.inr "slack",.int z),(Sum.inr "row",.ref r),(Sum.inr "there",.ref td),(Sum.inr "next",.int 0),(Sum.inr "work",.int 0)],rfl,by show 5<=15;decide,?_⟩
 rw [uJ]
 have old:∀{b:Addr} {X Y:Hp},Same X Y->Y b=none->X b=none:=fun {b X Y} sm h=>by
  cases e:X b with
  | none=>rfl
  | some o=>rw [sm b o e] at h;cases h
 refine k st r td _ hst (old s1 hr1) (old (s1.trans s2) htd) ⟨ag,⟨[],by rw [ao n1.symm];exact s3 _ _ g2,RR.nil⟩,⟨[],by rw [ao n2.symm];exact g3,KP.nil⟩,n2⟩ fun b o e=>?_
 rw [ao (ap e hst)]
 exact s3 _ _ (s2 _ _ (s1 _ _ e))
abbrev ir:Stmt:=top 30
theorem jt:aA ["state","entry"] ["state","entry"] (am ir):=fs0
def fV:Sp:=fun vs H Q _=>∃ (st r td a:Addr) (s:LS) (wk:Nat) (e:En),vs=[.ref st,.ref a]/\StAt H st r td s wk/\H a=some (.tup (enV e))/\(∀n x,(n,x)∈s.there->x.n=n)/\∀H',Same H H'->Q (.bl (Gm.holds s.there e)) H'
theorem mQ (F:Fun K "_law_is_there" "_law_is_there" ir f fd)(T:Bl mg):aB P w K mg base CX0 1 f fd ["state","entry"] fV:=by
 have sc:=jt
 refine F.ok jt fun cdv A outer s H vs Q E hr h=>?_
 obtain ⟨st,r,td,a,s,wk,e,rfl,O,ha,nm,k⟩:=h
 have hu:=hr.units0
 obtain ⟨ks,hd,kr⟩:=O.ht
 refine ⟨_,(QSs.to (ak (aF (cx (vt hu) (kG (aR hr) (aN (aR hr) (qv 0) av pix) (ar aJ (qv 1) ah pix) ⟨rfl,rfl,rfl,rfl⟩) (aQ (ae (ar aJ (qv 1) ah pix) (ae (ar aJ (qv 1) ah pix) aj))) (aD _))))),?_⟩
 refine ⟨st,_,rfl,O.there,td,rfl,.inl ⟨ks,.inl hd⟩,_,_,SqT.of ha,rfl,_,DGet.k (k:=Sum.inr e.n) hd,?_⟩
 have fin:Gm.holds s.there e=decide (Gm.dget s.there e.n=some e):=rfl
 refine ⟨_,_,SqT.of ha,rfl,_,_,SqT.of ha,rfl,sz2,fun t ht=>?_⟩
 refine gnew ht fun H1 s1 g1=>?_
 refine ⟨t,e.w,e.s,rfl,SqT.of g1,?_⟩
 rcases kr.get e.n with ⟨e1,e2⟩ | ⟨b,x,e1,e2,hb⟩
 .rw [e1]
  have h0:Gm.holds s.there e=false:=by rw [fin,e2];exact AR (fun z=>nomatch z)
  have:=k H1 s1
  rw [h0] at this
  exact .inl ⟨rfl,this⟩
 rw [e1]
 refine .inr ⟨b,x.w,x.s,rfl,SqT.of (s1 _ _ hb),?_⟩
 have xn:=nm _ _ (Gm.dget_some e2)
 have h0:Gm.holds s.there e=decide (x.w=e.w/\x.s=e.s):=by
  rw [fin,e2,Ca,Bw,Bw]
  constructor
  .intro z
   cases Be z
   exact ⟨rfl,rfl⟩
  .rintro ⟨z1,z2⟩
   congr 1
   obtain ⟨xw,xn',xs⟩:=x
   obtain ⟨ew,en',es⟩:=e
   cases z1;cases z2;cases xn
   rfl
 have:=k H1 s1
 rw [h0] at this
 exact this
abbrev nR:Stmt:=top 31
theorem oR:aA ["state","name","worth"] ["state","name","worth"] (am nR):=fs0
def pq:Sp:=fun vs H Q _=>∃ (st r td:Addr) (s:LS) (wk:Nat) (n:Str) (w:Int),vs=[.ref st,.str n,.int w]/\StAt H st r td s wk/\s.row.length<=900/\s.there.length<=900 /\
 ∀(lk:Nat) H',(Gm.enter slt s n w).looks=s.looks+lk->StAt H' st r td (Gm.enter slt s n w) wk->Kept [st,r,td] H H'->Q (.int lk) H'
theorem tN {fr:Addr}{fdr:FuncData}(F:Fun K "_law_added" "_law_added" nR f fd)(T:Bl mg)(G_law_raised:aB P w K mg base CX0 1 fr fdr ["row"] lV)(D_law_raised:Nm K mg "_law_raised" fr fdr ["row"]):aB P w K mg base CX0 2 f fd ["state","name","worth"] pq:=by
 have sc:=oR
 refine F.ok oR fun cdv A outer s H vs Q E hr h=>?_
 obtain ⟨st,r,td,s,wk,n,w,rfl,O,h1,h2,k⟩:=h
 have hu:=hr.units0
 obtain ⟨ks,hd,kr⟩:=O.ht
 obtain ⟨xs,hx,rr⟩:=O.hr
 have lx:=rr.len
 have lk:=kr.len
 have nrd:r≠td:=bv hx hd (by intro z;cases z)
 have nrs:r≠st:=bv hx O.hs (by intro z;cases z)
 refine ⟨_,(QSs.to (af (aL (ci AZ A3 A4 aW (aN (aR hr) (qv 0) av pix) (ae (aQ (ae (qv 2) (ae (qv 1) (ae (aN (aR hr) (qv 0) av pix) aj)))) aj)))
  (af (fy (aR hr) (aN (aR hr) (qv 0) av pix) (qv 1) (aQ (ae (qv 2) (ae (aN (aR hr) (qv 0) av pix) aj))) rfl)
  (af (fy (aR hr) (qv 0) av (au aK (aN (aR hr) (qv 0) av pix) ah) rfl)
  (ak (aF (qcl G_law_raised hr D_law_raised az (ae (aN (aR hr) (qv 0) av pix) aj)))))))),?_⟩
 refine ⟨st,_,rfl,O.row,.inl ⟨rfl,xs,SqL.of hx⟩,st,_,rfl,O.next,sz3,fun e he=>?_⟩
 have se:=aq (o:=.tup [.int w,.str n,.int s.stamp]) he
 have ge:(upd H e (.tup [.int w,.str n,.int s.stamp])) e=some (.tup (enV ⟨w,n,(s.stamp:Int)⟩)):=ag
 generalize upd H e (.tup [.int w,.str n,.int s.stamp])=H1 at se ge ⊢
 have O1:=O.same se
 have hx1:=se _ _ hx
 have rr1:=(rr.stay fun b l h=>se _ _ h).snoc ge
 refine ⟨r,xs,_,rfl,rfl,hx1,aH Am,?_⟩
 have k2:Kept [r] H1 (upd H1 r (.lst (xs++[.ref e]))):=Kept.refl.put An
 have t2:=O1.tk k2 fun b hb=>by rw [Ao hb];simp
 have O2:=O1.rowTo (H':=upd H1 r (.lst (xs++[.ref e]))) (lk:=s.looks) ag (rr1.stay t2) k2
 have g2:=ag (H:=H1) (a:=r) (o:=.lst (xs++[.ref e]))
 generalize upd H1 r (.lst (xs++[.ref e]))=H2 at k2 t2 O2 g2 ⊢
 have K2:Kept [st,r,td] H H2:=(Kept.of_same se).trans (k2.mono fun b hb=>by rw [Ao hb];simp)
 refine ⟨st,_,rfl,O2.next,sz2,fun t ht=>?_⟩
 have s3:=aq (o:=.tup [.int w,.int s.stamp]) ht
 have g3:(upd H2 t (.tup [.int w,.int s.stamp])) t=some (.tup (psV ⟨w,n,(s.stamp:Int)⟩)):=ag
 generalize upd H2 t (.tup [.int w,.int s.stamp])=H3 at s3 g3 ⊢
 have O3:=O2.same s3
 obtain ⟨ks3,hd3,kr3⟩:=O3.ht
 have lk3:=kr3.len
 have lk3':ks3.length=s.there.length:=lk3
 refine ⟨st,_,rfl,O3.there,td,_,rfl,DPut.k (k:=Sum.inr n) hd3 (aH Am),?_⟩
 have k4:Kept [td] H3 (upd H3 td (.dK (aX ks3 (Sum.inr n) (.ref t)))):=Kept.refl.put An
 have t4:=O3.tk k4 fun b hb=>by rw [Ao hb];simp
 have O4:=O3.thereTo (H':=upd H3 td (.dK (aX ks3 (Sum.inr n) (.ref t)))) ag ((kr3.stay t4).put (t4 _ _ g3)) k4
 generalize upd H3 td (.dK (aX ks3 (Sum.inr n) (.ref t)))=H4 at k4 t4 O4 ⊢
 have K4:Kept [st,r,td] H H4:=(K2.trans (Kept.of_same s3)).trans (k4.mono fun b hb=>by rw [Ao hb];simp)
 obtain ⟨s4,e4⟩:∃ s4:LS,s4={ s with row:=s.row++[⟨w,n,(s.stamp:Int)⟩],there:=Gm.dput s.there n ⟨w,n,(s.stamp:Int)⟩ }:=⟨_,rfl⟩
 have O4':StAt H4 st r td s4 wk:=by rw [e4];exact O4
 refine ⟨st,_,rfl,O4'.next,st,_,rfl,DPut.k (k:=Sum.inr "next") O4'.hs (by show 5<sizeLine;decide),?_⟩
 have ep:aX (stK r td s4 wk) (Sum.inr "next":Key) (.int ((s4.stamp:Int)+1))=stK r td { s4 with stamp:=s4.stamp+1 } wk:=vP rfl rfl
 have k5:Kept [st] H4 (upd H4 st (.dK (aX (stK r td s4 wk) (Sum.inr "next") (.int ((s4.stamp:Int)+1))))):=Kept.refl.put An
 have O5:=O4'.dictTo (H':=upd H4 st (.dK (aX (stK r td s4 wk) (Sum.inr "next") (.int ((s4.stamp:Int)+1))))) (s':={ s4 with stamp:=s4.stamp+1 }) (wk':=wk) (by rw [ag,ep]) rfl rfl k5
 generalize upd H4 st (.dK (aX (stK r td s4 wk) (Sum.inr "next") (.int ((s4.stamp:Int)+1))))=H5 at k5 O5 ⊢
 have K5:Kept [st,r,td] H H5:=K4.trans (k5.mono fun b hb=>by rw [Ao hb];simp)
 obtain ⟨xs5,hx5,rr5⟩:=O5.hr
 have er:s4.row=s.row++[⟨w,n,(s.stamp:Int)⟩]:=by rw [e4]
 have el:s4.row.length-1=s.row.length:=by rw [er,As];rfl
 have el0:s4.row.length=s.row.length+1:=by rw [er,As];rfl
 refine ⟨st,_,rfl,O5.row,r,xs5,s4.row,rfl,hx5,rr5,Am,Am,fun ys H6 h6 rr6 k6=>?_⟩
 have O6:=O5.rowTo (lk:=(Gm.enter slt s n w).looks) h6 rr6 k6
 have es:({ ({ s4 with stamp:=s4.stamp+1 }:LS) with row:=(Hg.up lE (s4.row.length-1) s4.row (s4.row.length-1) 0).1,looks:=(Gm.enter slt s n w).looks }:LS)=Gm.enter slt s n w:=by
  rw [el,er,e4]
  rfl
 rw [es] at O6
 refine k _ H6 ?_ O6 (K5.trans (k6.mono fun b hb=>by rw [Ao hb];simp))
 rw [el,er]
 rfl
theorem jH {α:Type}{xs:List α}{f:α->Bool}{x:α}(h:xs[i]?=some x):(xs.take (i+1)).filter f=(xs.take i).filter f++(if f x=true then [x] else []):=by
 rw [BR,h,List.filter_append]
 congr 1
 show List.filter f [x]=_
 rw [Cj]
 rfl
abbrev gu:Stmt:=top 32
theorem l7:aA ["state","row","gone","looks","k"] ["state"] (am gu):=fs0
def lR:Sp:=fun vs H Q _=>∃ (st r td:Addr) (s:LS) (wk:Nat),vs=[.ref st]/\StAt H st r td s wk/\(∀n x,(n,x)∈s.there->x.n=n)/\s.row.length<=1000 /\
 ∀(lk:Nat) (r':Addr) (H':Hp),(Gm.sweep slt s).looks=s.looks+lk->StAt H' st r' td (Gm.sweep slt s) wk->Kept [st,r,td] H H'->(r'=r∨H r'=none)->Q (.int lk) H'
theorem qC {fg fh:Addr}{fdg fdh:FuncData}(F:Fun K "_law_swept" "_law_swept" gu f fd)(T:Bl mg)(G_law_is_there:aB P w K mg base CX0 1 fg fdg ["state","entry"] fV)(D_law_is_there:Nm K mg "_law_is_there" fg fdg ["state","entry"])(G_law_let_down:aB P w K mg base CX0 1 fh fdh ["row","k"] mI)(D_law_let_down:Nm K mg "_law_let_down" fh fdh ["row","k"]):aB P w K mg base CX0 2 f fd ["state"] lR:=by
 have sc:=l7
 refine F.ok l7 fun cdv A outer s_ H vs Q E hr h=>?_
 obtain ⟨st,r,td,s,wk,rfl,O,nm,hl,k⟩:=h
 have hu:=hr.units0
 obtain ⟨ks,hd,kr⟩:=O.ht
 obtain ⟨xs,hx,rr⟩:=O.hr
 have lx:=rr.len
 have lk':=kr.len
 refine ⟨_,(QSs.to (af (qst 1 sc.nd (aN (aR hr) (qv 0) av pix))
  (af (qst 2 sc.nd (au bH (qcB aG T.z_len (ae (qv 1) aj)) (qcB cK T.z_len (ae (aN (aR hr) (qv 0) av pix) aj))))
  (af (qst 3 sc.nd ah)
  (af (aO (QW.pt (eE (ay fZ (qv 2) (qcB cK T.z_len (ae (aN (aR hr) (qv 0) av pix) aj)) (aD _)) (dL (ay fZ (qv 2) (aN (aR hr) (qv 0) av pix) (aD _))))) (af (fy (aR hr) (qv 0) av (bA (Blk.of (N:=["state","row","gone","looks","k"]) (esc:=am gu) (NB:=["state"]) (cap:=[0]) rfl rfl (fun y hy=>aM hy) rfl Aj Aj Aj rfl Aj rfl Aj) rfl rfl (cA (qv 1)) (fun C fp s₀ H₀=>(gC (eF (qcl G_law_is_there hr D_law_is_there az (ae (qv 1) (ae (qv 0) aj)))))) (fun C fp s₀ H₀=>(qv 0))) rfl)
  (ak (c6 Bz rfl (i8 rfl T.z_range (ae (au bH (au bS (qcB aG T.z_len (ae (aN (aR hr) (qv 0) av pix) aj)) ah) ah) (ae (oF jG ah) (ae (oF jG ah) aj)))) (bu (i:=4) sc.nd rfl (Or.inl rfl)) (ak (qst 3 sc.nd (au aK (qv 3) (qcl G_law_let_down hr D_law_let_down az (ae (aN (aR hr) (qv 0) av pix) (ae (qv 4) aj))))))))) aE)
  (ak (aF (qv 3)))))))),?_⟩
 refine ⟨st,_,rfl,O.row,?_⟩
 refine ⟨r,_,rfl,.inl (SqL.of hx),st,_,rfl,O.there,td,ks,rfl,hd,?_⟩
 have hdue:Gm.due s=(decide ((xs.length:Int)-(ks.length:Int)>(ks.length:Int))&&decide ((xs.length:Int)-(ks.length:Int)>s.slack)):=by
  unfold Gm.due
  rw [lx,lk']
 have no:¬ Gm.due s=true->Q (.int ((0:Nat):Int)) H:=fun hn=>by
  have e:Gm.sweep slt s=s:=by unfold Gm.sweep;rw [Ay hn]
  exact k 0 r H (by rw [e];rfl) (by rw [e];exact O) Kept.refl (.inl rfl)
 refine ⟨st,_,rfl,O.there,td,ks,rfl,hd,_,rfl,aU (fun c1=>?_) (fun c1=>?_)⟩
 rotate_left
 .refine gq (no fun z=>?_)
  rw [hdue,Bq] at z
  exact c1 z.1
 refine ⟨st,_,rfl,O.slack,_,rfl,aU (fun c2=>?_) (fun c2=>?_)⟩
 rotate_left
 .refine (no fun z=>?_)
  rw [hdue,Bq] at z
  exact c2 z.2
 have hdu:Gm.due s=true:=by
  rw [hdue,Bq]
  exact ⟨c1,c2⟩
 refine ⟨r,rfl,⟨_,SqL.of hx⟩,fun D hD=>?_⟩
 refine bY (K:=K) (a:=r) (xs:=xs) (fun i ys H4=>H4 D=some (.lst ys)/\ys=(xs.take i).filter (fun x=>Gm.holds s.there (tE H x))/\Same H H4) ⟨ag,rfl,aq hD⟩ (fun i ys H4 z=>⟨z.1,SqL.of (z.2.2 _ _ hx)⟩) ?_ ?_
 .rintro i x ys H4 hi ⟨h4,e4,s4⟩
  have mx:=AQ hi
  have li:i<xs.length:=(Au.mp hi).1
  obtain ⟨a,rfl,ha⟩:=rr.mem x mx
  have ft:=jH (f:=fun x=>Gm.holds s.there (tE H x)) hi
  have ly:ys.length<=xs.length:=by rw [e4];exact AV (BZ _ _) (List.length_take_le' _ _)
  refine ⟨st,r,td,a,s,wk,tE H (.ref a),rfl,O.same s4,s4 _ _ ha,nm,fun H5 s5=>⟨_,rfl,aU (fun c3=>⟨s5 _ _ h4,aH Am,_,Am,rfl,Am,ag,?_,bj (s4.trans s5) hD⟩) (fun c3=>⟨_,Am,rfl,Am,s5 _ _ h4,?_,s4.trans s5⟩)⟩⟩
  .rw [ft,Az c3,e4]
  .rw [ft,Ay c3,BP,e4]
 rintro ys H4 ⟨h4,e4,s4⟩
 rw [Bx] at e4
 have ly:ys.length<=xs.length:=by rw [e4];exact BZ _ _
 have r4:RR H4 ys (s.row.filter (Gm.holds s.there)):=by
  have r0:=(rr.sub (ys:=ys) fun y hy=>by rw [e4] at hy;exact (Ce.mp hy).1).stay fun b l h=>s4 _ _ h
  have em:ys.map (tE H)=s.row.filter (Gm.holds s.there):=by
   rw [e4,<-rr.eq,D1]
   rfl
  rw [em] at r0
  exact r0
 refine ⟨st,_,rfl,DPut.k (k:=Sum.inr "row") (s4 _ _ O.hs) (by show 5<sizeLine;decide),?_⟩
 obtain ⟨s1,e1⟩:∃ s1:LS,s1={ s with row:=s.row.filter (Gm.holds s.there) }:=⟨_,rfl⟩
 have et1:s1.there=s.there:=by rw [e1]
 have er1:s1.row=s.row.filter (Gm.holds s.there):=by rw [e1]
 have ep:aX (stK r td s wk) (Sum.inr "row":Key) (.ref D)=stK D td s1 wk:=xM (by rw [e1]) (by rw [e1])
 rw [ep]
 have nsD:st≠D:=ap O.hs hD
 have k5:Kept [st] H4 (upd H4 st (.dK (stK D td s1 wk))):=Kept.refl.put An
 have t5:=(O.same s4).tk k5 fun b hb=>by rw [Ao hb];simp
 have O5:StAt (upd H4 st (.dK (stK D td s1 wk))) st D td s1 wk:=⟨ag,⟨ys,by rw [ao nsD.symm];exact h4,by rw [er1];exact r4.stay t5⟩,⟨ks,by rw [ao O.ne.symm];exact s4 _ _ hd,by rw [et1];exact (kr.stay fun b l h=>s4 _ _ h).stay t5⟩,O.ne⟩
 have K5:Kept [st,r,td] H (upd H4 st (.dK (stK D td s1 wk))):=(Kept.of_same s4).trans (k5.mono fun b hb=>by rw [Ao hb];simp)
 generalize upd H4 st (.dK (stK D td s1 wk))=H5 at k5 t5 O5 K5 ⊢
 obtain ⟨zs,hz,rz⟩:=O5.hr
 have lz:=rz.len
 have lz1:zs.length<=1000:=by
  rw [lz,er1]
  exact AV (BZ _ _) hl
 have en:=rz.en
 obtain ⟨t,et⟩:∃ t,t=bG H5:=⟨_,rfl⟩
 rw [<-et] at en
 refine ⟨st,_,rfl,O5.row,D,_,rfl,.inl (SqL.of hz),⟨Ak,Ak⟩,_,_,rfl,⟨Am,Am,Am,Am⟩,?_⟩
 have en0:((zs.length:Int) / 2-1 - -1).toNat=zs.length / 2:=by lia
 refine iQ (lo:=(zs.length:Int) / 2-1) (n:=((zs.length:Int) / 2-1 - -1).toNat) (fun i U H6=>∃ (lk:Nat) (o:Option V) (us:List V) (og:V),U=[some (.ref st),some (.ref r),some og,some (.int lk),o]/\H6 D=some (.lst us)/\us.length=zs.length/\(∀y∈us,y∈zs)/\Kept [D] H5 H6/\mk (ltT t) (zs.length / 2-i) us lk=mk (ltT t) (zs.length / 2) zs 0)
  ⟨0,none,zs,_,rfl,hz,rfl,fun y h=>h,Kept.refl,rfl⟩ ?_ ?_
 .rintro i U H6 hi ⟨lk,o,us,og,rfl,h6,l6,s6,f6,m6⟩
  rw [en0] at hi
  have nb:∀b o,H5 b=some o->b≠D->H6 b=some o:=fun b o e n=>f6 b o e (fun z=>n (Ao z))
  have en6:EnR t H6 us:=(en.bar hz nb).sub s6
  have ei:(zs.length:Int) / 2-1-(i:Int)=((zs.length / 2-1-i:Nat):Int):=by lia
  have hs6:DGet H6 st (.str "row") (some (.ref D)):=sQ (r:=D) (td:=td) (s:=s1) (wk:=wk)▸DGet.k (k:=Sum.inr "row") (nb _ _ O5.hs nsD)
  refine ⟨st,_,rfl,hs6,D,us,zs.length / 2-1-i,t,(by show [V.ref D,V.int ((zs.length:Int) / 2-1-(i:Int))]=_;rw [ei]),h6,en6,Am,fun H7 h7 f7=>(?_)⟩
  refine ⟨lk+(dn (ltT t) us.length us (zs.length / 2-1-i) 0).2,_,_,og,rfl,h7,dn_len.trans l6,fun y hy=>s6 y (dn_perm.mem_iff.mp hy),f6.trans fun b o e nb=>f7 b o e fun z=>nb (Bh.mpr z),?_⟩
  rw [<-m6,show zs.length / 2-i=(zs.length / 2-(i+1))+1 by lia]
  conv=>rhs;unfold mk
  rw [show zs.length / 2-(i+1)=zs.length / 2-1-i by lia]
 rintro U H6 ⟨lk,o,us,og,rfl,h6,l6,s6,f6,m6⟩
 rw [en0,Dp] at m6
 have m5:(us,lk)=mk (ltT t) (zs.length / 2) zs 0:=m6
 have em:=mk_map (H:=H5) (k:=zs.length / 2) (xs:=zs) (lk:=0)
 rw [rz.eq,<-et,<-m5,lz,er1] at em
 have ru:RR H6 us (us.map (tE H5)):=(rz.sub s6).stay (O5.tk f6 fun b hb=>by rw [Ao hb];simp)
 have es:Gm.sweep slt s={ s1 with row:=us.map (tE H5),looks:=s.looks+lk }:=by
  unfold Gm.sweep
  rw [Az hdu]
  unfold Gm.swept
  have e2:Hg.mk (Gm.ltE slt) ((s.row.filter (Gm.holds s.there)).length / 2) (s.row.filter (Gm.holds s.there)) 0=(us.map (tE H5),lk):=em
  rw [e2,e1]
 have O6:=O5.rowTo (lk:=s.looks+lk) h6 ru f6
 refine (k lk D H6 (by rw [es]) (by rw [es];exact O6) ?_ (.inr hD))
 intro b o e nb
 exact f6 b o (K5 b o e nb) fun z=>ap e hD (Ao z)
def rwd:Deed->Str
 | .put _ _=>"Clash"
 | _=>"NoThing"
abbrev iz:Stmt:=top 33
theorem jl:aA ["state","deed"] ["state","deed"] (am iz):=fs0
def ju:Sp:=fun vs H Q _=>∃ (st r td q:Addr) (s:LS) (wk:Nat) (dd:Deed),vs=[.ref st,.ref q]/\StAt H st r td s wk/\H q=some (.tup dd.v)/\∀(c:Str) (H':Hp),Same H H'->(c=""->dd.fit s)->(c≠""->¬ dd.fit s/\c=rwd dd)->Q (.str c) H'
theorem nA (F:Fun K "_law_refused" "_law_refused" iz f fd)(T:Bl mg):aB P w K mg base CX0 1 f fd ["state","deed"] ju:=by
 have sc:=jl
 refine F.okQ jl fun cdv A outer s_ H vs Q E hr h=>?_
 obtain ⟨st,r,td,q,s,wk,dd,rfl,O,hq,k⟩:=h
 have hu:=hr.units0
 refine ⟨_,(af (aO (ay bz (ar aJ (qv 1) ah pix) av (aD _)) (ak (aF (ar aw (aV (ae av (ae av aj))) (qcT cF T.z_int (ae (qZ (aR hr) (ar aJ (qv 1) ah pix) (aN (aR hr) (qv 0) av pix)) aj)) pix))) aE)
  (af (aO (ay jF (ar aJ (qv 1) ah pix) (aQ (ae av (ae av aj))) rfl) (ak (aF (ar aw (aV (ae av (ae av aj))) (qcT cF T.z_int (ae (qZ (aR hr) (ar aJ (qv 1) ah pix) (aN (aR hr) (qv 0) av pix)) aj)) pix))) aE)
  (ak (aF (ar aw (aV (ae av (ae av aj))) (qcT cF T.z_int (ae (cx (uZ hu) (aN (aR hr) (qv 0) av pix) hU (aD _)) aj)) pix))))),?_⟩
 cases dd with
 | put n w =>
  refine ⟨_,_,SqT.of hq,rfl,rfl,_,rfl,db ?_⟩
  refine ⟨sz2,fun l1 hl1=>?_⟩
  refine gnew hl1 fun H5 s5 g5=>?_
  have O5:=O.same s5
  have hq5:=s5 _ _ hq
  obtain ⟨ks5,hd5,kr5⟩:=O5.ht
  refine ⟨_,_,SqT.of hq5,rfl,st,_,rfl,O5.there,td,_,rfl,DGet.k (k:=Sum.inr n) hd5,.inr ⟨_,rfl,?_⟩⟩
  rcases kr5.get n with ⟨e1,e2⟩ | ⟨b,e',e1,e2,hb⟩
  .rw [e1]
   exact ⟨_,_,SqL.of g5,rfl,k _ H5 s5 (fun _=>e2) (fun h=>absurd rfl h)⟩
  .rw [e1]
   exact ⟨_,_,SqL.of g5,rfl,k _ H5 s5 (fun h=>absurd h Aj) (fun _=>⟨fun z=>(by have z2:Gm.dget s.there n=none:=z;rw [z2] at e2;cases e2),rfl⟩)⟩
 | drop n =>
  refine ⟨_,_,SqT.of hq,rfl,rfl,_,rfl,aZ ?_⟩
  refine ⟨_,_,SqT.of hq,rfl,sz2,fun l1 hl1=>⟨l1,_,["drop","change"],rfl,rfl,SqT.of ag,_,rfl,?_⟩⟩
  refine gnew hl1 fun H1 s1 _=>?_
  refine db ?_
  refine ⟨sz2,fun l1 hl1=>?_⟩
  refine gnew hl1 fun H5 s5 g5=>?_
  have O5:=(O.same s1).same s5
  have hq5:=s5 _ _ (s1 _ _ hq)
  obtain ⟨ks5,hd5,kr5⟩:=O5.ht
  refine ⟨_,_,SqT.of hq5,rfl,st,_,rfl,O5.there,td,_,rfl,DGet.k (k:=Sum.inr n) hd5,.inr ⟨_,rfl,?_⟩⟩
  rcases kr5.get n with ⟨e1,e2⟩ | ⟨b,e',e1,e2,hb⟩
  .rw [e1]
   exact ⟨_,_,SqL.of g5,rfl,k _ H5 (s1.trans s5) (fun h=>absurd h Aj) (fun _=>⟨fun z=>z e2,rfl⟩)⟩
  .rw [e1]
   exact ⟨_,_,SqL.of g5,rfl,k _ H5 (s1.trans s5) (fun _ z=>by rw [e2] at z;cases z) (fun h=>absurd rfl h)⟩
 | change n w =>
  refine ⟨_,_,SqT.of hq,rfl,rfl,_,rfl,aZ ?_⟩
  refine ⟨_,_,SqT.of hq,rfl,sz2,fun l1 hl1=>⟨l1,_,["drop","change"],rfl,rfl,SqT.of ag,_,rfl,?_⟩⟩
  refine gnew hl1 fun H1 s1 _=>?_
  refine db ?_
  refine ⟨sz2,fun l1 hl1=>?_⟩
  refine gnew hl1 fun H5 s5 g5=>?_
  have O5:=(O.same s1).same s5
  have hq5:=s5 _ _ (s1 _ _ hq)
  obtain ⟨ks5,hd5,kr5⟩:=O5.ht
  refine ⟨_,_,SqT.of hq5,rfl,st,_,rfl,O5.there,td,_,rfl,DGet.k (k:=Sum.inr n) hd5,.inr ⟨_,rfl,?_⟩⟩
  rcases kr5.get n with ⟨e1,e2⟩ | ⟨b,e',e1,e2,hb⟩
  .rw [e1]
   exact ⟨_,_,SqL.of g5,rfl,k _ H5 (s1.trans s5) (fun h=>absurd h Aj) (fun _=>⟨fun z=>z e2,rfl⟩)⟩
  .rw [e1]
   exact ⟨_,_,SqL.of g5,rfl,k _ H5 (s1.trans s5) (fun _ z=>by rw [e2] at z;cases z) (fun h=>absurd rfl h)⟩
 | take =>
  refine ⟨_,_,SqT.of hq,rfl,rfl,_,rfl,aZ ?_⟩
  refine ⟨_,_,SqT.of hq,rfl,sz2,fun l1 hl1=>⟨l1,_,["drop","change"],rfl,rfl,SqT.of ag,_,rfl,?_⟩⟩
  refine gnew hl1 fun H1 s1 _=>?_
  refine aZ ?_
  have O1:=O.same s1
  refine ⟨sz2,fun l1 hl1=>?_⟩
  refine gnew hl1 fun H5 s5 g5=>?_
  have O5:=O1.same s5
  obtain ⟨ks5,hd5,kr5⟩:=O5.ht
  refine ⟨st,_,rfl,O5.there,fun e1 he1=>⟨td,e1,_,rfl,rfl,aq he1 _ _ hd5,ag,.inr ⟨_,rfl,?_⟩⟩⟩
  have s6:=aq (H:=H5) (o:=.dK []) he1
  have g6:=s6 _ _ g5
  generalize upd H5 e1 (.dK [])=H6 at s6 g6 ⊢
  have s16:=(s1.trans s5).trans s6
  by_cases z:ks5=[]
  .rw [AO z]
   exact ⟨_,_,SqL.of g6,rfl,k _ H6 s16 (fun h=>absurd h Aj) (fun _=>⟨fun y=>y (by rw [z] at kr5;cases e:s.there with | nil=>rfl | cons a b=>rw [e] at kr5;cases kr5),rfl⟩)⟩
  .rw [AR z]
   refine ⟨_,_,SqL.of g6,rfl,k _ H6 s16 (fun _ y=>z ?_) (fun h=>absurd rfl h)⟩
   rw [y] at kr5
   cases kr5
   rfl
 | least =>
  refine ⟨_,_,SqT.of hq,rfl,rfl,_,rfl,aZ ?_⟩
  refine ⟨_,_,SqT.of hq,rfl,sz2,fun l1 hl1=>⟨l1,_,["drop","change"],rfl,rfl,SqT.of ag,_,rfl,?_⟩⟩
  refine gnew hl1 fun H1 s1 _=>?_
  refine aZ ?_
  have O1:=O.same s1
  refine ⟨sz2,fun l1 hl1=>?_⟩
  refine gnew hl1 fun H5 s5 g5=>?_
  have O5:=O1.same s5
  obtain ⟨ks5,hd5,kr5⟩:=O5.ht
  refine ⟨st,_,rfl,O5.there,fun e1 he1=>⟨td,e1,_,rfl,rfl,aq he1 _ _ hd5,ag,.inr ⟨_,rfl,?_⟩⟩⟩
  have s6:=aq (H:=H5) (o:=.dK []) he1
  have g6:=s6 _ _ g5
  generalize upd H5 e1 (.dK [])=H6 at s6 g6 ⊢
  have s16:=(s1.trans s5).trans s6
  by_cases z:ks5=[]
  .rw [AO z]
   exact ⟨_,_,SqL.of g6,rfl,k _ H6 s16 (fun h=>absurd h Aj) (fun _=>⟨fun y=>y (by rw [z] at kr5;cases e:s.there with | nil=>rfl | cons a b=>rw [e] at kr5;cases kr5),rfl⟩)⟩
  .rw [AR z]
   refine ⟨_,_,SqL.of g6,rfl,k _ H6 s16 (fun _ y=>z ?_) (fun h=>absurd rfl h)⟩
   rw [y] at kr5
   cases kr5
   rfl
abbrev sH:Stmt:=top 34
theorem sW:aA ["state","deed","looks"] ["state","deed"] (am sH):=fs0
def rZ:Sp:=fun vs H Q _=>∃ (st r td q:Addr) (s:LS) (dd:Deed),vs=[.ref st,.ref q]/\StAt H st r td s s.looks/\Gm.LInv slt s/\s.stamp<=890/\H q=some (.tup dd.v)/\dd.fit s /\
 ∀(lk:Nat) (r':Addr) (H':Hp),(stepS s dd).looks=s.looks+lk->StAt H' st r' td (stepS s dd) (stepS s dd).looks->Kept [st,r,td] H H'->(r'=r∨H r'=none)->Q (.int lk) H'
theorem vR {fi fo fs:Addr}{fdi fdo fds:FuncData}(F:Fun K "_law_done" "_law_done" sH f fd)(T:Bl mg)(G_law_is_there:aB P w K mg base CX0 1 fi fdi ["state","entry"] fV)(D_law_is_there:Nm K mg "_law_is_there" fi fdi ["state","entry"])(G_law_added:aB P w K mg base CX0 2 fa fda ["state","name","worth"] pq)(D_law_added:Nm K mg "_law_added" fa fda ["state","name","worth"])(G_law_off:aB P w K mg base CX0 2 fo fdo ["row"] xb)(D_law_off:Nm K mg "_law_off" fo fdo ["row"])(G_law_swept:aB P w K mg base CX0 2 fs fds ["state"] lR)(D_law_swept:Nm K mg "_law_swept" fs fds ["state"]):aB P w K mg base CX0 3 f fd ["state","deed"] rZ:=by
 have sc:=sW
 refine F.okQ sW fun cdv A outer s_ H vs Q E hr h=>?_
 obtain ⟨st,r,td,q,s,dd,rfl,O,LI,hs,hq,ft,k⟩:=h
 have hu:=hr.units0
 have hu1:=hr.u100
 obtain ⟨ks,hd,kr⟩:=O.ht
 obtain ⟨xs,hx,rr⟩:=O.hr
 have h1:=LI.len
 have h2:=LI.tl
 have nq:q∉[st,r,td]:=fun z=>O.notup q z _ hq
 have old:∀{H1:Hp} {s1:LS} {w1:Nat},StAt H1 st r td s1 w1->Kept [st,r,td] H H1->∀{b:Addr},H1 b=none->H b=none:=fun {H1 s1 w1} O1 kk {b} hb=>by
  cases e:H b with
  | none=>rfl
  | some o =>
   by_cases z:b∈[st,r,td]
   .obtain ⟨ys,f2,_⟩:=O1.hr
    obtain ⟨kt,f3,_⟩:=O1.ht
    have f1:=O1.hs
    simp only [Aw,Ax,Bg] at z
    rcases z with y | y | y
    .rw [y,f1] at hb;cases hb
    .rw [y,f2] at hb;cases hb
    .rw [y,f3] at hb;cases hb
   .rw [kk b o e z] at hb;cases hb
 refine ⟨_,(af (qst 2 sc.nd ah)
  (af (aO (ay bz (ar aJ (qv 1) ah pix) av (aD _)) (ak (qst 2 sc.nd (qcl G_law_added hr D_law_added az (ae (qv 0) (ae (ar aJ (qv 1) ah pix) (ae (ar aJ (qv 1) ah pix) aj)))))) aE)
  (af (aO (ay jF (ar aJ (qv 1) ah pix) (aQ (ae av (ae av aj))) rfl) (ak (aL (eW (aN (aR hr) (qv 0) av pix) (ar aJ (qv 1) ah pix) ⟨rfl,rfl,rfl,rfl⟩))) aE)
  (af (aO (ay bz (ar aJ (qv 1) ah pix) av (aD _)) (ak (qst 2 sc.nd (qcl G_law_added hr D_law_added az (ae (qv 0) (ae (ar aJ (qv 1) ah pix) (ae (ar aJ (qv 1) ah pix) aj)))))) aE)
  (af (aO (ay jF (ar aJ (qv 1) ah pix) (aQ (ae av (ae av aj))) rfl) (ak (cO Bz (eK (eF (qcl G_law_is_there hr D_law_is_there az (ae (qv 0) (ae (ar aw (aN (aR hr) (qv 0) av pix) ah pix) aj))))) (ak (qst 2 sc.nd (au aK (qv 2) (qcl G_law_off hr D_law_off az (ae (aN (aR hr) (qv 0) av pix) aj))))))) aE)
  (af (aO (ay bz (ar aJ (qv 1) ah pix) av (aD _)) (af (aL (eW (aN (aR hr) (qv 0) av pix) (ar aJ (ar aw (aN (aR hr) (qv 0) av pix) ah pix) ah pix) ⟨rfl,rfl,rfl,rfl⟩))
  (ak (qst 2 sc.nd (au aK (qv 2) (qcl G_law_off hr D_law_off az (ae (aN (aR hr) (qv 0) av pix) aj)))))) aE)
  (af (aO (ay wW (ar aJ (qv 1) ah pix) av (aD _)) (ak (qst 2 sc.nd (au aK (qv 2) (qcl G_law_swept hr D_law_swept az (ae (qv 0) aj))))) aE)
  (af (fy (aR hr) (qv 0) av (au aK (aN (aR hr) (qv 0) av pix) (qv 2)) rfl)
  (ak (aF (qv 2))))))))))),?_⟩
 cases dd with
 | put n w =>
  have f1:Gm.dget s.there n=none:=ft
  refine ⟨_,_,SqT.of hq,rfl,rfl,_,rfl,db ?_⟩
  refine ⟨_,_,SqT.of hq,rfl,_,_,SqT.of hq,rfl,st,r,td,s,s.looks,n,w,rfl,O,Am,Am,fun lk1 H1 e1 O1 k1=>?_⟩
  have hq1:=k1 _ _ hq nq
  refine ⟨_,_,SqT.of hq1,rfl,sz2,fun l2 hl2=>⟨l2,_,["drop","change"],rfl,rfl,SqT.of ag,_,rfl,?_⟩⟩
  refine gnew hl2 fun H2 s2 _=>?_
  refine aZ ?_
  have hq2:=s2 _ _ hq1
  refine ⟨_,_,SqT.of hq2,rfl,rfl,_,rfl,aZ ?_⟩
  refine ⟨_,_,SqT.of hq2,rfl,sz2,fun l3 hl3=>⟨l3,_,["take","least"],rfl,rfl,SqT.of ag,_,rfl,?_⟩⟩
  refine gnew hl3 fun H3 s3 _=>?_
  refine aZ ?_
  have s13:=s2.trans s3
  have hq3:=s13 _ _ hq1
  refine ⟨_,_,SqT.of hq3,rfl,rfl,_,rfl,aZ ?_⟩
  have I1:=Gm.enter_inv slt_slo LI (n:=n) (w:=w)
  refine ⟨_,_,SqT.of hq3,rfl,rfl,_,rfl,db ?_⟩
  have O8:StAt _ st r td (Gm.enter slt s n w) s.looks:=O1.same s13
  have K8:=k1.trans (Kept.of_same s13)
  refine ⟨st,r,td,(Gm.enter slt s n w),s.looks,rfl,O8,(fun n x hx=>(I1.inr n x hx).1),(by rw [Gm.enter_row_perm.length_eq,As];show s.row.length+1<=1000;lia),fun lk9 r9 H9 hk9 O9 k9 f9=>(?_)⟩
  have K9:Kept [st,r,td] H H9:=K8.trans k9
  have fr9:r9=r∨H r9=none:=f9.imp id (old O8 K8)
  have hlk:(stepS s (.put n w)).looks=s.looks+(lk1+lk9):=by show (Gm.sweep slt (Gm.enter slt s n w)).looks=_;rw [hk9];lia
  refine ⟨st,_,rfl,O9.work,st,_,rfl,DPut.k (k:=Sum.inr "work") O9.hs (by show 5<sizeLine;decide),?_⟩
  obtain ⟨OW,kW⟩:=O9.workTo hlk
  exact (k _ _ _ hlk OW (K9.trans (kW.mono fun b hb=>by rw [Ao hb];simp)) fr9)
 | drop n =>
  have f1:Gm.dget s.there n≠none:=ft
  refine ⟨_,_,SqT.of hq,rfl,rfl,_,rfl,aZ ?_⟩
  refine ⟨_,_,SqT.of hq,rfl,sz2,fun l1 hl1=>⟨l1,_,["drop","change"],rfl,rfl,SqT.of ag,_,rfl,?_⟩⟩
  refine gnew hl1 fun H1 s1 _=>?_
  refine db ?_
  have O1:=O.same s1
  have hq1:=s1 _ _ hq
  have hd1:=s1 _ _ hd
  rcases kr.get n with ⟨_,e2⟩ | ⟨b,e',e1,e2,hb⟩
  .exact absurd e2 f1
  refine ⟨st,_,rfl,O1.there,td,rfl,.inl ⟨_,.inl hd1⟩,_,_,SqT.of hq1,rfl,_,Sum.inr n,_,hd1,rfl,e1,?_⟩
  obtain ⟨O2,k2⟩:=O1.dropTo n hd1
  generalize upd H1 td (.dK (bD ks (Sum.inr n)))=H2 at O2 k2 ⊢
  have K2:Kept [st,r,td] H H2:=(Kept.of_same s1).trans (k2.mono (fun b hb=>by rw [Ao hb];simp))
  have hq2:=K2 _ _ hq nq
  have ID:=Gm.drop_inv LI (n:=n)
  refine ⟨_,_,SqT.of hq2,rfl,rfl,_,rfl,aZ ?_⟩
  refine ⟨_,_,SqT.of hq2,rfl,sz2,fun l4 hl4=>⟨l4,_,["take","least"],rfl,rfl,SqT.of ag,_,rfl,?_⟩⟩
  refine gnew hl4 fun H4 s4 _=>?_
  refine aZ ?_
  have hq4:=s4 _ _ hq2
  refine ⟨_,_,SqT.of hq4,rfl,rfl,_,rfl,aZ ?_⟩
  have e3':(Gm.dropT s n).looks=s.looks+0:=rfl
  refine ⟨_,_,SqT.of hq4,rfl,rfl,_,rfl,db ?_⟩
  have O8:StAt _ st r td (Gm.dropT s n) s.looks:=O2.same s4
  have K8:=K2.trans (Kept.of_same s4)
  refine ⟨st,r,td,(Gm.dropT s n),s.looks,rfl,O8,(fun n x hx=>(ID.inr n x hx).1),(by show s.row.length<=1000;lia),fun lk9 r9 H9 hk9 O9 k9 f9=>(?_)⟩
  have K9:Kept [st,r,td] H H9:=K8.trans k9
  have fr9:r9=r∨H r9=none:=f9.imp id (old O8 K8)
  have hlk:(stepS s (.drop n)).looks=s.looks+(0+lk9):=by show (Gm.sweep slt (Gm.dropT s n)).looks=_;rw [hk9];lia
  refine ⟨st,_,rfl,O9.work,st,_,rfl,DPut.k (k:=Sum.inr "work") O9.hs (by show 5<sizeLine;decide),?_⟩
  obtain ⟨OW,kW⟩:=O9.workTo hlk
  exact (k _ _ _ hlk OW (K9.trans (kW.mono fun b hb=>by rw [Ao hb];simp)) fr9)
 | change n w =>
  have f1:Gm.dget s.there n≠none:=ft
  refine ⟨_,_,SqT.of hq,rfl,rfl,_,rfl,aZ ?_⟩
  refine ⟨_,_,SqT.of hq,rfl,sz2,fun l1 hl1=>⟨l1,_,["drop","change"],rfl,rfl,SqT.of ag,_,rfl,?_⟩⟩
  refine gnew hl1 fun H1 s1 _=>?_
  refine db ?_
  have O1:=O.same s1
  have hq1:=s1 _ _ hq
  have hd1:=s1 _ _ hd
  rcases kr.get n with ⟨_,e2⟩ | ⟨b,e',e1,e2,hb⟩
  .exact absurd e2 f1
  refine ⟨st,_,rfl,O1.there,td,rfl,.inl ⟨_,.inl hd1⟩,_,_,SqT.of hq1,rfl,_,Sum.inr n,_,hd1,rfl,e1,?_⟩
  obtain ⟨O2,k2⟩:=O1.dropTo n hd1
  generalize upd H1 td (.dK (bD ks (Sum.inr n)))=H2 at O2 k2 ⊢
  have K2:Kept [st,r,td] H H2:=(Kept.of_same s1).trans (k2.mono (fun b hb=>by rw [Ao hb];simp))
  have hq2:=K2 _ _ hq nq
  have ID:=Gm.drop_inv LI (n:=n)
  refine ⟨_,_,SqT.of hq2,rfl,rfl,_,rfl,db ?_⟩
  refine ⟨_,_,SqT.of hq2,rfl,_,_,SqT.of hq2,rfl,st,r,td,Gm.dropT s n,s.looks,n,w,rfl,O2,by show s.row.length<=900;lia,AV ID.tl (by show s.stamp<=900;lia),fun lk1 H3 e3 O3 k3=>?_⟩
  have K3:=K2.trans k3
  have hq3:=K3 _ _ hq nq
  refine ⟨_,_,SqT.of hq3,rfl,sz2,fun l4 hl4=>⟨l4,_,["take","least"],rfl,rfl,SqT.of ag,_,rfl,?_⟩⟩
  refine gnew hl4 fun H4 s4 _=>?_
  refine aZ ?_
  have hq4:=s4 _ _ hq3
  refine ⟨_,_,SqT.of hq4,rfl,rfl,_,rfl,aZ ?_⟩
  have I1:=Gm.enter_inv slt_slo ID (n:=n) (w:=w)
  have e3':(Gm.enter slt (Gm.dropT s n) n w).looks=s.looks+lk1:=e3
  refine ⟨_,_,SqT.of hq4,rfl,rfl,_,rfl,db ?_⟩
  have O8:StAt _ st r td (Gm.enter slt (Gm.dropT s n) n w) s.looks:=O3.same s4
  have K8:=K3.trans (Kept.of_same s4)
  refine ⟨st,r,td,(Gm.enter slt (Gm.dropT s n) n w),s.looks,rfl,O8,(fun n x hx=>(I1.inr n x hx).1),(by rw [Gm.enter_row_perm.length_eq,As];show s.row.length+1<=1000;lia),fun lk9 r9 H9 hk9 O9 k9 f9=>(?_)⟩
  have K9:Kept [st,r,td] H H9:=K8.trans k9
  have fr9:r9=r∨H r9=none:=f9.imp id (old O8 K8)
  have hlk:(stepS s (.change n w)).looks=s.looks+(lk1+lk9):=by show (Gm.sweep slt (Gm.enter slt (Gm.dropT s n) n w)).looks=_;rw [hk9];lia
  refine ⟨st,_,rfl,O9.work,st,_,rfl,DPut.k (k:=Sum.inr "work") O9.hs (by show 5<sizeLine;decide),?_⟩
  obtain ⟨OW,kW⟩:=O9.workTo hlk
  exact (k _ _ _ hlk OW (K9.trans (kW.mono fun b hb=>by rw [Ao hb];simp)) fr9)
 | take =>
  have tne:s.there≠[]:=ft
  refine ⟨_,_,SqT.of hq,rfl,rfl,_,rfl,aZ ?_⟩
  refine ⟨_,_,SqT.of hq,rfl,sz2,fun l1 hl1=>⟨l1,_,["drop","change"],rfl,rfl,SqT.of ag,_,rfl,?_⟩⟩
  refine gnew hl1 fun H1 s1 _=>?_
  refine aZ ?_
  have hq1:=s1 _ _ hq
  refine ⟨_,_,SqT.of hq1,rfl,rfl,_,rfl,aZ ?_⟩
  refine ⟨_,_,SqT.of hq1,rfl,sz2,fun l2 hl2=>⟨l2,_,["take","least"],rfl,rfl,SqT.of ag,_,rfl,?_⟩⟩
  refine gnew hl2 fun H2 s2 _=>?_
  refine db ?_
  have s12:=s1.trans s2
  have hq2:=s12 _ _ hq
  refine ⟨fun m U H5=>∃ (f lk:Nat) (s2:LS),U=[some (.ref st),some (.ref q),some (.int lk)]/\StAt H5 st r td s2 s.looks/\Gm.LInv slt s2/\s2.there=s.there/\s2.row.length<=f/\s2.row.length<=s.row.length/\Gm.clean slt f s2=Gm.leastL slt s/\s2.looks=s.looks+lk/\Kept [st,r,td] H H5/\m=s2.row.length,⟨_,s.row.length,0,s,rfl,O.same s12,LI,rfl,Av _,Av _,rfl,rfl,Kept.of_same s12,rfl⟩,?_⟩
  rintro m U H5 ⟨f,lk,s2,rfl,O5,LI5,e5,hf,hle,hc,hlk2,K5,rfl⟩
  obtain ⟨xs5,hx5,rr5⟩:=O5.hr
  have h0:=Gm.row_pos LI5 (by rw [e5];exact tne)
  obtain ⟨a,ea,ha,ia⟩:=rr5.at h0
  refine ⟨st,_,rfl,O5.row,_,_,SqL.of hx5,ia,st,r,td,a,s2,s.looks,_,rfl,O5,ha,(fun n x hx=>(LI5.inr n x hx).1),fun H6 s6=>⟨_,rfl,?_⟩⟩
  have O6:=O5.same s6
  have K6:=K5.trans (Kept.of_same s6)
  have hx6:=s6 _ _ hx5
  have rr6:=rr5.stay fun b l h=>s6 _ _ h
  cases c2:Gm.holds s2.there (Hg.g s2.row 0) with
  | false =>
   have c3:¬ Gm.holds s2.there (Hg.g s2.row 0)=true:=by rw [c2];exact AL
   obtain ⟨f,rfl⟩:∃ f0,f=f0+1:=⟨f-1,Am⟩
   have hc2:Gm.clean slt f (Gm.cut slt s2)=Gm.leastL slt s:=by
    rw [<-hc]
    conv=>rhs;unfold Gm.clean
    rw [Ay c3]
   have lc:(Gm.cut slt s2).row.length=s2.row.length-1:=Hg.cutf_len
   refine qk ?_
   refine ⟨fun U H5=>∃ m,m<s2.row.length/\∃ (f lk:Nat) (s2:LS),U=[some (.ref st),some (.ref q),some (.int lk)]/\StAt H5 st r td s2 s.looks/\Gm.LInv slt s2/\s2.there=s.there/\s2.row.length<=f/\s2.row.length<=s.row.length/\Gm.clean slt f s2=Gm.leastL slt s/\s2.looks=s.looks+lk/\Kept [st,r,td] H H5/\m=s2.row.length,fun σ' H' z=>z,?_⟩
   refine ⟨st,_,rfl,O6.row,r,_,_,rfl,hx6,rr6,h0,Am,fun ys H7 h7 rr7 k7=>(?_)⟩
   have O7:StAt H7 st r td (Gm.cut slt s2) s.looks:=O6.rowTo (lk:=(Gm.cut slt s2).looks) h7 rr7 k7
   have lk7:(Gm.cut slt s2).looks=s.looks+(lk+(Hg.cutf lE s2.row).2):=by
    show s2.looks+(Hg.cutf lE s2.row).2=_
    lia
   exact ⟨(Gm.cut slt s2).row.length,Am,f,lk+(Hg.cutf lE s2.row).2,Gm.cut slt s2,rfl,O7,Gm.cut_inv slt_slo LI5 h0 c3,e5,Am,Am,hc2,lk7,K6.trans (k7.mono (fun b hb=>by rw [Ao hb];simp)),rfl⟩
  | true =>
  refine gq ?_
  have ec:Gm.leastL slt s=s2:=by
   rw [<-hc]
   cases f with
   | zero=>rfl
   | succ f=>unfold Gm.clean;rw [Az c2]
  have hq6:=K6 _ _ hq nq
  refine ⟨_,_,SqT.of hq6,rfl,rfl,_,rfl,db ?_⟩
  obtain ⟨ks6,hd6,kr6⟩:=O6.ht
  have hin:=Gm.holds_in c2
  rcases kr6.get (Hg.g s2.row 0).n with ⟨e1,e2⟩ | ⟨b,e',e1,e2,hb⟩
  .have:=Gm.dget_of LI5.nd hin
   rw [e2] at this
   cases this
  refine ⟨st,_,rfl,O6.there,td,rfl,.inl ⟨_,.inl hd6⟩,st,_,rfl,O6.row,_,_,SqL.of hx6,ia,_,_,SqT.of (s6 _ _ ha),rfl,_,Sum.inr (Hg.g s2.row 0).n,_,hd6,rfl,e1,?_⟩
  obtain ⟨O7,k7⟩:=O6.dropTo (Hg.g s2.row 0).n hd6
  generalize upd H6 td (.dK (bD ks6 (Sum.inr (Hg.g s2.row 0).n)))=H7 at O7 k7 ⊢
  have K7:=K6.trans (k7.mono (fun b hb=>by rw [Ao hb];simp))
  obtain ⟨xs7,hx7,rr7⟩:=O7.hr
  refine ⟨st,_,rfl,O7.row,r,_,_,rfl,hx7,rr7,h0,by show s2.row.length<=1000;lia,fun ys H8 h8 rr8 k8=>(?_)⟩
  have OC:StAt H8 st r td (Gm.dropT (Gm.cut slt s2) (Hg.g s2.row 0).n) s.looks:=O7.rowTo (lk:=(Gm.cut slt s2).looks) h8 rr8 k8
  have KC:=K7.trans (k8.mono (fun b hb=>by rw [Ao hb];simp))
  have hq8:=KC _ _ hq nq
  have lc:(Gm.cut slt s2).row.length=s2.row.length-1:=Hg.cutf_len
  have IC:Gm.LInv slt (Gm.dropT (Gm.cut slt s2) (Hg.g s2.row 0).n):=Gm.cut_take_inv slt_slo LI5 h0
  have eST:stepS s .take=Gm.sweep slt (Gm.dropT (Gm.cut slt s2) (Hg.g s2.row 0).n):=by show Gm.takeL slt s=_;unfold Gm.takeL;rw [ec]
  have lkc:(Gm.dropT (Gm.cut slt s2) (Hg.g s2.row 0).n).looks=s.looks+(lk+(Hg.cutf lE s2.row).2):=by
   show s2.looks+(Hg.cutf lE s2.row).2=_
   lia
  refine ⟨_,_,SqT.of hq8,rfl,rfl,_,rfl,db ?_⟩
  have O8:StAt _ st r td (Gm.dropT (Gm.cut slt s2) (Hg.g s2.row 0).n) s.looks:=OC
  have K8:=KC
  refine ⟨st,r,td,(Gm.dropT (Gm.cut slt s2) (Hg.g s2.row 0).n),s.looks,rfl,O8,(fun n x hx=>(IC.inr n x hx).1),(by show (Gm.cut slt s2).row.length<=1000;lia),fun lk9 r9 H9 hk9 O9 k9 f9=>(?_)⟩
  have K9:Kept [st,r,td] H H9:=K8.trans k9
  have fr9:r9=r∨H r9=none:=f9.imp id (old O8 K8)
  have hlk:(stepS s .take).looks=s.looks+((lk+(Hg.cutf lE s2.row).2)+lk9):=by rw [eST,hk9];lia
  rw [<-eST] at O9
  refine ⟨st,_,rfl,O9.work,st,_,rfl,DPut.k (k:=Sum.inr "work") O9.hs (by show 5<sizeLine;decide),?_⟩
  obtain ⟨OW,kW⟩:=O9.workTo hlk
  exact (k _ _ _ hlk OW (K9.trans (kW.mono fun b hb=>by rw [Ao hb];simp)) fr9)
 | least =>
  have tne:s.there≠[]:=ft
  refine ⟨_,_,SqT.of hq,rfl,rfl,_,rfl,aZ ?_⟩
  refine ⟨_,_,SqT.of hq,rfl,sz2,fun l1 hl1=>⟨l1,_,["drop","change"],rfl,rfl,SqT.of ag,_,rfl,?_⟩⟩
  refine gnew hl1 fun H1 s1 _=>?_
  refine aZ ?_
  have hq1:=s1 _ _ hq
  refine ⟨_,_,SqT.of hq1,rfl,rfl,_,rfl,aZ ?_⟩
  refine ⟨_,_,SqT.of hq1,rfl,sz2,fun l2 hl2=>⟨l2,_,["take","least"],rfl,rfl,SqT.of ag,_,rfl,?_⟩⟩
  refine gnew hl2 fun H2 s2 _=>?_
  refine db ?_
  have s12:=s1.trans s2
  have hq2:=s12 _ _ hq
  refine ⟨fun m U H5=>∃ (f lk:Nat) (s2:LS),U=[some (.ref st),some (.ref q),some (.int lk)]/\StAt H5 st r td s2 s.looks/\Gm.LInv slt s2/\s2.there=s.there/\s2.row.length<=f/\s2.row.length<=s.row.length/\Gm.clean slt f s2=Gm.leastL slt s/\s2.looks=s.looks+lk/\Kept [st,r,td] H H5/\m=s2.row.length,⟨_,s.row.length,0,s,rfl,O.same s12,LI,rfl,Av _,Av _,rfl,rfl,Kept.of_same s12,rfl⟩,?_⟩
  rintro m U H5 ⟨f,lk,s2,rfl,O5,LI5,e5,hf,hle,hc,hlk2,K5,rfl⟩
  obtain ⟨xs5,hx5,rr5⟩:=O5.hr
  have h0:=Gm.row_pos LI5 (by rw [e5];exact tne)
  obtain ⟨a,ea,ha,ia⟩:=rr5.at h0
  refine ⟨st,_,rfl,O5.row,_,_,SqL.of hx5,ia,st,r,td,a,s2,s.looks,_,rfl,O5,ha,(fun n x hx=>(LI5.inr n x hx).1),fun H6 s6=>⟨_,rfl,?_⟩⟩
  have O6:=O5.same s6
  have K6:=K5.trans (Kept.of_same s6)
  have hx6:=s6 _ _ hx5
  have rr6:=rr5.stay fun b l h=>s6 _ _ h
  cases c2:Gm.holds s2.there (Hg.g s2.row 0) with
  | false =>
   have c3:¬ Gm.holds s2.there (Hg.g s2.row 0)=true:=by rw [c2];exact AL
   obtain ⟨f,rfl⟩:∃ f0,f=f0+1:=⟨f-1,Am⟩
   have hc2:Gm.clean slt f (Gm.cut slt s2)=Gm.leastL slt s:=by
    rw [<-hc]
    conv=>rhs;unfold Gm.clean
    rw [Ay c3]
   have lc:(Gm.cut slt s2).row.length=s2.row.length-1:=Hg.cutf_len
   refine qk ?_
   refine ⟨fun U H5=>∃ m,m<s2.row.length/\∃ (f lk:Nat) (s2:LS),U=[some (.ref st),some (.ref q),some (.int lk)]/\StAt H5 st r td s2 s.looks/\Gm.LInv slt s2/\s2.there=s.there/\s2.row.length<=f/\s2.row.length<=s.row.length/\Gm.clean slt f s2=Gm.leastL slt s/\s2.looks=s.looks+lk/\Kept [st,r,td] H H5/\m=s2.row.length,fun σ' H' z=>z,?_⟩
   refine ⟨st,_,rfl,O6.row,r,_,_,rfl,hx6,rr6,h0,Am,fun ys H7 h7 rr7 k7=>(?_)⟩
   have O7:StAt H7 st r td (Gm.cut slt s2) s.looks:=O6.rowTo (lk:=(Gm.cut slt s2).looks) h7 rr7 k7
   have lk7:(Gm.cut slt s2).looks=s.looks+(lk+(Hg.cutf lE s2.row).2):=by
    show s2.looks+(Hg.cutf lE s2.row).2=_
    lia
   exact ⟨(Gm.cut slt s2).row.length,Am,f,lk+(Hg.cutf lE s2.row).2,Gm.cut slt s2,rfl,O7,Gm.cut_inv slt_slo LI5 h0 c3,e5,Am,Am,hc2,lk7,K6.trans (k7.mono (fun b hb=>by rw [Ao hb];simp)),rfl⟩
  | true =>
  refine gq ?_
  have ec:Gm.leastL slt s=s2:=by
   rw [<-hc]
   cases f with
   | zero=>rfl
   | succ f=>unfold Gm.clean;rw [Az c2]
  have hq6:=K6 _ _ hq nq
  refine ⟨_,_,SqT.of hq6,rfl,rfl,_,rfl,aZ ?_⟩
  refine ⟨_,_,SqT.of hq6,rfl,rfl,_,rfl,aZ ?_⟩
  have O9:StAt H6 st r td (stepS s .least) s.looks:=by show StAt H6 st r td (Gm.leastL slt s) s.looks;rw [ec];exact O6
  have hlk:(stepS s .least).looks=s.looks+lk:=by show (Gm.leastL slt s).looks=_;rw [ec];exact hlk2
  have K9:=K6
  have fr9:r=r∨H r=none:=.inl rfl
  refine ⟨st,_,rfl,O9.work,st,_,rfl,DPut.k (k:=Sum.inr "work") O9.hs (by show 5<sizeLine;decide),?_⟩
  obtain ⟨OW,kW⟩:=O9.workTo hlk
  exact (k _ _ _ hlk OW (K9.trans (kW.mono fun b hb=>by rw [Ao hb];simp)) fr9)
theorem dD {pl sr b:Addr}{ns:List Int}{u:HO}(P:Pile K H pl sr ns)(e:H b=some u)(n:∀ys,u≠.lst ys):b≠pl:=by
 obtain ⟨_,_,_,_,h,_⟩:=P.to
 exact fun z=>by subst z;rw [e] at h;cases h;exact n _ rfl
theorem dM {pl sr:Addr}{ns:List Int}(P:Pile K H pl sr ns)(k:Kept [pl] H H'):∀b l,H b=some (.tup l)->H' b=some (.tup l):=fun b l e=>k _ _ e (fun z=>dD P e (fun _ z=>nomatch z) (Ao z))
theorem _root_.L2.StAt.pl {pl sr st r td:Addr}{ns:List Int}{s:LS}{wk:Nat}(O:StAt H st r td s wk)(P:Pile K H pl sr ns)(n:r≠pl)(k:Kept [pl] H H'):StAt H' st r td s wk:=by
 obtain ⟨ks,hd,_⟩:=O.ht
 refine O.stay (fun b o hb e=>?_) (dM P k)
 rcases hb with rfl | rfl | rfl
 .exact k _ _ e (fun z=>dD P O.hs (fun _ z=>nomatch z) (Ao z))
 .exact k _ _ e (fun z=>n (Ao z))
 exact k _ _ e (fun z=>dD P hd (fun _ z=>nomatch z) (Ao z))
abbrev kj:Stmt:=top 36
theorem o0:aA ["pile","state","names","there","away","way","name","kinds"] ["pile","state","names"] (am kj):=fs0
def oP (K:W.Frag):Sp:=fun vs H Q _=>∃ (pl sr:Addr) (is:List Int) (st r td nl:Addr) (s:LS) (wk:Nat) (nv:List V),vs=[.ref pl,.ref st,.ref nl]/\Pile K H pl sr is/\StAt H st r td s wk/\H nl=some (.lst nv)/\lB nv/\nv.length<=200/\InN nv (thW s.there)/\s.there.length<=200/\r≠pl/\nl≠pl /\
 ∀(q:Addr) (dd:Deed) (H':Hp),H' q=some (.tup dd.v)->dd.inN nv->Pile K H' pl sr is->Kept [pl] H H'->Q (.ref q) H'
theorem rJ {fw:Addr}(F:Fun K "_law_deed" "_law_deed" kj f fd)(T:Bl mg)(G_law_next:aB P w K mg base CX0 1 fn fdn ["pile","most"] (cT K))(D_law_next:Nm K mg "_law_next" fn fdn ["pile","most"])(G_law_worth:aB P w K mg base CX0 2 fw fdw ["pile"] (ie K))(D_law_worth:Nm K mg "_law_worth" fw fdw ["pile"]):aB P w K mg base CX0 3 f fd ["pile","state","names"] (oP K):=by
 have sc:=o0
 refine F.okQ o0 fun cdv A outer s_ H vs Q E hr h=>?_
 obtain ⟨pl,sr,is,st,r,td,nl,s,wk,nv,rfl,PL,O,hn,an,ln,inn,lt,nrp,nnp,k⟩:=h
 have hu:=hr.units0
 obtain ⟨ks,hd,kr⟩:=O.ht
 refine ⟨_,(af (qst 3 sc.nd (qcB (jD rfl) T.z_sorted (ae (aN (aR hr) (qv 1) av pix) aj)))
  (af (bX (i:=4) sc.nd rfl (Or.inl rfl) (Blk.of (N:=["pile","state","names","there","away","way","name","kinds"]) (esc:=am kj) (NB:=["state"]) (cap:=[1]) rfl rfl (fun y hy=>aM hy) rfl Aj Aj Aj rfl Aj rfl Aj) rfl rfl (cA (qv 2)) (fun C fp s₀ H₀=>(gC (jp (aR hr) (qv 0) (aN (aR hr) (qv 1) av pix)))) (fun C fp s₀ H₀=>(qv 0)))
  (af (qst 5 sc.nd (qcl G_law_next hr D_law_next az (ae (qv 0) (ae ah aj))))
  (af (jy (QW.pt (eE (ay (iL hu) (qv 3) (aV aj) (aD _)) (dL (ay fZ (qv 5) ah (aD _))))) (ak (qst 5 sc.nd ah)) aE)
  (af (jy (QW.pt (eE (ay fA (qv 5) ah (aD _)) (dL (ay (rb hu) (qv 4) (aV aj) (aD _))))) (ak (aF (aQ (ae av (ae (ar aw (qv 4) (qcl G_law_next hr D_law_next az (ae (qv 0) (ae (qcB aG T.z_len (ae (qv 4) aj)) aj))) pix) (ae (qcl G_law_worth hr D_law_worth az (ae (qv 0) aj)) aj)))))) aE)
  (af (aO (ay (iL hu) (qv 3) (aV aj) (aD _)) (ak (aF (aQ (ae av aj)))) aE)
  (af (qst 6 sc.nd (ar aw (qv 3) (qcl G_law_next hr D_law_next az (ae (qv 0) (ae (qcB aG T.z_len (ae (qv 3) aj)) aj))) pix))
  (af (qst 7 sc.nd (aV (ae (aQ (ae av (ae (qv 6) (ae (qcl G_law_worth hr D_law_worth az (ae (qv 0) aj)) aj)))) (ae (aQ (ae av (ae (qv 6) aj))) (ae (aQ (ae av aj)) (ae (aQ (ae av aj)) (ae (aQ (ae av (ae (qv 6) aj))) aj)))))))
  (ak (aF (ar aw (qv 7) (au cc (qv 5) ah) pix))))))))))),?_⟩
 refine ⟨st,_,rfl,O.there,td,ks,s.there.map (·.1),rfl,hd,kr.keys,fun tl ys htl pm _=>?_⟩
 refine gnew htl fun H1 s1 g1=>?_
 have O1:=O.same s1
 have P1:=PL.same s1
 have ntl:tl≠pl:=by
  obtain ⟨u,e⟩:=PL.there
  exact (ap e htl).symm
 have ly:ys.length=s.there.length:=by rw [pm.length_eq,Ar]
 have yin:∀y∈ys,V.str y∈nv:=fun y hy=>by
  obtain ⟨p,hp,rfl⟩:=AK.mp (pm.mem_iff.mp hy)
  exact inn (p.1,p.2.w) (AK.mpr ⟨p,hp,rfl⟩)
 refine ⟨nl,rfl,⟨_,SqL.of (s1 _ _ hn)⟩,fun D hD=>?_⟩
 refine bY (K:=K) (a:=nl) (xs:=nv) (fun i us H4=>H4 D=some (.lst us)/\(∀y∈us,y∈nv)/\us.length<=i/\Same H1 H4) ⟨ag,(fun _ h=>nomatch h),Av _,aq hD⟩ (fun i us H4 z=>⟨z.1,SqL.of (z.2.2.2 _ _ (s1 _ _ hn))⟩) ?_ ?_
 .rintro i x us H4 hi ⟨h4,m4,l4,s4⟩
  have mx:=AQ hi
  have li:i<nv.length:=(Au.mp hi).1
  obtain ⟨n,rfl,_⟩:=an x mx
  have O4:=O1.same s4
  obtain ⟨ks4,hd4,kr4⟩:=O4.ht
  refine ⟨st,_,rfl,O4.there,td,_,rfl,DGet.k (k:=Sum.inr n) hd4,_,rfl,aU (fun _=>⟨h4,aH Am,_,Am,rfl,Am,ag,?_,?_,bj s4 hD⟩) (fun _=>⟨_,Am,rfl,Am,h4,m4,Am,s4⟩)⟩
  .intro y hy
   rcases AU.mp hy with z | z
   .exact m4 y z
   .rw [Ao z];exact mx
  .rw [As];show us.length+1<=_;lia
 rintro us H4 ⟨h4,m4,l4,s4⟩
 have nD:D≠pl:=by
  obtain ⟨u,e⟩:=P1.there
  exact (ap e hD).symm
 have K4:Kept [pl] H H4:=Kept.of_same (s1.trans s4)
 have no:∀b,b≠pl->b∉[pl]:=fun b n z=>n (Ao z)
 have big:∀m:Nat,m<=200->(m:Int)<2 ^ 120:=fun m h=>Int.lt_of_le_of_lt (show (m:Int)<=200 by lia) Ak
 have lus:us.length<=200:=by lia
 refine ⟨pl,sr,is,10,rfl,(P1.same s4),Ak,Ak,fun x H5 x0 x1 P5 K5 N5=>?_⟩
 refine ⟨fun σ' H'=>∃ wy:Int,σ'=[some (.ref pl),some (.ref st),some (.ref nl),some (.ref tl),some (.ref D),some (.int wy),none,none]/\0<=wy/\wy<10/\Pile K H' pl sr is/\Kept [pl] H H'/\H' tl=some (.lst (ys.map V.str))/\H' D=some (.lst us),?_,?_⟩
 .refine ⟨sz0,fun z hz=>?_⟩
  refine gnew hz fun H6 s6 g6=>?_
  have K6:=(K4.trans K5).trans (Kept.of_same s6)
  have P6:=P5.same s6
  have t6:=K6
  have e1:=s6 _ _ (K5 _ _ (s4 _ _ g1) (no _ ntl))
  have e2:=s6 _ _ (K5 _ _ h4 (no _ nD))
  refine ⟨tl,z,_,rfl,rfl,SqL.of e1,SqL.of g6,_,rfl,aU (fun c=>⟨_,rfl,aU (fun _=>?_) (fun _=>?_)⟩) (fun c=>gq ?_)⟩
  .exact ⟨1,rfl,Ak,Ak,P6,K6,e1,e2⟩
  .exact ⟨x,rfl,x0,x1,P6,K6,e1,e2⟩
  .exact ⟨x,rfl,x0,x1,P6,K6,e1,e2⟩
 rintro σ' H6 ⟨wy,rfl,w0,w1,P6,K6,e1,e2⟩
 refine ⟨fun σ' H'=>∃ wy:Int,σ'=[some (.ref pl),some (.ref st),some (.ref nl),some (.ref tl),some (.ref D),some (.int wy),none,none]/\0<=wy/\wy<10/\Pile K H' pl sr is/\Kept [pl] H H'/\H' tl=some (.lst (ys.map V.str))/\H' D=some (.lst us),?_,?_⟩
 .refine ⟨_,rfl,aU (fun c=>?_) (fun c=>gq ⟨wy,rfl,w0,w1,P6,K6,e1,e2⟩)⟩
  refine ⟨sz0,fun z hz=>?_⟩
  refine gnew hz fun H7 s7 g7=>?_
  have K7:=K6.trans (Kept.of_same s7)
  have P7:=P6.same s7
  refine ⟨D,z,us,rfl,rfl,SqL.of (s7 _ _ e2),SqL.of g7,_,rfl,aU (fun c2=>?_) (fun c2=>⟨wy,rfl,w0,w1,P7,K7,s7 _ _ e1,s7 _ _ e2⟩)⟩
  have u0:0<us.length:=by
   cases us with
   | nil=>exact absurd c2 Aj
   | cons _ _=>exact Nat.succ_pos _
  refine ⟨D,_,rfl,.inl (SqL.of (s7 _ _ e2)),pl,sr,is,_,rfl,P7,Am,big _ lus,fun y H8 y0 y1 P8 K8 N8=>?_⟩
  obtain ⟨v,ev,mv⟩:=fJ (l:=us) (i:=y) y0 y1
  obtain ⟨n,rfl,_⟩:=an v (m4 _ mv)
  refine ⟨_,_,SqL.of (K8 _ _ (s7 _ _ e2) (no _ nD)),ev,pl,sr,is,rfl,P8,fun w H9 P9 K9=>⟨sz3,fun q hq=>?_⟩⟩
  exact k q (.put n w) _ ag (m4 _ mv) (P9.same (aq hq)) (((K7.trans K8).trans K9).new hq)
 rintro σ' H7 ⟨wy,rfl,w0,w1,P7,K7,e1,e2⟩
 refine ⟨sz0,fun z hz=>?_⟩
 refine gnew hz fun H8 s8 g8=>?_
 have K8:=K7.trans (Kept.of_same s8)
 have P8:=P7.same s8
 have e8:=s8 _ _ e1
 refine ⟨tl,z,_,rfl,rfl,SqL.of e8,SqL.of g8,_,rfl,aU (fun c=>?_) (fun c=>?_)⟩
 .refine ⟨sz1,fun q hq=>?_⟩
  exact k q .least _ ag trivial (P8.same (aq hq)) (K8.new hq)
 have y0':0<ys.length:=by
  cases ys with
  | nil=>exact absurd Aj c
  | cons _ _=>exact Nat.succ_pos _
 have lm:(ys.map V.str).length=ys.length:=Ar ..
 refine ⟨tl,_,rfl,.inl (SqL.of e8),pl,sr,is,_,rfl,P8,Am,big _ Am,fun y H9 y0 y1 P9 K9 N9=>?_⟩
 obtain ⟨v,ev,mv⟩:=fJ (l:=ys.map V.str) (i:=y) y0 y1
 obtain ⟨n,hn',rfl⟩:=AK.mp mv
 have nin:=yin n hn'
 have KA:=K8.trans K9
 refine ⟨_,_,SqL.of (K9 _ _ e8 (no _ ntl)),ev,?_⟩
 refine ⟨pl,sr,is,rfl,P9,fun w HA PA KA2=>?_⟩
 refine ⟨sz3,fun t1 ht1=>?_⟩
 refine gnew ht1 fun HB q1 r1=>?_
 refine ⟨sz2,fun t2 ht2=>?_⟩
 refine gnew ht2 fun HC q2 r2=>?_
 refine ⟨sz1,fun t3 ht3=>?_⟩
 refine gnew ht3 fun HD q3 r3=>?_
 refine ⟨sz1,fun t4 ht4=>?_⟩
 refine gnew ht4 fun HE q4 r4=>?_
 refine ⟨sz2,fun t5 ht5=>?_⟩
 refine gnew ht5 fun HF q5 r5=>?_
 refine ⟨sz5,fun kl hkl=>?_⟩
 refine gnew hkl fun HG q6 r6=>?_
 have m0:0<=wy % 5:=du Ak
 have m1:wy % 5<5:=dv Ak
 obtain ⟨v,ev,mv⟩:=fJ (l:=([.ref t1,.ref t2,.ref t3,.ref t4,.ref t5]:List V)) (i:=wy % 5) m0 m1
 have sall:Same HA HG:=((((q1.trans q2).trans q3).trans q4).trans q5).trans q6
 have PG:=PA.same sall
 have KG:=(KA.trans KA2).trans (Kept.of_same sall)
 refine ⟨(by show (0:Int)<5;decide),_,_,SqL.of r6,ev,?_⟩
 simp only [Aw,Ax,Bg] at mv
 rcases mv with h | h | h | h | h
 .subst h;exact k t1 (.change n w) HG (q6 _ _ (q5 _ _ (q4 _ _ (q3 _ _ (q2 _ _ r1))))) nin PG KG
 .subst h;exact k t2 (.drop n) HG (q6 _ _ (q5 _ _ (q4 _ _ (q3 _ _ r2)))) nin PG KG
 .subst h;exact k t3 .take HG (q6 _ _ (q5 _ _ (q4 _ _ r3))) trivial PG KG
 .subst h;exact k t4 .least HG (q6 _ _ (q5 _ _ r4)) trivial PG KG
 subst h;exact k t5 (.drop n) HG (q6 _ _ r5) nin PG KG
abbrev xG:Stmt:=top 37
theorem wZ:aA ["pile","names","slack","many","state","deeds","looks","most","k","deed","ahead"] ["pile","names","slack","many"] (am xG):=fs0
def wK (K:W.Frag):Sp:=fun vs H Q _=>∃ (pl sr:Addr) (is:List Int) (nl:Addr) (nv:List V) (z:Int) (many:Nat),vs=[.ref pl,.ref nl,.int z,.int many]/\Pile K H pl sr is/\H nl=some (.lst nv)/\lB nv/\nv.length<=200/\nl≠pl/\many<=300 /\
 ∀(o dl ll st r td:Addr) (ds:List Deed) (dz lz:List V) (m:Int) (H':Hp),H' o=some (.lst [.ref dl,.ref st,.ref ll,.int m])->Fits z ds->(∀d∈ds,d.inN nv)->ds.length<=many->H' dl=some (.lst dz)->DDs H' dz ds->StAt H' st r td (bV z ds) (bV z ds).looks->Pile K H' pl sr is->Kept [pl] H H'->H o=none->H dl=none->H st=none->H td=none->H r=none->r≠dl->Q (.ref o) H'
theorem xL {fd_ fr fo:Addr}{fdd fdr fdo:FuncData}(F:Fun K "_law_run" "_law_run" xG f fd)(T:Bl mg)(z_max:mg "max"=none)(G_law_new:aB P w K mg base CX0 1 fn fdn ["slack"] xh)(D_law_new:Nm K mg "_law_new" fn fdn ["slack"])(G_law_deed:aB P w K mg base CX0 3 fd_ fdd ["pile","state","names"] (oP K))(D_law_deed:Nm K mg "_law_deed" fd_ fdd ["pile","state","names"])(G_law_refused:aB P w K mg base CX0 1 fr fdr ["state","deed"] ju)(D_law_refused:Nm K mg "_law_refused" fr fdr ["state","deed"])(G_law_done:aB P w K mg base CX0 3 fo fdo ["state","deed"] rZ)(D_law_done:Nm K mg "_law_done" fo fdo ["state","deed"]):aB P w K mg base CX0 4 f fd ["pile","names","slack","many"] (wK K):=by
 have sc:=wZ
 refine F.okQ wZ fun cdv A outer s_ H vs Q E hr h=>?_
 obtain ⟨pl,sr,is,nl,nv,z,many,rfl,PL,hn,an,ln,nnp,lm,k⟩:=h
 have hu:=hr.units0
 have hu1:=hr.u100
 refine ⟨_,(af (qst 4 sc.nd (qcl G_law_new hr D_law_new az (ae (qv 2) aj)))
  (af (qst 5 sc.nd (aV aj))
  (af (qst 6 sc.nd (aV aj))
  (af (qst 7 sc.nd ah)
  (af (c6 Bz rfl (bx rfl T.z_range (ae (qv 3) aj)) (bu (i:=8) sc.nd rfl (Or.inl rfl)) (af (qst 9 sc.nd (qcl G_law_deed hr D_law_deed az (ae (qv 0) (ae (qv 4) (ae (qv 1) aj)))))
  (ak (aO (ay bz (qcl G_law_refused hr D_law_refused az (ae (qv 4) (ae (qv 9) aj))) av (aD _)) (af (qst 10 sc.nd (qcB aG T.z_len (ae (aN (aR hr) (qv 4) av pix) aj)))
  (af (aL (ci AZ A3 A4 aW (qv 6) (ae (qcl G_law_done hr D_law_done az (ae (qv 4) (ae (qv 9) aj))) aj)))
  (af (qst 7 sc.nd (qcB (qO rfl) z_max (ae (qv 7) (ae (au aK (qv 10) (qcT cF T.z_int (ae (cx jF (ar aJ (qv 9) ah pix) (aQ (ae av (ae av aj))) rfl) aj))) (ae (qcB aG T.z_len (ae (aN (aR hr) (qv 4) av pix) aj)) aj)))))
  (ak (aL (ci AZ A3 A4 aW (qv 5) (ae (qv 9) aj))))))) aE))))
  (ak (aF (aV (ae (qv 5) (ae (qv 4) (ae (qv 6) (ae (qv 7) aj)))))))))))),?_⟩
 refine ⟨z,rfl,fun st r td H1 hst hr0 htd O1 s1=>?_⟩
 refine ⟨sz0,fun dl hdl=>?_⟩
 refine gnew hdl fun H2 s2 g2=>?_
 refine ⟨sz0,fun ll hll=>?_⟩
 refine gnew hll fun H3 s3 g3=>?_
 have s13:=s2.trans s3
 have s03:=s1.trans s13
 have old:∀{b:Addr} {X Y:Hp},Same X Y->Y b=none->X b=none:=fun {b X Y} sm h=>by
  cases e:X b with
  | none=>rfl
  | some o=>rw [sm b o e] at h;cases h
 have fdl:H dl=none:=old s1 hdl
 have fll:H ll=none:=old (s1.trans s2) hll
 obtain ⟨xr,hxr,_⟩:=O1.hr
 have n1:r≠dl:=ap hxr hdl
 have n2:r≠ll:=ap (s2 _ _ hxr) hll
 have n3:dl≠ll:=ap g2 hll
 obtain ⟨up,hup⟩:=PL.there
 have npd:dl≠pl:=(ap hup fdl).symm
 have npl:ll≠pl:=(ap hup fll).symm
 have no:∀b,b≠pl->b∉[pl]:=fun b n z=>n (Ao z)
 refine ⟨_,rfl,Am,Am,dN (lo:=0) (n:=many) (fun i U H4=>∃ (r:Addr) (ds:List Deed) (dz lz:List V) (m:Int) (o8 o9 o10:Option V),U=[some (.ref pl),some (.ref nl),some (.int z),some (.int many),some (.ref st),some (.ref dl),some (.ref ll),some (.int m),o8,o9,o10]/\Fits z ds/\(∀d∈ds,d.inN nv)/\ds.length<=i/\H4 dl=some (.lst dz)/\DDs H4 dz ds/\H4 ll=some (.lst lz)/\lz.length=ds.length/\StAt H4 st r td (bV z ds) (bV z ds).looks/\Pile K H4 pl sr is/\Kept [pl] H H4/\H r=none/\r≠dl/\r≠ll) ⟨r,[],[],[],0,none,none,none,rfl,.nil,(fun _ h=>nomatch h),Av _,s3 _ _ g2,.nil,g3,rfl,O1.same s13,PL.same s03,Kept.of_same s03,hr0,n1,n2⟩ ?_ ?_⟩
 .rintro i U H4 hi ⟨r,ds,dz,lz,m,o8,o9,o10,rfl,ft,din,lds,h4d,dd4,h4l,llz,O4,P4,K4,fr4,nr1,nr2⟩
  have I4:=ft.inv
  have st4:=ft.stamp
  have tl4:=I4.tl
  have nrp:r≠pl:=(ap hup fr4).symm
  have hn4:=K4 _ _ hn (no _ nnp)
  refine ⟨pl,sr,is,st,r,td,nl,bV z ds,_,nv,rfl,P4,O4,hn4,an,ln,ft.inN din,AV ((ft.inN din).len I4.nd) ln,nrp,nnp,fun q dd H5 hq inn P5 K5=>?_⟩
  have O5:=O4.pl P4 nrp K5
  have K45:=K4.trans K5
  have t5:=dM P4 K5
  have h5d:=K5 _ _ h4d (no _ npd)
  have h5l:=K5 _ _ h4l (no _ npl)
  have dd5:=dd4.stay t5
  refine ⟨st,r,td,q,bV z ds,_,dd,rfl,O5,hq,fun c H6 s6 fit _=>⟨rfl,_,rfl,aU (fun c1=>?_) (fun c1=>?_)⟩⟩
  rotate_left
  .exact ⟨r,ds,dz,lz,m,_,_,_,rfl,ft,din,Am,s6 _ _ h5d,dd5.stay (fun b l h=>s6 _ _ h),s6 _ _ h5l,llz,O5.same s6,P5.same s6,K45.trans (Kept.of_same s6),fr4,nr1,nr2⟩
  have fit':=fit (V.str.inj (Bc c1))
  have O6:=O5.same s6
  have hq6:=s6 _ _ hq
  obtain ⟨xs6,hx6,rr6⟩:=O6.hr
  have h6d:=s6 _ _ h5d
  have h6l:=s6 _ _ h5l
  have dd6:=dd5.stay fun b l h=>s6 _ _ h
  have P6:=P5.same s6
  have K6:=K45.trans (Kept.of_same s6)
  refine ⟨st,_,rfl,O6.row,r,_,rfl,.inl (SqL.of hx6),?_⟩
  refine ⟨.inl ⟨rfl,lz,SqL.of h6l⟩,st,r,td,q,bV z ds,dd,rfl,O6,I4,Am,hq6,fit',fun lk r' H7 elk O7 k7 f7=>?_⟩
  obtain ⟨kt6,hd6,_⟩:=O6.ht
  have nl6:∀{b:Addr} {ys:List V},H6 b=some (.lst ys)->b≠r->b∉[st,r,td]:=fun {b ys} e n z=>by
   simp only [Aw,Ax,Bg] at z
   rcases z with y | y | y
   .rw [y,O6.hs] at e;cases e
   .exact n y
   .rw [y,hd6] at e;cases e
  have h7l:=k7 _ _ h6l (nl6 h6l nr2.symm)
  have h7d:=k7 _ _ h6d (nl6 h6d nr1.symm)
  have t7:=O6.tk k7 fun b hb=>hb
  have P7:Pile K H7 pl sr is:=P6.kept (F:=[st,r,td]) (fun b hb=>by
   simp only [Aw,Ax,Bg] at hb
   rcases hb with y | y | y
   .rw [y];exact P6.unlike O6.hs (fun _ z=>nomatch z) (fun _ _ z=>nomatch z)
   .rw [y];exact PL.new fr4
   .rw [y];exact P6.unlike hd6 (fun _ z=>nomatch z) (fun _ _ z=>nomatch z)) k7
  have K7:Kept [pl] H H7:=fun b o e nb=>k7 b o (K6 b o e nb) fun z=>by
   simp only [Aw,Ax,Bg] at z
   rcases z with y | y | y
   .rw [y,hst] at e;cases e
   .rw [y,fr4] at e;cases e
   .rw [y,htd] at e;cases e
  have nr1':r'≠dl:=by
   rcases f7 with y | y
   .rw [y];exact nr1
   .exact (ap h6d y).symm
  have nr2':r'≠ll:=by
   rcases f7 with y | y
   .rw [y];exact nr2
   .exact (ap h6l y).symm
  have fr7:H r'=none:=by
   rcases f7 with y | y
   .rw [y];exact fr4
   .cases e:H r' with
    | none=>rfl
    | some o =>
     by_cases w:r'=pl
     .obtain ⟨_,_,_,_,hp6,_⟩:=P6.to
      rw [w,hp6] at y;cases y
     .rw [K6 _ _ e (no _ w)] at y;cases y
  refine ⟨ll,lz,_,rfl,rfl,h7l,aH Am,?_⟩
  have k8:Kept [ll] H7 (upd H7 ll (.lst (lz++[.int lk]))):=Kept.refl.put An
  have g8:=ag (H:=H7) (a:=ll) (o:=.lst (lz++[.int lk]))
  generalize upd H7 ll (.lst (lz++[.int lk]))=H8 at k8 g8 ⊢
  have wl:∀{G1 G2:Hp} {b:Addr} {ys:List V},G1 b=some (.lst ys)->Kept [b] G1 G2->∀c l,G1 c=some (.tup l)->G2 c=some (.tup l):=fun {G1 G2 b ys} e kk c l h=>kk _ _ h (fun z=>by rw [Ao z,e] at h;cases h)
  have stW:∀{G1 G2:Hp} {b:Addr} {ys:List V} {sx:LS} {wx:Nat},StAt G1 st r' td sx wx->G1 b=some (.lst ys)->r'≠b->Kept [b] G1 G2->StAt G2 st r' td sx wx:=fun {G1 G2 b ys sx wx} OO e n kk=>by
   obtain ⟨kt,hd',_⟩:=OO.ht
   refine OO.stay (fun c o hc h=>kk _ _ h fun z=>?_) (wl e kk)
   have z':=Ao z
   rcases hc with y | y | y
   .rw [<-z',y,OO.hs] at e;cases e
   .exact n (y.symm.trans z')
   .rw [<-z',y,hd'] at e;cases e
  have O8:=stW O7 h7l nr2' k8
  have P8:Pile K H8 pl sr is:=P7.kept (F:=[ll]) (fun b hb=>by rw [Ao hb];exact PL.new fll) k8
  have K8:Kept [pl] H H8:=fun b o e nb=>k8 b o (K7 b o e nb) fun z=>by rw [Ao z,fll] at e;cases e
  have h8d:=k8 _ _ h7d (fun z=>n3 (Ao z))
  have t8:=wl h7l k8
  have hq8:=t8 _ _ (t7 _ _ hq6)
  have dd8:=(dd6.stay t7).stay t8
  obtain ⟨dn,more,edv⟩:=nQ dd
  have hq8':=hq8
  rw [edv] at hq8'
  have i0:atI (V.str dn::more) 0=some (V.str dn):=br (j:=0) rfl
  refine ⟨_,_,SqT.of hq8',i0,sz2,fun t ht=>?_⟩
  refine gnew ht fun H9 s9 g9=>?_
  have O9:=O8.same s9
  obtain ⟨xs9,hx9,_⟩:=O9.hr
  refine ⟨t,dn,["put","change"],rfl,rfl,SqT.of g9,.inr ⟨_,rfl,st,_,rfl,O9.row,r',_,rfl,.inl (SqL.of hx9),_,_,_,rfl,?_⟩⟩
  have h9d:=s9 _ _ h8d
  have ldz:dz.length=ds.length:=Bk dd4
  refine ⟨.inl ⟨rfl,dz,SqL.of h9d⟩,dl,dz,_,rfl,rfl,h9d,aH Am,?_⟩
  have kA:Kept [dl] H9 (upd H9 dl (.lst (dz++[.ref q]))):=Kept.refl.put An
  have gA:=ag (H:=H9) (a:=dl) (o:=.lst (dz++[.ref q]))
  generalize upd H9 dl (.lst (dz++[.ref q]))=HA at kA gA ⊢
  have OA:=stW O9 h9d nr1' kA
  have tA:=wl h9d kA
  have PA:Pile K HA pl sr is:=(P8.same s9).kept (F:=[dl]) (fun b hb=>by rw [Ao hb];exact PL.new fdl) kA
  have KA:Kept [pl] H HA:=fun b o e nb=>kA b o (s9 _ _ (K8 b o e nb)) fun z=>by rw [Ao z,fdl] at e;cases e
  refine ⟨r',ds++[dd],_,_,_,_,_,_,rfl,.snoc ft fit',fun d hd=>?_,by rw [As];show ds.length+1<=i+1;lia,gA,?_,kA _ _ (s9 _ _ g8) (fun z=>n3 (Ao z).symm),by rw [As,As,llz];rfl,by rw [bw];exact OA,PA,KA,fr7,nr1',nr2'⟩
  .rcases AU.mp hd with y | y
   .exact din d y
   .rw [Ao y];exact inn
  .exact Paired.snoc ((dd8.stay fun b l h=>s9 _ _ h).stay tA) ⟨q,rfl,tA _ _ (s9 _ _ hq8)⟩
 rintro U H4 ⟨r,ds,dz,lz,m,o8,o9,o10,rfl,ft,din,lds,h4d,dd4,h4l,llz,O4,P4,K4,fr4,nr1,nr2⟩
 refine ⟨sz4,fun o ho=>?_⟩
 have s5:=aq (o:=.lst [.ref dl,.ref st,.ref ll,.int m]) ho
 have fo:H o=none:=by
  cases e:H o with
  | none=>rfl
  | some u =>
   by_cases w:o=pl
   .obtain ⟨_,_,_,_,hp4,_⟩:=P4.to
    rw [w,hp4] at ho;cases ho
   .rw [K4 _ _ e (no _ w)] at ho;cases ho
 exact k o dl ll st r td ds dz lz m _ ag ft din lds (s5 _ _ h4d) (dd4.stay fun b l h=>s5 _ _ h) (O4.same s5) (P4.same s5) (K4.trans (Kept.of_same s5)) fo fdl hst htd fr4 nr1
abbrev mF:Stmt:=top 38
theorem pW:aA ["pile","way","slack"] ["pile"] (am mF):=fs0
def pA (K:W.Frag):Sp:=fun vs H Q _=>∃ (pl sr:Addr) (is:List Int),vs=[.ref pl]/\Pile K H pl sr is/\∀(o:Addr) (mn cn:Nat) (z:Int) (H':Hp),H' o=some (.lst [.int mn,.int cn,.int z])->1<=mn->mn<=64->cn<=180->0<=z->Pile K H' pl sr is->Kept [pl] H H'->Q (.ref o) H'
theorem t9 (F:Fun K "_law_sizes" "_law_sizes" mF f fd)(T:Bl mg)(G_law_next:aB P w K mg base CX0 1 fn fdn ["pile","most"] (cT K))(D_law_next:Nm K mg "_law_next" fn fdn ["pile","most"]):aB P w K mg base CX0 2 f fd ["pile"] (pA K):=by
 have sc:=pW
 refine F.okQ pW fun cdv A outer s_ H vs Q E hr h=>?_
 obtain ⟨pl,sr,is,rfl,PL,k⟩:=h
 have hu:=hr.units0
 refine ⟨_,(af (qst 1 sc.nd (qcl G_law_next hr D_law_next az (ae (qv 0) (ae ah aj))))
  (af (qst 2 sc.nd (ar aw (aV (ae ah (ae ah (ae ah (ae ah (ae ah (ae ah (ae ah (ae (au bH (au eQ ah ah) ah) aj))))))))) (qcl G_law_next hr D_law_next az (ae (qv 0) (ae ah aj))) pix))
  (af (aO (ay bz (qv 1) ah (aD _)) (ak (aF (aV (ae (au aK ah (qcl G_law_next hr D_law_next az (ae (qv 0) (ae ah aj)))) (ae (au aK ah (qcl G_law_next hr D_law_next az (ae (qv 0) (ae ah aj)))) (ae (qv 2) aj)))))) aE)
  (ak (aF (aV (ae (au aK ah (qcl G_law_next hr D_law_next az (ae (qv 0) (ae ah aj)))) (ae (au aK ah (qcl G_law_next hr D_law_next az (ae (qv 0) (ae ah aj)))) (ae (qv 2) aj))))))))),?_⟩
 refine ⟨pl,sr,is,8,rfl,PL,Ak,Ak,fun x H1 x0 x1 P1 K1 N1=>?_⟩
 refine ⟨⟨Ak,Ak,Ak⟩,sz8,fun l1 hl1=>?_⟩
 refine gnew hl1 fun H2 s2 g2=>?_
 have nl1:l1≠pl:=by
  obtain ⟨u,e⟩:=P1.there
  exact (ap e hl1).symm
 refine ⟨pl,sr,is,8,rfl,(P1.same s2),Ak,Ak,fun y H3 y0 y1 P3 K3 N3=>?_⟩
 obtain ⟨v,ev,mv⟩:=fJ (l:=([.int 0,.int 0,.int 1,.int 2,.int 5,.int 40,.int 100,.int ((10:Int) ^ (30:Int).toNat-1)]:List V)) (i:=y) y0 y1
 obtain ⟨z,rfl,z0⟩:∃ z:Int,v=.int z/\0<=z:=by
  simp only [Aw,Ax,Bg] at mv
  rcases mv with h | h | h | h | h | h | h | h <;> exact ⟨_,h,Ak⟩
 refine ⟨_,_,SqL.of (K3 _ _ g2 (fun q=>nl1 (Ao q))),ev,?_⟩
 have K13:=(K1.trans (Kept.of_same s2)).trans K3
 refine ⟨rfl,_,rfl,aU (fun _=>?_) (fun _=>?_)⟩
 .refine ⟨pl,sr,is,45,rfl,P3,Ak,Ak,fun u H4 u0 u1 P4 K4 N4=>?_⟩
  refine ⟨pl,sr,is,60,rfl,P4,Ak,Ak,fun t H5 t0 t1 P5 K5 N5=>?_⟩
  refine ⟨sz3,fun o ho=>?_⟩
  have e1:(20:Int)+u=(((20+u).toNat:Nat):Int):=by lia
  have e2:(120:Int)+t=(((120+t).toNat:Nat):Int):=by lia
  have g6:=ag (H:=H5) (a:=o) (o:=.lst [.int (20+u),.int (120+t),.int z])
  refine k o (20+u).toNat (120+t).toNat z _ ?_ Am Am Am z0 (P5.same (aq ho)) (((K13.trans K4).trans K5).new ho)
  rw [<-e1,<-e2]
  exact g6
 refine ⟨pl,sr,is,12,rfl,P3,Ak,Ak,fun u H4 u0 u1 P4 K4 N4=>?_⟩
 refine ⟨pl,sr,is,50,rfl,P4,Ak,Ak,fun t H5 t0 t1 P5 K5 N5=>?_⟩
 refine ⟨sz3,fun o ho=>?_⟩
 have e1:(1:Int)+u=(((1+u).toNat:Nat):Int):=by lia
 have e2:(5:Int)+t=(((5+t).toNat:Nat):Int):=by lia
 have g6:=ag (H:=H5) (a:=o) (o:=.lst [.int (1+u),.int (5+t),.int z])
 refine k o (1+u).toNat (5+t).toNat z _ ?_ Am Am Am z0 (P5.same (aq ho)) (((K13.trans K4).trans K5).new ho)
 rw [<-e1,<-e2]
 exact g6
def _root_.L2.Deed.sh:Deed->Prop
 | .put n _=>n.length<=20
 | .drop n=>n.length<=20
 | .change n _=>n.length<=20
 | _=>True
theorem zI (an:lB nv)(h:d.inN nv):d.sh:=by
 have q:∀n:Str,V.str n∈nv->n.length<=20:=fun n m=>by
  obtain ⟨x,e,l⟩:=an _ m
  cases e
  exact l
 cases d <;> first | exact q _ h | trivial
abbrev nY:Stmt:=bg (top 15) 7
theorem pY:aA ["self"] ["self"] (am nY):=fs0
def ox (C:Addr):Sp:=fun vs H Q _=>∃ (p d l:Addr) (s:LS),vs=[.ref p]/\LateAt C H p d l s/\Q (.int s.looks) H
theorem wo (F:Fun K "work" "Late.work" nY f fd)(T:Bl mg)(L:LT K C):aB P w K mg base CX0 1 f fd ["self"] (ox C):=by
 have sc:=pY
 refine F.ok pY fun cdv A outer s H vs Q E hr h=>?_
 obtain ⟨p,d,l,s,rfl,LA,kQ⟩:=h
 obtain ⟨dx,hp⟩:=LA.ob
 refine ⟨_,(QSs.to (ak (aF (a9 (qv 0) rfl)))),?_⟩
 exact ⟨p,C,dx,_,_,rfl,hp,L.cl,L.lk,pP,kQ⟩
def xOf (CC CN:Addr):Deed->Addr
 | .put _ _=>CC
 | _=>CN
abbrev nW:Stmt:=top 21
theorem pJ:aA ["heap","deed"] ["heap","deed"] (am nW):=fs0
def pV (C:Addr):Sp:=fun vs H Q E=>∃ (p d l q:Addr) (s:LS) (dd:Deed),vs=[.ref p,.ref q]/\LateAt C H p d l s/\Gm.LInv slt s/\s.stamp<=800/\H q=some (.tup dd.v)/\dd.sh /\
 (dd.fit s->∀v l' H',LateAt C H' p d l' (aY s dd).1->Kept [p,d,l] H H'->Fr3 H l l'->Q v H')/\(¬ dd.fit s->False)
theorem ur {fput fdrop fchange ftake fleast:Addr}{fdput fddrop fdchange fdtake fdleast:FuncData}(F:Fun K "carry_out" "carry_out" nW f fd)(T:Bl mg)(L:LT K C)(Mput:b8 K C "put" fput)(Gput:aB P w K mg base CX0 5 fput fdput ["self","name","worth"] (sC C))(Bput:Binds K fdput ["self","name","worth"] [])(Mdrop:b8 K C "drop" fdrop)(Gdrop:aB P w K mg base CX0 5 fdrop fddrop ["self","name"] (pU C))(Bdrop:Binds K fddrop ["self","name"] [])(Mchange:b8 K C "change" fchange)(Gchange:aB P w K mg base CX0 5 fchange fdchange ["self","name","worth"] (jb C))(Bchange:Binds K fdchange ["self","name","worth"] [])(Mtake:b8 K C "take" ftake)(Gtake:aB P w K mg base CX0 6 ftake fdtake ["self"] (oy C))(Btake:Binds K fdtake ["self"] [])(Mleast:b8 K C "least" fleast)(Gleast:aB P w K mg base CX0 6 fleast fdleast ["self"] (lG C))(Bleast:Binds K fdleast ["self"] []):
  aB P w K mg base CX0 7 f fd ["heap","deed"] (pV C):=by
 have sc:=pJ
 refine F.okQ pJ fun cdv A outer s_ H vs Q E hr h=>?_
 obtain ⟨p,d,l,q,s,dd,rfl,LA,LI,st,hq,shd,kQ,kE⟩:=h
 have hu:=hr.units0
 refine ⟨_,(af (aO (ay bz (ar aJ (qv 1) ah pix) av (aD _)) (ak (aF (bO (qv 0) L.cl Mput Gput hr.mo Bput .nil az (ae (ar aJ (qv 1) ah pix) (ae (ar aJ (qv 1) ah pix) aj))))) aE)
  (af (aO (ay bz (ar aJ (qv 1) ah pix) av (aD _)) (ak (aF (bO (qv 0) L.cl Mdrop Gdrop hr.mo Bdrop .nil az (ae (ar aJ (qv 1) ah pix) aj)))) aE)
  (af (aO (ay bz (ar aJ (qv 1) ah pix) av (aD _)) (ak (aF (bO (qv 0) L.cl Mchange Gchange hr.mo Bchange .nil az (ae (ar aJ (qv 1) ah pix) (ae (ar aJ (qv 1) ah pix) aj))))) aE)
  (af (aO (ay bz (ar aJ (qv 1) ah pix) av (aD _)) (ak (aF (bn (qv 0) L.cl Mtake Gtake hr.mo Btake .nil az))) aE)
  (ak (aF (bn (qv 0) L.cl Mleast Gleast hr.mo Bleast .nil az))))))),?_⟩
 obtain ⟨dx,hp⟩:=LA.ob
 have r1:=LI.len
 have r2:=LI.tl
 have nn:∀{n:Str},Gm.dget s.there n≠none->(Gm.dget s.there n).isSome=true:=fun {n} h=>by
  cases y:Gm.dget s.there n with
  | none=>exact absurd y h
  | some _=>rfl
 cases dd with
 | put n w =>
  refine ⟨_,_,SqT.of hq,rfl,rfl,_,rfl,db ?_⟩
  refine ⟨p,dx,_,rfl,hp,lfn,_,_,SqT.of hq,rfl,_,_,SqT.of hq,rfl,p,d,l,s,n,w,rfl,LA,Am,Am,AV shd Ak,fun fr l' H3 L3 k3 f3=>?_,fun cs=>kE cs⟩
  refine kQ fr _ l' H3 ?_ k3 f3
  show LateAt C H3 p d l' (if (Gm.dget s.there n).isSome=true then (s,Ans.clash) else (Gm.putL slt s n w,Ans.non)).1
  rw [fr];exact L3
 | drop n =>
  refine ⟨_,_,SqT.of hq,rfl,rfl,_,rfl,aZ ?_⟩
  refine ⟨_,_,SqT.of hq,rfl,rfl,_,rfl,db ?_⟩
  refine ⟨p,dx,_,rfl,hp,lfn,_,_,SqT.of hq,rfl,p,d,l,s,n,rfl,LA,Am,Am,AV shd Ak,fun fr l' H3 L3 k3 f3=>?_,fun cs=>kE fun z=>z cs⟩
  refine kQ fr _ l' H3 ?_ k3 f3
  show LateAt C H3 p d l' (if (Gm.dget s.there n).isSome=true then (Gm.dropL slt s n,Ans.non) else (s,Ans.nothing)).1
  rw [Az (nn fr)];exact L3
 | change n w =>
  refine ⟨_,_,SqT.of hq,rfl,rfl,_,rfl,aZ ?_⟩
  refine ⟨_,_,SqT.of hq,rfl,rfl,_,rfl,aZ ?_⟩
  refine ⟨_,_,SqT.of hq,rfl,rfl,_,rfl,db ?_⟩
  refine ⟨p,dx,_,rfl,hp,lfn,_,_,SqT.of hq,rfl,_,_,SqT.of hq,rfl,p,d,l,s,n,w,rfl,LA,Am,Am,AV shd Ak,fun fr l' H3 L3 k3 f3=>?_,fun cs=>kE fun z=>z cs⟩
  refine kQ fr _ l' H3 ?_ k3 f3
  show LateAt C H3 p d l' (if (Gm.dget s.there n).isSome=true then (Gm.putL slt s n w,Ans.non) else (s,Ans.nothing)).1
  rw [Az (nn fr)];exact L3
 | take =>
  refine ⟨_,_,SqT.of hq,rfl,rfl,_,rfl,aZ ?_⟩
  refine ⟨_,_,SqT.of hq,rfl,rfl,_,rfl,aZ ?_⟩
  refine ⟨_,_,SqT.of hq,rfl,rfl,_,rfl,aZ ?_⟩
  refine ⟨_,_,SqT.of hq,rfl,rfl,_,rfl,db ?_⟩
  refine ⟨p,dx,_,rfl,hp,lfn,p,d,l,s,rfl,LA,LI,Am,fun fr q' l' H3 L3 hq3 k3 f3=>?_,fun cs=>kE fun z=>z cs⟩
  refine kQ fr _ l' H3 ?_ k3 f3
  show LateAt C H3 p d l' (if s.there=[] then (s,Ans.nothing) else (Gm.takeL slt s,Ans.pair (_root_.L2.hd s).w (_root_.L2.hd s).n)).1
  rw [Ay fr];exact L3
 | least =>
  refine ⟨_,_,SqT.of hq,rfl,rfl,_,rfl,aZ ?_⟩
  refine ⟨_,_,SqT.of hq,rfl,rfl,_,rfl,aZ ?_⟩
  refine ⟨_,_,SqT.of hq,rfl,rfl,_,rfl,aZ ?_⟩
  refine ⟨_,_,SqT.of hq,rfl,rfl,_,rfl,aZ ?_⟩
  refine ⟨p,dx,_,rfl,hp,lfn,p,d,l,s,rfl,LA,LI,Am,fun fr q' H3 L3 hq3 k3=>?_,fun cs=>kE fun z=>z cs⟩
  refine kQ fr _ l H3 ?_ k3 (.inl rfl)
  show LateAt C H3 p d l (if s.there=[] then (s,Ans.nothing) else (Gm.leastL slt s,Ans.pair (_root_.L2.hd s).w (_root_.L2.hd s).n)).1
  rw [Ay fr];exact L3
theorem kN {s t:LS}(h:Sim s t):Sim t s:=⟨h.row.symm,h.lk.symm,h.st.symm,h.sl.symm,⟨h.tw.n2,h.tw.n1,fun p=>(h.tw.mem p).symm⟩⟩
def dt:Deed->Nat
 | .put _ _=>0
 | .drop _=>1
 | .change _ _=>2
 | .take=>3
 | .least=>4
def paysK:List (Str×Int):=[("put",0),("drop",1),("change",2),("take",3),("least",4)]
theorem yu (d:Deed):∃ n more,d.v=.str n::more/\paysK.lookup n=some ((dt d:Nat):Int)/\dt d<5:=by
 cases d <;> exact ⟨_,_,rfl,rfl,by simp only [dt];decide⟩
structure LSt where
 t:LS
 p:Int
 rows:List (Int×Int)
def bQ (fs:List Int)(a:LSt)(d:Deed):LSt :=
 ⟨(aY a.t d).1,a.p+fs.getD (dt d) 0-(((aY a.t d).1.looks:Int)-(a.t.looks:Int)),a.rows++[(((aY a.t d).1.looks:Int)-(a.t.looks:Int),a.p+fs.getD (dt d) 0-(((aY a.t d).1.looks:Int)-(a.t.looks:Int)))]⟩
def led (z:Int)(fs:List Int)(ds:List Deed):LSt:=ds.foldl (bQ fs) ⟨Gm.newL z,0,[]⟩
theorem hG {fs:List Int}:led z fs (ds++[d])=bQ fs (led z fs ds) d:=by unfold led;rw [Eh];rfl
theorem tI {fs:List Int}(ds:List Deed):(led z fs ds).t=bE z ds:=by
 unfold led bE
 suffices h:∀(a:LSt),(ds.foldl (bQ fs) a).t=ds.foldl (fun t d=>(aY t d).1) a.t from h _
 induction ds with
 | nil=>intro a;rfl
 | cons d ds ih=>intro a;exact ih _
theorem bP {fs:List Int}(ds:List Deed):(led z fs ds).rows.length=ds.length:=by
 unfold led
 suffices h:∀(a:LSt),(ds.foldl (bQ fs) a).rows.length=a.rows.length+ds.length by
  have:=h ⟨Gm.newL z,0,[]⟩
  rw [this];exact FX _
 induction ds with
 | nil=>intro a;rfl
 | cons d ds ih =>
  intro a
  rw [Do,ih,A8]
  show (a.rows++[_]).length+_=_
  rw [As]
  show a.rows.length+1+_=_
  lia
structure LedAt (H:Hp)(zs dz:List V)(rows:List (Int×Int)):Prop where
 len:zs.length=rows.length
 at_:∀(i:Nat) (v x:V) (r:Int×Int),zs[i]?=some v->dz[i]?=some x->rows[i]?=some r->∃ a:Addr,v=.ref a/\H a=some (.tup [x,.int r.1,.int r.2])
theorem LedAt.nil:LedAt H [] dz []:=⟨rfl,fun i v x r e=>by cases e⟩
theorem LedAt.stay (h:LedAt H zs dz rows)(k:∀b l,H b=some (.tup l)->H' b=some (.tup l)):LedAt H' zs dz rows:=⟨h.len,fun i v x r e1 e2 e3=>by
 obtain ⟨a,e,ha⟩:=h.at_ i v x r e1 e2 e3
 exact ⟨a,e,k _ _ ha⟩⟩
theorem LedAt.snoc {x:V}{r:Int×Int}(h:LedAt H zs dz rows)(hx:dz[zs.length]?=some x)(ha:H a=some (.tup [x,.int r.1,.int r.2])):LedAt H (zs++[.ref a]) dz (rows++[r]):=by
 refine ⟨by rw [As,As,h.len];rfl,fun i v y q e1 e2 e3=>?_⟩
 by_cases z:i<zs.length
 .rw [AW z] at e1
  rw [AW (by rw [<-h.len];exact z)] at e3
  exact h.at_ i v y q e1 e2 e3
 have lk:=(Au.mp e1).1
 rw [As] at lk
 have h1:([V.ref a]:List V).length=1:=rfl
 have ek:i=zs.length:=by lia
 subst ek
 rw [AG (Av _),Dp] at e1
 rw [h.len,AG (Av _),Dp] at e3
 rw [hx] at e2
 cases e1
 cases e2
 cases e3
 exact ⟨a,rfl,ha⟩
def qY (H:Hp)(a:Addr)(xs:List V):Prop:=H a=some (.lst xs)∨H a=some (.tup xs)
theorem vE {g:TG}{D:iq}(ha:qY H a xs)(Pv:Nat->St->Hp->Prop)(h0:Pv 0 U H)(kp:∀i σ' H',Pv i σ' H'->∀o,H a=some o->H' a=some o)(hs:∀i x U H,xs[i]?=some x->Pv i U H->g x U H fun σ2 H2=>tb { D with nx:=Pv (i+1),ct:=Pv (i+1),bk:=D.nx } σ2 H2)(hd:∀U H,Pv xs.length U H->D.nx U H):
  ((∃ xs,SqL K H a xs)/\FW (Itl K a) g tb D U H) ∨
  ((∃ xs,SqT K H a xs)/\FW (Itt K a) g tb D U H):=by
 rcases ha with h | h
 .exact .inl ⟨⟨_,SqL.of h⟩,gY Pv h0 (fun i σ' H' _ p=>SqL.of (kp i σ' H' p _ h)) hs hd⟩
 exact .inr ⟨⟨_,SqT.of h⟩,vk Pv h0 (fun i σ' H' _ p=>SqT.of (kp i σ' H' p _ h)) hs hd⟩
abbrev iF:Stmt:=top 20
theorem jf:aA ["deeds","slack","tariff","heap","purse","lines","deed","before","work"] ["deeds","slack","tariff"] (am iF):=fs0
def cN (C:Addr):Sp:=fun vs H Q E=>∃ (dl fl:Addr) (dz:List V) (ds:List Deed) (fs:List Int) (z:Int),vs=[.ref dl,.int z,.ref fl]/\qY H dl dz/\DDs H dz ds/\(∀x∈ds,x.sh)/\ds.length<=700/\H fl=some (.tup (fs.map V.int))/\fs.length=5 /\
 Fits z ds/\∀q zs H',H' q=some (.tup zs)->LedAt H' zs dz (led z fs ds).rows->Same H H'->Q (.ref q) H'
theorem ng {dP fI fc fwork:Addr}{fdI fdc fdwork:FuncData}(F:Fun K "written" "written" iF f fd)(T:Bl mg)(L:LT K C)(mPAYS:mg "PAYS"=some (.ref dP))(SP:uh w K dP paysK)(mLate:mg "Late"=some (.ref C))(MkLate:Mk K C fI)(GLate__init__:aB P w K mg base CX0 2 fI fdI ["self","slack"] (pM C))(BLate__init__:Binds K fdI ["self","slack"] [])(Mwork:b8 K C "work" fwork)(Gwork:aB P w K mg base CX0 1 fwork fdwork ["self"] (ox C))(Bwork:Binds K fdwork ["self"] [])(Gcarry_out:aB P w K mg base CX0 7 fc fdc ["heap","deed"] (pV C))(Dcarry_out:Nm K mg "carry_out" fc fdc ["heap","deed"]):
  aB P w K mg base CX0 8 f fd ["deeds","slack","tariff"] (cN C):=by
 have sc:=jf
 refine F.okQ jf fun cdv A outer s_ H vs Q E hr h=>?_
 obtain ⟨dl,fl,dz,ds,fs,z,rfl,hdl,dd0,sh,lds,hfl,lfs,md⟩:=h
 have hu:=hr.units0
 have ldz:dz.length=ds.length:=Bk dd0
 refine ⟨_,(af (qst 3 sc.nd (vh MkLate GLate__init__ hr.mo rfl mLate BLate__init__ .nil az (ae (qv 1) aj)))
  (af (qst 4 sc.nd ah)
  (af (qst 5 sc.nd (aV aj))
  (af (c6 Bz rfl (yD (qv 0)) (bu (i:=6) sc.nd rfl (Or.inl rfl)) (af (qst 7 sc.nd (bn (qv 3) L.cl Mwork Gwork hr.mo Bwork .nil az))
  (af (aL (qcl Gcarry_out hr Dcarry_out az (ae (qv 3) (ae (qv 6) aj))))
  (af (qst 8 sc.nd (au bH (bn (qv 3) L.cl Mwork Gwork hr.mo Bwork .nil az) (qv 7)))
  (af (qst 4 sc.nd (au bH (au aK (qv 4) (ar aJ (qv 2) (uY SP (ph (v:=.ref dP) rfl mPAYS rfl) (ar aJ (qv 6) ah pix) pix) pix)) (qv 8)))
  (ak (aL (ci AZ A3 A4 aW (qv 5) (ae (aQ (ae (qv 6) (ae (qv 8) (ae (qv 4) aj)))) aj)))))))))
  (ak (aF (qcT b9 T.z_tuple (ae (qv 5) aj)))))))),?_⟩
 refine (fun p dx hp hdx ndx=>?_)
 refine ⟨p,dx,z,rfl,ag,fun d l H1 hd0 hl0 LA1 k1=>⟨rfl,?_⟩⟩
 have fr:∀b o,H b=some o->(upd (upd H dx (.own p)) p (.ins C dx [])) b=some o:=fun b o e=>by rw [ao (ap e hp),ao (ap e hdx)];exact e
 have s1:Same H H1:=fun b o e=>k1 b o (fr b o e) (fun z=>ap e hp (Ao z))
 have nd:H d=none:=by
  cases e:H d with
  | none=>rfl
  | some o=>rw [fr _ _ e] at hd0;cases hd0
 have nl:H l=none:=by
  cases e:H l with
  | none=>rfl
  | some o=>rw [fr _ _ e] at hl0;cases hl0
 refine ⟨sz0,fun tl htl=>?_⟩
 have s2:=aq (o:=.lst []) htl
 have g2:=ag (H:=H1) (a:=tl) (o:=.lst [])
 have LA2:=LA1.same s2
 have ntl:H tl=none:=by
  cases e:H tl with
  | none=>rfl
  | some o=>rw [s1 _ _ e] at htl;cases htl
 have ntl2:tl≠l:=by
  obtain ⟨_,e,_⟩:=LA1.ls
  exact fun q=>by rw [q,e] at htl;cases htl
 replace s1:=s1.trans s2
 generalize upd H1 tl (.lst [])=H2 at s2 g2 LA2 s1 ⊢
 have sq2:qY H2 dl dz:=hdl.imp (s1 _ _) (s1 _ _)
 refine ⟨dl,rfl,vE sq2 (fun i U H3=>∃ (l3:Addr) (zs:List V) (o6 o7 o8:Option V),U=[some (.ref dl),some (.int z),some (.ref fl),some (.ref p),some (.int (led z fs (ds.take i)).p),some (.ref tl),o6,o7,o8]/\Fits z (ds.take i)/\LateAt C H3 p d l3 (bE z (ds.take i))/\H3 tl=some (.lst zs)/\LedAt H3 zs dz (led z fs (ds.take i)).rows/\Same H H3/\H l3=none/\tl≠l3)
  ⟨l,[],none,none,none,rfl,.nil,LA2,g2,LedAt.nil,s1,nl,ntl2⟩ (fun i σ' H' ⟨_,_,_,_,_,_,_,_,_,_,z,_⟩ o e=>?_) ?_ ?_⟩
 .rcases hdl with h | h
  .rw [s1 _ _ h] at e;cases e;exact z _ _ h
  .rw [s1 _ _ h] at e;cases e;exact z _ _ h
 .rintro i x U H3 hx ⟨l3,zs,o6,o7,o8,rfl,ft,LA3,h3,led3,s3,nl3,ntl3⟩
  obtain ⟨de,ede,q,rfl,hq0⟩:=qz dd0 hx
  have hi:i<ds.length:=(Au.mp ede).1
  have et:ds.take (i+1)=ds.take i++[de]:=by rw [BR,ede];rfl
  have sim:=ft.sim
  have IL:=ft.invL
  have st:=ft.stamp
  rw [sim.st] at st
  have lti:(ds.take i).length<=i:=Dd _ _
  have shd:=sh de (AQ ede)
  have hq:=s3 _ _ hq0
  obtain ⟨dx3,hp3⟩:=LA3.ob
  refine ⟨p,dx3,_,rfl,hp3,lfn,p,d,l3,_,rfl,LA3,?_⟩
  refine ⟨p,d,l3,q,_,de,rfl,LA3,IL,Am,hq,shd,fun fit v l4 H4 LA4 k4 f4=>?_,fun nf=>?_⟩
  .have Lt:(led z fs (ds.take i)).t=bE z (ds.take i):=tI _
   have fitS:de.fit (bV z (ds.take i)):=by
    exact (kN sim).fit fit
   have ft':Fits z (ds.take (i+1)):=by rw [et];exact ft.snoc fitS
   have eL:led z fs (ds.take (i+1))=bQ fs (led z fs (ds.take i)) de:=by rw [et,hG]
   have eR:bE z (ds.take (i+1))=(aY (bE z (ds.take i)) de).1:=by rw [et,bL]
   have s4:Same H H4:=fun b o e=>k4 b o (s3 b o e) fun zz=>by
    simp only [Aw,Ax,Bg] at zz
    rcases zz with y | y | y
    .rw [y,hp] at e;cases e
    .rw [y,nd] at e;cases e
    .rw [y,nl3] at e;cases e
   have nin:tl∉[p,d,l3]:=fun zz=>by
    simp only [Aw,Ax,Bg] at zz
    obtain ⟨_,hd3,_⟩:=LA3.dc
    rcases zz with y | y | y
    .rw [y,hp3] at h3;cases h3
    .rw [y,hd3] at h3;cases h3
    .exact ntl3 y
   have h4:=k4 _ _ h3 nin
   have tk:∀b l,H3 b=some (.tup l)->H4 b=some (.tup l):=k4.tups LA3.notup
   have led4:=led3.stay tk
   have hq4:=tk _ _ hq
   have hfl4:=s4 _ _ hfl
   have nl4:H l4=none:=by
    rcases f4 with y | y
    .rw [y];exact nl3
    .cases e:H l4 with
     | none=>rfl
     | some o=>rw [s3 _ _ e] at y;cases y
   have ntl4:tl≠l4:=by
    rcases f4 with y | y
    .rw [y];exact ntl3
    .exact fun zz=>by rw [<-zz,h3] at y;cases y
   obtain ⟨dx4,hp4⟩:=LA4.ob
   refine ⟨p,dx4,_,rfl,hp4,lfn,p,d,l4,_,rfl,LA4,?_⟩
   obtain ⟨n,more,ev,lk,l5⟩:=yu de
   rw [ev] at hq4
   have efs:(fs.map V.int)[dt de]?=some (.int (fs.getD (dt de) 0)):=by
    rw [AS,AD,tx Am];rfl
   refine ⟨_,_,SqT.of hq4,(by exact br (j:=0) rfl),n,_,rfl,rfl,lk,_,_,SqT.of hfl4,br efs,?_⟩
   have lzs:zs.length=i:=by rw [led4.len,bP,A0];lia
   refine ⟨.inl ⟨rfl,_,SqL.of h4⟩,sz3,fun a ha=>?_⟩
   have s5:=aq (o:=.tup [.ref q,.int (((aY (bE z (ds.take i)) de).1.looks:Int)-((bE z (ds.take i)).looks:Int)),.int ((led z fs (ds.take i)).p+fs.getD (dt de) 0-(((aY (bE z (ds.take i)) de).1.looks:Int)-((bE z (ds.take i)).looks:Int)))]) ha
   refine ⟨tl,_,_,rfl,rfl,s5 _ _ h4,aH Am,?_⟩
   have tk6:∀(H5:Hp) b l,H5 tl=some (.lst zs)->H5 b=some (.tup l)->(upd H5 tl (.lst (zs++[.ref a]))) b=some (.tup l):=fun H5 b l e1 e2=>by rw [ao (bv e2 e1 (by intro y;cases y))];exact e2
   refine ⟨l4,zs++[.ref a],some (.ref q),some (.int ((bE z (ds.take i)).looks:Int)),some (.int (((aY (bE z (ds.take i)) de).1.looks:Int)-((bE z (ds.take i)).looks:Int))),?_,ft',?_,ag,?_,fun b o e=>?_,nl4,ntl4⟩
   .rw [eL];unfold bQ;rw [Lt];rfl
   .rw [eR]
    refine (LA4.same s5).stay (fun b o hb e=>?_) (fun b l e=>tk6 _ b l (s5 _ _ h4) e)
    rw [ao (fun y=>?_)]
    .exact e
    .obtain ⟨_,hd4,_⟩:=LA4.dc
     rcases hb with w | w | w
     .rw [<-y,w,hp4] at h4;cases h4
     .rw [<-y,w,hd4] at h4;cases h4
     .exact ntl4 (y.symm.trans w)
   .rw [eL];unfold bQ;rw [Lt]
    exact ((led4.stay fun b l e=>s5 b _ e).snoc (by rw [lzs];exact hx) ag).stay (fun b l e=>tk6 _ b l (s5 _ _ h4) e)
   .rw [ao (ap e ntl)]
    exact s5 _ _ (s4 b o e)
  .exact absurd (sim.fit (md.1.at ede).2) nf
 rintro U H3 ⟨l3,zs,o6,o7,o8,rfl,ft,LA3,h3,led3,s3,nl3,ntl3⟩
 rw [ldz,Bx] at ft led3
 obtain ⟨_,k⟩:=md
 refine ⟨tl,_,rfl,.inl ⟨SqL.of h3,fun q hq=>?_⟩⟩
 have s4:=aq (o:=.tup zs) hq
 exact k q zs _ ag (led3.stay fun b l e=>s4 b _ e) (s3.trans s4)
abbrev ip:Stmt:=top 18
theorem jm:aA ["deeds","slack","tariff"] ["deeds","slack","tariff"] (am ip):=fs0
theorem qu {fw_:Addr}(F:Fun K "ledger" "ledger" ip f fd)(T:Bl mg)(Gwritten:aB P w K mg base CX0 8 fw_ fdw ["deeds","slack","tariff"] (cN C))(Dwritten:Nm K mg "written" fw_ fdw ["deeds","slack","tariff"]):
  aB P w K mg base CX0 9 f fd ["deeds","slack","tariff"] (cN C):=by
 have sc:=jm
 refine F.okQ jm fun cdv A outer s_ H vs Q E hr h=>?_
 obtain ⟨dl,fl,dz,ds,fs,z,rfl,r⟩:=h
 have hu:=hr.units0
 refine ⟨_,(ak (aF (qcl Gwritten hr Dwritten az (ae (qv 0) (ae (qv 1) (ae (qv 2) aj)))))),?_⟩
 exact ⟨dl,fl,dz,ds,fs,z,rfl,r⟩
theorem fj (h:DDs H zs ds){v:V}(k:∃ a,v=.ref a/\H a=some (.tup d.v)):DDs H (zs++[v]) (ds++[d]):=by
 induction h with
 | nil=>exact .cons k .nil
 | cons r _ ih=>exact .cons r ih
theorem va {zs':List V}{ds':List Deed}(h:DDs H zs ds)(h':DDs H zs' ds'):DDs H (zs++zs') (ds++ds'):=by
 induction h with
 | nil=>exact h'
 | cons r _ ih=>exact .cons r ih
def Wn (ns:List Str)(B:Nat)(wy:Int)(j:Nat)(ds:List Deed):Prop :=
 (wy=0/\(∀z,Has z ds ns)/\ds.length<=B+j)∨(wy=1/\(∀z,Has z ds (ns.drop j))/\ds.length<=B+j)∨(wy=2/\(∀z,Has z ds ns)/\ds.length<=B+2*j) ∨
 (wy=3/\(∀z,∃ S,Has z ds S/\S.length=ns.length-j/\S.Nodup)/\ds.length<=B+j)
abbrev lA:Stmt:=top 39
theorem uF:aA ["pile","names","deeds","turn","way","name"] ["pile","names"] (am lA):=fs0
def tG (K:W.Frag):Sp:=fun vs H Q _=>∃ (pl sr:Addr) (is:List Int) (nl:Addr) (ns:List Str),vs=[.ref pl,.ref nl]/\Pile K H pl sr is/\H nl=some (.lst (ns.map V.str))/\ns.Nodup/\ns.length<=200/\nl≠pl /\
 ∀(dl:Addr) (dz:List V) (ds:List Deed) (H':Hp),H' dl=some (.lst dz)->DDs H' dz ds->(∀z,Fits z ds)->(∀d∈ds,d.inN (ns.map V.str))->ds.length<=3000->Pile K H' pl sr is->Kept [pl] H H'->Q (.ref dl) H'
theorem vb {fw_:Addr}(F:Fun K "_law_worn" "_law_worn" lA f fd)(T:Bl mg)(G_law_next:aB P w K mg base CX0 1 fn fdn ["pile","most"] (cT K))(D_law_next:Nm K mg "_law_next" fn fdn ["pile","most"])(G_law_worth:aB P w K mg base CX0 2 fw_ fdw ["pile"] (ie K))(D_law_worth:Nm K mg "_law_worth" fw_ fdw ["pile"]):aB P w K mg base CX0 3 f fd ["pile","names"] (tG K):=by
 have sc:=uF
 refine F.okQ uF fun cdv A outer s_ H vs Q E hr h=>?_
 obtain ⟨pl,sr,is,nl,ns,rfl,PL,hnl,nd,ln,nnp,k⟩:=h
 have hu:=hr.units0
 refine ⟨_,(af (bX (i:=2) sc.nd rfl (Or.inl rfl) (Blk.of (N:=["pile","names","deeds","turn","way","name"]) (esc:=am lA) (NB:=["pile"]) (cap:=[0]) rfl rfl (fun y hy=>aM hy) rfl Aj Aj Aj rfl Aj rfl Aj) rfl rfl (cA (qv 1)) (fun C fp s₀ H₀=>a7) (fun C fp s₀ H₀=>(aQ (ae av (ae (qv 0) (ae (qcl G_law_worth hr D_law_worth az (ae (qv 1) aj)) aj))))))
  (af (c6 Bz rfl (bx rfl T.z_range (ae (au aK ah (qcl G_law_next hr D_law_next az (ae (qv 0) (ae ah aj)))) aj)) (bu (i:=3) sc.nd rfl (Or.inl rfl)) (af (qst 4 sc.nd (qcl G_law_next hr D_law_next az (ae (qv 0) (ae ah aj))))
  (af (c6 Bz rfl (cA (qv 1)) (bu (i:=5) sc.nd rfl (Or.inl rfl)) (af (aO (ay bz (qv 4) ah (aD _)) (ak (aL (ci AZ A3 A4 aW (qv 2) (ae (aQ (ae av (ae (qv 5) (ae (qcl G_law_worth hr D_law_worth az (ae (qv 0) aj)) aj)))) aj)))) aE)
  (af (aO (ay bz (qv 4) ah (aD _)) (ak (aL (ci AZ A3 A4 aW (qv 2) (ae (aQ (ae av (ae (qv 5) aj))) aj)))) aE)
  (af (aO (ay bz (qv 4) ah (aD _)) (af (aL (ci AZ A3 A4 aW (qv 2) (ae (aQ (ae av (ae (qv 5) (ae (au aK (au eQ ah ah) (qv 3)) aj)))) aj)))
  (ak (aL (ci AZ A3 A4 aW (qv 2) (ae (aQ (ae av aj)) aj))))) aE)
  (ak (aO (ay bz (qv 4) ah (aD _)) (ak (aL (ci AZ A3 A4 aW (qv 2) (ae (aQ (ae av aj)) aj)))) aE))))))
  (ak (aO (jO (QW.pt (xc (ay bz (qv 4) ah (aD _)) (rW (ay bz (qv 4) ah (aD _)))))) (ak (qst 2 sc.nd (au xS (qv 2) (bA (Blk.of (N:=["pile","names","deeds","turn","way","name"]) (esc:=am lA) (NB:=["pile"]) (cap:=[0]) rfl rfl (fun y hy=>aM hy) rfl Aj Aj Aj rfl Aj rfl Aj) rfl rfl (cA (qv 1)) (fun C fp s₀ H₀=>a7) (fun C fp s₀ H₀=>(aQ (ae av (ae (qv 0) (ae (qcl G_law_worth hr D_law_worth az (ae (qv 1) aj)) aj))))))))) aE)))))
  (ak (aF (qv 2))))),?_⟩
 have no:∀b,b≠pl->b∉[pl]:=fun b n z=>n (Ao z)
 have lm:(ns.map V.str).length=ns.length:=Ar ..
 refine ⟨nl,rfl,⟨_,SqL.of hnl⟩,fun D hD=>?_⟩
 have offD:=PL.new hD
 refine bY (K:=K) (a:=nl) (xs:=ns.map V.str) (fun i ys H8=>∃ ds':List Deed,DDs H8 ys ds'/\(∀z,Has z ([]++ds') (ns.take i))/\(∀x∈ds',x.inN (ns.map V.str))/\ds'.length=i/\H8 D=some (.lst ys)/\Pile K H8 pl sr is/\Kept [pl] H H8) ⟨[],.nil,(fun z=>by rw [BP];exact (fun _=>Has.nil) z),(fun _ h=>nomatch h),rfl,ag,PL.same (aq hD),Kept.of_same (aq hD)⟩ (fun i ys H8 h'=>by obtain ⟨_,_,_,_,_,z,_,kz⟩:=h';exact ⟨z,SqL.of (kz _ _ hnl (no nl nnp))⟩) ?_ ?_
 .rintro i x ys H8 hx ⟨ds',dd8,has8,in8,ld8,h8,P8,K8⟩
  unfold oa
  dsimp only
  rw [Az rfl]
  rw [AS] at hx
  cases en:ns[i]? with
  | none=>rw [en] at hx;cases hx
  | some n =>
   rw [en] at hx
   cases hx
   obtain ⟨hi,hin⟩:=Au.mp en
   refine ⟨pl,sr,is,rfl,P8,fun w H9 P9 K9=>?_⟩
   refine ⟨sz3,fun a ha=>?_⟩
   have s10:=aq (o:=.tup [.str "put",.str n,.int w]) ha
   have h10:=s10 _ _ (K9 _ _ h8 (no D offD.1))
   have lys:ys.length=i:=by rw [Bk dd8];exact ld8
   have tk:∀b l,H8 b=some (.tup l)->(upd H9 a (.tup [.str "put",.str n,.int w])) b=some (.tup l):=fun b l e=>s10 _ _ (K9 _ _ e (no b (dD P8 e (fun _ z=>nomatch z))))
   refine ⟨h10,Bj (show ys.length<=1000 by lia) Ak,_,Am,rfl,Am,ds'++[.put n w],?_,fun z=>?_,fun x hx=>?_,by rw [As,ld8];rfl,ag,?_,?_⟩
   .refine DDs.stay (fj (d:=.put n w) (dd8.stay tk) ⟨a,rfl,ag⟩) fun b l e=>?_
    rw [ao (bv e h10 (by intro y;cases y))];exact e
   .rw [<-AB,BR,en]
    refine (has8 z).put fun hm=>?_
    obtain ⟨j,hj,ej⟩:=DK.mp hm
    have:=(DQ (h₀:=by lia) (h₁:=hi) nd).mp (ej.trans hin.symm)
    lia
   .rcases AU.mp hx with hx | hx
    .exact in8 x hx
    .rw [Ao hx]
     exact AK.mpr ⟨n,AQ en,rfl⟩
   .exact (P9.same s10).kept (F:=[D]) (fun b hb=>by rw [Ao hb];exact offD) (Kept.refl.put An)
   .exact ((K8.trans K9).trans (Kept.of_same s10)).newer hD
 rintro ys H1 ⟨ds1,dd1,has1,in1,ld1,h1,P1,K1⟩
 rw [lm] at has1 ld1
 rw [Bx] at has1
 have hD1:=h1
 have has0:∀z,Has z ds1 ns:=has1
 refine ⟨pl,sr,is,4,rfl,P1,Ak,Ak,fun tn H2 t0 t1 P2 K2 N2=>⟨_,rfl,Am,Am,?_⟩⟩
 have K02:=K1.trans K2
 refine dN (lo:=0) (n:=((1:Int)+tn).toNat) (fun i U H3=>∃ (dl:Addr) (dz:List V) (ds:List Deed) (o3 o4 o5:Option V),U=[some (.ref pl),some (.ref nl),some (.ref dl),o3,o4,o5]/\H3 dl=some (.lst dz)/\DDs H3 dz ds/\(∀z,Has z ds ns)/\(∀d∈ds,d.inN (ns.map V.str))/\ds.length<=200+400*i/\Pile K H3 pl sr is/\Kept [pl] H H3/\H dl=none/\(dl≠pl/\Off K sr (is.map V.int) dl))
  ⟨D,ys,ds1,none,none,none,rfl,K2 _ _ h1 (no D offD.1),DDs.stay dd1 (fun b l e=>K2 _ _ e (no b (dD P1 e (fun _ z=>nomatch z)))),has0,in1,Am,P2,K02,hD,offD⟩ ?_ ?_
 .rintro i U H3 hi ⟨dl,dz,ds,o3,o4,o5,rfl,h3,dd3,has3,in3,ld3,P3,K3,fdl,offd⟩
  have hi4:i<4:=by lia
  refine ⟨pl,sr,is,4,rfl,P3,Ak,Ak,fun wy H4 w0 w1 P4 K4 N4=>?_⟩
  have hnl4:=(K3.trans K4) _ _ hnl (no nl nnp)
  refine ⟨nl,rfl,⟨_,SqL.of hnl4⟩,?_⟩
  have dd4:DDs H4 dz ds:=DDs.stay dd3 (fun b l e=>K4 _ _ e (no b (dD P3 e (fun _ z=>nomatch z))))
  have h4:=K4 _ _ h3 (no dl offd.1)
  have st0:Wn ns (200+400*i) wy 0 ds:=by
   have:wy=0∨wy=1∨wy=2∨wy=3:=by lia
   rcases this with y | y | y | y
   .exact .inl ⟨y,has3,Am⟩
   .exact .inr (.inl ⟨y,has3,Am⟩)
   .exact .inr (.inr (.inl ⟨y,has3,Am⟩))
   .exact .inr (.inr (.inr ⟨y,fun z=>⟨ns,has3 z,Am,nd⟩,Am⟩))
  refine gY (K:=K) (a:=nl) (xs:=ns.map V.str) (fun j U H5=>∃ (dz:List V) (ds:List Deed) (o5:Option V),U=[some (.ref pl),some (.ref nl),some (.ref dl),some (.int (0+(i:Int))),some (.int wy),o5]/\H5 dl=some (.lst dz)/\DDs H5 dz ds/\Wn ns (200+400*i) wy j ds/\(∀d∈ds,d.inN (ns.map V.str))/\Pile K H5 pl sr is/\Kept [pl] H H5)
   ⟨dz,ds,o5,rfl,h4,dd4,st0,in3,P4,K3.trans K4⟩ (fun j U H5 _ h'=>by obtain ⟨_,_,_,_,_,_,_,_,_,z⟩:=h';exact SqL.of (z _ _ hnl (no nl nnp))) ?_ ?_
  .rintro j x U H5 hx ⟨dz5,ds5,o55,rfl,h5,dd5,wn5,in5,P5,K5⟩
   rw [AS] at hx
   cases en:ns[j]? with
   | none=>rw [en] at hx;cases hx
   | some n =>
    rw [en] at hx
    cases hx
    obtain ⟨hj,hjn⟩:=Au.mp en
    have hin:n∈ns:=AQ en
    have nin:V.str n∈ns.map V.str:=AK.mpr ⟨n,hin,rfl⟩
    have nne:ns≠[]:=fun z=>by rw [z] at hin;cases hin
    have app:∀{H6:Hp} {dz:List V} {ds:List Deed} {a:Addr} {d:Deed},H6 dl=some (.lst dz)->DDs H6 dz ds->Pile K H6 pl sr is->Kept [pl] H H6->H6 a=none ->
      (upd H6 a (.tup d.v)) dl=some (.lst dz)/\(upd (upd H6 a (.tup d.v)) dl (.lst (dz++[.ref a]))) dl=some (.lst (dz++[.ref a]))/\DDs (upd (upd H6 a (.tup d.v)) dl (.lst (dz++[.ref a]))) (dz++[.ref a]) (ds++[d])/\Pile K (upd (upd H6 a (.tup d.v)) dl (.lst (dz++[.ref a]))) pl sr is/\Kept [pl] H (upd (upd H6 a (.tup d.v)) dl (.lst (dz++[.ref a]))):=by
     intro H6 dz ds a d h6 dd6 P6 K6 ha
     have s7:=aq (o:=.tup d.v) ha
     have h7:=s7 _ _ h6
     refine ⟨h7,ag,DDs.stay (fj (d:=d) (DDs.stay dd6 fun b l e=>s7 b _ e) ⟨a,rfl,ag⟩) (fun b l e=>?_),(P6.same s7).kept (F:=[dl]) (fun b hb=>by rw [Ao hb];exact offd) (Kept.refl.put An),(K6.trans (Kept.of_same s7)).newer fdl⟩
     rw [ao (bv e h7 (by intro y;cases y))];exact e
    have addn:∀{d:Deed},d.inN (ns.map V.str)->∀x∈ds5++[d],x.inN (ns.map V.str):=fun {d} hd x hx=>by
     rcases AU.mp hx with hx | hx
     .exact in5 x hx
     .rw [Ao hx];exact hd
    have l5:dz5.length=ds5.length:=Bk dd5
    have sml:ds5.length<=3000->∀m,m<=1->dz5.length+m<sizeLine:=fun h m hm=>Bj (show dz5.length+m<=3001 by lia) Ak
    rcases wn5 with ⟨rfl,hs5,ln5⟩ | ⟨rfl,hs5,ln5⟩ | ⟨rfl,hs5,ln5⟩ | ⟨rfl,hs5,ln5⟩
    .refine ⟨rfl,_,rfl,aU (fun _=>?_) (fun c=>absurd rfl c)⟩
     refine ⟨.inl ⟨rfl,_,SqL.of h5⟩,pl,sr,is,rfl,P5,fun w H6 P6 K6=>?_⟩
     refine ⟨sz3,fun a ha=>?_⟩
     obtain ⟨h7,g7,dd7,P7,K7⟩:=app (d:=.change n w) (K6 _ _ h5 (no dl offd.1)) (DDs.stay dd5 (fun b l e=>K6 _ _ e (no b (dD P5 e (fun _ z=>nomatch z))))) P6 (K5.trans K6) ha
     refine ⟨dl,_,_,rfl,rfl,h7,sml Am 0 Am,?_⟩
     refine ⟨rfl,_,rfl,aZ ?_⟩
     refine ⟨rfl,_,rfl,aZ ?_⟩
     refine ⟨rfl,_,rfl,aZ ?_⟩
     exact ⟨_,ds5++[Deed.change n w],_,rfl,g7,dd7,.inl ⟨rfl,fun z=>(hs5 z).change hin,by rw [As];show ds5.length+1<=_;lia⟩,addn (d:=Deed.change n w) nin,P7,K7⟩
    .refine ⟨rfl,_,rfl,aZ ?_⟩
     refine ⟨rfl,_,rfl,aU (fun _=>?_) (fun c=>absurd rfl c)⟩
     refine ⟨.inl ⟨rfl,_,SqL.of h5⟩,sz2,fun a ha=>?_⟩
     obtain ⟨h7,g7,dd7,P7,K7⟩:=app (d:=.drop n) h5 dd5 P5 K5 ha
     refine ⟨dl,_,_,rfl,rfl,h7,sml Am 0 Am,?_⟩
     refine ⟨rfl,_,rfl,aZ ?_⟩
     refine ⟨rfl,_,rfl,aZ ?_⟩
     refine ⟨_,ds5++[Deed.drop n],_,rfl,g7,dd7,.inr (.inl ⟨rfl,fun z=>?_,by rw [As];show ds5.length+1<=_;lia⟩),addn (d:=Deed.drop n) nin,P7,K7⟩
     have h8:=hs5 z
     rw [Bn hj,hjn] at h8
     refine h8.drop fun hm=>?_
     obtain ⟨m,hm1,hm2⟩:=Ba hm
     rw [Dx] at hm2
     have:=(DQ (h₀:=by rw [Bu] at hm1;lia) (h₁:=hj) nd).mp (hm2.trans hjn.symm)
     lia
    .refine ⟨rfl,_,rfl,aZ ?_⟩
     refine ⟨rfl,_,rfl,aZ ?_⟩
     refine ⟨rfl,_,rfl,aU (fun _=>?_) (fun c=>absurd rfl c)⟩
     refine ⟨.inl ⟨rfl,_,SqL.of h5⟩,⟨Ak,Ak,Ak⟩,sz3,fun a ha=>?_⟩
     obtain ⟨h7,g7,dd7,P7,K7⟩:=app (d:=.change n ((10:Int) ^ (20:Int).toNat+(0+(i:Int)))) h5 dd5 P5 K5 ha
     refine ⟨dl,_,_,rfl,rfl,h7,sml Am 0 Am,?_⟩
     refine ⟨.inl ⟨rfl,_,SqL.of g7⟩,sz1,fun a2 ha2=>?_⟩
     obtain ⟨h9,g9,dd9,P9,K9⟩:=app (d:=.least) g7 dd7 P7 K7 ha2
     refine ⟨dl,_,_,rfl,rfl,h9,by rw [As];exact sml Am 1 Am,?_⟩
     refine ⟨rfl,_,rfl,aZ ?_⟩
     refine ⟨_,ds5++[Deed.change n ((10:Int) ^ (20:Int).toNat+(0+(i:Int)))]++[Deed.least],_,rfl,g9,dd9,.inr (.inr (.inl ⟨rfl,fun z=>((hs5 z).change hin).least nne,by rw [As,As];show ds5.length+1+1<=_;lia⟩)),fun x hx=>?_,P9,K9⟩
     rcases AU.mp hx with hx | hx
     .exact addn (d:=Deed.change n ((10:Int) ^ (20:Int).toNat+(0+(i:Int)))) nin x hx
     .rw [Ao hx];trivial
    .refine ⟨rfl,_,rfl,aZ ?_⟩
     refine ⟨rfl,_,rfl,aZ ?_⟩
     refine ⟨rfl,_,rfl,aZ ?_⟩
     refine ⟨rfl,_,rfl,aU (fun _=>?_) (fun c=>absurd rfl c)⟩
     refine ⟨.inl ⟨rfl,_,SqL.of h5⟩,sz1,fun a ha=>?_⟩
     obtain ⟨h7,g7,dd7,P7,K7⟩:=app (d:=.take) h5 dd5 P5 K5 ha
     refine ⟨dl,_,_,rfl,rfl,h7,sml Am 0 Am,?_⟩
     refine ⟨_,ds5++[Deed.take],_,rfl,g7,dd7,.inr (.inr (.inr ⟨rfl,fun z=>?_,by rw [As];show ds5.length+1<=_;lia⟩)),addn (d:=Deed.take) trivial,P7,K7⟩
     obtain ⟨S,h8,lS,ndS⟩:=hs5 z
     obtain ⟨S',h9,lS',nd'⟩:=h8.take (fun y=>by rw [y] at lS;have:([]:List Str).length=0:=rfl;lia) ndS
     exact ⟨S',h9,Am,nd'⟩
  .rintro U H5 ⟨dz5,ds5,o55,rfl,h5,dd5,wn5,in5,P5,K5⟩
   rw [lm] at wn5
   have l5:dz5.length=ds5.length:=Bk dd5
   refine ⟨fun b H6=>H6=H5/\((b=true/\(∀z,Has z ds5 [])/\ds5.length<=200+400*i+ns.length)∨(b=false/\(∀z,Has z ds5 ns)/\ds5.length<=200+400*i+2*ns.length)),?_,?_⟩
   .rcases wn5 with ⟨rfl,hs5,ln5⟩ | ⟨rfl,hs5,ln5⟩ | ⟨rfl,hs5,ln5⟩ | ⟨rfl,hs5,ln5⟩
    .refine ⟨rfl,_,rfl,aZ ?_⟩
     exact ⟨rfl,_,rfl,rfl,.inr ⟨rfl,hs5,Am⟩⟩
    .refine ⟨rfl,_,rfl,aU (fun _=>?_) (fun c=>absurd rfl c)⟩
     exact ⟨rfl,.inl ⟨rfl,fun z=>by have:=hs5 z;rw [List.drop_length] at this;exact this,Am⟩⟩
    .refine ⟨rfl,_,rfl,aZ ?_⟩
     exact ⟨rfl,_,rfl,rfl,.inr ⟨rfl,hs5,Am⟩⟩
    .refine ⟨rfl,_,rfl,aZ ?_⟩
     refine ⟨rfl,_,rfl,rfl,.inl ⟨rfl,fun z=>?_,Am⟩⟩
     obtain ⟨S,h8,lS,_⟩:=hs5 z
     have:S=[]:=AY.mp Am
     rw [this] at h8;exact h8
   rintro b H6 ⟨rfl,⟨rfl,hs5,ln5⟩ | ⟨rfl,hs5,ln5⟩⟩
   .refine qk ?_
    have hnl5:=K5 _ _ hnl (no nl nnp)
    refine ⟨nl,rfl,⟨_,SqL.of hnl5⟩,fun D hD=>?_⟩
    have offD:=P5.new hD
    have hD0:H D=none:=by
     cases e:H D with
     | none=>rfl
     | some o=>rw [K5 _ _ e (no D offD.1)] at hD;cases hD
    refine bY (K:=K) (a:=nl) (xs:=ns.map V.str) (fun i ys H8=>∃ ds':List Deed,DDs H8 ys ds'/\(∀z,Has z (ds5++ds') (ns.take i))/\(∀x∈ds',x.inN (ns.map V.str))/\ds'.length=i/\H8 D=some (.lst ys)/\Pile K H8 pl sr is/\Kept [pl] H6 H8) ⟨[],.nil,(fun z=>by rw [BP];exact (hs5) z),(fun _ h=>nomatch h),rfl,ag,P5.same (aq hD),Kept.of_same (aq hD)⟩ (fun i ys H8 h'=>by obtain ⟨_,_,_,_,_,z,_,kz⟩:=h';exact ⟨z,SqL.of (kz _ _ hnl5 (no nl nnp))⟩) ?_ ?_
    .rintro i x ys H8 hx ⟨ds',dd8,has8,in8,ld8,h8,P8,K8⟩
     unfold oa
     dsimp only
     rw [Az rfl]
     rw [AS] at hx
     cases en:ns[i]? with
     | none=>rw [en] at hx;cases hx
     | some n =>
      rw [en] at hx
      cases hx
      obtain ⟨hi,hin⟩:=Au.mp en
      refine ⟨pl,sr,is,rfl,P8,fun w H9 P9 K9=>?_⟩
      refine ⟨sz3,fun a ha=>?_⟩
      have s10:=aq (o:=.tup [.str "put",.str n,.int w]) ha
      have h10:=s10 _ _ (K9 _ _ h8 (no D offD.1))
      have lys:ys.length=i:=by rw [Bk dd8];exact ld8
      have tk:∀b l,H8 b=some (.tup l)->(upd H9 a (.tup [.str "put",.str n,.int w])) b=some (.tup l):=fun b l e=>s10 _ _ (K9 _ _ e (no b (dD P8 e (fun _ z=>nomatch z))))
      refine ⟨h10,Bj (show ys.length<=1000 by lia) Ak,_,Am,rfl,Am,ds'++[.put n w],?_,fun z=>?_,fun x hx=>?_,by rw [As,ld8];rfl,ag,?_,?_⟩
      .refine DDs.stay (fj (d:=.put n w) (dd8.stay tk) ⟨a,rfl,ag⟩) fun b l e=>?_
       rw [ao (bv e h10 (by intro y;cases y))];exact e
      .rw [<-AB,BR,en]
       refine (has8 z).put fun hm=>?_
       obtain ⟨j,hj,ej⟩:=DK.mp hm
       have:=(DQ (h₀:=by lia) (h₁:=hi) nd).mp (ej.trans hin.symm)
       lia
      .rcases AU.mp hx with hx | hx
       .exact in8 x hx
       .rw [Ao hx]
        exact AK.mpr ⟨n,AQ en,rfl⟩
      .exact (P9.same s10).kept (F:=[D]) (fun b hb=>by rw [Ao hb];exact offD) (Kept.refl.put An)
      .exact ((K8.trans K9).trans (Kept.of_same s10)).newer hD
    rintro ys H7 ⟨ds',dd7,has7,in7,ld7,h7,P7,K7⟩
    rw [lm] at has7 ld7
    rw [Bx] at has7
    have h5':=K7 _ _ h5 (no dl offd.1)
    have lys:ys.length=ns.length:=by rw [Bk dd7];exact ld7
    refine ⟨dl,D,_,_,rfl,rfl,h5',h7,AV (show dz5.length+ys.length<=3000 by lia) Ak,fun q hq=>?_⟩
    have s8:=aq (o:=.lst (dz5++ys)) hq
    have hq0:H q=none:=by
     cases e:H q with
     | none=>rfl
     | some o=>rw [K7 _ _ (K5 _ _ e (no q (P7.new hq).1)) (no q (P7.new hq).1)] at hq;cases hq
    refine ⟨q,dz5++ys,ds5++ds',_,_,_,rfl,ag,va (DDs.stay dd5 fun b l e=>s8 _ _ (K7 _ _ e (no b (dD P5 e (fun _ z=>nomatch z))))) (DDs.stay dd7 fun b l e=>s8 _ _ e),has7,fun x hx=>?_,by rw [As];lia,P7.same s8,(K5.trans K7).trans (Kept.of_same s8),hq0,P7.new hq⟩
    rcases AU.mp hx with hx | hx
    .exact in5 x hx
    .exact in7 x hx
   .refine gq ?_
    exact ⟨dl,dz5,ds5,_,_,_,rfl,h5,dd5,hs5,in5,Am,P5,K5,fdl,offd⟩
 rintro U H3 ⟨dl,dz,ds,o3,o4,o5,rfl,h3,dd3,has3,in3,ld3,P3,K3,fdl,offd⟩
 exact (k dl dz ds H3 h3 dd3 (fun z=>(has3 z).fits) in3 Am P3 K3)
theorem rQ (h:lB xs):∃ ns:List Str,xs=ns.map V.str:=by
 induction xs with
 | nil=>exact ⟨[],rfl⟩
 | cons v xs ih =>
  obtain ⟨ns,e⟩:=ih fun v hv=>h v (AH _ hv)
  obtain ⟨x,ex,_⟩:=h v AX
  exact ⟨x::ns,by rw [e,ex];rfl⟩
theorem pZ (h:(ns.map V.str).Nodup):ns.Nodup:=(BL.mp h).imp fun hne e=>hne (by rw [e])
theorem lZ (h:DDs H zs ds):∀m:Nat,DDs H (zs.take m) (ds.take m):=by
 induction h with
 | nil=>intro m;rw [FS,FS];exact .nil
 | cons r _ ih =>
  intro m
  cases m with
  | zero=>exact .nil
  | succ m=>exact .cons r (ih m)
theorem gU {m:Nat}:c7 xs none (some (m:Int))=xs.take m:=by
 unfold c7
 have e2:HT.sIx xs.length 0 none=0:=rfl
 rw [HT.sIx_nat,e2,CT,Nat.sub_zero]
 by_cases y:m<=xs.length
 .rw [Nat.min_eq_left y]
 rw [Nat.min_eq_right Am,A6 (Av _),A6 Am]
theorem mf {a b:List V}(h:∀v∈a,v∈b)(k:d.inN a):d.inN b:=by
 cases d with
 | put n w=>exact h _ k
 | drop n=>exact h _ k
 | change n w=>exact h _ k
 | take=>trivial
 | least=>trivial
abbrev nX:Stmt:=top 40
theorem pR:aA ["pile","most","many","count","slack","way","names"] ["pile","most"] (am nX):=fs0
def oZ (K:W.Frag):Sp:=fun vs H Q _=>∃ (pl sr:Addr) (is:List Int) (mo:Nat),vs=[.ref pl,.int mo]/\Pile K H pl sr is/\180<=mo/\mo<=600 /\
 ∀(o nl dl:Addr) (nv dz:List V) (ds:List Deed) (z:Int) (H':Hp),H' o=some (.lst [.ref nl,.int z,.ref dl])->H' nl=some (.lst nv)->lB nv->nv.Nodup->1<=nv.length->nv.length<=200->H' dl=some (.lst dz)->DDs H' dz ds->Fits z ds->(∀d∈ds,d.inN nv)->ds.length<=mo->0<=z->Pile K H' pl sr is->Kept [pl] H H'->nl≠pl->dl≠pl->H nl=none->H dl=none->Q (.ref o) H'
theorem rG {fs fm fw_ fr:Addr}{fds fdm fdr:FuncData}(F:Fun K "_law_drawn" "_law_drawn" nX f fd)(T:Bl mg)(G_law_sizes:aB P w K mg base CX0 2 fs fds ["pile"] (pA K))(D_law_sizes:Nm K mg "_law_sizes" fs fds ["pile"])(G_law_next:aB P w K mg base CX0 1 fn fdn ["pile","most"] (cT K))(D_law_next:Nm K mg "_law_next" fn fdn ["pile","most"])(G_law_names:aB P w K mg base CX0 2 fm fdm ["pile","many"] (kD K))(D_law_names:Nm K mg "_law_names" fm fdm ["pile","many"])(G_law_worn:aB P w K mg base CX0 3 fw_ fdw ["pile","names"] (tG K))(D_law_worn:Nm K mg "_law_worn" fw_ fdw ["pile","names"])(G_law_run:aB P w K mg base CX0 4 fr fdr ["pile","names","slack","many"] (wK K))(D_law_run:Nm K mg "_law_run" fr fdr ["pile","names","slack","many"]):aB P w K mg base CX0 5 f fd ["pile","most"] (oZ K):=by
 have sc:=pR
 refine F.okQ pR fun cdv A outer s_ H vs Q E hr h=>?_
 obtain ⟨pl,sr,is,mo,rfl,PL,m0,m1,k⟩:=h
 have hu:=hr.units0
 refine ⟨_,(af (bU (qcl G_law_sizes hr D_law_sizes az (ae (qv 0) aj)) (uo rfl (bF (bu (i:=2) sc.nd rfl (Or.inl rfl)) (bF (bu (i:=3) sc.nd rfl (Or.inl rfl)) (bF (bu (i:=4) sc.nd rfl (Or.inl rfl)) gG)))))
  (af (qst 5 sc.nd (qcl G_law_next hr D_law_next az (ae (qv 0) (ae ah aj))))
  (af (jy (ay bz (qv 5) ah (aD _)) (ak (qst 2 sc.nd ah)) aE)
  (af (qst 6 sc.nd (qcl G_law_names hr D_law_names az (ae (qv 0) (ae (qv 2) aj))))
  (af (aO (ay bz (qv 5) ah (aD _)) (ak (aF (aV (ae (qv 6) (ae (qv 4) (ae (cj jW (qcl G_law_worn hr D_law_worn az (ae (qv 0) (ae (qv 6) aj))) cS (cU (qv 1))) aj)))))) aE)
  (af (aO (ay fA (qv 5) ah (aD _)) (ak (aF (aV (ae (qv 6) (ae (qv 4) (ae (cj jW (qcl G_law_worn hr D_law_worn az (ae (qv 0) (ae (cj jW (qv 6) cS (cU ah)) aj))) cS (cU (qv 1))) aj)))))) aE)
  (ak (aF (aV (ae (qv 6) (ae (qv 4) (ae (ar aw (qcl G_law_run hr D_law_run az (ae (qv 0) (ae (qv 6) (ae (qv 4) (ae (qv 3) aj))))) ah pix) aj)))))))))))),?_⟩
 have no:∀b,b≠pl->b∉[pl]:=fun b n z=>n (Ao z)
 refine ⟨pl,sr,is,rfl,PL,fun o mn cn z H1 ho mn1 mn2 cn2 z0 P1 K1=>?_⟩
 refine ⟨o,_,rfl,SqL.of ho,rfl,_,_,rfl,_,_,rfl,_,_,rfl,rfl,?_⟩
 refine ⟨pl,sr,is,16,rfl,P1,Ak,Ak,fun wy H2 w0 w1 P2 K2 N2=>?_⟩
 replace K2:=K1.trans K2
 refine ⟨fun σ' H'=>∃ mn':Nat,σ'=[some (.ref pl),some (.int mo),some (.int mn'),some (.int cn),some (.int z),some (.int wy),none]/\H'=H2/\1<=mn'/\mn'<=200,?_,?_⟩
 .refine ⟨rfl,_,rfl,aU (fun _=>⟨200,rfl,rfl,Ak,Ak⟩) (fun _=>⟨mn,rfl,rfl,mn1,Am⟩)⟩
 rintro σ' H' ⟨mn',rfl,rfl,mm1,mm2⟩
 refine ⟨pl,sr,is,mn',rfl,P2,mm2,fun nl xs H3 h3 an nd lx P3 K3 f3 nnp off=>?_⟩
 replace K3:=K2.trans K3
 obtain ⟨ns,rfl⟩:=rQ an
 have ndn:=pZ nd
 rw [Ar] at lx
 have fnl:H nl=none:=by
  cases e:H nl with
  | none=>rfl
  | some u=>rw [K2 _ _ e (no nl nnp)] at f3;cases f3
 refine ⟨rfl,_,rfl,aU (fun _=>?_) (fun _=>?_)⟩
 .refine ⟨pl,sr,is,nl,ns,rfl,P3,h3,ndn,Am,nnp,fun dl dz ds H4 h4 dd ft ind ld P4 K4=>?_⟩
  refine ⟨(mo:Int),rfl,dl,_,rfl,SqL.of h4,fun r hr5=>?_⟩
  have h3':=K4 _ _ h3 (no nl nnp)
  have s5:=aq (o:=.lst (c7 dz none (some (mo:Int)))) hr5
  have g5:(upd H4 r (.lst (c7 dz none (some (mo:Int))))) r=some (.lst (dz.take mo)):=by rw [ag,gU]
  generalize upd H4 r (.lst (c7 dz none (some (mo:Int))))=H5 at s5 g5 ⊢
  refine ⟨sz3,fun o2 ho2=>?_⟩
  have s6:=aq (o:=.lst [.ref nl,.int z,.ref r]) ho2
  have K6:=(K4.trans (Kept.of_same s5)).trans (Kept.of_same s6)
  have K06:=K3.trans K6
  refine k o2 nl r (ns.map V.str) (dz.take mo) (ds.take mo) z _ ag (s6 _ _ (s5 _ _ h3')) an nd (by rw [Ar];lia) (by rw [Ar];lia) (s6 _ _ g5) (lZ (DDs.stay dd fun b l e=>s6 _ _ (s5 _ _ e)) mo) ((ft z).take mo) (fun d hd=>mf (fun v h=>h) (ind d (BS hd))) (Dd _ _) z0 ((P4.same s5).same s6) K06 nnp ?_ fnl ?_
  .exact (P4.new hr5).1
  .cases e:H r with
   | none=>rfl
   | some u=>rw [K4 _ _ (K3 _ _ e (no r (P4.new hr5).1)) (no r (P4.new hr5).1)] at hr5;cases hr5
 refine ⟨_,rfl,aU (fun _=>?_) (fun _=>?_)⟩
 .refine ⟨30,rfl,nl,_,rfl,SqL.of h3,fun n2 hn2=>?_⟩
  have e30:c7 (ns.map V.str) none (some 30)=(ns.take 30).map V.str:=by
   have:c7 (ns.map V.str) none (some ((30:Nat):Int))=(ns.map V.str).take 30:=gU
   rw [FU];exact this
  have sA:=aq (o:=.lst (c7 (ns.map V.str) none (some 30))) hn2
  have gA:(upd H3 n2 (.lst (c7 (ns.map V.str) none (some 30)))) n2=some (.lst ((ns.take 30).map V.str)):=by rw [ag,e30]
  generalize upd H3 n2 (.lst (c7 (ns.map V.str) none (some 30)))=HA at sA gA ⊢
  have nn2:=(P3.new hn2).1
  replace P3:=P3.same sA
  replace h3:=sA _ _ h3
  replace K3:=K3.trans (Kept.of_same sA)
  refine ⟨pl,sr,is,n2,ns.take 30,rfl,P3,gA,ndn.sublist (BH _ _),AV (Dd _ _) Ak,nn2,fun dl dz ds H4 h4 dd ft ind ld P4 K4=>?_⟩
  refine ⟨(mo:Int),rfl,dl,_,rfl,SqL.of h4,fun r hr5=>?_⟩
  have h3':=K4 _ _ h3 (no nl nnp)
  have s5:=aq (o:=.lst (c7 dz none (some (mo:Int)))) hr5
  have g5:(upd H4 r (.lst (c7 dz none (some (mo:Int))))) r=some (.lst (dz.take mo)):=by rw [ag,gU]
  generalize upd H4 r (.lst (c7 dz none (some (mo:Int))))=H5 at s5 g5 ⊢
  refine ⟨sz3,fun o2 ho2=>?_⟩
  have s6:=aq (o:=.lst [.ref nl,.int z,.ref r]) ho2
  have K6:=(K4.trans (Kept.of_same s5)).trans (Kept.of_same s6)
  have K06:=K3.trans K6
  refine k o2 nl r (ns.map V.str) (dz.take mo) (ds.take mo) z _ ag (s6 _ _ (s5 _ _ h3')) an nd (by rw [Ar];lia) (by rw [Ar];lia) (s6 _ _ g5) (lZ (DDs.stay dd fun b l e=>s6 _ _ (s5 _ _ e)) mo) ((ft z).take mo) (fun d hd=>mf (fun v h=>by rw [FU] at h;exact BS h) (ind d (BS hd))) (Dd _ _) z0 ((P4.same s5).same s6) K06 nnp ?_ fnl ?_
  .exact (P4.new hr5).1
  .cases e:H r with
   | none=>rfl
   | some u=>rw [K4 _ _ (K3 _ _ e (no r (P4.new hr5).1)) (no r (P4.new hr5).1)] at hr5;cases hr5
 refine ⟨pl,sr,is,nl,ns.map V.str,z,cn,rfl,P3,h3,an,by rw [Ar];lia,nnp,Am,fun o2 dl ll st r td ds dz lz m H4 ho2 ft ind ld h4 dd O4 P4 K4 fo fdl fst ftd fr nrd=>?_⟩
 refine ⟨_,_,SqL.of ho2,rfl,sz3,fun o3 ho3=>?_⟩
 have s6:=aq (o:=.lst [.ref nl,.int z,.ref dl]) ho3
 have h3':=K4 _ _ h3 (no nl nnp)
 have ndl:dl≠pl:=(P3.new fdl).1
 refine k o3 nl dl (ns.map V.str) dz ds z _ ag (s6 _ _ h3') an nd (by rw [Ar];lia) (by rw [Ar];lia) (s6 _ _ h4) (DDs.stay dd fun b l e=>s6 _ _ e) ft ind Am z0 (P4.same s6) ((K3.trans K4).trans (Kept.of_same s6)) nnp ndl fnl ?_
 cases e:H dl with
 | none=>rfl
 | some u=>rw [K3 _ _ e (no dl ndl)] at fdl;cases fdl
theorem LedAt.al {ys:List V}(h:LedAt H xs dz rows)(h':LedAt H ys dz rows)(hl:dz.length=rows.length)(ok:∀x∈dz,okV x=true):AlL K H 8 xs ys:=by
 refine ⟨h.len.trans h'.len.symm,fun i x y ex ey=>?_⟩
 have li:=(Au.mp ex).1
 have ld:i<dz.length:=by rw [hl,<-h.len];exact li
 have lr:i<rows.length:=by rw [<-h.len];exact li
 obtain ⟨a,rfl,ha⟩:=h.at_ i x _ _ ex (tx ld) (tx lr)
 obtain ⟨b,rfl,hb⟩:=h'.at_ i y _ _ ey (tx ld) (tx lr)
 refine .tup (SqT.of ha) (SqT.of hb) rfl fun j u v eu ev=>?_
 rw [eu] at ev
 cases ev
 match j,eu with
 | 0,e=>cases e;exact .same (ok _ (BE ld))
 | 1,e=>cases e;exact .same rfl
 | 2,e=>cases e;exact .same rfl
 | _+3,e=>cases e
theorem xu (h:DDs H zs ds):∀x∈zs,okV x=true:=by
 induction h with
 | nil=>intro x hx;cases hx
 | cons r _ ih =>
  intro x hx
  rcases Aw.mp hx with z | z
  .obtain ⟨a,e,_⟩:=r
   rw [z,e];rfl
  .exact ih x z
abbrev ig:Stmt:=top 19
theorem oV:aA ["ledger","slack","tariff","deeds","right"] ["ledger","slack","tariff"] (am ig):=fs0
def pF:Sp:=fun vs H Q _=>∃ (a fl:Addr) (zs dz:List V) (ds:List Deed) (fs:List Int) (z:Int),vs=[.ref a,.int z,.ref fl]/\H a=some (.tup zs)/\LedAt H zs dz (led z fs ds).rows/\DDs H dz ds/\(∀x∈ds,x.sh)/\ds.length<=700/\Fits z ds/\H fl=some (.tup (fs.map V.int))/\fs.length=5 /\
 ∀b H',(b=true↔∀r∈(led z fs ds).rows,0<=r.2)->Same H H'->Q (.bl b) H'
theorem rL {fw_:Addr}(F:Fun K "ledger_shown" "ledger_shown" ig f fd)(T:Bl mg)(z_all:mg "all"=none)(Gwritten:aB P w K mg base CX0 8 fw_ fdw ["deeds","slack","tariff"] (cN C))(Dwritten:Nm K mg "written" fw_ fdw ["deeds","slack","tariff"]):aB P w K mg base CX0 9 f fd ["ledger","slack","tariff"] pF:=by
 have sc:=oV
 refine F.okQ oV fun cdv A outer s_ H vs Q E hr h=>?_
 obtain ⟨a,fl,zs,dz,ds,fs,z,rfl,ha,lg,dd,sh,lr,ft,hfl,lf,k⟩:=h
 have hu:=hr.units0
 have hu1:=hr.u100
 have lz:=lg.len
 have ll:=bP (z:=z) (fs:=fs) ds
 have ldz:dz.length=ds.length:=Bk dd
 refine ⟨_,(af (bX (i:=3) sc.nd rfl (Or.inl rfl) (Blk.of (N:=["ledger","slack","tariff","deeds","right"]) (esc:=am ig) (NB:=[]) (cap:=[]) rfl rfl (fun y hy=>aM hy) rfl Aj Aj Aj rfl Aj rfl Aj) rfl rfl (dj (qv 0)) (fun C fp s₀ H₀=>a7) (fun C fp s₀ H₀=>(ar (dI (K:=K) rfl) (qv 0) ah pix)))
  (af (uW (ak (qst 4 sc.nd (qcl Gwritten hr Dwritten az (ae (qv 3) (ae (qv 1) (ae (qv 2) aj)))))))
  (ak (aF (yc (cx (oH hu1) (qv 0) (qv 4) (aD _)) (yy (qcB (qy rfl) z_all (ae (bA (Blk.of (N:=["ledger","slack","tariff","deeds","right"]) (esc:=am ig) (NB:=[]) (cap:=[]) rfl rfl (fun y hy=>aM hy) rfl Aj Aj Aj rfl Aj rfl Aj) rfl rfl (dj (qv 4)) (fun C fp s₀ H₀=>a7) (fun C fp s₀ H₀=>(cx wt (ar (dI (K:=K) rfl) (qv 0) ah pix) ah (aD _)))) aj)))))))),?_⟩
 refine ⟨a,rfl,⟨_,SqT.of ha⟩,fun D hD=>?_⟩
 refine bK (K:=K) (a:=a) (xs:=zs) (fun i ys H1=>ys=dz.take i/\H1 D=some (.lst ys)/\Same H H1) ⟨rfl,ag,aq hD⟩ (fun i ys H1 z=>⟨z.2.1,SqT.of (z.2.2 _ _ ha)⟩) ?_ ?_
 .rintro i x ys H1 hi ⟨rfl,h1,s1⟩
  have li:=(Au.mp hi).1
  have ed:=tx (l:=dz) (i:=i) Am
  obtain ⟨p,rfl,hp⟩:=lg.at_ i x _ _ hi ed (tx Am)
  refine cY <| ⟨_,_,SqT.of (s1 _ _ hp),(by exact br (j:=0) rfl),h1,aH (by rw [A0];lia),_,Am,rfl,Am,?_,ag,bj s1 hD⟩
  rw [BR,ed]
  rfl
 rintro ys H1 ⟨rfl,h1,s1⟩
 rw [A6 Am] at h1
 refine ⟨D,fl,dz,ds,fs,z,rfl,.inl h1,DDs.stay dd fun b l e=>s1 b _ e,sh,lr,s1 _ _ hfl,lf,ft,fun q us H2 hq led2 s2=>?_⟩
 have s2':=s1.trans s2
 have lu:=led2.len
 refine ⟨.tup (SqT.of (s2' _ _ ha)) (SqT.of hq) ((lg.stay fun b l e=>s2' b _ e).al led2 Am (xu dd)),_,rfl,qk ?_⟩
 refine ⟨q,rfl,⟨_,SqT.of hq⟩,fun D2 hD2=>?_⟩
 refine bK (K:=K) (a:=q) (xs:=us) (fun i ys H3=>ys=(((led z fs ds).rows.take i).map fun r=>V.bl (decide (0<=r.2)))/\H3 D2=some (.lst ys)/\Same H2 H3) ⟨rfl,ag,aq hD2⟩ (fun i ys H3 z=>⟨z.2.1,SqT.of (z.2.2 _ _ hq)⟩) ?_ ?_
 .rintro i x vs H3 hi ⟨rfl,h3,s3⟩
  have li:=(Au.mp hi).1
  obtain ⟨r,er⟩:∃ r,(led z fs ds).rows[i]?=some r:=⟨_,tx Am⟩
  obtain ⟨p2,rfl,hp2⟩:=led2.at_ i x _ _ hi (tx Am) er
  refine cY <| ⟨_,_,SqT.of (s3 _ _ hp2),(show atI _ 2=some (V.int r.2) from br (j:=2) rfl),h3,aH (by rw [Ar,A0];lia),_,Am,rfl,Am,?_,ag,bj s3 hD2⟩
  rw [BR,er,A1]
  rfl
 rintro vs H3 ⟨rfl,h3,s3⟩
 rw [lu,Bx] at h3
 refine ⟨D2,(led z fs ds).rows.map fun r=>decide (0<=r.2),rfl,SqL.of (by rw [h3,CF];rfl),k _ _ ?_ (s2'.trans s3)⟩
 rw [Ff]
 exact ⟨fun h r hr=>Bc (h _ (AK.mpr ⟨r,hr,rfl⟩)),fun h b hb=>by
  obtain ⟨y,hy,rfl⟩:=AK.mp hb
  exact AO (h y hy)⟩
abbrev nB:Stmt:=top 42
theorem wX:aA ["pile","deeds","names","letters","others","other","worths","step","shift","turned","found","deed"] ["pile","deeds","names"] (am nB):=fs0
theorem x5 {i:Int}(h:0<=i):wN i 26:=⟨Ak,Ak⟩
theorem rD:∀(k:Nat) (a:Array Nat),((List.replicate k (#[97]:Array Nat)).foldl (·++·) a).toList=a.toList++List.replicate k 97
 | 0,a=>by simp
 | k+1,a=>by
  rw [EI,Do,rD k,DS,AB]
  rfl
theorem y7 (k:Nat):(⟨(List.replicate k ("a":Str).cps).foldl (·++·) #[]⟩:Str)++("b":Str)=mR k:=by
 refine wO ?_
 rw [xf]
 show ((List.replicate k (#[97]:Array Nat)).foldl (·++·) #[]).toList++[98]=_
 rw [rD]
 show []++List.replicate k 97++[98]=(List.replicate k 97++[98]).toArray.toList
 rfl
theorem uV (h:x∈(List.range 8).map mR):x.length<=20:=by
 obtain ⟨i,hi,rfl⟩:=AK.mp h
 have:=B9.mp hi
 show ((List.replicate i 97)++[98]).toArray.size<=20
 simp
 lia
theorem yq {S:List Str}{n:Str}(h:n∈S)(hl:S.length<=O.length):cv S O n∈O:=by
 unfold cv
 have:=List.idxOf_lt_length_of_mem h
 rw [AD,tx Am]
 exact BE _
theorem wq (n:Nat):((List.range n).map mR).Nodup:=BL.mpr (List.nodup_range.imp fun h e=>h (rM e))
def kvO (ms os:List Str):List (Key×V):=(ms.zip os).map fun p=>(Sum.inr p.1,V.str p.2)
theorem tp (h:DDs H zs ds):∀{i:Nat} {x:V},zs[i]?=some x->∃ d,ds[i]?=some d/\∃ a,x=.ref a/\H a=some (.tup d.v):=by
 induction h with
 | nil=>intro i x e;cases i <;> cases e
 | cons r _ ih =>
  intro i x e
  cases i with
  | zero=>cases e;exact ⟨_,rfl,r⟩
  | succ i=>exact ih e
theorem tz {ms:List Str}(h:ms.length<=os.length):(kvO ms os).map (·.1)=ms.map Sum.inr:=by
 unfold kvO
 rw [CF]
 have e:(ms.zip os).map Prod.fst=ms:=List.map_fst_zip h
 have e2:ms.map (Sum.inr (α:=Int))=((ms.zip os).map Prod.fst).map Sum.inr:=by rw [e]
 rw [e2,CF]
 rfl
theorem tD {ms:List Str}(h:ms.length<=os.length)(nd:ms.Nodup):((kvO ms os).map (·.1)).Nodup:=by
 rw [tz h]
 exact BL.mpr (nd.imp fun hne e=>hne (Cd e))
theorem x6 {ms:List Str}{kv:Key×V}(e:(kvO ms os)[i]?=some kv):(ms.map V.str)[i]?=some (kV kv.1)/\(os.map V.str)[i]?=some kv.2:=by
 unfold kvO at e
 rw [AS] at e
 obtain ⟨p,hp,rfl⟩:=BV.mp e
 obtain ⟨h1,h2⟩:=List.getElem?_zip_eq_some.mp hp
 rw [AS,AS,h1,h2]
 exact ⟨rfl,rfl⟩
theorem xB {i j:Int}(h0:0<=i)(h:i<1000):CMul i j:=.inl ⟨Am,Am⟩
def dws:Deed->List Int
 | .put _ w=>[w]
 | .change _ w=>[w]
 | _=>[]
theorem dq {a b:Nat}(h:a≠b):¬ decide (V.int (a:Int)=V.int (b:Int))=true:=fun z=>h (by have:=V.int.inj (Bc z);lia)
theorem rC (dd:Deed):(∃ w,dd.v=[.str w]/\(∀f v,(mD f v dd).v=dd.v)/\dws dd=[])∨(∃ w n,dd.v=[.str w,.str n]/\(∀f v,(mD f v dd).v=[.str w,.str (f n)])/\dws dd=[]/\∀ns,dd.inN ns->V.str n∈ns)∨∃ w n x,dd.v=[.str w,.str n,.int x]/\(∀f v,(mD f v dd).v=[.str w,.str (f n),.int (v x)])/\dws dd=[x]/\∀ns,dd.inN ns->V.str n∈ns:=by
 cases dd with
 | put n x=>exact .inr (.inr ⟨_,n,x,rfl,fun _ _=>rfl,rfl,fun _ h=>h⟩)
 | drop n=>exact .inr (.inl ⟨_,n,rfl,fun _ _=>rfl,rfl,fun _ h=>h⟩)
 | change n x=>exact .inr (.inr ⟨_,n,x,rfl,fun _ _=>rfl,rfl,fun _ h=>h⟩)
 | take=>exact .inl ⟨_,rfl,fun _ _=>rfl,rfl⟩
 | least=>exact .inl ⟨_,rfl,fun _ _=>rfl,rfl⟩
theorem jL:∀ds:List Deed,(ds.flatMap dws).length<=ds.length
 | []=>Av _
 | d::ds=>by
  rw [List.flatMap_cons,As,A8]
  have:=jL ds
  have h:(dws d).length<=1:=by cases d <;> simp [dws]
  lia
def kvT (wm:List Int)(st sh:Int)(i:Nat):List (Key×V):=(List.range i).map fun j=>(Sum.inl (wm.getD j 0),V.int ((j:Int)*st-sh))
theorem kZ {kvs:List (Key×V)}(h:PKV H zs kvs)(k:∀b l,H b=some (.tup l)->H' b=some (.tup l)):PKV H' zs kvs:=Paired.imp' (fun z kv r=>by obtain ⟨a,e,g⟩:=r;exact ⟨a,e,k _ _ g⟩) h
theorem tP {kvs:List (Key×V)}(h:PKV H zs kvs){q:Addr}{kv:Key×V}(g:H q=some (.tup [kV kv.1,kv.2])):PKV H (zs++[.ref q]) (kvs++[kv]):=by
 induction h with
 | nil=>exact .cons ⟨q,rfl,g⟩ .nil
 | cons r _ ih=>exact .cons r ih
theorem tf (h:wm.Pairwise (·<·)){st sh:Int}(hi:i<=wm.length):((kvT wm st sh i).map (·.1)).Nodup:=by
 unfold kvT
 rw [CF]
 refine BL.mpr (Ct (fun {a b} ha hb q e=>?_) Fl)
 have la:=B9.mp ha
 have lb:=B9.mp hb
 have e:wm.getD a 0=wm.getD b 0:=Sum.inl.inj e
 rw [AD,AD,tx (show a<wm.length by lia),tx (show b<wm.length by lia)] at e
 have:=Co.mp h a b Am Am q
 have e:wm[a]=wm[b]:=e
 lia
theorem mZ:∀{kvs:List (Key×V)} {i:Nat} {kv:Key×V},(kvs.map (·.1)).Nodup->kvs[i]?=some kv->bp kvs kv.1=some kv.2
 | [],i,kv,_,e=>by cases i <;> cases e
 | p::r,0,kv,_,e=>by cases e;exact cL rfl
 | p::r,i+1,kv,nd,e=>by
  rw [AN,BY] at nd
  have e:r[i]?=some kv:=e
  rw [cI (fun z=>nd.1 (by rw [z];exact AK.mpr ⟨kv,AQ e,rfl⟩))]
  exact mZ nd.2 e
theorem wA {ms:List Str}(up:ms.Pairwise fun a b=>slt a b=true)(hl:ms.length<=os.length){n:Str}(hn:n∈ms):bp (kvO ms os) (Sum.inr n)=some (.str (cv ms os n)):=by
 obtain ⟨i,hi,rfl⟩:=Ba hn
 rw [fQ (dF up) hl hi]
 refine mZ (i:=i) (kv:=(Sum.inr ms[i],V.str os[i])) (tD hl (dF up)) ?_
 unfold kvO
 rw [AS,(ER (z:=(ms[i],os[i]))).mpr ⟨tx hi,tx Am⟩]
 rfl
theorem y3 (up:wm.Pairwise (·<·)){st sh x:Int}(hx:x∈wm):bp (kvT wm st sh wm.length) (Sum.inl x)=some (.int (dm wm st sh x)):=by
 obtain ⟨i,hi,rfl⟩:=Ba hx
 rw [fO up hi]
 refine mZ (i:=i) (kv:=(Sum.inl wm[i],V.int ((i:Int)*st-sh))) (tf up (Av _)) ?_
 unfold kvT
 rw [AS,FQ hi]
 show some (Sum.inl (wm.getD i 0),_)=_
 rw [AD,tx hi]
 rfl
def xk (K:PySem.W.Frag):Sp:=fun vs H Q _=>∃ (pl sr dl nl:Addr) (is:List Int) (dz:List V) (ds:List Deed) (ns:List Str),vs=[.ref pl,.ref dl,.ref nl]/\Pile K H pl sr is/\H dl=some (.lst dz)/\DDs H dz ds/\ds.length<=300/\H nl=some (.lst (ns.map V.str))/\ns.Nodup/\ns.length<=200/\(∀d∈ds,d.inN (ns.map V.str))/\nl≠pl/\dl≠pl /\
 ∀(q:Addr) (zs:List V) (f:Str->Str) (v:Int->Int) (W:List Int) (H':Hp),H' q=some (.lst zs)->DDs H' zs (ds.map (mD f v))->Ren f v (·∈ns) (·∈W)->(∀d∈ds,∀x∈dws d,x∈W)->(∀n∈ns,(f n).length<=20)->Pile K H' pl sr is->Kept [pl] H H'->Q (.ref q) H'
theorem xP (F:Fun K "_law_otherwise" "_law_otherwise" nB f fd)(T:Bl mg)(z_zip:mg "zip"=none)(z_dict:mg "dict"=none)(z_set:mg "set"=none)(z_enumerate:mg "enumerate"=none)(G_law_next:aB P w K mg base CX0 1 fn fdn ["pile","most"] (cT K))(D_law_next:Nm K mg "_law_next" fn fdn ["pile","most"]):aB P w K mg base CX0 3 f fd ["pile","deeds","names"] (xk K):=by
 have sc:=wX
 refine F.okQ wX fun cdv A outer s_ H vs Q E hr h=>?_
 obtain ⟨pl,sr,dl,nl,is,dz,ds,ns,rfl,PL,hdl,hdd,ld,hnl,nd,ln,din,nnp,dnp,k⟩:=h
 have hu:=hr.units0
 refine ⟨_,(af (eO (i:=3) sc.nd rfl (Or.inr rfl) av)
  (af (bX (i:=4) sc.nd rfl (Or.inl rfl) (Blk.of (N:=["pile","deeds","names","letters","others","other","worths","step","shift","turned","found","deed"]) (esc:=am nB) (NB:=["letters"]) (cap:=[3]) rfl rfl (fun y hy=>aM hy) rfl Aj Aj Aj rfl Aj rfl Aj) rfl rfl (bx rfl T.z_range (ae (qcB aG T.z_len (ae (qv 2) aj)) aj)) (fun C fp s₀ H₀=>a7) (fun C fp s₀ H₀=>(au bJ (au bJ (ar j8 (qv 1) (au bS (qv 0) ah) pix) (ar j8 (qv 1) (au cc (qv 0) ah) pix)) av)))
  (af (jy (ay fA (qcB aG T.z_len (ae (qv 2) aj)) ah (aD _)) (ak (qst 4 sc.nd (qcB eh T.z_sorted (ae (bA (Blk.of (N:=["pile","deeds","names","letters","others","other","worths","step","shift","turned","found","deed"]) (esc:=am nB) (NB:=[]) (cap:=[]) rfl rfl (fun y hy=>aM hy) rfl Aj Aj Aj rfl Aj rfl Aj) rfl rfl (bx rfl T.z_range (ae ah aj)) (fun C fp s₀ H₀=>a7) (fun C fp s₀ H₀=>(au bJ (au vX av (qv 0)) av))) aj)))) aE)
  (af (qst 5 sc.nd (vF rfl rfl z_zip rfl z_dict (ae (qcB eh T.z_sorted (ae (qv 2) aj)) (ae (qv 4) aj))))
  (af (qst 6 sc.nd (tV rfl rfl z_set rfl T.z_sorted (bA (Blk.of (N:=["pile","deeds","names","letters","others","other","worths","step","shift","turned","found","deed"]) (esc:=am nB) (NB:=[]) (cap:=[]) rfl rfl (fun y hy=>aM hy) rfl Aj Aj Aj rfl Aj rfl Aj) rfl rfl (cA (qv 1)) (fun C fp s₀ H₀=>(gC (ay bz (gX (dW (K:=K) rfl) (by rfl) T.z_len Aj (ae (qv 0) aj)) ah (aD _)))) (fun C fp s₀ H₀=>(ar (dI (K:=K) rfl) (qv 0) ah pix)))))
  (af (eO (i:=7) sc.nd rfl (Or.inr rfl) (au aK ah (qcl G_law_next hr D_law_next az (ae (qv 0) (ae (au eQ ah ah) aj)))))
  (af (eO (i:=8) sc.nd rfl (Or.inr rfl) (qcl G_law_next hr D_law_next az (ae (qv 0) (ae (au eQ ah ah) aj))))
  (af (qst 9 sc.nd (qcT (n6 rfl) z_dict (ae (lU (Blk2.of (N:=["pile","deeds","names","letters","others","other","worths","step","shift","turned","found","deed"]) (esc:=am nB) (NB:=["step","shift"]) (cap:=[7,8]) rfl rfl (fun y hy=>aM hy) rfl Aj Aj Aj rfl Aj rfl rfl Aj) rfl rfl (wj rfl z_enumerate (qv 6)) (fun C fp s₀ H₀=>a7) (fun C fp s₀ H₀=>(aQ (ae (qv 1) (ae (au bH (au cW (qv 0) (qv 2)) (qv 3)) aj))))) aj)))
  (af (qst 10 sc.nd (aV aj))
  (af (c6 Bz rfl (cA (qv 1)) (bu (i:=11) sc.nd rfl (Or.inl rfl)) (ak (aO (ay bz (qcB aG T.z_len (ae (qv 11) aj)) ah (aD _)) (ak (aL (ci AZ A3 A4 aW (qv 10) (ae (qv 11) aj)))) (ak (aO (ay bz (qcB aG T.z_len (ae (qv 11) aj)) ah (aD _)) (ak (aL (ci AZ A3 A4 aW (qv 10) (ae (aQ (ae (ar aJ (qv 11) ah pix) (ae (aN (aR hr) (qv 5) (ar aJ (qv 11) ah pix) pix) aj))) aj)))) (ak (aL (ci AZ A3 A4 aW (qv 10) (ae (aQ (ae (ar aJ (qv 11) ah pix) (ae (aN (aR hr) (qv 5) (ar aJ (qv 11) ah pix) pix) (ae (aN (aR hr) (qv 9) (ar aJ (qv 11) ah pix) pix) aj)))) aj)))))))))
  (ak (aF (qv 10))))))))))))),?_⟩
 have LET:("abcdefghijklmnopqrstuvwxyz":Str).length<=sizeLine:=by decide +kernel
 have lm:(ns.map V.str).length=ns.length:=Ar ..
 refine ⟨nl,_,rfl,.inl (SqL.of hnl),_,rfl,Am,Am,fun D hD=>?_⟩
 refine bN (lo:=0) (n:=(ns.map V.str).length) (fun i ys H4=>ys=((List.range i).map qh).map V.str/\H4=upd H D (.lst ys)) ⟨rfl,rfl⟩ (fun i ys H4 z=>by rw [z.2];exact ag) ?_ ?_
 .rintro i ys H4 hi ⟨e1,rfl⟩
  have ly:ys.length=i:=by rw [e1,Ar,Ar,By]
  unfold oa
  dsimp only
  rw [Az rfl]
  have d1:((0:Int)+(i:Int)) / 26=((i / 26:Nat):Int):=by lia
  have d2:((0:Int)+(i:Int)) % 26=((i % 26:Nat):Int):=by lia
  refine ⟨?_,_,_,_,rfl,rfl,LET,by rw [d1];exact j4 Am,by show (0:Int)<26;decide,_,_,_,rfl,rfl,LET,by rw [d2];exact j4 Am,_,_,rfl,rfl,sz2,_,_,rfl,rfl,sz3,?_⟩
  .exact x5 Am
  refine ⟨ag,Bj (show ys.length<=1000 by lia) Ak,_,Am,rfl,Am,?_,?_⟩
  .rw [e1,C4,A1,A1];rfl
  .rw [cu]
 rintro ys H1 ⟨eys,rfl⟩
 refine gnew hD fun H1 s1 g1=>?_
 refine ⟨fun σ' H'=>∃ (O:Addr) (os:List Str),σ'=[some (.ref pl),some (.ref dl),some (.ref nl),some (.str "abcdefghijklmnopqrstuvwxyz"),some (.ref O),none,none,none,none,none,none,none]/\H' O=some (.lst (os.map V.str))/\(os.Pairwise fun a b=>slt a b=true)/\ns.length<=os.length/\(∀x∈os,x.length<=20)/\∀b u,H b=some u->H' b=some u,?_,?_⟩
 .refine ⟨nl,_,rfl,.inl (SqL.of (s1 _ _ hnl)),_,rfl,aU (fun c=>?_) (fun c=>?_)⟩
  .refine ⟨_,rfl,Ak,Ak,fun D2 hD2=>?_⟩
   refine bN (lo:=0) (n:=8) (fun i ys H4=>ys=((List.range i).map mR).map V.str/\H4=upd H1 D2 (.lst ys)) ⟨rfl,rfl⟩ (fun i ys H4 z=>by rw [z.2];exact ag) ?_ ?_
   .rintro i ys H4 hi ⟨e1,rfl⟩
    have ly:ys.length=i:=by rw [e1,Ar,Ar,By]
    refine cY <| ⟨_,i,rfl,by rw [Int.zero_add],Am,Aj,_,_,rfl,rfl,?_,?_⟩
    .show Array.size ((List.replicate i (#[97]:Array Nat)).foldl (·++·) #[])+1<=sizeLine
     rw [<-Bf,rD,As,Fq]
     exact AV (show 0+i+1<=1000 by lia) Ak
    refine ⟨ag,Bj (show ys.length<=1000 by lia) Ak,_,Am,rfl,Am,?_,?_⟩
    .rw [e1,C4,A1,A1]
     exact congrArg (fun z=>_++[V.str z]) (y7 i)
    .rw [cu]
   rintro ys2 H2 ⟨eys2,rfl⟩
   refine ⟨D2,(List.range 8).map mR,rfl,by rw [eys2];exact SqL.of ag,fun l ms hl pm pw=>?_⟩
   have s2:=aq (o:=.lst ys2) hD2
   refine ⟨l,ms,rfl,ag,wQ (pm.nodup_iff.mpr ?_) pw,?_,fun x hx=>uV (pm.mem_iff.mp hx),fun b u e=>?_⟩
   .exact wq 8
   .have:=pm.length_eq
    rw [Ar,By] at this
    have c':=Bc c
    lia
   .exact aq hl _ _ (s2 _ _ (s1 _ _ e))
  .refine ⟨D,(List.range (ns.map V.str).length).map qh,rfl,by rw [<-eys];exact g1,xH _,by rw [Ar,By,lm];exact Av _,(fun x hx=>by obtain ⟨i,_,rfl⟩:=AK.mp hx;show 3<=20;decide),s1⟩
 rintro σ' H2 ⟨O,os,rfl,hO,upO,lO,so,s2⟩
 refine ⟨nl,ns,rfl,SqL.of (s2 _ _ hnl),fun l ms hl pm pw=>?_⟩
 have lms:=pm.length_eq
 have s3:=aq (o:=.lst (ms.map V.str)) hl
 have upM:=wQ (pm.nodup_iff.mpr nd) pw
 have lz:(ms.zip os).length=ms.length:=by rw [EG];lia
 refine ⟨l,O,_,_,kvO ms os,rfl,ag,s3 _ _ hO,?_,?_,fun i kv e=>?_,fun d hd=>?_⟩
 .unfold kvO
  rw [Ar,Ar,Ar,lz]
  lia
 .exact tD Am (dF upM)
 .exact x6 e
 have s4:=aq (o:=.dK (kvO ms os)) hd
 have g4:=ag (H:=upd H2 l (.lst (ms.map V.str))) (a:=d) (o:=.dK (kvO ms os))
 have s04:∀b u,H b=some u->(upd (upd H2 l (.lst (ms.map V.str))) d (.dK (kvO ms os))) b=some u:=fun b u e=>s4 _ _ (s3 _ _ (s2 _ _ e))
 generalize upd (upd H2 l (.lst (ms.map V.str))) d (.dK (kvO ms os))=H4 at g4 s04 ⊢
 refine ⟨dl,rfl,⟨_,SqL.of (s04 _ _ hdl)⟩,fun D5 hD5=>?_⟩
 have s5:∀ys:List V,∀b u,H4 b=some u->(upd H4 D5 (.lst ys)) b=some u:=fun ys b u e=>aq hD5 _ _ e
 refine bY (K:=K) (a:=dl) (xs:=dz) (fun i ys H8=>ys=((ds.take i).flatMap dws).map V.int/\H8=upd H4 D5 (.lst ys)) ⟨rfl,rfl⟩ (fun i ys H8 z=>by rw [z.2];exact ⟨ag,SqL.of (s5 _ _ _ (s04 _ _ hdl))⟩) ?_ ?_
 .rintro i x ys H8 hx ⟨e8,rfl⟩
  have ldz:dz.length=ds.length:=Bk hdd
  obtain ⟨dd,hdd',a,rfl,ha⟩:=tp hdd hx
  have ha8:=s5 ys _ _ (s04 _ _ ha)
  have hi:i<ds.length:=(Au.mp hdd').1
  have tk:(ds.take (i+1)).flatMap dws=(ds.take i).flatMap dws++dws dd:=by rw [BR,hdd',List.flatMap_append];simp
  have lys:ys.length<=300:=by
   rw [e8,Ar]
   have:=jL (ds.take i)
   rw [A0] at this
   lia
  rcases rC dd with ⟨w0,e,_,ew⟩ | ⟨w0,n,e,_,ew,_⟩ | ⟨w0,n,x,e,_,ew,_⟩
  .rw [e] at ha8
   exact ⟨a,_,rfl,.inr (SqT.of ha8),rfl,_,rfl,aU (fun c=>absurd c (dq (a:=1) (b:=3) Ak)) (fun _=>⟨_,Am,rfl,Am,by rw [tk,e8,ew,BP],rfl⟩)⟩
  .rw [e] at ha8
   exact ⟨a,_,rfl,.inr (SqT.of ha8),rfl,_,rfl,aU (fun c=>absurd c (dq (a:=2) (b:=3) Ak)) (fun _=>⟨_,Am,rfl,Am,by rw [tk,e8,ew,BP],rfl⟩)⟩
  .rw [e] at ha8
   exact ⟨a,_,rfl,.inr (SqT.of ha8),rfl,_,rfl,aU (fun _=>⟨_,_,SqT.of ha8,rfl,ag,Bj lys Ak,_,Am,rfl,Am,by rw [tk,ew,A1,<-e8];rfl,by rw [cu]⟩) (fun c=>absurd rfl c)⟩
 rintro ys H8 ⟨e8,rfl⟩
 have ldz:dz.length=ds.length:=Bk hdd
 rw [ldz,Bx] at e8
 have lw:=jL ds
 refine ⟨D5,ds.flatMap dws,rfl,by rw [e8];exact SqL.of ag,Am,fun wl wm hwl upW memW lwm=>?_⟩
 have s6:∀b u,H b=some u->(upd (upd H4 D5 (.lst ys)) wl (.lst (wm.map V.int))) b=some u:=fun b u e=>aq hwl _ _ (s5 _ _ _ (s04 _ _ e))
 have g6:=ag (H:=upd H4 D5 (.lst ys)) (a:=wl) (o:=.lst (wm.map V.int))
 have offw:=(PL.same (fun b u e=>s5 ys _ _ (s04 _ _ e))).new hwl
 have g6d:(upd (upd H4 D5 (.lst ys)) wl (.lst (wm.map V.int))) d=some (.dK (kvO ms os)):=aq hwl _ _ (s5 _ _ _ g4)
 generalize upd (upd H4 D5 (.lst ys)) wl (.lst (wm.map V.int))=H6 at g6 g6d s6 ⊢
 have no:∀b,b≠pl->b∉[pl]:=fun b n z=>n (Ao z)
 have P6:=PL.same s6
 refine ⟨⟨Ak,Ak,Ak⟩,pl,sr,is,_,rfl,P6,Ak,Ak,fun st H7 st0 st1 P7 K7 N7=>(?_)⟩
 refine ⟨⟨Ak,Ak,Ak⟩,pl,sr,is,_,rfl,P7,Ak,Ak,fun sh H8 sh0 sh1 P8 K8 N8=>?_⟩
 have K68:=K7.trans K8
 have g8:=K68 _ _ g6 (no wl offw.1)
 refine ⟨wl,_,rfl,g8,fun D9 hD9=>?_⟩
 have lwv:(wm.map V.int).length=wm.length:=Ar ..
 refine qV (K:=K) (l:=wl) (xs:=wm.map V.int) (fun i ys H9=>PKV H9 ys (kvT wm (1+st) sh i)/\ys.length=i/\H9 D9=some (.lst ys)/\∀b u,H8 b=some u->H9 b=some u) ⟨.nil,rfl,ag,aq hD9⟩ (fun i ys H9 z=>⟨z.2.2.1,z.2.2.2 _ _ g8⟩) ?_ ?_
 .rintro i x ys H9 T9 hx ⟨pk,ly,h9,k9⟩ hT9
  rw [AS] at hx
  obtain ⟨wx,hwx,rfl⟩:=BV.mp hx
  have hi:i<wm.length:=(Au.mp hwx).1
  refine cY <| ⟨?_,sz2,fun q hq=>?_⟩
  .exact xB Am Am
  have sT:=aq (o:=.tup [.int (i:Int),.int wx]) hT9
  have sq:=aq (o:=.tup [.int wx,.int ((i:Int)*(1+st)-sh)]) hq
  have h10:=sq _ _ (sT _ _ h9)
  have gd:wm.getD i 0=wx:=by rw [AD,hwx];rfl
  refine ⟨h10,Bj (show ys.length<=1000 by lia) Ak,_,Am,rfl,Am,?_,by rw [As,ly];rfl,ag,fun b u e=>?_⟩
  .have e1:kvT wm (1+st) sh (i+1)=kvT wm (1+st) sh i++[(Sum.inl wx,V.int ((i:Int)*(1+st)-sh))]:=by
    unfold kvT
    rw [C4,A1,AN,CP,gd]
   rw [e1]
   refine kZ (tP (kZ pk fun b l e=>sq _ _ (sT _ _ e)) ag) fun b l e=>?_
   rw [ao (bv e h10 (by intro y;cases y))];exact e
  .rw [ao (ap e hD9)]
   exact sq _ _ (sT _ _ (k9 _ _ e))
 rintro ys9 H9 ⟨pk,ly,h9,k9⟩
 rw [lwv] at pk ly
 refine ⟨D9,ys9,_,rfl,h9,pk,tf upW (Av _),fun td htd=>?_⟩
 refine gnew htd fun HA s9 g9=>?_
 have KA:Kept [pl] H HA:=fun b u e n=>s9 _ _ (k9 _ _ (K68 _ _ (s6 _ _ e) n))
 have PA:=(P8.same k9).same s9
 have gO:=s9 _ _ (k9 _ _ (K68 _ _ g6d (no d (dD P6 g6d (fun _ z=>nomatch z)))))
 refine ⟨BA _,fun fl hfl=>?_⟩
 have offF:=PA.new hfl
 have hfl0:H fl=none:=by
  cases e:H fl with
  | none=>rfl
  | some u=>rw [KA _ _ e (no fl offF.1)] at hfl;cases hfl
 refine ⟨dl,rfl,⟨_,SqL.of (aq hfl _ _ (KA _ _ hdl (no dl dnp)))⟩,?_⟩
 refine gY (K:=K) (a:=dl) (xs:=dz) (fun j U HB=>∃ (zs:List V) (o11:Option V),U=[some (.ref pl),some (.ref dl),some (.ref nl),some (.str "abcdefghijklmnopqrstuvwxyz"),some (.ref O),some (.ref d),some (.ref wl),some (.int (1+st)),some (.int sh),some (.ref td),some (.ref fl),o11]/\HB fl=some (.lst zs)/\DDs HB zs ((ds.take j).map (mD (cv ms os) (dm wm (1+st) sh)))/\∀b u,HA b=some u->HB b=some u)
  ⟨[],none,rfl,ag,.nil,aq hfl⟩ (fun j U HB _ h'=>by obtain ⟨_,_,_,_,_,z⟩:=h';exact SqL.of (z _ _ (KA _ _ hdl (no dl dnp)))) ?_ ?_
 .rintro j x U HB hx ⟨zs,o11,rfl,hz,dz5,kB⟩
  obtain ⟨dd,hdd',a,rfl,ha⟩:=tp hdd hx
  have haB:=kB _ _ (KA _ _ ha (no a (dD PL ha (fun _ z=>nomatch z))))
  have hmem:dd∈ds:=AQ hdd'
  have hj:j<ds.length:=(Au.mp hdd').1
  have inM:∀{n:Str},V.str n∈ns.map V.str->n∈ms:=fun h=>by
   obtain ⟨m,hm,e⟩:=AK.mp h
   cases e
   exact pm.mem_iff.mpr hm
  have lzs:zs.length=j:=by rw [Bk dz5,Ar,A0];lia
  have sml:zs.length<sizeLine:=Bj (show zs.length<=1000 by lia) Ak
  have fin:∀(HC:Hp) (q:Addr),(∀b u,HB b=some u->HC b=some u)->HC q=some (.tup (mD (cv ms os) (dm wm (1+st) sh) dd).v)->∃ (zs':List V) (o11:Option V),[some (.ref pl),some (.ref dl),some (.ref nl),some (.str "abcdefghijklmnopqrstuvwxyz"),some (.ref O),some (.ref d),some (.ref wl),some (.int (1+st)),some (.int sh),some (.ref td),some (.ref fl),some (.ref a)]=[some (.ref pl),some (.ref dl),some (.ref nl),some (.str "abcdefghijklmnopqrstuvwxyz"),some (.ref O),some (.ref d),some (.ref wl),some (.int (1+st)),some (.int sh),some (.ref td),some (.ref fl),o11]/\(upd HC fl (.lst (zs++[.ref q]))) fl=some (.lst zs')/\DDs (upd HC fl (.lst (zs++[.ref q]))) zs' ((ds.take (j+1)).map (mD (cv ms os) (dm wm (1+st) sh)))/\∀b u,HA b=some u->(upd HC fl (.lst (zs++[.ref q]))) b=some u:=by
   intro HC q kc hq
   have hzC:=kc _ _ hz
   refine ⟨_,_,rfl,ag,?_,fun b u e=>by rw [ao (ap e hfl)];exact kc _ _ (kB _ _ e)⟩
   rw [BR,hdd',Option.toList_some,A1]
   refine DDs.stay (fj (d:=mD (cv ms os) (dm wm (1+st) sh) dd) (DDs.stay dz5 fun b l e=>kc _ _ e) ⟨q,rfl,hq⟩) fun b l e=>?_
   rw [ao (bv e hzC (by intro y;cases y))];exact e
  rcases rC dd with ⟨w0,e,em,_⟩ | ⟨w0,n,e,em,_,en⟩ | ⟨w0,n,x,e,em,ew,en⟩
  .have haC:=haB
   rw [e] at haB
   refine ⟨a,_,rfl,.inr (SqT.of haB),rfl,_,rfl,aU (fun _=>?_) (fun c=>absurd rfl c)⟩
   refine ⟨.inl ⟨rfl,_,SqL.of hz⟩,fl,_,_,rfl,rfl,hz,sml,?_⟩
   exact fin HB a (fun _ _ e=>e) (by rw [em];exact haC)
  .rw [e] at haB
   refine ⟨a,_,rfl,.inr (SqT.of haB),rfl,_,rfl,aU (fun c=>absurd c (dq (a:=2) (b:=1) Ak)) (fun _=>?_)⟩
   refine ⟨a,_,rfl,.inr (SqT.of haB),rfl,_,rfl,aU (fun _=>?_) (fun c=>absurd rfl c)⟩
   have nm:n∈ms:=inM (en _ (din _ hmem))
   refine ⟨.inl ⟨rfl,_,SqL.of hz⟩,_,_,SqT.of haB,rfl,_,_,SqT.of haB,rfl,d,_,rfl,.inl ⟨_,Sum.inr n,Rd.of (kB _ _ gO),rfl,(wA upM Am nm).symm⟩,sz2,fun q hq=>?_⟩
   have sq:=aq (o:=.tup [.str w0,.str (cv ms os n)]) hq
   refine ⟨fl,_,_,rfl,rfl,sq _ _ hz,sml,?_⟩
   exact fin _ q sq (by rw [em];exact ag)
  .rw [e] at haB
   refine ⟨a,_,rfl,.inr (SqT.of haB),rfl,_,rfl,aU (fun c=>absurd c (dq (a:=3) (b:=1) Ak)) (fun _=>?_)⟩
   refine ⟨a,_,rfl,.inr (SqT.of haB),rfl,_,rfl,aU (fun c=>absurd c (dq (a:=3) (b:=2) Ak)) (fun _=>?_)⟩
   have nm:n∈ms:=inM (en _ (din _ hmem))
   have xm:x∈wm:=(memW x).mpr (List.mem_flatMap.mpr ⟨_,hmem,by rw [ew];exact Bh.mpr rfl⟩)
   refine ⟨.inl ⟨rfl,_,SqL.of hz⟩,_,_,SqT.of haB,rfl,_,_,SqT.of haB,rfl,d,_,rfl,.inl ⟨_,Sum.inr n,Rd.of (kB _ _ gO),rfl,(wA upM Am nm).symm⟩,_,_,SqT.of haB,rfl,td,_,rfl,.inl ⟨_,Sum.inl x,Rd.of (kB _ _ g9),rfl,(y3 upW xm).symm⟩,sz3,fun q hq=>?_⟩
   have sq:=aq (o:=.tup [.str w0,.str (cv ms os n),.int (dm wm (1+st) sh x)]) hq
   refine ⟨fl,_,_,rfl,rfl,sq _ _ hz,sml,?_⟩
   exact fin _ q sq (by rw [em];exact ag)
 rintro U HB ⟨zs,o11,rfl,hz,dz5,kB⟩
 have ldz:dz.length=ds.length:=Bk hdd
 rw [ldz,Bx] at dz5
 have R:=yH (st:=1+st) (sh:=sh) upM upO Am upW Am
 refine (k fl zs _ _ wm HB hz dz5 ⟨fun a b ha hb=>R.fo a b (pm.mem_iff.mpr ha) (pm.mem_iff.mpr hb),R.vo⟩ (fun dd hm x hx=>(memW x).mpr (List.mem_flatMap.mpr ⟨dd,hm,hx⟩)) (fun n hn=>so _ (yq (pm.mem_iff.mpr hn) Am)) (PA.same kB) fun b u e n=>kB _ _ (KA _ _ e n))
theorem vS {fs:List Int}(as bs:List Deed):∃ more,(led z fs (as++bs)).rows=(led z fs as).rows++more:=by
 unfold led
 rw [Eh]
 suffices h:∀(a:LSt),∃ more,(bs.foldl (bQ fs) a).rows=a.rows++more from h _
 induction bs with
 | nil=>intro a;exact ⟨[],(BP _).symm⟩
 | cons d bs ih =>
  intro a
  obtain ⟨more,e⟩:=ih (bQ fs a d)
  rw [Do,e]
  exact ⟨_,AB ..⟩
theorem rX {fs:List Int}(ds:List Deed)(j:Nat):(led z fs (ds.take j)).rows=(led z fs ds).rows.take j:=by
 obtain ⟨more,e⟩:=vS (z:=z) (fs:=fs) (ds.take j) (ds.drop j)
 rw [Bb] at e
 by_cases h:j<=ds.length
 .have l:=bP (z:=z) (fs:=fs) (ds.take j)
  rw [A0,Nat.min_eq_left h] at l
  rw [e,Cv Am]
  exact (A6 Am).symm
 rw [A6 (l:=ds) Am,A6]
 rw [bP];lia
def lkN (z:Int)(ds:List Deed)(k:Nat):Int:=((bE z (ds.take k)).looks:Int)
theorem zy:lkN z ds 0=0:=by unfold lkN;rw [DG];rfl
theorem yi {k:Nat}:0<=lkN z ds k:=Int.natCast_nonneg _
def puN (z:Int)(fs:List Int)(ds:List Deed)(k:Nat):Int:=(led z fs (ds.take k)).p
def eV (z:Int)(fs:List Int)(ds:List Deed)(k:Nat):Int×Int:=(lkN z ds (k+1)-lkN z ds k,puN z fs ds (k+1))
theorem gF {k:Nat}(h:ds[k]?=some d):ds.take (k+1)=ds.take k++[d]:=by rw [BR,h];rfl
theorem iu {fs:List Int}{as:List Deed}:(led z fs (as++[d])).p=(led z fs as).p+fs.getD (dt d) 0-(((bE z (as++[d])).looks:Int)-((bE z as).looks:Int)):=by
 rw [hG,bL];unfold bQ;rw [tI]
theorem ck {fs:List Int}{k:Nat}(h:k<ds.length):(led z fs ds).rows[k]?=some (eV z fs ds k):=by
 have e:=gF (tx h)
 have e1:=rX (z:=z) (fs:=fs) ds (k+1)
 have e2:(led z fs ds).rows[k]?=((led z fs ds).rows.take (k+1))[k]?:=by rw [Dj,Az (Cu k)]
 have l:(led z fs (ds.take k)).rows.length=k:=by rw [bP,A0];lia
 rw [e2,<-e1]
 unfold eV lkN puN
 rw [e,hG,bL]
 unfold bQ
 rw [tI]
 dsimp only
 rw [AG Am,l,Dp]
 rfl
def dQ (fs gs:List Int):List Int:=List.zipWith (·+·) fs gs
theorem jT {ys:List V}(h:H l=some (.lst xs)):∀b t,H b=some (.tup t)->(upd H l (.lst ys)) b=some (.tup t):=fun b t e=>by rw [ao (bv e h (by intro y;cases y))];exact e
def wV (z:Int)(ds:List Deed)(k:Nat):V:=.int (lkN z ds (k+1)-lkN z ds k)
theorem wH:AlL K H n ((List.range i).map (wV z ds)) ((List.range i).map (wV z ds)):=AlL.same fun x hx=>by
 obtain ⟨j,_,rfl⟩:=AK.mp hx
 rfl
structure TwoN (H:Hp)(ys:List V)(g:Nat->Int×Int)(i:Nat):Prop where
 len:ys.length=i
 at_:∀(j:Nat) (v:V),ys[j]?=some v->∃ c:Addr,v=.ref c/\H c=some (.tup [.int (g j).1,.int (g j).2])
theorem TwoN.nil {g:Nat->Int×Int}:TwoN H [] g 0:=⟨rfl,fun j v e=>nomatch e⟩
theorem TwoN.stay {ys:List V}{g:Nat->Int×Int}(h:TwoN H ys g i)(k:∀b l,H b=some (.tup l)->H' b=some (.tup l)):TwoN H' ys g i:=⟨h.len,fun j v e=>by
 obtain ⟨c,e1,e2⟩:=h.at_ j v e
 exact ⟨c,e1,k _ _ e2⟩⟩
theorem TwoN.snoc {ys:List V}{g:Nat->Int×Int}{c:Addr}(h:TwoN H ys g i)(hc:H c=some (.tup [.int (g i).1,.int (g i).2])):TwoN H (ys++[.ref c]) g (i+1):=⟨by rw [As,h.len];rfl,fun j v e=>by
 have hl:=h.len
 by_cases hj:j<ys.length
 .rw [AW hj] at e
  exact h.at_ j v e
 have lj:=(Au.mp e).1
 rw [As] at lj
 have lj':j<ys.length+1:=lj
 have ej:j=i:=by lia
 rw [AG Am,show j-ys.length=0 by lia] at e
 cases e
 rw [ej]
 exact ⟨c,rfl,hc⟩⟩
theorem TwoN.al {ys:List V}{g g':Nat->Int×Int}(h:TwoN H xs g i)(h':TwoN H ys g' i)(e:∀j,j<i->g j=g' j):AlL K H 8 xs ys:=⟨h.len.trans h'.len.symm,fun j x y ex ey=>by
 obtain ⟨c,rfl,hc⟩:=h.at_ j x ex
 obtain ⟨c',rfl,hc'⟩:=h'.at_ j y ey
 have hj:=(Au.mp ex).1
 rw [h.len] at hj
 rw [<-e j hj] at hc'
 exact .tup (SqT.of hc) (SqT.of hc') rfl fun k u v eu ev=>by
  rw [eu] at ev
  cases ev
  rcases k with _ | _ | k
  .cases eu;exact .same rfl
  .cases eu;exact .same rfl
  .cases eu⟩
theorem l3 {α:Type}{l:List α}(h:l.length=3):∃ a b c,l=[a,b,c]:=by
 rcases l with _ | ⟨a,_ | ⟨b,_ | ⟨c,_ | ⟨d,l⟩⟩⟩⟩
 .cases h
 .cases h
 .cases h
 .exact ⟨a,b,c,rfl⟩
 simp at h
theorem at3 {a b c x:V}(h:([a,b,c]:List V)[i]?=some x):(i=0/\x=a)∨(i=1/\x=b)∨(i=2/\x=c):=by
 rcases i with _ | _ | _ | i
 .exact .inl ⟨rfl,(Be h).symm⟩
 .exact .inr (.inl ⟨rfl,(Be h).symm⟩)
 .exact .inr (.inr ⟨rfl,(Be h).symm⟩)
 cases h
theorem yo (h:lB nv):∃ ns:List Str,nv=ns.map V.str:=by
 induction nv with
 | nil=>exact ⟨[],rfl⟩
 | cons v nv ih =>
  obtain ⟨ns,e⟩:=ih fun x hx=>h x (AH _ hx)
  obtain ⟨x,ex,_⟩:=h v AX
  exact ⟨x::ns,by rw [ex,e];rfl⟩
def tri (fs gs:List Int):Nat->List Int
 | 0=>fs
 | 1=>gs
 | _=>dQ fs gs
structure L9 (K:W.Frag)(pl a:Addr)(is:List Int)(nl dl:Addr)(nv dz:List V)(ds:List Deed)(z:Int)(fs gs:List Int)(f1 f2 f3 rl q0 q1 q2:Addr)(z0 z1 z2:List V)(H:Hp):Prop where
 pi:Pile K H pl a is
 hnl:H nl=some (.lst nv)
 hdl:H dl=some (.lst dz)
 dd:DDs H dz ds
 g1:H f1=some (.tup (fs.map V.int))
 g2:H f2=some (.tup (gs.map V.int))
 g3:H f3=some (.tup ((dQ fs gs).map V.int))
 h8:H rl=some (.lst [.ref q0,.ref q1,.ref q2])
 hq0:H q0=some (.tup z0)
 hq1:H q1=some (.tup z1)
 hq2:H q2=some (.tup z2)
 led0:LedAt H z0 dz (led z fs ds).rows
 led1:LedAt H z1 dz (led z gs ds).rows
 led2:LedAt H z2 dz (led z (dQ fs gs) ds).rows
theorem L9.same {pl nl dl f1 f2 f3 rl q0 q1 q2:Addr}{is fs:List Int}{z0 z1 z2:List V}(W:L9 K pl a is nl dl nv dz ds z fs gs f1 f2 f3 rl q0 q1 q2 z0 z1 z2 H)(s:Same H H'):L9 K pl a is nl dl nv dz ds z fs gs f1 f2 f3 rl q0 q1 q2 z0 z1 z2 H':=by
 have k:∀b l,H b=some (.tup l)->H' b=some (.tup l):=fun b l e=>s b _ e
 exact ⟨W.pi.same s,s _ _ W.hnl,s _ _ W.hdl,DDs.stay W.dd k,k _ _ W.g1,k _ _ W.g2,k _ _ W.g3,s _ _ W.h8,k _ _ W.hq0,k _ _ W.hq1,k _ _ W.hq2,W.led0.stay k,W.led1.stay k,W.led2.stay k⟩
theorem tZ {fs:List Int}(hl:fs.length=gs.length)(i:Nat):(dQ fs gs).getD i 0=fs.getD i 0+gs.getD i 0:=by
 unfold dQ
 rw [AD,AD,AD]
 by_cases h:i<fs.length
 .rw [tx (by rw [EJ];lia),tx h,tx Am,List.getElem_zipWith];rfl
 rw [BO (by rw [EJ];lia),BO Am,BO Am];rfl
theorem jR {z:Int}{fs gs:List Int}(hl:fs.length=gs.length){ds:List Deed}:∀{k:Nat},k<=ds.length->puN z (dQ fs gs) ds k=puN z fs ds k+puN z gs ds k+lkN z ds k
 | 0,_=>by unfold puN lkN;rw [DG];rfl
 | k+1,h=>by
  have ih:=jR (z:=z) hl (ds:=ds) (k:=k) Am
  have e:=gF (tx (l:=ds) (i:=k) Am)
  unfold puN lkN at ih ⊢
  rw [e,iu,iu,iu,tZ hl]
  lia
theorem rO {fs:List Int}(hl:fs.length=gs.length)(h1:∀r∈(led z fs ds).rows,0<=r.2)(h2:∀r∈(led z gs ds).rows,0<=r.2):∀r∈(led z (dQ fs gs) ds).rows,0<=r.2:=fun r hr=>by
 obtain ⟨k,hk,e⟩:=Ba hr
 rw [bP] at hk
 have e1:=ck (z:=z) (fs:=dQ fs gs) hk
 rw [tx (by rw [bP];exact hk),e] at e1
 rw [Be e1]
 show 0<=puN z (dQ fs gs) ds (k+1)
 rw [jR hl Am]
 have:0<=puN z fs ds (k+1):=h1 _ (AQ (ck hk))
 have:0<=puN z gs ds (k+1):=h2 _ (AQ (ck hk))
 have:=yi (z:=z) (ds:=ds) (k:=k+1)
 lia
theorem zt {Wl:List Int}(h:d.inN (ns.map V.str))(hw:∀x∈dws d,x∈Wl):gD (·∈ns) (·∈Wl) d:=by
 have q:∀{n:Str},V.str n∈ns.map V.str->n∈ns:=fun h=>by
  obtain ⟨m,hm,e⟩:=AK.mp h
  cases e;exact hm
 cases d with
 | put n w=>exact ⟨q h,hw w (Bh.mpr rfl)⟩
 | drop n=>exact q h
 | change n w=>exact ⟨q h,hw w (Bh.mpr rfl)⟩
 | take=>trivial
 | least=>trivial
theorem zD {f:Str->Str}{v:Int->Int}(h:d.inN (ns.map V.str))(hf:∀n∈ns,(f n).length<=20):(mD f v d).sh:=by
 have q:∀{n:Str},V.str n∈ns.map V.str->(f n).length<=20:=fun h=>by
  obtain ⟨m,hm,e⟩:=AK.mp h
  cases e;exact hf _ hm
 cases d with
 | put n w=>exact q h
 | drop n=>exact q h
 | change n w=>exact q h
 | take=>trivial
 | least=>trivial
theorem wn {f:Str->Str}{v:Int->Int}{N:Str->Prop}{W:Int->Prop}(R:Ren f v N W)(ft:Fits z ds)(hd:∀d∈ds,gD N W d):Fits z (ds.map (mD f v)):=by
 induction ft with
 | nil=>exact .nil
 | @snoc ds d ft ff ih =>
  have hd':∀x∈ds,gD N W x:=fun x hx=>hd x (Cy _ hx)
  have ih':=ih hd'
  rw [A1]
  refine ih'.snoc ?_
  obtain ⟨e,G⟩:=R.run (z:=z) hd'
  have:=R.fit G (hd d An) (ft.sim.fit ff)
  rw [<-e] at this
  exact (kN ih'.sim).fit this
theorem xO {f:Str->Str}{v:Int->Int}(d:Deed):dt (mD f v d)=dt d:=by cases d <;> rfl
theorem pC {f:Str->Str}{v:Int->Int}{N:Str->Prop}{W:Int->Prop}(R:Ren f v N W)(hd:∀d∈ds,gD N W d)(k:Nat):lkN z (ds.map (mD f v)) k=lkN z ds k:=by
 unfold lkN
 rw [<-FU,(R.run (z:=z) fun d h=>hd d (BS h)).1]
 rfl
theorem wz {f:Str->Str}{v:Int->Int}{N:Str->Prop}{W:Int->Prop}(R:Ren f v N W){z:Int}{fs:List Int}{ds:List Deed}(hd:∀d∈ds,gD N W d):∀{k:Nat},k<=ds.length->puN z fs (ds.map (mD f v)) k=puN z fs ds k
 | 0,_=>by unfold puN;rw [DG,DG]
 | k+1,h=>by
  have ih:=wz R (z:=z) (fs:=fs) hd (k:=k) Am
  have l1:=pC R (z:=z) hd (k+1)
  have l0:=pC R (z:=z) hd k
  have e0:=tx (l:=ds) (i:=k) Am
  have e:=gF e0
  have e':=gF (ds:=ds.map (mD f v)) (k:=k) (d:=mD f v ds[k]) (by rw [AS,e0];rfl)
  unfold puN lkN at *
  rw [e,e'] at l1
  rw [e,e',iu,iu,xO,ih,l1,l0]
theorem yB {f:Str->Str}{v:Int->Int}{N:Str->Prop}{W:Int->Prop}(R:Ren f v N W){fs:List Int}(hd:∀d∈ds,gD N W d){k:Nat}(hk:k<ds.length):eV z fs (ds.map (mD f v)) k=eV z fs ds k:=by
 unfold eV
 rw [pC R hd,pC R hd,wz R hd hk]
theorem kU (h:X.K=K):SlR X (fun x lo hi H Q=>yp K x lo hi H Q∨∃ a xs,x=.ref a/\SqT K H a xs/\(HT.sIx xs.length 0 lo=0/\HT.sIx xs.length xs.length hi=xs.length)/\Q (.ref a) H):=by subst h;exact vM
abbrev cZ:Stmt:=top 43
theorem xi:aA ["script","pile","names","slack","deeds","one","other","both","rows","works","spent","k","shown","again"] ["script"] (am cZ):=fs0
def pK (K:W.Frag):Sp:=fun vs H Q _=>∃ (a:Addr) (ns:List Int),vs=[.ref a]/\SqL K H a (ns.map V.int)/\ns.length<=63/\∀H',Q (.bl true) H'
theorem yF {a_law_pile a_law_next a_law_drawn a_law_otherwise aledger aledger_shown:Addr}{f_law_pile f_law_next f_law_drawn f_law_otherwise fledger fledger_shown:FuncData}(F:Fun K "law" "law" cZ f fd)(T:Bl mg)(z_zip:mg "zip"=none)(G_law_pile:aB P w K mg base CX0 1 a_law_pile f_law_pile ["script"] (uK K))(D_law_pile:Nm K mg "_law_pile" a_law_pile f_law_pile ["script"])(G_law_next:aB P w K mg base CX0 1 a_law_next f_law_next ["pile","most"] (cT K))(D_law_next:Nm K mg "_law_next" a_law_next f_law_next ["pile","most"])(G_law_drawn:aB P w K mg base CX0 5 a_law_drawn f_law_drawn ["pile","most"] (oZ K))(D_law_drawn:Nm K mg "_law_drawn" a_law_drawn f_law_drawn ["pile","most"])(G_law_otherwise:aB P w K mg base CX0 3 a_law_otherwise f_law_otherwise ["pile","deeds","names"] (xk K))(D_law_otherwise:Nm K mg "_law_otherwise" a_law_otherwise f_law_otherwise ["pile","deeds","names"])(Gledger:aB P w K mg base CX0 9 aledger fledger ["deeds","slack","tariff"] (cN C))(Dledger:Nm K mg "ledger" aledger fledger ["deeds","slack","tariff"])(Gledger_shown:aB P w K mg base CX0 9 aledger_shown fledger_shown ["ledger","slack","tariff"] pF)(Dledger_shown:Nm K mg "ledger_shown" aledger_shown fledger_shown ["ledger","slack","tariff"]):
  aB P w K mg base CX0 11 f fd ["script"] (pK K):=by
 have sc:=xi
 refine F.okQ xi fun cdv A outer s_ H vs Q E hr h=>?_
 obtain ⟨a,is,rfl,hS,hn0,k⟩:=h
 have hu:=hr.units0
 have hu1:=hr.u100
 refine ⟨_,(af (eO (i:=1) sc.nd rfl (Or.inr rfl) (qcl G_law_pile hr D_law_pile az (ae (qv 0) aj)))
  (af (bU (qcl G_law_drawn hr D_law_drawn az (ae (qv 1) (ae ah aj))) (uo rfl (bF (bu (i:=2) sc.nd rfl (Or.inl rfl)) (bF (bu (i:=3) sc.nd rfl (Or.inr rfl)) (bF (bu (i:=4) sc.nd rfl (Or.inr rfl)) gG)))))
  (af (qst 5 sc.nd (qcT b9 T.z_tuple (ae (bA (Blk.of (N:=["script","pile","names","slack","deeds","one","other","both","rows","works","spent","k","shown","again"]) (esc:=am cZ) (NB:=["pile"]) (cap:=[1]) rfl rfl (fun y hy=>aM hy) rfl Aj Aj Aj rfl Aj rfl Aj) rfl rfl (bx rfl T.z_range (ae ah aj)) (fun C fp s₀ H₀=>a7) (fun C fp s₀ H₀=>(qcl G_law_next hr D_law_next az (ae (qv 1) (ae ah aj))))) aj)))
  (af (qst 6 sc.nd (qcT b9 T.z_tuple (ae (bA (Blk.of (N:=["script","pile","names","slack","deeds","one","other","both","rows","works","spent","k","shown","again"]) (esc:=am cZ) (NB:=["pile"]) (cap:=[1]) rfl rfl (fun y hy=>aM hy) rfl Aj Aj Aj rfl Aj rfl Aj) rfl rfl (bx rfl T.z_range (ae ah aj)) (fun C fp s₀ H₀=>a7) (fun C fp s₀ H₀=>(qcl G_law_next hr D_law_next az (ae (qv 1) (ae ah aj))))) aj)))
  (af (qst 7 sc.nd (qcT b9 T.z_tuple (ae (lU (Blk2.of (N:=["script","pile","names","slack","deeds","one","other","both","rows","works","spent","k","shown","again"]) (esc:=am cZ) (NB:=[]) (cap:=[]) rfl rfl (fun y hy=>aM hy) rfl Aj Aj Aj rfl Aj rfl rfl Aj) rfl rfl (pE (b1:=true) (b2:=true) rfl z_zip (ae (qv 5) (ae (qv 6) aj))) (fun C fp s₀ H₀=>a7) (fun C fp s₀ H₀=>(au aK (qv 0) (qv 1)))) aj)))
  (af (bX (i:=8) sc.nd rfl (Or.inl rfl) (Blk.of (N:=["script","pile","names","slack","deeds","one","other","both","rows","works","spent","k","shown","again"]) (esc:=am cZ) (NB:=["deeds","slack"]) (cap:=[4,3]) rfl rfl (fun y hy=>aM hy) rfl Aj Aj Aj rfl Aj rfl Aj) rfl rfl (dj (aQ (ae (qv 5) (ae (qv 6) (ae (qv 7) aj))))) (fun C fp s₀ H₀=>a7) (fun C fp s₀ H₀=>(qcl Gledger hr Dledger az (ae (qv 1) (ae (qv 2) (ae (qv 0) aj))))))
  (af (bX (i:=9) sc.nd rfl (Or.inl rfl) (Blk.of (N:=["script","pile","names","slack","deeds","one","other","both","rows","works","spent","k","shown","again"]) (esc:=am cZ) (NB:=[]) (cap:=[]) rfl rfl (fun y hy=>aM hy) rfl Aj Aj Aj rfl Aj rfl Aj) rfl rfl (dj (ar aw (qv 8) ah pix)) (fun C fp s₀ H₀=>a7) (fun C fp s₀ H₀=>(ar (dI (K:=K) rfl) (qv 0) ah pix)))
  (af (aO (QW.pt (xc (ay (pQ hu1) (bA (Blk.of (N:=["script","pile","names","slack","deeds","one","other","both","rows","works","spent","k","shown","again"]) (esc:=am cZ) (NB:=[]) (cap:=[]) rfl rfl (fun y hy=>aM hy) rfl Aj Aj Aj rfl Aj rfl Aj) rfl rfl (dj (ar aw (qv 8) ah pix)) (fun C fp s₀ H₀=>a7) (fun C fp s₀ H₀=>(ar (dI (K:=K) rfl) (qv 0) ah pix))) (qv 9) (aD _)) (rW (ay (pQ hu1) (bA (Blk.of (N:=["script","pile","names","slack","deeds","one","other","both","rows","works","spent","k","shown","again"]) (esc:=am cZ) (NB:=[]) (cap:=[]) rfl rfl (fun y hy=>aM hy) rfl Aj Aj Aj rfl Aj rfl Aj) rfl rfl (dj (ar aw (qv 8) ah pix)) (fun C fp s₀ H₀=>a7) (fun C fp s₀ H₀=>(ar (dI (K:=K) rfl) (qv 0) ah pix))) (qv 9) (aD _))))) (ak (aF ul)) aE)
  (af (qst 10 sc.nd ah)
  (af (c6 Bz rfl (bx rfl T.z_range (ae (qcB aG T.z_len (ae (qv 4) aj)) aj)) (bu (i:=11) sc.nd rfl (Or.inl rfl)) (af (qst 10 sc.nd (au aK (qv 10) (ar aw (qv 9) (qv 11) pix)))
  (ak (aO (ay wW (ar aJ (ar aJ (ar aw (qv 8) ah pix) (qv 11) pix) ah pix) (au aK (au aK (ar aJ (ar aJ (ar aw (qv 8) ah pix) (qv 11) pix) ah pix) (ar aJ (ar aJ (ar aw (qv 8) ah pix) (qv 11) pix) ah pix)) (qv 10)) (aD _)) (ak (aF ul)) aE))))
  (af (kK (i:=12) sc.nd rfl (Or.inl rfl) (Blk2.of (N:=["script","pile","names","slack","deeds","one","other","both","rows","works","spent","k","shown","again"]) (esc:=am cZ) (NB:=["slack"]) (cap:=[3]) rfl rfl (fun y hy=>aM hy) rfl Aj Aj Aj rfl Aj rfl rfl Aj) rfl rfl (pE (b1:=false) (b2:=true) rfl z_zip (ae (qv 8) (ae (aQ (ae (qv 5) (ae (qv 6) (ae (qv 7) aj)))) aj))) (fun C fp s₀ H₀=>a7) (fun C fp s₀ H₀=>(qcl Gledger_shown hr Dledger_shown az (ae (qv 0) (ae (qv 2) (ae (qv 1) aj))))))
  (af (aO (jO (QW.pt (eE (eF (ar aw (qv 12) ah pix)) (eE (eF (ar aw (qv 12) ah pix)) (dL (eK (eF (ar aw (qv 12) ah pix)))))))) (ak (aF ul)) aE)
  (af (qst 13 sc.nd (qcl Gledger hr Dledger az (ae (qcl G_law_otherwise hr D_law_otherwise az (ae (qv 1) (ae (qv 4) (ae (qv 2) aj)))) (ae (qv 3) (ae (qv 5) aj)))))
  (ak (aF (cx (oH hu1) (bA (Blk.of (N:=["script","pile","names","slack","deeds","one","other","both","rows","works","spent","k","shown","again"]) (esc:=am cZ) (NB:=[]) (cap:=[]) rfl rfl (fun y hy=>aM hy) rfl Aj Aj Aj rfl Aj rfl Aj) rfl rfl (dj (qv 13)) (fun C fp s₀ H₀=>a7) (fun C fp s₀ H₀=>(cj (kU (K:=K) rfl) (qv 0) (cU ah) cS))) (bA (Blk.of (N:=["script","pile","names","slack","deeds","one","other","both","rows","works","spent","k","shown","again"]) (esc:=am cZ) (NB:=[]) (cap:=[]) rfl rfl (fun y hy=>aM hy) rfl Aj Aj Aj rfl Aj rfl Aj) rfl rfl (dj (ar aw (qv 8) ah pix)) (fun C fp s₀ H₀=>a7) (fun C fp s₀ H₀=>(cj (kU (K:=K) rfl) (qv 0) (cU ah) cS))) (aD _))))))))))))))))),?_⟩
 refine ⟨a,is,rfl,hS,hn0,fun pl H1 P1 s1=>?_⟩
 have no:∀b,b≠pl->b∉[pl]:=fun b n z=>n (Ao z)
 refine ⟨pl,a,is,300,rfl,P1,Ak,Ak,fun o nl dl nv dz ds z H2 ho hnl an nd n1 n2 hdl dd ft ind ld z0 P2 K2 nnp ndp fnl fdl=>?_⟩
 have sh:∀x∈ds,x.sh:=fun x hx=>zI an (ind x hx)
 have ldz:dz.length=ds.length:=Bk dd
 refine ⟨o,_,rfl,SqL.of ho,rfl,_,_,rfl,_,_,rfl,_,_,rfl,rfl,?_⟩
 clear ho K2 fnl fdl P1 s1
 refine ⟨5,rfl,Ak,Ak,fun D hD=>?_⟩
 have offD:=P2.new hD
 refine bN (lo:=0) (n:=5) (fun i ys H8=>∃ fs:List Int,ys=fs.map V.int/\fs.length=i/\H8 D=some (.lst ys)/\Pile K H8 pl a is/\Kept [pl] H2 H8) ⟨[],rfl,rfl,ag,P2.same (aq hD),Kept.of_same (aq hD)⟩ (fun i ys H8 z=>z.elim fun _ z=>z.2.2.1) ?_ ?_
 .rintro i ys H8 hi ⟨fs,rfl,lf,h8,P8,K8⟩
  refine cY <| ⟨pl,a,is,30,rfl,P8,Ak,Ak,fun x H9 x0 x1 P9 K9 N9=>?_⟩
  refine ⟨K9 _ _ h8 (no D offD.1),aH (by rw [Ar];lia),_,Am,rfl,hi,fs++[x],by rw [A1];rfl,by rw [As,lf];rfl,ag,P9.kept (F:=[D]) (fun b hb=>by rw [Ao hb];exact offD) (Kept.refl.put An),(K8.trans K9).newer hD⟩
 rintro ys H8 ⟨fs,rfl,lf,h8,P8,K8⟩
 refine ⟨D,_,rfl,.inl ⟨SqL.of h8,fun f1 hf1=>?_⟩⟩
 refine gnew hf1 fun H3 s9 g1=>?_
 have K3:=K8.trans (Kept.of_same s9)
 have P3:=P8.same s9
 replace hnl:=K3 _ _ hnl (no nl nnp)
 replace hdl:=K3 _ _ hdl (no dl ndp)
 replace dd:=DDs.stay dd (dM P2 K3)
 clear K3 s9 hf1 h8 P8 K8 offD hD
 refine ⟨5,rfl,Ak,Ak,fun D2 hD=>?_⟩
 have offD:=P3.new hD
 refine bN (lo:=0) (n:=5) (fun i ys H8=>∃ fs:List Int,ys=fs.map V.int/\fs.length=i/\H8 D2=some (.lst ys)/\Pile K H8 pl a is/\Kept [pl] H3 H8) ⟨[],rfl,rfl,ag,P3.same (aq hD),Kept.of_same (aq hD)⟩ (fun i ys H8 z=>z.elim fun _ z=>z.2.2.1) ?_ ?_
 .rintro i ys H8 hi ⟨fs,rfl,lf,h8,P8,K8⟩
  refine cY <| ⟨pl,a,is,30,rfl,P8,Ak,Ak,fun x H9 x0 x1 P9 K9 N9=>?_⟩
  refine ⟨K9 _ _ h8 (no D2 offD.1),aH (by rw [Ar];lia),_,Am,rfl,hi,fs++[x],by rw [A1];rfl,by rw [As,lf];rfl,ag,P9.kept (F:=[D2]) (fun b hb=>by rw [Ao hb];exact offD) (Kept.refl.put An),(K8.trans K9).newer hD⟩
 rintro ys H8 ⟨gs,rfl,lg,h8,P8,K8⟩
 refine ⟨D2,_,rfl,.inl ⟨SqL.of h8,fun f2 hf2=>?_⟩⟩
 refine gnew hf2 fun H4 s9 g2=>?_
 have K4:=K8.trans (Kept.of_same s9)
 have P4:=P8.same s9
 replace hnl:=K4 _ _ hnl (no nl nnp)
 replace hdl:=K4 _ _ hdl (no dl ndp)
 replace g1:=dM P3 K4 _ _ g1
 replace dd:=DDs.stay dd (dM P3 K4)
 clear K4 s9 hf2 h8 P8 K8 offD hD P3 P2
 have lfg:fs.length=gs.length:=by lia
 have lad:(dQ fs gs).length=5:=by unfold dQ;rw [EJ];lia
 refine ⟨f1,f2,fs.map V.int,gs.map V.int,rfl,g1,g2,fun D3 hD3=>?_⟩
 refine ko (K:=K) (b1:=true) (b2:=true) (l1:=f1) (l2:=f2) (n:=5) (xs:=fs.map V.int) (ys':=gs.map V.int) (fun i ys H8=>ys=((dQ fs gs).take i).map V.int/\H8 D3=some (.lst ys)/\Same H4 H8) ⟨rfl,ag,aq hD3⟩ (by rw [Ar];exact lf) (by rw [Ar];exact lg) (fun i ys H8 z=>⟨z.2.1,z.2.2 _ _ g1,z.2.2 _ _ g2⟩) ?_ ?_
 .rintro i x y ys H8 T8 hx hy ⟨e8,h8,s8⟩ hT8
  rw [AS] at hx hy
  obtain ⟨fx,hfx,rfl⟩:=BV.mp hx
  obtain ⟨gy,hgy,rfl⟩:=BV.mp hy
  have hi:=(Au.mp hfx).1
  have ea:(dQ fs gs)[i]?=some (fx+gy):=by unfold dQ;rw [List.getElem?_zipWith,hfx,hgy]
  unfold oa
  dsimp only
  rw [Az rfl]
  have sT:=aq (o:=.tup [.int fx,.int gy]) hT8
  refine ⟨sT _ _ h8,aH (by rw [e8,Ar,A0];lia),_,Am,rfl,Am,?_,ag,?_⟩
  .rw [BR,ea,e8,A1];rfl
  .exact bj (s8.trans sT) hD3
 rintro ys H8 ⟨e8,h8,s8⟩
 rw [A6 Am] at e8
 subst e8
 refine ⟨D3,_,rfl,.inl ⟨SqL.of h8,fun f3 hf3=>?_⟩⟩
 refine gnew hf3 fun H5 s9 g3=>?_
 have s5:=s8.trans s9
 replace hnl:=s5 _ _ hnl
 replace hdl:=s5 _ _ hdl
 replace g1:=s5 _ _ g1
 replace g2:=s5 _ _ g2
 replace dd:=DDs.stay dd (fun b l e=>s5 b _ e)
 have P5:=P4.same s5
 clear s5 s9 hf3 h8 s8 hD3 P4
 refine ⟨sz3,fun tq htq=>?_⟩
 refine gnew htq fun H6 s6 g6=>?_
 replace hnl:=s6 _ _ hnl
 replace hdl:=s6 _ _ hdl
 replace g1:=s6 _ _ g1
 replace g2:=s6 _ _ g2
 replace g3:=s6 _ _ g3
 replace dd:=DDs.stay dd (fun b l e=>s6 b _ e)
 have P6:=P5.same s6
 clear s6 P5 htq
 refine ⟨tq,rfl,⟨_,SqT.of g6⟩,fun D4 hD4=>?_⟩
 have FF:∀(i:Nat) (x:V),([.ref f1,.ref f2,.ref f3]:List V)[i]?=some x->∃ fl,x=.ref fl/\H6 fl=some (.tup ((tri fs gs i).map V.int))/\(tri fs gs i).length=5:=by
  intro i x hx
  rcases at3 hx with ⟨rfl,rfl⟩ | ⟨rfl,rfl⟩ | ⟨rfl,rfl⟩
  .exact ⟨f1,rfl,g1,lf⟩
  .exact ⟨f2,rfl,g2,lg⟩
  .exact ⟨f3,rfl,g3,lad⟩
 refine bK (K:=K) (a:=tq) (xs:=[.ref f1,.ref f2,.ref f3]) (fun i ys H8=>H8 D4=some (.lst ys)/\ys.length=i/\Same H6 H8/\∀(j:Nat) (v:V),ys[j]?=some v->∃ q zs,v=.ref q/\H8 q=some (.tup zs)/\LedAt H8 zs dz (led z (tri fs gs j) ds).rows) ⟨ag,rfl,aq hD4,(fun j v e=>nomatch e)⟩ (fun i ys H8 z=>⟨z.1,SqT.of (z.2.2.1 _ _ g6)⟩) ?_ ?_
 .rintro i x ys H8 hx ⟨h8,ly,s8,al⟩
  have li:=(Au.mp hx).1
  have li3:i<3:=li
  obtain ⟨fl,rfl,hfl,lF⟩:=FF i x hx
  refine cY <| ⟨dl,fl,dz,ds,tri fs gs i,z,rfl,.inl (s8 _ _ hdl),DDs.stay dd (fun b l e=>s8 b _ e),sh,Am,s8 _ _ hfl,lF,⟨ft,fun q zs H9 hq led9 s9=>?_⟩⟩
  have h9:=s9 _ _ h8
  have tk:=jT (ys:=ys++[.ref q]) h9
  refine ⟨h9,aH Am,_,Am,rfl,Am,ag,by rw [As,ly];rfl,bj (s8.trans s9) hD4,fun j v e=>?_⟩
  by_cases hj:j<ys.length
  .rw [AW hj] at e
   obtain ⟨q',zs',e',hq',led'⟩:=al j v e
   exact ⟨q',zs',e',tk _ _ (s9 _ _ hq'),led'.stay fun b l y=>tk _ _ (s9 _ _ y)⟩
  .have lj:=(Au.mp e).1
   rw [As] at lj
   have lj':j<ys.length+1:=lj
   have ej:j=i:=by lia
   rw [AG Am,show j-ys.length=0 by lia] at e
   cases e
   rw [ej]
   exact ⟨q,zs,rfl,tk _ _ hq,led9.stay tk⟩
 rintro ys H8 ⟨h8,ly,s8,al⟩
 replace ly:ys.length=3:=ly
 obtain ⟨v0,v1,v2,rfl⟩:=l3 ly
 obtain ⟨q0,z0s,rfl,hq0,led0⟩:=al 0 _ rfl
 obtain ⟨q1,z1s,rfl,hq1,led1⟩:=al 1 _ rfl
 obtain ⟨q2,z2s,rfl,hq2,led2⟩:=al 2 _ rfl
 clear al
 have l0:z0s.length=ds.length:=by rw [led0.len,bP]
 have l1:z1s.length=ds.length:=by rw [led1.len,bP]
 have l2:z2s.length=ds.length:=by rw [led2.len,bP]
 have W:L9 K pl a is nl dl nv dz ds z fs gs f1 f2 f3 D4 q0 q1 q2 z0s z1s z2s H8:=⟨P6.same s8,s8 _ _ hnl,s8 _ _ hdl,DDs.stay dd (fun b l e=>s8 b _ e),s8 _ _ g1,s8 _ _ g2,s8 _ _ g3,h8,hq0,hq1,hq2,led0,led1,led2⟩
 clear P6 s8 FF g6 hD4 hnl hdl dd g1 g2 g3 h8 hq0 hq1 hq2 led0 led1 led2
 refine ⟨_,_,SqL.of W.h8,rfl,q0,rfl,⟨_,SqT.of W.hq0⟩,fun D5 hD5=>?_⟩
 refine bK (K:=K) (a:=q0) (xs:=z0s) (fun i ys HZ=>ys=(List.range i).map (wV z ds)/\HZ D5=some (.lst ys)/\Same H8 HZ) ⟨rfl,ag,aq hD5⟩ (fun i ys HZ z=>⟨z.2.1,SqT.of (z.2.2 _ _ W.hq0)⟩) ?_ ?_
 .rintro i x ys HZ hx ⟨rfl,hZ,sZ⟩
  have li:=(Au.mp hx).1
  obtain ⟨p2,rfl,hp2⟩:=W.led0.at_ i x _ _ hx (tx Am) (ck Am)
  refine cY <| ⟨_,_,SqT.of (sZ _ _ hp2),(by exact br (j:=1) rfl),hZ,aH (by rw [Ar,By];lia),_,Am,rfl,Am,?_,ag,bj sZ hD5⟩
  rw [C4,A1]
  rfl
 rintro ys H9 ⟨rfl,h9,s9⟩
 rw [l0] at h9
 have m:Same H8 H9:=s9
 replace W:=W.same m
 clear m s9 hD5
 refine ⟨_,_,SqL.of W.h8,rfl,q1,rfl,⟨_,SqT.of W.hq1⟩,fun D6 hD6=>?_⟩
 refine bK (K:=K) (a:=q1) (xs:=z1s) (fun i ys HZ=>ys=(List.range i).map (wV z ds)/\HZ D6=some (.lst ys)/\Same H9 HZ) ⟨rfl,ag,aq hD6⟩ (fun i ys HZ z=>⟨z.2.1,SqT.of (z.2.2 _ _ W.hq1)⟩) ?_ ?_
 .rintro i x ys HZ hx ⟨rfl,hZ,sZ⟩
  have li:=(Au.mp hx).1
  obtain ⟨p2,rfl,hp2⟩:=W.led1.at_ i x _ _ hx (tx Am) (ck Am)
  refine cY <| ⟨_,_,SqT.of (sZ _ _ hp2),(by exact br (j:=1) rfl),hZ,aH (by rw [Ar,By];lia),_,Am,rfl,Am,?_,ag,bj sZ hD6⟩
  rw [C4,A1]
  rfl
 rintro ys HA ⟨rfl,hA,sA⟩
 rw [l1] at hA
 replace h9:=sA _ _ h9
 replace W:=W.same sA
 clear sA hD6
 refine ⟨.lst (SqL.of hA) (SqL.of h9) wH,_,rfl,gq ?_⟩
 clear hA
 refine ⟨_,_,SqL.of W.h8,rfl,q2,rfl,⟨_,SqT.of W.hq2⟩,fun D7 hD7=>?_⟩
 refine bK (K:=K) (a:=q2) (xs:=z2s) (fun i ys HZ=>ys=(List.range i).map (wV z ds)/\HZ D7=some (.lst ys)/\Same HA HZ) ⟨rfl,ag,aq hD7⟩ (fun i ys HZ z=>⟨z.2.1,SqT.of (z.2.2 _ _ W.hq2)⟩) ?_ ?_
 .rintro i x ys HZ hx ⟨rfl,hZ,sZ⟩
  have li:=(Au.mp hx).1
  obtain ⟨p2,rfl,hp2⟩:=W.led2.at_ i x _ _ hx (tx Am) (ck Am)
  refine cY <| ⟨_,_,SqT.of (sZ _ _ hp2),(by exact br (j:=1) rfl),hZ,aH (by rw [Ar,By];lia),_,Am,rfl,Am,?_,ag,bj sZ hD7⟩
  rw [C4,A1]
  rfl
 rintro ys HB ⟨rfl,hB,sB⟩
 rw [l2] at hB
 replace h9:=sB _ _ h9
 replace W:=W.same sB
 clear sB hD7
 refine ⟨.lst (SqL.of hB) (SqL.of h9) wH,_,rfl,gq ?_⟩
 clear hB
 refine ⟨dl,_,rfl,.inl (SqL.of W.hdl),dz.length,rfl,Am,Am,?_⟩
 refine dN (lo:=0) (n:=dz.length) (fun i U HC=>HC=HB/\∃ o11,U=[some (.ref a),some (.ref pl),some (.ref nl),some (.int z),some (.ref dl),some (.ref f1),some (.ref f2),some (.ref f3),some (.ref D4),some (.ref D5),some (.int (lkN z ds i)),o11,none,none]) ⟨rfl,none,by rw [zy];first | done | rfl⟩ ?_ ?_
 .rintro i U HC hi ⟨rfl,o11,rfl⟩
  have hid:i<ds.length:=by lia
  have ew:((List.range ds.length).map (wV z ds))[i]?=some (wV z ds i):=by rw [AS,FQ hid];rfl
  have ez0:=tx (l:=z0s) (i:=i) Am
  have ez1:=tx (l:=z1s) (i:=i) Am
  have ez2:=tx (l:=z2s) (i:=i) Am
  obtain ⟨p0,ep0,hp0⟩:=W.led0.at_ i _ _ _ ez0 (tx (l:=dz) Am) (ck hid)
  obtain ⟨p1,ep1,hp1⟩:=W.led1.at_ i _ _ _ ez1 (tx (l:=dz) Am) (ck hid)
  obtain ⟨p2,ep2,hp2⟩:=W.led2.at_ i _ _ _ ez2 (tx (l:=dz) Am) (ck hid)
  rw [ep0] at ez0
  rw [ep1] at ez1
  rw [ep2] at ez2
  have ix:∀{l:List V} {v:V},l[i]?=some v->atI l (0+(i:Int))=some v:=fun e=>by rw [Int.zero_add];exact br e
  have rk:∀{Q:VK}{h:Hp}{a b:Int},Q (.int (a+b)) h->rI0 (fun i j=>.int (i+j)) (.int a) (.int b) h Q:=fun x=>x
  refine ⟨_,_,SqL.of h9,ix ew,?_⟩
  refine rk (a:=lkN z ds i) (b:=lkN z ds (i+1)-lkN z ds i) ?_
  change eZ 10 (.int (lkN z ds i+(lkN z ds (i+1)-lkN z ds i))) _ _ _
  rw [show lkN z ds i+(lkN z ds (i+1)-lkN z ds i)=lkN z ds (i+1) by lia]
  refine ⟨_,_,SqL.of W.h8,rfl,_,_,SqT.of W.hq2,ix ez2,_,_,SqT.of hp2,rfl,?_⟩
  refine ⟨_,_,SqL.of W.h8,rfl,_,_,SqT.of W.hq0,ix ez0,_,_,SqT.of hp0,rfl,?_⟩
  refine ⟨_,_,SqL.of W.h8,rfl,_,_,SqT.of W.hq1,ix ez1,_,_,SqT.of hp1,rfl,?_⟩
  refine ⟨rfl,_,rfl,aU (fun y=>?_) (fun _=>⟨rfl,some (.int (0+(i:Int))),rfl⟩)⟩
  have e3:puN z (dQ fs gs) ds (i+1)=puN z fs ds (i+1)+puN z gs ds (i+1)+lkN z ds (i+1):=jR lfg Am
  have y':(!decide (V.int (puN z (dQ fs gs) ds (i+1))=V.int (puN z fs ds (i+1)+puN z gs ds (i+1)+lkN z ds (i+1))))=true:=y
  rw [AO (congrArg V.int e3)] at y'
  cases y'
 rintro U HC ⟨rfl,o11,rfl⟩
 refine ⟨sz3,fun tr htr=>?_⟩
 refine gnew htr fun HD sD gD=>?_
 replace W:=W.same sD
 clear sD htr h9
 refine ⟨D4,tr,[.ref q0,.ref q1,.ref q2],[.ref f1,.ref f2,.ref f3],rfl,W.h8,gD,fun D8 hD8=>?_⟩
 have FG:∀(i:Nat) (x y:V),([.ref q0,.ref q1,.ref q2]:List V)[i]?=some x->([.ref f1,.ref f2,.ref f3]:List V)[i]?=some y->∃ q fl zs,x=.ref q/\y=.ref fl/\HD q=some (.tup zs)/\LedAt HD zs dz (led z (tri fs gs i) ds).rows/\HD fl=some (.tup ((tri fs gs i).map V.int))/\(tri fs gs i).length=5:=by
  intro i x y hx hy
  rcases at3 hx with ⟨rfl,rfl⟩ | ⟨rfl,rfl⟩ | ⟨rfl,rfl⟩
  .cases hy
   exact ⟨q0,f1,_,rfl,rfl,W.hq0,W.led0,W.g1,lf⟩
  .cases hy
   exact ⟨q1,f2,_,rfl,rfl,W.hq1,W.led1,W.g2,lg⟩
  .cases hy
   exact ⟨q2,f3,_,rfl,rfl,W.hq2,W.led2,W.g3,lad⟩
 refine ko (K:=K) (b1:=false) (b2:=true) (l1:=D4) (l2:=tr) (n:=3) (xs:=[.ref q0,.ref q1,.ref q2]) (ys':=[.ref f1,.ref f2,.ref f3]) (fun i ys HZ=>∃ bs:List Bool,ys=bs.map V.bl/\bs.length=i/\(∀(j:Nat) (b:Bool),bs[j]?=some b->(b=true↔∀r∈(led z (tri fs gs j) ds).rows,0<=r.2))/\HZ D8=some (.lst ys)/\Same HD HZ) ⟨[],rfl,rfl,(fun j b e=>nomatch e),ag,aq hD8⟩ rfl rfl (fun i ys HZ z=>?_) ?_ ?_
 .obtain ⟨bs,_,_,_,z1,z2⟩:=z
  exact ⟨z1,z2 _ _ W.h8,z2 _ _ gD⟩
 .rintro i x y ys HZ TZ hx hy ⟨bs,rfl,lb,ab,hZ,sZ⟩ hTZ
  have li:=(Au.mp hx).1
  have li3:i<3:=li
  obtain ⟨qq,fl,zs,rfl,rfl,hqq,ledq,hfl,lF⟩:=FG i x y hx hy
  unfold oa
  dsimp only
  rw [Az rfl]
  have sT:=sZ.trans (aq (o:=.tup [.ref qq,.ref fl]) hTZ)
  have hT:=aq (o:=.tup [.ref qq,.ref fl]) hTZ _ _ hZ
  refine ⟨qq,fl,zs,dz,ds,tri fs gs i,z,rfl,sT _ _ hqq,ledq.stay (fun b l e=>sT b _ e),DDs.stay W.dd (fun b l e=>sT b _ e),sh,Am,ft,sT _ _ hfl,lF,fun b HY eb sY=>?_⟩
  refine ⟨sY _ _ hT,aH (by rw [Ar];lia),_,Am,rfl,Am,bs++[b],by rw [A1];rfl,by rw [As,lb];rfl,fun j c e=>?_,ag,bj (sT.trans sY) hD8⟩
  by_cases hj:j<bs.length
  .rw [AW hj] at e
   exact ab j c e
  .have lj:=(Au.mp e).1
   rw [As] at lj
   have lj':j<bs.length+1:=lj
   have ej:j=i:=by lia
   rw [AG Am,show j-bs.length=0 by lia] at e
   cases e
   rw [ej]
   exact eb
 rintro ys HE ⟨bs,rfl,lb,ab,hE,sE⟩
 obtain ⟨b0,b1,b2,rfl⟩:=l3 lb
 have e0:=ab 0 _ rfl
 have e1:=ab 1 _ rfl
 have e2:=ab 2 _ rfl
 replace hE:HE D8=some (.lst [.bl b0,.bl b1,.bl b2]):=hE
 replace W:=W.same sE
 clear sE hD8 FG gD ab lb
 refine ⟨fun b H'=>b=false/\H'=HE,?_,?_⟩
 .refine ⟨_,_,SqL.of hE,rfl,_,rfl,aU (fun c0=>?_) (fun _=>⟨rfl,rfl⟩)⟩
  refine ⟨_,_,SqL.of hE,rfl,_,rfl,aU (fun c1=>?_) (fun _=>⟨rfl,rfl⟩)⟩
  refine ⟨_,_,SqL.of hE,rfl,_,rfl,?_⟩
  have c2:b2=true:=e2.mpr (rO lfg (e0.mp c0) (e1.mp c1))
  rw [c2]
  exact ⟨rfl,rfl⟩
 rintro b H' ⟨rfl,rfl⟩
 refine gq ?_
 obtain ⟨ns,rfl⟩:=yo an
 have nd':ns.Nodup:=List.Pairwise.imp (fun h e=>h (by rw [e])) (BL.mp nd)
 have ln':ns.length<=200:=by rw [Ar] at n2;exact n2
 refine ⟨pl,a,dl,nl,is,dz,ds,ns,rfl,W.pi,W.hdl,W.dd,ld,W.hnl,nd',ln',ind,nnp,ndp,fun d2 zs2 f v Wl HF hd2 dd2 R hW hlen PF KF=>?_⟩
 have hg:∀d∈ds,gD (·∈ns) (·∈Wl) d:=fun d hd=>zt (ind d hd) (hW d hd)
 have tkF:=dM W.pi KF
 have h8p:D4≠pl:=fun e=>by
  obtain ⟨_,_,_,_,hp,_⟩:=W.pi.to
  have h8:=W.h8
  rw [e,hp] at h8
  cases h8
 have h8:=KF _ _ W.h8 (no D4 h8p)
 have hq0:=tkF _ _ W.hq0
 have g1:=tkF _ _ W.g1
 have led0:=W.led0.stay tkF
 clear W hE KF tkF
 refine ⟨d2,f1,zs2,ds.map (mD f v),fs,z,rfl,.inl hd2,dd2,?_,by rw [Ar];lia,g1,lf,⟨wn R ft hg,fun q3 z3s HG hq3 led3 sG=>?_⟩⟩
 .intro x hx
  obtain ⟨d,hd,rfl⟩:=AK.mp hx
  exact zD (ind d hd) hlen
 have lz2:zs2.length=ds.length:=by rw [Bk dd2,Ar]
 have l3:z3s.length=ds.length:=by rw [led3.len,bP,Ar]
 have lmd:(ds.map (mD f v)).length=ds.length:=Ar ..
 replace h8:=sG _ _ h8
 replace hq0:=sG _ _ hq0
 replace led0:=led0.stay fun b l e=>sG b _ e
 refine ⟨q3,rfl,⟨_,SqT.of hq3⟩,fun D9 hD9=>?_⟩
 refine bK (K:=K) (a:=q3) (xs:=z3s) (fun i ys HZ=>TwoN HZ ys (eV z fs (ds.map (mD f v))) i/\HZ D9=some (.lst ys)/\Same HG HZ) ⟨.nil,ag,aq hD9⟩ (fun i ys HZ z=>⟨z.2.1,SqT.of (z.2.2 _ _ hq3)⟩) ?_ ?_
 .rintro i x ys HZ hx ⟨tw,hZ,sZ⟩
  have li:=(Au.mp hx).1
  obtain ⟨p2,rfl,hp2⟩:=led3.at_ i x _ _ hx (tx Am) (ck Am)
  have ly:=tw.len
  refine cY <| ⟨1,rfl,.inl ⟨p2,_,rfl,SqT.of (sZ _ _ hp2),(by show ¬ (HT.sIx 3 0 (some 1)=0/\HT.sIx 3 3 none=3);decide),fun c hc=>?_⟩⟩
  have sc:=aq (o:=.tup [.int ((eV z fs (ds.map (mD f v))) i).1,.int ((eV z fs (ds.map (mD f v))) i).2]) hc
  have gc:=ag (H:=HZ) (a:=c) (o:=.tup [.int ((eV z fs (ds.map (mD f v))) i).1,.int ((eV z fs (ds.map (mD f v))) i).2])
  have tk:=jT (ys:=ys++[.ref c]) (sc _ _ hZ)
  exact ⟨sc _ _ hZ,aH Am,_,Am,rfl,Am,((tw.stay fun b l e=>sc b _ e).snoc gc).stay tk,ag,bj (sZ.trans sc) hD9⟩
 rintro ys3 HI ⟨tw3,hI,sI⟩
 rw [l3] at tw3
 replace h8:=sI _ _ h8
 replace hq0:=sI _ _ hq0
 replace led0:=led0.stay fun b l e=>sI b _ e
 refine ⟨_,_,SqL.of h8,rfl,q0,rfl,⟨_,SqT.of hq0⟩,fun DA hDA=>?_⟩
 refine bK (K:=K) (a:=q0) (xs:=z0s) (fun i ys HZ=>TwoN HZ ys (eV z fs ds) i/\HZ DA=some (.lst ys)/\Same HI HZ) ⟨.nil,ag,aq hDA⟩ (fun i ys HZ z=>⟨z.2.1,SqT.of (z.2.2 _ _ hq0)⟩) ?_ ?_
 .rintro i x ys HZ hx ⟨tw,hZ,sZ⟩
  have li:=(Au.mp hx).1
  obtain ⟨p2,rfl,hp2⟩:=led0.at_ i x _ _ hx (tx Am) (ck Am)
  have ly:=tw.len
  refine cY <| ⟨1,rfl,.inl ⟨p2,_,rfl,SqT.of (sZ _ _ hp2),(by show ¬ (HT.sIx 3 0 (some 1)=0/\HT.sIx 3 3 none=3);decide),fun c hc=>?_⟩⟩
  have sc:=aq (o:=.tup [.int ((eV z fs ds) i).1,.int ((eV z fs ds) i).2]) hc
  have gc:=ag (H:=HZ) (a:=c) (o:=.tup [.int ((eV z fs ds) i).1,.int ((eV z fs ds) i).2])
  have tk:=jT (ys:=ys++[.ref c]) (sc _ _ hZ)
  exact ⟨sc _ _ hZ,aH Am,_,Am,rfl,Am,((tw.stay fun b l e=>sc b _ e).snoc gc).stay tk,ag,bj (sZ.trans sc) hDA⟩
 rintro ys0 HJ ⟨tw0,hJ,sJ⟩
 rw [l0] at tw0
 exact ⟨.lst (SqL.of (sJ _ _ hI)) (SqL.of hJ) ((tw3.stay fun b l e=>sJ b _ e).al tw0 fun j hj=>yB R hg hj),k HJ⟩
end
section
variable {P:Program}{w:World}{K:W.Frag}{mg:Str->Option Value}{base:Heap}
open PySem.W
theorem all_mk {l:OpenLaw}{w:World}{K:Frag}{h:Heap}{mg:Str->Option Value}{fa C CB f_aa f_ab f_ac f_ad f_ae f_af f_ag f_ah f_ai f_aj f_ak f_al f_am f_an f_ao f_ap f_aq f_ar f_as f_at f_au f_av f_aw f_ax f_ay f_az f_ba f_bb f_bc f_bd f_be f_bf f_bg f_bh f_bi f_bj f_bk f_bl f_bm f_bn f_bo f_bp f_bq f_br f_bs f_bt f_bu:Addr}(X:K.In h)(G:h.Ns mainGlobals mg)(hfa:mg "law"=some (.ref fa))
   {dP:Addr} {ep:Nat} {t0 u0 t1 u1 t2 u2 t3 u3 t4 u4:Tok} {od_bu an_bu:Option Addr} {sl_bu:Array (Option Value)} {oc_bu kV_bu dc_bu pm_bu cd_bu ct_bu:Value}
  (aC:nsIn K mainGlobals "Late"=some (some (.ref C)))
  (aCB:nsIn K mainGlobals "Named"=some (some (.ref CB)))
  (h_aa:Df K "exchange" tU f_aa)
  (h_ab:Df K "lift" uD f_ab)
  (h_ac:Df K "lay_in" xR f_ac)
  (h_ad:Df K "let_down" iD f_ad)
  (h_ae:Df K "cut_first" xQ f_ae)
  (h_af:Df K "order" nL f_af)
  (h_ag:Bs K CB "__init__" "Named.__init__" nF f_ag)
  (h_ah:Mt K C "holds" "Named.holds" nV f_ah)
  (h_ai:Mt K C "need" "Named.need" qW f_ai)
  (h_aj:Mt K C "need_free" "Named.need_free" rP f_aj)
  (h_ak:Mt K C "need_any" "Named.need_any" xZ f_ak)
  (h_al:Mt K C "stamped" "Named.stamped" iO f_al)
  (h_am:Mt K C "__init__" "Late.__init__" nG f_am)
  (h_an:Mt K C "enter" "Late.enter" n8 f_an)
  (h_ao:Mt K C "cut" "Late.cut" rH f_ao)
  (h_ap:Mt K C "sweep_if_due" "Late.sweep_if_due" ki f_ap)
  (h_aq:Mt K C "first_there" "Late.first_there" nU f_aq)
  (h_ar:Mt K C "put" "Late.put" tM f_ar)
  (h_as:Mt K C "drop" "Late.drop" mM f_as)
  (h_at:Mt K C "change" "Late.change" iU f_at)
  (h_au:Mt K C "least" "Late.least" jC f_au)
  (h_av:Mt K C "take" "Late.take" nK f_av)
  (h_aw:Mt K C "work" "Late.work" nY f_aw)
  (h_ax:Df K "_law_pile" n9 f_ax)
  (h_ay:Df K "_law_next" mU f_ay)
  (h_az:Df K "_law_names" fz f_az)
  (h_ba:Df K "_law_worth" jz f_ba)
  (h_bb:Df K "_law_let_down" qS f_bb)
  (h_bc:Df K "_law_raised" jY f_bc)
  (h_bd:Df K "_law_off" yv f_bd)
  (h_be:Df K "_law_new" yE f_be)
  (h_bf:Df K "_law_is_there" ir f_bf)
  (h_bg:Df K "_law_added" nR f_bg)
  (h_bh:Df K "_law_swept" gu f_bh)
  (h_bi:Df K "_law_refused" iz f_bi)
  (h_bj:Df K "_law_done" sH f_bj)
  (h_bk:Df K "_law_deed" kj f_bk)
  (h_bl:Df K "_law_run" xG f_bl)
  (h_bm:Df K "_law_sizes" mF f_bm)
  (h_bn:Df K "carry_out" nW f_bn)
  (h_bo:Df K "written" iF f_bo)
  (h_bp:Df K "ledger" ip f_bp)
  (h_bq:Df K "ledger_shown" ig f_bq)
  (h_br:Df K "_law_worn" lA f_br)
  (h_bs:Df K "_law_drawn" nX f_bs)
  (h_bt:Df K "_law_otherwise" nB f_bt)
  (a_bu:nsIn K mainGlobals "law"=some (some (.ref f_bu)))
  (l_bu:K.lookup f_bu=some ⟨oc_bu,od_bu,.func (fnOf "law" "law" (bT cZ) (bC cZ) (am cZ) .none kV_bu dc_bu pm_bu an_bu cd_bu ct_bu),sl_bu⟩)
  (c_bu:codeIn K cd_bu "law"=true)
  (k_bu:keepIn K (.ref f_bu)=true)
  (z_len:nsIn K mainGlobals "len"=some none)
  (z_sum:nsIn K mainGlobals "sum"=some none)
  (z_abs:nsIn K mainGlobals "abs"=some none)
  (z_range:nsIn K mainGlobals "range"=some none)
  (z_list:nsIn K mainGlobals "list"=some none)
  (z_tuple:nsIn K mainGlobals "tuple"=some none)
  (z_int:nsIn K mainGlobals "int"=some none)
  (z_bool:nsIn K mainGlobals "bool"=some none)
  (z_sorted:nsIn K mainGlobals "sorted"=some none)
  (z_isinstance:nsIn K mainGlobals "isinstance"=some none)
  (z_max:nsIn K mainGlobals "max"=some none)
  (z_all:nsIn K mainGlobals "all"=some none)
  (z_zip:nsIn K mainGlobals "zip"=some none)
  (z_dict:nsIn K mainGlobals "dict"=some none)
  (z_set:nsIn K mainGlobals "set"=some none)
  (z_enumerate:nsIn K mainGlobals "enumerate"=some none)
  (pg:W.plainGet K C Str.empty=true)
  (hd:W.hasDictIn K C=true)
  (po:W.plainOver K C=true)
  (sa:findIn K (.ref C) "__setattr__"=some (some (.builtin "object.__setattr__")))
  (mk:makesIn K C=true)
  (kc:keepIn K (.ref C)=true)
  (ga:specialIn K (.ref CB) "__getattribute__"=some (some (.builtin "type.__getattribute__")))
  (rd:W.readsIn K CB (.type "type")=true)
  (n_there:findIn K (.ref C) "there"=some none)
  (n_stamp:findIn K (.ref C) "stamp"=some none)
  (n_slack:findIn K (.ref C) "slack"=some none)
  (n_entries:findIn K (.ref C) "entries"=some none)
  (n_looks:findIn K (.ref C) "looks"=some none)
  (aP:nsIn K mainGlobals "PAYS"=some (some (.ref dP)))
  (lP:K.lookup dP=some { cls:=.type "dict",data:=.dict #[{ hash:=PyData.keyHash w.params "put",key:=.str "put" t0,val:=.int 0 u0 },{ hash:=PyData.keyHash w.params "drop",key:=.str "drop" t1,val:=.int 1 u1 },{ hash:=PyData.keyHash w.params "change",key:=.str "change" t2,val:=.int 2 u2 },{ hash:=PyData.keyHash w.params "take",key:=.str "take" t3,val:=.int 3 u3 },{ hash:=PyData.keyHash w.params "least",key:=.str "least" t4,val:=.int 4 u4 }] ep }) :
  ∃ fd:FuncData,(∀(s:Shared) (v:Value),BindsTo s fd ⟨[v],[]⟩ [("script",v)])/\∀base:Heap,K.In base->base.Ns mainGlobals mg->aB l.prog w K mg base CX0 11 fa fd ["script"] (pK K):=by
 have e:=hfa.symm.trans (mg_of X G a_bu)
 cases e
 have T:Bl mg:=⟨mg_none_of X G z_len,mg_none_of X G z_sum,mg_none_of X G z_abs,mg_none_of X G z_range,mg_none_of X G z_list,mg_none_of X G z_tuple,mg_none_of X G z_int,mg_none_of X G z_bool,mg_none_of X G z_sorted,mg_none_of X G z_isinstance⟩
 have Z_max:=mg_none_of X G z_max
 have Z_all:=mg_none_of X G z_all
 have Z_zip:=mg_none_of X G z_zip
 have Z_dict:=mg_none_of X G z_dict
 have Z_set:=mg_none_of X G z_set
 have Z_enumerate:=mg_none_of X G z_enumerate
 have L:LT K C:=⟨⟨⟨pg,hd,po,sa⟩,n_there,n_stamp⟩,n_slack,n_entries,n_looks⟩
 have mCB:=mg_of X G aCB
 have mC:=mg_of X G aC
 have mPAYS:=mg_of X G aP
 have SP:uh w K dP paysK:=⟨_,ep,lP,.cons (.cons (.cons (.cons (.cons .nil))))⟩
 obtain ⟨_,F_aa,D_aa⟩:=h_aa.get X G ["heap","place","other"]
 obtain ⟨_,F_ab,D_ab⟩:=h_ab.get X G ["heap","start"]
 obtain ⟨_,F_ac,D_ac⟩:=h_ac.get X G ["heap","entry"]
 obtain ⟨_,F_ad,D_ad⟩:=h_ad.get X G ["heap","start"]
 obtain ⟨_,F_ae,D_ae⟩:=h_ae.get X G ["heap"]
 obtain ⟨_,F_af,D_af⟩:=h_af.get X G ["heap"]
 obtain ⟨_,F_ag,B_ag,M_ag⟩:=h_ag.get ["self"] ga rd
 obtain ⟨_,F_ah,B_ah,M_ah⟩:=h_ah.get ["self","entry"]
 obtain ⟨_,F_ai,B_ai,M_ai⟩:=h_ai.get ["self","name"]
 obtain ⟨_,F_aj,B_aj,M_aj⟩:=h_aj.get ["self","name"]
 obtain ⟨_,F_ak,B_ak,M_ak⟩:=h_ak.get ["self"]
 obtain ⟨_,F_al,B_al,M_al⟩:=h_al.get ["self","name","worth"]
 obtain ⟨_,F_am,B_am,N_am⟩:=h_am.get ["self","slack"]
 have M_am:Mk K C f_am:=⟨mk,N_am.at_,N_am.fn,kc⟩
 obtain ⟨_,F_an,B_an,M_an⟩:=h_an.get ["self","name","worth"]
 obtain ⟨_,F_ao,B_ao,M_ao⟩:=h_ao.get ["self"]
 obtain ⟨_,F_ap,B_ap,M_ap⟩:=h_ap.get ["self"]
 obtain ⟨_,F_aq,B_aq,M_aq⟩:=h_aq.get ["self"]
 obtain ⟨_,F_ar,B_ar,M_ar⟩:=h_ar.get ["self","name","worth"]
 obtain ⟨_,F_as,B_as,M_as⟩:=h_as.get ["self","name"]
 obtain ⟨_,F_at,B_at,M_at⟩:=h_at.get ["self","name","worth"]
 obtain ⟨_,F_au,B_au,M_au⟩:=h_au.get ["self"]
 obtain ⟨_,F_av,B_av,M_av⟩:=h_av.get ["self"]
 obtain ⟨_,F_aw,B_aw,M_aw⟩:=h_aw.get ["self"]
 obtain ⟨_,F_ax,D_ax⟩:=h_ax.get X G ["script"]
 obtain ⟨_,F_ay,D_ay⟩:=h_ay.get X G ["pile","most"]
 obtain ⟨_,F_az,D_az⟩:=h_az.get X G ["pile","many"]
 obtain ⟨_,F_ba,D_ba⟩:=h_ba.get X G ["pile"]
 obtain ⟨_,F_bb,D_bb⟩:=h_bb.get X G ["row","k"]
 obtain ⟨_,F_bc,D_bc⟩:=h_bc.get X G ["row"]
 obtain ⟨_,F_bd,D_bd⟩:=h_bd.get X G ["row"]
 obtain ⟨_,F_be,D_be⟩:=h_be.get X G ["slack"]
 obtain ⟨_,F_bf,D_bf⟩:=h_bf.get X G ["state","entry"]
 obtain ⟨_,F_bg,D_bg⟩:=h_bg.get X G ["state","name","worth"]
 obtain ⟨_,F_bh,D_bh⟩:=h_bh.get X G ["state"]
 obtain ⟨_,F_bi,D_bi⟩:=h_bi.get X G ["state","deed"]
 obtain ⟨_,F_bj,D_bj⟩:=h_bj.get X G ["state","deed"]
 obtain ⟨_,F_bk,D_bk⟩:=h_bk.get X G ["pile","state","names"]
 obtain ⟨_,F_bl,D_bl⟩:=h_bl.get X G ["pile","names","slack","many"]
 obtain ⟨_,F_bm,D_bm⟩:=h_bm.get X G ["pile"]
 obtain ⟨_,F_bn,D_bn⟩:=h_bn.get X G ["heap","deed"]
 obtain ⟨_,F_bo,D_bo⟩:=h_bo.get X G ["deeds","slack","tariff"]
 obtain ⟨_,F_bp,D_bp⟩:=h_bp.get X G ["deeds","slack","tariff"]
 obtain ⟨_,F_bq,D_bq⟩:=h_bq.get X G ["ledger","slack","tariff"]
 obtain ⟨_,F_br,D_br⟩:=h_br.get X G ["pile","names"]
 obtain ⟨_,F_bs,D_bs⟩:=h_bs.get X G ["pile","most"]
 obtain ⟨_,F_bt,D_bt⟩:=h_bt.get X G ["pile","deeds","names"]
 have F_bu:=jJ (st:=cZ) l_bu c_bu k_bu
 refine ⟨fnOf "law" "law" (bT cZ) (bC cZ) (am cZ) .none kV_bu dc_bu pm_bu an_bu cd_bu ct_bu,fun s v=>.of_eq rfl,fun base _ _=>?_⟩
 have G_aa:=v5 (P:=l.prog) (w:=w) (base:=base) F_aa T
 have G_ab:=wc (P:=l.prog) (w:=w) (base:=base) F_ab T G_aa D_aa
 have G_ac:=yw (P:=l.prog) (w:=w) (base:=base) F_ac T G_ab D_ab
 have G_ad:=ni (P:=l.prog) (w:=w) (base:=base) F_ad T G_aa D_aa
 have G_ae:=xF (P:=l.prog) (w:=w) (base:=base) F_ae T G_ad D_ad
 have G_af:=su (P:=l.prog) (w:=w) (base:=base) F_af T G_ad D_ad
 have G_ag:=fN (P:=l.prog) (w:=w) (base:=base) F_ag T L.nt
 have G_ah:=uC (P:=l.prog) (w:=w) (base:=base) F_ah T L.nt
 have G_ai:=vA (P:=l.prog) (w:=w) (base:=base) F_ai T L.nt
 have G_aj:=jU (P:=l.prog) (w:=w) (base:=base) F_aj T L.nt
 have G_ak:=mh (P:=l.prog) (w:=w) (base:=base) F_ak T L.nt
 have G_al:=mG (P:=l.prog) (w:=w) (base:=base) F_al T L.nt
 have G_am:=gp (P:=l.prog) (w:=w) (base:=base) F_am T L mCB M_ag G_ag B_ag
 have G_an:=sU (P:=l.prog) (w:=w) (base:=base) F_an T L G_ac D_ac M_al G_al B_al
 have G_ao:=uR (P:=l.prog) (w:=w) (base:=base) F_ao T L G_ae D_ae
 have G_ap:=uj (P:=l.prog) (w:=w) (base:=base) F_ap T L G_af D_af M_ah G_ah B_ah
 have G_aq:=iX (P:=l.prog) (w:=w) (base:=base) F_aq T L M_ak G_ak B_ak M_ah G_ah B_ah M_ao G_ao B_ao
 have G_ar:=yg (P:=l.prog) (w:=w) (base:=base) F_ar T L M_aj G_aj B_aj M_ap G_ap B_ap M_an G_an B_an
 have G_as:=uL (P:=l.prog) (w:=w) (base:=base) F_as T L M_ai G_ai B_ai M_ap G_ap B_ap
 have G_at:=qB (P:=l.prog) (w:=w) (base:=base) F_at T L M_ai G_ai B_ai M_ap G_ap B_ap M_an G_an B_an
 have G_au:=sL (P:=l.prog) (w:=w) (base:=base) F_au T L M_aq G_aq B_aq
 have G_av:=rn (P:=l.prog) (w:=w) (base:=base) F_av T L M_aq G_aq B_aq M_ao G_ao B_ao M_ap G_ap B_ap
 have G_aw:=wo (P:=l.prog) (w:=w) (base:=base) F_aw T L
 have G_ax:=uP (P:=l.prog) (w:=w) (base:=base) F_ax T
 have G_ay:=uO (P:=l.prog) (w:=w) (base:=base) F_ay T
 have G_az:=qK (P:=l.prog) (w:=w) (base:=base) F_az T G_ay D_ay
 have G_ba:=qH (P:=l.prog) (w:=w) (base:=base) F_ba T G_ay D_ay
 have G_bb:=u6 (P:=l.prog) (w:=w) (base:=base) F_bb T
 have G_bc:=qf (P:=l.prog) (w:=w) (base:=base) F_bc T
 have G_bd:=yG (P:=l.prog) (w:=w) (base:=base) F_bd T G_bb D_bb
 have G_be:=xE (P:=l.prog) (w:=w) (base:=base) F_be T
 have G_bf:=mQ (P:=l.prog) (w:=w) (base:=base) F_bf T
 have G_bg:=tN (P:=l.prog) (w:=w) (base:=base) F_bg T G_bc D_bc
 have G_bh:=qC (P:=l.prog) (w:=w) (base:=base) F_bh T G_bf D_bf G_bb D_bb
 have G_bi:=nA (P:=l.prog) (w:=w) (base:=base) F_bi T
 have G_bj:=vR (P:=l.prog) (w:=w) (base:=base) F_bj T G_bf D_bf G_bg D_bg G_bd D_bd G_bh D_bh
 have G_bk:=rJ (P:=l.prog) (w:=w) (base:=base) F_bk T G_ay D_ay G_ba D_ba
 have G_bl:=xL (P:=l.prog) (w:=w) (base:=base) F_bl T Z_max G_be D_be G_bk D_bk G_bi D_bi G_bj D_bj
 have G_bm:=t9 (P:=l.prog) (w:=w) (base:=base) F_bm T G_ay D_ay
 have G_bn:=ur (P:=l.prog) (w:=w) (base:=base) F_bn T L M_ar G_ar B_ar M_as G_as B_as M_at G_at B_at M_av G_av B_av M_au G_au B_au
 have G_bo:=ng (P:=l.prog) (w:=w) (base:=base) F_bo T L mPAYS SP mC M_am G_am B_am M_aw G_aw B_aw G_bn D_bn
 have G_bp:=qu (P:=l.prog) (w:=w) (base:=base) F_bp T G_bo D_bo
 have G_bq:=rL (P:=l.prog) (w:=w) (base:=base) F_bq T Z_all G_bo D_bo
 have G_br:=vb (P:=l.prog) (w:=w) (base:=base) F_br T G_ay D_ay G_ba D_ba
 have G_bs:=rG (P:=l.prog) (w:=w) (base:=base) F_bs T G_bm D_bm G_ay D_ay G_az D_az G_br D_br G_bl D_bl
 have G_bt:=xP (P:=l.prog) (w:=w) (base:=base) F_bt T Z_zip Z_dict Z_set Z_enumerate G_ay D_ay
 exact yF F_bu T Z_zip G_ax D_ax G_ay D_ay G_bs D_bs G_bt D_bt G_bp D_bp G_bq D_bq
theorem walk {l:OpenLaw}{q:Program}{loose:List Str}{XP:(Str->Option Value)->Heap->Prop}{YP:World->Heap->Prop}{d:DefRec}{K:Params->Frag}(hn:l.most=some 63)(hdf:d.params.defaults=[])
  (hY:∀(w:World) (h:Heap),YP w h->(K w.params).In h)
  (F:∀(w:World) (mg:Str->Option Value) (fa:Addr) (h:Heap),(K w.params).In h->h.Ns mainGlobals mg->mg d.name=some (.ref fa) ->
   ∃ fd:FuncData,(∀(s:Shared) (u:Value),BindsTo s fd ⟨[u],[]⟩ [("script",u)])/\∀base:Heap,(K w.params).In base->base.Ns mainGlobals mg->aB l.prog w (K w.params) mg base CX0 11 fa fd ["script"] (pK (K w.params))) :
  W.WalkO q loose XP YP l.row.toRowW d [] (fun f vs=>PySem.call f vs) :=
 L2.walk_of (n:=63) (k:=11) (x:="script") (CX:=fun _=>CX0) (sp:=fun w=>pK (K w.params)) hn Ak hdf ⟨rfl,Ak,Ak⟩ hY F (fun _ _ a ns hl _ hS=>⟨a,ns,rfl,hS,hl,fun _=>rfl⟩) fun _ _ _ _ _ z=>z
end
end Kx
section
open PySem PySem.W PyProof.Rows L2
set_option maxRecDepth 100000 in
set_option maxHeartbeats 0 in
theorem PySem.Challenge.cw_lategone_k19_whole_ledgers_told_otherwis_holds : PySem.Challenge.rw_lategone_k19_whole_ledgers_told_otherwis.Holds := by
 w_on;o_law;k_head;(case hw=>w_witness2)
 k_fill
 refine Kx.walk (l:=PySem.Challenge.rw_lategone_k19_whole_ledgers_told_otherwis) rfl rfl (fun w h Y=>W.kIn_of Y) ?F
 case F =>
  intro w mg fa h KX G hmg
  refine' Kx.all_mk KX G hmg ?aC ?aCB ?h_aa ?h_ab ?h_ac ?h_ad ?h_ae ?h_af ?h_ag ?h_ah ?h_ai ?h_aj ?h_ak ?h_al ?h_am ?h_an ?h_ao ?h_ap ?h_aq ?h_ar ?h_as ?h_at ?h_au ?h_av ?h_aw ?h_ax ?h_ay ?h_az ?h_ba ?h_bb ?h_bc ?h_bd ?h_be ?h_bf ?h_bg ?h_bh ?h_bi ?h_bj ?h_bk ?h_bl ?h_bm ?h_bn ?h_bo ?h_bp ?h_bq ?h_br ?h_bs ?h_bt ?a_bu ?l_bu ?c_bu ?k_bu ?z_len ?z_sum ?z_abs ?z_range ?z_list ?z_tuple ?z_int ?z_bool ?z_sorted ?z_isinstance ?z_max ?z_all ?z_zip ?z_dict ?z_set ?z_enumerate ?pg ?hd ?po ?sa ?mk ?kc ?ga ?rd ?n_there ?n_stamp ?n_slack ?n_entries ?n_looks ?aP ?lP
  (case aC|aCB=>k_is)
  (case h_aa|h_ab|h_ac|h_ad|h_ae|h_af=>(refine' dfI ?a ?l ?c ?k);(case a=>k_is);(case l=>k_is);(case c=>k_is);(case k=>k_is))
  (case h_ag=>(refine' bsI ?a ?l ?c ?k);(case a=>k_is);(case l=>k_is);(case c=>k_is);(case k=>k_is))
  (case h_ah|h_ai|h_aj|h_ak|h_al|h_am|h_an|h_ao|h_ap|h_aq|h_ar|h_as|h_at|h_au|h_av|h_aw=>(refine' mtI ?a ?i ?l ?c ?k);(case a=>k_is);(case i=>k_is);(case l=>k_is);(case c=>k_is);(case k=>k_is))
  (case h_ax|h_ay|h_az|h_ba|h_bb|h_bc|h_bd|h_be|h_bf|h_bg|h_bh|h_bi|h_bj|h_bk|h_bl|h_bm|h_bn|h_bo|h_bp|h_bq|h_br|h_bs|h_bt=>(refine' dfI ?a ?l ?c ?k);(case a=>k_is);(case l=>k_is);(case c=>k_is);(case k=>k_is))
  (case a_bu|l_bu|c_bu|k_bu|z_len|z_sum|z_abs|z_range|z_list|z_tuple|z_int|z_bool|z_sorted|z_isinstance|z_max|z_all|z_zip|z_dict|z_set|z_enumerate|pg|hd|po|sa|mk|kc|ga|rd|n_there|n_stamp|n_slack|n_entries|n_looks|aP|lP=>k_is)
#print axioms PySem.Challenge.cw_lategone_k19_whole_ledgers_told_otherwis_holds
end
