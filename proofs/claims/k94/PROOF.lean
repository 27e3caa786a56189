import PyProof.Rows.All
import OpenK.KLine
import PyProof.EqAt
import PyProof.EqKinds
import PyProof.TupleCall
import KE.IntBitsLaws
import KE.KFind
import PyProof.ListRange
import KE.KRevIter
import PySem.SetOps
import PyProof.Rows.SetFrom
import PyProof.Rows.SortWalk
import PyProof.CollectWalk
import PyProof.ListNew
import PyProof.SetRoads
import PyProof.MeetsSeq2
import PyProof.MeetsSeq3
import PyProof.StationsW
import PyProof.ExcInit
import PyProof.InstStoreFacts
import PyProof.RulesAs
import PyProof.RulesDel
import PyProof.ExcArgs
import KE.KSortTup
import PyProof.Draws
import PyProof.TupleOfGen
import PyProof.ZipIter
import PyProof.TupleKey
import PyProof.SetKind
import PyProof.IsRules
import PyProof.WalkLemmas
import PyProof.DictKinds
import PyProof.ReprRoads
import PyProof.ReprLen
import PyProof.StrLawsTight
import PyProof.FitsReplace
import KE.KIntText
import KE.KTabLook
import KE.IntText
import KE.KDictOf
import KE.KEqDict
import KE.KFromBytes
import KE.KIsAll
import KE.KItem
import KE.KNest
import KE.KSortAsk
import KE.KTab
import KE.KxBytes
import PySem.Challenge.RW_toggleclock_k94_whole_desk_on_fields
set_option Elab.async false
set_option linter.all false
set_option maxRecDepth 100000
set_option maxHeartbeats 4000000
namespace PySem.W.Fast
def tw3686128771789729399:=0
def tw12288170723135257453:=0
def tw3719806805061982840:=0
def tw2409523797382309628:=0
def tw16107251603493922843:=0
def tw11145642407607664700:=0
def tw2257888707752514595:=0
def tw15174082412260520832:=0
def tw12052543899728149888:=0
def tw9096073401067603454:=0
def tw7988583215395700105:=0
def tw2364626498840259147:=0
def tw18351627290655343335:=0
def tw9467039909385367544:=0
def tw6887537737807220312:=0
def tw15649363452521793793:=0
def tw14052015378333162941:=0
def tw4663936765630423106:=0
def tw5748942487589405690:=0
def tw14378317136212503458:=0
def tw18191565918180550392:=0
def tw15160485093897488324:=0
def tw6638015822930447230:=0
def tw14185851491186537421:=0
def tw15976188462125310449:=0
def tw2445415966707779162:=0
def tw6876989266641800627:=0
def tw17892437438476921479:=0
def tw15610692560130289407:=0
def tw12348373365032489951:=0
def tw2830640250283261633:=0
def tw10940317625788272079:=0
def tw8044571760931881226:=0
def tw15856785403581950765:=0
def tw13883183696636702888:=0
def tw2872338473684838457:=0
def tw2269636984578197247:=0
def tw9770439193725679498:=0
def tw9541894933617820336:=0
def tw6407606764492477756:=0
def tw7375987698594874204:=0
def tw8523569140799460874:=0
def tw738567204479216286:=0
def tw9094280928118915686:=0
def tw15802781023923363573:=0
def tw13164169708426150859:=0
def tw8239057572258921582:=0
def tw1313555656713282326:=0
def tw2363904547006214389:=0
def tw17558502354607121509:=0
def tw10298926933307995833:=0
def tw6164412580721581629:=0
def tw6066296901105147043:=0
def tw16628739830228664963:=0
def tw8925188418047892320:=0
def tw6644117982573295992:=0
def tw1071764319644641054:=0
def tw2162228258891338123:=0
def tw5546409579181068911:=0
def tw502557076789085491:=0
def tw10644356824318354017:=0
def tw6304255460663940364:=0
def tw11274602734241241211:=0
def tw9112288648552040019:=0
def tw5963381739784832455:=0
def tw18098031568970736600:=0
def tw17741233395896401560:=0
def tw16044490059190716479:=0
def tw2002340949886364120:=0
def tw9313498718508026387:=0
def tw3711168415485954400:=0
def tw13076259567572625471:=0
def tw7252639767306865013:=0
def tw3263295575025795078:=0
def tw10941901033807624830:=0
def tw9672373762110484575:=0
def tw8813735473955758472:=0
def tw9355522068047005965:=0
def tw10580206467058525290:=0
def tw241102035709999990:=0
def tw1948649121899248978:=0
def tw8424092863116921375:=0
def tw16470178404364356920:=0
def tw3616473501102650380:=0
def tw14682253634999137311:=0
def tw523883175464927764:=0
def tw6691364558120209798:=0
def tw14052908423853710844:=0
def tw13042568284420807921:=0
def tw3008826668673130504:=0
def tw11273330006748154211:=0
def tw12387468475563293427:=0
def tw2050012834105297921:=0
def tw16945340284164649675:=0
def tw2325273339350629465:=0
def tw8558053661330423373:=0
def tw10127386104538402784:=0
def tw1572780001173534606:=0
def tw13608476412288833729:=0
def tw16193308000251171447:=0
def tw12905119831817847971:=0
def tw7791423354279029393:=0
def tw2323963200573825803:=0
def tw240529528137361142:=0
def tw7432972558397135213:=0
def tw10983348779352586002:=0
def tw7732753300798756918:=0
def tw8235183827295567820:=0
def tw16977395582496330054:=0
def tw2228608316168522158:=0
def tw17752606177217436657:=0
def tw1343432491451575065:=0
def tw18081599568246213997:=0
def tw18097243778928086559:=0
def tw14818776180748757623:=0
def tw15114829190223088072:=0
def tw17515695713566705670:=0
def tw3342063515225501662:=0
def tw338340239049526381:=0
def tw6762866785421553251:=0
def tw1614787552103490986:=0
def tw17518864390046532942:=0
def tw152458299105413506:=0
def tw4359046296556535967:=0
def tw12048557426401415204:=0
def tw7856941837748403307:=0
def tw11422892991441717842:=0
def tw12200061441546311413:=0
def tw4031384617081267567:=0
def tw7867504479305383828:=0
def tw7223985290309727120:=0
def tw527166853177592222:=0
def tw1501656188231955870:=0
def tw17449941264493397225:=0
def tw10218226458100425330:=0
def tw3076138381435250597:=0
def tw6934481218930506735:=0
def tw11239194914422399576:=0
def tw4883856486572599329:=0
def tw16691133565768084044:=0
def tw17159150396278793259:=0
def tw4973288341071053690:=0
def tw11409500668807604098:=0
def tw9108331916109095216:=0
def tw8651383221311178885:=0
def tw3637974958718216702:=0
def tw11757964165271958176:=0
def tw5402866418373808928:=0
def tw2765992463875586263:=0
def tw11209345380199725235:=0
def tw8955646096111209635:=0
def tw7035289070073815898:=0
def tw1836845603946828203:=0
def tw6345743712642053547:=0
def tw17155880658969289565:=0
def tw17847950787812531027:=0
def tw4564421390437587780:=0
def tw9954268239713060509:=0
def tw1455183096471459020:=0
def tw12195119204593942175:=0
def tw773319309873595442:=0
def tw7607885245364648283:=0
def tw4676266995186206936:=0
def tw1988005925368909198:=0
def tw13105678637333182554:=0
def tw14959047732344748041:=0
def tw11066438914610958985:=0
def tw16626957051301729919:=0
def tw17493373742600919561:=0
def tw9465945387155741154:=0
def tw3663667455739054350:=0
def tw17127715175297139455:=0
def tw15429176595377229281:=0
def tw12079607077102052022:=0
def tw1874028880794811643:=0
def tw12565273483394444138:=0
def tw7707586738885775714:=0
def tw9593235227903717401:=0
def tw10193607410807108274:=0
def tw15466126074541885376:=0
def tw11471831741830886015:=0
def tw6767074734706678423:=0
def tw2902927233551972925:=0
def tw17789837614437431534:=0
def tw9288511327216599949:=0
def tw10113420698031156131:=0
def tw15502342947429093048:=0
def tw9685180659201780175:=0
def tw5181466462514786410:=0
def tw17304072557456572741:=0
def tw4410115708592606396:=0
def tw2042608012574434019:=0
def tw17117631238581380295:=0
def tw16171260382111770656:=0
def tw7884916960916474425:=0
def tw14078186530427055:=0
def tw6012501770312562604:=0
def tw15256570518493327505:=0
def tw2771490746880124781:=0
def tw10384459816314374829:=0
def tw7040697428637352250:=0
def tw17331619329629373720:=0
def tw17633245202347057817:=0
def tw16857529280334431228:=0
def tw11988820726612353293:=0
def tw13923411135233401320:=0
def tw11198390862187924325:=0
def tw9326815350359514051:=0
def tw8959824183095873904:=0
def tw14257851604849301811:=0
def tw4671559967372423115:=0
def tw13257258917876168595:=0
def tw17980950242063962068:=0
def tw17964177431423157956:=0
def tw3864995690834949037:=0
def tw12952577502525602968:=0
def tw16604324035720226442:=0
def tw16681425677381294110:=0
def tw2034740615371107840:=0
def tw17916187644571090520:=0
def tw3082431226529673880:=0
def tw2248747869573797442:=0
def tw18049273985181586161:=0
def tw13279379148992409342:=0
def tw4608102011555240055:=0
def tw17102975583005268177:=0
def tw4599455059639864082:=0
def tw9679742436499816697:=0
def tw16124444117645103588:=0
def tw2804843367399953632:=0
def tw15412650223081338765:=0
def tw11598664834795776766:=0
def tw8506526130529963743:=0
def tw14282172006740291060:=0
def tw7254297916157330601:=0
def tw13399278775624843827:=0
def tw4997946626880080565:=0
def tw12725833740965685385:=0
def tw8249758787175853799:=0
def tw264693318002388764:=0
def tw17041909338419701610:=0
def tw12104880057578027241:=0
def tw14515375737720541358:=0
def tw2013068014859795922:=0
def tw14332852399873583740:=0
def tw7815498623847588320:=0
def tw15153752188304410655:=0
def tw564020974417631372:=0
def tw5243888291873671606:=0
def tw7611487105588013683:=0
def tw1010250534398129806:=0
def tw16366520687622311622:=0
def tw7821533166890325945:=0
def tw13601450785036070097:=0
def tw5547421564795322169:=0
def tw7453319819365709827:=0
def tw1175437302874940339:=0
def tw3853579442127873284:=0
def tw12525492189348090166:=0
def tw10492086235511038125:=0
def tw11460988488342345087:=0
def tw9540360753451829758:=0
def tw9785960669582439381:=0
def tw8148688201674288103:=0
def tw11522284780241581884:=0
def tw15066885619369718987:=0
def tw5028691881298612745:=0
def tw8407445284728148862:=0
def tw1161098936568905350:=0
def tw18126547587563240928:=0
def tw14248732516432784841:=0
def tw3383553653403762783:=0
def tw13747377251702745883:=0
def tw4796774633965358711:=0
def tw7410356176473975771:=0
def tw1657599706215195903:=0
def tw691901193679659747:=0
def tw1291961583176599457:=0
def tw748339068815859430:=0
def tw16387735771097917535:=0
def tw15765698497666254053:=0
def tw4475300835121267181:=0
def tw8603677560208316842:=0
def tw9851319932728145579:=0
def tw13112716918065858675:=0
def tw4201345041728430157:=0
def tw18405237465009854342:=0
def tw7759741536041960603:=0
def tw4931910162130111666:=0
def tw16378357526301853551:=0
def tw17138592329420806047:=0
def tw10891121873491126751:=0
def tw15720532947950143636:=0
def tw7630879745747233531:=0
def tw13405301514702688241:=0
def tw10434201520840048166:=0
def tw7259328626122476191:=0
def tw5557464038067770156:=0
def tw17992858161701355430:=0
def tw3897607415864342248:=0
def tw10614693453202194357:=0
def tw2882039976794818259:=0
def tw14207688867052473545:=0
def tw17295741051794282205:=0
def tw2929662166746444452:=0
def tw10607802066123381052:=0
def tw18426577060337354970:=0
def tw9142231633042890387:=0
def tw1987124377536461791:=0
def tw10659671850213743424:=0
def tw9538995290801305409:=0
def tw10727952645648015261:=0
def tw2907627684194440469:=0
def tw236505792766259945:=0
def tw16545243886561194753:=0
end PySem.W.Fast
open PySem PySem.W PyProof.Rows in
set_option maxHeartbeats 0 in
open_top Ht for PySem.Challenge.rw_toggleclock_k94_whole_desk_on_fields
variable {κ α β γ δ ε α1 α2 α3 α4:Type}{us vs its its':List PySem.Value}{x name qual nm row:PySem.Str}{u doc pm cdv oc vl vu:PySem.Value}{a it C dx sl C_Order C_Fraction:PySem.Addr}{o:PySem.Obj}{h h' base:PySem.Heap}{items:Array PySem.Value}{prog P:PySem.Program}{w:PySem.World}{A:PySem.Around}{E Q:PySem.Value->PySem.Shared->Prop}{s s':PySem.Shared}{m mr mm_:Option (List α)}{fl:Bool}{e tg iter value:PySem.Expr}{pins:List (PySem.Addr×PySem.Obj)}{g' g g'':Int->Int->Bool}{t' i n k' ep:Nat}{ch fp:List PySem.Addr}{N ps loose own:List PySem.Str}{j y z:Int}{M:PySem.Model}{pos pos' apos p2 cpos:PySem.Pos}{op:α->Option γ}{K:PySem.W.Frag}{st:PySem.Stmt}{es:List PySem.Expr}{body:List PySem.Stmt}{l:List α}{lo hi m' mi:Option Int}{p:Array Nat}{f:List α->Option δ}{mA mg:PySem.Str->Option PySem.Value}{pl:PySem.Sem Bool}{R:α->β->Prop}{kw:List (PySem.Str×PySem.Value)}{env:PySem.Env}{fd:PySem.FuncData}{outer:List PySem.Env}{kindOf:PySem.Str->Option PySem.NameKind}{sc scope:PySem.Scope}{an od:Option PySem.Addr}{osl:Array (Option PySem.Value)}{T:String}{ns ln DS:List Int}{XP:(PySem.Str->Option PySem.Value)->PySem.Heap->Prop}{YP:PySem.World->PySem.Heap->Prop}{ix:List Nat}{ma mv:Option α}{mb:Option β}{ml:Option (List (κ×α))}{mh:Option (Option Int)}{mc:Int×Int->Option Bool}{m1:Option α1}{m2:Option α2}{m3:Option α3}{B:Option δ}{b0:β}{kk:β->Option δ}{me:Int×Int->Option γ}{x1:α1}{x2:α2}{n':Option Bool}{cM:β->Option Bool}{fM:β->Option β}{mk:Option κ}{key:Nat->Int}{q':Int×Int}{Dk:α×List α}
namespace L2
open PySem PySem.Spec PyProof.Rows
def Xa:type_of% @wpAny_bind:=@wpAny_bind
def Xb:type_of% @wpAny_pure:=@wpAny_pure
def Xc:type_of% @List.getElem?_eq_getElem:=@List.getElem?_eq_getElem
def Xd:type_of% @Heap.get?_push_of_some:=@Heap.get?_push_of_some
def Xe:type_of% @Nat.le_refl:=@Nat.le_refl
def Xg:type_of% @List.size_toArray:=@List.size_toArray
def Xh:type_of% @Bool.false_ne_true:=@Bool.false_ne_true
def Xi:type_of% @Heap.get?_push_size:=@Heap.get?_push_size
def Xj:type_of% @List.length_map:=@List.length_map
def Xk:type_of% @decide_eq_false:=@decide_eq_false
def Xl:type_of% @Heap.lt_size:=@Heap.lt_size
def Xn:type_of% @List.mem_cons_of_mem:=@List.mem_cons_of_mem
def Xo:type_of% @List.mem_cons_self:=@List.mem_cons_self
def Xp:type_of% @List.map_cons:=@List.map_cons
def Xq:type_of% @W.mg_none_of:=@W.mg_none_of
def Xr:type_of% @Nat.lt_of_lt_of_le:=@Nat.lt_of_lt_of_le
def Xt:type_of% @Array.length_toList:=@Array.length_toList
def Xu:type_of% @decide_eq_true:=@decide_eq_true
def Xv:type_of% @decide_eq_true_eq:=@decide_eq_true_eq
def Xw:type_of% @PySem.F.plainAttrs_list:=@PySem.F.plainAttrs_list
def Xx:type_of% @List.getElem?_map:=@List.getElem?_map
def Xy:type_of% @sizeLine_eq:=@sizeLine_eq
def Xz:type_of% @PySem.F.plainAttrs_str:=@PySem.F.plainAttrs_str
def XA:type_of% @PyProof.Rows.callWith_type1:=@PyProof.Rows.callWith_type1
def XB:type_of% @Bool.and_eq_true:=@Bool.and_eq_true
def XE:type_of% @List.length_append:=@List.length_append
def XG:type_of% @Bool.false_eq_true:=@Bool.false_eq_true
def XH:type_of% @Nat.lt_of_le_of_lt:=@Nat.lt_of_le_of_lt
def XI:type_of% @wpAny_call_entry:=@wpAny_call_entry
def XJ:type_of% @List.lookup_cons:=@List.lookup_cons
def XL:type_of% @Bool.eq_iff_iff:=@Bool.eq_iff_iff
def XM:type_of% @List.mem_append_right:=@List.mem_append_right
def XN:type_of% @wpAny_truthy_bool:=@wpAny_truthy_bool
def XO:type_of% @wpAny_newObj_type:=@wpAny_newObj_type
def XQ:type_of% @Nat.ne_of_lt:=@Nat.ne_of_lt
def XS:type_of% @Int.toNat_natCast:=@Int.toNat_natCast
def XT:type_of% @PySem.F.type_list_append:=@PySem.F.type_list_append
def XU:type_of% @PySem.F.slot_list_append:=@PySem.F.slot_list_append
def XV:type_of% @Nat.lt_irrefl:=@Nat.lt_irrefl
def XW:type_of% @Nat.le_trans:=@Nat.le_trans
def XY:type_of% @List.length_cons:=@List.length_cons
def XZ:type_of% @List.all_eq_true:=@List.all_eq_true
def X0:type_of% @if_false:=@if_false
def X1:type_of% @List.getD_eq_getElem?_getD:=@List.getD_eq_getElem?_getD
def X6:type_of% @PySem.mem_of_lookup:=@PySem.mem_of_lookup
def X7:type_of% @List.find?_cons:=@List.find?_cons
def X9:type_of% @cond_false:=@cond_false
def wa:type_of% @wpAny_holding:=@wpAny_holding
def wb:type_of% @W.mg_of:=@W.mg_of
def wc:type_of% @Nat.zero_le:=@Nat.zero_le
def wd:type_of% @wpAny_mono:=@wpAny_mono
def we:type_of% @cond_true:=@cond_true
end L2
namespace L2
open PySem PySem.Spec PyProof.Rows
abbrev Key:=Sum Int Str
def jcP:Key->Value->Bool
 | .inl k,v=>Value.isInt k v
 | .inr x,v=>Value.isStrOf x v
def jmU (w:World):Key->Int
 | .inl k=>hashInt k
 | .inr x=>hashStr w x
def xm:∀ {k:Key}{v:Value},jcP k v=true->(∃ i t,k=Sum.inl i/\v=Value.int i t) \/ (∃ x t,k=Sum.inr x/\v=Value.str x t)
 | .inl i,v,h=>by
  obtain⟨t,e⟩:=Value.isInt_shape (k:=i) (v:=v) h;exact .inl ⟨i,t,rfl,e⟩
 | .inr x,v,h=>by
  obtain⟨t,e⟩:=Value.isStrOf_shape (x:=x) (v:=v) h;exact .inr ⟨x,t,rfl,e⟩
def jdP (i:Int) (t:Tok):jcP (.inl i) (.int i t)=true:=by simp[jcP,Value.isInt]
def jdQ (x:Str) (t:Tok):jcP (.inr x) (.str x t)=true:=by simp[jcP,Value.isStrOf]
def jj3 (a b:Int):decide ((Sum.inl a:Key)=Sum.inl b)=(a==b):=by
 by_cases e:a=b
 ·subst e; simp
 ·have h:¬ (Sum.inl a:Key)=Sum.inl b:=fun q=>e (Sum.inl.inj q);rw[Xk h];exact(beq_eq_false_iff_ne.mpr e).symm
def jj4 (a b:Str):decide ((Sum.inr a:Key)=Sum.inr b)=decide (a=b):=by
 by_cases e:a=b
 ·subst e; simp
 ·have h:¬ (Sum.inr a:Key)=Sum.inr b:=fun q=>e (Sum.inr.inj q);rw[Xk h,Xk e]
def jj5 (a:Int) (b:Str):decide ((Sum.inl a:Key)=Sum.inr b)=false:=Xk (fun q=>nomatch q)
def jj6 (a:Str) (b:Int):decide ((Sum.inr a:Key)=Sum.inl b)=false:=Xk (fun q=>nomatch q)
def zD (prog:Program) (w:World):PySem.KeyKind prog w Key where
 is:=jcP
 hash:=jmU w
 inj:=fun v a b ha hb=>by
  rcases xm ha with⟨i,t,rfl,rfl⟩ | ⟨x,t,rfl,rfl⟩
  ·rcases xm hb with⟨j,u,rfl,e⟩ | ⟨y,u,rfl,e⟩
   ·injection e with e1 _; rw[e1]
   ·exact nomatch e
  ·rcases xm hb with⟨j,u,rfl,e⟩ | ⟨y,u,rfl,e⟩
   ·exact nomatch e
   ·injection e with e1 _; rw[e1]
 byValue:=fun k v h=>by
  rcases xm h with⟨i,t,rfl,rfl⟩ | ⟨x,t,rfl,rfl⟩ <;> rfl
 pyHash:=fun hv h=>by
  rcases xm hv with⟨i,t,rfl,rfl⟩ | ⟨x,t,rfl,rfl⟩
  ·exact wpAny_pyHash_int h
  ·exact wpAny_pyHash_str h
 eqBool:=fun hu hv h=>by
  rcases xm hu with⟨i,t,rfl,rfl⟩ | ⟨x,t,rfl,rfl⟩
  ·rcases xm hv with⟨j,u,rfl,rfl⟩ | ⟨y,u,rfl,rfl⟩
   ·rw[jj3] at h; exact wpAny_eqBool_int h
   ·rw[jj5] at h; exact SeqAt.EqAt.int_str i t y u _ _ _ _ h
  ·rcases xm hv with⟨j,u,rfl,rfl⟩ | ⟨y,u,rfl,rfl⟩
   ·rw[jj6] at h; exact SeqAt.EqAt.str_int x t j u _ _ _ _ h
   ·rw[jj4] at h; exact wpAny_eqBool_str h
 «strs»:=fun k x t v h=>by
  rcases xm h with⟨i,u,rfl,e⟩ | ⟨y,u,rfl,e⟩
  ·exact nomatch e
  ·injection e with e1 _
   subst e1;cases v <;> rfl
def jax (prog:Program) (w:World) (i:Int) (t:Tok):(zD prog w).is (.inl i) (.int i t)=true:=jdP i t
def jay (prog:Program) (w:World) (x:Str) (t:Tok):(zD prog w).is (.inr x) (.str x t)=true:=jdQ x t
inductive V where
 | non | bl (b:Bool) | int (i:Int) | str (x:Str) | byt (b:Array UInt8) | flt (b:UInt64) | ref (a:Addr) | ty (n:String)
 deriving DecidableEq
def RelV:V->Value->Prop
 | .non,u=>u=Value.none
 | .bl b,u=>u=Value.bool b
 | .int i,u=>∃ t,u=Value.int i t
 | .str x,u=>∃ t,u=Value.str x t
 | .byt b,u=>∃ t,u=Value.bytes b t
 | .flt b,u=>∃ t,u=Value.float b t
 | .ref a,u=>u=Value.ref a
 | .ty n,u=>u=Value.type n
abbrev Vals:List V->List Value->Prop:=Paired RelV
def Vals.length {xs:List V} (r:Vals xs us):xs.length=us.length:=Paired.length r
def Vals.get:∀ {xs:List V}{us:List Value}{i:Nat}{x:V},Vals xs us->xs[i]?=some x->∃ u,us[i]?=some u/\RelV x u
 | _,_,_,_,.nil,e=>by simp at e
 | _,_,0,_,.cons r _,e=>by simp at e; subst e; exact ⟨_,rfl,r⟩
 | _,_,i+1,x,.cons _ t,e=>by
  obtain⟨u,h1,h2⟩:=Vals.get (i:=i) (x:=x) t (by simpa using e);exact⟨u,by simpa using h1,h2⟩
def Vals.set {x:V} (r:RelV x u):∀ {xs:List V}{us:List Value} (i:Nat),Vals xs us->Vals (xs.set i x) (us.set i u)
 | _,_,_,.nil=>.nil
 | _,_,0,.cons _ t=>.cons r t
 | _,_,i+1,.cons q t=>.cons q (Vals.set r i t)
def Vals.append:∀ {xs ys:List V}{us ws:List Value},Vals xs us->Vals ys ws->Vals (xs++ys) (us++ws)
 | _,_,_,_,.nil,s=>s
 | _,_,_,_,.cons r t,s=>.cons r (Vals.append t s)
def Vals.take:∀ {xs:List V}{us:List Value} (n:Nat),Vals xs us->Vals (xs.take n) (us.take n)
 | _,_,0,_=>.nil
 | _,_,_+1,.nil=>.nil
 | _,_,n+1,.cons r t=>.cons r (Vals.take n t)
def Vals.drop:∀ {xs:List V}{us:List Value} (n:Nat),Vals xs us->Vals (xs.drop n) (us.drop n)
 | _,_,0,r=>r
 | _,_,_+1,.nil=>.nil
 | _,_,n+1,.cons _ t=>Vals.drop n t
def RelO:Option V->Option Value->Prop
 | some v,some u=>RelV v u
 | none,none=>True
 | _,_=>False
def KV:List (κ×V)->List (κ×Value)->Prop:=Paired fun (p:κ×V) (q:κ×Value)=>p.1=q.1/\RelV p.2 q.2
def kV:Key->V
 | .inl i=>.int i
 | .inr x=>.str x
inductive HO where
 | lst (xs:List V)
 | tup (xs:List V)
 | dK (kvs:List (Key×V)) | dT (fl:Bool) (kvs:List (List Key×V))
 | set (S:Int->Bool) (n:Nat)
 | ins (C dx:Addr) (fs:List (Str×V))
 | own (x:Addr)
 | xd (fs:List (Str×V))
 | met (f x:Addr)
 | rng (lo hi:Int)
 | frz (o:Obj) (u:HO)
 | tbl (ps:Array Value)
 | ext (φ:Heap->Prop)
abbrev Hp:=Addr->Option HO
def upd (H:Hp) (a:Addr) (o:HO):Hp:=fun b=>if b=a then some o else H b
def j0 {H:Hp}{o:HO}:upd H a o a=some o:=by unfold upd; rw[if_pos rfl]
def ka {H:Hp}{b:Addr}{o:HO} (h:b≠a):upd H a o b=H b:=by unfold upd; rw[if_neg h]
def jj7 {H:Hp}{b:Addr}{o u:HO} (h:H a=some o) (h':H b=some u) (d:o≠u):a≠b:=by
 intro e; subst e; rw[h] at h'; exact d (Option.some.inj h')
def yl {H:Hp}{b:Addr}{o:HO} (h:H a=some o) (h':H b=none):a≠b:=by
 intro e; subst e; rw[h] at h'; cases h'
def TupO (h:Heap) (a:Addr) (items:Array Value):Prop:=∃ o,h.get? a=some o/\(o.cls=.type "tuple"/\o.dict=none)/\∃ n,o.data=.seq items n
def TupO.isTup (x:TupO h a items):IsTup h a items:=let ⟨o,e,c,d⟩:=x; ⟨o,e,c.1,d⟩
def TupO.lt (x:TupO h a items):a<h.objs.size:=x.isTup.lt
def TupO.new (h:Heap) (items:Array Value):TupO (h.push { cls:=.type "tuple",data:=.seq items }) h.objs.size items:=⟨_,Xi _ rfl,⟨rfl,rfl⟩,_,rfl⟩
section
variable {K:Type} [DecidableEq K] {knd:KeyKind prog w K} 
def IsNest (knd:KeyKind prog w K) (h:Heap) (ks:List K) (a:Addr):Prop:=∃ k r t v o n,ks=k::r/\h.get? a=some o/\o.cls=.type "tuple"/\o.data=.seq #[.ref t,v] n/\IsTupleKey knd h r t/\knd.is k v=true
def IsNest.typeIs {ks:List K} (x:IsNest knd s.heap ks a):s.TypeIs (.ref a) "tuple":=let ⟨_,_,_,_,o,_,_,ho,hc,_⟩:=x; ⟨o,ho,hc⟩
def IsNest.inj {x y:List K} (hx:IsNest knd h x a) (hy:IsNest knd h y a):x=y:=by
 obtain⟨k,r,t,v,o,n,rfl,ho,_,hd,ht,hk⟩:=hx;obtain⟨k',r',t',v',o',n',rfl,ho',_,hd',ht',hk'⟩:=hy;obtain rfl:o=o':=Option.some.inj (ho.symm.trans ho');rw[hd] at hd';injection hd' with h1 _
 have h1:=congrArg Array.toList h1;injection h1 with h2 h3
 injection h2 with h2
 injection h3 with h3 _
 subst h2 h3;rw[knd.inj _ _ _ hk hk',ht.inj ht']
def IsNest.keeps {ks:List K}{d:Addr}{es ep} (x:IsNest knd h ks a) (ho:h.get? d=some o) (hd:o.data=.dict es ep) (hs:Heap.SameBut d h h'):IsNest knd h' ks a:=by
 obtain⟨k,r,t,v,o',n,e,ho',hc,hd',ht,hk⟩:=x;have hne:a≠d:=by
  rintro rfl;obtain rfl:o'=o:=Option.some.inj (ho'.symm.trans ho);rw[hd] at hd'; exact nomatch hd'
 exact⟨k,r,t,v,o',n,e,(hs.2 a hne).trans ho',hc,hd',ht.keeps ho hd hs,hk⟩
def jbQ (knd:KeyKind prog w K):List K->Int
 | []=>0
 | k::r=>reduceHash (Builtin.Tuple.tupleHashOf [tupleKeyHash knd r,knd.hash k])
def jdR {ks:List K}{Q:Int->Shared->Prop} (hu:A.units+1<cLine) (hk:IsNest knd s.heap ks a) (h:Q (jbQ knd ks) { s with toks:=s.toks+(ks.length+2) }):wpAny (model prog w) A (pyHash (.ref a)) Q E s:=by
 have hT:=hk.typeIs;obtain⟨k,r,t,v,o,n,rfl,ho,hc,hd,ht,hk⟩:=hk;unfold pyHash
 first | unfold pyHashByItsType | skip
 first | refine Xa (wpAny_cRoomFor_or (.inr (by omega)) ?_) | skip
 refine Xa (wpAny_specialOf hT F.slot_tuple_hash.lookup ?_);show wpAny _ _ (if (some (Value.builtin "tuple.__hash__")==some Value.none)=true then _ else _) Q E s;rw[if_neg (by rw[beq_builtin_none]; exact Xh)];refine Xa (wpAny_specialOf hT F.slot_tuple_hash.lookup ?_);show wpAny _ _ (callSpecialIfBoundUnlessNone? (.ref a) "__hash__" _ >>= _) Q E s;refine Xa (wpAny_callSpecialIfBoundUnlessNone?_slot hT F.slot_tuple_hash (XI F.slot_tuple_hash hT F.entry_tuple_hash ?_ (F.args_tuple_hash_1 _)));show wpAny _ _ (Builtin.Tuple.tupleItemsOf (.ref a) >>= _) _ _ s;refine Xa (wpAny_tupleItemsOf ho hd ?_);refine Xa ?_;rw[<- Array.forIn_toList];show wpAny _ _ (forIn [Value.ref t,v] _ _) _ _ s;rw[List.forIn_cons];refine Xa (Xa (wpAny_pyHash_tuple (A:=A.in1) (show A.units+1<cLine from hu) ht ?_))
 first
  | refine Xb ?_
  | refine Xa (Xb (Xb ?_))
 dsimp only;rw[List.forIn_cons];refine Xa (Xa (knd.pyHash hk ?_))
 first
  | refine Xb ?_
  | refine Xa (Xb (Xb ?_))
 dsimp only;rw[List.forIn_nil];refine Xb ?_;show wpAny _ _ (retInt (Builtin.Tuple.tupleHashOf [tupleKeyHash knd r,knd.hash k])) _ _ _;refine wpAny_ret_mkInt ?_;show wpAny _ _ (if (decide (-(2:Int) ^ 63<=Builtin.Tuple.tupleHashOf [tupleKeyHash knd r,knd.hash k])&&decide (Builtin.Tuple.tupleHashOf [tupleKeyHash knd r,knd.hash k]<2 ^ 63))=true then _ else _) Q E _;have ez:s.toks+(r.length+1)+1+1=s.toks+((k::r).length+2):=by rw[XY]; omega
 rw[<- ez] at h;have h:Q (reduceHash (Builtin.Tuple.tupleHashOf [tupleKeyHash knd r,knd.hash k])) _:=h;unfold reduceHash at h;by_cases hr:(decide (-(2:Int) ^ 63<=Builtin.Tuple.tupleHashOf [tupleKeyHash knd r,knd.hash k])&&decide (Builtin.Tuple.tupleHashOf [tupleKeyHash knd r,knd.hash k]<2 ^ 63))=true
 ·rw[if_pos hr];rw[if_pos hr] at h;exact Xb h
 ·rw[if_neg hr];rw[if_neg hr] at h;exact Xa (wpAny_rule (Xb h))
def Zj {x y:List K}{b:Addr}{P:Fin->Shared->Prop} (hu:A.units<cLine) (hx:IsNest knd s.heap x a) (hy:IsNest knd s.heap y b) (h:P (.done (.ret (.bool (decide (x=y))))) s) :
  wpAny (model prog w) A (Builtin.«tuple.__eq__» ⟨[.ref a,.ref b],[]⟩) P E s:=by
 have hTb:=hy.typeIs;obtain⟨k,r,t,v,o,n,rfl,ho,hc,hd,ht,hk⟩:=hx;obtain⟨k',r',t',v',o',n',rfl,ho',hc',hd',ht',hk'⟩:=hy;show wpAny _ _ (isInstance (.ref b) (.type "tuple") >>= _) _ _ s;refine Xa (wpAny_isInstance hTb isSubtype_tuple_tuple ?_);simp only[Bool.not_true,XG,X0];refine Xa (wpAny_tupleItemsOf ho hd ?_);refine Xa (wpAny_tupleItemsOf ho' hd' ?_);refine Xa ?_;show wpAny _ _ (forIn [(Value.ref t,Value.ref t'),(v,v')] _ _) _ _ s;rw[List.forIn_cons];refine Xa (Xa (wpAny_eqBool_tuple hu ht ht' ?_));by_cases e1:r=r'
 ·subst e1;rw[Xu rfl];simp only[Bool.not_true,XG,X0];refine Xb ?_;dsimp only;rw[List.forIn_cons];refine Xa (Xa (knd.eqBool hk hk' ?_));by_cases e2:k=k'
  ·subst e2;rw[Xu rfl];simp only[Bool.not_true,XG,X0];refine Xb ?_;dsimp only;rw[List.forIn_nil];refine Xb ?_;rw[Xu rfl] at h;exact Xb h
  ·rw[Xk e2];simp only[Bool.not_false,if_true];rw[Xk (fun z=>e2 (List.cons.inj z).1)] at h;exact Xa (Xb (Xb (Xb (Xb h))))
 ·rw[Xk e1];simp only[Bool.not_false,if_true];rw[Xk (fun z=>e1 (List.cons.inj z).2)] at h;exact Xa (Xb (Xb (Xb (Xb h))))
def jir {x y:List K}{b:Addr}{Q:Bool->Shared->Prop} (hu:A.units+1<cLine) (hx:IsNest knd s.heap x a) (hy:IsNest knd s.heap y b) (h:Q (decide (x=y)) s):wpAny (model prog w) A (eqBool (.ref a) (.ref b)) Q E s:=by
 unfold eqBool
 try with_reducible refine wa ?_
 show wpAny _ _ (if (Value.ref a==Value.ref b)=true then _ else _) Q E s;by_cases hab:(Value.ref a==Value.ref b)=true
 ·rw[if_pos hab];have e:a=b:=by have:=eq_of_beq hab; injection this
  subst e;obtain rfl:=hx.inj hy;exact Xa (wpAny_rule (Xb (by simpa using h)))
 ·rw[if_neg hab];exact Xa (wpAny_richCompare_same_room (op:=.Eq) hx.typeIs hy.typeIs F.slot_tuple_eq
   (XI F.slot_tuple_eq hx.typeIs F.entry_tuple_eq (Zj (A:=A.in1) (show A.units+1<cLine from hu) hx hy ⟨_,rfl,(fun e=>nomatch e),XN h⟩) (F.args_tuple_eq_2 _ _)) (by omega))
def jgb {ks:List K}{m:Nat}{Q:Bool->Shared->Prop} (hk:IsTupleKey knd s.heap ks a) (h:Q true s):wpAny (model prog w) A (eqIsQuiet (m+1) (.ref a)) Q E s:=by
 have hT:=hk.typeIs;obtain⟨o,items,n,ho,_,hd,hi⟩:=hk;unfold eqIsQuiet;refine Xa (wpAny_specialOf hT F.slot_tuple_eq.lookup ?_);show wpAny _ _ (isInstance (.ref a) (.type "tuple") >>= _) _ _ s;refine Xa (wpAny_isInstance hT isSubtype_tuple_tuple ?_);simp only[Bool.not_true,XG,X0];refine Xa (wpAny_seqItems ho hd ?_);refine Xa ?_;show wpAny _ _ (forIn items _ _) _ _ s;rw[<- Array.forIn_toList];refine wpAny_forIn_list _ (fun rest r s'=>r.1=none/\s'=s/\∀ v∈rest,carriedByValue v=true) _ ?_ ?_ _ _ ⟨rfl,rfl,hi.byValue⟩
 ·rintro v rest r s' ⟨hr,rfl,hall⟩;rw[eqIsQuiet_byValue _ (hall v Xo)];refine Xa (Xb ?_);simp only[Bool.not_true,XG,X0];exact Xb ⟨rfl,rfl,fun u hu'=>hall u (Xn _ hu')⟩
 ·rintro⟨r1,r2⟩ s' ⟨hr,rfl,_⟩;simp only at hr;subst hr;exact Xb h
def jcQ {ks:List K}{Q:Bool->Shared->Prop} (hk:IsNest knd s.heap ks a) (h:Q true s):wpAny (model prog w) A (eqIsQuiet 8 (.ref a)) Q E s:=by
 have hT:=hk.typeIs;obtain⟨k,r,t,v,o,n,rfl,ho,hc,hd,ht,hk⟩:=hk;unfold eqIsQuiet;refine Xa (wpAny_specialOf hT F.slot_tuple_eq.lookup ?_);show wpAny _ _ (isInstance (.ref a) (.type "tuple") >>= _) _ _ s;refine Xa (wpAny_isInstance hT isSubtype_tuple_tuple ?_);simp only[Bool.not_true,XG,X0];refine Xa (wpAny_seqItems ho hd ?_);refine Xa ?_;show wpAny _ _ (forIn #[Value.ref t,v] _ _) _ _ s;rw[<- Array.forIn_toList];show wpAny _ _ (forIn [Value.ref t,v] _ _) _ _ s;rw[List.forIn_cons];refine Xa (Xa (jgb (m:=6) ht ?_));simp only[Bool.not_true,XG,X0];refine Xb ?_;dsimp only;rw[List.forIn_cons,eqIsQuiet_byValue _ (knd.byValue _ _ hk)];refine Xa (Xa (Xb ?_));simp only[Bool.not_true,XG,X0];refine Xb ?_;dsimp only;rw[List.forIn_nil];exact Xb (Xb h)
end
def jgc {K:Type} [DecidableEq K] (knd:KeyKind prog w K):HeapKind prog w (List K) where
 is:=IsNest knd
 hash:=jbQ knd
 draws:=fun ks=>ks.length+2
 room:=fun A=>A.units+1<cLine
 inj:=fun hx hy=>hx.inj hy
 keeps:=fun x ho hd hs=>x.keeps ho hd hs
 pyHash:=fun hu hk h=>jdR hu hk h
 eqBool:=fun hu hx hy h=>jir hu hx hy h
 quiet:=fun hk h=>jcQ hk h
def TupK (fl:Bool) (H:Hp) (ks:List Key) (b:Addr):Prop:=match fl with
 | false=>H b=some (.tup (ks.map kV))
 | true=>∃ k r t,ks=k::r/\H b=some (.tup [.ref t,kV k])/\H t=some (.tup (r.map kV))
def TupK.mono {H H':Hp}{ks:List Key}{b:Addr} (x:TupK fl H ks b) (ht:∀ b xs,H b=some (.tup xs)->H' b=some (.tup xs)):TupK fl H' ks b:=by
 cases fl with
 | false=>exact ht _ _ x
 | true=>obtain⟨k,r,t,e,h1,h2⟩:=x; exact ⟨k,r,t,e,ht _ _ h1,ht _ _ h2⟩
def kdT (fl:Bool) (P:Program) (w:World):HeapKind P w (List Key):=match fl with
 | false=>tupleKind (zD P w)
 | true=>jgc (zD P w)
section
variable (P:Program) (w:World)
def ObjOk (H:Hp) (h:Heap) (a:Addr):HO->Prop
 | .lst xs=>xs.length<=sizeLine/\∃ (its:List Value) (n:Nat),Vals xs its/\h.get? a=some { cls:=.type "list",data:=.seq its.toArray n }
 | .tup xs=>xs.length<=sizeLine/\∃ its:List Value,Vals xs its/\TupO h a its.toArray
 | .dK kvs=>kvs.length<=sizeLine/\(a==sysModules)=false/\∃ vs,KV kvs vs/\h.DictOf (zD P w) a vs
 | .dT fl kvs=>kvs.length<=sizeLine/\(a==sysModules)=false/\∃ xs:List (List Key×Addr×Value),
   Paired (fun (p:List Key×V) (q:List Key×Addr×Value)=>p.1=q.1/\TupK fl H p.1 q.2.1/\RelV p.2 q.2.2) kvs xs /\
   ∃ o es ep,h.get? a=some o/\o.ExactDict/\o.data=.dict es ep/\es.toList=xs.map (entryOfKey (kdT fl P w))/\(xs.map (·.1)).Nodup
 | .set S n=>h.SetOf (intKind P w) a S n
 | .ins C dx fs=>H dx=some (.own a)/\fs.length<=1000/\dx≠a/\h.get? a=some (W.instObj C dx) /\
   ∃ mA,h.Ns1 dx mA/\(∀ f,RelO (fs.lookup f) (mA f))/\PySem.Within mA (fs.map (·.1))
 | .own _=>∃ o,h.get? a=some o
 | .xd fs=>∃ mA,h.Ns1 a mA/\∀ f,RelO (fs.lookup f) (mA f)
 | .rng lo hi=>∃ t u v,h.get? a=some { cls:=.type "range",data:=.fields #[.int lo t,.int hi u,.int 1 v] }
 | .frz o u=>h.get? a=some o/\ObjOk H h a u
 | .tbl ps=>h.get? a=some { cls:=.none,data:=.fields ps }
 | .met f x=>h.get? a=some (W.methodObj (.ref f) (.ref x))
 | .ext φ=>φ h/\(∃ o,h.get? a=some o)/\∀ h1 h2:Heap,φ h1->(∀ o,h1.get? a=some o->h2.get? a=some o)->φ h2
def HOk (H:Hp) (h:Heap):Prop:=∀ a o,H a=some o->ObjOk P w H h a o
end
section
variable {H H':Hp}{o:HO}
def ObjOk.lt (x:ObjOk P w H h a o):a<h.objs.size:=by
 cases o with
 | lst xs=>obtain⟨_,_,_,_,e⟩:=x; exact Xl e
 | tup xs=>obtain⟨_,_,_,p⟩:=x; exact p.lt
 | dK kvs=>obtain⟨_,_,_,_,o,_,_,e,_⟩:=x; exact Xl e
 | dT fl kvs=>obtain⟨_,_,_,_,o,_,_,e,_⟩:=x; exact Xl e
 | set S n=>obtain⟨o,_,_,_,e,_⟩:=x; exact Xl e
 | ins C dx fs=>obtain⟨_,_,_,e,_⟩:=x; exact Xl e
 | own y=>obtain⟨_,e⟩:=x; exact Xl e
 | xd fs=>obtain⟨_,⟨_,_,_,e,_⟩,_⟩:=x; exact Xl e
 | rng lo hi=>obtain⟨_,_,_,e⟩:=x; exact Xl e
 | frz ob u=>obtain⟨e,_⟩:=x; exact Xl e
 | tbl ps=>exact Xl (show h.get? a=some _ from x)
 | met f y=>exact Xl (show h.get? a=some _ from x)
 | ext φ=>obtain⟨_,⟨_,e⟩,_⟩:=x; exact Xl e
def Paired.mapP {F G:α->β->Prop}:∀ {l₁:List α}{l₂:List β},Paired F l₁ l₂->(∀ a b,F a b->G a b)->Paired G l₁ l₂
 | _,_,.nil,_=>.nil
 | _,_,.cons r t,f=>.cons (f _ _ r) (Paired.mapP t f)
def ObjOk.stay (x:ObjOk P w H h a o) (k:∀ b u,(b=a \/ H b=some (.own a))->h.get? b=some u->h'.get? b=some u)
  (ho:∀ b,H b=some (.own a)->H' b=some (.own a)) (ht:∀ b xs,H b=some (.tup xs)->H' b=some (.tup xs)):ObjOk P w H' h' a o:=by
 induction o with
 | lst xs=>obtain⟨z,its,n,r,e⟩:=x; exact ⟨z,its,n,r,k _ _ (.inl rfl) e⟩
 | tup xs=>obtain⟨z,its,r,ob,e,c⟩:=x; exact ⟨z,its,r,ob,k _ _ (.inl rfl) e,c⟩
 | dK kvs=>obtain⟨z,y,vs,r,ob,es,ep,e,c⟩:=x; exact ⟨z,y,vs,r,ob,es,ep,k _ _ (.inl rfl) e,c⟩
 | dT fl kvs=>
  obtain⟨z,y,xs,r,ob,es,ep,e,c⟩:=x;exact⟨z,y,xs,Paired.mapP r fun p q z=>⟨z.1,z.2.1.mono ht,z.2.2⟩,ob,es,ep,k _ _ (.inl rfl) e,c⟩
 | set S n=>obtain⟨ob,es,ep,t,e,c⟩:=x; exact ⟨ob,es,ep,t,k _ _ (.inl rfl) e,c⟩
 | ins C dx fs=>
  obtain⟨d,z,ne,e,mA,⟨od,es,ep,e2,c⟩,r⟩:=x;exact⟨ho _ d,z,ne,k _ _ (.inl rfl) e,mA,⟨od,es,ep,k _ _ (.inr d) e2,c⟩,r⟩
 | own y=>obtain⟨ob,e⟩:=x; exact ⟨ob,k _ _ (.inl rfl) e⟩
 | xd fs=>obtain⟨mA,⟨od,es,ep,e,c⟩,r⟩:=x; exact ⟨mA,⟨od,es,ep,k _ _ (.inl rfl) e,c⟩,r⟩
 | rng lo hi=>obtain⟨t,u,v,e⟩:=x; exact ⟨t,u,v,k _ _ (.inl rfl) e⟩
 | frz ob u ih=>obtain⟨e,q⟩:=x; exact ⟨k _ _ (.inl rfl) e,ih q⟩
 | tbl ps=>
  have e:h.get? a=some { cls:=.none,data:=.fields ps }:=x;show h'.get? a=some { cls:=.none,data:=.fields ps };exact k a _ (.inl rfl) e
 | met f y=>
  have e:h.get? a=some (W.methodObj (.ref f) (.ref y)):=x;show h'.get? a=some (W.methodObj (.ref f) (.ref y));exact k a _ (.inl rfl) e
 | ext φ=>obtain⟨p,⟨o,e⟩,st⟩:=x; exact ⟨st _ _ p fun o q=>k _ _ (.inl rfl) q,⟨o,k _ _ (.inl rfl) e⟩,st⟩
def HOk.lt (x:HOk P w H h) (e:H a=some o):a<h.objs.size:=(x a o e).lt
def HOk.fresh (x:HOk P w H h) (e:h.objs.size<=a):H a=none:=by
 cases q:H a with
 | none=>rfl
 | some u=>exact absurd (Xr (x.lt q) e) (XV _)
def HOk.kept (x:HOk P w H h) (k:∀ b u,h.get? b=some u->h'.get? b=some u):HOk P w H h':=fun a o e=>
 (x a o e).stay (fun b u _ q=>k b u q) (fun _ q=>q) fun _ _ q=>q
def HOk.laid (x:HOk P w H h) (k:∀ b u,h.get? b=some u->h'.get? b=some u) (hp:h.objs.size<=a) (new:ObjOk P w (upd H a o) h' a o):HOk P w (upd H a o) h':=fun b u e=>by
 have hn:=x.fresh hp;by_cases hb:b=a
 ·subst hb; rw[j0] at e; cases e; exact new
 ·rw[ka hb] at e;exact(x b u e).stay (fun c v _ q=>k c v q) (fun c q=>by rw[ka (yl q hn)]; exact q) fun c xs q=>by rw[ka (yl q hn)]; exact q
end
def Rd (H:Hp) (a:Addr) (u:HO):Prop:=H a=some u \/ ∃ o,H a=some (.frz o u)
def Rd.ok {H:Hp}{u:HO} (r:Rd H a u) (x:HOk P w H h):ObjOk P w H h a u:=by
 rcases r with r | ⟨o,r⟩
 ·exact x a u r
 ·obtain⟨_,q⟩:=x a _ r;exact q
def Mut:Option HO->Prop
 | some (.lst _)=>True
 | some (.dK _)=>True
 | some (.dT _ _)=>True
 | some (.set _ _)=>True
 | some (.ins _ _ _)=>True
 | some (.ext _)=>True
 | _=>False
section
variable {H:Hp}{x e:Addr}{o':HO}
def HOk.write (ok:HOk P w H h) (mu:Mut (H x)) (he:e=x \/ H e=some (.own x)) (k:∀ b u,b≠e->h.get? b=some u->h'.get? b=some u) (heo:∃ u,h'.get? e=some u)
  (new:ObjOk P w (upd H x o') h' x o'):HOk P w (upd H x o') h':=fun b u q=>by
 have nown:∀ c y,H c=some (.own y)->c≠x:=fun c y r z=>by subst z; rw[r] at mu; exact mu
 have ntup:∀ c xs,H c=some (.tup xs)->c≠x:=fun c xs r z=>by subst z; rw[r] at mu; exact mu
 by_cases hb:b=x
 ·subst hb; rw[j0] at q; cases q; exact new
 ·rw[ka hb] at q;by_cases hbe:b=e
  ·have q':H b=some (.own x):=by
    rcases he with z | z
    ·exact absurd (hbe.trans z) hb
    ·rw[hbe]; exact z
   rw[q] at q'; cases q';obtain⟨v,hv⟩:=heo;exact⟨v,by rw[hbe]; exact hv⟩
  ·refine(ok b u q).stay (fun c v hc r=>k c v ?_ r) (fun c r=>by rw[ka (nown c b r)]; exact r) fun c xs r=>by rw[ka (ntup c xs r)]; exact r
   rcases hc with rfl | hc
   ·exact hbe
   ·rintro rfl;rcases he with z | z
    ·exact nown c b hc z
    ·rw[hc] at z; cases z; exact hb rfl
end
structure Un (fs ex:List Addr) (H H':Hp) (h h':Heap):Prop where
 keep:∀ b o,h.get? b=some o->H b=none->b∉fs->b∉ex->h'.get? b=some o
 slot:∀ b o,h.get? b=some o->H b=none->b∈fs->b∉ex->∃ sl,h'.get? b=some { o with slots:=sl }
 free:∀ b o,h.get? b=some o->H b=none->b∉ex->H' b=none
 there:∀ b o,h.get? b=some o->b∉ex->∃ o',h'.get? b=some o'
 tups:∀ b xs,H b=some (.tup xs)->H' b=some (.tup xs)
 frzs:∀ b o u,H b=some (.frz o u)->H' b=some (.frz o u)
 tbls:∀ b ps,H b=some (.tbl ps)->∃ more,H' b=some (.tbl (ps++more))
section
variable {fs fs' ex ex':List Addr}{H H1 H2:Hp}{h1 h2:Heap}{x e:Addr}{o:HO}
def Un.any (u:Un fs ex H H1 h h1) {b:Addr}{ob:Obj} (q:h.get? b=some ob) (n:H b=none) (hx:b∉ex):∃ sl,h1.get? b=some { ob with slots:=sl }:=by
 by_cases hb:b∈fs
 ·exact u.slot b ob q n hb hx
 ·exact⟨ob.slots,u.keep b ob q n hb hx⟩
def Un.kept (k:∀ b u,h.get? b=some u->h'.get? b=some u):Un fs ex H H h h':=
 ⟨fun b ob q _ _ _=>k b ob q,fun b ob q _ _ _=>⟨ob.slots,k b ob q⟩,fun _ _ _ n _=>n,fun b ob q _=>⟨ob,k b ob q⟩,fun _ _ q=>q,fun _ _ _ q=>q,fun _ ps q=>⟨#[],by rw[q]; simp⟩⟩
def Un.refl:Un fs ex H H h h:=Un.kept fun _ _ q=>q
def Un.laid (k:∀ b u,h.get? b=some u->h'.get? b=some u) (hp:h.objs.size<=a) (hn:H a=none):Un fs ex H (upd H a o) h h' where
 keep:=fun b u q _ _ _=>k b u q
 slot:=fun b u q _ _ _=>⟨u.slots,k b u q⟩
 free:=fun b u q n _=>by rw[ka (XQ (Xr (Xl q) hp))]; exact n
 there:=fun b u q _=>⟨u,k b u q⟩
 tups:=fun b xs q=>by rw[ka (yl q hn)]; exact q
 frzs:=fun b u xs q=>by rw[ka (yl q hn)]; exact q
 tbls:=fun b ps q=>⟨#[],by rw[ka (yl q hn),q]; simp⟩
def Un.write (mu:Mut (H x)) (he:e=x \/ H e=some (.own x)) (k:∀ b u,b≠e->h.get? b=some u->h'.get? b=some u) (heo:∃ u,h'.get? e=some u):Un fs ex H (upd H x o) h h':=by
 have hx:∀ b,H b=none->b≠x:=fun b n z=>by subst z; rw[n] at mu; exact mu
 have hb:∀ b,H b=none->b≠e:=fun b n z=>by
  subst z;rcases he with r | r
  ·exact hx b n r
  ·rw[n] at r; cases r
 have hm:∀ b u,H b=some u->¬ Mut (some u)->b≠x:=fun b u q nm z=>by subst z; rw[q] at mu; exact nm mu
 refine⟨fun b u q n _ _=>k b u (hb b n) q,fun b u q n _ _=>⟨u.slots,k b u (hb b n) q⟩,fun b u q n _=>by rw[ka (hx b n)]; exact n,fun b u q _=>?_,
  fun b xs q=>by rw[ka (hm b _ q fun z=>z)]; exact q,fun b u xs q=>by rw[ka (hm b _ q fun z=>z)]; exact q,fun b ps q=>⟨#[],by rw[ka (hm b _ q fun z=>z),q]; simp⟩⟩
 by_cases hbe:b=e
 ·subst hbe; exact heo
 ·exact⟨u,k b u hbe q⟩
end
def trk (h:Heap) (H:Hp):List Addr:=(List.range h.objs.size).filter fun a=>(H a).isSome
def jgd (h:Heap) (H:Hp):Heap:=W.hideAll h (trk h H)
def jdS (h:Heap) (H:Hp):(jgd h H).objs.size=h.objs.size:=W.hideAll_size _ _
def jge {H:Hp}{b:Addr} (e:h.get? b=some o) (n:H b=none):(jgd h H).get? b=some o:=
 W.hideAll_get _ e fun hm=>by
  have q:(H b).isSome=true:=(List.mem_filter.mp hm).2;rw[n] at q; simp at q
def jis {H:Hp}{b:Addr} (e:(jgd h H).get? b=some o):h.get? b=some o/\H b=none:=by
 have e':h.get? b=some o:=W.of_hideAll (trk h H) e;refine⟨e',?_⟩;cases q:H b with
 | none=>rfl
 | some x=>
  have hm:b∈trk h H:=List.mem_filter.mpr ⟨List.mem_range.mpr (Xl e'),by simp[q]⟩;have z:(jgd h H).get? b=none:=W.hideAll_none (trk h H) hm;rw[z] at e; cases e
def jit (g h:Heap) (L:Addr):List (Addr×Obj):=(List.range h.objs.size).filterMap fun a=>if a=L \/ (g.get? a).isSome=true then none else (h.get? a).map fun o=>(a,o)
def rest (g h:Heap) (L d:Addr):List (Addr×Obj):=(jit g h L).filter fun p=>decide (p.1≠d)
structure Mod (K:W.Frag) (mg:Str->Option Value) (base:Heap):Prop where
 kin:K.In base
 glob:base.Ns mainGlobals mg
 blt:∃ mb,base.Ns builtinsNs mb/\∀ x:Str,x≠"__name__"->mb x=bootBuiltins x
 nolimit:base.NoLimit
structure Cx where
 prog:Program
 w:World
 K:W.Frag
 mg:Str->Option Value
 base:Heap
 A:Around
 N:List Str
 s₀:Shared
 H₀:Hp
 env:Env
 outer:List Env
 stack:List Env
 ex:List Addr
 fn:Str->Bool
 calm:Bool
 pn:List (Addr×Obj)
 xe:Value->Shared->Prop
def frs (l:List Env):List Addr:=l.filterMap (·.frame)
abbrev Cx.fs (X:Cx):List Addr:=frs X.outer
def Vis (sc:Scope) (x:Str):Prop:=sc.names.lookup x=some .local \/ sc.names.lookup x=some .cell \/ sc.names.lookup x=some .free
def Loc (sc:Scope) (x:Str):Prop:=sc.names.lookup x=some .local \/ sc.names.lookup x=some .cell
def jmV (env:Env) (h:Heap) (m:Str->Option Value) (x:Str) (u:Value):Prop:=
 (env.kindOf x=some .local/\m x=some u) \/ ((env.kindOf x=some .cell \/ env.kindOf x=some .free)/\∃ c,env.cells.lookup x=some c/\h.IsCell c (some u))
structure Cx.Ok (X:Cx):Prop where
 mod:Mod X.K X.mg X.base
 kind:X.env.scope.kind=.function
 glob:X.env.globals=mainGlobals
 blt:X.env.builtins=builtinsNs
 above:X.s₀.heap.objs.size<=X.env.locals
 inj:∀ x y c,X.env.cells.lookup x=some c->X.env.cells.lookup y=some c->x=y
 has:∀ x,(X.env.kindOf x=some .cell \/ X.env.kindOf x=some .free)->∃ c,X.env.cells.lookup x=some c
 cab:∀ x c,X.fn x=true->X.env.cells.lookup x=some c->X.s₀.heap.objs.size<=c
 hd:X.calm=true->X.A.handled=none
 frames:X.A.frames=some X.stack
 stk:X.stack=X.outer \/ (X.stack=X.env::X.outer/\X.env.frame=some X.env.locals)
 exf:∀ b∈X.ex,b≠X.env.locals/\∀ x c,X.env.cells.lookup x=some c->c≠b
 bs:∀ b o,X.base.get? b=some o->X.s₀.heap.get? b=some o/\X.H₀ b=none
 bsz:X.base.objs.size<=X.s₀.heap.objs.size
 noex:∀ b o,X.base.get? b=some o->b∉X.ex
 exfs:∀ b∈X.ex,b∉X.fs
 funs:X.s₀.heap.FunFrames X.base X.outer
 frf:∀ b∈X.fs,X.H₀ b=none
structure Inv (X:Cx) (pins:List (Addr×Obj)) (σ:List (Option V)) (H:Hp) (s:Shared):Prop where
 ok:X.Ok
 os:s.os=X.s₀.os
 bare:AllBare s.gens
 base:Un X.fs X.ex X.H₀ H X.s₀.heap s.heap
 loc:∃ m,s.heap.Ns X.env.locals m/\∀ (i:Nat) (x:Str) (v:V),X.N[i]?=some x->σ[i]?=some (some v)->Vis X.env.scope x->∃ u,RelV v u/\jmV X.env s.heap m x u
 cell:∀ x c,X.env.cells.lookup x=some c->∃ v,s.heap.IsCell c v
 free:H X.env.locals=none
 freeC:∀ x c,X.env.cells.lookup x=some c->H c=none
 pin:∀ p∈X.pn++pins,s.heap.get? p.1=some p.2/\H p.1=none/\p.1≠X.env.locals/\p.1∉X.fs/\∀ v,p.2.data≠.cell v
 hok:HOk X.prog X.w H s.heap
 len:σ.length=X.N.length
section
variable {X:Cx}{σ:List (Option V)}{H H':Hp} 
def Cx.Ok.nofr (ok:X.Ok) {b:Addr} (e:X.base.get? b=some o):b∉X.fs:=fun hb=>by
 have:=(ok.funs.mem hb).1;rw[e] at this; cases this
def Inv.bs (I:Inv X pins σ H s):∀ b o,X.base.get? b=some o->s.heap.get? b=some o/\H b=none:=fun b o e=>
 ⟨I.base.keep b o (I.ok.bs b o e).1 (I.ok.bs b o e).2 (I.ok.nofr e) (I.ok.noex b o e),I.base.free b o (I.ok.bs b o e).1 (I.ok.bs b o e).2 (I.ok.noex b o e)⟩
def Inv.bk (I:Inv X pins σ H s):∀ b o,X.base.get? b=some o->s.heap.get? b=some o:=fun b o e=>(I.bs b o e).1
def Inv.mod (I:Inv X pins σ H s):Mod X.K X.mg X.base:=I.ok.mod
def Inv.kIn (I:Inv X pins σ H s):X.K.In s.heap:=I.ok.mod.kin.keeps I.bk
def Inv.lt (I:Inv X pins σ H s):X.env.locals<s.heap.objs.size:=let ⟨_,hn,_⟩:=I.loc; hn.lt
def Inv.sz (I:Inv X pins σ H s):X.s₀.heap.objs.size<=s.heap.objs.size:=XW I.ok.above (Nat.le_of_lt I.lt)
def Inv.nofs (I:Inv X pins σ H s) (h:s.heap.objs.size<=a):a∉X.fs:=fun hb=>by
 obtain⟨_,o,ho,_⟩:=I.ok.funs.mem hb;exact absurd (Xr (Xl ho) (XW I.sz h)) (XV _)
def Inv.cne (I:Inv X pins σ H s):∀ x c,X.env.cells.lookup x=some c->c≠X.env.locals:=fun x c e z=>by
 obtain⟨v,o,ho,hd⟩:=I.cell x c e;obtain⟨m,⟨o',es,ep,ho',hd',_⟩,_⟩:=I.loc;rw[z,ho'] at ho; cases ho; rw[hd'] at hd; cases hd
def Inv.funs (I:Inv X pins σ H s):s.heap.FunFrames X.base X.outer:=by
 have all:∀ (l:List Env),(∀ b∈frs l,b∈X.fs)->X.s₀.heap.FunFrames X.base l->s.heap.FunFrames X.base l:=by
  intro l
  induction l with
  | nil=>intro _ _; trivial
  | cons env r ih=>
   intro hs hl;obtain⟨hk,⟨L,o,hf,hn,ho,hd⟩,hr⟩:=hl;have hL:L∈X.fs:=hs L (by unfold frs; rw[List.filterMap_cons,hf]; exact Xo);obtain⟨sl,e⟩:=I.base.slot L o ho (I.ok.frf L hL) hL fun z=>I.ok.exfs L z hL;exact⟨hk,⟨L,_,hf,hn,e,hd⟩,ih (fun b hb=>hs b (by unfold frs; rw[List.filterMap_cons,hf]; exact Xn _ hb)) hr⟩
 exact all X.outer (fun _ hb=>hb) I.ok.funs
def Inv.stack (I:Inv X pins σ H s):s.heap.FunFrames X.base X.stack:=by
 rcases I.ok.stk with e | ⟨e,hf⟩
 ·rw[e]; exact I.funs
 ·rw[e];obtain⟨m,hn,_⟩:=I.loc;refine .cons (by rw[I.ok.kind]; decide) hf hn ?_ I.funs;exact Heap.get?_none_of_le (XW I.ok.bsz I.ok.above)
def Inv.stkSub (I:Inv X pins σ H s):∀ b∈frs X.stack,b∈X.env.locals::X.fs:=fun b hb=>by
 rcases I.ok.stk with e | ⟨e,hf⟩
 ·rw[e] at hb; exact Xn _ hb
 ·rw[e] at hb;unfold frs at hb;rw[List.filterMap_cons,hf] at hb;exact hb
def Inv.stkFree (I:Inv X pins σ H s):∀ b∈frs X.stack,H b=none:=fun b hb=>by
 rcases List.mem_cons.mp (I.stkSub b hb) with e | hb
 ·rw[e]; exact I.free
 ·obtain⟨_,o,ho,_⟩:=I.ok.funs.mem hb;exact I.base.free b o ho (I.ok.frf b hb) fun z=>I.ok.exfs b z hb
def Inv.step {g':Array GenState}{d':Drawn} (I:Inv X pins σ H s)
  (hch:∀ b∈ch,(b∈X.ex \/ X.s₀.heap.objs.size<=b)/\b≠X.env.locals/\(∀ x c,X.env.cells.lookup x=some c->c≠b)/\∀ p∈X.pn++pins,p.1≠b)
  (keep:∀ b o,b≠X.env.locals->b∉X.fs->b∉ch->s.heap.get? b=some o->H b=none->h'.get? b=some o)
  (slot:∀ b o,b≠X.env.locals->b∈X.fs->b∉ch->s.heap.get? b=some o->H b=none->∃ sl,h'.get? b=some { o with slots:=sl }) (free:∀ b o,b∉ch->s.heap.get? b=some o->H b=none->H' b=none)
  (there:∀ b o,b∉ch->s.heap.get? b=some o->∃ o',h'.get? b=some o')
  (tups:∀ b xs,H b=some (.tup xs)->H' b=some (.tup xs)) (frzs:∀ b o u,H b=some (.frz o u)->H' b=some (.frz o u)) (tbls:∀ b ps,H b=some (.tbl ps)->∃ more,H' b=some (.tbl (ps++more)))
  (ns:∀ m,s.heap.Ns X.env.locals m->h'.Ns X.env.locals m) (hok:HOk X.prog X.w H' h') (hg:AllBare g') :
  Inv X pins σ H' { s with heap:=h',gens:=g',drawn:=d',toks:=t' }:=by
 have neL:∀ b o,X.s₀.heap.get? b=some o->b≠X.env.locals:=fun b o e=>XQ (Xr (Xl e) I.ok.above);have neC:∀ b o,X.s₀.heap.get? b=some o->b∉X.ex->b∉ch:=fun b o e hx hb=>by
  rcases (hch b hb).1 with z | z
  ·exact hx z
  ·exact absurd (Xr (Xl e) z) (XV _)
 have cellK:∀ x c,X.env.cells.lookup x=some c->∀ v,s.heap.IsCell c v->h'.IsCell c v:=fun x c e v ⟨o,ho,hd⟩=>by
  have nch:c∉ch:=fun z=>(hch c z).2.2.1 x c e rfl;by_cases hc:c∈X.fs
  ·obtain⟨sl,q⟩:=slot c o (I.cne x c e) hc nch ho (I.freeC x c e);exact⟨_,q,hd⟩
  ·exact⟨o,keep c o (I.cne x c e) hc nch ho (I.freeC x c e),hd⟩
 refine⟨I.ok,I.os,hg,⟨fun b o e n hb hx=>?_,fun b o e n hb hx=>?_,fun b o e n hx=>?_,fun b o e hx=>?_,fun b xs e=>tups b xs (I.base.tups b xs e),fun b o xs e=>frzs b o xs (I.base.frzs b o xs e),fun b ps e=>?_⟩,?_,fun x c e=>?_,?_,fun x c e=>?_,fun p hp=>?_,hok,I.len⟩
 ·exact keep b o (neL b o e) hb (neC b o e hx) (I.base.keep b o e n hb hx) (I.base.free b o e n hx)
 ·obtain⟨sl,e1⟩:=I.base.slot b o e n hb hx;obtain⟨sl',e2⟩:=slot b _ (neL b o e) hb (neC b o e hx) e1 (I.base.free b o e n hx);exact⟨sl',e2⟩
 ·obtain⟨o',e1⟩:=I.base.there b o e hx;exact free b o' (neC b o e hx) e1 (I.base.free b o e n hx)
 ·obtain⟨o',e1⟩:=I.base.there b o e hx;exact there b o' (neC b o e hx) e1
 ·obtain⟨m1,e1⟩:=I.base.tbls b ps e;obtain⟨m2,e2⟩:=tbls b _ e1;exact⟨m1++m2,by rw[e2,Array.append_assoc]⟩
 ·obtain⟨m,hn,hl⟩:=I.loc;refine⟨m,ns m hn,fun i x v e1 e2 e3=>?_⟩;obtain⟨u,r,l⟩:=hl i x v e1 e2 e3;refine⟨u,r,?_⟩;rcases l with l | ⟨k,c,e,z⟩
  ·exact .inl l
  ·exact .inr ⟨k,c,e,cellK x c e _ z⟩
 ·obtain⟨v,z⟩:=I.cell x c e;exact⟨v,cellK x c e v z⟩
 ·obtain⟨m,⟨o,_,_,ho,_⟩,_⟩:=I.loc;exact free _ o (fun z=>(hch _ z).2.1 rfl) ho I.free
 ·obtain⟨v,o,ho,hd⟩:=I.cell x c e;exact free c o (fun z=>(hch c z).2.2.1 x c e rfl) ho (I.freeC x c e)
 ·obtain⟨e,n,ne,nf,d⟩:=I.pin p hp;have nch:p.1∉ch:=fun z=>(hch p.1 z).2.2.2 p hp rfl;exact⟨keep p.1 p.2 ne nf nch e n,free p.1 p.2 nch e n,ne,nf,d⟩
def Inv.un (I:Inv X pins σ H s) (u:Un X.fs [] H H' s.heap h') (hok:HOk X.prog X.w H' h'):Inv X pins σ H' { s with heap:=h',toks:=t' }:=by
 obtain⟨m,⟨o,es,ep,ho,r⟩,_⟩:=id I.loc;obtain⟨sl,hL⟩:=u.any ho I.free (by simp);exact I.step (g':=s.gens) (d':=s.drawn) (ch:=[]) (fun _ z=>nomatch z) (fun b o _ hb _ e n=>u.keep b o e n hb (by simp)) (fun b o _ hb _ e n=>u.slot b o e n hb (by simp)) (fun b o _ e n=>u.free b o e n (by simp)) (fun b o _ e=>u.there b o e (by simp)) u.tups u.frzs u.tbls (fun m' hm=>by
  obtain⟨o',es',ep',ho',r'⟩:=hm;rw[ho] at ho'; cases ho';exact⟨_,es',ep',hL,r'⟩) hok I.bare
def Inv.call {g':Array GenState}{d':Drawn} (I:Inv X pins σ H s) (u:Un (frs X.stack) ch H H' s.heap h') (hok:HOk X.prog X.w H' h') (hg:AllBare g')
  (hch:∀ b∈ch,(b∈X.ex \/ X.s₀.heap.objs.size<=b)/\b≠X.env.locals/\(∀ x c,X.env.cells.lookup x=some c->c≠b)/\∀ p∈X.pn++pins,p.1≠b) :
  Inv X pins σ H' { s with heap:=h',gens:=g',drawn:=d',toks:=t' }:=by
 obtain⟨m,⟨o,es,ep,ho,r⟩,_⟩:=id I.loc;obtain⟨sl,hL⟩:=u.any ho I.free fun z=>(hch _ z).2.1 rfl;exact I.step (ch:=ch) hch (fun b o hL hb hc e n=>u.keep b o e n (fun z=>(List.mem_cons.mp (I.stkSub b z)).elim hL hb) hc) (fun b o _ _ hc e n=>u.any e n hc) (fun b o hc e n=>u.free b o e n hc) (fun b o hc e=>u.there b o e hc) u.tups u.frzs u.tbls (fun m' hm=>by
  obtain⟨o',es',ep',ho',r'⟩:=hm;rw[ho] at ho'; cases ho';exact⟨_,es',ep',hL,r'⟩) hok hg
def Inv.turned (I:Inv X pins σ H s) (k:∀ b o,b≠it->s.heap.get? b=some o->h'.get? b=some o) (hn:H it=none) (hL:it≠X.env.locals)
  (h1:it∈X.ex \/ X.s₀.heap.objs.size<=it) (h2:∀ x c,X.env.cells.lookup x=some c->c≠it) (h3:∀ p∈X.pn++pins,p.1≠it):Inv X pins σ H { s with heap:=h',toks:=t' }:=by
 have nit:∀ b u,H b=some u->b≠it:=fun b u e z=>by rw[z,hn] at e; cases e
 refine I.step (g':=s.gens) (d':=s.drawn) (ch:=[it]) (fun b hb=>?_) (fun b o _ _ hc e _=>k b o (fun z=>hc (by simp[z])) e) (fun b o _ _ hc e _=>⟨o.slots,k b o (fun z=>hc (by simp[z])) e⟩) (fun _ _ _ _ n=>n)
  (fun b o hc e=>⟨o,k b o (fun z=>hc (by simp[z])) e⟩) (fun _ _ e=>e) (fun _ _ _ e=>e) (fun b ps e=>⟨#[],by rw[e]; simp⟩) (fun m hm=>?_) (fun b u e=>?_) I.bare
 ·have e:b=it:=by simpa using hb
  subst e;exact⟨h1,hL,h2,h3⟩
 ·obtain⟨o,es,ep,ho,r⟩:=hm;exact⟨o,es,ep,k _ o (Ne.symm hL) ho,r⟩
 ·refine(I.hok b u e).stay (fun c v hc q=>k c v ?_ q) (fun _ q=>q) fun _ _ q=>q;rcases hc with z | z
  ·rw[z]; exact nit b u e
  ·exact nit c _ z
def Inv.tok (I:Inv X pins σ H s) (t:Nat):Inv X pins σ H { s with toks:=t }:=I.un (h':=s.heap) (t':=t) Un.refl I.hok
def Inv.kept (I:Inv X pins σ H s) (k:∀ b u,s.heap.get? b=some u->h'.get? b=some u):Inv X pins σ H { s with heap:=h',toks:=t' }:=I.un (Un.kept k) (I.hok.kept k)
def Inv.laid {o:HO} (I:Inv X pins σ H s) (k:∀ b u,s.heap.get? b=some u->h'.get? b=some u) (hp:s.heap.objs.size<=a) (new:ObjOk X.prog X.w (upd H a o) h' a o) :
  Inv X pins σ (upd H a o) { s with heap:=h',toks:=t' }:=I.un (Un.laid k hp (I.hok.fresh hp)) (I.hok.laid k hp new)
def Inv.write {x e:Addr}{o:HO} (I:Inv X pins σ H s) (mu:Mut (H x)) (he:e=x \/ H e=some (.own x)) (k:∀ b u,b≠e->s.heap.get? b=some u->h'.get? b=some u) (heo:∃ u,h'.get? e=some u)
  (new:ObjOk X.prog X.w (upd H x o) h' x o):Inv X pins σ (upd H x o) { s with heap:=h',toks:=t' }:=I.un (Un.write mu he k heo) (I.hok.write mu he k heo new)
def Inv.pins_of {pins':List (Addr×Obj)} (I:Inv X pins σ H s) (h:∀ p∈pins',s.heap.get? p.1=some p.2/\H p.1=none/\p.1≠X.env.locals/\p.1∉X.fs/\∀ v,p.2.data≠.cell v):Inv X pins' σ H s:=
 ⟨I.ok,I.os,I.bare,I.base,I.loc,I.cell,I.free,I.freeC,fun p hp=>(List.mem_append.mp hp).elim (fun z=>I.pin p (List.mem_append_left _ z)) (h p),I.hok,I.len⟩
def jbR (hN:N.Nodup) {j:Nat} (a:N[i]?=some x) (b:N[j]?=some x):i=j:=by
 obtain⟨h1,e1⟩:=List.getElem?_eq_some_iff.mp a;obtain⟨h2,e2⟩:=List.getElem?_eq_some_iff.mp b;exact(List.getElem_inj hN).mp (e1.trans e2.symm)
def Zk {v:V}{Q:Unit->Shared->Prop} (I:Inv X pins σ H s) (hN:X.N.Nodup) (hi:X.N[i]?=some x) (hx:Loc X.env.scope x) (r:RelV v u)
  (h:∀ s',Inv X pins (σ.set i (some v)) H s'->(∃ a,Heap.SameBut a s.heap s'.heap/\(a=X.env.locals \/ X.env.cells.lookup x=some a))->Q () s') (hf:X.fn x=true \/ X.env.scope.names.lookup x=some .local:=by first | exact .inl rfl | exact .inr rfl | assumption):wpAny M A (storeName X.env x u) Q E s:=by
 obtain⟨m,hn,hl⟩:=id I.loc;have hcls:(X.env.scope.kind==.class||(X.env.scope.kind==.module&&X.env.locals != X.env.globals))=false:=by rw[I.ok.kind]; rfl
 have hiσ:i < σ.length:=by rw[I.len]; exact (List.getElem?_eq_some_iff.mp hi).1
 have cne:=I.cne;have tracked:∀ {a:Addr}{h':Heap},(∃ o,s.heap.get? a=some o/\H a=none)->Heap.SameBut a s.heap h'->HOk X.prog X.w H h':=fun {a h'} ha hs b ob e=>by
  obtain⟨_,_,hfree⟩:=ha;refine(I.hok b ob e).stay (fun c w' hc q=>(hs.2 c ?_).trans q) (fun _ q=>q) fun _ _ q=>q;rintro rfl;rcases hc with rfl | hc
  ·rw[hfree] at e; cases e
  ·rw[hfree] at hc; cases hc
 rcases hx with hk | hk
 ·refine wpAny_storeName_local hk hn (fun h' hn' hs=>?_) hcls;obtain⟨oL,_,_,hoL,_⟩:=id hn;refine h _ ⟨I.ok,I.os,I.bare,⟨fun b o e n hb hx=>?_,fun b o e n hb hx=>?_,I.base.free,fun b o e hx=>?_,I.base.tups,I.base.frzs,I.base.tbls⟩,⟨_,hn',fun j y v' e1 e2 e3=>?_⟩,fun y c e=>?_,I.free,I.freeC,fun p hp=>?_,tracked ⟨oL,hoL,I.free⟩ hs,by simpa using I.len⟩ ⟨_,hs,.inl rfl⟩
  ·exact(hs.2 b (XQ (Xr (Xl e) I.ok.above))).trans (I.base.keep b o e n hb hx)
  ·obtain⟨sl,e1⟩:=I.base.slot b o e n hb hx;exact⟨sl,(hs.2 b (XQ (Xr (Xl e) I.ok.above))).trans e1⟩
  ·obtain⟨o',e1⟩:=I.base.there b o e hx;exact⟨o',(hs.2 b (XQ (Xr (Xl e) I.ok.above))).trans e1⟩
  ·by_cases hj:j=i
   ·subst hj;rw[hi] at e1; cases e1;rw[List.getElem?_set_self hiσ] at e2;cases e2;exact⟨u,r,.inl ⟨hk,by simp⟩⟩
   ·rw[List.getElem?_set_ne (Ne.symm hj)] at e2;obtain⟨u',r',q⟩:=hl j y v' e1 e2 e3;refine⟨u',r',?_⟩;rcases q with⟨k,e⟩ | ⟨k,c,e,z⟩
    ·refine .inl ⟨k,?_⟩;have:y≠x:=fun e=>hj (jbR hN e1 (e ▸ hi));simp[this,e]
    ·exact .inr ⟨k,c,e,z.sameBut hs (cne y c e)⟩
  ·obtain⟨w',z⟩:=I.cell y c e;exact⟨w',z.sameBut hs (cne y c e)⟩
  ·obtain⟨e,n,ne,nf,d⟩:=I.pin p hp;exact⟨(hs.2 p.1 ne).trans e,n,ne,nf,d⟩
 ·have hfn:X.fn x=true:=by
   rcases hf with z | z
   ·exact z
   ·rw[z] at hk; cases hk
  obtain⟨c,hc⟩:=I.ok.has x (.inl hk);obtain⟨w',z⟩:=I.cell x c hc;refine wpAny_storeName_cell I.ok.kind hk hc z (fun h' hc' hs=>?_);obtain⟨oc,hoc,hocd⟩:=id z;refine h { s with heap:=h' } ⟨I.ok,I.os,I.bare,⟨fun b o e n hb hx=>?_,fun b o e n hb hx=>?_,I.base.free,fun b o e hx=>?_,I.base.tups,I.base.frzs,I.base.tbls⟩,⟨m,hn.sameBut hs (Ne.symm (cne x c hc)),fun j y v' e1 e2 e3=>?_⟩,fun y c' e=>?_,I.free,I.freeC,fun p hp=>?_,tracked ⟨oc,hoc,I.freeC x c hc⟩ hs,by simpa using I.len⟩ ⟨c,hs,.inr hc⟩
  ·exact(hs.2 b (XQ (Xr (Xl e) (I.ok.cab x c hfn hc)))).trans (I.base.keep b o e n hb hx)
  ·obtain⟨sl,e1⟩:=I.base.slot b o e n hb hx;exact⟨sl,(hs.2 b (XQ (Xr (Xl e) (I.ok.cab x c hfn hc)))).trans e1⟩
  ·obtain⟨o',e1⟩:=I.base.there b o e hx;exact⟨o',(hs.2 b (XQ (Xr (Xl e) (I.ok.cab x c hfn hc)))).trans e1⟩
  ·by_cases hj:j=i
   ·subst hj;rw[hi] at e1; cases e1;rw[List.getElem?_set_self hiσ] at e2;cases e2;exact⟨u,r,.inr ⟨.inl hk,c,hc,hc'⟩⟩
   ·rw[List.getElem?_set_ne (Ne.symm hj)] at e2;obtain⟨u',r',q⟩:=hl j y v' e1 e2 e3;refine⟨u',r',?_⟩;rcases q with q | ⟨k,c',e,z'⟩
    ·exact .inl q
    ·refine .inr ⟨k,c',e,z'.sameBut hs ?_⟩;rintro rfl;exact hj (jbR hN e1 (I.ok.inj _ _ _ e hc ▸ hi))
  ·by_cases hcc:c'=c
   ·subst hcc; exact ⟨_,hc'⟩
   ·obtain⟨w2,z2⟩:=I.cell y c' e;exact⟨w2,z2.sameBut hs hcc⟩
  ·obtain⟨e,n,ne,nf,d⟩:=I.pin p hp;refine⟨(hs.2 p.1 ?_).trans e,n,ne,nf,d⟩;intro q;rw[q,hoc] at e;have q':oc=p.2:=Option.some.inj e;exact d w' (by rw[<- q']; exact hocd)
def WO {v:V}{Q:Unit->Shared->Prop} (I:Inv X pins σ H s) (hN:X.N.Nodup) (hi:X.N[i]?=some x) (hx:Loc X.env.scope x) (r:RelV v u)
  (h:∀ s',Inv X pins (σ.set i (some v)) H s'->Q () s') (hf:X.fn x=true \/ X.env.scope.names.lookup x=some .local:=by first | exact .inl rfl | exact .inr rfl | assumption):wpAny M A (storeName X.env x u) Q E s:=
 Zk I hN hi hx r (fun s' I' _=>h s' I') hf
def Inv.call' (I:Inv X pins σ H s) (ho:s'.os=s.os) (u:Un (frs X.stack) ch H H' s.heap s'.heap) (hok:HOk X.prog X.w H' s'.heap) (hg:AllBare s'.gens)
  (hch:∀ b∈ch,(b∈X.ex \/ X.s₀.heap.objs.size<=b)/\b≠X.env.locals/\(∀ x c,X.env.cells.lookup x=some c->c≠b)/\∀ p∈X.pn++pins,p.1≠b):Inv X pins σ H' s':=by
 obtain⟨h',g',d',t',o'⟩:=s';have e:o'=s.os:=ho;subst e;exact I.call (g':=g') (t':=t') (d':=d') u hok hg hch
end
abbrev XK:=Value->Option Addr->Hp->Prop
abbrev St:=List (Option V)
abbrev VK:=V->Hp->Prop
abbrev TE:=St->Hp->VK->Prop
abbrev TT:=St->Hp->(Bool->Hp->Prop)->Prop
abbrev TA:=St->Hp->(List V->Hp->Prop)->Prop
structure Ends where
 nx:St->Hp->Prop
 rt:VK
 bk:St->Hp->Prop:=fun _ _=>False
 ct:St->Hp->Prop:=fun _ _=>False
abbrev TS:=Ends->St->Hp->Prop
def EP (X:Cx) (pins:List (Addr×Obj)) (σ:St) (Q:VK) (u:Value) (s':Shared):Prop:=∃ v H',Inv X pins σ H' s'/\RelV v u/\Q v H'
def TP (X:Cx) (pins:List (Addr×Obj)) (σ:St) (Q:Bool->Hp->Prop) (b:Bool) (s':Shared):Prop:=∃ H',Inv X pins σ H' s'/\Q b H'
def AP (X:Cx) (pins:List (Addr×Obj)) (σ:St) (Q:List V->Hp->Prop) (us:List Value) (s':Shared):Prop:=∃ vs H',Inv X pins σ H' s'/\Vals vs us/\Q vs H'
def SP (X:Cx) (pins:List (Addr×Obj)) (D:Ends) (f:Flow) (s':Shared):Prop:=
 match f with
 | .next=>∃ σ' H',Inv X pins σ' H' s'/\D.nx σ' H'
 | .brk=>∃ σ' H',Inv X pins σ' H' s'/\D.bk σ' H'
 | .cont=>∃ σ' H',Inv X pins σ' H' s'/\D.ct σ' H'
 | .ret u=>∃ v σ' H',Inv X pins σ' H' s'/\RelV v u/\D.rt v H'
def PE (X:Cx) (e:Expr) (t:TE):Prop:=
 ∀ (pins:List (Addr×Obj)) (s:Shared) (σ:St) (H:Hp) (Q:VK),Inv X pins σ H s->t σ H Q->wpAny (model X.prog X.w) X.A (eval e X.env) (EP X pins σ Q) X.xe s
def PT (X:Cx) (e:Expr) (t:TT):Prop:=
 ∀ (pins:List (Addr×Obj)) (s:Shared) (σ:St) (H:Hp) (Q:Bool->Hp->Prop),Inv X pins σ H s->t σ H Q->wpAny (model X.prog X.w) X.A (isTrue e X.env (eval e X.env)) (TP X pins σ Q) X.xe s
def PW (X:Cx) (e:Expr) (t:TT):Prop:=
 ∀ (whole:Sem Value) (pins:List (Addr×Obj)) (s:Shared) (σ:St) (H:Hp) (Q:Bool->Hp->Prop),Inv X pins σ H s->t σ H Q->wpAny (model X.prog X.w) X.A (isTrue e X.env whole) (TP X pins σ Q) X.xe s
def PW.pt {X:Cx}{t:TT} (h:PW X e t):PT X e t:=h _
def PA (X:Cx) (es:List Expr) (t:TA):Prop:=
 ∀ (pos:Pos) (pins:List (Addr×Obj)) (s:Shared) (σ:St) (H:Hp) (Q:List V->Hp->Prop),Inv X pins σ H s->t σ H Q->wpAny (model X.prog X.w) X.A (spliced (backTo pos (starEach es X.env))) (AP X pins σ Q) X.xe s
def PS (X:Cx) (st:Stmt) (t:TS):Prop:=
 ∀ (pins:List (Addr×Obj)) (s:Shared) (σ:St) (H:Hp) (D:Ends),Inv X pins σ H s->t D σ H->wpAny (model X.prog X.w) X.A (exec st X.env) (SP X pins D) X.xe s
def PSs (X:Cx) (st:List Stmt) (t:TS):Prop:=
 ∀ (pins:List (Addr×Obj)) (s:Shared) (σ:St) (H:Hp) (D:Ends),Inv X pins σ H s->t D σ H->wpAny (model X.prog X.w) X.A (execs st X.env) (SP X pins D) X.xe s
def thn {t:Sem α}{Q Q':α->Shared->Prop} (h:wpAny M A t Q E s) (hQ:∀ a s,Q a s->Q' a s):wpAny M A t Q' E s:=wd h hQ fun _ _ x=>x
section
variable {X:Cx}
def Jo (i:Nat):TE:=fun σ H Q=>∃ v,σ[i]?=some (some v)/\Q v H
def tC (v:V):TE:=fun _ H Q=>Q v H
def jj8 (hN:X.N[i]?=some x) (hv:Vis X.env.scope x) (hd:(x==("__debug__":Str))=false:=by decide) (hcd:(x==("__classdict__":Str))=false:=by decide):PE X (.Name x pos) (Jo i):=by
 intro pins s σ H Q I h;obtain⟨v,e,h⟩:=h;obtain⟨m,hn,hl⟩:=I.loc;obtain⟨u,r,l⟩:=hl i x v hN e hv;have fin:EP X pins σ Q u s:=⟨v,H,I,r,h⟩;rcases l with⟨hk,hm⟩ | ⟨hk,c,hc,hcell⟩
 ·exact wpAny_Name (wpAny_loadName_local I.ok.kind hk hn hm fin) hd
 ·rcases hk with hk | hk
  ·exact wpAny_Name (wpAny_loadName_cell I.ok.kind hk hc hcell fin) hd
  ·exact wpAny_Name (wpAny_loadName_free I.ok.kind hk hc hcell fin hcd) hd
def jl {i j pos}:PE X (.Constant (.int i) j pos) (tC (.int i)):=fun _ _ _ H _ I h=>wpAny_Constant_int ⟨.int i,H,I.tok _,⟨_,rfl⟩,h⟩
def QR {b j pos}:PE X (.Constant (.bool b) j pos) (tC (.bl b)):=fun _ _ _ H _ I h=>Constant_bool ⟨.bl b,H,I,rfl,h⟩
def kg {x j pos}:PE X (.Constant (.str x) j pos) (tC (.str x)):=fun _ _ _ H _ I h=>Calls.Constant_str ⟨.str x,H,I.tok _,⟨_,rfl⟩,h⟩
def Gl (X:Cx) (x:Str):Prop:=X.env.kindOf x=some .globalImplicit
def Ue {σ:St}{H:Hp} (I:Inv X pins σ H s) (hg:Gl X x) (hm:X.mg x=some u) (h:Q u s)
  (hd:(x==("__debug__":Str))=false:=by decide):wpAny (model X.prog X.w) X.A (eval (.Name x pos) X.env) Q E s:=
 Calls.Name_function_global I.ok.kind hg (Calls.loadGlobal_global (by rw[I.ok.glob]; exact I.mod.glob.keeps I.bk) hm h) hd
def Jr {σ:St}{H:Hp} (I:Inv X pins σ H s) (hg:Gl X x) (hm:X.mg x=none) (hv:bootBuiltins x=some u) (h:Q u s)
  (hn:x≠"__name__":=by decide) (hd:(x==("__debug__":Str))=false:=by decide):wpAny (model X.prog X.w) X.A (eval (.Name x pos) X.env) Q E s:=by
 obtain⟨mb,h1,h2⟩:=I.mod.blt;exact Calls.Name_function_global I.ok.kind hg (Calls.loadGlobal_builtin (by rw[I.ok.glob]; exact I.mod.glob.keeps I.bk) hm (by rw[I.ok.blt]; exact h1.keeps I.bk) ((h2 x hn).trans hv) h) hd
def Uf {v:V} (hg:Gl X x) (hm:X.mg x=some u) (r:RelV v u) (hd:(x==("__debug__":Str))=false:=by decide):PE X (.Name x pos) (tC v):=
 fun _ _ _ H _ I h=>Ue I hg hm ⟨v,H,I,r,h⟩ hd
variable {a b:Expr}{ta tb:TE} 
def PC (X:Cx) (op:CmpOp) (a b:Expr) (t:TE):Prop:=
 ∀ (pins:List (Addr×Obj)) (s:Shared) (σ:St) (H:Hp) (Q:VK),Inv X pins σ H s->t σ H Q ->
  wpAny (model X.prog X.w) X.A (eval a X.env) (fun v s₁=>wpAny (model X.prog X.w) X.A (eval b X.env) (fun u s₂=>wpAny (model X.prog X.w) X.A (compareOp op v u) (EP X pins σ Q) X.xe s₂) X.xe s₁) X.xe s
def jgf (b:Expr) {op:CmpOp} (h:op≠.In) (h2:op≠.NotIn):behindInMarks op b=false:=by
 have e1:(op==CmpOp.In)=false:=by cases op <;> first | rfl | exact absurd rfl h
 have e2:(op==CmpOp.NotIn)=false:=by cases op <;> first | rfl | exact absurd rfl h2
 cases b <;> simp[behindInMarks,e1,e2]
def tB (t:TE):TT:=fun σ H Q=>t σ H fun x H1=>∃ c,x=.bl c/\Q c H1
def jbS {op:CmpOp}{t:TE} (h:PC X op a b t) (h1:behindInMarks op b=false:=by first | exact jgf _ (by decide) (by decide) | rfl):PT X (.Compare a [op] [b] pos) (tB t):=by
 intro pins s σ H Q I hw;refine wpAny_isTrue_Compare1 (thn (h pins s σ H _ I hw) fun v s1 h1=>thn h1 fun u s2 h2=>thn h2 fun c s3 ⟨x,H1,I1,r1,q1⟩=>?_) h1;obtain⟨d,rfl,q⟩:=q1;cases r1;exact XN ⟨H1,I1,q⟩
def GC {t:TE} (h:PE X e t) (he:∀ whole,isTrue e X.env whole=(do let v <- whole; standAt e.pos; holding [v] (truthy v)):=by intro _; rfl):PT X e (tB t):=by
 intro pins s σ H Q I hw;refine isTrue_plain (thn (h pins s σ H _ I hw) fun v s1 ⟨x,H1,I1,r1,q1⟩=>?_) (he _);obtain⟨d,rfl,q⟩:=q1;cases r1;exact XN ⟨H1,I1,q⟩
variable {tA tB':TT}{rest:List Expr}
def jjR (t u:TT):TT:=fun σ H Q=>t σ H fun c H1=>if c=true then u σ H1 Q else Q false H1
def tOr (t u:TT):TT:=fun σ H Q=>t σ H fun c H1=>if c=true then Q true H1 else u σ H1 Q
def jjS (t:TT):TT:=fun σ H Q=>t σ H fun c H1=>Q (!c) H1
def WP (ha:PT X a tA):PW X (.BoolOp .And [a] pos) tA:=by
 intro wh pins s σ H Q I h;refine isTrue_and (thn (ha pins s σ H Q I h) fun c s1 e=>?_);cases c with
 | true=>exact isTrue_and_nil e
 | false=>exact e
def UL (ha:PT X a tA):PW X (.BoolOp .Or [a] pos) tA:=by
 intro wh pins s σ H Q I h;refine isTrue_or (thn (ha pins s σ H Q I h) fun c s1 e=>?_);cases c with
 | false=>exact isTrue_or_nil e
 | true=>exact e
def jbT (ha:PT X a tA) (hb:PW X (.BoolOp .And (b::rest) pos) tB'):PW X (.BoolOp .And (a::b::rest) pos) (jjR tA tB'):=by
 intro wh pins s σ H Q I h;refine isTrue_and (thn (ha pins s σ H _ I h) fun c s1 ⟨H1,I1,q1⟩=>?_);cases c with
 | true=>exact hb wh pins s1 σ H1 Q I1 q1
 | false=>exact ⟨H1,I1,q1⟩
def V8 (ha:PT X a tA) (hb:PW X (.BoolOp .Or (b::rest) pos) tB'):PW X (.BoolOp .Or (a::b::rest) pos) (tOr tA tB'):=by
 intro wh pins s σ H Q I h;refine isTrue_or (thn (ha pins s σ H _ I h) fun c s1 ⟨H1,I1,q1⟩=>?_);cases c with
 | true=>exact ⟨H1,I1,q1⟩
 | false=>exact hb wh pins s1 σ H1 Q I1 q1
def Jj (ha:PT X a tA):PT X (.UnaryOp .Not a pos) (jjS tA):=by
 intro pins s σ H Q I h;exact isTrue_not (ha pins s σ H (fun c H1=>Q (!c) H1) I h)
def jaz (ta tb:TE):TE:=fun σ H Q=>ta σ H fun x H1=>∃ c,x=.bl c/\if c=true then tb σ H1 Q else Q (.bl false) H1
def jiu (ta:TE):TE:=fun σ H Q=>ta σ H fun x H1=>∃ c,x=.bl c/\Q (.bl (!c)) H1
def jbU {op}{t:TE} (h:PE X a t):PE X (.BoolOp op [a] pos) t:=fun pins s σ H Q I hw=>BoolOp_one (h pins s σ H Q I hw)
def jbV (ha:PE X a ta) (hb:PE X (.BoolOp .And (b::rest) pos) tb):PE X (.BoolOp .And (a::b::rest) pos) (jaz ta tb):=by
 intro pins s σ H Q I h;refine BoolOp_and (thn (ha pins s σ H _ I h) fun v s1 ⟨x,H1,I1,r1,q1⟩=>?_);obtain⟨c,rfl,q1⟩:=q1;cases r1;refine XN ?_;cases c with
 | true=>exact hb pins s1 σ H1 Q I1 q1
 | false=>exact ⟨.bl false,H1,I1,rfl,q1⟩
def jhI (ha:PE X a ta):PE X (.UnaryOp .Not a pos) (jiu ta):=by
 intro pins s σ H Q I h;refine UnaryOp_ (thn (ha pins s σ H _ I h) fun v s1 ⟨x,H1,I1,r1,q1⟩=>?_);obtain⟨c,rfl,q1⟩:=q1;cases r1;exact not_of (XN ⟨.bl (!c),H1,I1,rfl,q1⟩)
def tIf (t:TT) (ta tb:TE):TE:=fun σ H Q=>t σ H fun c H1=>if c=true then ta σ H1 Q else tb σ H1 Q
def QS {c:Expr} (hc:PT X c tA) (ha:PE X a ta) (hb:PE X b tb):PE X (.IfExp c a b pos) (tIf tA ta tb):=by
 intro pins s σ H Q I h;refine wpAny_IfExp (thn (hc pins s σ H _ I h) fun d s1 ⟨H1,I1,q1⟩=>?_);cases d with
 | true=>exact ha pins s1 σ H1 Q I1 q1
 | false=>exact hb pins s1 σ H1 Q I1 q1
end
def SqL (K:W.Frag) (H:Hp) (a:Addr) (xs:List V):Prop:=
 Rd H a (.lst xs) \/
  ∃ (o:Obj) (its:Array Value) (n:Nat),K.lookup a=some o/\o.cls=.type "list"/\o.dict=none/\o.data=.seq its n/\its.size<=sizeLine/\Vals xs its.toList
def SqT (K:W.Frag) (H:Hp) (a:Addr) (xs:List V):Prop:=
 Rd H a (.tup xs) \/
  ∃ (o:Obj) (its:Array Value) (n:Nat),K.lookup a=some o/\o.cls=.type "tuple"/\o.data=.seq its n/\its.size<=sizeLine/\Vals xs its.toList
def jmW:Value->Option V
 | .none=>some .non
 | .bool b=>some (.bl b)
 | .int i _=>some (.int i)
 | .str x _=>some (.str x)
 | .bytes b _=>some (.byt b)
 | .float b _=>some (.flt b)
 | .ref a=>some (.ref a)
 | .type n=>some (.ty n)
 | _=>none
def RelV.abs {x:V} (r:RelV x u):jmW u=some x:=by
 cases x with
 | non=>cases r; rfl
 | bl _=>cases r; rfl
 | int _=>obtain⟨t,rfl⟩:=r; rfl
 | str _=>obtain⟨t,rfl⟩:=r; rfl
 | byt _=>obtain⟨t,rfl⟩:=r; rfl
 | flt _=>obtain⟨t,rfl⟩:=r; rfl
 | ref _=>cases r; rfl
 | ty _=>cases r; rfl
def RelV.inj {x y:V} (r:RelV x u) (q:RelV y u):x=y:=Option.some.inj (r.abs.symm.trans q.abs)
def Vals.inj:∀ {xs ys:List V}{us:List Value},Vals xs us->Vals ys us->xs=ys
 | _,_,_,.nil,.nil=>rfl
 | _,_,_,.cons r t,.cons r' t'=>by rw[r.inj r',Vals.inj t t']
section
variable {X:Cx}{σ:St}{H:Hp}{xs ys:List V}
def SqL.of (h:H a=some (.lst xs)):SqL K H a xs:=.inl (.inl h)
def SqT.of (h:H a=some (.tup xs)):SqT K H a xs:=.inl (.inl h)
def Inv.list (I:Inv X pins σ H s) (h:SqL X.K H a xs):∃ its:List Value,Vals xs its/\PlainL s.heap a its.toArray/\xs.length<=sizeLine:=by
 rcases h with h | ⟨o,its,n,hk,hc,hd,hs,hz,r⟩
 ·obtain⟨z,its,n,r,e⟩:=h.ok I.hok;exact⟨its,r,⟨_,n,e,rfl,rfl,rfl⟩,z⟩
 ·refine⟨its.toList,r,⟨o,n,I.kIn a o hk,hc,hd,by simpa using hs⟩,?_⟩;have e:=r.length;simp only[Xt] at e;omega
def Inv.tuple (I:Inv X pins σ H s) (h:SqT X.K H a xs):∃ its:List Value,Vals xs its/\IsTup s.heap a its.toArray/\xs.length<=sizeLine:=by
 rcases h with h | ⟨o,its,n,hk,hc,hs,hz,r⟩
 ·obtain⟨z,its,r,p⟩:=h.ok I.hok;exact⟨its,r,p.isTup,z⟩
 ·refine⟨its.toList,r,⟨o,I.kIn a o hk,hc,n,by simpa using hs⟩,?_⟩;have e:=r.length;simp only[Xt] at e;omega
def Inv.list_inj (I:Inv X pins σ H s) (h:SqL X.K H a xs) (h':SqL X.K H a ys):xs=ys:=by
 obtain⟨its,r,⟨o,n,e,_,_,d⟩,_⟩:=I.list h;obtain⟨its',r',⟨o',n',e',_,_,d'⟩,_⟩:=I.list h';rw[e] at e'; cases e';rw[d] at d';injection d' with d1 _
 have:its=its':=by simpa using congrArg Array.toList d1
 subst this;exact r.inj r'
def Inv.tuple_inj (I:Inv X pins σ H s) (h:SqT X.K H a xs) (h':SqT X.K H a ys):xs=ys:=by
 obtain⟨its,r,⟨o,e,_,n,d⟩,_⟩:=I.tuple h;obtain⟨its',r',⟨o',e',_,n',d'⟩,_⟩:=I.tuple h';rw[e] at e'; cases e';rw[d] at d';injection d' with d1 _
 have:its=its':=by simpa using congrArg Array.toList d1
 subst this;exact r.inj r'
end
abbrev Cx.wish (X:Cx) (E:Value->Shared->Prop):Cx:={ X with xe:=E }
abbrev Cx.nox (X:Cx):Cx:=X.wish fun _ _=>False
def Cx.Ok.wish {X:Cx} (ok:X.Ok) (E:Value->Shared->Prop):(X.wish E).Ok:=
 ⟨ok.mod,ok.kind,ok.glob,ok.blt,ok.above,ok.inj,ok.has,ok.cab,ok.hd,ok.frames,ok.stk,ok.exf,ok.bs,ok.bsz,ok.noex,ok.exfs,ok.funs,ok.frf⟩
def Cx.Ok.unwish {X:Cx} (ok:(X.wish E).Ok):X.Ok:=
 ⟨ok.mod,ok.kind,ok.glob,ok.blt,ok.above,ok.inj,ok.has,ok.cab,ok.hd,ok.frames,ok.stk,ok.exf,ok.bs,ok.bsz,ok.noex,ok.exfs,ok.funs,ok.frf⟩
section
variable {X:Cx}{σ:St}{H:Hp} 
def Inv.wish (I:Inv X pins σ H s) (E:Value->Shared->Prop):Inv (X.wish E) pins σ H s:=⟨I.ok.wish E,I.os,I.bare,I.base,I.loc,I.cell,I.free,I.freeC,I.pin,I.hok,I.len⟩
def Inv.unwish (I:Inv (X.wish E) pins σ H s):Inv X pins σ H s:=⟨I.ok.unwish,I.os,I.bare,I.base,I.loc,I.cell,I.free,I.freeC,I.pin,I.hok,I.len⟩
def SP.unwish {D:Ends}{f:Flow} (h:SP (X.wish E) pins D f s'):SP X pins D f s':=by
 cases f with
 | next=>obtain⟨σ',H',I,q⟩:=h; exact ⟨σ',H',I.unwish,q⟩
 | brk=>obtain⟨σ',H',I,q⟩:=h; exact ⟨σ',H',I.unwish,q⟩
 | cont=>obtain⟨σ',H',I,q⟩:=h; exact ⟨σ',H',I.unwish,q⟩
 | ret u=>obtain⟨v,σ',H',I,r,q⟩:=h; exact ⟨v,σ',H',I.unwish,r,q⟩
def PSs.nox {st:List Stmt}{t:TS} (h:PSs X.nox st t):PSs X st t:=fun pins s σ H D I hw=>
 wd (h pins s σ H D (I.wish _) hw) (fun _ _ q=>q.unwish) fun _ _ z=>False.elim z
end
section
variable {X:Cx}{rest:List Stmt}{t u:TS}{te:TE} 
def jj9:TS:=fun D σ H=>D.nx σ H
def QT (t u:TS):TS:=fun D σ H=>t { D with nx:=u D } σ H
def j2:PSs X [] jj9:=fun _ _ σ H _ I h=>wpAny_execs_nil ⟨σ,H,I,h⟩
def jc (h1:PS X st t) (h2:PSs X rest u):PSs X (st::rest) (QT t u):=by
 intro pins s σ H D I h;refine wpAny_execs_cons (thn (h1 pins s σ H { D with nx:=u D } I h) fun f s1 q=>?_)
 cases f with
 | next=>
  obtain⟨σ',H',I',q⟩:=q;exact h2 pins s1 σ' H' D I' q
 | ret v=>exact q
 | brk=>exact q
 | cont=>exact q
def jf (h1:PS X st t):PSs X [st] t:=by
 intro pins s σ H D I h;refine wpAny_execs_cons (thn (h1 pins s σ H D I h) fun f s1 q=>?_);cases f with
 | next=>exact wpAny_execs_nil q
 | ret v=>exact q
 | brk=>exact q
 | cont=>exact q
def jlH:TS:=fun D σ H=>D.ct σ H
def Inv.quiet {σ:St}{H:Hp} (I:Inv X pins σ H s):interactive X.env=false:=by simp[interactive,I.ok.kind]
def V9 (te:TE):TS:=fun D σ H=>te σ H fun _ H1=>D.nx σ H1
def k7 (he:PE X e te) (hs:swapsWith e none pos.line X.env=pure false:=by rfl):PS X (.Expr e pos) (V9 te):=by
 intro pins s σ H D I h;exact wpAny_Expr_any (thn (he pins s σ H _ I h) fun v s1 ⟨x,H1,I1,r1,q1⟩=>⟨σ,H1,I1,q1⟩) I.quiet hs
def jjT (te:TE):TS:=fun D σ H=>te σ H D.rt
def js (he:PE X e te):PS X (.Return (some e) pos) (jjT te):=by
 intro pins s σ H D I h;exact wpAny_Return_some (thn (he pins s σ H _ I h) fun v s1 ⟨x,H1,I1,r1,q1⟩=>⟨x,σ,H1,I1,r1,q1⟩)
def jgg (c:TT) (t u:TS):TS:=fun D σ H=>c σ H fun b H1=>if b=true then t D σ H1 else u D σ H1
def xn {c:Expr}{a b:List Stmt}{tc:TT} (hc:PT X c tc) (ha:PSs X a t) (hb:PSs X b u):PS X (.If c a b pos) (jgg tc t u):=by
 intro pins s σ H D I h;refine wpAny_If (thn (hc pins s σ H _ I h) fun d s1 ⟨H1,I1,q1⟩=>?_);cases d with
 | true=>exact ha pins s1 σ H1 D I1 q1
 | false=>exact hb pins s1 σ H1 D I1 q1
def jhJ:TS:=fun _ _ _=>False
def qz:PS X st jhJ:=fun _ _ _ _ _ _ h=>h.elim
def jdT {sts:List Stmt}:PSs X sts jhJ:=fun _ _ _ _ _ _ h=>h.elim
end
abbrev TG:=V->St->Hp->(St->Hp->Prop)->Prop
abbrev TGs:=List V->St->Hp->(St->Hp->Prop)->Prop
def PG (X:Cx) (target:Expr) (t:TG):Prop:=
 ∀ (pins:List (Addr×Obj)) (s:Shared) (σ:St) (H:Hp) (v:V) (u:Value) (Q:St->Hp->Prop),Inv X pins σ H s->RelV v u->t v σ H Q ->
  wpAny (model X.prog X.w) X.A (assign target X.env u) (fun _ s'=>∃ σ' H',Inv X pins σ' H' s'/\Q σ' H') X.xe s
def PGs (X:Cx) (ts:List Expr) (t:TGs):Prop:=
 ∀ (pins:List (Addr×Obj)) (s:Shared) (σ:St) (H:Hp) (vs:List V) (us:List Value) (Q:St->Hp->Prop),Inv X pins σ H s->Vals vs us->t vs σ H Q ->
  wpAny (model X.prog X.w) X.A (assignInOrder ((assignEach ts X.env).map (·.2)) us) (fun _ s'=>∃ σ' H',Inv X pins σ' H' s'/\Q σ' H') X.xe s
abbrev jlI:=V->V->V->Hp->(Hp->Prop)->Prop
def jmC (X:Cx) (t:jlI):Prop:=
 ∀ (pins:List (Addr×Obj)) (s:Shared) (σ:St) (H:Hp) (o i v:V) (ov iv u:Value) (Q:Hp->Prop),Inv X pins σ H s->RelV o ov->RelV i iv->RelV v u->t o i v H Q ->
  wpAny (model X.prog X.w) X.A (setItem ov iv u) (fun _ s'=>∃ H',Inv X pins σ H' s'/\Q H') X.xe s
section
variable {X:Cx} 
def k9 (i:Nat):TG:=fun v σ H Q=>Q (σ.set i (some v)) H
def kq (hN:X.N.Nodup) (hi:X.N[i]?=some x) (hx:Loc X.env.scope x) (hf:X.fn x=true \/ X.env.scope.names.lookup x=some .local:=by first | exact .inl rfl | exact .inr rfl | assumption):PG X (.Name x pos) (k9 i):=by
 intro pins s σ H v u Q I r h;exact wpAny_assign_Name (WO I hN hi hx r (fun s' I'=>⟨_,H,I',h⟩) hf)
def jf8:TGs:=fun vs σ H Q=>vs=[]/\Q σ H
def GX (t:TG) (u:TGs):TGs:=fun vs σ H Q=>∃ v r,vs=v::r/\t v σ H fun σ' H'=>u r σ' H' Q
def Gp:PGs X [] jf8:=by
 intro pins s σ H vs us Q I r h;obtain⟨e,h⟩:=h;subst e;cases r;exact assignInOrder_nil ⟨σ,H,I,h⟩
def kZ {t:TG}{u:TGs} (h1:PG X e t) (h2:PGs X es u)
  (hs:(assignEach (e::es) X.env).map (·.2)=assign e X.env::(assignEach es X.env).map (·.2):=by rfl):PGs X (e::es) (GX t u):=by
 intro pins s σ H vs us Q I r h;obtain⟨v,vr,e1,h⟩:=h;subst e1;cases r with
 | cons r rr=>
  rw[hs];refine assignInOrder_cons (thn (h1 pins s σ H _ _ _ I r h) fun _ s1 ⟨σ1,H1,I1,q1⟩=>?_);exact h2 pins s1 σ1 H1 _ _ Q I1 rr q1
def jf9 (K:W.Frag) (n:Nat) (t:TGs):TG:=fun v σ H Q=>∃ a xs,v=.ref a/\SqT K H a xs/\xs.length=n/\t xs σ H Q
def Qs {k:Nat}{t:TGs} (hc:X.calm=true) (h:PGs X es t)
  (hn:(assignEach es X.env).length=n:=by rfl) (hst:(assignEach es X.env).findIdx? (·.1)=none:=by rfl):PG X (.Tuple es k pos) (jf9 X.K n t):=by
 intro pins s σ H v u Q I r hw;obtain⟨a,xs,e1,hq,hl,hw⟩:=hw;subst e1;cases r;obtain⟨its,rv,ht,hz⟩:=I.tuple hq;refine assign_Tuple_tuple (I.ok.hd hc) ht (by simp[hn,<- hl,rv.length]) hst fun h' hx=>?_;have I1:Inv X pins σ H { s with heap:=h' }:=I.kept (t':=s.toks) fun b o e=>hx b o (XQ (Xl e)) e
 exact h pins _ σ H xs _ Q I1 (by simpa using rv) hw
def jlw (to ti:TE) (t:jlI):TG:=fun v σ H Q=>to σ H fun o H1=>ti σ H1 fun i H2=>t o i v H2 fun H3=>Q σ H3
def jdU {o i:Expr}{to ti:TE}{t:jlI} (ho:PE X o to) (hi:PE X i ti) (hs:jmC X t)
  (ha:∀ v,assign (.Subscript o i pos) X.env v=(do
   let ov <- holding [v] (eval o X.env)
   let iv <- holding [v,ov] (eval i X.env)
   standAt pos
   holding [v,ov,iv] (setItem ov iv v)
   release [v,ov,iv] []):=by intro _; rfl):PG X (.Subscript o i pos) (jlw to ti t):=by
 intro pins s σ H v u Q I r h;rw[ha];refine Xa (wa (thn (ho pins s σ H _ I h) fun ov s1 ⟨x,H1,I1,r1,q1⟩=>?_));refine Xa (wa (thn (hi pins s1 σ H1 _ I1 q1) fun iv s2 ⟨y,H2,I2,r2,q2⟩=>?_));refine Xa (wpAny_standAt (Xa (wa (thn (hs pins s2 σ H2 x y v ov iv u _ I2 r1 r2 r q2) fun _ s3 ⟨H3,I3,q3⟩=>?_))));exact wpAny_release ⟨σ,H3,I3,q3⟩
def U9 (te:TE) (g:TG):TS:=fun D σ H=>te σ H fun x H1=>g x σ H1 D.nx
def Wo {te:TE}{g:TG} (he:PE X e te) (hg:PG X tg g) (hs:swapsWithSole [tg] e pos.line X.env=pure false:=by rfl) (hw:swappedStores [tg] e X.env=pure none:=by rfl)
  (h1:(assignEach [tg] X.env).map (·.2)=[assign tg X.env]:=by rfl):PS X (.Assign [tg] e pos) (U9 te g):=by
 intro pins s σ H D I h;refine wpAny_Assign_stores (thn (he pins s σ H _ I h) fun v s1 ⟨x,H1,I1,r1,q1⟩=>?_) hs hw;rw[h1];exact thn (hg pins s1 σ H1 x v _ I1 r1 q1) fun _ s2 q=>q
def jj_ {te:TE} (hN:X.N.Nodup) (hi:X.N[i]?=some x) (hx:Loc X.env.scope x) (he:PE X e te) (hs:swapsWith e (some (.Name x pos')) pos.line X.env=pure false:=by rfl) (hf:X.fn x=true \/ X.env.scope.names.lookup x=some .local:=by first | exact .inl rfl | exact .inr rfl | assumption) :
  PS X (.Assign [.Name x pos'] e pos) (U9 te (k9 i)):=by
 intro pins s σ H D I h;refine wpAny_Assign_Name (thn (he pins s σ H _ I h) fun v s1 ⟨y,H1,I1,r1,q1⟩=>?_) hs;exact WO I1 hN hi hx r1 (fun s2 I2=>⟨_,H1,I2,q1⟩) hf
end
section
variable {X:Cx} 
def jdV (c:TT) (tb:TS):TS:=fun D σ H=>∃ W:Nat->St->Hp->Prop,(∃ m,W m σ H)/\∀ m σ H,W m σ H ->
 c σ H fun b H1=>if b=true then ∃ N:St->Hp->Prop,(∀ σ' H',N σ' H'->∃ m',m'<m/\W m' σ' H')/\tb { D with nx:=N,ct:=N,bk:=D.nx } σ H1 else D.nx σ H1
def GY {c:Expr}{tc:TT}{tb:TS} (hp:PassesOwn (model X.prog X.w) X.A X.env X.xe) (hc:PT X c tc) (hb:PSs X body tb):PS X (.While c body [] pos) (jdV tc tb):=by
 intro pins s σ H D I h;obtain⟨W,⟨m0,w0⟩,turn⟩:=h;refine wpAny_While (codeAny_whileLoop (fun n s'=>∃ σ' H',Inv X pins σ' H' s'/\W n σ' H') ?_ m0 ⟨σ,H,I,w0⟩);rintro n s1 ⟨σ1,H1,I1,w1⟩;refine wpAny_passesOwn hp (thn (hc pins s1 σ1 H1 _ I1 (turn n σ1 H1 w1)) fun b s2 ⟨H2,I2,q2⟩=>?_);cases b with
 | true=>
  obtain⟨N,hN,q2⟩:=q2;rw[if_pos rfl];refine wpAny_passesOwn hp (thn (hb pins s2 σ1 H2 _ I2 q2) fun f s3 q3=>?_);cases f with
  | next=>
   obtain⟨σ3,H3,I3,n3⟩:=q3;obtain⟨m',hm,w3⟩:=hN σ3 H3 n3;exact⟨m',hm,σ3,H3,I3,w3⟩
  | cont=>
   obtain⟨σ3,H3,I3,n3⟩:=q3;obtain⟨m',hm,w3⟩:=hN σ3 H3 n3;exact⟨m',hm,σ3,H3,I3,w3⟩
  | brk=>exact q3
  | ret v=>exact q3
 | false=>
  rw[if_neg Xh];exact wpAny_execs_nil ⟨σ1,H2,I2,q2⟩
end
structure It where
 go:Nat->Hp->Prop
 yld:Nat->Hp->V->Hp->Prop
 stop:Nat->Hp->Prop
def jdW (X:Cx) (pins:List (Addr×Obj)) (H:Hp) (b:Addr):Prop:=
 H b=none/\b≠X.env.locals/\b∉X.fs/\(b∈X.ex \/ X.s₀.heap.objs.size<=b)/\(∀ x c,X.env.cells.lookup x=some c->c≠b)/\∀ p∈X.pn++pins,p.1≠b
def Inv.fpOk {X:Cx}{σ:St}{H H':Hp}{b:Addr} (I:Inv X pins σ H s) (hb:s.heap.objs.size<=b) (hn:H' b=none):jdW X pins H' b:=by
 refine⟨hn,Nat.ne_of_gt (Xr I.lt hb),I.nofs hb,.inr (XW I.sz hb),fun x c e z=>?_,fun p hp z=>?_⟩
 ·obtain⟨v,q⟩:=I.cell x c e;exact absurd (Xr q.lt (by rw[z]; exact hb)) (XV _)
 ·exact absurd (Xr (Xl (I.pin p hp).1) (by rw[z]; exact hb)) (XV _)
structure Turn (P:Program) (w:World) (K:W.Frag) (tg:Expr) (J:It) (fp:List Addr) (it:Addr) (tn:Nat->Heap->Prop) (ok:Cx->Prop:=fun X=>X.calm=true):Prop where
 mem:it∈fp
 obj:∀ i h,tn i h->∀ b∈fp,∃ o,h.get? b=some o/\∀ v,o.data≠.cell v
 keep:∀ i h h',tn i h->(∀ b∈fp,∀ o,h.get? b=some o->h'.get? b=some o)->tn i h'
 item:∀ (X:Cx),X.prog=P->X.w=w->X.K=K->ok X->∀ (i:Nat) (pins:List (Addr×Obj)) (s:Shared) (σ:St) (H:Hp) (E:Value->Shared->Prop),Inv X pins σ H s->(∀ b∈fp,jdW X pins H b)->tn i s.heap->J.go i H ->
  wpAny (model P w) X.A (pyNext (.ref it)) (fun r s1=>∃ u,r=some u /\
   wpAny (model P w) X.A (letOwnedTupleGo tg (.ref it) u) (fun _ s2=>∃ x H',Inv X pins σ H' s2/\RelV x u/\J.yld i H x H'/\tn (i+1) s2.heap/\∀ b∈fp,H' b=none) E s1) E s
 done:∀ (X:Cx),X.prog=P->X.w=w->X.K=K->ok X->∀ (i:Nat) (pins:List (Addr×Obj)) (s:Shared) (σ:St) (H:Hp) (E:Value->Shared->Prop),Inv X pins σ H s->(∀ b∈fp,jdW X pins H b)->tn i s.heap->J.stop i H ->
  wpAny (model P w) X.A (pyNext (.ref it)) (fun r s1=>r=none/\Inv X pins σ H s1) E s
 self:∀ (A:Around) (i:Nat) (s:Shared) (Q:Value->Shared->Prop) (E:Value->Shared->Prop),tn i s.heap->Q (.ref it) s->wpAny (model P w) A (pyIter (.ref it)) Q E s
abbrev TI:=St->Hp->(It->Hp->Prop)->Prop
def PIE (X:Cx) (pins:List (Addr×Obj)) (σ:St) (tg:Expr) (R:It->Hp->Prop) (itv:Value) (s2:Shared):Prop:=
 ∃ (it:Addr) (fp:List Addr) (tn:Nat->Heap->Prop) (J:It) (H':Hp),itv=.ref it/\Inv X pins σ H' s2/\Turn X.prog X.w X.K tg J fp it tn/\tn 0 s2.heap/\(∀ b∈fp,jdW X pins H' b)/\R J H'
def PI (X:Cx) (tg iter:Expr) (wi:TI):Prop:=
 ∀ (pins:List (Addr×Obj)) (s:Shared) (σ:St) (H:Hp) (R:It->Hp->Prop),Inv X pins σ H s->wi σ H R ->
  wpAny (model X.prog X.w) X.A (eval iter X.env) (fun v s1=>wpAny (model X.prog X.w) X.A (pyIter v) (PIE X pins σ tg R) X.xe s1) X.xe s
def Zl {n:String}{vs:Array Value}{Q:Unit->Shared->Prop} (ho:s.heap.get? it=some o) (hc:o.cls=.type n) (hd:o.data=.fields vs)
    (hn:["enumerate","zip","dict_itemiterator","dict_reverseitemiterator","odict_iterator","itertools.zip_longest","itertools.pairwise"].contains n=false) (hQ:Q () s):wpAny M A (letOwnedTupleGo tg (.ref it) u) Q E s:=by
  unfold letOwnedTupleGo;cases tg <;> first
    | exact Xb hQ
    | (cases u <;> first
        | exact Xb hQ
        | (refine Xa (wpAny_load ho ?_)
           rw[hc,hd];show wpAny M A (if (["enumerate","zip","dict_itemiterator","dict_reverseitemiterator","odict_iterator","itertools.zip_longest","itertools.pairwise"].contains n&&vs[0]?==some (rawInt _))=true then _ else _) Q E s;rw[if_neg (by intro h; rw[hn,Bool.false_and] at h; cases h)];exact Xb hQ))
def Itl (K:W.Frag) (a:Addr):It:=
 ⟨fun i H=>∃ xs x,SqL K H a xs/\xs[i]?=some x,fun i H x H'=>H'=H/\∀ xs,SqL K H a xs->xs[i]?=some x,fun i H=>∃ xs,SqL K H a xs/\xs.length<=i⟩
def Itt (K:W.Frag) (a:Addr):It:=
 ⟨fun i H=>∃ xs x,SqT K H a xs/\xs[i]?=some x,fun i H x H'=>H'=H/\∀ xs,SqT K H a xs->xs[i]?=some x,fun i H=>∃ xs,SqT K H a xs/\xs.length<=i⟩
def Itr (lo:Int) (n:Nat):It:=⟨fun i _=>i<n,fun i H x H'=>H'=H/\x=.int (lo+i),fun i _=>n<=i⟩
def jdX (a it:Addr):Turn P w K tg (Itl K a) [it] it (fun i h=>h.IsListIter it a i) where
 mem:=by simp
 obj:=fun i h st b hb=>by
  have e:b=it:=by simpa using hb
  subst e;obtain⟨o,e,c,d⟩:=st;exact⟨o,e,fun v z=>by rw[d] at z; cases z⟩
 keep:=fun i h h' st k=>st.at fun o e=>k it (by simp) o e
 item:=by
  intro X hP hw hK hc i pins s σ H E I hf st hg;subst hP hw hK;obtain⟨xs,x,hq,hx⟩:=hg;obtain⟨its,rv,p,hz⟩:=I.list hq;obtain⟨u,hu,ru⟩:=rv.get hx;obtain⟨f0,f1,f2,f3,f4,f5⟩:=hf it (by simp);refine wpAny_pyNext_list_item st p.isList (x:=u) (by simpa using hu) fun h' st' sb=>?_;have I1:Inv X pins σ H { s with heap:=h' }:=I.turned (t':=s.toks) (fun b o hb e=>(sb.2 b hb).trans e) f0 f1 f3 f4 f5
  obtain⟨o,e,c,d⟩:=id st';exact⟨u,rfl,Zl (s:={ s with heap:=h' }) e c d (by decide) ⟨x,H,I1,ru,⟨rfl,fun ys hy=>by rw[I.list_inj hy hq]; exact hx⟩,st',fun b hb=>(hf b hb).1⟩⟩
 done:=by
  intro X hP hw hK hc i pins s σ H E I hf st hg;subst hP hw hK;obtain⟨xs,hq,hx⟩:=hg;obtain⟨its,rv,p,hz⟩:=I.list hq;obtain⟨f0,f1,f2,f3,f4,f5⟩:=hf it (by simp);have hl:=rv.length;exact wpAny_pyNext_list_end (I.ok.hd hc) st p.isList (by simp; omega) fun h' eb=>⟨rfl,I.turned (t':=s.toks) (fun b o hb e=>eb b o hb e) f0 f1 f3 f4 f5⟩
 self:=fun _ _ _ _ _ st h=>wpAny_pyIter_listiter st h
def jcR (a it:Addr):Turn P w K tg (Itt K a) [it] it (fun i h=>h.IsTupleIter it a i) where
 mem:=by simp
 obj:=fun i h st b hb=>by
  have e:b=it:=by simpa using hb
  subst e;obtain⟨o,e,c,d⟩:=st;exact⟨o,e,fun v z=>by rw[d] at z; cases z⟩
 keep:=fun i h h' st k=>st.at fun o e=>k it (by simp) o e
 item:=by
  intro X hP hw hK hc i pins s σ H E I hf st hg;subst hP hw hK;obtain⟨xs,x,hq,hx⟩:=hg;obtain⟨its,rv,p,hz⟩:=I.tuple hq;obtain⟨u,hu,ru⟩:=rv.get hx;obtain⟨f0,f1,f2,f3,f4,f5⟩:=hf it (by simp);refine wpAny_pyNext_tuple_item st (show s.heap.IsTuple a its.toArray from p) (x:=u) (by simpa using hu) fun h' st' sb=>?_;have I1:Inv X pins σ H { s with heap:=h' }:=I.turned (t':=s.toks) (fun b o hb e=>(sb.2 b hb).trans e) f0 f1 f3 f4 f5
  obtain⟨o,e,c,d⟩:=id st';exact⟨u,rfl,Zl (s:={ s with heap:=h' }) e c d (by decide) ⟨x,H,I1,ru,⟨rfl,fun ys hy=>by rw[I.tuple_inj hy hq]; exact hx⟩,st',fun b hb=>(hf b hb).1⟩⟩
 done:=by
  intro X hP hw hK hc i pins s σ H E I hf st hg;subst hP hw hK;obtain⟨xs,hq,hx⟩:=hg;obtain⟨its,rv,p,hz⟩:=I.tuple hq;obtain⟨f0,f1,f2,f3,f4,f5⟩:=hf it (by simp);have hl:=rv.length;exact wpAny_pyNext_tuple_end (I.ok.hd hc) st (show s.heap.IsTuple a its.toArray from p) (by simp; omega) fun h' eb=>⟨rfl,I.turned (t':=s.toks) (fun b o hb e=>eb b o hb e) f0 f1 f3 f4 f5⟩
 self:=fun _ _ _ _ _ st h=>wpAny_pyIter_tupleiter st h
def jcS (it:Addr) (lo:Int) (n:Nat):Turn P w K tg (Itr lo n) [it] it (fun i h=>IsRangeIter h it (lo+(i:Nat) * 1) ((n:Int)-(i:Nat)) 1) where
 mem:=by simp
 obj:=fun i h st b hb=>by
  have e:b=it:=by simpa using hb
  subst e;exact⟨_,st,fun v z=>by
   have z':Data.fields _=Data.cell v:=z;cases z'⟩
 keep:=fun i h h' st k=>k it (by simp) _ st
 item:=by
  intro X hP hw hK hc i pins s σ H E I hf st hg;subst hP hw hK;obtain⟨f0,f1,f2,f3,f4,f5⟩:=hf it (by simp);have W:=Walks.range (prog:=X.prog) (w:=X.w) (I.ok.hd hc) it lo 1 n;refine W.item i s _ _ hg st fun v h' tk hv st' kk=>?_;obtain⟨t,rfl⟩:=hv;have I1:Inv X pins σ H { s with heap:=h',toks:=tk }:=I.turned (fun b o hb e=>kk b o (by simpa using hb) e) f0 f1 f3 f4 f5
  refine⟨_,rfl,Zl (s:={ s with heap:=h',toks:=tk }) (n:="range_iterator") st' rfl rfl (by decide) ⟨.int (lo+i),H,I1,⟨t,?_⟩,⟨rfl,rfl⟩,st',fun b hb=>(hf b hb).1⟩⟩
  rw[Int.mul_one]
 done:=by
  intro X hP hw hK hc i pins s σ H E I hf st hg;subst hP hw hK;obtain⟨f0,f1,f2,f3,f4,f5⟩:=hf it (by simp);exact wpAny_pyNext_range_end (I.ok.hd hc) st (by have:n<=i:=hg; omega) fun h' eb=>⟨rfl,I.turned (t':=s.toks) (fun b o hb e=>eb b o hb e) f0 f1 f3 f4 f5⟩
 self:=fun _ _ _ _ _ st h=>wpAny_pyIter_rangeiter st h
section
variable {X:Cx} 
def jgh (K:W.Frag) (tl:TE):TI:=fun σ H R=>tl σ H fun x H1=>∃ a,x=.ref a/\(∃ xs,SqL K H1 a xs)/\R (Itl K a) H1
def jlJ (K:W.Frag) (tl:TE):TI:=fun σ H R=>tl σ H fun x H1=>∃ a,x=.ref a/\(∃ xs,SqT K H1 a xs)/\R (Itt K a) H1
def qw {l:Expr}{tl:TE} (hl:PE X l tl):PI X tg l (jgh X.K tl):=by
 intro pins s σ H R I h;refine thn (hl pins s σ H _ I h) fun v s1 ⟨x,H1,I1,r1,q1⟩=>?_;obtain⟨a,e,⟨xs,hq⟩,q⟩:=q1;subst e;cases r1;obtain⟨its,rv,p,hz⟩:=I1.list hq;refine wpAny_pyIter_list p.isList ?_;refine⟨s1.heap.objs.size,[s1.heap.objs.size],_,_,H1,rfl,I1.kept (t':=s1.toks) fun b o e=>Xd _ e,jdX a _,⟨_,Xi _ rfl,rfl,rfl⟩,fun b hb=>?_,q⟩;have e:b=s1.heap.objs.size:=by simpa using hb
 subst e;exact I1.fpOk (Xe _) (I1.hok.fresh (Xe _))
def jbW {l:Expr}{tl:TE} (hl:PE X l tl):PI X tg l (jlJ X.K tl):=by
 intro pins s σ H R I h;refine thn (hl pins s σ H _ I h) fun v s1 ⟨x,H1,I1,r1,q1⟩=>?_;obtain⟨a,e,⟨xs,hq⟩,q⟩:=q1;subst e;cases r1;obtain⟨its,rv,p,hz⟩:=I1.tuple hq;refine wpAny_pyIter_tuple (show s1.heap.IsTuple a its.toArray from p) ?_;refine⟨s1.heap.objs.size,[s1.heap.objs.size],_,_,H1,rfl,I1.kept (t':=s1.toks) fun b o e=>Xd _ e,jcR a _,⟨_,Xi _ rfl,rfl,rfl⟩,fun b hb=>?_,q⟩;have e:b=s1.heap.objs.size:=by simpa using hb
 subst e;exact I1.fpOk (Xe _) (I1.hok.fresh (Xe _))
def jbX {σ:St}{H:Hp}{R:It->Hp->Prop}{lo hi:Int}{t u v:Tok}{tk:Nat} (I:Inv X pins σ H s) (h1:-(2 ^ 62)<=lo) (h2:lo<2 ^ 62) (h3:-(2 ^ 62)<=hi) (h4:hi<2 ^ 62)
  (q:R (Itr lo (hi-lo).toNat) H):wpAny (model X.prog X.w) X.A (pyIter (.ref s.heap.objs.size)) (PIE X pins σ tg R) E { s with heap:=s.heap.push { cls:=.type "range",data:=.fields #[.int lo t,.int hi u,.int 1 v] },toks:=tk }:=by
 refine wpAny_pyIter_range (IsRange.new ..) (small_one h1 h2 h3 h4) ?_;have I1:Inv X pins σ H { s with heap:=s.heap.push { cls:=.type "range",data:=.fields #[.int lo t,.int hi u,.int 1 v] },toks:=tk }:=I.kept fun b o e=>Xd _ e
 refine⟨(s.heap.push { cls:=.type "range",data:=.fields #[.int lo t,.int hi u,.int 1 v] }).objs.size,[(s.heap.push { cls:=.type "range",data:=.fields #[.int lo t,.int hi u,.int 1 v] }).objs.size],_,_,H,rfl,
  I1.kept (t':=tk) fun b o e=>Xd _ e,jcS _ lo (hi-lo).toNat,?_,fun b hb=>?_,q⟩
 ·have e1:lo+((0:Nat):Int) * 1=lo:=by simp
  have e2:(((hi-lo).toNat:Nat):Int)-((0:Nat):Int)=Builtin.Range.rangeSize lo hi 1:=by rw[rangeSize_one]; split <;> omega
  show IsRangeIter _ _ (lo+((0:Nat):Int) * 1) ((((hi-lo).toNat:Nat):Int)-((0:Nat):Int)) 1;rw[e1,e2];exact Xi _ rfl
 ·have e:b=(s.heap.push { cls:=.type "range",data:=.fields #[.int lo t,.int hi u,.int 1 v] }).objs.size:=by simpa using hb
  subst e;exact I1.fpOk (Xe _) (I1.hok.fresh (Xe _))
def WQ (ta:TA):TI:=fun σ H R=>ta σ H fun vs H1=>∃ j:Int,vs=[.int j]/\-(2 ^ 62)<=j/\j<2 ^ 62/\R (Itr 0 j.toNat) H1
def jaA (ta:TA):TI:=fun σ H R=>ta σ H fun vs H1=>∃ i j:Int,vs=[.int i,.int j]/\(-(2 ^ 62)<=i/\i<2 ^ 62/\-(2 ^ 62)<=j/\j<2 ^ 62)/\R (Itr i (j-i).toNat) H1
def kz {a:Expr}{ta:TA}{p:Pos} (hg:Gl X "range") (hm:X.mg "range"=none) (ha:PA X [a] ta) (hs:starEach [a] X.env=[(false,eval a X.env)]:=by rfl):PI X tg (.Call (.Name "range" p) [a] [] pos) (WQ ta):=by
 intro pins s σ H R I h;refine Call_ (Jr I hg hm boot_range (XA (thn (ha pos pins s σ H _ I h) fun us s1 ⟨vs,H1,I1,r1,q1⟩=>?_) hs rfl));obtain⟨j,e,q1,q2,q⟩:=q1;subst e;cases r1 with
 | cons r rr=>
  cases rr;obtain⟨t,rfl⟩:=r;exact call_range_1 (jbX I1 (by omega) (by omega) q1 q2 (by simpa using q))
def Zm {a b:Expr}{ta:TA}{p:Pos} (hg:Gl X "range") (hm:X.mg "range"=none) (ha:PA X [a,b] ta) (hs:starEach [a,b] X.env=[(false,eval a X.env),(false,eval b X.env)]:=by rfl) (hs2:starEach [b] X.env=[(false,eval b X.env)]:=by rfl) :
  PI X tg (.Call (.Name "range" p) [a,b] [] pos) (jaA ta):=by
 intro pins s σ H R I h;refine Call_ (Jr I hg hm boot_range (XA (thn (ha pos pins s σ H _ I h) fun us s1 ⟨vs,H1,I1,r1,q1⟩=>?_) (by rw[hs,hs2]) (by rw[hs2]; rfl)));obtain⟨i,j,e,⟨q1,q2,q3,q4⟩,q⟩:=q1;subst e;cases r1 with
 | cons r rr=>
  cases rr with
  | cons r' rr=>
   cases rr;obtain⟨t,rfl⟩:=r;obtain⟨t',rfl⟩:=r';exact call_range_2 (jbX I1 q1 q2 q3 q4 q)
def jhK (wi:TI) (g:TG) (tb:TS):TS:=fun D σ H=>wi σ H fun J H1=>∃ W:Nat->Nat->St->Hp->Prop,(∃ m,W 0 m σ H1)/\∀ i m σ H,W i m σ H ->
 (J.stop i H/\D.nx σ H) \/ (J.go i H/\∃ N:St->Hp->Prop,(∀ σ' H',N σ' H'->∃ m',m'<m/\W (i+1) m' σ' H')/\∀ x H',J.yld i H x H'->g x σ H' fun σ2 H2=>tb { D with nx:=N,ct:=N,bk:=D.nx } σ2 H2)
def Zn (fp:List Addr) (h:Heap):List (Addr×Obj):=fp.filterMap fun b=>(h.get? b).map fun o=>(b,o)
def J7 {b:Addr} (hb:b∈fp) (e:h.get? b=some o):(b,o)∈Zn fp h:=List.mem_filterMap.mpr ⟨b,hb,by rw[e]; rfl⟩
def jdY {p:Addr×Obj} (hp:p∈Zn fp h):p.1∈fp/\h.get? p.1=some p.2:=by
 obtain⟨b,hb,e⟩:=List.mem_filterMap.mp hp;cases q:h.get? b with
 | none=>rw[q] at e; cases e
 | some o=>
  rw[q] at e;have e':(b,o)=p:=Option.some.inj e;subst e';exact⟨hb,q⟩
def Inv.pinned {σ:St}{H:Hp} (I:Inv X pins σ H s) (hf:∀ b∈fp,jdW X pins H b) (ho:∀ b∈fp,∃ o,s.heap.get? b=some o/\∀ v,o.data≠.cell v):Inv X (pins++Zn fp s.heap) σ H s:=
 I.pins_of fun p hp=>(List.mem_append.mp hp).elim (fun z=>I.pin p (XM _ z)) fun z=>by
  obtain⟨hb,e⟩:=jdY z;obtain⟨f0,f1,f2,_⟩:=hf p.1 hb;obtain⟨o,e',d⟩:=ho p.1 hb;rw[e] at e'; cases e';exact⟨e,f0,f1,f2,d⟩
def Inv.unpinned {pl:List (Addr×Obj)}{σ:St}{H:Hp} (I:Inv X (pins++pl) σ H s):Inv X pins σ H s:=I.pins_of fun p hp=>I.pin p (XM _ (List.mem_append_left _ hp))
def xu {wi:TI}{g:TG}{tb:TS} (hp:PassesOwn (model X.prog X.w) X.A X.env X.xe) (hc:X.calm=true) (hi:PI X tg iter wi) (hg:PG X tg g) (hb:PSs X body tb)
  (hs:∀ x,foldedSetIterable iter X.env x=pure x:=by intro _; rfl):PS X (.For tg iter body [] pos) (jhK wi g tb):=by
 intro pins s σ H D I h;refine wpAny_For (thn (hi pins s σ H _ I h) fun v s1 h1=>thn h1 fun itv s2 h2=>?_) hs;obtain⟨it,fp,tn,J,H2,e,I2,T,st2,f2,W,⟨m0,w0⟩,turn⟩:=h2;subst e;have stat:∀ {H':Hp},(∀ b∈fp,H' b=none)->∀ b∈fp,jdW X pins H' b:=fun hn b hb=>⟨hn b hb,(f2 b hb).2⟩;refine codeAny_forLoop_any (fun n s'=>∃ i σ' H',Inv X pins σ' H' s'/\tn i s'.heap/\(∀ b∈fp,H' b=none)/\W i n σ' H') ?_ m0 ⟨0,σ,H2,I2,st2,fun b hb=>(f2 b hb).1,w0⟩;rintro n s3 ⟨i,σ3,H3,I3,st3,fr3,w3⟩;rcases turn i n σ3 H3 w3 with⟨stop,qn⟩ | ⟨go,N,hN,step⟩
 ·refine wpAny_passesOwn hp (thn (T.done X rfl rfl rfl hc i pins s3 σ3 H3 X.xe I3 (stat fr3) st3 stop) fun r s4 ⟨hr,I4⟩=>?_);subst hr;exact wpAny_execs_nil ⟨σ3,H3,I4,qn⟩
 ·refine wpAny_passesOwn hp (thn (T.item X rfl rfl rfl hc i pins s3 σ3 H3 X.xe I3 (stat fr3) st3 go) fun r s4 ⟨u,hr,h4⟩=>?_);subst hr;refine wpAny_passesOwn hp (thn h4 fun _ s5 ⟨x,H5,I5,r5,y5,st5,fr5⟩=>?_);have I5':=I5.pinned (stat fr5) (T.obj _ _ st5);refine wpAny_passesOwn hp (thn (hg _ s5 σ3 H5 x u _ I5' r5 (step x H5 y5)) fun _ s6 ⟨σ6,H6,I6,q6⟩=>?_);refine wpAny_passesOwn hp (thn (hb _ s6 σ6 H6 _ I6 q6) fun f s7 q7=>?_);have again:∀ {σ7:St}{H7:Hp},Inv X (pins++Zn fp s5.heap) σ7 H7 s7->N σ7 H7->∃ m,m<n/\∃ i σ' H',Inv X pins σ' H' s7/\tn i s7.heap/\(∀ b∈fp,H' b=none)/\W i m σ' H':=fun {σ7 H7} I7 n7=>by
   obtain⟨m',hm,w7⟩:=hN σ7 H7 n7;refine⟨m',hm,i+1,σ7,H7,I7.unpinned,T.keep _ _ _ st5 fun b hb o e=>(I7.pin (b,o) (XM _ (XM _ (J7 hb e)))).1,fun b hb=>?_,w7⟩;obtain⟨o,e,d⟩:=T.obj _ _ st5 b hb;exact(I7.pin (b,o) (XM _ (XM _ (J7 hb e)))).2.1
  cases f with
  | next=>obtain⟨σ7,H7,I7,n7⟩:=q7; exact again I7 n7
  | cont=>obtain⟨σ7,H7,I7,n7⟩:=q7; exact again I7 n7
  | brk=>obtain⟨σ7,H7,I7,q7⟩:=q7; exact ⟨σ7,H7,I7.unpinned,q7⟩
  | ret v=>obtain⟨x7,σ7,H7,I7,r7,q7⟩:=q7; exact ⟨x7,σ7,H7,I7.unpinned,r7,q7⟩
end
abbrev R2:=V->V->Hp->VK->Prop
def OpR (X:Cx) (f:Value->Value->Sem Value) (r:R2):Prop:=
 ∀ (pins:List (Addr×Obj)) (s:Shared) (σ:St) (H:Hp) (x y:V) (v u:Value) (Q:VK),Inv X pins σ H s->RelV x v->RelV y u->r x y H Q ->
  wpAny (model X.prog X.w) X.A (f v u) (EP X pins σ Q) X.xe s
def UnR (X:Cx) (f:Value->Sem Value) (r:V->Hp->VK->Prop):Prop:=
 ∀ (pins:List (Addr×Obj)) (s:Shared) (σ:St) (H:Hp) (x:V) (v:Value) (Q:VK),Inv X pins σ H s->RelV x v->r x H Q ->
  wpAny (model X.prog X.w) X.A (f v) (EP X pins σ Q) X.xe s
def GD (X:Cx) (f:Value) (r:List V->Hp->VK->Prop):Prop:=
 ∀ (pins:List (Addr×Obj)) (s:Shared) (σ:St) (H:Hp) (xs:List V) (us:List Value) (Q:VK),Inv X pins σ H s->Vals xs us->r xs H Q ->
  wpAny (model X.prog X.w) X.A (call f us) (EP X pins σ Q) X.xe s
def tOp (r:R2) (ta tb:TE):TE:=fun σ H Q=>ta σ H fun x H1=>tb σ H1 fun y H2=>r x y H2 Q
def tUn (r:V->Hp->VK->Prop) (ta:TE):TE:=fun σ H Q=>ta σ H fun x H1=>r x H1 Q
def rI (C:Int->Int->Prop) (g:Int->Int->V):R2:=fun x y H Q=>∃ i j,x=.int i/\y=.int j/\C i j/\Q (g i j) H
def rI0 (g:Int->Int->V):R2:=fun x y H Q=>∃ i j,x=.int i/\y=.int j/\Q (g i j) H
def rU (g:Int->V):V->Hp->VK->Prop:=fun x H Q=>∃ i,x=.int i/\Q (g i) H
section
variable {X:Cx}{a b c:Expr}{ta tb tc:TE} 
def jlK (ha:PE X a ta) (hb:PE X b tb) {σ:St}{H:Hp}{R:V->V->Hp->Prop} (I:Inv X pins σ H s)
  (h:ta σ H fun x H1=>tb σ H1 fun y H2=>R x y H2) {f:Value->Value->Sem Value}
  (hf:∀ v u s2 x y H2,Inv X pins σ H2 s2->RelV x v->RelV y u->R x y H2->wpAny (model X.prog X.w) X.A (f v u) Q X.xe s2) :
  wpAny (model X.prog X.w) X.A (eval a X.env) (fun v s₁=>wpAny (model X.prog X.w) X.A (eval b X.env) (fun u s₂=>wpAny (model X.prog X.w) X.A (f v u) Q X.xe s₂) X.xe s₁) X.xe s:=by
 refine thn (ha pins s σ H _ I h) fun v s1 ⟨x,H1,I1,r1,q1⟩=>?_;refine thn (hb pins s1 σ H1 _ I1 q1) fun u s2 ⟨y,H2,I2,r2,q2⟩=>?_;exact hf v u s2 x y H2 I2 r1 r2 q2
def jI {op:Operator}{r:R2} (ho:OpR X (binaryOp op) r) (ha:PE X a ta) (hb:PE X b tb):PE X (.BinOp a op b pos) (tOp r ta tb):=by
 intro pins s σ H Q I h;exact wpAny_BinOp (jlK ha hb I h fun v u s2 x y H2 I2 rx ry q=>ho pins s2 σ H2 x y v u Q I2 rx ry q)
def Zo {op:UnaryOp}{r:V->Hp->VK->Prop} (ho:UnR X (unaryOp op) r) (ha:PE X a ta):PE X (.UnaryOp op a pos) (tUn r ta):=by
 intro pins s σ H Q I h;exact UnaryOp_ (thn (ha pins s σ H _ I h) fun v s1 ⟨x,H1,I1,r1,q1⟩=>ho pins s1 σ H1 x v Q I1 r1 q1)
def opI {f:Value->Value->Sem Value}{C:Int->Int->Prop}{g:Int->Int->Int}
  (rule:∀ (i j:Int) (t u:Tok) (s:Shared) (Q:Value->Shared->Prop) (E:Value->Shared->Prop),C i j->Q (.int (g i j) s.toks) { s with toks:=s.toks+1 }->wpAny (model X.prog X.w) X.A (f (.int i t) (.int j u)) Q E s) :
  OpR X f (rI C fun i j=>.int (g i j)):=by
 intro pins s σ H x y v u Q I rx ry h;obtain⟨i,j,rfl,rfl,hc,q⟩:=h;obtain⟨t,rfl⟩:=rx;obtain⟨t',rfl⟩:=ry;exact rule i j t t' s _ _ hc ⟨.int (g i j),H,I.tok _,⟨_,rfl⟩,q⟩
def jlx {f:Value->Value->Sem Value}{g:Int->Int->Int}
  (rule:∀ (i j:Int) (t u:Tok) (s:Shared) (Q:Value->Shared->Prop) (E:Value->Shared->Prop),Q (.int (g i j) s.toks) { s with toks:=s.toks+1 }->wpAny (model X.prog X.w) X.A (f (.int i t) (.int j u)) Q E s) :
  OpR X f (rI0 fun i j=>.int (g i j)):=by
 intro pins s σ H x y v u Q I rx ry h;obtain⟨i,j,rfl,rfl,q⟩:=h;obtain⟨t,rfl⟩:=rx;obtain⟨t',rfl⟩:=ry;exact rule i j t t' s _ _ ⟨.int (g i j),H,I.tok _,⟨_,rfl⟩,q⟩
def jly {f:Value->Value->Sem Value} 
  (rule:∀ (i j:Int) (t u:Tok) (s:Shared) (Q:Value->Shared->Prop) (E:Value->Shared->Prop),Q (.bool (g i j)) s->wpAny (model X.prog X.w) X.A (f (.int i t) (.int j u)) Q E s) :
  OpR X f (rI0 fun i j=>.bl (g i j)):=by
 intro pins s σ H x y v u Q I rx ry h;obtain⟨i,j,rfl,rfl,q⟩:=h;obtain⟨t,rfl⟩:=rx;obtain⟨t',rfl⟩:=ry;exact rule i j t t' s _ _ ⟨.bl (g i j),H,I,rfl,q⟩
def jjU (i j:Int):Prop:=0<=j/\j<=1000000/\i.natAbs<2 ^ 64
def CMul (i j:Int):Prop:=(-(2 ^ 64)<i/\i<2 ^ 64) \/ (-(2 ^ 64)<j/\j<2 ^ 64)
def CMul.ok {i:Int} (h:CMul i j):IntMulOk i j:=by
 rcases h with⟨h1,h2⟩ | ⟨h1,h2⟩
 ·exact .of_left (intBits_le_64 h1 h2)
 ·exact .of_right (intBits_le_64 h1 h2)
def jcT (k:Nat):(0:Int)<=2 ^ k:=by
 rw[two_pow_cast];exact Int.natCast_nonneg _
def yu:OpR X (binaryOp .Add) (rI0 fun i j=>.int (i+j)):=jlx fun _ _ _ _ _ _ _ q=>add_int q
def UM:OpR X (binaryOp .Sub) (rI0 fun i j=>.int (i-j)):=jlx fun _ _ _ _ _ _ _ q=>sub_int q
def GE:OpR X (binaryOp .Mult) (rI CMul fun i j=>.int (i * j)):=opI fun _ _ _ _ _ _ _ hc q=>mul_int q hc.ok
def Jk:OpR X (binaryOp .Mod) (rI (fun _ j=>0<j) fun i j=>.int (i % j)):=opI fun i j _ _ _ _ _ hc q=>by
 have h1:(0:Int)<j:=hc;exact mod_int' (by omega) (by rw[Int.fmod_eq_emod_of_nonneg i (by omega)]; exact q)
def jka:OpR X (binaryOp .Pow) (rI jjU fun i j=>.int (i ^ j.toNat)):=opI fun _ _ _ _ _ _ _ hc q=>pow_int_small hc.1 hc.2.1 hc.2.2 q
def QU:OpR X (binaryOp .LShift) (rI jjU fun i j=>.int (i * 2 ^ j.toNat)):=opI fun _ _ _ _ _ _ _ hc q=>lshift_int_small hc.1 hc.2.1 hc.2.2 q
def jhL:OpR X (binaryOp .RShift) (rI (fun _ j=>0<=j) fun i j=>.int (i / 2 ^ j.toNat)):=opI fun i j _ _ _ _ _ hc q=>
 rshift_int hc (by rw[Int.fdiv_eq_ediv_of_nonneg i (jcT _)]; exact q)
def jdZ:OpR X (binaryOp .BitAnd) (rI0 fun i j=>.int (Builtin.bitAnd i j)):=jlx fun _ _ _ _ _ _ _ q=>and_int q
def Vd:OpR X (binaryOp .BitOr) (rI0 fun i j=>.int (Builtin.bitOr i j)):=jlx fun _ _ _ _ _ _ _ q=>or_int q
def unI {f:Value->Sem Value}{g:Int->Int}
  (rule:∀ (i:Int) (t:Tok) (s:Shared) (Q:Value->Shared->Prop) (E:Value->Shared->Prop),Q (.int (g i) s.toks) { s with toks:=s.toks+1 }->wpAny (model X.prog X.w) X.A (f (.int i t)) Q E s) :
  UnR X f (rU fun i=>.int (g i)):=by
 intro pins s σ H x v Q I rx h;obtain⟨i,rfl,q⟩:=h;obtain⟨t,rfl⟩:=rx;exact rule i t s _ _ ⟨.int (g i),H,I.tok _,⟨_,rfl⟩,q⟩
def Ve:UnR X (unaryOp .USub) (rU fun i=>.int (-i)):=unI fun _ _ _ _ _ q=>neg_int q
def jkb:UnR X (unaryOp .Invert) (rU fun i=>.int (Builtin.bitNot i)):=unI fun _ _ _ _ _ q=>invert_int q
end
def jmD:V->V->Bool
 | .non,.non=>true | .non,.int _=>true | .int _,.non=>true | .non,.bl _=>true | .bl _,.non=>true | .non,.str _=>true | .str _,.non=>true
 | .int _,.int _=>true | .bl _,.bl _=>true | .str _,.str _=>true | .byt _,.byt _=>true
 | .int _,.str _=>true | .str _,.int _=>true | .bl _,.str _=>true | .str _,.bl _=>true
 | _,_=>false
def rEq:R2:=fun x y H Q=>jmD x y=true/\Q (.bl (decide (x=y))) H
def rNe:R2:=fun x y H Q=>jmD x y=true/\Q (.bl (!decide (x=y))) H
def WR {i:Int}:decide (V.int i=V.int j)=(i==j):=by
 rw[XL];simp
def jhM {i j:Bool}:decide (V.bl i=V.bl j)=(i==j):=by
 rw[XL];simp
def jd0 {i j:Str}:decide (V.str i=V.str j)=(i==j):=by
 rw[XL];simp
def jd1 {i j:Array UInt8}:decide (V.byt i=V.byt j)=(i.toList==j.toList):=by
 rw[XL];cases i;cases j;simp
section
variable {X:Cx}{a b c:Expr}{ta tb tc:TE} 
def qh {σ:St}{H:Hp}{Q:VK}{k k':Bool} (I:Inv X pins σ H s) (q:Q (.bl k) H) (e:k=k'):EP X pins σ Q (.bool k') s:=by
 subst e;exact⟨.bl k,H,I,rfl,q⟩
def GF:OpR X (compareOp .Eq) rEq:=by
 intro pins s σ H x y v u Q I rx ry h;obtain⟨hs,q⟩:=h;cases x with
 | non=>
  cases rx;cases y with
  | non=>cases ry; exact PySem.EqNone.eq_none_none (qh I q (by simp))
  | bl j=>cases ry; exact PySem.EqNone.eq_none_bool (qh I q (by simp))
  | int j=>obtain⟨t',rfl⟩:=ry; exact PySem.EqNone.eq_none_int (qh I q (by simp))
  | str j=>obtain⟨t',rfl⟩:=ry; exact PySem.EqNone.eq_none_str (qh I q (by simp))
  | _=>exact absurd (show false=true from hs) Xh
 | bl i=>
  cases rx;cases y with
  | non=>cases ry; exact PySem.EqNone.eq_bool_none (qh I q (by simp))
  | bl j=>cases ry; exact eq_bool (qh I q jhM)
  | str j=>obtain⟨t',rfl⟩:=ry; exact PySem.EqMixed.eq_bool_str (qh I q (by simp))
  | _=>exact absurd (show false=true from hs) Xh
 | int i=>
  obtain⟨t,rfl⟩:=rx;cases y with
  | non=>cases ry; exact PySem.EqNone.eq_int_none (qh I q (by simp))
  | int j=>obtain⟨t',rfl⟩:=ry; exact eq_int (qh I q WR)
  | str j=>obtain⟨t',rfl⟩:=ry; exact PySem.EqMixed.eq_int_str (qh I q (by simp))
  | _=>exact absurd (show false=true from hs) Xh
 | str i=>
  obtain⟨t,rfl⟩:=rx;cases y with
  | non=>cases ry; exact PySem.EqNone.eq_str_none (qh I q (by simp))
  | bl j=>cases ry; exact PySem.EqMixed.eq_str_bool (qh I q (by simp))
  | int j=>obtain⟨t',rfl⟩:=ry; exact PySem.EqMixed.eq_str_int (qh I q (by simp))
  | str j=>obtain⟨t',rfl⟩:=ry; exact eq_str (qh I q jd0)
  | _=>exact absurd (show false=true from hs) Xh
 | byt i=>
  obtain⟨t,rfl⟩:=rx;cases y with
  | byt j=>obtain⟨t',rfl⟩:=ry; exact W.eq_bytes (qh I q jd1)
  | _=>exact absurd (show false=true from hs) Xh
 | _=>cases y <;> exact absurd (show false=true from hs) Xh
def Qm:OpR X (compareOp .NotEq) rNe:=by
 intro pins s σ H x y v u Q I rx ry h;obtain⟨hs,q⟩:=h;cases x with
 | non=>
  cases rx;cases y with
  | non=>cases ry; exact PySem.EqNone.ne_none_none (qh I q (by simp))
  | bl j=>cases ry; exact PySem.EqNone.ne_none_bool (qh I q (by simp))
  | int j=>obtain⟨t',rfl⟩:=ry; exact PySem.EqNone.ne_none_int (qh I q (by simp))
  | str j=>obtain⟨t',rfl⟩:=ry; exact PySem.EqNone.ne_none_str (qh I q (by simp))
  | _=>exact absurd (show false=true from hs) Xh
 | bl i=>
  cases rx;cases y with
  | non=>cases ry; exact PySem.EqNone.ne_bool_none (qh I q (by simp))
  | bl j=>cases ry; exact ne_bool (qh I q (congrArg not jhM))
  | str j=>obtain⟨t',rfl⟩:=ry; exact PySem.EqMixed.ne_bool_str (qh I q (by simp))
  | _=>exact absurd (show false=true from hs) Xh
 | int i=>
  obtain⟨t,rfl⟩:=rx;cases y with
  | non=>cases ry; exact PySem.EqNone.ne_int_none (qh I q (by simp))
  | int j=>obtain⟨t',rfl⟩:=ry; exact ne_int (qh I q (congrArg not WR))
  | str j=>obtain⟨t',rfl⟩:=ry; exact PySem.EqMixed.ne_int_str (qh I q (by simp))
  | _=>exact absurd (show false=true from hs) Xh
 | str i=>
  obtain⟨t,rfl⟩:=rx;cases y with
  | non=>cases ry; exact PySem.EqNone.ne_str_none (qh I q (by simp))
  | bl j=>cases ry; exact PySem.EqMixed.ne_str_bool (qh I q (by simp))
  | int j=>obtain⟨t',rfl⟩:=ry; exact PySem.EqMixed.ne_str_int (qh I q (by simp))
  | str j=>obtain⟨t',rfl⟩:=ry; exact ne_str (qh I q (congrArg not jd0))
  | _=>exact absurd (show false=true from hs) Xh
 | byt i=>
  obtain⟨t,rfl⟩:=rx;cases y with
  | byt j=>obtain⟨t',rfl⟩:=ry; exact W.ne_bytes (qh I q (congrArg not jd1))
  | _=>exact absurd (show false=true from hs) Xh
 | _=>cases y <;> exact absurd (show false=true from hs) Xh
def V_:OpR X (compareOp .Lt) (rI0 fun i j=>.bl (decide (i<j))):=jly fun _ _ _ _ _ _ _ q=>lt_int q
def UY:OpR X (compareOp .LtE) (rI0 fun i j=>.bl (decide (i<=j))):=jly fun _ _ _ _ _ _ _ q=>le_int q
def Wa:OpR X (compareOp .Gt) (rI0 fun i j=>.bl (decide (j<i))):=jly fun _ _ _ _ _ _ _ q=>gt_int q
def jlL:OpR X (compareOp .GtE) (rI0 fun i j=>.bl (decide (j<=i))):=jly fun _ _ _ _ _ _ _ q=>ge_int q
def jd2:OpR X (compareOp .In) (fun x y H Q=>∃ i j,x=.str i/\y=.str j/\Q (.bl (!(Builtin.Str.occurrences j i 0 j.length 1).isEmpty)) H):=by
 intro pins s σ H x y v u Q I rx ry h;obtain⟨i,j,rfl,rfl,q⟩:=h;obtain⟨t,rfl⟩:=rx;obtain⟨t',rfl⟩:=ry;exact in_str (qh I q rfl)
def jT (b:Expr) {op:CmpOp} (h:op≠.In:=by decide) (h2:op≠.NotIn:=by decide):behindInMarks op b=false:=by
 have e1:(op==CmpOp.In)=false:=by cases op <;> first | rfl | exact absurd rfl h
 have e2:(op==CmpOp.NotIn)=false:=by cases op <;> first | rfl | exact absurd rfl h2
 cases b <;> simp[behindInMarks,e1,e2]
def Js {op:CmpOp}{r:R2} (ho:OpR X (compareOp op) r) (ha:PE X a ta) (hb:PE X b tb) (hm:behindInMarks op b=false):PE X (.Compare a [op] [b] pos) (tOp r ta tb):=by
 intro pins s σ H Q I h;exact wpAny_Compare1 (jlK ha hb I h fun v u s2 x y H2 I2 rx ry q=>ho pins s2 σ H2 x y v u Q I2 rx ry q) hm
def jd3 (t:TE):TT:=fun σ H Q=>t σ H fun x H'=>∃ k,x=.bl k/\Q k H'
def jM {op:CmpOp}{r:R2} (ho:OpR X (compareOp op) r) (ha:PE X a ta) (hb:PE X b tb) (hm:behindInMarks op b=false):PT X (.Compare a [op] [b] pos) (jd3 (tOp r ta tb)):=by
 intro pins s σ H Q I h;refine wpAny_isTrue_Compare1 (thn (ha pins s σ H _ I h) fun v s1 ⟨x,H1,I1,r1,q1⟩=>thn (hb pins s1 σ H1 _ I1 q1) fun u s2 ⟨y,H2,I2,r2,q2⟩=>
  thn (ho pins s2 σ H2 x y v u _ I2 r1 r2 q2) fun c s3 ⟨z,H3,I3,r3,k,e,q3⟩=>?_) hm
 subst e;cases r3;exact XN ⟨H3,I3,q3⟩
def Vf (r r':R2) (ta tb tc:TE):TE:=fun σ H Q=>ta σ H fun x H1=>tb σ H1 fun y H2=>r x y H2 fun z H3=>∃ k,z=.bl k /\
 (if k=true then tc σ H3 fun w' H4=>r' y w' H4 Q else Q (.bl false) H3)
def J8 {op op':CmpOp}{r r':R2} (ho:OpR X (compareOp op) r) (ho':OpR X (compareOp op') r') (ha:PE X a ta) (hb:PE X b tb) (hc:PE X c tc)
  (hm:lastMarks [op,op'] [b,c]=false:=by with_unfolding_all rfl):PT X (.Compare a [op,op'] [b,c] pos) (jd3 (Vf r r' ta tb tc)):=by
 intro pins s σ H Q I h;refine isTrue_chain (thn (ha pins s σ H _ I h) fun v s1 ⟨x,H1,I1,r1,q1⟩=>test_link (thn (hb pins s1 σ H1 _ I1 q1) fun u s2 ⟨y,H2,I2,r2,q2⟩=>
  thn (ho pins s2 σ H2 x y v u _ I2 r1 r2 q2) fun d s3 ⟨z,H3,I3,r3,k,e,q3⟩=>?_)) hm
 subst e;cases r3;refine XN ?_;cases k with
 | false=>
  obtain⟨k',e',q'⟩:=q3;cases e';exact ite_ff ⟨H3,I3,q'⟩
 | true=>
  refine ite_tt (test_last (thn (hc pins s3 σ H3 _ I3 q3) fun w' s4 ⟨z',H4,I4,r4,q4⟩=>thn (ho' pins s4 σ H4 y z' u w' _ I4 r2 r4 q4) fun d' s5 ⟨z2,H5,I5,r5,k2,e2,q5⟩=>?_));subst e2;cases r5;exact XN ⟨H5,I5,q5⟩
def Wp:(sizeLine:Nat)<2 ^ 63:=by rw[Xy]; decide
def qy:OpR X (binaryOp .Add) (fun x y H Q=>∃ i j,x=.str i/\y=.str j/\i.length+j.length<=sizeLine/\Q (.str (i++j)) H):=by
 intro pins s σ H x y v u Q I rx ry h;obtain⟨i,j,rfl,rfl,hz,q⟩:=h;obtain⟨t,rfl⟩:=rx;obtain⟨t',rfl⟩:=ry;exact add_str (fun t' tk=>⟨.str (i++j),H,I.tok _,⟨_,rfl⟩,q⟩) hz
def Ug {x:V} (r:Vals [x] us):∃ u,us=[u]/\RelV x u:=by
 cases r with
 | cons r1 r2=>cases r2; exact ⟨_,rfl,r1⟩
def jbY:GD X (.builtin "abs") (fun xs H Q=>∃ i,xs=[.int i]/\Q (.int (if i<0 then -i else i)) H):=by
 intro pins s σ H xs us Q I r h;obtain⟨i,rfl,q⟩:=h;obtain⟨u,rfl,t,rfl⟩:=Ug r;exact call_abs_int fun u tk=>⟨.int (if i<0 then -i else i),H,I.tok _,⟨_,rfl⟩,q⟩
def jX:GD X (.type "str") (fun xs H Q=>∃ i,xs=[.int i]/\i.natAbs.log2<1920/\Q (.str (toString i)) H):=by
 intro pins s σ H xs us Q I r h;obtain⟨i,rfl,hz,q⟩:=h;obtain⟨u,rfl,t,rfl⟩:=Ug r;exact PySem.P.str_of_int hz ⟨.str _,H,I.tok _,⟨_,rfl⟩,q⟩
end
structure ObjM (h:Heap) (x dx C:Addr) (mA:Str->Option Value):Prop where
 obj:h.get? x=some (W.instObj C dx)
 ns:h.Ns1 dx mA
 ne:dx≠x
def jd4 (n:h.Ns1 dx mA):∃ od,h.get? dx=some od/\∀ name,W.lookIn name od=some (mA name):=by
 obtain⟨o,es,ep,ho,hd,hk,_,hm⟩:=n;refine⟨o,ho,fun name=>?_⟩;have e:=hm name;unfold nsFind findBy at e;rw[<- Array.find?_toList] at e;unfold W.lookIn;rw[hd];dsimp only;split
 ·rename_i y q
  rw[q] at e;exact congrArg some e
 ·rename_i q
  rw[q] at e;have a:es.toList.any (·.refKey)=false:=by
   rw[List.any_eq_false];intro y hy;obtain⟨z,t,hkey⟩:=hk y (Array.mem_toList_iff.mp hy);simp[DictEntry.refKey,hkey]
  have a':¬ es.toList.any (·.refKey)=true:=by rw[a]; exact Xh
  rw[if_neg a'];exact congrArg some e
def ObjM.look {x:Addr} (I:ObjM h x dx C mA):∃ od,W.InstAt h x (W.instObj C dx) C (some od)/\∀ name,W.lookIn name od=some (mA name):=
 let ⟨od,ho,hl⟩:=jd4 I.ns
 ⟨od,⟨I.obj,rfl,rfl,ho⟩,hl⟩
section
variable {x f:Addr}{v:Value}
def jiv {expr:Bool} (X:K.In s.heap) (I:ObjM s.heap x dx C mA) (hg:W.plainGet K C name=true) (hh:W.hasDictIn K C=true)
  (ha:W.findIn K (.ref C) name=some none) (hv:mA name=some v) (hv':W.handedIn v=true) (h:Q v { s with toks:=s.toks+1 }) :
  wpAny (model prog w) A (getAttr (.ref x) name expr) Q E s:=by
 obtain⟨od,J,hl⟩:=I.look;exact W.get_value X J (W.plainGet_of hg).1 (W.findObj_own hh ha rfl (by rw[hl,hv])) hv' h
def jgi {Q:Value×List Value->Shared->Prop} (X:K.In s.heap) (I:ObjM s.heap x dx C mA) (hg:W.plainGet K C name=true)
  (hf:W.findIn K (.ref C) name=some (some (.ref f))) (ht:W.isFn K (.ref f)=true) (hv:mA name=none) (h:Q (.ref f,[.ref x]) s) :
  wpAny (model prog w) A (getMethod (.ref x) name pl) Q E s:=by
 obtain⟨od,J,hl⟩:=I.look;exact W.method_fn X J (W.plainGet_of hg).1 (W.plainGet_of hg).2 hf (beq_iff_eq.mp ht) (by show (W.lookIn name od).map (·.isSome)=some false; rw[hl,hv]; rfl) h
def jiw {ns:List Str}{Q:Unit->Shared->Prop} (X:K.In s.heap) (I:ObjM s.heap x dx C mA)
  (hs:W.findIn K (.ref C) "__setattr__"=some (some (.builtin "object.__setattr__"))) (hp:W.plainOver K C=true) (ht:W.takerIn K C name=some none) (hh:W.hasDictIn K C=true)
  (hw:PySem.Within mA ns) (hsz:ns.length<=sizeLine)
  (h:∀ h',ObjM h' x dx C (fun y=>if y=name then some v else mA y)->Heap.SameBut dx s.heap h'->Q () { s with heap:=h',toks:=s.toks+2 }) :
  wpAny (model prog w) A (setAttr (.ref x) name v) Q E s:=by
 obtain⟨od,J,hl⟩:=I.look;refine W.set_plain X J hs (W.osa_open (s:={ s with toks:=s.toks+1 }) (r:=none) X J hp ht fun b=>?_)
 obtain⟨cd,hc,hd'⟩:=W.any_some hh;have hx:s.heap.get? x=some ⟨.ref C,some dx,.plain,#[]⟩:=I.obj;refine Xa (Xb (Xa (Xa (wpAny_loadPart hx (Xa (W.Looks.here (s:={ s with toks:=s.toks+1 }) (W.looks_clsIn X hc) ?_))))))
 rw[hd'];refine Xb (a:=some dx) (Xa (Xb (Xa ?_)));refine wpAny_nsSet1 (s:={ s with toks:=s.toks+1 }) I.ns fun h' hn2 hs2=>?_
 obtain⟨oD,esD,epD,hoD,hdD,hcD⟩:=hn2.count (PySem.Within.cons name v hw);refine Xa (wpAny_lookBehind hoD (by rw[hdD]; exact pastItsLine_dict (XW hcD (by rw[XY]; omega))) ?_);exact Xb (h _ ⟨(hs2.2 _ (Ne.symm I.ne)).trans I.obj,hn2,I.ne⟩ hs2)
def jgj {R:Result->Shared->Prop} (X:K.In s.heap) (hm:W.makesIn K C=true)
  (hi:W.findIn K (.ref C) "__init__"=some (some (.ref f))) (hf:W.typeIn K (.ref f)=some (.type "function"))
  (h:codeAny (model prog w) (A.under (.builtin "type.__call__" ⟨.ref C::vs,kw⟩)) (.call (.ref f) ⟨.ref (s.heap.objs.size+1)::vs,kw⟩) (W.InitBack (s.heap.objs.size+1) R)
   { s with heap:=(s.heap.push W.emptyDict).push (W.instObj C s.heap.objs.size) }) :
  codeAny (model prog w) A (.call (.ref C) ⟨vs,kw⟩) R s:=by
 obtain⟨hh,g,d,t,os⟩:=s;exact W.make_core (W.makes_of X hm) (W.looks_findIn X hi) (fun self=>W.bind_fn X self hf) (.inl rfl) h
end
def Qn (f:Str) (v:V):List (Str×V)->List (Str×V)
 | []=>[(f,v)]
 | (g,x)::r=>if g=f then (g,v)::r else (g,x)::Qn f v r
def jj (f g:Str) (v:V):∀ fs:List (Str×V),(Qn f v fs).lookup g=if g=f then some v else fs.lookup g
 | []=>by
  show List.lookup g [(f,v)]=_;by_cases h:g=f
  ·have hb:(g==f)=true:=beq_iff_eq.mpr h;simp only[List.lookup,hb,if_pos h]
  ·have hb:(g==f)=false:=beq_eq_false_iff_ne.mpr h;simp only[List.lookup,hb,if_neg h]
 | (k,x)::r=>by
  have ih:=jj f g v r;rw[show Qn f v ((k,x)::r)=(if k=f then (k,v)::r else (k,x)::Qn f v r) from rfl];by_cases hk:k=f
  ·rw[if_pos hk];by_cases h:g=k
   ·have hb:(g==k)=true:=beq_iff_eq.mpr h;simp only[List.lookup,hb,if_pos (h.trans hk)]
   ·have hb:(g==k)=false:=beq_eq_false_iff_ne.mpr h;simp only[List.lookup,hb,if_neg (fun e:g=f=>h (e.trans hk.symm))]
  ·rw[if_neg hk];by_cases h:g=k
   ·have hb:(g==k)=true:=beq_iff_eq.mpr h;simp only[List.lookup,hb,if_neg (fun e:g=f=>hk (h.symm.trans e))]
   ·have hb:(g==k)=false:=beq_eq_false_iff_ne.mpr h;simp only[List.lookup,hb];exact ih
def Vg (f:Str) (v:V):∀ fs:List (Str×V),f∈(Qn f v fs).map (·.1)/\∀ g,g∈fs.map (·.1)->g∈(Qn f v fs).map (·.1)
 | []=>⟨by simp[Qn],fun g h=>by simp at h⟩
 | (k,x)::r=>by
  obtain⟨i1,i2⟩:=Vg f v r;rw[show Qn f v ((k,x)::r)=(if k=f then (k,v)::r else (k,x)::Qn f v r) from rfl];by_cases hk:k=f
  ·rw[if_pos hk];subst hk;exact⟨by simp,fun g h=>by simpa using h⟩
  ·rw[if_neg hk];refine⟨?_,fun g h=>?_⟩
   ·rw[Xp];exact Xn _ i1
   ·rw[Xp] at h ⊢;rcases List.mem_cons.mp h with e | e
    ·exact List.mem_cons.mpr (.inl e)
    ·exact Xn _ (i2 g e)
def QA (f:Str) (v:V):∀ fs:List (Str×V),(Qn f v fs).length<=fs.length+1
 | []=>by simp[Qn]
 | (k,x)::r=>by
  have ih:=QA f v r;rw[show Qn f v ((k,x)::r)=(if k=f then (k,v)::r else (k,x)::Qn f v r) from rfl];by_cases hk:k=f
  ·rw[if_pos hk,XY,XY]; omega
  ·rw[if_neg hk,XY,XY]; omega
def RelO.some_of {v:V}{o:Option Value} (r:RelO (some v) o):∃ u,o=some u/\RelV v u:=by
 cases o with
 | none=>exact (show False from r).elim
 | some u=>exact ⟨u,rfl,r⟩
def RelO.none_of {o:Option Value} (r:RelO none o):o=none:=by
 cases o with
 | none=>rfl
 | some u=>exact (show False from r).elim
def jd5 {v:V} (r:RelV v u):W.handedIn u=true:=by
 cases v with
 | non=>cases (show u=Value.none from r); rfl
 | bl b=>cases (show u=Value.bool b from r); rfl
 | int i=>obtain⟨t,e⟩:=(show ∃ t,u=Value.int i t from r); cases e; rfl
 | str x=>obtain⟨t,e⟩:=(show ∃ t,u=Value.str x t from r); cases e; rfl
 | byt b=>obtain⟨t,e⟩:=(show ∃ t,u=Value.bytes b t from r); cases e; rfl
 | flt b=>obtain⟨t,e⟩:=(show ∃ t,u=Value.float b t from r); cases e; rfl
 | ref a=>cases (show u=Value.ref a from r); rfl
 | ty n=>cases (show u=Value.type n from r); rfl
section
variable {H H':Hp}{fs fs':List (Str×V)}
def jaB (hok:HOk P w H h) (e:H a=some (.ins C dx fs)):∃ mA,ObjM h a dx C mA/\(∀ f,RelO (fs.lookup f) (mA f))/\PySem.Within mA (fs.map (·.1))/\fs.length<=1000/\H dx=some (.own a):=by
 obtain⟨d,z,ne,ob,mA,n,r,q⟩:=(show ObjOk P w H h a (.ins C dx fs) from hok a _ e);exact⟨mA,⟨ob,n,ne⟩,r,q,z,d⟩
end
structure Cls (K:W.Frag) (C:Addr):Prop where
 pg:W.plainGet K C Str.empty=true
 hd:W.hasDictIn K C=true
 po:W.plainOver K C=true
 sa:W.findIn K (.ref C) "__setattr__"=some (some (.builtin "object.__setattr__"))
def Cls.get (c:Cls K C) (f:Str):W.plainGet K C f=true:=c.pg
def NoAttr (K:W.Frag) (C:Addr) (f:Str):Prop:=W.findIn K (.ref C) f=some none
def NoAttr.taker {f:Str} (n:NoAttr K C f):W.takerIn K C f=some none:=by
 unfold W.takerIn;rw[show W.findIn K (.ref C) f=some none from n];rfl
structure Meth (K:W.Frag) (C:Addr) (m:Str) (f:Addr):Prop where
 at_:W.findIn K (.ref C) m=some (some (.ref f))
 fn:W.isFn K (.ref f)=true
 kp:W.keepIn K (.ref f)=true
section
variable {X:Cx}{σ:St}{H:Hp}{fs:List (Str×V)}{f:Str}{v:V} 
def jcU {b:Bool} (I:Inv X pins σ H s) (e:H a=some (.ins C dx fs)) (c:Cls X.K C) (n:NoAttr X.K C f) (l:fs.lookup f=some v)
  (h:∀ u s',Inv X pins σ H s'->RelV v u->Q u s'):wpAny (model X.prog X.w) A (getAttr (.ref a) f b) Q E s:=by
 obtain⟨mA,O,r,_,_,_⟩:=jaB I.hok e;obtain⟨u,hu,ru⟩:=RelO.some_of (v:=v) (o:=mA f) (by rw[<- l]; exact r f);exact jiv I.kIn O (c.get f) c.hd n hu (jd5 ru) (h u _ (I.tok _) ru)
def Wq {m:Str}{g:Addr}{Q:Value×List Value->Shared->Prop} (I:Inv X pins σ H s) (e:H a=some (.ins C dx fs)) (c:Cls X.K C) (k:Meth X.K C m g) (l:fs.lookup m=none)
  (h:Q (.ref g,[.ref a]) s):wpAny (model X.prog X.w) A (getMethod (.ref a) m pl) Q E s:=by
 obtain⟨mA,O,r,_,_,_⟩:=jaB I.hok e;have hn:mA m=none:=RelO.none_of (by rw[<- l]; exact r m);exact jgi I.kIn O (c.get m) k.at_ k.fn hn h
def jcV {y:V}{Q:Unit->Shared->Prop} (I:Inv X pins σ H s) (e:H a=some (.ins C dx fs)) (c:Cls X.K C) (n:NoAttr X.K C f) (hl:fs.length<1000) (ry:RelV y u)
  (h:∀ s',Inv X pins σ (upd H a (.ins C dx (Qn f y fs))) s'->Q () s'):wpAny (model X.prog X.w) A (setAttr (.ref a) f u) Q E s:=by
 obtain⟨mA,O,r,wi,_,ho⟩:=jaB I.hok e;have hz:(fs.map (·.1)).length<=sizeLine:=by rw[Xj,Xy]; omega
 refine jiw I.kIn O c.sa c.po n.taker c.hd wi hz fun h' O' sb=>h _ ?_;have hd:∃ o,h'.get? dx=some o:=let ⟨o,_,_,e',_⟩:=O'.ns; ⟨o,e'⟩;refine I.write (x:=a) (e:=dx) (by rw[e]; exact True.intro) (.inr ho) (fun b q hb z=>(sb.2 b hb).trans z) hd ?_;refine⟨by rw[ka O.ne]; exact ho,?_,O.ne,O'.obj,_,O'.ns,fun g=>?_,fun g hg=>?_⟩
 ·have:=QA f y fs; omega
 ·show RelO ((Qn f y fs).lookup g) (if g=f then some u else mA g);rw[jj];by_cases q:g=f
  ·rw[if_pos q,if_pos q]; exact ry
  ·rw[if_neg q,if_neg q]; exact r g
 ·by_cases q:g=f
  ·rw[q]; exact (Vg f y fs).1
  ·refine(Vg f y fs).2 g (wi g fun z=>hg ?_);show (if g=f then some u else mA g)=none;rw[if_neg q]; exact z
def Inv.made (I:Inv X pins σ H s):Inv X pins σ (upd (upd H s.heap.objs.size (.own (s.heap.objs.size+1))) (s.heap.objs.size+1) (.ins C s.heap.objs.size []))
  { s with heap:=(s.heap.push W.emptyDict).push (W.instObj C s.heap.objs.size) }:=by
 have e1:(s.heap.push W.emptyDict).get? s.heap.objs.size=some W.emptyDict:=Xi s.heap rfl;have e2:((s.heap.push W.emptyDict).push (W.instObj C s.heap.objs.size)).get? (s.heap.objs.size+1)=some (W.instObj C s.heap.objs.size):=by
  have:=Xi (s.heap.push W.emptyDict) (o:=W.instObj C s.heap.objs.size) rfl
  rwa [Heap.size_push] at this
 have e3:(s.heap.push W.emptyDict).Ns s.heap.objs.size (fun _=>none):=⟨W.emptyDict,#[],_,e1,rfl,(fun e he=>absurd he (by simp)),fun _=>rfl⟩;have I1:=I.laid (a:=s.heap.objs.size) (o:=.own (s.heap.objs.size+1)) (h':=s.heap.push W.emptyDict) (t':=s.toks) (fun b u q=>Xd _ q) (Xe _) ⟨_,e1⟩;refine I1.laid (a:=s.heap.objs.size+1) (o:=.ins C s.heap.objs.size []) (t':=s.toks) (fun b u q=>Xd _ q) (Nat.le_of_eq (Heap.size_push _ _)) ?_;have ne:s.heap.objs.size≠s.heap.objs.size+1:=XQ (Nat.lt_succ_self _);refine⟨by rw[ka ne,j0],wc _,ne,e2,fun _=>none,(Heap.Ns1.of_empty e3).at fun o q=>Xd _ q,fun _=>True.intro,fun y hy=>absurd rfl hy⟩
def jix {f:Str} (hb:attributeBase e f env (eval e env)=eval e env)
  (h:wpAny (model prog w) A (eval e env) (fun o s₁=>wpAny (model prog w) A (getAttr o f true) Q E s₁) E s):wpAny (model prog w) A (eval (.Attribute e f pos) env) Q E s:=
 Attribute_any_ h (by rw[arm_eval_Attribute,hb])
end
def jd6 (K:W.Frag) (ta:TE) (f:Str):TE:=fun σ H Q=>ta σ H fun x H1=>∃ a C dx fs v,x=.ref a/\H1 a=some (.ins C dx fs)/\Cls K C/\NoAttr K C f/\fs.lookup f=some v/\Q v H1
def jjV (K:W.Frag) (ta tv:TE) (f:Str):TS:=fun D σ H=>tv σ H fun y H1=>ta σ H1 fun x H2=>∃ a C dx fs,x=.ref a/\H2 a=some (.ins C dx fs)/\Cls K C/\NoAttr K C f/\fs.length<1000 /\
 D.nx σ (upd H2 a (.ins C dx (Qn f y fs)))
section
variable {X:Cx}{o:Expr}{f:Str}{tpos:Pos}{ta tv:TE}
def jY (he:PE X e ta) (hb:attributeBase e f X.env (eval e X.env)=eval e X.env):PE X (.Attribute e f pos) (jd6 X.K ta f):=by
 intro pins s σ H Q I h;refine jix hb (thn (he pins s σ H _ I h) fun u s1 ⟨x,H1,I1,rx,a,C,dx,fs,v,ex,ea,c,n,l,q⟩=>?_);subst ex;obtain rfl:u=Value.ref a:=rx;exact jcU I1 ea c n l fun u' s2 I2 ru=>⟨v,H1,I2,ru,q⟩
def zl (ha:PE X o ta) (hv:PE X value tv) (hs:swapsWith value (some (.Attribute o f pos')) pos.line X.env=pure false):PS X (.Assign [.Attribute o f pos'] value pos) (jjV X.K ta tv f):=by
 intro pins s σ H D I h;refine plainObj_wpAny_Assign_Attribute (thn (hv pins s σ H _ I h) fun u s1 ⟨y,H1,I1,ry,q⟩=>thn (ha pins s1 σ H1 _ I1 q) fun ov s2 ⟨x,H2,I2,rx,a,C,dx,fs,ex,ea,c,n,l,q2⟩=>?_) hs;subst ex;obtain rfl:ov=Value.ref a:=rx;exact jcV I2 ea c n l ry fun s3 I3=>⟨σ,_,I3,q2⟩
end
structure Room (k:Nat) (A:Around):Prop where
 hd:A.handled=none
 dp:A.depth+3 * k+5<recursionLimit
 un:A.units+16 * k+200<cLine
 gd:A.guards=some []
def Room.mono {j k:Nat} (r:Room k A) (h:j<=k):Room j A:=⟨r.hd,by have:=r.dp; omega,by have:=r.un; omega,r.gd⟩
def Room.deeper {k:Nat} (r:Room (k+1) A) (env:Env):Room k (A.deeper env):=
 ⟨r.hd,by have:=r.dp; show A.depth+1+3 * k+5<_; omega,by have:=r.un; show A.units+3+16 * k+200<_; omega,r.gd⟩
def jcW:(A.under (.builtin "type.__call__" ⟨.ref C::us,kw⟩)).depth=A.depth+1:=by
 first | rfl | simp[Around.under,Code.weight,Code.isCreation,Code.isGuard,Code.isCaller,Code.frames,Code.isFrame,guardIds]
def jcX:(A.under (.builtin "type.__call__" ⟨.ref C::us,kw⟩)).units=A.units+1:=by
 first | rfl | simp[Around.under,Code.cUnits,Code.frames,Code.isFrame]
def jaC:(A.under (.builtin "type.__call__" ⟨.ref C::us,kw⟩)).guards=A.guards:=by
 cases A with
 | mk a b c d e=>cases d <;> rfl
def Room.make {k:Nat} (r:Room (k+1) A) (C:Addr) (us:List Value) (kw:List (Str×Value)):Room k (A.under (.builtin "type.__call__" ⟨.ref C::us,kw⟩)):=
 ⟨r.hd,by have:=r.dp; rw[jcW]; omega,by have:=r.un; rw[jcX]; omega,(jaC).trans r.gd⟩
def Room.depth {k:Nat} (r:Room k A):A.depth<recursionLimit:=by have:=r.dp; omega
def xh:TA:=fun _ H Q=>Q [] H
def jH (ta:TE) (tr:TA):TA:=fun σ H Q=>ta σ H fun x H1=>tr σ H1 fun xs H2=>Q (x::xs) H2
section
variable {X:Cx}{te:TE}{t:TA} 
def jd:PA X [] xh:=fun _ _ _ _ H Q I h=>Calls.spliced_nil ⟨[],H,I,.nil,h⟩
def jb (ha:PE X e te) (hr:PA X es t) (hs:starEach (e::es) X.env=(false,eval e X.env)::starEach es X.env:=by rfl):PA X (e::es) (jH te t):=by
 intro pos pins s σ H Q I h;rw[hs];show wpAny _ _ (spliced ((false,eval e X.env)::backTo pos (starEach es X.env))) _ _ s;refine Calls.spliced_cons (thn (ha pins s σ H _ I h) fun u s1 ⟨x,H1,I1,r1,q1⟩=>?_);exact thn (hr pos pins s1 σ H1 _ I1 q1) fun us s2 ⟨xs,H2,I2,r2,q2⟩=>⟨x::xs,H2,I2,.cons r1 r2,q2⟩
def jkc (t:TA):TE:=fun σ H Q=>t σ H fun xs H1=>xs.length<=sizeLine/\∀ p,H1 p=none->Q (.ref p) (upd H1 p (.tup xs))
def jmE (t:TA):TE:=fun σ H Q=>t σ H fun xs H1=>xs.length<=sizeLine/\∀ p,H1 p=none->Q (.ref p) (upd H1 p (.lst xs))
def Ge {x1} (h:PA X es t):PE X (.Tuple es x1 pos) (jkc t):=by
 intro pins s σ H Q I hq;refine wpAny_Tuple_spliced (thn (h pos pins s σ H _ I hq) fun us s1 ⟨xs,H1,I1,r,z,q⟩=>⟨by rw[<- r.length]; exact z,?_⟩);have hf:H1 s1.heap.objs.size=none:=I1.hok.fresh (Xe _);refine⟨.ref s1.heap.objs.size,upd H1 s1.heap.objs.size (.tup xs),I1.laid (t':=s1.toks) (fun b u e=>Xd _ e) (Xe _) ?_,rfl,q _ hf⟩;exact⟨z,us,r,TupO.new _ _⟩
def xB (h:PA X es t):PE X (.List es pos) (jmE t):=by
 intro pins s σ H Q I hq;refine wpAny_List_spliced (thn (h pos pins s σ H _ I hq) fun us s1 ⟨xs,H1,I1,r,z,q⟩=>⟨by rw[<- r.length]; exact z,?_⟩);have hf:H1 s1.heap.objs.size=none:=I1.hok.fresh (Xe _);refine⟨.ref s1.heap.objs.size,upd H1 s1.heap.objs.size (.lst xs),I1.laid (t':=s1.toks) (fun b u e=>Xd _ e) (Xe _) ?_,rfl,q _ hf⟩;exact⟨z,us,0,r,Xi _ rfl⟩
end
abbrev Sp:=List V->Hp->VK->XK->Prop
abbrev CXT:=List Env->Hp->Shared->XK->Value->Shared->Prop
structure Env0 (P:Program) (w:World) (K:W.Frag) (mg:Str->Option Value) (base:Heap) (A:Around) (outer:List Env) (s:Shared) (H:Hp):Prop where
 frames:A.frames=some outer
 mod:Mod K mg base
 bs:∀ b o,base.get? b=some o->s.heap.get? b=some o/\H b=none
 bsz:base.objs.size<=s.heap.objs.size
 funs:s.heap.FunFrames base outer
 frf:∀ b∈frs outer,H b=none
 hok:HOk P w H s.heap
 bare:AllBare s.gens
def CE (outer:List Env) (P:Program) (w:World) (H:Hp) (s:Shared) (Q:VK) (u:Value) (s':Shared):Prop:=
 ∃ v H',s'.os=s.os/\AllBare s'.gens/\Un (frs outer) [] H H' s.heap s'.heap/\HOk P w H' s'.heap/\RelV v u/\Q v H'
def CR (CX:CXT) (outer:List Env) (P:Program) (w:World) (H:Hp) (s:Shared) (Q:VK) (E:XK) (r:Result) (s':Shared):Prop:=
 match r with
 | .ok (.ret u)=>CE outer P w H s Q u s'
 | .ok _=>False
 | .error e=>CX outer H s E e s'
structure FnOk (P:Program) (w:World) (K:W.Frag) (mg:Str->Option Value) (base:Heap) (CX:CXT) (k:Nat) (f:Addr) (fd:FuncData) (ps:List Str) (sp:Sp):Prop where
 len:∀ vs H Q E,sp vs H Q E->vs.length=ps.length
 run:∀ (A:Around) (outer:List Env) (s:Shared) (H:Hp) (args:Args) (us:List Value) (vs:List V) (Q:VK) (E:XK),Room k A->Env0 P w K mg base A outer s H->BindsTo s fd args (ps.zip us)->Vals vs us->sp vs H Q E ->
  codeAny (model P w) A (.call (.ref f) args) (CR CX outer P w H s Q E) s
def FnOk.mono {CX:CXT}{j k:Nat}{f:Addr}{sp:Sp} (F:FnOk P w K mg base CX j f fd ps sp) (h:j<=k) :
  FnOk P w K mg base CX k f fd ps sp:=⟨F.len,fun A outer s H args us vs Q E hr=>F.run A outer s H args us vs Q E (hr.mono h)⟩
def Env0.make {H:Hp} (e:Env0 P w K mg base A outer s H) (C:Addr) (us:List Value) (kw:List (Str×Value)) :
  Env0 P w K mg base (A.under (.builtin "type.__call__" ⟨.ref C::us,kw⟩)) outer s H:=⟨by first | exact e.frames | (simpa [Around.under,Code.envs,Code.isFrame,pushEnvs] using e.frames),e.mod,e.bs,e.bsz,e.funs,e.frf,e.hok,e.bare⟩
section
variable {X:Cx}{σ:St}{H:Hp} 
def Inv.env0 (I:Inv X pins σ H s):Env0 X.prog X.w X.K X.mg X.base X.A X.stack s H:=
 ⟨I.ok.frames,I.ok.mod,I.bs,XW I.ok.bsz I.sz,I.stack,I.stkFree,I.hok,I.bare⟩
def Inv.after {Q:VK} (I:Inv X pins σ H s) (h:CE X.stack X.prog X.w H s Q u s'):EP X pins σ Q u s':=by
 obtain⟨v,H',os,bare,un,hok,r,q⟩:=h;obtain⟨hh,g,d,t,os'⟩:=s';obtain rfl:os'=s.os:=os;exact⟨v,H',I.call (h':=hh) (g':=g) (d':=d) (t':=t) (ch:=[]) un hok bare (fun b z=>absurd z (by simp)),r,q⟩
end
def QB (sp:Sp) (dvs:List V) (E:XK) (t:TA):TE:=fun σ H Q=>t σ H fun vs H1=>sp (vs++dvs) H1 Q E
def QC (C:Addr) (m:Str) (sp:Sp) (dvs:List V) (E:XK) (ta:TE) (t:TA):TE:=fun σ H Q=>ta σ H fun x H1=>∃ a dx fs,x=.ref a/\H1 a=some (.ins C dx fs)/\fs.lookup m=none /\
 t σ H1 fun vs H2=>sp (x::(vs++dvs)) H2 Q E
def Zp (C:Addr) (sp:Sp) (dvs:List V) (E:XK) (t:TA):TE:=fun σ H Q=>t σ H fun vs H1=>∀ x dx,H1 x=none->H1 dx=none->dx≠x ->
 sp (.ref x::(vs++dvs)) (upd (upd H1 dx (.own x)) x (.ins C dx [])) (fun v H2=>v=.non/\Q (.ref x) H2) E
def Binds (K:W.Frag) (fd:FuncData) (ps:List Str) (ds:List Value):Prop:=
 ∀ (s:Shared) (us:List Value),K.In s.heap->(us++ds).length=ps.length->BindsTo s fd ⟨us,[]⟩ (ps.zip (us++ds))
def Binds.all (h:∀ us:List Value,us.length=ps.length->bindArgs fd ⟨us,[]⟩=pure (ps.zip us)):Binds K fd ps []:=fun s us _ hl=>by
 rw[List.append_nil] at hl ⊢;exact .of_eq (h us hl)
def UN (CX:CXT) (X:Cx) (E:XK):Prop:=∀ (pins:List (Addr×Obj)) (σ:St) (H:Hp) (s:Shared) (e:Value) (s':Shared),Inv X pins σ H s->CX X.stack H s E e s'->X.xe e s'
section
variable {X:Cx}{CX:CXT}{k:Nat}{f:Addr}{sp:Sp}{dvs:List V}{ds:List Value}{E:XK}{m:Str}{p:Pos}{o:Expr}{ta:TE}{t:TA}
def jbZ {σ:St}{H:Hp}{Q:VK}{vs:List V} (F:FnOk X.prog X.w X.K X.mg X.base CX k f fd ps sp) (hr:Room k X.A) (hb:Binds X.K fd ps ds) (hd:Vals dvs ds) (hx:UN CX X E)
  (I:Inv X pins σ H s) (r:Vals vs us) (h:sp (vs++dvs) H Q E):wpAny (model X.prog X.w) X.A (call (.ref f) us) (EP X pins σ Q) X.xe s:=by
 have r2:Vals (vs++dvs) (us++ds):=r.append hd;have hl:(us++ds).length=ps.length:=by rw[<- r2.length]; exact F.len _ _ _ _ h
 refine wpAny_call (codeAny_mono (F.run X.A X.stack s H ⟨us,[]⟩ (us++ds) (vs++dvs) Q E hr I.env0 (hb s us I.kIn hl) r2 h) fun r s' hq=>?_);cases r with
 | error e=>exact hx pins σ H s e s' I hq
 | ok fl=>
  cases fl with
  | ret u=>exact I.after hq
  | next=>exact False.elim hq
  | brk=>exact False.elim hq
  | cont=>exact False.elim hq
def jiy (F:FnOk X.prog X.w X.K X.mg X.base CX k f fd ps sp) (hr:Room k X.A) (hg:Gl X x) (hm:X.mg x=some (.ref f)) (hk:W.keepIn X.K (.ref f)=true) (hb:Binds X.K fd ps ds) (hd:Vals dvs ds) (hx:UN CX X E)
  (ha:PA X (e::es) t) (hdb:(x==("__debug__":Str))=false:=by decide) (he:starEach (e::es) X.env=(false,eval e X.env)::starEach es X.env:=by rfl) (hpl:(backTo pos (starEach es X.env)).any (·.1)=false:=by rfl) :
  PE X (.Call (.Name x p) (e::es) [] pos) (QB sp dvs E t):=by
 intro pins s σ H Q I h;refine wpAny_Call_Name_kw (Ue I hg hm ?_ hdb);refine W.callWith_K (h₀:=X.base) I.ok.mod.kin hk (thn (ha pos pins s σ H _ I h) fun us s1 ⟨vs,H1,I1,r,q⟩=>⟨I1.kIn,?_⟩) he hpl;exact jbZ F hr hb hd hx I1 r q
def jiz (he:PE X o ta) (c:Cls X.K C) (hm:Meth X.K C m f) (F:FnOk X.prog X.w X.K X.mg X.base CX k f fd ps sp) (hr:Room k X.A) (hb:Binds X.K fd ps ds) (hd:Vals dvs ds) (hx:UN CX X E) (ha:PA X (e::es) t)
  (hst:starEach (e::es) X.env=(false,eval e X.env)::starEach es X.env:=by rfl) (hpl:(backTo pos (starEach es X.env)).any (·.1)=false:=by rfl)
  (ht:eval (.Call (.Attribute o m apos) (e::es) [] pos) X.env=(do
   let ov <- eval o X.env
   standAt apos.atName
   let (f,first) <- holding [ov] (getMethod ov m pl)
   callWith pos f first (backTo pos (starEach (e::es) X.env)) (backToKw pos (keywordEach [] X.env))):=by rfl) :
  PE X (.Call (.Attribute o m apos) (e::es) [] pos) (QC C m sp dvs E ta t):=by
 intro pins s σ H Q I h;refine W.methodCall_KW (pl:=pl) (thn (he pins s σ H _ I h) fun u s1 ⟨x,H1,I1,rx,a,dx,fs,ex,ea,l,q⟩=>?_) ht;subst ex;obtain rfl:u=Value.ref a:=rx;refine Wq I1 ea c hm l ?_;refine W.callWith_K (first:=[.ref a]) (h₀:=X.base) I.ok.mod.kin hm.kp (thn (ha pos pins s1 σ H1 _ I1 q) fun us s2 ⟨vs,H2,I2,r,q2⟩=>⟨I2.kIn,?_⟩) hst hpl;exact jbZ (us:=.ref a::us) (vs:=.ref a::vs) F hr hb hd hx I2 (.cons rfl r) q2
def jgk (he:PE X o ta) (c:Cls X.K C) (hm:Meth X.K C m f) (F:FnOk X.prog X.w X.K X.mg X.base CX k f fd ps sp) (hr:Room k X.A) (hb:Binds X.K fd ps ds) (hd:Vals dvs ds) (hx:UN CX X E)
  (ht:eval (.Call (.Attribute o m apos) [] [] pos) X.env=(do
   let ov <- eval o X.env
   standAt apos.atName
   let (f,first) <- holding [ov] (getMethod ov m pl)
   callWith pos f first (backTo pos (starEach [] X.env)) (backToKw pos (keywordEach [] X.env))):=by rfl) :
  PE X (.Call (.Attribute o m apos) [] [] pos) (QC C m sp dvs E ta xh):=by
 intro pins s σ H Q I h;refine W.methodCall_KW (pl:=pl) (thn (he pins s σ H _ I h) fun u s1 ⟨x,H1,I1,rx,a,dx,fs,ex,ea,l,q⟩=>?_) ht;subst ex;obtain rfl:u=Value.ref a:=rx;refine Wq I1 ea c hm l ?_;exact W.callWith_K0 (first:=[.ref a]) I1.kIn hm.kp (jbZ (us:=[.ref a]) (vs:=[.ref a]) F hr hb hd hx I1 (.cons rfl .nil) q)
structure Mk (K:W.Frag) (C f:Addr):Prop where
 makes:W.makesIn K C=true
 init:W.findIn K (.ref C) "__init__"=some (some (.ref f))
 fn:W.isFn K (.ref f)=true
 kp:W.keepIn K (.ref C)=true
def jb0 {σ:St}{H:Hp}{Q:VK}{vs:List V} (M:Mk X.K C f) (F:FnOk X.prog X.w X.K X.mg X.base CX k f fd ps sp) (hr:Room (k+1) X.A) (hb:Binds X.K fd ps ds) (hd:Vals dvs ds)
  (hx:UN CX X E) (I:Inv X pins σ H s) (r:Vals vs us)
  (h:∀ x dx,H x=none->H dx=none->dx≠x->sp (.ref x::(vs++dvs)) (upd (upd H dx (.own x)) x (.ins C dx [])) (fun v H2=>v=.non/\Q (.ref x) H2) E) :
  wpAny (model X.prog X.w) X.A (call (.ref C) us) (EP X pins σ Q) X.xe s:=by
 have hq:=h (s.heap.objs.size+1) s.heap.objs.size (I.hok.fresh (Nat.le_succ _)) (I.hok.fresh (Xe _)) (XQ (Nat.lt_succ_self _));have I2:=Inv.made (C:=C) I;have r2:Vals (V.ref (s.heap.objs.size+1)::(vs++dvs)) (Value.ref (s.heap.objs.size+1)::(us++ds)):=.cons rfl (r.append hd);have hl:(Value.ref (s.heap.objs.size+1)::us++ds).length=ps.length:=by
  have e:=r2.length;rw[F.len _ _ _ _ hq] at e;exact e.symm
 refine wpAny_call (jgj (f:=f) I.kIn M.makes M.init (beq_iff_eq.mp M.fn) (codeAny_mono (F.run _ X.stack _ _ ⟨Value.ref (s.heap.objs.size+1)::us,[]⟩ (Value.ref (s.heap.objs.size+1)::(us++ds)) _ _ E (hr.make C us [])
  (I2.env0.make C us []) (hb _ (Value.ref (s.heap.objs.size+1)::us) I2.kIn hl) r2 hq) fun r s' hq'=>?_))
 cases r with
 | error e=>exact hx pins σ _ _ e s' I2 hq'
 | ok fl=>
  cases fl with
  | ret u=>
   obtain⟨v,H',I3,rv,ev,q3⟩:=I2.after hq';subst ev;exact⟨rv,⟨V.ref (s.heap.objs.size+1),H',I3,rfl,q3⟩⟩
  | next=>exact False.elim hq'
  | brk=>exact False.elim hq'
  | cont=>exact False.elim hq'
def jiA (M:Mk X.K C f) (F:FnOk X.prog X.w X.K X.mg X.base CX k f fd ps sp) (hr:Room (k+1) X.A) (hg:Gl X x) (hm:X.mg x=some (.ref C)) (hb:Binds X.K fd ps ds) (hd:Vals dvs ds) (hx:UN CX X E)
  (ha:PA X (e::es) t) (hdb:(x==("__debug__":Str))=false:=by decide) (he:starEach (e::es) X.env=(false,eval e X.env)::starEach es X.env:=by rfl) (hpl:(backTo pos (starEach es X.env)).any (·.1)=false:=by rfl) :
  PE X (.Call (.Name x p) (e::es) [] pos) (Zp C sp dvs E t):=by
 intro pins s σ H Q I h;refine wpAny_Call_Name_kw (Ue I hg hm ?_ hdb);refine W.callWith_K (h₀:=X.base) I.ok.mod.kin M.kp (thn (ha pos pins s σ H _ I h) fun us s1 ⟨vs,H1,I1,r,q⟩=>⟨I1.kIn,?_⟩) he hpl;exact jb0 M F hr hb hd hx I1 r q
def jgl (M:Mk X.K C f) (F:FnOk X.prog X.w X.K X.mg X.base CX k f fd ps sp) (hr:Room (k+1) X.A) (hg:Gl X x) (hm:X.mg x=some (.ref C)) (hb:Binds X.K fd ps ds) (hd:Vals dvs ds) (hx:UN CX X E)
  (hdb:(x==("__debug__":Str))=false:=by decide):PE X (.Call (.Name x p) [] [] pos) (Zp C sp dvs E xh):=by
 intro pins s σ H Q I h;refine wpAny_Call_Name_kw (Ue I hg hm ?_ hdb);exact W.callWith_K0 I.kIn M.kp (jb0 (us:=[]) M F hr hb hd hx I .nil h)
end
structure FnScope (N P:List Str) (sc:Scope):Prop where
 kind:sc.kind=.function
 co:sc.isCoroutine=false
 gen:sc.isGenerator=false
 nd:N.Nodup
 pre:N.take P.length=P
 par:∀ x∈P,sc.names.lookup x=some .local \/ sc.names.lookup x=some .cell
 nofree:∀ y∈sc.names,y.2≠.free
def Zq:∀ {binds:List (Str×Value)}{m:Str->Option Value},(∀ v,(x,v)∉binds)->bindL kindOf binds m x=m x
 | [],_,_=>rfl
 | (n,v)::r,m,h=>by
  unfold bindL;rw[Zq fun w hw=>h w (Xn _ hw)];split
  ·have:x≠n:=by rintro rfl; exact h v Xo
   simp[this]
  ·rfl
def Zr:∀ {binds:List (Str×Value)}{m:Str->Option Value},(∀ v,(x,v)∉binds)->bindC kindOf binds m x=m x
 | [],_,_=>rfl
 | (n,v)::r,m,h=>by
  unfold bindC;rw[Zr fun w hw=>h w (Xn _ hw)];split
  ·rfl
  ·have:x≠n:=by rintro rfl; exact h v Xo
   simp[this]
def Zs {kindOf:Str->Option NameKind}{x:Str}{v:Value}:∀ {P:List Str}{vs:List Value}{i:Nat}{m:Str->Option Value},P.Nodup->P[i]?=some x->vs[i]?=some v->kindOf x=some .local ->
  bindL kindOf (P.zip vs) m x=some v
 | [],_,_,_,_,h,_,_=>by simp at h
 | _::_,[],_,_,_,_,h,_=>by simp at h
 | p::P,w::vs,0,m,nd,h1,h2,hk=>by
  simp at h1 h2; subst h1; subst h2;show bindL kindOf ((p,w)::P.zip vs) m p=_;unfold bindL;rw[Zq fun v hv=>(List.nodup_cons.mp nd).1 (List.of_mem_zip hv).1,if_pos hk];simp
 | p::P,w::vs,i+1,m,nd,h1,h2,hk=>by
  show bindL kindOf ((p,w)::P.zip vs) m x=_;unfold bindL;exact Zs (i:=i) (List.nodup_cons.mp nd).2 (by simpa using h1) (by simpa using h2) hk
def Zt {kindOf:Str->Option NameKind}{x:Str}{v:Value}:∀ {P:List Str}{vs:List Value}{i:Nat}{m:Str->Option Value},P.Nodup->P[i]?=some x->vs[i]?=some v->kindOf x≠some .local ->
  bindC kindOf (P.zip vs) m x=some v
 | [],_,_,_,_,h,_,_=>by simp at h
 | _::_,[],_,_,_,_,h,_=>by simp at h
 | p::P,w::vs,0,m,nd,h1,h2,hk=>by
  simp at h1 h2; subst h1; subst h2;show bindC kindOf ((p,w)::P.zip vs) m p=_;unfold bindC;rw[Zr fun v hv=>(List.nodup_cons.mp nd).1 (List.of_mem_zip hv).1,if_neg hk];simp
 | p::P,w::vs,i+1,m,nd,h1,h2,hk=>by
  show bindC kindOf ((p,w)::P.zip vs) m x=_;unfold bindC;exact Zt (i:=i) (List.nodup_cons.mp nd).2 (by simpa using h1) (by simpa using h2) hk
def GG (N:List Str) (vs:List V):St:=vs.map some++List.replicate (N.length-vs.length) none
def jd7 (CX:CXT) (P:Program) (w:World) (K:W.Frag) (mg:Str->Option Value) (base:Heap) (N:List Str) (qual:Str) (scope:Scope) (f:Addr) (cd:Value) (A:Around) (outer:List Env) (s:Shared) (H:Hp) (E:XK):Cx where
 prog:=P
 w:=w
 K:=K
 mg:=mg
 base:=base
 A:=A.deeper (envOfC qual scope s.heap.objs.size f cd)
 N:=N
 s₀:=s
 H₀:=H
 env:=envOfC qual scope s.heap.objs.size f cd
 outer:=outer
 stack:=envOfC qual scope s.heap.objs.size f cd::outer
 ex:=[]
 calm:=true
 fn:=fun _=>true
 pn:=[]
 xe:=fun e s'=>wpAny (model P w) (A.deeper (envOfC qual scope s.heap.objs.size f cd)) (leaving (envOfC qual scope s.heap.objs.size f cd) e) (fun _ s''=>CX outer H s E e s'') (fun e' s''=>CX outer H s E e' s'') s'
def jb1 (h:sc.names.lookup x=some .cell):∃ c,(cellsFrom n sc.names []).lookup x=some c:=by
 have q:=W.cellsFrom_some sc.names n [] (.inl h);exact Option.isSome_iff_exists.mp q
def jd8 {CX:CXT}{f:Addr}{cd:Value}{s1:Shared}{H:Hp}{E:XK}{vs:List V}
  (S:FnScope N ps scope) (hd:A.handled=none) (e0:Env0 P w K mg base A outer s H) (hl:vs.length=ps.length) (r:Vals vs us)
  (x:InCallC s s.heap.objs.size (bindL (envOfC qual scope s.heap.objs.size f cd).kindOf (ps.zip us) fun _=>none) (cellsFrom (s.heap.objs.size+1) scope.names []) (bindC (envOfC qual scope s.heap.objs.size f cd).kindOf (ps.zip us) fun _=>none) s1) :
  Inv (jd7 CX P w K mg base N qual scope f cd A outer s H E) [] (GG N vs) H s1:=by
 have hpl:ps.length<=N.length:=by have:=congrArg List.length S.pre; rw[List.length_take] at this; omega
 obtain⟨h1,tk,rfl,hk⟩:=x.done;have noA:∀ b:Addr,b∉(jd7 CX P w K mg base N qual scope f cd A outer s H E).ex:=fun b z=>absurd (show b∈([]:List Addr) from z) (by simp);refine⟨⟨e0.mod,S.kind,rfl,rfl,Xe _,fun y z c h1 h2=>?_,fun y hy=>?_,fun y c _ h=>?_,fun _=>hd,Around.frames_deeper e0.frames,.inr ⟨rfl,rfl⟩,fun b z=>absurd z (noA b),e0.bs,e0.bsz,fun b _ _=>noA b,fun b z=>absurd z (noA b),e0.funs,e0.frf⟩,
  rfl,e0.bare,Un.kept hk,⟨_,x.toInCall.ns,fun i y v h1 h2 h3=>?_⟩,fun y c h=>⟨_,x.cell y c h⟩,e0.hok.fresh (Xe _),fun y c h=>?_,fun p hp=>absurd (show p∈([]:List (Addr×Obj)) from hp) (by simp),e0.hok.kept hk,?_⟩
 ·exact name_of_addr x.apart (X6 h1) (X6 h2)
 ·have hy:scope.names.lookup y=some .cell \/ scope.names.lookup y=some .free:=hy;rcases hy with hy | hy
  ·exact jb1 hy
  ·exact absurd rfl (S.nofree _ (X6 hy))
 ·exact Nat.le_of_lt (x.above y c (X6 h))
 ·have hi:i<vs.length:=by
   unfold GG at h2;by_cases hi:i<vs.length
   ·exact hi
   ·rw[List.getElem?_append_right (by simpa using hi)] at h2;rw[List.getElem?_replicate] at h2;split at h2 <;> cases h2
  have ha:vs[i]?=some v:=by
   unfold GG at h2;rw[List.getElem?_append_left (by simpa using hi),Xx] at h2;cases e:vs[i]? with
   | none=>rw[e] at h2; cases h2
   | some a=>rw[e] at h2; cases h2; rfl
  obtain⟨u,hu,rv⟩:=r.get ha;have hp:ps[i]?=some y:=by
   rw[<- S.pre,List.getElem?_take_of_lt (by omega)]; exact h1
  have ndP:ps.Nodup:=by rw[<- S.pre]; exact S.nd.sublist (List.take_sublist _ _)
  refine⟨u,rv,?_⟩;rcases S.par y (List.mem_of_getElem? hp) with k | k
  ·exact .inl ⟨k,Zs ndP hp hu k⟩
  ·obtain⟨c,e⟩:=jb1 (n:=s.heap.objs.size+1) k;refine .inr ⟨.inl k,c,e,?_⟩;have q:=x.cell y c e;rw[Zt ndP hp hu (by show scope.names.lookup y≠_; rw[k]; decide)] at q;exact q
 ·exact e0.hok.fresh (Nat.le_of_lt (x.above y c (X6 h)))
 ·unfold GG;show _=N.length;rw[XE,Xj,List.length_replicate];omega
def jkd {CX:CXT}{k:Nat}{f:Addr}{params:Arguments}{dV kV ct:Value} 
  {sp:Sp} (lk:K.lookup f=some ⟨oc,od,.func (W.fnOf name qual params body scope dV kV doc pm an cdv ct),osl⟩) (hcd:W.codeIn K cdv qual=true) (S:FnScope N ps scope)
  (len:∀ vs H Q E,sp vs H Q E->vs.length=ps.length)
  (hbody:∀ (A:Around) (outer:List Env) (s:Shared) (H:Hp) (vs:List V) (Q:VK) (E:XK),Room k (A.deeper (envOfC qual scope s.heap.objs.size f cdv))->sp vs H Q E ->
   ∃ t,PSs (jd7 CX P w K mg base N qual scope f cdv A outer s H E) body t/\t { nx:=fun _ H'=>Q .non H',rt:=Q } (GG N vs) H) :
  FnOk P w K mg base CX (k+1) f (W.fnOf name qual params body scope dV kV doc pm an cdv ct) ps sp:=by
 refine⟨len,fun A outer s H args us vs Q E hr e0 hb r hsp=>?_⟩;have hl:=len _ _ _ _ hsp;have KX:K.In s.heap:=e0.mod.kin.keeps fun b o e=>(e0.bs b o e).1;have lim:s.heap.NoLimit:=e0.mod.nolimit.keeps fun b o e=>(e0.bs b o e).1;have hkind:∀ y∈ps.zip us,scope.names.lookup y.1=some .local \/ (scope.names.lookup y.1=some .cell/\((cellsFrom (s.heap.objs.size+1) scope.names []).lookup y.1).isSome=true):=fun⟨n,v⟩ hy=>by
  rcases S.par n (List.of_mem_zip hy).1 with q | q
  ·exact .inl q
  ·exact .inr ⟨q,W.cellsFrom_some _ _ _ (.inl q)⟩
 refine codeAny_call_function hr.depth (KX _ _ lk) rfl S.co S.gen rfl (W.codeRec_of KX hcd) (hb _ _ _ _ ?_);refine wpAny_newFunctionEnv_cells S.kind hkind fun env he s1 x=>?_;subst he;refine⟨lim.keeps x.toInCall.keep,codeAny_func ?_⟩;obtain⟨t,ht,hq⟩:=hbody A outer s H vs Q E (hr.deeper _) hsp;have I:Inv (jd7 CX P w K mg base N qual scope f cdv A outer s H E) [] (GG N vs) H s1:=jd8 S hr.hd e0 hl r x;refine wd (ht [] s1 (GG N vs) H _ I hq) (fun fl s' hs=>?_) fun e s' hs=>hs;have fin:∀ {σ':St}{H':Hp}{v:V}{u:Value},Inv (jd7 CX P w K mg base N qual scope f cdv A outer s H E) [] σ' H' s'->RelV v u->Q v H'->CE outer P w H s Q u s':=
  fun {σ' H' v u} J rv q=>⟨v,H',J.os,J.bare,J.base,J.hok,rv,q⟩
 cases fl with
 | ret u=>
  obtain⟨v,σ',H',J,rv,q⟩:=hs;exact fin J rv q
 | next=>
  obtain⟨σ',H',J,q⟩:=hs;exact fin (v:=V.non) (u:=Value.none) J rfl q
 | brk=>
  obtain⟨_,_,_,q⟩:=hs;exact False.elim q
 | cont=>
  obtain⟨_,_,_,q⟩:=hs;exact False.elim q
section
variable {X:Cx}{p:Pos}{t:TA}{id:String}{r:List V->Hp->VK->Prop}
def tCB (r:List V->Hp->VK->Prop) (t:TA):TE:=fun σ H Q=>t σ H fun vs H1=>r vs H1 Q
def jgm (hc:GD X (.builtin id) r) (hg:Gl X x) (hm:X.mg x=none) (hv:bootBuiltins x=some (.builtin id)) (ha:PA X (e::es) t) (hn:x≠"__name__":=by decide) (hdb:(x==("__debug__":Str))=false:=by decide)
  (he:starEach (e::es) X.env=(false,eval e X.env)::starEach es X.env:=by rfl) (hpl:(backTo pos (starEach es X.env)).any (·.1)=false:=by rfl):PE X (.Call (.Name x p) (e::es) [] pos) (tCB r t):=by
 intro pins s σ H Q I h;refine wpAny_Call_Name_kw (Jr I hg hm hv ?_ hn hdb);exact PyProof.Rows.callWith_builtin1 (thn (ha pos pins s σ H _ I h) fun us s1 ⟨vs,H1,I1,r1,q1⟩=>hc pins s1 σ H1 vs us Q I1 r1 q1) he hpl
def jd9 (hc:GD X (.type T) r) (hg:Gl X x) (hm:X.mg x=none) (hv:bootBuiltins x=some (.type T)) (ha:PA X (e::es) t) (hn:x≠"__name__":=by decide) (hdb:(x==("__debug__":Str))=false:=by decide)
  (he:starEach (e::es) X.env=(false,eval e X.env)::starEach es X.env:=by rfl) (hpl:(backTo pos (starEach es X.env)).any (·.1)=false:=by rfl):PE X (.Call (.Name x p) (e::es) [] pos) (tCB r t):=by
 intro pins s σ H Q I h;refine wpAny_Call_Name_kw (Jr I hg hm hv ?_ hn hdb);exact XA (thn (ha pos pins s σ H _ I h) fun us s1 ⟨vs,H1,I1,r1,q1⟩=>hc pins s1 σ H1 vs us Q I1 r1 q1) he hpl
end
end L2
variable {σ fr:L2.St}{xs ys:List L2.V}{H H' H1 F1 Fe He F':L2.Hp}{ks:List L2.Key}{X:L2.Cx}{v:L2.V}{ta tb te tc tv td t1 t2 t3 ty:L2.TE}{D:L2.Ends}{wi:L2.TI}{sp:L2.Sp}{J:L2.It}{tr:L2.TA}{G:L2.Hp->L2.Hp->Prop}{u':L2.TS}{kvs:List (List L2.Key×L2.V)}{L:List (PySem.Str×L2.Sp)}
namespace HT
open PySem PyProof.Rows
section
def cat_tup {t b:Addr}{ws:List Value} (ht:IsTup s.heap t vs.toArray) (hb:IsTup s.heap b ws.toArray) (hv:vs≠[])
  (h1:ws=[]->Q (.ref t) s) (h2:ws≠[]->Q (.ref s.heap.objs.size) { s with heap:=s.heap.push { cls:=.type "tuple",data:=.seq (vs++ws).toArray } })
  (hsz:vs.length+ws.length<=sizeLine):wpAny (model prog w) A (binaryOp .Add (.ref t) (.ref b)) Q E s:=by
 obtain⟨⟨cls,dd,data,sl⟩,ho,hc,n,hd⟩:=id ht;obtain⟨⟨cls2,dd2,data2,sl2⟩,ho2,hc2,n2,hd2⟩:=id hb;simp only at hc hd hc2 hd2;subst hc hd hc2 hd2;have e:vs.toArray++ws.toArray=(vs++ws).toArray:=by simp
 by_cases hw:ws=[]
 ·exact concat_meets ⟨_,ho,rfl⟩ ⟨_,ho2,rfl⟩ noFill_tuple_add seq_tuple_add PySem.F.slot_tuple_add PySem.F.entry_tuple_add (PySem.F.args_tuple_add_2 _ _)
   (tuple_addW1 t b vs.toArray ws.toArray n n2 dd dd2 sl sl2 (by simpa using hv) (by simp[hw])) ⟨ho,ho2,h1 hw⟩
 ·refine concat_meets ⟨_,ho,rfl⟩ ⟨_,ho2,rfl⟩ noFill_tuple_add seq_tuple_add PySem.F.slot_tuple_add PySem.F.entry_tuple_add (PySem.F.args_tuple_add_2 _ _)
   (tuple_addW2 t b vs.toArray ws.toArray n n2 dd dd2 sl sl2 (by simpa using hv) (by simpa using hw) (by rw[List.size_toArray,List.size_toArray]; exact hsz)) ⟨ho,ho2,?_⟩
  rw[e];exact h2 hw
def sIx (n d:Nat):Option Int->Nat
 | none=>d
 | some v=>if v<0 then (v+(n:Int)).toNat else min v.toNat n
def jke (n d:Nat) (hd:d<=n) (o:Option Int):sIx n d o<=n:=by
 cases o with
 | none=>exact hd
 | some v=>
  show (if v<0 then (v+(n:Int)).toNat else min v.toNat n)<=n;by_cases hv:v<0
  ·rw[if_pos hv]; omega
  ·rw[if_neg hv]; exact Nat.min_le_right _ _
def jd_ (v:Int) (n d:Nat):(if v<0 then max (v+(n:Int)) 0 else min v (n:Int))=((sIx n d (some v):Nat):Int):=by
 show (if v<0 then max (v+(n:Int)) 0 else min v (n:Int))=(((if v<0 then (v+(n:Int)).toNat else min v.toNat n):Nat):Int);by_cases hv:v<0
 ·simp only[if_pos hv]; omega
 ·simp only[if_neg hv]; omega
def jcY (lo hi:Option Int) (n:Nat):Builtin.Slice.sliceAdjust lo hi 1 (n:Int)=(((sIx n 0 lo:Nat):Int),((sIx n n hi:Nat):Int)):=by
 have h1:¬ ((1:Int)<0):=by omega
 unfold Builtin.Slice.sliceAdjust;simp only[h1,if_false];refine Prod.ext ?_ ?_
 ·cases lo with
  | none=>rfl
  | some v=>exact jd_ v n 0
 ·cases hi with
  | none=>rfl
  | some v=>exact jd_ v n n
def jcZ (i j:Nat):Builtin.Slice.slicePlaces (i:Int) (j:Int) 1=j-i:=by
 unfold Builtin.Slice.slicePlaces;have h1:(1:Int) > 0:=by omega
 simp only[h1,if_true,Int.ediv_one];split <;> omega
def Wr {v:Value}{o:Option Int}{Q:Option Int->Shared->Prop} (p:IsPart v o) (h:Q o s):wpAny (model prog w) A (Builtin.Slice.slicePartIndex v) Q E s:=by
 cases p with
 | none=>exact slicePart_none h
 | int i t=>exact slicePart_int h
def Jl {Q:Int×Int×Nat->Shared->Prop} (hs:s.heap.IsSliceOf sl vl vu .none) (pl:IsPart vl lo) (pu:IsPart vu hi)
  (h:Q (((sIx n 0 lo:Nat):Int),1,sIx n n hi-sIx n 0 lo) s):wpAny (model prog w) A (Builtin.Slice.sliceApplied (.ref sl) (pure (n:Int))) Q E s:=by
 obtain⟨os,hos,hcs,hds⟩:=id hs;unfold Builtin.Slice.sliceApplied Builtin.Slice.sliceFields;refine wpAny_bind (wpAny_bind (wpAny_field hos hds (x:=vl) rfl (wpAny_bind (wpAny_field hos hds (x:=vu) rfl (wpAny_bind (wpAny_field hos hds (x:=.none) rfl (wpAny_pure ?_)))))));refine wpAny_bind (slicePart_none ?_);show wpAny _ _ (if ((1:Int)==0)=true then _ else _) _ _ s;rw[if_neg (by decide)];refine wpAny_bind (Wr pl (wpAny_bind (Wr pu (wpAny_bind (wpAny_pure ?_)))));show wpAny _ _ (match Builtin.Slice.sliceAdjust lo hi 1 (n:Int) with | (lo,hi)=>pure (lo,(1:Int),Builtin.Slice.slicePlaces lo hi 1)) _ _ s
 rw[jcY lo hi n];show wpAny _ _ (pure (((sIx n 0 lo:Nat):Int),(1:Int),Builtin.Slice.slicePlaces ((sIx n 0 lo:Nat):Int) ((sIx n n hi:Nat):Int) 1)) _ _ s;rw[jcZ];exact wpAny_pure h
def jgn (xs:Array Value) (i k:Nat):((List.range k).filterMap fun (m:Nat)=>xs[((i:Int)+(m:Int) * 1).toNat]?).toArray=((xs.toList.drop i).take k).toArray:=by
 have e:(fun (m:Nat)=>xs[((i:Int)+(m:Int) * 1).toNat]?)=fun m=>xs[i+m]?:=by
  funext m
  have:((i:Int)+(m:Int) * 1).toNat=i+m:=by omega
  rw[this]
 rw[e];have:=pick_run xs i k;rw[List.filterMap_map] at this;have e2:((fun x=>xs[x]?) ∘ fun x=>i+x)=fun m=>xs[i+m]?:=rfl;rw[e2] at this;rw[this]
def getItem_tuple_cut {t:Addr} (ht:IsTup s.heap t items) (hs:s.heap.IsSliceOf sl vl vu .none) (pl:IsPart vl lo) (pu:IsPart vu hi)
  (hw:¬ (sIx items.size 0 lo=0/\sIx items.size items.size hi=items.size))
  (h:Q (.ref s.heap.objs.size) { s with heap:=s.heap.push { cls:=.type "tuple",data:=.seq ((items.toList.drop (sIx items.size 0 lo)).take (sIx items.size items.size hi-sIx items.size 0 lo)).toArray } })
  (hsz:items.size<=sizeLine):wpAny (model prog w) A (getItem (.ref t) (.ref sl)) Q E s:=by
 have htake:sizeOk (.seq ((items.toList.drop (sIx items.size 0 lo)).take (sIx items.size items.size hi-sIx items.size 0 lo)).toArray):=by
  show ((items.toList.drop (sIx items.size 0 lo)).take (sIx items.size items.size hi-sIx items.size 0 lo)).toArray.size<=sizeLine;rw[List.size_toArray,List.length_take,List.length_drop,Array.length_toList];omega
 have hj:sIx items.size items.size hi<=items.size:=jke _ _ (Nat.le_refl _) hi;obtain⟨os,hos,hcs,hds⟩:=id hs;have hTs:s.TypeIs (.ref sl) "slice":=⟨os,hos,hcs⟩;unfold getItem
 try with_reducible refine wpAny_holding ?_
 first | refine wpAny_bind (wpAny_pure ?_) | skip
 refine wpAny_bind (wpAny_sequenceKey ht.typeIs (by decide) ?_);refine wpAny_bind (wpAny_callSpecial?_slot (name:=Str.ofString "__getitem__") ht.typeIs PyProof.Rows.slot_tuple_getitem
  (wpAny_call_entry PyProof.Rows.slot_tuple_getitem ht.typeIs entry_tuple_getitem ?_ (args_tuple_getitem _ _)))
 show wpAny _ _ (Builtin.Tuple.tupleItemsOf (.ref t) >>= _) _ _ s;refine wpAny_bind (tupleItemsOf_ ht ?_);refine wpAny_bind (wpAny_typeOf hTs ?_);rw[if_pos (by decide)];refine wpAny_bind (Jl hs pl pu ?_);have hno:¬ ((((sIx items.size 0 lo:Nat):Int)==0&&(1:Int)==1&&(sIx items.size items.size hi-sIx items.size 0 lo)==items.size)=true):=by
  intro q;rw[Bool.and_eq_true,Bool.and_eq_true] at q;have q1:((sIx items.size 0 lo:Nat):Int)=0:=eq_of_beq q.1.1;have q2:sIx items.size items.size hi-sIx items.size 0 lo=items.size:=eq_of_beq q.2;exact hw ⟨by omega,by omega⟩
 show wpAny _ _ (if (((sIx items.size 0 lo:Nat):Int)==0&&(1:Int)==1&&(sIx items.size items.size hi-sIx items.size 0 lo)==items.size)=true then _ else _) _ _ s;rw[if_neg hno,jgn]
 first
  | exact wpAny_bind (m:=Builtin.Tuple.tupleExact _) (wpAny_newObj_type (wpAny_pure ⟨_,rfl,wpAny_pure h⟩) htake)
  | exact wpAny_bind (m:=Builtin.Tuple.tupleExact _) (wpAny_newObj_type (wpAny_bind (wpAny_pure (wpAny_pure ⟨_,rfl,wpAny_pure h⟩))) htake)
  | exact wpAny_bind (wpAny_bind (m:=Builtin.Tuple.tupleExact _) (wpAny_newObj_type (wpAny_pure (wpAny_pure ⟨_,rfl,wpAny_pure h⟩)) htake))
  | exact wpAny_bind (wpAny_bind (m:=Builtin.Tuple.tupleExact _) (wpAny_newObj_type (wpAny_pure ⟨_,rfl,wpAny_pure h⟩) htake))
end
end HT
namespace L2
open PySem PySem.Spec PyProof.Rows
abbrev TO:=St->Hp->(Option Int->Hp->Prop)->Prop
def PO (X:Cx) (e:Option Expr) (t:TO):Prop:=
 ∀ (pins:List (Addr×Obj)) (s:Shared) (σ:St) (H:Hp) (Q:Option Int->Hp->Prop),Inv X pins σ H s->t σ H Q ->
  wpAny (model X.prog X.w) X.A (evalPart e X.env) (fun u s'=>∃ o H',Inv X pins σ H' s'/\IsPart u o/\Q o H') X.xe s
def jea:TO:=fun _ H Q=>Q none H
def jgo (t:TE):TO:=fun σ H Q=>t σ H fun x H1=>∃ i,x=.int i/\Q (some i) H1
def J9:∀ {us:List Value},Vals (ns.map V.int) us->IntsAre us ns:=by
 induction ns with
 | nil=>intro us r; rw[List.map_nil] at r; cases r; exact .nil
 | cons n ns ih=>
  intro us r;rw[Xp] at r;cases r with
  | cons r1 r2=>
   obtain⟨t,e⟩:=r1;subst e;exact .cons n t (ih r2)
section
variable {lo hi:Option Expr}{tl th:TO} 
def Gq:PO X none jea:=by
 intro pins s σ H Q I h;rw[evalPart_none];exact Xb ⟨none,H,I,.none,h⟩
def Gr (h:PE X e te):PO X (some e) (jgo te):=by
 intro pins s σ H Q I hw;rw[evalPart_some];refine thn (h pins s σ H _ I hw) fun u s1 ⟨x,H1,I1,r1,q1⟩=>?_;obtain⟨i,rfl,q⟩:=q1;obtain⟨t,rfl⟩:=r1;exact⟨some i,H1,I1,.int i t,q⟩
def SlR (X:Cx) (r:V->Option Int->Option Int->Hp->VK->Prop):Prop:=
 ∀ (pins:List (Addr×Obj)) (s:Shared) (σ:St) (H:Hp) (x:V) (v vl vu:Value) (lo hi:Option Int) (sl:Addr) (Q:VK),Inv X pins σ H s->RelV x v->s.heap.IsSliceOf sl vl vu .none->IsPart vl lo->IsPart vu hi->r x lo hi H Q ->
  ∃ T id,typeLookup (.type T) "__getitem__"=pure (some (.builtin id))/\s.TypeIs v T/\wpAny (model X.prog X.w) X.A (getItem v (.ref sl)) (EP X pins σ Q) X.xe s
def tSl (r:V->Option Int->Option Int->Hp->VK->Prop) (te:TE) (tl th:TO):TE:=fun σ H Q=>te σ H fun x H1=>tl σ H1 fun l H2=>th σ H2 fun u H3=>r x l u H3 Q
def zc {r:V->Option Int->Option Int->Hp->VK->Prop} (hr:SlR X r) (he:PE X e te) (hl:PO X lo tl) (hu:PO X hi th):PE X (.Subscript e (.Slice lo hi none p2) pos) (tSl r te tl th):=by
 intro pins s σ H Q I h;refine Subscript_ (thn (he pins s σ H _ I h) fun v s1 ⟨x,H1,I1,r1,q1⟩=>?_);refine wpAny_Slice (thn (hl pins s1 σ H1 _ I1 q1) fun vl s2 ⟨l,H2,I2,pl,q2⟩=>thn (hu pins s2 σ H2 _ I2 q2) fun vu s3 ⟨u,H3,I3,pu,q3⟩=>?_);rw[evalPart_none];refine Xb ?_;have I4:Inv X pins σ H3 { s3 with heap:=s3.heap.push { cls:=.type "slice",data:=.fields #[vl,vu,.none] } }:=I3.kept (t':=s3.toks) fun b ob q=>Xd _ q
 obtain⟨T,id,hT,ht,hg⟩:=hr pins { s3 with heap:=s3.heap.push { cls:=.type "slice",data:=.fields #[vl,vu,.none] } } σ H3 x v vl vu l u s3.heap.objs.size Q I4 r1 (Heap.IsSliceOf.new ..) pl pu q3
 show wpAny (model X.prog X.w) X.A (subscriptTail e (.Slice lo hi none p2) v (.ref s3.heap.objs.size)) (EP X pins σ Q) X.xe { s3 with heap:=s3.heap.push { cls:=.type "slice",data:=.fields #[vl,vu,.none] } }
 exact tail_any (ops:=[.ref s3.heap.objs.size,v]) ht hT hg (by with_unfolding_all rfl)
def jgp (xs:List V) (lo hi:Option Int):List V:=(xs.drop (HT.sIx xs.length 0 lo)).take (HT.sIx xs.length xs.length hi-HT.sIx xs.length 0 lo)
def Vh (xs:List V) (lo hi:Option Int):(jgp xs lo hi).length<=xs.length:=by
 unfold jgp;rw[List.length_take,List.length_drop];omega
def jmX (K:W.Frag):V->Option Int->Option Int->Hp->VK->Prop:=fun x lo hi H Q=>∃ a xs,x=.ref a/\SqT K H a xs /\
 ¬ (HT.sIx xs.length 0 lo=0/\HT.sIx xs.length xs.length hi=xs.length)/\∀ p,H p=none->Q (.ref p) (upd H p (.tup (jgp xs lo hi)))
def jkf:SlR X (jmX X.K):=by
 intro pins s σ H x v vl vu lo hi sl Q I rx hs pl pu h;obtain⟨a,xs,rfl,hx,hw,q⟩:=h;cases rx;obtain⟨its,r,ht,hz⟩:=I.tuple hx;have hlen:its.toArray.size=xs.length:=by rw[Xg]; exact r.length.symm
 refine⟨"tuple",_,PyProof.Rows.slot_tuple_getitem.lookup,ht.typeIs,?_⟩;refine HT.getItem_tuple_cut ht hs pl pu (by rw[hlen]; exact hw) ?_ (by rw[hlen]; exact hz);rw[hlen];refine⟨.ref s.heap.objs.size,_,I.laid (t':=s.toks) (o:=.tup (jgp xs lo hi)) (fun b ob q=>Xd _ q) (Xe _) ?_,rfl,q _ (I.hok.fresh (Xe _))⟩;exact⟨XW (Vh xs lo hi) hz,_,(r.drop (HT.sIx xs.length 0 lo)).take (HT.sIx xs.length xs.length hi-HT.sIx xs.length 0 lo),TupO.new _ _⟩
def jlM (K:W.Frag):R2:=fun x y H Q=>∃ a b xs ys,x=.ref a/\y=.ref b/\SqT K H a xs/\SqT K H b ys/\xs≠[]/\xs.length+ys.length<=sizeLine /\
 (ys=[]->Q (.ref a) H)/\(ys≠[]->∀ p,H p=none->Q (.ref p) (upd H p (.tup (xs++ys))))
def Vals.nil_iff (r:Vals xs us):us=[] ↔ xs=[]:=by
 cases r with
 | nil=>simp
 | cons _ _=>simp
def jiB:OpR X (binaryOp .Add) (jlM X.K):=by
 intro pins s σ H x y v u Q I rx ry h;obtain⟨a,b,xs,ys,rfl,rfl,ha,hb,hx,hz,q1,q2⟩:=h;cases rx;cases ry;obtain⟨its,r1,p1,_⟩:=I.tuple ha;obtain⟨its2,r2,p2,_⟩:=I.tuple hb;refine HT.cat_tup p1 p2 (fun z=>hx (r1.nil_iff.mp z)) (fun z=>⟨.ref a,H,I,rfl,q1 (r2.nil_iff.mp z)⟩) (fun z=>?_) (by rw[<- r1.length,<- r2.length]; exact hz);refine⟨.ref s.heap.objs.size,_,I.laid (t':=s.toks) (o:=.tup (xs++ys)) (fun b ob q=>Xd _ q) (Xe _) ?_,rfl,q2 (fun w=>z (r2.nil_iff.mpr w)) _ (I.hok.fresh (Xe _))⟩;exact⟨by rw[XE]; exact hz,_,r1.append r2,TupO.new _ _⟩
end
def ixN (n:Nat) (i:Int):Option Nat:=if 0<=i then (if i<n then some i.toNat else none) else if -(n:Int)<=i then some (i+n).toNat else none
def atI (xs:List α) (i:Int):Option α:=(ixN xs.length i).bind fun j=>xs[j]?
def jeb {i:Int}{j:Nat} (h:ixN n i=some j):seqIndex? i n=some j/\j<n/\-(n:Int)<=i/\i<n:=by
 unfold ixN at h;by_cases h0:0<=i
 ·rw[if_pos h0] at h;by_cases h1:i<n
  ·rw[if_pos h1] at h;have e:i.toNat=j:=Option.some.inj h;exact⟨by rw[seqIndex_of h0 h1,e],by omega,by omega,h1⟩
  ·rw[if_neg h1] at h; cases h
 ·rw[if_neg h0] at h;by_cases h1:-(n:Int)<=i
  ·rw[if_pos h1] at h;have e:(i+n).toNat=j:=Option.some.inj h;exact⟨by rw[seqIndex_neg (by omega) h1,e],by omega,h1,by omega⟩
  ·rw[if_neg h1] at h; cases h
def jaD {xs:List α}{i:Int}{v:α} (h:atI xs i=some v):∃ j,seqIndex? i xs.length=some j/\xs[j]?=some v/\j<xs.length/\-(xs.length:Int)<=i/\i<xs.length:=by
 unfold atI at h;cases e:ixN xs.length i with
 | none=>rw[e] at h; cases h
 | some j=>
  rw[e] at h;obtain⟨h1,h2,h3,h4⟩:=jeb e;exact⟨j,h1,h,h2,h3,h4⟩
def jiC {xs:List α}{j:Nat}{v:α} (h:xs[j]?=some v):atI xs (j:Int)=some v:=by
 have hj:j<xs.length:=(List.getElem?_eq_some_iff.mp h).1;have e:ixN xs.length (j:Int)=some j:=by
  unfold ixN;rw[if_pos (by omega),if_pos (by omega)]; simp
 unfold atI; rw[e]; exact h
def jec (b:Expr):Prop:=∀ o i,subscripted b false o i=operate [o,i] (getItem o i)
def IxR (X:Cx) (r:R2):Prop:=
 ∀ (value slice:Expr) (pins:List (Addr×Obj)) (s:Shared) (σ:St) (H:Hp) (x y:V) (v u:Value) (Q:VK),Inv X pins σ H s->RelV x v->RelV y u->r x y H Q ->
  subscripted slice false v u=operate [v,u] (getItem v u)->wpAny (model X.prog X.w) X.A (subscriptTail value slice v u) (EP X pins σ Q) X.xe s
def MtR (X:Cx) (id:String) (r:V->List V->Hp->VK->Prop):Prop:=
 ∀ (pins:List (Addr×Obj)) (s:Shared) (σ:St) (H:Hp) (x:V) (xs:List V) (v:Value) (us:List Value) (Q:VK),Inv X pins σ H s->RelV x v->Vals xs us->r x xs H Q ->
  wpAny (model X.prog X.w) X.A (call (.builtin id) (v::us)) (EP X pins σ Q) X.xe s
section
variable {a b:Expr} 
def jlN {r:R2} (hr:IxR X r) (ha:PE X a ta) (hb:PE X b tb) (hs:jec b):PE X (.Subscript a b pos) (tOp r ta tb):=by
 intro pins s σ H Q I h;exact Subscript_ (jlK ha hb I h fun v u s2 x y H2 I2 rx ry q=>hr a b pins s2 σ H2 x y v u Q I2 rx ry q (hs _ _))
def jmF (K:W.Frag):R2:=fun x y H Q=>∃ p xs i v,x=.ref p/\y=.int i/\SqL K H p xs/\atI xs i=some v/\Q v H
def jhN (K:W.Frag):R2:=fun x y H Q=>∃ p xs i v,x=.ref p/\y=.int i/\SqT K H p xs/\atI xs i=some v/\Q v H
def jmG:R2:=fun x y H Q=>∃ z i c,x=.str z/\y=.int i/\z.length<=sizeLine/\atI z.cps.toList i=some c/\Q (.str ⟨#[c]⟩) H
def kU:IxR X (jmF X.K):=by
 intro value slice pins s σ H x y v u Q I rx ry h hs;obtain⟨p,xs,i,z,rfl,rfl,hq,he,q⟩:=h;cases rx;obtain⟨t,rfl⟩:=ry;obtain⟨its,r,pl,hz⟩:=I.list hq;obtain⟨j,h1,h2,h3,h4,h5⟩:=jaD he;obtain⟨w,ew,rw'⟩:=r.get h2;have hl:=r.length;have hn:=Wp;have fin:EP X pins σ Q w s:=⟨z,H,I,rw',q⟩;by_cases h0:0<=i
 ·have hj:i.toNat=j:=by
   rw[seqIndex_of h0 h5] at h1;exact Option.some.inj h1
  exact item_listR pl.isList h0 (by omega) (by rw[hj]; simpa using ew) fin hs
 ·have hj:(i+(its.toArray.size:Int)).toNat=j:=by
   rw[seqIndex_neg (by omega) h4] at h1;rw[Xg,<- hl];exact Option.some.inj h1
  exact subscriptTail_builtinR (x:=w) pl.isList.typeIs slot_list_getitem.lookup
   (wpAny_getItem_list_neg (Q:=fun r s'=>r=w/\EP X pins σ Q r s') pl.isList (by omega) (by rw[Xg] <;> omega) (by omega) (by rw[hj]; simpa using ew) ⟨rfl,fin⟩) hs
def zH:IxR X (jhN X.K):=by
 intro value slice pins s σ H x y v u Q I rx ry h hs;obtain⟨p,xs,i,z,rfl,rfl,hq,he,q⟩:=h;cases rx;obtain⟨t,rfl⟩:=ry;obtain⟨its,r,pl,hz⟩:=I.tuple hq;obtain⟨j,h1,h2,h3,h4,h5⟩:=jaD he;obtain⟨w,ew,rw'⟩:=r.get h2;have hl:=r.length;have hn:=Wp;have fin:EP X pins σ Q w s:=⟨z,H,I,rw',q⟩;exact subscriptTail_builtinR (x:=w) pl.typeIs slot_tuple_getitem.lookup
  (getItem_tuple (j:=j) (Q:=fun r s'=>r=w/\EP X pins σ Q r s') pl (by omega) (by omega) (by rw[Xg,<- hl]; exact h1) (by simpa using ew) ⟨rfl,fin⟩) hs
def jkg:IxR X jmG:=by
 intro value slice pins s σ H x y v u Q I rx ry h hs;obtain⟨z,i,c,rfl,rfl,hz,he,q⟩:=h;obtain⟨t,rfl⟩:=rx;obtain⟨t',rfl⟩:=ry;obtain⟨j,h1,h2,h3,h4,h5⟩:=jaD he;have hl:z.cps.toList.length=z.length:=by simp[Str.length]
 rw[hl] at h1 h4 h5;have hn:=Wp;exact tail_any (typeIs_str s z t) slot_str_getitem.lookup (getItem_str (c:=c) (by
  have e1:decide (i < -(2 ^ 63:Int))=false:=Xk (by omega);have e2:decide (i ≥ 2 ^ 63)=false:=Xk (by omega);rw[e1,e2,Bool.or_false]) (by rw[h1]; simpa using h2) ⟨.str ⟨#[c]⟩,H,I.tok _,⟨_,rfl⟩,q⟩) hs
def jc0 (its:List Value) (n j:Nat) (u:Value):Obj.mapSeq (·.setIfInBounds j u) { cls:=.type "list",data:=.seq its.toArray n }={ cls:=.type "list",data:=.seq (its.set j u).toArray n }:=by
 simp[Obj.mapSeq]
def Inv.lst {p:Addr} (I:Inv X pins σ H s) (h:H p=some (.lst xs)) :
  ∃ (its:List Value) (n:Nat),Vals xs its/\s.heap.get? p=some { cls:=.type "list",data:=.seq its.toArray n }/\xs.length<=sizeLine:=by
 obtain⟨z,its,n,r,e⟩:=I.hok p _ h;exact⟨its,n,r,e,z⟩
def Inv.lstUpd {p:Addr}{n':Nat}{f:Obj->Obj} (I:Inv X pins σ H s) (h:H p=some (.lst xs))
  (ho:s.heap.get? p=some { cls:=.type "list",data:=.seq its.toArray n }) (hf:f { cls:=.type "list",data:=.seq its.toArray n }={ cls:=.type "list",data:=.seq its'.toArray n' }) (r:Vals ys its') (hz:ys.length<=sizeLine) (t:Nat) :
  Inv X pins σ (upd H p (.lst ys)) { s with heap:=s.heap.update p f,toks:=t }:=by
 have e:(s.heap.update p f).get? p=some { cls:=.type "list",data:=.seq its'.toArray n' }:=by
  rw[Heap.get?_update_self f ho (by rw[hf] <;> rfl),hf]
 refine I.write (x:=p) (e:=p) (by rw[h]; trivial) (.inl rfl) (fun b u hb q=>(Heap.get?_update_other _ _ (Ne.symm hb)).trans q) ⟨_,e⟩ ?_;exact⟨hz,its',n',r,e⟩
def jgq:V->V->V->Hp->(Hp->Prop)->Prop:=fun o i v H Q=>∃ p xs k j,o=.ref p/\i=.int k/\H p=some (.lst xs)/\ixN xs.length k=some j/\Q (upd H p (.lst (xs.set j v)))
def WS:jmC X jgq:=by
 intro pins s σ H o i v ov iv u Q I ro ri rv h;obtain⟨p,xs,k,j,rfl,rfl,hp,hj,q⟩:=h;cases ro;obtain⟨t,rfl⟩:=ri;obtain⟨its,n,r,ho,hz⟩:=I.lst hp;obtain⟨h1,h2,h3,h4⟩:=jeb hj;have hl:=r.length;have hn:=Wp;have I':Inv X pins σ (upd H p (.lst (xs.set j v))) { s with heap:=s.heap.update p (Obj.mapSeq (·.setIfInBounds j u)) }:=
  I.lstUpd hp ho (jc0 its n j u) (r.set rv j) (by rw[List.length_set]; exact hz) s.toks
 by_cases h0:0<=k
 ·have hk:k.toNat=j:=by
   rw[seqIndex_of h0 h4] at h1;exact Option.some.inj h1
  exact W.ki_setAt ho h0 (by omega) (by rw[Xg,<- hl]; exact h4) (by rw[hk]; exact ⟨_,I',q⟩)
 ·have hk:(k+(its.toArray.size:Int)).toNat=j:=by
   rw[seqIndex_neg (by omega) h3] at h1;rw[Xg,<- hl];exact Option.some.inj h1
  exact W.ki_setBack ho (by omega) (by rw[Xg,<- hl]; exact h3) (by omega) (by rw[hk]; exact ⟨_,I',q⟩)
def Zu (lo hi:Option Int) (n:Nat):(sliceBounds lo hi none n).1=((HT.sIx n 0 lo:Nat):Int)/\(sliceBounds lo hi none n).2.1=((HT.sIx n n hi:Nat):Int)/\(sliceBounds lo hi none n).2.2=1:=by
 refine⟨?_,?_,rfl⟩
 ·cases lo with
  | none=>simp[sliceBounds,HT.sIx]
  | some i=>
   simp only[sliceBounds,HT.sIx,Option.getD_none,show (1:Int) > 0 by decide,if_true];by_cases h:i<0
   ·simp only[h,if_true] <;> omega
   ·simp only[h,X0] <;> omega
 ·cases hi with
  | none=>simp[sliceBounds,HT.sIx]
  | some i=>
   simp only[sliceBounds,HT.sIx,Option.getD_none,show (1:Int) > 0 by decide,if_true];by_cases h:i<0
   ·simp only[h,if_true] <;> omega
   ·simp only[h,X0] <;> omega
def WT (its:List Value) (lo hi:Option Int):slicePick its.toArray lo hi none=((its.drop (HT.sIx its.length 0 lo)).take (HT.sIx its.length its.length hi-HT.sIx its.length 0 lo)).toArray:=by
 obtain⟨h1,h2,h3⟩:=Zu lo hi its.toArray.size;unfold slicePick;rw[h1,h2,h3];simp only[sliceRange_one,pick_run,Xg] <;> rfl
def jlz (K:W.Frag):V->Option Int->Option Int->Hp->VK->Prop:=fun x lo hi H Q=>∃ a xs,x=.ref a/\SqL K H a xs/\∀ p,H p=none->Q (.ref p) (upd H p (.lst (jgp xs lo hi)))
def Uh:SlR X (jlz X.K):=by
 intro pins s σ H x v vl vu lo hi sl Q I rx hs pl pu h;obtain⟨a,xs,rfl,hx,q⟩:=h;cases rx;obtain⟨its,r,ht,hz⟩:=I.list hx;have hlen:=r.length;refine⟨"list",_,slot_list_getitem.lookup,ht.isList.typeIs,?_⟩;refine wpAny_getItem_list_slice ht.isList hs pl pu .none (by simp) ?_ (by rw[Xg] <;> omega);rw[WT,<- hlen];refine⟨.ref s.heap.objs.size,_,I.laid (t':=s.toks) (o:=.lst (jgp xs lo hi)) (fun b ob q=>Xd _ q) (Xe _) ?_,rfl,q _ (I.hok.fresh (Xe _))⟩;exact⟨XW (Vh xs lo hi) hz,_,0,(r.drop (HT.sIx xs.length 0 lo)).take (HT.sIx xs.length xs.length hi-HT.sIx xs.length 0 lo),Xi _ rfl⟩
def Zv:V->Bool
 | .non=>true
 | .bl _=>true
 | .int _=>true
 | .str _=>true
 | _=>false
def eqV:V->V->Bool
 | .non,.non=>true
 | .bl a,.bl b=>a==b
 | .bl a,.int b=>(if a then 1 else 0)==b
 | .int a,.bl b=>a==(if b then 1 else 0)
 | .int a,.int b=>a==b
 | .str a,.str b=>a==b
 | _,_=>false
def jkh {y x:V}{v:Value} (ry:RelV y u) (rx:RelV x v) (fy:Zv y=true) (fx:Zv x=true):SeqAt.EqAt A s u v (eqV y x):=by
 cases y with
 | non=>
  cases ry;cases x with
  | non=>cases rx; exact SeqAt.EqAt.same _
  | bl b=>cases rx; exact SeqAt.EqAt.none_bool b
  | int b=>obtain⟨t,rfl⟩:=rx; exact SeqAt.EqAt.none_int b t
  | str b=>obtain⟨t,rfl⟩:=rx; exact SeqAt.EqAt.none_str b t
  | _=>exact absurd (show false=true from fx) Xh
 | bl a=>
  cases ry;cases x with
  | non=>cases rx; exact SeqAt.EqAt.bool_none a
  | bl b=>cases rx; exact SeqAt.EqAt.bool_bool a b
  | int b=>obtain⟨t,rfl⟩:=rx; exact SeqAt.EqAt.bool_int a b t
  | str b=>obtain⟨t,rfl⟩:=rx; exact SeqAt.EqAt.bool_str a b t
  | _=>exact absurd (show false=true from fx) Xh
 | int a=>
  obtain⟨t',rfl⟩:=ry;cases x with
  | non=>cases rx; exact SeqAt.EqAt.int_none a t'
  | bl b=>cases rx; exact SeqAt.EqAt.int_bool a t' b
  | int b=>obtain⟨t,rfl⟩:=rx; exact SeqAt.EqAt.int_int a t' b t
  | str b=>obtain⟨t,rfl⟩:=rx; exact SeqAt.EqAt.int_str a t' b t
  | _=>exact absurd (show false=true from fx) Xh
 | str a=>
  obtain⟨t',rfl⟩:=ry;cases x with
  | non=>cases rx; exact SeqAt.EqAt.str_none a t'
  | bl b=>cases rx; exact SeqAt.EqAt.str_bool a t' b
  | int b=>obtain⟨t,rfl⟩:=rx; exact SeqAt.EqAt.str_int a t' b t
  | str b=>obtain⟨t,rfl⟩:=rx; exact SeqAt.EqAt.str_str a t' b t
  | _=>exact absurd (show false=true from fx) Xh
 | _=>exact absurd (show false=true from fy) Xh
def jt:GD X (.builtin "len") (fun xs H Q=>∃ p ys,xs=[.ref p]/\(SqL X.K H p ys \/ SqT X.K H p ys)/\Q (.int ys.length) H):=by
 intro pins s σ H xs us Q I r h;obtain⟨p,ys,rfl,hq,q⟩:=h;obtain⟨u,rfl,rx⟩:=Ug r;cases rx;have hn:=Wp;rcases hq with hq | hq
 ·obtain⟨its,r',pl,hz⟩:=I.list hq;have hlen:=r'.length;exact Calls.call_len_list pl.isList (by simp only[Xg] <;> omega) ⟨.int ys.length,H,I.tok _,⟨s.toks+1,by rw[Xg,hlen]⟩,q⟩
 ·obtain⟨its,r',pl,hz⟩:=I.tuple hq;have hlen:=r'.length;exact len_tuple pl (by simp only[Xg] <;> omega) ⟨.int ys.length,H,I.tok _,⟨s.toks+1,by rw[Xg,hlen]⟩,q⟩
def Zw:GD X (.builtin "len") (fun xs H Q=>∃ z,xs=[.str z]/\z.length<=sizeLine/\Q (.int z.length) H):=by
 intro pins s σ H xs us Q I r h;obtain⟨z,rfl,hz,q⟩:=h;obtain⟨u,rfl,t,rfl⟩:=Ug r;have hn:=Wp;exact len_str (by omega) ⟨.int z.length,H,I.tok _,⟨_,rfl⟩,q⟩
def Jt:GD X (.type "list") (fun xs H Q=>∃ p ys,xs=[.ref p]/\(SqL X.K H p ys \/ SqT X.K H p ys)/\∀ l,H l=none->Q (.ref l) (upd H l (.lst ys))):=by
 intro pins s σ H xs us Q I r h;obtain⟨p,ys,rfl,hq,q⟩:=h;obtain⟨u,rfl,rx⟩:=Ug r;cases rx;have fin:∀ (its:List Value),Vals ys its->ys.length<=sizeLine->∀ (h':Heap) (c':Nat),(∀ b o',s.heap.get? b=some o'->h'.get? b=some o') ->
   h'.get? s.heap.objs.size=some { cls:=.type "list",dict:=none,data:=.seq its.toArray c',slots:=#[] }->EP X pins σ Q (.ref s.heap.objs.size) { s with heap:=h' }:=fun its r' hz h' c' kp e=>
  ⟨.ref s.heap.objs.size,_,I.laid (t':=s.toks) kp (Xe _) (show ObjOk X.prog X.w _ h' _ (.lst ys) from ⟨hz,its,c',r',e⟩),rfl,q _ (I.hok.fresh (Xe _))⟩
 rcases hq with hq | hq
 ·obtain⟨its,r',pl,hz⟩:=I.list hq;have hlen:=r'.length;obtain⟨o,ho,hc,n,hd⟩:=pl.isList;exact call_list_seq p (.inl rfl) ho hc hd (fun h' c' kp e=>fin its r' hz h' c' kp e) (by simp only[Xg] <;> omega)
 ·obtain⟨its,r',pl,hz⟩:=I.tuple hq;have hlen:=r'.length;obtain⟨o,ho,hc,n,hd⟩:=pl;exact call_list_seq p (.inr rfl) ho hc hd (fun h' c' kp e=>fin its r' hz h' c' kp e) (by simp only[Xg] <;> omega)
def yw:GD X (.type "tuple") (fun xs H Q=>∃ p ys,xs=[.ref p]/\((SqL X.K H p ys/\∀ l,H l=none->Q (.ref l) (upd H l (.tup ys))) \/ (SqT X.K H p ys/\Q (.ref p) H))):=by
 intro pins s σ H xs us Q I r h;obtain⟨p,ys,rfl,h⟩:=h;obtain⟨u,rfl,rx⟩:=Ug r;cases rx;rcases h with⟨hq,q⟩ | ⟨hq,q⟩
 ·obtain⟨its,r',pl,hz⟩:=I.list hq;have hlen:=r'.length;refine call_tuple_list pl.isList (fun h' kp=>?_) (by simp only[Xg] <;> omega);have I1:Inv X pins σ H { s with heap:=h' }:=I.kept (t':=s.toks) kp
  have I2:Inv X pins σ (upd H h'.objs.size (.tup ys)) { s with heap:=h'.push { cls:=.type "tuple",data:=.seq its.toArray } }:=
   I1.laid (t':=s.toks) (fun b o e=>Xd _ e) (Xe _) (show ObjOk X.prog X.w _ _ _ (.tup ys) from ⟨hz,its,r',TupO.new _ _⟩)
  exact⟨.ref h'.objs.size,_,I2,rfl,q _ (I1.hok.fresh (Xe _))⟩
 ·obtain⟨its,r',pl,hz⟩:=I.tuple hq;exact call_tuple_same pl ⟨.ref p,H,I,rfl,q⟩
def tyV (K:W.Frag) (T:String) (x:V) (H:Hp):Prop:=match x with
 | .str _=>T="str"
 | .int _=>T="int"
 | .ref p=>(T="list"/\∃ xs,SqL K H p xs) \/ (T="tuple"/\∃ o,K.lookup p=some o/\o.cls=.type "tuple"/\o.dict=none) \/
   (T="dict"/\((∃ kvs,H p=some (.dK kvs)) \/ ∃ fl kvs,H p=some (.dT fl kvs))) \/ (T="set"/\∃ S n,H p=some (.set S n))
 | _=>False
def jhO {x:V}{v:Value} (I:Inv X pins σ H s) (r:RelV x v) (ty:tyV X.K T x H) :
  s.TypeIs v T/\∀ a,v=.ref a->∃ ob,s.heap.get? a=some ob/\ob.dict=none:=by
 cases x with
 | str z=>
  obtain⟨t,rfl⟩:=r;cases (show T="str" from ty);exact⟨typeIs_str s z t,fun _ e=>nomatch e⟩
 | int i=>
  obtain⟨t,rfl⟩:=r;cases (show T="int" from ty);exact⟨typeIs_int s i t,fun _ e=>nomatch e⟩
 | ref p=>
  cases r;rcases ty with⟨rfl,xs,hq⟩ | ⟨rfl,o,hk,hc,hd⟩ | ⟨rfl,hk⟩ | ⟨rfl,S,n,hk⟩
  ·obtain⟨its,_,pl,_⟩:=I.list hq;refine⟨pl.isList.typeIs,fun a e=>?_⟩;cases e;obtain⟨o,n,e,c,hd,_⟩:=pl;exact⟨o,e,hd⟩
  ·refine⟨⟨o,I.kIn p o hk,hc⟩,fun a e=>?_⟩;cases e;exact⟨o,I.kIn _ o hk,hd⟩
  ·have z:∃ o,s.heap.get? p=some o/\o.ExactDict:=by
    rcases hk with⟨kvs,hk⟩ | ⟨fl,kvs,hk⟩
    ·obtain⟨_,_,_,_,o,_,_,e,ex,_⟩:=I.hok p _ hk;exact⟨o,e,ex⟩
    ·obtain⟨_,_,_,_,o,_,_,e,ex,_⟩:=I.hok p _ hk;exact⟨o,e,ex⟩
   obtain⟨o,e,ex⟩:=z;refine⟨⟨o,e,ex.1⟩,fun a e2=>?_⟩;cases e2;exact⟨o,e,ex.2.1⟩
  ·obtain⟨o,_,_,_,e,ex,_⟩:=I.hok p _ hk;refine⟨⟨o,e,ex.1⟩,fun a e2=>?_⟩;cases e2;exact⟨o,e,ex.2.1⟩
 | _=>exact False.elim ty
def jki (K:W.Frag) (T:String) (r:V->List V->Hp->VK->Prop) (to:TE):TE:=fun σ H Q=>to σ H fun x H1=>tyV K T x H1/\r x [] H1 Q
def tBM (K:W.Frag) (T:String) (r:V->List V->Hp->VK->Prop) (to:TE) (t:TA):TE:=fun σ H Q=>to σ H fun x H1=>tyV K T x H1/\t σ H1 fun xs H2=>r x xs H2 Q
variable {o:Expr}{to:TE}{t:TA}{id:String}{r:V->List V->Hp->VK->Prop}
def jhP (pa:PlainAttrs T) (slot:Slot T name id) (hty:typeOf (.builtin id)=pure (.type "method_descriptor")) (hm:MtR X id r) (ho:PE X o to)
  (hbase:attributeBase o name X.env (eval o X.env)=eval o X.env:=by rfl) (hline:(apos.endLine==cpos.line)=true:=by rfl):PE X (.Call (.Attribute o name apos) [] [] cpos) (jki X.K T r to):=by
 intro pins s σ H Q I h;refine wpAny_Call_method0_late hbase hline (thn (ho pins s σ H _ I h) fun v s1 ⟨x,H1,I1,r1,ty,q1⟩=>?_);obtain⟨h1,h2⟩:=jhO I1 r1 ty;exact⟨T,id,pa,slot,hty,h1,h2,Calls.callWith_builtin rfl (PySem.evalArgs_none (hm pins s1 σ H1 x [] v [] Q I1 r1 .nil q1))⟩
def zQ (pa:PlainAttrs T) (slot:Slot T name id) (hty:typeOf (.builtin id)=pure (.type "method_descriptor")) (hm:MtR X id r) (ho:PE X o to) (ha:PA X (e::es) t)
  (hbase:attributeBase o name X.env (eval o X.env)=eval o X.env:=by rfl)
  (hfew:((backTo cpos (starEach (e::es) X.env)).all (fun x=>!x.1)&&(backToKw cpos (keywordEach [] X.env)).all (fun x=>x.1.isSome)
  &&decide ((e::es).length+([]:List Keyword).length+(if ([]:List Keyword).isEmpty then 0 else 1)<30))=true:=by rfl)
  (hline:(apos.endLine==cpos.line)=true:=by rfl) (hs:starEach (e::es) X.env=(false,eval e X.env)::starEach es X.env:=by rfl) (hplain:(backTo cpos (starEach es X.env)).any (·.1)=false:=by rfl) :
  PE X (.Call (.Attribute o name apos) (e::es) [] cpos) (tBM X.K T r to t):=by
 intro pins s σ H Q I h;refine wpAny_Call_method_late hbase hfew hline rfl (thn (ho pins s σ H _ I h) fun v s1 ⟨x,H1,I1,r1,ty,q1⟩=>?_);obtain⟨h1,h2⟩:=jhO I1 r1 ty;refine⟨T,id,pa,slot,hty,h1,h2,?_⟩;have hA:=ha cpos pins s1 σ H1 _ I1 q1;rw[hs] at hA ⊢;refine Calls.callWith_builtin (by show (false||(backTo cpos (starEach es X.env)).any (·.1))=false; rw[hplain] <;> rfl) (Calls.evalArgs_plain ?_)
 exact thn hA fun us s2 ⟨vs,H2,I2,r2,q2⟩=>hm pins s2 σ H2 x vs v us Q I2 r1 r2 q2
end
def MtM (X:Cx) (id:String) (r:V->List V->Hp->VK->Prop):Prop:=
 ∀ (pins:List (Addr×Obj)) (s:Shared) (σ:St) (H:Hp) (x:V) (xs:List V) (v:Value) (us:List Value) (Q:VK),Inv X pins σ H s->RelV x v->Vals xs us->r x xs H Q ->
  wpAny (model X.prog X.w) X.A (call (.builtin id) (v::us)) (EP X pins σ Q) X.xe s
def Vals.one:∀ {x:V}{us:List Value},Vals [x] us->∃ u,us=[u]/\RelV x u
 | _,_,.cons r .nil=>⟨_,rfl,r⟩
def Vals.two:∀ {x y:V}{us:List Value},Vals [x,y] us->∃ u v,us=[u,v]/\RelV x u/\RelV y v
 | _,_,_,.cons r (.cons q .nil)=>⟨_,_,rfl,r,q⟩
def Vals.zero:∀ {us:List Value},Vals [] us->us=[]
 | _,.nil=>rfl
def Vals.dropLast (h:Vals xs us):Vals xs.dropLast us.dropLast:=by
 induction h with
 | nil=>exact .nil
 | cons r t ih=>
  cases t with
  | nil=>exact .nil
  | cons q t'=>exact .cons r ih
def Vals.rep (h:Vals xs us):∀ k:Nat,Vals (List.replicate k xs).flatten (List.replicate k us).flatten
 | 0=>.nil
 | k+1=>by
  rw[List.replicate_succ,List.replicate_succ,List.flatten_cons,List.flatten_cons];exact Vals.append h (Vals.rep h k)
def jc1 (l:List α):l.eraseIdx (l.length-1)=l.dropLast:=by
 induction l with
 | nil=>rfl
 | cons a r ih=>
  cases r with
  | nil=>rfl
  | cons b r=>
   have e:(a::b::r).length-1=((b::r).length-1)+1:=by
    have h1:(a::b::r).length=r.length+2:=rfl;have h2:(b::r).length=r.length+1:=rfl;omega
   rw[e,List.eraseIdx_cons_succ,ih]
   all_goals rfl
def Zx (its:List Value):∀ (k:Nat) (acc:List Value),
  List.foldl (fun x1 x2=>x1++x2) acc.toArray (List.replicate k its.toArray)=(acc++(List.replicate k its).flatten).toArray
 | 0,acc=>by simp
 | k+1,acc=>by
  have e:acc.toArray++its.toArray=(acc++its).toArray:=by simp
  have e2:(acc++its)++(List.replicate k its).flatten=acc++(List.replicate (k+1) its).flatten:=by
   rw[List.replicate_succ,List.flatten_cons,List.append_assoc]
  rw[<- e2,<- Zx its k (acc++its),<- e,List.replicate_succ,List.foldl_cons]
section
variable {l b:Addr}{zs:List V}
def Inv.lset {f:Array Value->Array Value} (I:Inv X pins σ H s) (hH:H l=some (.lst xs))
  (e:s.heap.get? l=some { cls:=.type "list",data:=.seq its.toArray n }) (hf:f its.toArray=its'.toArray) (hv:Vals ys its') (hz:ys.length<=sizeLine) :
  Inv X pins σ (upd H l (.lst ys)) { s with heap:=s.heap.update l (Obj.mapSeq f),toks:=t' }:=by
 have q:=PySem.IsL.update e f;rw[hf] at q;refine I.write (x:=l) (e:=l) (by rw[hH]; exact trivial) (.inl rfl) (fun b' u hb hu=>(Heap.get?_update_other s.heap (Obj.mapSeq f) (Ne.symm hb)).trans hu) ⟨_,q⟩ ?_;exact⟨hz,its',_,hv,q⟩
def Inv.lnew (I:Inv X pins σ H s) (hv:Vals ys its) (hz:ys.length<=sizeLine) :
  Inv X pins σ (upd H s.heap.objs.size (.lst ys)) { s with heap:=s.heap.push { cls:=.type "list",data:=.seq its.toArray },toks:=t' }:=
 I.laid (fun _ _ q=>Xd _ q) (Xe _) ⟨hz,its,0,hv,Xi _ rfl⟩
def Inv.fresh (I:Inv X pins σ H s):H s.heap.objs.size=none:=I.hok.fresh (Xe _)
def Inv.lstM (I:Inv X pins σ H s) (hH:H l=some (.lst xs)):xs.length<=sizeLine/\∃ (its:List Value) (n:Nat),Vals xs its/\xs.length=its.length/\s.heap.get? l=some { cls:=.type "list",data:=.seq its.toArray n }:=by
 obtain⟨z,its,n,r,e⟩:=I.hok l _ hH;exact⟨z,its,n,r,r.length,e⟩
def jb2 (h:n<=sizeLine):Builtin.List.listTooLong n=false:=by
 unfold Builtin.List.listTooLong;exact Xk (by omega)
end
section
def Ui:V->List V->Hp->VK->Prop:=fun x vs H Q=>∃ l xs y,x=.ref l/\vs=[y]/\H l=some (.lst xs)/\xs.length<sizeLine/\Q .non (upd H l (.lst (xs++[y])))
def yx:MtM X "list.append" Ui:=by
 intro pins s σ H x vs v us Q I rx rv h;obtain⟨l,xs,y,rfl,rfl,hH,hz,q⟩:=h;cases rx;obtain⟨u,rfl,ru⟩:=rv.one;obtain⟨z,its,n,r,hl,e⟩:=I.lstM hH;refine call_meets F.slot_list_append ⟨_,e,rfl⟩ F.entry_list_append (F.args_list_append_2 _ _) (PySem.list_append l its.toArray n u (by rw[Xg]; omega)) ⟨e,?_⟩;refine⟨.non,_,I.lset (its':=its++[u]) hH e (by simp) (r.append (.cons ru .nil)) ?_,rfl,q⟩;rw[XE,List.length_singleton];omega
def jed:V->List V->Hp->VK->Prop:=fun x vs H Q=>∃ l b xs zs,x=.ref l/\vs=[.ref b]/\H l=some (.lst xs)/\H b=some (.lst zs)/\xs.length+zs.length<=sizeLine/\Q .non (upd H l (.lst (xs++zs)))
def Zy:MtM X "list.extend" jed:=by
 intro pins s σ H x vs v us Q I rx rv h;obtain⟨l,b,xs,zs,rfl,rfl,hH,hB,hz,q⟩:=h;cases rx;obtain⟨u,rfl,ru⟩:=rv.one;cases ru;obtain⟨z,its,n,r,hl,e⟩:=I.lstM hH;obtain⟨z2,its2,n2,r2,hl2,e2⟩:=I.lstM hB;have hsz:its.toArray.size+its2.toArray.size<=sizeLine:=by rw[Xg,Xg]; omega
 have hlong:¬ (!its.toArray.isEmpty&&Builtin.List.listTooLong (its.toArray.size+its2.toArray.size))=true:=by
  rw[jb2 hsz,Bool.and_false];exact Xh
 refine call_meets F.slot_list_extend ⟨_,e,rfl⟩ F.entry_list_extend (F.args_list_extend_2 _ _)
  (AutoSeq1.list_extend_list_list_0 l its.toArray n b its2.toArray n2 hlong (by rw[Xg]; omega) (by omega)) ⟨e,e2,?_⟩
 refine⟨.non,_,I.lset (its':=its++its2) hH e (by simp) (r.append r2) ?_,rfl,q⟩;rw[XE];omega
def jmH:V->List V->Hp->VK->Prop:=fun x vs H Q=>∃ l xs y,x=.ref l/\vs=[]/\H l=some (.lst xs)/\xs[xs.length-1]?=some y/\Q y (upd H l (.lst xs.dropLast))
def jkj:MtM X "list.pop" jmH:=by
 intro pins s σ H x vs v us Q I rx rv h;obtain⟨l,xs,y,rfl,rfl,hH,hy,q⟩:=h;cases rx;have hus:=rv.zero;subst hus;obtain⟨z,its,n,r,hl,e⟩:=I.lstM hH;obtain⟨u,hu,ru⟩:=r.get hy;have hy':its.toArray[its.toArray.size-1]?=some u:=by
  show its.toArray[its.length-1]?=some u;rw[<- Array.getElem?_toList,<- hl];exact hu
 refine call_meets F.slot_list_pop ⟨_,e,rfl⟩ F.entry_list_pop (F.args_list_pop_1 _) (MeetsSeq.list_pop_last l its.toArray n u hy' (by rw[Xg]; omega)) ⟨e,?_⟩;refine⟨y,_,I.lset (its':=its.dropLast) hH e ?_ r.dropLast ?_,ru,q⟩
 ·show its.toArray.eraseIdxIfInBounds (its.toArray.size-1)=its.dropLast.toArray;rw[Xg,List.eraseIdxIfInBounds_toArray,jc1]
 ·rw[List.length_dropLast];omega
def jmI:R2:=fun x y H Q=>∃ l b xs zs,x=.ref l/\y=.ref b/\H l=some (.lst xs)/\H b=some (.lst zs)/\xs.length+zs.length<=sizeLine/\∀ p,H p=none->Q (.ref p) (upd H p (.lst (xs++zs)))
def Vi:OpR X (binaryOp .Add) jmI:=by
 intro pins s σ H x y v u Q I rx ry h;obtain⟨l,b,xs,zs,rfl,rfl,hH,hB,hz,q⟩:=h;cases rx;cases ry;obtain⟨z,its,n,r,hl,e⟩:=I.lstM hH;obtain⟨z2,its2,n2,r2,hl2,e2⟩:=I.lstM hB;refine PySem.P.add_list e e2 ?_ (by rw[Xg,Xg]; omega);have ea:its.toArray++its2.toArray=(its++its2).toArray:=by simp
 rw[ea];exact⟨.ref _,_,I.lnew (t':=s.toks) (r.append r2) (by rw[XE]; omega),rfl,q _ I.fresh⟩
def jmJ:R2:=fun x y H Q=>∃ l k xs,x=.ref l/\y=.int k/\H l=some (.lst xs)/\-(2 ^ 63)<=k/\k<2 ^ 63/\xs.length * k.toNat<=sizeLine /\
 ∀ p,H p=none->Q (.ref p) (upd H p (.lst (List.replicate k.toNat xs).flatten))
def jiD (xs:List α) (k:Nat):(List.replicate k xs).flatten.length=k * xs.length:=by
 induction k with
 | zero=>simp
 | succ k ih=>rw[List.replicate_succ,List.flatten_cons,XE,ih,Nat.succ_mul,Nat.add_comm]
def jee:OpR X (binaryOp .Mult) jmJ:=by
 intro pins s σ H x y v u Q I rx ry h;obtain⟨l,k,xs,rfl,rfl,hH,h1,h2,hz,q⟩:=h;cases rx;obtain⟨t,rfl⟩:=ry;obtain⟨z,its,n,r,hl,e⟩:=I.lstM hH;have hlen:its.toArray.size * k.toNat<=sizeLine:=by rw[Xg,<- hl]; exact hz
 have hcap:¬ its.toArray.size * k.toNat > (2 ^ 63-1) / 8:=by
  have:(sizeLine:Nat)<=(2 ^ 63-1) / 8:=by decide
  omega
 have hfit:¬ (!Builtin.List.listFitsIndex k)=true:=by
  rw[fitsIndex_both h1 h2];exact Xh
 have hlong:¬ Builtin.List.listTooLong (its.toArray.size * k.toNat)=true:=by
  rw[jb2 hlen];exact Xh
 have hnew:List.foldl (fun x1 x2=>x1++x2) #[] (List.replicate (if its.toArray.isEmpty=true then 0 else k.toNat) its.toArray)=(List.replicate k.toNat its).flatten.toArray:=by
  have f0:∀ m:Nat,List.foldl (fun x1 x2=>x1++x2) #[] (List.replicate m its.toArray)=(List.replicate m its).flatten.toArray:=fun m=>by
   have:=Zx its m [];rw[List.nil_append] at this;exact this
  rw[f0];cases its with
  | nil=>simp
  | cons a r'=>rw[if_neg (by simp)]
 refine wpAny_binaryOp_repeat_ref (T:="list") (U:="int") (by decide) ⟨_,e,rfl⟩ (fun s'=>typeIs_int s' k t) noFill_list_mul F.fills_int_mul F.slot_int_rmul repeat_list F.slot_int_index.lookup
  (call_meets F.slot_int_rmul (typeIs_int s k t) F.entry_int_rmul (F.args_int_rmul_2 _ _) (int___rmul___int_list k t l its.toArray n)
   ⟨e,rfl,⟨_,e,rfl⟩,call_meets F.slot_list_mul ⟨_,e,rfl⟩ F.entry_list_mul (F.args_list_mul_2 _ _) (AutoListH.list___mul___list_int_3 l its.toArray n k t hfit hcap hlong) ⟨e,?_⟩⟩)
 rw[hnew];exact⟨.ref _,_,I.lnew (t':=s.toks) (r.rep k.toNat) (by rw[jiD,Nat.mul_comm]; exact hz),rfl,q _ I.fresh⟩
end
end L2
variable {tl th:L2.TO}
namespace Att
open PySem PySem.W PySem.Calls PyProof.Rows
def Vj {P:Params} :∀ (ns:List Int) (vs:List Value),WellAll P h vs (ns.map WData.int)->IntsAre vs ns:=by
 intro ns
 induction ns with
 | nil=>
  intro vs w;rw[List.map_nil] at w;cases w;exact .nil
 | cons n ns ih=>
  intro vs w;rw[List.map_cons] at w;cases w with
  | cons a b=>
   cases a;exact .cons _ _ (ih _ b)
def jef {l:OpenLaw} (hn:l.most=some n) {P:Params}{args:List WData}{vals:List Value}
  (hpre:l.row.toRowW.claim.pre args=true) (hwl:WellAll P h vals args) :
  ∃ a vs ns,vals=[Value.ref a]/\args=[WData.list (ns.map WData.int)]/\h.get? a=some { cls:=.type "list",data:=.seq vs.toArray }/\IntsAre vs ns/\ns.length<=n:=by
 have hsh:WShape.hasAll [] args [.list .int]=true:=(pre_splitW hpre).1;have hc:l.pre.holds [] { args:=args }=true:=(pre_splitW hpre).2;obtain⟨d,r,rfl,h1,h2⟩:=hasAllW_cons hsh;obtain rfl:=hasAllW_nil h2;obtain⟨xs,rfl,h3⟩:=hasW_list h1;obtain⟨ns,rfl⟩:=items_int h3;have hlen:ns.length<=n:=by
  unfold OpenLaw.pre at hc;have h4:(WTm.not (.lt (.lit (.int (n:Int))) (.len (.arg 0)))).holds [] { args:=[.list (ns.map .int)] }=true:=by
   have h4:=(holds_andW hc).1;rw[hn] at h4;exact h4
  have h5:=condW_of h4 (w_not (w_lt w_lit (w_len_list (w_arg rfl))));rw[List.length_map] at h5;refine Nat.le_of_not_lt fun q=>?_;have q':(n:Int)<((ns.length:Nat):Int):=by omega
  first
   | (rw[decide_eq_true q'] at h5; exact absurd h5 (by decide))
   | (simp at h5; omega)
 cases hwl with
 | cons w1 w2=>
  cases w2;cases w1 with
  | list ho hall=>exact ⟨_,_,ns,rfl,rfl,ho,Vj ns _ hall,hlen⟩
def jeg (l:OpenLaw) (args:List WData):l.row.toRowW.claim.post args (.bool true) args=true:=
 postW_of (r:=l.row.toRowW) (X:=(true==true))
  (show WShape.has [] (.bool true) .bool=true by first | rfl | decide | simp[WShape.has,WShape.arms,WShape.armsAll])
  (show (WTm.eq .res (.lit (.bool true))).value [] { args:=args,res:=some (.bool true),after:=args }=some (.bool (true==true)) from w_eq_bool (w_res rfl) w_lit) rfl
def attach_call {l:OpenLaw}{q:Program}{d:DefRec}
  (hn:l.most=some n) (hdf:d.params.defaults=[])
  (call:∀ (w:World) (s₀ s₁:Shared) (mg mb:Str->Option Value) (fa:Addr) (o:Obj) (pm cd doc:Value) (a:Addr) (vs:List Value) (ns:List Int),
   Ground q loose [] XP w s₀ mg mb s₁.heap->YP w s₁.heap ->
   s₁.heap.get? fa=some o->o.data=.func (docDef d.name d.params d.body d.scope pm cd doc)->s₁.heap.CodeRec cd d.name->mg d.name=some (.ref fa) ->
   s₁.heap.get? a=some { cls:=.type "list",data:=.seq vs.toArray }->IntsAre vs ns->ns.length<=n->s₁.gens=#[] ->
   codeAny (model l.prog w) callerA (.call (.ref fa) ⟨[.ref a],[]⟩) (fun r s'=>r=.ok (.ret (.bool true))/\OldK s₁.heap s'.heap/\s'.os=s₁.os/\AllBare s'.gens) s₁) :
  WalkO q loose XP YP l.row.toRowW d [] (fun f vs=>PySem.call f vs):=by
 intro w s₀ s₁ mg mb G Y fa o pm cd doc dV kV ho hd hcd hD hmg hg args vals as hpre hlay hrd hwl hlo;obtain rfl:dV=.none:=Dflts.none hD hdf;obtain rfl:kV=.none:=Dflts.noKw hD;obtain⟨a,vs,ns,rfl,rfl,hobj,hints,hlen⟩:=jef hn hpre hwl;refine enter_call (codeAny_mono (call w s₀ s₁ mg mb fa o pm cd doc a vs ns G Y ho (fd_plain hd) hcd hmg hobj hints hlen hg) fun r s' hq=>?_);obtain⟨rfl,h2,h3,h4⟩:=hq;exact⟨.inl ⟨.bool true,.bool true,[],rfl,fun _=>rfl,.bool true,jeg l _,fun _=>⟨List.Pairwise.nil,fun _ hm=>(nomatch hm)⟩⟩,h2,h3,h4⟩
end Att
namespace L2
open PySem PySem.Spec PyProof.Rows
def Zz:∀ {vs:List Value}{ns:List Int},IntsAre vs ns->Vals (ns.map V.int) vs
 | _,_,.nil=>.nil
 | _,_,.cons n t h=>.cons ⟨t,rfl⟩ (Zz h)
def jlO (H:Hp):Prop:=∀ b,H b=none \/ ∃ o xs,H b=some (.frz o (.lst xs))
def jgr {mb:Str->Option Value}{CX:CXT}{k:Nat}{fa:Addr}{s₁:Shared} 
  (KX:K.In s₁.heap) (hns:s₁.heap.Ns mainGlobals mg) (hb:s₁.heap.Ns builtinsNs mb) (hbb:∀ x:Str,x≠"__name__"->mb x=bootBuiltins x) (hlim:s₁.heap.NoLimit) (hg:s₁.gens=#[])
  (ha:s₁.heap.get? a=some { cls:=.type "list",data:=.seq vs.toArray }) (hi:IntsAre vs ns) (hl:ns.length<=sizeLine) (hr:Room k callerA)
  (F:∀ base:Heap,K.In base->base.Ns mainGlobals mg->FnOk P w K mg base CX k fa fd [x] sp) (hbind:∀ (s:Shared) (u:Value),BindsTo s fd ⟨[u],[]⟩ [(x,u)])
  (hsp:∀ H:Hp,jlO H->SqL K H a (ns.map V.int)->sp [.ref a] H (fun v _=>v=.bl true) fun _ _ _=>False)
  (hCX:∀ H e s',CX [] H s₁ (fun _ _ _=>False) e s'->False) :
  codeAny (model P w) callerA (.call (.ref fa) ⟨[.ref a],[]⟩) (fun r s'=>r=.ok (.ret (.bool true))/\OldK s₁.heap s'.heap/\s'.os=s₁.os/\AllBare s'.gens) s₁:=by
 have rv:=Zz hi;have lenV:=hi.length;have core:∀ H:Hp,jlO H->SqL K H a (ns.map V.int)->HOk P w H s₁.heap->(∀ b,H b≠none->b=a)->(H a≠none->K.lookup a=none) ->
   codeAny (model P w) callerA (.call (.ref fa) ⟨[.ref a],[]⟩) (fun r s'=>r=.ok (.ret (.bool true))/\OldK s₁.heap s'.heap/\s'.os=s₁.os/\AllBare s'.gens) s₁:=by
  intro H hO hS hok hA hK;have base_of:∀ {b:Addr}{o:Obj},s₁.heap.get? b=some o->H b=none->(jgd s₁.heap H).get? b=some o:=fun e n=>jge e n;have noA:∀ {b:Addr}{o:Obj}{es:Array DictEntry}{ep:Nat},s₁.heap.get? b=some o->o.data=.dict es ep->H b=none:=fun {b o es ep} e d=>by
   cases q:H b with
   | none=>rfl
   | some u=>
    have e':b=a:=hA b (by rw[q]; simp);subst e';rw[ha] at e; cases e;have d':Data.seq vs.toArray _=Data.dict es ep:=d;cases d'
  have nsK:∀ {b:Addr}{m:Str->Option Value},s₁.heap.Ns b m->(jgd s₁.heap H).Ns b m:=fun {b m} ⟨o,es,ep,e,d,r⟩=>⟨o,es,ep,base_of e (noA e d),d,r⟩;have hKb:K.In (jgd s₁.heap H):=fun b o e=>base_of (KX b o e) (by
   cases q:H b with
   | none=>rfl
   | some u=>
    have e':b=a:=hA b (by rw[q]; simp);subst e';rw[hK (by rw[q]; simp)] at e; cases e)
  have hM:Mod K mg (jgd s₁.heap H):=⟨hKb,nsK hns,⟨mb,nsK hb,hbb⟩,let ⟨mc,h1,h2⟩:=hlim; ⟨mc,nsK h1,h2⟩⟩;have e0:Env0 P w K mg (jgd s₁.heap H) callerA [] s₁ H:=⟨rfl,hM,fun b o e=>jis e,Nat.le_of_eq (jdS _ _),trivial,fun b hb=>absurd (show b∈([]:List Addr) from hb) (by simp),hok,.of_eq hg⟩;refine codeAny_mono ((F _ hKb (nsK hns)).run callerA [] s₁ H ⟨[.ref a],[]⟩ [.ref a] [.ref a] _ _ hr e0 (hbind s₁ (.ref a)) (.cons rfl .nil) (hsp H hO hS)) fun r s' h=>?_;cases r with
  | error e=>exact (hCX H e s' h).elim
  | ok fl=>
   cases fl with
   | next=>exact False.elim h
   | brk=>exact False.elim h
   | cont=>exact False.elim h
   | ret u=>
    obtain⟨v,H',os,bare,un,hok',r',q⟩:=h;have q':v=.bl true:=q;subst q';obtain rfl:u=Value.bool true:=r';refine⟨rfl,OldK.of_keep fun b o e=>?_,os,bare⟩;cases q:H b with
    | none=>exact un.keep b o e q (by intro z; exact absurd (show b∈([]:List Addr) from z) (by simp)) (by simp)
    | some u=>
     rcases hO b with z | ⟨ob,xs,z⟩
     ·rw[q] at z; cases z
     ·have z2:=un.frzs b ob _ z;obtain⟨e1,_⟩:=hok b _ z;obtain⟨e2,_⟩:=hok' b _ z2;rw[e] at e1; cases e1;exact e2
 cases hk:K.lookup a with
 | some o=>
  have e:=KX a o hk;rw[ha] at e;cases e;refine core (fun _=>none) (fun _=>.inl rfl) (.inr ⟨_,vs.toArray,_,hk,rfl,rfl,rfl,by rw[Xg,lenV]; exact hl,by simpa using rv⟩) (fun b u z=>by have z':(none:Option HO)=some u:=z; cases z') (fun b z=>absurd rfl z) fun z=>absurd rfl z
 | none=>
  refine core (fun b=>if b=a then some (.frz { cls:=.type "list",data:=.seq vs.toArray } (.lst (ns.map V.int))) else none) (fun b=>?_) (.inl (.inr ⟨{ cls:=.type "list",data:=.seq vs.toArray },if_pos rfl⟩)) (fun b u z=>?_) (fun b z=>?_) fun _=>hk
  ·by_cases hb:b=a
   ·exact .inr ⟨_,_,if_pos hb⟩
   ·exact .inl (if_neg hb)
  ·by_cases hb:b=a
   ·have z':=(if_pos hb).symm.trans z;cases z';subst hb;exact⟨ha,by rw[Xj]; exact hl,vs,_,rv,ha⟩
   ·have z':=(if_neg hb).symm.trans z;cases z'
  ·by_cases hb:b=a
   ·exact hb
   ·exact absurd (if_neg hb) z
def walk_of {l:W.OpenLaw}{k:Nat}{q:Program}{d:DefRec}{K:Params->W.Frag}{CX:World->CXT}{sp:World->Sp} 
  (hn:l.most=some n) (hn2:n<=sizeLine) (hdf:d.params.defaults=[]) (hr:Room k callerA)
  (hY:∀ (w:World) (h:Heap),YP w h->(K w.params).In h)
  (F:∀ (w:World) (mg:Str->Option Value) (fa:Addr) (h:Heap),(K w.params).In h->h.Ns mainGlobals mg->mg d.name=some (.ref fa) ->
   ∃ fd:FuncData,(∀ (s:Shared) (u:Value),BindsTo s fd ⟨[u],[]⟩ [(x,u)]) /\
    ∀ base:Heap,(K w.params).In base->base.Ns mainGlobals mg->FnOk l.prog w (K w.params) mg base (CX w) k fa fd [x] (sp w))
  (hsp:∀ (w:World) (H:Hp) (a:Addr) (ns:List Int),ns.length<=n->jlO H->SqL (K w.params) H a (ns.map V.int)->sp w [.ref a] H (fun v _=>v=.bl true) fun _ _ _=>False)
  (hCX:∀ (w:World) (H:Hp) (s:Shared) (e:Value) (s':Shared),CX w [] H s (fun _ _ _=>False) e s'->False) :
  W.WalkO q loose XP YP l.row.toRowW d [] (fun f vs=>PySem.call f vs):=by
 refine Att.attach_call hn hdf fun w s₀ s₁ mg mb fa o pm cd doc a vs ns G Y ho hd hcd hmg hobj hints hlen hg=>?_;have KX:=hY w _ Y;obtain⟨fd,hb,hF⟩:=F w mg fa _ KX G.T.g hmg;exact jgr KX G.T.g G.T.b G.T.builtins G.T.nolimit hg hobj hints (XW hlen hn2) hr hF hb (fun H hO hS=>hsp w H a ns hlen hO hS) fun H e s'=>hCX w H s₁ e s'
def jC (s:Stmt) (j:Nat):Stmt:=match s with
 | .ClassDef _ _ _ body _ _ _ _ _ _ _=>body.getD j (.Pass ⟨0,0,0,0⟩)
 | _=>.Pass ⟨0,0,0,0⟩
def yg (s:Stmt):Arguments:=match s with
 | .FunctionDef _ a _ _ _ _ _ _ _ _=>a
 | _=>{ posonlyargs:=[],args:=[],vararg:=none,kwonlyargs:=[],kw_defaults:=[],kwarg:=none,defaults:=[] }
def qX (s:Stmt):List Stmt:=match s with
 | .FunctionDef _ _ b _ _ _ _ _ _ _=>b
 | _=>[]
def jD (s:Stmt):Scope:=match s with
 | .FunctionDef _ _ _ _ _ _ sc _ _ _=>sc
 | _=>{ kind:=.function,names:=[],isGenerator:=false,isCoroutine:=false }
abbrev CX0:CXT:=fun _ _ _ _ _ _=>False
abbrev E0:XK:=fun _ _ _=>False
def jc2:UN CX0 X E0:=fun _ _ _ _ _ _ _ h=>h.elim
structure Fun (K:W.Frag) (x qual:Str) (st:Stmt) (f:Addr) (fd:FuncData):Prop where
 ex:∃ (oc:Value) (od:Option Addr) (kV doc pm:Value) (an:Option Addr) (cdv ct:Value) (osl:Array (Option Value)),
  fd=W.fnOf x qual (yg st) (qX st) (jD st) .none kV doc pm an cdv ct/\K.lookup f=some ⟨oc,od,.func fd,osl⟩/\W.codeIn K cdv qual=true
 kp:W.keepIn K (.ref f)=true
section
def Fun.ok {f:Addr}{k:Nat} (F:Fun K x qual st f fd) (S:FnScope N ps (jD st)) (len:∀ vs H Q E,sp vs H Q E->vs.length=ps.length)
  (hbody:∀ (cdv:Value) (A:Around) (outer:List Env) (s:Shared) (H:Hp) (vs:List V) (Q:VK) (E:XK),Room k (A.deeper (envOfC qual (jD st) s.heap.objs.size f cdv))->sp vs H Q E ->
   ∃ t,PSs (jd7 CX0 P w K mg base N qual (jD st) f cdv A outer s H E).nox (qX st) t/\t { nx:=fun _ H'=>Q .non H',rt:=Q } (GG N vs) H):FnOk P w K mg base CX0 (k+1) f fd ps sp:=by
 obtain⟨oc,od,kV,doc,pm,an,cdv,ct,osl,rfl,lk,hcd⟩:=F.ex;refine jkd lk hcd S len fun A outer s H vs Q E hr hsp=>?_;obtain⟨t,h,q⟩:=hbody cdv A outer s H vs Q E hr hsp;exact⟨t,h.nox,q⟩
def Fun.binds {f:Addr} (F:Fun K x qual st f fd)
  (h:∀ (kV doc pm:Value) (an:Option Addr) (cdv ct:Value) (us:List Value),us.length=ps.length->bindArgs (W.fnOf x qual (yg st) (qX st) (jD st) .none kV doc pm an cdv ct) ⟨us,[]⟩=pure (ps.zip us)):Binds K fd ps []:=by
 obtain⟨oc,od,kV,doc,pm,an,cdv,ct,osl,rfl,lk,hcd⟩:=F.ex;exact .all (h kV doc pm an cdv ct)
def jb3 {f:Addr}{kV ct:Value} (l:K.lookup f=some ⟨oc,od,.func (W.fnOf x qual (yg st) (qX st) (jD st) .none kV doc pm an cdv ct),osl⟩)
  (c:W.codeIn K cdv qual=true) (k:W.keepIn K (.ref f)=true):Fun K x qual st f (W.fnOf x qual (yg st) (qX st) (jD st) .none kV doc pm an cdv ct):=⟨⟨oc,od,kV,doc,pm,an,cdv,ct,osl,rfl,l,c⟩,k⟩
end
section
def pv (i:Nat) (hN:X.N[i]?=some x:=by rfl) (hv:Vis X.env.scope x:=by first | exact Or.inl rfl | exact Or.inr (Or.inl rfl) | exact Or.inr (Or.inr rfl)) (hd:(x==("__debug__":Str))=false:=by decide)
  (hcd:(x==("__classdict__":Str))=false:=by decide):PE X (.Name x pos) (Jo i):=jj8 hN hv hd hcd
end
def jb4 {A B:Prop} (h:B):if false=true then A else B:=by
 rw[if_neg Xh];exact h
def jb5 {A B:Prop} (h:A):if true=true then A else B:=by
 rw[if_pos rfl];exact h
def Same (H H':Hp):Prop:=∀ b o,H b=some o->H' b=some o
def Same.refl (H:Hp):Same H H:=fun _ _ h=>h
def Same.trans {H2:Hp} (a:Same H H1) (b:Same H1 H2):Same H H2:=fun c o h=>b c o (a c o h)
def Same.free (e:Same H H') {l:Addr} (h:H' l=Option.none):H l=Option.none:=by
 cases q:H l with
 | none=>rfl
 | some o=>
  rw[e l o q] at h;cases h
def Same.seq (e:Same H H') (h:SqL K H a xs):SqL K H' a xs:=by
 rcases h with (h | ⟨o,h⟩) | h
 ·exact .inl (.inl (e _ _ h))
 ·exact .inl (.inr ⟨o,e _ _ h⟩)
 ·exact .inr h
end L2
namespace MB
open PySem
def and_nat (a b:Nat):Builtin.bitAnd (a:Int) (b:Int)=((a &&& b:Nat):Int):=by
 unfold Builtin.bitAnd;have h1:decide (0<=(a:Int))=true:=by simp
 have h2:decide (0<=(b:Int))=true:=by simp
 rw[h1,h2];simp
def jc3 {b m:Nat} (hm:b<2 ^ m) (hmn:m<=n):(List.range m).filter (fun t=>b.testBit t)=(List.range n).filter (fun t=>b.testBit t):=by
 obtain⟨k,rfl⟩:=Nat.exists_eq_add_of_le hmn
 induction k with
 | zero=>rfl
 | succ k ih=>
  rw[show m+(k+1)=(m+k)+1 from rfl,List.range_succ,List.filter_append,<- ih (by omega)];have:b.testBit (m+k)=false:=Nat.testBit_lt_two_pow (Nat.lt_of_lt_of_le hm (Nat.pow_le_pow_right (by decide) (by omega)));simp[this]
def jiE (b:Nat):b<2 ^ Builtin.Int.intBits (b:Int):=by
 have:=(PySem.intBits_le_iff (m:=Builtin.Int.intBits (b:Int)) (x:=(b:Int))).mp (Nat.le_refl _);simpa using this
def bits_le {b m:Nat} (h:b<2 ^ m):Builtin.Int.intBits (b:Int)<=m:=PySem.intBits_le_iff.mpr (by simpa using h)
def things_eq {b:Nat} (h:b<2 ^ n):(List.range (Builtin.Int.intBits (b:Int))).filter (fun t=>b.testBit t)=(List.range n).filter (fun t=>b.testBit t):=jc3 (jiE b) (bits_le h)
end MB
namespace L2
open PySem PySem.Spec PyProof.Rows
def ane {a b:Nat} (h:a<b \/ b<a):@Ne Addr a b:=fun e=>by
 have e':(a:Nat)=b:=e;omega
def clo (env:Env):List (Str×NameKind)->List (Str×Addr)->List (Str×Addr)
 | [],acc=>acc
 | (n,k)::r,acc=>if k==.free then clo env r ((n,(env.cells.lookup n).getD 0)::acc) else clo env r acc
def QV (h:∀ x∈scope.names,x.2=.free->∃ c,env.cells.lookup x.1=some c):closureFor scope env=pure (clo env scope.names []):=by
 unfold closureFor;have key:∀ (l:List (Str×NameKind)) (acc:List (Str×Addr)),(∀ x∈l,x.2=.free->∃ c,env.cells.lookup x.1=some c) ->
   ∀ (f:Str×NameKind->List (Str×Addr)->Sem (ForInStep (List (Str×Addr)))),(∀ n k cs,f (n,k) cs=if (k==NameKind.free)=true then (do let a <- cellOf env n; pure (ForInStep.yield ((n,a)::cs))) else pure (ForInStep.yield cs)) ->
   forIn l acc f=(pure (clo env l acc):Sem (List (Str×Addr))):=by
  intro l
  induction l with
  | nil=>intro acc _ f _; rfl
  | cons x r ih=>
   intro acc hl f hf;obtain⟨n,k⟩:=x;rw[List.forIn_cons,hf];have ih':=fun acc'=>ih acc' (fun y hy=>hl y (Xn _ hy)) f hf;show _=pure (if (k==NameKind.free)=true then _ else _);by_cases hk:(k==NameKind.free)=true
   ·obtain⟨c,hc⟩:=hl (n,k) Xo (by simpa using hk);have e:cellOf env n=pure c:=by unfold cellOf; rw[hc]
    rw[if_pos hk,if_pos hk,e,pure_bind,pure_bind,hc];exact ih' _
   ·rw[if_neg hk,if_neg hk,pure_bind];exact ih' _
 refine Eq.trans (congrArg (fun z=>z >>= fun cs=>pure cs) (key scope.names [] h _ fun n k cs=>?_)) (pure_bind _ _);by_cases hk:(k==NameKind.free)=true
 ·simp[hk]
 ·simp[hk]
def WU:∀ (l:List (Str×NameKind)) (acc:List (Str×Addr)),(∀ x∈l,x.2=.free->∃ c,env.cells.lookup x.1=some c)->(∀ y d,acc.lookup y=some d->env.cells.lookup y=some d) ->
  ∀ y d,(clo env l acc).lookup y=some d->env.cells.lookup y=some d
 | [],_,_,h,y,d,e=>h y d e
 | (n,k)::r,acc,hl,h,y,d,e=>by
  unfold clo at e;have hr:∀ x∈r,x.2=.free->∃ c,env.cells.lookup x.1=some c:=fun x hx=>hl x (Xn _ hx);by_cases hk:(k==NameKind.free)=true
  ·rw[if_pos hk] at e;obtain⟨c,hc⟩:=hl (n,k) Xo (by simpa using hk);refine WU r _ hr (fun z b hz=>?_) y d e;rw[XJ] at hz;cases hb:z==n with
   | true=>rw[hb] at hz; rw[beq_iff_eq.mp hb,hc] ; rw[hc] at hz; exact hz
   | false=>rw[hb] at hz; exact h z b hz
  ·rw[if_neg hk] at e;exact WU r acc hr h y d e
def WV:∀ (l:List (Str×NameKind)) (acc:List (Str×Addr)),(l.lookup x=some .free \/ ∃ c,acc.lookup x=some c)->∃ c,(clo env l acc).lookup x=some c
 | [],_,h=>h.elim (fun e=>by cases e) id
 | (n,k)::r,acc,h=>by
  unfold clo;by_cases hk:(k==NameKind.free)=true
  ·rw[if_pos hk];refine WV r _ ?_;cases hb:x==n with
   | true=>exact .inr ⟨_,by rw[XJ,hb]⟩
   | false=>
    rcases h with h | ⟨c,h⟩
    ·rw[XJ,hb] at h; exact .inl h
    ·exact .inr ⟨c,by rw[XJ,hb]; exact h⟩
  ·rw[if_neg hk];refine WV r _ ?_;rcases h with h | h
   ·cases hb:x==n with
    | true=>
     rw[XJ,hb] at h;cases h;exact absurd rfl hk
    | false=>rw[XJ,hb] at h; exact .inl h
   ·exact .inr h
def xP:∀ (l:List (Str×NameKind)) (n:Nat) (acc:List (Str×Addr)),cellsFrom n l acc=cellsFrom n l []++acc
 | [],_,_=>rfl
 | (x,k)::r,n,acc=>by
  unfold cellsFrom;by_cases hk:(k==NameKind.cell)=true
  ·rw[if_pos hk,if_pos hk,xP r (n+1) ((x,n)::acc),xP r (n+1) [(x,n)],List.append_assoc];rfl
  ·rw[if_neg hk,if_neg hk,xP r n acc]
def GZ {c:Addr}:∀ {l:List (Str×NameKind)}{n:Nat}{acc:List (Str×Addr)},(x,c)∈cellsFrom n l acc->(x,NameKind.cell)∈l \/ (x,c)∈acc
 | [],_,_,h=>.inr h
 | (y,k)::r,n,acc,h=>by
  unfold cellsFrom at h;by_cases hk:(k==NameKind.cell)=true
  ·rw[if_pos hk] at h;have hk':k=.cell:=by simpa using hk
   rcases GZ h with z | z
   ·exact .inl (Xn _ z)
   ·rcases List.mem_cons.mp z with e | z
    ·cases e;subst hk';exact .inl Xo
    ·exact .inr z
  ·rw[if_neg hk] at h;rcases GZ h with z | z
   ·exact .inl (Xn _ z)
   ·exact .inr z
def jeh {globals:Addr}{cl:List (Str×Addr)}{outer:Env}{Q:Env->Shared->Prop}
  (hQ:Q (newEnv scope s.heap.objs.size globals (cellsFrom (s.heap.objs.size+1) scope.names cl) qual none .none (some outer) builtinsNs)
   { s with heap:=pushCells (s.heap.push { cls:=.type "dict",data:=.dict #[] }) scope.names }) :
  wpAny M A (newFunctionEnv scope globals cl [] qual none .none (some outer)) Q E s:=by
 simp only[newFunctionEnv,Option.isSome_some,if_true];refine Xa (wpAny_alloc ?_);refine Xa (wpAny_layCells _ (fun name kind cells=>by cases hkc:kind==NameKind.cell <;> simp[hkc]) _ _ _ _ ?_);rw[show ({ s with heap:=s.heap.push { cls:=.type "dict",data:=.dict #[] } }:Shared).heap.objs.size=s.heap.objs.size+1 from Heap.size_push ..]
 exact Xa (Xb (Xb hQ))
def zd {env:Env}{x:Str}:∀ {names:List (Str×NameKind)}{q:NameKind},
  (names.map fun (n,k)=>if (k==NameKind.free&&env.scope.kind==.function&&env.kindOf n==some .cell) then (n,NameKind.cell) else (n,k)).lookup x=some q ->
  names.lookup x=some q \/ (names.lookup x=some .free/\q=.cell)
 | [],_,h=>by cases h
 | (n,k)::r,q,h=>by
  have ih:=@zd env x r q;have h':((if (k==NameKind.free&&env.scope.kind==.function&&env.kindOf n==some .cell)=true then (n,NameKind.cell) else (n,k))::(r.map fun (n,k)=>if (k==NameKind.free&&env.scope.kind==.function&&env.kindOf n==some .cell) then (n,NameKind.cell) else (n,k))).lookup x=some q:=h;rw[XJ];by_cases hc:(k==NameKind.free&&env.scope.kind==.function&&env.kindOf n==some .cell)=true
  ·rw[if_pos hc,XJ] at h';have hkf:k=.free:=by
    cases k <;> first | rfl | (simp at hc)
   subst hkf;cases hb:x==n with
   | true=>
    rw[hb] at h';cases h';exact .inr ⟨rfl,rfl⟩
   | false=>
    rw[hb] at h';exact ih h'
  ·rw[if_neg hc,XJ] at h';cases hb:x==n with
   | true=>
    rw[hb] at h';exact .inl h'
   | false=>
    rw[hb] at h';exact ih h'
def ZA {R:Result->Shared->Prop}{elt target:Expr}{ifs:List Expr}{it acc:Value} (I:Nat->Shared->Prop)
  (turn:∀ n s,I n s->wpAny (model prog w) A (pyNext it) (fun r s₁=>match r with
   | none=>R (.ok .next) s₁
   | some v=>wpAny (model prog w) A (letOwnedTupleGo target it v) (fun _ s₁'=>wpAny (model prog w) A (assign target env v) (fun _ s₂=>
     wpAny (model prog w) A (forIn ifs true fun c r=>if r=true then do let ok <- isTrue c env (eval c env); pure (ForInStep.yield ok) else pure (ForInStep.yield r)) (fun ok s₃=>
      if ok=true then wpAny (model prog w) A (eval elt env) (fun x s₄=>
       wpAny (model prog w) A (call (.builtin "list.append") [acc,x]) (fun _ s₅=>∃ m,m<n/\I m s₅) (fun _ _=>False) s₄) (fun _ _=>False) s₃
      else ∃ m,m<n/\I m s₃) (fun _ _=>False) s₂) (fun _ _=>False) s₁') (fun _ _=>False) s₁) (fun _ _=>False) s)
  (n:Nat) (h:I n s) :
  codeAny (model prog w) A (.compLoop (.ListComp elt [⟨target,iter,ifs,0⟩] scope pos) 0 it acc env) R s:=by
 refine codeAny_loop rfl I (fun n s hI=>?_) n h;show wpAny _ A ((compTurn (.ListComp elt [⟨target,iter,ifs,0⟩] scope pos) 0 it acc env).onRaise (fun x=>do noteFrame x env; theTreesLotGoes x)) _ _ s;refine wpAny_noted ?_;rw[compTurn_list];refine Xa (wpAny_standAt (Xa (wd (turn n s hI) (fun r s₁ h₁=>?_) fun _ _ h'=>h'.elim)));cases r with
 | none=>exact Xb h₁
 | some v=>
  refine Xa (wd h₁ (fun _ s₁' h₁'=>?_) fun _ _ h'=>h'.elim);refine Xa (wd h₁' (fun _ s₂ h₂=>Xa (wd h₂ (fun ok s₃ h₃=>?_) fun _ _ h'=>h'.elim)) fun _ _ h'=>h'.elim);cases ok with
  | false=>exact Xb ⟨rfl,h₃⟩
  | true=>
   exact Xa (Xa (wd h₃ (fun x s₄ h₄=>Xa (wd h₄ (fun _ s₅ h₅=>Xb (Xb ⟨rfl,h₅⟩)) fun _ _ h'=>h'.elim)) fun _ _ h'=>h'.elim))
structure Blk where
 C:Addr
 s:Shared
 H:Hp
 ex:List Addr
def blk (X:Cx) (sc:Scope) (N:List Str) (b:Blk):Cx:=
 { X with N:=N,s₀:=b.s,H₀:=b.H,env:=compEnvC sc (cellsFrom (b.C+1) sc.names (clo X.env sc.names [])) b.C X.env,outer:=X.stack,stack:=X.stack,ex:=b.ex,fn:=fun x=>sc.names.lookup x==some .cell,pn:=[],xe:=fun _ _=>False }
def ZB (own:Nat) (ix:List Nat) (σ:St):St:=List.replicate own none++ix.map fun i=>(σ[i]?).join
structure BlkOk (X:Cx) (sc:Scope) (own:List Str) (ix:List Nat) (N:List Str):Prop where
 kind:sc.kind=.function
 nm:∀ x∈sc.names,sc.names.lookup x.1=some x.2
 fr:∀ x∈sc.names,x.2=.free->X.env.kindOf x.1=some .cell \/ X.env.kindOf x.1=some .free
 eq:N=own++ix.map fun i=>(X.N[i]?).getD Str.empty
 lt:∀ i∈ix,i<X.N.length
 isf:∀ i∈ix,sc.names.lookup ((X.N[i]?).getD Str.empty)=some .free
def jkk (B:BlkOk X sc own ix N) (I:Inv X pins σ H s) (hf:∀ b∈fp,jdW X pins H b)
  (hlt:∀ b:Nat,b∈fp->b<s.heap.objs.size) :
  Inv (blk X sc N ⟨s.heap.objs.size+1,s,H,fp⟩) [] (ZB own.length ix σ) (upd H s.heap.objs.size (.lst []))
   { s with heap:=pushCells ((s.heap.push { cls:=.type "list",data:=.seq ([]:List Value).toArray }).push { cls:=.type "dict",data:=.dict #[] }) sc.names }:=by
 have hfr:∀ x∈sc.names,x.2=.free->∃ c,X.env.cells.lookup x.1=some c:=fun x hx e=>I.ok.has x.1 (B.fr x hx e);have h0:H s.heap.objs.size=none:=I.fresh;have k1:∀ b o,s.heap.get? b=some o->(pushCells ((s.heap.push { cls:=.type "list",data:=.seq ([]:List Value).toArray }).push { cls:=.type "dict",data:=.dict #[] }) sc.names).get? b=some o:=
  fun b o e=>pushCells_keeps _ _ b o (Xd _ (Xd _ e))
 have sz1:(s.heap.push { cls:=.type "list",data:=.seq ([]:List Value).toArray }).objs.size=s.heap.objs.size+1:=Heap.size_push ..;have sz2:((s.heap.push { cls:=.type "list",data:=.seq ([]:List Value).toArray }).push { cls:=.type "dict",data:=.dict #[] }).objs.size=s.heap.objs.size+2:=by rw[Heap.size_push,sz1]
 have hD:(pushCells ((s.heap.push { cls:=.type "list",data:=.seq ([]:List Value).toArray }).push { cls:=.type "dict",data:=.dict #[] }) sc.names).get? s.heap.objs.size=some { cls:=.type "list",data:=.seq ([]:List Value).toArray }:=
  pushCells_keeps _ _ _ _ (Xd _ (Xi _ rfl))
 have okc:=cellsFrom_ok sc.names ((s.heap.push { cls:=.type "list",data:=.seq ([]:List Value).toArray }).push { cls:=.type "dict",data:=.dict #[] }) (s.heap.objs.size+2) [] ⟨fun _ _ hm=>(nomatch hm),List.Pairwise.nil⟩ (by rw[sz2]; exact Xe _);rw[sz2] at okc;have nsC:(pushCells ((s.heap.push { cls:=.type "list",data:=.seq ([]:List Value).toArray }).push { cls:=.type "dict",data:=.dict #[] }) sc.names).Ns (s.heap.objs.size+1) (fun _=>none):=by
  have q:=(Heap.Ns.new (s.heap.push { cls:=.type "list",data:=.seq ([]:List Value).toArray }) (.type "dict")).keeps (pushCells_keeps sc.names _);rw[sz1] at q;exact q
 have cells:∀ x c,(cellsFrom (s.heap.objs.size+1+1) sc.names (clo X.env sc.names [])).lookup x=some c ->
   ((x,c)∈cellsFrom (s.heap.objs.size+2) sc.names []) \/ X.env.cells.lookup x=some c:=fun x c e=>by
  rw[xP,List.lookup_append] at e;cases q:(cellsFrom (s.heap.objs.size+1+1) sc.names []).lookup x with
  | some d=>
   rw[q] at e;have e':d=c:=Option.some.inj e;subst e';exact .inl (X6 q)
  | none=>
   rw[q] at e;exact .inr (WU sc.names [] hfr (fun _ _ z=>nomatch z) x c e)
 have oldc:∀ (x:Str) (c:Nat),X.env.cells.lookup x=some c->c<s.heap.objs.size:=fun x c e=>(I.cell x c e).choose_spec.lt;have newc:∀ (x:Str) (c:Nat),(x,c)∈cellsFrom (s.heap.objs.size+2) sc.names []->s.heap.objs.size+2<=c:=fun x c e=>(okc.empty x c e).2;have ok:(blk X sc N ⟨s.heap.objs.size+1,s,H,fp⟩).Ok:=by
  refine⟨I.ok.mod,B.kind,I.ok.glob,I.ok.blt,Nat.le_succ _,fun x y c e1 e2=>?_,fun x hx=>?_,fun x c h1 e=>?_,I.ok.hd,I.ok.frames,.inl rfl,fun b hb=>⟨?_,fun x c e=>?_⟩,I.bs,XW I.ok.bsz I.sz,fun b o e hb=>?_,fun b hb z=>?_,I.stack,I.stkFree⟩
  ·rcases cells x c e1 with a1 | a1
   ·rcases cells y c e2 with a2 | a2
    ·exact name_of_addr okc.apart a1 a2
    ·have:=newc x c a1; have:=oldc y c a2; omega
   ·rcases cells y c e2 with a2 | a2
    ·have:=newc y c a2; have:=oldc x c a1; omega
    ·exact I.ok.inj x y c a1 a2
  ·show ∃ c,(cellsFrom (s.heap.objs.size+1+1) sc.names (clo X.env sc.names [])).lookup x=some c;have hx':(relabel sc X.env).names.lookup x=some .cell \/ (relabel sc X.env).names.lookup x=some .free:=hx;have hk:sc.names.lookup x=some .cell \/ sc.names.lookup x=some .free:=by
    rcases hx' with z | z
    ·rcases zd z with q | q
     ·exact .inl q
     ·exact .inr q.1
    ·rcases zd z with q | q
     ·exact .inr q
     ·cases q.2
   refine Option.isSome_iff_exists.mp (W.cellsFrom_some sc.names _ _ ?_);rcases hk with z | z
   ·exact .inl z
   ·obtain⟨c,q⟩:=WV (env:=X.env) sc.names [] (.inl z);exact .inr (by rw[q]; rfl)
  ·have h1':sc.names.lookup x=some .cell:=by
    have:(sc.names.lookup x==some NameKind.cell)=true:=h1;simpa using this
   have e':(cellsFrom (s.heap.objs.size+1+1) sc.names (clo X.env sc.names [])).lookup x=some c:=e;rw[xP,List.lookup_append] at e';obtain⟨d,q⟩:=Option.isSome_iff_exists.mp (W.cellsFrom_some sc.names (s.heap.objs.size+1+1) [] (.inl h1'));rw[q] at e';have e2:d=c:=Option.some.inj e';subst e2;have:=newc x d (X6 q);exact XW (Nat.le_add_right _ 2) this
  ·exact ane (.inl (Nat.lt_succ_of_lt (hlt b hb)))
  ·rcases cells x c e with a | a
   ·exact ane (.inr (Xr (hlt b hb) (XW (Nat.le_add_right _ 2) (newc x c a))))
   ·exact(hf b hb).2.2.2.2.1 x c a
  ·have z:=(hf b hb).2.2.2.1;rcases z with z | z
   ·exact I.ok.noex b o e z
   ·exact absurd (Xr (Xr (Xl e) I.ok.bsz) z) (XV _)
  ·have z':b∈frs X.stack:=z;rcases List.mem_cons.mp (I.stkSub b z') with q | q
   ·exact(hf b hb).2.1 q
   ·exact(hf b hb).2.2.1 q
 have un1:Un (frs X.stack) fp H (upd H s.heap.objs.size (.lst [])) s.heap (pushCells ((s.heap.push { cls:=.type "list",data:=.seq ([]:List Value).toArray }).push { cls:=.type "dict",data:=.dict #[] }) sc.names):=Un.laid k1 (Xe _) h0;refine⟨ok,rfl,I.bare,un1,⟨_,nsC,fun i x v e1 e2 e3=>?_⟩,fun x c e=>?_,?_,fun x c e=>?_,fun p hp=>absurd (show p∈([]:List (Addr×Obj)) from hp) (by simp),?_,?_⟩
 ·-- the names
  have e1':N[i]?=some x:=e1;have e2':(ZB own.length ix σ)[i]?=some (some v):=e2;unfold ZB at e2';by_cases hi:i<own.length
  ·rw[List.getElem?_append_left (by simpa using hi),List.getElem?_replicate] at e2';split at e2' <;> cases e2'
  ·rw[List.getElem?_append_right (by simpa using hi),List.length_replicate,Xx] at e2';rw[B.eq,List.getElem?_append_right (by omega),Xx] at e1';cases q:ix[i-own.length]? with
   | none=>rw[q] at e2'; cases e2'
   | some j=>
    rw[q] at e1' e2';have hj:j∈ix:=List.mem_of_getElem? q;have hjl:=B.lt j hj;have e1'':(X.N[j]?).getD Str.empty=x:=Option.some.inj e1';have ej:X.N[j]?=some x:=by
     cases q2:X.N[j]? with
     | none=>exact absurd (List.getElem?_eq_none_iff.mp q2) (by omega)
     | some y=>rw[q2] at e1''; rw[<- e1'']; rfl
    have hfree:sc.names.lookup x=some .free:=by rw[<- e1'']; exact B.isf j hj
    have e2'':(σ[j]?).join=some v:=Option.some.inj e2';have es:σ[j]?=some (some v):=by
     cases q3:σ[j]? with
     | none=>rw[q3] at e2''; cases e2''
     | some o=>rw[q3] at e2''; exact congrArg some e2''
    have hk:=B.fr (x,.free) (X6 hfree) rfl;obtain⟨m,hn,hl⟩:=I.loc;have vis:Vis X.env.scope x:=by
     rcases hk with z | z
     ·exact .inr (.inl z)
     ·exact .inr (.inr z)
    obtain⟨u,r,l⟩:=hl j x v ej es vis;refine⟨u,r,?_⟩;have lc:∃ c,X.env.cells.lookup x=some c/\s.heap.IsCell c (some u):=by
     rcases l with⟨z,_⟩ | ⟨_,c,e,z⟩
     ·have z':X.env.kindOf x=some .local:=z;rcases hk with y | y <;> (rw[z'] at y; cases y)
     ·exact⟨c,e,z⟩
    obtain⟨c,ec,hc⟩:=lc;obtain⟨d,ed⟩:=WV (env:=X.env) sc.names [] (.inl hfree);have edc:d=c:=by
     have:=WU sc.names [] hfr (fun _ _ z=>nomatch z) x d ed;rw[ec] at this;exact(Option.some.inj this).symm
    subst edc;have lk:(cellsFrom (s.heap.objs.size+1+1) sc.names (clo X.env sc.names [])).lookup x=some d:=by
     rw[xP,List.lookup_append];cases q4:(cellsFrom (s.heap.objs.size+1+1) sc.names []).lookup x with
     | none=>exact ed
     | some d'=>
      rcases GZ (X6 q4) with z | z
      ·have:=B.nm _ z;rw[hfree] at this;cases this
      ·cases z
    refine .inr ⟨?_,d,lk,hc.keeps k1⟩;have vis2:Vis (relabel sc X.env) x:=e3;rcases vis2 with z | z | z
    ·have z':(relabel sc X.env).names.lookup x=some .local:=z;rcases zd z' with q5 | q5
     ·rw[hfree] at q5; cases q5
     ·cases q5.2
    ·exact .inl z
    ·exact .inr z
 ·rcases cells x c e with a | a
  ·exact⟨none,(okc.empty x c a).1⟩
  ·obtain⟨v,z⟩:=I.cell x c a;exact⟨v,z.keeps k1⟩
 ·show upd H s.heap.objs.size (.lst []) (s.heap.objs.size+1)=none;rw[ka (ane (.inr (Nat.lt_succ_self _)))];exact I.hok.fresh (Nat.le_succ _)
 ·rcases cells x c e with a | a
  ·have h2:=newc x c a;rw[ka (ane (.inr (Xr (Nat.lt_add_of_pos_right (by decide)) h2)))];exact I.hok.fresh (XW (Nat.le_add_right _ 2) h2)
  ·have h2:=oldc x c a;rw[ka (ane (.inl h2))];exact I.freeC x c a
 ·exact I.hok.laid k1 (Xe _) ⟨wc _,[],0,.nil,hD⟩
 ·show (ZB own.length ix σ).length=N.length;rw[B.eq];unfold ZB;simp
def PIf (Y:Cx) (ifs:List Expr) (t:TT):Prop:=∀ (pins:List (Addr×Obj)) (s:Shared) (σ:St) (H:Hp) (Q:Bool->Hp->Prop),Inv Y pins σ H s->t σ H Q ->
 wpAny (model Y.prog Y.w) Y.A (forIn ifs true fun c r=>if r=true then do let ok <- isTrue c Y.env (eval c Y.env); pure (ForInStep.yield ok) else pure (ForInStep.yield r)) (TP Y pins σ Q) Y.xe s
def jmK:TT:=fun _ H Q=>Q true H
def qY {Y:Cx}:PIf Y [] jmK:=fun _ _ σ H _ I h=>wpAny_tests_nil ⟨H,I,h⟩
def Gs {Y:Cx}{c:Expr}{t:TT} (h:PT Y c t):PIf Y [c] t:=fun pins s σ H Q I q=>wpAny_tests_one (h pins s σ H Q I q)
def jhQ (D:Addr) (J:It) (g:TG) (tc:TT) (te:TE) (σ0:St) (H1:Hp) (Q:VK):Prop:=
 ∃ W:Nat->Nat->List V->St->Hp->Prop,(∃ m,W 0 m [] σ0 (upd H1 D (.lst [])))/\∀ i m ys σ H,W i m ys σ H ->
  (J.stop i H/\Q (.ref D) H) \/ (J.go i H/\∃ N:List V->St->Hp->Prop,(∀ ys' σ' H',N ys' σ' H'->∃ m',m'<m/\W (i+1) m' ys' σ' H')/\∀ x H',J.yld i H x H'->g x σ H' fun σ2 H2=>tc σ2 H2 fun b H3=>
   if b=true then te σ2 H3 fun y H4=>H4 D=some (.lst ys)/\ys.length<sizeLine/\N (ys++[y]) σ2 (upd H4 D (.lst (ys++[y]))) else N ys σ2 H3)
section
variable {elt:Expr}{ifs:List Expr}{g:Blk->TG}{tc:Blk->TT}{te:Blk->TE} 
def ZC {Q:VK}{RR:Value->Addr->Result->Shared->Prop}{tn:Nat->Heap->Prop}{ok:Cx->Prop} (B:BlkOk X sc own ix N) (hc:∀ b:Blk,ok (blk X sc N b))
  (I:Inv X pins σ H s) (T:Turn X.prog X.w X.K tg J fp it tn ok) (t0:tn 0 s.heap) (hf:∀ b∈fp,jdW X pins H b)
  (hg:∀ b:Blk,PG (blk X sc N b) tg (g b)) (hi:∀ b:Blk,PIf (blk X sc N b) ifs (tc b)) (he:∀ b:Blk,PE (blk X sc N b) elt (te b))
  (hr:∀ (b:Blk) (D:Addr),H D=none->jhQ D J (g b) (tc b) (te b) (ZB own.length ix σ) H Q)
  (hRR:∀ D C s' H' m,Inv X pins σ H' s'->jdW X pins H' C->s'.heap.Ns C m->Q (.ref D) H'->RR (.ref D) C (.ok .next) s') :
  wpAny (model X.prog X.w) X.A (newList []) (fun acc s₃=>wpAny (model X.prog X.w) X.A (newFunctionEnv sc X.env.globals (clo X.env sc.names []) [] X.env.qual none .none (some X.env)) (fun cenv s₄=>
   codeAny (model X.prog X.w) X.A (.compStart (.ListComp elt [⟨tg,iter,ifs,0⟩] sc pos) 0 (.ref it) acc { cenv with scope:=relabel sc X.env }) (RR acc cenv.locals) s₄) E s₃) E s:=by
 refine XO (jeh ?_);have sz1:(s.heap.push { cls:=.type "list",data:=.seq ([]:List Value).toArray }).objs.size=s.heap.objs.size+1:=Heap.size_push ..;have hlt:∀ b:Nat,b∈fp->b<s.heap.objs.size:=fun b hb=>by
  obtain⟨o,e,_⟩:=T.obj 0 _ t0 b hb;exact Xl e
 have IY:=jkk B I hf hlt;have k1:∀ b o,s.heap.get? b=some o->(pushCells ((s.heap.push { cls:=.type "list",data:=.seq ([]:List Value).toArray }).push { cls:=.type "dict",data:=.dict #[] }) sc.names).get? b=some o:=
  fun b o e=>pushCells_keeps _ _ b o (Xd _ (Xd _ e))
 dsimp only;rw[sz1];generalize hY:blk X sc N ⟨s.heap.objs.size+1,s,H,fp⟩=Y at IY;have hg':PG Y tg (g ⟨s.heap.objs.size+1,s,H,fp⟩):=hY ▸ hg _;have hi':PIf Y ifs (tc ⟨s.heap.objs.size+1,s,H,fp⟩):=hY ▸ hi _;have he':PE Y elt (te ⟨s.heap.objs.size+1,s,H,fp⟩):=hY ▸ he _;obtain⟨W,⟨m0,w0⟩,turn⟩:=hr ⟨s.heap.objs.size+1,s,H,fp⟩ s.heap.objs.size I.fresh;have eP:Y.prog=X.prog:=by rw[<- hY]; rfl
 have eW:Y.w=X.w:=by rw[<- hY]; rfl
 have eK:Y.K=X.K:=by rw[<- hY]; rfl
 have eA:Y.A=X.A:=by rw[<- hY]; rfl
 have eX:Y.xe=fun _ _=>False:=by rw[<- hY]; rfl
 have eC:ok Y:=by rw[<- hY]; exact hc _
 have eL:Y.env.locals=s.heap.objs.size+1:=by rw[<- hY]; rfl
 have eF:Y.fs=frs X.stack:=by rw[<- hY]; rfl
 have eE:Y.ex=fp:=by rw[<- hY]; rfl
 have eN:Y.pn=[]:=by rw[<- hY]; rfl
 have eS:Y.s₀=s:=by rw[<- hY]; rfl
 have eH:Y.H₀=H:=by rw[<- hY]; rfl
 have eEnv:compEnvC sc (cellsFrom (s.heap.objs.size+1+1) sc.names (clo X.env sc.names [])) (s.heap.objs.size+1) X.env=Y.env:=by rw[<- hY]; rfl
 have fpY:∀ {H':Hp},(∀ b∈fp,H' b=none)->∀ b∈fp,jdW Y [] H' b:=fun hn b hb=>by
  refine⟨hn b hb,?_,?_,.inl (by rw[eE]; exact hb),fun x c e=>?_,fun p hp=>?_⟩
  ·rw[eL];exact ane (.inl (Nat.lt_succ_of_lt (hlt b hb)))
  ·rw[eF];intro z;rcases List.mem_cons.mp (I.stkSub b z) with q | q
   ·exact(hf b hb).2.1 q
   ·exact(hf b hb).2.2.1 q
  ·exact(IY.ok.exf b (by rw[eE]; exact hb)).2 x c e
  ·rw[eN] at hp;exact absurd (show p∈([]:List (Addr×Obj)) from hp) (by simp)
 have fpC:∀ {σ':St}{H':Hp}{s':Shared},Inv Y [] σ' H' s'->jdW X pins H' (s.heap.objs.size+1):=fun {σ' H' s'} J'=>by
  refine⟨by have:=J'.free; rw[eL] at this; exact this,?_,I.nofs (Nat.le_succ _),.inr (XW I.sz (Nat.le_succ _)),fun x c e z=>?_,fun p hp z=>?_⟩
  ·exact ane (.inr (Nat.lt_succ_of_lt I.lt))
  ·obtain⟨v,q⟩:=I.cell x c e;exact ane (.inl (Nat.lt_succ_of_lt q.lt)) z
  ·exact ane (.inl (Nat.lt_succ_of_lt (Xl (I.pin p hp).1))) z
 have back:∀ {σ':St}{H':Hp}{s':Shared},Inv Y [] σ' H' s'->Inv X pins σ H' s':=fun {σ' H' s'} J'=>by
  refine I.call' (ch:=fp) ?_ ?_ ?_ J'.bare fun b hb=>?_
  ·have:=J'.os;rw[eS] at this;exact this
  ·have:=J'.base;rw[eS,eH,eF,eE] at this;exact this
  ·have:=J'.hok;rw[eP,eW] at this;exact this
  ·obtain⟨f0,f1,f2,f3,f4,f5⟩:=hf b hb;exact⟨f3,f1,f4,f5⟩
 have tests:=hi';have loop:codeAny (model X.prog X.w) X.A (.compLoop (.ListComp elt [⟨tg,iter,ifs,0⟩] sc pos) 0 (.ref it) (.ref s.heap.objs.size) Y.env) (RR (.ref s.heap.objs.size) (s.heap.objs.size+1))
   { s with heap:=pushCells ((s.heap.push { cls:=.type "list",data:=.seq ([]:List Value).toArray }).push { cls:=.type "dict",data:=.dict #[] }) sc.names }:=by
  refine ZA (fun n s'=>∃ i ys σ' H',Inv Y [] σ' H' s'/\tn i s'.heap/\(∀ b∈fp,H' b=none)/\W i n ys σ' H') ?_ m0
   ⟨0,[],_,_,IY,T.keep _ _ _ t0 fun b _ o e=>k1 b o e,fun b hb=>?_,w0⟩
  ·rintro n s3 ⟨i,ys,σ3,H3,I3,st3,fr3,w3⟩;rcases turn i n ys σ3 H3 w3 with⟨stop,qn⟩ | ⟨go,NN,hN,step⟩
   ·have td:=T.done Y eP eW eK eC i [] s3 σ3 H3 (fun _ _=>False) I3 (fpY fr3) st3 stop;rw[eA] at td;refine thn td fun r s4 ⟨hr',I4⟩=>?_;subst hr';obtain⟨m,hn,_⟩:=I4.loc;rw[eL] at hn;exact hRR _ _ s4 H3 m (back I4) (fpC I4) hn qn
   ·have ti:=T.item Y eP eW eK eC i [] s3 σ3 H3 (fun _ _=>False) I3 (fpY fr3) st3 go;rw[eA] at ti;refine thn ti fun r s4 ⟨u,hr',h4⟩=>?_;subst hr';refine thn h4 fun _ s5 ⟨x,H5,I5,r5,y5,st5,fr5⟩=>?_;have I5':=I5.pinned (fpY fr5) (T.obj _ _ st5);have hgx:=hg' _ s5 σ3 H5 x u _ I5' r5 (step x H5 y5);rw[eP,eW,eA,eX] at hgx;refine thn hgx fun _ s6 ⟨σ6,H6,I6,q6⟩=>?_;have hix:=hi' _ s6 σ6 H6 _ I6 q6;rw[eP,eW,eA,eX] at hix;refine thn hix fun ok s7 ⟨H7,I7,q7⟩=>?_;have again:∀ {σ8:St}{H8:Hp}{s8:Shared}{ys':List V},Inv Y ([]++Zn fp s5.heap) σ8 H8 s8->NN ys' σ8 H8->∃ m,m<n/\∃ i ys σ' H',Inv Y [] σ' H' s8/\tn i s8.heap/\(∀ b∈fp,H' b=none)/\W i m ys σ' H':=fun {σ8 H8 s8 ys'} I8 n8=>by
     obtain⟨m',hm,w8⟩:=hN ys' σ8 H8 n8;refine⟨m',hm,i+1,ys',σ8,H8,I8.unpinned,T.keep _ _ _ st5 fun b hb o e=>(I8.pin (b,o) (XM _ (XM _ (J7 hb e)))).1,fun b hb=>?_,w8⟩;obtain⟨o,e,d⟩:=T.obj _ _ st5 b hb;exact(I8.pin (b,o) (XM _ (XM _ (J7 hb e)))).2.1
    cases ok with
    | false=>
     rw[if_neg Xh] at q7 ⊢;exact again I7 q7
    | true=>
     rw[if_pos rfl] at q7 ⊢;have hex:=he' _ s7 σ6 H7 _ I7 q7;rw[eP,eW,eA,eX] at hex;refine thn hex fun y s8 ⟨yv,H8,I8,r8,hD8,hz8,n8⟩=>?_;have ap:=yx (X:=Y) _ s8 σ6 H8 (.ref s.heap.objs.size) [yv] (.ref s.heap.objs.size) [y] (fun v H9=>H9=upd H8 s.heap.objs.size (.lst (ys++[yv]))) I8 rfl (.cons r8 .nil) ⟨_,ys,yv,rfl,rfl,hD8,hz8,rfl⟩;rw[eP,eW,eA,eX] at ap;refine thn ap fun _ s9 ⟨_,H9,I9,_,e9⟩=>?_;subst e9;exact again I9 n8
  ·rw[ka (ane (.inl (hlt b hb)))];exact(hf b hb).1
 have st:tn 0 (pushCells ((s.heap.push { cls:=.type "list",data:=.seq ([]:List Value).toArray }).push { cls:=.type "dict",data:=.dict #[] }) sc.names):=T.keep _ _ _ t0 fun b _ o e=>k1 b o e;have fin:=codeAny_compStart_list (elt:=elt) (target:=tg) (iter:=iter) (ifs:=ifs) (rest:=[]) (scope:=sc) (pos:=pos) loop (T.self _ 0 _ _ _ st loop);rw[<- eEnv] at fin;exact fin
def Qo (wi:TI) (n:Nat) (ix:List Nat) (g:Blk->TG) (tc:Blk->TT) (te:Blk->TE):TE:=fun σ H Q=>wi σ H fun J H1=>∀ (b:Blk) (D:Addr),H1 D=none->jhQ D J (g b) (tc b) (te b) (ZB n ix σ) H1 Q
def kW (B:BlkOk X sc own ix N) (hc:X.calm=true) (hiter:PI X tg iter wi) (hg:∀ b:Blk,PG (blk X sc N b) tg (g b)) (hi:∀ b:Blk,PIf (blk X sc N b) ifs (tc b)) (he:∀ b:Blk,PE (blk X sc N b) elt (te b))
  (hs:∀ x,foldedSetIterable iter X.env x=pure x:=by intro _; rfl):PE X (.ListComp elt [⟨tg,iter,ifs,0⟩] sc pos) (Qo wi own.length ix g tc te):=by
 intro pins s σ H Q I h;have hfr:∀ x∈sc.names,x.2=.free->∃ c,X.env.cells.lookup x.1=some c:=fun x hx e=>I.ok.has x.1 (B.fr x hx e);rw[eval_ListComp];refine wpAny_comprehension_free (use:=none) (g:=⟨tg,iter,ifs,0⟩) (gs:=[]) rfl hs (QV hfr) B.kind (fun x hx e=>by rw[B.nm x hx,e]) ?_;refine thn (hiter pins s σ H _ I h) fun v s1 h1=>thn h1 fun itv s2 h2=>?_;obtain⟨it,fp,tn,J,H2,e,I2,T,st2,f2,q⟩:=h2;subst e;refine ZC (Q:=Q) B (fun _=>hc) I2 T st2 f2 hg hi he q fun D C s' H' m I' fC hn qq=>?_;exact⟨m,hn,fun h' hs'=>⟨.ref D,H',(I'.turned (t':=s'.toks) (fun b o hb e=>(hs'.2 b hb).trans e) fC.1 fC.2.1 fC.2.2.2.1 fC.2.2.2.2.1 fC.2.2.2.2.2),rfl,qq⟩⟩
def J_ {y:Str}{py spos:Pos} (B:BlkOk X sc own ix N) (hc:X.calm=true) (hiter:PI X tg iter wi) (hg:∀ b:Blk,PG (blk X sc N b) tg (g b)) (hi:∀ b:Blk,PIf (blk X sc N b) ifs (tc b)) (he:∀ b:Blk,PE (blk X sc N b) elt (te b))
  (hN:X.N.Nodup) (hy:X.N[i]?=some y) (hl:X.env.scope.names.lookup y=some .local)
  (hsw:swapsWith (.ListComp elt [⟨tg,iter,ifs,0⟩] sc pos) (some (.Name y py)) spos.line X.env=pure true:=by rfl)
  (hs:∀ x,foldedSetIterable iter X.env x=pure x:=by intro _; rfl):PS X (.Assign [.Name y py] (.ListComp elt [⟨tg,iter,ifs,0⟩] sc pos) spos) (U9 (Qo wi own.length ix g tc te) (k9 i)):=by
 intro pins s σ H D0 I h;have hfr:∀ x∈sc.names,x.2=.free->∃ c,X.env.cells.lookup x.1=some c:=fun x hx e=>I.ok.has x.1 (B.fr x hx e);rw[exec_Assign_Name_used _ _ _ _ hsw];refine Xa (wpAny_standAt (Xa ?_));show wpAny _ _ (do let _ <- comprehension (.ListComp elt [⟨tg,iter,ifs,0⟩] sc pos) sc X.env _ (newList []) false (eval iter X.env) (some (assign (.Name y py) X.env))) _ _ s;refine Xa (wd (wpAny_comprehension_free (use:=some (assign (.Name y py) X.env)) (Q:=fun _ s'=>SP X pins D0 .next s') (g:=⟨tg,iter,ifs,0⟩) (gs:=[]) rfl hs (QV hfr) B.kind (fun x hx e=>by rw[B.nm x hx,e]) ?_)
  (fun _ s' hq=>Xb (Xb hq)) fun _ _ e=>e)
 refine thn (hiter pins s σ H _ I h) fun v s1 h1=>thn h1 fun itv s2 h2=>?_;obtain⟨it,fp,tn,J,H2,e,I2,T,st2,f2,q⟩:=h2;subst e;refine ZC (Q:=fun x H1=>k9 i x σ H1 D0.nx) B (fun _=>hc) I2 T st2 f2 hg hi he q fun D C s' H' m I' fC hn qq=>?_;show wpAny _ _ (assign (.Name y py) X.env (.ref D)) _ _ _;refine wpAny_assign_Name (Zk (v:=.ref D) I' hN hy (.inl hl) rfl (fun s'' I'' sb=>?_) (.inr hl));obtain⟨a,sb,ha⟩:=sb;have hCa:C≠a:=by
  rcases ha with z | z
  ·rw[z]; exact fC.2.1
  ·exact fun q=>fC.2.2.2.2.1 y a z q.symm
 refine⟨m,hn.sameBut sb hCa,fun h' hs'=>⟨_,H',I''.turned (t':=s''.toks) (fun b o hb e=>(hs'.2 b hb).trans e) fC.1 fC.2.1 fC.2.2.2.1 fC.2.2.2.2.1 fC.2.2.2.2.2,qq⟩⟩
end
inductive EqR (K:W.Frag) (H:Hp):Nat->V->V->Bool->Prop where
 | flat {n:Nat}{x y:V}:Zv x=true->Zv y=true->EqR K H n x y (eqV x y)
 | lst {n:Nat}{a b:Addr}{xs ys:List V}{e:Nat->Bool}:SqL K H a xs->SqL K H b ys->xs.length=ys.length->(∀ (j:Nat) x y,xs[j]?=some x->ys[j]?=some y->EqR K H n x y (e j)) ->
   EqR K H (n+1) (.ref a) (.ref b) ((List.range xs.length).all e)
 | lstL {n:Nat}{a b:Addr}{xs ys:List V}:SqL K H a xs->SqL K H b ys->xs.length≠ys.length->EqR K H (n+1) (.ref a) (.ref b) false
 | tup {n:Nat}{a b:Addr}{xs ys:List V}{e:Nat->Bool}:SqT K H a xs->SqT K H b ys->(∀ (j:Nat) x y,xs[j]?=some x->ys[j]?=some y->EqR K H n x y (e j)) ->
   EqR K H (n+1) (.ref a) (.ref b) ((List.range (min xs.length ys.length)).all e&&xs.length==ys.length)
def jgs:∀ {x:V},Zv x=true->eqV x x=true
 | .non,_=>rfl
 | .bl b,_=>by simp[eqV]
 | .int b,_=>by simp[eqV]
 | .str b,_=>by simp[eqV]
 | .byt _,h=>by cases h
 | .flt _,h=>by cases h
 | .ref _,h=>by cases h
 | .ty _,h=>by cases h
def EqR.refl_true (I:Inv X pins σ H s):∀ {n:Nat}{x y:V}{b:Bool},EqR X.K H n x y b->x=y->b=true:=by
 intro n x y b h
 induction h with
 | flat f1 f2=>intro e; subst e; exact jgs f1
 | lst h1 h2 hl h3 ih=>
  intro e;cases e;have:=I.list_inj h1 h2;subst this;rw[XZ];intro j hj;have hj':=List.mem_range.mp hj;exact ih j _ _ (Xc hj') (Xc hj') rfl
 | lstL h1 h2 hl=>
  intro e;cases e;exact absurd (by rw[I.list_inj h1 h2]) hl
 | tup h1 h2 h3 ih=>
  intro e;cases e;have:=I.tuple_inj h1 h2;subst this;rw[XB];refine⟨?_,by simp⟩;rw[XZ];intro j hj;have hj':=List.mem_range.mp hj;rw[Nat.min_self] at hj';exact ih j _ _ (Xc hj') (Xc hj') rfl
def Vk (A:Around):A.in1.units=A.units+1:=rfl
def EqR.at (I:Inv X pins σ H s):∀ {n:Nat}{x y:V}{b:Bool},EqR X.K H n x y b->∀ {u v:Value}{A:Around},RelV x u->RelV y v->A.units+n<cLine ->
  SeqAt.EqAt A s u v b/\(Zv x=false->SeqAt.RcAt A s u v b/\SeqAt.RcNeAt A s u v (!b)):=by
 intro n x y b h
 induction h with
 | flat f1 f2=>intro u v A r1 r2 hu; exact ⟨jkh r1 r2 f1 f2,fun z=>by rw[f1] at z; cases z⟩
 | @lst n a c xs ys e h1 h2 hl h3 ih=>
  intro u v A r1 r2 hu;cases r1;cases r2;obtain⟨its,q1,p1,_⟩:=I.list h1;obtain⟨its',q2,p2,_⟩:=I.list h2;have l1:=q1.length;have l2:=q2.length;have key:∀ j (g1:j<its.toArray.size) (g2:j<its'.toArray.size),SeqAt.EqAt A.in1 s its.toArray[j] its'.toArray[j] (e j):=fun j g1 g2=>by
   have g1':j<its.length:=by simpa using g1
   have g2':j<its'.length:=by simpa using g2
   obtain⟨x,hx,rx⟩:∃ x,xs[j]?=some x/\RelV x its[j]:=by
    obtain⟨u',hu',ru'⟩:=q1.get (Xc (by omega:j<xs.length));rw[Xc g1'] at hu';cases hu';exact⟨_,Xc (by omega),ru'⟩
   obtain⟨y,hy,ry⟩:∃ y,ys[j]?=some y/\RelV y its'[j]:=by
    obtain⟨u',hu',ru'⟩:=q2.get (Xc (by omega:j<ys.length));rw[Xc g2'] at hu';cases hu';exact⟨_,Xc (by omega),ru'⟩
   exact(ih j x y hx hy rx ry (by rw[Vk]; omega)).1
  have hz:its.toArray.size=its'.toArray.size:=by simp; omega
  have hu':A.units<cLine:=by omega
  have e1:(List.range its.toArray.size).all e=(List.range xs.length).all e:=by rw[Xg,<- l1]
  have rc:SeqAt.RcAt A s (.ref a) (.ref c) ((List.range xs.length).all e):=by rw[<- e1]; exact SeqAt.RcAt.lists p1.isList p2.isList hz hu' key
  have rn:SeqAt.RcNeAt A s (.ref a) (.ref c) (!(List.range xs.length).all e):=by rw[<- e1]; exact SeqAt.RcNeAt.lists p1.isList p2.isList hz hu' key
  refine⟨?_,fun _=>⟨rc,rn⟩⟩;by_cases hac:a=c
  ·subst hac;have:(List.range xs.length).all e=true:=EqR.refl_true I (EqR.lst h1 h2 hl h3) rfl;rw[this];exact SeqAt.EqAt.same _
  ·exact SeqAt.EqAt.of_refs hac rc
 | @lstL n a c xs ys h1 h2 hl=>
  intro u v A r1 r2 hu;cases r1;cases r2;obtain⟨its,q1,p1,_⟩:=I.list h1;obtain⟨its',q2,p2,_⟩:=I.list h2;have l1:=q1.length;have l2:=q2.length;have hz:(its.toArray.size != its'.toArray.size)=true:=by simp; omega
  have hu':A.units<cLine:=by omega
  have rc:SeqAt.RcAt A s (.ref a) (.ref c) false:=SeqAt.RcAt.lists_lengths p1.isList p2.isList hz hu';refine⟨SeqAt.EqAt.of_refs (fun z=>?_) rc,fun _=>⟨rc,SeqAt.RcNeAt.lists_lengths p1.isList p2.isList hz hu'⟩⟩;subst z;exact hl (by rw[I.list_inj h1 h2])
 | @tup n a c xs ys e h1 h2 h3 ih=>
  intro u v A r1 r2 hu;cases r1;cases r2;obtain⟨its,q1,p1,_⟩:=I.tuple h1;obtain⟨its',q2,p2,_⟩:=I.tuple h2;have l1:=q1.length;have l2:=q2.length;have key:∀ j (g1:j<its.toArray.size) (g2:j<its'.toArray.size),SeqAt.EqAt A.in1 s its.toArray[j] its'.toArray[j] (e j):=fun j g1 g2=>by
   have g1':j<its.length:=by simpa using g1
   have g2':j<its'.length:=by simpa using g2
   obtain⟨x,hx,rx⟩:∃ x,xs[j]?=some x/\RelV x its[j]:=by
    obtain⟨u',hu',ru'⟩:=q1.get (Xc (by omega:j<xs.length));rw[Xc g1'] at hu';cases hu';exact⟨_,Xc (by omega),ru'⟩
   obtain⟨y,hy,ry⟩:∃ y,ys[j]?=some y/\RelV y its'[j]:=by
    obtain⟨u',hu',ru'⟩:=q2.get (Xc (by omega:j<ys.length));rw[Xc g2'] at hu';cases hu';exact⟨_,Xc (by omega),ru'⟩
   exact(ih j x y hx hy rx ry (by rw[Vk]; omega)).1
  have hu':A.units<cLine:=by omega
  have e1:((List.range (min its.toArray.size its'.toArray.size)).all e&&its.toArray.size==its'.toArray.size)=((List.range (min xs.length ys.length)).all e&&xs.length==ys.length):=by rw[Xg,Xg,<- l1,<- l2]
  have rc:SeqAt.RcAt A s (.ref a) (.ref c) ((List.range (min xs.length ys.length)).all e&&xs.length==ys.length):=by rw[<- e1]; exact SeqAt.RcAt.tuples p1 p2 hu' key
  have rn:SeqAt.RcNeAt A s (.ref a) (.ref c) (!((List.range (min xs.length ys.length)).all e&&xs.length==ys.length)):=by rw[<- e1]; exact SeqAt.RcNeAt.tuples p1 p2 hu' key
  refine⟨?_,fun _=>⟨rc,rn⟩⟩;by_cases hac:a=c
  ·subst hac;have:((List.range (min xs.length ys.length)).all e&&xs.length==ys.length)=true:=EqR.refl_true I (EqR.tup h1 h2 h3) rfl;rw[this];exact SeqAt.EqAt.same _
  ·exact SeqAt.EqAt.of_refs hac rc
noncomputable def bq {α:Type} (a b:α):Bool:=@decide (a=b) (Classical.propDecidable (a=b))
def bq_iff {a b:α}:bq a b=true ↔ a=b:=by unfold bq; simp
def jgt {a b:α} (h:¬ a=b):bq a b=false:=by
 cases e:bq a b with
 | false=>rfl
 | true=>exact absurd (bq_iff.mp e) h
def jhR [DecidableEq α] {a b:α}:bq a b=decide (a=b):=by
 rw[XL,bq_iff,Xv]
structure Cod (α:Type) where
 dp:Nat
 rep:W.Frag->Hp->α->V->Prop
 mono:∀ {K H H' a x},Same H H'->rep K H a x->rep K H' a x
 eqr:∀ {K H a b x y},rep K H a x->rep K H b y->EqR K H dp x y (bq a b)
def Same.tupq (e:Same H H') (h:SqT K H a xs):SqT K H' a xs:=by
 rcases h with (h | ⟨o,h⟩) | h
 ·exact .inl (.inl (e _ _ h))
 ·exact .inl (.inr ⟨o,e _ _ h⟩)
 ·exact .inr h
def cInt:Cod Int where
 dp:=0
 rep:=fun _ _ i x=>x=.int i
 mono:=fun _ h=>h
 eqr:=fun {K H a b x y} h1 h2=>by
  subst h1; subst h2;have:bq a b=eqV (.int a) (.int b):=by rw[jhR,eqV,Bool.beq_eq_decide_eq]
  rw[this];exact EqR.flat rfl rfl
def Paired.getP {F:α->β->Prop}:∀ {l:List α}{m:List β}{j:Nat}{x:α}{y:β},Paired F l m->l[j]?=some x->m[j]?=some y->F x y
 | _,_,_,_,_,.nil,h,_=>by simp at h
 | _,_,0,_,_,.cons r _,h,h'=>by simp at h h'; subst h; subst h'; exact r
 | _,_,j+1,_,_,.cons _ t,h,h'=>Paired.getP (j:=j) t (by simpa using h) (by simpa using h')
def jkl (l m:List α) (hl:l.length=m.length):(List.range l.length).all (fun j=>bq (l[j]?) (m[j]?))=bq l m:=by
 rw[XL,XZ,bq_iff];simp only[bq_iff,List.mem_range];constructor
 ·intro h;refine List.ext_getElem? fun j=>?_;by_cases hj:j<l.length
  ·exact h j hj
  ·rw[List.getElem?_eq_none (by omega),List.getElem?_eq_none (by omega)]
 ·intro h j _;rw[h]
def jei (c:Cod α) {m:List α} (p:Paired (c.rep K H) l xs) (q:Paired (c.rep K H) m ys) (j:Nat) (x y:V) (hx:xs[j]?=some x) (hy:ys[j]?=some y) :
  EqR K H c.dp x y (bq (l[j]?) (m[j]?)):=by
 have h1:j<l.length:=by rw[p.length]; exact (List.getElem?_eq_some_iff.mp hx).1
 have h2:j<m.length:=by rw[q.length]; exact (List.getElem?_eq_some_iff.mp hy).1
 have e1:l[j]?=some l[j]:=Xc h1;have e2:m[j]?=some m[j]:=Xc h2;have r:=c.eqr (Paired.getP p e1 hx) (Paired.getP q e2 hy);have:bq (l[j]?) (m[j]?)=bq l[j] m[j]:=by
  rw[XL,bq_iff,bq_iff,e1,e2,Option.some.injEq]
 rw[this];exact r
def jmY (c:Cod α):Cod (List α) where
 dp:=c.dp+1
 rep:=fun K H l x=>∃ a xs,x=.ref a/\SqL K H a xs/\Paired (c.rep K H) l xs
 mono:=fun e ⟨a,xs,e1,h,p⟩=>⟨a,xs,e1,e.seq h,Paired.mapP p fun _ _=>c.mono e⟩
 eqr:=fun {K H l m x y} ⟨a,xs,e1,h1,p1⟩ ⟨b,ys,e2,h2,p2⟩=>by
  subst e1; subst e2;have g1:=p1.length;have g2:=p2.length;by_cases hl:l.length=m.length
  ·have r:=EqR.lst (n:=c.dp) h1 h2 (by omega) (jei c p1 p2);rw[<- g1,jkl l m hl] at r;exact r
  ·rw[jgt (fun e=>hl (by rw[e]))];exact EqR.lstL h1 h2 (by omega)
def cPr (c:Cod α) (d:Cod β) (hd:c.dp=d.dp:=by rfl):Cod (α×β) where
 dp:=c.dp+1
 rep:=fun K H l x=>∃ a u v,x=.ref a/\SqT K H a [u,v]/\c.rep K H l.1 u/\d.rep K H l.2 v
 mono:=fun e ⟨a,u,v,e1,h,p,q⟩=>⟨a,u,v,e1,e.tupq h,c.mono e p,d.mono e q⟩
 eqr:=fun {K H l m x y} ⟨a,u,v,e1,h1,p1,q1⟩ ⟨b,u',v',e2,h2,p2,q2⟩=>by
  subst e1; subst e2;have r:=EqR.tup (n:=c.dp) (e:=fun j=>if j=0 then bq l.1 m.1 else bq l.2 m.2) h1 h2 (fun j x y hx hy=>by
   match j with
   | 0=>
    simp at hx hy;subst hx; subst hy;exact c.eqr p1 p2
   | 1=>
    simp at hx hy;subst hx; subst hy;have:=d.eqr q1 q2;rw[<- hd] at this;exact this
   | j+2=>simp at hx)
  have e:((List.range (min [u,v].length [u',v'].length)).all (fun j=>if j=0 then bq l.1 m.1 else bq l.2 m.2)&&[u,v].length==[u',v'].length)=bq l m:=by
   rw[XL,bq_iff];have er:List.range (min [u,v].length [u',v'].length)=[0,1]:=rfl;rw[er];simp only[List.all_cons,List.all_nil,if_true,Bool.and_true,XB,bq_iff];obtain⟨l1,l2⟩:=l;obtain⟨m1,m2⟩:=m;simp[bq_iff]
  rw[<- e];exact r
def jmL (K:W.Frag) (neg:Bool):R2:=fun x y H Q=>∃ n b,EqR K H n x y b/\n<=100/\Zv x=false/\Q (.bl (if neg then !b else b)) H
section
def jhS (hu:X.A.units+200<cLine):OpR X (compareOp .NotEq) (jmL X.K true):=by
 intro pins s σ H x y v u Q I rx ry h;obtain⟨n,b,e,hn,hf,q⟩:=h;obtain⟨_,h2⟩:=EqR.at I e (A:=X.A) rx ry (by omega);exact(h2 hf).2 X.prog X.w X.xe _ ⟨.bl (!b),H,I,rfl,q⟩
def Cod.inj (c:Cod α) (I:Inv X pins σ H s) {a b:α}{x:V} (h1:c.rep X.K H a x) (h2:c.rep X.K H b x):a=b:=
 bq_iff.mp (EqR.refl_true I (c.eqr h1 h2) rfl)
def WW {F:α->V->Prop}:∀ {l:List α}{xs:List V}{us:List Value},Paired F l xs->Vals xs us->∀ u∈us,∃ a∈l,∃ x,F a x/\RelV x u
 | _,_,_,.nil,.nil,u,hu=>by cases hu
 | _,_,_,.cons r t,.cons r' t',u,hu=>by
  rcases List.mem_cons.mp hu with rfl | hu
  ·exact⟨_,Xo,_,r,r'⟩
  ·obtain⟨a,ha,x,h⟩:=WW t t' u hu;exact⟨a,Xn _ ha,x,h⟩
def jb6 {F:α->V->Prop}:∀ {l:List α}{xs:List V}{us:List Value},Paired F l xs->Vals xs us->∀ a∈l,∃ u∈us,∃ x,F a x/\RelV x u
 | _,_,_,.nil,.nil,u,hu=>by cases hu
 | _,_,_,.cons r t,.cons r' t',a,ha=>by
  rcases List.mem_cons.mp ha with rfl | ha
  ·exact⟨_,Xo,_,r,r'⟩
  ·obtain⟨u,hu,x,h⟩:=jb6 t t' a ha;exact⟨u,Xn _ hu,x,h⟩
def jlP (K:W.Frag) (neg:Bool):R2:=fun x y H Q=>∃ (α:Type) (c:Cod α) (a:α) (l:List α) (p:Addr) (xs:List V) (k:Bool),c.dp<=100/\c.rep K H a x/\y=.ref p/\(SqL K H p xs \/ SqT K H p xs)/\Paired (c.rep K H) l xs /\
 (k=true ↔ a∈l)/\Q (.bl (if neg then !k else k)) H
open Classical in
def jaE {c:Cod α}{x:V}{v:Value}{a:α}{k:Bool} (hu:X.A.units+200<cLine) (I:Inv X pins σ H s) (hn:c.dp<=100) (ra:c.rep X.K H a x) (rx:RelV x v)
  (p:Paired (c.rep X.K H) l xs) (r:Vals xs us) (hk:k=true ↔ a∈l) :
  (∀ y,y∈us.toArray->SeqAt.EqAt X.A.in1 s y v (decide (∃ z,RelV z y/\c.rep X.K H a z)))/\(us.toArray.any fun y=>decide (∃ z,RelV z y/\c.rep X.K H a z))=k:=by
 constructor
 ·intro y hy;obtain⟨b,hb,z,hz,rz⟩:=WW p r y (by simpa using hy);have q:=(EqR.at I (c.eqr hz ra) (A:=X.A.in1) rz rx (by rw[Vk]; omega)).1;have e:bq b a=decide (∃ z,RelV z y/\c.rep X.K H a z):=by
   rw[XL,bq_iff,Xv];constructor
   ·intro e; subst e; exact ⟨z,rz,hz⟩
   ·rintro⟨z',rz',hz'⟩;have:z'=z:=rz'.inj rz;subst this;exact c.inj I hz hz'
  rw[<- e];exact q
 ·rw[XL,hk,Array.any_eq_true'];simp only[Xv];constructor
  ·rintro⟨y,hy,z,rz,hz⟩;obtain⟨b,hb,z',hz',rz'⟩:=WW p r y (by simpa using hy);have:z'=z:=rz'.inj rz;subst this;rw[c.inj I hz hz'];exact hb
  ·intro ha;obtain⟨u,hu',z,hz,rz⟩:=jb6 p r a ha;exact⟨u,by simpa using hu',z,rz,hz⟩
open Classical in
def jhT (hu:X.A.units+200<cLine):OpR X (compareOp .In) (jlP X.K false):=by
 intro pins s σ H x y v u Q I rx ry h;obtain⟨α,c,a,l,p,xs,k,hn,ra,e,hq,pr,hk,q⟩:=h;subst e;cases ry;rcases hq with hq | hq
 ·obtain⟨its,r,pl,hz⟩:=I.list hq;obtain⟨h1,h2⟩:=jaE hu I hn ra rx pr r hk;exact SeqAt.in_listAt _ pl.isList h1 ⟨.bl k,H,I,by rw[h2]; rfl,q⟩
 ·obtain⟨its,r,pl,hz⟩:=I.tuple hq;obtain⟨h1,h2⟩:=jaE hu I hn ra rx pr r hk;exact SeqAt.in_tupleAt _ pl h1 ⟨.bl k,H,I,by rw[h2]; rfl,q⟩
def jaF {d:α} (h:i<l.length):l.getD i d=l[i]:=by
 rw[X1,Xc h];rfl
def WX (bs:List Bool):(List.range bs.length).all (fun i=>bs.getD i false)=bs.all id:=by
 rw[XL,XZ,XZ];constructor
 ·intro h b hb;obtain⟨j,hj,e⟩:=List.mem_iff_getElem.mp hb;have:=h j (List.mem_range.mpr hj);rw[jaF hj,e] at this;exact this
 ·intro h j hj;have hj':=List.mem_range.mp hj;rw[jaF hj'];exact h _ (List.getElem_mem hj')
def WY (bs:List Bool):(List.range bs.length).any (fun i=>bs.getD i false)=bs.any id:=by
 rw[XL,List.any_eq_true,List.any_eq_true];constructor
 ·rintro⟨j,hj,h⟩;have hj':=List.mem_range.mp hj;rw[jaF hj'] at h;exact⟨_,List.getElem_mem hj',h⟩
 ·rintro⟨b,hb,h⟩;obtain⟨j,hj,e⟩:=List.mem_iff_getElem.mp hb;exact⟨j,List.mem_range.mpr hj,by rw[jaF hj,e]; exact h⟩
def Vl {bs:List Bool} (r:Vals (bs.map V.bl) us):TruthOf P w A (fun i v=>us.toArray[i]?=some v) (fun i=>bs.getD i false):=by
 intro i v s Q E hv hq;have hi:i<us.length:=by
  have:=(Array.getElem?_eq_some_iff.mp hv).1;simpa using this
 have hl:=r.length;rw[Xj] at hl;have hb:i<bs.length:=by omega
 obtain⟨u,hu,ru⟩:=r.get (i:=i) (x:=.bl bs[i]) (by rw[Xx,Xc hb]; rfl);have:u=v:=by
  have hv':us[i]?=some v:=by simpa using hv
  rw[hu] at hv';exact Option.some.inj hv'
 subst this;cases ru;refine XN ?_;have e:bs.getD i false=bs[i]:=jaF hb;rw[<- e];exact hq
def jb7 (hc:X.calm=true):GD X (.builtin "all") (fun xs H Q=>∃ (p:Addr) (bs:List Bool),xs=[.ref p]/\SqL X.K H p (bs.map V.bl)/\Q (.bl (bs.all id)) H):=by
 intro pins s σ H xs us Q I r h;obtain⟨p,bs,e,hq,q⟩:=h;subst e;obtain⟨u,rfl,rx⟩:=r.one;cases rx;obtain⟨its,rv,pl,hz⟩:=I.list hq;have hl:=rv.length;rw[Xj] at hl;have hp:p<s.heap.objs.size:=by
  obtain⟨o,e,_⟩:=pl.isList;exact Xl e
 refine call_all_walk (wpAny_pyIter_list pl.isList ?_);refine⟨_,_,_,_,_,_,_,rfl,Walks.list (A:=X.A.in1) (I.ok.hd hc) s.heap.objs.size p (XQ hp) its.toArray,⟨⟨_,Xi _ rfl,rfl,rfl⟩,pl.isList.at fun o e=>Xd _ e⟩,Vl rv,fun h' tk hk=>?_⟩;refine⟨.bl (bs.all id),H,I.kept (t':=tk) fun b o e=>hk b o ?_ (Xd _ e),?_,q⟩
 ·intro z;rcases List.mem_cons.mp z with z | z
  ·exact absurd (z ▸ Xl e) (XV _)
  ·cases z
 ·show Value.bool _=Value.bool _;rw[Xg,<- hl,WX]
def jgu (hc:X.calm=true):GD X (.builtin "any") (fun xs H Q=>∃ (p:Addr) (bs:List Bool),xs=[.ref p]/\SqL X.K H p (bs.map V.bl)/\Q (.bl (bs.any id)) H):=by
 intro pins s σ H xs us Q I r h;obtain⟨p,bs,e,hq,q⟩:=h;subst e;obtain⟨u,rfl,rx⟩:=r.one;cases rx;obtain⟨its,rv,pl,hz⟩:=I.list hq;have hl:=rv.length;rw[Xj] at hl;have hp:p<s.heap.objs.size:=by
  obtain⟨o,e,_⟩:=pl.isList;exact Xl e
 refine call_any_walk (wpAny_pyIter_list pl.isList ?_);refine⟨_,_,_,_,_,_,_,rfl,Walks.list (A:=X.A.in1) (I.ok.hd hc) s.heap.objs.size p (XQ hp) its.toArray,⟨⟨_,Xi _ rfl,rfl,rfl⟩,pl.isList.at fun o e=>Xd _ e⟩,Vl rv,fun h' tk hk=>?_⟩;refine⟨.bl (bs.any id),H,I.kept (t':=tk) fun b o e=>hk b o ?_ (Xd _ e),?_,q⟩
 ·intro z;rcases List.mem_cons.mp z with z | z
  ·exact absurd (z ▸ Xl e) (XV _)
  ·cases z
 ·show Value.bool _=Value.bool _;rw[Xg,<- hl,WY]
def Vm (ns:List Int):∀ k,k<=ns.length->preSum (fun i=>ns.getD i 0) k=(ns.take k).sum
 | 0,_=>by simp[preSum]
 | k+1,h=>by
  rw[preSum,Vm ns k (by omega),List.take_succ_eq_append_getElem (by omega),List.sum_append,jaF (by omega)];simp
def QW (hc:X.calm=true):GD X (.builtin "sum") (fun xs H Q=>∃ (p:Addr) (ns:List Int),xs=[.ref p]/\SqL X.K H p (ns.map V.int)/\Q (.int ns.sum) H):=by
 intro pins s σ H xs us Q I r h;obtain⟨p,ns,e,hq,q⟩:=h;subst e;obtain⟨u,rfl,rx⟩:=r.one;cases rx;obtain⟨its,rv,pl,hz⟩:=I.list hq;have hl:=rv.length;rw[Xj] at hl;have hp:p<s.heap.objs.size:=by
  obtain⟨o,e,_⟩:=pl.isList;exact Xl e
 refine call_sum_walkAnyS (wpAny_pyIter_list pl.isList ?_);refine⟨_,_,_,_,_,_,_,fun i=>ns.getD i 0,rfl,(Walks.list (A:=X.A.in1) (I.ok.hd hc) s.heap.objs.size p (XQ hp) its.toArray).toS,⟨⟨_,Xi _ rfl,rfl,rfl⟩,pl.isList.at fun o e=>Xd _ e⟩,fun b hb=>?_,fun i v hv=>?_,fun s' t' hm=>?_⟩
 ·show b<(s.heap.push _).objs.size;rw[Heap.size_push];rcases List.mem_cons.mp hb with z | z
  ·exact z ▸ Nat.lt_succ_self _
  ·have z':b=p:=by simpa using z
   exact z' ▸ Nat.lt_succ_of_lt hp
 ·have hi:i<its.length:=by
   have:=(Array.getElem?_eq_some_iff.mp hv).1;simpa using this
  have hb:i<ns.length:=by omega
  obtain⟨u,hu,t,ru⟩:=rv.get (i:=i) (x:=.int ns[i]) (by rw[Xx,Xc hb]; rfl);have:u=v:=by
   have hv':its[i]?=some v:=by simpa using hv
   rw[hu] at hv';exact Option.some.inj hv'
  subst this;have e:ns.getD i 0=ns[i]:=jaF hb;exact⟨t,by rw[ru,<- e]⟩
 ·obtain⟨hh,hg,hd,ho,_⟩:=hm;refine⟨.int ns.sum,H,?_,⟨t',?_⟩,q⟩
  ·obtain⟨h',g',d',tk',o'⟩:=s';have hg':g'=s.gens:=by first | exact hg | exact hg.symm
   have hd':d'=s.drawn:=by first | exact hd | exact hd.symm
   have ho':o'=s.os:=by first | exact ho | exact ho.symm
   subst hg'; subst hd'; subst ho';refine I.kept (t':=tk') fun b o e=>hh b o ?_ (Xd _ e);intro z;rcases List.mem_cons.mp z with z | z
   ·exact absurd (z ▸ Xl e) (XV _)
   ·cases z
  ·rw[Xg,<- hl,Vm ns _ (Xe _),List.take_length]
def jej:MtR X "int.bit_length" (fun x vs H Q=>∃ i,x=.int i/\vs=[]/\Q (.int (Builtin.Int.intBits i)) H):=by
 intro pins s σ H x xs v us Q I rx rv h;obtain⟨i,e1,e2,q⟩:=h;subst e1; subst e2;obtain⟨t,rfl⟩:=rx;have:=rv.zero;subst this;exact call_gives F.slot_int_bit_length (typeIs_int s i t) F.entry_int_bit_length (F.args_int_bit_length_1 _) (AutoIntG2.int_bit_length_int_0 i t) ⟨.int _,H,I.tok _,⟨_,rfl⟩,q⟩
def jek (i j:Int):Prop:=0<j/\j<2 ^ 1000
def Gf:OpR X (binaryOp .FloorDiv) (rI jek fun i j=>.int (i / j)):=opI fun i j t u s Q E hc q=>by
 refine floordiv_int (by have:=hc.1; omega) ?_ (.inl (PyProof.noPylong_of_log2 ?_))
 ·rw[Int.fdiv_eq_ediv_of_nonneg _ (by have:=hc.1; omega)];exact q
 ·have h1:=hc.1;have h2:=hc.2;have:j.natAbs<2 ^ 1000:=by omega
  have h3:j.natAbs≠0:=by omega
  have:=(Nat.log2_lt h3).mpr this;omega
end
def jmM (X:Cx) (sc:Scope) (ix:List Nat):Bool:=
 (sc.kind==.function)&&sc.names.all (fun x=>sc.names.lookup x.1==some x.2)&&sc.names.all (fun x=>x.2 != .free||(X.env.kindOf x.1==some .cell||X.env.kindOf x.1==some .free)) &&
  ix.all (fun i=>decide (i<X.N.length))&&ix.all (fun i=>sc.names.lookup ((X.N[i]?).getD Str.empty)==some .free)
def qu (h:jmM X sc ix=true):BlkOk X sc own ix (own++ix.map fun i=>(X.N[i]?).getD Str.empty):=by
 unfold jmM at h;simp only[XB,XZ,beq_iff_eq,Xv,Bool.or_eq_true,bne_iff_ne] at h;obtain⟨⟨⟨⟨h1,h2⟩,h3⟩,h4⟩,h5⟩:=h;exact⟨h1,h2,fun x hx e=>(h3 x hx).resolve_left (fun z=>z e),rfl,h4,h5⟩
structure Def (P:Program) (w:World) (K:W.Frag) (mg:Str->Option Value) (base:Heap) (x:Str) (k:Nat) (ps:List Str) (sp:Sp):Prop where
 ex:∃ f fd,FnOk P w K mg base CX0 k f fd ps sp/\mg x=some (.ref f)/\W.keepIn K (.ref f)=true/\Binds K fd ps []
structure Mth (P:Program) (w:World) (K:W.Frag) (mg:Str->Option Value) (base:Heap) (C:Addr) (m:Str) (k:Nat) (ps:List Str) (sp:Sp):Prop where
 ex:∃ f fd,FnOk P w K mg base CX0 k f fd ps sp/\Meth K C m f/\Binds K fd ps []
 cl:Cls K C
structure Kls (P:Program) (w:World) (K:W.Frag) (mg:Str->Option Value) (base:Heap) (x:Str) (C:Addr) (k:Nat) (ps:List Str) (sp:Sp):Prop where
 ex:∃ f fd,Mk K C f/\FnOk P w K mg base CX0 k f fd ps sp/\mg x=some (.ref C)/\Binds K fd ps []
section
variable {k:Nat}{m:Str}{p:Pos}{o:Expr}{t:TA}
def jkm (D:Def X.prog X.w X.K X.mg X.base x k ps sp) (hr:Room k X.A) (hg:Gl X x) (ha:PA X (e::es) t) (hdb:(x==("__debug__":Str))=false:=by decide) (he:starEach (e::es) X.env=(false,eval e X.env)::starEach es X.env:=by rfl)
  (hpl:(backTo pos (starEach es X.env)).any (·.1)=false:=by rfl):PE X (.Call (.Name x p) (e::es) [] pos) (QB sp [] E0 t):=by
 obtain⟨f,fd,F,hm,hk,hb⟩:=D.ex;exact jiy F hr hg hm hk hb .nil jc2 ha hdb he hpl
def qv (D:Mth X.prog X.w X.K X.mg X.base C m k ps sp) (hr:Room k X.A) (ho:PE X o ta) (ha:PA X (e::es) t)
  (hst:starEach (e::es) X.env=(false,eval e X.env)::starEach es X.env:=by rfl) (hpl:(backTo pos (starEach es X.env)).any (·.1)=false:=by rfl)
  (ht:eval (.Call (.Attribute o m apos) (e::es) [] pos) X.env=(do
   let ov <- eval o X.env
   standAt apos.atName
   let (f,first) <- holding [ov] (getMethod ov m pl)
   callWith pos f first (backTo pos (starEach (e::es) X.env)) (backToKw pos (keywordEach [] X.env))):=by rfl) :
  PE X (.Call (.Attribute o m apos) (e::es) [] pos) (QC C m sp [] E0 ta t):=by
 obtain⟨f,fd,F,hm,hb⟩:=D.ex;exact jiz (pl:=pl) ho D.cl hm F hr hb .nil jc2 ha hst hpl ht
def yy (D:Mth X.prog X.w X.K X.mg X.base C m k ps sp) (hr:Room k X.A) (ho:PE X o ta)
  (ht:eval (.Call (.Attribute o m apos) [] [] pos) X.env=(do
   let ov <- eval o X.env
   standAt apos.atName
   let (f,first) <- holding [ov] (getMethod ov m pl)
   callWith pos f first (backTo pos (starEach [] X.env)) (backToKw pos (keywordEach [] X.env))):=by rfl) :
  PE X (.Call (.Attribute o m apos) [] [] pos) (QC C m sp [] E0 ta xh):=by
 obtain⟨f,fd,F,hm,hb⟩:=D.ex;exact jgk (pl:=pl) ho D.cl hm F hr hb .nil jc2 ht
def Jm (D:Kls X.prog X.w X.K X.mg X.base x C k ps sp) (hr:Room (k+1) X.A) (hg:Gl X x) (ha:PA X (e::es) t) (hdb:(x==("__debug__":Str))=false:=by decide) (he:starEach (e::es) X.env=(false,eval e X.env)::starEach es X.env:=by rfl)
  (hpl:(backTo pos (starEach es X.env)).any (·.1)=false:=by rfl):PE X (.Call (.Name x p) (e::es) [] pos) (Zp C sp [] E0 t):=by
 obtain⟨f,fd,M,F,hm,hb⟩:=D.ex;exact jiA M F hr hg hm hb .nil jc2 ha hdb he hpl
end
def jaG (r r' r'':R2) (ta tb tc td:TE):TE:=fun σ H Q=>ta σ H fun x H1=>tb σ H1 fun y H2=>r x y H2 fun z H3=>∃ k,z=.bl k /\
 (if k=true then tc σ H3 fun w' H4=>r' y w' H4 fun z' H5=>∃ k',z'=.bl k'/\(if k'=true then td σ H5 fun v' H6=>r'' w' v' H6 Q else Q (.bl false) H5) else Q (.bl false) H3)
section
variable {a b c d:Expr} 
def jel {op op' op'':CmpOp}{r r' r'':R2} (ho:OpR X (compareOp op) r) (ho':OpR X (compareOp op') r') (ho'':OpR X (compareOp op'') r'') (ha:PE X a ta) (hb:PE X b tb) (hc:PE X c tc) (hd:PE X d td)
  (hm:lastMarks [op,op',op''] [b,c,d]=false:=by with_unfolding_all rfl):PT X (.Compare a [op,op',op''] [b,c,d] pos) (jd3 (jaG r r' r'' ta tb tc td)):=by
 intro pins s σ H Q I h;refine isTrue_chain (thn (ha pins s σ H _ I h) fun v s1 ⟨x,H1,I1,r1,q1⟩=>test_link (thn (hb pins s1 σ H1 _ I1 q1) fun u s2 ⟨y,H2,I2,r2,q2⟩=>
  thn (ho pins s2 σ H2 x y v u _ I2 r1 r2 q2) fun d s3 ⟨z,H3,I3,r3,k,e,q3⟩=>?_)) hm
 subst e;cases r3;refine XN ?_;cases k with
 | false=>
  obtain⟨k',e',q'⟩:=q3;cases e';exact ite_ff ⟨H3,I3,q'⟩
 | true=>
  refine ite_tt (test_link (thn (hc pins s3 σ H3 _ I3 q3) fun w' s4 ⟨z',H4,I4,r4,q4⟩=>thn (ho' pins s4 σ H4 y z' u w' _ I4 r2 r4 q4) fun d' s5 ⟨z2,H5,I5,r5,k2,e2,q5⟩=>?_));subst e2;cases r5;refine XN ?_;cases k2 with
  | false=>
   obtain⟨k',e',q'⟩:=q5;cases e';exact ite_ff ⟨H5,I5,q'⟩
  | true=>
   refine ite_tt (test_last (thn (hd pins s5 σ H5 _ I5 q5) fun w2 s6 ⟨z3,H6,I6,r6,q6⟩=>thn (ho'' pins s6 σ H6 z' z3 w' w2 _ I6 r4 r6 q6) fun d2 s7 ⟨z4,H7,I7,r7,k3,e3,q7⟩=>?_));subst e3;cases r7;exact XN ⟨H7,I7,q7⟩
end
structure Bi (mg:Str->Option Value):Prop where
 len_:mg "len"=none
 range_:mg "range"=none
 isinstance_:mg "isinstance"=none
 any_:mg "any"=none
 all_:mg "all"=none
 sum_:mg "sum"=none
 list_:mg "list"=none
 tuple_:mg "tuple"=none
 int_:mg "int"=none
 bool_:mg "bool"=none
 str_:mg "str"=none
 enumerate_:mg "enumerate"=none
 reversed_:mg "reversed"=none
 sorted_:mg "sorted"=none
 set_:mg "set"=none
 max_:mg "max"=none
 min_:mg "min"=none
 abs_:mg "abs"=none
 zip_:mg "zip"=none
def paired_ints:∀ l:List Int,Paired (cInt.rep K H) l (l.map V.int)
 | []=>.nil
 | _::r=>.cons rfl (paired_ints r)
def jlA (t:TS):TS:=fun D σ H=>∃ J:St->Hp->Prop,t { D with nx:=J } σ H/\∀ σ' H',J σ' H'->D.nx σ' H'
def ZD {t:TS} (h:PS X st t):PS X st (jlA t):=by
 intro pins s σ H D I q;obtain⟨J,q,hJ⟩:=q;refine thn (h pins s σ H { D with nx:=J } I q) fun f s1 r=>?_
 cases f with
 | next=>obtain⟨σ',H',I',j⟩:=r; exact ⟨σ',H',I',hJ σ' H' j⟩
 | ret v=>exact r
 | brk=>exact r
 | cont=>exact r
end L2
namespace L2
open PySem
def Qp {k:Nat} (hr:Room k A):A.units+200<cLine:=by have:=hr.un; omega
end L2
namespace L2
open PySem PySem.Spec PyProof.Rows
section
def U_:∀ {l:List α}{xs:List β},l.length=xs.length->(∀ (i:Nat) a x,l[i]?=some a->xs[i]?=some x->R a x)->Paired R l xs
 | [],[],_,_=>.nil
 | [],_::_,h,_=>by simp at h
 | _::_,[],h,_=>by simp at h
 | a::l,x::xs,h,k=>.cons (k 0 a x rfl rfl) (U_ (by simpa using h) fun i a' x' h1 h2=>k (i+1) a' x' (by simpa using h1) (by simpa using h2))
def jiF {a:Expr}{ta:TA}{p:Pos} (hg:Gl X "range") (hm:X.mg "range"=none) (ha:PA X [a] ta) (hs:starEach [a] X.env=[(false,eval a X.env)]:=by rfl) :
  PE X (.Call (.Name "range" p) [a] [] pos) (fun σ H Q=>ta σ H fun vs H1=>∃ j:Int,vs=[.int j]/\∀ x,H1 x=none->Q (.ref x) (upd H1 x (.rng 0 j))):=by
 intro pins s σ H Q I h;refine Call_ (Jr I hg hm boot_range (XA (thn (ha pos pins s σ H _ I h) fun us s1 ⟨vs,H1,I1,r1,q1⟩=>?_) hs rfl));obtain⟨j,e,q⟩:=q1;subst e;cases r1 with
 | cons r rr=>
  cases rr;obtain⟨t,rfl⟩:=r;refine call_range_1 ?_;exact⟨.ref s1.heap.objs.size,_,I1.laid (o:=.rng 0 j) (fun b ob q=>Xd _ q) (Xe _) ⟨_,_,_,Xi _ rfl⟩,rfl,q _ (I1.hok.fresh (Xe _))⟩
def Ws (lo hi:Int):List Int:=(List.range (hi-lo).toNat).map fun k=>lo+((k:Nat):Int)
def WZ (hc:X.calm=true):GD X (.type "list") (fun xs H Q=>∃ p lo hi,xs=[.ref p]/\H p=some (.rng lo hi)/\(-(2 ^ 62)<=lo/\lo<2 ^ 62/\-(2 ^ 62)<=hi/\hi<2 ^ 62)/\(hi-lo).toNat<=2 ^ 24/\∀ l,H l=none->Q (.ref l) (upd H l (.lst ((Ws lo hi).map V.int)))):=by
 intro pins s σ H xs us Q I r h;obtain⟨p,lo,hi,rfl,hp,⟨b1,b2,b3,b4⟩,hn,q⟩:=h;obtain⟨u,rfl,rx⟩:=Ug r;cases rx;obtain⟨t,u,v,e⟩:=I.hok p _ hp;refine call_list_range (n:=(hi-lo).toNat) (I.ok.hd hc) e ?_ ?_ hn fun h' tk acc' c' kp e' hacc=>?_
 ·exact small_one b1 b2 b3 b4
 ·unfold Builtin.Range.rangeSize;simp;split <;> omega
 ·refine⟨.ref s.heap.objs.size,_,I.laid (o:=.lst ((Ws lo hi).map V.int)) (t':=tk) kp (Xe _) ⟨?_,acc'.toList,c',?_,by simpa using e'⟩,rfl,q _ (I.hok.fresh (Xe _))⟩
  ·rw[Xj,Ws,Xj,List.length_range,Xy];exact hn
  ·refine U_ (by rw[Xj,Ws,Xj,List.length_range,Xt,hacc.1]) fun i x v hx hv=>?_;rw[Xx] at hx;unfold Ws at hx;rw[Xx] at hx;cases hr:(List.range (hi-lo).toNat)[i]? with
   | none=>rw[hr] at hx; cases hx
   | some k=>
    rw[hr] at hx;have hk:k=i:=by
     obtain⟨h1,h2⟩:=List.getElem?_eq_some_iff.mp hr;simpa using h2.symm
    subst hk;cases hx;obtain⟨tk',e2⟩:=hacc.2 k v (by simpa using hv);exact⟨tk',by rw[e2,Int.mul_one]⟩
end
end L2
namespace L3
open PySem PySem.Spec L2
section
def bind_some {m:Option α}{f:α->Option β}{b:β} (h:m.bind f=some b):∃ a,m=some a/\f a=some b:=by
 cases m with
 | none=>cases h
 | some a=>exact ⟨a,rfl,h⟩
structure Cd (α:Type) where
 rep:W.Frag->Hp->α->V->Prop
 mono:∀ {K:W.Frag}{H H':Hp}{a:α}{x:V},Same H H'->rep K H a x->rep K H' a x
def cI:Cd Int:=⟨fun _ _ i v=>v=.int i,fun _ h=>h⟩
def cB:Cd Bool:=⟨fun _ _ i v=>v=.bl i,fun _ h=>h⟩
def cS:Cd Str:=⟨fun _ _ i v=>v=.str i,fun _ h=>h⟩
def cU:Cd Unit:=⟨fun _ _ _ v=>v=.non,fun _ h=>h⟩
def cL (c:Cd α):Cd (List α):=⟨fun K H l v=>∃ a xs,v=.ref a/\H a=some (.lst xs)/\Paired (c.rep K H) l xs,
 fun e ⟨a,xs,h1,h2,h3⟩=>⟨a,xs,h1,e _ _ h2,Paired.mapP h3 fun _ _=>c.mono e⟩⟩
def cT (c:Cd α):Cd (List α):=⟨fun K H l v=>∃ a xs,v=.ref a/\H a=some (.tup xs)/\Paired (c.rep K H) l xs,
 fun e ⟨a,xs,h1,h2,h3⟩=>⟨a,xs,h1,e _ _ h2,Paired.mapP h3 fun _ _=>c.mono e⟩⟩
def cP (c:Cd α) (d:Cd β):Cd (α×β):=⟨fun K H l w=>∃ a u v,w=.ref a/\H a=some (.tup [u,v])/\c.rep K H l.1 u/\d.rep K H l.2 v,
 fun e ⟨a,u,v,h1,h2,h3,h4⟩=>⟨a,u,v,h1,e _ _ h2,c.mono e h3,d.mono e h4⟩⟩
def cScr:Cd (List Int):=⟨fun K H l v=>∃ a,v=.ref a/\SqL K H a (l.map V.int),fun e ⟨a,h1,h2⟩=>⟨a,h1,e.seq h2⟩⟩
def EqR.up:∀ {n:Nat}{x y:V}{b:Bool},EqR K H n x y b->∀ {m},n<=m->EqR K H m x y b:=by
 intro n x y b h
 induction h with
 | flat f1 f2=>intro m _; exact .flat f1 f2
 | lst h1 h2 hl _ ih=>
  intro m hm;cases m with
  | zero=>omega
  | succ m=>exact .lst h1 h2 hl fun j x y hx hy=>ih j x y hx hy (by omega)
 | lstL h1 h2 hl=>
  intro m hm;cases m with
  | zero=>omega
  | succ m=>exact .lstL h1 h2 hl
 | tup h1 h2 _ ih=>
  intro m hm;cases m with
  | zero=>omega
  | succ m=>exact .tup h1 h2 fun j x y hx hy=>ih j x y hx hy (by omega)
def EqC (n:Nat) (c:Cd α):Prop:=∀ {K:W.Frag}{H:Hp}{a b:α}{x y:V},c.rep K H a x->c.rep K H b y->EqR K H n x y (bq a b)
def Cd.cod (c:Cd α) (h:EqC n c):Cod α:=⟨n,c.rep,c.mono,h⟩
def eqI:EqC 0 cI:=fun h1 h2=>cInt.eqr h1 h2
def eqL {c:Cd α} (h:EqC n c):EqC (n+1) (cL c):=fun {K H a b x y} ⟨p,xs,e1,e2,e3⟩ ⟨q,ys,f1,f2,f3⟩=>
 (jmY (c.cod h)).eqr (K:=K) (H:=H) (a:=a) (b:=b) ⟨p,xs,e1,SqL.of e2,e3⟩ ⟨q,ys,f1,SqL.of f2,f3⟩
def EqC.up {m:Nat}{c:Cd α} (h:EqC n c) (hm:n<=m):EqC m c:=fun h1 h2=>EqR.up (h h1 h2) hm
def eqP {m:Nat}{c:Cd α}{d:Cd β} (h:EqC n c) (h':EqC m d):EqC (max n m+1) (cP c d):=fun {K H a b x y} ⟨p,u,v,e1,e2,e3,e4⟩ ⟨q,u',v',f1,f2,f3,f4⟩=>
 (cPr (c.cod (h.up (Nat.le_max_left n m))) (d.cod (h'.up (Nat.le_max_right n m)))).eqr (K:=K) (H:=H) (a:=a) (b:=b) ⟨p,u,v,e1,SqT.of e2,e3,e4⟩ ⟨q,u',v',f1,SqT.of f2,f3,f4⟩
def Fr:Option HO->Prop
 | none=>True
 | some (.tup _)=>True
 | _=>False
def W0 (h:H a=none):Fr (H a):=by rw[h]; trivial
def jkn (h:H a=some (.tup xs)):Fr (H a):=by rw[h]; trivial
def jiG (s:Same H H') (h:Fr (H' a)):Fr (H a):=by
 cases q:H a with
 | none=>trivial
 | some o=>rw[s a o q] at h; exact h
structure Ext (F H F' H':Hp):Prop where
 f:Same F F'
 h:Same H H'
 new:∀ a o,F' a=some o->F a=some o \/ Fr (H a)
 sub:Same F' H'
def Ext.refl {F:Hp} (s:Same F H):Ext F H F H:=⟨Same.refl _,Same.refl _,fun _ _ h=>.inl h,s⟩
def Ext.trans {F F2 H2:Hp} (e:Ext F H F1 H1) (e':Ext F1 H1 F2 H2):Ext F H F2 H2:=
 ⟨e.f.trans e'.f,e.h.trans e'.h,fun a o h=>(e'.new a o h).elim (fun z=>e.new a o z) (fun z=>.inr (jiG e.h z)),e'.sub⟩
def qA {o:HO} (h:H a=none):Same H (upd H a o):=fun b u hb=>by
 rw[ka (yl hb h)]; exact hb
def Same.upd2 {F:Hp}{o:HO} (s:Same F H) (h:F a=none):Same F (upd H a o):=fun b u hb=>by
 rw[ka (yl hb h)]; exact s b u hb
def Same.updB {F:Hp}{o:HO} (s:Same F H):Same (upd F a o) (upd H a o):=fun b u hb=>by
 unfold upd at hb ⊢;by_cases e:b=a
 ·rw[if_pos e] at hb ⊢; exact hb
 ·rw[if_neg e] at hb ⊢; exact s b u hb
def Ext.newF {F:Hp}{o:HO} (s:Same F H) (h:H a=none):Ext F H (upd F a o) (upd H a o):=
 ⟨qA (s.free h),qA h,fun b u hb=>by
  by_cases e:b=a
  ·subst e; exact .inr (W0 h)
  ·rw[ka e] at hb; exact .inl hb,Same.updB s⟩
def Ext.newO {F:Hp}{o:HO} (s:Same F H) (h:H a=none):Ext F H F (upd H a o):=
 ⟨Same.refl _,qA h,fun _ _ hb=>.inl hb,Same.upd2 s (s.free h)⟩
def Ext.upd {F:Hp}{o:HO} (X:Ext Fe He F H) (h:He a=none) (hf:F a=none):Ext Fe He F (L2.upd H a o):=
 ⟨X.f,Same.upd2 X.h h,X.new,Same.upd2 X.sub hf⟩
def Ext.frz {F:Hp}{o:HO} (X:Ext Fe He F H) (h:He a=none) (hf:F a=none) (ho:H a=some o):Ext Fe He (L2.upd F a o) H:=
 ⟨X.f.trans (qA hf),X.h,fun b u hb=>by
  by_cases e:b=a
  ·subst e; exact .inr (W0 h)
  ·rw[ka e] at hb; exact X.new b u hb,fun b u hb=>by
  by_cases e:b=a
  ·subst e; rw[j0] at hb; cases hb; exact ho
  ·rw[ka e] at hb; exact X.sub b u hb⟩
structure Pm (α:Type) where
 rel:W.Frag->Hp->Hp->α->V->Prop
 mono:∀ {K:W.Frag}{F H F' H':Hp}{a:α}{x:V},Ext F H F' H'->rel K F H a x->rel K F' H' a x
structure Rs (γ:Type) where
 rel:W.Frag->Hp->Hp->Hp->γ->V->Prop
 back:∀ {K:W.Frag}{H0 H F2 H2:Hp}{c:γ}{v:V},Same H0 H->rel K H F2 H2 c v->rel K H0 F2 H2 c v
def Pm.rs (p:Pm α):Rs α:=⟨fun K _ F H a v=>p.rel K F H a v,fun _ h=>h⟩
def pF (c:Cd α):Pm α:=⟨fun K F _ a v=>c.rep K F a v,fun e h=>c.mono e.f h⟩
def pB (c:Cd α):Pm (List α):=⟨fun K F H l v=>∃ a xs,v=.ref a/\H a=some (.lst xs)/\Paired (c.rep K F) l xs,
 fun e ⟨a,xs,h1,h2,h3⟩=>⟨a,xs,h1,e.h _ _ h2,Paired.mapP h3 fun _ _=>c.mono e.f⟩⟩
def pR (c:Cd α):Pm (List α):=⟨fun K F H l v=>∃ a xs,v=.ref a/\SqL K H a xs/\Paired (c.rep K F) l xs,
 fun e ⟨a,xs,h1,h2,h3⟩=>⟨a,xs,h1,e.h.seq h2,Paired.mapP h3 fun _ _=>c.mono e.f⟩⟩
def pT (c:Cd α):Pm α:=⟨fun K _ H a v=>c.rep K H a v,fun e h=>c.mono e.h h⟩
def rO (c:Cd α):Rs (List α):=⟨fun K H F2 H2 l v=>∃ a xs,v=.ref a/\H a=none/\F2 a=none/\H2 a=some (.lst xs)/\Paired (c.rep K F2) l xs,
 fun s ⟨a,xs,h1,h2,h⟩=>⟨a,xs,h1,s.free h2,h⟩⟩
abbrev rF (c:Cd α):Rs α:=(pF c).rs
def Ev (K:W.Frag) (σ:St) (F H:Hp) (t:TE) (r:Rs α) (m:Option α):Prop:=
 ∀ F1 H1,Ext F H F1 H1->∀ a,m=some a->∀ Q:VK,(∀ v F2 H2,Ext F1 H1 F2 H2->r.rel K H1 F2 H2 a v->Q v H2)->t σ H1 Q
def Et (K:W.Frag) (σ:St) (F H:Hp) (t:TT) (m:Option Bool):Prop:=
 ∀ F1 H1,Ext F H F1 H1->∀ b,m=some b->∀ Q:Bool->Hp->Prop,(∀ F2 H2,Ext F1 H1 F2 H2->Q b H2)->t σ H1 Q
def El (K:W.Frag) (σ:St) (F H:Hp) (t:TA) (c:Cd α) (n:Nat) (m:Option (List α)):Prop:=
 ∀ F1 H1,Ext F H F1 H1->∀ l,m=some l->∀ Q:List V->Hp->Prop,(∀ vs F2 H2,Ext F1 H1 F2 H2->Paired (c.rep K F2) l vs->vs.length=n->Q vs H2)->t σ H1 Q
variable {F:Hp}{t:TE}{c:Cd α}{d:Cd β}{p:Pm α}{q:Pm β}{q':Pm γ}{rs:Rs γ} 
def Ev.cast {r:Rs α}{m m':Option α} (h:Ev K σ F H t r m) (e:m'=m):Ev K σ F H t r m':=e ▸ h
def jV {a:α} (hi:σ[i]?=some (some v)) (h:p.rel K F H a v):Ev K σ F H (Jo i) p.rs (some a):=by
 intro F1 H1 E b e Q k;cases e;exact⟨v,hi,k v F1 H1 (Ext.refl E.sub) (p.mono E h)⟩
def jm (i:Int):Ev K σ F H (tC (.int i)) (rF cI) (some i):=fun F1 H1 E b e Q k=>by cases e; exact k _ F1 H1 (Ext.refl E.sub) rfl
def QX (i:Bool):Ev K σ F H (tC (.bl i)) (rF cB) (some i):=fun F1 H1 E b e Q k=>by cases e; exact k _ F1 H1 (Ext.refl E.sub) rfl
def kd (i:Str):Ev K σ F H (tC (.str i)) (rF cS) (some i):=fun F1 H1 E b e Q k=>by cases e; exact k _ F1 H1 (Ext.refl E.sub) rfl
def jau {a:Int} (hi:σ[i]?=some (some (.int a))):Ev K σ F H (Jo i) (rF cI) (some a):=jV (p:=pF cI) hi rfl
def Qa {a:Str} (hi:σ[i]?=some (some (.str a))):Ev K σ F H (Jo i) (rF cS) (some a):=jV (p:=pF cS) hi rfl
def Vn {r r':Rs α}{m:Option α} (h:Ev K σ F H t r m) (hi:∀ {H1 F2 H2 a v},Same F2 H2->r.rel K H1 F2 H2 a v->r'.rel K H1 F2 H2 a v):Ev K σ F H t r' m:=
 fun F1 H1 E a e Q k=>h F1 H1 E a e Q fun v F2 H2 E2 hr=>k v F2 H2 E2 (hi E2.sub hr)
def qZ (h:Ev K σ F H t (rO c) m):Ev K σ F H t (rF (cL c)) m:=by
 intro F1 H1 E l e Q k;refine h F1 H1 E l e Q ?_;rintro v F2 H2 E2 ⟨a,xs,rfl,h1,h2,h3,h4⟩;exact k _ (upd F2 a (.lst xs)) H2 (E2.frz h1 h2 h3) ⟨a,xs,rfl,j0,Paired.mapP h4 fun _ _=>c.mono (qA h2)⟩
def kA (h:Ev K σ F H t (rO c) m):Ev K σ F H t (pB c).rs m:=Vn h (fun _ ⟨a,xs,h0,_,_,h3,h4⟩=>⟨a,xs,h0,h3,h4⟩)
def qf (h:Ev K σ F H t (rF (cL c)) m):Ev K σ F H t (pB c).rs m:=Vn h (fun s ⟨a,xs,h0,h3,h4⟩=>⟨a,xs,h0,s _ _ h3,h4⟩)
def jQ (h:Ev K σ F H t (pB c).rs m):Ev K σ F H t (pR c).rs m:=Vn h (fun _ ⟨a,xs,h0,h3,h4⟩=>⟨a,xs,h0,SqL.of h3,h4⟩)
def GH:∀ l:List Int,Paired (cI.rep K H) l (l.map V.int)
 | []=>.nil
 | _::r=>.cons rfl (GH r)
def jiH {m:Option (List Int)} (h:Ev K σ F H t (rF cScr) m):Ev K σ F H t (pR cI).rs m:=Vn h (fun s ⟨a,h0,h3⟩=>⟨a,_,h0,s.seq h3,GH _⟩)
def jgv {m:Option α} (h:Ev K σ F H t (rF c) m):Ev K σ F H t (pT c).rs m:=Vn h (fun s h=>c.mono s h)
def jgw (h:Ev K σ F H t (pB c).rs m):Ev K σ F H t (pT (cL c)).rs m:=Vn h (fun s ⟨a,xs,h0,h3,h4⟩=>⟨a,xs,h0,h3,Paired.mapP h4 fun _ _=>c.mono s⟩)
def Op2 (K:W.Frag) (r:R2) (p:Pm α) (q:Pm β) (rs:Rs γ) (op:α->β->Option γ):Prop:=
 ∀ F H a b x y,Same F H->p.rel K F H a x->q.rel K F H b y->∀ c,op a b=some c->∀ Q:VK,(∀ v F2 H2,Ext F H F2 H2->rs.rel K H F2 H2 c v->Q v H2)->r x y H Q
def jaH {r:R2}{op:α->β->Option γ} (ho:Op2 K r p q rs op) (ha:Ev K σ F H ta p.rs ma) (hb:Ev K σ F H tb q.rs mb):Ev K σ F H (tOp r ta tb) rs (ma.bind fun a=>mb.bind fun b=>op a b):=by
 intro F1 H1 E z hz Q k;obtain⟨a,ea,hz⟩:=bind_some hz;obtain⟨b,eb,hz⟩:=bind_some hz;refine ha F1 H1 E a ea _ fun x F2 H2 E2 hx=>hb F2 H2 (E.trans E2) b eb _ fun y F3 H3 E3 hy=>?_;exact ho F3 H3 a b x y E3.sub (p.mono E3 hx) hy z hz _ fun v F4 H4 E4 hv=>k v F4 H4 (E2.trans (E3.trans E4)) (rs.back (E2.h.trans E3.h) hv)
def Op1 (K:W.Frag) (r:V->Hp->VK->Prop) (p:Pm α) (rs:Rs γ) (op:α->Option γ):Prop:=
 ∀ F H a x,Same F H->p.rel K F H a x->∀ c,op a=some c->∀ Q:VK,(∀ v F2 H2,Ext F H F2 H2->rs.rel K H F2 H2 c v->Q v H2)->r x H Q
def jko {r:V->Hp->VK->Prop} (ho:Op1 K r p rs op) (ha:Ev K σ F H ta p.rs ma):Ev K σ F H (tUn r ta) rs (ma.bind op):=by
 intro F1 H1 E z hz Q k;obtain⟨a,ea,hz⟩:=bind_some hz;refine ha F1 H1 E a ea _ fun x F2 H2 E2 hx=>?_;exact ho F2 H2 a x E2.sub hx z hz _ fun v F4 H4 E4 hv=>k v F4 H4 (E2.trans E4) (rs.back E2.h hv)
def jhU {r:List V->Hp->VK->Prop} (ho:Op1 K (fun x=>r [x]) p rs op) (ha:Ev K σ F H ta p.rs ma):Ev K σ F H (tCB r (jH ta xh)) rs (ma.bind op):=jko (r:=fun x=>r [x]) ho ha
@[irreducible] def Wb (i j:Int):Option Int:=if (-(2 ^ 64)<i/\i<2 ^ 64) \/ (-(2 ^ 64)<j/\j<2 ^ 64) then some (i * j) else none
@[irreducible] def jem (i j:Int):Option Int:=if 0<j/\j<2 ^ 1000 then some (i / j) else none
@[irreducible] def jaI (i j:Int):Option Int:=if 0<j then some (i % j) else none
@[irreducible] def jkp (i j:Int):Option Int:=if 0<=j/\j<=1000000/\i.natAbs<2 ^ 64 then some (i ^ j.toNat) else none
@[irreducible] def jav (i j:Int):Option Int:=if 0<=j/\j<=1000000/\i.natAbs<2 ^ 64 then some (i * 2 ^ j.toNat) else none
@[irreducible] def jiI (i j:Int):Option Int:=if 0<=j then some (i / 2 ^ j.toNat) else none
def jS {c:Prop} [Decidable c] {a b:α} (h:(if c then some a else none)=some b):c/\a=b:=by
 by_cases hc:c
 ·rw[if_pos hc] at h; exact ⟨hc,Option.some.inj h⟩
 ·rw[if_neg hc] at h; cases h
def kE {g:Int->Int->Int}:Op2 K (rI0 fun i j=>.int (g i j)) (pF cI) (pF cI) (rF cI) (fun i j=>some (g i j)):=by
 intro F H a b x y s hx hy c hc Q k;cases hx; cases hy; cases hc;exact⟨a,b,rfl,rfl,k _ F H (Ext.refl s) rfl⟩
def yX:Op2 K (rI0 fun i j=>.bl (g i j)) (pF cI) (pF cI) (rF cB) (fun i j=>some (g i j)):=by
 intro F H a b x y s hx hy c hc Q k;cases hx; cases hy; cases hc;exact⟨a,b,rfl,rfl,k _ F H (Ext.refl s) rfl⟩
def jc4 {C:Int->Int->Prop}{g:Int->Int->Int}{op:Int->Int->Option Int} (h:∀ i j k,op i j=some k->C i j/\g i j=k):Op2 K (rI C fun i j=>.int (g i j)) (pF cI) (pF cI) (rF cI) op:=by
 intro F H a b x y s hx hy c hc Q k;cases hx; cases hy;obtain⟨h1,h2⟩:=h a b c hc;subst h2;exact⟨a,b,rfl,rfl,h1,k _ F H (Ext.refl s) rfl⟩
def UZ:Op2 K (rI CMul fun i j=>.int (i * j)) (pF cI) (pF cI) (rF cI) Wb:=jc4 fun _ _ _ h=>by unfold Wb at h; obtain⟨x,y⟩:=jS h; exact ⟨x,y⟩
def jaJ:Op2 K (rI jek fun i j=>.int (i / j)) (pF cI) (pF cI) (rF cI) jem:=jc4 fun _ _ _ h=>by unfold jem at h; obtain⟨x,y⟩:=jS h; exact ⟨x,y⟩
def W1:Op2 K (rI (fun _ j=>0<j) fun i j=>.int (i % j)) (pF cI) (pF cI) (rF cI) jaI:=jc4 fun _ _ _ h=>by unfold jaI at h; exact jS h
def jlQ:Op2 K (rI jjU fun i j=>.int (i ^ j.toNat)) (pF cI) (pF cI) (rF cI) jkp:=jc4 fun _ _ _ h=>by unfold jkp at h; obtain⟨x,y⟩:=jS h; exact ⟨x,y⟩
def W2:Op2 K (rI jjU fun i j=>.int (i * 2 ^ j.toNat)) (pF cI) (pF cI) (rF cI) jav:=jc4 fun _ _ _ h=>by unfold jav at h; obtain⟨x,y⟩:=jS h; exact ⟨x,y⟩
def jkq:Op2 K (rI (fun _ j=>0<=j) fun i j=>.int (i / 2 ^ j.toNat)) (pF cI) (pF cI) (rF cI) jiI:=jc4 fun _ _ _ h=>by unfold jiI at h; exact jS h
def o_u {g:Int->Int}:Op1 K (rU fun i=>.int (g i)) (pF cI) (rF cI) (fun i=>some (g i)):=by
 intro F H a x s hx c hc Q k;cases hx; cases hc;exact⟨a,rfl,k _ F H (Ext.refl s) rfl⟩
def Uj:Op2 K rEq (pF cI) (pF cI) (rF cB) (fun i j=>some (decide (i=j))):=by
 intro F H a b x y s hx hy c hc Q k;cases hx; cases hy; cases hc;refine⟨rfl,?_⟩;rw[WR,Bool.beq_eq_decide_eq];exact k _ F H (Ext.refl s) rfl
def jaK:Op2 K rNe (pF cI) (pF cI) (rF cB) (fun i j=>some (!decide (i=j))):=by
 intro F H a b x y s hx hy c hc Q k;cases hx; cases hy; cases hc;refine⟨rfl,?_⟩;rw[WR,Bool.beq_eq_decide_eq];exact k _ F H (Ext.refl s) rfl
def jb8 {i j:Str}:decide (V.str i=V.str j)=decide (i=j):=by
 rw[XL,Xv,Xv];exact⟨fun h=>V.str.inj h,fun h=>by rw[h]⟩
def jc5:Op2 K rEq (pF cS) (pF cS) (rF cB) (fun i j=>some (decide (i=j))):=by
 intro F H a b x y s hx hy c hc Q k;cases hx; cases hy; cases hc;refine⟨rfl,?_⟩;rw[jb8];exact k _ F H (Ext.refl s) rfl
def jgx:Op2 K rNe (pF cS) (pF cS) (rF cB) (fun i j=>some (!decide (i=j))):=by
 intro F H a b x y s hx hy c hc Q k;cases hx; cases hy; cases hc;refine⟨rfl,?_⟩;rw[jb8];exact k _ F H (Ext.refl s) rfl
def jhV (c:Cd α):Prop:=∀ {K:W.Frag}{H:Hp}{a:α}{x:V},c.rep K H a x->Zv x=false
def nfL:jhV (cL c):=fun⟨_,_,h,_⟩=>by rw[h]; rfl
def jkr [DecidableEq α] (a b:α):Bool:=decide (a=b)
def W3 [DecidableEq α] (a:α) (l:List α):Bool:=decide (a∈l)
def jks [DecidableEq α] (h:EqC n c) (hn:n<=100) (nf:jhV c):Op2 K (jmL K true) (pT c) (pT c) (rF cB) (fun a b=>some (!jkr a b)):=by
 intro F H a b x y s hx hy z hz Q k;cases hz;refine⟨n,bq a b,h hx hy,hn,nf hx,?_⟩;rw[jhR];exact k _ F H (Ext.refl s) rfl
def jlR [DecidableEq α] (h:EqC n c) (hn:n<=100):Op2 K (jlP K false) (pT c) (pT (cL c)) (rF cB) (fun a l=>some (W3 a l)):=by
 intro F H a l x y s hx hy z hz Q k;cases hz;obtain⟨p,xs,rfl,h1,h2⟩:=hy;exact⟨α,c.cod h,a,l,p,xs,decide (a∈l),hn,hx,rfl,.inl (SqL.of h1),h2,by simp,k _ F H (Ext.refl s) rfl⟩
def jlS [DecidableEq α] (h:EqC n c) (hn:n<=100):Op2 K (jlP K false) (pT c) (pT (cT c)) (rF cB) (fun a l=>some (W3 a l)):=by
 intro F H a l x y s hx hy z hz Q k;cases hz;obtain⟨p,xs,rfl,h1,h2⟩:=hy;exact⟨α,c.cod h,a,l,p,xs,decide (a∈l),hn,hx,rfl,.inr (SqT.of h1),h2,by simp,k _ F H (Ext.refl s) rfl⟩
def Paired.at:∀ {l:List α}{xs:List β}{i:Nat}{a:α},Paired R l xs->l[i]?=some a->∃ x,xs[i]?=some x/\R a x
 | _,_,_,_,.nil,h=>by simp at h
 | _,_,0,_,.cons r _,h=>by simp at h; subst h; exact ⟨_,rfl,r⟩
 | _,_,i+1,a,.cons _ t,h=>by
  obtain⟨x,h1,h2⟩:=Paired.at (i:=i) (a:=a) t (by simpa using h);exact⟨x,by simpa using h1,h2⟩
def Paired.atI {xs:List β}{i:Int}{a:α} (h:Paired R l xs) (e:atI l i=some a):∃ x,atI xs i=some x/\R a x:=by
 unfold L2.atI at e ⊢;rw[<- h.length];cases q:ixN l.length i with
 | none=>rw[q] at e; cases e
 | some j=>
  rw[q] at e;exact Paired.at h e
@[irreducible] def pAt (l:List α) (i:Int):Option α:=atI l i
def zm:Op2 K (jmF K) (pR c) (pF cI) (rF c) (fun l i=>pAt l i):=by
 intro F H l i x y s hx hy z hz Q k;unfold pAt at hz;obtain⟨p,xs,rfl,h1,h2⟩:=hx;cases hy;obtain⟨v,e,r⟩:=Paired.atI h2 hz;exact⟨p,xs,i,v,rfl,rfl,h1,e,k _ F H (Ext.refl s) r⟩
def U0:Op2 K (jhN K) (pF (cT c)) (pF cI) (rF c) (fun l i=>pAt l i):=by
 intro F H l i x y s hx hy z hz Q k;unfold pAt at hz;obtain⟨p,xs,rfl,h1,h2⟩:=hx;cases hy;obtain⟨v,e,r⟩:=Paired.atI h2 hz;exact⟨p,xs,i,v,rfl,rfl,SqT.of (s _ _ h1),e,k _ F H (Ext.refl s) r⟩
def jkt {m:Option (α×β)} (h:Ev K σ F H ta (rF (cP c d)) m):Ev K σ F H (tOp (jhN K) ta (tC (.int 0))) (rF c) (m.bind fun z=>some z.1):=by
 intro F1 H1 E z hz Q k;obtain⟨a,ea,hz⟩:=bind_some hz;cases hz;refine h F1 H1 E a ea _ ?_;rintro v F2 H2 E2 ⟨p,u,w,rfl,h1,h2,h3⟩;exact⟨p,_,0,u,rfl,rfl,SqT.of (E2.sub _ _ h1),rfl,k _ F2 H2 E2 h2⟩
def jku {m:Option (α×β)} (h:Ev K σ F H ta (rF (cP c d)) m):Ev K σ F H (tOp (jhN K) ta (tC (.int 1))) (rF d) (m.bind fun z=>some z.2):=by
 intro F1 H1 E z hz Q k;obtain⟨a,ea,hz⟩:=bind_some hz;cases hz;refine h F1 H1 E a ea _ ?_;rintro v F2 H2 E2 ⟨p,u,w,rfl,h1,h2,h3⟩;exact⟨p,_,1,w,rfl,rfl,SqT.of (E2.sub _ _ h1),rfl,k _ F2 H2 E2 h3⟩
def q8:Op1 K (fun x H Q=>∃ p ys,[x]=[V.ref p]/\(SqL K H p ys \/ SqT K H p ys)/\Q (.int ys.length) H) (pR c) (rF cI) (fun l=>some (l.length:Int)):=by
 intro F H l x s hx z hz Q k;obtain⟨p,xs,rfl,h1,h2⟩:=hx;cases hz;refine⟨p,xs,rfl,.inl h1,?_⟩;rw[<- h2.length];exact k _ F H (Ext.refl s) rfl
def jb9:Op1 K (fun x H Q=>∃ p ys,[x]=[V.ref p]/\(SqL K H p ys \/ SqT K H p ys)/\Q (.int ys.length) H) (pF (cT c)) (rF cI) (fun l=>some (l.length:Int)):=by
 intro F H l x s hx z hz Q k;obtain⟨p,xs,rfl,h1,h2⟩:=hx;cases hz;refine⟨p,xs,rfl,.inr (SqT.of (s _ _ h1)),?_⟩;rw[<- h2.length];exact k _ F H (Ext.refl s) rfl
def yz {F:Hp}{Q:VK} (s:Same F H) (h2:Paired (c.rep K F) l xs) (k:∀ v F2 H2,Ext F H F2 H2->(rO c).rel K H F2 H2 l v->Q v H2) (p:Addr) (hp:H p=none):Q (.ref p) (upd H p (.lst xs)):=
 k _ F _ (Ext.newO s hp) ⟨p,xs,rfl,hp,s.free hp,j0,h2⟩
def jaL {F:Hp}{Q:VK} (s:Same F H) (h2:Paired (c.rep K F) l xs) (k:∀ v F2 H2,Ext F H F2 H2->(rF (cT c)).rel K H F2 H2 l v->Q v H2) (p:Addr) (hp:H p=none):Q (.ref p) (upd H p (.tup xs)):=
 k _ (upd F p (.tup xs)) _ (Ext.newF s hp) ⟨p,xs,rfl,j0,Paired.mapP h2 fun _ _=>c.mono (qA (s.free hp))⟩
def jaM:Op1 K (fun x H Q=>∃ p ys,[x]=[V.ref p]/\(SqL K H p ys \/ SqT K H p ys)/\∀ l,H l=none->Q (.ref l) (upd H l (.lst ys))) (pF (cT c)) (rO c) (fun l=>some l):=by
 intro F H l x s hx z hz Q k;obtain⟨p,xs,rfl,h1,h2⟩:=hx;cases hz;exact⟨p,xs,rfl,.inr (SqT.of (s _ _ h1)),fun a ha=>yz s h2 k a ha⟩
def ZE:Op1 K (fun x H Q=>∃ p ys,[x]=[V.ref p]/\((SqL K H p ys/\∀ l,H l=none->Q (.ref l) (upd H l (.tup ys))) \/ (SqT K H p ys/\Q (.ref p) H))) (pR c) (rF (cT c)) (fun l=>some l):=by
 intro F H l x s hx z hz Q k;obtain⟨p,xs,rfl,h1,h2⟩:=hx;cases hz;exact⟨p,xs,rfl,.inl ⟨h1,fun a ha=>jaL s h2 k a ha⟩⟩
def cut (xs:List α) (lo hi:Option Int):List α:=(xs.drop (HT.sIx xs.length 0 lo)).take (HT.sIx xs.length xs.length hi-HT.sIx xs.length 0 lo)
def Paired.drop:∀ {l:List α}{xs:List β} (n:Nat),Paired R l xs->Paired R (l.drop n) (xs.drop n)
 | _,_,0,r=>r
 | _,_,_+1,.nil=>.nil
 | _,_,n+1,.cons _ t=>Paired.drop n t
def Paired.take:∀ {l:List α}{xs:List β} (n:Nat),Paired R l xs->Paired R (l.take n) (xs.take n)
 | _,_,0,_=>.nil
 | _,_,_+1,.nil=>.nil
 | _,_,n+1,.cons r t=>.cons r (Paired.take n t)
def Paired.app:∀ {l m:List α}{xs ys:List β},Paired R l xs->Paired R m ys->Paired R (l++m) (xs++ys)
 | _,_,_,_,.nil,s=>s
 | _,_,_,_,.cons r t,s=>.cons r (Paired.app t s)
def Paired.cutP {R:α->V->Prop} (lo hi:Option Int) (h:Paired R l xs):Paired R (cut l lo hi) (jgp xs lo hi):=by
 unfold cut jgp;rw[h.length];exact Paired.take _ (Paired.drop _ h)
def Eo (K:W.Frag) (σ:St) (F H:Hp) (t:TO) (m:Option (Option Int)):Prop:=
 ∀ F1 H1,Ext F H F1 H1->∀ o,m=some o->∀ Q:Option Int->Hp->Prop,(∀ F2 H2,Ext F1 H1 F2 H2->Q o H2)->t σ H1 Q
def Gu:Eo K σ F H jea (some none):=fun F1 H1 E o e Q k=>by cases e; exact k F1 H1 (Ext.refl E.sub)
def jiJ {m:Option Int} (h:Ev K σ F H t (rF cI) m):Eo K σ F H (jgo t) (m.bind fun i=>some (some i)):=by
 intro F1 H1 E o e Q k;obtain⟨i,ei,e⟩:=bind_some e;cases e;exact h F1 H1 E i ei _ fun v F2 H2 E2 hv=>⟨i,hv,k F2 H2 E2⟩
def jkv {ml:Option (Option Int)} (h:Ev K σ F H t (pR c).rs m) (hl:Eo K σ F H tl ml) (hh:Eo K σ F H th mh) :
  Ev K σ F H (tSl (jlz K) t tl th) (rO c) (m.bind fun l=>ml.bind fun i=>mh.bind fun j=>some (cut l i j)):=by
 intro F1 H1 E z hz Q k;obtain⟨l,el,hz⟩:=bind_some hz;obtain⟨i,ei,hz⟩:=bind_some hz;obtain⟨j,ej,hz⟩:=bind_some hz;cases hz;refine h F1 H1 E l el _ ?_;intro v F2 H2 E2 hv;refine hl F2 H2 (E.trans E2) i ei _ fun F3 H3 E3=>hh F3 H3 ((E.trans E2).trans E3) j ej _ fun F4 H4 E4=>?_;obtain⟨a,xs,rfl,h1,h2⟩:=(pR c).mono (E3.trans E4) hv;refine⟨a,xs,rfl,h1,fun p hp=>?_⟩;exact yz (c:=c) E4.sub (Paired.cutP i j h2) (fun v F5 H5 E5 hr=>k v F5 H5 (E2.trans (E3.trans (E4.trans E5))) ((rO c).back (E2.h.trans (E3.h.trans E4.h)) hr)) p hp
@[irreducible] def Wt (l m:List α):Option (List α):=if l.length+m.length<=16777216 then some (l++m) else none
def jaN:Op2 K jmI (pB c) (pB c) (rO c) Wt:=by
 intro F H l m x y s hx hy z hz Q k;obtain⟨a,xs,rfl,h1,h2⟩:=hx;obtain⟨b,ys,rfl,h3,h4⟩:=hy;unfold Wt at hz;obtain⟨hc,rfl⟩:=jS hz;rw[h2.length,h4.length] at hc;exact⟨a,b,xs,ys,rfl,rfl,h1,h3,by rw[Xy]; exact hc,fun p hp=>yz s (Paired.app h2 h4) k p hp⟩
end
section
variable {F:Hp}{t:TE}{c:Cd α}{d:Cd β}{p:Pm α}{q:Pm β}{rs:Rs γ} 
section
variable {u v:TT}{m m':Option Bool}{a b:Bool}
def kY (h:Ev K σ F H t (rF cB) m):Et K σ F H (jd3 t) m:=fun F1 H1 E b e Q k=>h F1 H1 E b e _ fun v F2 H2 E2 hv=>⟨b,hv,k F2 H2 E2⟩
def zI (h:Ev K σ F H t (rF cB) m):Et K σ F H (tB t) m:=fun F1 H1 E b e Q k=>h F1 H1 E b e _ fun v F2 H2 E2 hv=>⟨b,hv,k F2 H2 E2⟩
def jhW (h:Et K σ F H u m):Et K σ F H (jjS u) (m.bind fun b=>some (!b)):=by
 intro F1 H1 E b e Q k;obtain⟨c,ec,e⟩:=bind_some e;cases e;exact h F1 H1 E c ec _ fun F2 H2 E2=>k F2 H2 E2
def jhX (h:Et K σ F H u m) (h':Et K σ F H v m'):Et K σ F H (jjR u v) (m.bind fun b=>bif b then m' else some false):=by
 intro F1 H1 E b e Q k;obtain⟨c,ec,e⟩:=bind_some e;refine h F1 H1 E c ec _ fun F2 H2 E2=>?_;cases c with
 | true=>exact jb5 (h' F2 H2 (E.trans E2) b e _ fun F3 H3 E3=>k F3 H3 (E2.trans E3))
 | false=>cases e; exact jb4 (k F2 H2 E2)
def jkw (h:Et K σ F H u m) (h':Et K σ F H v m'):Et K σ F H (tOr u v) (m.bind fun b=>bif b then some true else m'):=by
 intro F1 H1 E b e Q k;obtain⟨c,ec,e⟩:=bind_some e;refine h F1 H1 E c ec _ fun F2 H2 E2=>?_;cases c with
 | true=>cases e; exact jb5 (k F2 H2 E2)
 | false=>exact jb4 (h' F2 H2 (E.trans E2) b e _ fun F3 H3 E3=>k F3 H3 (E2.trans E3))
def jiK {m m':Option Bool} (h:Et K σ F H u m) (e:m'=m):Et K σ F H u m':=e ▸ h
def jiL (h:Et K σ F H u (some a)) (h':Et K σ F H v (some b)):Et K σ F H (jjR u v) (some (a&&b)):=jiK (jhX h h') (by cases a <;> rfl)
def jkx (h:Ev K σ F H t (rF cB) m):Ev K σ F H (jiu t) (rF cB) (m.bind fun b=>some (!b)):=by
 intro F1 H1 E b e Q k;obtain⟨c,ec,e⟩:=bind_some e;cases e;exact h F1 H1 E c ec _ fun v F2 H2 E2 hv=>⟨c,hv,k _ F2 H2 E2 rfl⟩
def jhY (h:Ev K σ F H ta (rF cB) m) (h':Ev K σ F H tb (rF cB) m'):Ev K σ F H (jaz ta tb) (rF cB) (m.bind fun b=>bif b then m' else some false):=by
 intro F1 H1 E b e Q k;obtain⟨c,ec,e⟩:=bind_some e;refine h F1 H1 E c ec _ fun v F2 H2 E2 hv=>⟨c,hv,?_⟩;cases c with
 | true=>exact jb5 (h' F2 H2 (E.trans E2) b e _ fun v F3 H3 E3 hv=>k v F3 H3 (E2.trans E3) hv)
 | false=>cases e; exact jb4 (k _ F2 H2 E2 rfl)
def jiM (h:Ev K σ F H ta (rF cB) (some a)) (h':Ev K σ F H tb (rF cB) (some b)):Ev K σ F H (jaz ta tb) (rF cB) (some (a&&b)):=(jhY h h').cast (by cases a <;> rfl)
def W4 {ma mb mc:Option Int} (ha:Ev K σ F H ta (rF cI) ma) (hb:Ev K σ F H tb (rF cI) mb) (hc:Ev K σ F H tc (rF cI) mc) :
  Ev K σ F H (Vf (rI0 fun i j=>.bl (g i j)) (rI0 fun i j=>.bl (g' i j)) ta tb tc) (rF cB) (ma.bind fun x=>mb.bind fun y=>bif g x y then mc.bind fun z=>some (g' y z) else some false):=by
 intro F1 H1 E b e Q k;obtain⟨x,ex,e⟩:=bind_some e;obtain⟨y,ey,e⟩:=bind_some e;refine ha F1 H1 E x ex _ fun v F2 H2 E2 hv=>hb F2 H2 (E.trans E2) y ey _ fun v' F3 H3 E3 hv'=>⟨x,y,hv,hv',_,rfl,?_⟩;cases hg:g x y with
 | true=>
  rw[hg] at e;obtain⟨z,ez,e⟩:=bind_some e;cases e;exact jb5 (hc F3 H3 (E.trans (E2.trans E3)) z ez _ fun w F4 H4 E4 hw=>⟨y,z,hv',hw,k _ F4 H4 (E2.trans (E3.trans E4)) rfl⟩)
 | false=>
  rw[hg] at e;cases e;exact jb4 (k _ F3 H3 (E2.trans E3) rfl)
def jen {x:Int} (ha:Ev K σ F H ta (rF cI) (some x)) (hb:Ev K σ F H tb (rF cI) (some y)) (hc:Ev K σ F H tc (rF cI) (some z)) :
  Ev K σ F H (Vf (rI0 fun i j=>.bl (g i j)) (rI0 fun i j=>.bl (g' i j)) ta tb tc) (rF cB) (some (g x y&&g' y z)):=(W4 ha hb hc).cast (by
   show _=bif g x y then some (g' y z) else some false;cases g x y <;> rfl)
def jc6 {x w:Int} (ha:Ev K σ F H ta (rF cI) (some x)) (hb:Ev K σ F H tb (rF cI) (some y)) (hc:Ev K σ F H tc (rF cI) (some z)) (hd:Ev K σ F H td (rF cI) (some w)) :
  Ev K σ F H (jaG (rI0 fun i j=>.bl (g i j)) (rI0 fun i j=>.bl (g' i j)) (rI0 fun i j=>.bl (g'' i j)) ta tb tc td) (rF cB) (some (g x y&&(g' y z&&g'' z w))):=by
 intro F1 H1 E b e Q k;cases e;refine ha F1 H1 E x rfl _ fun v F2 H2 E2 hv=>hb F2 H2 (E.trans E2) y rfl _ fun v' F3 H3 E3 hv'=>⟨x,y,hv,hv',_,rfl,?_⟩;cases hg:g x y with
 | true=>
  rw[hg] at k;refine jb5 (hc F3 H3 (E.trans (E2.trans E3)) z rfl _ fun w' F4 H4 E4 hw=>⟨y,z,hv',hw,_,rfl,?_⟩);cases hg':g' y z with
  | true=>
   rw[hg'] at k;exact jb5 (hd F4 H4 (E.trans (E2.trans (E3.trans E4))) w rfl _ fun w'' F5 H5 E5 hw'=>⟨z,w,hw,hw',k _ F5 H5 (E2.trans (E3.trans (E4.trans E5))) rfl⟩)
  | false=>
   rw[hg'] at k;exact jb4 (k _ F4 H4 (E2.trans (E3.trans E4)) rfl)
 | false=>
  rw[hg] at k;exact jb4 (k _ F3 H3 (E2.trans E3) rfl)
def jlT {ma mb:Option γ} (hc:Et K σ F H u m) (ha:Ev K σ F H ta rs ma) (hb:Ev K σ F H tb rs mb):Ev K σ F H (tIf u ta tb) rs (m.bind fun b=>bif b then ma else mb):=by
 intro F1 H1 E z e Q k;obtain⟨c,ec,e⟩:=bind_some e;refine hc F1 H1 E c ec _ fun F2 H2 E2=>?_;cases c with
 | true=>exact jb5 (ha F2 H2 (E.trans E2) z e _ fun v F3 H3 E3 hv=>k v F3 H3 (E2.trans E3) (rs.back E2.h hv))
 | false=>exact jb4 (hb F2 H2 (E.trans E2) z e _ fun v F3 H3 E3 hv=>k v F3 H3 (E2.trans E3) (rs.back E2.h hv))
end
def xC:El K σ F H xh c 0 (some []):=fun F1 H1 E l e Q k=>by cases e; exact k [] F1 H1 (Ext.refl E.sub) .nil rfl
def jeo (ha:Ev K σ F H ta (rF c) ma) (hr:El K σ F H tr c n mr):El K σ F H (jH ta tr) c (n+1) (ma.bind fun a=>mr.bind fun l=>some (a::l)):=by
 intro F1 H1 E l e Q k;obtain⟨a,ea,e⟩:=bind_some e;obtain⟨r,er,e⟩:=bind_some e;cases e;refine ha F1 H1 E a ea _ fun v F2 H2 E2 hv=>hr F2 H2 (E.trans E2) r er _ fun vs F3 H3 E3 hvs hl=>?_;exact k _ F3 H3 (E2.trans E3) (.cons (c.mono E3.f hv) hvs) (by simp[hl])
def xD (h:El K σ F H tr c n m) (hn:n<=16777216):Ev K σ F H (jmE tr) (rO c) m:=by
 intro F1 H1 E l e Q k;refine h F1 H1 E l e _ fun vs F2 H2 E2 hv hl=>⟨by rw[hl,Xy]; exact hn,fun a ha=>?_⟩;exact yz (c:=c) E2.sub hv (fun v F5 H5 E5 hr=>k v F5 H5 (E2.trans E5) ((rO c).back E2.h hr)) a ha
def jep (ha:Ev K σ F H ta (rF c) ma) (hb:Ev K σ F H tb (rF d) mb):Ev K σ F H (jkc (jH ta (jH tb xh))) (rF (cP c d)) (ma.bind fun a=>mb.bind fun b=>some (a,b)):=by
 intro F1 H1 E l e Q k;obtain⟨a,ea,e⟩:=bind_some e;obtain⟨b,eb,e⟩:=bind_some e;cases e;refine ha F1 H1 E a ea _ fun v F2 H2 E2 hv=>hb F2 H2 (E.trans E2) b eb _ fun w F3 H3 E3 hw=>⟨by show 2<=sizeLine; rw[Xy]; decide,fun x hx=>?_⟩;have s:=E3.sub;exact k _ (upd F3 x (.tup [v,w])) _ (E2.trans (E3.trans (Ext.newF s hx))) ⟨x,v,w,rfl,j0,c.mono (E3.f.trans (qA (s.free hx))) hv,d.mono (qA (s.free hx)) hw⟩
def sp1 (K:W.Frag) (p1:Pm α1) (rs:Rs γ) (m:α1->Option γ):Sp:=fun vs H Q _=>∃ (x1:α1) (v1:V) (F:Hp) (r:γ),vs=[v1]/\Same F H/\p1.rel K F H x1 v1/\m x1=some r/\∀ u F' H',Ext F H F' H'->rs.rel K H F' H' r u->Q u H'
def jb_ {p1:Pm α1}{m:α1->Option γ} (h1:Ev K σ F H t1 p1.rs m1):Ev K σ F H (QB (sp1 K p1 rs m) [] E0 (jH t1 xh)) rs (m1.bind fun x1=>m x1):=by
 intro F0 H0 E0' z e Q k;obtain⟨x1,e1,e⟩:=bind_some e;refine h1 F0 H0 (E0') x1 e1 _ fun v1 F1 H1 E1 r1=>?_;exact⟨x1,v1,F1,z,rfl,E1.sub,r1,e,fun u F' H' E' hu=>k u F' H' ((E1).trans E') (rs.back (E1).h hu)⟩
def W5 (c:Cd α) (C:Addr) (m:Str):Prop:=∀ {K:W.Frag}{F:Hp}{o:α}{v:V},c.rep K F o v->∃ a dx fs,v=.ref a/\F a=some (.ins C dx fs)/\fs.lookup m=none
def jca {c1:Cd α1}{m:α1->Option γ} (ob:W5 c1 C nm) (h1:Ev K σ F H t1 (rF c1) m1):Ev K σ F H (QC C nm (sp1 K (pF c1) rs m) [] E0 t1 xh) rs (m1.bind fun x1=>m x1):=by
 intro F0 H0 E0' z e Q k;obtain⟨x1,e1,e⟩:=bind_some e;refine h1 F0 H0 (E0') x1 e1 _ fun v1 F1 H1 E1 r1=>?_;obtain⟨a,dx,fs,ea,ha,hl⟩:=ob r1;refine⟨a,dx,fs,ea,E1.sub _ _ ha,hl,?_⟩;exact⟨x1,v1,F1,z,rfl,E1.sub,r1,e,fun u F' H' E' hu=>k u F' H' ((E1).trans E') (rs.back (E1).h hu)⟩
def sp2 (K:W.Frag) (p1:Pm α1) (p2:Pm α2) (rs:Rs γ) (m:α1->α2->Option γ):Sp:=fun vs H Q _=>∃ (x1:α1) (x2:α2) (v1 v2:V) (F:Hp) (r:γ),vs=[v1,v2]/\Same F H/\p1.rel K F H x1 v1/\p2.rel K F H x2 v2/\m x1 x2=some r/\∀ u F' H',Ext F H F' H'->rs.rel K H F' H' r u->Q u H'
def jcb {p1:Pm α1}{p2:Pm α2}{m:α1->α2->Option γ} (h1:Ev K σ F H t1 p1.rs m1) (h2:Ev K σ F H t2 p2.rs m2):Ev K σ F H (QB (sp2 K p1 p2 rs m) [] E0 (jH t1 (jH t2 xh))) rs (m1.bind fun x1=>m2.bind fun x2=>m x1 x2):=by
 intro F0 H0 E0' z e Q k;obtain⟨x1,e1,e⟩:=bind_some e;obtain⟨x2,e2,e⟩:=bind_some e;refine h1 F0 H0 (E0') x1 e1 _ fun v1 F1 H1 E1 r1=>?_;refine h2 F1 H1 ((E0').trans E1) x2 e2 _ fun v2 F2 H2 E2 r2=>?_;exact⟨x1,x2,v1,v2,F2,z,rfl,E2.sub,p1.mono (E2) r1,r2,e,fun u F' H' E' hu=>k u F' H' ((E1.trans (E2)).trans E') (rs.back (E1.trans (E2)).h hu)⟩
def jcc {c1:Cd α1}{p2:Pm α2}{m:α1->α2->Option γ} (ob:W5 c1 C nm) (h1:Ev K σ F H t1 (rF c1) m1) (h2:Ev K σ F H t2 p2.rs m2):Ev K σ F H (QC C nm (sp2 K (pF c1) p2 rs m) [] E0 t1 (jH t2 xh)) rs (m1.bind fun x1=>m2.bind fun x2=>m x1 x2):=by
 intro F0 H0 E0' z e Q k;obtain⟨x1,e1,e⟩:=bind_some e;obtain⟨x2,e2,e⟩:=bind_some e;refine h1 F0 H0 (E0') x1 e1 _ fun v1 F1 H1 E1 r1=>?_;obtain⟨a,dx,fs,ea,ha,hl⟩:=ob r1;refine⟨a,dx,fs,ea,E1.sub _ _ ha,hl,?_⟩;refine h2 F1 H1 ((E0').trans E1) x2 e2 _ fun v2 F2 H2 E2 r2=>?_;exact⟨x1,x2,v1,v2,F2,z,rfl,E2.sub,(pF c1).mono (E2) r1,r2,e,fun u F' H' E' hu=>k u F' H' ((E1.trans (E2)).trans E') (rs.back (E1.trans (E2)).h hu)⟩
def sp3 (K:W.Frag) (p1:Pm α1) (p2:Pm α2) (p3:Pm α3) (rs:Rs γ) (m:α1->α2->α3->Option γ):Sp:=fun vs H Q _=>∃ (x1:α1) (x2:α2) (x3:α3) (v1 v2 v3:V) (F:Hp) (r:γ),vs=[v1,v2,v3]/\Same F H/\p1.rel K F H x1 v1/\p2.rel K F H x2 v2/\p3.rel K F H x3 v3/\m x1 x2 x3=some r/\∀ u F' H',Ext F H F' H'->rs.rel K H F' H' r u->Q u H'
def jgy {p1:Pm α1}{p2:Pm α2}{p3:Pm α3}{m:α1->α2->α3->Option γ} (h1:Ev K σ F H t1 p1.rs m1) (h2:Ev K σ F H t2 p2.rs m2) (h3:Ev K σ F H t3 p3.rs m3):Ev K σ F H (QB (sp3 K p1 p2 p3 rs m) [] E0 (jH t1 (jH t2 (jH t3 xh)))) rs (m1.bind fun x1=>m2.bind fun x2=>m3.bind fun x3=>m x1 x2 x3):=by
 intro F0 H0 E0' z e Q k;obtain⟨x1,e1,e⟩:=bind_some e;obtain⟨x2,e2,e⟩:=bind_some e;obtain⟨x3,e3,e⟩:=bind_some e;refine h1 F0 H0 (E0') x1 e1 _ fun v1 F1 H1 E1 r1=>?_;refine h2 F1 H1 ((E0').trans E1) x2 e2 _ fun v2 F2 H2 E2 r2=>?_;refine h3 F2 H2 (((E0').trans E1).trans E2) x3 e3 _ fun v3 F3 H3 E3 r3=>?_;exact⟨x1,x2,x3,v1,v2,v3,F3,z,rfl,E3.sub,p1.mono (E2.trans (E3)) r1,p2.mono (E3) r2,r3,e,fun u F' H' E' hu=>k u F' H' ((E1.trans (E2.trans (E3))).trans E') (rs.back (E1.trans (E2.trans (E3))).h hu)⟩
def Qq (K:W.Frag) (c:Cd α) (f:Str) (d:Cd β) (g:α->β):Prop:=∀ {F:Hp}{o:α}{v:V},c.rep K F o v->∃ a C dx fs u,v=.ref a/\F a=some (.ins C dx fs)/\Cls K C/\NoAttr K C f/\fs.lookup f=some u/\d.rep K F (g o) u
def jky {f:Str}{g:α->β} (hf:Qq K c f d g) (h:Ev K σ F H t (rF c) ma):Ev K σ F H (jd6 K t f) (rF d) (ma.bind fun o=>some (g o)):=by
 intro F1 H1 E z e Q k;obtain⟨o,eo,e⟩:=bind_some e;cases e;refine h F1 H1 E o eo _ fun v F2 H2 E2 hv=>?_;obtain⟨a,C,dx,fs,u,e1,e2,e3,e4,e5,e6⟩:=hf hv;exact⟨a,C,dx,fs,u,e1,E2.sub _ _ e2,e3,e4,e5,k u F2 H2 E2 e6⟩
end
section
variable {F:Hp}{t:TE}{c:Cd α}{d:Cd β}{p:Pm α}{q:Pm β}{rs:Rs γ} 
structure Own (K:W.Frag) (He F H:Hp) (c:Cd α) (l:List α) (a:Addr):Prop where
 e:He a=none
 f:F a=none
 h:∃ xs,H a=some (.lst xs)/\Paired (c.rep K F) l xs
def Own.mono (o:Own K He F H c l a) (E:Ext F H F' H'):Own K He F' H' c l a:=by
 obtain⟨xs,h1,h2⟩:=o.h;refine⟨o.e,?_,xs,E.h _ _ h1,Paired.mapP h2 fun _ _=>c.mono E.f⟩;cases e:F' a with
 | none=>rfl
 | some u=>
  rcases E.new a u e with z | z
  ·rw[o.f] at z; cases z
  ·rw[h1] at z; cases z
def Own.b (o:Own K He F H c l a):(pB c).rel K F H l (.ref a):=let ⟨xs,h1,h2⟩:=o.h; ⟨a,xs,rfl,h1,h2⟩
structure Chg (a:Addr) (F H F' H':Hp):Prop where
 f:Same F F'
 h:∀ b o,b≠a->H b=some o->H' b=some o
 new:∀ b o,b≠a->F' b=some o->F b=some o \/ Fr (H b)
def Bor (K:W.Frag) (He F:Hp) (c:Cd α) (l:List α) (v:V):Prop:=(pB c).rel K F He l v
def Bor.mono (b:Bor K He F c l v) (s:Same F F'):Bor K He F' c l v:=let ⟨a,xs,h0,h1,h2⟩:=b; ⟨a,xs,h0,h1,Paired.mapP h2 fun _ _=>c.mono s⟩
def Bor.b (b:Bor K He F c l v) (X:Ext Fe He F H):(pB c).rel K F H l v:=let ⟨a,xs,h0,h1,h2⟩:=b; ⟨a,xs,h0,X.h _ _ h1,h2⟩
def jeq {m:Option α}{f:α->Option δ}{r:δ} (he:Ev K σ F H te p.rs m) (X:Ext Fe He F H) (hm:m.bind f=some r) (k:∀ a v F' H',f a=some r->Ext F H F' H'->Ext Fe He F' H'->p.rel K F' H' a v->D.nx (σ.set i (some v)) H'):U9 te (k9 i) D σ H:=by
 obtain⟨a,ea,hm⟩:=bind_some hm;exact he F H (Ext.refl X.sub) a ea _ fun v F2 H2 E hv=>k a v F2 H2 hm E (X.trans E) hv
def zR {m:Option Int}{f:Int->Option δ}{r:δ} (he:Ev K σ F H te (rF cI) m) (X:Ext Fe He F H) (hm:m.bind f=some r) (k:∀ a F' H',f a=some r->Ext F H F' H'->Ext Fe He F' H'->D.nx (σ.set i (some (.int a))) H'):U9 te (k9 i) D σ H:=
 jeq (p:=pF cI) he X hm fun a v F' H' h1 h2 h3 h4=>by have e:v=.int a:=h4; subst e; exact k a F' H' h1 h2 h3
def jer {m:Option Str}{f:Str->Option δ}{r:δ} (he:Ev K σ F H te (rF cS) m) (X:Ext Fe He F H) (hm:m.bind f=some r) (k:∀ a F' H',f a=some r->Ext F H F' H'->Ext Fe He F' H'->D.nx (σ.set i (some (.str a))) H'):U9 te (k9 i) D σ H:=
 jeq (p:=pF cS) he X hm fun a v F' H' h1 h2 h3 h4=>by have e:v=.str a:=h4; subst e; exact k a F' H' h1 h2 h3
def jiN {r:δ} (he:Ev K σ F H te (rO c) m) (X:Ext Fe He F H) (hm:m.bind f=some r) (k:∀ l a F' H',f l=some r->Ext F H F' H'->Ext Fe He F' H'->H a=none->Own K He F' H' c l a->D.nx (σ.set i (some (.ref a))) H'):U9 te (k9 i) D σ H:=by
 obtain⟨a,ea,hm⟩:=bind_some hm;refine he F H (Ext.refl X.sub) a ea _ ?_;rintro v F2 H2 E ⟨b,xs,rfl,h1,h2,h3,h4⟩;exact k a b F2 H2 hm E (X.trans E) h1 ⟨X.h.free h1,h2,xs,h3,h4⟩
def jiO {j:Nat}{m:Option (α×β)}{f:α×β->Option δ}{r:δ} (he:Ev K σ F H te (rF (cP c d)) m) (X:Ext Fe He F H) (hm:m.bind f=some r)
  (k:∀ x y u v F' H',f (x,y)=some r->Ext F H F' H'->Ext Fe He F' H'->c.rep K F' x u->d.rep K F' y v->D.nx ((σ.set i (some u)).set j (some v)) H'):U9 te (jf9 K 2 (GX (k9 i) (GX (k9 j) jf8))) D σ H:=by
 obtain⟨⟨x,y⟩,ea,hm⟩:=bind_some hm;refine he F H (Ext.refl X.sub) _ ea _ ?_;rintro w F2 H2 E ⟨a,u,v,rfl,h1,h2,h3⟩;exact⟨a,[u,v],rfl,SqT.of (E.sub _ _ h1),rfl,u,[v],rfl,v,[],rfl,rfl,k x y u v F2 H2 hm E (X.trans E) h2 h3⟩
def jw {r:γ}{m:Option γ} (he:Ev K σ F H te rs m) (X:Ext Fe He F H) (hm:m=some r) (k:∀ v F' H',Ext Fe He F' H'->rs.rel K He F' H' r v->D.rt v H'):jjT te D σ H:=
 he F H (Ext.refl X.sub) r hm _ fun v F2 H2 E hv=>k v F2 H2 (X.trans E) (rs.back X.h hv)
def W6 {r:List α} (hi:σ[i]?=some (some (.ref a))) (o:Own K He F H c l a) (X:Ext Fe He F H) (hm:some l=some r) (k:∀ v F' H',Ext Fe He F' H'->(rO c).rel K He F' H' r v->D.rt v H'):jjT (Jo i) D σ H:=by
 cases hm;obtain⟨xs,h1,h2⟩:=o.h;exact⟨_,hi,k _ F H X ⟨a,xs,rfl,o.e,o.f,h1,h2⟩⟩
def jgz {u:TT}{t t':TS}{m:Option Bool}{A:Option δ}{r:δ} (hc:Et K σ F H u m) (X:Ext Fe He F H) (hm:(m.bind fun b=>bif b then A else B)=some r) (h1:∀ F' H',A=some r->Ext F H F' H'->Ext Fe He F' H'->t D σ H')
  (h2:∀ F' H',B=some r->Ext F H F' H'->Ext Fe He F' H'->t' D σ H'):jgg u t t' D σ H:=by
 obtain⟨b,eb,hm⟩:=bind_some hm;refine hc F H (Ext.refl X.sub) b eb _ fun F2 H2 E=>?_;cases b with
 | true=>exact jb5 (h1 F2 H2 hm E (X.trans E))
 | false=>exact jb4 (h2 F2 H2 hm E (X.trans E))
def jcd {u:TT}{t t':TS}{b:Bool}{A:Option δ}{r:δ} (hc:Et K σ F H u (some b)) (X:Ext Fe He F H) (hm:(bif b then A else B)=some r) (h1:∀ F' H',b=true->A=some r->Ext F H F' H'->Ext Fe He F' H'->t D σ H')
  (h2:∀ F' H',b=false->B=some r->Ext F H F' H'->Ext Fe He F' H'->t' D σ H'):jgg u t t' D σ H:=by
 refine hc F H (Ext.refl X.sub) b rfl _ fun F2 H2 E=>?_;cases b with
 | true=>exact jb5 (h1 F2 H2 rfl hm E (X.trans E))
 | false=>exact jb4 (h2 F2 H2 rfl hm E (X.trans E))
def jhZ {u:TT}{t t':TS}{m:Option Bool}{A B:Option β}{f:β->Option δ}{r:δ} (I:β->St->Hp->Prop) (hc:Et K σ F H u m) (X:Ext Fe He F H) (hm:(m.bind fun b=>bif b then A else B).bind f=some r)
  (h1:∀ b F' H',A=some b->Ext F H F' H'->Ext Fe He F' H'->t { D with nx:=I b } σ H') (h2:∀ b F' H',B=some b->Ext F H F' H'->Ext Fe He F' H'->t' { D with nx:=I b } σ H') (hk:∀ b σ' H',f b=some r->I b σ' H'->D.nx σ' H'):jlA (jgg u t t') D σ H:=by
 obtain⟨b,eb,hm⟩:=bind_some hm;obtain⟨x,ex,eb⟩:=bind_some eb;refine⟨I b,?_,fun σ' H' h=>hk b σ' H' hm h⟩;refine hc F H (Ext.refl X.sub) x ex _ fun F2 H2 E=>?_;cases x with
 | true=>exact jb5 (h1 b F2 H2 eb E (X.trans E))
 | false=>exact jb4 (h2 b F2 H2 eb E (X.trans E))
def jaO {u:TT}{t t':TS}{x:Bool}{A B:Option β}{f:β->Option δ}{r:δ} (I:β->St->Hp->Prop) (hc:Et K σ F H u (some x)) (X:Ext Fe He F H) (hm:(bif x then A else B).bind f=some r)
  (h1:∀ b F' H',A=some b->Ext F H F' H'->Ext Fe He F' H'->t { D with nx:=I b } σ H') (h2:∀ b F' H',B=some b->Ext F H F' H'->Ext Fe He F' H'->t' { D with nx:=I b } σ H') (hk:∀ b σ' H',f b=some r->I b σ' H'->D.nx σ' H'):jlA (jgg u t t') D σ H:=
 jhZ (m:=some x) I hc X hm h1 h2 hk
def jiP {m:Option γ}{f:γ->Option δ}{r:δ} (he:Ev K σ F H te rs m) (X:Ext Fe He F H) (hm:m.bind f=some r) (k:∀ a F' H',f a=some r->Ext F H F' H'->Ext Fe He F' H'->D.nx σ H'):V9 te D σ H:=by
 obtain⟨a,ea,hm⟩:=bind_some hm;exact he F H (Ext.refl X.sub) a ea _ fun v F2 H2 E hv=>k a F2 H2 hm E (X.trans E)
@[irreducible] def Zh (l:List α) (y:α):Option (List α):=if l.length<16777216 then some (l++[y]) else none
def Vo (X:Ext Fe He F H) (he:He a=none) (hf:F a=none) (h:Paired (c.rep K F) l xs):Ext Fe He F (upd H a (.lst xs))/\Own K He F (upd H a (.lst xs)) c l a:=
 ⟨X.upd he hf,he,hf,xs,j0,h⟩
def Uk {F:Hp}{o:HO} (E:Ext F H F' H'):Chg a F H F' (upd H' a o):=
 ⟨E.f,fun b u hb h=>by rw[ka hb]; exact E.h b u h,fun b u _ h=>E.new b u h⟩
def Ju {m:Option α}{r:δ} (hi:σ[i]?=some (some (.ref a))) (o:Own K He F H c l a) (he:Ev K σ F H te (rF c) m) (X:Ext Fe He F H) (hm:(m.bind fun y=>Zh l y).bind f=some r)
  (k:∀ l' F' H',f l'=some r->Chg a F H F' H'->Ext Fe He F' H'->Own K He F' H' c l' a->D.nx σ H'):V9 (tBM K "list" Ui (Jo i) (jH te xh)) D σ H:=by
 obtain⟨l',el,hm⟩:=bind_some hm;obtain⟨y,ey,el⟩:=bind_some el;unfold Zh at el;obtain⟨hl,rfl⟩:=jS el;obtain⟨xs,h1,h2⟩:=o.h;refine⟨_,hi,.inl ⟨rfl,_,SqL.of h1⟩,he F H (Ext.refl X.sub) y ey _ fun v F2 H2 E hv=>?_⟩;have o2:=o.mono E;have h3:Paired (c.rep K F2) l xs:=Paired.mapP h2 fun _ _=>c.mono E.f;refine⟨a,xs,v,rfl,rfl,E.h _ _ h1,by rw[Xy,<- h2.length]; exact hl,?_⟩;obtain⟨X',o'⟩:=Vo (K:=K) (c:=c) (X.trans E) o.e o2.f (Paired.app h3 (.cons hv .nil));exact k _ F2 _ hm (Uk E) X' o'
structure ItOk (K:W.Frag) (J:It) (c:Cd α) (l:List α) (G:Hp->Hp->Prop):Prop where
 go:∀ i F H,G F H->i<l.length->J.go i H
 yld:∀ i F H x H',G F H->J.yld i H x H'->∀ a,l[i]?=some a->∃ F',Ext F H F' H'/\c.rep K F' a x
 stop:∀ F H,G F H->J.stop l.length H
def jaP (h:∀ F H,G F H->SqL K H a xs/\Same F1 F/\Same F H) (hp:Paired (c.rep K F1) l xs):ItOk K (Itl K a) c l G where
 go:=fun i F H g hi=>⟨xs,xs[i]'(by rw[<- hp.length]; exact hi),(h F H g).1,Xc _⟩
 yld:=fun i F H x H' g y b hb=>by
  obtain⟨e,y⟩:=y;subst e;obtain⟨s1,s2,s3⟩:=h F _ g;obtain⟨v,hv,r⟩:=Paired.at hp hb;have:=y xs s1;rw[hv] at this;cases this;exact⟨F,Ext.refl s3,c.mono s2 r⟩
 stop:=fun F H g=>⟨xs,(h F H g).1,by rw[hp.length]; exact Xe _⟩
def jh0 (h:∀ F H,G F H->SqT K H a xs/\Same F1 F/\Same F H) (hp:Paired (c.rep K F1) l xs):ItOk K (Itt K a) c l G where
 go:=fun i F H g hi=>⟨xs,xs[i]'(by rw[<- hp.length]; exact hi),(h F H g).1,Xc _⟩
 yld:=fun i F H x H' g y b hb=>by
  obtain⟨e,y⟩:=y;subst e;obtain⟨s1,s2,s3⟩:=h F _ g;obtain⟨v,hv,r⟩:=Paired.at hp hb;have:=y xs s1;rw[hv] at this;cases this;exact⟨F,Ext.refl s3,c.mono s2 r⟩
 stop:=fun F H g=>⟨xs,(h F H g).1,by rw[hp.length]; exact Xe _⟩
def UO (lo hi:Int):List Int:=(List.range (hi-lo).toNat).map fun k=>lo+((k:Nat):Int)
def Wu (lo hi:Int):(UO lo hi).length=(hi-lo).toNat:=by simp[UO]
@[irreducible] def Gg (lo hi:Int):Option (List Int):=if -(2 ^ 62)<=lo/\lo<2 ^ 62/\-(2 ^ 62)<=hi/\hi<2 ^ 62 then some (UO lo hi) else none
def jce {lo hi:Int} (h:∀ F H,G F H->Same F H):ItOk K (Itr lo (hi-lo).toNat) cI (UO lo hi) G where
 go:=fun i F H g hi'=>by rw[Wu] at hi'; exact hi'
 yld:=fun i F H x H' g y b hb=>by
  obtain⟨e,y⟩:=y;subst e y;refine⟨F,Ext.refl (h F _ g),?_⟩;unfold UO at hb;rw[Xx] at hb;cases q:(List.range (hi-lo).toNat)[i]? with
  | none=>rw[q] at hb; cases hb
  | some j=>
   rw[q] at hb;have hij:j=i:=by
    obtain⟨h1,h2⟩:=List.getElem?_eq_some_iff.mp q;simpa using h2.symm
   subst hij;cases hb;rfl
 stop:=fun F H g=>by rw[Wu]; exact Xe _
def Ei (K:W.Frag) (σ:St) (F H Fe He:Hp) (wi:TI) (c:Cd α) (m:Option (List α)):Prop:=
 Ext Fe He F H->∀ l,m=some l->∀ R:It->Hp->Prop,(∀ J F1 H1,Ext F H F1 H1->ItOk K J c l (fun F' H'=>Ext Fe He F' H'/\Same F1 F')->R J H1)->wi σ H R
def Vp (h:Ev K σ F H t (rF (cL c)) m):Ei K σ F H Fe He (jgh K t) c m:=by
 intro X l e R k;refine h F H (Ext.refl X.sub) l e _ ?_;rintro v F2 H2 E ⟨a,xs,rfl,h1,h2⟩;exact⟨a,rfl,⟨xs,SqL.of (E.sub _ _ h1)⟩,k _ F2 H2 E (jaP (F1:=F2) (fun F' H' g=>⟨SqL.of (g.1.sub _ _ (g.2 _ _ h1)),g.2,g.1.sub⟩) h2)⟩
def jkz (h:Ev K σ F H t (rF (cT c)) m):Ei K σ F H Fe He (jlJ K t) c m:=by
 intro X l e R k;refine h F H (Ext.refl X.sub) l e _ ?_;rintro v F2 H2 E ⟨a,xs,rfl,h1,h2⟩;exact⟨a,rfl,⟨xs,SqT.of (E.sub _ _ h1)⟩,k _ F2 H2 E (jh0 (F1:=F2) (fun F' H' g=>⟨SqT.of (g.1.sub _ _ (g.2 _ _ h1)),g.2,g.1.sub⟩) h2)⟩
def jes (hi:σ[i]?=some (some v)) (b:Bor K He F c l v):Ei K σ F H Fe He (jgh K (Jo i)) c (some l):=by
 intro X l' e R k;cases e;obtain⟨a,xs,rfl,h1,h2⟩:=b;exact⟨_,hi,a,rfl,⟨xs,SqL.of (X.h _ _ h1)⟩,k _ F H (Ext.refl X.sub) (jaP (F1:=F) (fun F' H' g=>⟨SqL.of (g.1.h _ _ h1),g.2,g.1.sub⟩) h2)⟩
def jet {m:Option Int} (h:Ev K σ F H t (rF cI) m):Ei K σ F H Fe He (WQ (jH t xh)) cI (m.bind fun j=>Gg 0 j):=by
 intro X l e R k;obtain⟨j,ej,e⟩:=bind_some e;unfold Gg at e;obtain⟨⟨h1,h2,h3,h4⟩,rfl⟩:=jS e;refine h F H (Ext.refl X.sub) j ej _ fun v F2 H2 E hv=>?_;have ev:v=.int j:=hv;subst ev;refine⟨j,rfl,h3,h4,?_⟩;have q:=k (Itr 0 (j-0).toNat) F2 H2 E (jce fun F' H' g=>g.1.sub);rw[Int.sub_zero] at q;exact q
def jiQ {m:Option Int} (h:Ev K σ F H t (rF cI) m) (h':Ev K σ F H ta (rF cI) m'):Ei K σ F H Fe He (jaA (jH t (jH ta xh))) cI (m.bind fun i=>m'.bind fun j=>Gg i j):=by
 intro X l e R k;obtain⟨i,ei,e⟩:=bind_some e;obtain⟨j,ej,e⟩:=bind_some e;unfold Gg at e;obtain⟨⟨h1,h2,h3,h4⟩,rfl⟩:=jS e;refine h F H (Ext.refl X.sub) i ei _ fun v F2 H2 E hv=>h' F2 H2 E j ej _ fun v' F3 H3 E3 hv'=>?_;have ev:v=.int i:=hv;have ev':v'=.int j:=hv';subst ev ev';exact⟨i,j,rfl,⟨h1,h2,h3,h4⟩,k (Itr i (j-i).toNat) F3 H3 (E.trans E3) (jce fun F' H' g=>g.1.sub)⟩
def Ec (K:W.Frag) (σ:St) (F H:Hp) (wi:TI) (c:Cd α) (m:Option (List α)):Prop:=
 ∀ F1 H1,Ext F H F1 H1->∀ l,m=some l->∀ R:It->Hp->Prop,(∀ J F2 H2,Ext F1 H1 F2 H2->ItOk K J c l (fun F' H'=>Ext F2 H2 F' H')->R J H2)->wi σ H1 R
def yA (h:Ev K σ F H t (pR c).rs m):Ec K σ F H (jgh K t) c m:=by
 intro F1 H1 X l e R k;refine h F1 H1 X l e _ ?_;rintro v F2 H2 E ⟨a,xs,rfl,h1,h2⟩;exact⟨a,rfl,⟨xs,h1⟩,k _ F2 H2 E (jaP (F1:=F2) (fun F' H' g=>⟨g.h.seq h1,g.f,g.sub⟩) h2)⟩
def jeu (h:Ev K σ F H t (rF (cT c)) m):Ec K σ F H (jlJ K t) c m:=by
 intro F1 H1 X l e R k;refine h F1 H1 X l e _ ?_;rintro v F2 H2 E ⟨a,xs,rfl,h1,h2⟩;exact⟨a,rfl,⟨xs,SqT.of (E.sub _ _ h1)⟩,k _ F2 H2 E (jh0 (F1:=F2) (fun F' H' g=>⟨SqT.of (g.sub _ _ (g.f _ _ h1)),g.f,g.sub⟩) h2)⟩
def jev {m:Option Int} (h:Ev K σ F H t (rF cI) m):Ec K σ F H (WQ (jH t xh)) cI (m.bind fun j=>Gg 0 j):=by
 intro F1 H1 X l e R k;obtain⟨j,ej,e⟩:=bind_some e;unfold Gg at e;obtain⟨⟨h1,h2,h3,h4⟩,rfl⟩:=jS e;refine h F1 H1 X j ej _ fun v F2 H2 E hv=>?_;have ev:v=.int j:=hv;subst ev;refine⟨j,rfl,h3,h4,?_⟩;have q:=k (Itr 0 (j-0).toNat) F2 H2 E (jce fun F' H' g=>g.sub);rw[Int.sub_zero] at q;exact q
def jiR {m:Option Int} (h:Ev K σ F H t (rF cI) m) (h':Ev K σ F H ta (rF cI) m'):Ec K σ F H (jaA (jH t (jH ta xh))) cI (m.bind fun i=>m'.bind fun j=>Gg i j):=by
 intro F1 H1 X l e R k;obtain⟨i,ei,e⟩:=bind_some e;obtain⟨j,ej,e⟩:=bind_some e;unfold Gg at e;obtain⟨⟨h1,h2,h3,h4⟩,rfl⟩:=jS e;refine h F1 H1 X i ei _ fun v F2 H2 E hv=>h' F2 H2 (X.trans E) j ej _ fun v' F3 H3 E3 hv'=>?_;have ev:v=.int i:=hv;have ev':v'=.int j:=hv';subst ev ev';exact⟨i,j,rfl,⟨h1,h2,h3,h4⟩,k (Itr i (j-i).toNat) F3 H3 (E.trans E3) (jce fun F' H' g=>g.sub)⟩
def forM:List α->β->(β->α->Option β)->Option β
 | [],b,_=>some b
 | x::r,b,f=>(f b x).bind fun b'=>forM r b' f
inductive Fl (β γ:Type) where
 | nx (b:β)
 | rt (c:γ)
def Fl.el (x:Fl β γ) (A:γ->δ) (B:β->δ):δ:=match x with
 | .nx b=>B b
 | .rt c=>A c
def jh1:List α->β->(β->α->Option (Fl β γ))->Option (Fl β γ)
 | [],b,_=>some (.nx b)
 | x::r,b,f=>(f b x).bind fun s=>match s with
  | .nx b'=>jh1 r b' f
  | .rt c=>some (.rt c)
def jgA {g:TG}{tb:TS}{f:β->α->Option β}{b1:β} (I:β->St->Hp->Hp->Prop) (hJ:ItOk K J c l (fun F' H'=>Ext Fe He F' H'/\Same F1 F')) (hrun:forM l b0 f=some b1)
  (h0:I b0 σ F1 H1) (hG:∀ b σ F H,I b σ F H->Ext Fe He F H/\Same F1 F)
  (hs:∀ b b' x v σ F H F' H',I b σ F H->Ext F H F' H'->c.rep K F' x v->f b x=some b'->g v σ H' fun σ2 H2=>tb { D with nx:=fun σ H=>∃ F,I b' σ F H,ct:=fun σ H=>∃ F,I b' σ F H,bk:=D.nx } σ2 H2)
  (hd:∀ σ F H,I b1 σ F H->D.nx σ H) :
  ∃ W:Nat->Nat->St->Hp->Prop,(∃ m,W 0 m σ H1)/\∀ i m σ H,W i m σ H ->
   (J.stop i H/\D.nx σ H) \/ (J.go i H/\∃ N:St->Hp->Prop,(∀ σ' H',N σ' H'->∃ m',m'<m/\W (i+1) m' σ' H')/\∀ x H',J.yld i H x H'->g x σ H' fun σ2 H2=>tb { D with nx:=N,ct:=N,bk:=D.nx } σ2 H2):=by
 refine⟨fun i m σ H=>m=l.length-i/\i<=l.length/\∃ b F,forM (l.drop i) b f=some b1/\I b σ F H,⟨l.length,by simp,wc _,b0,F1,by simpa using hrun,h0⟩,?_⟩;rintro i m σ H ⟨rfl,hi,b,F,hb,hI⟩;have g0:=hG b σ F H hI;by_cases hlt:i<l.length
 ·have e:l.drop i=l[i]::l.drop (i+1):=List.drop_eq_getElem_cons hlt;rw[e] at hb;obtain⟨b',hf,hb⟩:=bind_some hb;refine .inr ⟨hJ.go i F H g0 hlt,fun σ H=>∃ F,I b' σ F H,fun σ' H' ⟨F',h'⟩=>⟨l.length-(i+1),by omega,rfl,hlt,b',F',hb,h'⟩,fun x H' y=>?_⟩;obtain⟨F',E',r'⟩:=hJ.yld i F H x H' g0 y _ (Xc hlt);exact hs b b' l[i] x σ F H F' H' hI E' r' hf
 ·have e:i=l.length:=by omega
  subst e;rw[List.drop_length] at hb;cases hb;exact .inl ⟨hJ.stop F H g0,hd σ F H hI⟩
def jew {g:TG}{tb:TS}{f:β->α->Option (Fl β γ)}{b1:Fl β γ} (I:β->St->Hp->Hp->Prop) (P:γ->Prop) (hJ:ItOk K J c l (fun F' H'=>Ext Fe He F' H'/\Same F1 F')) (hrun:jh1 l b0 f=some b1)
  (hP:∀ c,b1=.rt c->P c) (h0:I b0 σ F1 H1) (hG:∀ b σ F H,I b σ F H->Ext Fe He F H/\Same F1 F)
  (hs:∀ b s x v σ F H F' H',I b σ F H->Ext F H F' H'->c.rep K F' x v->f b x=some s->(∀ c,s=.rt c->P c)->g v σ H' fun σ2 H2=>tb { D with nx:=fun σ H=>∃ b' F,s=.nx b'/\I b' σ F H,ct:=fun σ H=>∃ b' F,s=.nx b'/\I b' σ F H,bk:=D.nx } σ2 H2)
  (hd:∀ b σ F H,b1=.nx b->I b σ F H->D.nx σ H) :
  ∃ W:Nat->Nat->St->Hp->Prop,(∃ m,W 0 m σ H1)/\∀ i m σ H,W i m σ H ->
   (J.stop i H/\D.nx σ H) \/ (J.go i H/\∃ N:St->Hp->Prop,(∀ σ' H',N σ' H'->∃ m',m'<m/\W (i+1) m' σ' H')/\∀ x H',J.yld i H x H'->g x σ H' fun σ2 H2=>tb { D with nx:=N,ct:=N,bk:=D.nx } σ2 H2):=by
 refine⟨fun i m σ H=>m=l.length-i/\i<=l.length/\∃ b F,jh1 (l.drop i) b f=some b1/\I b σ F H,⟨l.length,by simp,wc _,b0,F1,by simpa using hrun,h0⟩,?_⟩;rintro i m σ H ⟨rfl,hi,b,F,hb,hI⟩;have g0:=hG b σ F H hI;by_cases hlt:i<l.length
 ·have e:l.drop i=l[i]::l.drop (i+1):=List.drop_eq_getElem_cons hlt;rw[e] at hb;obtain⟨s,hf,hb⟩:=bind_some hb;refine .inr ⟨hJ.go i F H g0 hlt,fun σ H=>∃ b' F,s=.nx b'/\I b' σ F H,?_,fun x H' y=>?_⟩
  ·rintro σ' H' ⟨b',F',rfl,h'⟩;exact⟨l.length-(i+1),by omega,rfl,hlt,b',F',hb,h'⟩
  ·obtain⟨F',E',r'⟩:=hJ.yld i F H x H' g0 y _ (Xc hlt);refine hs b s l[i] x σ F H F' H' hI E' r' hf ?_;rintro c rfl;cases hb;exact hP c rfl
 ·have e:i=l.length:=by omega
  subst e;rw[List.drop_length] at hb;cases hb;exact .inl ⟨hJ.stop F H g0,hd b σ F H rfl hI⟩
def ZF {g:TG}{tb:TS}{f:β->α->Option β}{r:δ} (hi:Ei K σ F H Fe He wi c m) (X:Ext Fe He F H) (hm:(m.bind fun l=>forM l b0 f).bind kk=some r) (I:Hp->β->St->Hp->Hp->Prop)
  (h0:∀ F1 H1,Ext F H F1 H1->Ext Fe He F1 H1->I F1 b0 σ F1 H1) (hG:∀ F1 b σ F H,I F1 b σ F H->Ext Fe He F H/\Same F1 F)
  (hs:∀ F1 (S0:Same F F1) b b' x v σ F H F' H',I F1 b σ F H->Ext F H F' H'->c.rep K F' x v->f b x=some b'->g v σ H' fun σ2 H2=>tb { D with nx:=fun σ H=>∃ F,I F1 b' σ F H,ct:=fun σ H=>∃ F,I F1 b' σ F H,bk:=D.nx } σ2 H2)
  (hd:∀ F1 (S0:Same F F1) b σ F H,kk b=some r->I F1 b σ F H->D.nx σ H):jhK wi g tb D σ H:=by
 obtain⟨b1,hb,hk⟩:=bind_some hm;obtain⟨l,el,hrun⟩:=bind_some hb;exact hi X l el _ fun J F1 H1 E hJ=>jgA (I F1) hJ hrun (h0 F1 H1 E (X.trans E)) (hG F1) (hs F1 E.f) fun σ F H h=>hd F1 E.f b1 σ F H hk h
def jiS {g:TG}{tb:TS}{f:β->α->Option (Fl β γ)}{A:γ->Option δ}{r:δ} (P:γ->Prop) (hi:Ei K σ F H Fe He wi c m) (X:Ext Fe He F H) (hm:(m.bind fun l=>jh1 l b0 f).bind (fun x=>x.el A kk)=some r) (hP:∀ c,A c=some r->P c) (I:Hp->β->St->Hp->Hp->Prop)
  (h0:∀ F1 H1,Ext F H F1 H1->Ext Fe He F1 H1->I F1 b0 σ F1 H1) (hG:∀ F1 b σ F H,I F1 b σ F H->Ext Fe He F H/\Same F1 F)
  (hs:∀ F1 (S0:Same F F1) b s x v σ F H F' H',I F1 b σ F H->Ext F H F' H'->c.rep K F' x v->f b x=some s->(∀ c,s=.rt c->P c)->g v σ H' fun σ2 H2=>tb { D with nx:=fun σ H=>∃ b' F,s=.nx b'/\I F1 b' σ F H,ct:=fun σ H=>∃ b' F,s=.nx b'/\I F1 b' σ F H,bk:=D.nx } σ2 H2)
  (hd:∀ F1 (S0:Same F F1) b σ F H,kk b=some r->I F1 b σ F H->D.nx σ H):jhK wi g tb D σ H:=by
 obtain⟨b1,hb,hk⟩:=bind_some hm;obtain⟨l,el,hrun⟩:=bind_some hb;exact hi X l el _ fun J F1 H1 E hJ=>jew (I F1) P hJ hrun (fun c e=>hP c (by subst e; exact hk)) (h0 F1 H1 E (X.trans E)) (hG F1) (hs F1 E.f) fun b σ F H e h=>hd F1 E.f b σ F H (by subst e; exact hk) h
def jaQ:List α->(α->Option Bool)->(α->Option β)->Option (List β)
 | [],_,_=>some []
 | x::r,p,f=>(p x).bind fun b=>bif b then (f x).bind fun y=>(jaQ r p f).bind fun ys=>some (y::ys) else jaQ r p f
@[irreducible] def kS (l:List α) (p:α->Option Bool) (f:α->Option β):Option (List β):=if l.length<=16777216 then jaQ l p f else none
def Bds (K:W.Frag) (c:Cd α) (g:TG) (n:Nat) (fr:St) (Bd:Hp->α->St->Prop):Prop:=
 ∀ F H x v own Q,own.length=n->c.rep K F x v->Same F H->(∀ own',own'.length=n->Bd F x own'->Q (own'++fr) H)->g v (own++fr) H Q
def jex {g:Blk->TG}{tc:Blk->TT}{te:Blk->TE}{mc:α->Option Bool}{me:α->Option β} (Bd:Hp->α->St->Prop) (hi:Ec K σ F H wi c m)
  (hfr:(ix.map fun i=>(σ[i]?).join)=fr) (hg:∀ b,Bds K c (g b) n fr Bd)
  (hc:∀ b x own F' H',Ext F H F' H'->Bd F' x own->Et K (own++fr) F' H' (tc b) (mc x)) (he:∀ b x own F' H',Ext F H F' H'->Bd F' x own->Ev K (own++fr) F' H' (te b) (rF d) (me x)) :
  Ev K σ F H (Qo wi n ix g tc te) (rO d) (m.bind fun l=>kS l mc me):=by
 intro F1 H1 E z ez Q k;obtain⟨l,el,ez⟩:=bind_some ez;obtain⟨hlen,ez⟩:l.length<=16777216/\jaQ l mc me=some z:=by
  unfold kS at ez;by_cases h:l.length<=16777216
  ·rw[if_pos h] at ez; exact ⟨h,ez⟩
  ·rw[if_neg h] at ez; cases ez
 refine hi F1 H1 E l el _ fun J F2 H2 E2 hJ b D hD=>?_;have hz:sizeLine=16777216:=Xy;have E02:=E.trans E2;refine⟨fun i m ys σ' H'=>m=l.length-i/\i<=l.length/\ys.length<=i/\∃ zs rest F' own,own.length=n/\σ'=own++fr/\Ext F2 H2 F' H'/\F' D=none/\H' D=some (.lst ys)/\Paired (d.rep K F') zs ys/\jaQ (l.drop i) mc me=some rest/\zs++rest=z,?_,?_⟩
 ·refine⟨l.length,by simp,wc _,Xe _,[],z,F2,List.replicate n none,by simp,by rw[ZB,hfr],Ext.newO E2.sub hD,E2.sub.free hD,j0,.nil,by simpa using ez,rfl⟩
 rintro i m ys σ' H' ⟨rfl,hi',hys,zs,rest,F',own,hown,rfl,X,fD,hHD,hp,hrest,hzr⟩;by_cases hlt:i<l.length
 ·have ed:l.drop i=l[i]::l.drop (i+1):=List.drop_eq_getElem_cons hlt;rw[ed] at hrest;obtain⟨bb,hbb,hrest⟩:=bind_some hrest;refine .inr ⟨hJ.go i F' H' X hlt,fun ys' σ2 H2'=>ys'.length<=i+1/\∃ zs rest F' own,own.length=n/\σ2=own++fr/\Ext F2 H2 F' H2'/\F' D=none/\H2' D=some (.lst ys')/\Paired (d.rep K F') zs ys'/\jaQ (l.drop (i+1)) mc me=some rest/\zs++rest=z,
   fun ys' σ2 H2' h=>⟨l.length-(i+1),by omega,rfl,hlt,h⟩,fun x H3 y=>?_⟩
  obtain⟨F3,E3,r3⟩:=hJ.yld i F' H' x H3 X y _ (Xc hlt);have X3:=X.trans E3;refine hg b F3 H3 l[i] x own _ hown r3 X3.sub fun own' hown' hbd=>?_;refine hc b l[i] own' F3 H3 (E02.trans X3) hbd F3 H3 (Ext.refl X3.sub) bb hbb _ fun F4 H4 E4=>?_;have X4:=X3.trans E4;have keepD:∀ {Fa Ha Fb Hb:Hp},Ext Fa Ha Fb Hb->Fa D=none->Ha D=some (.lst ys)->Fb D=none/\Hb D=some (.lst ys):=fun {Fa Ha Fb Hb} Eab f1 h1=>by
   refine⟨?_,Eab.h _ _ h1⟩;cases e:Fb D with
   | none=>rfl
   | some u=>
    rcases Eab.new D u e with w | w
    ·rw[f1] at w; cases w
    ·rw[h1] at w; cases w
  obtain⟨f3,g3⟩:=keepD E3 fD hHD;obtain⟨f4,g4⟩:=keepD E4 f3 g3;cases bb with
  | true=>
   obtain⟨y',hy,hrest⟩:=bind_some hrest;obtain⟨ys2,hys2,hrest⟩:=bind_some hrest;cases hrest;refine jb5 (he b l[i] own' F3 H3 (E02.trans X3) hbd F4 H4 E4 y' hy _ fun w F5 H5 E5 hw=>?_);obtain⟨f5,g5⟩:=keepD E5 f4 g4;refine⟨g5,by omega,?_⟩;have X5:=X4.trans E5;refine⟨by simp; omega,zs++[y'],ys2,F5,own',hown',rfl,X5.upd hD f5,f5,j0,Paired.app (Paired.mapP hp fun _ _=>d.mono (E3.f.trans (E4.f.trans E5.f))) (.cons hw .nil),hys2,by rw[<- hzr]; simp⟩
  | false=>
   exact jb4 ⟨by omega,zs,rest,F4,own',hown',rfl,X4,f4,g4,Paired.mapP hp fun _ _=>d.mono (E3.f.trans E4.f),hrest,hzr⟩
 ·have e:i=l.length:=by omega
  subst e;rw[List.drop_length] at hrest;cases hrest;rw[List.append_nil] at hzr;subst hzr;refine .inl ⟨hJ.stop F' H' X,k _ F' H' (E2.trans X) ⟨D,ys,rfl,E2.h.free hD,fD,hHD,hp⟩⟩
def jmZ {own:St} (h:own.length=1):∃ v,own=[v]:=by
 match own,h with
 | [v],_=>exact ⟨v,rfl⟩
def jm0 {own:St} (h:own.length=2):∃ u v,own=[u,v]:=by
 match own,h with
 | [u,v],_=>exact ⟨u,v,rfl⟩
def Bd1 (K:W.Frag) (c:Cd α):Hp->α->St->Prop:=fun F x own=>∃ v,own=[some v]/\c.rep K F x v
def jm1:Bds K c (k9 0) 1 fr (Bd1 K c):=by
 intro F H x v own Q h1 h2 h3 k;obtain⟨u,rfl⟩:=jmZ h1;exact k [some v] rfl ⟨v,rfl,h2⟩
def Bd2 (K:W.Frag) (c:Cd α) (d:Cd β):Hp->α×β->St->Prop:=fun F x own=>∃ u v,own=[some u,some v]/\c.rep K F x.1 u/\d.rep K F x.2 v
def jm2:Bds K (cP c d) (jf9 K 2 (GX (k9 0) (GX (k9 1) jf8))) 2 fr (Bd2 K c d):=by
 intro F H x v own Q h1 h2 h3 k;obtain⟨a,u,w,rfl,e1,e2,e3⟩:=h2;obtain⟨u',v',rfl⟩:=jm0 h1;exact⟨a,_,rfl,SqT.of (h3 _ _ e1),rfl,u,_,rfl,w,_,rfl,rfl,k [some u,some w] rfl ⟨u,w,rfl,e2,e3⟩⟩
def W7 {tc:Blk->TT}{te:Blk->TE}{mc:α->Option Bool}{me:α->Option β} (hi:Ec K σ F H wi c m) (fr:St) (hfr:(ix.map fun i=>(σ[i]?).join)=fr)
  (hc:∀ b x v F' H',Ext F H F' H'->c.rep K F' x v->Et K (some v::fr) F' H' (tc b) (mc x)) (he:∀ b x v F' H',Ext F H F' H'->c.rep K F' x v->Ev K (some v::fr) F' H' (te b) (rF d) (me x)) :
  Ev K σ F H (Qo wi 1 ix (fun _=>k9 0) tc te) (rO d) (m.bind fun l=>kS l mc me):=
 jex (Bd1 K c) hi hfr (fun _=>jm1) (fun b x own F' H' E ⟨v,e,r⟩=>by subst e; exact hc b x v F' H' E r) fun b x own F' H' E ⟨v,e,r⟩=>by subst e; exact he b x v F' H' E r
def jcf {tc:Blk->TT}{te:Blk->TE}{m:Option (List Int)}{mc:Int->Option Bool}{me:Int->Option β} (hi:Ec K σ F H wi cI m) (fr:St) (hfr:(ix.map fun i=>(σ[i]?).join)=fr)
  (hc:∀ b x F' H',Ext F H F' H'->Et K (some (.int x)::fr) F' H' (tc b) (mc x)) (he:∀ b x F' H',Ext F H F' H'->Ev K (some (.int x)::fr) F' H' (te b) (rF d) (me x)) :
  Ev K σ F H (Qo wi 1 ix (fun _=>k9 0) tc te) (rO d) (m.bind fun l=>kS l mc me):=
 W7 hi fr hfr (fun b x v F' H' E r=>by have e:v=.int x:=r; subst e; exact hc b x F' H' E) fun b x v F' H' E r=>by have e:v=.int x:=r; subst e; exact he b x F' H' E
def jgB {tc:Blk->TT}{te:Blk->TE}{d1:Cd β}{e:Cd γ}{m:Option (List (α×β))}{mc:α×β->Option Bool}{me:α×β->Option γ} (hi:Ec K σ F H wi (cP c d1) m) (fr:St) (hfr:(ix.map fun i=>(σ[i]?).join)=fr)
  (hc:∀ b x y u v F' H',Ext F H F' H'->c.rep K F' x u->d1.rep K F' y v->Et K (some u::some v::fr) F' H' (tc b) (mc (x,y))) (he:∀ b x y u v F' H',Ext F H F' H'->c.rep K F' x u->d1.rep K F' y v->Ev K (some u::some v::fr) F' H' (te b) (rF e) (me (x,y))) :
  Ev K σ F H (Qo wi 2 ix (fun _=>jf9 K 2 (GX (k9 0) (GX (k9 1) jf8))) tc te) (rO e) (m.bind fun l=>kS l mc me):=
 jex (Bd2 K c d1) hi hfr (fun _=>jm2) (fun b x own F' H' E ⟨u,v,e,r,r'⟩=>by subst e; exact hc b x.1 x.2 u v F' H' E r r') fun b x own F' H' E ⟨u,v,e,r,r'⟩=>by subst e; exact he b x.1 x.2 u v F' H' E r r'
def ym:Et K σ F H jmK (some true):=fun F1 H1 E b e Q k=>by cases e; exact k F1 H1 (Ext.refl E.sub)
end
section
variable {F:Hp}{t:TE}{c:Cd α}{d:Cd β}{p:Pm α}{q:Pm β}{rs:Rs γ}{ma mb:Option Int}{i:Int}
def Jv {m:Option α}{f:α->Option δ}{r:δ} (he:Ev K σ F H te (rF c) m) (X:Ext Fe He F H) (hm:m.bind f=some r) (k:∀ a v F' H',f a=some r->Ext F H F' H'->Ext Fe He F' H'->c.rep K F' a v->D.nx (σ.set k' (some v)) H'):U9 te (k9 k') D σ H:=
 jeq (p:=pF c) he X hm k
def cnt (h:D.ct σ H):jlH D σ H:=h
def x9 {k:Nat}{Q:St->Hp->Prop} (h:Q (σ.set k (some v)) H):k9 k v σ H Q:=h
def jcg {k l:Nat}{w:V}{x:α}{y:β}{Q:St->Hp->Prop} (r:(cP c d).rep K F (x,y) w) (s:Same F H) (h:∀ u v,c.rep K F x u->d.rep K F y v->Q ((σ.set k (some u)).set l (some v)) H):jf9 K 2 (GX (k9 k) (GX (k9 l) jf8)) w σ H Q:=by
 obtain⟨a,u,v,rfl,h1,h2,h3⟩:=r;exact⟨a,[u,v],rfl,SqT.of (s _ _ h1),rfl,u,[v],rfl,v,[],rfl,rfl,h u v h2 h3⟩
def jkA (h:-(2 ^ 64)<i/\i<2 ^ 64):Wb i j=some (i * j):=by unfold Wb; exact if_pos (.inl h)
def jkB (h:-(2 ^ 64)<j/\j<2 ^ 64):Wb i j=some (i * j):=by unfold Wb; exact if_pos (.inr h)
def jch (h:0<j/\j<2 ^ 1000):jem i j=some (i / j):=by unfold jem; exact if_pos h
def jci (h:0<j):jaI i j=some (i % j):=by unfold jaI; exact if_pos h
def jgC (h:0<=j/\j<=1000000/\i.natAbs<2 ^ 64):jkp i j=some (i ^ j.toNat):=by unfold jkp; exact if_pos h
def jgD (h:0<=j):jiI i j=some (i / 2 ^ j.toNat):=by unfold jiI; exact if_pos h
def W8 {ma:Option α}{mb:Option β}{f g:α->β->Option γ}{r:TE} (h:Ev K σ F H r rs (ma.bind fun a=>mb.bind fun b=>f a b)) (e:∀ a b,ma=some a->mb=some b->g a b=f a b):Ev K σ F H r rs (ma.bind fun a=>mb.bind fun b=>g a b):=by
 refine h.cast ?_;cases ma with
 | none=>rfl
 | some a=>
  cases mb with
  | none=>rfl
  | some b=>exact e a b rfl rfl
def jiT (h:-(2 ^ 64)<j/\j<2 ^ 64) (ha:Ev K σ F H ta (rF cI) ma) (hb:Ev K σ F H tb (rF cI) (some j)):Ev K σ F H (tOp (rI CMul fun i j=>.int (i * j)) ta tb) (rF cI) (ma.bind fun a=>some (a * j)):=
 W8 (mb:=some j) (g:=fun a _=>some (a * j)) (jaH UZ ha hb) fun a b _ e=>by cases e; exact (jkB h).symm
def jiU (h:-(2 ^ 64)<i/\i<2 ^ 64) (ha:Ev K σ F H ta (rF cI) (some i)) (hb:Ev K σ F H tb (rF cI) mb):Ev K σ F H (tOp (rI CMul fun i j=>.int (i * j)) ta tb) (rF cI) (mb.bind fun b=>some (i * b)):=
 (W8 (ma:=some i) (g:=fun a b=>some (i * b)) (jaH UZ ha hb) fun a b e _=>by cases e; exact (jkA h).symm)
def jey (h:0<j) (ha:Ev K σ F H ta (rF cI) ma) (hb:Ev K σ F H tb (rF cI) (some j)):Ev K σ F H (tOp (rI (fun _ j=>0<j) fun i j=>.int (i % j)) ta tb) (rF cI) (ma.bind fun a=>some (a % j)):=
 W8 (mb:=some j) (g:=fun a _=>some (a % j)) (jaH W1 ha hb) fun a b _ e=>by cases e; exact (jci h).symm
def jiV (h:0<j/\j<2 ^ 250) (ha:Ev K σ F H ta (rF cI) ma) (hb:Ev K σ F H tb (rF cI) (some j)):Ev K σ F H (tOp (rI jek fun i j=>.int (i / j)) ta tb) (rF cI) (ma.bind fun a=>some (a / j)):=
 W8 (mb:=some j) (g:=fun a _=>some (a / j)) (jaH jaJ ha hb) fun a b _ e=>by cases e; exact (jch ⟨h.1,Int.lt_trans h.2 (by have:(2:Nat) ^ 250<2 ^ 1000:=Nat.pow_lt_pow_right (by decide) (by decide); exact_mod_cast this)⟩).symm
def jiW {i:Int}{j:Nat} (h:(0:Int)<=(j:Int)/\(j:Int)<=1000000/\i.natAbs<2 ^ 64) (ha:Ev K σ F H ta (rF cI) (some i)) (hb:Ev K σ F H tb (rF cI) (some (j:Int))):Ev K σ F H (tOp (rI jjU fun i j=>.int (i ^ j.toNat)) ta tb) (rF cI) (some (i ^ j)):=
 (jaH jlQ ha hb).cast (by show _=jkp i j; rw[jgC h,XS])
def W9:∀ {l:List Bool}{xs:List V},Paired (cB.rep K H) l xs->xs=l.map V.bl
 | _,_,.nil=>rfl
 | _,_,.cons r t=>by rw[Xp,<- W9 t]; exact congrArg (·::_) r
def W_:∀ {l:List Int}{xs:List V},Paired (cI.rep K H) l xs->xs=l.map V.int
 | _,_,.nil=>rfl
 | _,_,.cons r t=>by rw[Xp,<- W_ t]; exact congrArg (·::_) r
def jlU:Op1 K (fun x H Q=>∃ (p:Addr) (bs:List Bool),[x]=[V.ref p]/\SqL K H p (bs.map V.bl)/\Q (.bl (bs.any id)) H) (pR cB) (rF cB) (fun l=>some (l.any id)):=by
 intro F H l x s hx z hz Q k;obtain⟨p,xs,rfl,h1,h2⟩:=hx;cases hz;exact⟨p,l,rfl,by rw[<- W9 h2]; exact h1,k _ F H (Ext.refl s) rfl⟩
def jkC:Op1 K (fun x H Q=>∃ (p:Addr) (bs:List Bool),[x]=[V.ref p]/\SqL K H p (bs.map V.bl)/\Q (.bl (bs.all id)) H) (pR cB) (rF cB) (fun l=>some (l.all id)):=by
 intro F H l x s hx z hz Q k;obtain⟨p,xs,rfl,h1,h2⟩:=hx;cases hz;exact⟨p,l,rfl,by rw[<- W9 h2]; exact h1,k _ F H (Ext.refl s) rfl⟩
def jez:Op1 K (fun x H Q=>∃ (p:Addr) (ns:List Int),[x]=[V.ref p]/\SqL K H p (ns.map V.int)/\Q (.int ns.sum) H) (pR cI) (rF cI) (fun l=>some l.sum):=by
 intro F H l x s hx z hz Q k;obtain⟨p,xs,rfl,h1,h2⟩:=hx;cases hz;exact⟨p,l,rfl,by rw[<- W_ h2]; exact h1,k _ F H (Ext.refl s) rfl⟩
def jeA (h:Ev K σ F H t (rF cI) ma):Ev K σ F H (jki K "int" (fun x vs H Q=>∃ i,x=.int i/\vs=[]/\Q (.int (Builtin.Int.intBits i)) H) t) (rF cI) (ma.bind fun a=>some ((Builtin.Int.intBits a:Nat):Int)):=by
 intro F1 H1 E z e Q k;obtain⟨a,ea,e⟩:=bind_some e;cases e;refine h F1 H1 E a ea _ fun v F2 H2 E2 hv=>?_;have ev:v=.int a:=hv;subst ev;exact⟨rfl,a,rfl,rfl,k _ F2 H2 E2 rfl⟩
def ZG {tc:Blk->TT}{te:Blk->TE}{e:Cd γ}{m:Option (List (Int×Int))} (hi:Ec K σ F H wi (cP cI cI) m) (fr:St) (hfr:(ix.map fun i=>(σ[i]?).join)=fr)
  (hc:∀ b x y F' H',Ext F H F' H'->Et K (some (.int x)::some (.int y)::fr) F' H' (tc b) (mc (x,y))) (he:∀ b x y F' H',Ext F H F' H'->Ev K (some (.int x)::some (.int y)::fr) F' H' (te b) (rF e) (me (x,y))) :
  Ev K σ F H (Qo wi 2 ix (fun _=>jf9 K 2 (GX (k9 0) (GX (k9 1) jf8))) tc te) (rO e) (m.bind fun l=>kS l mc me):=
 jgB hi fr hfr (fun b x y u v F' H' E r r'=>by have e1:u=.int x:=r; have e2:v=.int y:=r'; subst e1 e2; exact hc b x y F' H' E) fun b x y u v F' H' E r r'=>by have e1:u=.int x:=r; have e2:v=.int y:=r'; subst e1 e2; exact he b x y F' H' E
@[irreducible] def jiX (l:List α) (i:Int) (y:α):Option (List α):=(ixN l.length i).bind fun j=>some (l.set j y)
def Paired.setP {a:α}{b:β} (r:R a b):∀ {l:List α}{xs:List β} (i:Nat),Paired R l xs->Paired R (l.set i a) (xs.set i b)
 | _,_,_,.nil=>.nil
 | _,_,0,.cons _ t=>.cons r t
 | _,_,i+1,.cons q t=>.cons q (Paired.setP r i t)
def jeB {m:Option α}{r:δ} (hi:σ[k']?=some (some (.ref a))) (o:Own K He F H c l a) (he:Ev K σ F H te (rF c) m) (hj:Ev K σ F H ta (rF cI) mi) (X:Ext Fe He F H) (hm:(m.bind fun y=>mi.bind fun j=>jiX l j y).bind f=some r)
  (k:∀ l' F' H',f l'=some r->Chg a F H F' H'->Ext Fe He F' H'->Own K He F' H' c l' a->D.nx σ H'):U9 te (jlw (Jo k') ta jgq) D σ H:=by
 obtain⟨l',el,hm⟩:=bind_some hm;obtain⟨y,ey,el⟩:=bind_some el;obtain⟨j,ej,el⟩:=bind_some el;unfold jiX at el;obtain⟨n,en,el⟩:=bind_some el;cases el;obtain⟨xs,h1,h2⟩:=o.h;refine he F H (Ext.refl X.sub) y ey _ fun v F2 H2 E hv=>⟨_,hi,?_⟩;refine hj F2 H2 E j ej _ fun w F3 H3 E3 hw=>?_;have ew:w=.int j:=hw;subst ew;have E13:=E.trans E3;have o2:=o.mono E13;have h3:Paired (c.rep K F3) l xs:=Paired.mapP h2 fun _ _=>c.mono E13.f;refine⟨a,xs,j,n,rfl,rfl,E13.h _ _ h1,by rw[<- h2.length]; exact en,?_⟩;obtain⟨X',o'⟩:=Vo (K:=K) (c:=c) (X.trans E13) o.e o2.f (Paired.setP (c.mono E3.f hv) n h3);exact k _ F3 _ hm (Uk E13) X' o'
def QD {y:α}{r:δ} (hi:σ[k']?=some (some (.ref a))) (o:Own K He F H c l a) (he:Ev K σ F H te (rF c) (some y)) (X:Ext Fe He F H) (hm:(Zh l y).bind f=some r)
  (k:∀ l' F' H',f l'=some r->Chg a F H F' H'->Ext Fe He F' H'->Own K He F' H' c l' a->D.nx σ H'):V9 (tBM K "list" Ui (Jo k') (jH te xh)) D σ H:=Ju (m:=some y) hi o he X hm k
def jeC {y:α}{n:Int}{r:δ} (hi:σ[k']?=some (some (.ref a))) (o:Own K He F H c l a) (he:Ev K σ F H te (rF c) (some y)) (hj:Ev K σ F H ta (rF cI) (some n)) (X:Ext Fe He F H) (hm:(jiX l n y).bind f=some r)
  (k:∀ l' F' H',f l'=some r->Chg a F H F' H'->Ext Fe He F' H'->Own K He F' H' c l' a->D.nx σ H'):U9 te (jlw (Jo k') ta jgq) D σ H:=jeB (m:=some y) (mi:=some n) hi o he hj X hm k
end
section
variable {F:Hp}{t:TE}{c:Cd α}{d:Cd β}{p:Pm α}{q:Pm β}{rs:Rs γ} 
def qb {m:Option Int}{f:Int->Option δ}{r:δ} (he:Ev K σ F H te (rF cI) m) (X:Ext Fe He F H) (hm:m.bind f=some r) (k:∀ a F' H',f a=some r->Ext F H F' H'->Ext Fe He F' H'->u' D (σ.set i (some (.int a))) H'):QT (U9 te (k9 i)) u' D σ H:=
 zR (D:={ D with nx:=u' D }) he X hm k
def jcj {m:Option Str}{f:Str->Option δ}{r:δ} (he:Ev K σ F H te (rF cS) m) (X:Ext Fe He F H) (hm:m.bind f=some r) (k:∀ a F' H',f a=some r->Ext F H F' H'->Ext Fe He F' H'->u' D (σ.set i (some (.str a))) H'):QT (U9 te (k9 i)) u' D σ H:=
 jer (D:={ D with nx:=u' D }) he X hm k
def Jw {r:δ} (he:Ev K σ F H te (rO c) m) (X:Ext Fe He F H) (hm:m.bind f=some r) (k:∀ l a F' H',f l=some r->Ext F H F' H'->Ext Fe He F' H'->H a=none->Own K He F' H' c l a->u' D (σ.set i (some (.ref a))) H'):QT (U9 te (k9 i)) u' D σ H:=
 jiN (D:={ D with nx:=u' D }) he X hm k
def jeD {j:Nat}{m:Option (α×β)}{f:α×β->Option δ}{r:δ} (he:Ev K σ F H te (rF (cP c d)) m) (X:Ext Fe He F H) (hm:m.bind f=some r)
  (k:∀ x y u v F' H',f (x,y)=some r->Ext F H F' H'->Ext Fe He F' H'->c.rep K F' x u->d.rep K F' y v->u' D ((σ.set i (some u)).set j (some v)) H'):QT (U9 te (jf9 K 2 (GX (k9 i) (GX (k9 j) jf8)))) u' D σ H:=
 jiO (D:={ D with nx:=u' D }) he X hm k
def yB {m:Option α}{f:α->Option δ}{r:δ} (he:Ev K σ F H te (rF c) m) (X:Ext Fe He F H) (hm:m.bind f=some r) (k:∀ a v F' H',f a=some r->Ext F H F' H'->Ext Fe He F' H'->c.rep K F' a v->u' D (σ.set k' (some v)) H'):QT (U9 te (k9 k')) u' D σ H:=
 Jv (D:={ D with nx:=u' D }) he X hm k
def jgE {u:TT}{t t':TS}{m:Option Bool}{A:Option δ}{r:δ} (hc:Et K σ F H u m) (X:Ext Fe He F H) (hm:(m.bind fun b=>bif b then A else B)=some r) (h1:∀ F' H',A=some r->Ext F H F' H'->Ext Fe He F' H'->t { D with nx:=u' D } σ H')
  (h2:∀ F' H',B=some r->Ext F H F' H'->Ext Fe He F' H'->t' { D with nx:=u' D } σ H'):QT (jgg u t t') u' D σ H:=
 jgz (D:={ D with nx:=u' D }) hc X hm h1 h2
def QY {u:TT}{t t':TS}{b:Bool}{A:Option δ}{r:δ} (hc:Et K σ F H u (some b)) (X:Ext Fe He F H) (hm:(bif b then A else B)=some r) (h1:∀ F' H',b=true->A=some r->Ext F H F' H'->Ext Fe He F' H'->t { D with nx:=u' D } σ H')
  (h2:∀ F' H',b=false->B=some r->Ext F H F' H'->Ext Fe He F' H'->t' { D with nx:=u' D } σ H'):QT (jgg u t t') u' D σ H:=
 jcd (D:={ D with nx:=u' D }) hc X hm h1 h2
def jh2 {u:TT}{t t':TS}{x:Bool}{A B:Option β}{f:β->Option δ}{r:δ} (I:β->St->Hp->Prop) (hc:Et K σ F H u (some x)) (X:Ext Fe He F H) (hm:(bif x then A else B).bind f=some r)
  (h1:∀ b F' H',A=some b->Ext F H F' H'->Ext Fe He F' H'->t { D with nx:=I b } σ H') (h2:∀ b F' H',B=some b->Ext F H F' H'->Ext Fe He F' H'->t' { D with nx:=I b } σ H') (hk:∀ b σ' H',f b=some r->I b σ' H'->u' D σ' H'):QT (jlA (jgg u t t')) u' D σ H:=
 jaO (D:={ D with nx:=u' D }) I hc X hm h1 h2 hk
def Jx {m:Option γ}{f:γ->Option δ}{r:δ} (he:Ev K σ F H te rs m) (X:Ext Fe He F H) (hm:m.bind f=some r) (k:∀ a F' H',f a=some r->Ext F H F' H'->Ext Fe He F' H'->u' D σ H'):QT (V9 te) u' D σ H:=
 jiP (D:={ D with nx:=u' D }) he X hm k
def jgF {m:Option α}{r:δ} (hi:σ[i]?=some (some (.ref a))) (o:Own K He F H c l a) (he:Ev K σ F H te (rF c) m) (X:Ext Fe He F H) (hm:(m.bind fun y=>Zh l y).bind f=some r)
  (k:∀ l' F' H',f l'=some r->Chg a F H F' H'->Ext Fe He F' H'->Own K He F' H' c l' a->u' D σ H'):QT (V9 (tBM K "list" Ui (Jo i) (jH te xh))) u' D σ H:=
 Ju (D:={ D with nx:=u' D }) hi o he X hm k
def jc7 {y:α}{r:δ} (hi:σ[k']?=some (some (.ref a))) (o:Own K He F H c l a) (he:Ev K σ F H te (rF c) (some y)) (X:Ext Fe He F H) (hm:(Zh l y).bind f=some r)
  (k:∀ l' F' H',f l'=some r->Chg a F H F' H'->Ext Fe He F' H'->Own K He F' H' c l' a->u' D σ H'):QT (V9 (tBM K "list" Ui (Jo k') (jH te xh))) u' D σ H:=
 QD (D:={ D with nx:=u' D }) hi o he X hm k
def jck {y:α}{n:Int}{r:δ} (hi:σ[k']?=some (some (.ref a))) (o:Own K He F H c l a) (he:Ev K σ F H te (rF c) (some y)) (hj:Ev K σ F H ta (rF cI) (some n)) (X:Ext Fe He F H) (hm:(jiX l n y).bind f=some r)
  (k:∀ l' F' H',f l'=some r->Chg a F H F' H'->Ext Fe He F' H'->Own K He F' H' c l' a->u' D σ H'):QT (U9 te (jlw (Jo k') ta jgq)) u' D σ H:=
 jeC (D:={ D with nx:=u' D }) hi o he hj X hm k
def Jp {g:TG}{tb:TS}{f:β->α->Option β}{r:δ} (hi:Ei K σ F H Fe He wi c m) (X:Ext Fe He F H) (hm:(m.bind fun l=>forM l b0 f).bind kk=some r) (I:Hp->β->St->Hp->Hp->Prop)
  (h0:∀ F1 H1,Ext F H F1 H1->Ext Fe He F1 H1->I F1 b0 σ F1 H1) (hG:∀ F1 b σ F H,I F1 b σ F H->Ext Fe He F H/\Same F1 F)
  (hs:∀ F1 (S0:Same F F1) b b' x v σ F H F' H',I F1 b σ F H->Ext F H F' H'->c.rep K F' x v->f b x=some b'->g v σ H' fun σ2 H2=>tb { D with nx:=fun σ H=>∃ F,I F1 b' σ F H,ct:=fun σ H=>∃ F,I F1 b' σ F H,bk:=u' D } σ2 H2)
  (hd:∀ F1 (S0:Same F F1) b σ F H,kk b=some r->I F1 b σ F H->u' D σ H):QT (jhK wi g tb) u' D σ H:=
 ZF (D:={ D with nx:=u' D }) hi X hm I h0 hG hs hd
def jkD {g:TG}{tb:TS}{f:β->α->Option (Fl β γ)}{A:γ->Option δ}{r:δ} (P:γ->Prop) (hi:Ei K σ F H Fe He wi c m) (X:Ext Fe He F H) (hm:(m.bind fun l=>jh1 l b0 f).bind (fun x=>x.el A kk)=some r) (hP:∀ c,A c=some r->P c) (I:Hp->β->St->Hp->Hp->Prop)
  (h0:∀ F1 H1,Ext F H F1 H1->Ext Fe He F1 H1->I F1 b0 σ F1 H1) (hG:∀ F1 b σ F H,I F1 b σ F H->Ext Fe He F H/\Same F1 F)
  (hs:∀ F1 (S0:Same F F1) b s x v σ F H F' H',I F1 b σ F H->Ext F H F' H'->c.rep K F' x v->f b x=some s->(∀ c,s=.rt c->P c)->g v σ H' fun σ2 H2=>tb { D with nx:=fun σ H=>∃ b' F,s=.nx b'/\I F1 b' σ F H,ct:=fun σ H=>∃ b' F,s=.nx b'/\I F1 b' σ F H,bk:=u' D } σ2 H2)
  (hd:∀ F1 (S0:Same F F1) b σ F H,kk b=some r->I F1 b σ F H->u' D σ H):QT (jhK wi g tb) u' D σ H:=
 jiS (D:={ D with nx:=u' D }) P hi X hm hP I h0 hG hs hd
def G0 {N:St->Hp->Prop}{r:VK}{b e:St->Hp->Prop} (h:N σ H):jj9 ⟨N,r,b,e⟩ σ H:=h
def jN {CX:CXT}{f:Addr}{E:XK}:(jd7 CX P w K mg base N qual scope f cdv A outer s H E).nox.K=K:=rfl
end
section
variable {F:Hp}{t:TE}{c:Cd α}{d:Cd β}{p:Pm α}{q:Pm β}{rs:Rs γ}{i:Int}{a:α}{b:β}
def jiY {r:R2}{op:α->β->Option γ} (ho:Op2 K r p q rs op) (ha:Ev K σ F H ta p.rs (some a)) (hb:Ev K σ F H tb q.rs (some b)):Ev K σ F H (tOp r ta tb) rs (op a b):=jaH ho ha hb
def jiZ {r:V->Hp->VK->Prop} (ho:Op1 K r p rs op) (ha:Ev K σ F H ta p.rs (some a)):Ev K σ F H (tUn r ta) rs (op a):=jko ho ha
def jgG {r:List V->Hp->VK->Prop} (ho:Op1 K (fun x=>r [x]) p rs op) (ha:Ev K σ F H ta p.rs (some a)):Ev K σ F H (tCB r (jH ta xh)) rs (op a):=jhU ho ha
def jgH {u:TT}{a:Bool} (h:Et K σ F H u (some a)):Et K σ F H (jjS u) (some (!a)):=jhW h
def jgI {a b:Bool} (h:Ev K σ F H ta (rF cB) (some a)) (h':Ev K σ F H tb (rF cB) (some b)):Ev K σ F H (jaz ta tb) (rF cB) (some (a&&b)):=jiM h h'
def jgJ {u v:TT}{a b:Bool} (h:Et K σ F H u (some a)) (h':Et K σ F H v (some b)):Et K σ F H (jjR u v) (some (a&&b)):=jiL h h'
def ji0 {u v:TT}{a:Bool}{m:Option Bool} (h:Et K σ F H u (some a)) (h':Et K σ F H v m):Et K σ F H (tOr u v) (bif a then some true else m):=jkw h h'
def jc8 {x:Int}{mc:Option Int} (ha:Ev K σ F H ta (rF cI) (some x)) (hb:Ev K σ F H tb (rF cI) (some y)) (hc:Ev K σ F H tc (rF cI) mc) :
  Ev K σ F H (Vf (rI0 fun i j=>.bl (g i j)) (rI0 fun i j=>.bl (g' i j)) ta tb tc) (rF cB) (bif g x y then mc.bind fun z=>some (g' y z) else some false):=W4 ha hb hc
def ji1 {u:TT}{b:Bool}{ma mb:Option γ} (hc:Et K σ F H u (some b)) (ha:Ev K σ F H ta rs ma) (hb:Ev K σ F H tb rs mb):Ev K σ F H (tIf u ta tb) rs (bif b then ma else mb):=jlT hc ha hb
def jeE (ha:Ev K σ F H ta (rF c) (some a)) (hr:El K σ F H tr c n (some l)):El K σ F H (jH ta tr) c (n+1) (some (a::l)):=jeo ha hr
def jeF (ha:Ev K σ F H ta (rF c) (some a)) (hb:Ev K σ F H tb (rF d) (some b)):Ev K σ F H (jkc (jH ta (jH tb xh))) (rF (cP c d)) (some (a,b)):=jep ha hb
def jgK {z:α×β} (h:Ev K σ F H ta (rF (cP c d)) (some z)):Ev K σ F H (tOp (jhN K) ta (tC (.int 0))) (rF c) (some z.1):=jkt h
def jgL {z:α×β} (h:Ev K σ F H ta (rF (cP c d)) (some z)):Ev K σ F H (tOp (jhN K) ta (tC (.int 1))) (rF d) (some z.2):=jku h
def jeG (h:Ev K σ F H t (rF cI) (some i)):Eo K σ F H (jgo t) (some (some i)):=jiJ h
def jgM {x y:Option Int} (h:Ev K σ F H t (pR c).rs (some l)) (hl:Eo K σ F H tl (some x)) (hh:Eo K σ F H th (some y)):Ev K σ F H (tSl (jlz K) t tl th) (rO c) (some (cut l x y)):=jkv h hl hh
def jgN {f:Str}{g:α->β} (hf:Qq K c f d g) (h:Ev K σ F H t (rF c) (some a)):Ev K σ F H (jd6 K t f) (rF d) (some (g a)):=jky hf h
def jeH (h:-(2 ^ 64)<j/\j<2 ^ 64) (ha:Ev K σ F H ta (rF cI) (some i)) (hb:Ev K σ F H tb (rF cI) (some j)):Ev K σ F H (tOp (rI CMul fun i j=>.int (i * j)) ta tb) (rF cI) (some (i * j)):=jiT h ha hb
def jeI (h:-(2 ^ 64)<i/\i<2 ^ 64) (ha:Ev K σ F H ta (rF cI) (some i)) (hb:Ev K σ F H tb (rF cI) (some j)):Ev K σ F H (tOp (rI CMul fun i j=>.int (i * j)) ta tb) (rF cI) (some (i * j)):=jiU h ha hb
def jeJ (h:0<j) (ha:Ev K σ F H ta (rF cI) (some i)) (hb:Ev K σ F H tb (rF cI) (some j)):Ev K σ F H (tOp (rI (fun _ j=>0<j) fun i j=>.int (i % j)) ta tb) (rF cI) (some (i % j)):=jey h ha hb
def jeK (h:0<j/\j<2 ^ 250) (ha:Ev K σ F H ta (rF cI) (some i)) (hb:Ev K σ F H tb (rF cI) (some j)):Ev K σ F H (tOp (rI jek fun i j=>.int (i / j)) ta tb) (rF cI) (some (i / j)):=jiV h ha hb
def jaR (h:Ev K σ F H t (rF cI) (some i)):Ev K σ F H (jki K "int" (fun x vs H Q=>∃ i,x=.int i/\vs=[]/\Q (.int (Builtin.Int.intBits i)) H) t) (rF cI) (some ((Builtin.Int.intBits i:Nat):Int)):=jeA h
def jeL (h:Ev K σ F H t (rF cI) (some j)):Ei K σ F H Fe He (WQ (jH t xh)) cI (Gg 0 j):=jet h
def jeM (h:Ev K σ F H t (rF cI) (some i)) (h':Ev K σ F H ta (rF cI) (some j)):Ei K σ F H Fe He (jaA (jH t (jH ta xh))) cI (Gg i j):=jiQ h h'
def jeN (h:Ev K σ F H t (rF cI) (some j)):Ec K σ F H (WQ (jH t xh)) cI (Gg 0 j):=jev h
def jeO (h:Ev K σ F H t (rF cI) (some i)) (h':Ev K σ F H ta (rF cI) (some j)):Ec K σ F H (jaA (jH t (jH ta xh))) cI (Gg i j):=jiR h h'
def jc9 {tc:Blk->TT}{te:Blk->TE}{mc:α->Option Bool}{me:α->Option β} (hi:Ec K σ F H wi c (some l)) (fr:St) (hfr:(ix.map fun i=>(σ[i]?).join)=fr)
  (hc:∀ b x v F' H',Ext F H F' H'->c.rep K F' x v->Et K (some v::fr) F' H' (tc b) (mc x)) (he:∀ b x v F' H',Ext F H F' H'->c.rep K F' x v->Ev K (some v::fr) F' H' (te b) (rF d) (me x)) :
  Ev K σ F H (Qo wi 1 ix (fun _=>k9 0) tc te) (rO d) (kS l mc me):=W7 hi fr hfr hc he
def jc_ {tc:Blk->TT}{te:Blk->TE}{l:List Int}{mc:Int->Option Bool}{me:Int->Option β} (hi:Ec K σ F H wi cI (some l)) (fr:St) (hfr:(ix.map fun i=>(σ[i]?).join)=fr)
  (hc:∀ b x F' H',Ext F H F' H'->Et K (some (.int x)::fr) F' H' (tc b) (mc x)) (he:∀ b x F' H',Ext F H F' H'->Ev K (some (.int x)::fr) F' H' (te b) (rF d) (me x)) :
  Ev K σ F H (Qo wi 1 ix (fun _=>k9 0) tc te) (rO d) (kS l mc me):=jcf hi fr hfr hc he
def jaS {tc:Blk->TT}{te:Blk->TE}{e:Cd γ}{l:List (Int×Int)} (hi:Ec K σ F H wi (cP cI cI) (some l)) (fr:St) (hfr:(ix.map fun i=>(σ[i]?).join)=fr)
  (hc:∀ b x y F' H',Ext F H F' H'->Et K (some (.int x)::some (.int y)::fr) F' H' (tc b) (mc (x,y))) (he:∀ b x y F' H',Ext F H F' H'->Ev K (some (.int x)::some (.int y)::fr) F' H' (te b) (rF e) (me (x,y))) :
  Ev K σ F H (Qo wi 2 ix (fun _=>jf9 K 2 (GX (k9 0) (GX (k9 1) jf8))) tc te) (rO e) (kS l mc me):=ZG hi fr hfr hc he
def jgO {g:TG}{tb:TS}{f:β->α->Option β}{r:δ} (hi:Ei K σ F H Fe He wi c (some l)) (X:Ext Fe He F H) (hm:(forM l b0 f).bind kk=some r) (I:Hp->β->St->Hp->Hp->Prop)
  (h0:∀ F1 H1,Ext F H F1 H1->Ext Fe He F1 H1->I F1 b0 σ F1 H1) (hG:∀ F1 b σ F H,I F1 b σ F H->Ext Fe He F H/\Same F1 F)
  (hs:∀ F1 (S0:Same F F1) b b' x v σ F H F' H',I F1 b σ F H->Ext F H F' H'->c.rep K F' x v->f b x=some b'->g v σ H' fun σ2 H2=>tb { D with nx:=fun σ H=>∃ F,I F1 b' σ F H,ct:=fun σ H=>∃ F,I F1 b' σ F H,bk:=D.nx } σ2 H2)
  (hd:∀ F1 (S0:Same F F1) b σ F H,kk b=some r->I F1 b σ F H->D.nx σ H):jhK wi g tb D σ H:=ZF (m:=some l) hi X hm I h0 hG hs hd
def jaT {g:TG}{tb:TS}{f:β->α->Option β}{r:δ} (hi:Ei K σ F H Fe He wi c (some l)) (X:Ext Fe He F H) (hm:(forM l b0 f).bind kk=some r) (I:Hp->β->St->Hp->Hp->Prop)
  (h0:∀ F1 H1,Ext F H F1 H1->Ext Fe He F1 H1->I F1 b0 σ F1 H1) (hG:∀ F1 b σ F H,I F1 b σ F H->Ext Fe He F H/\Same F1 F)
  (hs:∀ F1 (S0:Same F F1) b b' x v σ F H F' H',I F1 b σ F H->Ext F H F' H'->c.rep K F' x v->f b x=some b'->g v σ H' fun σ2 H2=>tb { D with nx:=fun σ H=>∃ F,I F1 b' σ F H,ct:=fun σ H=>∃ F,I F1 b' σ F H,bk:=u' D } σ2 H2)
  (hd:∀ F1 (S0:Same F F1) b σ F H,kk b=some r->I F1 b σ F H->u' D σ H):QT (jhK wi g tb) u' D σ H:=Jp (m:=some l) hi X hm I h0 hG hs hd
def jgP {g:TG}{tb:TS}{f:β->α->Option (Fl β γ)}{A:γ->Option δ}{r:δ} (P:γ->Prop) (hi:Ei K σ F H Fe He wi c (some l)) (X:Ext Fe He F H) (hm:(jh1 l b0 f).bind (fun x=>x.el A kk)=some r) (hP:∀ c,A c=some r->P c) (I:Hp->β->St->Hp->Hp->Prop)
  (h0:∀ F1 H1,Ext F H F1 H1->Ext Fe He F1 H1->I F1 b0 σ F1 H1) (hG:∀ F1 b σ F H,I F1 b σ F H->Ext Fe He F H/\Same F1 F)
  (hs:∀ F1 (S0:Same F F1) b s x v σ F H F' H',I F1 b σ F H->Ext F H F' H'->c.rep K F' x v->f b x=some s->(∀ c,s=.rt c->P c)->g v σ H' fun σ2 H2=>tb { D with nx:=fun σ H=>∃ b' F,s=.nx b'/\I F1 b' σ F H,ct:=fun σ H=>∃ b' F,s=.nx b'/\I F1 b' σ F H,bk:=u' D } σ2 H2)
  (hd:∀ F1 (S0:Same F F1) b σ F H,kk b=some r->I F1 b σ F H->u' D σ H):QT (jhK wi g tb) u' D σ H:=jkD (m:=some l) P hi X hm hP I h0 hG hs hd
def jda {p1:Pm α1}{m:α1->Option γ} (h1:Ev K σ F H t1 p1.rs (some x1)):Ev K σ F H (QB (sp1 K p1 rs m) [] E0 (jH t1 xh)) rs (m x1):=jb_ h1
def jdb {c1:Cd α1}{m:α1->Option γ} (ob:W5 c1 C nm) (h1:Ev K σ F H t1 (rF c1) (some x1)):Ev K σ F H (QC C nm (sp1 K (pF c1) rs m) [] E0 t1 xh) rs (m x1):=jca ob h1
def jdc {p1:Pm α1}{p2:Pm α2}{m:α1->α2->Option γ} (h1:Ev K σ F H t1 p1.rs (some x1)) (h2:Ev K σ F H t2 p2.rs (some x2)):Ev K σ F H (QB (sp2 K p1 p2 rs m) [] E0 (jH t1 (jH t2 xh))) rs (m x1 x2):=jcb h1 h2
def jdd {c1:Cd α1}{p2:Pm α2}{m:α1->α2->Option γ} (ob:W5 c1 C nm) (h1:Ev K σ F H t1 (rF c1) (some x1)) (h2:Ev K σ F H t2 p2.rs (some x2)):Ev K σ F H (QC C nm (sp2 K (pF c1) p2 rs m) [] E0 t1 (jH t2 xh)) rs (m x1 x2):=jcc ob h1 h2
def jde {p1:Pm α1}{p2:Pm α2}{p3:Pm α3}{m:α1->α2->α3->Option γ}{x3:α3} (h1:Ev K σ F H t1 p1.rs (some x1)) (h2:Ev K σ F H t2 p2.rs (some x2)) (h3:Ev K σ F H t3 p3.rs (some x3)):Ev K σ F H (QB (sp3 K p1 p2 p3 rs m) [] E0 (jH t1 (jH t2 (jH t3 xh)))) rs (m x1 x2 x3):=jgy h1 h2 h3
end
section
variable {F:Hp}{t:TE}{c:Cd α}{d:Cd β}{p:Pm α}{q:Pm β}{rs:Rs γ} 
variable {a:α}{b:β}
def ju {r:R2}{op:α->β->Option γ}  {mm_:_} (ho:Op2 K r p q rs op) (ha:Ev K σ F H ta p.rs ma) (hb:Ev K σ F H tb q.rs mb) (e':mm_=(ma.bind fun a=>mb.bind fun b=>op a b)):Ev K σ F H (tOp r ta tb) rs mm_:=by
 subst e';exact jaH ho ha hb
def je {r:R2}{op:α->β->Option γ}  {mm_:_} (ho:Op2 K r p q rs op) (ha:Ev K σ F H ta p.rs (some a)) (hb:Ev K σ F H tb q.rs (some b)) (e':mm_=(op a b)):Ev K σ F H (tOp r ta tb) rs mm_:=by
 subst e';exact jiY ho ha hb
def zo {r:V->Hp->VK->Prop}  {mm_:_} (ho:Op1 K r p rs op) (ha:Ev K σ F H ta p.rs (some a)) (e':mm_=(op a)):Ev K σ F H (tUn r ta) rs mm_:=by
 subst e';exact jiZ ho ha
def kF {r:List V->Hp->VK->Prop}  {mm_:_} (ho:Op1 K (fun x=>r [x]) p rs op) (ha:Ev K σ F H ta p.rs ma) (e':mm_=(ma.bind op)):Ev K σ F H (tCB r (jH ta xh)) rs mm_:=by
 subst e';exact jhU ho ha
def jh {r:List V->Hp->VK->Prop}  {mm_:_} (ho:Op1 K (fun x=>r [x]) p rs op) (ha:Ev K σ F H ta p.rs (some a)) (e':mm_=(op a)):Ev K σ F H (tCB r (jH ta xh)) rs mm_:=by
 subst e';exact jgG ho ha
def jcl {m:Option Bool}  {mm_:_} (h:Ev K σ F H t (rF cB) m) (e':mm_=(m.bind fun b=>some (!b))):Ev K σ F H (jiu t) (rF cB) mm_:=by
 subst e';exact jkx h
def Qb {u:TT}{m:Option Bool}  {mm_:_} (h:Et K σ F H u m) (e':mm_=(m.bind fun b=>some (!b))):Et K σ F H (jjS u) mm_:=by
 subst e';exact jhW h
def GI {u:TT}{a:Bool}  {mm_:_} (h:Et K σ F H u (some a)) (e':mm_=(some (!a))):Et K σ F H (jjS u) mm_:=by
 subst e';exact jgH h
def jcm {m:Option Bool}  {mm_:_} (h:Ev K σ F H ta (rF cB) m) (h':Ev K σ F H tb (rF cB) n') (e':mm_=(m.bind fun b=>bif b then n' else some false)):Ev K σ F H (jaz ta tb) (rF cB) mm_:=by
 subst e';exact jhY h h'
def jdf {a b:Bool}  {mm_:_} (h:Ev K σ F H ta (rF cB) (some a)) (h':Ev K σ F H tb (rF cB) (some b)) (e':mm_=(some (a&&b))):Ev K σ F H (jaz ta tb) (rF cB) mm_:=by
 subst e';exact jgI h h'
def jgQ {u v:TT}{m:Option Bool}  {mm_:_} (h:Et K σ F H u m) (h':Et K σ F H v n') (e':mm_=(m.bind fun b=>bif b then n' else some false)):Et K σ F H (jjR u v) mm_:=by
 subst e';exact jhX h h'
def Ul {u v:TT}{a b:Bool}  {mm_:_} (h:Et K σ F H u (some a)) (h':Et K σ F H v (some b)) (e':mm_=(some (a&&b))):Et K σ F H (jjR u v) mm_:=by
 subst e';exact jgJ h h'
def jaU {u v:TT}{m:Option Bool}  {mm_:_} (h:Et K σ F H u m) (h':Et K σ F H v n') (e':mm_=(m.bind fun b=>bif b then some true else n')):Et K σ F H (tOr u v) mm_:=by
 subst e';exact jkw h h'
def Jy {u:TT}{b:Bool}{ma mb:Option γ}  {mm_:_} (hc:Et K σ F H u (some b)) (ha:Ev K σ F H ta rs ma) (hb:Ev K σ F H tb rs mb) (e':mm_=(bif b then ma else mb)):Ev K σ F H (tIf u ta tb) rs mm_:=by
 subst e';exact ji1 hc ha hb
def GJ  {mm_:_} (ha:Ev K σ F H ta (rF c) ma) (hr:El K σ F H tr c n mr) (e':mm_=(ma.bind fun a=>mr.bind fun l=>some (a::l))):El K σ F H (jH ta tr) c (n+1) mm_:=by
 subst e';exact jeo ha hr
def qK  {mm_:_} (ha:Ev K σ F H ta (rF c) (some a)) (hr:El K σ F H tr c n (some l)) (e':mm_=(some (a::l))):El K σ F H (jH ta tr) c (n+1) mm_:=by
 subst e';exact jeE ha hr
def QZ  {mm_:_} (ha:Ev K σ F H ta (rF c) ma) (hb:Ev K σ F H tb (rF d) mb) (e':mm_=(ma.bind fun a=>mb.bind fun b=>some (a,b))):Ev K σ F H (jkc (jH ta (jH tb xh))) (rF (cP c d)) mm_:=by
 subst e';exact jep ha hb
def qL  {mm_:_} (ha:Ev K σ F H ta (rF c) (some a)) (hb:Ev K σ F H tb (rF d) (some b)) (e':mm_=(some (a,b))):Ev K σ F H (jkc (jH ta (jH tb xh))) (rF (cP c d)) mm_:=by
 subst e';exact jeF ha hb
def Wv {z:α×β}  {mm_:_} (h:Ev K σ F H ta (rF (cP c d)) (some z)) (e':mm_=(some z.1)):Ev K σ F H (tOp (jhN K) ta (tC (.int 0))) (rF c) mm_:=by
 subst e';exact jgK h
def Ww {z:α×β}  {mm_:_} (h:Ev K σ F H ta (rF (cP c d)) (some z)) (e':mm_=(some z.2)):Ev K σ F H (tOp (jhN K) ta (tC (.int 1))) (rF d) mm_:=by
 subst e';exact jgL h
def qM {i:Int}  {mm_:_} (h:Ev K σ F H t (rF cI) (some i)) (e':mm_=(some (some i))):Eo K σ F H (jgo t) mm_:=by
 subst e';exact jeG h
def zP {x y:Option Int}  {mm_:_} (h:Ev K σ F H t (pR c).rs (some l)) (hl:Eo K σ F H tl (some x)) (hh:Eo K σ F H th (some y)) (e':mm_=(some (cut l x y))):Ev K σ F H (tSl (jlz K) t tl th) (rO c) mm_:=by
 subst e';exact jgM h hl hh
def jp {f:Str}{g:α->β}  {mm_:_} (hf:Qq K c f d g) (h:Ev K σ F H t (rF c) (some a)) (e':mm_=(some (g a))):Ev K σ F H (jd6 K t f) (rF d) mm_:=by
 subst e';exact jgN hf h
def Vq {i:Int}  {mm_:_} (h:-(2 ^ 64)<j/\j<2 ^ 64) (ha:Ev K σ F H ta (rF cI) (some i)) (hb:Ev K σ F H tb (rF cI) (some j)) (e':mm_=(some (i * j))):Ev K σ F H (tOp (rI CMul fun i j=>.int (i * j)) ta tb) (rF cI) mm_:=by
 subst e';exact jeH h ha hb
def jaV {i:Int}  {mm_:_} (h:-(2 ^ 64)<i/\i<2 ^ 64) (ha:Ev K σ F H ta (rF cI) (some i)) (hb:Ev K σ F H tb (rF cI) (some j)) (e':mm_=(some (i * j))):Ev K σ F H (tOp (rI CMul fun i j=>.int (i * j)) ta tb) (rF cI) mm_:=by
 subst e';exact jeI h ha hb
def jeP {ma:Option Int}  {mm_:_} (h:0<j) (ha:Ev K σ F H ta (rF cI) ma) (hb:Ev K σ F H tb (rF cI) (some j)) (e':mm_=(ma.bind fun a=>some (a % j))):Ev K σ F H (tOp (rI (fun _ j=>0<j) fun i j=>.int (i % j)) ta tb) (rF cI) mm_:=by
 subst e';exact jey h ha hb
def QE {i:Int}  {mm_:_} (h:0<j) (ha:Ev K σ F H ta (rF cI) (some i)) (hb:Ev K σ F H tb (rF cI) (some j)) (e':mm_=(some (i % j))):Ev K σ F H (tOp (rI (fun _ j=>0<j) fun i j=>.int (i % j)) ta tb) (rF cI) mm_:=by
 subst e';exact jeJ h ha hb
def Vr {i:Int}  {mm_:_} (h:0<j/\j<2 ^ 250) (ha:Ev K σ F H ta (rF cI) (some i)) (hb:Ev K σ F H tb (rF cI) (some j)) (e':mm_=(some (i / j))):Ev K σ F H (tOp (rI jek fun i j=>.int (i / j)) ta tb) (rF cI) mm_:=by
 subst e';exact jeK h ha hb
def Ya {i:Int}  {mm_:_} (h:Ev K σ F H t (rF cI) (some i)) (e':mm_=(some ((Builtin.Int.intBits i:Nat):Int))):Ev K σ F H (jki K "int" (fun x vs H Q=>∃ i,x=.int i/\vs=[]/\Q (.int (Builtin.Int.intBits i)) H) t) (rF cI) mm_:=by
 subst e';exact jaR h
def jeQ {m:Option Int}  {mm_:_} (h:Ev K σ F H t (rF cI) m) (e':mm_=(m.bind fun j=>Gg 0 j)):Ei K σ F H Fe He (WQ (jH t xh)) cI mm_:=by
 subst e';exact jet h
def qN  {mm_:_} (h:Ev K σ F H t (rF cI) (some j)) (e':mm_=(Gg 0 j)):Ei K σ F H Fe He (WQ (jH t xh)) cI mm_:=by
 subst e';exact jeL h
def jaW {i:Int}  {mm_:_} (h:Ev K σ F H t (rF cI) (some i)) (h':Ev K σ F H ta (rF cI) (some j)) (e':mm_=(Gg i j)):Ei K σ F H Fe He (jaA (jH t (jH ta xh))) cI mm_:=by
 subst e';exact jeM h h'
def Jz {m:Option Int}  {mm_:_} (h:Ev K σ F H t (rF cI) m) (e':mm_=(m.bind fun j=>Gg 0 j)):Ec K σ F H (WQ (jH t xh)) cI mm_:=by
 subst e';exact jev h
def zS  {mm_:_} (h:Ev K σ F H t (rF cI) (some j)) (e':mm_=(Gg 0 j)):Ec K σ F H (WQ (jH t xh)) cI mm_:=by
 subst e';exact jeN h
def jaX {i:Int}  {mm_:_} (h:Ev K σ F H t (rF cI) (some i)) (h':Ev K σ F H ta (rF cI) (some j)) (e':mm_=(Gg i j)):Ec K σ F H (jaA (jH t (jH ta xh))) cI mm_:=by
 subst e';exact jeO h h'
def Qc {tc:Blk->TT}{te:Blk->TE}{mc:α->Option Bool}{me:α->Option β}  {mm_:_} (hi:Ec K σ F H wi c m) (fr:St) (hfr:(ix.map fun i=>(σ[i]?).join)=fr)
  (hc:∀ b x v F' H',Ext F H F' H'->c.rep K F' x v->Et K (some v::fr) F' H' (tc b) (mc x)) (he:∀ b x v F' H',Ext F H F' H'->c.rep K F' x v->Ev K (some v::fr) F' H' (te b) (rF d) (me x)) (e':mm_=(m.bind fun l=>kS l mc me)):Ev K σ F H (Qo wi 1 ix (fun _=>k9 0) tc te) (rO d) mm_:=by
 subst e';exact W7 hi fr hfr hc he
def JA {tc:Blk->TT}{te:Blk->TE}{mc:α->Option Bool}{me:α->Option β}  {mm_:_} (hi:Ec K σ F H wi c (some l)) (fr:St) (hfr:(ix.map fun i=>(σ[i]?).join)=fr)
  (hc:∀ b x v F' H',Ext F H F' H'->c.rep K F' x v->Et K (some v::fr) F' H' (tc b) (mc x)) (he:∀ b x v F' H',Ext F H F' H'->c.rep K F' x v->Ev K (some v::fr) F' H' (te b) (rF d) (me x)) (e':mm_=(kS l mc me)):Ev K σ F H (Qo wi 1 ix (fun _=>k9 0) tc te) (rO d) mm_:=by
 subst e';exact jc9 hi fr hfr hc he
def qg {tc:Blk->TT}{te:Blk->TE}{m:Option (List Int)}{mc:Int->Option Bool}{me:Int->Option β}  {mm_:_} (hi:Ec K σ F H wi cI m) (fr:St) (hfr:(ix.map fun i=>(σ[i]?).join)=fr)
  (hc:∀ b x F' H',Ext F H F' H'->Et K (some (.int x)::fr) F' H' (tc b) (mc x)) (he:∀ b x F' H',Ext F H F' H'->Ev K (some (.int x)::fr) F' H' (te b) (rF d) (me x)) (e':mm_=(m.bind fun l=>kS l mc me)):Ev K σ F H (Qo wi 1 ix (fun _=>k9 0) tc te) (rO d) mm_:=by
 subst e';exact jcf hi fr hfr hc he
def xE {tc:Blk->TT}{te:Blk->TE}{l:List Int}{mc:Int->Option Bool}{me:Int->Option β}  {mm_:_} (hi:Ec K σ F H wi cI (some l)) (fr:St) (hfr:(ix.map fun i=>(σ[i]?).join)=fr)
  (hc:∀ b x F' H',Ext F H F' H'->Et K (some (.int x)::fr) F' H' (tc b) (mc x)) (he:∀ b x F' H',Ext F H F' H'->Ev K (some (.int x)::fr) F' H' (te b) (rF d) (me x)) (e':mm_=(kS l mc me)):Ev K σ F H (Qo wi 1 ix (fun _=>k9 0) tc te) (rO d) mm_:=by
 subst e';exact jc_ hi fr hfr hc he
def jaY {tc:Blk->TT}{te:Blk->TE}{e:Cd γ}{m:Option (List (Int×Int))}  {mm_:_} (hi:Ec K σ F H wi (cP cI cI) m) (fr:St) (hfr:(ix.map fun i=>(σ[i]?).join)=fr)
  (hc:∀ b x y F' H',Ext F H F' H'->Et K (some (.int x)::some (.int y)::fr) F' H' (tc b) (mc (x,y))) (he:∀ b x y F' H',Ext F H F' H'->Ev K (some (.int x)::some (.int y)::fr) F' H' (te b) (rF e) (me (x,y))) (e':mm_=(m.bind fun l=>kS l mc me)):Ev K σ F H (Qo wi 2 ix (fun _=>jf9 K 2 (GX (k9 0) (GX (k9 1) jf8))) tc te) (rO e) mm_:=by
 subst e';exact ZG hi fr hfr hc he
def Q0 {tc:Blk->TT}{te:Blk->TE}{e:Cd γ}{l:List (Int×Int)}  {mm_:_} (hi:Ec K σ F H wi (cP cI cI) (some l)) (fr:St) (hfr:(ix.map fun i=>(σ[i]?).join)=fr)
  (hc:∀ b x y F' H',Ext F H F' H'->Et K (some (.int x)::some (.int y)::fr) F' H' (tc b) (mc (x,y))) (he:∀ b x y F' H',Ext F H F' H'->Ev K (some (.int x)::some (.int y)::fr) F' H' (te b) (rF e) (me (x,y))) (e':mm_=(kS l mc me)):Ev K σ F H (Qo wi 2 ix (fun _=>jf9 K 2 (GX (k9 0) (GX (k9 1) jf8))) tc te) (rO e) mm_:=by
 subst e';exact jaS hi fr hfr hc he
def kK {p1:Pm α1}{m:α1->Option γ}  {mm_:_} (h1:Ev K σ F H t1 p1.rs m1) (e':mm_=(m1.bind fun x1=>m x1)):Ev K σ F H (QB (sp1 K p1 rs m) [] E0 (jH t1 xh)) rs mm_:=by
 subst e';exact jb_ h1
def jx {p1:Pm α1}{m:α1->Option γ}  {mm_:_} (h1:Ev K σ F H t1 p1.rs (some x1)) (e':mm_=(m x1)):Ev K σ F H (QB (sp1 K p1 rs m) [] E0 (jH t1 xh)) rs mm_:=by
 subst e';exact jda h1
def jU {p1:Pm α1}{p2:Pm α2}{m:α1->α2->Option γ}  {mm_:_} (h1:Ev K σ F H t1 p1.rs m1) (h2:Ev K σ F H t2 p2.rs m2) (e':mm_=(m1.bind fun x1=>m2.bind fun x2=>m x1 x2)):Ev K σ F H (QB (sp2 K p1 p2 rs m) [] E0 (jH t1 (jH t2 xh))) rs mm_:=by
 subst e';exact jcb h1 h2
def jo {p1:Pm α1}{p2:Pm α2}{m:α1->α2->Option γ}  {mm_:_} (h1:Ev K σ F H t1 p1.rs (some x1)) (h2:Ev K σ F H t2 p2.rs (some x2)) (e':mm_=(m x1 x2)):Ev K σ F H (QB (sp2 K p1 p2 rs m) [] E0 (jH t1 (jH t2 xh))) rs mm_:=by
 subst e';exact jdc h1 h2
def JB {p1:Pm α1}{p2:Pm α2}{p3:Pm α3}{m:α1->α2->α3->Option γ}{x3:α3}  {mm_:_} (h1:Ev K σ F H t1 p1.rs (some x1)) (h2:Ev K σ F H t2 p2.rs (some x2)) (h3:Ev K σ F H t3 p3.rs (some x3)) (e':mm_=(m x1 x2 x3)):Ev K σ F H (QB (sp3 K p1 p2 p3 rs m) [] E0 (jH t1 (jH t2 (jH t3 xh)))) rs mm_:=by
 subst e';exact jde h1 h2 h3
def jdg {c1:Cd α1}{m:α1->Option γ}  {mm_:_} (ob:W5 c1 C nm) (h1:Ev K σ F H t1 (rF c1) m1) (e':mm_=(m1.bind fun x1=>m x1)):Ev K σ F H (QC C nm (sp1 K (pF c1) rs m) [] E0 t1 xh) rs mm_:=by
 subst e';exact jca ob h1
def kM {c1:Cd α1}{m:α1->Option γ}  {mm_:_} (ob:W5 c1 C nm) (h1:Ev K σ F H t1 (rF c1) (some x1)) (e':mm_=(m x1)):Ev K σ F H (QC C nm (sp1 K (pF c1) rs m) [] E0 t1 xh) rs mm_:=by
 subst e';exact jdb ob h1
def GK {c1:Cd α1}{p2:Pm α2}{m:α1->α2->Option γ}  {mm_:_} (ob:W5 c1 C nm) (h1:Ev K σ F H t1 (rF c1) m1) (h2:Ev K σ F H t2 p2.rs m2) (e':mm_=(m1.bind fun x1=>m2.bind fun x2=>m x1 x2)):Ev K σ F H (QC C nm (sp2 K (pF c1) p2 rs m) [] E0 t1 (jH t2 xh)) rs mm_:=by
 subst e';exact jcc ob h1 h2
def xj {c1:Cd α1}{p2:Pm α2}{m:α1->α2->Option γ}  {mm_:_} (ob:W5 c1 C nm) (h1:Ev K σ F H t1 (rF c1) (some x1)) (h2:Ev K σ F H t2 p2.rs (some x2)) (e':mm_=(m x1 x2)):Ev K σ F H (QC C nm (sp2 K (pF c1) p2 rs m) [] E0 t1 (jH t2 xh)) rs mm_:=by
 subst e';exact jdd ob h1 h2
def Vs {u v:TT}{a:Bool}{m:Option Bool}  {mm_:_} (h:Et K σ F H u (some a)) (h':Et K σ F H v m) (e':mm_=(bif a then some true else m)):Et K σ F H (tOr u v) mm_:=by
 subst e';exact ji0 h h'
def ZH {x:Int}{mc:Option Int}  {mm_:_} (ha:Ev K σ F H ta (rF cI) (some x)) (hb:Ev K σ F H tb (rF cI) (some y)) (hc:Ev K σ F H tc (rF cI) mc) (e':mm_=(bif g x y then mc.bind fun z=>some (g' y z) else some false)):Ev K σ F H (Vf (rI0 fun i j=>.bl (g i j)) (rI0 fun i j=>.bl (g' i j)) ta tb tc) (rF cB) mm_:=by
 subst e';exact jc8 ha hb hc
def G1 {x:Int}  {mm_:_} (ha:Ev K σ F H ta (rF cI) (some x)) (hb:Ev K σ F H tb (rF cI) (some y)) (hc:Ev K σ F H tc (rF cI) (some z)) (e':mm_=(some (g x y&&g' y z))):Ev K σ F H (Vf (rI0 fun i j=>.bl (g i j)) (rI0 fun i j=>.bl (g' i j)) ta tb tc) (rF cB) mm_:=by
 subst e';exact jen ha hb hc
def ZI {x w:Int}  {mm_:_} (ha:Ev K σ F H ta (rF cI) (some x)) (hb:Ev K σ F H tb (rF cI) (some y)) (hc:Ev K σ F H tc (rF cI) (some z)) (hd:Ev K σ F H td (rF cI) (some w)) (e':mm_=(some (g x y&&(g' y z&&g'' z w)))):Ev K σ F H (jaG (rI0 fun i j=>.bl (g i j)) (rI0 fun i j=>.bl (g' i j)) (rI0 fun i j=>.bl (g'' i j)) ta tb tc td) (rF cB) mm_:=by
 subst e';exact jc6 ha hb hc hd
def jeR {i:Int}{j:Nat}  {mm_:_} (h:(0:Int)<=(j:Int)/\(j:Int)<=1000000/\i.natAbs<2 ^ 64) (ha:Ev K σ F H ta (rF cI) (some i)) (hb:Ev K σ F H tb (rF cI) (some (j:Int))) (e':mm_=(some (i ^ j))):Ev K σ F H (tOp (rI jjU fun i j=>.int (i ^ j.toNat)) ta tb) (rF cI) mm_:=by
 subst e';exact jiW h ha hb
end
section
variable {F:Hp}{t:TE}{c:Cd α}{d:Cd β}{p:Pm α}{q:Pm β}{rs:Rs γ}{i:Int}
def Gv {f:Str}{fs:List (Str×V)} (h:fs.length<=n):(Qn f v fs).length<=n+1:=XW (QA f v fs) (Nat.succ_le_succ h)
structure OwnI (He F H:Hp) (C x dx:Addr) (fs:List (Str×V)):Prop where
 e:He x=none
 f:F x=none
 h:H x=some (.ins C dx fs)
def OwnI.mono {x:Addr}{fs:List (Str×V)} (o:OwnI He F H C x dx fs) (E:Ext F H F' H'):OwnI He F' H' C x dx fs:=by
 refine⟨o.e,?_,E.h _ _ o.h⟩;cases e:F' x with
 | none=>rfl
 | some u=>
  rcases E.new x u e with z | z
  ·rw[o.f] at z; cases z
  ·rw[o.h] at z; cases z
def OwnI.freeze {x:Addr}{fs:List (Str×V)} (o:OwnI He F H C x dx fs) (X:Ext Fe He F H):∃ F',Ext Fe He F' H/\Chg x F H F' H/\F' x=some (.ins C dx fs):=
 ⟨upd F x (.ins C dx fs),X.frz o.e o.f o.h,⟨qA o.f,fun _ _ _ h=>h,fun b u e hb=>by rw[ka e] at hb; exact .inl hb⟩,j0⟩
def jaZ {k:Nat}{x:Addr}{fs:List (Str×V)}{f:Str}{a:α} (hi:σ[k]?=some (some (.ref x))) (o:OwnI He F H C x dx fs) (cl:Cls K C) (na:NoAttr K C f) (hl:fs.lookup f=some v) (h:p.rel K F H a v):Ev K σ F H (jd6 K (Jo k) f) p.rs (some a):=by
 intro F1 H1 E b e Q k;cases e;exact⟨_,hi,x,C,dx,fs,v,rfl,E.h _ _ o.h,cl,na,hl,k v F1 H1 (Ext.refl E.sub) (p.mono E h)⟩
def UP {x:Addr}{fs:List (Str×V)}{f:Str}{m:Option α}{g:α->Option δ}{r:δ} (hi:σ[k']?=some (some (.ref x))) (o:OwnI He F H C x dx fs) (cl:Cls K C) (na:NoAttr K C f) (hn:fs.length<1000) (he:Ev K σ F H te (rF c) m) (X:Ext Fe He F H) (hm:m.bind g=some r)
  (k:∀ a v F' H',g a=some r->Chg x F H F' H'->Ext Fe He F' H'->c.rep K F' a v->OwnI He F' H' C x dx (Qn f v fs)->D.nx σ H'):jjV K (Jo k') te f D σ H:=by
 obtain⟨a,ea,hm⟩:=bind_some hm;refine he F H (Ext.refl X.sub) a ea _ fun v F2 H2 E hv=>⟨_,hi,x,C,dx,fs,rfl,E.h _ _ o.h,cl,na,hn,?_⟩;have o2:=o.mono E;exact k a v F2 _ hm (Uk E) ((X.trans E).upd o2.e o2.f) hv ⟨o2.e,o2.f,j0⟩
def ja0 {x:Addr}{fs:List (Str×V)}{f:Str}{m:Option α}{g:α->Option δ}{r:δ} (hi:σ[k']?=some (some (.ref x))) (o:OwnI He F H C x dx fs) (cl:Cls K C) (na:NoAttr K C f) (hn:fs.length<1000) (he:Ev K σ F H te (rF c) m) (X:Ext Fe He F H) (hm:m.bind g=some r)
  (k:∀ a v F' H',g a=some r->Chg x F H F' H'->Ext Fe He F' H'->c.rep K F' a v->OwnI He F' H' C x dx (Qn f v fs)->u' D σ H'):QT (jjV K (Jo k') te f) u' D σ H:=UP (D:={ D with nx:=u' D }) hi o cl na hn he X hm k
def yn {x:Addr} (s:Same F He) (h1:He x=none) (h2:He dx=none) (hne:dx≠x):Ext F He F (upd (upd He dx (.own x)) x (.ins C dx []))/\OwnI He F (upd (upd He dx (.own x)) x (.ins C dx [])) C x dx []:=by
 have e1:Ext F He F (upd He dx (.own x)):=Ext.newO s h2;have h3:(upd He dx (.own x)) x=none:=by rw[ka (Ne.symm hne)]; exact h1
 exact⟨e1.trans (Ext.newO e1.sub h3),h1,s.free h1,j0⟩
def jgR (K:W.Frag) (C:Addr) (p1:Pm α1) (c:Cd γ) (m:α1->Option γ):Sp:=fun vs H Q _=>∃ (x1:α1) (v1:V) (F H1:Hp) (x dx:Addr) (r:γ),vs=[.ref x,v1]/\H=upd (upd H1 dx (.own x)) x (.ins C dx [])/\H1 x=none/\H1 dx=none/\dx≠x/\Same F H1/\p1.rel K F H1 x1 v1/\m x1=some r/\∀ F' H',Ext F H1 F' H'->c.rep K F' r (.ref x)->Q .non H'
def yo {c:Cd γ}{p1:Pm α1}{m:α1->Option γ}{mm_:Option γ} (h1:Ev K σ F H t1 p1.rs (some x1)) (e':mm_=(m x1)):Ev K σ F H (Zp C (jgR K C p1 c m) [] E0 (jH t1 xh)) (rF c) mm_:=by
 subst e';intro F0 H0 E0' z e Q k;refine h1 F0 H0 (E0') x1 rfl _ fun v1 F1 H1 E1 r1=>?_;intro x dx n1 n2 n3;exact⟨x1,v1,F1,H1,x,dx,z,rfl,rfl,n1,n2,n3,E1.sub,r1,e,fun F' H' E' hu=>⟨rfl,k _ F' H' ((E1).trans E') hu⟩⟩
def jjW (K:W.Frag) (C:Addr) (p1:Pm α1) (p2:Pm α2) (c:Cd γ) (m:α1->α2->Option γ):Sp:=fun vs H Q _=>∃ (x1:α1) (x2:α2) (v1 v2:V) (F H1:Hp) (x dx:Addr) (r:γ),vs=[.ref x,v1,v2]/\H=upd (upd H1 dx (.own x)) x (.ins C dx [])/\H1 x=none/\H1 dx=none/\dx≠x/\Same F H1/\p1.rel K F H1 x1 v1/\p2.rel K F H1 x2 v2/\m x1 x2=some r/\∀ F' H',Ext F H1 F' H'->c.rep K F' r (.ref x)->Q .non H'
def JC {c:Cd γ}{p1:Pm α1}{p2:Pm α2}{m:α1->α2->Option γ}{mm_:Option γ} (h1:Ev K σ F H t1 p1.rs (some x1)) (h2:Ev K σ F H t2 p2.rs (some x2)) (e':mm_=(m x1 x2)):Ev K σ F H (Zp C (jjW K C p1 p2 c m) [] E0 (jH t1 (jH t2 xh))) (rF c) mm_:=by
 subst e';intro F0 H0 E0' z e Q k;refine h1 F0 H0 (E0') x1 rfl _ fun v1 F1 H1 E1 r1=>?_;refine h2 F1 H1 ((E0').trans E1) x2 rfl _ fun v2 F2 H2 E2 r2=>?_;intro x dx n1 n2 n3;exact⟨x1,x2,v1,v2,F2,H2,x,dx,z,rfl,rfl,n1,n2,n3,E2.sub,p1.mono (E2) r1,r2,e,fun F' H' E' hu=>⟨rfl,k _ F' H' ((E1.trans (E2)).trans E') hu⟩⟩
def jlV (K:W.Frag) (C:Addr) (p1:Pm α1) (p2:Pm α2) (p3:Pm α3) (p4:Pm α4) (c:Cd γ) (m:α1->α2->α3->α4->Option γ):Sp:=fun vs H Q _=>∃ (x1:α1) (x2:α2) (x3:α3) (x4:α4) (v1 v2 v3 v4:V) (F H1:Hp) (x dx:Addr) (r:γ),vs=[.ref x,v1,v2,v3,v4]/\H=upd (upd H1 dx (.own x)) x (.ins C dx [])/\H1 x=none/\H1 dx=none/\dx≠x/\Same F H1/\p1.rel K F H1 x1 v1/\p2.rel K F H1 x2 v2/\p3.rel K F H1 x3 v3/\p4.rel K F H1 x4 v4/\m x1 x2 x3 x4=some r/\∀ F' H',Ext F H1 F' H'->c.rep K F' r (.ref x)->Q .non H'
def Um {c:Cd γ}{p1:Pm α1}{p2:Pm α2}{p3:Pm α3}{p4:Pm α4}{m:α1->α2->α3->α4->Option γ}{t4:TE}{m4:Option α4}{mm_:Option γ} (h1:Ev K σ F H t1 p1.rs m1) (h2:Ev K σ F H t2 p2.rs m2) (h3:Ev K σ F H t3 p3.rs m3) (h4:Ev K σ F H t4 p4.rs m4) (e':mm_=(m1.bind fun x1=>m2.bind fun x2=>m3.bind fun x3=>m4.bind fun x4=>m x1 x2 x3 x4)):Ev K σ F H (Zp C (jlV K C p1 p2 p3 p4 c m) [] E0 (jH t1 (jH t2 (jH t3 (jH t4 xh))))) (rF c) mm_:=by
 subst e';intro F0 H0 E0' z e Q k;obtain⟨x1,e1,e⟩:=bind_some e;obtain⟨x2,e2,e⟩:=bind_some e;obtain⟨x3,e3,e⟩:=bind_some e;obtain⟨x4,e4,e⟩:=bind_some e;refine h1 F0 H0 (E0') x1 e1 _ fun v1 F1 H1 E1 r1=>?_;refine h2 F1 H1 ((E0').trans E1) x2 e2 _ fun v2 F2 H2 E2 r2=>?_;refine h3 F2 H2 (((E0').trans E1).trans E2) x3 e3 _ fun v3 F3 H3 E3 r3=>?_;refine h4 F3 H3 ((((E0').trans E1).trans E2).trans E3) x4 e4 _ fun v4 F4 H4 E4 r4=>?_;intro x dx n1 n2 n3;exact⟨x1,x2,x3,x4,v1,v2,v3,v4,F4,H4,x,dx,z,rfl,rfl,n1,n2,n3,E4.sub,p1.mono (E2.trans (E3.trans (E4))) r1,p2.mono (E3.trans (E4)) r2,p3.mono (E4) r3,r4,e,fun F' H' E' hu=>⟨rfl,k _ F' H' ((E1.trans (E2.trans (E3.trans (E4)))).trans E') hu⟩⟩
end
section
variable {F:Hp}{t:TE}{c:Cd α}{d:Cd β}{p:Pm α}{q:Pm β}{rs:Rs γ}{i:Int}
@[irreducible] def jkE (l:List Int) (k:Int):Option Int:=(l.findIdx? fun x=>decide (x=k)).map fun j=>((j:Nat):Int)
def jeS {l:List Int}{k:Int} (h:jkE l k=some z):∃ j:Nat,z=(j:Int)/\l[j]?=some k/\∀ i a,i<j->l[i]?=some a->a≠k:=by
 unfold jkE at h;cases e:l.findIdx? (fun x=>decide (x=k)) with
 | none=>rw[e] at h; cases h
 | some j=>
  rw[e] at h;cases h;obtain⟨hj,h1,h2⟩:=List.findIdx?_eq_some_iff_getElem.mp e;refine⟨j,rfl,?_,fun i a hi ha=>?_⟩
  ·rw[Xc hj];exact congrArg some (of_decide_eq_true h1)
  ·obtain⟨hi',rfl⟩:=List.getElem?_eq_some_iff.mp ha;have:=h2 i hi;simpa using this
def ZJ {r:δ} (hi:σ[k']?=some (some (.ref a))) (o:Own K He F H c l a) (he:Ev K σ F H te (pB c).rs m) (X:Ext Fe He F H) (hm:(m.bind fun y=>Wt l y).bind f=some r)
  (k:∀ l' F' H',f l'=some r->Chg a F H F' H'->Ext Fe He F' H'->Own K He F' H' c l' a->D.nx σ H'):V9 (tBM K "list" jed (Jo k') (jH te xh)) D σ H:=by
 obtain⟨l',el,hm⟩:=bind_some hm;obtain⟨y,ey,el⟩:=bind_some el;unfold Wt at el;obtain⟨hl,rfl⟩:=jS el;obtain⟨xs,h1,h2⟩:=o.h;refine⟨_,hi,.inl ⟨rfl,_,SqL.of h1⟩,he F H (Ext.refl X.sub) y ey _ ?_⟩;rintro v F2 H2 E ⟨b,ys,rfl,g1,g2⟩;have o2:=o.mono E;have h3:Paired (c.rep K F2) l xs:=Paired.mapP h2 fun _ _=>c.mono E.f;refine⟨a,b,xs,ys,rfl,rfl,E.h _ _ h1,g1,by rw[Xy,<- h2.length,<- g2.length]; exact hl,?_⟩;obtain⟨X',o'⟩:=Vo (K:=K) (c:=c) (X.trans E) o.e o2.f (Paired.app h3 g2);exact k _ F2 _ hm (Uk E) X' o'
@[irreducible] def jgS (n:Int):Option (List Int):=if (-(2 ^ 62)<=n/\n<2 ^ 62)/\n<=16777216 then some (UO 0 n) else none
def jeT {mm_:Option (List Int)}{m:Option Int} (h:Ev K σ F H t (rF cI) m) (e':mm_=(m.bind fun n=>jgS n)) :
  Ev K σ F H (tCB (fun xs H Q=>∃ p lo hi,xs=[.ref p]/\H p=some (.rng lo hi)/\(-(2 ^ 62)<=lo/\lo<2 ^ 62/\-(2 ^ 62)<=hi/\hi<2 ^ 62)/\(hi-lo).toNat<=2 ^ 24/\∀ l,H l=none->Q (.ref l) (upd H l (.lst ((Ws lo hi).map V.int))))
   (jH (fun σ H Q=>(jH t xh) σ H fun vs H1=>∃ j:Int,vs=[.int j]/\∀ x,H1 x=none->Q (.ref x) (upd H1 x (.rng 0 j))) xh)) (rO cI) mm_:=by
 subst e';intro F1 H1 E z e Q k;obtain⟨n,en,e⟩:=bind_some e;unfold jgS at e;obtain⟨⟨⟨h1,h2⟩,h3⟩,rfl⟩:=jS e;refine h F1 H1 E n en _ fun v F2 H2 E2 hv=>?_;have ev:v=.int n:=hv;subst ev;refine⟨n,rfl,fun x hx=>⟨x,0,n,rfl,j0,⟨by omega,by omega,h1,h2⟩,by omega,fun l hl=>?_⟩⟩;have E3:Ext F2 H2 F2 (upd H2 x (.rng 0 n)):=Ext.newO E2.sub hx;exact yz (c:=cI) E3.sub (GH (UO 0 n)) (fun v F5 H5 E5 hr=>k v F5 H5 (E2.trans (E3.trans E5)) ((rO cI).back (E2.h.trans E3.h) hr)) l hl
end
end L3
variable {d:L3.Cd β}{c:L3.Cd α}{q:L3.Pm β}
namespace PySem
open Sem (wp)
def jeU:typeLookup (.type "list_reverseiterator") "__len__"=pure none:=by rw[typeLookup_type,builtinLookup_eq_fast]; kernel_rfl
def jgT:typeLookup (.type "list_reverseiterator") "__length_hint__"=pure (some (.builtin "list_reverseiterator.__length_hint__")):=by rw[typeLookup_type,builtinLookup_eq_fast]; kernel_rfl
section
variable {I:Addr}{wr:List Addr}{G:Array GenState->Array GenState->Prop}{P:Nat->Value->Prop}{St:Nat->Shared->Prop}
def jgU {R:Result->Shared->Prop} (W:WalksS prog w A.in1 I fp wr G n P St) (hT:∀ i s,St i s->s.TypeIs (.ref I) "list_reverseiterator") (S:Addr) (res:Value) (c₀:Nat) (hst:St 0 s) (hSf:S∉fp) (hI:I∈fp)
  (hS:s.heap.get? S=some { cls:=.type "list",data:=.seq #[] c₀ }) (hn:n<=sizeLine)
  (hR:∀ s' acc' c',Moved (S::wr) G s s'->s'.heap.get? S=some { cls:=.type "list",dict:=none,data:=.seq acc' c',slots:=#[] }->ItemsOf P acc' n->R (.ok (.ret res)) s') :
  wpAny (model prog w) A.in1 (Builtin.List.listExtendWith (.ref S) (.ref I) res)
   (fun fin s'=>match fin with | .done f=>R (.ok f) s' | .again c'=>c'.quiet=true/\codeAny (model prog w) A c' R s') (fun e s'=>R (.error e) s') s:=by
 have hSI:S≠I:=fun e=>hSf (e ▸ hI);have h1:Builtin.List.listSameRef (.ref S) (.ref I)=false:=by simp[Builtin.List.listSameRef,hSI]
 unfold Builtin.List.listExtendWith;refine wpAny_bind (wpAny_typeOf (hT 0 _ hst) ?_);rw[if_neg (by rw[h1]; decide)];refine wpAny_bind (W.self 0 _ _ _ hst ?_);refine wpAny_bind (wpAny_holding ?_);unfold Builtin.List.listLengthHint;refine wpAny_bind (wpAny_specialOf (hT 0 _ hst) jeU ?_);show wpAny _ A.in1 (specialOf (Value.ref I) (Str.ofString "__length_hint__") >>= _) _ _ _;refine wpAny_bind (wpAny_specialOf (hT 0 _ hst) jgT ?_);generalize hid:("list_reverseiterator.__length_hint__":String)=id0
 wp_delta
 rw[show splitId id0=some ("list_reverseiterator","__length_hint__") from by subst hid; decide +kernel];subst hid;refine wpAny_bind (wpAny_isInstance (b:=true) (hT 0 _ hst) (by rw[isSubtype_type]; kernel_rfl) ?_);refine wpAny_pure ?_;rw[if_neg (by decide)];exact wpAny_pure ⟨plainId_quiet F.plain_extend_loop _,codeAny_extend_loopS W hn _ hSf _ n 0 _ _ _ rfl (Nat.zero_le _) hst hS (ItemsOf.nil P) fun s' acc' c' hm hS' hacc=>hR s' acc' c' hm hS' hacc⟩
def jgV {R:Result->Shared->Prop} (W:WalksS prog w A.in1 I fp wr G n P St) (hT:∀ i s,St i s->s.TypeIs (.ref I) "list_reverseiterator") (S:Addr) (hst:St 0 s) (hSf:S∉fp) (hI:I∈fp)
  (hS:s.heap.get? S=some { cls:=.type "list",data:=.seq #[] }) (hn:n<=sizeLine)
  (hR:∀ s' acc' c',Moved (S::wr) G s s'->s'.heap.get? S=some { cls:=.type "list",dict:=none,data:=.seq acc' c',slots:=#[] }->ItemsOf P acc' n->R (.ok (.ret .none)) s') :
  wpAny (model prog w) A.in1 (Builtin.«list.__init__» ⟨[.ref S,.ref I],[]⟩)
   (fun fin s'=>match fin with | .done f=>R (.ok f) s' | .again c'=>c'.quiet=true/\codeAny (model prog w) A c' R s') (fun e s'=>R (.error e) s') s:=by
 show wpAny _ A.in1 (do let old <- Builtin.List.listItems (.ref S); Builtin.List.listUpdate (.ref S) (fun _=>#[]); letGo old.toList.reverse; Builtin.List.listExtendWith (.ref S) (.ref I) .none) _ _ s;refine wpAny_bind ?_;unfold Builtin.List.listItems;refine wpAny_bind (wpAny_seqItems hS rfl (wpAny_pure ?_));show wpAny _ A.in1 (updateSeq S (fun _=>#[]) >>= fun _=>letGo (#[]:Array Value).toList.reverse >>= fun _=>Builtin.List.listExtendWith (.ref S) (.ref I) .none) _ _ s;refine wpAny_bind (wpAny_updateSeq hS rfl ?_);have hS₂:=Heap.get?_update_self (Obj.mapSeq (fun _=>(#[]:Array Value))) hS rfl;have oth:∀ b o,b≠S->s.heap.get? b=some o->(s.heap.update S (Obj.mapSeq (fun _=>(#[]:Array Value)))).get? b=some o:=
  fun b o hb e=>(Heap.get?_update_other _ _ (Ne.symm hb)).trans e
 refine wpAny_bind (wpAny_letGo ?_);refine jgU W hT S .none _ (W.frame 0 s _ s.toks hst (Nat.le_refl _) fun b hb o e=>oth b o (fun h=>hSf (h ▸ hb)) e) hSf hI hS₂ hn fun s' acc' c' hm hS' hacc=>?_;exact hR s' acc' c' (Moved.trans W.gtrans ((Moved.refl W.grefl).then_heap (Nat.le_refl _) fun b o hb e=>oth b o (fun h=>hb (h ▸ List.mem_cons_self)) e) hm) hS' hacc
end
section
def Uo {I l:Addr} (hh:A.handled=none) (hne:l≠I) (hit:s.heap.IsRevIter I l ((items.size:Int)-1)) (hl:s.heap.IsList l items) (hn:items.size<=sizeLine)
  (hQ:∀ h' tk acc' c',(∀ b o,b≠I->s.heap.get? b=some o->h'.get? b=some o) ->
   h'.get? s.heap.objs.size=some { cls:=.type "list",dict:=none,data:=.seq acc' c',slots:=#[] }->ItemsOf (fun i v=>items[items.size-1-i]?=some v) acc' items.size->Q (.ref s.heap.objs.size) { s with heap:=h',toks:=tk }) :
  wpAny (model prog w) A (call (.type "list") [.ref I]) Q E s:=by
 have W:=(Walks.listRev (prog:=prog) (w:=w) (A:=A.in1.in1) hh I l hne items).toS;have lt1:I<s.heap.objs.size:=let ⟨o,ho,_⟩:=hit; Heap.lt_size ho;have lt2:l<s.heap.objs.size:=let ⟨o,ho,_⟩:=hl; Heap.lt_size ho;have hSf:s.heap.objs.size∉[I,l]:=fun hm=>by
  rcases List.mem_cons.mp hm with e | hm
  ·rw[<- e] at lt1; exact Nat.lt_irrefl _ lt1
  ·rw[<- List.mem_singleton.mp hm] at lt2; exact Nat.lt_irrefl _ lt2
 refine callType_codes (Q₁:=fun obj s₁=>obj=.ref s.heap.objs.size/\s₁={ s with heap:=s.heap.push { cls:=.type "list",data:=.seq #[] } }) F.called_list (F.typeCall_list_1 _) F.entry_list_init
  (code_list_new _ ⟨rfl,rfl⟩) fun obj s₁ h₁=>?_
 obtain⟨rfl,rfl⟩:=h₁;have hS:(s.heap.push { cls:=.type "list",data:=.seq #[] }).get? s.heap.objs.size=some { cls:=.type "list",data:=.seq #[] }:=Heap.get?_push_size _ rfl;have e0:((items.size:Int)-1)=(items.size:Int)-1-((0:Nat):Int):=by omega
 refine⟨⟨_,hS,rfl⟩,F.args_list_init_2 _ _,jgV W (fun i s st=>st.2.1.typeIs) _ ⟨Nat.zero_le _,(e0 ▸ hit).at fun o e=>Heap.get?_push_of_some _ e,hl.at fun o e=>Heap.get?_push_of_some _ e⟩ hSf List.mem_cons_self hS hn fun s' acc' c' hm hS' hacc=>⟨rfl,?_⟩⟩;rw[Moved.eq_with hm];refine hQ s'.heap s'.toks acc' c' (fun b o hb e=>hm.heap b o (fun hmem=>?_) (Heap.get?_push_of_some _ e)) hS' hacc;rcases List.mem_cons.mp hmem with e' | hmem
 ·rw[e'] at e; exact Nat.lt_irrefl _ (Heap.lt_size e)
 ·exact hb (List.mem_singleton.mp hmem)
end
end PySem
namespace L2
open PySem PySem.Spec PyProof.Rows
section
def jdh {a:Expr}{p pos2:Pos} (hc:X.calm=true) (hg:Gl X "list") (hm:X.mg "list"=none) (hg2:Gl X "reversed") (hm2:X.mg "reversed"=none) (ha:PE X a te)
  (hs:starEach [Expr.Call (.Name "reversed" p2) [a] [] pos2] X.env=[(false,eval (Expr.Call (.Name "reversed" p2) [a] [] pos2) X.env)]:=by rfl) (hs2:starEach [a] X.env=[(false,eval a X.env)]:=by rfl) :
  PE X (.Call (.Name "list" p) [.Call (.Name "reversed" p2) [a] [] pos2] [] pos) (fun σ H Q=>te σ H fun v H1=>∃ q xs,v=.ref q/\SqL X.K H1 q xs/\∀ l,H1 l=none->Q (.ref l) (upd H1 l (.lst xs.reverse))):=by
 intro pins s σ H Q I h;refine Call_ (Jr I hg hm boot_list (XA ?_ hs rfl));rw[hs];show wpAny _ _ (spliced ((false,eval (Expr.Call (.Name "reversed" p2) [a] [] pos2) X.env)::[])) _ _ s;refine Calls.spliced_cons (Call_ (Jr I hg2 hm2 boot_reversed (XA ?_ hs2 rfl)));rw[hs2];show wpAny _ _ (spliced ((false,eval a X.env)::[])) _ _ s;refine Calls.spliced_cons (thn (ha pins s σ H _ I h) fun u s1 ⟨v,H1,I1,r1,q1⟩=>Calls.spliced_nil ?_);obtain⟨q,xs,rfl,hq,k⟩:=q1;cases r1;obtain⟨its,rv,pl,hz⟩:=I1.list hq;have hlen:=rv.length;refine call_reversed_list pl.isList (Calls.spliced_nil ?_);have hne:q≠s1.heap.objs.size:=fun e=>by
  obtain⟨o,ho,_⟩:=pl.isList;rw[e] at ho;exact XV _ (Xl ho)
 refine Uo (items:=its.toArray) (I1.ok.hd hc) hne ⟨_,Xi _ rfl,rfl,rfl⟩ (pl.isList.at fun o e=>Xd _ e) (by simp only[Xg] <;> omega) fun h' tk acc' c' kp e hacc=>?_;have hS:(s1.heap.push (revObj q (((its.toArray.size:Nat):Int)-1))).objs.size=s1.heap.objs.size+1:=by simp[Heap.push]
 refine⟨.ref _,_,I1.laid (o:=.lst xs.reverse) (t':=tk) (fun b o eb=>kp b o (fun z=>?_) (Xd _ eb)) (by rw[hS]; omega) ⟨by rw[List.length_reverse]; exact hz,acc'.toList,c',?_,by simpa using e⟩,rfl,k _ (I1.hok.fresh (by rw[hS]; omega))⟩
 ·rw[z] at eb; exact XV _ (Xl eb)
 ·refine U_ (by have h0:acc'.size=its.toArray.size:=hacc.1; rw[Xg] at h0; rw[List.length_reverse,Xt,h0]; exact hlen) fun i x v hx hv=>?_;have h1:=hacc.2 i v (by simpa using hv);have hi:i<xs.length:=by
   have:=(List.getElem?_eq_some_iff.mp hx).1;simpa using this
  rw[List.getElem?_reverse hi] at hx;have h2:its[its.length-1-i]?=some v:=by simpa using h1
  rw[<- hlen] at h2;obtain⟨u,e1,e2⟩:=rv.get hx;rw[h2] at e1;cases e1;exact e2
end
end L2
namespace L3
open PySem PySem.Spec L2
section
variable {F:Hp}{t:TE}{p:Pm α}{rs:Rs γ}{i:Int}
def Wx:∀ {l:List α}{xs:List β},Paired R l xs->Paired R l.reverse xs.reverse
 | _,_,.nil=>.nil
 | a::l,x::xs,.cons r s=>by
  rw[List.reverse_cons,List.reverse_cons];exact Paired.app (Wx s) (.cons r .nil)
def jeV (h:Ev K σ F H t (pR c).rs m) (e':mm_=(m.bind fun l=>some l.reverse)) :
  Ev K σ F H (fun σ H Q=>t σ H fun v H1=>∃ q xs,v=.ref q/\SqL K H1 q xs/\∀ l,H1 l=none->Q (.ref l) (upd H1 l (.lst xs.reverse))) (rO c) mm_:=by
 subst e';intro F1 H1 E z e Q k;obtain⟨l,el,e⟩:=bind_some e;cases e;refine h F1 H1 E l el _ fun v F2 H2 E2 hv=>?_;obtain⟨a,xs,rfl,h1,h2⟩:=hv;exact⟨a,xs,rfl,h1,fun l hl=>yz (c:=c) E2.sub (Wx h2) (fun v F5 H5 E5 hr=>k v F5 H5 (E2.trans E5) ((rO c).back E2.h hr)) l hl⟩
def ja1 (h:Ev K σ F H t (pR c).rs (some l)) (e':mm_=some l.reverse) :
  Ev K σ F H (fun σ H Q=>t σ H fun v H1=>∃ q xs,v=.ref q/\SqL K H1 q xs/\∀ l,H1 l=none->Q (.ref l) (upd H1 l (.lst xs.reverse))) (rO c) mm_:=jeV h e'
end
section
variable {F:Hp}{t:TE}{p:Pm α}{rs:Rs γ}{i:Int}
def whM (c:β->Option Bool) (f:β->Option β):Nat->β->Option β
 | 0,_=>none
 | n+1,b=>(c b).bind fun t=>bif t then (f b).bind fun b'=>whM c f n b' else some b
@[irreducible] def pWh (c:β->Option Bool) (f:β->Option β) (b:β):Option β:=whM c f 100000 b
def jgW {tc:TT}{tb:TS}{r:δ} (X:Ext Fe He F H) (hm:(pWh cM fM b0).bind kk=some r) (I:Hp->β->St->Hp->Hp->Prop)
  (h0:I F b0 σ F H) (hG:∀ F1 b σ F H,I F1 b σ F H->Ext Fe He F H/\Same F1 F)
  (hc:∀ b σ' F' H',I F b σ' F' H'->Et K σ' F' H' tc (cM b))
  (hb:∀ b b' σ' F' H' F2 H2,I F b σ' F' H'->Ext F' H' F2 H2->fM b=some b'->tb { D with nx:=fun σ H=>∃ F3,I F b' σ F3 H,ct:=fun σ H=>∃ F3,I F b' σ F3 H,bk:=D.nx } σ' H2)
  (hd:∀ b σ' F' H' F2 H2,I F b σ' F' H'->Ext F' H' F2 H2->kk b=some r->D.nx σ' H2):jdV tc tb D σ H:=by
 obtain⟨b1,hb1,hk⟩:=bind_some hm;unfold pWh at hb1;refine⟨fun m σ H=>∃ b F',whM cM fM m b=some b1/\I F b σ F' H,⟨_,b0,F,hb1,h0⟩,?_⟩;rintro m σ' H' ⟨b,F',hrun,hI⟩;cases m with
 | zero=>cases hrun
 | succ k=>
  obtain⟨t,et,hrun⟩:=bind_some hrun;have g:=hG F b σ' F' H' hI;refine hc b σ' F' H' hI F' H' (Ext.refl g.1.sub) t et _ fun F2 H2 E=>?_;cases t with
  | true=>
   obtain⟨b',eb,hrun⟩:=bind_some hrun;rw[if_pos rfl];exact⟨fun σ H=>∃ F3,I F b' σ F3 H,fun σ'' H'' ⟨F3,h3⟩=>⟨k,Nat.lt_succ_self _,b',F3,hrun,h3⟩,hb b b' σ' F' H' F2 H2 hI E eb⟩
  | false=>
   have e:b=b1:=Option.some.inj hrun;subst e;rw[if_neg (by decide)];exact hd b σ' F' H' F2 H2 hI E hk
def QF {tc:TT}{tb:TS}{r:δ} (X:Ext Fe He F H) (hm:(pWh cM fM b0).bind kk=some r) (I:Hp->β->St->Hp->Hp->Prop)
  (h0:I F b0 σ F H) (hG:∀ F1 b σ F H,I F1 b σ F H->Ext Fe He F H/\Same F1 F)
  (hc:∀ b σ' F' H',I F b σ' F' H'->Et K σ' F' H' tc (cM b))
  (hb:∀ b b' σ' F' H' F2 H2,I F b σ' F' H'->Ext F' H' F2 H2->fM b=some b'->tb { D with nx:=fun σ H=>∃ F3,I F b' σ F3 H,ct:=fun σ H=>∃ F3,I F b' σ F3 H,bk:=u' D } σ' H2)
  (hd:∀ b σ' F' H' F2 H2,I F b σ' F' H'->Ext F' H' F2 H2->kk b=some r->u' D σ' H2):QT (jdV tc tb) u' D σ H:=
 jgW (D:={ D with nx:=u' D }) X hm I h0 hG hc hb hd
end
end L3
namespace L2
open PySem PySem.Spec PyProof.Rows
section
def srt (l:List Int):List Int:=l.mergeSort fun a b=>decide (a<=b)
def jcn (l:List Int):(srt l).Perm l:=List.mergeSort_perm l _
def jkF (l:List Int):(srt l).Pairwise (·<=·):=by
 have:=List.pairwise_mergeSort (le:=fun a b:Int=>decide (a<=b)) (fun a b c h1 h2=>by simp at *; omega) (fun a b=>by simp; omega) l;exact this.imp fun h=>by simpa using h
def jh3 {l m:List Int} (h:m.Perm l) (hs:m.Pairwise (·<=·)):m=srt l:=
 List.Perm.eq_of_pairwise (le:=(·<=·)) (fun a b _ _ h1 h2=>Int.le_antisymm h1 h2) hs (jkF l) (h.trans (jcn l).symm)
def UQ:∀ {us:List Value}{ns:List Int},IntsAre us ns->Vals (ns.map V.int) us
 | _,_,.nil=>.nil
 | _,_,.cons n t h=>.cons ⟨t,rfl⟩ (UQ h)
end
end L2
namespace L3
open PySem PySem.Spec L2
section
variable {F:Hp}{t:TE}{p:Pm α}{rs:Rs γ}{i:Int}
@[irreducible] def jkG (l:List Int):Option (List Int):=if l.length<64 then some (srt l) else none
def paired_ints {F:Hp}:∀ {l:List Int}{xs:List V},Paired (cI.rep K F) l xs->xs=l.map V.int
 | _,_,.nil=>rfl
 | a::l,x::xs,.cons r s=>by
  have e:x=.int a:=r;rw[e,paired_ints s,Xp]
end
end L3
namespace L2
open PySem PySem.Spec PyProof.Rows
section
def dd (l:List Int):List Int:=l.foldl step_dedup []
end
section
def ZK {l:Addr}{Q:List Value->Shared->Prop} (ho:s.heap.get? l=some o) (hc:o.cls=.type "tuple") (hd:o.data=.seq vs.toArray n)
  (h:Q vs { s with heap:=(s.heap.push (seqObj "list" #[] 0)).update s.heap.objs.size (Obj.mapSeq (·++vs.toArray)) }) (hsz:vs.length<=sizeLine) :
  wpAny (model prog w) A (collect (.ref l)) Q E s:=by
 unfold collect;refine Xa (wpAny_runValue (codeAny_builtin entry_proto_collect' ?_));show wpAny _ _ (do again (.builtin "list.__iadd__" ⟨[<- newList [],.ref l],[]⟩)) _ _ s;refine Xa (wpAny_newList (Xb ⟨Code.quiet_builtin _ (by decide +kernel),codeAny_builtin entry_list_iadd' ?_⟩));show wpAny _ _ (Builtin.List.listExtendWith (.ref s.heap.objs.size) (.ref l) (.ref s.heap.objs.size)) _ _ { s with heap:=s.heap.push (seqObj "list" #[] 0) }
 unfold Builtin.List.listExtendWith;have ho':(s.heap.push (seqObj "list" #[] 0)).get? l=some o:=Xd _ ho;refine Xa (wpAny_typeOf (T:="tuple") ⟨o,ho',hc⟩ ?_);have ht:(Value.type "tuple"==Value.type "tuple")=true:=by rfl
 rw[if_pos (by rw[ht]; simp)];refine Xa (listItems_at ho' hd ?_);refine Xa (listItems_at (xs:=#[]) (n:=0) (Xi _ rfl) rfl ?_);rw[if_neg (by simp)];refine Xa (listUpdate_at (xs:=#[]) (n:=0) (Xi _ rfl) rfl ?_ (wc _) (by show (#[]++vs.toArray).size<=sizeLine+1; simp only[Array.size_append,Xg,List.length_nil]; omega));refine Xb ?_;show wpAny (model prog w) A (load s.heap.objs.size >>= _) Q E _;refine Xa (wpAny_load (get?_update_seq (Xi _ rfl) _) ?_);show wpAny _ _ (pure ((#[]:Array Value)++vs.toArray).toList) Q E _;rw[show ((#[]:Array Value)++vs.toArray).toList=vs by simp];exact Xb h
def ja2 {l:Addr} (ho:s.heap.get? l=some o) (hc:o.cls=.type "tuple") (hd:o.data=.seq vs.toArray n) (hI:IntsAre vs ns) (h64:vs.length<64)
  (h:∀ (out:Array Value) (ns':List Int),IntsAre out.toList ns'->ns'.Perm ns->ns'.Pairwise (·<=·)->Q (.ref (s.heap.objs.size+1)) { s with heap:=sortedAll s.heap vs out }) :
  wpAny (model prog w) A (call (.builtin "sorted") [.ref l]) Q E s:=by
 refine Calls.call_function_entry kind_sorted plain_sorted entry_sorted (args_sorted1 _) ?_;unfold Builtin.«sorted»;refine Xa (m:=checkCount "sorted" 1 1 _) (Xb ?_);refine Xa (ZK ho hc hd ?_ (by rw[Xy]; omega));refine Xa (wpAny_newList ?_);have sz:((s.heap.push (seqObj "list" #[] 0)).update s.heap.objs.size (Obj.mapSeq (·++vs.toArray))).objs.size=s.heap.objs.size+1:=by
  rw[Heap.size_update,size_push']
 have hL:(((s.heap.push (seqObj "list" #[] 0)).update s.heap.objs.size (Obj.mapSeq (·++vs.toArray))).push (seqObj "list" vs.toArray 0)).get? (s.heap.objs.size+1)=some (seqObj "list" vs.toArray 0):=by
  rw[<- sz]; exact Xi _ rfl
 show wpAny _ _ _ _ _ { s with heap:=((s.heap.push (seqObj "list" #[] 0)).update s.heap.objs.size (Obj.mapSeq (·++vs.toArray))).push (seqObj "list" vs.toArray 0) }
 rw[sz];refine Xa (wa (XI slot_list_sort ⟨_,hL,rfl⟩ entry_list_sort (list_sort_tree hL hI h64 fun out ns' a1 a2 a3=>⟨_,rfl,?_⟩) (args_list_sort _)));exact Xb ⟨_,rfl,h out ns' a1 a2 a3⟩
end
section
def ZL:GD X (.builtin "sorted") (fun xs H Q=>∃ p ns,xs=[.ref p]/\SqT X.K H p (ns.map V.int)/\ns.length<64/\∀ l,H l=none->Q (.ref l) (upd H l (.lst ((srt ns).map V.int)))):=by
 intro pins s σ H xs us Q I r h;obtain⟨p,ns,rfl,hq,hn,q⟩:=h;obtain⟨u,rfl,rx⟩:=Ug r;cases rx;obtain⟨its,rv,pl,hz⟩:=I.tuple hq;have hlen:=rv.length;rw[Xj] at hlen;obtain⟨o,ho,hc,n,hd⟩:=pl;refine ja2 ho hc hd (J9 rv) (by omega) fun out ns' a1 a2 a3=>?_;obtain⟨e,he⟩:=sortedAll_at s.heap its out;have e':=jh3 a2 a3;subst e';refine⟨.ref _,_,I.laid (o:=.lst ((srt ns).map V.int)) (t':=s.toks) (fun b o eb=>sortedAll_old eb) (Nat.le_succ _) ⟨?_,out.toList,e,UQ a1,by simpa using he⟩,rfl,q _ (I.hok.fresh (Nat.le_succ _))⟩;rw[Xj,(jcn ns).length_eq];rw[Xj] at hz;exact hz
end
end L2
namespace L3
open PySem PySem.Spec L2
section
variable {F:Hp}{t:TE}{p:Pm α}{rs:Rs γ}{i:Int}
def jeW:Op1 K (fun x H Q=>∃ p ns,[x]=[V.ref p]/\SqT K H p (ns.map V.int)/\ns.length<64/\∀ l,H l=none->Q (.ref l) (upd H l (.lst ((srt ns).map V.int)))) (pF (cT cI)) (rO cI) (fun l=>jkG l):=by
 intro F H l x s hx z hz Q k;obtain⟨p,xs,rfl,h1,h2⟩:=hx;unfold jkG at hz;obtain⟨hn,rfl⟩:=jS hz;rw[paired_ints h2] at h1;exact⟨p,l,rfl,SqT.of (s _ _ h1),hn,fun a ha=>yz s (GH (srt l)) k a ha⟩
@[irreducible] def jjX (i:Int):Int:=if i<0 then -i else i
def jkH:Op1 K (fun x H Q=>∃ i,[x]=[V.int i]/\Q (.int (if i<0 then -i else i)) H) (pF cI) (rF cI) (fun i=>some (jjX i)):=by
 intro F H a x s hx z hz Q k;cases hx; cases hz;refine⟨a,rfl,?_⟩;have:=k _ F H (Ext.refl s) (show (cI.rep K F (jjX a) (.int (jjX a))) from rfl);unfold jjX at this;exact this
end
end L3
namespace HT
open PySem PyProof.Rows
section
def cat_tup0 {t b:Addr}{ws:List Value} (ht:IsTup s.heap t vs.toArray) (hb:IsTup s.heap b ws.toArray) (hv:vs=[]) (h:Q (.ref b) s) :
  wpAny (model prog w) A (binaryOp .Add (.ref t) (.ref b)) Q E s:=by
 obtain⟨⟨cls,dd,data,sl⟩,ho,hc,n,hd⟩:=id ht;obtain⟨⟨cls2,dd2,data2,sl2⟩,ho2,hc2,n2,hd2⟩:=id hb;simp only at hc hd hc2 hd2;subst hc hd hc2 hd2;exact concat_meets ⟨_,ho,rfl⟩ ⟨_,ho2,rfl⟩ noFill_tuple_add seq_tuple_add PySem.F.slot_tuple_add PySem.F.entry_tuple_add (PySem.F.args_tuple_add_2 _ _)
  (tuple_addW0 t b vs.toArray ws.toArray n n2 dd dd2 sl sl2 (by simp[hv])) ⟨ho,ho2,h⟩
def getItem_tuple_whole {t:Addr} (ht:IsTup s.heap t items) (hs:s.heap.IsSliceOf sl vl vu .none) (pl:IsPart vl lo) (pu:IsPart vu hi)
  (hw:sIx items.size 0 lo=0/\sIx items.size items.size hi=items.size) (h:Q (.ref t) s):wpAny (model prog w) A (getItem (.ref t) (.ref sl)) Q E s:=by
 obtain⟨os,hos,hcs,hds⟩:=id hs;have hTs:s.TypeIs (.ref sl) "slice":=⟨os,hos,hcs⟩;unfold getItem
 try with_reducible refine wpAny_holding ?_
 first | refine wpAny_bind (wpAny_pure ?_) | skip
 refine wpAny_bind (wpAny_sequenceKey ht.typeIs (by decide) ?_);refine wpAny_bind (wpAny_callSpecial?_slot (name:=Str.ofString "__getitem__") ht.typeIs PyProof.Rows.slot_tuple_getitem
  (wpAny_call_entry PyProof.Rows.slot_tuple_getitem ht.typeIs entry_tuple_getitem ?_ (args_tuple_getitem _ _)))
 show wpAny _ _ (Builtin.Tuple.tupleItemsOf (.ref t) >>= _) _ _ s;refine wpAny_bind (tupleItemsOf_ ht ?_);refine wpAny_bind (wpAny_typeOf hTs ?_);rw[if_pos (by decide)];refine wpAny_bind (Jl hs pl pu ?_);have hyes:(((sIx items.size 0 lo:Nat):Int)==0&&(1:Int)==1&&(sIx items.size items.size hi-sIx items.size 0 lo)==items.size)=true:=by
  rw[hw.1,hw.2,Nat.sub_zero];simp
 show wpAny _ _ (if (((sIx items.size 0 lo:Nat):Int)==0&&(1:Int)==1&&(sIx items.size items.size hi-sIx items.size 0 lo)==items.size)=true then _ else _) _ _ s;rw[if_pos hyes];refine wpAny_bind ?_;unfold Builtin.Tuple.tupleIsExact;refine wpAny_bind (wpAny_typeOf ht.typeIs (wpAny_pure ?_));rw[if_pos (by decide)];exact wpAny_bind (wpAny_rule (wpAny_pure ⟨_,rfl,wpAny_pure h⟩))
end
end HT
namespace L2
open PySem PySem.Spec PyProof.Rows
section
def jh4 (K:W.Frag):R2:=fun x y H Q=>∃ a b xs ys,x=.ref a/\y=.ref b/\SqT K H a xs/\SqT K H b ys/\xs.length+ys.length<=sizeLine /\
 (xs=[]->Q (.ref b) H)/\(ys=[]->Q (.ref a) H)/\∀ p,H p=none->Q (.ref p) (upd H p (.tup (xs++ys)))
def jco:OpR X (binaryOp .Add) (jh4 X.K):=by
 intro pins s σ H x y v u Q I rx ry h;obtain⟨a,b,xs,ys,rfl,rfl,ha,hb,hz,q0,q1,q2⟩:=h;by_cases hx:xs=[]
 ·cases rx;cases ry;obtain⟨its,r1,p1,_⟩:=I.tuple ha;obtain⟨its2,r2,p2,_⟩:=I.tuple hb;exact HT.cat_tup0 p1 p2 (r1.nil_iff.mpr hx) ⟨.ref b,H,I,rfl,q0 hx⟩
 ·exact jiB pins s σ H (.ref a) (.ref b) v u Q I rx ry ⟨a,b,xs,ys,rfl,rfl,ha,hb,hx,hz,q1,fun _=>q2⟩
def ji2 (K:W.Frag):V->Option Int->Option Int->Hp->VK->Prop:=fun x lo hi H Q=>∃ a xs,x=.ref a/\SqT K H a xs /\
 ((HT.sIx xs.length 0 lo=0/\HT.sIx xs.length xs.length hi=xs.length)->Q (.ref a) H)/\∀ p,H p=none->Q (.ref p) (upd H p (.tup (jgp xs lo hi)))
def Yb:SlR X (ji2 X.K):=by
 intro pins s σ H x v vl vu lo hi sl Q I rx hs pl pu h;obtain⟨a,xs,rfl,hx,q0,q⟩:=h;by_cases hw:HT.sIx xs.length 0 lo=0/\HT.sIx xs.length xs.length hi=xs.length
 ·cases rx;obtain⟨its,r,ht,hz⟩:=I.tuple hx;have hlen:its.toArray.size=xs.length:=by rw[Xg]; exact r.length.symm
  refine⟨"tuple",_,PyProof.Rows.slot_tuple_getitem.lookup,ht.typeIs,?_⟩;exact HT.getItem_tuple_whole ht hs pl pu (by rw[hlen]; exact hw) ⟨.ref a,H,I,rfl,q0 hw⟩
 ·exact jkf pins s σ H (.ref a) v vl vu lo hi sl Q I rx hs pl pu ⟨a,xs,rfl,hx,hw,q⟩
end
end L2
namespace L3
open PySem PySem.Spec L2
section
variable {F:Hp}{t:TE}{p:Pm α}{rs:Rs γ}{i:Int}
def jh5:Op2 K (jh4 K) (pF (cT c)) (pF (cT c)) (rF (cT c)) Wt:=by
 intro F H l m x y s hx hy z hz Q k;obtain⟨a,xs,rfl,h1,h2⟩:=hx;obtain⟨b,ys,rfl,h3,h4⟩:=hy;unfold Wt at hz;obtain⟨hc,rfl⟩:=jS hz;rw[h2.length,h4.length] at hc;refine⟨a,b,xs,ys,rfl,rfl,SqT.of (s _ _ h1),SqT.of (s _ _ h3),by rw[Xy]; exact hc,fun e=>?_,fun e=>?_,fun p hp=>jaL s (Paired.app h2 h4) k p hp⟩
 ·have el:l=[]:=List.length_eq_zero_iff.mp (by rw[h2.length,e]; rfl);subst el;exact k _ F H (Ext.refl s) ⟨b,ys,rfl,h3,h4⟩
 ·have el:m=[]:=List.length_eq_zero_iff.mp (by rw[h4.length,e]; rfl);subst el;rw[List.append_nil] at k;exact k _ F H (Ext.refl s) ⟨a,xs,rfl,h1,h2⟩
def jeX (h:HT.sIx l.length 0 lo=0/\HT.sIx l.length l.length hi=l.length):cut l lo hi=l:=by
 unfold cut;rw[h.1,h.2,List.drop_zero,Nat.sub_zero,List.take_length]
def jgX {ml:Option (Option Int)} (h:Ev K σ F H t (pF (cT c)).rs m) (hl:Eo K σ F H tl ml) (hh:Eo K σ F H th mh)
  (e':mm_=(m.bind fun l=>ml.bind fun i=>mh.bind fun j=>some (cut l i j))):Ev K σ F H (tSl (ji2 K) t tl th) (rF (cT c)) mm_:=by
 subst e';intro F1 H1 E z hz Q k;obtain⟨l,el,hz⟩:=bind_some hz;obtain⟨i,ei,hz⟩:=bind_some hz;obtain⟨j,ej,hz⟩:=bind_some hz;cases hz;refine h F1 H1 E l el _ ?_;intro v F2 H2 E2 hv;refine hl F2 H2 (E.trans E2) i ei _ fun F3 H3 E3=>hh F3 H3 ((E.trans E2).trans E3) j ej _ fun F4 H4 E4=>?_;obtain⟨a,xs,rfl,h1,h2⟩:=(pF (cT c)).mono (E3.trans E4) hv;refine⟨a,xs,rfl,SqT.of (E4.sub _ _ h1),fun hw=>?_,fun p hp=>?_⟩
 ·rw[<- h2.length] at hw;rw[jeX hw] at k;exact k _ F4 H4 (E2.trans (E3.trans E4)) ⟨a,xs,rfl,h1,h2⟩
 ·exact jaL (c:=c) E4.sub (Paired.cutP i j h2) (fun v F5 H5 E5 hr=>k v F5 H5 (E2.trans (E3.trans (E4.trans E5))) ((rF (cT c)).back (E2.h.trans (E3.h.trans E4.h)) hr)) p hp
def Qd {x y:Option Int} (h:Ev K σ F H t (pF (cT c)).rs (some l)) (hl:Eo K σ F H tl (some x)) (hh:Eo K σ F H th (some y)) (e':mm_=(some (cut l x y))) :
  Ev K σ F H (tSl (ji2 K) t tl th) (rF (cT c)) mm_:=jgX h hl hh e'
end
end L3
namespace L2
open PySem PySem.Spec PyProof.Rows
section
def jeY {t:Addr}{k:Int}{tk:Tok}{j:Nat} 
  (ho:s.heap.get? t=some o) (hc:o.cls=.type "tuple") (hd:o.data=.seq its.toArray n) (hI:IntsAre its ns) (hj:ns[j]?=some k) (hb:∀ i a,i<j->ns[i]?=some a->a≠k)
  (q:Q (.int j s.toks) { s with toks:=s.toks+1 }):wpAny (model prog w) A (call (.builtin "tuple.index") [.ref t,.int k tk]) Q E s:=by
 refine XI PySem.F.slot_tuple_index ⟨o,ho,hc⟩ PySem.F.entry_tuple_index ?_ (PySem.F.args_tuple_index_2 _ _);show wpAny _ _ (Builtin.Tuple.tupleItemsOf (.ref t) >>= _) _ _ s;have ht:IsTup s.heap t its.toArray:=⟨o,ho,hc,n,hd⟩;refine Xa (tupleItemsOf_ ht ?_);refine Xa (Xb ?_);refine Xa (Xb ?_);dsimp only;rw[Std.Legacy.Range.forIn_eq_forIn_range'];have hlen:=IntsAre.length hI;obtain⟨hjl,ejk⟩:=List.getElem?_eq_some_iff.mp hj;refine Xa (wpAny_forIn_list _ (fun rest b s'=>b=(none,())/\s'=s/\∃ i,i<=j/\rest=List.range' i (its.length-i)) _ ?turn ?fin _ _ ?h)
 case turn=>
  rintro x rest b s' ⟨rfl,rfl,i,hi,e⟩;obtain⟨m,em⟩:∃ m,its.length-i=m+1:=⟨its.length-i-1,by omega⟩;rw[em,List.range'_succ] at e;injection e with e1 e2
  subst e1; subst e2;have hx:x<its.length:=by omega
  have ei:its.toArray[x]?=some its[x]:=by rw[List.getElem?_toArray]; exact Xc hx
  obtain⟨tx,ex⟩:=IntsAre.int_at hI x its[x] (Xc hx);have hxn:x<ns.length:=by omega
  have ex2:ns.getD x 0=ns[x]:=by simp[List.getD,hxn]
  rw[ei];dsimp only;rw[ex,ex2];refine Xa ((intKind prog w).eqBool (a:=ns[x]) (b:=k) (intKind_is _ _ _ _) (intKind_is _ _ _ _) ?_);by_cases hxj:x=j
  ·subst hxj;rw[if_pos (by simp[ejk])];unfold retInt;refine Xa (Xa (wpAny_mkInt (Xb (Xb ?_))));exact Xb ⟨_,rfl,q⟩
  ·have hne:ns[x]≠k:=hb x ns[x] (by omega) (Xc hxn);rw[if_neg (by simp[hne])];refine Xb ⟨rfl,rfl,x+1,by omega,?_⟩;congr 1;omega
 case fin=>
  rintro b s' ⟨rfl,rfl,i,hi,e⟩;have:=congrArg List.length e;rw[List.length_range'] at this;simp at this;omega
 case h=>
  refine⟨rfl,rfl,0,wc _,?_⟩;simp[Std.Legacy.Range.size]
end
section
def jkI (H:Hp) (x:V):Prop:=∃ p xs,x=.ref p/\Rd H p (.tup xs)
def jgY {x:V}{v:Value} (I:Inv X pins σ H s) (r:RelV x v) (ty:jkI H x) :
  s.TypeIs v "tuple"/\∀ a,v=.ref a->∃ ob,s.heap.get? a=some ob/\ob.dict=none:=by
 obtain⟨p,xs,rfl,h⟩:=ty;cases r;obtain⟨_,its,_,o,e,c,_⟩:=h.ok I.hok;exact⟨⟨o,e,c.1⟩,fun a z=>by cases z; exact ⟨o,e,c.2⟩⟩
def tBT (r:V->List V->Hp->VK->Prop) (to:TE) (t:TA):TE:=fun σ H Q=>to σ H fun x H1=>jkI H1 x/\t σ H1 fun xs H2=>r x xs H2 Q
variable {o:Expr}{to:TE}{t:TA}{id:String}{r:V->List V->Hp->VK->Prop}
def jlW (slot:Slot "tuple" name id) (hty:typeOf (.builtin id)=pure (.type "method_descriptor")) (hm:MtR X id r) (ho:PE X o to) (ha:PA X (e::es) t)
  (hbase:attributeBase o name X.env (eval o X.env)=eval o X.env:=by rfl)
  (hfew:((backTo cpos (starEach (e::es) X.env)).all (fun x=>!x.1)&&(backToKw cpos (keywordEach [] X.env)).all (fun x=>x.1.isSome)
  &&decide ((e::es).length+([]:List Keyword).length+(if ([]:List Keyword).isEmpty then 0 else 1)<30))=true:=by rfl)
  (hline:(apos.endLine==cpos.line)=true:=by rfl) (hs:starEach (e::es) X.env=(false,eval e X.env)::starEach es X.env:=by rfl) (hplain:(backTo cpos (starEach es X.env)).any (·.1)=false:=by rfl) :
  PE X (.Call (.Attribute o name apos) (e::es) [] cpos) (tBT r to t):=by
 intro pins s σ H Q I h;refine wpAny_Call_method_late hbase hfew hline rfl (thn (ho pins s σ H _ I h) fun v s1 ⟨x,H1,I1,r1,ty,q1⟩=>?_);obtain⟨h1,h2⟩:=jgY I1 r1 ty;refine⟨"tuple",id,PySem.F.plainAttrs_tuple,slot,hty,h1,h2,?_⟩;have hA:=ha cpos pins s1 σ H1 _ I1 q1;rw[hs] at hA ⊢;refine Calls.callWith_builtin (by show (false||(backTo cpos (starEach es X.env)).any (·.1))=false; rw[hplain] <;> rfl) (Calls.evalArgs_plain ?_)
 exact thn hA fun us s2 ⟨vs,H2,I2,r2,q2⟩=>hm pins s2 σ H2 x vs v us Q I2 r1 r2 q2
def ja3 (K:W.Frag):V->List V->Hp->VK->Prop:=fun x vs H Q=>∃ (l:Addr) (ns:List Int) (k:Int) (j:Nat),x=.ref l/\vs=[.int k]/\SqT K H l (ns.map V.int)/\ns[j]?=some k/\(∀ i a,i<j->ns[i]?=some a->a≠k)/\Q (.int j) H
def jeZ:MtR X "tuple.index" (ja3 X.K):=by
 intro pins s σ H x vs v us Q I rx rv h;obtain⟨l,ns,k,j,rfl,rfl,hH,hj,hb,q⟩:=h;cases rx;obtain⟨u,rfl,t,rfl⟩:=rv.one;obtain⟨its,r,⟨o,ho,hc,n,hd⟩,hz⟩:=I.tuple hH;exact jeY ho hc hd (J9 r) hj hb ⟨.int j,H,I.tok _,⟨_,rfl⟩,q⟩
def je0 (hc:X.calm=true):GD X (.builtin "min") (fun xs H Q=>∃ p ns,xs=[.ref p]/\SqL X.K H p (ns.map V.int)/\ns≠[]/\∀ m,m∈ns->(∀ a∈ns,m<=a)->Q (.int m) H):=by
 intro pins s σ H xs us Q I r h;obtain⟨p,ns,rfl,hq,hn,q⟩:=h;obtain⟨u,rfl,rx⟩:=Ug r;cases rx;obtain⟨its,rv,pl,hz⟩:=I.list hq;have hi:=J9 rv;have hpl:=pl.isList;have hall:=hi.allInts;have hnum:=hi.numsOf;obtain⟨ys,ey⟩:=hall.items;rw[ey] at hpl;have e2:numsOf its=ys.toList.map (·.1):=by
  have:=nums_intItems ys;rw[<- ey] at this;exact this
 rw[hnum] at e2;have hsz:0<ys.size:=by
  rcases Nat.eq_zero_or_pos ys.size with z | z
  ·exact absurd (List.length_eq_zero_iff.mp (by rw[e2,Xj,Xt,z])) hn
  ·exact z
 refine min_intList (I.ok.hd hc) hpl hsz fun v h' tk hv hk=>?_;obtain⟨t,rfl⟩:=intItems_at hv;obtain⟨h1,h2⟩:=argBest_lt (numAt ys) (ys.size-1);refine⟨.int _,H,I.kept (t':=tk) hk,⟨_,rfl⟩,q _ ?_ fun a ha=>?_⟩
 ·rw[numAt_eq,e2];exact PySem.getD_mem (by rw[Xj,Xt]; omega)
 ·rw[e2] at ha;obtain⟨j,hj,rfl⟩:=PySem.mem_getD ha;rw[Xj,Xt] at hj;rw[<- numAt_eq];exact h2 j (by omega)
def je1 (hc:X.calm=true):GD X (.builtin "max") (fun xs H Q=>∃ p ns,xs=[.ref p]/\SqL X.K H p (ns.map V.int)/\ns≠[]/\∀ m,m∈ns->(∀ a∈ns,a<=m)->Q (.int m) H):=by
 intro pins s σ H xs us Q I r h;obtain⟨p,ns,rfl,hq,hn,q⟩:=h;obtain⟨u,rfl,rx⟩:=Ug r;cases rx;obtain⟨its,rv,pl,hz⟩:=I.list hq;have hi:=J9 rv;have hpl:=pl.isList;have hall:=hi.allInts;have hnum:=hi.numsOf;obtain⟨ys,ey⟩:=hall.items;rw[ey] at hpl;have e2:numsOf its=ys.toList.map (·.1):=by
  have:=nums_intItems ys;rw[<- ey] at this;exact this
 rw[hnum] at e2;have hsz:0<ys.size:=by
  rcases Nat.eq_zero_or_pos ys.size with z | z
  ·exact absurd (List.length_eq_zero_iff.mp (by rw[e2,Xj,Xt,z])) hn
  ·exact z
 refine max_intList (I.ok.hd hc) hpl hsz fun v h' tk hv hk=>?_;obtain⟨t,rfl⟩:=intItems_at hv;obtain⟨h1,h2⟩:=argBest_gt (numAt ys) (ys.size-1);refine⟨.int _,H,I.kept (t':=tk) hk,⟨_,rfl⟩,q _ ?_ fun a ha=>?_⟩
 ·rw[numAt_eq,e2];exact PySem.getD_mem (by rw[Xj,Xt]; omega)
 ·rw[e2] at ha;obtain⟨j,hj,rfl⟩:=PySem.mem_getD ha;rw[Xj,Xt] at hj;rw[<- numAt_eq];exact h2 j (by omega)
end
end L2
namespace L3
open PySem PySem.Spec L2
section
variable {F:Hp}{t:TE}{p:Pm α}{rs:Rs γ}{i:Int}
def ja4 {mm_:Option Int}{m:Option (List Int)}{mk:Option Int} (h:Ev K σ F H t (pF (cT cI)).rs m) (hk:Ev K σ F H ta (rF cI) mk) (e':mm_=(m.bind fun l=>mk.bind fun k=>jkE l k)):Ev K σ F H (tBT (ja3 K) t (jH ta xh)) (rF cI) mm_:=by
 subst e';intro F1 H1 E z e Q k;obtain⟨l,el,e⟩:=bind_some e;obtain⟨n,en,e⟩:=bind_some e;obtain⟨x,rfl,hx,hb⟩:=jeS e;refine h F1 H1 E l el _ ?_;rintro v F2 H2 E2 ⟨a,xs,rfl,h1,h2⟩;have exs:=W_ h2;subst exs;refine⟨⟨a,_,rfl,.inl (E2.sub _ _ h1)⟩,hk F2 H2 (E.trans E2) n en _ fun w F3 H3 E3 hw=>?_⟩;have ew:w=.int n:=hw;subst ew;exact⟨a,l,n,x,rfl,rfl,SqT.of (E3.h _ _ (E2.sub _ _ h1)),hx,hb,k _ F3 H3 (E2.trans E3) rfl⟩
def Yc {mm_:Option Int}{l:List Int}{n:Int} (h:Ev K σ F H t (pF (cT cI)).rs (some l)) (hk:Ev K σ F H ta (rF cI) (some n)) (e':mm_=jkE l n):Ev K σ F H (tBT (ja3 K) t (jH ta xh)) (rF cI) mm_:=ja4 h hk e'
def jdM:List Int->Int
 | []=>0
 | [a]=>a
 | a::l=>if a<jdM l then a else jdM l
def jdN:List Int->Int
 | []=>0
 | [a]=>a
 | a::l=>if jdN l<a then a else jdN l
def ZM:∀ {l:List Int},l≠[]->jdM l∈l/\∀ a∈l,jdM l<=a
 | [],h=>absurd rfl h
 | [a],_=>⟨by simp[jdM],by simp[jdM]⟩
 | a::b::l,_=>by
  obtain⟨h1,h2⟩:=ZM (l:=b::l) (by simp);show (if a<jdM (b::l) then a else jdM (b::l))∈_/\∀ x∈_,(if a<jdM (b::l) then a else jdM (b::l))<=x;split
  ·refine⟨Xo,fun x hx=>?_⟩;rcases List.mem_cons.mp hx with rfl | hx
   ·exact Int.le_refl _
   ·have:=h2 x hx; omega
  ·refine⟨Xn _ h1,fun x hx=>?_⟩;rcases List.mem_cons.mp hx with rfl | hx
   ·omega
   ·exact h2 x hx
def ZN:∀ {l:List Int},l≠[]->jdN l∈l/\∀ a∈l,a<=jdN l
 | [],h=>absurd rfl h
 | [a],_=>⟨by simp[jdN],by simp[jdN]⟩
 | a::b::l,_=>by
  obtain⟨h1,h2⟩:=ZN (l:=b::l) (by simp);show (if jdN (b::l)<a then a else jdN (b::l))∈_/\∀ x∈_,x<=(if jdN (b::l)<a then a else jdN (b::l));split
  ·refine⟨Xo,fun x hx=>?_⟩;rcases List.mem_cons.mp hx with rfl | hx
   ·exact Int.le_refl _
   ·have:=h2 x hx; omega
  ·refine⟨Xn _ h1,fun x hx=>?_⟩;rcases List.mem_cons.mp hx with rfl | hx
   ·omega
   ·exact h2 x hx
@[irreducible] def ji3 (l:List Int):Option Int:=if l=[] then none else some (jdM l)
@[irreducible] def ji4 (l:List Int):Option Int:=if l=[] then none else some (jdN l)
def jkJ:Op1 K (fun x H Q=>∃ p ns,[x]=[V.ref p]/\SqL K H p (ns.map V.int)/\ns≠[]/\∀ m,m∈ns->(∀ a∈ns,m<=a)->Q (.int m) H) (pR cI) (rF cI) (fun l=>ji3 l):=by
 intro F H l x s hx z hz Q k;obtain⟨p,xs,rfl,h1,h2⟩:=hx;unfold ji3 at hz;dsimp only at hz;by_cases hl:l=[]
 ·rw[if_pos hl] at hz; cases hz
 ·rw[if_neg hl] at hz;cases hz;rw[paired_ints h2] at h1;obtain⟨g1,g2⟩:=ZM hl;refine⟨p,l,rfl,h1,hl,fun m hm hle=>?_⟩;have e:m=jdM l:=Int.le_antisymm (hle _ g1) (g2 _ hm);subst e;exact k _ F H (Ext.refl s) rfl
def jkK:Op1 K (fun x H Q=>∃ p ns,[x]=[V.ref p]/\SqL K H p (ns.map V.int)/\ns≠[]/\∀ m,m∈ns->(∀ a∈ns,a<=m)->Q (.int m) H) (pR cI) (rF cI) (fun l=>ji4 l):=by
 intro F H l x s hx z hz Q k;obtain⟨p,xs,rfl,h1,h2⟩:=hx;unfold ji4 at hz;dsimp only at hz;by_cases hl:l=[]
 ·rw[if_pos hl] at hz; cases hz
 ·rw[if_neg hl] at hz;cases hz;rw[paired_ints h2] at h1;obtain⟨g1,g2⟩:=ZN hl;refine⟨p,l,rfl,h1,hl,fun m hm hle=>?_⟩;have e:m=jdN l:=Int.le_antisymm (g2 _ hm) (hle _ g1);subst e;exact k _ F H (Ext.refl s) rfl
end
abbrev Ecs:=List (Addr×List Str)
end L3
namespace L2
open PySem PySem.Spec PyProof.Rows
def QG (a b:Int):Builtin.Range.rangeSize a b (-1)=if b<a then a-b else 0:=by
 unfold Builtin.Range.rangeSize;rw[if_neg (by decide),Int.neg_neg,Int.ediv_one];by_cases h:b<a
 ·rw[if_pos h,if_pos h]; omega
 ·rw[if_neg h,if_neg h]
def je2 {a b:Int} (ha:-(2 ^ 62)<=a) (ha':a<2 ^ 62) (hb:-(2 ^ 62)<=b) (hb':b<2 ^ 62):Builtin.Range.small a b (-1)=true:=by
 unfold Builtin.Range.small;rw[QG];simp only[Builtin.Range.rangeFitsLong,XB,Bool.or_eq_true,Xv,beq_iff_eq,show ((-1:Int) > 0)=False by simp,X0];split <;> omega
def Itd (hi:Int) (n:Nat):It:=⟨fun i _=>i<n,fun i H x H'=>H'=H/\x=.int (hi-i),fun i _=>n<=i⟩
def ja5 (it:Addr) (hi:Int) (n:Nat):Turn P w K tg (Itd hi n) [it] it (fun i h=>IsRangeIter h it (hi+(i:Nat) * (-1)) ((n:Int)-(i:Nat)) (-1)) where
 mem:=by simp
 obj:=fun i h st b hb=>by
  have e:b=it:=by simpa using hb
  subst e;exact⟨_,st,fun v z=>by
   have z':Data.fields _=Data.cell v:=z;cases z'⟩
 keep:=fun i h h' st k=>k it (by simp) _ st
 item:=by
  intro X hP hw hK hc i pins s σ H E I hf st hg;subst hP hw hK;obtain⟨f0,f1,f2,f3,f4,f5⟩:=hf it (by simp);have W:=Walks.range (prog:=X.prog) (w:=X.w) (I.ok.hd hc) it hi (-1) n;refine W.item i s _ _ hg st fun v h' tk hv st' kk=>?_;obtain⟨t,rfl⟩:=hv;have I1:Inv X pins σ H { s with heap:=h',toks:=tk }:=I.turned (fun b o hb e=>kk b o (by simpa using hb) e) f0 f1 f3 f4 f5
  refine⟨_,rfl,Zl (s:={ s with heap:=h',toks:=tk }) (n:="range_iterator") st' rfl rfl (by decide) ⟨.int (hi-i),H,I1,⟨t,?_⟩,⟨rfl,rfl⟩,st',fun b hb=>(hf b hb).1⟩⟩
  rw[show hi+(i:Int) * (-1)=hi-i by omega]
 done:=by
  intro X hP hw hK hc i pins s σ H E I hf st hg;subst hP hw hK;obtain⟨f0,f1,f2,f3,f4,f5⟩:=hf it (by simp);exact wpAny_pyNext_range_end (I.ok.hd hc) st (by have:n<=i:=hg; omega) fun h' eb=>⟨rfl,I.turned (t':=s.toks) (fun b o hb e=>eb b o hb e) f0 f1 f3 f4 f5⟩
 self:=fun _ _ _ _ _ st h=>wpAny_pyIter_rangeiter st h
section
def je3 {R:It->Hp->Prop}{hi lo:Int}{t u v:Tok}{tk:Nat} (I:Inv X pins σ H s) (h1:-(2 ^ 62)<=hi) (h2:hi<2 ^ 62) (h3:-(2 ^ 62)<=lo) (h4:lo<2 ^ 62)
  (q:R (Itd hi (hi-lo).toNat) H):wpAny (model X.prog X.w) X.A (pyIter (.ref s.heap.objs.size)) (PIE X pins σ tg R) E { s with heap:=s.heap.push { cls:=.type "range",data:=.fields #[.int hi t,.int lo u,.int (-1) v] },toks:=tk }:=by
 refine wpAny_pyIter_range (IsRange.new ..) (je2 h1 h2 h3 h4) ?_;have I1:Inv X pins σ H { s with heap:=s.heap.push { cls:=.type "range",data:=.fields #[.int hi t,.int lo u,.int (-1) v] },toks:=tk }:=I.kept fun b o e=>Xd _ e
 refine⟨(s.heap.push { cls:=.type "range",data:=.fields #[.int hi t,.int lo u,.int (-1) v] }).objs.size,[(s.heap.push { cls:=.type "range",data:=.fields #[.int hi t,.int lo u,.int (-1) v] }).objs.size],_,_,H,rfl,
  I1.kept (t':=tk) fun b o e=>Xd _ e,ja5 _ hi (hi-lo).toNat,?_,fun b hb=>?_,q⟩
 ·have e1:hi+((0:Nat):Int) * (-1)=hi:=by simp
  have e2:(((hi-lo).toNat:Nat):Int)-((0:Nat):Int)=Builtin.Range.rangeSize hi lo (-1):=by rw[QG]; split <;> omega
  show IsRangeIter _ _ (hi+((0:Nat):Int) * (-1)) ((((hi-lo).toNat:Nat):Int)-((0:Nat):Int)) (-1);rw[e1,e2];exact Xi _ rfl
 ·have e:b=(s.heap.push { cls:=.type "range",data:=.fields #[.int hi t,.int lo u,.int (-1) v] }).objs.size:=by simpa using hb
  subst e;exact I1.fpOk (Xe _) (I1.hok.fresh (Xe _))
def ji5 (ta:TA):TI:=fun σ H R=>ta σ H fun vs H1=>∃ i j:Int,vs=[.int i,.int j,.int (-1)]/\(-(2 ^ 62)<=i/\i<2 ^ 62/\-(2 ^ 62)<=j/\j<2 ^ 62)/\R (Itd i (i-j).toNat) H1
def je4 {a b c:Expr}{ta:TA}{p:Pos} (hg:Gl X "range") (hm:X.mg "range"=none) (ha:PA X [a,b,c] ta) (hs:starEach [a,b,c] X.env=[(false,eval a X.env),(false,eval b X.env),(false,eval c X.env)]:=by rfl) (hs2:starEach [b,c] X.env=[(false,eval b X.env),(false,eval c X.env)]:=by rfl) :
  PI X tg (.Call (.Name "range" p) [a,b,c] [] pos) (ji5 ta):=by
 intro pins s σ H R I h;refine Call_ (Jr I hg hm boot_range (XA (thn (ha pos pins s σ H _ I h) fun us s1 ⟨vs,H1,I1,r1,q1⟩=>?_) (by rw[hs,hs2]) (by rw[hs2]; rfl)));obtain⟨i,j,e,⟨q1,q2,q3,q4⟩,q⟩:=q1;subst e;cases r1 with
 | cons r rr=>
  cases rr with
  | cons r' rr=>
   cases rr with
   | cons r'' rr=>
    cases rr;obtain⟨t,rfl⟩:=r;obtain⟨t',rfl⟩:=r';obtain⟨t'',rfl⟩:=r'';exact call_range_3 (by decide) (je3 I1 q1 q2 q3 q4 q) (Or.inl (PyProof.noPylong_small (by decide)))
def Gh (hi lo:Int):List Int:=(List.range (hi-lo).toNat).map fun k=>hi-((k:Nat):Int)
def jgZ {a b c:Expr}{ta:TA}{p pos2:Pos} (hc:X.calm=true) (hgl:Gl X "list") (hml:X.mg "list"=none) (hg:Gl X "range") (hm:X.mg "range"=none) (ha:PA X [a,b,c] ta)
  (hs0:starEach [Expr.Call (.Name "range" p2) [a,b,c] [] pos2] X.env=[(false,eval (Expr.Call (.Name "range" p2) [a,b,c] [] pos2) X.env)]:=by rfl)
  (hs:starEach [a,b,c] X.env=[(false,eval a X.env),(false,eval b X.env),(false,eval c X.env)]:=by rfl) (hs2:starEach [b,c] X.env=[(false,eval b X.env),(false,eval c X.env)]:=by rfl) :
  PE X (.Call (.Name "list" p) [.Call (.Name "range" p2) [a,b,c] [] pos2] [] pos) (fun σ H Q=>ta σ H fun vs H1=>∃ i j:Int,vs=[.int i,.int j,.int (-1)]/\(-(2 ^ 62)<=i/\i<2 ^ 62/\-(2 ^ 62)<=j/\j<2 ^ 62)/\(i-j).toNat<=2 ^ 24/\∀ l,H1 l=none->Q (.ref l) (upd H1 l (.lst ((Gh i j).map V.int)))):=by
 intro pins s σ H Q I h;refine Call_ (Jr I hgl hml boot_list (XA ?_ hs0 rfl));rw[hs0];show wpAny _ _ (spliced ((false,eval (Expr.Call (.Name "range" p2) [a,b,c] [] pos2) X.env)::[])) _ _ s;refine Calls.spliced_cons (Call_ (Jr I hg hm boot_range (XA (thn (ha pos2 pins s σ H _ I h) fun us s1 ⟨vs,H1,I1,r1,q1⟩=>?_) (by rw[hs,hs2]) (by rw[hs2]; rfl))));obtain⟨i,j,e,⟨b1,b2,b3,b4⟩,hn,q⟩:=q1;subst e;cases r1 with
 | cons r rr=>
  cases rr with
  | cons r' rr=>
   cases rr with
   | cons r'' rr=>
    cases rr;obtain⟨t,rfl⟩:=r;obtain⟨t',rfl⟩:=r';obtain⟨t'',rfl⟩:=r'';refine call_range_3 (by decide) (Calls.spliced_nil ?_) (Or.inl (PyProof.noPylong_small (by decide)));have hS:(s1.heap.push { cls:=.type "range",data:=.fields #[.int i t,.int j t',.int (-1) t''] }).objs.size=s1.heap.objs.size+1:=by simp[Heap.push]
    refine call_list_range (n:=(i-j).toNat) (I1.ok.hd hc) (IsRange.new ..) (je2 b1 b2 b3 b4) (by rw[QG]; split <;> omega) hn fun h' tk acc' c' kp e' hacc=>?_;refine⟨.ref _,_,I1.laid (o:=.lst ((Gh i j).map V.int)) (t':=tk) (fun b o eb=>kp b o (Xd _ eb)) (by rw[hS]; omega) ⟨?_,acc'.toList,c',?_,by simpa using e'⟩,rfl,q _ (I1.hok.fresh (by rw[hS]; omega))⟩
    ·rw[Xj,Gh,Xj,List.length_range,Xy];exact hn
    ·refine U_ (by rw[Xj,Gh,Xj,List.length_range,Xt,hacc.1]) fun n x v hx hv=>?_;rw[Xx] at hx;unfold Gh at hx;rw[Xx] at hx;cases hr:(List.range (i-j).toNat)[n]? with
     | none=>rw[hr] at hx; cases hx
     | some k=>
      rw[hr] at hx;have hk:k=n:=by
       obtain⟨h1,h2⟩:=List.getElem?_eq_some_iff.mp hr;simpa using h2.symm
      subst hk;cases hx;obtain⟨tk',e2⟩:=hacc.2 k v (by simpa using hv);exact⟨tk',by rw[e2,show i+(k:Int) * (-1)=i-k by omega]⟩
end
end L2
namespace L3
open PySem PySem.Spec L2
section
variable {F:Hp}{t:TE}{p:Pm α}{rs:Rs γ} 
@[irreducible] def je5 (hi lo:Int):Option (List Int):=if -(2 ^ 62)<=hi/\hi<2 ^ 62/\-(2 ^ 62)<=lo/\lo<2 ^ 62 then some (Gh hi lo) else none
def Wy (hi lo:Int):(Gh hi lo).length=(hi-lo).toNat:=by simp[Gh]
def ji6 {hi lo:Int} (h:∀ F H,G F H->Same F H):ItOk K (Itd hi (hi-lo).toNat) cI (Gh hi lo) G where
 go:=fun i F H g hi'=>by rw[Wy] at hi'; exact hi'
 yld:=fun i F H x H' g y b hb=>by
  obtain⟨e,y⟩:=y;subst e y;refine⟨F,Ext.refl (h F _ g),?_⟩;unfold Gh at hb;rw[Xx] at hb;cases q:(List.range (hi-lo).toNat)[i]? with
  | none=>rw[q] at hb; cases hb
  | some j=>
   rw[q] at hb;have hij:j=i:=by
    obtain⟨h1,h2⟩:=List.getElem?_eq_some_iff.mp q;simpa using h2.symm
   subst hij;cases hb;rfl
 stop:=fun F H g=>by rw[Wy]; exact Xe _
def je6 {m:Option Int}{mm_:Option (List Int)} (h:Ev K σ F H t (rF cI) m) (h':Ev K σ F H ta (rF cI) m') (h'':Ev K σ F H tb (rF cI) (some (-1))) (e':mm_=(m.bind fun i=>m'.bind fun j=>je5 i j)) :
  Ei K σ F H Fe He (ji5 (jH t (jH ta (jH tb xh)))) cI mm_:=by
 subst e';intro X l e R k;obtain⟨i,ei,e⟩:=bind_some e;obtain⟨j,ej,e⟩:=bind_some e;unfold je5 at e;obtain⟨⟨h1,h2,h3,h4⟩,rfl⟩:=jS e;refine h F H (Ext.refl X.sub) i ei _ fun v F2 H2 E hv=>h' F2 H2 E j ej _ fun v' F3 H3 E3 hv'=>h'' F3 H3 (E.trans E3) (-1) rfl _ fun v'' F4 H4 E4 hv''=>?_;have ev:v=.int i:=hv;have ev':v'=.int j:=hv';have ev'':v''=.int (-1):=hv'';subst ev ev' ev'';exact⟨i,j,rfl,⟨h1,h2,h3,h4⟩,k (Itd i (i-j).toNat) F4 H4 (E.trans (E3.trans E4)) (ji6 fun F' H' g=>g.1.sub)⟩
def ja6 {i:Int}{mm_:Option (List Int)} (h:Ev K σ F H t (rF cI) (some i)) (h':Ev K σ F H ta (rF cI) (some j)) (h'':Ev K σ F H tb (rF cI) (some (-1))) (e':mm_=je5 i j) :
  Ei K σ F H Fe He (ji5 (jH t (jH ta (jH tb xh)))) cI mm_:=je6 h h' h'' e'
@[irreducible] def jcp (i j:Int):Option (List Int):=if (-(2 ^ 62)<=i/\i<2 ^ 62/\-(2 ^ 62)<=j/\j<2 ^ 62)/\i-j<=16777216 then some (Gh i j) else none
def jdi {m:Option Int}{mm_:Option (List Int)} (h:Ev K σ F H t (rF cI) m) (h':Ev K σ F H ta (rF cI) m') (h'':Ev K σ F H tb (rF cI) (some (-1))) (e':mm_=(m.bind fun i=>m'.bind fun j=>jcp i j)) :
  Ev K σ F H (fun σ H Q=>(jH t (jH ta (jH tb xh))) σ H fun vs H1=>∃ i j:Int,vs=[.int i,.int j,.int (-1)]/\(-(2 ^ 62)<=i/\i<2 ^ 62/\-(2 ^ 62)<=j/\j<2 ^ 62)/\(i-j).toNat<=2 ^ 24/\∀ l,H1 l=none->Q (.ref l) (upd H1 l (.lst ((Gh i j).map V.int)))) (rO cI) mm_:=by
 subst e';intro F1 H1 E z e Q k;obtain⟨i,ei,e⟩:=bind_some e;obtain⟨j,ej,e⟩:=bind_some e;unfold jcp at e;obtain⟨⟨hb,h3⟩,rfl⟩:=jS e;refine h F1 H1 E i ei _ fun v F2 H2 E2 hv=>h' F2 H2 (E.trans E2) j ej _ fun v' F3 H3 E3 hv'=>h'' F3 H3 (E.trans (E2.trans E3)) (-1) rfl _ fun v'' F4 H4 E4 hv''=>?_;have ev:v=.int i:=hv;have ev':v'=.int j:=hv';have ev'':v''=.int (-1):=hv'';subst ev ev' ev'';have E5:=E2.trans (E3.trans E4);refine⟨i,j,rfl,hb,by omega,fun l hl=>?_⟩;exact yz (c:=cI) E5.sub (GH (Gh i j)) (fun v F5 H5 E6 hr=>k v F5 H5 (E5.trans E6) ((rO cI).back E5.h hr)) l hl
def ZO {i:Int}{mm_:Option (List Int)} (h:Ev K σ F H t (rF cI) (some i)) (h':Ev K σ F H ta (rF cI) (some j)) (h'':Ev K σ F H tb (rF cI) (some (-1))) (e':mm_=jcp i j) :
  Ev K σ F H (fun σ H Q=>(jH t (jH ta (jH tb xh))) σ H fun vs H1=>∃ i j:Int,vs=[.int i,.int j,.int (-1)]/\(-(2 ^ 62)<=i/\i<2 ^ 62/\-(2 ^ 62)<=j/\j<2 ^ 62)/\(i-j).toNat<=2 ^ 24/\∀ l,H1 l=none->Q (.ref l) (upd H1 l (.lst ((Gh i j).map V.int)))) (rO cI) mm_:=jdi h h' h'' e'
end
end L3
namespace L2
open PySem PySem.Spec PyProof.Rows
section
variable [DecidableEq κ]
def V6 (kvs:List (κ×V)) (k:κ):Option V:=(kvs.find? fun kv=>decide (kv.1=k)).map (·.2)
def jaw (kvs:List (κ×V)) (k:κ) (v:V):List (κ×V):=
 if (kvs.any fun kv=>decide (kv.1=k))=true then kvs.map (fun kv=>if kv.1=k then (kv.1,v) else kv) else kvs++[(k,v)]
def Q1 {p:κ×V}{r:List (κ×V)}{k:κ} (e:p.1=k):V6 (p::r) k=some p.2:=by simp[V6,X7,e]
def Q2 {p:κ×V}{r:List (κ×V)}{k:κ} (e:¬ p.1=k):V6 (p::r) k=V6 r k:=by simp[V6,X7,e]
def jcq (k:κ):∀ kvs:List (κ×V),(kvs.any fun kv=>decide (kv.1=k))=(V6 kvs k).isSome
 | []=>rfl
 | p::r=>by
  rw[List.any_cons];by_cases e:p.1=k
  ·simp only[Q1 e,Xu e,Bool.true_or,Option.isSome_some]
  ·rw[Q2 e,Xk e,Bool.false_or]; exact jcq k r
def Vt (kvs:List (κ×V)) (k:κ) (v:V):(jaw kvs k v).length<=kvs.length+1:=by
 unfold jaw;split
 ·rw[Xj]; omega
 ·rw[XE,XY,List.length_nil]; omega
def RelO.isSome_eq {o:Option V}{u:Option Value} (r:RelO o u):o.isSome=u.isSome:=by
 cases o with
 | none=>cases u with
  | none=>rfl
  | some _=>exact (show False from r).elim
 | some _=>cases u with
  | none=>exact (show False from r).elim
  | some _=>rfl
def RelO.getD {o:Option V}{u:Option Value}{d:V}{d':Value} (r:RelO o u) (rd:RelV d d'):RelV (o.getD d) (u.getD d'):=by
 cases o with
 | none=>cases u with
  | none=>exact rd
  | some _=>exact (show False from r).elim
 | some _=>cases u with
  | none=>exact (show False from r).elim
  | some _=>exact r
def KV.val {kvs:List (κ×V)}{vs:List (κ×Value)} (r:KV kvs vs) (k:κ):RelO (V6 kvs k) (valueAt vs k):=by
 unfold KV at r
 induction r with
 | nil=>exact True.intro
 | @cons p q ps qs h t ih=>
  obtain⟨h1,h2⟩:=h;by_cases e:p.1=k
  ·have e':q.1=k:=h1.symm.trans e;have b:valueAt (q::qs) k=some q.2:=by simp[valueAt,X7,e']
   rw[Q1 e,b]; exact h2
  ·have e':¬ q.1=k:=fun z=>e (h1.trans z);have b:valueAt (q::qs) k=valueAt qs k:=by simp[valueAt,X7,e']
   rw[Q2 e,b]; exact ih
def KV.any {kvs:List (κ×V)}{vs:List (κ×Value)} (r:KV kvs vs) (k:κ):(kvs.any fun kv=>decide (kv.1=k))=vs.any fun kv=>decide (kv.1=k):=by
 unfold KV at r
 induction r with
 | nil=>rfl
 | cons h t ih=>rw[List.any_cons,List.any_cons,ih,h.1]
def KV.repl {kvs:List (κ×V)}{vs:List (κ×Value)} (r:KV kvs vs) (k:κ) {y:V} (ry:RelV y u) :
  KV (kvs.map fun kv=>if kv.1=k then (kv.1,y) else kv) (vs.map fun kv=>if kv.1=k then (kv.1,u) else kv):=by
 unfold KV at r ⊢
 induction r with
 | nil=>exact .nil
 | @cons p q ps qs h t ih=>
  rw[Xp,Xp];refine .cons ?_ ih;obtain⟨h1,h2⟩:=h;by_cases e:p.1=k
  ·rw[if_pos e,if_pos (h1.symm.trans e)]; exact ⟨h1,ry⟩
  ·rw[if_neg e,if_neg (fun z=>e (h1.trans z))]; exact ⟨h1,h2⟩
def KV.put {kvs:List (κ×V)}{vs:List (κ×Value)} (r:KV kvs vs) (k:κ) {y:V} (ry:RelV y u):KV (jaw kvs k y) (stored vs k u):=by
 unfold jaw stored;rw[r.any k];by_cases e:(vs.any fun kv=>decide (kv.1=k))=true
 ·rw[if_pos e,if_pos e]; exact r.repl k ry
 ·rw[if_neg e,if_neg e]; exact Paired.snoc r ⟨rfl,ry⟩
def KV.length {kvs:List (κ×V)}{vs:List (κ×Value)} (r:KV kvs vs):kvs.length=vs.length:=Paired.length r
end
def je7 {k:Key} (r:RelV (kV k) u):(zD P w).is k u=true:=by
 cases k with
 | inl i=>obtain⟨t,e⟩:=(show ∃ t,u=Value.int i t from r); subst e; exact jax P w i t
 | inr x=>obtain⟨t,e⟩:=(show ∃ t,u=Value.str x t from r); subst e; exact jay P w x t
def ZP:∀ {ks:List Key}{us:List Value},Vals (ks.map kV) us->ItemsAre (zD P w) ks us
 | [],_,r=>by rw[List.map_nil] at r; cases r; exact .nil
 | k::ks,_,r=>by
  rw[Xp] at r;cases r with
  | cons h t=>exact .cons (je7 h) (ZP t)
abbrev KT (fl:Bool) (H:Hp):List (List Key×V)->List (List Key×Addr×Value)->Prop:=Paired fun p q=>p.1=q.1/\TupK fl H p.1 q.2.1/\RelV p.2 q.2.2
def KT.val {xs:List (List Key×Addr×Value)} (r:KT fl H kvs xs) (k:List Key):RelO (V6 kvs k) ((atKey xs k).map (·.2)):=by
 induction r with
 | nil=>exact True.intro
 | @cons p q ps qs h t ih=>
  obtain⟨h1,_,h2⟩:=h;by_cases e:p.1=k
  ·have e':q.1=k:=h1.symm.trans e;have b:atKey (q::qs) k=some q.2:=by simp[atKey,X7,e']
   rw[Q1 e,b]; exact h2
  ·have e':¬ q.1=k:=fun z=>e (h1.trans z);have b:atKey (q::qs) k=atKey qs k:=by simp[atKey,X7,e']
   rw[Q2 e,b]; exact ih
def KT.repl {xs:List (List Key×Addr×Value)} (r:KT fl H kvs xs) (k:List Key) {y:V} (ry:RelV y u) :
  KT fl H (kvs.map fun kv=>if kv.1=k then (kv.1,y) else kv) (xs.map (putAt k u)):=by
 induction r with
 | nil=>exact .nil
 | @cons p q ps qs h t ih=>
  rw[Xp,Xp];refine .cons ?_ ih;obtain⟨h1,h2,h3⟩:=h;unfold putAt;by_cases e:p.1=k
  ·rw[if_pos e,if_pos (h1.symm.trans e)]; exact ⟨h1,h2,ry⟩
  ·rw[if_neg e,if_neg (fun z=>e (h1.trans z))]; exact ⟨h1,h2,h3⟩
def KT.put {xs:List (List Key×Addr×Value)} (r:KT fl H kvs xs) (k:List Key) {b:Addr}{y:V} (hb:TupK fl H k b) (ry:RelV y u) :
  KT fl H (jaw kvs k y) (storedH xs k b u):=by
 have e:(kvs.any fun kv=>decide (kv.1=k))=(atKey xs k).isSome:=by
  rw[jcq,(r.val k).isSome_eq,Option.isSome_map]
 unfold jaw storedH;rw[e];by_cases q:(atKey xs k).isSome=true
 ·rw[if_pos q,if_pos q]; exact r.repl k ry
 ·rw[if_neg q,if_neg q]; exact Paired.snoc r ⟨rfl,hb,ry⟩
def KT.keeps {xs:List (List Key×Addr×Value)} (r:KT fl H kvs xs) (ht:∀ b ys,H b=some (.tup ys)->H' b=some (.tup ys)):KT fl H' kvs xs:=
 Paired.mapP r fun _ _ z=>⟨z.1,z.2.1.mono ht,z.2.2⟩
section
def jkL {u:HO} (ok:HOk P w H h) (e:Rd H a u):ObjOk P w H h a u:=e.ok ok
def je8 {kvs:List (Key×V)} (ok:HOk P w H h) (e:Rd H a (.dK kvs)):kvs.length<=sizeLine/\(a==sysModules)=false/\∃ vs,KV kvs vs/\h.DictOf (zD P w) a vs:=
 show ObjOk P w H h a (.dK kvs) from jkL ok e
def jlX {kvs:List (Key×V)} (ok:HOk P w H h) (e:H a=some (.dK kvs)):kvs.length<=sizeLine/\(a==sysModules)=false/\∃ vs,KV kvs vs/\h.DictOf (zD P w) a vs:=je8 ok (.inl e)
def je9 (ok:HOk P w H h) (e:H a=some (.tup (ks.map kV))):(tupleKind (zD P w)).is h ks a:=by
 obtain⟨_,its,r,o,h1,h2,n,h3⟩:=(show ObjOk P w H h a (.tup (ks.map kV)) from ok a _ e);exact⟨o,its.toArray,n,h1,h2.1,h3,by simpa using ZP r⟩
def ZQ (ok:HOk P w H h) (e:TupK fl H ks a):(kdT fl P w).is h ks a:=by
 cases fl with
 | false=>exact je9 ok e
 | true=>
  obtain⟨k,r,t,rfl,e1,e2⟩:=e;obtain⟨_,its,q,o,h1,h2,n,h3⟩:=(show ObjOk P w H h a (.tup [.ref t,kV k]) from ok a _ e1);cases q with
  | cons q1 q=>
   cases q with
   | cons q2 q=>
    cases q;cases (show _=Value.ref t from q1);exact⟨k,r,t,_,o,n,rfl,h1,h2.1,h3,je9 ok e2,je7 q2⟩
def Yd (hu:A.units+2<cLine):(kdT fl P w).room A.in1:=by
 cases fl with
 | false=>exact (show A.units+1<cLine by omega)
 | true=>exact (show A.units+1+1<cLine by omega)
def je_ (ok:HOk P w H h) (e:Rd H a (.dT fl kvs)):kvs.length<=sizeLine/\(a==sysModules)=false /\
  ∃ xs,KT fl H kvs xs/\h.DictOfH (kdT fl P w) a xs:=by
 obtain⟨z,y,xs,r,o,es,ep,h1,h2,h3,h4,h5⟩:=(show ObjOk P w H h a (.dT fl kvs) from jkL ok e);refine⟨z,y,xs,r,o,es,ep,h1,h2,h3,h4,fun x hx=>?_,h5⟩;have all:∀ {l:List (List Key×V)}{m:List (List Key×Addr×Value)},KT fl H l m->∀ x∈m,(kdT fl P w).is h x.1 x.2.1:=by
  intro l m q
  induction q with
  | nil=>intro x hx; exact nomatch hx
  | @cons p q ps qs hq t ih=>
   intro x hx;rcases List.mem_cons.mp hx with e | hx
   ·subst e;exact ZQ ok (by rw[<- hq.1]; exact hq.2.1)
   ·exact ih x hx
 exact all r x hx
def jkM (ok:HOk P w H h) (e:H a=some (.dT fl kvs)):kvs.length<=sizeLine/\(a==sysModules)=false /\
  ∃ xs,KT fl H kvs xs/\h.DictOfH (kdT fl P w) a xs:=je_ ok (.inl e)
end
def DGet (H:Hp) (a:Addr) (y:V) (r:Option V):Prop:=
 (∃ kvs k,Rd H a (.dK kvs)/\y=kV k/\r=V6 kvs k) \/ ∃ fl kvs k b,Rd H a (.dT fl kvs)/\y=.ref b/\TupK fl H k b/\r=V6 kvs k
def DPut (H:Hp) (a:Addr) (y v:V) (H':Hp):Prop:=
 (∃ kvs k,H a=some (.dK kvs)/\y=kV k/\kvs.length<sizeLine/\H'=upd H a (.dK (jaw kvs k v))) \/
 ∃ fl kvs k b,H a=some (.dT fl kvs)/\y=.ref b/\TupK fl H k b/\kvs.length<sizeLine/\H'=upd H a (.dT fl (jaw kvs k v))
def DGet.k {kvs:List (Key×V)}{k:Key} (e:H a=some (.dK kvs)):DGet H a (kV k) (V6 kvs k):=.inl ⟨kvs,k,.inl e,rfl,rfl⟩
def DGet.t {b:Addr}{k:List Key} (e:H a=some (.dT fl kvs)) (eb:TupK fl H k b):DGet H a (.ref b) (V6 kvs k):=.inr ⟨_,kvs,k,b,.inl e,rfl,eb,rfl⟩
def DPut.k {kvs:List (Key×V)}{k:Key} (e:H a=some (.dK kvs)) (hl:kvs.length<sizeLine):DPut H a (kV k) v (upd H a (.dK (jaw kvs k v))):=.inl ⟨kvs,k,e,rfl,hl,rfl⟩
def DPut.t {b:Addr}{k:List Key} (e:H a=some (.dT fl kvs)) (eb:TupK fl H k b) (hl:kvs.length<sizeLine) :
  DPut H a (.ref b) v (upd H a (.dT fl (jaw kvs k v))):=.inr ⟨_,kvs,k,b,e,rfl,eb,hl,rfl⟩
section
variable {y:V}{r:Value}{o:Option V} 
def Inv.big (I:Inv X pins σ H s):sysModules<s.heap.objs.size:=by
 have h:mainGlobals<s.heap.objs.size:=(I.mod.glob.keeps I.bk).lt;exact Nat.lt_trans (by decide) h
def jfa (hu:A.units+2<cLine) (I:Inv X pins σ H s) (g:DGet H a y (some v)) (ry:RelV y u) (h:∀ w' s',Inv X pins σ H s'->RelV v w'->Q w' s') :
  wpAny (model X.prog X.w) A (getItem (.ref a) u) Q E s:=by
 rcases g with⟨kvs,k,e,ey,l⟩ | ⟨fl,kvs,k,b,e,ey,eb,l⟩
 ·subst ey;obtain⟨z,hd,vs,rel,dd⟩:=je8 I.hok e;obtain⟨w',hw,rw'⟩:=RelO.some_of (v:=v) (o:=valueAt vs k) (by rw[l]; exact rel.val k);exact wpAny_getItem_of (je7 ry) dd.mapOf hw (h w' _ (I.tok _) rw')
 ·subst ey;cases (show u=Value.ref b from ry);obtain⟨z,hd,xs,rel,dd⟩:=je_ I.hok e;obtain⟨w',hw,rw'⟩:=RelO.some_of (v:=v) (o:=(atKey xs k).map (·.2)) (by rw[l]; exact rel.val k);obtain⟨p,hp,hp2⟩:=Option.map_eq_some_iff.mp hw;refine wpAny_getItem_heap (Yd hu) (ZQ I.hok eb) dd hp ?_;rw[hp2];exact h w' _ (I.tok _) rw'
def ja7 {ob:HO} (I:Inv X pins σ H s) (mu:Mut (H a)) (hs:Heap.SameBut a s.heap h') (he:∃ q,h'.get? a=some q) (new:ObjOk X.prog X.w (upd H a ob) h' a ob) :
  Inv X pins σ (upd H a ob) { s with heap:=h',toks:=t' }:=
 I.write (x:=a) (e:=a) mu (.inl rfl) (fun b q hb z=>(hs.2 b hb).trans z) he new
def jkN {kvs:List (Key×V)}{vs:List (Key×Value)} (z:kvs.length<=sizeLine) (hd:(a==sysModules)=false) (rel:KV kvs vs) (dd:h'.DictOf (zD P w) a vs) :
  ObjOk P w H' h' a (.dK kvs):=⟨z,hd,vs,rel,dd⟩
def jfb {Q:Unit->Shared->Prop} (hu:A.units+2<cLine) (I:Inv X pins σ H s) (g:DPut H a y v H') (ry:RelV y u) (rv:RelV v r) (h:∀ s',Inv X pins σ H' s'->Q () s') :
  wpAny (model X.prog X.w) A (setItem (.ref a) u r) Q E s:=by
 rcases g with⟨kvs,k,e,ey,l,eH⟩ | ⟨fl,kvs,k,b,e,ey,eb,l,eH⟩
 ·subst ey eH;obtain⟨z,hd,vs,rel,dd⟩:=jlX I.hok e;have hz:vs.length<=sizeLine:=by rw[<- rel.length]; exact z
  have hl:(jaw kvs k v).length<=sizeLine:=by have:=Vt kvs k v; omega
  refine wpAny_setItem_pairs (hsz:=hz) (je7 ry) dd fun h' dd' hs=>h _ ?_;have he:∃ q,h'.get? a=some q:=let ⟨q,_,_,hq,_⟩:=dd'; ⟨q,hq⟩;exact ja7 I (by rw[e]; exact True.intro) hs he (jkN hl hd (rel.put k rv) dd')
 ·subst ey eH;cases (show u=Value.ref b from ry);obtain⟨z,hd,xs,rel,dd⟩:=jkM I.hok e;have hz:xs.length<=sizeLine:=by rw[<- Paired.length rel]; exact z
  have hl:(jaw kvs k v).length<=sizeLine:=by have:=Vt kvs k v; omega
  refine wpAny_setItem_heap (hsz:=hz) (Yd hu) (ZQ I.hok eb) dd fun h' dd' hs=>h _ ?_;obtain⟨q,es,ep,hq,h2,h3,h4,_,h5⟩:=dd';refine ja7 I (by rw[e]; exact True.intro) hs ⟨q,hq⟩ ⟨hl,hd,_,(rel.put k eb rv).keeps fun c ys ec=>?_,q,es,ep,hq,h2,h3,h4,h5⟩;rw[ka (jj7 ec e (fun z=>nomatch z))];exact ec
end
def jlY (i:Expr):Prop:=∀ ov iv,subscripted i false ov iv=operate [ov,iv] (getItem ov iv)
def jfc {slice:Expr}{id:String} 
  (hl:typeLookup (.type T) "__getitem__"=pure (some (.builtin id))) (hs:jlY slice)
  (h:wpAny (model prog w) A (eval value env) (fun o s₁=>wpAny (model prog w) A (eval slice env) (fun i s₂=>s₂.TypeIs o T/\wpAny (model prog w) A (getItem o i) Q E s₂) E s₁) E s) :
  wpAny (model prog w) A (eval (.Subscript value slice pos) env) Q E s:=by
 refine Subscript_ (wd h (fun o s₁ h₁=>wd h₁ (fun i s₂ h₂=>?_) fun _ _ x=>x) fun _ _ x=>x);obtain⟨hT,h₂⟩:=h₂;unfold subscriptTail;refine Xa ?_;rw[getitemInPython_of_ne hT.not_modules];refine Xa (wpAny_specialOf hT hl ?_);have fin:wpAny (model prog w) A (subscripted slice false o i) (fun r s₃=>wpAny (model prog w) A (letTemporaryGo value o r >>= fun _=>pure r) Q E s₃) E s₂:=by
  rw[hs o i];exact wpAny_operating (wd h₂ (fun r s₃ h₃=>Xa (wpAny_letTemporaryGo (Xb h₃))) fun _ _ x=>x)
 first
  | exact Xb (Xa fin)
  | exact Xa (Xb (Xa fin))
  | exact Xa fin
def ja8 {y:V}{o:Option V} (I:Inv X pins σ H s) (g:DGet H a y o):s.TypeIs (.ref a) "dict":=by
 rcases g with⟨kvs,k,e,_,_⟩ | ⟨fl,kvs,k,b,e,_,_,_⟩
 ·obtain⟨_,_,vs,_,dd⟩:=je8 I.hok e;exact dd.typeIs
 ·obtain⟨_,_,xs,_,dd⟩:=je_ I.hok e;exact dd.typeIs
def jfd (td ty:TE):TE:=fun σ H Q=>td σ H fun x H1=>ty σ H1 fun y H2=>∃ a v,x=.ref a/\DGet H2 a y (some v)/\Q v H2
def ji7 (td ty tv:TE):TS:=fun D σ H=>tv σ H fun v H1=>td σ H1 fun x H2=>ty σ H2 fun y H3=>∃ a H4,x=.ref a/\DPut H3 a y v H4/\D.nx σ H4
section
variable {o i:Expr}{tpos:Pos} 
def Up (hu:X.A.units+2<cLine) (ho:PE X o td) (hi:PE X i ty) (hs:jlY i):PE X (.Subscript o i pos) (jfd td ty):=by
 intro pins s σ H Q I h;refine jfc PySem.F.slot_dict_getitem.lookup hs (thn (ho pins s σ H _ I h) fun u s1 ⟨x,H1,I1,rx,q1⟩=>thn (hi pins s1 σ H1 _ I1 q1) fun iv s2 ⟨y,H2,I2,ry,a,v,ex,g,q2⟩=>?_);subst ex;obtain rfl:u=Value.ref a:=rx;exact⟨ja8 I2 g,jfa hu I2 g ry fun w' s3 I3 rw'=>⟨v,H2,I3,rw',q2⟩⟩
def jfe (hu:X.A.units+2<cLine) (ho:PE X o td) (hi:PE X i ty) (hv:PE X value tv) (hs:swapsWith value (some (.Subscript o i pos')) pos.line X.env=pure false) :
  PS X (.Assign [.Subscript o i pos'] value pos) (ji7 td ty tv):=by
 intro pins s σ H D I h;refine wpAny_Assign_Subscript (thn (hv pins s σ H _ I h) fun r s1 ⟨v,H1,I1,rv,q1⟩=>thn (ho pins s1 σ H1 _ I1 q1) fun u s2 ⟨x,H2,I2,rx,q2⟩=>thn (hi pins s2 σ H2 _ I2 q2) fun iv s3 ⟨y,H3,I3,ry,a,H4,ex,g,q3⟩=>?_) hs;subst ex;obtain rfl:u=Value.ref a:=rx;exact jfb hu I3 g ry rv fun s4 I4=>⟨σ,H4,I4,q3⟩
end
def jg0 (h:Heap) (hb:sysModules<h.objs.size):ObjOk P w H (h.push { cls:=.type "dict",data:=.dict #[] }) h.objs.size (.dK []):=
 ⟨wc _,beq_eq_false_iff_ne.mpr (Ne.symm (XQ hb)),[],.nil,Heap.DictOf.new h⟩
def jcr (h:Heap) (hb:sysModules<h.objs.size):ObjOk P w H (h.push { cls:=.type "dict",data:=.dict #[] }) h.objs.size (.dT fl []):=
 ⟨wc _,beq_eq_false_iff_ne.mpr (Ne.symm (XQ hb)),[],.nil,_,#[],0,Xi _ rfl,⟨rfl,rfl,rfl⟩,rfl,rfl,List.nodup_nil⟩
def jh6:TE:=fun _ H Q=>∀ p,H p=none->Q (.ref p) (upd H p (.dK []))
def jh7 (fl:Bool):TE:=fun _ H Q=>∀ p,H p=none->Q (.ref p) (upd H p (.dT fl []))
section
def jg1:PE X (.Dict [] [] pos) jh6:=fun pins s σ H Q I h=>
 wpAny_Dict_empty ⟨.ref s.heap.objs.size,_,I.laid (a:=s.heap.objs.size) (o:=.dK []) (t':=s.toks) (fun _ _ q=>Xd _ q) (Xe _) (jg0 s.heap I.big),rfl,h _ (I.hok.fresh (Xe _))⟩
def jg2:PE X (.Dict [] [] pos) (jh7 fl):=fun pins s σ H Q I h=>
 wpAny_Dict_empty ⟨.ref s.heap.objs.size,_,I.laid (a:=s.heap.objs.size) (o:=.dT fl []) (t':=s.toks) (fun _ _ q=>Xd _ q) (Xe _) (jcr s.heap I.big),rfl,h _ (I.hok.fresh (Xe _))⟩
end
structure M2 (X:Cx) (o:Expr) (m:Str) (apos:Pos) (e f:Expr) (cpos:Pos):Prop where
 base:attributeBase o m X.env (eval o X.env)=eval o X.env
 few:((backTo cpos (starEach [e,f] X.env)).all (fun x=>!x.1)&&(backToKw cpos (keywordEach [] X.env)).all (fun x=>x.1.isSome)
 &&decide (([e,f]:List Expr).length+([]:List Keyword).length+(if ([]:List Keyword).isEmpty then 0 else 1)<30))=true
 line:(apos.endLine==cpos.line)=true
 trees:backTo cpos (starEach [e,f] X.env)=[(false,eval e X.env),(false,eval f X.env)]
def IsD (H:Hp) (a:Addr):Prop:=(∃ kvs,Rd H a (.dK kvs)) \/ ∃ fl kvs,Rd H a (.dT fl kvs)
def jh8 (I:Inv X pins σ H s) (d:IsD H a) :
  s.TypeIs (.ref a) "dict"/\(∀ b,Value.ref a=.ref b->∃ ob,s.heap.get? b=some ob/\ob.dict=none)/\(a==sysModules)=false:=by
 rcases d with⟨kvs,e⟩ | ⟨fl,kvs,e⟩
 ·obtain⟨_,hd,vs,_,dd⟩:=je8 I.hok e;refine⟨dd.typeIs,fun b q=>?_,hd⟩;cases q;obtain⟨ob,_,_,h1,h2,_⟩:=dd;exact⟨ob,h1,h2.2.1⟩
 ·obtain⟨_,hd,xs,_,dd⟩:=je_ I.hok e;refine⟨dd.typeIs,fun b q=>?_,hd⟩;cases q;obtain⟨ob,_,_,h1,h2,_⟩:=dd;exact⟨ob,h1,h2.2.1⟩
section
variable {y d:V}{r:Value}{o:Option V} 
def jkO (hu:A.units+2<cLine) (I:Inv X pins σ H s) (g:DGet H a y o) (ry:RelV y u) (rd:RelV d r) (h:∀ w' s',Inv X pins σ H s'->RelV (o.getD d) w'->Q w' s') :
  wpAny (model X.prog X.w) A (call (.builtin "dict.get") [.ref a,u,r]) Q E s:=by
 rcases g with⟨kvs,k,e,ey,l⟩ | ⟨fl,kvs,k,b,e,ey,eb,l⟩
 ·subst ey;obtain⟨z,hd,vs,rel,dd⟩:=je8 I.hok e;refine call_meetsIn PySem.F.slot_dict_get dd.typeIs PySem.F.entry_dict_get (PySem.F.args_dict_get_3 _ _ _) (meets_dict_get_default (zD X.prog X.w) a (je7 ry) hd r) ⟨_,dd.mapOf,h _ _ (I.tok _) ?_⟩;rw[l];exact(rel.val k).getD rd
 ·subst ey;cases (show u=Value.ref b from ry);obtain⟨z,hd,xs,rel,dd⟩:=je_ I.hok e;refine call_meetsIn PySem.F.slot_dict_get dd.typeIs PySem.F.entry_dict_get (PySem.F.args_dict_get_3 _ _ _) (meetsH_dict_get_default (kdT fl X.prog X.w) a b hd r) ⟨Yd hu,k,xs,ZQ I.hok eb,dd,h _ _ (I.tok _) ?_⟩;rw[l];exact(rel.val k).getD rd
end
def jff (td ty tx:TE):TE:=fun σ H Q=>td σ H fun x H1=>∃ a,x=.ref a/\IsD H1 a/\ty σ H1 fun y H2=>tx σ H2 fun z H3=>∃ o,DGet H3 a y o/\Q (o.getD z) H3
section
variable {o f:Expr}{tx:TE}
def jg3 (hu:X.A.units+2<cLine) (ho:PE X o td) (he:PE X e ty) (hf:PE X f tx) (m:M2 X o "get" apos e f cpos):PE X (.Call (.Attribute o "get" apos) [e,f] [] cpos) (jff td ty tx):=by
 intro pins s σ H Q I h;refine wpAny_Call_method m.base m.few m.line PySem.F.plainAttrs_dict PySem.F.slot_dict_get PySem.F.type_dict_get (thn (ho pins s σ H _ I h) fun u s1 ⟨x,H1,I1,rx,a,ex,d,q1⟩=>?_);subst ex;obtain rfl:u=Value.ref a:=rx;obtain⟨t1,t2,_⟩:=jh8 I1 d;refine⟨t1,t2,?_⟩;rw[m.trees];refine Calls.callWith_builtin rfl (Calls.evalArgs_plain (Calls.spliced_cons (thn (he pins s1 σ H1 _ I1 q1) fun iv s2 ⟨y,H2,I2,ry,q2⟩=>
  Calls.spliced_cons (thn (hf pins s2 σ H2 _ I2 q2) fun fv s3 ⟨z,H3,I3,rz,ov,g,q3⟩=>Calls.spliced_nil ?_))))
 exact jkO hu I3 g ry rz fun w' s4 I4 rw'=>⟨_,H3,I4,rw',q3⟩
end
end L2
namespace L3
open PySem PySem.Spec L2
def hu1 {m:Nat} (h:n+200<m):n+2<m:=by omega
section
variable [DecidableEq κ]
def jkP (l:List (κ×α)) (k:κ) (v:α):List (κ×α):=
 bif l.any (fun p=>decide (p.1=k)) then l.map (fun p=>bif decide (p.1=k) then (p.1,v) else p) else l++[(k,v)]
def ZR (l:List (κ×α)) (k:κ):Option α:=(l.find? fun p=>decide (p.1=k)).map (·.2)
@[irreducible] def V7 (l:List (κ×α)) (k:κ):Option α:=ZR l k
@[irreducible] def ji8 (l:List (κ×α)) (k:κ) (v:α):Option (List (κ×α)):=if l.length<16777216 then some (jkP l k v) else none
end
class Kk (κ:Type) where
 k:κ->Key
 inj:∀ {a b},k a=k b->a=b
 cd:Cd κ
 rep:∀ {K F a v},cd.rep K F a v->v=kV (k a)
instance:Kk Int:=⟨fun i=>.inl i,fun h=>Sum.inl.inj h,cI,fun h=>h⟩
instance:Kk Str:=⟨fun i=>.inr i,fun h=>Sum.inr.inj h,cS,fun h=>h⟩
section
variable [DecidableEq κ] [Kk κ] {F:Hp}{t:TE}{p:Pm α}{rs:Rs γ} 
def KvR (K:W.Frag) (F:Hp) (c:Cd α) (p:κ×α) (q:Key×V):Prop:=q.1=Kk.k p.1/\c.rep K F p.2 q.2
def KvR.mono {F:Hp}{p:κ×α}{q:Key×V} (s:Same F F') (h:KvR K F c p q):KvR K F' c p q:=⟨h.1,c.mono s h.2⟩
def ji9 {a b:κ}:decide (Kk.k a=(Kk.k b:Key))=decide (a=b):=by
 by_cases h:a=b
 ·subst h; simp
 ·rw[Xk h,Xk fun e=>h (Kk.inj e)]
def jh9 {F:Hp}{k:κ}:∀ {l:List (κ×α)}{kvs:List (Key×V)},Paired (KvR K F c) l kvs->(ZR l k=none/\V6 kvs (Kk.k k)=none) \/ ∃ x v,ZR l k=some x/\V6 kvs (Kk.k k)=some v/\c.rep K F x v
 | _,_,.nil=>.inl ⟨rfl,rfl⟩
 | p::l,q::kvs,.cons ⟨r1,r2⟩ s=>by
  by_cases h:p.1=k
  ·right
   refine⟨p.2,q.2,?_,Q1 (by rw[r1,h]),r2⟩;unfold ZR;rw[X7,Xu h];rfl
  ·have e1:ZR (p::l) k=ZR l k:=by
    unfold ZR;rw[X7,Xk h]
   have e2:V6 (q::kvs) (Kk.k k)=V6 kvs (Kk.k k):=Q2 (by rw[r1]; exact fun e=>h (Kk.inj e));rw[e1,e2];exact jh9 s
def jh_ {F:Hp}{k:κ}:∀ {l:List (κ×α)}{kvs:List (Key×V)},Paired (KvR K F c) l kvs->(kvs.any fun kv=>decide (kv.1=Kk.k k))=l.any fun p=>decide (p.1=k)
 | _,_,.nil=>rfl
 | p::l,q::kvs,.cons ⟨r1,r2⟩ s=>by
  rw[List.any_cons,List.any_cons,jh_ s,r1,ji9]
def jia {F:Hp}{k:κ}{x:α} (r:c.rep K F x v):∀ {l:List (κ×α)}{kvs:List (Key×V)},Paired (KvR K F c) l kvs ->
  Paired (KvR K F c) (l.map fun p=>bif decide (p.1=k) then (p.1,x) else p) (kvs.map fun kv=>if kv.1=Kk.k k then (kv.1,v) else kv)
 | _,_,.nil=>.nil
 | p::l,q::kvs,.cons ⟨r1,r2⟩ s=>by
  rw[Xp,Xp];refine .cons ?_ (jia r s);by_cases h:p.1=k
  ·rw[Xu h,we,if_pos (by rw[r1,h])];exact⟨r1,r⟩
  ·rw[Xk h,X9,if_neg (by rw[r1]; exact fun e=>h (Kk.inj e))];exact⟨r1,r2⟩
def jkQ {F:Hp}{k:κ}{x:α}{l:List (κ×α)}{kvs:List (Key×V)} (r:c.rep K F x v) (s:Paired (KvR K F c) l kvs):Paired (KvR K F c) (jkP l k x) (jaw kvs (Kk.k k) v):=by
 unfold jkP jaw;rw[jh_ s];cases l.any fun p=>decide (p.1=k) with
 | true=>rw[we,if_pos rfl]; exact jia r s
 | false=>rw[X9,if_neg (by decide)]; exact Paired.app s (.cons ⟨rfl,r⟩ .nil)
def pD (c:Cd α):Pm (List (κ×α)):=⟨fun K F H l v=>∃ a kvs,v=.ref a/\H a=some (.dK kvs)/\Paired (KvR K F c) l kvs,
 fun e ⟨a,xs,h1,h2,h3⟩=>⟨a,xs,h1,e.h _ _ h2,Paired.mapP h3 fun _ _=>KvR.mono e.f⟩⟩
def rD (c:Cd α):Rs (List (κ×α)):=⟨fun K H F2 H2 l v=>∃ a kvs,v=.ref a/\H a=none/\F2 a=none/\H2 a=some (.dK kvs)/\Paired (KvR K F2 c) l kvs,
 fun s ⟨a,xs,h1,h2,h⟩=>⟨a,xs,h1,s.free h2,h⟩⟩
structure OwnD (K:W.Frag) (He F H:Hp) (c:Cd α) (l:List (κ×α)) (a:Addr):Prop where
 e:He a=none
 f:F a=none
 h:∃ kvs,H a=some (.dK kvs)/\Paired (KvR K F c) l kvs
def OwnD.mono {l:List (κ×α)} (o:OwnD K He F H c l a) (E:Ext F H F' H'):OwnD K He F' H' c l a:=by
 obtain⟨xs,h1,h2⟩:=o.h;refine⟨o.e,?_,xs,E.h _ _ h1,Paired.mapP h2 fun _ _=>KvR.mono E.f⟩;cases e:F' a with
 | none=>rfl
 | some u=>
  rcases E.new a u e with z | z
  ·rw[o.f] at z; cases z
  ·rw[h1] at z; cases z
def OwnD.b {l:List (κ×α)} (o:OwnD K He F H c l a):(pD c).rel K F H l (.ref a):=let ⟨xs,h1,h2⟩:=o.h; ⟨a,xs,rfl,h1,h2⟩
def OwnD.chg {l:List (κ×α)}{b:Addr} (o:OwnD K He F H c l b) (C:Chg a F H F' H') (hne:b≠a):OwnD K He F' H' c l b:=by
 obtain⟨xs,h1,h2⟩:=o.h;refine⟨o.e,?_,xs,C.h _ _ hne h1,Paired.mapP h2 fun _ _=>KvR.mono C.f⟩;cases e:F' b with
 | none=>rfl
 | some u=>
  rcases C.new b u hne e with z | z
  ·rw[o.f] at z; cases z
  ·rw[h1] at z; cases z
def OwnD.ne {l:List (κ×α)}{b:Addr}{F0 H0:Hp} (o:OwnD K He F0 H0 c l b) (h:H0 a=none):b≠a:=by
 obtain⟨xs,h1,_⟩:=o.h;exact yl h1 h
def ji_:Ev K σ F H jh6 (rD (κ:=κ) c) (some []):=by
 intro F1 H1 E z e Q k a ha;cases e;exact k _ F1 _ (Ext.newO E.sub ha) ⟨a,[],rfl,ha,E.sub.free ha,j0,.nil⟩
def Q3 {mm_:Option α} (hd:Ev K σ F H td (pD c).rs ml) (hk:Ev K σ F H ty (rF Kk.cd) mk) (e_:mm_=(ml.bind fun l=>mk.bind fun k=>V7 l k)):Ev K σ F H (jfd td ty) (rF c) mm_:=by
 subst e_;intro F1 H1 E z e Q k;obtain⟨l,el,e⟩:=bind_some e;obtain⟨y,ey,e⟩:=bind_some e;unfold V7 at e;refine hd F1 H1 E l el _ ?_;rintro w F2 H2 E2 hl;refine hk F2 H2 (E.trans E2) y ey _ fun v F3 H3 E3 hv=>?_;obtain⟨a,kvs,rfl,h1,h2⟩:=(pD c).mono E3 hl;have ev:v=kV (Kk.k y):=Kk.rep hv;subst ev;rcases jh9 (k:=y) h2 with⟨g1,g2⟩ | ⟨x,v,g1,g2,r⟩
 ·rw[g1] at e; cases e
 ·rw[g1] at e;cases e;refine⟨a,v,rfl,?_,k v F3 H3 (E2.trans E3) r⟩;rw[<- g2];exact DGet.k h1
def Vu {y:κ}{l:List (κ×α)}{mm_:Option α} (hd:Ev K σ F H td (pD c).rs (some l)) (hk:Ev K σ F H ty (rF Kk.cd) (some y)) (e_:mm_=V7 l y):Ev K σ F H (jfd td ty) (rF c) mm_:=Q3 hd hk e_
def jja {m:Option (List (κ×α))}{f:List (κ×α)->Option δ}{r:δ} (he:Ev K σ F H te (rD c) m) (X:Ext Fe He F H) (hm:m.bind f=some r) (k:∀ l a F' H',f l=some r->Ext F H F' H'->Ext Fe He F' H'->H a=none->OwnD K He F' H' c l a->D.nx (σ.set i (some (.ref a))) H'):U9 te (k9 i) D σ H:=by
 obtain⟨a,ea,hm⟩:=bind_some hm;refine he F H (Ext.refl X.sub) a ea _ ?_;rintro v F2 H2 E ⟨b,xs,rfl,h1,h2,h3,h4⟩;exact k a b F2 H2 hm E (X.trans E) h1 ⟨X.h.free h1,h2,xs,h3,h4⟩
def jib {m:Option (List (κ×α))}{f:List (κ×α)->Option δ}{r:δ} (he:Ev K σ F H te (rD c) m) (X:Ext Fe He F H) (hm:m.bind f=some r) (k:∀ l a F' H',f l=some r->Ext F H F' H'->Ext Fe He F' H'->H a=none->OwnD K He F' H' c l a->u' D (σ.set i (some (.ref a))) H'):QT (U9 te (k9 i)) u' D σ H:=
 jja (D:={ D with nx:=u' D }) he X hm k
def jg4 {l:List (κ×α)}{xs:List (Key×V)} (X:Ext Fe He F H) (he:He a=none) (hf:F a=none) (h:Paired (KvR K F c) l xs):Ext Fe He F (upd H a (.dK xs))/\OwnD K He F (upd H a (.dK xs)) c l a:=
 ⟨X.upd he hf,he,hf,xs,j0,h⟩
def jjb {l:List (κ×α)}{f:List (κ×α)->Option δ}{r:δ} (hi:σ[k']?=some (some (.ref a))) (o:OwnD K He F H c l a) (hv:Ev K σ F H tv (rF c) mv) (hk:Ev K σ F H ty (rF Kk.cd) mk) (X:Ext Fe He F H) (hm:(mv.bind fun v=>mk.bind fun k=>ji8 l k v).bind f=some r)
  (k:∀ l' F' H',f l'=some r->Chg a F H F' H'->Ext Fe He F' H'->OwnD K He F' H' c l' a->D.nx σ H'):ji7 (Jo k') ty tv D σ H:=by
 obtain⟨l',el,hm⟩:=bind_some hm;obtain⟨x,ex,el⟩:=bind_some el;obtain⟨y,ey,el⟩:=bind_some el;unfold ji8 at el;obtain⟨hl,rfl⟩:=jS el;refine hv F H (Ext.refl X.sub) x ex _ fun v F2 H2 E hvv=>⟨_,hi,hk F2 H2 E y ey _ fun w F3 H3 E3 hw=>?_⟩;have ew:w=kV (Kk.k y):=Kk.rep hw;subst ew;have E':=E.trans E3;have o2:=o.mono E';obtain⟨kvs,h1,h2⟩:=o2.h;obtain⟨X',o'⟩:=jg4 (K:=K) (c:=c) (X.trans E') o.e o2.f (jkQ (k:=y) (c.mono E3.f hvv) h2);exact⟨a,_,rfl,DPut.k h1 (by rw[Xy,<- h2.length]; exact hl),k _ F3 _ hm (Uk E') X' o'⟩
end
end L3
namespace L2
open PySem PySem.Spec PyProof.Rows
section
def ja9 (K:W.Frag):V->List V->Hp->VK->Prop:=fun x vs H Q=>∃ (α:Type) (c:Cod α) (a:α) (l:List α) (p:Addr) (xs:List V) (y:V) (j:Nat),c.dp<=100/\x=.ref p/\vs=[y]/\c.rep K H a y/\H p=some (.lst xs)/\Paired (c.rep K H) l xs /\
 l[j]?=some a/\(∀ i b,i<j->l[i]?=some b->b≠a)/\Q (.int j) H
open Classical in
def jfg (hu:X.A.units+200<cLine):MtM X "list.index" (ja9 X.K):=by
 intro pins s σ H x vs v us Q I rx rv h;obtain⟨α,c,a,l,p,xs,y,j,hn,rfl,rfl,ra,hH,pr,hj,hb,q⟩:=h;cases rx;obtain⟨u,rfl,ru⟩:=rv.one;obtain⟨z,its,n,r,hl,e⟩:=I.lstM hH;have hz:=Xy;have hp:=pr.length;have hx:=r.length;have hjn:j<l.length:=(List.getElem?_eq_some_iff.mp hj).1;have at_:∀ i (hi:i<its.length),∃ b z,l[i]?=some b/\c.rep X.K H b z/\RelV z its[i]:=fun i hi=>by
  have h1:i<l.length:=by omega
  obtain⟨z,ez,rz⟩:=L3.Paired.at pr (Xc h1);obtain⟨w,ew,rw_⟩:=r.get ez;rw[Xc hi] at ew;cases ew;exact⟨l[i],z,Xc h1,rz,rw_⟩
 have hk:=(jaE (X:=X) (l:=l) (us:=its) (k:=decide (a∈l)) hu I hn ra ru pr r (by simp)).1;refine call_meets F.slot_list_index ⟨_,e,rfl⟩ F.entry_list_index (F.args_list_index_2 _ _)
  (SeqAt.list_indexAt p its.toArray n none #[] u (fun w=>decide (∃ z,RelV z w/\c.rep X.K H a z)) j (by rw[Xg]; omega) (by omega) ?_ (fun i hi hlt=>?_)) ⟨e,hk,⟨.int j,H,I.tok _,⟨_,rfl⟩,q⟩⟩
 ·obtain⟨b,z,eb,rb,rz⟩:=at_ j (by omega);rw[hj] at eb;cases eb;simp only[List.getElem_toArray,Xv];exact⟨z,rz,rb⟩
 ·have hi':i<its.length:=by simpa using hi
  obtain⟨b,z,eb,rb,rz⟩:=at_ i hi';simp only[List.getElem_toArray,decide_eq_false_iff_not];rintro⟨z',rz',rb'⟩;have:z'=z:=rz'.inj rz;subst this;exact hb i b hlt eb (c.inj I rb rb')
end
end L2
namespace L3
open PySem PySem.Spec L2
section
variable {F:Hp}{t:TE} 
@[irreducible] def ja_ [DecidableEq α] (l:List α) (k:α):Option Int:=(l.findIdx? fun x=>decide (x=k)).map fun j=>((j:Nat):Int)
def jdj [DecidableEq α] {k:α} (h:ja_ l k=some z):∃ j:Nat,z=(j:Int)/\l[j]?=some k/\∀ i a,i<j->l[i]?=some a->a≠k:=by
 unfold ja_ at h;cases e:l.findIdx? (fun x=>decide (x=k)) with
 | none=>rw[e] at h; cases h
 | some j=>
  rw[e] at h;cases h;obtain⟨hj,h1,h2⟩:=List.findIdx?_eq_some_iff_getElem.mp e;refine⟨j,rfl,?_,fun i a hi ha=>?_⟩
  ·rw[Xc hj];exact congrArg some (of_decide_eq_true h1)
  ·obtain⟨hi',rfl⟩:=List.getElem?_eq_some_iff.mp ha;have:=h2 i hi;simpa using this
def jba [DecidableEq α] {mm_:Option Int}{mk:Option α} (hc:EqC n c) (hn:n<=100) (h:Ev K σ F H t (pB c).rs m) (hk:Ev K σ F H ta (rF c) mk) (e':mm_=(m.bind fun l=>mk.bind fun k=>ja_ l k)):Ev K σ F H (tBM K "list" (ja9 K) t (jH ta xh)) (rF cI) mm_:=by
 subst e';intro F1 H1 E z e Q k;obtain⟨l,el,e⟩:=bind_some e;obtain⟨y,ey,e⟩:=bind_some e;obtain⟨x,rfl,hx,hb⟩:=jdj e;refine h F1 H1 E l el _ ?_;rintro v F2 H2 E2 ⟨a,xs,rfl,h1,h2⟩;refine⟨.inl ⟨rfl,_,SqL.of h1⟩,hk F2 H2 (E.trans E2) y ey _ fun w F3 H3 E3 hw=>?_⟩;have s3:Same F3 H3:=E3.sub;exact⟨α,c.cod hc,y,l,a,xs,w,x,hn,rfl,rfl,c.mono s3 hw,E3.h _ _ h1,Paired.mapP h2 fun _ _ hh=>c.mono (E3.f.trans s3) hh,hx,hb,k _ F3 H3 (E2.trans E3) rfl⟩
def Ye [DecidableEq α] {mm_:Option Int}{y:α} (hc:EqC n c) (hn:n<=100) (h:Ev K σ F H t (pB c).rs (some l)) (hk:Ev K σ F H ta (rF c) (some y)) (e':mm_=ja_ l y):Ev K σ F H (tBM K "list" (ja9 K) t (jH ta xh)) (rF cI) mm_:=jba hc hn h hk e'
end
section
@[irreducible] def jkR (l:List α) (k:Int):Option (List α):=if (-(2 ^ 63)<=k/\k<2 ^ 63)/\l.length * k.toNat<=16777216 then some (List.replicate k.toNat l).flatten else none
def Paired.rep {xs:List β} (h:Paired R l xs):∀ k:Nat,Paired R (List.replicate k l).flatten (List.replicate k xs).flatten
 | 0=>.nil
 | k+1=>by
  rw[List.replicate_succ,List.replicate_succ,List.flatten_cons,List.flatten_cons];exact Paired.app h (Paired.rep h k)
def jjc:Op2 K jmJ (pB c) (pF cI) (rO c) jkR:=by
 intro F H l m x y s hx hy z hz Q k;obtain⟨a,xs,rfl,h1,h2⟩:=hx;have ey:y=.int m:=hy;subst ey;unfold jkR at hz;obtain⟨⟨hc,hl⟩,rfl⟩:=jS hz;rw[h2.length] at hl;exact⟨a,m,xs,rfl,rfl,h1,hc.1,hc.2,by rw[Xy]; exact hl,fun p hp=>yz s (Paired.rep h2 _) k p hp⟩
end
end L3
namespace L2
open PySem PySem.Spec PyProof.Rows
structure FunD (K:W.Frag) (x qual:Str) (st:Stmt) (f:Addr) (fd:FuncData):Prop where
 ex:∃ (oc:Value) (od:Option Addr) (dV kV doc pm:Value) (an:Option Addr) (cdv ct:Value) (osl:Array (Option Value)),
  fd=W.fnOf x qual (yg st) (qX st) (jD st) dV kV doc pm an cdv ct/\K.lookup f=some ⟨oc,od,.func fd,osl⟩/\W.codeIn K cdv qual=true
 kp:W.keepIn K (.ref f)=true
section
def FunD.ok {f:Addr}{k:Nat} (F:FunD K x qual st f fd) (S:FnScope N ps (jD st)) (len:∀ vs H Q E,sp vs H Q E->vs.length=ps.length)
  (hbody:∀ (cdv:Value) (A:Around) (outer:List Env) (s:Shared) (H:Hp) (vs:List V) (Q:VK) (E:XK),Room k (A.deeper (envOfC qual (jD st) s.heap.objs.size f cdv))->sp vs H Q E ->
   ∃ t,PSs (jd7 CX0 P w K mg base N qual (jD st) f cdv A outer s H E).nox (qX st) t/\t { nx:=fun _ H'=>Q .non H',rt:=Q } (GG N vs) H):FnOk P w K mg base CX0 (k+1) f fd ps sp:=by
 obtain⟨oc,od,dV,kV,doc,pm,an,cdv,ct,osl,rfl,lk,hcd⟩:=F.ex;refine jkd lk hcd S len fun A outer s H vs Q E hr hsp=>?_;obtain⟨t,h,q⟩:=hbody cdv A outer s H vs Q E hr hsp;exact⟨t,h.nox,q⟩
def jjd {f:Addr}{dV kV ct:Value} (l:K.lookup f=some ⟨oc,od,.func (W.fnOf x qual (yg st) (qX st) (jD st) dV kV doc pm an cdv ct),osl⟩)
  (c:W.codeIn K cdv qual=true) (k:W.keepIn K (.ref f)=true):FunD K x qual st f (W.fnOf x qual (yg st) (qX st) (jD st) dV kV doc pm an cdv ct):=⟨⟨oc,od,dV,kV,doc,pm,an,cdv,ct,osl,rfl,l,c⟩,k⟩
def jje {T:Addr} (hd:fd.defaults=.ref T) (lT:K.lookup T=some o) (hs:o.data=.seq items n)
  (h:∀ us:List Value,us.length=ps.length->∃ k:Option (Array Value)->Sem (List (Str×Value)),bindArgs fd ⟨us,[]⟩=seqItems? fd.defaults >>= k/\k (some items)=pure (ps.zip us)):Binds K fd ps []:=fun s us KX hl=>by
 rw[List.append_nil] at hl ⊢;obtain⟨k,h1,h2⟩:=h us hl;exact .of_defaults hd (KX _ _ lT) hs h1 h2
end
def Itv (K:W.Frag) (a:Addr) (n:Nat):It:=
 ⟨fun i H=>∃ xs x,SqL K H a xs/\xs.length=n/\i<n/\xs[n-1-i]?=some x,fun i H x H'=>H'=H/\∀ xs,SqL K H a xs->xs[n-1-i]?=some x,fun i H=>n=i⟩
def jg5 (a it:Addr) (n:Nat):Turn P w K tg (Itv K a n) [it] it (fun i h=>h.IsRevIter it a ((n:Int)-1-(i:Nat))) where
 mem:=by simp
 obj:=fun i h st b hb=>by
  have e:b=it:=by simpa using hb
  subst e;obtain⟨o,e,c,d⟩:=st;exact⟨o,e,fun v z=>by rw[d] at z; cases z⟩
 keep:=fun i h h' st k=>st.at fun o e=>k it (by simp) o e
 item:=by
  intro X hP hw hK hc i pins s σ H E I hf st hg;subst hP hw hK;obtain⟨xs,x,hq,hn,hi,hx⟩:=hg;obtain⟨its,rv,p,hz⟩:=I.list hq;obtain⟨u,hu,ru⟩:=rv.get hx;obtain⟨f0,f1,f2,f3,f4,f5⟩:=hf it (by simp);have e1:(n:Int)-1-(i:Nat)=((n-1-i:Nat):Int):=by omega
  rw[e1] at st;refine wpAny_pyNext_rev_item st p.isList (x:=u) (by simpa using hu) fun h' st' sb=>?_;have I1:Inv X pins σ H { s with heap:=h' }:=I.turned (t':=s.toks) (fun b o hb e=>(sb.2 b hb).trans e) f0 f1 f3 f4 f5
  have e2:((n-1-i:Nat):Int)-1=(n:Int)-1-((i+1:Nat):Int):=by omega
  rw[e2] at st';obtain⟨o,e,c,d⟩:=id st';exact⟨u,rfl,Zl (s:={ s with heap:=h' }) e c d (by decide) ⟨x,H,I1,ru,⟨rfl,fun ys hy=>by rw[I.list_inj hy hq]; exact hx⟩,st',fun b hb=>(hf b hb).1⟩⟩
 done:=by
  intro X hP hw hK hc i pins s σ H E I hf st hg;subst hP hw hK;have hg:n=i:=hg;obtain⟨f0,f1,f2,f3,f4,f5⟩:=hf it (by simp);have e1:(n:Int)-1-(i:Nat)=-1:=by omega
  rw[e1] at st;exact wpAny_pyNext_rev_end (I.ok.hd hc) st fun h' eb=>⟨rfl,I.turned (t':=s.toks) (fun b o hb e=>eb b o hb e) f0 f1 f3 f4 f5⟩
 self:=fun _ _ _ _ _ st h=>wpAny_pyIter_revIter st h
section
def jlZ (K:W.Frag) (tl:TE):TI:=fun σ H R=>tl σ H fun x H1=>∃ a xs,x=.ref a/\SqL K H1 a xs/\R (Itv K a xs.length) H1
def jkS {a:Expr}{p:Pos} (hg:Gl X "reversed") (hm:X.mg "reversed"=none) (ha:PE X a te) (hs:starEach [a] X.env=[(false,eval a X.env)]:=by rfl):PI X tg (.Call (.Name "reversed" p) [a] [] pos) (jlZ X.K te):=by
 intro pins s σ H R I h;refine Call_ (Jr I hg hm boot_reversed (XA ?_ hs rfl));rw[hs];show wpAny _ _ (spliced ((false,eval a X.env)::[])) _ _ s;refine Calls.spliced_cons (thn (ha pins s σ H _ I h) fun u s1 ⟨v,H1,I1,r1,q1⟩=>Calls.spliced_nil ?_);obtain⟨l,xs,rfl,hq,q⟩:=q1;cases r1;obtain⟨its,rv,pl,hz⟩:=I1.list hq;have hlen:=rv.length;refine call_reversed_list pl.isList ?_;have hit:(s1.heap.push (revObj l ((its.toArray.size:Int)-1))).IsRevIter s1.heap.objs.size l ((its.toArray.size:Int)-1):=⟨_,Xi _ rfl,rfl,rfl⟩;refine wpAny_pyIter_revIter (s:={ s1 with heap:=s1.heap.push (revObj l ((its.toArray.size:Int)-1)) }) hit ?_
 refine⟨s1.heap.objs.size,[s1.heap.objs.size],_,_,H1,rfl,I1.kept (t':=s1.toks) fun b o e=>Xd _ e,jg5 l _ xs.length,?_,fun b hb=>?_,q⟩
 ·have e:((its.toArray.size:Nat):Int)-1=(xs.length:Int)-1-((0:Nat):Int):=by rw[Xg,hlen]; omega
  rw[e] at hit;rw[e];exact hit
 ·have e:b=s1.heap.objs.size:=by simpa using hb
  subst e;exact I1.fpOk (Xe _) (I1.hok.fresh (Xe _))
end
end L2
namespace L3
open PySem PySem.Spec L2
section
variable {F:Hp}{t:TE} 
def jkT (h:∀ F H,G F H->SqL K H a xs/\Same F1 F/\Same F H) (hp:Paired (c.rep K F1) l xs):ItOk K (Itv K a xs.length) c l.reverse G where
 go:=fun i F H g hi=>by
  rw[List.length_reverse,hp.length] at hi;exact⟨xs,xs[xs.length-1-i]'(by omega),(h F H g).1,rfl,hi,Xc _⟩
 yld:=fun i F H x H' g y b hb=>by
  obtain⟨e,y⟩:=y;subst e;obtain⟨s1,s2,s3⟩:=h F _ g;have hi:i<l.length:=by
   have:=(List.getElem?_eq_some_iff.mp hb).1;simpa using this
  rw[List.getElem?_reverse hi] at hb;obtain⟨v,hv,r⟩:=Paired.at hp hb;have:=y xs s1;rw[<- hp.length,hv] at this;cases this;exact⟨F,Ext.refl s3,c.mono s2 r⟩
 stop:=fun F H g=>by rw[List.length_reverse]; exact hp.length.symm
def jkU (h:Ev K σ F H t (rF (cL c)) m):Ei K σ F H Fe He (jlZ K t) c (m.bind fun l=>some l.reverse):=by
 intro X l e R k;obtain⟨l0,e0,e⟩:=bind_some e;cases e;refine h F H (Ext.refl X.sub) l0 e0 _ ?_;rintro v F2 H2 E ⟨a,xs,rfl,h1,h2⟩;exact⟨a,xs,rfl,SqL.of (E.sub _ _ h1),k _ F2 H2 E (jkT (F1:=F2) (fun F' H' g=>⟨SqL.of (g.1.sub _ _ (g.2 _ _ h1)),g.2,g.1.sub⟩) h2)⟩
def jg6 (h:Ev K σ F H t (rF (cL c)) m) (e_:mm_=m.bind fun l=>some l.reverse):Ei K σ F H Fe He (jlZ K t) c mm_:=e_ ▸ jkU h
end
end L3
namespace L2
open PySem PySem.Spec PyProof.Rows PySem.W
section
variable {cmp:Nat->Nat->(Bool->Shared->Prop)->Shared->Prop} 
def ZS (cmp:Nat->Nat->(Bool->Shared->Prop)->Shared->Prop) (key:Nat->Int) (n:Nat) (s:Shared):Prop:=∀ i j (C:Bool->Shared->Prop),i<n->j<n->C (decide (key i<key j)) s->cmp i j C s
def KP (key:Nat->Int) (p:Array Nat) (i:Nat):Int:=key (p.getD i 0)
def Upw (key:Nat->Int) (p:Array Nat) (m:Nat):Prop:=∀ i j,i<=j->j<m->KP key p i<=KP key p j
def Dnw (key:Nat->Int) (p:Array Nat) (m:Nat):Prop:=∀ i j,i<=j->j<m->KP key p j<=KP key p i
def PmN (n:Nat) (p:Array Nat):Prop:=p.Perm (List.range n).toArray
def PmN.size (h:PmN n p):p.size=n:=by
 have:=Array.Perm.size_eq h;simpa using this
def PmN.lt (h:PmN n p) (hi:i<n):p.getD i 0<n:=by
 have hs:=h.size;have hi':i<p.size:=by omega
 have hm:p[i]∈(List.range n):=by
  have h':p.toList.Perm (List.range n):=by simpa using Array.perm_iff_toList_perm.mp h
  exact h'.mem_iff.mp (by simp)
 have e:p.getD i 0=p[i]:=by simp[Array.getD,hi']
 rw[e];exact List.mem_range.mp hm
def GL {q:Array Nat}{j:Nat} (h:p[i]?=q[j]?):p.getD i 0=q.getD j 0:=by
 rw[Array.getD_eq_getD_getElem?,Array.getD_eq_getD_getElem?,h]
def PmN.rev (h:PmN n p) (i j:Nat):PmN n (kas_rev p i j):=(mirror_perm p i j _).trans h
def PmN.bub (h:PmN n p) (i j:Nat):PmN n (bubble p i j):=(bubble_perm p i j).trans h
def ZT {j:Nat} (hj:j<=p.size) (k:Nat):KP key (kas_rev p i j) k=if i<=k/\k<j then KP key p (i+j-1-k) else KP key p k:=by
 have e:=getElem?_mirror_all (i:=i) hj k;unfold KP kas_rev;split at e <;> rename_i q
 ·rw[if_pos q,GL e]
 ·rw[if_neg q,GL e]
def jic {k l:Nat} (hk:k<p.size) (hl:l<=k) (i:Nat):KP key (bubble p k (k-l)) i=if i=l then KP key p k else if l<i/\i<=k then KP key p (i-1) else KP key p i:=by
 have e:=getElem?_bubble hk (k-l) (by omega) i;rw[show k-(k-l)=l by omega] at e;unfold KP;split at e <;> rename_i q
 ·rw[if_pos q,GL e]
 ·split at e <;> rename_i q2
  ·rw[if_neg q,if_pos q2,GL e]
  ·rw[if_neg q,if_neg q2,GL e]
def jfh (ha:ZS cmp key n s) (hp:PmN n p) {Q:Nat->Shared->Prop}:∀ f a,1<=a->a+f<=n->Upw key p a ->
  (∀ m,a<=m->m<=a+f->Upw key p m->(m<a+f->KP key p m<KP key p (m-1))->Q m s)->(kas_asc p f a).kasWp cmp Q s
 | 0,a,h1,h2,hu,hq=>hq a (Xe _) (by omega) hu (fun h=>by omega)
 | f+1,a,h1,h2,hu,hq=>by
  refine ha _ _ _ (hp.lt (by omega)) (hp.lt (by omega)) ?_;by_cases h:key (p.getD a 0)<key (p.getD (a-1) 0)
  ·rw[Xu h]; dsimp only; rw[if_pos rfl];exact hq a (Xe _) (by omega) hu fun _=>h
  ·rw[Xk h]; dsimp only; rw[if_neg Xh];refine jfh ha hp f (a+1) (by omega) (by omega) (fun i j hij hj=>?_) fun m g1 g2 g3 g4=>hq m (by omega) (by omega) g3 (fun z=>g4 (by omega));by_cases hja:j=a
   ·subst hja;have h':KP key p (j-1)<=KP key p j:=by unfold KP; omega
    by_cases hi:i=j
    ·subst hi; exact Int.le_refl _
    ·exact Int.le_trans (hu i (j-1) (by omega) (by omega)) h'
   ·exact hu i j hij (by omega)
def EqL (key:Nat->Int) (p:Array Nat) (a q:Nat):Prop:=∀ k,a-(q+1)<=k->k<a->KP key p k=KP key p (a-1)
def jfi {a q:Nat} (ha:a<=p.size) (hq:q+1<=a) (h:EqL key p a q) (k:Nat):KP key (kas_rev p (a-(q+1)) a) k=KP key p k:=by
 rw[ZT ha];split
 ·rename_i z
  rw[h k (by omega) (by omega),h _ (by omega) (by omega)]
 ·rfl
def jbb (hA:ZS cmp key n s) {Q:Array Nat×Nat×Nat->Shared->Prop}:∀ f (p:Array Nat) a q,PmN n p->1<=a->a+f<=n->q+1<=a->Dnw key p a->EqL key p a q ->
  (∀ p' a' q',PmN n p'->a<=a'->a'<=a+f->q'+1<=a'->Dnw key p' a'->EqL key p' a' q'->Q (p',a',q') s)->(kas_desc f p a q).kasWp cmp Q s
 | 0,p,a,q,hp,h1,h2,h3,hd,he,hq=>hq p a q hp (Xe _) (by omega) h3 hd he
 | f+1,p,a,q,hp,h1,h2,h3,hd,he,hq=>by
  have hsz:=hp.size;have step:∀ p',PmN n p'->(∀ k,KP key p' k=KP key p k)->KP key p a<KP key p (a-1)->(kas_desc f p' (a+1) 0).kasWp cmp Q s:=by
   intro p' hp' hk hlt;refine jbb hA f p' (a+1) 0 hp' (by omega) (by omega) (by omega) (fun i j hij hj=>?_) (fun k k1 k2=>by rw[show k=a by omega]; rfl) fun p2 a2 q2 g1 g2 g3 g4 g5 g6=>hq p2 a2 q2 g1 (by omega) (by omega) g4 g5 g6;rw[hk,hk];by_cases hja:j=a
   ·subst hja;by_cases hi:i=j
    ·subst hi; exact Int.le_refl _
    ·exact Int.le_trans (Int.le_of_lt hlt) (hd i (j-1) (by omega) (by omega))
   ·exact hd i j hij (by omega)
  refine hA _ _ _ (hp.lt (by omega)) (hp.lt (by omega)) ?_;by_cases h:key (p.getD a 0)<key (p.getD (a-1) 0)
  ·rw[Xu h]; dsimp only; rw[if_pos rfl];split
   ·exact step _ (hp.rev _ _) (jfi (by omega) h3 he) h
   ·exact step p hp (fun _=>rfl) h
  ·rw[Xk h]; dsimp only; rw[if_neg Xh];refine hA _ _ _ (hp.lt (by omega)) (hp.lt (by omega)) ?_;by_cases h':key (p.getD (a-1) 0)<key (p.getD a 0)
   ·rw[Xu h']; dsimp only; rw[if_pos rfl];exact hq p a q hp (Xe _) (by omega) h3 hd he
   ·rw[Xk h']; dsimp only; rw[if_neg Xh];have heq:KP key p a=KP key p (a-1):=by unfold KP; omega
    refine jbb hA f p (a+1) (q+1) hp (by omega) (by omega) (by omega) (fun i j hij hj=>?_) (fun k k1 k2=>?_) fun p2 a2 q2 g1 g2 g3 g4 g5 g6=>hq p2 a2 q2 g1 (by omega) (by omega) g4 g5 g6
    ·by_cases hja:j=a
     ·subst hja;by_cases hi:i=j
      ·subst hi; exact Int.le_refl _
      ·rw[heq]; exact hd i (j-1) (by omega) (by omega)
     ·exact hd i j hij (by omega)
    ·rw[Nat.add_sub_cancel];by_cases hka:k=a
     ·rw[hka]
     ·rw[heq]; exact he k (by omega) (by omega)
def jcs (hA:ZS cmp key n s) {a:Nat} (hp:PmN n p) (h1:1<=a) (h2:a<=n) (hd:Dnw key p a) {Q:Nat×Array Nat->Shared->Prop}
  (hq:∀ m p',PmN n p'->a<=m->m<=n->Upw key p' m->Q (m,p') s):(kas_tail3 a n p).kasWp cmp Q s:=by
 have hsz:=hp.size;unfold kas_tail3;rw[KasT.kasWp_bind];refine jfh hA (hp.rev 0 a) _ a h1 (by omega) (fun i j hij hj=>?_) fun m g1 g2 g3 _=>hq m _ (hp.rev 0 a) g1 (by omega) g3;rw[ZT (by omega),ZT (by omega),if_pos (by omega),if_pos (by omega)];exact hd _ _ (by omega) (by omega)
def Vv (hA:ZS cmp key n s) {a:Nat} (hp:PmN n p) (h1:1<=a) (h2:a+1<=n) (hd:Dnw key p (a+1)) {Q:Nat×Array Nat->Shared->Prop}
  (hq:∀ m p',PmN n p'->1<=m->m<=n->Upw key p' m->Q (m,p') s):(kas_descPart a n p).kasWp cmp Q s:=by
 unfold kas_descPart;rw[KasT.kasWp_bind];refine jbb hA _ p (a+1) 0 hp (by omega) (by omega) (by omega) hd (fun k k1 k2=>by rw[show k=a by omega]; rfl) fun p' a' q' g1 g2 g3 g4 g5 g6=>?_;have hsz:=g1.size;dsimp only;split
 ·refine jcs hA (g1.rev _ _) (by omega) (by omega) (fun i j hij hj=>?_) fun m p2 k1 k2 k3 k4=>hq m p2 k1 (by omega) k3 k4;rw[jfi (by omega) g4 g6,jfi (by omega) g4 g6];exact g5 i j hij hj
 ·exact jcs hA g1 (by omega) (by omega) g5 fun m p2 k1 k2 k3 k4=>hq m p2 k1 (by omega) k3 k4
def jg7 (hA:ZS cmp key n s) (hp:PmN n p) (h1:1<=n) {Q:Nat×Array Nat->Shared->Prop}
  (hq:∀ m p',PmN n p'->1<=m->m<=n->Upw key p' m->Q (m,p') s):(kas_count n p).kasWp cmp Q s:=by
 have hsz:=hp.size;unfold kas_count;rw[KasT.kasWp_bind];refine jfh hA hp _ 1 (Xe _) (by omega) (fun i j hij hj=>by rw[show i=j by omega]; exact Int.le_refl _) fun m g1 g2 g3 g4=>?_
 (try dsimp only)
 split
 ·exact hq m p hp g1 (by omega) g3
 ·rename_i hne
  have hmn:m≠n:=fun e=>hne (by simp[e]);have hlt:=g4 (by omega);split
  ·refine hA _ _ _ (hp.lt (by omega)) (hp.lt (by omega)) ?_;by_cases h:key (p.getD 0 0)<key (p.getD (m-1) 0)
   ·rw[Xu h]; dsimp only; rw[if_pos rfl];exact hq m p hp g1 (by omega) g3
   ·rw[Xk h]; dsimp only; rw[if_neg Xh];have h0:KP key p (m-1)<=KP key p 0:=by unfold KP; omega
    have all:∀ k,k<m->KP key p k=KP key p (m-1):=fun k hk=>by
     have a1:=g3 0 k (by omega) hk;have a2:=g3 k (m-1) (by omega) (by omega);omega
    have all2:∀ k,k<m->KP key (kas_rev p 0 m) k=KP key p (m-1):=fun k hk=>by
     rw[ZT (by omega),if_pos (by omega)];exact all _ (by omega)
    refine Vv hA (hp.rev 0 m) g1 (by omega) (fun i j hij hj=>?_) hq;by_cases hjm:j=m
    ·subst hjm;have ej:KP key (kas_rev p 0 j) j=KP key p j:=by rw[ZT (by omega),if_neg (by omega)]
     by_cases hi:i=j
     ·subst hi; exact Int.le_refl _
     ·rw[ej,all2 i (by omega)]; omega
    ·rw[all2 i (by omega),all2 j (by omega)]; exact Int.le_refl _
  ·have hm1:m=1:=by omega
   subst hm1;refine Vv hA hp g1 (by omega) (fun i j hij hj=>?_) hq;by_cases hij':i=j
   ·subst hij'; exact Int.le_refl _
   ·rw[show j=1 by omega,show i=0 by omega];exact Int.le_of_lt hlt
def Yf (hA:ZS cmp key n s) (hp:PmN n p) {k:Nat} (hk:k<n) (hu:Upw key p k) {Q:Nat->Shared->Prop}
  (hq:∀ l,l<=k->(∀ i,i<l->KP key p i<=KP key p k)->(∀ i,l<=i->i<k->KP key p k<=KP key p i)->Q l s):∀ f l r,l<=r->r<=k->r-l<=f->(∀ i,i<l->KP key p i<=KP key p k)->(∀ i,r<=i->i<k->KP key p k<=KP key p i)->(kas_place p k f l r).kasWp cmp Q s
 | 0,l,r,h1,h2,h3,hl,hr=>hq l (by omega) hl fun i hi=>hr i (by omega)
 | f+1,l,r,h1,h2,h3,hl,hr=>by
  unfold kas_place;by_cases h:l ≥ r
  ·rw[if_pos h];exact hq l (by omega) hl fun i hi=>hr i (by omega)
  ·rw[if_neg h];refine hA _ _ _ (hp.lt (by omega)) (hp.lt (by omega)) ?_;by_cases hc:key (p.getD k 0)<key (p.getD ((l+r) / 2) 0)
   ·rw[Xu hc]; dsimp only; rw[if_pos rfl];exact Yf hA hp hk hu hq f l _ (by omega) (by omega) (by omega) hl fun i hi hik=>Int.le_trans (Int.le_of_lt hc) (hu _ i hi hik)
   ·rw[Xk hc]; dsimp only; rw[if_neg Xh];have hc':KP key p ((l+r) / 2)<=KP key p k:=by unfold KP; omega
    exact Yf hA hp hk hu hq f _ r (by omega) (by omega) (by omega) (fun i hi=>Int.le_trans (hu i _ (by omega) (by omega)) hc') hr
def jid (hA:ZS cmp key n s) {Q:Array Nat->Shared->Prop} (hq:∀ p,PmN n p->Upw key p n->Q p s):∀ f (p:Array Nat) k,k+f=n->PmN n p->Upw key p k->(kas_bin f p k).kasWp cmp Q s
 | 0,p,k,h,hp,hu=>hq p hp (by rw[<- h]; exact hu)
 | f+1,p,k,h,hp,hu=>by
  have hsz:=hp.size;unfold kas_bin;rw[KasT.kasWp_bind];refine Yf hA hp (by omega) hu (fun l g1 g2 g3=>?_) k 0 k (by omega) (Xe _) (by omega) (fun i hi=>by omega) (fun i h1 h2=>by omega);refine jid hA hq f _ (k+1) (by omega) (hp.bub _ _) fun i j hij hj=>?_;rw[jic (by omega) g1,jic (by omega) g1]
  repeat' split
  all_goals first
   | (exfalso; omega)
   | exact Int.le_refl _
   | exact g2 _ (by omega)
   | exact g3 _ (by omega) (by omega)
   | exact hu _ _ (by omega) (by omega)
def jjf (hA:ZS cmp key n s) (h1:1<=n) {Q:Array Nat->Shared->Prop} (hq:∀ p,PmN n p->Upw key p n->Q p s):(kas_sort n).kasWp cmp Q s:=by
 unfold kas_sort;rw[KasT.kasWp_bind];refine jg7 hA (Array.Perm.refl _) h1 fun m p hp g1 g2 g3=>?_;dsimp only;split
 ·rename_i hlt
  rw[show max m 1=m by omega];exact jid hA hq _ p m (by omega) hp g3
 ·rw[show m=n by omega] at g3;exact hq p hp g3
end
section
def PrV (h:Heap) (v:Value) (q:Int×Int):Prop:=∃ a o t u n,v=.ref a/\h.get? a=some o/\o.cls=.type "tuple"/\o.data=.seq #[.int q.1 t,.int q.2 u] n
def PrV.keeps {v:Value}{q:Int×Int} (x:PrV h v q) (k:∀ b o,h.get? b=some o->o.cls=.type "tuple"->h'.get? b=some o):PrV h' v q:=by
 obtain⟨a,o,t,u,n,rfl,e,hc,hd⟩:=x;exact⟨a,o,t,u,n,rfl,k a o e hc,hc,hd⟩
def jie (p q:Int×Int):Bool:=if p.1=q.1 then decide (p.2<q.2) else decide (p.1<q.1)
def jfj {b:Bool}{x:Int}{t u:Tok}{Q:Bool->Shared->Prop} (h:Q (decide (x<y)) s):wpAny (model prog w) A (oneLt' b (.int x t) (.int y u)) Q E s:=by
 cases b with
 | true=>exact oneLt_int h
 | false=>exact kat_one _ _ (lt_int h)
def jg8 {b:Bool}{v v':Value}{q:Int×Int}{Q:Bool->Shared->Prop} (h1:PrV s.heap v q) (h2:PrV s.heap v' q') (h:Q (jie q q') s):wpAny (model prog w) A (keyLt' (tuples' b) v v') Q E s:=by
 obtain⟨a,o,t,u,n,rfl,e,hc,hd⟩:=h1;obtain⟨a',o',t',u',n',rfl,e',hc',hd'⟩:=h2;unfold jie at h;refine kat_lt e hd e' hd' (kat_cons (wpAny_eqBool_int ?_));by_cases g:q.1=q'.1
 ·rw[if_pos g] at h;rw[show (q.1==q'.1)=true by simpa using g];refine kat_yes (kat_cons (wpAny_eqBool_int ?_));by_cases g2:q.2=q'.2
  ·rw[show (q.2==q'.2)=true by simpa using g2];refine kat_yes (kat_nil ?_);rw[show decide (q.2<q'.2)=false by simp[g2]] at h;exact h
  ·rw[show (q.2==q'.2)=false by simpa using g2];exact kat_no (jfj h)
 ·rw[if_neg g] at h;rw[show (q.1==q'.1)=false by simpa using g];exact kat_no (jfj h)
def jif {h:Heap}:∀ {vs:List Value}{ps:List (Int×Int)},vs.length=ps.length->(∀ (i:Nat) v q,vs[i]?=some v->ps[i]?=some q->PrV h v q)->∃ fs:List Value,KatTups h vs fs/\fs.length=vs.length/\∀ v∈fs,∃ i t,v=.int i t
 | [],[],_,_=>⟨[],KatTups.nil,rfl,fun _ h=>nomatch h⟩
 | v::vs,q::ps,hl,hp=>by
  obtain⟨fs,k,kl,ki⟩:=jif (vs:=vs) (ps:=ps) (by simpa using hl) fun i v q e1 e2=>hp (i+1) v q e1 e2;obtain⟨a,o,t,u,n,rfl,e,hc,hd⟩:=hp 0 v q rfl rfl;refine⟨.int q.1 t::fs,KatTups.cons e hc hd rfl k,by simp[kl],fun z hz=>?_⟩;rcases List.mem_cons.mp hz with rfl | hz
  ·exact⟨_,_,rfl⟩
  ·exact ki z hz
def Wc (vs:List Value):(List.range vs.length).map (fun i=>vs.getD i Value.none)=vs:=by
 refine List.ext_getElem (by simp) fun i h1 h2=>?_;simp only[List.getElem_map,List.getElem_range,X1,Xc h2,Option.getD_some]
def Vw {ps:List (Int×Int)}{P:PySem.Fin->Shared->Prop} (ho:s.heap.get? a=some (seqObj "list" vs.toArray n)) (hl:vs.length=ps.length)
  (hp:∀ (i:Nat) v q,vs[i]?=some v->ps[i]?=some q->PrV s.heap v q) (hk:∀ (i j:Nat) q q',ps[i]?=some q->ps[j]?=some q'->decide (key i<key j)=jie q q') (h64:vs.length<64)
  (h:∀ p,PmN vs.length p->Upw key p vs.length->P (.done (.ret .none)) { s with heap:=sortedHeap s.heap a vs (p.toList.map fun i=>vs.getD i Value.none).toArray }) :
  wpAny (model prog w) A (Builtin.«list.sort» ⟨[.ref a],[]⟩) P E s:=by
 rw[list_sort_plain];have la:a<s.heap.objs.size:=Xl ho;refine Xa (listItems_at ho rfl (Xa (listUpdate_at ho rfl ?_ (by rw[Xg,Xy]; omega) (wc _))));obtain⟨e1,ho1⟩:∃ e1,(s.heap.update a (Obj.mapSeq fun _=>(#[]:Array Value))).get? a=some (seqObj "list" #[] e1):=⟨_,get?_update_seq ho fun _=>#[]⟩;refine Xa (seqEpoch_at ho1 rfl (Xa (wpAny_newTuple (Xa (wpAny_newList (wa ?_) (wc _))) (by show vs.length<=_; rw[Xy]; omega))));have ho6:(((s.heap.update a (Obj.mapSeq fun _=>(#[]:Array Value))).push (seqObj "tuple" vs.toArray 0)).push (seqObj "list" #[] 0)).get? a=some (seqObj "list" #[] e1):=Xd _ (Xd _ ho1);show wpAny (model prog w) A _ P E { s with heap:=((s.heap.update a (Obj.mapSeq fun _=>(#[]:Array Value))).push (seqObj "tuple" vs.toArray 0)).push (seqObj "list" #[] 0) }
 dsimp only;have tp:∀ (i:Nat) v q,vs[i]?=some v->ps[i]?=some q->PrV (((s.heap.update a (Obj.mapSeq fun _=>(#[]:Array Value))).push (seqObj "tuple" vs.toArray 0)).push (seqObj "list" #[] 0)) v q:=fun i v q e e'=>(hp i v q e e').keeps fun b o eb hb=>by
  refine Xd _ (Xd _ ?_);rw[Heap.get?_update_ne _ _ _ _ ?_]
  ·exact eb
  ·rintro rfl;rw[ho] at eb;cases eb;exact absurd hb (by simp)
 have fin:∀ (st:SortSt) (out:Array Value) (p:Array Nat),(arrOf st).map (·.2)=out->failedOf st=none->PmN vs.length p->Upw key p vs.length->out=(p.toList.map fun i=>vs.getD i Value.none).toArray ->
   wpAny (model prog w) A (do
    let touched:=(<- seqEpoch a) != e1
    Builtin.List.listUpdate (.ref a) fun _=>(arrOf st).map (·.2)
    if let some e:=failedOf st then rule "list.sort.comparison-raised"; throw e
    if touched then rule "list.sort.modified"; raiseError "ValueError" "list modified during sort"
    ret .none) P E { s with heap:=((s.heap.update a (Obj.mapSeq fun _=>(#[]:Array Value))).push (seqObj "tuple" vs.toArray 0)).push (seqObj "list" #[] 0) }:=by
  intro st out p h1 h2 h3 h4 h5;rw[h1,h2];refine Xa (seqEpoch_at ho6 rfl (Xa (listUpdate_at ho6 rfl ?_ (wc _) ?_)))
  ·simp only[bne_self_eq_false,XG,X0];rw[h5];exact Xb (h p h3 h4)
  ·rw[h5,Xg,Xj,Xt,h3.size,Xy];omega
 by_cases h2:vs.toArray.size<2
 ·rw[if_pos h2,if_pos h2];refine Xa (Xb ?_);rw[StateT.run_pure];refine Xa (Xb ?_);refine fin (SortSt.mk' general' (vs.toArray.zip vs.toArray) #[] 7 none) vs.toArray (List.range vs.length).toArray ?_ rfl (Array.Perm.refl _) (fun i j hij hj=>?_) (by rw[Wc])
  ·show (vs.toArray.zip vs.toArray).map (·.2)=vs.toArray;rw[List.zip_toArray,List.map_toArray,List.map_snd_zip (Xe _)]
  ·rw[Xg] at h2;rw[show i=j by omega];exact Int.le_refl _
 ·rw[if_neg h2,if_neg h2];rw[Xg] at h2;obtain⟨fs,kt,kl,ki⟩:=jif hl tp;refine Xa (kat_kind (T:=.type "int") kt (by omega) (fun v hv=>?_) (by rfl) ?_)
  ·obtain⟨i,t,rfl⟩:=ki v hv;exact Looks.now
  refine Xa (wd (kat_run (ks:=vs) (Q:=fun st s'=>s'={ s with heap:=((s.heap.update a (Obj.mapSeq fun _=>(#[]:Array Value))).push (seqObj "tuple" vs.toArray 0)).push (seqObj "list" #[] 0) }/\failedOf st=none/\∃ p,(arrOf st).map (·.2)=(p.toList.map fun i=>vs.getD i Value.none).toArray/\PmN vs.length p/\Upw key p vs.length)
   (G:=fun p s'=>s'={ s with heap:=((s.heap.update a (Obj.mapSeq fun _=>(#[]:Array Value))).push (seqObj "tuple" vs.toArray 0)).push (seqObj "list" #[] 0) }/\PmN vs.length p/\Upw key p vs.length) rfl (by omega) h64 (fun p st s' a1 a2 a3 a4=>⟨a4.1,a3,p,kat_snds rfl a2,a4.2.1,a4.2.2⟩) ?_) ?_ fun _ _ e=>e)
  ·refine jjf (key:=key) (fun i j C hi hj hc=>?_) (by omega) fun p g1 g2=>⟨rfl,g1,g2⟩;show kas_ask prog w A _ vs i j C _;unfold kas_ask;have ei:vs[i]?=some (vs.getD i Value.none):=by rw[X1,Xc hi]; rfl
   have ej:vs[j]?=some (vs.getD j Value.none):=by rw[X1,Xc hj]; rfl
   have qi:ps[i]?=some (ps[i]'(by omega)):=Xc _;have qj:ps[j]?=some (ps[j]'(by omega)):=Xc _;rw[hk i j _ _ qi qj] at hc;exact jg8 (tp i _ _ ei qi) (tp j _ _ ej qj) hc
  ·rintro⟨⟨⟩,st⟩ s' ⟨rfl,hf,p,hm,g1,g2⟩;exact fin st _ p hm hf g1 g2 rfl
end
section
def jct {p q:Int×Int}:jie p q=true ↔ p.1<q.1 \/ (p.1=q.1/\p.2<q.2):=by
 unfold jie;by_cases h:p.1=q.1
 ·rw[if_pos h]; simp[h]
 ·rw[if_neg h];simp only[Xv];constructor
  ·exact fun z=>.inl z
  ·rintro (z | ⟨z,_⟩)
   ·exact z
   ·exact absurd z h
def leP (p q:Int×Int):Bool:=!jie q p
def Uq {p q:Int×Int}:leP p q=true ↔ p.1<q.1 \/ (p.1=q.1/\p.2<=q.2):=by
 unfold leP;rw[Bool.not_eq_true',<- Bool.not_eq_true,jct];omega
def jjY (l:List (Int×Int)):List (Int×Int):=l.mergeSort leP
def jfk (l:List (Int×Int)):(jjY l).Perm l:=List.mergeSort_perm l _
def jjg (l:List (Int×Int)):(jjY l).Pairwise fun p q=>leP p q=true:=
 List.pairwise_mergeSort (fun a b c h1 h2=>by rw[Uq] at *; omega) (fun a b=>by rw[Bool.or_eq_true,Uq,Uq]; omega) l
def jfl {l m:List (Int×Int)} (h:m.Perm l) (hs:m.Pairwise fun p q=>leP p q=true):m=jjY l:=
 List.Perm.eq_of_pairwise (le:=fun p q=>leP p q=true) (fun a b _ _ h1 h2=>by
  rw[Uq] at h1 h2;exact Prod.ext (by omega) (by omega)) hs (jjg l) (h.trans (jfk l).symm)
def bnd:List (Int×Int)->Nat
 | []=>0
 | q::l=>q.2.natAbs+bnd l
def jfm:∀ {l:List (Int×Int)}{q:Int×Int},q∈l->q.2.natAbs<=bnd l
 | a::l,q,h=>by
  unfold bnd;rcases List.mem_cons.mp h with rfl | h
  ·omega
  ·have:=jfm h; omega
def jig (ps:List (Int×Int)) (i:Nat):Int:=(ps.getD i (0,0)).1 * (2 * (bnd ps:Int)+1)+(ps.getD i (0,0)).2
def jfn {ps:List (Int×Int)}{q:Int×Int} (h:ps[i]?=some q):jig ps i=q.1 * (2 * (bnd ps:Int)+1)+q.2:=by
 unfold jig;rw[X1,h];rfl
def jbc {ps:List (Int×Int)}{j:Nat}{q:Int×Int} (h:ps[i]?=some q) (h':ps[j]?=some q'):jig ps i<jig ps j ↔ jie q q'=true:=by
 rw[jfn h,jfn h',jct];have b1:=jfm (List.mem_of_getElem? h);have b2:=jfm (List.mem_of_getElem? h');generalize (bnd ps)=B at *;have hM:(0:Int)<=2 * (B:Int)+1:=by omega
 rcases Int.lt_trichotomy q.1 q'.1 with g | g | g
 ·have:=Int.mul_le_mul_of_nonneg_right (show (1:Int)<=q'.1-q.1 by omega) hM;rw[Int.sub_mul] at this;constructor
  ·intro _; exact .inl g
  ·intro _; omega
 ·rw[g];constructor
  ·intro z; exact .inr ⟨rfl,by omega⟩
  ·rintro (z | ⟨_,z⟩) <;> omega
 ·have:=Int.mul_le_mul_of_nonneg_right (show (1:Int)<=q.1-q'.1 by omega) hM;rw[Int.sub_mul] at this;constructor
  ·intro z; omega
  ·rintro (z | ⟨z,_⟩) <;> omega
def jfo (r:Vals xs its):∀ ns:List Nat,(∀ i∈ns,i<xs.length)->Vals (ns.map fun i=>xs.getD i .non) (ns.map fun i=>its.getD i .none)
 | [],_=>.nil
 | i::ns,h=>by
  have hi:=h i Xo;obtain⟨u,eu,ru⟩:=r.get (Xc hi);refine .cons ?_ (jfo r ns fun j hj=>h j (Xn _ hj));show RelV (xs.getD i V.non) (its.getD i Value.none);rw[X1,X1,Xc hi,eu];exact ru
def jfp {ps:List (Int×Int)} (h:xs.length=ps.length):(List.range ps.length).map (fun i=>(xs.getD i .non,ps.getD i (0,0)))=xs.zip ps:=by
 refine List.ext_getElem (by simp[h]) fun i h1 h2=>?_;have hp:i<ps.length:=by simpa using h1
 simp[h,hp]
end
section
def ZU {l:Addr}{ps:List (Int×Int)} (hl:s.heap.IsList l vs.toArray) (hn:vs.length=ps.length)
  (hp:∀ (i:Nat) v q,vs[i]?=some v->ps[i]?=some q->PrV s.heap v q) (h64:vs.length<64)
  (h:∀ p,PmN vs.length p->Upw (jig ps) p vs.length->Q (.ref (s.heap.objs.size+1)) { s with heap:=sortedAll s.heap vs (p.toList.map fun i=>vs.getD i Value.none).toArray }) :
  wpAny (model prog w) A (call (.builtin "sorted") [.ref l]) Q E s:=by
 refine Calls.call_function_entry kind_sorted plain_sorted entry_sorted (args_sorted1 _) ?_;unfold Builtin.«sorted»;refine Xa (m:=checkCount "sorted" 1 1 _) (Xb (Xa (collect_list hl (Xa (wpAny_newList ?_ (by rw[Xy]; omega))) (by rw[Xy]; omega))));have sz:((s.heap.push (seqObj "list" #[] 0)).update s.heap.objs.size (Obj.mapSeq (·++vs.toArray))).objs.size=s.heap.objs.size+1:=by rw[Heap.size_update,size_push']
 have hL:(((s.heap.push (seqObj "list" #[] 0)).update s.heap.objs.size (Obj.mapSeq (·++vs.toArray))).push (seqObj "list" vs.toArray 0)).get? (s.heap.objs.size+1)=some (seqObj "list" vs.toArray 0):=by rw[<- sz]; exact Xi _ rfl
 have keep:∀ b o,s.heap.get? b=some o->(((s.heap.push (seqObj "list" #[] 0)).update s.heap.objs.size (Obj.mapSeq (·++vs.toArray))).push (seqObj "list" vs.toArray 0)).get? b=some o:=fun b o q=>by
  have lt:b<s.heap.objs.size:=Xl q;refine Xd _ ?_;rw[Heap.get?_update_ne _ _ _ _ (XQ lt)];exact Xd _ q
 show wpAny _ _ _ _ _ { s with heap:=((s.heap.push (seqObj "list" #[] 0)).update s.heap.objs.size (Obj.mapSeq (·++vs.toArray))).push (seqObj "list" vs.toArray 0) }
 rw[sz];refine Xa (wa (XI slot_list_sort ⟨_,hL,rfl⟩ entry_list_sort (Vw (key:=jig ps) hL hn (fun i v q e1 e2=>(hp i v q e1 e2).keeps fun b o eb _=>keep b o eb) (fun i j q q' e1 e2=>?_) h64 fun p a1 a2=>⟨_,rfl,?_⟩) (args_list_sort _)))
 ·by_cases g:jig ps i<jig ps j
  ·rw[Xu g,(jbc e1 e2).mp g]
  ·rw[Xk g];cases q3:jie q q' with
   | true=>exact absurd ((jbc e1 e2).mpr q3) g
   | false=>rfl
 ·exact Xb ⟨_,rfl,h p a1 a2⟩
end
section
def ZV:GD X (.builtin "sorted") (fun xs H Q=>∃ p vs ps,xs=[.ref p]/\SqL X.K H p vs/\vs.length=ps.length/\(∀ (i:Nat) v (q:Int×Int),vs[i]?=some v->ps[i]?=some q->∃ a,v=.ref a/\SqT X.K H a [.int q.1,.int q.2])/\ps.length<64 /\
  ∀ l (zs:List (V×Int×Int)),H l=none->zs.Perm (vs.zip ps)->zs.map (·.2)=jjY ps->Q (.ref l) (upd H l (.lst (zs.map (·.1))))):=by
 intro pins s σ H xs us Q I r h;obtain⟨p,vs,ps,rfl,hq,hl,hp,hn,q⟩:=h;obtain⟨u,rfl,rx⟩:=Ug r;cases rx;obtain⟨its,rv,pl,hz⟩:=I.list hq;have hlen:=rv.length;refine ZU (ps:=ps) pl.isList (by omega) (fun i v z e1 e2=>?_) (by omega) fun pm g1 g2=>?_
 ·have hi:i<vs.length:=by rw[hlen]; exact (List.getElem?_eq_some_iff.mp e1).1
  obtain⟨a,ea,ht⟩:=hp i _ z (Xc hi) e2;obtain⟨u,eu,ru⟩:=rv.get (Xc hi);rw[e1] at eu;cases eu;rw[ea] at ru;cases ru;obtain⟨its2,rv2,⟨o,eo,hc,n,hd⟩,_⟩:=I.tuple ht;obtain⟨u1,u2,rfl,r1,r2⟩:=rv2.two;obtain⟨t,rfl⟩:=r1;obtain⟨t',rfl⟩:=r2;exact⟨a,o,t,t',n,rfl,eo,hc,hd⟩
 ·obtain⟨e,he⟩:=sortedAll_at s.heap its (pm.toList.map fun i=>its.getD i Value.none).toArray;have hr:pm.toList.Perm (List.range ps.length):=by
   have:=Array.perm_iff_toList_perm.mp g1;rw[<- hlen,hl] at this;simpa using this
  have hin:∀ i∈pm.toList,i<ps.length:=fun i hi=>List.mem_range.mp (hr.mem_iff.mp hi);have hv:=jfo rv pm.toList fun i hi=>by have:=hin i hi; omega
  have hsz:=g1.size;refine⟨.ref _,_,I.laid (o:=.lst (pm.toList.map fun i=>vs.getD i .non)) (t':=s.toks) (fun b o eb=>sortedAll_old eb) (Nat.le_succ _) ⟨?_,_,e,hv,he⟩,rfl,?_⟩
  ·rw[Xj,hr.length_eq,List.length_range];omega
  ·have:=q (s.heap.objs.size+1) (pm.toList.map fun i=>(vs.getD i .non,ps.getD i (0,0))) (I.hok.fresh (Nat.le_succ _)) ?_ ?_
   ·rw[List.map_map] at this;exact this
   ·rw[<- jfp hl];exact hr.map _
   ·rw[List.map_map];refine jfl ?_ ?_
    ·have e2:(List.range ps.length).map (fun i=>ps.getD i (0,0))=ps:=by
      refine List.ext_getElem (by simp) fun i h1 h2=>?_;simp[h2]
     have:=hr.map fun i=>ps.getD i (0,0);rw[e2] at this;exact this
    ·rw[List.pairwise_iff_getElem];intro i j hi hj hij;simp only[Xj,Xt] at hi hj;simp only[List.getElem_map,Array.getElem_toList,Function.comp];have k:=g2 i j (by omega) (by omega);unfold KP at k;have gi:pm.getD i 0=pm[i]:=by simp[Array.getD,hi]
     have gj:pm.getD j 0=pm[j]:=by simp[Array.getD,hj]
     rw[gi,gj] at k;have li:pm[i]<ps.length:=hin _ (by simp);have lj:pm[j]<ps.length:=hin _ (by simp);have ai:ps[pm[i]]?=some (ps.getD pm[i] (0,0)):=by simp[li]
     have aj:ps[pm[j]]?=some (ps.getD pm[j] (0,0)):=by simp[lj]
     have nk:=mt (jbc aj ai).mpr (by omega);unfold leP;rw[Bool.not_eq_true',<- Bool.not_eq_true];exact nk
end
end L2
namespace L3
open PySem PySem.Spec L2
section
variable {F:Hp}{t:TE}{p:Pm α}{rs:Rs γ}{i:Int}
@[irreducible] def jfq (l:List (Int×Int)):Option (List (Int×Int)):=if l.length<64 then some (jjY l) else none
def Wz:∀ {l:List α}{xs:List β},Paired R l xs->l.length=xs.length
 | _,_,.nil=>rfl
 | _,_,.cons _ s=>by rw[XY,XY,Wz s]
def jdk {xs:List β} (h:Paired R l xs):∀ z∈xs.zip l,R z.2 z.1:=by
 induction h with
 | nil=>intro z hz; cases hz
 | cons r s ih=>
  intro z hz;rcases List.mem_cons.mp hz with rfl | hz
  ·exact r
  ·exact ih z hz
def UR {R:α->β->Prop}:∀ {zs:List (β×α)},(∀ z∈zs,R z.2 z.1)->Paired R (zs.map (·.2)) (zs.map (·.1))
 | [],_=>.nil
 | z::zs,h=>.cons (h z Xo) (UR fun y hy=>h y (Xn _ hy))
def jfr:Op1 K (fun x H Q=>∃ p vs ps,[x]=[V.ref p]/\SqL K H p vs/\vs.length=ps.length/\(∀ (i:Nat) v (q:Int×Int),vs[i]?=some v->ps[i]?=some q->∃ a,v=.ref a/\SqT K H a [.int q.1,.int q.2])/\ps.length<64 /\
  ∀ l (zs:List (V×Int×Int)),H l=none->zs.Perm (vs.zip ps)->zs.map (·.2)=jjY ps->Q (.ref l) (upd H l (.lst (zs.map (·.1))))) (pR (cP cI cI)) (rO (cP cI cI)) (fun l=>jfq l):=by
 intro F H l x s hx z hz Q k;obtain⟨p,xs,rfl,h1,h2⟩:=hx;unfold jfq at hz;obtain⟨hn,rfl⟩:=jS hz;refine⟨p,xs,l,rfl,h1,(Wz h2).symm,fun i v q e1 e2=>?_,hn,fun a zs ha hp hs=>?_⟩
 ·obtain⟨v',e3,r⟩:=Paired.at h2 e2;rw[e1] at e3;cases e3;obtain⟨a,u,w,rfl,hF,ru,rw'⟩:=r;have eu:u=.int q.1:=ru;have ew:w=.int q.2:=rw';subst eu ew;exact⟨a,rfl,.inl (.inl (s _ _ hF))⟩
 ·have:=UR (R:=(cP cI cI).rep K F) (zs:=zs) fun z hz=>jdk h2 z (hp.mem_iff.mp hz);rw[hs] at this;exact yz s this k a ha
end
section
variable [DecidableEq κ] [Kk κ] {F:Hp}{t:TE} 
def jkV {m:Option (List (κ×α))} (h:Ev K σ F H t (rD c) m):Ev K σ F H t (pD c).rs m:=Vn h (fun _ ⟨a,xs,h0,_,_,h3,h4⟩=>⟨a,xs,h0,h3,h4⟩)
def jjh {l r:List (κ×α)} (hi:σ[i]?=some (some (.ref a))) (o:OwnD K He F H c l a) (X:Ext Fe He F H) (hm:some l=some r) (k:∀ v F' H',Ext Fe He F' H'->(rD c).rel K He F' H' r v->D.rt v H'):jjT (Jo i) D σ H:=by
 cases hm;obtain⟨xs,h1,h2⟩:=o.h;exact⟨_,hi,k _ F H X ⟨a,xs,rfl,o.e,o.f,h1,h2⟩⟩
end
end L3
namespace L2
open PySem PySem.Spec PyProof.Rows
def jfs:∀ {ws:List Str}{us:List Value},Vals (ws.map V.str) us->∃ l:List (Str×Tok),us=strValues l/\l.map (·.1)=ws
 | [],[],_=>⟨[],rfl,rfl⟩
 | w::ws,u::us,.cons h r=>by
  obtain⟨l,e,m⟩:=jfs r;obtain⟨t,rfl⟩:=h;exact⟨(w,t)::l,by rw[e]; rfl,by rw[Xp,m]⟩
def Yg (sep:Str) (ws:List Str):Bool:=!(Builtin.Str.tooLong (ws.toArray.foldl (·+·.length+sep.length) 0))&&decide ((Builtin.Str.glued sep ws).length<=sizeLine)
def jkW (K:W.Frag) (x:V) (vs:List V) (H:Hp) (Q:VK):Prop:=∃ sep p ws,x=.str sep/\vs=[.ref p]/\SqL K H p (ws.map V.str)/\Yg sep ws=true/\Q (.str (Builtin.Str.glued sep ws)) H
section
def Ur:MtR X "str.join" (jkW X.K):=by
 intro pins s σ H x xs v us Q I rx rv h;obtain⟨sep,p,ws,rfl,rfl,hq,hf,q⟩:=h;obtain⟨t,rfl⟩:=rx;obtain⟨u,rfl,ru⟩:=rv.one;cases ru;obtain⟨its,r,pl,hz⟩:=I.list hq;obtain⟨l,rfl,rfl⟩:=jfs r;unfold Yg at hf;rw[XB,Bool.not_eq_true',Xv] at hf;refine call_meets F.slot_str_join (typeIs_str s sep t) F.entry_str_join (F.args_str_join_2 _ _) (meets_str_join_list sep t p l hf.1) ⟨pl.isList,?_⟩
 match l,hf.2,q with
 | [],hl,q=>exact ⟨hl,⟨.str _,H,I.tok _,⟨_,rfl⟩,q⟩⟩
 | [a],hl,q=>exact ⟨.str _,H,I,⟨_,rfl⟩,q⟩
 | a::b::r,hl,q=>exact ⟨hl,⟨.str _,H,I.tok _,⟨_,rfl⟩,q⟩⟩
end
abbrev TJ:=St->Hp->Str->(Str->Hp->Prop)->Prop
def PJ (X:Cx) (es:List Expr) (t:TJ):Prop:=
 ∀ (pins:List (Addr×Obj)) (s:Shared) (σ:St) (H:Hp) (acc:Str) (Q:Str->Hp->Prop),Inv X pins σ H s->t σ H acc Q ->
  Joins (model X.prog X.w) X.A X.xe (evalEach es X.env) acc (fun out s1=>∃ H1,Inv X pins σ H1 s1/\Q out H1) s
def jmN:TJ:=fun _ H acc Q=>Q acc H
def jmO (x:Str) (r:TJ):TJ:=fun σ H acc Q=>(acc++x).length<=sizeLine/\r σ H (acc++x) Q
def jmP (te:TE) (r:TJ):TJ:=fun σ H acc Q=>te σ H fun v H1=>∃ i:Int,v=.int i/\i.natAbs.log2<1920/\(acc++(toString i:Str)).length<=sizeLine/\r σ H1 (acc++(toString i:Str)) Q
def jkX (t:TJ):TE:=fun σ H Q=>t σ H Str.empty fun out H1=>out.length<=sizeLine/\Q (.str out) H1
section
variable {a b:Expr}{t:TJ} 
def jft:PJ X [] jmN:=fun _ _ _ H _ _ I h=>⟨H,I,h⟩
def jfu {j} (r:PJ X es t):PJ X (.Constant (.str x) j pos::es) (jmO x t):=by
 intro pins s σ H acc Q I h;show wpAny _ _ (eval (.Constant (.str x) j pos) X.env) _ _ s;exact Calls.Constant_str ⟨x,_,rfl,h.1,r pins _ σ H _ Q (I.tok _) h.2⟩
def WA (he:PE X e te) (r:PJ X es t):PJ X (.FormattedValue e (-1) none pos::es) (jmP te t):=by
 intro pins s σ H acc Q I h;show wpAny _ _ (eval (.FormattedValue e (-1) none pos) X.env) _ _ s;refine wpAny_FormattedValue_plain (thn (he pins s σ H _ I h) fun v s1 ⟨w,H1,I1,rw_,i,ew,hd,hl,q⟩=>?_);subst ew;obtain⟨tk,rfl⟩:=rw_;exact wpAny_formatField_int hd ⟨_,_,rfl,hl,r pins _ σ H1 _ Q ((I1.tok _).tok _) q⟩
def WB {Q Q':Str->Shared->Prop} (k:∀ out s,Q out s->Q' out s):∀ (l:List (Sem Value)) (acc:Str) (s:Shared),Joins M A E l acc Q s->Joins M A E l acc Q' s
 | [],acc,s,h=>k acc s h
 | x::r,acc,s,h=>wd h (fun v s1 ⟨y,t,e,hl,hr⟩=>⟨y,t,e,hl,WB k r _ s1 hr⟩) fun _ _ z=>z
def jbd (h:PJ X (a::b::es) t):PE X (.JoinedStr (a::b::es) pos) (jkX t):=by
 intro pins s σ H Q I hq;refine wpAny_JoinedStr ?_;have:=h pins s σ H Str.empty _ I hq;exact WB (fun out s1 ⟨H1,I1,hl,q⟩=>⟨hl,⟨.str out,H1,I1.tok _,⟨_,rfl⟩,q⟩⟩) _ _ _ this
end
end L2
namespace L3
open PySem PySem.Spec L2
@[irreducible] def Jq (i:Int):Option Str:=if i.natAbs.log2<1920 then some (toString i:Str) else none
@[irreducible] def xi (a b:Str):Option Str:=if a.length+b.length<=sizeLine then some (a++b) else none
@[irreducible] def Yh (sep:Str) (ws:List Str):Option Str:=if Yg sep ws=true then some (Builtin.Str.glued sep ws) else none
section
variable {F:Hp}{t:TE}{ma mb:Option Str} 
def zp:Op1 K (fun x H Q=>∃ i,[x]=[V.int i]/\i.natAbs.log2<1920/\Q (.str (toString i)) H) (pF cI) (rF cS) (fun i=>Jq i):=by
 intro F H a x s hx z hz Q k;cases hx;unfold Jq at hz;obtain⟨hd,rfl⟩:=jS hz;exact⟨a,rfl,hd,k _ F H (Ext.refl s) rfl⟩
def Jn:Op2 K (fun x y H Q=>∃ i j,x=.str i/\y=.str j/\i.length+j.length<=sizeLine/\Q (.str (i++j)) H) (pF cS) (pF cS) (rF cS) (fun a b=>xi a b):=by
 intro F H a b x y s hx hy z hz Q k;cases hx; cases hy;unfold xi at hz;obtain⟨hd,rfl⟩:=jS hz;exact⟨a,b,rfl,rfl,hd,k _ F H (Ext.refl s) rfl⟩
@[irreducible] def jjZ (a:Str):Option Str:=if a.length<=sizeLine then some a else none
def EvJ (K:W.Frag) (σ:St) (F H:Hp) (t:TJ) (m:Str->Option Str):Prop:=
 ∀ F1 H1,Ext F H F1 H1->∀ acc out,m acc=some out->∀ Q:Str->Hp->Prop,(∀ F2 H2,Ext F1 H1 F2 H2->out.length<=sizeLine->Q out H2)->t σ H1 acc Q
def jfv:EvJ K σ F H jmN (fun acc=>jjZ acc):=fun F1 H1 E acc out h Q k=>by
 unfold jjZ at h;obtain⟨hd,rfl⟩:=jS h;exact k F1 H1 (Ext.refl E.sub) hd
def jfw {r:TJ}{m:Str->Option Str} (h:EvJ K σ F H r m):EvJ K σ F H (jmO x r) (fun acc=>(xi acc x).bind m):=fun F1 H1 E acc out e Q k=>by
 obtain⟨a,ea,e⟩:=bind_some e;unfold xi at ea;obtain⟨hl,rfl⟩:=jS ea;exact⟨by rw[strLen_append]; exact hl,h F1 H1 E _ out e Q k⟩
def WC {r:TJ}{m:Str->Option Str} (hi:Ev K σ F H t (rF cI) mi) (h:EvJ K σ F H r m):EvJ K σ F H (jmP t r) (fun acc=>mi.bind fun i=>(Jq i).bind fun y=>(xi acc y).bind m):=fun F1 H1 E acc out e Q k=>by
 obtain⟨i,ei,e⟩:=bind_some e;obtain⟨y,ey,e⟩:=bind_some e;obtain⟨a,ea,e⟩:=bind_some e;refine hi F1 H1 E i ei _ fun v F2 H2 E2 hv=>?_;obtain rfl:v=.int i:=hv;unfold Jq at ey;unfold xi at ea;obtain⟨hd,rfl⟩:=jS ey;obtain⟨hl,rfl⟩:=jS ea;exact⟨i,rfl,hd,by rw[strLen_append]; exact hl,h F2 H2 (E.trans E2) _ out e Q fun F3 H3 E3=>k F3 H3 (E2.trans E3)⟩
def jbe {r:TJ}{m:Str->Option Str} (h:EvJ K σ F H r m) {mm_:Option Str} (e':mm_=m Str.empty):Ev K σ F H (jkX r) (rF cS) mm_:=by
 subst e';intro F1 H1 E out e Q k;exact h F1 H1 E Str.empty out e _ fun F2 H2 E2 hl=>⟨hl,k _ F2 H2 E2 rfl⟩
def Vx:∀ {l:List Str}{xs:List V},Paired (cS.rep K H) l xs->xs=l.map V.str
 | _,_,.nil=>rfl
 | _,_,.cons h r=>by
  rw[Xp,<- Vx r];congr 1
def Qe {m:Option (List Str)}{sep:Str}{ts:TE} (hs:Ev K σ F H ts (rF cS) (some sep)) (ht:Ev K σ F H t (pR cS).rs m) {mm_:Option Str} (e':mm_=m.bind fun l=>Yh sep l):Ev K σ F H (tBM K "str" (jkW K) ts (jH t xh)) (rF cS) mm_:=by
 subst e';intro F1 H1 E out e Q k;obtain⟨l,el,e⟩:=bind_some e;refine hs F1 H1 E sep rfl _ fun v F2 H2 E2 hv=>?_;obtain rfl:v=.str sep:=hv;refine⟨rfl,?_⟩;refine ht F2 H2 (E.trans E2) l el _ fun v F3 H3 E3 hv=>?_;obtain⟨p,xs,rfl,h1,h2⟩:=hv;rw[Vx h2] at h1;unfold Yh at e;obtain⟨hf,rfl⟩:=jS e;exact⟨sep,p,l,rfl,rfl,h1,hf,k _ F3 H3 (E2.trans E3) rfl⟩
end
@[irreducible] def jkY (l:List α):Option (α×List α):=l.getLast?.bind fun x=>some (x,l.dropLast)
def jbf {xs:List β} (h:Paired R l xs) {x:α} (e:l.getLast?=some x):∃ y,xs[xs.length-1]?=some y/\R x y:=by
 rw[List.getLast?_eq_getElem?] at e;have:=L3.Paired.at h e
 rwa [h.length] at this
def JD:∀ {l:List α}{xs:List β},Paired R l xs->Paired R l.dropLast xs.dropLast
 | _,_,.nil=>.nil
 | [_],[_],.cons _ .nil=>.nil
 | _::_::_,_::_::_,.cons h (.cons h2 r)=>.cons h (JD (.cons h2 r))
end L3
namespace L2
open PySem PySem.Spec PyProof.Rows
section
def jg9 {d:Addr}{es:Array DictEntry}{Q:Option Value->Shared->Prop} (hI:s.heap.IsKeyIter it d i n ep) (ho:s.heap.get? d=some o) (hD:o.data=.dict es ep) (hn:es.size=n) (hi:i<es.size)
  (k:∀ h',h'.IsKeyIter it d (i+1) n ep->Heap.SameBut it s.heap h'->Q (some es[i].key) { s with heap:=h' }):wpAny (model prog w) A (pyNext (.ref it)) Q E s:=by
 obtain⟨oi,gi,ci,di⟩:=id hI;have tI:=hI.typeIs;unfold pyNext;refine Xa (wpAny_attempt (wpAny_callSpecial?_slot (name:=Str.ofString "__next__") tI F.slot_dict_keyiterator_next (XI F.slot_dict_keyiterator_next tI F.entry_dict_keyiterator_next ?_ (F.args_dict_keyiterator_next_1 _))));refine Xa (Xb (Xa (Xa ?_)))
 first | refine Xa (wpAny_typeNameOfWhole_keyiter tI (Xb ?_)) | refine Xa (wpAny_typeNameOf_keyiter tI (Xb ?_))
 refine Xa (wpAny_fieldsOf gi di ?_);have no:Builtin.Dict_items.ownsTuple "dict_keyiterator"=false:=by decide
 rw[no];simp only[XG,X0];show wpAny _ _ (if (Value.ref d==Value.none)=true then _ else _) _ _ s;rw[if_neg (show ¬ ((Value.ref d==Value.none)=true) from Xh)];refine Xa (Xb (Xa (wpAny_dictEntries ho hD ?_)));rw[if_neg (by rw[hn]; simp)];refine Xa (Xb (Xa (wpAny_dictEpoch ho hD ?_)));rw[if_neg (by simp)];refine Xb ?_;have ni:¬ ((i:Int)<0):=by omega
 simp only[ni,X0,XS,Array.getElem?_eq_getElem hi];refine Xa ?_
 first | refine Xa (wpAny_typeNameOfWhole_keyiter tI (Xb ?_)) | refine Xa (wpAny_typeNameOf_keyiter tI (Xb ?_))
 refine Xa (wpAny_isOneOf_keyiter tI ?_);show wpAny _ _ (setField (.ref it) 1 (rawInt ((i:Int)+1)) >>= _) _ _ s;refine Xa (wpAny_setField gi di (by simp) ?_);have hI2:(s.heap.update it (Obj.mapFields (·.setIfInBounds 1 (rawInt ((i:Int)+1))))).IsKeyIter it d (i+1) n ep:=
  ⟨_,Heap.get?_update_self _ gi (Obj.isFreed_of_fields (Obj.data_mapFields di _)),(Obj.cls_mapFields ..).trans ci,by rw[Obj.data_mapFields di]; simp[rawInt]⟩
 refine Xa (wa (Xa (wpAny_isOneOf_keyiter (s:={ s with heap:=s.heap.update it (Obj.mapFields (·.setIfInBounds 1 (rawInt ((i:Int)+1)))) }) hI2.typeIs ?_)))
 show wpAny _ _ (pure es[i].key) _ _ _;exact Xb (Xb ⟨_,rfl,Xb (k _ hI2 (Heap.SameBut.update ..))⟩)
def jfx {d:Addr}{es:Array DictEntry}{Q:Option Value->Shared->Prop} (hh:A.handled=none) (hI:s.heap.IsKeyIter it d i n ep) (ho:s.heap.get? d=some o) (hD:o.data=.dict es ep) (hn:es.size=n) (hi:es.size<=i)
  (k:∀ h',Heap.ExtBut it s.heap h'->Q none { s with heap:=h' }):wpAny (model prog w) A (pyNext (.ref it)) Q E s:=by
 obtain⟨oi,gi,ci,di⟩:=id hI;have tI:=hI.typeIs;unfold pyNext;refine Xa (wpAny_attempt (wpAny_callSpecial?_slot (name:=Str.ofString "__next__") tI F.slot_dict_keyiterator_next (XI F.slot_dict_keyiterator_next tI F.entry_dict_keyiterator_next ?_ (F.args_dict_keyiterator_next_1 _))));refine Xa (Xb (Xa (Xa ?_)))
 first | refine Xa (wpAny_typeNameOfWhole_keyiter tI (Xb ?_)) | refine Xa (wpAny_typeNameOf_keyiter tI (Xb ?_))
 refine Xa (wpAny_fieldsOf gi di ?_);have no:Builtin.Dict_items.ownsTuple "dict_keyiterator"=false:=by decide
 rw[no];simp only[XG,X0];show wpAny _ _ (if (Value.ref d==Value.none)=true then _ else _) _ _ s;rw[if_neg (show ¬ ((Value.ref d==Value.none)=true) from Xh)];refine Xa (Xb (Xa (wpAny_dictEntries ho hD ?_)));rw[if_neg (by rw[hn]; simp)];refine Xa (Xb (Xa (wpAny_dictEpoch ho hD ?_)));rw[if_neg (by simp)];refine Xb ?_;have ni:¬ ((i:Int)<0):=by omega
 simp only[ni,X0,XS,Array.getElem?_eq_none hi];refine Xa ?_
 first | refine Xa (wpAny_typeNameOfWhole_keyiter tI (Xb ?_)) | refine Xa (wpAny_typeNameOf_keyiter tI (Xb ?_))
 show wpAny _ _ (setField (.ref it) 0 .none >>= _) _ _ s;refine Xa (wpAny_setField gi di (by simp) ?_);show wpAny _ _ (newExc (.type "StopIteration") [] >>= _) _ _ _;refine Xa ?_;simp only[newExc,newTuple];refine Xa (XO (Xa (m:=firstArgMember _ _) (wpAny_of_eq (a:=Value.none) (by first | rfl | (simp only[firstArgMember]; rfl)) (XO ?_ (by size_fits)))) (by size_fits))
 simp only[raiseNew];refine Xa (wpAny_handled ?_);have h0:A.in1.handled=none:=hh;rw[h0];refine Xa (Xb (wpAny_throw ?_));refine Xa (wpAny_isInstance (T:="StopIteration") (b:=true) ⟨_,Xi _ rfl,rfl⟩ isSubtype_stop (Xb (k _ ?_)));exact((Heap.SameBut.update ..).extBut.push _).push _
def jg_ {d:Addr}{es:Array DictEntry} (hd:(d==sysModules)=false) (ho:s.heap.get? d=some o) (hc:o.ExactDict) (hD:o.data=.dict es ep)
  (k:Q (.ref s.heap.objs.size) { s with heap:=s.heap.push { cls:=.type "dict_keyiterator",data:=.fields #[.ref d,.int 0 0,.int es.size 0,.int ep 0] } }):wpAny (model prog w) A (pyIter (.ref d)) Q E s:=by
 have tD:s.TypeIs (.ref d) "dict":=⟨o,ho,hc.1⟩;refine wpAny_pyIter_slot tD F.slot_dict_iter (XI F.slot_dict_iter tD F.entry_dict_iter ?_ (F.args_dict_iter_1 _));unfold Builtin.«dict.__iter__»;refine Xa ?_;unfold Builtin.Dict.dictSlotNone;refine Xa (wpAny_notOrdered_dict tD ?_);show wpAny _ _ (pure (Value.ref d)) _ _ s;refine Xb ?_;show wpAny _ _ (Builtin.Dict.showsAll d >>= _) _ _ s;unfold Builtin.Dict.showsAll;rw[if_neg (by rw[hd]; exact Xh)];refine Xa (Xb (Xa (wpAny_dictEntries ho hD (Xa (wpAny_dictEpoch ho hD ?_)))));refine Xa (XO (Xb ⟨_,rfl,"dict_keyiterator",_,⟨_,Xi _ rfl,rfl⟩,F.slot_dict_keyiterator_next.lookup,?_⟩));simpa [rawInt] using k
end
section
def Inv.dt (I:Inv X pins σ H s) (e:H a=some (.frz o (.dT fl kvs))):s.heap.get? a=some o/\(a==sysModules)=false/\∃ es ep,o.ExactDict/\o.data=.dict es ep/\es.size=kvs.length /\
  ∀ (i:Nat) (hi:i<es.size) (kv:List Key×V),kvs[i]?=some kv->∃ b,es[i].key=.ref b/\TupK fl H kv.1 b:=by
 obtain⟨h1,z,y,xs,r,o',es,ep,h2,h3,h4,h5,h6⟩:=I.hok a _ e;rw[h1] at h2;cases h2;have hl:es.size=xs.length:=by rw[<- Xt,h5,Xj]
 refine⟨h1,y,es,ep,h3,h4,by rw[hl,Paired.length r],fun i hi kv hk=>?_⟩;obtain⟨x,hx,q1,q2,q3⟩:=L3.Paired.at r hk;refine⟨x.2.1,?_,by rw[q1] at q2 ⊢; exact q2⟩;have e1:es.toList[i]?=some es[i]:=by rw[Array.getElem?_toList]; simp[hi]
 rw[h5,Xx,hx] at e1;have e2:entryOfKey (kdT fl X.prog X.w) x=es[i]:=by simpa using e1
 rw[<- e2];rfl
def Inv.fz (I:Inv X pins σ H s) (e:H a=some (.dT fl kvs)) (ho:s.heap.get? a=some o):Inv X pins σ (upd H a (.frz o (.dT fl kvs))) s:=by
 have ne:∀ {b:Addr}{u:HO},H b=some u->(∀ l,u≠.dT fl l)->b≠a:=fun {b u} q n z=>by rw[z,e] at q; exact n _ (Option.some.inj q).symm
 have nn:∀ {b:Addr},H b=none->b≠a:=fun {b} q z=>by rw[z,e] at q; cases q
 exact I.step (g':=s.gens) (d':=s.drawn) (t':=s.toks) (ch:=[]) (h':=s.heap) (fun _ z=>nomatch z) (fun b u _ _ _ q _=>q) (fun b u _ _ _ q _=>⟨u.slots,q⟩) (fun b u _ q n=>by rw[ka (nn n)]; exact n) (fun b u _ q=>⟨u,q⟩)
  (fun b xs q=>by rw[ka (ne q fun _ z=>by cases z)]; exact q) (fun b u v q=>by rw[ka (ne q fun _ z=>by cases z)]; exact q) (fun b ps q=>⟨#[],by rw[ka (ne q fun _ z=>by cases z),q]; simp⟩) (fun m hm=>hm)
  (fun b u q=>by
   have st:∀ {c:Addr}{v:HO},H c=some v->ObjOk X.prog X.w (upd H a (.frz o (.dT fl kvs))) s.heap c v:=fun {c v} q=>(I.hok c v q).stay (fun _ _ _ z=>z) (fun c' z=>by rw[ka (ne z fun _ z=>by cases z)]; exact z) fun c' xs z=>by rw[ka (ne z fun _ z=>by cases z)]; exact z
   by_cases z:b=a
   ·subst z;rw[j0] at q;cases q;exact⟨ho,st e⟩
   ·rw[ka z] at q;exact st q) I.bare
def sFz (i:Nat) (te:TE):TS:=fun D σ H=>te σ H fun v H1=>∃ a fl kvs,v=.ref a/\H1 a=some (.dT fl kvs)/\∀ o,D.nx (σ.set i (some v)) (upd H1 a (.frz o (.dT fl kvs)))
def jcu (hN:X.N.Nodup) (hi:X.N[i]?=some x) (hx:Loc X.env.scope x) (he:PE X e te) (hs:swapsWith e (some (.Name x pos')) pos.line X.env=pure false:=by rfl)
  (hf:X.fn x=true \/ X.env.scope.names.lookup x=some .local:=by first | exact .inl rfl | exact .inr rfl | assumption):PS X (.Assign [.Name x pos'] e pos) (sFz i te):=by
 intro pins s σ H D I h;refine wpAny_Assign_Name (thn (he pins s σ H _ I h) fun v s1 ⟨y,H1,I1,r1,a,fl,kvs,ey,e1,q1⟩=>?_) hs;subst ey;obtain⟨_,_,_,_,o,_,_,ho,_⟩:=(show ObjOk X.prog X.w H1 s1.heap a (.dT fl kvs) from I1.hok a _ e1);exact WO (I1.fz e1 ho) hN hi hx r1 (fun s2 I2=>⟨_,_,I2,q1 o⟩) hf
def Itk (fl:Bool) (a:Addr) (o:Obj) (n:Nat):It:=
 ⟨fun i H=>∃ kvs,H a=some (.frz o (.dT fl kvs))/\kvs.length=n/\i<n,fun i H x H'=>H'=H/\∃ b,x=.ref b/\∀ kvs kv,H a=some (.frz o (.dT fl kvs))->kvs[i]?=some kv->TupK fl H kv.1 b,fun i H=>∃ kvs,H a=some (.frz o (.dT fl kvs))/\kvs.length=n/\n<=i⟩
def jha (a it:Addr) (o:Obj) (n:Nat):Turn P w K tg (Itk fl a o n) [it] it (fun i h=>∃ es ep,o.data=.dict es ep/\h.IsKeyIter it a i n ep) where
 mem:=by simp
 obj:=fun i h st b hb=>by
  have e:b=it:=by simpa using hb
  subst e;obtain⟨es,ep,_,oi,e,c,d⟩:=st;exact⟨oi,e,fun v z=>by rw[d] at z; cases z⟩
 keep:=fun i h h' st k=>let ⟨es,ep,h1,h2⟩:=st; ⟨es,ep,h1,h2.at fun o e=>k it (by simp) o e⟩
 item:=by
  intro X hP hw hK hc i pins s σ H E I hf st hg;subst hP hw hK;obtain⟨kvs,e1,hn,hi⟩:=hg;obtain⟨es',ep',d',st⟩:=st;obtain⟨ho,_,es,ep,hx,hd,hz,hk⟩:=I.dt e1;rw[hd] at d';cases d';obtain⟨f0,f1,f2,f3,f4,f5⟩:=hf it (by simp);have hi':i<es'.size:=by omega
  obtain⟨b,kb,tb⟩:=hk i hi' (kvs[i]'(by omega)) (Xc _);refine jg9 st ho hd (by omega) hi' fun h' st' sb=>?_;have I1:Inv X pins σ H { s with heap:=h' }:=I.turned (t':=s.toks) (fun b o hb e=>(sb.2 b hb).trans e) f0 f1 f3 f4 f5
  obtain⟨oi,e,c,d⟩:=id st';refine⟨_,rfl,Zl (s:={ s with heap:=h' }) e c d (by decide) ⟨.ref b,H,I1,?_,⟨rfl,b,rfl,fun kvs' kv q1 q2=>?_⟩,⟨es',ep',hd,st'⟩,fun b hb=>(hf b hb).1⟩⟩
  ·rw[kb]; rfl
  ·rw[e1] at q1;cases q1;rw[Xc (by omega)] at q2;cases q2;exact tb
 done:=by
  intro X hP hw hK hc i pins s σ H E I hf st hg;subst hP hw hK;obtain⟨kvs,e1,hn,hi⟩:=hg;obtain⟨es',ep',d',st⟩:=st;obtain⟨ho,_,es,ep,hx,hd,hz,hk⟩:=I.dt e1;rw[hd] at d';cases d';obtain⟨f0,f1,f2,f3,f4,f5⟩:=hf it (by simp);exact jfx (I.ok.hd hc) st ho hd (by omega) (by omega) fun h' eb=>⟨rfl,I.turned (t':=s.toks) (fun b o hb e=>eb b o hb e) f0 f1 f3 f4 f5⟩
 self:=fun _ _ _ _ _ st h=>let ⟨_,_,_,st⟩:=st; wpAny_pyIter_keyiter st h
def jl0 (te:TE):TI:=fun σ H R=>te σ H fun x H1=>∃ a o fl kvs,x=.ref a/\H1 a=some (.frz o (.dT fl kvs))/\R (Itk fl a o kvs.length) H1
def jkZ {l:Expr}{tl:TE} (hl:PE X l tl):PI X tg l (jl0 tl):=by
 intro pins s σ H R I h;refine thn (hl pins s σ H _ I h) fun v s1 ⟨x,H1,I1,r1,a,o,fl,kvs,ex,e1,q⟩=>?_;subst ex;cases r1;obtain⟨ho,hm,es,ep,hx,hd,hz,hk⟩:=I1.dt e1;refine jg_ hm ho hx hd ⟨s1.heap.objs.size,[s1.heap.objs.size],_,_,H1,rfl,I1.kept (t':=s1.toks) fun b o e=>Xd _ e,jha a _ o kvs.length,⟨es,ep,hd,_,Xi _ rfl,rfl,by rw[hz]; rfl⟩,fun b hb=>?_,q⟩;have e:b=s1.heap.objs.size:=by simpa using hb
 subst e;exact I1.fpOk (Xe _) (I1.hok.fresh (Xe _))
def jfy (fl:Bool) (tk tv:TE):TE:=fun σ H Q=>∀ p,H p=none->tk σ (upd H p (.dT fl [])) fun x H1=>tv σ H1 fun y H2=>∃ b k,x=.ref b/\TupK fl H2 k b/\H2 p=some (.dT fl [])/\Q (.ref p) (upd H2 p (.dT fl [(k,y)]))
def jhb {ke ve:Expr}{tk:TE} (hu:X.A.units+2<cLine) (hk:PE X ke tk) (hv:PE X ve tv):PE X (.Dict [some ke] [ve] pos) (jfy fl tk tv):=by
 intro pins s σ H Q I q;have hn:=I.hok.fresh (Xe s.heap.objs.size);have I1:=I.laid (a:=s.heap.objs.size) (o:=.dT fl []) (h':=s.heap.push { cls:=.type "dict",data:=.dict #[] }) (t':=s.toks) (fun _ _ q=>Xd _ q) (Xe _) (jcr s.heap I.big);refine wpAny_Dict_any rfl rfl (by simp) (by simp) (pairTrees_cons_walk (thn (hk pins _ σ _ _ I1 (q _ hn)) fun u1 s2 ⟨x,H2,I2,rx,q2⟩=>thn (hv pins s2 σ H2 _ I2 q2) fun u2 s3 ⟨y,H3,I3,ry,b,k,ex,eb,ep,q3⟩=>pairTrees_nil_walk ?_));subst ex;cases (show u1=Value.ref b from rx);obtain⟨z,hd,xs,rel,dd⟩:=jkM I3.hok ep;have x0:xs=[]:=by cases rel; rfl
 subst x0;unfold storeAll;rw[List.forIn_cons];refine Xa (Xa (wpAny_dictSet_heap (hsz:=by simp) (knd:=kdT fl X.prog X.w) (by cases fl <;> first | exact (show X.A.units<cLine by omega) | exact (show X.A.units+1<cLine by omega)) (ZQ I3.hok eb) dd fun h' dd' hs=>Xb ?_))
 dsimp only;rw[List.forIn_nil];refine Xb ⟨.ref s.heap.objs.size,_,?_,rfl,q3⟩;obtain⟨oq,es,ep',hq,h2,h3,h4,_,h5⟩:=dd';refine ja7 I3 (by rw[ep]; exact True.intro) hs ⟨oq,hq⟩ ⟨by rw[Xy]; simp,hd,[(k,b,u2)],.cons ⟨rfl,?_,ry⟩ .nil,oq,es,ep',hq,h2,h3,h4,by simp⟩;exact eb.mono fun c ys ec=>by rw[ka (jj7 ec ep (fun z=>nomatch z))]; exact ec
end
end L2
namespace L3
open PySem PySem.Spec L2
class Kt (κ:Type) where
 fl:Bool
 k:κ->List Key
 inj:∀ {a b},k a=k b->a=b
 cd:Cd κ
 get:∀ {K F a v},cd.rep K F a v->∃ b,v=.ref b/\TupK fl F (k a) b
 put:∀ {K F a b},TupK fl F (k a) b->cd.rep K F a (.ref b)
def Yi {F:Hp}:∀ {l:List Int}{xs:List V},Paired (cI.rep K F) l xs->xs=(l.map fun i=>(Sum.inl i:Key)).map kV
 | _,_,.nil=>rfl
 | i::l,x::xs,.cons h t=>by
  have h:x=.int i:=h;rw[Xp,Xp,<- Yi t,h];rfl
def Yj {F:Hp}:∀ (l:List Int),Paired (cI.rep K F) l ((l.map fun i=>(Sum.inl i:Key)).map kV)
 | []=>.nil
 | _::l=>.cons rfl (Yj l)
def jbg:∀ {a b:List Int},(a.map fun i=>(Sum.inl i:Key))=(b.map fun i=>(Sum.inl i:Key))->a=b
 | [],[],_=>rfl
 | [],_::_,h=>by cases h
 | _::_,[],h=>by cases h
 | x::a,y::b,h=>by
  rw[Xp,Xp] at h;injection h with h1 h2
  rw[Sum.inl.inj h1,jbg h2]
instance:Kt (List Int):=⟨false,fun l=>l.map fun i=>.inl i,jbg,cT cI,fun⟨a,xs,h1,h2,h3⟩=>⟨a,h1,by show _=some (HO.tup _); rw[<- Yi h3]; exact h2⟩,fun {K F l b} h=>⟨b,_,rfl,h,Yj l⟩⟩
instance:Kt (Int×Int):=⟨false,fun p=>[.inl p.1,.inl p.2],fun {a b} h=>by
  injection h with h1 h2
  injection h2 with h2 _
  exact Prod.ext (Sum.inl.inj h1) (Sum.inl.inj h2),cP cI cI,fun {K F p v} ⟨a,u,w,h1,h2,h3,h4⟩=>⟨a,h1,by
  have h3:u=.int p.1:=h3;have h4:w=.int p.2:=h4;show F a=some (HO.tup _);rw[h2,h3,h4];rfl⟩,fun {K F p b} h=>⟨b,_,_,rfl,h,rfl,rfl⟩⟩
instance:Kt (List Int×Int):=⟨true,fun p=>.inl p.2::p.1.map fun i=>.inl i,fun {a b} h=>by
  injection h with h1 h2
  exact Prod.ext (jbg h2) (Sum.inl.inj h1),cP (cT cI) cI,fun {K F p v} ⟨a,u,w,h1,h2,⟨t,xs,h3,h4,h5⟩,h6⟩=>⟨a,h1,.inl p.2,_,t,rfl,by
  have h6:w=.int p.2:=h6;rw[h2,h3,h6];rfl,by rw[<- Yi h5]; exact h4⟩,fun {K F p b} ⟨k,r,t,e,h1,h2⟩=>by
  injection e with e1 e2
  subst e1 e2;exact⟨b,_,_,rfl,h1,⟨t,_,rfl,h2,Yj _⟩,rfl⟩⟩
section
variable [DecidableEq κ] [Kt κ] {F:Hp}{t:TE} 
def KtR (K:W.Frag) (F:Hp) (c:Cd α) (p:κ×α) (q:List Key×V):Prop:=q.1=Kt.k p.1/\c.rep K F p.2 q.2
def KtR.mono {F:Hp}{p:κ×α}{q:List Key×V} (s:Same F F') (h:KtR K F c p q):KtR K F' c p q:=⟨h.1,c.mono s h.2⟩
def jk0 {a b:κ}:decide (Kt.k a=Kt.k b)=decide (a=b):=by
 by_cases h:a=b
 ·subst h; simp
 ·rw[Xk h,Xk fun e=>h (Kt.inj e)]
def jfz {F:Hp}{k:κ}:∀ {l:List (κ×α)}{kvs:List (List Key×V)},Paired (KtR K F c) l kvs->(ZR l k=none/\V6 kvs (Kt.k k)=none) \/ ∃ x v,ZR l k=some x/\V6 kvs (Kt.k k)=some v/\c.rep K F x v
 | _,_,.nil=>.inl ⟨rfl,rfl⟩
 | p::l,q::kvs,.cons ⟨r1,r2⟩ s=>by
  by_cases h:p.1=k
  ·right
   refine⟨p.2,q.2,?_,Q1 (by rw[r1,h]),r2⟩;unfold ZR;rw[X7,Xu h];rfl
  ·have e1:ZR (p::l) k=ZR l k:=by
    unfold ZR;rw[X7,Xk h]
   have e2:V6 (q::kvs) (Kt.k k)=V6 kvs (Kt.k k):=Q2 (by rw[r1]; exact fun e=>h (Kt.inj e));rw[e1,e2];exact jfz s
def jih {F:Hp}{k:κ}:∀ {l:List (κ×α)}{kvs:List (List Key×V)},Paired (KtR K F c) l kvs->(kvs.any fun kv=>decide (kv.1=Kt.k k))=l.any fun p=>decide (p.1=k)
 | _,_,.nil=>rfl
 | p::l,q::kvs,.cons ⟨r1,r2⟩ s=>by
  rw[List.any_cons,List.any_cons,jih s,r1,jk0]
def jii {F:Hp}{k:κ}{x:α} (r:c.rep K F x v):∀ {l:List (κ×α)}{kvs:List (List Key×V)},Paired (KtR K F c) l kvs ->
  Paired (KtR K F c) (l.map fun p=>bif decide (p.1=k) then (p.1,x) else p) (kvs.map fun kv=>if kv.1=Kt.k k then (kv.1,v) else kv)
 | _,_,.nil=>.nil
 | p::l,q::kvs,.cons ⟨r1,r2⟩ s=>by
  rw[Xp,Xp];refine .cons ?_ (jii r s);by_cases h:p.1=k
  ·rw[Xu h,we,if_pos (by rw[r1,h])];exact⟨r1,r⟩
  ·rw[Xk h,X9,if_neg (by rw[r1]; exact fun e=>h (Kt.inj e))];exact⟨r1,r2⟩
def jk1 {F:Hp}{k:κ}{x:α}{l:List (κ×α)} (r:c.rep K F x v) (s:Paired (KtR K F c) l kvs):Paired (KtR K F c) (jkP l k x) (jaw kvs (Kt.k k) v):=by
 unfold jkP jaw;rw[jih s];cases l.any fun p=>decide (p.1=k) with
 | true=>rw[we,if_pos rfl]; exact jii r s
 | false=>rw[X9,if_neg (by decide)]; exact Paired.app s (.cons ⟨rfl,r⟩ .nil)
def pDT (c:Cd α):Pm (List (κ×α)):=⟨fun K F H l v=>∃ a kvs,v=.ref a/\H a=some (.dT (Kt.fl κ) kvs)/\Paired (KtR K F c) l kvs,
 fun e ⟨a,xs,h1,h2,h3⟩=>⟨a,xs,h1,e.h _ _ h2,Paired.mapP h3 fun _ _=>KtR.mono e.f⟩⟩
def rDT (c:Cd α):Rs (List (κ×α)):=⟨fun K H F2 H2 l v=>∃ a kvs,v=.ref a/\H a=none/\F2 a=none/\H2 a=some (.dT (Kt.fl κ) kvs)/\Paired (KtR K F2 c) l kvs,
 fun s ⟨a,xs,h1,h2,h⟩=>⟨a,xs,h1,s.free h2,h⟩⟩
def cFD (c:Cd α):Cd (List (κ×α)):=⟨fun K F l v=>∃ a o kvs,v=.ref a/\F a=some (.frz o (.dT (Kt.fl κ) kvs))/\Paired (KtR K F c) l kvs,
 fun s ⟨a,o,xs,h1,h2,h3⟩=>⟨a,o,xs,h1,s _ _ h2,Paired.mapP h3 fun _ _=>KtR.mono s⟩⟩
structure OwnDT (K:W.Frag) (He F H:Hp) (c:Cd α) (l:List (κ×α)) (a:Addr):Prop where
 e:He a=none
 f:F a=none
 h:∃ kvs,H a=some (.dT (Kt.fl κ) kvs)/\Paired (KtR K F c) l kvs
def OwnDT.mono {l:List (κ×α)} (o:OwnDT K He F H c l a) (E:Ext F H F' H'):OwnDT K He F' H' c l a:=by
 obtain⟨xs,h1,h2⟩:=o.h;refine⟨o.e,?_,xs,E.h _ _ h1,Paired.mapP h2 fun _ _=>KtR.mono E.f⟩;cases e:F' a with
 | none=>rfl
 | some u=>
  rcases E.new a u e with z | z
  ·rw[o.f] at z; cases z
  ·rw[h1] at z; cases z
def OwnDT.b {l:List (κ×α)} (o:OwnDT K He F H c l a):(pDT c).rel K F H l (.ref a):=let ⟨xs,h1,h2⟩:=o.h; ⟨a,xs,rfl,h1,h2⟩
def jhc:Ev K σ F H (jh7 (Kt.fl κ)) (rDT (κ:=κ) c) (some []):=by
 intro F1 H1 E z e Q k a ha;cases e;exact k _ F1 _ (Ext.newO E.sub ha) ⟨a,[],rfl,ha,E.sub.free ha,j0,.nil⟩
def jdl {mm_:Option α} (hd:Ev K σ F H td (rF (cFD c)) ml) (hk:Ev K σ F H ty (rF Kt.cd) mk) (e_:mm_=(ml.bind fun l=>mk.bind fun k=>V7 l k)):Ev K σ F H (jfd td ty) (rF c) mm_:=by
 subst e_;intro F1 H1 E z e Q k;obtain⟨l,el,e⟩:=bind_some e;obtain⟨y,ey,e⟩:=bind_some e;unfold V7 at e;refine hd F1 H1 E l el _ ?_;rintro w F2 H2 E2 hl;refine hk F2 H2 (E.trans E2) y ey _ fun v F3 H3 E3 hv=>?_;obtain⟨a,o,kvs,rfl,h1,h2⟩:=(cFD c).mono E3.f hl;obtain⟨b,rfl,hb⟩:=Kt.get hv;rcases jfz (k:=y) h2 with⟨g1,g2⟩ | ⟨x,v,g1,g2,r⟩
 ·rw[g1] at e; cases e
 ·rw[g1] at e;cases e;refine⟨a,v,rfl,?_,k v F3 H3 (E2.trans E3) r⟩;rw[<- g2];exact .inr ⟨_,kvs,_,b,.inr ⟨o,E3.sub _ _ h1⟩,rfl,hb.mono fun _ _ z=>E3.sub _ _ z,rfl⟩
def ZW {y:κ}{l:List (κ×α)}{mm_:Option α} (hd:Ev K σ F H td (rF (cFD c)) (some l)) (hk:Ev K σ F H ty (rF Kt.cd) (some y)) (e_:mm_=V7 l y):Ev K σ F H (jfd td ty) (rF c) mm_:=jdl hd hk e_
def jbh {mx mm_:Option α} (hd:Ev K σ F H td (pDT c).rs ml) (hk:Ev K σ F H ty (rF Kt.cd) mk) (hx:Ev K σ F H tv (rF c) mx) (e_:mm_=(ml.bind fun l=>mk.bind fun k=>mx.bind fun x=>some ((ZR l k).getD x))):Ev K σ F H (jff td ty tv) (rF c) mm_:=by
 subst e_;intro F1 H1 E z e Q k;obtain⟨l,el,e⟩:=bind_some e;obtain⟨y,ey,e⟩:=bind_some e;obtain⟨x0,ex,e⟩:=bind_some e;cases e;refine hd F1 H1 E l el _ ?_;rintro w F2 H2 E2 hl;obtain⟨a,kvs0,rfl,h10,h20⟩:=id hl;refine⟨a,rfl,.inr ⟨_,kvs0,.inl h10⟩,hk F2 H2 (E.trans E2) y ey _ fun v F3 H3 E3 hv=>hx F3 H3 (E.trans (E2.trans E3)) x0 ex _ fun u F4 H4 E4 hu=>?_⟩;obtain⟨a',kvs,ea,h1,h2⟩:=(pDT c).mono (E3.trans E4) hl;cases ea;obtain⟨b,rfl,hb⟩:=Kt.get hv;refine⟨V6 kvs (Kt.k y),DGet.t h1 (hb.mono fun _ _ z=>E4.h _ _ (E3.sub _ _ z)),k _ F4 H4 (E2.trans (E3.trans E4)) ?_⟩;show c.rep K F4 ((ZR l y).getD x0) ((V6 kvs (Kt.k y)).getD u);rcases jfz (k:=y) h2 with⟨g1,g2⟩ | ⟨x,v,g1,g2,r⟩
 ·rw[g1,g2]; exact hu
 ·rw[g1,g2]; exact r
def Yk {y:κ}{l:List (κ×α)}{x:α}{mm_:Option α} (hd:Ev K σ F H td (pDT c).rs (some l)) (hk:Ev K σ F H ty (rF Kt.cd) (some y)) (hx:Ev K σ F H tv (rF c) (some x)) (e_:mm_=some ((ZR l y).getD x)):Ev K σ F H (jff td ty tv) (rF c) mm_:=jbh hd hk hx e_
def jhd (hk:Ev K σ F H ty (rF Kt.cd) mk) (hv:Ev K σ F H tv (rF c) mv):Ev K σ F H (jfy (Kt.fl κ) ty tv) (rDT c) (mk.bind fun k=>mv.bind fun v=>some [(k,v)]):=by
 intro F1 H1 E z e Q k p hp;obtain⟨y,ey,e⟩:=bind_some e;obtain⟨x,ex,e⟩:=bind_some e;cases e;have E0:Ext F1 H1 F1 (upd H1 p (.dT (Kt.fl κ) [])):=Ext.newO E.sub hp;have f0:F1 p=none:=E.sub.free hp;refine hk F1 _ (E.trans E0) y ey _ fun v F2 H2 E2 hv2=>hv F2 H2 (E.trans (E0.trans E2)) x ex _ fun u F3 H3 E3 hu=>?_;obtain⟨b,rfl,hb⟩:=Kt.get (Kt.cd.mono E3.f hv2);have E23:=E2.trans E3;have hp3:H3 p=some (.dT (Kt.fl κ) []):=E23.h _ _ j0;have o1:OwnDT (κ:=κ) K H1 F1 (upd H1 p (.dT (Kt.fl κ) [])) c [] p:=⟨hp,f0,[],j0,.nil⟩;have o3:=o1.mono E23;refine⟨b,Kt.k y,rfl,hb.mono fun _ _ z=>E3.sub _ _ z,hp3,k _ F3 _ ((E0.trans E23).upd hp o3.f) ⟨p,_,rfl,hp,o3.f,j0,.cons ⟨rfl,hu⟩ .nil⟩⟩
def jdm {mm_:Option (List (κ×α))} (hk:Ev K σ F H ty (rF Kt.cd) mk) (hv:Ev K σ F H tv (rF c) mv) (e_:mm_=(mk.bind fun k=>mv.bind fun v=>some [(k,v)])):Ev K σ F H (jfy (Kt.fl κ) ty tv) (rDT c) mm_:=e_ ▸ jhd hk hv
def jji {m:Option (List (κ×α))}{f:List (κ×α)->Option δ}{r:δ} (he:Ev K σ F H te (rDT c) m) (X:Ext Fe He F H) (hm:m.bind f=some r) (k:∀ l a F' H',f l=some r->Ext F H F' H'->Ext Fe He F' H'->H a=none->OwnDT K He F' H' c l a->u' D (σ.set i (some (.ref a))) H'):QT (U9 te (k9 i)) u' D σ H:=by
 obtain⟨a,ea,hm⟩:=bind_some hm;refine he F H (Ext.refl X.sub) a ea _ ?_;rintro v F2 H2 E ⟨b,xs,rfl,h1,h2,h3,h4⟩;exact k a b F2 H2 hm E (X.trans E) h1 ⟨X.h.free h1,h2,xs,h3,h4⟩
def jhe {l:List (κ×α)}{f:List (κ×α)->Option δ}{r:δ} (hi:σ[k']?=some (some (.ref a))) (o:OwnDT K He F H c l a) (hv:Ev K σ F H tv (rF c) mv) (hk:Ev K σ F H ty (rF Kt.cd) mk) (X:Ext Fe He F H) (hm:(mv.bind fun v=>mk.bind fun k=>ji8 l k v).bind f=some r)
  (k:∀ l' F' H',f l'=some r->Chg a F H F' H'->Ext Fe He F' H'->OwnDT K He F' H' c l' a->D.nx σ H'):ji7 (Jo k') ty tv D σ H:=by
 obtain⟨l',el,hm⟩:=bind_some hm;obtain⟨x,ex,el⟩:=bind_some el;obtain⟨y,ey,el⟩:=bind_some el;unfold ji8 at el;obtain⟨hl,rfl⟩:=jS el;refine hv F H (Ext.refl X.sub) x ex _ fun v F2 H2 E hvv=>⟨_,hi,hk F2 H2 E y ey _ fun w F3 H3 E3 hw=>?_⟩;obtain⟨b,rfl,hb⟩:=Kt.get hw;have E':=E.trans E3;have o2:=o.mono E';obtain⟨kvs,h1,h2⟩:=o2.h;have h5:=jk1 (k:=y) (c.mono E3.f hvv) h2;exact⟨a,_,rfl,DPut.t h1 (hb.mono fun _ _ z=>E3.sub _ _ z) (by rw[Xy,<- h2.length]; exact hl),k _ F3 _ hm (Uk E') ((X.trans E').upd o.e o2.f) ⟨o.e,o2.f,_,j0,h5⟩⟩
def jhf {m:Option (List (κ×α))}{f:List (κ×α)->Option δ}{r:δ} (he:Ev K σ F H te (rDT c) m) (X:Ext Fe He F H) (hm:m.bind f=some r) (k:∀ l v F' H',f l=some r->Ext F H F' H'->Ext Fe He F' H'->(cFD c).rep K F' l v->D.nx (σ.set i (some v)) H'):sFz i te D σ H:=by
 obtain⟨l,el,hm⟩:=bind_some hm;refine he F H (Ext.refl X.sub) l el _ ?_;rintro v F2 H2 E ⟨a,kvs,rfl,h1,h2,h3,h4⟩;refine⟨a,_,kvs,rfl,h3,fun o=>?_⟩;have E2:Ext F H (upd F2 a (.frz o (.dT (Kt.fl κ) kvs))) (upd H2 a (.frz o (.dT (Kt.fl κ) kvs))):=⟨E.f.trans (qA h2),Same.upd2 E.h h1,fun b u hb=>by
  by_cases q:b=a
  ·subst q; exact .inr (W0 h1)
  ·rw[ka q] at hb; exact E.new b u hb,Same.updB E.sub⟩
 exact k l _ _ _ hm E2 (X.trans E2) ⟨a,o,kvs,rfl,j0,Paired.mapP h4 fun _ _=>KtR.mono (qA h2)⟩
def jjj {m:Option (List (κ×α))}{f:List (κ×α)->Option δ}{r:δ} (he:Ev K σ F H te (rDT c) m) (X:Ext Fe He F H) (hm:m.bind f=some r) (k:∀ l v F' H',f l=some r->Ext F H F' H'->Ext Fe He F' H'->(cFD c).rep K F' l v->u' D (σ.set i (some v)) H'):QT (sFz i te) u' D σ H:=
 jhf (D:={ D with nx:=u' D }) he X hm k
def jjk {j:Nat}{l:List (κ×α)}{f:List (κ×α)->Option δ}{r:δ} (hi:σ[j]?=some (some (.ref a))) (o:OwnDT K He F H c l a) (X:Ext Fe He F H) (hm:(some l).bind f=some r) (k:∀ l v F' H',f l=some r->Chg a F H F' H'->Ext Fe He F' H'->(cFD c).rep K F' l v->D.nx (σ.set i (some v)) H'):sFz i (Jo j) D σ H:=by
 obtain⟨kvs,h1,h2⟩:=o.h;refine⟨_,hi,a,_,kvs,rfl,h1,fun ob=>?_⟩;have X2:Ext Fe He (upd F a (.frz ob (.dT (Kt.fl κ) kvs))) (upd H a (.frz ob (.dT (Kt.fl κ) kvs))):=⟨X.f.trans (qA o.f),Same.upd2 X.h o.e,fun b u hb=>by
  by_cases q:b=a
  ·subst q; exact .inr (W0 o.e)
  ·rw[ka q] at hb; exact X.new b u hb,Same.updB X.sub⟩
 exact k l _ _ _ hm ⟨qA o.f,fun b u q h=>by rw[ka q]; exact h,fun b u q h=>by rw[ka q] at h; exact .inl h⟩ X2 ⟨a,ob,kvs,rfl,j0,Paired.mapP h2 fun _ _=>KtR.mono (qA o.f)⟩
def jfA {F:Hp}{b:Addr} (s2:Same F H) (hb:H b=some (.tup xs)):∃ F',Ext F H F' H/\F' b=some (.tup xs):=by
 refine⟨upd F b (.tup xs),⟨fun c' u hc=>?_,Same.refl _,fun c' u hc=>?_,fun c' u hc=>?_⟩,j0⟩
 ·by_cases z:c'=b
  ·subst z;have:=s2 _ _ hc;rw[hb] at this;rw[j0];exact this
  ·rw[ka z]; exact hc
 ·by_cases z:c'=b
  ·subst z;exact .inr (jkn hb)
  ·rw[ka z] at hc; exact .inl hc
 ·by_cases z:c'=b
  ·subst z;rw[j0] at hc;rw[<- hc];exact hb
  ·rw[ka z] at hc; exact s2 _ _ hc
def jjl {F:Hp}{b:Addr} (s2:Same F H) (hb:TupK fl H ks b):∃ F',Ext F H F' H/\TupK fl F' ks b:=by
 cases fl with
 | false=>exact jfA s2 hb
 | true=>
  obtain⟨k,r,t,e,h1,h2⟩:=hb;obtain⟨F1,E1,z1⟩:=jfA s2 h2;obtain⟨F2,E2,z2⟩:=jfA E1.sub h1;exact⟨F2,E1.trans E2,k,r,t,e,z2,E2.f _ _ z1⟩
def jk2 {l:List (κ×α)} (h:∀ F H,G F H->F a=some (.frz o (.dT (Kt.fl κ) kvs))/\Same F H) (hp:Paired (KtR K F1 c) l kvs):ItOk K (Itk (Kt.fl κ) a o kvs.length) Kt.cd (l.map (·.1)) G where
 go:=fun i F H g hi=>by
  rw[Xj,hp.length] at hi;exact⟨kvs,(h F H g).2 _ _ (h F H g).1,rfl,hi⟩
 yld:=fun i F H x H' g y k hk=>by
  obtain⟨e,b,rfl,y⟩:=y;subst e;obtain⟨s1,s2⟩:=h F H' g;rw[Xx] at hk;obtain⟨p,hpi,rfl⟩:=Option.map_eq_some_iff.mp hk;obtain⟨q,hq,r1,r2⟩:=Paired.at hp hpi;have hb:=y kvs q (s2 _ _ s1) hq;rw[r1] at hb;obtain⟨F',E',hF⟩:=jjl s2 hb;exact⟨F',E',Kt.put hF⟩
 stop:=fun F H g=>by
  rw[Xj,hp.length];exact⟨kvs,(h F H g).2 _ _ (h F H g).1,rfl,Xe _⟩
def jk3 {m:Option (List (κ×α))} (h:Ev K σ F H t (rF (cFD c)) m):Ei K σ F H Fe He (jl0 t) (Kt.cd (κ:=κ)) (m.bind fun l=>some (l.map (·.1))):=by
 intro X l e R k;obtain⟨l0,e0,e⟩:=bind_some e;cases e;refine h F H (Ext.refl X.sub) l0 e0 _ ?_;rintro v F2 H2 E ⟨a,o,kvs,rfl,h1,h2⟩;exact⟨a,o,_,kvs,rfl,E.sub _ _ h1,k _ F2 H2 E (jk2 (F1:=F2) (fun F' H' g=>⟨g.2 _ _ h1,g.1.sub⟩) h2)⟩
def jdn {l:List (κ×α)}{mm_:Option (List κ)} (h:Ev K σ F H t (rF (cFD c)) (some l)) (e_:mm_=some (l.map (·.1))):Ei K σ F H Fe He (jl0 t) (Kt.cd (κ:=κ)) mm_:=e_ ▸ jk3 h
end
end L3
namespace L2
open PySem PySem.Spec PyProof.Rows
section
open Builtin.Str in
def Qt (x:Str):List Str:=if (decide (x.length<(" ":Str).length)||decide (strKind x<strKind (" ":Str)))=true then [x] else if (occurrences x (" ":Str) 0 x.length (x.length+1)).isEmpty=true then [x] else partsBetween x (occurrences x (" ":Str) 0 x.length (x.length+1)) (" ":Str).length
def jcv:V->List V->Hp->VK->Prop:=fun x vs H Q=>∃ z:Str,x=.str z/\vs=[.str (" ":Str)]/\z.length<=sizeLine/\(Qt z).length<=sizeLine/\∀ p,H p=none->Q (.ref p) (upd H p (.lst ((Qt z).map V.str)))
def ZX:∀ (ws:List Str) (t:Nat),Vals (ws.map V.str) (strsFrom t ws)
 | [],_=>.nil
 | _::ws,t=>.cons ⟨_,rfl⟩ (ZX ws (t+1))
def Q4:MtM X "str.split" jcv:=by
 intro pins s σ H x vs v us Q I rx rv h;obtain⟨z,rfl,rfl,hz,hn,q⟩:=h;obtain⟨t,rfl⟩:=rx;obtain⟨u,rfl,ru⟩:=rv.one;obtain⟨t',rfl⟩:=ru;have hT:=typeIs_str s z t;by_cases h1:(decide (z.length<(" ":Str).length)||decide (Builtin.Str.strKind z<Builtin.Str.strKind (" ":Str)))=true
 ·have e:Qt z=[z]:=by unfold Qt; rw[if_pos h1]
  rw[e] at q;refine call_meets F.slot_str_split hT F.entry_str_split (F.args_str_split_2 _ _) (meets_str_split_cannot_occur z _ t t' h1) ?_;exact⟨.ref _,_,I.lnew (t':=s.toks) (ys:=[V.str z]) (its:=[Value.str z t]) (.cons (show RelV (V.str z) (Value.str z t) from ⟨_,rfl⟩) .nil) (by rw[Xy]; show 1<=16777216; decide),rfl,q _ I.fresh⟩
 ·have h1':=eq_false_of_ne_true h1;by_cases h2:(Builtin.Str.occurrences z (" ":Str) 0 z.length (z.length+1)).isEmpty=true
  ·have e:Qt z=[z]:=by unfold Qt; rw[if_neg h1,if_pos h2]
   rw[e] at q;refine call_meets F.slot_str_split hT F.entry_str_split (F.args_str_split_2 _ _) (meets_str_split_not_found z _ t t' h1' (by decide) h2) ?_;exact⟨.ref _,_,I.lnew (t':=s.toks) (ys:=[V.str z]) (its:=[Value.str z t]) (.cons (show RelV (V.str z) (Value.str z t) from ⟨_,rfl⟩) .nil) (by rw[Xy]; show 1<=16777216; decide),rfl,q _ I.fresh⟩
  ·have e:Qt z=Builtin.Str.partsBetween z (Builtin.Str.occurrences z (" ":Str) 0 z.length (z.length+1)) (" ":Str).length:=by unfold Qt; rw[if_neg h1,if_neg h2]
   rw[e] at q hn;refine call_meets F.slot_str_split hT F.entry_str_split (F.args_str_split_2 _ _) (meets_str_split_sep z _ t t' h1' (by decide) (eq_false_of_ne_true h2) hz hn) ?_;exact⟨.ref _,_,I.lnew (its:=strsFrom s.toks _) (ZX _ _) (by rw[Xj]; exact hn),rfl,q _ I.fresh⟩
end
end L2
namespace L3
open PySem PySem.Spec L2
section
variable {F:Hp}{t:TE} 
@[irreducible] def Gi (x:Str):Option (List Str):=if x.length<=sizeLine/\(Qt x).length<=sizeLine then some (Qt x) else none
def US {F:Hp}:∀ (ws:List Str),Paired (cS.rep K F) ws (ws.map V.str)
 | []=>.nil
 | _::ws=>.cons rfl (US ws)
def jcw {m:Option Str} (h:Ev K σ F H t (rF cS) m) (hb:Ev K σ F H tb (rF cS) (some (" ":Str))):Ev K σ F H (tBM K "str" jcv t (jH tb xh)) (rO cS) (m.bind fun x=>Gi x):=by
 intro F1 H1 E z e Q k;obtain⟨x,ex,e⟩:=bind_some e;unfold Gi at e;obtain⟨hc,rfl⟩:=jS e;refine h F1 H1 E x ex _ fun v F2 H2 E2 hv=>?_;obtain rfl:v=.str x:=hv;refine⟨rfl,hb F2 H2 (E.trans E2) _ rfl _ fun w F3 H3 E3 hw=>?_⟩;obtain rfl:w=.str (" ":Str):=hw;exact⟨x,rfl,rfl,hc.1,hc.2,fun p hp=>yz E3.sub (US _) (fun v F4 H4 E4 r=>k v F4 H4 (E2.trans (E3.trans E4)) (let ⟨a,xs,e1,e2,e3⟩:=r; ⟨a,xs,e1,(E2.trans E3).h.free e2,e3⟩)) p hp⟩
def Qf {m:Option Str}{mm_:Option (List Str)} (h:Ev K σ F H t (rF cS) m) (hb:Ev K σ F H tb (rF cS) (some (" ":Str))) (e_:mm_=m.bind fun x=>Gi x):Ev K σ F H (tBM K "str" jcv t (jH tb xh)) (rO cS) mm_:=e_ ▸ jcw h hb
def ZY {mm_:Option (List Str)} (h:Ev K σ F H t (rF cS) (some x)) (hb:Ev K σ F H tb (rF cS) (some (" ":Str))) (e_:mm_=Gi x):Ev K σ F H (tBM K "str" jcv t (jH tb xh)) (rO cS) mm_:=e_ ▸ jcw h hb
@[irreducible] def jjm (x:Str):Option Int:=if x.length<=sizeLine then some (x.length:Int) else none
def jk4:Op1 K (fun x H Q=>∃ z:Str,[x]=[V.str z]/\z.length<=sizeLine/\Q (.int z.length) H) (pF cS) (rF cI) (fun x=>jjm x):=by
 intro F H a x s hx z hz Q k;unfold jjm at hz;obtain⟨hc,rfl⟩:=jS hz;obtain rfl:x=.str a:=hx;exact⟨a,rfl,hc,k _ F H (Ext.refl s) rfl⟩
@[irreducible] def inS (x y:Str):Bool:=!(Builtin.Str.occurrences y x 0 y.length 1).isEmpty
def jl1:Op2 K (fun x y H Q=>∃ i j,x=V.str i/\y=V.str j/\Q (.bl (!(Builtin.Str.occurrences j i 0 j.length 1).isEmpty)) H) (pF cS) (pF cS) (rF cB) (fun a b=>some (inS a b)):=by
 intro F H a b x y s hx hy z hz Q k;cases hz;obtain rfl:x=.str a:=hx;obtain rfl:y=.str b:=hy;refine⟨a,b,rfl,rfl,k _ F H (Ext.refl s) ?_⟩;unfold inS;rfl
@[irreducible] def atS (x:Str) (i:Int):Option Str:=if x.length<=sizeLine then (atI x.cps.toList i).map fun c=>⟨#[c]⟩ else none
def jl2:Op2 K jmG (pF cS) (pF cI) (rF cS) (fun a b=>atS a b):=by
 intro F H a b x y s hx hy z hz Q k;unfold atS at hz;dsimp only at hz;by_cases hc:a.length<=sizeLine
 ·rw[if_pos hc] at hz;obtain⟨c,hc2,rfl⟩:=Option.map_eq_some_iff.mp hz;obtain rfl:x=.str a:=hx;obtain rfl:y=.int b:=hy;exact⟨a,b,c,rfl,rfl,hc,hc2,k _ F H (Ext.refl s) rfl⟩
 ·rw[if_neg hc] at hz; cases hz
end
end L3
namespace L2
open PySem PySem.Spec PyProof.Rows
section
def jhg {d:Addr}{es:Array DictEntry}{Q:Option Value->Shared->Prop} (hI:s.heap.IsValIter it d i n ep) (ho:s.heap.get? d=some o) (hD:o.data=.dict es ep) (hn:es.size=n) (hi:i<es.size)
  (k:∀ h',h'.IsValIter it d (i+1) n ep->Heap.SameBut it s.heap h'->Q (some es[i].val) { s with heap:=h' }):wpAny (model prog w) A (pyNext (.ref it)) Q E s:=by
 obtain⟨oi,gi,ci,di⟩:=id hI;have tI:=hI.typeIs;unfold pyNext;refine Xa (wpAny_attempt (wpAny_callSpecial?_slot (name:=Str.ofString "__next__") tI F.slot_dict_valueiterator_next (XI F.slot_dict_valueiterator_next tI F.entry_dict_valueiterator_next ?_ (F.args_dict_valueiterator_next_1 _))));refine Xa (Xb (Xa (Xa ?_)))
 first | refine Xa (wpAny_typeNameOfWhole_valiter tI (Xb ?_)) | refine Xa (wpAny_typeNameOf_valiter tI (Xb ?_))
 refine Xa (wpAny_fieldsOf gi di ?_);have no:Builtin.Dict_items.ownsTuple "dict_valueiterator"=false:=by decide
 rw[no];simp only[XG,X0];show wpAny _ _ (if (Value.ref d==Value.none)=true then _ else _) _ _ s;rw[if_neg (show ¬ ((Value.ref d==Value.none)=true) from Xh)];refine Xa (Xb (Xa (wpAny_dictEntries ho hD ?_)));rw[if_neg (by rw[hn]; simp)];refine Xa (Xb (Xa (wpAny_dictEpoch ho hD ?_)));rw[if_neg (by simp)];refine Xb ?_;have ni:¬ ((i:Int)<0):=by omega
 simp only[ni,X0,XS,Array.getElem?_eq_getElem hi];refine Xa ?_
 first | refine Xa (wpAny_typeNameOfWhole_valiter tI (Xb ?_)) | refine Xa (wpAny_typeNameOf_valiter tI (Xb ?_))
 refine Xa (wpAny_isOneOf_valiter tI ?_);show wpAny _ _ (setField (.ref it) 1 (rawInt ((i:Int)+1)) >>= _) _ _ s;refine Xa (wpAny_setField gi di (by simp) ?_);have hI2:(s.heap.update it (Obj.mapFields (·.setIfInBounds 1 (rawInt ((i:Int)+1))))).IsValIter it d (i+1) n ep:=
  ⟨_,Heap.get?_update_self _ gi (Obj.isFreed_of_fields (Obj.data_mapFields di _)),(Obj.cls_mapFields ..).trans ci,by rw[Obj.data_mapFields di]; simp[rawInt]⟩
 refine Xa (wa ?_);refine Xa (wpAny_isOneOf_valiter (s:={ s with heap:=s.heap.update it (Obj.mapFields (·.setIfInBounds 1 (rawInt ((i:Int)+1)))) }) hI2.typeIs ?_)
 refine Xa (wpAny_isOneOf_valiter (s:={ s with heap:=s.heap.update it (Obj.mapFields (·.setIfInBounds 1 (rawInt ((i:Int)+1)))) }) hI2.typeIs ?_)
 show wpAny _ _ (pure es[i].val) _ _ _;exact Xb (Xb ⟨_,rfl,Xb (k _ hI2 (Heap.SameBut.update ..))⟩)
def jdo {d:Addr}{es:Array DictEntry}{Q:Option Value->Shared->Prop} (hh:A.handled=none) (hI:s.heap.IsValIter it d i n ep) (ho:s.heap.get? d=some o) (hD:o.data=.dict es ep) (hn:es.size=n) (hi:es.size<=i)
  (k:∀ h',Heap.ExtBut it s.heap h'->Q none { s with heap:=h' }):wpAny (model prog w) A (pyNext (.ref it)) Q E s:=by
 obtain⟨oi,gi,ci,di⟩:=id hI;have tI:=hI.typeIs;unfold pyNext;refine Xa (wpAny_attempt (wpAny_callSpecial?_slot (name:=Str.ofString "__next__") tI F.slot_dict_valueiterator_next (XI F.slot_dict_valueiterator_next tI F.entry_dict_valueiterator_next ?_ (F.args_dict_valueiterator_next_1 _))));refine Xa (Xb (Xa (Xa ?_)))
 first | refine Xa (wpAny_typeNameOfWhole_valiter tI (Xb ?_)) | refine Xa (wpAny_typeNameOf_valiter tI (Xb ?_))
 refine Xa (wpAny_fieldsOf gi di ?_);have no:Builtin.Dict_items.ownsTuple "dict_valueiterator"=false:=by decide
 rw[no];simp only[XG,X0];show wpAny _ _ (if (Value.ref d==Value.none)=true then _ else _) _ _ s;rw[if_neg (show ¬ ((Value.ref d==Value.none)=true) from Xh)];refine Xa (Xb (Xa (wpAny_dictEntries ho hD ?_)));rw[if_neg (by rw[hn]; simp)];refine Xa (Xb (Xa (wpAny_dictEpoch ho hD ?_)));rw[if_neg (by simp)];refine Xb ?_;have ni:¬ ((i:Int)<0):=by omega
 simp only[ni,X0,XS,Array.getElem?_eq_none hi];refine Xa ?_
 first | refine Xa (wpAny_typeNameOfWhole_valiter tI (Xb ?_)) | refine Xa (wpAny_typeNameOf_valiter tI (Xb ?_))
 show wpAny _ _ (setField (.ref it) 0 .none >>= _) _ _ s;refine Xa (wpAny_setField gi di (by simp) ?_);show wpAny _ _ (newExc (.type "StopIteration") [] >>= _) _ _ _;refine Xa ?_;simp only[newExc,newTuple];refine Xa (XO (Xa (m:=firstArgMember _ _) (wpAny_of_eq (a:=Value.none) (by first | rfl | (simp only[firstArgMember]; rfl)) (XO ?_ (by size_fits)))) (by size_fits))
 simp only[raiseNew];refine Xa (wpAny_handled ?_);have h0:A.in1.handled=none:=hh;rw[h0];refine Xa (Xb (wpAny_throw ?_));refine Xa (wpAny_isInstance (T:="StopIteration") (b:=true) ⟨_,Xi _ rfl,rfl⟩ isSubtype_stop (Xb (k _ ?_)));exact((Heap.SameBut.update ..).extBut.push _).push _
def jhh {v d:Addr}{es:Array DictEntry} (hv:s.heap.IsValuesView v d) (ho:s.heap.get? d=some o) (hD:o.data=.dict es ep)
  (k:Q (.ref s.heap.objs.size) { s with heap:=s.heap.push { cls:=.type "dict_valueiterator",data:=.fields #[.ref d,.int 0 0,.int es.size 0,.int ep 0] } }):wpAny (model prog w) A (pyIter (.ref v)) Q E s:=by
 obtain⟨ov,hov,hcv,hdv⟩:=id hv;refine wpAny_pyIter_slot hv.typeIs F.slot_dict_values_iter (XI F.slot_dict_values_iter hv.typeIs F.entry_dict_values_iter ?_ (F.args_dict_values_iter_1 _));unfold Builtin.«dict_values.__iter__»;refine Xa (Xb ?_);refine Xa ?_;unfold Builtin.Dict_items.dictOf;refine Xa (wpAny_field hov hdv (x:=.ref d) rfl (Xb ?_));refine Xa ?_;unfold Builtin.Dict_items.newIterator;refine Xa (wpAny_dictEntries ho hD ?_);refine Xa (wpAny_dictEpoch ho hD ?_);have hown:Builtin.Dict_items.ownsTuple "dict_valueiterator"=false:=by decide
 simp only[hown,XG,X0];refine XO (Xb ⟨_,rfl,"dict_valueiterator",_,⟨_,Xi _ rfl,rfl⟩,F.slot_dict_valueiterator_next.lookup,?_⟩);simpa [rawInt] using k
def jfB {d:Addr} (hd:(d==sysModules)=false) (tD:s.TypeIs (.ref d) "dict")
  (k:Q (.ref s.heap.objs.size) { s with heap:=s.heap.push { cls:=.type "dict_values",data:=.fields #[.ref d] } }):wpAny (model prog w) A (call (.builtin "dict.values") [.ref d]) Q E s:=by
 refine XI F.slot_dict_values tD F.entry_dict_values ?_ (F.args_dict_values_1 _);refine Xa ?_;unfold Builtin.Dict.noArgs;refine Xa (wpAny_notOrdered_dict tD ?_);show wpAny _ _ (pure d) _ _ s;refine Xb ?_;show wpAny _ _ (Builtin.Dict.showsAll d >>= _) _ _ s;unfold Builtin.Dict.showsAll;rw[if_neg (by rw[hd]; exact Xh)];refine Xa (Xb ?_);exact Xa (XO (Xb ⟨_,rfl,k⟩))
end
section
def Inv.dtv (I:Inv X pins σ H s) (e:H a=some (.frz o (.dT fl kvs))):s.heap.get? a=some o/\∃ es ep,o.data=.dict es ep/\es.size=kvs.length /\
  ∀ (i:Nat) (hi:i<es.size) (kv:List Key×V),kvs[i]?=some kv->RelV kv.2 es[i].val:=by
 obtain⟨h1,z,y,xs,r,o',es,ep,h2,h3,h4,h5,h6⟩:=I.hok a _ e;rw[h1] at h2;cases h2;have hl:es.size=xs.length:=by rw[<- Xt,h5,Xj]
 refine⟨h1,es,ep,h4,by rw[hl,Paired.length r],fun i hi kv hk=>?_⟩;obtain⟨x,hx,q1,q2,q3⟩:=L3.Paired.at r hk;have e1:es.toList[i]?=some es[i]:=by rw[Array.getElem?_toList]; simp[hi]
 rw[h5,Xx,hx] at e1;have e2:entryOfKey (kdT fl X.prog X.w) x=es[i]:=by simpa using e1
 rw[<- e2];exact q3
def Ivl (fl:Bool) (a:Addr) (o:Obj) (n:Nat):It:=
 ⟨fun i H=>∃ kvs,H a=some (.frz o (.dT fl kvs))/\kvs.length=n/\i<n,fun i H x H'=>H'=H/\∀ kvs kv,H a=some (.frz o (.dT fl kvs))->kvs[i]?=some kv->x=kv.2,fun i H=>∃ kvs,H a=some (.frz o (.dT fl kvs))/\kvs.length=n/\n<=i⟩
def jfC (a it:Addr) (o:Obj) (n:Nat):Turn P w K tg (Ivl fl a o n) [it] it (fun i h=>∃ es ep,o.data=.dict es ep/\h.IsValIter it a i n ep) where
 mem:=by simp
 obj:=fun i h st b hb=>by
  have e:b=it:=by simpa using hb
  subst e;obtain⟨es,ep,_,oi,e,c,d⟩:=st;exact⟨oi,e,fun v z=>by rw[d] at z; cases z⟩
 keep:=fun i h h' st k=>let ⟨es,ep,h1,h2⟩:=st; ⟨es,ep,h1,h2.at fun o e=>k it (by simp) o e⟩
 item:=by
  intro X hP hw hK hc i pins s σ H E I hf st hg;subst hP hw hK;obtain⟨kvs,e1,hn,hi⟩:=hg;obtain⟨es',ep',d',st⟩:=st;obtain⟨ho,es,ep,hd,hz,hk⟩:=I.dtv e1;rw[hd] at d';cases d';obtain⟨f0,f1,f2,f3,f4,f5⟩:=hf it (by simp);have hi':i<es'.size:=by omega
  have rv:=hk i hi' (kvs[i]'(by omega)) (Xc _);refine jhg st ho hd (by omega) hi' fun h' st' sb=>?_;have I1:Inv X pins σ H { s with heap:=h' }:=I.turned (t':=s.toks) (fun b o hb e=>(sb.2 b hb).trans e) f0 f1 f3 f4 f5
  obtain⟨oi,e,c,d⟩:=id st';refine⟨_,rfl,Zl (s:={ s with heap:=h' }) e c d (by decide) ⟨_,H,I1,rv,⟨rfl,fun kvs' kv q1 q2=>?_⟩,⟨es',ep',hd,st'⟩,fun b hb=>(hf b hb).1⟩⟩
  rw[e1] at q1;cases q1;rw[Xc (by omega)] at q2;cases q2;rfl
 done:=by
  intro X hP hw hK hc i pins s σ H E I hf st hg;subst hP hw hK;obtain⟨kvs,e1,hn,hi⟩:=hg;obtain⟨es',ep',d',st⟩:=st;obtain⟨ho,es,ep,hd,hz,hk⟩:=I.dtv e1;rw[hd] at d';cases d';obtain⟨f0,f1,f2,f3,f4,f5⟩:=hf it (by simp);exact jdo (I.ok.hd hc) st ho hd (by omega) (by omega) fun h' eb=>⟨rfl,I.turned (t':=s.toks) (fun b o hb e=>eb b o hb e) f0 f1 f3 f4 f5⟩
 self:=fun _ _ _ _ _ st h=>let ⟨_,_,_,st⟩:=st; wpAny_pyIter_valiter st h
def jjn (te:TE):TI:=fun σ H R=>te σ H fun x H1=>∃ a o fl kvs,x=.ref a/\H1 a=some (.frz o (.dT fl kvs))/\R (Ivl fl a o kvs.length) H1
def jjo {l:Expr}{tl:TE} (hl:PE X l tl) (hbase:attributeBase l "values" X.env (eval l X.env)=eval l X.env:=by rfl) (hline:(apos.endLine==cpos.line)=true:=by rfl):PI X tg (.Call (.Attribute l "values" apos) [] [] cpos) (jjn tl):=by
 intro pins s σ H R I h;refine wpAny_Call_method0_late hbase hline (thn (hl pins s σ H _ I h) fun v s1 ⟨x,H1,I1,r1,a,o,fl,kvs,ex,e1,q⟩=>?_);subst ex;obtain rfl:v=Value.ref a:=r1;obtain⟨t1,t2,t3⟩:=jh8 I1 (.inr ⟨fl,kvs,.inr ⟨o,e1⟩⟩);refine⟨"dict","dict.values",PySem.F.plainAttrs_dict,PySem.F.slot_dict_values,PySem.F.type_dict_values,t1,t2,Calls.callWith_builtin rfl (PySem.evalArgs_none (jfB t3 t1 ?_))⟩;obtain⟨ho,es,ep,hd,hz,hk⟩:=I1.dtv e1;have I2:Inv X pins σ H1 { s1 with heap:=s1.heap.push { cls:=.type "dict_values",data:=.fields #[.ref a] } }:=I1.kept (t':=s1.toks) fun b o e=>Xd _ e
 refine jhh (s:={ s1 with heap:=s1.heap.push { cls:=.type "dict_values",data:=.fields #[.ref a] } }) ⟨_,Xi _ rfl,rfl,rfl⟩ (Xd _ ho) hd ?_
 refine⟨_,[_],_,_,H1,rfl,I2.kept (t':=s1.toks) fun b o e=>Xd _ e,jfC a _ o kvs.length,⟨es,ep,hd,_,Xi _ rfl,rfl,by rw[hz]; rfl⟩,fun b hb=>?_,q⟩;have e:=List.mem_singleton.mp hb;rw[e];exact I2.fpOk (Xe _) (I2.hok.fresh (Xe _))
end
end L2
namespace L3
open PySem PySem.Spec L2
section
variable [DecidableEq κ] [Kt κ] {F:Hp}{t:TE} 
def jjp {l:List (κ×α)} (h:∀ F H,G F H->F a=some (.frz o (.dT (Kt.fl κ) kvs))/\Same F1 F/\Same F H) (hp:Paired (KtR K F1 c) l kvs):ItOk K (Ivl (Kt.fl κ) a o kvs.length) c (l.map (·.2)) G where
 go:=fun i F H g hi=>by
  rw[Xj,hp.length] at hi;exact⟨kvs,(h F H g).2.2 _ _ (h F H g).1,rfl,hi⟩
 yld:=fun i F H x H' g y k hk=>by
  obtain⟨e,y⟩:=y;subst e;obtain⟨s1,s3,s2⟩:=h F H' g;rw[Xx] at hk;obtain⟨p,hpi,rfl⟩:=Option.map_eq_some_iff.mp hk;obtain⟨q,hq,r1,r2⟩:=Paired.at hp hpi;rw[y kvs q (s2 _ _ s1) hq];exact⟨F,Ext.refl s2,c.mono s3 r2⟩
 stop:=fun F H g=>by
  rw[Xj,hp.length];exact⟨kvs,(h F H g).2.2 _ _ (h F H g).1,rfl,Xe _⟩
def jjq {m:Option (List (κ×α))} (h:Ev K σ F H t (rF (cFD c)) m):Ec K σ F H (jjn t) c (m.bind fun l=>some (l.map (·.2))):=by
 intro F1 H1 X l e R k;obtain⟨l0,e0,e⟩:=bind_some e;cases e;refine h F1 H1 X l0 e0 _ ?_;rintro v F2 H2 E ⟨a,o,kvs,rfl,h1,h2⟩;exact⟨a,o,_,kvs,rfl,E.sub _ _ h1,k _ F2 H2 E (jjp (F1:=F2) (fun F' H' g=>⟨g.f _ _ h1,g.f,g.sub⟩) h2)⟩
def jbi {l:List (κ×α)} (h:Ev K σ F H t (rF (cFD c)) (some l)) (e_:mm_=some (l.map (·.2))):Ec K σ F H (jjn t) c mm_:=e_ ▸ jjq h
end
structure BiX (P:Program) (w:World) (K:W.Frag) (mg:Str->Option Value) (base:Heap):Prop extends Bi mg
def scK {P:List Str} (h1:sc.kind=.function:=by rfl) (h2:sc.isCoroutine=false:=by rfl) (h3:sc.isGenerator=false:=by rfl) (h4:N.Nodup:=by decide +kernel) (h5:N.take P.length=P:=by rfl)
  (h6:∀ x∈P,sc.names.lookup x=some .local \/ sc.names.lookup x=some .cell:=by decide +kernel) (h7:∀ y∈sc.names,y.2≠.free:=by decide +kernel):FnScope N P sc:=⟨h1,h2,h3,h4,h5,h6,h7⟩
section
def pS (hN:X.N.Nodup) (he:PE X e te) (hi:X.N[i]?=some x:=by rfl) (hx:Loc X.env.scope x:=by first | exact Or.inl rfl | exact Or.inr rfl) (hs:swapsWith e (some (.Name x pos')) pos.line X.env=pure false:=by rfl)
  (hf:X.fn x=true \/ X.env.scope.names.lookup x=some .local:=by first | exact .inl rfl | exact .inr rfl):PS X (.Assign [.Name x pos'] e pos) (U9 te (k9 i)):=jj_ hN hi hx he hs hf
def pG (hN:X.N.Nodup) (hi:X.N[i]?=some x:=by rfl) (hx:Loc X.env.scope x:=by first | exact Or.inl rfl | exact Or.inr rfl) (hf:X.fn x=true \/ X.env.scope.names.lookup x=some .local:=by first | exact .inl rfl | exact .inr rfl):PG X (.Name x pos) (k9 i):=kq hN hi hx hf
def kB {r:List V->Hp->VK->Prop}{id:String}{p:Pos}{t:TE} (hc:GD X (.builtin id) r) (hm:X.mg x=none) (ha:PE X e t) (hg:Gl X x:=by rfl) (hv:bootBuiltins x=some (.builtin id):=by kernel_rfl) (hn:x≠"__name__":=by decide) (hdb:(x==("__debug__":Str))=false:=by decide)
  (he:starEach [e] X.env=(false,eval e X.env)::starEach [] X.env:=by rfl) (hpl:(backTo pos (starEach [] X.env)).any (·.1)=false:=by rfl):PE X (.Call (.Name x p) [e] [] pos) (tCB r (jH t xh)):=jgm hc hg hm hv (jb ha jd he) hn hdb he hpl
def cY {r:List V->Hp->VK->Prop}{p:Pos}{t:TE} (hc:GD X (.type T) r) (hm:X.mg x=none) (ha:PE X e t) (hg:Gl X x:=by rfl) (hv:bootBuiltins x=some (.type T):=by kernel_rfl) (hn:x≠"__name__":=by decide) (hdb:(x==("__debug__":Str))=false:=by decide)
  (he:starEach [e] X.env=(false,eval e X.env)::starEach [] X.env:=by rfl) (hpl:(backTo pos (starEach [] X.env)).any (·.1)=false:=by rfl):PE X (.Call (.Name x p) [e] [] pos) (tCB r (jH t xh)):=jd9 hc hg hm hv (jb ha jd he) hn hdb he hpl
def pD_ {k j:Nat}{p:Pos}{t:TA} (D:Def X.prog X.w X.K X.mg X.base x k ps sp) (hr:Room j X.A) (ha:PA X (e::es) t) (hj:k<=j:=by decide) (hg:Gl X x:=by rfl) (hdb:(x==("__debug__":Str))=false:=by decide)
  (he:starEach (e::es) X.env=(false,eval e X.env)::starEach es X.env:=by rfl) (hpl:(backTo pos (starEach es X.env)).any (·.1)=false:=by rfl):PE X (.Call (.Name x p) (e::es) [] pos) (QB sp [] E0 t):=jkm D (hr.mono hj) hg ha hdb he hpl
def pX {a b:Expr}{r:R2} (hr:IxR X r) (ha:PE X a ta) (hb:PE X b tb) (hs:jec b:=by intro _ _; rfl):PE X (.Subscript a b pos) (tOp r ta tb):=jlN hr ha hb hs
end
section
variable {F:Hp} 
def eV {a:α} (h:c.rep K F a v) (hi:σ[i]?=some (some v):=by rfl):Ev K σ F H (Jo i) (rF c) (some a):=jV (p:=pF c) hi h
def eI {a:Int} (hi:σ[i]?=some (some (.int a)):=by rfl):Ev K σ F H (Jo i) (rF cI) (some a):=jau hi
end
def jm3 (h:us.length=[x].length):∃ a,us=[a]:=match us,h with | [a],_=>⟨a,rfl⟩
def jm4 {y:Str} (h:us.length=[x,y].length):∃ a b,us=[a,b]:=match us,h with | [a,b],_=>⟨a,b,rfl⟩
def jm5 {y z:Str} (h:us.length=[x,y,z].length):∃ a b c,us=[a,b,c]:=match us,h with | [a,b,c],_=>⟨a,b,c,rfl⟩
def jm6 {y z u:Str} (h:us.length=[x,y,z,u].length):∃ a b c d,us=[a,b,c,d]:=match us,h with | [a,b,c,d],_=>⟨a,b,c,d,rfl⟩
def jm7 {y z u v:Str} (h:us.length=[x,y,z,u,v].length):∃ a b c d e,us=[a,b,c,d,e]:=match us,h with | [a,b,c,d,e],_=>⟨a,b,c,d,e,rfl⟩
def jm8 {y z u v t:Str} (h:us.length=[x,y,z,u,v,t].length):∃ a b c d e f,us=[a,b,c,d,e,f]:=match us,h with | [a,b,c,d,e,f],_=>⟨a,b,c,d,e,f,rfl⟩
structure FunX (K:W.Frag) (x qual:Str) (st:Stmt) (f:Addr):Prop where
 ex:∃ fd,Fun K x qual st f fd
section
variable {f:Addr}{k j:Nat}{sp':Sp}
def funX_mk {kV ct:Value} (l:K.lookup f=some ⟨oc,od,.func (W.fnOf x qual (yg st) (qX st) (jD st) .none kV doc pm an cdv ct),osl⟩)
  (c:W.codeIn K cdv qual=true) (k:W.keepIn K (.ref f)=true):FunX K x qual st f:=⟨_,jb3 l c k⟩
structure DefX (K:W.Frag) (x:Str) (st:Stmt):Prop where
 ex:∃ f fd,W.nsIn K mainGlobals x=some (some (.ref f))/\Fun K x x st f fd
def defX_mk {kV ct:Value} (a:W.nsIn K mainGlobals x=some (some (.ref f))) (l:K.lookup f=some ⟨oc,od,.func (W.fnOf x x (yg st) (qX st) (jD st) .none kV doc pm an cdv ct),osl⟩)
  (c:W.codeIn K cdv x=true) (k:W.keepIn K (.ref f)=true):DefX K x st:=⟨_,_,a,jb3 l c k⟩
structure MthX (K:W.Frag) (C:Addr) (x qual:Str) (st:Stmt):Prop where
 ex:∃ f fd,W.findIn K (.ref C) x=some (some (.ref f))/\W.isFn K (.ref f)=true/\Fun K x qual st f fd
def mthX_mk {kV ct:Value} (a:W.findIn K (.ref C) x=some (some (.ref f))) (i:W.isFn K (.ref f)=true) (l:K.lookup f=some ⟨oc,od,.func (W.fnOf x qual (yg st) (qX st) (jD st) .none kV doc pm an cdv ct),osl⟩)
  (c:W.codeIn K cdv qual=true) (k:W.keepIn K (.ref f)=true):MthX K C x qual st:=⟨_,_,a,i,jb3 l c k⟩
def BindP (x qual:Str) (st:Stmt) (ps:List Str):Prop:=∀ (kV doc pm:Value) (an:Option Addr) (cdv ct:Value) (us:List Value),us.length=ps.length->bindArgs (W.fnOf x qual (yg st) (qX st) (jD st) .none kV doc pm an cdv ct) ⟨us,[]⟩=pure (ps.zip us)
def bnd (h:BindP x qual st ps:=by
      intro _ _ _ _ _ _ us hl
      first | (obtain⟨a,rfl⟩:=jm3 hl; rfl) | (obtain⟨a,b,rfl⟩:=jm4 hl; rfl) | (obtain⟨a,b,c,rfl⟩:=jm5 hl; rfl) | (obtain⟨a,b,c,d,rfl⟩:=jm6 hl; rfl) | (obtain⟨a,b,c,d,e,rfl⟩:=jm7 hl; rfl) | (obtain⟨a,b,c,d,e,f,rfl⟩:=jm8 hl; rfl)):BindP x qual st ps:=h
def jG (X:K.In h) (G:h.Ns mainGlobals mg) (a:W.nsIn K mainGlobals x=some (some (.ref f))) (Fn:Fun K x qual st f fd) (F:FnOk P w K mg base CX0 k f fd ps sp) (hb:BindP x qual st ps:=by exact bnd):Def P w K mg base x k ps sp:=⟨_,_,F,wb X G a,Fn.kp,Fn.binds hb⟩
def Gj (a:W.findIn K (.ref C) x=some (some (.ref f))) (i:W.isFn K (.ref f)=true) (c:Cls K C) (Fn:Fun K x qual st f fd) (F:FnOk P w K mg base CX0 k f fd ps sp) (hb:BindP x qual st ps:=by exact bnd):Mth P w K mg base C x k ps sp:=⟨⟨_,_,F,⟨a,i,Fn.kp⟩,Fn.binds hb⟩,c⟩
def jfD (K:W.Frag) (C:Addr):Bool:=W.plainGet K C Str.empty&&W.hasDictIn K C&&W.plainOver K C&&(W.findIn K (.ref C) "__setattr__"==some (some (.builtin "object.__setattr__")))&&W.makesIn K C&&W.keepIn K (.ref C)
structure ClsF (K:W.Frag) (C:Addr):Prop where
 cl:Cls K C
 ma:W.makesIn K C=true
 kc:W.keepIn K (.ref C)=true
def jdO (h:jfD K C=true):ClsF K C:=by
 unfold jfD at h;simp only[XB,beq_iff_eq] at h;exact⟨⟨h.1.1.1.1.1,h.1.1.1.1.2,h.1.1.1.2,h.1.1.2⟩,h.1.2,h.2⟩
def Vy (X:K.In h) (G:h.Ns mainGlobals mg) (c:jfD K C=true) (a:W.findIn K (.ref C) "__init__"=some (some (.ref f))) (i:W.isFn K (.ref f)=true) (g:W.nsIn K mainGlobals x=some (some (.ref C))) (Fn:Fun K "__init__" qual st f fd)
  (F:FnOk P w K mg base CX0 k f fd ps sp) (hb:BindP "__init__" qual st ps:=by exact bnd):Kls P w K mg base x C k ps sp:=⟨_,_,⟨(jdO c).ma,a,i,(jdO c).kc⟩,F,wb X G g,Fn.binds hb⟩
variable {p1:Pm α1}{p2:Pm α2}{p3:Pm α3}{rs:Rs γ}{cs:Ecs}
def ok1 {m:α1->Option γ} (Fn:Fun K x qual st f fd) (hb:∀ (cdv:Value) (A:Around) (outer:List Env) (s:Shared) (H:Hp) (Q:VK) (E:XK),Room k (A.deeper (PyProof.Rows.envOfC qual (jD st) s.heap.objs.size f cdv))->N.Nodup->(A.deeper (PyProof.Rows.envOfC qual (jD st) s.heap.objs.size f cdv)).units+200<cLine ->
  ∀ (x1:α1) (v1:V) (Fe:Hp) (R:γ),Ext Fe H Fe H->p1.rel K Fe H x1 v1->m x1=some R->(∀ u F' H',Ext Fe H F' H'->rs.rel K H F' H' R u->Q u H')->∃ t,PSs (jd7 CX0 P w K mg base N qual (jD st) f cdv A outer s H E).nox (qX st) t/\t { nx:=fun _ H'=>Q .non H',rt:=Q } (GG N [v1]) H) (S:FnScope N ps (jD st):=by exact scK) (hl:ps.length=1:=by rfl):FnOk P w K mg base CX0 (k+1) f fd ps (sp1 K p1 rs m):=by
 refine Fn.ok S (fun vs H Q E h=>?_) (fun cdv A outer s H vs Q E hr h=>?_)
 ·obtain⟨_,_,_,_,rfl,_⟩:=h;exact hl.symm
 ·obtain⟨x1,v1,Fe,R,rfl,S_,P1,Hm,Kk⟩:=h;exact hb cdv A outer s H Q E hr S.nd (Qp hr) x1 v1 Fe R (Ext.refl S_) P1 Hm Kk
def ok2 {m:α1->α2->Option γ} (Fn:Fun K x qual st f fd) (hb:∀ (cdv:Value) (A:Around) (outer:List Env) (s:Shared) (H:Hp) (Q:VK) (E:XK),Room k (A.deeper (PyProof.Rows.envOfC qual (jD st) s.heap.objs.size f cdv))->N.Nodup->(A.deeper (PyProof.Rows.envOfC qual (jD st) s.heap.objs.size f cdv)).units+200<cLine ->
  ∀ (x1:α1) (x2:α2) (v1 v2:V) (Fe:Hp) (R:γ),Ext Fe H Fe H->p1.rel K Fe H x1 v1->p2.rel K Fe H x2 v2->m x1 x2=some R->(∀ u F' H',Ext Fe H F' H'->rs.rel K H F' H' R u->Q u H')->∃ t,PSs (jd7 CX0 P w K mg base N qual (jD st) f cdv A outer s H E).nox (qX st) t/\t { nx:=fun _ H'=>Q .non H',rt:=Q } (GG N [v1,v2]) H) (S:FnScope N ps (jD st):=by exact scK) (hl:ps.length=2:=by rfl):FnOk P w K mg base CX0 (k+1) f fd ps (sp2 K p1 p2 rs m):=by
 refine Fn.ok S (fun vs H Q E h=>?_) (fun cdv A outer s H vs Q E hr h=>?_)
 ·obtain⟨_,_,_,_,_,_,rfl,_⟩:=h;exact hl.symm
 ·obtain⟨x1,x2,v1,v2,Fe,R,rfl,S_,P1,P2,Hm,Kk⟩:=h;exact hb cdv A outer s H Q E hr S.nd (Qp hr) x1 x2 v1 v2 Fe R (Ext.refl S_) P1 P2 Hm Kk
def ok3 {m:α1->α2->α3->Option γ} (Fn:Fun K x qual st f fd) (hb:∀ (cdv:Value) (A:Around) (outer:List Env) (s:Shared) (H:Hp) (Q:VK) (E:XK),Room k (A.deeper (PyProof.Rows.envOfC qual (jD st) s.heap.objs.size f cdv))->N.Nodup->(A.deeper (PyProof.Rows.envOfC qual (jD st) s.heap.objs.size f cdv)).units+200<cLine ->
  ∀ (x1:α1) (x2:α2) (x3:α3) (v1 v2 v3:V) (Fe:Hp) (R:γ),Ext Fe H Fe H->p1.rel K Fe H x1 v1->p2.rel K Fe H x2 v2->p3.rel K Fe H x3 v3->m x1 x2 x3=some R->(∀ u F' H',Ext Fe H F' H'->rs.rel K H F' H' R u->Q u H')->∃ t,PSs (jd7 CX0 P w K mg base N qual (jD st) f cdv A outer s H E).nox (qX st) t/\t { nx:=fun _ H'=>Q .non H',rt:=Q } (GG N [v1,v2,v3]) H) (S:FnScope N ps (jD st):=by exact scK) (hl:ps.length=3:=by rfl):FnOk P w K mg base CX0 (k+1) f fd ps (sp3 K p1 p2 p3 rs m):=by
 refine Fn.ok S (fun vs H Q E h=>?_) (fun cdv A outer s H vs Q E hr h=>?_)
 ·obtain⟨_,_,_,_,_,_,_,_,rfl,_⟩:=h;exact hl.symm
 ·obtain⟨x1,x2,x3,v1,v2,v3,Fe,R,rfl,S_,P1,P2,P3,Hm,Kk⟩:=h;exact hb cdv A outer s H Q E hr S.nd (Qp hr) x1 x2 x3 v1 v2 v3 Fe R (Ext.refl S_) P1 P2 P3 Hm Kk
end
structure Cs (α:Type) where
 rep:W.Frag->Hp->α->List V->Prop
 mono:∀ {K:W.Frag}{F F':Hp}{a:α}{vs:List V},Same F F'->rep K F a vs->rep K F' a vs
section
variable {F:Hp}
def csN:Cs Unit:=⟨fun _ _ _ vs=>vs=[],fun _ h=>h⟩
def csC (d:Cd α) (e:Cs β):Cs (α×β):=⟨fun K F z vs=>∃ v ws,vs=v::ws/\d.rep K F z.1 v/\e.rep K F z.2 ws,fun s ⟨v,ws,h,h1,h2⟩=>⟨v,ws,h,d.mono s h1,e.mono s h2⟩⟩
def Ea (K:W.Frag) (σ:St) (F H:Hp) (t:TA) (d:Cs α) (m:Option α):Prop:=
 ∀ F1 H1,Ext F H F1 H1->∀ x,m=some x->∀ Q:List V->Hp->Prop,(∀ vs F2 H2,Ext F1 H1 F2 H2->d.rep K F2 x vs->Q vs H2)->t σ H1 Q
def ya (s:Same F H):Ea K σ F H xh csN (some ()):=fun F1 H1 E x e Q k=>k [] F1 H1 (Ext.refl E.sub) rfl
def kG {d:Cd α}{e:Cs β}{t:TE}{ta:TA}{m1:Option α}{m2:Option β} (h1:Ev K σ F H t (rF d) m1) (h2:Ea K σ F H ta e m2):Ea K σ F H (jH t ta) (csC d e) (m1.bind fun a=>m2.bind fun b=>some (a,b)):=by
 intro F1 H1 E x he Q k;obtain⟨a,ea,he⟩:=bind_some he;obtain⟨b,eb,he⟩:=bind_some he;cases he;refine h1 F1 H1 E a ea _ fun v F2 H2 E2 r1=>h2 F2 H2 (E.trans E2) b eb _ fun ws F3 H3 E3 r2=>?_;exact k (v::ws) F3 H3 (E2.trans E3) ⟨v,ws,rfl,d.mono E3.f r1,r2⟩
end
section
variable {F:Hp}{l:Addr} 
def dkF (u:V) (l:Addr):List (Str×V):=[("spot",u),("earlier",.ref l)]
structure OwnKl (K:W.Frag) (He F H:Hp) (c:Cd α) (C:Addr) (Dk:α×List α) (a l:Addr):Prop where
 ob:∃ dx u,OwnI He F H C a dx (dkF u l)/\c.rep K F Dk.1 u
 ls:Own K He F H c Dk.2 l
def OwnKl.mono (o:OwnKl K He F H c C Dk a l) (E:Ext F H F' H'):OwnKl K He F' H' c C Dk a l:=
 let ⟨dx,u,h1,h2⟩:=o.ob
 ⟨⟨dx,u,h1.mono E,c.mono E.f h2⟩,o.ls.mono E⟩
def OwnKl.ne (o:OwnKl K He F H c C Dk a l):l≠a:=by
 obtain⟨dx,u,h1,h2⟩:=o.ob;obtain⟨xs,h3,_⟩:=o.ls.h;intro e;subst e;have h:=h1.h;rw[h3] at h;cases h
def OwnKl.ea (o:OwnKl K He F H c C Dk a l):He a=none:=let ⟨_,_,h,_⟩:=o.ob; h.e
def wo (a l:Addr) (H:Hp):Hp:=fun b=>if b=a \/ b=l then none else H b
def jm9:wo a l H a=none:=if_pos (.inl rfl)
def jm_:wo a l H l=none:=if_pos (.inr rfl)
def jij (h1:F a=none) (h2:F l=none) (s:Same F H):Same F (wo a l H):=fun b o e=>by
 have n:¬ (b=a \/ b=l):=fun z=>by
  rcases z with rfl | rfl
  ·rw[h1] at e; cases e
  ·rw[h2] at e; cases e
 exact(if_neg n).trans (s b o e)
def jl3:Same (wo a l H) H:=fun b o e=>by
 unfold wo at e;by_cases z:b=a \/ b=l
 ·rw[if_pos z] at e; cases e
 ·rw[if_neg z] at e; exact e
def OwnKl.wo (o:OwnKl K He F H c C Dk a l):OwnKl K (L3.wo a l H) F H c C Dk a l:=
 let ⟨dx,u,h1,h2⟩:=o.ob
 ⟨⟨dx,u,⟨jm9,h1.f,h1.h⟩,h2⟩,⟨jm_,o.ls.f,o.ls.h⟩⟩
def OwnKl.back {He':Hp} (o:OwnKl K He' F' H' c C Dk a l) (h1:He a=none) (h2:He l=none):OwnKl K He F' H' c C Dk a l:=
 let ⟨dx,u,h3,h4⟩:=o.ob
 ⟨⟨dx,u,⟨h1,h3.f,h3.h⟩,h4⟩,⟨h2,o.ls.f,o.ls.h⟩⟩
def OwnKl.up (o:OwnKl K He F H c C Dk a l) (X:Ext Fe He F H) (E:Ext F (L3.wo a l H) F' H'):Ext Fe He F' H':=
 ⟨X.f.trans E.f,(jij o.ea o.ls.e X.h).trans E.h,fun b u e=>by
  rcases E.new b u e with z | z
  ·exact X.new b u z
  ·refine .inr ?_;cases q:He b with
   | none=>trivial
   | some w=>
    have:=jij o.ea o.ls.e X.h b w q;rw[this] at z;exact z,E.sub⟩
def OwnKl.in (o:OwnKl K He F H c C Dk a l) (S:Same F H):Ext F (L3.wo a l H) F H:=⟨Same.refl _,jl3,fun _ _ h=>.inl h,S⟩
def OwnK (K:W.Frag) (He F H:Hp) (c:Cd α) (C:Addr) (Dk:α×List α) (a:Addr):Prop:=∃ l,OwnKl K He F H c C Dk a l
def OwnK.mono (o:OwnK K He F H c C Dk a) (E:Ext F H F' H'):OwnK K He F' H' c C Dk a:=let ⟨l,o⟩:=o; ⟨l,o.mono E⟩
def OwnKl.out {D2:α×List α} (o:OwnKl K He F H c C Dk a l) (X:Ext Fe He F H) (o':OwnK K (L3.wo a l H) F' H' c C D2 a):OwnK K He F' H' c C D2 a:=by
 obtain⟨l',o'⟩:=o';refine⟨l',o'.back o.ea ?_⟩;have e:=o'.ls.e;by_cases q:l'=l
 ·rw[q]; exact o.ls.e
 ·have n:¬ (l'=a \/ l'=l):=fun z=>z.elim (fun z=>o'.ne z) q;have e:(if l'=a \/ l'=l then none else H l')=none:=e;rw[if_neg n] at e;exact X.h.free e
def spK (K:W.Frag) (C:Addr) (c:Cd α) (d:Cs β) (rc:Cd γ) (m:α×List α->β->Option (γ×(α×List α))):Sp:=fun vs H Q _=>∃ (Dk:α×List α) (x:β) (a l:Addr) (ws:List V) (F:Hp) (r:γ×(α×List α)),vs=.ref a::ws/\Same F H/\OwnKl K (wo a l H) F H c C Dk a l/\d.rep K F x ws/\m Dk x=some r /\
 ∀ u F' H',Ext F (wo a l H) F' H'->OwnK K (wo a l H) F' H' c C r.2 a->rc.rep K F' r.1 u->Q u H'
def JE {d:Cs β}{rc:Cd γ}{m:α×List α->β->Option (γ×(α×List α))}{vs:List V}{Hq:Hp}{Q:VK}{E:XK} (h:spK K C c d rc m vs Hq Q E):∃ (Dk:α×List α) (x:β) (a:Addr) (ws:List V) (F H0:Hp) (r:γ×(α×List α)),vs=.ref a::ws/\Ext F H0 F Hq/\OwnK K H0 F Hq c C Dk a/\d.rep K F x ws/\m Dk x=some r /\
  ∀ u F' H',Ext F H0 F' H'->OwnK K H0 F' H' c C r.2 a->rc.rep K F' r.1 u->Q u H':=by
 obtain⟨Dk,x,a,l,ws,F,r,rfl,S,o,hd,hm,k⟩:=h;exact⟨Dk,x,a,ws,F,wo a l Hq,r,rfl,o.in S,⟨l,o⟩,hd,hm,k⟩
def pK (c:Cd α) (C:Addr):Pm (α×List α):=⟨fun K F H Dk v=>∃ a l dx u,v=.ref a/\H a=some (.ins C dx (dkF u l))/\c.rep K F Dk.1 u/\(pB c).rel K F H Dk.2 (.ref l),
 fun E ⟨a,l,dx,u,h0,h1,h2,h3⟩=>⟨a,l,dx,u,h0,E.h _ _ h1,c.mono E.f h2,(pB c).mono E h3⟩⟩
def OwnK.r (o:OwnK K He F H c C Dk a):(pK c C).rel K F H Dk (.ref a):=let ⟨l,o⟩:=o; let ⟨dx,u,h1,h2⟩:=o.ob; ⟨a,l,dx,u,rfl,h1.h,h2,o.ls.b⟩
def EvK (K:W.Frag) (σ:St) (Fe He F H:Hp) (c:Cd α) (C a:Addr) (t:TE) (rc:Cd γ) (m:Option (γ×(α×List α))):Prop:=
 ∀ y,m=some y->∀ Q:VK,(∀ v F2 H2,Same F F2->Ext Fe He F2 H2->OwnK K He F2 H2 c C y.2 a->rc.rep K F2 y.1 v->Q v H2)->t σ H Q
def EtK (K:W.Frag) (σ:St) (Fe He F H:Hp) (c:Cd α) (C a:Addr) (t:TT) (m:Option (Bool×(α×List α))):Prop:=
 ∀ y,m=some y->∀ Q:Bool->Hp->Prop,(∀ F2 H2,Same F F2->Ext Fe He F2 H2->OwnK K He F2 H2 c C y.2 a->Q y.1 H2)->t σ H Q
variable {t:TE}{u1 u2:TT}{ta:TA}{rc:Cd γ}{rd:Cd δ}
def Yl (z:γ×δ) (f:γ->δ->Option ε):Option ε:=f z.1 z.2
def ifK (z:Bool×δ) (A B:δ->Option ε):Option ε:=bif z.1 then A z.2 else B z.2
def orK (z:Bool×δ) (m:δ->Option (Bool×δ)):Option (Bool×δ):=bif z.1 then some (true,z.2) else m z.2
def jlB (z:Bool×δ) (m:δ->Option (Bool×δ)):Option (Bool×δ):=bif z.1 then m z.2 else some (false,z.2)
def jbj (z:Str×δ) (g:Str->Str->Bool) (m:δ->Option Str):Option (Bool×δ):=(m z.2).bind fun b=>some (g z.1 b,z.2)
def jhi (a b:Str):Bool:=decide (a=b)
def Zi (a b:Str):Bool:=!decide (a=b)
def Qg {m:Option γ} (o:OwnK K He F H c C Dk a) (X:Ext Fe He F H) (h:Ev K σ F H t (rF rc) m):EvK K σ Fe He F H c C a t rc (m.bind fun y=>some (y,Dk)):=by
 intro y hy Q k;obtain⟨x,ex,hy⟩:=bind_some hy;cases hy;exact h F H (Ext.refl X.sub) x ex Q fun v F2 H2 E hv=>k v F2 H2 E.f (X.trans E) (o.mono E) hv
def jcx {u:TT}{m:Option Bool} (o:OwnK K He F H c C Dk a) (X:Ext Fe He F H) (h:Et K σ F H u m):EtK K σ Fe He F H c C a u (m.bind fun y=>some (y,Dk)):=by
 intro y hy Q k;obtain⟨x,ex,hy⟩:=bind_some hy;cases hy;exact h F H (Ext.refl X.sub) x ex Q fun F2 H2 E=>k F2 H2 E.f (X.trans E) (o.mono E)
def ze {d:Cs β}{m:α×List α->β->Option (γ×(α×List α))}{ma:Option β} (hi:σ[i]?=some (some (.ref a))) (o:OwnK K He F H c C Dk a) (X:Ext Fe He F H) (h:Ea K σ F H ta d ma):EvK K σ Fe He F H c C a (QB (spK K C c d rc m) [] E0 (jH (Jo i) ta)) rc (ma.bind fun x=>m Dk x):=by
 intro y hy Q k;obtain⟨x,ex,hy⟩:=bind_some hy;obtain⟨l,o⟩:=o;refine⟨_,hi,h F H (Ext.refl X.sub) x ex _ fun vs F2 H2 E hv=>?_⟩;have o2:=o.mono E;exact⟨Dk,x,a,l,vs,F2,y,by rw[List.append_nil],E.sub,o2.wo,hv,hy,fun u F' H' E' o' hr=>k u F' H' (E.f.trans E'.f) (o2.up (X.trans E) E') (o2.out (X.trans E) o') hr⟩
def yC {d:Cs β}{m:α×List α->β->Option (γ×(α×List α))}{ma:Option β} (hi:σ[i]?=some (some (.ref a))) (o:OwnK K He F H c C Dk a) (X:Ext Fe He F H) (h:Ea K σ F H ta d ma) (hn:∀ u l,(dkF u l).lookup nm=none):EvK K σ Fe He F H c C a (QC C nm (spK K C c d rc m) [] E0 (Jo i) ta) rc (ma.bind fun x=>m Dk x):=by
 intro y hy Q k;obtain⟨x,ex,hy⟩:=bind_some hy;obtain⟨l,o⟩:=o;obtain⟨dx,u,h1,h2⟩:=o.ob;refine⟨_,hi,a,dx,_,rfl,h1.h,hn _ _,h F H (Ext.refl X.sub) x ex _ fun vs F2 H2 E hv=>?_⟩;have o2:=o.mono E;exact⟨Dk,x,a,l,vs,F2,y,by rw[List.append_nil],E.sub,o2.wo,hv,hy,fun u F' H' E' o' hr=>k u F' H' (E.f.trans E'.f) (o2.up (X.trans E) E') (o2.out (X.trans E) o') hr⟩
def JF {r:R2}{g:Str->Str->Bool}{m1:Option (Str×(α×List α))}{m2:α×List α->Option Str} (ho:Op2 K r (pF cS) (pF cS) (rF cB) (fun a b=>some (g a b))) (h1:EvK K σ Fe He F H c C a t1 cS m1) (h2:∀ F2 H2 D2,Same F F2->Ext Fe He F2 H2->OwnK K He F2 H2 c C D2 a->Ev K σ F2 H2 t2 (rF cS) (m2 D2)) :
  EvK K σ Fe He F H c C a (tOp r t1 t2) cB (m1.bind fun z=>jbj z g m2):=by
 intro y hy Q k;obtain⟨z,ez,hy⟩:=bind_some hy;obtain⟨b,eb,hy⟩:=bind_some hy;cases hy;refine h1 z ez _ fun v F2 H2 s X o hv=>?_;refine h2 F2 H2 z.2 s X o F2 H2 (Ext.refl X.sub) b eb _ fun w F3 H3 E hw=>?_;exact ho F3 H3 z.1 b v w E.sub ((pF cS).mono E hv) hw (g z.1 b) rfl _ fun x F4 H4 E' hx=>k x F4 H4 (s.trans (E.f.trans E'.f)) (X.trans (E.trans E')) (o.mono (E.trans E')) hx
def jik:Op2 K rEq (pF cS) (pF cS) (rF cB) (fun a b=>some (jhi a b)):=jc5
def WD:Op2 K rNe (pF cS) (pF cS) (rF cB) (fun a b=>some (Zi a b)):=jgx
def G2 {m:Option (Bool×(α×List α))} (h:EvK K σ Fe He F H c C a t cB m):EtK K σ Fe He F H c C a (jd3 t) m:=fun y hy Q k=>
 h y hy _ fun v F2 H2 s X o hv=>⟨y.1,hv,k F2 H2 s X o⟩
def jjr {m:Option (Bool×(α×List α))} (h:EtK K σ Fe He F H c C a u1 m):EtK K σ Fe He F H c C a (jjS u1) (m.bind fun z=>some (!z.1,z.2)):=by
 intro y hy Q k;obtain⟨z,ez,hy⟩:=bind_some hy;cases hy;exact h z ez _ fun F2 H2 s X o=>k F2 H2 s X o
def jcy {m1:Option (Bool×(α×List α))}{m2:α×List α->Option (Bool×(α×List α))} (h1:EtK K σ Fe He F H c C a u1 m1) (h2:∀ F2 H2 D2,Same F F2->Ext Fe He F2 H2->OwnK K He F2 H2 c C D2 a->EtK K σ Fe He F2 H2 c C a u2 (m2 D2)) :
  EtK K σ Fe He F H c C a (tOr u1 u2) (m1.bind fun z=>orK z m2):=by
 intro y hy Q k;obtain⟨⟨b,D2⟩,ez,hy⟩:=bind_some hy;refine h1 _ ez _ fun F2 H2 s X o=>?_;cases b with
 | true=>cases hy; exact jb5 (k F2 H2 s X o)
 | false=>exact jb4 (h2 F2 H2 D2 s X o y hy Q fun F3 H3 s' X' o'=>k F3 H3 (s.trans s') X' o')
def jjs {m1:Option (Bool×(α×List α))}{m2:α×List α->Option (Bool×(α×List α))} (h1:EvK K σ Fe He F H c C a t1 cB m1) (h2:∀ F2 H2 D2,Same F F2->Ext Fe He F2 H2->OwnK K He F2 H2 c C D2 a->EvK K σ Fe He F2 H2 c C a t2 cB (m2 D2)) :
  EvK K σ Fe He F H c C a (jaz t1 t2) cB (m1.bind fun z=>jlB z m2):=by
 intro y hy Q k;obtain⟨⟨b,D2⟩,ez,hy⟩:=bind_some hy;refine h1 _ ez _ fun v F2 H2 s X o hv=>⟨b,hv,?_⟩;cases b with
 | true=>exact jb5 (h2 F2 H2 D2 s X o y hy Q fun v F3 H3 s' X' o' hr=>k v F3 H3 (s.trans s') X' o' hr)
 | false=>cases hy; exact jb4 (k _ F2 H2 s X o rfl)
def WE {j:Nat}{m:Option (Str×(α×List α))}{f:Str->α×List α->Option δ}{r:δ} (he:EvK K σ Fe He F H c C a t cS m) (hm:(m.bind fun z=>Yl z f)=some r) (k:∀ x D2 F2 H2,f x D2=some r->Same F F2->Ext Fe He F2 H2->OwnK K He F2 H2 c C D2 a->u' D (σ.set j (some (.str x))) H2):QT (U9 t (k9 j)) u' D σ H:=by
 obtain⟨z,ez,hm⟩:=bind_some hm;refine he z ez _ fun v F2 H2 s X o hv=>?_;cases hv;exact k z.1 z.2 F2 H2 hm s X o
def jjt {j:Nat}{m:Option (Str×(α×List α))}{f:Str->α×List α->Option δ}{r:δ} (he:EvK K σ Fe He F H c C a t cS m) (hm:(m.bind fun z=>Yl z f)=some r) (k:∀ x D2 F2 H2,f x D2=some r->Same F F2->Ext Fe He F2 H2->OwnK K He F2 H2 c C D2 a->D.nx (σ.set j (some (.str x))) H2):U9 t (k9 j) D σ H:=
 WE (u':=fun D=>D.nx) he hm k
def Ym {m:Option (Str×(α×List α))}{f:Str->α×List α->Option δ}{r:δ} (he:EvK K σ Fe He F H c C a t cS m) (hm:(m.bind fun z=>Yl z f)=some r) (k:∀ x D2 F2 H2,f x D2=some r->Same F F2->Ext Fe He F2 H2->OwnK K He F2 H2 c C D2 a->u' D σ H2):QT (V9 t) u' D σ H:=by
 obtain⟨z,ez,hm⟩:=bind_some hm;exact he z ez _ fun v F2 H2 s X o hv=>k z.1 z.2 F2 H2 hm s X o
def jfE {s1 s2:TS}{m:Option (Bool×(α×List α))}{A B:α×List α->Option δ}{r:δ} (he:EtK K σ Fe He F H c C a u1 m) (hm:(m.bind fun z=>ifK z A B)=some r) (k1:∀ D2 F2 H2,A D2=some r->Same F F2->Ext Fe He F2 H2->OwnK K He F2 H2 c C D2 a->s1 { D with nx:=u' D } σ H2) (k2:∀ D2 F2 H2,B D2=some r->Same F F2->Ext Fe He F2 H2->OwnK K He F2 H2 c C D2 a->s2 { D with nx:=u' D } σ H2):QT (jgg u1 s1 s2) u' D σ H:=by
 obtain⟨⟨b,D2⟩,ez,hm⟩:=bind_some hm;refine he _ ez _ fun F2 H2 s X o=>?_;cases b with
 | true=>exact jb5 (k1 D2 F2 H2 hm s X o)
 | false=>exact jb4 (k2 D2 F2 H2 hm s X o)
def JG {m:Option (γ×(α×List α))}{r:γ×(α×List α)} (he:EvK K σ Fe He F H c C a t rc m) (hm:m=some r) (k:∀ v F' H',Ext Fe He F' H'->OwnK K He F' H' c C r.2 a->rc.rep K F' r.1 v->D.rt v H'):jjT t D σ H:=
 he r hm _ fun v F2 H2 s X o hv=>k v F2 H2 X o hv
def jhj {m:Option (γ×(α×List α))}{r:γ} (he:EvK K σ Fe He F H c C a t rc m) (hm:(m.bind fun z=>some z.1)=some r) (k:∀ v F' H',Ext Fe He F' H'->(rF rc).rel K He F' H' r v->D.rt v H'):jjT t D σ H:=by
 obtain⟨z,ez,hm⟩:=bind_some hm;cases hm;exact he z ez _ fun v F2 H2 s X o hv=>k v F2 H2 X hv
def jju (hi:σ[i]?=some (some (.ref a))) (o:OwnK K He F H c C Dk a) (cl:Cls K C) (na:NoAttr K C "spot"):Ev K σ F H (jd6 K (Jo i) "spot") (rF c) (some Dk.1):=
 let ⟨_,o⟩:=o
 let ⟨_,_,h1,h2⟩:=o.ob
 jaZ (p:=pF c) hi h1 cl na rfl h2
def jjv (hi:σ[i]?=some (some (.ref a))) (o:OwnK K He F H c C Dk a) (cl:Cls K C) (na:NoAttr K C "earlier"):Ev K σ F H (jd6 K (Jo i) "earlier") (pB c).rs (some Dk.2):=
 let ⟨_,o⟩:=o
 let ⟨_,_,h1,h2⟩:=o.ob
 jaZ (p:=pB c) hi h1 cl na rfl o.ls.b
def jhk (hi:σ[i]?=some (some v)) (h:(pK c C).rel K F H Dk v) (cl:Cls K C) (na:NoAttr K C "spot"):Ev K σ F H (jd6 K (Jo i) "spot") (rF c) (some Dk.1):=by
 intro F1 H1 E b e Q k;cases e;obtain⟨a,l,dx,u,rfl,h1,h2,h3⟩:=h;exact⟨_,hi,a,C,dx,_,u,rfl,E.h _ _ h1,cl,na,rfl,k u F1 H1 (Ext.refl E.sub) (c.mono E.f h2)⟩
def jk5 {r:δ} (hi:σ[i]?=some (some (.ref a))) (o:OwnK K He F H c C Dk a) (cl:Cls K C) (n1:NoAttr K C "spot") (n2:NoAttr K C "earlier") (X:Ext Fe He F H) (hm:(Zh Dk.2 Dk.1).bind f=some r)
  (k:∀ l' H2,f l'=some r->Ext Fe He F H2->OwnK K He F H2 c C (Dk.1,l') a->u' D σ H2):QT (V9 (tBM K "list" Ui (jd6 K (Jo i) "earlier") (jH (jd6 K (Jo i) "spot") xh))) u' D σ H:=by
 obtain⟨l',el,hm⟩:=bind_some hm;unfold Zh at el;obtain⟨hl,rfl⟩:=jS el;obtain⟨l,o⟩:=o;obtain⟨dx,u,h1,h2⟩:=o.ob;obtain⟨xs,h3,h4⟩:=o.ls.h;refine⟨_,hi,a,C,dx,_,.ref l,rfl,h1.h,cl,n2,rfl,.inl ⟨rfl,_,SqL.of h3⟩,⟨_,hi,a,C,dx,_,u,rfl,h1.h,cl,n1,rfl,?_⟩⟩;refine⟨l,xs,u,rfl,rfl,h3,by rw[Xy,<- h4.length]; exact hl,?_⟩;obtain⟨X',o'⟩:=Vo (K:=K) (c:=c) X o.ls.e o.ls.f (Paired.app h4 (.cons h2 .nil));exact k _ _ hm X' ⟨l,⟨dx,u,⟨h1.e,h1.f,by rw[ka (Ne.symm o.ne)]; exact h1.h⟩,h2⟩,o'⟩
def jjw {m:Option α}{f:α->Option δ}{r:δ} (hi:σ[i]?=some (some (.ref a))) (o:OwnK K He F H c C Dk a) (cl:Cls K C) (n1:NoAttr K C "spot") (he:Ev K σ F H t (rF c) m) (X:Ext Fe He F H) (hm:m.bind f=some r)
  (k:∀ x F2 H2,f x=some r->Same F F2->Ext Fe He F2 H2->OwnK K He F2 H2 c C (x,Dk.2) a->u' D σ H2):QT (jjV K (Jo i) t "spot") u' D σ H:=by
 obtain⟨x,ex,hm⟩:=bind_some hm;refine he F H (Ext.refl X.sub) x ex _ fun v F2 H2 E hv=>?_;obtain⟨l,o2⟩:=o.mono E;obtain⟨dx,u,h1,h2⟩:=o2.ob;refine⟨_,hi,a,C,dx,_,rfl,h1.h,cl,n1,(by decide:2<1000),?_⟩;obtain⟨xs,h3,h4⟩:=o2.ls.h;exact k x F2 _ hm E.f ((X.trans E).upd h1.e h1.f) ⟨l,⟨dx,v,⟨h1.e,h1.f,j0⟩,hv⟩,⟨o2.ls.e,o2.ls.f,xs,by rw[ka o2.ne]; exact h3,h4⟩⟩
def jk6 {f:α×List α->Option δ}{r:δ} (hi:σ[i]?=some (some (.ref a))) (o:OwnK K He F H c C Dk a) (cl:Cls K C) (n1:NoAttr K C "spot") (n2:NoAttr K C "earlier") (X:Ext Fe He F H) (hm:(jkY Dk.2).bind f=some r)
  (k:∀ D2 H2,f D2=some r->Ext Fe He F H2->OwnK K He F H2 c C D2 a->u' D σ H2):QT (jjV K (Jo i) (jki K "list" jmH (jd6 K (Jo i) "earlier")) "spot") u' D σ H:=by
 obtain⟨z,ez,hm⟩:=bind_some hm;unfold jkY at ez;obtain⟨x,ex,ez⟩:=bind_some ez;cases ez;obtain⟨l,o⟩:=o;obtain⟨dx,u,h1,h2⟩:=o.ob;obtain⟨xs,h3,h4⟩:=o.ls.h;obtain⟨y,ey,ry⟩:=jbf h4 ex;refine⟨_,hi,a,C,dx,_,.ref l,rfl,h1.h,cl,n2,rfl,.inl ⟨rfl,_,SqL.of h3⟩,l,xs,y,rfl,rfl,h3,ey,?_⟩;obtain⟨X',o'⟩:=Vo (K:=K) (c:=c) X o.ls.e o.ls.f (JD h4);have h5:upd H l (.lst xs.dropLast) a=some (.ins C dx (dkF u l)):=by rw[ka (Ne.symm o.ne)]; exact h1.h
 refine⟨_,hi,a,C,dx,_,rfl,h5,cl,n1,(by decide:2<1000),?_⟩;obtain⟨ys,h6,h7⟩:=o'.h;exact k _ _ hm (X'.upd h1.e h1.f) ⟨l,⟨dx,y,⟨h1.e,h1.f,j0⟩,ry⟩,⟨o'.e,o'.f,ys,by rw[ka o.ne]; exact h6,h7⟩⟩
def rK (c:Cd α) (C:Addr):Rs (α×List α):=⟨fun K H F2 H2 Dk v=>∃ a,v=.ref a/\OwnK K H F2 H2 c C Dk a,fun s ⟨a,h1,l,h2⟩=>⟨a,h1,l,h2.back (s.free h2.ea) (s.free h2.ls.e)⟩⟩
def jl4 (K:W.Frag) (C:Addr) (c:Cd α) (m:Option (α×List α)):Sp:=fun vs H Q _=>∃ (F H1:Hp) (x dx:Addr) (r:α×List α),vs=[.ref x]/\H=upd (upd H1 dx (.own x)) x (.ins C dx [])/\H1 x=none/\H1 dx=none/\dx≠x/\Same F H1/\m=some r/\∀ F' H',Ext F H1 F' H'->OwnK K H1 F' H' c C r x->Q .non H'
def jhl {m:Option (α×List α)}:Ev K σ F H (Zp C (jl4 K C c m) [] E0 xh) (rK c C) m:=by
 intro F1 H1 E z e Q k x dx n1 n2 n3;exact⟨F1,H1,x,dx,z,rfl,rfl,n1,n2,n3,E.sub,e,fun F' H' E' o=>⟨rfl,k _ F' H' E' ⟨x,rfl,o⟩⟩⟩
def jjx {j:Nat}{m:Option (α×List α)}{f:α×List α->Option δ}{r:δ} (he:Ev K σ F H t (rK c C) m) (X:Ext Fe He F H) (hm:m.bind f=some r) (k:∀ Dk a F2 H2,f Dk=some r->Ext F H F2 H2->Ext Fe He F2 H2->OwnK K He F2 H2 c C Dk a->u' D (σ.set j (some (.ref a))) H2):QT (U9 t (k9 j)) u' D σ H:=by
 obtain⟨z,ez,hm⟩:=bind_some hm;refine he F H (Ext.refl X.sub) z ez _ ?_;rintro v F2 H2 E ⟨a,rfl,l,o⟩;exact k z a F2 H2 hm E (X.trans E) ⟨l,o.back (X.h.free o.ea) (X.h.free o.ls.e)⟩
def jhm {x:Addr}{u:V}{b:α}{r:δ} (hi:σ[i]?=some (some (.ref x))) (o:OwnI He F H C x dx (Qn "spot" u [])) (hu:c.rep K F b u) (cl:Cls K C) (n2:NoAttr K C "earlier") (he:Ev K σ F H t (rO c) m) (X:Ext Fe He F H) (hm:m.bind f=some r)
  (k:∀ l' F2 H2,f l'=some r->Ext Fe He F2 H2->OwnK K He F2 H2 c C (b,l') x->D.nx σ H2):jjV K (Jo i) t "earlier" D σ H:=by
 obtain⟨l',el,hm⟩:=bind_some hm;refine he F H (Ext.refl X.sub) l' el _ ?_;rintro v F2 H2 E ⟨l,xs,rfl,e1,e2,e3,e4⟩;have o2:=o.mono E;have ne:l≠x:=fun q=>by subst q; rw[o.h] at e1; cases e1
 refine⟨_,hi,x,C,dx,_,rfl,o2.h,cl,n2,(by decide:1<1000),?_⟩;exact k l' F2 _ hm ((X.trans E).upd o2.e o2.f) ⟨l,⟨dx,u,⟨o2.e,o2.f,j0⟩,c.mono E.f hu⟩,⟨X.h.free e1,e2,xs,by rw[ka ne]; exact e3,e4⟩⟩
def jjy {rs:Rs γ}{m:α×List α->β->Option γ} (hi:σ[i]?=some (some (.ref a))) (o:OwnK K He F H c C Dk a) (hn:∀ u l,(dkF u l).lookup nm=none) (h:Ev K σ F H t q.rs mb):Ev K σ F H (QC C nm (sp2 K (pK c C) q rs m) [] E0 (Jo i) (jH t xh)) rs (mb.bind fun x=>m Dk x):=by
 intro F1 H1 E z hz Q k;obtain⟨x,ex,hz⟩:=bind_some hz;have hr:=(pK c C).mono E o.r;obtain⟨l,o⟩:=o;obtain⟨dx,u,h1,h2⟩:=o.ob;refine⟨_,hi,a,dx,_,rfl,E.h _ _ h1.h,hn _ _,h F1 H1 E x ex _ fun v F2 H2 E2 hv=>?_⟩;exact⟨Dk,x,.ref a,v,F2,z,rfl,E2.sub,(pK c C).mono E2 hr,hv,hz,fun u F' H' E' hu=>k u F' H' (E2.trans E') (rs.back E2.h hu)⟩
end
end L3
namespace L2
open PySem PySem.Spec PyProof.Rows
def jjz {k:Nat}{p:Pos} (D:Kls X.prog X.w X.K X.mg X.base x C k ps sp) (hr:Room (k+1) X.A) (hg:Gl X x) (hdb:(x==("__debug__":Str))=false:=by decide):PE X (.Call (.Name x p) [] [] pos) (Zp C sp [] E0 xh):=by
 obtain⟨f,fd,M,F,hm,hb⟩:=D.ex;exact jgl M F hr hg hm hb .nil jc2 hdb
end L2
namespace L3
open PySem PySem.Spec L2
def yh {F:Hp}{t:TE}{rs:Rs γ}{m:α×List α->β->Option γ}{x:β}{mm_:Option γ} (hi:σ[i]?=some (some (.ref a))) (o:OwnK K He F H c C Dk a) (hn:∀ u l,(dkF u l).lookup nm=none) (h:Ev K σ F H t q.rs (some x)) (e_:mm_=m Dk x):Ev K σ F H (QC C nm (sp2 K (pK c C) q rs m) [] E0 (Jo i) (jH t xh)) rs mm_:=e_ ▸ jjy hi o hn h
end L3
namespace L2
open PySem PySem.Spec PyProof.Rows
section
def zT:GD X (.type "int") (fun xs H Q=>∃ (x:Str) (n:Int),xs=[.str x]/\x.length<=640/\PySem.intText? x=some n/\Q (.int n) H):=by
 intro pins s σ H xs us Q I r h;obtain⟨x,n,rfl,hl,hn,q⟩:=h;obtain⟨u,rfl,t,rfl⟩:=Ug r;exact call_int_1 (W.KIN.gives_text hl hn).meets (show (Made.int n).post _ s from ⟨rfl,⟨.int n,H,I.tok _,⟨_,rfl⟩,q⟩⟩)
def ZZ:GD X (.type "str") (fun xs H Q=>∃ x,xs=[.str x]/\Q (.str x) H):=by
 intro pins s σ H xs us Q I r h;obtain⟨x,rfl,q⟩:=h;obtain⟨u,rfl,t,rfl⟩:=Ug r;exact PySem.P.str_of_str ⟨.str _,H,I,⟨_,rfl⟩,q⟩
open Builtin.Str in
def jbk (a b:Str):Bool:=0+b.length<=a.length&&subAt a b 0
def jbl:V->List V->Hp->VK->Prop:=fun x vs H Q=>∃ a b:Str,x=.str a/\vs=[.str b]/\Q (.bl (jbk a b)) H
def jfF:MtM X "str.startswith" jbl:=by
 intro pins s σ H x vs v us Q I rx rv h;obtain⟨a,b,rfl,rfl,q⟩:=h;obtain⟨t,rfl⟩:=rx;obtain⟨u,rfl,ru⟩:=rv.one;obtain⟨t',rfl⟩:=ru;exact call_meets F.slot_str_startswith (typeIs_str s a t) F.entry_str_startswith (F.args_str_startswith_2 _ _) (gives_str_startswith a b t t').meets ⟨.bl (jbk a b),H,I,rfl,q⟩
end
def Its (x:Str):It:=⟨fun i _=>i<x.cps.size,fun i H v H'=>H'=H/\∃ c,x.cps[i]?=some c/\v=.str ⟨#[c]⟩,fun i _=>x.cps.size<=i⟩
def jhn (x:Str) (t:Tok) (it:Addr):Turn P w K tg (Its x) [it] it (fun i h=>h.IsStrIter it "str_ascii_iterator" x t i) where
 mem:=by simp
 obj:=fun i h st b hb=>by
  have e:b=it:=by simpa using hb
  subst e;obtain⟨o,e,c,d⟩:=st;exact⟨o,e,fun v z=>by rw[d] at z; cases z⟩
 keep:=fun i h h' st k=>let ⟨o,e,c,d⟩:=st; ⟨o,k it (by simp) o e,c,d⟩
 item:=by
  intro X hP hw hK hc i pins s σ H E I hf st hg;subst hP hw hK;have hx:i<x.cps.size:=hg;obtain⟨f0,f1,f2,f3,f4,f5⟩:=hf it (by simp);have he:x.cps[i]?=some x.cps[i]:=Array.getElem?_eq_getElem hx;refine wpAny_pyNext_ascii_item st he fun h' st' sb=>?_;have I1:Inv X pins σ H { s with heap:=h',toks:=s.toks+1 }:=I.turned (fun b o hb e=>(sb.2 b hb).trans e) f0 f1 f3 f4 f5
  obtain⟨o,e,c,d⟩:=id st';exact⟨_,rfl,Zl (s:={ s with heap:=h',toks:=s.toks+1 }) e c d (by decide) ⟨.str ⟨#[x.cps[i]]⟩,H,I1,⟨_,rfl⟩,⟨rfl,_,he,rfl⟩,st',fun b hb=>(hf b hb).1⟩⟩
 done:=by
  intro X hP hw hK hc i pins s σ H E I hf st hg;subst hP hw hK;have hx:x.cps.size<=i:=hg;obtain⟨f0,f1,f2,f3,f4,f5⟩:=hf it (by simp);exact wpAny_pyNext_ascii_end (I.ok.hd hc) st (Array.getElem?_eq_none hx) fun h' eb=>⟨rfl,I.turned (t':=s.toks) (fun b o hb e=>eb b o hb e) f0 f1 f3 f4 f5⟩
 self:=fun _ _ _ _ _ st h=>wpAny_pyIter_striter_ascii st h
section
def jk7 (tl:TE):TI:=fun σ H R=>tl σ H fun v H1=>∃ x:Str,v=.str x/\x.cps.all (·<128)=true/\R (Its x) H1
def jil {l:Expr}{tl:TE} (hl:PE X l tl):PI X tg l (jk7 tl):=by
 intro pins s σ H R I h;refine thn (hl pins s σ H _ I h) fun v s1 ⟨x,H1,I1,r1,q1⟩=>?_;obtain⟨y,e,ha,q⟩:=q1;subst e;obtain⟨t,rfl⟩:=r1;refine wpAny_pyIter_ascii ha ?_;refine⟨s1.heap.objs.size,[s1.heap.objs.size],_,_,H1,rfl,I1.kept (t':=s1.toks) fun b o e=>Xd _ e,jhn y t _,⟨_,Xi _ rfl,rfl,rfl⟩,fun b hb=>?_,q⟩;have e:b=s1.heap.objs.size:=by simpa using hb
 subst e;exact I1.fpOk (Xe _) (I1.hok.fresh (Xe _))
end
end L2
namespace L3
open PySem PySem.Spec L2
section
variable {F:Hp}{t:TE}
@[irreducible] def JH (x:Str):Option Int:=if x.length<=640 then PySem.intText? x else none
def Vz:Op1 K (fun x H Q=>∃ (z:Str) (n:Int),[x]=[V.str z]/\z.length<=640/\PySem.intText? z=some n/\Q (.int n) H) (pF cS) (rF cI) (fun x=>JH x):=by
 intro F H a x s hx z hz Q k;unfold JH at hz;dsimp only at hz;obtain rfl:x=.str a:=hx;by_cases hc:a.length<=640
 ·rw[if_pos hc] at hz;exact⟨a,z,rfl,hc,hz,k _ F H (Ext.refl s) rfl⟩
 ·rw[if_neg hc] at hz; cases hz
def jk8:Op1 K (fun x H Q=>∃ z:Str,[x]=[V.str z]/\Q (.str z) H) (pF cS) (rF cS) (fun x=>some x):=by
 intro F H a x s hx z hz Q k;cases hz;obtain rfl:x=.str a:=hx;exact⟨a,rfl,k _ F H (Ext.refl s) rfl⟩
@[irreducible] def Us (a b:Str):Bool:=jbk a b
def jfG {m m':Option Str} (h:Ev K σ F H t (rF cS) m) (h':Ev K σ F H ta (rF cS) m'):Ev K σ F H (tBM K "str" jbl t (jH ta xh)) (rF cB) (m.bind fun a=>m'.bind fun b=>some (Us a b)):=by
 intro F1 H1 E z e Q k;obtain⟨a,ea,e⟩:=bind_some e;obtain⟨b,eb,e⟩:=bind_some e;cases e;refine h F1 H1 E a ea _ fun v F2 H2 E2 hv=>?_;obtain rfl:v=.str a:=hv;refine⟨rfl,h' F2 H2 (E.trans E2) b eb _ fun w F3 H3 E3 hw=>?_⟩;obtain rfl:w=.str b:=hw;refine⟨a,b,rfl,rfl,k _ F3 H3 (E2.trans E3) ?_⟩;unfold Us;rfl
def Yn {a b:Str}{mm_:Option Bool} (h:Ev K σ F H t (rF cS) (some a)) (h':Ev K σ F H ta (rF cS) (some b)) (e_:mm_=some (Us a b)):Ev K σ F H (tBM K "str" jbl t (jH ta xh)) (rF cB) mm_:=e_ ▸ jfG h h'
@[irreducible] def Qu (x:Str):Option (List Str):=if x.cps.all (·<128)=true then some (x.cps.toList.map fun c=>⟨#[c]⟩) else none
def jim (h:∀ F H,G F H->Same F H):ItOk K (Its x) cS (x.cps.toList.map fun c=>⟨#[c]⟩) G where
 go:=fun i F H g hi'=>by rw[Xj,Xt] at hi'; exact hi'
 yld:=fun i F H v H' g y b hb=>by
  obtain⟨e,c,hc,y⟩:=y;subst e y;refine⟨F,Ext.refl (h F _ g),?_⟩;rw[Xx,Array.getElem?_toList,hc] at hb;cases hb;rfl
 stop:=fun F H g=>by rw[Xj,Xt]; exact Xe _
def jk9 {m:Option Str} (h:Ev K σ F H t (rF cS) m):Ei K σ F H Fe He (jk7 t) cS (m.bind fun x=>Qu x):=by
 intro X l e R k;obtain⟨x,ex,e⟩:=bind_some e;unfold Qu at e;obtain⟨hc,rfl⟩:=jS e;refine h F H (Ext.refl X.sub) x ex _ fun v F2 H2 E hv=>?_;obtain rfl:v=.str x:=hv;exact⟨x,rfl,hc,k _ F2 H2 E (jim fun F' H' g=>g.1.sub)⟩
def jdp {mm_:Option (List Str)} (h:Ev K σ F H t (rF cS) (some x)) (e_:mm_=Qu x):Ei K σ F H Fe He (jk7 t) cS mm_:=e_ ▸ jk9 h
def jk_ {m:Option Str} (h:Ev K σ F H t (rF cS) m):Ec K σ F H (jk7 t) cS (m.bind fun x=>Qu x):=by
 intro F1 H1 X l e R k;obtain⟨x,ex,e⟩:=bind_some e;unfold Qu at e;obtain⟨hc,rfl⟩:=jS e;refine h F1 H1 X x ex _ fun v F2 H2 E hv=>?_;obtain rfl:v=.str x:=hv;exact⟨x,rfl,hc,k _ F2 H2 E (jim fun F' H' g=>g.sub)⟩
def jdq {mm_:Option (List Str)} (h:Ev K σ F H t (rF cS) (some x)) (e_:mm_=Qu x):Ec K σ F H (jk7 t) cS mm_:=e_ ▸ jk_ h
end
section
variable {F:Hp}{t:TE}
def Z0 {x:Int}{mb:Option Int}{mm_:Option Bool} (ha:Ev K σ F H ta (rF cI) (some x)) (hb:Ev K σ F H tb (rF cI) mb) (hc:Ev K σ F H tc (rF cI) (some z)) (e_:mm_=mb.bind fun y=>some (g x y&&g' y z)) :
  Ev K σ F H (Vf (rI0 fun i j=>.bl (g i j)) (rI0 fun i j=>.bl (g' i j)) ta tb tc) (rF cB) mm_:=
 (W4 ha hb hc).cast (by
  rw[e_];cases mb with
  | none=>rfl
  | some y=>
   show some (g x y&&g' y z)=bif g x y then some (g' y z) else some false;cases g x y <;> rfl)
end
end L3
namespace L2
open PySem PySem.Spec PyProof.Rows PyProof.V
structure TabK (P:Program) (w:World) (K:W.Frag) (a:Addr) (D:List (Str×Addr)):Prop where
 look:KTD.tabLook (fun (f:Addr) v=>v==Value.ref f) (fun b=>K.lookup b) a D=true
 nd:(D.map (·.1)).Nodup
 hs:KTD.hashesOf (fun b=>K.lookup b) a=D.map fun p=>(PySem.strKind P w).hash p.1
def jho (P:Program) (w:World) {es:List DictEntry}{D:List (Str×Addr)} (h:KTD.Rows (fun (f:Addr) v=>v=Value.ref f) es D):es.map (·.hash)=D.map (fun p=>(PySem.strKind P w).hash p.1) ->
  (∀ e∈es,∃ k,(PySem.strKind P w).is k e.key=true/\e.hash=(PySem.strKind P w).hash k)/\Pairs (PySem.strKind P w) es (D.map fun p=>(p.1,Value.ref p.2)):=by
 induction h with
 | nil=>exact fun _=>⟨(fun _ h=>(nomatch h)),.nil⟩
 | @cons e x t d es D hkey hv _ ih=>
  intro hh;simp only[Xp,List.cons.injEq] at hh;obtain⟨hk,hp⟩:=ih hh.2;have hi:(PySem.strKind P w).is x e.key=true:=by rw[hkey]; exact strKind_is P w x t
  refine⟨fun e' he'=>?_,.cons hi hv hp⟩;rcases List.mem_cons.mp he' with he' | he'
  ·rw[he']; exact ⟨x,hi,hh.1⟩
  ·exact hk e' he'
def TabK.dict {D:List (Str×Addr)} (T:TabK P w K a D) (x:K.In h):(a==sysModules)=false/\h.DictOf (PySem.strKind P w) a (D.map fun p=>(p.1,Value.ref p.2)):=by
 have hl:=T.look;simp only[KTD.tabLook,XB] at hl;obtain⟨h0,hl⟩:=hl;split at hl
 ·rename_i o ho
  simp only[XB] at hl;obtain⟨⟨⟨e1,e2⟩,e3⟩,e4⟩:=hl;split at e4
  ·rename_i es ep hd
   have hh':es.toList.map (·.hash)=D.map fun p=>(PySem.strKind P w).hash p.1:=by
    rw[<- T.hs]; unfold KTD.hashesOf; dsimp only; rw[ho]; simp only[hd]
   obtain⟨hk,hp⟩:=jho P w (KTD.rows_of_look (fun _ _ z=>beq_iff_eq.mp z) e4) hh';refine⟨by simpa using h0,o,es,ep,x _ _ ho,⟨beq_iff_eq.mp e1,by simpa using e2,by simpa using e3⟩,hd,fun e he=>hk e (by simpa using he),hp,?_⟩;rw[List.map_map];exact T.nd
  ·cases e4
 ·cases hl
def Ut {k:Str}:∀ {D:List (Str×Addr)},valueAt (D.map fun p=>(p.1,Value.ref p.2)) k=(D.lookup k).map Value.ref
 | []=>rfl
 | (x,f)::D=>by
  have ih:=Ut (k:=k) (D:=D);unfold valueAt at ih ⊢;rw[XJ,Xp,X7];by_cases q:k=x
  ·subst q;simp
  ·have q':¬ x=k:=fun z=>q z.symm;have q2:(k==x)=false:=by simpa using q
   rw[q2];simp only[Xk q,Xk q'];exact ih
def jl5 (P:Program) (w:World) (K:W.Frag) (mg:Str->Option Value) (base:Heap) (n:Nat) (f:Addr) (o:Option Sp):Prop:=∃ sp,o=some sp/\W.keepIn K (.ref f)=true/\((∀ vs H Q E,¬ sp vs H Q E) \/ ∃ fd ps,FnOk P w K mg base CX0 n f fd ps sp/\Binds K fd ps [])
structure TabD (P:Program) (w:World) (K:W.Frag) (mg:Str->Option Value) (base:Heap) (x:Str) (n:Nat) (L:List (Str×Sp)):Prop where
 ex:∃ a D,mg x=some (.ref a)/\TabK P w K a D/\(D.map (·.1)=L.map (·.1))/\∀ k f,D.lookup k=some f->jl5 P w K mg base n f (L.lookup k)
def jl6 (ks:List Str) (ty:TE):TE:=fun σ H Q=>ty σ H fun y H1=>∃ k:Str,y=.str k/\Q (.bl (decide (k∈ks))) H1
def VA (L:List (Str×Sp)) (ty:TE) (t:TA):TE:=fun σ H Q=>ty σ H fun y H1=>∃ (k:Str) (sp:Sp),y=.str k/\L.lookup k=some sp/\t σ H1 fun vs H2=>sp vs H2 Q E0
def zK {β:Type}{k:Str}:∀ {D:List (Str×β)},(D.lookup k).isSome=decide (k∈D.map (·.1))
 | []=>by simp
 | (x,f)::D=>by
  have ih:=zK (k:=k) (D:=D);rw[XJ,Xp];by_cases q:k=x
  ·subst q; simp
  ·have q2:(k==x)=false:=by simpa using q
   rw[q2];dsimp only;rw[ih];simp[q]
section
variable {p spos:Pos}{i:Expr}{t:TA}
def jcz (T:TabD X.prog X.w X.K X.mg X.base x n L) (hg:Gl X x) (hi:PE X i ty) {ks:List Str} (hk:L.map (·.1)=ks) (hdb:(x==("__debug__":Str))=false:=by decide):PC X .In i (.Name x p) (jl6 ks ty):=by
 subst hk;obtain⟨a,D,hm,hT,he,hF⟩:=T.ex;intro pins s σ H Q I h;refine thn (hi pins s σ H _ I h) fun iv s1 ⟨y,H1,I1,ry,k,ey,q1⟩=>?_;subst ey;obtain⟨tk,rfl⟩:=ry;refine Ue I1 hg hm ?_ hdb;obtain⟨d0,d1⟩:=hT.dict I1.kIn;refine wpAny_in_of (strKind_is X.prog X.w k tk) d0 d1.mapOf ?_;rw[Ut,Option.isSome_map,zK,he];exact⟨.bl _,H1,I1.tok _,rfl,q1⟩
def VB (T:TabD X.prog X.w X.K X.mg X.base x n L) (hr:Room n X.A) (hg:Gl X x) (hi:PE X i ty) (hs:jlY i) (ha:PA X (e::es) t) (hdb:(x==("__debug__":Str))=false:=by decide) (he:starEach (e::es) X.env=(false,eval e X.env)::starEach es X.env:=by rfl) (hpl:(backTo pos (starEach es X.env)).any (·.1)=false:=by rfl)
  (ht:eval (.Call (.Subscript (.Name x p) i spos) (e::es) [] pos) X.env=(do
   callWith pos (<- eval (.Subscript (.Name x p) i spos) X.env) [] (backTo pos (starEach (e::es) X.env)) (backToKw pos (keywordEach [] X.env))):=by rfl) :
  PE X (.Call (.Subscript (.Name x p) i spos) (e::es) [] pos) (VA L ty t):=by
 obtain⟨a,D,hm,hT,hk,hF⟩:=T.ex;intro pins s σ H Q I h;rw[ht];refine Xa (jfc PySem.F.slot_dict_getitem.lookup hs (Ue I hg hm (thn (hi pins s σ H _ I h) fun iv s1 ⟨y,H1,I1,ry,k,sp,ey,hsp,q1⟩=>?_) hdb));subst ey;obtain⟨tk,rfl⟩:=ry;obtain⟨d0,d1⟩:=hT.dict I1.kIn;refine⟨d1.typeIs,?_⟩;have hs1:(D.lookup k).isSome=true:=by
  rw[zK,hk,<- zK,hsp]; rfl
 obtain⟨f,hf⟩:=Option.isSome_iff_exists.mp hs1;obtain⟨sp',hsp',hkp,hz⟩:=hF k f hf;rw[hsp] at hsp';cases hsp';refine wpAny_getItem_of (strKind_is X.prog X.w k tk) d1.mapOf (v:=.ref f) (by rw[Ut,hf]; rfl) ?_;have I2:Inv X pins σ H1 { s1 with toks:=s1.toks+1 }:=I1.tok _
 refine W.callWith_K (h₀:=X.base) I2.ok.mod.kin hkp (thn (ha pos pins _ σ H1 _ I2 q1) fun us s2 ⟨vs,H2,I3,r,q⟩=>⟨I3.kIn,?_⟩) he hpl;rcases hz with hz | ⟨fd,ps,F,hb⟩
 ·exact(hz _ _ _ _ q).elim
 ·exact jbZ (dvs:=[]) F hr hb .nil jc2 I3 r (by rw[List.append_nil]; exact q)
end
def jf_ (P:Program) (w:World) (K:W.Frag) (mg:Str->Option Value) (base:Heap) (n:Nat) (D:List (Str×Addr)) (L:List (Str×Sp)):Prop:=(D.map (·.1)=L.map (·.1))/\∀ k f,D.lookup k=some f->jl5 P w K mg base n f (L.lookup k)
section
variable {j:Nat}{f:Addr}{D:List (Str×Addr)} 
def Yo:jf_ P w K mg base n [] []:=⟨rfl,fun _ _ h=>by cases h⟩
def jcA (e:jl5 P w K mg base n f (some sp)) (h:jf_ P w K mg base n D L):jf_ P w K mg base n ((x,f)::D) ((x,sp)::L):=by
 refine⟨by rw[Xp,Xp,h.1],fun k g hg=>?_⟩;rw[XJ] at hg ⊢;cases q:k==x with
 | true=>
  rw[q] at hg;cases hg;exact e
 | false=>
  rw[q] at hg;exact h.2 k g hg
def jfH (hk:W.keepIn K (.ref f)=true) (F:FnOk P w K mg base CX0 j f fd ps sp) (hj:j<=n) (hb:Binds K fd ps []) (h:jf_ P w K mg base n D L):jf_ P w K mg base n ((x,f)::D) ((x,sp)::L):=jcA ⟨sp,rfl,hk,.inr ⟨fd,ps,F.mono hj,hb⟩⟩ h
def qB {x':Str} (Fn:Fun K x' qual st f fd) (F:FnOk P w K mg base CX0 j f fd ps sp) (h:jf_ P w K mg base n D L) (hj:j<=n:=by decide) (hb:L3.BindP x' qual st ps:=by exact L3.bnd):jf_ P w K mg base n ((x,f)::D) ((x,sp)::L):=jfH Fn.kp F hj (Fn.binds hb) h
def Yp (hk:W.keepIn K (.ref f)=true) (hz:∀ vs H Q E,¬ sp vs H Q E) (h:jf_ P w K mg base n D L):jf_ P w K mg base n ((x,f)::D) ((x,sp)::L):=jcA ⟨sp,rfl,hk,.inl hz⟩ h
def jbm (hm:mg x=some (.ref a)) (T:TabK P w K a D) (h:jf_ P w K mg base n D L):TabD P w K mg base x n L:=⟨a,D,hm,T,h.1,h.2⟩
end
end L2
namespace L3
open PySem PySem.Spec L2
section
variable {F:Hp}{t:TE}{p:Pm α}{rs:Rs γ}
def no1:∀ vs H Q E,¬ sp1 K p rs (fun _=>none) vs H Q E:=fun _ _ _ _ ⟨_,_,_,_,_,_,_,e,_⟩=>by cases e
def no2:∀ vs H Q E,¬ sp2 K p q rs (fun _ _=>none) vs H Q E:=fun _ _ _ _ ⟨_,_,_,_,_,_,_,_,_,_,e,_⟩=>by cases e
def jla {m:Option Str}{ks:List Str} (h:Ev K σ F H t (rF cS) m):Ev K σ F H (jl6 ks t) (rF cB) (m.bind fun k=>some (W3 k ks)):=by
 intro F1 H1 E z e Q k;obtain⟨x,ex,e⟩:=bind_some e;cases e;refine h F1 H1 E x ex _ fun v F2 H2 E2 hv=>?_;obtain rfl:v=.str x:=hv;exact⟨x,rfl,k _ F2 H2 E2 rfl⟩
def Qh {ks:List Str}{mm_:Option Bool} (h:Ev K σ F H t (rF cS) (some x)) (e_:mm_=some (W3 x ks)):Ev K σ F H (jl6 ks t) (rF cB) mm_:=e_ ▸ jla h
def lk1 (M:List (Str×(α->Option γ))) (k:Str) (x:α):Option γ:=(M.lookup k).bind fun f=>f x
def lk2 (M:List (Str×(α->β->Option γ))) (k:Str) (x:α) (y:β):Option γ:=(M.lookup k).bind fun f=>f x y
def jhp (K:W.Frag) (p:Pm α) (rs:Rs γ):List (Str×(α->Option γ))->List (Str×Sp)
 | []=>[]
 | (k,m)::M=>(k,sp1 K p rs m)::jhp K p rs M
def jjA (K:W.Frag) (p:Pm α) (q:Pm β) (rs:Rs γ):List (Str×(α->β->Option γ))->List (Str×Sp)
 | []=>[]
 | (k,m)::M=>(k,sp2 K p q rs m)::jjA K p q rs M
def jcB {k:Str}{f:α->Option γ}:∀ {M:List (Str×(α->Option γ))},M.lookup k=some f->(jhp K p rs M).lookup k=some (sp1 K p rs f)
 | (x,m)::M,h=>by
  unfold jhp;rw[XJ] at h ⊢;cases e:k==x with
  | true=>rw[e] at h; cases h; rfl
  | false=>rw[e] at h; exact jcB h
def jcC {k:Str}{f:α->β->Option γ}:∀ {M:List (Str×(α->β->Option γ))},M.lookup k=some f->(jjA K p q rs M).lookup k=some (sp2 K p q rs f)
 | (x,m)::M,h=>by
  unfold jjA;rw[XJ] at h ⊢;cases e:k==x with
  | true=>rw[e] at h; cases h; rfl
  | false=>rw[e] at h; exact jcC h
def jdr {M:List (Str×(α->Option γ))}{mk:Option Str} (hk:Ev K σ F H t (rF cS) mk) (ha:Ev K σ F H ta p.rs ma):Ev K σ F H (VA (jhp K p rs M) t (jH ta xh)) rs (mk.bind fun k=>ma.bind fun x=>lk1 M k x):=by
 intro F0 H0 E z e Q k;obtain⟨n,en,e⟩:=bind_some e;obtain⟨x,ex,e⟩:=bind_some e;obtain⟨f,ef,e⟩:=bind_some e;refine hk F0 H0 E n en _ fun v F1 H1 E1 hv=>?_;obtain rfl:v=.str n:=hv;refine⟨n,_,rfl,jcB ef,ha F1 H1 (E.trans E1) x ex _ fun v1 F2 H2 E2 r1=>?_⟩;exact⟨x,v1,F2,z,rfl,E2.sub,r1,e,fun u F' H' E' hu=>k u F' H' (E1.trans (E2.trans E')) (rs.back (E1.trans E2).h hu)⟩
def Qv {M:List (Str×(α->Option γ))}{n:Str}{x:α}{mm_:Option γ} (hk:Ev K σ F H t (rF cS) (some n)) (ha:Ev K σ F H ta p.rs (some x)) (e_:mm_=lk1 M n x):Ev K σ F H (VA (jhp K p rs M) t (jH ta xh)) rs mm_:=e_ ▸ jdr hk ha
def jds {M:List (Str×(α->β->Option γ))}{mk:Option Str} (hk:Ev K σ F H t (rF cS) mk) (ha:Ev K σ F H ta p.rs ma) (hb:Ev K σ F H tb q.rs mb):Ev K σ F H (VA (jjA K p q rs M) t (jH ta (jH tb xh))) rs (mk.bind fun k=>ma.bind fun x=>mb.bind fun y=>lk2 M k x y):=by
 intro F0 H0 E z e Q k;obtain⟨n,en,e⟩:=bind_some e;obtain⟨x,ex,e⟩:=bind_some e;obtain⟨y,ey,e⟩:=bind_some e;obtain⟨f,ef,e⟩:=bind_some e;refine hk F0 H0 E n en _ fun v F1 H1 E1 hv=>?_;obtain rfl:v=.str n:=hv;refine⟨n,_,rfl,jcC ef,ha F1 H1 (E.trans E1) x ex _ fun v1 F2 H2 E2 r1=>hb F2 H2 (E.trans (E1.trans E2)) y ey _ fun v2 F3 H3 E3 r2=>?_⟩;exact⟨x,y,v1,v2,F3,z,rfl,E3.sub,p.mono E3 r1,r2,e,fun u F' H' E' hu=>k u F' H' (E1.trans (E2.trans (E3.trans E'))) (rs.back (E1.trans (E2.trans E3)).h hu)⟩
def Z1 {M:List (Str×(α->β->Option γ))}{n:Str}{x:α}{mm_:Option γ} (hk:Ev K σ F H t (rF cS) (some n)) (ha:Ev K σ F H ta p.rs (some x)) (hb:Ev K σ F H tb q.rs mb) (e_:mm_=mb.bind fun y=>lk2 M n x y):Ev K σ F H (VA (jjA K p q rs M) t (jH ta (jH tb xh))) rs mm_:=e_ ▸ jds hk ha hb
end
end L3
namespace MM
open PySem L2 L3
section
def jlb {f:α->Option β}{a:α} (x:Option α) (e:x=some a):x.bind f=f a:=by rw[e]; rfl
def bs {f:α->Option β}{a:α}:(some a).bind f=f a:=jlb _ rfl
def jlc {a b:α} (x:Bool) (e:x=true):(bif x then a else b)=a:=by rw[e]; rfl
def ct {a b:α}:(bif true then a else b)=a:=jlc _ rfl
def jld {a b:α} (x:Bool) (e:x=false):(bif x then a else b)=b:=by rw[e]; rfl
def cf {a b:α}:(bif false then a else b)=b:=jld _ rfl
def rng (h:n<=1000000000):Gg 0 (n:Int)=some ((List.range n).map fun k=>((k:Nat):Int)):=by
 unfold Gg;rw[if_pos ⟨by omega,by omega,by omega,by omega⟩];unfold UO;rw[Int.sub_zero,Int.toNat_natCast];congr 2
 funext k
 omega
def at_nat {x:α} (h:l[i]?=some x):pAt l (i:Int)=some x:=by unfold pAt; exact jiC h
def at_get (h:i<l.length):pAt l (i:Int)=some l[i]:=at_nat (List.getElem?_eq_getElem h)
def modP {i:Int} (h:0<j):jaI i j=some (i % j):=jci h
def divP {i:Int} (h:0<j) (h2:j<2 ^ 250):jem i j=some (i / j):=jch ⟨h,Int.lt_trans h2 (by have:(2:Nat) ^ 250<2 ^ 1000:=Nat.pow_lt_pow_right (by decide) (by decide); exact_mod_cast this)⟩
def comp {p:α->Option Bool}{f:α->Option β} (q:α->Bool) (g:α->β) (hl:l.length<=16777216) (hp:∀ x∈l,p x=some (q x)) (hf:∀ x∈l,q x=true->f x=some (g x)):kS l p f=some ((l.filter q).map g):=by
 unfold kS;rw[if_pos hl];clear hl
 induction l with
 | nil=>rfl
 | cons x r ih=>
  unfold jaQ;have ih':=ih (fun y hy=>hp y (List.mem_cons_of_mem _ hy)) fun y hy=>hf y (List.mem_cons_of_mem _ hy);rw[hp x List.mem_cons_self,Option.bind_some,ih'];cases h:q x with
  | true=>rw[hf x List.mem_cons_self h]; simp[h]
  | false=>simp[h]
def compR {p:Int->Option Bool}{f:Int->Option β} (q:Nat->Bool) (g:Nat->β) (hn:n<=1000000) (hp:∀ k,k<n->p (k:Int)=some (q k)) (hf:∀ k,k<n->q k=true->f (k:Int)=some (g k)) :
  kS ((List.range n).map fun k=>((k:Nat):Int)) p f=some (((List.range n).filter q).map g):=by
 rw[comp (fun x=>q x.toNat) (fun x=>g x.toNat) (by simp; omega)]
 ·rw[List.filter_map,List.map_map];simp[Function.comp_def]
 ·intro x hx;obtain⟨k,hk,rfl⟩:=List.mem_map.mp hx;rw[hp k (List.mem_range.mp hk),Int.toNat_natCast]
 ·intro x hx h;obtain⟨k,hk,rfl⟩:=List.mem_map.mp hx;rw[Int.toNat_natCast] at h ⊢;exact hf k (List.mem_range.mp hk) h
def shr {b t:Nat}:jiI (b:Int) (t:Int)=some ((b / 2 ^ t:Nat):Int):=by
 rw[jgD (by omega),Int.toNat_natCast];simp[Int.natCast_ediv]
end
end MM
namespace L3
open PySem PySem.Spec L2
def Ext.xc {α:Type}{c:Cd α}{K:W.Frag}{F H F' H':Hp}{a:α}{v:V} (E:Ext F H F' H') (h:c.rep K F a v):c.rep K F' a v:=Cd.mono _ E.f h
def Ext.xd {G F H F' H':Hp} (E:Ext F H F' H') (h:Same G F):Same G F':=Same.trans h E.f
def Ext.xb {α:Type}{c:Cd α}{K:W.Frag}{He F H F' H':Hp}{a:List α}{v:V} (E:Ext F H F' H') (h:Bor K He F c a v):Bor K He F' c a v:=Bor.mono h E.f
end L3
namespace Lw
open PySem L2 L3
structure MOrder where
 many:Int
 beneath:(List Int)
 neighbours:(List (Int×Int))
def zL (u1 u2 u3:V):List (Str×V):=(Qn "neighbours" u3 (Qn "beneath" u2 (Qn "many" u1 [])))
def ji (C:Addr):Cd MOrder:=⟨fun K H o v=>∃ a dx u1 u2 u3,v=.ref a/\H a=some (.ins C dx (zL u1 u2 u3))/\cI.rep K H o.many u1/\(cT cI).rep K H o.beneath u2/\(cT (cP cI cI)).rep K H o.neighbours u3,fun s ⟨a,dx,u1,u2,u3,e,h,r1,r2,r3⟩=>⟨a,dx,u1,u2,u3,e,s _ _ h,Cd.mono _ s r1,Cd.mono _ s r2,Cd.mono _ s r3⟩⟩
structure Ar (K:W.Frag) (mg:Str->Option Value) (C:Addr):Prop where
 cl:Cls K C
 n_many:NoAttr K C "many"
 n_beneath:NoAttr K C "beneath"
 n_neighbours:NoAttr K C "neighbours"
def Qw (T:Ar K mg C):Qq K (ji C) "many" cI (fun o=>o.many):=fun⟨a,dx,u1,u2,u3,e,h,r1,r2,r3⟩=>⟨a,C,dx,_,u1,e,h,T.cl,T.n_many,by unfold zL; rw[jj,if_neg (by decide +kernel),jj,if_neg (by decide +kernel),jj,if_pos rfl],r1⟩
def q_ (T:Ar K mg C):Qq K (ji C) "beneath" (cT cI) (fun o=>o.beneath):=fun⟨a,dx,u1,u2,u3,e,h,r1,r2,r3⟩=>⟨a,C,dx,_,u2,e,h,T.cl,T.n_beneath,by unfold zL; rw[jj,if_neg (by decide +kernel),jj,if_pos rfl],r2⟩
def x6 (T:Ar K mg C):Qq K (ji C) "neighbours" (cT (cP cI cI)) (fun o=>o.neighbours):=fun⟨a,dx,u1,u2,u3,e,h,r1,r2,r3⟩=>⟨a,C,dx,_,u3,e,h,T.cl,T.n_neighbours,by unfold zL; rw[jj,if_pos rfl],r3⟩
def kH:W5 (ji C) C "size":=fun⟨a,dx,u1,u2,u3,e,h,_⟩=>⟨a,dx,_,e,h,by unfold zL; rw[jj,if_neg (by decide +kernel),jj,if_neg (by decide +kernel),jj,if_neg (by decide +kernel)]; rfl⟩
def VC:W5 (ji C) C "covers":=fun⟨a,dx,u1,u2,u3,e,h,_⟩=>⟨a,dx,_,e,h,by unfold zL; rw[jj,if_neg (by decide +kernel),jj,if_neg (by decide +kernel),jj,if_neg (by decide +kernel)]; rfl⟩
def zJ:W5 (ji C) C "check_thing":=fun⟨a,dx,u1,u2,u3,e,h,_⟩=>⟨a,dx,_,e,h,by unfold zL; rw[jj,if_neg (by decide +kernel),jj,if_neg (by decide +kernel),jj,if_neg (by decide +kernel)]; rfl⟩
def zU:W5 (ji C) C "just_above":=fun⟨a,dx,u1,u2,u3,e,h,_⟩=>⟨a,dx,_,e,h,by unfold zL; rw[jj,if_neg (by decide +kernel),jj,if_neg (by decide +kernel),jj,if_neg (by decide +kernel)]; rfl⟩
def zV:W5 (ji C) C "just_below":=fun⟨a,dx,u1,u2,u3,e,h,_⟩=>⟨a,dx,_,e,h,by unfold zL; rw[jj,if_neg (by decide +kernel),jj,if_neg (by decide +kernel),jj,if_neg (by decide +kernel)]; rfl⟩
structure MSpot where
 order:MOrder
 bits:Int
 line:(List Int)
 answer:Str
def VD (u1 u2 u3 u4:V):List (Str×V):=(Qn "answer" u4 (Qn "line" u3 (Qn "bits" u2 (Qn "order" u1 []))))
def jE (C_Order:Addr) (C:Addr):Cd MSpot:=⟨fun K H o v=>∃ a dx u1 u2 u3 u4,v=.ref a/\H a=some (.ins C dx (VD u1 u2 u3 u4))/\(ji C_Order).rep K H o.order u1/\cI.rep K H o.bits u2/\(cT cI).rep K H o.line u3/\cS.rep K H o.answer u4,fun s ⟨a,dx,u1,u2,u3,u4,e,h,r1,r2,r3,r4⟩=>⟨a,dx,u1,u2,u3,u4,e,s _ _ h,Cd.mono _ s r1,Cd.mono _ s r2,Cd.mono _ s r3,Cd.mono _ s r4⟩⟩
structure As (K:W.Frag) (mg:Str->Option Value) (C:Addr):Prop where
 cl:Cls K C
 n_order:NoAttr K C "order"
 n_bits:NoAttr K C "bits"
 n_line:NoAttr K C "line"
 n_answer:NoAttr K C "answer"
def jR (T:As K mg C):Qq K (jE C_Order C) "order" (ji C_Order) (fun o=>o.order):=fun⟨a,dx,u1,u2,u3,u4,e,h,r1,r2,r3,r4⟩=>⟨a,C,dx,_,u1,e,h,T.cl,T.n_order,by unfold VD; rw[jj,if_neg (by decide +kernel),jj,if_neg (by decide +kernel),jj,if_neg (by decide +kernel),jj,if_pos rfl],r1⟩
def G3 (T:As K mg C):Qq K (jE C_Order C) "bits" cI (fun o=>o.bits):=fun⟨a,dx,u1,u2,u3,u4,e,h,r1,r2,r3,r4⟩=>⟨a,C,dx,_,u2,e,h,T.cl,T.n_bits,by unfold VD; rw[jj,if_neg (by decide +kernel),jj,if_neg (by decide +kernel),jj,if_pos rfl],r2⟩
def yD (T:As K mg C):Qq K (jE C_Order C) "line" (cT cI) (fun o=>o.line):=fun⟨a,dx,u1,u2,u3,u4,e,h,r1,r2,r3,r4⟩=>⟨a,C,dx,_,u3,e,h,T.cl,T.n_line,by unfold VD; rw[jj,if_neg (by decide +kernel),jj,if_pos rfl],r3⟩
def VE (T:As K mg C):Qq K (jE C_Order C) "answer" cS (fun o=>o.answer):=fun⟨a,dx,u1,u2,u3,u4,e,h,r1,r2,r3,r4⟩=>⟨a,C,dx,_,u4,e,h,T.cl,T.n_answer,by unfold VD; rw[jj,if_pos rfl],r4⟩
structure Ba (K:W.Frag) (mg:Str->Option Value) (C:Addr):Prop where
 cl:Cls K C
 n_spot:NoAttr K C "spot"
 n_earlier:NoAttr K C "earlier"
structure MGreat where
 order:MOrder
def Yq (u1:V):List (Str×V):=(Qn "order" u1 [])
def Qx (C_Order:Addr) (C:Addr):Cd MGreat:=⟨fun K H o v=>∃ a dx u1,v=.ref a/\H a=some (.ins C dx (Yq u1))/\(ji C_Order).rep K H o.order u1,fun s ⟨a,dx,u1,e,h,r1⟩=>⟨a,dx,u1,e,s _ _ h,Cd.mono _ s r1⟩⟩
structure A6 (K:W.Frag) (mg:Str->Option Value) (C:Addr):Prop where
 cl:Cls K C
 n_order:NoAttr K C "order"
def VF (T:A6 K mg C):Qq K (Qx C_Order C) "order" (ji C_Order) (fun o=>o.order):=fun⟨a,dx,u1,e,h,r1⟩=>⟨a,C,dx,_,u1,e,h,T.cl,T.n_order,by unfold Yq; rw[jj,if_pos rfl],r1⟩
def G4:W5 (Qx C_Order C) C "done":=fun⟨a,dx,u1,e,h,_⟩=>⟨a,dx,_,e,h,by unfold Yq; rw[jj,if_neg (by decide +kernel)]; rfl⟩
structure MFraction where
 top:Int
 bottom:Int
def G5 (u1 u2:V):List (Str×V):=(Qn "bottom" u2 (Qn "top" u1 []))
def xF (C:Addr):Cd MFraction:=⟨fun K H o v=>∃ a dx u1 u2,v=.ref a/\H a=some (.ins C dx (G5 u1 u2))/\cI.rep K H o.top u1/\cI.rep K H o.bottom u2,fun s ⟨a,dx,u1,u2,e,h,r1,r2⟩=>⟨a,dx,u1,u2,e,s _ _ h,Cd.mono _ s r1,Cd.mono _ s r2⟩⟩
structure An (K:W.Frag) (mg:Str->Option Value) (C:Addr):Prop where
 cl:Cls K C
 n_top:NoAttr K C "top"
 n_bottom:NoAttr K C "bottom"
def U1 (T:An K mg C):Qq K (xF C) "top" cI (fun o=>o.top):=fun⟨a,dx,u1,u2,e,h,r1,r2⟩=>⟨a,C,dx,_,u1,e,h,T.cl,T.n_top,by unfold G5; rw[jj,if_neg (by decide +kernel),jj,if_pos rfl],r1⟩
def QH (T:An K mg C):Qq K (xF C) "bottom" cI (fun o=>o.bottom):=fun⟨a,dx,u1,u2,e,h,r1,r2⟩=>⟨a,C,dx,_,u2,e,h,T.cl,T.n_bottom,by unfold G5; rw[jj,if_pos rfl],r2⟩
def Uu:W5 (xF C) C "shown":=fun⟨a,dx,u1,u2,e,h,_⟩=>⟨a,dx,_,e,h,by unfold G5; rw[jj,if_neg (by decide +kernel),jj,if_neg (by decide +kernel)]; rfl⟩
structure MSlide where
 order:MOrder
def Va (u1:V):List (Str×V):=(Qn "order" u1 [])
def JI (C_Order:Addr) (C:Addr):Cd MSlide:=⟨fun K H o v=>∃ a dx u1,v=.ref a/\H a=some (.ins C dx (Va u1))/\(ji C_Order).rep K H o.order u1,fun s ⟨a,dx,u1,e,h,r1⟩=>⟨a,dx,u1,e,s _ _ h,Cd.mono _ s r1⟩⟩
structure A7 (K:W.Frag) (mg:Str->Option Value) (C:Addr):Prop where
 cl:Cls K C
 n_order:NoAttr K C "order"
def yE (T:A7 K mg C):Qq K (JI C_Order C) "order" (ji C_Order) (fun o=>o.order):=fun⟨a,dx,u1,e,h,r1⟩=>⟨a,C,dx,_,u1,e,h,T.cl,T.n_order,by unfold Va; rw[jj,if_pos rfl],r1⟩
def Yr:W5 (JI C_Order C) C "done":=fun⟨a,dx,u1,e,h,_⟩=>⟨a,dx,_,e,h,by unfold Va; rw[jj,if_neg (by decide +kernel)]; rfl⟩
def Ys:W5 (JI C_Order C) C "back":=fun⟨a,dx,u1,e,h,_⟩=>⟨a,dx,_,e,h,by unfold Va; rw[jj,if_neg (by decide +kernel)]; rfl⟩
structure MAbove where
 order:MOrder
def Yt (u1:V):List (Str×V):=(Qn "order" u1 [])
def VG (C_Order:Addr) (C:Addr):Cd MAbove:=⟨fun K H o v=>∃ a dx u1,v=.ref a/\H a=some (.ins C dx (Yt u1))/\(ji C_Order).rep K H o.order u1,fun s ⟨a,dx,u1,e,h,r1⟩=>⟨a,dx,u1,e,s _ _ h,Cd.mono _ s r1⟩⟩
structure A8 (K:W.Frag) (mg:Str->Option Value) (C:Addr):Prop where
 cl:Cls K C
 n_order:NoAttr K C "order"
def JJ (T:A8 K mg C):Qq K (VG C_Order C) "order" (ji C_Order) (fun o=>o.order):=fun⟨a,dx,u1,e,h,r1⟩=>⟨a,C,dx,_,u1,e,h,T.cl,T.n_order,by unfold Yt; rw[jj,if_pos rfl],r1⟩
def Yu:W5 (VG C_Order C) C "done":=fun⟨a,dx,u1,e,h,_⟩=>⟨a,dx,_,e,h,by unfold Yt; rw[jj,if_neg (by decide +kernel)]; rfl⟩
structure MBelow where
 order:MOrder
def Yv (u1:V):List (Str×V):=(Qn "order" u1 [])
def VH (C_Order:Addr) (C:Addr):Cd MBelow:=⟨fun K H o v=>∃ a dx u1,v=.ref a/\H a=some (.ins C dx (Yv u1))/\(ji C_Order).rep K H o.order u1,fun s ⟨a,dx,u1,e,h,r1⟩=>⟨a,dx,u1,e,s _ _ h,Cd.mono _ s r1⟩⟩
structure A9 (K:W.Frag) (mg:Str->Option Value) (C:Addr):Prop where
 cl:Cls K C
 n_order:NoAttr K C "order"
def JK (T:A9 K mg C):Qq K (VH C_Order C) "order" (ji C_Order) (fun o=>o.order):=fun⟨a,dx,u1,e,h,r1⟩=>⟨a,C,dx,_,u1,e,h,T.cl,T.n_order,by unfold Yv; rw[jj,if_pos rfl],r1⟩
def Yw:W5 (VH C_Order C) C "done":=fun⟨a,dx,u1,e,h,_⟩=>⟨a,dx,_,e,h,by unfold Yv; rw[jj,if_neg (by decide +kernel)]; rfl⟩
@[irreducible] def k8 (script:(List Int)) (k_:Int):Option Int:=
 (some (0)).bind fun cell=>
 (bif (decide (0<(script.length:Int))) then
 (((some (script)).bind fun t1=>((jaI k_ (script.length:Int))).bind fun t2=>(pAt t1 t2))).bind fun cell=>
 some cell
 else
 some cell).bind fun cell=>
 (some ((((cell+(7919 * (k_+1))) * 6364136223846793005) % 2305843009213693951))).bind fun low=>
 some (((((cell % (10 ^ 60:Int)) / 2305843009213693951) * 2305843009213693951)+low))
@[irreducible] def Gw (cell:Int):Option (Int×Int):=
 (some ((1+(cell % 9)))).bind fun a_=>
 ((some (a_)).bind fun t5=>(((some (1)).bind fun t3=>(((some ((cell / 9))).bind fun t1=>((jem 9 a_)).bind fun t2=>(jaI t1 t2))).bind fun t4=>some ((t3+t4)))).bind fun t6=>some ((t5,t6)))
@[irreducible] def yF (many:Int) (pairs:(List (Int×Int))):Option Unit:=
 bif (!((decide (1<=many))&&(decide (many<=9)))) then
 none
 else
 (L3.forM pairs () (fun (_:Unit) z3=>
 bif (!((decide (0<=z3.1))&&((decide (z3.1<z3.2))&&(decide (z3.2<many))))) then
 none
 else
 some ())).bind fun _=>
 some ()
@[irreducible] def zq (many:Int) (pairs:(List (Int×Int))):Option (List Int):=
 (some (([]:List Int))).bind fun found=>
 (((Gg 0 many)).bind fun l14=>L3.forM l14 found (fun found thing=>
 (some (0)).bind fun bits=>
 (L3.forM pairs bits (fun bits z7=>
 (bif (decide (z7.2=thing)) then
 (((((some (bits)).bind fun t8=>((pAt found z7.1)).bind fun t9=>some ((Builtin.bitOr t8 t9)))).bind fun t10=>((jav 1 z7.1)).bind fun t11=>some ((Builtin.bitOr t10 t11)))).bind fun bits=>
 some bits
 else
 some bits).bind fun bits=>
 some bits)).bind fun bits=>
 ((Zh found bits)).bind fun found=>
 some found)).bind fun found=>
 some (found)
@[irreducible] def Uv (bits:Int) (thing:Int):Option Bool:=
 (((((jiI bits thing)).bind fun t1=>(some (1)).bind fun t2=>some ((Builtin.bitAnd t1 t2)))).bind fun t3=>(some (1)).bind fun t4=>some ((decide (t3=t4))))
@[irreducible] def GM (beneath:(List Int)) (low:Int) (high:Int):Option Bool:=
 ((((((pAt beneath high)).bind fun t1=>(some (low)).bind fun t2=>(Uv t1 t2))).bind fun t3=>some ((!t3)))).bind fun q13=>bif q13 then
 some (false)
 else
 (((((((Gg (low+1) high)).bind fun l10=>kS l10 (fun _=>some true) (fun mid=>(((((pAt beneath high)).bind fun t6=>(some (mid)).bind fun t7=>(Uv t6 t7))).bind fun q=>bif q then (((pAt beneath mid)).bind fun t8=>(some (low)).bind fun t9=>(Uv t8 t9)) else some false)))).bind fun t11=>some ((t11.any id)))).bind fun t12=>some ((!t12)))
@[irreducible] def yG (beneath:(List Int)):Option (List (Int×Int)):=
 (some (([]:List (Int×Int)))).bind fun found=>
 (((Gg 0 (beneath.length:Int))).bind fun l7=>L3.forM l7 found (fun found low=>
 (((Gg (low+1) (beneath.length:Int))).bind fun l6=>L3.forM l6 found (fun found high=>
 (((GM beneath low high)).bind fun q5=>bif q5 then
 ((Zh found (low,high))).bind fun found=>
 some found
 else
 some found).bind fun found=>
 some found)).bind fun found=>
 some found)).bind fun found=>
 some (found)
@[irreducible] def yp (many:Int) (pairs:(List (Int×Int))):Option MOrder:=
 ((yF many pairs)).bind fun _=>
 (some (many)).bind fun f_many=>
 ((zq many pairs)).bind fun f_beneath=>
 ((yG f_beneath)).bind fun f_neighbours=>
 some (MOrder.mk f_many f_beneath f_neighbours)
@[irreducible] def jP (self:MOrder):Option Int:=
 some (self.many)
@[irreducible] def kC (bits:Int):Option (List Int):=
 (((Gg 0 ((Builtin.Int.intBits bits:Nat):Int))).bind fun l3=>kS l3 (fun thing=>(Uv bits thing)) (fun thing=>some (thing)))
@[irreducible] def qO (bits:Int) (others:Int):Option Bool:=
 some ((decide ((Builtin.bitAnd bits others)=others)))
@[irreducible] def xk (order:MOrder) (bits:Int):Option Bool:=
 ((bif (decide (bits<0)) then some true else ((((some (bits)).bind fun t1=>((jP order)).bind fun t2=>(jiI t1 t2))).bind fun t3=>(some (0)).bind fun t4=>some ((decide (t4<t3)))))).bind fun q11=>bif q11 then
 some (false)
 else
 (((((kC bits)).bind fun l9=>kS l9 (fun _=>some true) (fun thing=>((some (bits)).bind fun t7=>((pAt order.beneath thing)).bind fun t8=>(qO t7 t8))))).bind fun t10=>some ((t10.all id)))
@[irreducible] def kL (order:MOrder):Option (List Int):=
 ((((((some (1)).bind fun t1=>((jP order)).bind fun t2=>(jav t1 t2))).bind fun t3=>(Gg 0 t3))).bind fun l6=>kS l6 (fun bits=>(xk order bits)) (fun bits=>some (bits)))
@[irreducible] def yH (order:MOrder) (bits:Int) (thing:Int):Option Bool:=
 (((((Uv bits thing)).bind fun t1=>some ((!t1)))).bind fun q=>bif q then ((some (bits)).bind fun t2=>((pAt order.beneath thing)).bind fun t3=>(qO t2 t3)) else some false)
@[irreducible] def kI (order:MOrder) (ahead:Int):Option (List Int):=
 (((((jP order)).bind fun t1=>(Gg 0 t1))).bind fun l4=>kS l4 (fun thing=>(yH order ahead thing)) (fun thing=>some (thing)))
@[irreducible] def xa (order:MOrder):Option (List (Int×Int)):=
 (some (([]:(List (Int×Int))))).bind fun ways=>
 (((((kL order)).bind fun t1=>some ((t1.reverse)))).bind fun l14=>L3.forM l14 ways (fun ways ahead=>
 ((((kI order ahead)).bind fun l8=>kS l8 (fun _=>some true) (fun thing=>((some (ahead)).bind fun t6=>((jav 1 thing)).bind fun t7=>some ((Builtin.bitOr t6 t7)))))).bind fun grown=>
 (((bif (decide (0<(grown.length:Int))) then (((kS grown (fun _=>some true) (fun bits=>(V7 ways bits)))).bind fun t11=>some ((t11.sum))) else some (1))).bind fun t12=>(some (ahead)).bind fun t13=>ji8 ways t13 t12).bind fun ways=>
 some ways)).bind fun ways=>
 some ways
@[irreducible] def zr (order:MOrder) (number:Int):Option (List Int):=
 ((xa order)).bind fun ways=>
 ((((bif (decide (0<=number)) then ((V7 ways 0)).bind fun t1=>some (decide (number<t1)) else some false)).bind fun t2=>some ((!t2)))).bind fun q31=>bif q31 then
 none
 else
 (some (([]:List Int))).bind fun row=>
 (some (0)).bind fun ahead=>
 (some (number)).bind fun left=>
 (pWh (fun z4=>((some ((z4.1.length:Int))).bind fun t5=>((jP order)).bind fun t6=>some ((decide (t5<t6))))) (fun z4=>
 ((kI order z4.2.1)).bind fun choices=>
 (pWh (fun z7=>((some (z7.1)).bind fun t14=>(((some (ways)).bind fun t12=>(((some (z4.2.1)).bind fun t10=>(((some (1)).bind fun t8=>((pAt z7.2 0)).bind fun t9=>(jav t8 t9))).bind fun t11=>some ((Builtin.bitOr t10 t11)))).bind fun t13=>(V7 t12 t13))).bind fun t15=>some ((decide (t15<=t14))))) (fun z7=>
 (((some (z7.1)).bind fun t22=>(((some (ways)).bind fun t20=>(((some (z4.2.1)).bind fun t18=>(((some (1)).bind fun t16=>((pAt z7.2 0)).bind fun t17=>(jav t16 t17))).bind fun t19=>some ((Builtin.bitOr t18 t19)))).bind fun t21=>(V7 t20 t21))).bind fun t23=>some ((t22-t23)))).bind fun left=>
 (some ((cut z7.2 (some 1) none))).bind fun choices=>
 some (left,choices)) (z4.2.2,choices)).bind fun z24=>
 ((((pAt z24.2 0)).bind fun t29=>(Zh z4.1 t29))).bind fun row=>
 (((some (z4.2.1)).bind fun t27=>(((some (1)).bind fun t25=>((pAt z24.2 0)).bind fun t26=>(jav t25 t26))).bind fun t28=>some ((Builtin.bitOr t27 t28)))).bind fun ahead=>
 some (row,ahead,z24.1)) (row,ahead,left)).bind fun z30=>
 some (z30.1)
@[irreducible] def zf (self:MOrder):Option (List (Int×Int)):=
 some (self.neighbours)
@[irreducible] def xG (order:MOrder):Option Str:=
 ((((((jP order)).bind fun t1=>(Jq t1))).bind fun t2=>(some ([]:List Str)).bind fun t3=>some (t2::t3))).bind fun words=>
 (((zf order)).bind fun l15=>L3.forM l15 words (fun words z6=>
 (((((some (z6.1)).bind fun i8=>(Jq i8).bind fun y9=>(xi Str.empty y9).bind fun j7=>(xi j7 ("<":Str)).bind fun j10=>(some (z6.2)).bind fun i12=>(Jq i12).bind fun y13=>(xi j10 y13).bind fun j11=>jjZ j11)).bind fun t14=>(Zh words t14))).bind fun words=>
 some words)).bind fun words=>
 (Yh (" ":Str) words)
@[irreducible] def qP (order:MOrder) (bits:Int) (line:(List Int)) (answer:Str):Option MSpot:=
 (some (order)).bind fun f_order=>
 (some (bits)).bind fun f_bits=>
 (some (line)).bind fun f_line=>
 (some (answer)).bind fun f_answer=>
 some (MSpot.mk f_order f_bits f_line f_answer)
@[irreducible] def qc (order:MOrder):Option MSpot:=
 ((some (order)).bind fun t1=>(some (0)).bind fun t2=>((zr order 0)).bind fun t3=>((xG order)).bind fun t4=>(qP t1 t2 t3 t4))
@[irreducible] def m_Desk_init:Option (MSpot×List MSpot):=
 ((((yp 1 ([]:List (Int×Int)))).bind fun t1=>(qc t1))).bind fun f_spot=>
 (some ([]:List MSpot)).bind fun f_earlier=>
 some (f_spot,f_earlier)
@[irreducible] def yI (a_:Int) (b_:Int):Option (List (Int×Int)):=
 (some (([]:List (Int×Int)))).bind fun pairs=>
 (((Gg 0 a_)).bind fun l25=>L3.forM l25 pairs (fun pairs r_=>
 (((Gg 0 b_)).bind fun l24=>L3.forM l24 pairs (fun pairs c_=>
 (bif (decide (0<c_)) then
 ((((((((((Wb r_ b_)).bind fun t4=>(some (c_)).bind fun t5=>some ((t4+t5)))).bind fun t6=>(some (1)).bind fun t7=>some ((t6-t7)))).bind fun t10=>((((Wb r_ b_)).bind fun t8=>(some (c_)).bind fun t9=>some ((t8+t9)))).bind fun t11=>some ((t10,t11)))).bind fun t12=>(Zh pairs t12))).bind fun pairs=>
 some pairs
 else
 some pairs).bind fun pairs=>
 (bif (decide (0<r_)) then
 ((((((((((Wb r_ b_)).bind fun t14=>(some (c_)).bind fun t15=>some ((t14+t15)))).bind fun t16=>(some (b_)).bind fun t17=>some ((t16-t17)))).bind fun t20=>((((Wb r_ b_)).bind fun t18=>(some (c_)).bind fun t19=>some ((t18+t19)))).bind fun t21=>some ((t20,t21)))).bind fun t22=>(Zh pairs t22))).bind fun pairs=>
 some pairs
 else
 some pairs).bind fun pairs=>
 some pairs)).bind fun pairs=>
 some pairs)).bind fun pairs=>
 some pairs
@[irreducible] def JL (many:Int) (pairs:(List (Int×Int))):Option Str:=
 (((((((Jq many)).bind fun t1=>(some ([]:List Str)).bind fun t2=>some (t1::t2))).bind fun t14=>((((jfq pairs)).bind fun l13=>kS l13 (fun _=>some true) (fun z5=>((some (z5.1)).bind fun i7=>(Jq i7).bind fun y8=>(xi Str.empty y8).bind fun j6=>(xi j6 ("<":Str)).bind fun j9=>(some (z5.2)).bind fun i11=>(Jq i11).bind fun y12=>(xi j9 y12).bind fun j10=>jjZ j10)))).bind fun t15=>(Wt t14 t15))).bind fun t16=>(Yh (" ":Str) t16))
@[irreducible] def yJ (self:(MSpot×List MSpot)):Option (Str×(MSpot×List MSpot)):=
 bif (decide ((self.2.length:Int)=0)) then
 none
 else
 (jkY self.2).bind fun self=>
 ((some (("ready":Str))).bind fun y=>some (y,self))
@[irreducible] def xH (spot:MSpot):Option Str:=
 (xG spot.order)
@[irreducible] def GN (order:MOrder):Option Int:=
 (((kL order)).bind fun t1=>some ((t1.length:Int)))
@[irreducible] def yc (order:MOrder):Option Int:=
 (((xa order)).bind fun t1=>(some (0)).bind fun t2=>(V7 t1 t2))
@[irreducible] def xQ (values:(List Int)):Option Str:=
 (((kS values (fun _=>some true) (fun value=>(Jq value)))).bind fun t3=>(Yh (" ":Str) t3))
@[irreducible] def kr (spot:MSpot):Option Str:=
 (((((GN spot.order)).bind fun t3=>(((yc spot.order)).bind fun t1=>(some ([]:List Int)).bind fun t2=>some (t1::t2)).bind fun t4=>some (t3::t4))).bind fun t5=>(xQ t5))
@[irreducible] def xl (order:MOrder):Option MGreat:=
 (some (order)).bind fun f_order=>
 some (MGreat.mk f_order)
@[irreducible] def xb (order:MOrder) (bits:Int):Option Unit:=
 ((((xk order bits)).bind fun t1=>some ((!t1)))).bind fun q2=>bif q2 then
 none
 else
 some ()
@[irreducible] def Qi (yO:(List Int)):Option Int:=
 (some (0)).bind fun bits=>
 (L3.forM yO bits (fun bits thing=>
 (((some (bits)).bind fun t2=>((jav 1 thing)).bind fun t3=>some ((Builtin.bitOr t2 t3)))).bind fun bits=>
 some bits)).bind fun bits=>
 some (bits)
@[irreducible] def Uw (order:MOrder) (bits:Int):Option Int:=
 ((xb order bits)).bind fun _=>
 (((((((jP order)).bind fun t1=>(Gg 0 t1))).bind fun l4=>kS l4 (fun thing=>(yH order bits thing)) (fun thing=>some (thing)))).bind fun t5=>(Qi t5))
@[irreducible] def zt (order:MOrder) (bits:Int):Option Int:=
 ((Uw order bits)).bind fun entered=>
 (some (entered)).bind fun turned=>
 (((kC entered)).bind fun l4=>L3.forM l4 turned (fun turned thing=>
 (((some (turned)).bind fun t2=>((pAt order.beneath thing)).bind fun t3=>some ((Builtin.bitOr t2 t3)))).bind fun turned=>
 some turned)).bind fun turned=>
 some (turned)
@[irreducible] def kX (self:MGreat) (one:Int):Option Int:=
 (zt self.order one)
@[irreducible] def Qj (turn:MGreat) (one:Int):Option (List Int):=
 (some (([one]:List Int))).bind fun circle=>
 ((kX turn one)).bind fun following=>
 (pWh (fun z1=>some (!decide (z1.2=one))) (fun z1=>
 ((Zh z1.1 z1.2)).bind fun circle=>
 ((kX turn z1.2)).bind fun following=>
 some (circle,following)) (circle,following)).bind fun z2=>
 some z2.1
@[irreducible] def xo (spot:MSpot):Option (List Int):=
 (((xl spot.order)).bind fun t1=>(some (spot.bits)).bind fun t2=>(Qj t1 t2))
@[irreducible] def qC (spot:MSpot):Option Str:=
 (((((xo spot)).bind fun t1=>some ((t1.length:Int)))).bind fun t2=>(Jq t2))
@[irreducible] def k0 (one:Int) (other:Int):Option Int:=
 (some ((jjX one))).bind fun first=>
 (some ((jjX other))).bind fun second=>
 (pWh (fun z2=>some (decide (0<z2.2))) (fun z2=>
 ((jaI z2.1 z2.2)).bind fun rest_=>
 (some (z2.2)).bind fun first=>
 (some (rest_)).bind fun second=>
 some (first,second)) (first,second)).bind fun z3=>
 some (z3.1)
@[irreducible] def xc (top:Int) (bottom:Int):Option MFraction:=
 bif (decide (bottom=0)) then
 none
 else
 ((k0 top bottom)).bind fun shared=>
 ((bif (decide (bottom<0)) then some ((-shared)) else some (shared))).bind fun divisor=>
 ((jem top divisor)).bind fun f_top=>
 ((jem bottom divisor)).bind fun f_bottom=>
 some (MFraction.mk f_top f_bottom)
@[irreducible] def jcD (numbers:(List Int)):Option MFraction:=
 (xc (numbers.sum) (numbers.length:Int))
@[irreducible] def yd (self:MFraction):Option Str:=
 (some (self.top)).bind fun top=>
 (some (self.bottom)).bind fun bottom=>
 (bif (decide (bottom=1)) then (Jq top) else ((some (top)).bind fun i2=>(Jq i2).bind fun y3=>(xi Str.empty y3).bind fun j1=>(xi j1 ("/":Str)).bind fun j4=>(some (bottom)).bind fun i6=>(Jq i6).bind fun y7=>(xi j4 y7).bind fun j5=>jjZ j5))
@[irreducible] def zW (sets:(List Int)):Option Str:=
 (((((kS sets (fun _=>some true) (fun bits=>(((kC bits)).bind fun t3=>some ((t3.length:Int)))))).bind fun t4=>(jcD t4))).bind fun t5=>(yd t5))
@[irreducible] def WF (order:MOrder) (bits:Int):Option Int:=
 ((xb order bits)).bind fun _=>
 (some (0)).bind fun covered=>
 (((kC bits)).bind fun l4=>L3.forM l4 covered (fun covered thing=>
 (((some (covered)).bind fun t2=>((pAt order.beneath thing)).bind fun t3=>some ((Builtin.bitOr t2 t3)))).bind fun covered=>
 some covered)).bind fun covered=>
 some ((Builtin.bitAnd bits (Builtin.bitNot covered)))
@[irreducible] def yK (values:(List Str)):Option Str:=
 (((kS values (fun _=>some true) (fun value=>some (value)))).bind fun t3=>(Yh (" ":Str) t3))
@[irreducible] def xp (spot:MSpot):Option Str:=
 ((xo spot)).bind fun circle=>
 (((((zW circle)).bind fun t6=>(((((kS circle (fun _=>some true) (fun bits=>(WF spot.order bits)))).bind fun t3=>(zW t3))).bind fun t4=>(some ([]:List Str)).bind fun t5=>some (t4::t5)).bind fun t7=>some (t6::t7))).bind fun t8=>(yK t8))
@[irreducible] def JM (order:MOrder):Option (List Int):=
 (((some (([0]:List Int))).bind fun t3=>((((jP order)).bind fun t1=>(some (1)).bind fun t2=>some ((t1+t2)))).bind fun t4=>(jkR t3 t4))).bind fun counts=>
 (((kL order)).bind fun l12=>L3.forM l12 counts (fun counts bits=>
 ((((kC bits)).bind fun t7=>some ((t7.length:Int)))).bind fun many=>
 ((((((pAt counts many)).bind fun t8=>(some (1)).bind fun t9=>some ((t8+t9)))).bind fun t10=>(some (many)).bind fun t11=>(jiX counts t11 t10))).bind fun counts=>
 some counts)).bind fun counts=>
 some counts
@[irreducible] def qD (spot:MSpot):Option Str:=
 (((JM spot.order)).bind fun t1=>(xQ t1))
@[irreducible] def xI (counts:(List Int)):Option (List Int):=
 (Wt ([0]:List Int) (cut counts none (some (-1))))
@[irreducible] def VI (one:(List Int)) (other:(List Int)):Option (List Int):=
 (((Gg 0 (one.length:Int))).bind fun l5=>kS l5 (fun _=>some true) (fun place=>(((pAt one place)).bind fun t3=>((pAt other place)).bind fun t4=>some ((t3+t4)))))
@[irreducible] def GO (order:MOrder):Option (List Int):=
 (((some (([0]:List Int))).bind fun t1=>((jP order)).bind fun t2=>(jkR t1 t2))).bind fun nothing=>
 (((some ((0,(-1)))).bind fun t3=>((Wt ([1]:List Int) (cut nothing (some 1) none))).bind fun t4=>some (([(t3,t4)]:(List ((Int×Int)×(List Int))))))).bind fun begun=>
 (((((jP order)).bind fun t5=>(Gg 0 t5))).bind fun l32=>L3.forM l32 begun (fun begun place=>
 (some (([]:(List ((Int×Int)×(List Int)))))).bind fun longer=>
 (L3.forM (begun.map (·.1)) longer (fun longer z20=>
 ((V7 begun (z20.1,z20.2))).bind fun counts=>
 (((kI order z20.1)).bind fun l30=>L3.forM l30 longer (fun longer thing=>
 (((((some (z20.1)).bind fun t24=>((jav 1 thing)).bind fun t25=>some ((Builtin.bitOr t24 t25)))).bind fun t26=>(some (thing)).bind fun t27=>some ((t26,t27)))).bind fun grown=>
 ((bif (decide (thing<z20.2)) then (xI counts) else some (counts))).bind fun more=>
 (((VI ((ZR longer grown).getD nothing) more)).bind fun t28=>(some (grown)).bind fun t29=>ji8 longer t29 t28).bind fun longer=>
 some longer)).bind fun longer=>
 some longer)).bind fun longer=>
 (some (longer)).bind fun begun=>
 some begun)).bind fun begun=>
 (((((jP order)).bind fun t33=>(Gg 0 t33))).bind fun l39=>kS l39 (fun _=>some true) (fun falls=>(((kS (begun.map (·.2)) (fun _=>some true) (fun counts=>(pAt counts falls)))).bind fun t38=>some ((t38.sum)))))
@[irreducible] def qE (spot:MSpot):Option Str:=
 (((GO spot.order)).bind fun t1=>(xQ t1))
def jbn:List (Str×(MSpot->Option Str)):=[("show",xH),("counts",kr),("where",fun _=>none),("round",qC),("mean",xp),("sizes",qD),("falls",qE)]
@[irreducible] def xJ (word:Str):Option Bool:=
 ((((((((jjm word)).bind fun t1=>some ((decide (1<=t1))&&(decide (t1<=6))))).bind fun t2=>some ((!t2)))).bind fun q=>bif q then some true else (((((atS word 0)).bind fun t3=>(some (("0":Str))).bind fun t4=>some ((decide (t3=t4))))).bind fun q=>bif q then some ((!decide (word=("0":Str)))) else some false))).bind fun q9=>bif q9 then
 some (false)
 else
 (((((Qu word)).bind fun l7=>kS l7 (fun _=>some true) (fun sign=>some ((inS sign "0123456789"))))).bind fun t8=>some ((t8.all id)))
@[irreducible] def JN (yO:(List Int)):Option Str:=
 (((kS yO (fun _=>some true) (fun thing=>(Jq thing)))).bind fun t3=>(Yh ("":Str) t3))
@[irreducible] def qQ (spot:MSpot) (bits:Int):Option MSpot:=
 ((some (spot.order)).bind fun t2=>(some (bits)).bind fun t3=>(some (spot.line)).bind fun t4=>((bif (decide (bits=0)) then some (("-":Str)) else (((kC bits)).bind fun t1=>(JN t1)))).bind fun t5=>(qP t2 t3 t4 t5))
@[irreducible] def xR (spot:MSpot):Option MSpot:=
 ((some (spot)).bind fun t3=>((((xl spot.order)).bind fun t1=>(some (spot.bits)).bind fun t2=>(kX t1 t2))).bind fun t4=>(qQ t3 t4))
@[irreducible] def qF (order:MOrder):Option MSlide:=
 (some (order)).bind fun f_order=>
 some (MSlide.mk f_order)
@[irreducible] def yL (order:MOrder) (line:(List Int)):Option Bool:=
 ((((jkG line)).bind fun t2=>((((jP order)).bind fun t1=>(jgS t1))).bind fun t3=>some ((!jkr t2 t3)))).bind fun q12=>bif q12 then
 some (false)
 else
 (some (0)).bind fun ahead=>
 (jh1 line ahead (fun ahead thing=>
 (((((some (ahead)).bind fun t5=>((pAt order.beneath thing)).bind fun t6=>(qO t5 t6))).bind fun t7=>some ((!t7)))).bind fun q10=>bif q10 then
 (some (false)).bind fun y=>some (.rt y)
 else
 (((some (ahead)).bind fun t8=>((jav 1 thing)).bind fun t9=>some ((Builtin.bitOr t8 t9)))).bind fun ahead=>
 some (.nx ahead))).bind fun x_=>x_.el (fun c_=>some c_) (fun ahead=>
 some (true))
@[irreducible] def kh (order:MOrder) (line:(List Int)):Option Unit:=
 ((((yL order line)).bind fun t1=>some ((!t1)))).bind fun q2=>bif q2 then
 none
 else
 some ()
@[irreducible] def kj (self:MOrder) (thing:Int):Option Unit:=
 bif (!((decide (0<=thing))&&(decide (thing<self.many)))) then
 none
 else
 some ()
@[irreducible] def k5 (self:MOrder) (thing:Int):Option (List Int):=
 ((kj self thing)).bind fun _=>
 (kS self.neighbours (fun z3=>some ((decide (z3.1=thing)))) (fun z3=>some (z3.2)))
@[irreducible] def kJ (row:(List Int)) (yO:(List Int)):Option (List Int):=
 (kS yO (fun thing=>some ((W3 thing row))) (fun thing=>(jkE row thing)))
@[irreducible] def JO (order:MOrder) (row:(List Int)):Option (List Int):=
 (some (row)).bind fun moved=>
 ((pAt row 0)).bind fun gap=>
 (((some (row)).bind fun t1=>((k5 order gap)).bind fun t2=>(kJ t1 t2))).bind fun higher=>
 (pWh (fun z4=>some (decide (0<(z4.2.2.length:Int)))) (fun z4=>
 ((ji3 z4.2.2)).bind fun place=>
 ((jiX z4.1 place z4.2.1)).bind fun moved=>
 ((pAt row place)).bind fun gap=>
 (((some (row)).bind fun t5=>((k5 order gap)).bind fun t6=>(kJ t5 t6))).bind fun higher=>
 some (moved,gap,higher)) (moved,gap,higher)).bind fun z7=>
 (((Wt (cut z7.1 (some 1) none) ([z7.2.1]:List Int))).bind fun t8=>some (t8))
@[irreducible] def kN (self:MSlide) (one:(List Int)):Option (List Int):=
 ((kh self.order one)).bind fun _=>
 (JO self.order one)
@[irreducible] def qk (yO:(List Int)):Option Str:=
 (((kS yO (fun _=>some true) (fun thing=>(Jq thing)))).bind fun t3=>(Yh ("":Str) t3))
@[irreducible] def qR (spot:MSpot) (line:(List Int)):Option MSpot:=
 ((some (spot.order)).bind fun t1=>(some (spot.bits)).bind fun t2=>(some (line)).bind fun t3=>((qk line)).bind fun t4=>(qP t1 t2 t3 t4))
@[irreducible] def xS (spot:MSpot):Option MSpot:=
 ((some (spot)).bind fun t3=>((((qF spot.order)).bind fun t1=>(some (spot.line)).bind fun t2=>(kN t1 t2))).bind fun t4=>(qR t3 t4))
@[irreducible] def k6 (self:MOrder) (thing:Int):Option (List Int):=
 ((kj self thing)).bind fun _=>
 (kS self.neighbours (fun z3=>some ((decide (z3.2=thing)))) (fun z3=>some (z3.1)))
@[irreducible] def qS (order:MOrder) (row:(List Int)):Option (List Int):=
 (some (row)).bind fun moved=>
 ((pAt row (-1))).bind fun gap=>
 (((some (row)).bind fun t1=>((k6 order gap)).bind fun t2=>(kJ t1 t2))).bind fun lower=>
 (pWh (fun z4=>some (decide (0<(z4.2.2.length:Int)))) (fun z4=>
 ((ji4 z4.2.2)).bind fun place=>
 ((jiX z4.1 place z4.2.1)).bind fun moved=>
 ((pAt row place)).bind fun gap=>
 (((some (row)).bind fun t5=>((k6 order gap)).bind fun t6=>(kJ t5 t6))).bind fun lower=>
 some (moved,gap,lower)) (moved,gap,lower)).bind fun z7=>
 (((Wt ([z7.2.1]:List Int) (cut z7.1 none (some (-1))))).bind fun t8=>some (t8))
@[irreducible] def qd (self:MSlide) (one:(List Int)):Option (List Int):=
 ((kh self.order one)).bind fun _=>
 (qS self.order one)
@[irreducible] def qG (spot:MSpot):Option MSpot:=
 ((some (spot)).bind fun t3=>((((qF spot.order)).bind fun t1=>(some (spot.line)).bind fun t2=>(qd t1 t2))).bind fun t4=>(qR t3 t4))
@[irreducible] def yq (order:MOrder):Option MAbove:=
 (some (order)).bind fun f_order=>
 some (MAbove.mk f_order)
@[irreducible] def km (self:MAbove) (one:(List Int)):Option (List Int):=
 ((kh self.order one)).bind fun _=>
 (some (one)).bind fun row=>
 (((je5 (one.length:Int) 1)).bind fun l4=>L3.forM l4 row (fun row end_=>
 ((((JO self.order (cut row none (some end_)))).bind fun t2=>(some ((cut row (some end_) none))).bind fun t3=>(Wt t2 t3))).bind fun row=>
 some row)).bind fun row=>
 some (row)
@[irreducible] def xT (spot:MSpot):Option MSpot:=
 ((some (spot)).bind fun t3=>((((yq spot.order)).bind fun t1=>(some (spot.line)).bind fun t2=>(km t1 t2))).bind fun t4=>(qR t3 t4))
@[irreducible] def yr (order:MOrder):Option MBelow:=
 (some (order)).bind fun f_order=>
 some (MBelow.mk f_order)
@[irreducible] def qe (self:MBelow) (one:(List Int)):Option (List Int):=
 ((kh self.order one)).bind fun _=>
 (some (one)).bind fun row=>
 (((Gg 0 ((one.length:Int)-1))).bind fun l4=>L3.forM l4 row (fun row GG=>
 (((some ((cut row none (some GG)))).bind fun t2=>((qS self.order (cut row (some GG) none))).bind fun t3=>(Wt t2 t3))).bind fun row=>
 some row)).bind fun row=>
 some (row)
@[irreducible] def xU (spot:MSpot):Option MSpot:=
 ((some (spot)).bind fun t3=>((((yr spot.order)).bind fun t1=>(some (spot.line)).bind fun t2=>(qe t1 t2))).bind fun t4=>(qR t3 t4))
def zM:List (Str×(MSpot->Option MSpot)):=[("great",xR),("ungreat",fun _=>none),("slide",xS),("unslide",qG),("above",xT),("below",xU)]
@[irreducible] def zg (k_:Int):Option Unit:=
 bif (!((decide (1<=k_))&&(decide (k_<=3)))) then
 none
 else
 some ()
@[irreducible] def GP (widths:(List Int)):Option (List (Int×Int)):=
 (some (([]:List (Int×Int)))).bind fun found=>
 (((Gg 0 (widths.length:Int))).bind fun l7=>L3.forM l7 found (fun found row=>
 ((((((((pAt widths row)).bind fun t2=>(Gg 0 t2))).bind fun l5=>kS l5 (fun _=>some true) (fun column=>some ((row,column))))).bind fun t6=>(Wt found t6))).bind fun found=>
 some found)).bind fun found=>
 some found
@[irreducible] def zh (k_:Int):Option (List (Int×Int)):=
 (((jcp k_ 0)).bind fun t1=>(GP t1))
@[irreducible] def xV (one:(Int×Int)) (other:(Int×Int)):Option Bool:=
 some (((decide (one.1<=other.1))&&(decide (one.2<=other.2))))
@[irreducible] def GQ (cells:(List (Int×Int))):Option MOrder:=
 (some (([]:List (Int×Int)))).bind fun pairs=>
 (((Gg 0 (cells.length:Int))).bind fun l8=>L3.forM l8 pairs (fun pairs high=>
 ((((((Gg 0 high)).bind fun l6=>kS l6 (fun low=>(((pAt cells low)).bind fun t4=>((pAt cells high)).bind fun t5=>(xV t4 t5))) (fun low=>some ((low,high))))).bind fun t7=>(Wt pairs t7))).bind fun pairs=>
 some pairs)).bind fun pairs=>
 (yp (cells.length:Int) pairs)
@[irreducible] def Q5 (k_:Int):Option MOrder:=
 ((zg k_)).bind fun _=>
 (((zh k_)).bind fun t1=>(GQ t1))
@[irreducible] def xK (spot:MSpot) (k_:Int):Option MSpot:=
 (((Q5 k_)).bind fun t1=>(qc t1))
@[irreducible] def zu (order:MOrder) (place:Int):Option Int:=
 ((kL order)).bind fun found=>
 bif (!((decide (0<=place))&&(decide (place<(found.length:Int))))) then
 none
 else
 (pAt found place)
@[irreducible] def yM (spot:MSpot) (place:Int):Option MSpot:=
 ((some (spot)).bind fun t1=>((zu spot.order place)).bind fun t2=>(qQ t1 t2))
@[irreducible] def yN (spot:MSpot) (number:Int):Option MSpot:=
 ((some (spot)).bind fun t1=>((zr spot.order number)).bind fun t2=>(qR t1 t2))
def zi:List (Str×(MSpot->Int->Option MSpot)):=[("stairs",xK),("down",yM),("toggle",fun _ _=>none),("line",yN),("swap",fun _ _=>none)]
@[irreducible] def zN (a_:Int) (b_:Int):Option Unit:=
 ((bif (decide (a_<1)) then some true else (bif (decide (b_<1)) then some true else (((Wb a_ b_)).bind fun t1=>(some (9)).bind fun t2=>some ((decide (t2<t1))))))).bind fun q3=>bif q3 then
 none
 else
 some ()
@[irreducible] def zX (a_:Int) (b_:Int):Option MOrder:=
 ((zN a_ b_)).bind fun _=>
 (((((jkR ([b_]:List Int) a_)).bind fun t1=>(GP t1))).bind fun t2=>(GQ t2))
@[irreducible] def j_ (spot:MSpot) (row:Str):Option MSpot:=
 bif (Us row "order ") then
 none
 else
 ((Gi row)).bind fun words=>
 ((pAt words 0)).bind fun name=>
 ((kS (cut words (some 1) none) (fun word=>(xJ word)) (fun word=>(JH word)))).bind fun numbers=>
 bif (!decide ((numbers.length:Int)=((words.length:Int)-1))) then
 none
 else
 bif ((W3 name ["great","ungreat","slide","unslide","above","below"])&&(decide ((numbers.length:Int)=0))) then
 (lk1 zM name spot)
 else
 bif ((W3 name ["stairs","down","toggle","line","swap"])&&(decide ((numbers.length:Int)=1))) then
 (((pAt numbers 0)).bind fun t3=>lk2 zi name spot t3)
 else
 bif ((decide (name=("field":Str)))&&(decide ((numbers.length:Int)=2))) then
 (((((pAt numbers 0)).bind fun t4=>((pAt numbers 1)).bind fun t5=>(zX t4 t5))).bind fun t6=>(qc t6))
 else
 none
@[irreducible] def jF (self:(MSpot×List MSpot)) (row:Str):Option (Str×(MSpot×List MSpot)):=
 bif (decide (row=("undo":Str))) then
 ((some ()).bind fun z=>yJ self)
 else
 bif (W3 row ["show","counts","where","round","mean","sizes","falls"]) then
 none
 else
 ((j_ self.1 row)).bind fun step=>
 (Zh self.2 self.1).bind fun l1=>
 (some (step)).bind fun s2=>
 ((some (step.answer)).bind fun y=>some (y,(s2,(self.1,l1).2)))
@[irreducible] def jL (self:(MSpot×List MSpot)) (row:Str):Option Str:=
 bif (decide (row=("undo":Str))) then
 none
 else
 bif (W3 row ["show","counts","where","round","mean","sizes","falls"]) then
 (lk1 jbn row self.1)
 else
 none
@[irreducible] def qx (desk:(MSpot×List MSpot)) (row:Str) (many:Int):Option (Str×(MSpot×List MSpot)):=
 (some (("":Str))).bind fun found=>
 (((Gg 0 many)).bind fun l3=>L3.forM l3 (desk,found) (fun z2 k_=>
 (((some (row)).bind fun a=>(some ()).bind fun b=>some (a,b)).bind fun z=>jF z2.1 z.1).bind fun z=>Yl z (fun found desk=>
 some (desk,found)))).bind fun z4=>
 ((some (z4.2)).bind fun y=>some (y,z4.1))
@[irreducible] def G6 (desk:(MSpot×List MSpot)) (line:Str):Option (Bool×(MSpot×List MSpot)):=
 (((((some (("above":Str))).bind fun a=>((some (2)).bind fun a=>(some ()).bind fun b=>some (a,b)).bind fun b=>some (a,b)).bind fun z=>qx desk z.1 z.2.1).bind fun z=>jbj z Zi (fun desk=>some (line))).bind fun z=>orK z (fun desk=>((((some (("below":Str))).bind fun a=>((some (2)).bind fun a=>(some ()).bind fun b=>some (a,b)).bind fun b=>some (a,b)).bind fun z=>qx desk z.1 z.2.1).bind fun z=>jbj z Zi (fun desk=>some (line))))).bind fun z=>ifK z (fun desk=>
 ((some (false)).bind fun y=>some (y,desk))) (fun desk=>
 (((some (("slide":Str))).bind fun a=>(some ()).bind fun b=>some (a,b)).bind fun z=>jF desk z.1).bind fun z=>Yl z (fun _ desk=>
 (((some (("above":Str))).bind fun a=>(some ()).bind fun b=>some (a,b)).bind fun z=>jF desk z.1).bind fun z=>Yl z (fun one desk=>
 (((some (("undo":Str))).bind fun a=>((some (2)).bind fun a=>(some ()).bind fun b=>some (a,b)).bind fun b=>some (a,b)).bind fun z=>qx desk z.1 z.2.1).bind fun z=>Yl z (fun _ desk=>
 (((some (("above":Str))).bind fun a=>(some ()).bind fun b=>some (a,b)).bind fun z=>jF desk z.1).bind fun z=>Yl z (fun _ desk=>
 (((some (("unslide":Str))).bind fun a=>(some ()).bind fun b=>some (a,b)).bind fun z=>jF desk z.1).bind fun z=>Yl z (fun other desk=>
 (((some (("undo":Str))).bind fun a=>((some (2)).bind fun a=>(some ()).bind fun b=>some (a,b)).bind fun b=>some (a,b)).bind fun z=>qx desk z.1 z.2.1).bind fun z=>Yl z (fun _ desk=>
 ((some ((decide (one=other)))).bind fun y=>some (y,desk)))))))))
@[irreducible] def yY (top:Int) (bottom:Int):Option Str:=
 (some (top)).bind fun one=>
 (some (bottom)).bind fun other=>
 (pWh (fun z2=>some (!decide (z2.2=0))) (fun z2=>
 ((jaI z2.1 z2.2)).bind fun rest_=>
 (some (z2.2)).bind fun one=>
 (some (rest_)).bind fun other=>
 some (one,other)) (one,other)).bind fun z3=>
 bif (decide (bottom=z3.1)) then
 (((jem top z3.1)).bind fun t4=>(Jq t4))
 else
 (((((((jem top z3.1)).bind fun t5=>(Jq t5))).bind fun t6=>(some (("/":Str))).bind fun t7=>(xi t6 t7))).bind fun t9=>((((jem bottom z3.1)).bind fun t8=>(Jq t8))).bind fun t10=>(xi t9 t10))
@[irreducible] def ql (desk:(MSpot×List MSpot)) (k_:Int) (cell:Int):Option (Bool×(MSpot×List MSpot)):=
 (some (([]:List (Int×Int)))).bind fun cells=>
 (((Gg 0 k_)).bind fun l7=>L3.forM l7 cells (fun cells r_=>
 (((some (cells)).bind fun t5=>((((Gg 0 (k_-r_))).bind fun l4=>kS l4 (fun _=>some true) (fun c_=>some ((r_,c_))))).bind fun t6=>(Wt t5 t6))).bind fun cells=>
 some cells)).bind fun cells=>
 (some (([]:List (Int×Int)))).bind fun pairs=>
 (((Gg 0 (cells.length:Int))).bind fun l19=>L3.forM l19 pairs (fun pairs high=>
 ((pAt cells high)).bind fun z11=>
 (((some (pairs)).bind fun t17=>((((Gg 0 high)).bind fun l16=>kS l16 (fun low=>(((pAt cells low)).bind fun t14=>(some (([((z11.1-1),z11.2),(z11.1,(z11.2-1))]:List (Int×Int)))).bind fun t15=>some ((W3 t14 t15)))) (fun low=>some ((low,high))))).bind fun t18=>(Wt t17 t18))).bind fun pairs=>
 some pairs)).bind fun pairs=>
 ((((((some (("stairs ":Str))).bind fun t20=>((Jq k_)).bind fun t21=>(xi t20 t21))).bind fun a=>(some ()).bind fun b=>some (a,b)).bind fun z=>jF desk z.1).bind fun z=>jbj z Zi (fun desk=>(JL (cells.length:Int) pairs))).bind fun z=>ifK z (fun desk=>
 ((some (false)).bind fun y=>some (y,desk))) (fun desk=>
 (((((some (("line ":Str))).bind fun t29=>(((((some (cell)).bind fun t26=>((((((((jL desk ("counts":Str))).bind fun t22=>(Gi t22))).bind fun t23=>(some (1)).bind fun t24=>(pAt t23 t24))).bind fun t25=>(JH t25))).bind fun t27=>(jaI t26 t27))).bind fun t28=>(Jq t28))).bind fun t30=>(xi t29 t30))).bind fun a=>(some ()).bind fun b=>some (a,b)).bind fun z=>jF desk z.1).bind fun z=>Yl z (fun line desk=>
 (some (("":Str))).bind fun due=>
 (((Qu line)).bind fun l40=>L3.forM l40 due (fun due sign=>
 (((some (cells)).bind fun t34=>((JH sign)).bind fun t35=>(pAt t34 t35))).bind fun z36=>
 (((some (due)).bind fun t38=>((((ja_ cells (z36.2,z36.1))).bind fun t37=>(Jq t37))).bind fun t39=>(xi t38 t39))).bind fun due=>
 some due)).bind fun due=>
 (((((some (("slide":Str))).bind fun a=>((some ((cells.length:Int))).bind fun a=>(some ()).bind fun b=>some (a,b)).bind fun b=>some (a,b)).bind fun z=>qx desk z.1 z.2.1).bind fun z=>jbj z jhi (fun desk=>some (due))).bind fun z=>jlB z (fun desk=>((((some (("slide":Str))).bind fun a=>((some ((cells.length:Int))).bind fun a=>(some ()).bind fun b=>some (a,b)).bind fun b=>some (a,b)).bind fun z=>qx desk z.1 z.2.1).bind fun z=>jbj z jhi (fun desk=>some (line)))))))
@[irreducible] def Z2 (script:(List Int)):Option Bool:=
 ((((k8 script 0)).bind fun t1=>(Gw t1))).bind fun z2=>
 m_Desk_init.bind fun desk=>
 ((((Wb z2.1 z2.2)).bind fun t3=>((yI z2.1 z2.2)).bind fun t4=>(JL t3 t4))).bind fun shown_here=>
 (((((((((((some (("field ":Str))).bind fun t5=>((Jq z2.1)).bind fun t6=>(xi t5 t6))).bind fun t7=>(some ((" ":Str))).bind fun t8=>(xi t7 t8))).bind fun t9=>((Jq z2.2)).bind fun t10=>(xi t9 t10))).bind fun a=>(some ()).bind fun b=>some (a,b)).bind fun z=>jF desk z.1).bind fun z=>jbj z Zi (fun desk=>some (shown_here))).bind fun z=>orK z (fun desk=>(((((jL desk ("show":Str))).bind fun t11=>(some (shown_here)).bind fun t12=>some ((!decide (t11=t12))))).bind fun y=>some (y,desk)))).bind fun z=>ifK z (fun desk=>
 some (false)) (fun desk=>
 ((((((jL desk ("counts":Str))).bind fun t13=>(Gi t13))).bind fun l16=>kS l16 (fun _=>some true) (fun word=>(JH word)))).bind fun counts=>
 ((((((jL desk ("sizes":Str))).bind fun t17=>(Gi t17))).bind fun l20=>kS l20 (fun _=>some true) (fun word=>(JH word)))).bind fun sizes=>
 (((((some ((sizes.length:Int))).bind fun t23=>((((Wb z2.1 z2.2)).bind fun t21=>(some (1)).bind fun t22=>some ((t21+t22)))).bind fun t24=>some ((!decide (t23=t24))))).bind fun q=>bif q then some true else ((((some ((sizes.sum))).bind fun t25=>((pAt counts 0)).bind fun t26=>some ((!decide (t25=t26))))).bind fun q=>bif q then some true else some ((!jkr sizes (sizes.reverse)))))).bind fun q64=>bif q64 then
 some (false)
 else
 ((((((((((jL desk ("falls":Str))).bind fun t27=>(Gi t27))).bind fun l30=>kS l30 (fun _=>some true) (fun word=>(JH word)))).bind fun t31=>some ((t31.sum)))).bind fun t32=>((pAt counts 1)).bind fun t33=>some ((!decide (t32=t33))))).bind fun q63=>bif q63 then
 some (false)
 else
 (((((some (("down ":Str))).bind fun t37=>((((((k8 script 1)).bind fun t34=>((pAt counts 0)).bind fun t35=>(jaI t34 t35))).bind fun t36=>(Jq t36))).bind fun t38=>(xi t37 t38))).bind fun a=>(some ()).bind fun b=>some (a,b)).bind fun z=>jF desk z.1).bind fun z=>Yl z (fun yO desk=>
 (((((some (("line ":Str))).bind fun t42=>((((((k8 script 2)).bind fun t39=>((pAt counts 1)).bind fun t40=>(jaI t39 t40))).bind fun t41=>(Jq t41))).bind fun t43=>(xi t42 t43))).bind fun a=>(some ()).bind fun b=>some (a,b)).bind fun z=>jF desk z.1).bind fun z=>Yl z (fun line desk=>
 (((((some (("great":Str))).bind fun a=>((some ((z2.1+z2.2))).bind fun a=>(some ()).bind fun b=>some (a,b)).bind fun b=>some (a,b)).bind fun z=>qx desk z.1 z.2.1).bind fun z=>jbj z Zi (fun desk=>some (yO))).bind fun z=>orK z (fun desk=>((((some (("slide":Str))).bind fun a=>(((Wb z2.1 z2.2)).bind fun a=>(some ()).bind fun b=>some (a,b)).bind fun b=>some (a,b)).bind fun z=>qx desk z.1 z.2.1).bind fun z=>jbj z Zi (fun desk=>some (line))))).bind fun z=>ifK z (fun desk=>
 some (false)) (fun desk=>
 (((((((some ((z2.1+z2.2))).bind fun t45=>((((jL desk ("round":Str))).bind fun t44=>(JH t44))).bind fun t46=>(jaI t45 t46))).bind fun t47=>(some (0)).bind fun t48=>some ((!decide (t47=t48))))).bind fun y=>some (y,desk)).bind fun z=>orK z (fun desk=>((((some (line)).bind fun a=>(some ()).bind fun b=>some (a,b)).bind fun z=>G6 desk z.1).bind fun z=>some (!z.1,z.2)))).bind fun z=>ifK z (fun desk=>
 some (false)) (fun desk=>
 ((((jL desk ("mean":Str))).bind fun t57=>((((((((Wb z2.1 z2.2)).bind fun t49=>(some (2)).bind fun t50=>(yY t49 t50))).bind fun t51=>(some ((" ":Str))).bind fun t52=>(xi t51 t52))).bind fun t55=>((((Wb z2.1 z2.2)).bind fun t53=>(some ((z2.1+z2.2))).bind fun t54=>(yY t53 t54))).bind fun t56=>(xi t55 t56))).bind fun t58=>some ((!decide (t57=t58))))).bind fun q62=>bif q62 then
 some (false)
 else
 ((((((some (1)).bind fun t60=>((((k8 script 3)).bind fun t59=>some ((t59 % 3)))).bind fun t61=>some ((t60+t61)))).bind fun a=>(((k8 script 4)).bind fun a=>(some ()).bind fun b=>some (a,b)).bind fun b=>some (a,b)).bind fun z=>ql desk z.1 z.2.1).bind fun z=>some z.1))))))
end Lw
variable {O:Lw.MOrder}
namespace Lw
open PySem L2 L3
def zn (l:List Nat):List Int:=l.map fun t=>((t:Nat):Int)
def ths (n b:Nat):List Nat:=(List.range n).filter fun t=>b.testBit t
def eln (b:β) (f:γ->δ) (g:β->δ):(Fl.nx b:Fl β γ).el f g=g b:=rfl
end Lw
namespace MM
open PySem L2 L3
def ins (x:Int):List Int->List Int
 | []=>[x]
 | y::r=>bif decide (x<=y) then x::y::r else y::ins x r
def jj0:List Int->List Int
 | []=>[]
 | x::r=>ins x (jj0 r)
def Yx (x:Int):∀ l,(ins x l).Perm (x::l)
 | []=>List.Perm.refl _
 | y::r=>by
  unfold ins;cases decide (x<=y)
  ·exact(List.Perm.cons y (Yx x r)).trans (List.Perm.swap x y r)
  ·exact List.Perm.refl _
def Z3:∀ l,(jj0 l).Perm l
 | []=>List.Perm.refl _
 | x::r=>(Yx x (jj0 r)).trans (List.Perm.cons x (Z3 r))
def jin (x:Int):∀ {l:List Int},l.Pairwise (·<=·)->(ins x l).Pairwise (·<=·)
 | [],_=>List.pairwise_singleton _ _
 | y::r,h=>by
  obtain⟨h1,h2⟩:=List.pairwise_cons.mp h;unfold ins;by_cases q:x<=y
  ·rw[decide_eq_true q];refine List.pairwise_cons.mpr ⟨fun z hz=>?_,h⟩;rcases List.mem_cons.mp hz with rfl | hz
   ·exact q
   ·exact Int.le_trans q (h1 z hz)
  ·rw[decide_eq_false q];refine List.pairwise_cons.mpr ⟨fun z hz=>?_,jin x h2⟩;rcases List.mem_cons.mp ((Yx x r).mem_iff.mp hz) with rfl | hz
   ·omega
   ·exact h1 z hz
def jfI:∀ l,(jj0 l).Pairwise (·<=·)
 | []=>List.Pairwise.nil
 | x::r=>jin x (jfI r)
def jhq (l:List Int):srt l=jj0 l:=(jh3 (Z3 l) (jfI l)).symm
def pSrt' (l:List Int):Option (List Int):=if l.length<64 then some (jj0 l) else none
def pSrt_tw:@jkG=@pSrt':=by
 funext l
 unfold jkG pSrt';rw[jhq]
def jj1 (x:Int×Int):List (Int×Int)->List (Int×Int)
 | []=>[x]
 | y::r=>bif leP x y then x::y::r else y::jj1 x r
def jfJ:List (Int×Int)->List (Int×Int)
 | []=>[]
 | x::r=>jj1 x (jfJ r)
def VJ (x:Int×Int):∀ l,(jj1 x l).Perm (x::l)
 | []=>List.Perm.refl _
 | y::r=>by
  unfold jj1;cases leP x y
  ·exact(List.Perm.cons y (VJ x r)).trans (List.Perm.swap x y r)
  ·exact List.Perm.refl _
def WG:∀ l,(jfJ l).Perm l
 | []=>List.Perm.refl _
 | x::r=>(VJ x (jfJ r)).trans (List.Perm.cons x (WG r))
def jfK (x:Int×Int):∀ {l:List (Int×Int)},l.Pairwise (fun p q=>leP p q=true)->(jj1 x l).Pairwise (fun p q=>leP p q=true)
 | [],_=>List.pairwise_singleton _ _
 | y::r,h=>by
  obtain⟨h1,h2⟩:=List.pairwise_cons.mp h;unfold jj1;by_cases q:leP x y=true
  ·rw[q];refine List.pairwise_cons.mpr ⟨fun z hz=>?_,h⟩;rcases List.mem_cons.mp hz with rfl | hz
   ·exact q
   ·have:=h1 z hz;rw[Uq] at this q ⊢;omega
  ·rw[eq_false_of_ne_true q];refine List.pairwise_cons.mpr ⟨fun z hz=>?_,jfK x h2⟩;rcases List.mem_cons.mp ((VJ x r).mem_iff.mp hz) with rfl | hz
   ·rw[Uq] at q ⊢;omega
   ·exact h1 z hz
def jcE:∀ l,(jfJ l).Pairwise (fun p q=>leP p q=true)
 | []=>List.Pairwise.nil
 | x::r=>jfK x (jcE r)
def pSrtP' (l:List (Int×Int)):Option (List (Int×Int)):=if l.length<64 then some (jfJ l) else none
def pSrtP_tw:@jfq=@pSrtP':=by
 funext l
 unfold jfq pSrtP';rw[jfl (WG l) (jcE l)]
end MM
namespace Lw
open PySem L2 L3
def jj2 (c:Int) {m:Nat} (h:0<m):∃ k:Nat,k<m/\c % (m:Int)=(k:Int):=by
 have h1:=Int.emod_nonneg c (show (m:Int)≠0 by omega);have h2:=Int.emod_lt_of_pos c (show (0:Int)<(m:Int) by omega);exact⟨(c % (m:Int)).toNat,by omega,by omega⟩
end Lw
namespace MM
open PySem L2 L3
def fls:List Nat->Nat
 | []=>0
 | [_]=>0
 | x::y::r=>(if y<x then 1 else 0)+fls (y::r)
end MM
namespace Lw
open PySem L2 L3 MM
def sh (n:Nat) (Q:List (Nat×Nat)):List (Nat×Nat):=Q.map fun p=>(n+p.1,n+p.2)
end Lw
namespace Lw
open PySem L2 L3
def JP (ns:List Int) (k:Nat):∃ c,k8 ns (k:Int)=some c:=by
 unfold k8;simp only[MM.bs];by_cases h:0<ns.length
 ·have e:decide ((0:Int)<(ns.length:Int))=true:=Xu (by omega);have h2:k % ns.length<ns.length:=Nat.mod_lt _ h;have e2:(k:Int) % (ns.length:Int)=((k % ns.length:Nat):Int):=by simp
  rw[e,MM.modP (by omega),e2];simp only[MM.ct,MM.bs,MM.at_get h2];exact⟨_,rfl⟩
 ·have e:decide ((0:Int)<(ns.length:Int))=false:=Xk (by omega);rw[e];exact⟨_,rfl⟩
def jna (b t:Nat):Uv (b:Int) (t:Int)=some (b.testBit t):=by
 unfold Uv;rw[MM.shr];simp only[MM.bs];congr 1;have e1:Builtin.bitAnd ((b / 2 ^ t:Nat):Int) 1=(((b / 2 ^ t) &&& 1:Nat):Int):=MB.and_nat _ 1;rw[e1,Nat.and_one_is_mod,XL,Xv,Nat.testBit_eq_decide_div_mod_eq,Xv];omega
def yO {b:Nat} (h:b<2 ^ n) (hn:n<=100):kC (b:Int)=some (zn (ths n b)):=by
 unfold kC;have h1:=MB.bits_le h;rw[MM.rng (by omega)];simp only[MM.bs];rw[MM.compR (fun t=>b.testBit t) (fun t=>((t:Nat):Int)) (by omega) (fun k hk=>jna b k) (fun k hk _=>rfl),MB.things_eq h];rfl
def jlC:List (Int×Int):=(List.range 9).flatMap fun k=>(List.range (9 / (k+1))).map fun j=>(((k+1:Nat):Int),((j+1:Nat):Int))
def jfL (c:Int):∃ p,p∈jlC/\Gw c=some p:=by
 unfold Gw;obtain⟨k,hk,ek⟩:=jj2 c (m:=9) (by decide);have ek:c % 9=(k:Int):=ek;rw[ek];simp only[MM.bs];have e9:(9:Int) / (1+(k:Int))=((9 / (k+1):Nat):Int):=by
  rw[show (1+(k:Int))=((k+1:Nat):Int) by omega];exact(Int.natCast_ediv 9 (k+1)).symm
 have hb:(1000:Int)<2 ^ 250:=by decide
 have hpos:0<9 / (k+1):=Nat.div_pos (by omega) (by omega);obtain⟨j,hj,ej⟩:=jj2 (c / 9) hpos;rw[MM.divP (by omega) (by omega),MM.bs,e9,MM.modP (by omega),ej];simp only[MM.bs];refine⟨(((k+1:Nat):Int),((j+1:Nat):Int)),List.mem_flatMap.mpr ⟨k,List.mem_range.mpr hk,List.mem_map.mpr ⟨j,List.mem_range.mpr hj,rfl⟩⟩,?_⟩;rw[show ((k+1:Nat):Int)=1+(k:Int) by omega,show ((j+1:Nat):Int)=1+(j:Int) by omega]
end Lw
namespace Lw
open PySem L2 L3
def jle:List Str:=["show","counts","where","round","mean","sizes","falls"]
def Q6 {s s':MSpot}{l:List MSpot} (h1:decide (row=("undo":Str))=false) (h2:W3 row jle=false) (h:j_ s row=some s') (hl:l.length<16777216):jF (s,l) row=some (s'.answer,(s',l++[s])):=by
 unfold jF;have h2:W3 row ["show","counts","where","round","mean","sizes","falls"]=false:=h2;have e:Zh l s=some (l++[s]):=by unfold Zh; rw[if_pos hl]
 rw[h1,MM.cf,h2,MM.cf];dsimp only;rw[h,MM.bs,e,MM.bs,MM.bs,MM.bs]
def jhr {s:MSpot}{l:List MSpot}:jkY (l++[s])=some (s,l):=by
 unfold jkY;simp
def Z4 {s s':MSpot}{l:List MSpot}:jF (s',l++[s]) "undo"=some (("ready":Str),(s,l)):=by
 unfold jF;rw[show decide (("undo":Str)=("undo":Str))=true from Xu rfl,MM.ct,MM.bs];unfold yJ;dsimp only;rw[show decide (((l++[s]).length:Int)=0)=false from Xk (by simp; omega),MM.cf,jhr,MM.bs,MM.bs]
def itM (g:β->Option β):Nat->β->Option β
 | 0,b=>some b
 | n+1,b=>(g b).bind (itM g n)
def jfM {g:β->Option β}:∀ (l:List α) (b:β),L3.forM l b (fun z _=>g z)=itM g l.length b
 | [],b=>rfl
 | x::l,b=>by
  show (g b).bind (fun b'=>L3.forM l b' (fun z _=>g z))=(g b).bind (itM g l.length);congr 1
  funext b'
  exact jfM l b'
def Q7 (row:Str) (z:(MSpot×List MSpot)×Str):Option ((MSpot×List MSpot)×Str):=(jF z.1 row).bind fun y=>some (y.2,y.1)
def jcF {D:MSpot×List MSpot} (hn:n<=1000):qx D row (n:Int)=(itM (Q7 row) n (D,"")).bind fun z=>some (z.2,z.1):=by
 unfold qx;rw[MM.bs,MM.rng (by omega),MM.bs];have e:(fun (z2:(MSpot×List MSpot)×Str) (_:Int)=>(((some (row)).bind fun a=>(some ()).bind fun b=>some (a,b)).bind fun z=>jF z2.1 z.1).bind fun z=>Yl z (fun found desk=>some (desk,found)))=fun z2 _=>Q7 row z2:=by
  funext z2 k
  rw[MM.bs,MM.bs,MM.bs];rfl
 rw[e,jfM];rw[Xj,List.length_range];cases itM (Q7 row) n (D,"") with
 | none=>rfl
 | some z=>rw[MM.bs,MM.bs,MM.bs]
def stN (f:MSpot->Option MSpot):Nat->MSpot->Option (List MSpot×MSpot)
 | 0,s=>some ([],s)
 | n+1,s=>(f s).bind fun s'=>(stN f n s').bind fun z=>some (s::z.1,z.2)
def jlf {f:MSpot->Option MSpot} (h1:decide (row=("undo":Str))=false) (h2:W3 row jle=false) (hf:∀ s,j_ s row=f s):∀ (n:Nat) (s:MSpot) (l:List MSpot) (a:Str) (z:List MSpot×MSpot),stN f (n+1) s=some z->l.length+n<16777216->itM (Q7 row) (n+1) ((s,l),a)=some ((z.2,l++z.1),z.2.answer)
 | 0,s,l,a,z,h,hl=>by
  obtain⟨s',e,h⟩:=bind_some h;cases h;show (Q7 row ((s,l),a)).bind _=_;unfold Q7;rw[Q6 h1 h2 ((hf s).trans e) (by omega),MM.bs,MM.bs];rfl
 | n+1,s,l,a,z,h,hl=>by
  obtain⟨s',e,h⟩:=bind_some h;obtain⟨y,ey,h⟩:=bind_some h;cases h;show (Q7 row ((s,l),a)).bind _=_;unfold Q7;rw[Q6 h1 h2 ((hf s).trans e) (by omega),MM.bs,MM.bs];have:=jlf h1 h2 hf n s' (l++[s]) s'.answer y ey (by rw[XE,List.length_singleton]; omega);rw[List.append_assoc] at this;exact this
def jcG {f:MSpot->Option MSpot} (h1:decide (row=("undo":Str))=false) (h2:W3 row jle=false) (hf:∀ s,j_ s row=f s) {s:MSpot}{l:List MSpot}{z:List MSpot×MSpot} (h:stN f (n+1) s=some z) (hl:l.length<1000) (hn:n<1000):qx (s,l) row ((n+1:Nat):Int)=some (z.2.answer,(z.2,l++z.1)):=by
 rw[jcF (by omega),jlf h1 h2 hf n s l "" z h (by omega),MM.bs]
def VL {s0 s1 s2:MSpot}{l:List MSpot}:qx (s2,l++[s0,s1]) "undo" 2=some (("ready":Str),(s0,l)):=by
 rw[show (2:Int)=((2:Nat):Int) from rfl,jcF (by omega)];show ((Q7 "undo" ((s2,l++[s0,s1]),"")).bind fun b=>(Q7 "undo" b).bind some).bind _=_;have e1:Q7 "undo" ((s2,l++[s0,s1]),"")=some ((s1,l++[s0]),("ready":Str)):=by
  unfold Q7;dsimp only;rw[show l++[s0,s1]=(l++[s0])++[s1] by simp,Z4,MM.bs]
 have e2:Q7 "undo" ((s1,l++[s0]),("ready":Str))=some ((s0,l),("ready":Str)):=by
  unfold Q7;dsimp only;rw[Z4,MM.bs]
 rw[e1,MM.bs,e2,MM.bs,MM.bs]
def jfN (s:MSpot):j_ s "great"=xR s:=by kernel_rfl
def Q8 (s:MSpot):j_ s "slide"=xS s:=by kernel_rfl
def jbo (s:MSpot):j_ s "unslide"=qG s:=by kernel_rfl
def VM (s:MSpot):j_ s "above"=xT s:=by kernel_rfl
def jfO (s:MSpot):j_ s "below"=xU s:=by kernel_rfl
def lnS (O:MOrder) (b:Int) (m:Option (List Int)):Option MSpot:=m.bind fun r=>(qk r).bind fun a=>some ⟨O,b,r,a⟩
def zv (s:MSpot) (r:List Int):qR s r=(qk r).bind fun a=>some ⟨s.order,s.bits,r,a⟩:=by
 unfold qR;rw[MM.bs,MM.bs,MM.bs];congr 1
 funext a
 unfold qP;rw[MM.bs,MM.bs,MM.bs,MM.bs]
def G7 (s:MSpot):xS s=lnS s.order s.bits (kN ⟨s.order⟩ s.line):=by
 unfold xS lnS;rw[show qF s.order=some ⟨s.order⟩ by unfold qF; rw[MM.bs],MM.bs,MM.bs,MM.bs];congr 1
 funext r
 exact zv s r
def Yy (s:MSpot):qG s=lnS s.order s.bits (qd ⟨s.order⟩ s.line):=by
 unfold qG lnS;rw[show qF s.order=some ⟨s.order⟩ by unfold qF; rw[MM.bs],MM.bs,MM.bs,MM.bs];congr 1
 funext r
 exact zv s r
def jbp (s:MSpot):xT s=lnS s.order s.bits (km ⟨s.order⟩ s.line):=by
 unfold xT lnS;rw[show yq s.order=some ⟨s.order⟩ by unfold yq; rw[MM.bs],MM.bs,MM.bs,MM.bs];congr 1
 funext r
 exact zv s r
def jbq (s:MSpot):xU s=lnS s.order s.bits (qe ⟨s.order⟩ s.line):=by
 unfold xU lnS;rw[show yr s.order=some ⟨s.order⟩ by unfold yr; rw[MM.bs],MM.bs,MM.bs,MM.bs];congr 1
 funext r
 exact zv s r
def dnT (b:Int):Option Str:=bif (decide (b=0)) then some (("-":Str)) else (kC b).bind fun t1=>JN t1
def JQ (s:MSpot) (b:Int):qQ s b=(dnT b).bind fun a=>some ⟨s.order,b,s.line,a⟩:=by
 unfold qQ dnT;rw[MM.bs,MM.bs,MM.bs];congr 1
 funext a
 unfold qP;rw[MM.bs,MM.bs,MM.bs,MM.bs]
def jbr (s:MSpot):xR s=(kX ⟨s.order⟩ s.bits).bind fun b=>(dnT b).bind fun a=>some ⟨s.order,b,s.line,a⟩:=by
 unfold xR;rw[show xl s.order=some ⟨s.order⟩ by unfold xl; rw[MM.bs],MM.bs,MM.bs,MM.bs];congr 1
 funext b
 exact JQ s b
def lnN (g:List Int->Option (List Int)):Nat->List Int×Str->Option (List Int×Str)
 | 0,z=>some z
 | n+1,z=>(g z.1).bind fun r=>(qk r).bind fun a=>lnN g n (r,a)
def dnN (g:Int->Option Int):Nat->Int×Str->Option (Int×Str)
 | 0,z=>some z
 | n+1,z=>(g z.1).bind fun b=>(dnT b).bind fun a=>dnN g n (b,a)
def jlg {b:Int}{f:MSpot->Option MSpot}{g:List Int->Option (List Int)} (hf:∀ r a,f ⟨O,b,r,a⟩=lnS O b (g r)):∀ (n:Nat) (y z:List Int×Str),lnN g n y=some z->∃ l,l.length=n/\stN f n ⟨O,b,y.1,y.2⟩=some (l,⟨O,b,z.1,z.2⟩)
 | 0,y,z,h=>by
  cases h;exact⟨[],rfl,rfl⟩
 | n+1,y,z,h=>by
  obtain⟨r,er,h⟩:=bind_some h;obtain⟨a,ea,h⟩:=bind_some h;obtain⟨l,hl,e⟩:=jlg hf n (r,a) z h;refine⟨⟨O,b,y.1,y.2⟩::l,by rw[XY,hl],?_⟩;show (f ⟨O,b,y.1,y.2⟩).bind _=_;rw[hf];unfold lnS;rw[er,MM.bs,ea,MM.bs,MM.bs,e,MM.bs]
def jlh {f:MSpot->Option MSpot}{g:Int->Option Int} (hf:∀ b a,f ⟨O,b,ln,a⟩=(g b).bind fun b=>(dnT b).bind fun a=>some ⟨O,b,ln,a⟩):∀ (n:Nat) (y z:Int×Str),dnN g n y=some z->∃ l,l.length=n/\stN f n ⟨O,y.1,ln,y.2⟩=some (l,⟨O,z.1,ln,z.2⟩)
 | 0,y,z,h=>by
  cases h;exact⟨[],rfl,rfl⟩
 | n+1,y,z,h=>by
  obtain⟨r,er,h⟩:=bind_some h;obtain⟨a,ea,h⟩:=bind_some h;obtain⟨l,hl,e⟩:=jlh hf n (r,a) z h;refine⟨⟨O,y.1,ln,y.2⟩::l,by rw[XY,hl],?_⟩;show (f ⟨O,y.1,ln,y.2⟩).bind _=_;rw[hf,er,MM.bs,ea,MM.bs,MM.bs,e,MM.bs]
def Q9 {b:Int}{f:MSpot->Option MSpot}{g:List Int->Option (List Int)} (h1:decide (row=("undo":Str))=false) (h2:W3 row jle=false) (hr:∀ s,j_ s row=f s) (hf:∀ r a,f ⟨O,b,r,a⟩=lnS O b (g r)) {y z:List Int×Str}{l:List MSpot} (h:lnN g (n+1) y=some z) (hl:l.length<1000) (hn:n<1000) :
  ∃ l',l'.length=n+1/\qx (⟨O,b,y.1,y.2⟩,l) row ((n+1:Nat):Int)=some (z.2,(⟨O,b,z.1,z.2⟩,l++l')):=by
 obtain⟨l',e1,e2⟩:=jlg hf (n+1) y z h;exact⟨l',e1,jcG h1 h2 hr e2 hl hn⟩
def jhs {y z:Int×Str}{l:List MSpot} (h:dnN (kX ⟨O⟩) (n+1) y=some z) (hl:l.length<1000) (hn:n<1000) :
  ∃ l',l'.length=n+1/\qx (⟨O,y.1,ln,y.2⟩,l) "great" ((n+1:Nat):Int)=some (z.2,(⟨O,z.1,ln,z.2⟩,l++l')):=by
 obtain⟨l',e1,e2⟩:=jlh (f:=xR) (ln:=ln) (fun b a=>jbr ⟨O,b,ln,a⟩) (n+1) y z h;exact⟨l',e1,jcG (by decide) (by decide) jfN e2 hl hn⟩
def Yz {b:Int}{f:MSpot->Option MSpot}{g:List Int->Option (List Int)} (h1:decide (row=("undo":Str))=false) (h2:W3 row jle=false) (hr:∀ s,j_ s row=f s) (hf:∀ r a,f ⟨O,b,r,a⟩=lnS O b (g r)) {y z:List Int×Str}{l:List MSpot} (h:lnN g 1 y=some z) (hl:l.length<1000) :
  jF (⟨O,b,y.1,y.2⟩,l) row=some (z.2,(⟨O,b,z.1,z.2⟩,l++[⟨O,b,y.1,y.2⟩])):=by
 obtain⟨r,er,h⟩:=bind_some h;obtain⟨a,ea,h⟩:=bind_some h;cases h;refine Q6 (s:=⟨O,b,y.1,y.2⟩) (s':=⟨O,b,r,a⟩) h1 h2 ((hr _).trans ?_) (Nat.lt_trans hl (by decide));rw[hf];unfold lnS;rw[er,MM.bs,ea,MM.bs]
def jfP {b:Int}{y y1 y2 y3 y4:List Int×Str}{l:List MSpot} (ha:lnN (km ⟨O⟩) 2 y=some y) (hb:lnN (qe ⟨O⟩) 2 y=some y) (h1:lnN (kN ⟨O⟩) 1 y=some y1) (h2:lnN (km ⟨O⟩) 1 y1=some y2) (h3:lnN (km ⟨O⟩) 1 y=some y3) (h4:lnN (qd ⟨O⟩) 1 y3=some y4) (he:y2.2=y4.2) (hl:l.length<900) :
  ∃ l',l'.length=4/\G6 (⟨O,b,y.1,y.2⟩,l) y.2=some (true,(⟨O,b,y.1,y.2⟩,l++l')):=by
 have fa:∀ r a,xT ⟨O,b,r,a⟩=lnS O b (km ⟨O⟩ r):=fun r a=>jbp ⟨O,b,r,a⟩;have fb:∀ r a,xU ⟨O,b,r,a⟩=lnS O b (qe ⟨O⟩ r):=fun r a=>jbq ⟨O,b,r,a⟩;have fs:∀ r a,xS ⟨O,b,r,a⟩=lnS O b (kN ⟨O⟩ r):=fun r a=>G7 ⟨O,b,r,a⟩;have fu:∀ r a,qG ⟨O,b,r,a⟩=lnS O b (qd ⟨O⟩ r):=fun r a=>Yy ⟨O,b,r,a⟩;obtain⟨la,ea1,ea2⟩:=Q9 (by decide) (by decide) VM fa (n:=1) ha (l:=l) (by omega) (by omega);obtain⟨lb,eb1,eb2⟩:=Q9 (by decide) (by decide) jfO fb (n:=1) hb (l:=l++la) (by rw[XE]; omega) (by omega);have hL:(l++la++lb).length<990:=by rw[XE,XE]; omega
 have s1:=Yz (by decide) (by decide) Q8 fs h1 (l:=l++la++lb) (by omega);have s2:=Yz (by decide) (by decide) VM fa h2 (l:=l++la++lb++[⟨O,b,y.1,y.2⟩]) (by rw[XE,List.length_singleton]; omega);have s3:=Yz (by decide) (by decide) VM fa h3 (l:=l++la++lb) (by omega);have s4:=Yz (by decide) (by decide) jbo fu h4 (l:=l++la++lb++[⟨O,b,y.1,y.2⟩]) (by rw[XE,List.length_singleton]; omega);have u1:=VL (s0:=⟨O,b,y.1,y.2⟩) (s1:=⟨O,b,y1.1,y1.2⟩) (s2:=⟨O,b,y2.1,y2.2⟩) (l:=l++la++lb);have u2:=VL (s0:=⟨O,b,y.1,y.2⟩) (s1:=⟨O,b,y3.1,y3.2⟩) (s2:=⟨O,b,y4.1,y4.2⟩) (l:=l++la++lb);have ap:∀ (p q:MSpot),l++la++lb++[p]++[q]=l++la++lb++[p,q]:=fun p q=>by simp
 have n0:Zi y.2 y.2=false:=by unfold Zi; simp
 have ea2:qx (⟨O,b,y.1,y.2⟩,l) "above" 2=some (y.2,(⟨O,b,y.1,y.2⟩,l++la)):=ea2;have eb2:qx (⟨O,b,y.1,y.2⟩,l++la) "below" 2=some (y.2,(⟨O,b,y.1,y.2⟩,l++la++lb)):=eb2;refine⟨la++lb,by rw[XE]; omega,?_⟩;unfold G6;simp only[MM.bs];rw[ea2];simp only[MM.bs,jbj,n0,orK,MM.cf];rw[eb2];simp only[MM.bs,n0,ifK,MM.cf];rw[s1];simp only[MM.bs,Yl];rw[s2];simp only[MM.bs,ap];rw[u1];simp only[MM.bs];rw[s3];simp only[MM.bs];rw[s4];simp only[MM.bs,ap];rw[u2];simp only[MM.bs];rw[he,List.append_assoc];simp
def jl7 (row:Str):Option (Str×List Int):=
 bif (Us row "order ") then none else
 (Gi row).bind fun words=>(pAt words 0).bind fun name=>
 (kS (cut words (some 1) none) (fun word=>xJ word) (fun word=>JH word)).bind fun numbers=>
 bif (!decide ((numbers.length:Int)=((words.length:Int)-1))) then none else some (name,numbers)
def jfQ (spot:MSpot) (name:Str) (numbers:List Int):Option MSpot:=
 bif ((W3 name ["great","ungreat","slide","unslide","above","below"])&&(decide ((numbers.length:Int)=0))) then
 (lk1 zM name spot)
 else
 bif ((W3 name ["stairs","down","toggle","line","swap"])&&(decide ((numbers.length:Int)=1))) then
 (((pAt numbers 0)).bind fun t3=>lk2 zi name spot t3)
 else
 bif ((decide (name=("field":Str)))&&(decide ((numbers.length:Int)=2))) then
 (((((pAt numbers 0)).bind fun t4=>((pAt numbers 1)).bind fun t5=>(zX t4 t5))).bind fun t6=>(qc t6))
 else
 none
def jfR (s:MSpot) (row:Str):j_ s row=(jl7 row).bind fun z=>jfQ s z.1 z.2:=by
 unfold j_ jl7;cases Us row "order " with
 | true=>rfl
 | false=>
  rw[MM.cf,MM.cf];cases Gi row with
  | none=>rfl
  | some words=>
   rw[MM.bs,MM.bs];cases pAt words 0 with
   | none=>rfl
   | some name=>
    rw[MM.bs,MM.bs];cases kS (cut words (some 1) none) (fun word=>xJ word) (fun word=>JH word) with
    | none=>rfl
    | some numbers=>
     rw[MM.bs,MM.bs];cases !decide ((numbers.length:Int)=((words.length:Int)-1)) with
     | true=>rfl
     | false=>
      rw[MM.cf,MM.cf,MM.bs];rfl
def jdt (s:MSpot) (a b:Int):jfQ s "field" [a,b]=(zX a b).bind qc:=by kernel_rfl
def jfS (s:MSpot) (a:Int):jfQ s "down" [a]=yM s a:=by kernel_rfl
def Z5 (s:MSpot) (a:Int):jfQ s "line" [a]=yN s a:=by kernel_rfl
def jbs (s:MSpot) (a:Int):jfQ s "stairs" [a]=xK s a:=by kernel_rfl
def jli (x:Str) (n:Int):Option Str:=(Jq n).bind fun t=>xi x t
def jmQ (a b:Int):Option Str:=((((Jq a).bind fun t6=>xi ("field ":Str) t6).bind fun t7=>xi t7 (" ":Str))).bind fun t9=>(Jq b).bind fun t10=>xi t9 t10
def jdu (r:Option Str) (z:Str×List Int):Bool:=decide (((r.bind fun r=>some (decide (r=("undo":Str))||W3 r ["show","counts","where","round","mean","sizes","falls"]))=some false))&&decide ((r.bind jl7)=some z)
def jht:∀ k∈List.range 64,jdu (jli ("down ":Str) ((k:Nat):Int)) ("down",[((k:Nat):Int)])=true:=by decide +kernel
def jcH:∀ k∈List.range 64,jdu (jli ("line ":Str) ((k:Nat):Int)) ("line",[((k:Nat):Int)])=true:=by decide +kernel
def jdv:∀ k∈List.range 4,jdu (jli ("stairs ":Str) ((k:Nat):Int)) ("stairs",[((k:Nat):Int)])=true:=by decide +kernel
end Lw
namespace Lw
open PySem L2 L3
def T94:List ((Int×Int)×MOrder×List Int×List (Int×Int)):=[((1,1),⟨1,[0],[]⟩,[0,1],[(1,1),(0,1)]),
 ((1,2),⟨2,[0,1],[(0,1)]⟩,[0,1,3],[(3,1),(1,1),(0,1)]),
 ((1,3),⟨3,[0,1,3],[(0,1),(1,2)]⟩,[0,1,3,7],[(7,1),(3,1),(1,1),(0,1)]),
 ((1,4),⟨4,[0,1,3,7],[(0,1),(1,2),(2,3)]⟩,[0,1,3,7,15],[(15,1),(7,1),(3,1),(1,1),(0,1)]),
 ((1,5),⟨5,[0,1,3,7,15],[(0,1),(1,2),(2,3),(3,4)]⟩,[0,1,3,7,15,31],[(31,1),(15,1),(7,1),(3,1),(1,1),(0,1)]),
 ((1,6),⟨6,[0,1,3,7,15,31],[(0,1),(1,2),(2,3),(3,4),(4,5)]⟩,[0,1,3,7,15,31,63],[(63,1),(31,1),(15,1),(7,1),(3,1),(1,1),(0,1)]),
 ((1,7),⟨7,[0,1,3,7,15,31,63],[(0,1),(1,2),(2,3),(3,4),(4,5),(5,6)]⟩,[0,1,3,7,15,31,63,127],[(127,1),(63,1),(31,1),(15,1),(7,1),(3,1),(1,1),(0,1)]),
 ((1,8),⟨8,[0,1,3,7,15,31,63,127],[(0,1),(1,2),(2,3),(3,4),(4,5),(5,6),(6,7)]⟩,[0,1,3,7,15,31,63,127,255],[(255,1),(127,1),(63,1),(31,1),(15,1),(7,1),(3,1),(1,1),(0,1)]),
 ((1,9),⟨9,[0,1,3,7,15,31,63,127,255],[(0,1),(1,2),(2,3),(3,4),(4,5),(5,6),(6,7),(7,8)]⟩,[0,1,3,7,15,31,63,127,255,511],[(511,1),(255,1),(127,1),(63,1),(31,1),(15,1),(7,1),(3,1),(1,1),(0,1)]),
 ((2,1),⟨2,[0,1],[(0,1)]⟩,[0,1,3],[(3,1),(1,1),(0,1)]),
 ((2,2),⟨4,[0,1,1,7],[(0,1),(0,2),(1,3),(2,3)]⟩,[0,1,3,5,7,15],[(15,1),(7,1),(5,1),(3,1),(1,2),(0,2)]),
 ((2,3),⟨6,[0,1,3,1,11,31],[(0,1),(0,3),(1,2),(1,4),(2,5),(3,4),(4,5)]⟩,[0,1,3,7,9,11,15,27,31,63],[(63,1),(31,1),(27,1),(15,1),(11,2),(9,2),(7,1),(3,3),(1,5),(0,5)]),
 ((2,4),⟨8,[0,1,3,7,1,19,55,127],[(0,1),(0,4),(1,2),(1,5),(2,3),(2,6),(3,7),(4,5),(5,6),(6,7)]⟩,[0,1,3,7,15,17,19,23,31,51,55,63,119,127,255],[(255,1),(127,1),(119,1),(63,1),(55,2),(51,2),(31,1),(23,3),(19,5),(17,5),(15,1),(7,4),(3,9),(1,14),(0,14)]),
 ((3,1),⟨3,[0,1,3],[(0,1),(1,2)]⟩,[0,1,3,7],[(7,1),(3,1),(1,1),(0,1)]),
 ((3,2),⟨6,[0,1,1,7,5,31],[(0,1),(0,2),(1,3),(2,3),(2,4),(3,5),(4,5)]⟩,[0,1,3,5,7,15,21,23,31,63],[(63,1),(31,1),(23,1),(21,1),(15,1),(7,2),(5,3),(3,2),(1,5),(0,5)]),
 ((3,3),⟨9,[0,1,3,1,11,31,9,91,255],[(0,1),(0,3),(1,2),(1,4),(2,5),(3,4),(3,6),(4,5),(4,7),(5,8),(6,7),(7,8)]⟩,[0,1,3,7,9,11,15,27,31,63,73,75,79,91,95,127,219,223,255,511],[(511,1),(255,1),(223,1),(219,1),(127,1),(95,2),(91,3),(79,2),(75,5),(73,5),(63,1),(31,3),(27,6),(15,5),(11,16),(9,21),(7,5),(3,21),(1,42),(0,42)]),
 ((4,1),⟨4,[0,1,3,7],[(0,1),(1,2),(2,3)]⟩,[0,1,3,7,15],[(15,1),(7,1),(3,1),(1,1),(0,1)]),
 ((4,2),⟨8,[0,1,1,7,5,31,21,127],[(0,1),(0,2),(1,3),(2,3),(2,4),(3,5),(4,5),(4,6),(5,7),(6,7)]⟩,[0,1,3,5,7,15,21,23,31,63,85,87,95,127,255],[(255,1),(127,1),(95,1),(87,1),(85,1),(63,1),(31,2),(23,3),(21,4),(15,2),(7,5),(5,9),(3,5),(1,14),(0,14)]),
 ((5,1),⟨5,[0,1,3,7,15],[(0,1),(1,2),(2,3),(3,4)]⟩,[0,1,3,7,15,31],[(31,1),(15,1),(7,1),(3,1),(1,1),(0,1)]),
 ((6,1),⟨6,[0,1,3,7,15,31],[(0,1),(1,2),(2,3),(3,4),(4,5)]⟩,[0,1,3,7,15,31,63],[(63,1),(31,1),(15,1),(7,1),(3,1),(1,1),(0,1)]),
 ((7,1),⟨7,[0,1,3,7,15,31,63],[(0,1),(1,2),(2,3),(3,4),(4,5),(5,6)]⟩,[0,1,3,7,15,31,63,127],[(127,1),(63,1),(31,1),(15,1),(7,1),(3,1),(1,1),(0,1)]),
 ((8,1),⟨8,[0,1,3,7,15,31,63,127],[(0,1),(1,2),(2,3),(3,4),(4,5),(5,6),(6,7)]⟩,[0,1,3,7,15,31,63,127,255],[(255,1),(127,1),(63,1),(31,1),(15,1),(7,1),(3,1),(1,1),(0,1)]),
 ((9,1),⟨9,[0,1,3,7,15,31,63,127,255],[(0,1),(1,2),(2,3),(3,4),(4,5),(5,6),(6,7),(7,8)]⟩,[0,1,3,7,15,31,63,127,255,511],[(511,1),(255,1),(127,1),(63,1),(31,1),(15,1),(7,1),(3,1),(1,1),(0,1)])]
def jjB (order:MOrder) (DS:List Int):Option (List (Int×Int)):=
 (some (([]:(List (Int×Int))))).bind fun ways=>
 ((some (DS.reverse)).bind fun l14=>L3.forM l14 ways (fun ways ahead=>
 ((((kI order ahead)).bind fun l8=>kS l8 (fun _=>some true) (fun thing=>((some (ahead)).bind fun t6=>((jav 1 thing)).bind fun t7=>some ((Builtin.bitOr t6 t7)))))).bind fun grown=>
 (((bif (decide (0<(grown.length:Int))) then (((kS grown (fun _=>some true) (fun bits=>(V7 ways bits)))).bind fun t11=>some ((t11.sum))) else some (1))).bind fun t12=>(some (ahead)).bind fun t13=>ji8 ways t13 t12).bind fun ways=>
 some ways)).bind fun ways=>
 some ways
def YA (order:MOrder) (ways:List (Int×Int)) (number:Int):Option (List Int):=
 ((((bif (decide (0<=number)) then ((V7 ways 0)).bind fun t1=>some (decide (number<t1)) else some false)).bind fun t2=>some ((!t2)))).bind fun q31=>bif q31 then
 none
 else
 (some (([]:List Int))).bind fun row=>
 (some (0)).bind fun ahead=>
 (some (number)).bind fun left=>
 (pWh (fun z4=>((some ((z4.1.length:Int))).bind fun t5=>((jP order)).bind fun t6=>some ((decide (t5<t6))))) (fun z4=>
 ((kI order z4.2.1)).bind fun choices=>
 (pWh (fun z7=>((some (z7.1)).bind fun t14=>(((some (ways)).bind fun t12=>(((some (z4.2.1)).bind fun t10=>(((some (1)).bind fun t8=>((pAt z7.2 0)).bind fun t9=>(jav t8 t9))).bind fun t11=>some ((Builtin.bitOr t10 t11)))).bind fun t13=>(V7 t12 t13))).bind fun t15=>some ((decide (t15<=t14))))) (fun z7=>
 (((some (z7.1)).bind fun t22=>(((some (ways)).bind fun t20=>(((some (z4.2.1)).bind fun t18=>(((some (1)).bind fun t16=>((pAt z7.2 0)).bind fun t17=>(jav t16 t17))).bind fun t19=>some ((Builtin.bitOr t18 t19)))).bind fun t21=>(V7 t20 t21))).bind fun t23=>some ((t22-t23)))).bind fun left=>
 (some ((cut z7.2 (some 1) none))).bind fun choices=>
 some (left,choices)) (z4.2.2,choices)).bind fun z24=>
 ((((pAt z24.2 0)).bind fun t29=>(Zh z4.1 t29))).bind fun row=>
 (((some (z4.2.1)).bind fun t27=>(((some (1)).bind fun t25=>((pAt z24.2 0)).bind fun t26=>(jav t25 t26))).bind fun t28=>some ((Builtin.bitOr t27 t28)))).bind fun ahead=>
 some (row,ahead,z24.1)) (row,ahead,left)).bind fun z30=>
 some (z30.1)
def jl8 (x:Option MOrder):Option (Int×List Int×List (Int×Int)):=x.map fun O=>(O.many,O.beneath,O.neighbours)
def jcI {x:Option MOrder} (h:jl8 x=some (O.many,O.beneath,O.neighbours)):x=some O:=by
 cases x with
 | none=>cases h
 | some y=>
  obtain⟨y1,y2,y3⟩:=y;obtain⟨o1,o2,o3⟩:=O;have h:some (y1,y2,y3)=some (o1,o2,o3):=h;cases h;rfl
def jjC (h:kL O=some DS):xa O=jjB O DS:=by
 unfold xa jjB;rw[h];rfl
def jbt {W:List (Int×Int)} (h:xa O=some W) (n:Int):zr O n=YA O W n:=by
 unfold zr YA;rw[h,MM.bs]
def jjD:∀ p∈jlC,∃ r∈T94,r.1=p:=by decide +kernel
def jl9:∀ r∈T94,jl8 (zX r.1.1 r.1.2)=some (r.2.1.many,r.2.1.beneath,r.2.1.neighbours):=by decide +kernel
def jl_:∀ r∈T94,kL r.2.1=some r.2.2.1:=by decide +kernel
def jma:∀ r∈T94,jjB r.2.1 r.2.2.1=some r.2.2.2:=by decide +kernel
def t94 {p:Int×Int} (hp:p∈jlC):∃ O DS W,(p,O,DS,W)∈T94/\zX p.1 p.2=some O/\kL O=some DS/\xa O=some W:=by
 obtain⟨⟨q,O,DS,W⟩,hr,e⟩:=jjD p hp;have e:q=p:=e;subst e;have h2:=jl_ _ hr;exact⟨O,DS,W,hr,jcI (jl9 _ hr),h2,(jjC h2).trans (jma _ hr)⟩
def jhu (s:MSpot) (l:List MSpot):jL (s,l) "show"=xH s:=by kernel_rfl
def WH (s:MSpot) (l:List MSpot):jL (s,l) "counts"=kr s:=by kernel_rfl
def jfT (s:MSpot) (l:List MSpot):jL (s,l) "sizes"=qD s:=by kernel_rfl
def jfU (s:MSpot) (l:List MSpot):jL (s,l) "falls"=qE s:=by kernel_rfl
def jfV (s:MSpot) (l:List MSpot):jL (s,l) "round"=qC ⟨s.order,s.bits,[],""⟩:=by
 have e:jL (s,l) "round"=qC s:=by kernel_rfl
 rw[e];unfold qC xo;rfl
def jhv (s:MSpot) (l:List MSpot):jL (s,l) "mean"=xp ⟨s.order,s.bits,[],""⟩:=by
 have e:jL (s,l) "mean"=xp s:=by kernel_rfl
 rw[e];unfold xp xo;rfl
def Z6 {x:Option Str}{z:Str×List Int} (h:jdu x z=true):∃ r,x=some r/\∀ {s s':MSpot}{l:List MSpot},jfQ s z.1 z.2=some s'->l.length<1000->jF (s,l) r=some (s'.answer,(s',l++[s])):=by
 unfold jdu at h;rw[XB] at h;obtain⟨h1,h2⟩:=h;have h1:=of_decide_eq_true h1;have h2:=of_decide_eq_true h2;obtain⟨r,er,h1⟩:=bind_some h1;rw[er,MM.bs] at h2;have h1:=Option.some.inj h1;rw[Bool.or_eq_false_iff] at h1;refine⟨r,er,fun {s s' l} ha hl=>Q6 h1.1 h1.2 ?_ (Nat.lt_trans hl (by decide))⟩;rw[jfR,h2,MM.bs];exact ha
def jdw (h:kL O=some DS) {b0:Int}{a:Str}{d:Nat} (hd:d<DS.length):yM ⟨O,b0,ln,a⟩ (d:Int)=(dnT (DS[d]'hd)).bind fun t=>some ⟨O,DS[d]'hd,ln,t⟩:=by
 unfold yM zu;dsimp only;rw[h,MM.bs,MM.bs,show (!((decide (0<=(d:Int)))&&(decide ((d:Int)<(DS.length:Int)))))=false by simp; omega,MM.cf];have e:pAt DS (d:Int)=some (DS[d]'hd):=MM.at_get hd;rw[e,MM.bs];exact JQ _ _
def WI {W:List (Int×Int)} (h:xa O=some W) {b0:Int}{r:List Int}{a:Str}{n:Int} (hr:YA O W n=some r):yN ⟨O,b0,ln,a⟩ n=(qk r).bind fun t=>some ⟨O,b0,r,t⟩:=by
 unfold yN;dsimp only;rw[MM.bs,jbt h,hr,MM.bs];exact zv _ _
end Lw
namespace Lw
open PySem L2 L3
@[irreducible] def Vb (many:Int) (pairs:(List (Int×Int))):Option Str:=
 (((((((Jq many)).bind fun t1=>(some ([]:List Str)).bind fun t2=>some (t1::t2))).bind fun t14=>((((MM.pSrtP' pairs)).bind fun l13=>kS l13 (fun _=>some true) (fun z5=>((some (z5.1)).bind fun i7=>(Jq i7).bind fun y8=>(xi Str.empty y8).bind fun j6=>(xi j6 ("<":Str)).bind fun j9=>(some (z5.2)).bind fun i11=>(Jq i11).bind fun y12=>(xi j9 y12).bind fun j10=>jjZ j10)))).bind fun t15=>(Wt t14 t15))).bind fun t16=>(Yh (" ":Str) t16))
def WJ:@JL=@Vb:=by
 funext _ _
 unfold JL Vb;rw[MM.pSrtP_tw]
@[irreducible] def Ux (order:MOrder) (line:(List Int)):Option Bool:=
 ((((MM.pSrt' line)).bind fun t2=>((((jP order)).bind fun t1=>(jgS t1))).bind fun t3=>some ((!jkr t2 t3)))).bind fun q12=>bif q12 then
 some (false)
 else
 (some (0)).bind fun ahead=>
 (jh1 line ahead (fun ahead thing=>
 (((((some (ahead)).bind fun t5=>((pAt order.beneath thing)).bind fun t6=>(qO t5 t6))).bind fun t7=>some ((!t7)))).bind fun q10=>bif q10 then
 (some (false)).bind fun y=>some (.rt y)
 else
 (((some (ahead)).bind fun t8=>((jav 1 thing)).bind fun t9=>some ((Builtin.bitOr t8 t9)))).bind fun ahead=>
 some (.nx ahead))).bind fun x_=>x_.el (fun c_=>some c_) (fun ahead=>
 some (true))
def Z7:@yL=@Ux:=by
 funext _ _
 unfold yL Ux;rw[MM.pSrt_tw]
@[irreducible] def xW (order:MOrder) (line:(List Int)):Option Unit:=
 ((((Ux order line)).bind fun t1=>some ((!t1)))).bind fun q2=>bif q2 then
 none
 else
 some ()
def yP:@kh=@xW:=by
 funext _ _
 unfold kh xW;rw[Z7]
@[irreducible] def xX (self:MSlide) (one:(List Int)):Option (List Int):=
 ((xW self.order one)).bind fun _=>
 (JO self.order one)
def JR:@kN=@xX:=by
 funext _ _
 unfold kN xX;rw[yP]
@[irreducible] def G8 (self:MSlide) (one:(List Int)):Option (List Int):=
 ((xW self.order one)).bind fun _=>
 (qS self.order one)
def VN:@qd=@G8:=by
 funext _ _
 unfold qd G8;rw[yP]
@[irreducible] def yQ (self:MAbove) (one:(List Int)):Option (List Int):=
 ((xW self.order one)).bind fun _=>
 (some (one)).bind fun row=>
 (((je5 (one.length:Int) 1)).bind fun l4=>L3.forM l4 row (fun row end_=>
 ((((JO self.order (cut row none (some end_)))).bind fun t2=>(some ((cut row (some end_) none))).bind fun t3=>(Wt t2 t3))).bind fun row=>
 some row)).bind fun row=>
 some (row)
def VO:@km=@yQ:=by
 funext _ _
 unfold km yQ;rw[yP]
@[irreducible] def G9 (self:MBelow) (one:(List Int)):Option (List Int):=
 ((xW self.order one)).bind fun _=>
 (some (one)).bind fun row=>
 (((Gg 0 ((one.length:Int)-1))).bind fun l4=>L3.forM l4 row (fun row GG=>
 (((some ((cut row none (some GG)))).bind fun t2=>((qS self.order (cut row (some GG) none))).bind fun t3=>(Wt t2 t3))).bind fun row=>
 some row)).bind fun row=>
 some (row)
def VP:@qe=@G9:=by
 funext _ _
 unfold qe G9;rw[yP]
end Lw
namespace Lw
open PySem L2 L3
def jlD (O:MOrder) (a b:Int) (bd:Int):Option Bool:=(dnT bd).bind fun td=>(dnN (kX ⟨O⟩) (a+b).toNat (bd,td)).bind fun z=>(qC ⟨O,bd,[],""⟩).bind fun r=>(JH r).bind fun ri=>(jaI (a+b) ri).bind fun m=>(xp ⟨O,bd,[],""⟩).bind fun mm=>
 ((((((Wb a b)).bind fun t49=>(some (2)).bind fun t50=>(yY t49 t50))).bind fun t51=>(some ((" ":Str))).bind fun t52=>(xi t51 t52))).bind fun t55=>((((Wb a b)).bind fun t53=>(some ((a+b))).bind fun t54=>(yY t53 t54))).bind fun t56=>(xi t55 t56).bind fun t58=>
 some (decide (z=(bd,td))&&(decide (m=0)&&decide (mm=t58)))
def jlE (O:MOrder) (ab:Nat) (ln:List Int):Option Bool:=(qk ln).bind fun t=>(lnN (xX ⟨O⟩) ab (ln,t)).bind fun z1=>(lnN (yQ ⟨O⟩) 1 (ln,t)).bind fun y3=>(lnN (yQ ⟨O⟩) 1 y3).bind fun z2=>(lnN (G9 ⟨O⟩) 2 (ln,t)).bind fun z3=>(lnN (xX ⟨O⟩) 1 (ln,t)).bind fun y1=>(lnN (yQ ⟨O⟩) 1 y1).bind fun y2=>(lnN (G8 ⟨O⟩) 1 y3).bind fun y4=>
 some (decide (z1=(ln,t))&&(decide (z2=(ln,t))&&(decide (z3=(ln,t))&&decide (y2.2=y4.2))))
def jmb (n:Int):List Int:=(List.range n.toNat).map fun k:Nat=>((k:Nat):Int)
def jhw (k:Int):Bool:=T94.all fun r=>r.2.2.1.all fun bd=>bif decide (bd % 8=k) then decide (jlD r.2.1 r.1.1 r.1.2 bd=some true) else true
def jnb:jhw 0=true:=by decide +kernel
def jnc:jhw 1=true:=by decide +kernel
def jnd:jhw 2=true:=by decide +kernel
def jne:jhw 3=true:=by decide +kernel
def jnf:jhw 4=true:=by decide +kernel
def jng:jhw 5=true:=by decide +kernel
def jnh:jhw 6=true:=by decide +kernel
def jni:jhw 7=true:=by decide +kernel
def jmc:∀ r∈T94,∀ bd∈r.2.2.1,jlD r.2.1 r.1.1 r.1.2 bd=some true:=by
 intro r hr n hn;have h:∀ k:Int,jhw k=true->n % 8=k->jlD r.2.1 r.1.1 r.1.2 n=some true:=fun k h e=>by
  have q:=XZ.mp (XZ.mp h r hr) n hn;rw[Xu e,MM.ct] at q;exact of_decide_eq_true q
 have c:n % 8=0 \/ n % 8=1 \/ n % 8=2 \/ n % 8=3 \/ n % 8=4 \/ n % 8=5 \/ n % 8=6 \/ n % 8=7:=by omega
 rcases c with c | c | c | c | c | c | c | c
 ·exact h 0 jnb c
 ·exact h 1 jnc c
 ·exact h 2 jnd c
 ·exact h 3 jne c
 ·exact h 4 jnf c
 ·exact h 5 jng c
 ·exact h 6 jnh c
 ·exact h 7 jni c
def U2 (k:Int):Bool:=T94.all fun r=>(jmb ((V7 r.2.2.2 0).getD 0)).all fun n=>bif decide (n % 24=k) then decide (((YA r.2.1 r.2.2.2 n).bind fun ln=>jlE r.2.1 (r.1.1 * r.1.2).toNat ln)=some true) else true
def jnj:U2 0=true:=by decide +kernel
def jnk:U2 1=true:=by decide +kernel
def jnl:U2 2=true:=by decide +kernel
def jnm:U2 3=true:=by decide +kernel
def jnn:U2 4=true:=by decide +kernel
def jno:U2 5=true:=by decide +kernel
def jnp:U2 6=true:=by decide +kernel
def jnq:U2 7=true:=by decide +kernel
def jnr:U2 8=true:=by decide +kernel
def jns:U2 9=true:=by decide +kernel
def jmd:U2 10=true:=by decide +kernel
def jme:U2 11=true:=by decide +kernel
def jmf:U2 12=true:=by decide +kernel
def jmg:U2 13=true:=by decide +kernel
def jmh:U2 14=true:=by decide +kernel
def jmi:U2 15=true:=by decide +kernel
def jmj:U2 16=true:=by decide +kernel
def jmk:U2 17=true:=by decide +kernel
def jml:U2 18=true:=by decide +kernel
def jmm:U2 19=true:=by decide +kernel
def jmn:U2 20=true:=by decide +kernel
def jmo:U2 21=true:=by decide +kernel
def jmp:U2 22=true:=by decide +kernel
def jmq:U2 23=true:=by decide +kernel
def jmr:∀ r∈T94,∀ n∈jmb ((V7 r.2.2.2 0).getD 0),((YA r.2.1 r.2.2.2 n).bind fun ln=>jlE r.2.1 (r.1.1 * r.1.2).toNat ln)=some true:=by
 intro r hr n hn;have h:∀ k:Int,U2 k=true->n % 24=k->((YA r.2.1 r.2.2.2 n).bind fun ln=>jlE r.2.1 (r.1.1 * r.1.2).toNat ln)=some true:=fun k h e=>by
  have q:=XZ.mp (XZ.mp h r hr) n hn;rw[Xu e,MM.ct] at q;exact of_decide_eq_true q
 have c:n % 24=0 \/ n % 24=1 \/ n % 24=2 \/ n % 24=3 \/ n % 24=4 \/ n % 24=5 \/ n % 24=6 \/ n % 24=7 \/ n % 24=8 \/ n % 24=9 \/ n % 24=10 \/ n % 24=11 \/ n % 24=12 \/ n % 24=13 \/ n % 24=14 \/ n % 24=15 \/ n % 24=16 \/ n % 24=17 \/ n % 24=18 \/ n % 24=19 \/ n % 24=20 \/ n % 24=21 \/ n % 24=22 \/ n % 24=23:=by omega
 rcases c with c | c | c | c | c | c | c | c | c | c | c | c | c | c | c | c | c | c | c | c | c | c | c | c
 ·exact h 0 jnj c
 ·exact h 1 jnk c
 ·exact h 2 jnl c
 ·exact h 3 jnm c
 ·exact h 4 jnn c
 ·exact h 5 jno c
 ·exact h 6 jnp c
 ·exact h 7 jnq c
 ·exact h 8 jnr c
 ·exact h 9 jns c
 ·exact h 10 jmd c
 ·exact h 11 jme c
 ·exact h 12 jmf c
 ·exact h 13 jmg c
 ·exact h 14 jmh c
 ·exact h 15 jmi c
 ·exact h 16 jmj c
 ·exact h 17 jmk c
 ·exact h 18 jml c
 ·exact h 19 jmm c
 ·exact h 20 jmn c
 ·exact h 21 jmo c
 ·exact h 22 jmp c
 ·exact h 23 jmq c
def nms (x:Option Str):Option (List Int):=(x.bind fun t=>Gi t).bind fun l=>kS l (fun _=>some true) (fun word=>JH word)
def jlF (a b:Int) (O:MOrder) (DS:List Int) (W:List (Int×Int)):Option Bool:=
 ((Wb a b).bind fun t3=>(yI a b).bind fun t4=>Vb t3 t4).bind fun sh=>(xG O).bind fun tx=>(YA O W 0).bind fun _=>
 (nms (kr ⟨O,0,[],""⟩)).bind fun counts=>(nms (qD ⟨O,0,[],""⟩)).bind fun sizes=>(nms (qE ⟨O,0,[],""⟩)).bind fun falls=>(V7 W 0).bind fun w0=>(Wb a b).bind fun ab=>
 some (decide (tx=sh)&&(decide (counts=[(DS.length:Int),w0])&&(decide ((sizes.length:Int)=ab+1)&&(decide (sizes.sum=(DS.length:Int))&&(jkr sizes sizes.reverse&&(decide (falls.sum=w0)&&(decide (0<w0)&&decide (0<DS.length))))))))
def jlj (k:Int):Bool:=T94.all fun r=>bif decide (r.1.1 % 4=k) then decide (jlF r.1.1 r.1.2 r.2.1 r.2.2.1 r.2.2.2=some true) else true
def jnt:jlj 0=true:=by decide +kernel
def jnu:jlj 1=true:=by decide +kernel
def jnv:jlj 2=true:=by decide +kernel
def jnw:jlj 3=true:=by decide +kernel
def jms:∀ r∈T94,jlF r.1.1 r.1.2 r.2.1 r.2.2.1 r.2.2.2=some true:=by
 intro r hr;have h:∀ k:Int,jlj k=true->r.1.1 % 4=k->jlF r.1.1 r.1.2 r.2.1 r.2.2.1 r.2.2.2=some true:=fun k h e=>by
  have q:=XZ.mp h r hr;rw[Xu e,MM.ct] at q;exact of_decide_eq_true q
 have c:r.1.1 % 4=0 \/ r.1.1 % 4=1 \/ r.1.1 % 4=2 \/ r.1.1 % 4=3:=by omega
 rcases c with c | c | c | c
 ·exact h 0 jnt c
 ·exact h 1 jnu c
 ·exact h 2 jnv c
 ·exact h 3 jnw c
def jlk:(m_Desk_init.map fun D=>D.2.length)=some 0:=by decide +kernel
def yZ {x:Option α}{f:α->Option β}{c:α}{r:Option β} (h:x=some c) (k:f c=r):x.bind f=r:=by rw[h,MM.bs]; exact k
def jfW (desk:MSpot×List MSpot) (k_:Int) (cell:Int) (cells pairs:List (Int×Int)):Option (Bool×(MSpot×List MSpot)):=
 ((((((some (("stairs ":Str))).bind fun t20=>((Jq k_)).bind fun t21=>(xi t20 t21))).bind fun a=>(some ()).bind fun b=>some (a,b)).bind fun z=>jF desk z.1).bind fun z=>jbj z Zi (fun desk=>(JL (cells.length:Int) pairs))).bind fun z=>ifK z (fun desk=>
 ((some (false)).bind fun y=>some (y,desk))) (fun desk=>
 (((((some (("line ":Str))).bind fun t29=>(((((some (cell)).bind fun t26=>((((((((jL desk ("counts":Str))).bind fun t22=>(Gi t22))).bind fun t23=>(some (1)).bind fun t24=>(pAt t23 t24))).bind fun t25=>(JH t25))).bind fun t27=>(jaI t26 t27))).bind fun t28=>(Jq t28))).bind fun t30=>(xi t29 t30))).bind fun a=>(some ()).bind fun b=>some (a,b)).bind fun z=>jF desk z.1).bind fun z=>Yl z (fun line desk=>
 (some (("":Str))).bind fun due=>
 (((Qu line)).bind fun l40=>L3.forM l40 due (fun due sign=>
 (((some (cells)).bind fun t34=>((JH sign)).bind fun t35=>(pAt t34 t35))).bind fun z36=>
 (((some (due)).bind fun t38=>((((ja_ cells (z36.2,z36.1))).bind fun t37=>(Jq t37))).bind fun t39=>(xi t38 t39))).bind fun due=>
 some due)).bind fun due=>
 (((((some (("slide":Str))).bind fun a=>((some ((cells.length:Int))).bind fun a=>(some ()).bind fun b=>some (a,b)).bind fun b=>some (a,b)).bind fun z=>qx desk z.1 z.2.1).bind fun z=>jbj z jhi (fun desk=>some (due))).bind fun z=>jlB z (fun desk=>((((some (("slide":Str))).bind fun a=>((some ((cells.length:Int))).bind fun a=>(some ()).bind fun b=>some (a,b)).bind fun b=>some (a,b)).bind fun z=>qx desk z.1 z.2.1).bind fun z=>jbj z jhi (fun desk=>some (line)))))))
def cel (k:Int):List (Int×Int):=if k=1 then [(0,0)] else if k=2 then [(0,0),(0,1),(1,0)] else [(0,0),(0,1),(0,2),(1,0),(1,1),(2,0)]
def jio (k:Int):List (Int×Int):=if k=1 then [] else if k=2 then [(0,1),(0,2)] else [(0,1),(1,2),(0,3),(1,4),(3,4),(3,5)]
def jll:List (Int×MOrder×List (Int×Int)):=[(1,⟨1,[0],[]⟩,[(1,1),(0,1)]),(2,⟨3,[0,1,1],[(0,1),(0,2)]⟩,[(7,1),(5,1),(3,1),(1,2),(0,2)]),(3,⟨6,[0,1,3,1,11,9],[(0,1),(0,3),(1,2),(1,4),(3,4),(3,5)]⟩,[(63,1),(59,1),(47,1),(43,2),(41,2),(31,1),(27,2),(15,2),(11,6),(9,8),(7,2),(3,8),(1,16),(0,16)])]
def jhx (D:MSpot×List MSpot) (c:Int):ql D 1 c=jfW D 1 c (cel 1) (jio 1):=by
 unfold ql;exact yZ (c:=[]) rfl (yZ (c:=cel 1) (by kernel_rfl) (yZ (c:=[]) rfl (yZ (c:=jio 1) (by kernel_rfl) rfl)))
def jhy (D:MSpot×List MSpot) (c:Int):ql D 2 c=jfW D 2 c (cel 2) (jio 2):=by
 unfold ql;exact yZ (c:=[]) rfl (yZ (c:=cel 2) (by kernel_rfl) (yZ (c:=[]) rfl (yZ (c:=jio 2) (by kernel_rfl) rfl)))
def jhz (D:MSpot×List MSpot) (c:Int):ql D 3 c=jfW D 3 c (cel 3) (jio 3):=by
 unfold ql;exact yZ (c:=[]) rfl (yZ (c:=cel 3) (by kernel_rfl) (yZ (c:=[]) rfl (yZ (c:=jio 3) (by kernel_rfl) rfl)))
def jnx (cells:List (Int×Int)) (line due:Str):Option Str:=
 (((Qu line)).bind fun l40=>L3.forM l40 due (fun due sign=>
 (((some (cells)).bind fun t34=>((JH sign)).bind fun t35=>(pAt t34 t35))).bind fun z36=>
 (((some (due)).bind fun t38=>((((ja_ cells (z36.2,z36.1))).bind fun t37=>(Jq t37))).bind fun t39=>(xi t38 t39))).bind fun due=>
 some due))
def jmR (k:Int) (O:MOrder) (W:List (Int×Int)) (m:Int):Option Bool:=(YA O W m).bind fun ln=>(qk ln).bind fun t=>(jnx (cel k) t "").bind fun due=>(lnN (xX ⟨O⟩) (cel k).length (ln,t)).bind fun z=>(lnN (xX ⟨O⟩) (cel k).length z).bind fun z'=>some (decide (z.2=due)&&decide (z'.2=t))
def hdS (k:Int) (O:MOrder) (W:List (Int×Int)):Option Bool:=(Vb ((cel k).length:Int) (jio k)).bind fun sh=>(xG O).bind fun tx=>(YA O W 0).bind fun _=>((((kr ⟨O,0,[],""⟩).bind fun t22=>Gi t22).bind fun t23=>pAt t23 1).bind fun t25=>JH t25).bind fun w=>(V7 W 0).bind fun w0=>some (decide (tx=sh)&&(decide (w=w0)&&(decide (0<w0)&&(decide (w0<=16)&&decide (0<(cel k).length/\(cel k).length<=6)))))
def jmt:∀ r∈jll,jl8 (Q5 r.1)=some (r.2.1.many,r.2.1.beneath,r.2.1.neighbours):=by decide +kernel
def jmu:∀ r∈jll,xa r.2.1=some r.2.2:=by decide +kernel
def jmv:∀ r∈jll,hdS r.1 r.2.1 r.2.2=some true:=by decide +kernel
def jmw:∀ r∈jll,∀ m∈jmb ((V7 r.2.2 0).getD 0),jmR r.1 r.2.1 r.2.2 m=some true:=by decide +kernel
def jbu {kn:Nat}{W:List (Int×Int)} (hr:((kn:Int),O,W)∈jll) (hk:kn<4) {s:MSpot}{l:List MSpot} (hl:l.length<100) (c:Int):∃ D,jfW (s,l) (kn:Int) c (cel (kn:Int)) (jio (kn:Int))=some (true,D):=by
 have hO:=jcI (jmt _ hr);have hW:=jmu _ hr;have hH:=jmv _ hr;have hC:=jmw _ hr;dsimp only at hO hW hH hC;unfold hdS at hH;rw[<- WJ] at hH;obtain⟨sh,esh,hH⟩:=bind_some hH;obtain⟨tx,etx,hH⟩:=bind_some hH;obtain⟨L0,eL0,hH⟩:=bind_some hH;obtain⟨w,ew,hH⟩:=bind_some hH;obtain⟨w0,ew0,hH⟩:=bind_some hH;have hH:=Option.some.inj hH;simp only[XB,Xv] at hH;obtain⟨g1,g2,g3,g4,g5,g6⟩:=hH;subst g1 g2;obtain⟨n,hn,en⟩:=jj2 c (m:=w.toNat) (by omega);rw[show ((w.toNat:Nat):Int)=w by omega] at en;have hC:=hC ((n:Nat):Int) (by
  rw[ew0];exact List.mem_map.mpr ⟨n,List.mem_range.mpr hn,rfl⟩)
 unfold jmR at hC;rw[<- JR] at hC;obtain⟨ln,eln,hC⟩:=bind_some hC;obtain⟨t,et,hC⟩:=bind_some hC;obtain⟨due,edue,hC⟩:=bind_some hC;obtain⟨z,ez,hC⟩:=bind_some hC;obtain⟨z',ez',hC⟩:=bind_some hC;have hC:=Option.some.inj hC;simp only[XB,Xv] at hC;obtain⟨rfl,rfl⟩:=hC;obtain⟨r1,er1,t1⟩:=Z6 (jdv kn (List.mem_range.mpr hk));obtain⟨r2,er2,t2⟩:=Z6 (jcH n (List.mem_range.mpr (by omega)));have a1:jfQ s "stairs" [((kn:Nat):Int)]=some ⟨O,0,L0,tx⟩:=by
  rw[jbs];unfold xK;rw[hO,MM.bs];unfold qc;rw[MM.bs,MM.bs,jbt hW,eL0,MM.bs,etx,MM.bs];unfold qP;rw[MM.bs,MM.bs,MM.bs,MM.bs]
 have a2:jfQ ⟨O,0,L0,tx⟩ "line" [((n:Nat):Int)]=some ⟨O,0,ln,z'.2⟩:=by
  rw[Z5,WI hW eln,et,MM.bs]
 have t1:=t1 (l:=l) a1 (by omega);have t2:=t2 (l:=l++[s]) a2 (by simp; omega);unfold jli at er1 er2;obtain⟨q,eq⟩:∃ q:Nat,(cel (kn:Int)).length=q+1:=⟨(cel (kn:Int)).length-1,by omega⟩;rw[eq] at ez ez';obtain⟨l1,q1,o1⟩:=Q9 (O:=O) (b:=0) (by decide) (by decide) Q8 (fun r a=>G7 ⟨O,0,r,a⟩) (l:=l++[s]++[⟨O,0,L0,tx⟩]) ez (by simp; omega) (by omega);obtain⟨l2,q2,o2⟩:=Q9 (O:=O) (b:=0) (by decide) (by decide) Q8 (fun r a=>G7 ⟨O,0,r,a⟩) (l:=l++[s]++[⟨O,0,L0,tx⟩]++l1) ez' (by simp; omega) (by omega);have n0:Zi tx tx=false:=by unfold Zi; simp
 have m1:jhi z.2 z.2=true:=by unfold jhi; simp
 have m2:jhi z'.2 z'.2=true:=by unfold jhi; simp
 have ec:kr ⟨O,0,L0,tx⟩=kr ⟨O,0,[],""⟩:=by unfold kr; rfl
 unfold jfW;simp only[MM.bs];rw[er1,MM.bs,MM.bs,t1,MM.bs];simp only[jbj];rw[esh,MM.bs,MM.bs];simp only[n0,ifK,MM.cf,WH];rw[ec,ew,MM.bs,MM.modP (by omega),en,MM.bs,er2,MM.bs,MM.bs,t2,MM.bs];simp only[Yl];refine⟨(⟨O,0,z'.1,z'.2⟩,l++[s]++[⟨O,0,L0,tx⟩]++l1++l2),?_⟩;refine yZ (c:=z.2) edue ?_;rw[eq,o1,MM.bs,MM.bs];simp only[m1,jlB,MM.bs,MM.ct];rw[o2,MM.bs];simp only[m2]
def jfX {s:MSpot}{l:List MSpot} (hl:l.length<100) (k c:Int):∃ D,ql (s,l) (1+k % 3) c=some (true,D):=by
 obtain⟨j,hj,ej⟩:=jj2 k (m:=3) (by decide);have ej:k % 3=(j:Int):=ej;rw[ej]
 match j,hj with
 | 0,_=>obtain⟨D,e⟩:=jbu (kn:=1) (Xo) (by decide) hl c; exact ⟨D,(jhx _ c).trans e⟩
 | 1,_=>obtain⟨D,e⟩:=jbu (kn:=2) (Xn _ Xo) (by decide) hl c; exact ⟨D,(jhy _ c).trans e⟩
 | 2,_=>obtain⟨D,e⟩:=jbu (kn:=3) (Xn _ (Xn _ Xo)) (by decide) hl c; exact ⟨D,(jhz _ c).trans e⟩
def jmx:∀ p∈jlC,jdu (jmQ p.1 p.2) ("field",[p.1,p.2])=true:=by decide +kernel
def jjE:∀ r∈T94,r.2.2.1.length<=60/\(V7 r.2.2.2 0).getD 0<=60/\1<=r.1.1/\1<=r.1.2/\(r.1.1+r.1.2<=20/\1<=r.1.1 * r.1.2/\r.1.1 * r.1.2<=9)/\Wb r.1.1 r.1.2=some (r.1.1 * r.1.2):=by decide +kernel
def law_true (ns:List Int) (hl:ns.length<=63):Z2 ns=some true:=by
 unfold Z2;obtain⟨c0,e0⟩:=JP ns 0;obtain⟨c1,e1⟩:=JP ns 1;obtain⟨c2,e2⟩:=JP ns 2;obtain⟨c3,e3⟩:=JP ns 3;obtain⟨c4,e4⟩:=JP ns 4;have e0:k8 ns 0=some c0:=e0;have e1:k8 ns 1=some c1:=e1;have e2:k8 ns 2=some c2:=e2;have e3:k8 ns 3=some c3:=e3;have e4:k8 ns 4=some c4:=e4;obtain⟨⟨a,b⟩,hp,ep⟩:=jfL c0;obtain⟨O,DS,W,hT,hO,hD,hW⟩:=t94 hp;have hH:=jms _ hT;dsimp only at hH hO;unfold jlF at hH;rw[<- WJ] at hH;obtain⟨sh,esh,hH⟩:=bind_some hH;obtain⟨tx,etx,hH⟩:=bind_some hH;obtain⟨L0,eL0,hH⟩:=bind_some hH;obtain⟨cnt,ecnt,hH⟩:=bind_some hH;obtain⟨szs,eszs,hH⟩:=bind_some hH;obtain⟨fls,efls,hH⟩:=bind_some hH;obtain⟨w0,ew0,hH⟩:=bind_some hH;obtain⟨ab,eab,hH⟩:=bind_some hH;have hH:=Option.some.inj hH;simp only[XB,Xv] at hH;obtain⟨g1,g2,g3,g4,g5,g6,g7,g8⟩:=hH;obtain⟨s0,eD⟩:∃ s0,m_Desk_init=some (s0,[]):=by
  have h:=jlk;cases q:m_Desk_init with
  | none=>rw[q] at h; cases h
  | some D=>
   rw[q] at h;obtain⟨s,l⟩:=D;have h:some l.length=some 0:=h;have h:=List.length_eq_zero_iff.mp (Option.some.inj h);exact⟨s,by rw[h]⟩
 rw[e0,MM.bs,ep,MM.bs];dsimp only;rw[eD,MM.bs,esh,MM.bs];simp only[e1,e2,e3,e4,eab,MM.bs];obtain⟨r,er,tF⟩:=Z6 (jmx _ hp);have aF:jfQ s0 "field" [a,b]=some ⟨O,0,L0,tx⟩:=by
  rw[jdt,hO,MM.bs];unfold qc;rw[MM.bs,MM.bs,jbt hW,eL0,MM.bs,etx,MM.bs];unfold qP;rw[MM.bs,MM.bs,MM.bs,MM.bs]
 have tF:=tF (l:=[]) aF (by decide);unfold jmQ at er;dsimp only at er;rw[er,MM.bs,MM.bs,tF,MM.bs];subst g1;have n0:Zi tx tx=false:=by unfold Zi; simp
 dsimp only[List.nil_append];simp only[jbj,n0,orK,MM.bs,MM.cf,jhu];have es:∀ (bb:Int) (ll:List Int) (aa:Str),xH ⟨O,bb,ll,aa⟩=some tx:=fun _ _ _=>by unfold xH; exact etx
 rw[es];simp only[MM.bs,ifK,show (!decide (tx=tx))=false by simp,MM.cf,WH,jfT,jfU];have ec:kr ⟨O,0,L0,tx⟩=kr ⟨O,0,[],""⟩:=by unfold kr; rfl
 have ez:qD ⟨O,0,L0,tx⟩=qD ⟨O,0,[],""⟩:=by unfold qD; rfl
 have ef:qE ⟨O,0,L0,tx⟩=qE ⟨O,0,[],""⟩:=by unfold qE; rfl
 unfold nms at ecnt eszs efls;rw[ec,ecnt,MM.bs,ez,eszs,MM.bs,ef,efls,MM.bs];subst g2;simp only[MM.bs,g3,g4,g5,g6,show pAt [(DS.length:Int),w0] 0=some (DS.length:Int) from MM.at_nat (i:=0) rfl,show pAt [(DS.length:Int),w0] 1=some w0 from MM.at_nat (i:=1) rfl,MM.ct,MM.cf,decide_true,Bool.not_true];have hB:=jjE _ hT;dsimp only at hB;rw[ew0] at hB;simp only[Option.getD_some] at hB;obtain⟨b1,b2,b3,b4,b5,b6⟩:=hB;rw[b6] at eab;have eab:ab=a * b:=(Option.some.inj eab).symm;obtain⟨d,hd,ed⟩:=jj2 c1 (m:=DS.length) g8;obtain⟨n,hn,en⟩:=jj2 c2 (m:=w0.toNat) (by omega);rw[show ((w0.toNat:Nat):Int)=w0 by omega] at en;rw[MM.modP (by omega),ed,MM.bs,MM.modP (by omega),en,MM.bs];obtain⟨r1,er1,t1⟩:=Z6 (jht d (List.mem_range.mpr (by omega)));obtain⟨r2,er2,t2⟩:=Z6 (jcH n (List.mem_range.mpr (by omega)));have hb:=jmc _ hT (DS[d]'hd) (List.getElem_mem hd);have hL:=jmr _ hT ((n:Nat):Int) (by
  dsimp only;rw[ew0];exact List.mem_map.mpr ⟨n,List.mem_range.mpr hn,rfl⟩)
 dsimp only at hb hL;generalize ebd:DS[d]'hd=bd at hb;unfold jlD at hb;obtain⟨td,etd,hb⟩:=bind_some hb;obtain⟨zb,ezb,hb⟩:=bind_some hb;obtain⟨rd,erd,hb⟩:=bind_some hb;obtain⟨ri,eri,hb⟩:=bind_some hb;obtain⟨md,emd,hb⟩:=bind_some hb;obtain⟨mm,emm,hb⟩:=bind_some hb;obtain⟨f1,ef1,hb⟩:=bind_some hb;obtain⟨f2,ef2,hb⟩:=bind_some hb;obtain⟨f3,ef3,hb⟩:=bind_some hb;have hb:=Option.some.inj hb;simp only[XB,Xv] at hb;obtain⟨rfl,rfl,rfl⟩:=hb;obtain⟨ln,eln,hL⟩:=bind_some hL;unfold jlE at hL;rw[<- JR,<- VO,<- VP,<- VN] at hL;obtain⟨tl,etl,hL⟩:=bind_some hL;obtain⟨z1,ez1,hL⟩:=bind_some hL;obtain⟨y3,ey3,hL⟩:=bind_some hL;obtain⟨z2,ez2,hL⟩:=bind_some hL;obtain⟨z3,ez3,hL⟩:=bind_some hL;obtain⟨y1,ey1,hL⟩:=bind_some hL;obtain⟨y2,ey2,hL⟩:=bind_some hL;obtain⟨y4,ey4,hL⟩:=bind_some hL;have hL:=Option.some.inj hL;simp only[XB,Xv] at hL;obtain⟨rfl,rfl,rfl,hy⟩:=hL;have a1:jfQ ⟨O,0,L0,tx⟩ "down" [((d:Nat):Int)]=some ⟨O,bd,L0,td⟩:=by
  rw[jfS,jdw hD hd,ebd,etd,MM.bs]
 have a2:jfQ ⟨O,bd,L0,td⟩ "line" [((n:Nat):Int)]=some ⟨O,bd,ln,tl⟩:=by
  rw[Z5,WI hW eln,etl,MM.bs]
 have t1:=t1 (l:=[s0]) a1 (show 1<1000 by decide);have t2:=t2 (l:=[s0]++[(⟨O,0,L0,tx⟩:MSpot)]) a2 (by simp);unfold jli at er1 er2;rw[er1,MM.bs,MM.bs,t1,MM.bs];simp only[Yl];rw[er2,MM.bs,MM.bs,t2,MM.bs];obtain⟨ng,eg⟩:∃ k:Nat,a+b=((k+1:Nat):Int):=⟨(a+b).toNat-1,by omega⟩;obtain⟨nb,eb⟩:∃ k:Nat,ab=((k+1:Nat):Int):=⟨ab.toNat-1,by omega⟩;have zb:dnN (kX ⟨O⟩) (ng+1) (bd,tl)=some (bd,td):=by
  rw[eg,XS] at ezb;exact ezb
 obtain⟨l1,q1,o1⟩:=jhs (ln:=ln) (l:=[s0]++[(⟨O,0,L0,tx⟩:MSpot)]++[⟨O,bd,L0,td⟩]) zb (by simp) (by omega);have zs:lnN (kN ⟨O⟩) (nb+1) (ln,td)=some (ln,tl):=by
  rw[<- eab,eb,XS] at ez1;exact ez1
 obtain⟨l2,q2,o2⟩:=Q9 (O:=O) (b:=bd) (by decide) (by decide) Q8 (fun r a=>G7 ⟨O,bd,r,a⟩) (l:=[s0]++[(⟨O,0,L0,tx⟩:MSpot)]++[⟨O,bd,L0,td⟩]++l1) zs (by simp; omega) (by omega);have n1:Zi td td=false:=by unfold Zi; simp
 have n2:Zi tl tl=false:=by unfold Zi; simp
 have ha2:lnN (km ⟨O⟩) 2 (ln,tl)=some (ln,tl):=by
  obtain⟨u,eu,ey3⟩:=bind_some ey3;obtain⟨v,ev,ey3⟩:=bind_some ey3;cases ey3;show ((km ⟨O⟩ ln).bind fun r=>(qk r).bind fun a=>lnN (km ⟨O⟩) 1 (r,a))=_;rw[eu,MM.bs,ev,MM.bs];exact ez2
 obtain⟨l3,q3,o3⟩:=jfP (b:=bd) (l:=[s0]++[(⟨O,0,L0,tx⟩:MSpot)]++[⟨O,bd,L0,td⟩]++l1++l2) ha2 ez3 ey1 ey2 ey3 ey4 hy (by simp; omega);simp only[Yl];rw[eg,o1,MM.bs,MM.bs];dsimp only;rw[n1,MM.cf,eb,o2,MM.bs];dsimp only;rw[n2,MM.bs]
 try dsimp only
 rw[MM.cf,jfV]
 try dsimp only
 rw[eg] at emd;rw[erd,MM.bs,eri,MM.bs,emd,MM.bs,MM.bs]
 try dsimp only
 rw[MM.bs]
 try dsimp only
 rw[show (!decide ((0:Int)=0))=false from rfl,MM.cf,o3,MM.bs,MM.bs]
 try dsimp only
 rw[show (!true)=false from rfl,MM.cf,jhv]
 try dsimp only
 simp only[b6,MM.bs,<- eab,eb,eg] at ef1 ef2;rw[emm,MM.bs,ef1,MM.bs,ef2,MM.bs,ef3,MM.bs,MM.bs];rw[show (!decide (mm=mm))=false by simp,MM.cf];obtain⟨D,eS⟩:=jfX (s:=⟨O,bd,ln,tl⟩) (l:=[s0]++[(⟨O,0,L0,tx⟩:MSpot)]++[⟨O,bd,L0,td⟩]++l1++l2++l3) (by simp; omega) c3 c4;rw[eS,MM.bs]
end Lw
namespace Lw
open PySem L2 L3
def top (i:Nat):Stmt:=PySem.Challenge.pw_toggleclock_k94_whole_desk_on_fields.main.body.getD i (.Pass ⟨0,0,0,0⟩)
section
variable {f:Addr} (B:BiX P w K mg base)
variable {xv xw C_Desk C_Great qm C_Spot:Addr} (Ao:A8 K mg xv) (Ap:A9 K mg xw) (Ai:Ba K mg C_Desk) (Ak:An K mg C_Fraction) (Au:A6 K mg C_Great) (Af:Ar K mg C_Order) (Al:A7 K mg qm) (Ae:As K mg C_Spot)
variable (yR:∃ t,mg "MOST_THINGS"=some (.int 9 t))
variable (G_:∃ t,mg "ORDER_START"=some (.str "order " t))
variable (Gx:∃ t,mg "MOST_FIGURES"=some (.int 6 t))
variable (VV:∃ t,mg "FIGURES"=some (.str "0123456789" t))
variable (Ja:∃ t,mg "MOST_STAIRS"=some (.int 3 t))
variable (qT:Def P w K mg base "_law_cell_at" 1 ["_law_script","_law_k"] (sp2 K (pF cScr) (pF cI) (rF cI) k8))
variable (JS:Def P w K mg base "_law_sides" 1 ["_law_cell"] (sp1 K (pF cI) (rF (cP cI cI)) Gw))
variable (Jb:Def P w K mg base "check_parts" 1 ["many","pairs"] (sp2 K (pF cI) (pB (cP cI cI)) (rF cU) yF))
variable (JT:Def P w K mg base "sets_below" 1 ["many","pairs"] (sp2 K (pF cI) (pB (cP cI cI)) (rF (cT cI)) zq))
variable (Y2:Def P w K mg base "has" 1 ["bits","thing"] (sp2 K (pF cI) (pF cI) (rF cB) Uv))
variable (UB:Def P w K mg base "is_cover" 2 ["beneath","low","high"] (sp3 K (pF (cT cI)) (pF cI) (pF cI) (rF cB) GM))
variable (Jc:Def P w K mg base "cover_pairs" 3 ["beneath"] (sp1 K (pF (cT cI)) (rF (cT (cP cI cI))) yG))
variable (zw:Kls P w K mg base "Order" C_Order 4 ["self","many","pairs"] (jjW K C_Order (pF cI) (pB (cP cI cI)) (ji C_Order) yp))
variable (jO:Mth P w K mg base C_Order "size" 1 ["self"] (sp1 K (pF (ji C_Order)) (rF cI) jP))
variable (kP:Def P w K mg base "things_of" 2 ["bits"] (sp1 K (pF cI) (rO cI) kC))
variable (yi:Def P w K mg base "holds_all" 1 ["bits","others"] (sp2 K (pF cI) (pF cI) (rF cB) qO))
variable (zx:Def P w K mg base "is_downset" 3 ["order","bits"] (sp2 K (pF (ji C_Order)) (pF cI) (rF cB) xk))
variable (xY:Def P w K mg base "downsets" 4 ["order"] (sp1 K (pF (ji C_Order)) (rO cI) kL))
variable (JU:Def P w K mg base "is_door" 2 ["order","bits","thing"] (sp3 K (pF (ji C_Order)) (pF cI) (pF cI) (rF cB) yH))
variable (xq:Def P w K mg base "things_next" 3 ["order","ahead"] (sp2 K (pF (ji C_Order)) (pF cI) (rO cI) kI))
variable (JV:Def P w K mg base "ways_on" 5 ["order"] (sp1 K (pF (ji C_Order)) (rD (κ:=Int) cI) xa))
variable (JW:Def P w K mg base "line_at" 6 ["order","number"] (sp2 K (pF (ji C_Order)) (pF cI) (rF (cT cI)) zr))
variable (Gy:Mth P w K mg base C_Order "covers" 1 ["self"] (sp1 K (pF (ji C_Order)) (rO (cP cI cI)) zf))
variable (zy:Def P w K mg base "order_text" 2 ["order"] (sp1 K (pF (ji C_Order)) (rF cS) xG))
variable (yj:Kls P w K mg base "Spot" C_Spot 1 ["self","order","bits","line","answer"] (jlV K C_Spot (pF (ji C_Order)) (pF cI) (pF (cT cI)) (pF cS) (jE C_Order C_Spot) qP))
variable (xL:Def P w K mg base "with_order" 7 ["order"] (sp1 K (pF (ji C_Order)) (rF (jE C_Order C_Spot)) qc))
variable (QM:Kls P w K mg base "Desk" C_Desk 8 ["self"] (jl4 K C_Desk (jE C_Order C_Spot) m_Desk_init))
variable (yS:Def P w K mg base "_law_field_pairs" 1 ["_law_a","_law_b"] (sp2 K (pF cI) (pF cI) (rO (cP cI cI)) yI))
variable (zz:Def P w K mg base "_law_shown" 1 ["_law_many","_law_pairs"] (sp2 K (pF cI) (pB (cP cI cI)) (rF cS) JL))
variable (Jd:Mth P w K mg base C_Desk "undone" 1 ["self"] (spK K C_Desk (jE C_Order C_Spot) csN cS (fun D z=>yJ D)))
variable (jak:Def P w K mg base "told_order" 3 ["spot"] (sp1 K (pF (jE C_Order C_Spot)) (rF cS) xH))
variable (UC:Def P w K mg base "how_many" 5 ["order"] (sp1 K (pF (ji C_Order)) (rF cI) GN))
variable (zE:Def P w K mg base "how_many_lines" 6 ["order"] (sp1 K (pF (ji C_Order)) (rF cI) yc))
variable (xr:Def P w K mg base "with_blanks" 1 ["values"] (sp1 K (pB cI) (rF cS) xQ))
variable (Y3:Def P w K mg base "told_counts" 7 ["spot"] (sp1 K (pF (jE C_Order C_Spot)) (rF cS) kr))
variable (zA:Kls P w K mg base "Great" C_Great 1 ["self","order"] (jgR K C_Great (pF (ji C_Order)) (Qx C_Order C_Great) xl))
variable (xM:Def P w K mg base "check_downset" 4 ["order","bits"] (sp2 K (pF (ji C_Order)) (pF cI) (rF cU) xb))
variable (Y4:Def P w K mg base "set_of" 1 ["things"] (sp1 K (pB cI) (rF cI) Qi))
variable (jbG:Def P w K mg base "doors" 5 ["order","bits"] (sp2 K (pF (ji C_Order)) (pF cI) (rF cI) Uw))
variable (JX:Def P w K mg base "great_turn" 6 ["order","bits"] (sp2 K (pF (ji C_Order)) (pF cI) (rF cI) zt))
variable (yt:Mth P w K mg base C_Great "done" 7 ["self","one"] (sp2 K (pF (Qx C_Order C_Great)) (pF cI) (rF cI) kX))
variable (UD:Def P w K mg base "round_of" 8 ["turn","one"] (sp2 K (pF (Qx C_Order C_Great)) (pF cI) (rO cI) Qj))
variable (yT:Def P w K mg base "great_round" 9 ["spot"] (sp1 K (pF (jE C_Order C_Spot)) (rO cI) xo))
variable (jal:Def P w K mg base "told_round" 10 ["spot"] (sp1 K (pF (jE C_Order C_Spot)) (rF cS) qC))
variable (yU:Def P w K mg base "greatest_divisor" 1 ["one","other"] (sp2 K (pF cI) (pF cI) (rF cI) k0))
variable (zY:Kls P w K mg base "Fraction" C_Fraction 2 ["self","top","bottom"] (jjW K C_Fraction (pF cI) (pF cI) (xF C_Fraction) xc))
variable (jf0:Def P w K mg base "mean" 4 ["numbers"] (sp1 K (pB cI) (rF (xF C_Fraction)) jcD))
variable (zF:Mth P w K mg base C_Fraction "shown" 1 ["self"] (sp1 K (pF (xF C_Fraction)) (rF cS) yd))
variable (Je:Def P w K mg base "mean_size" 5 ["sets"] (sp1 K (pB cI) (rF cS) zW))
variable (jf1:Def P w K mg base "brim" 5 ["order","bits"] (sp2 K (pF (ji C_Order)) (pF cI) (rF cI) WF))
variable (zZ:Def P w K mg base "with_blanks" 1 ["values"] (sp1 K (pB cS) (rF cS) yK))
variable (jbH:Def P w K mg base "told_mean" 10 ["spot"] (sp1 K (pF (jE C_Order C_Spot)) (rF cS) xp))
variable (VW:Def P w K mg base "by_size" 5 ["order"] (sp1 K (pF (ji C_Order)) (rO cI) JM))
variable (jam:Def P w K mg base "told_sizes" 6 ["spot"] (sp1 K (pF (jE C_Order C_Spot)) (rF cS) qD))
variable (Ga:Def P w K mg base "one_fall_more" 1 ["counts"] (sp1 K (pB cI) (rO cI) xI))
variable (jbI:Def P w K mg base "added" 1 ["one","other"] (sp2 K (pB cI) (pB cI) (rO cI) VI))
variable (UE:Def P w K mg base "by_falls" 4 ["order"] (sp1 K (pF (ji C_Order)) (rO cI) GO))
variable (jan:Def P w K mg base "told_falls" 5 ["spot"] (sp1 K (pF (jE C_Order C_Spot)) (rF cS) qE))
variable (UF:TabD P w K mg base "ASKED" 11 (jhp K (pF (jE C_Order C_Spot)) (rF cS) jbn))
variable (QN:Def P w K mg base "is_number" 1 ["word"] (sp1 K (pF cS) (rF cB) xJ))
variable (VX:Def P w K mg base "figures" 1 ["things"] (sp1 K (pB cI) (rF cS) JN))
variable (yb:Def P w K mg base "with_downset" 3 ["spot","bits"] (sp2 K (pF (jE C_Order C_Spot)) (pF cI) (rF (jE C_Order C_Spot)) qQ))
variable (jdF:Def P w K mg base "at_great" 8 ["spot"] (sp1 K (pF (jE C_Order C_Spot)) (rF (jE C_Order C_Spot)) xR))
variable (zB:Kls P w K mg base "Slide" qm 1 ["self","order"] (jgR K qm (pF (ji C_Order)) (JI C_Order qm) qF))
variable (VY:Def P w K mg base "is_line" 2 ["order","line"] (sp2 K (pF (ji C_Order)) (pF (cT cI)) (rF cB) yL))
variable (qH:Def P w K mg base "check_line" 3 ["order","line"] (sp2 K (pF (ji C_Order)) (pF (cT cI)) (rF cU) kh))
variable (qo:Mth P w K mg base C_Order "check_thing" 1 ["self","thing"] (sp2 K (pF (ji C_Order)) (pF cI) (rF cU) kj))
variable (xx:Mth P w K mg base C_Order "just_above" 2 ["self","thing"] (sp2 K (pF (ji C_Order)) (pF cI) (rO cI) k5))
variable (qp:Def P w K mg base "places_within" 1 ["row","things"] (sp2 K (pF (cT cI)) (pB cI) (rO cI) kJ))
variable (jao:Def P w K mg base "slid" 3 ["order","row"] (sp2 K (pF (ji C_Order)) (pF (cT cI)) (rF (cT cI)) JO))
variable (JY:Mth P w K mg base qm "done" 4 ["self","one"] (sp2 K (pF (JI C_Order qm)) (pF (cT cI)) (rF (cT cI)) kN))
variable (QO:Def P w K mg base "figures" 1 ["things"] (sp1 K (pF (cT cI)) (rF cS) qk))
variable (qr:Def P w K mg base "with_line" 3 ["spot","line"] (sp2 K (pF (jE C_Order C_Spot)) (pF (cT cI)) (rF (jE C_Order C_Spot)) qR))
variable (jdG:Def P w K mg base "at_slide" 5 ["spot"] (sp1 K (pF (jE C_Order C_Spot)) (rF (jE C_Order C_Spot)) xS))
variable (xy:Mth P w K mg base C_Order "just_below" 2 ["self","thing"] (sp2 K (pF (ji C_Order)) (pF cI) (rO cI) k6))
variable (Gb:Def P w K mg base "slid_back" 3 ["order","row"] (sp2 K (pF (ji C_Order)) (pF (cT cI)) (rF (cT cI)) qS))
variable (JZ:Mth P w K mg base qm "back" 4 ["self","one"] (sp2 K (pF (JI C_Order qm)) (pF (cT cI)) (rF (cT cI)) qd))
variable (jap:Def P w K mg base "at_unslide" 5 ["spot"] (sp1 K (pF (jE C_Order C_Spot)) (rF (jE C_Order C_Spot)) qG))
variable (J0:Kls P w K mg base "Above" xv 1 ["self","order"] (jgR K xv (pF (ji C_Order)) (VG C_Order xv) yq))
variable (J1:Mth P w K mg base xv "done" 4 ["self","one"] (sp2 K (pF (VG C_Order xv)) (pF (cT cI)) (rF (cT cI)) km))
variable (jdH:Def P w K mg base "at_above" 5 ["spot"] (sp1 K (pF (jE C_Order C_Spot)) (rF (jE C_Order C_Spot)) xT))
variable (J2:Kls P w K mg base "Below" xw 1 ["self","order"] (jgR K xw (pF (ji C_Order)) (VH C_Order xw) yr))
variable (J3:Mth P w K mg base xw "done" 4 ["self","one"] (sp2 K (pF (VH C_Order xw)) (pF (cT cI)) (rF (cT cI)) qe))
variable (jdI:Def P w K mg base "at_below" 5 ["spot"] (sp1 K (pF (jE C_Order C_Spot)) (rF (jE C_Order C_Spot)) xU))
variable (zO:TabD P w K mg base "PLAIN_STEPS" 9 (jhp K (pF (jE C_Order C_Spot)) (rF (jE C_Order C_Spot)) zM))
variable (Gz:Def P w K mg base "check_stairs" 1 ["k"] (sp1 K (pF cI) (rF cU) zg))
variable (GR:Def P w K mg base "cells_of" 1 ["widths"] (sp1 K (pB cI) (rO (cP cI cI)) GP))
variable (GA:Def P w K mg base "stairs_cells" 2 ["k"] (sp1 K (pF cI) (rO (cP cI cI)) zh))
variable (za:Def P w K mg base "neither_greater" 1 ["one","other"] (sp2 K (pF (cP cI cI)) (pF (cP cI cI)) (rF cB) xV))
variable (GS:Def P w K mg base "order_of" 6 ["cells"] (sp1 K (pB (cP cI cI)) (rF (ji C_Order)) GQ))
variable (Y5:Def P w K mg base "stairs" 7 ["k"] (sp1 K (pF cI) (rF (ji C_Order)) Q5))
variable (jbJ:Def P w K mg base "at_stairs" 8 ["spot","k"] (sp2 K (pF (jE C_Order C_Spot)) (pF cI) (rF (jE C_Order C_Spot)) xK))
variable (J4:Def P w K mg base "downset_at" 5 ["order","place"] (sp2 K (pF (ji C_Order)) (pF cI) (rF cI) zu))
variable (jf2:Def P w K mg base "at_down" 6 ["spot","place"] (sp2 K (pF (jE C_Order C_Spot)) (pF cI) (rF (jE C_Order C_Spot)) yM))
variable (jf3:Def P w K mg base "at_line" 7 ["spot","number"] (sp2 K (pF (jE C_Order C_Spot)) (pF cI) (rF (jE C_Order C_Spot)) yN))
variable (zj:TabD P w K mg base "NUMBER_STEPS" 9 (jjA K (pF (jE C_Order C_Spot)) (pF cI) (rF (jE C_Order C_Spot)) zi))
variable (Jf:Def P w K mg base "check_field" 1 ["a","b"] (sp2 K (pF cI) (pF cI) (rF cU) zN))
variable (jbK:Def P w K mg base "field" 7 ["a","b"] (sp2 K (pF cI) (pF cI) (rF (ji C_Order)) zX))
variable (QP:Def P w K mg base "step_from" 10 ["spot","row"] (sp2 K (pF (jE C_Order C_Spot)) (pF cS) (rF (jE C_Order C_Spot)) j_))
variable (kD:Mth P w K mg base C_Desk "told" 12 ["self","row"] (spK K C_Desk (jE C_Order C_Spot) (csC cS csN) cS (fun D z=>jF D z.1)))
variable (kT:Mth P w K mg base C_Desk "told" 12 ["self","row"] (sp2 K (pK (jE C_Order C_Spot) C_Desk) (pF cS) (rF cS) jL))
variable (kO:Def P w K mg base "_law_often" 13 ["_law_desk","_law_row","_law_many"] (spK K C_Desk (jE C_Order C_Spot) (csC cS (csC cI csN)) cS (fun D z=>qx D z.1 z.2.1)))
variable (Jg:Def P w K mg base "_law_turned" 14 ["_law_desk","_law_line"] (spK K C_Desk (jE C_Order C_Spot) (csC cS csN) cB (fun D z=>G6 D z.1)))
variable (yV:Def P w K mg base "_law_fraction" 1 ["_law_top","_law_bottom"] (sp2 K (pF cI) (pF cI) (rF cS) yY))
variable (zG:Def P w K mg base "_law_on_stairs" 14 ["_law_desk","_law_k","_law_cell"] (spK K C_Desk (jE C_Order C_Spot) (csC cI (csC cI csN)) cB (fun D z=>ql D z.1 z.2.1)))
def VQ (Fn:Fun K "_law_cell_at" "_law_cell_at" (top 127) f fd):FnOk P w K mg base CX0 1 f fd ["_law_script","_law_k"] (sp2 K (pF cScr) (pF cI) (rF cI) k8):=by
  refine(ok2 (N:=["_law_script","_law_k","_law_cell","_law_low"]) Fn fun cdv A outer s H0 Q E_ hr nd hu script k_ Vc V_k_ Fe R X jk P_k_ Hm Kk=>?_);refine⟨_,(jc (pS (i:=2) nd jl) (jc (ZD (xn (jM Wa (kB jt B.len_ (pv 0)) jl (jT _)) (jf (pS (i:=2) nd (pX kU (pv 0) (jI Jk (pv 1) (kB jt B.len_ (pv 0)))))) j2)) (jc (pS (i:=3) nd (jI Jk (jI GE (jI yu (pv 2) (jI GE jl (jI yu (pv 1) jl))) jl) jl)) (jf (js (jI yu (jI GE (jI Gf (jI Jk (pv 2) (jI jka jl jl)) jl) jl) (pv 3))))))),?_⟩
  try dsimp only[jN]
  unfold k8 at Hm;replace jk:cScr.rep K Fe script Vc:=jk;obtain rfl:V_k_=.int k_:=P_k_;refine(qb (K:=K) (jm _) X Hm ?_);intro cell F H Hm E X;replace jk:=E.xc jk;refine(jh2 (K:=K) (fun cell σ' H'=>∃ F':Hp,σ'=[some Vc,some (.int k_),some (.int cell),none]/\(Ext Fe H0 F' H'/\Same F F')) (kY (je yX (jh q8 (jiH (eV (i:=0) jk)) rfl) (jm _) rfl)) X Hm ?_ ?_ ?_)
  ·intro B_ F H Hm E X;replace jk:=E.xc jk;have SJ0:=E.f;refine(zR (K:=K) (ju zm (jiH (eV (i:=0) jk)) (je W1 (eI (i:=1)) (jh q8 (jiH (eV (i:=0) jk)) rfl) rfl) rfl) X Hm ?_);intro cell F H Hm E X;replace SJ0:=E.xd SJ0;cases Hm;exact⟨F,rfl,⟨X,SJ0⟩⟩
  ·intro B_ F H Hm E X;have SJ0:=E.f;refine G0 ?_;cases Hm;exact⟨F,rfl,⟨X,SJ0⟩⟩
  ·rintro cell σ_ H Hm ⟨F,rfl,⟨X,SF_⟩⟩
   try dsimp only at Hm
   refine(qb (K:=K) (QE (by decide) (Vq ⟨by decide,by decide⟩ (je kE (eI (i:=2)) (jaV ⟨by decide,by decide⟩ (jm _) (je kE (eI (i:=1)) (jm _) rfl) rfl) rfl) (jm _) rfl) (jm _) rfl) X Hm ?_);intro low F H Hm E X;exact jw (K:=K) (je kE (Vq ⟨by decide,by decide⟩ (Vr ⟨by decide,by decide⟩ (QE (by decide) (eI (i:=2)) (jeR (i:=10) (j:=60) ⟨by decide,by decide,by decide⟩ (jm _) (jm _) rfl) rfl) (jm _) rfl) (jm _) rfl) (eI (i:=3)) rfl) X Hm Kk
def YB (Fn:Fun K "_law_sides" "_law_sides" (top 129) f fd):FnOk P w K mg base CX0 1 f fd ["_law_cell"] (sp1 K (pF cI) (rF (cP cI cI)) Gw):=by
  refine(ok1 (N:=["_law_cell","_law_a"]) Fn fun cdv A outer s H0 Q E_ hr nd hu cell jf4 Fe R X jcJ Hm Kk=>?_);refine⟨_,(jc (pS (i:=1) nd (jI yu jl (jI Jk (pv 0) jl))) (jf (js (Ge (jb (pv 1) (jb (jI yu jl (jI Jk (jI Gf (pv 0) jl) (jI Gf jl (pv 1)))) jd)))))),?_⟩
  try dsimp only[jN]
  unfold Gw at Hm;obtain rfl:jf4=.int cell:=jcJ;refine(qb (K:=K) (je kE (jm _) (QE (by decide) (eI (i:=0)) (jm _) rfl) rfl) X Hm ?_);intro a_ F H Hm E X;exact jw (K:=K) (QZ (eI (i:=1)) (ju kE (jm _) (ju W1 (Vr ⟨by decide,by decide⟩ (eI (i:=0)) (jm _) rfl) (je jaJ (jm _) (eI (i:=1)) rfl) rfl) rfl) rfl) X Hm Kk
def Wd (Fn:Fun K "check_parts" "check_parts" (top 16) f fd):FnOk P w K mg base CX0 1 f fd ["many","pairs"] (sp2 K (pF cI) (pB (cP cI cI)) (rF cU) yF):=by
  refine(ok2 (N:=["many","pairs","low","high"]) Fn fun cdv A outer s H0 Q E_ hr nd hu many pairs Ua xf Fe R X Qy jJ Hm Kk=>?_);obtain⟨t_MOST_THINGS,g_MOST_THINGS⟩:=yR;refine⟨_,(jc (xn (Jj (J8 UY UY jl (pv 0) (Uf (v:=.int 9) rfl g_MOST_THINGS ⟨_,rfl⟩))) (jf qz) j2) (jf (xu PassesOwn.never rfl (qw (pv 1)) (Qs rfl (kZ (pG (i:=2) nd) (kZ (pG (i:=3) nd) Gp))) (jf (xn (Jj (jel UY V_ V_ jl (pv 2) (pv 3) (pv 0))) (jf qz) j2))))),?_⟩
  try dsimp only[jN]
  unfold yF at Hm;obtain rfl:Ua=.int many:=Qy;have jz:Bor K H0 Fe (cP cI cI) pairs xf:=jJ;clear jJ;refine(QY (K:=K) (GI (kY (G1 (jm _) (eI (i:=0)) (jm _) rfl)) rfl) X Hm ?_ ?_)
  ·intro F H Hc Hm E X;cases Hm
  ·intro F H Hc Hm E X;replace jz:=E.xb jz;refine G0 ?_;refine jgO (K:=K) (c:=(cP cI cI)) ?_ X Hm (fun F1 b σ' F' H'=>∃ (w1_:Option V) (w2_:Option V),σ'=[some (.int many),some xf,w1_,w2_]/\(Ext Fe H0 F' H'/\Same F1 F')) ?_ ?_ ?_ ?_
   ·exact(jes (i:=1) rfl jz)
   ·intro F H E X;exact⟨_,_,rfl,⟨X,(Same.refl _)⟩⟩
   ·rintro F1 _ σ_ F_ H_ ⟨w1_,w2_,rfl,⟨X_,SF_⟩⟩;exact⟨X_,SF_⟩
   ·rintro F1 S0_ _ B_ ⟨low,high⟩ Bf σ_ F_ H_ F H ⟨w1_,w2_,rfl,⟨X,SF_⟩⟩ E Bb Hm
    try dsimp only at Hm
    have SL0:=SF_;replace X:=Ext.trans X E;replace SL0:=E.xd SL0;refine jcg Bb X.sub fun Y6 GT Y7 GU=>?_;obtain rfl:Y6=.int low:=Y7;obtain rfl:GT=.int high:=GU;refine(jcd (K:=K) (GI (kY (ZI (jm _) (eI (i:=2)) (eI (i:=3)) (eI (i:=0)) rfl)) rfl) X Hm ?_ ?_)
    ·intro F H Hc Hm E X;cases Hm
    ·intro F H Hc Hm E X;replace SL0:=E.xd SL0;refine G0 ?_;cases Hm;exact⟨F,_,_,rfl,⟨X,SL0⟩⟩
   ·rintro F1 S0_ _ σ_ F H Hm ⟨w1_,w2_,rfl,⟨X,SF_⟩⟩
    try dsimp only at Hm
    cases Hm;exact Kk _ F H X rfl
def YC (Fn:Fun K "sets_below" "sets_below" (top 18) f fd):FnOk P w K mg base CX0 1 f fd ["many","pairs"] (sp2 K (pF cI) (pB (cP cI cI)) (rF (cT cI)) zq):=by
  refine(ok2 (N:=["many","pairs","found","thing","bits","low","high"]) Fn fun cdv A outer s H0 Q E_ hr nd hu many pairs Ua xf Fe R X Qy jJ Hm Kk=>?_);refine⟨_,(jc (pS (i:=2) nd (xB jd)) (jc (xu PassesOwn.never rfl (kz rfl B.range_ (jb (pv 0) jd)) (pG (i:=3) nd) (jc (pS (i:=4) nd jl) (jc (xu PassesOwn.never rfl (qw (pv 1)) (Qs rfl (kZ (pG (i:=5) nd) (kZ (pG (i:=6) nd) Gp))) (jf (ZD (xn (jM GF (pv 6) (pv 3) (jT _)) (jf (pS (i:=4) nd (jI Vd (jI Vd (pv 4) (pX kU (pv 2) (pv 5))) (jI QU jl (pv 5))))) j2)))) (jf (k7 (zQ Xw XU XT yx (pv 2) (jb (pv 4) jd))))))) (jf (js (cY yw B.tuple_ (pv 2)))))),?_⟩
  try dsimp only[jN]
  unfold zq at Hm;obtain rfl:Ua=.int many:=Qy;have jz:Bor K H0 Fe (cP cI cI) pairs xf:=jJ;clear jJ;refine(Jw (K:=K) (xD (xC (c:=cI)) (by decide)) X Hm ?_);intro found ku F H Hm E X Hn Aa;replace jz:=E.xb jz;refine Jp (K:=K) (c:=cI) ?_ X Hm (fun F1 found σ' F' H'=>∃ (ku:Addr) (w1_:Option V) (w2_:Option V) (w3_:Option V) (w4_:Option V),σ'=[some (.int many),some xf,some (.ref ku),w1_,w2_,w3_,w4_]/\(Ext Fe H0 F' H'/\Same F1 F')/\Own K H0 F' H' cI found ku) ?_ ?_ ?_ ?_
  ·exact(qN (jau (i:=0) rfl) rfl)
  ·intro F H E X;replace Aa:=Aa.mono E;exact⟨_,_,_,_,_,rfl,⟨X,(Same.refl _)⟩,Aa⟩
  ·rintro F1 found σ_ F_ H_ ⟨ku,w1_,w2_,w3_,w4_,rfl,⟨X_,SF_⟩,Aa⟩;exact⟨X_,SF_⟩
  ·rintro F1 S0_ found B_ thing qU σ_ F_ H_ F H ⟨ku,w1_,w2_,w3_,w4_,rfl,⟨X,SF_⟩,Aa⟩ E qV Hm
   try dsimp only at Hm
   have SL0:=SF_;replace SF_:=Same.trans S0_ SF_;replace jz:=Bor.mono jz SF_;replace X:=Ext.trans X E;replace jz:=E.xb jz;replace Aa:=Aa.mono E;replace SL0:=E.xd SL0;obtain rfl:qU=.int thing:=qV;refine x9 ?_;refine(qb (K:=K) (jm _) X Hm ?_);intro bits F H Hm E X;replace jz:=E.xb jz;replace Aa:=Aa.mono E;replace SL0:=E.xd SL0;refine jaT (K:=K) (c:=(cP cI cI)) ?_ X Hm (fun F1 bits σ' F' H'=>∃ (w5_:Option V) (w6_:Option V),σ'=[some (.int many),some xf,some (.ref ku),some (.int thing),some (.int bits),w5_,w6_]/\(Ext Fe H0 F' H'/\Same F1 F')/\Own K H0 F' H' cI found ku) ?_ ?_ ?_ ?_
   ·exact(jes (i:=1) rfl jz)
   ·intro F H E X;replace Aa:=Aa.mono E;exact⟨_,_,rfl,⟨X,(Same.refl _)⟩,Aa⟩
   ·rintro F1 bits σ_ F_ H_ ⟨w5_,w6_,rfl,⟨X_,SF_⟩,Aa⟩;exact⟨X_,SF_⟩
   ·rintro F1 S0_ bits B_ ⟨low,high⟩ Bg σ_ F_ H_ F H ⟨w5_,w6_,rfl,⟨X,SF_⟩,Aa⟩ E Bc Hm
    try dsimp only at Hm
    have SL1:=SF_;replace SF_:=Same.trans S0_ SF_;replace X:=Ext.trans X E;replace Aa:=Aa.mono E;replace SL1:=E.xd SL1;refine jcg Bc X.sub fun Y6 GT Y7 GU=>?_;obtain rfl:Y6=.int low:=Y7;obtain rfl:GT=.int high:=GU;refine(jaO (K:=K) (fun bits σ' H'=>∃ F':Hp,σ'=[some (.int many),some xf,some (.ref ku),some (.int thing),some (.int bits),some (.int low),some (.int high)]/\(Ext Fe H0 F' H'/\Same F F')/\Own K H0 F' H' cI found ku) (kY (je Uj (eI (i:=6)) (eI (i:=3)) rfl)) X Hm ?_ ?_ ?_)
    ·intro B_ F H Hm E X;replace Aa:=Aa.mono E;have SJ2:=E.f;refine(zR (K:=K) (ju kE (ju kE (eI (i:=4)) (je zm (jQ (jV (p:=pB cI) (i:=2) rfl Aa.b)) (eI (i:=5)) rfl) rfl) (je W2 (jm _) (eI (i:=5)) rfl) rfl) X Hm ?_);intro bits F H Hm E X;replace Aa:=Aa.mono E;replace SJ2:=E.xd SJ2;cases Hm;exact⟨F,rfl,⟨X,SJ2⟩,Aa⟩
    ·intro B_ F H Hm E X;replace Aa:=Aa.mono E;have SJ2:=E.f;refine G0 ?_;cases Hm;exact⟨F,rfl,⟨X,SJ2⟩,Aa⟩
    ·rintro bits σ_ H Hm ⟨F,rfl,⟨X,SF_⟩,Aa⟩
     try dsimp only at Hm
     replace SL1:=Same.trans SL1 SF_;cases Hm;exact⟨F,_,_,rfl,⟨X,SL1⟩,Aa⟩
   ·rintro F1 S0_ bits σ_ F H Hm ⟨w5_,w6_,rfl,⟨X,SF_⟩,Aa⟩
    try dsimp only at Hm
    replace SF_:=Same.trans S0_ SF_;replace SL0:=Same.trans SL0 SF_;refine(QD (K:=K) (k':=2) rfl Aa (eI (i:=4)) X Hm ?_);intro found F H Hm Cg X Aa;replace SL0:=Same.trans SL0 Cg.f;cases Hm;exact⟨F,_,_,_,_,_,rfl,⟨X,SL0⟩,Aa⟩
  ·rintro F1 S0_ found σ_ F H Hm ⟨ku,w1_,w2_,w3_,w4_,rfl,⟨X,SF_⟩,Aa⟩
   try dsimp only at Hm
   exact jw (K:=K) (jh ZE (jQ (jV (p:=pB cI) (i:=2) rfl Aa.b)) rfl) X Hm Kk
def jlm (Fn:Fun K "has" "has" (top 17) f fd):FnOk P w K mg base CX0 1 f fd ["bits","thing"] (sp2 K (pF cI) (pF cI) (rF cB) Uv):=by
  refine(ok2 (N:=["bits","thing"]) Fn fun cdv A outer s H0 Q E_ hr nd hu bits thing xN qU Fe R X xO qV Hm Kk=>?_);refine⟨_,(jf (js (Js GF (jI jdZ (jI jhL (pv 0) (pv 1)) jl) jl (jT _)))),?_⟩
  try dsimp only[jN]
  unfold Uv at Hm;obtain rfl:xN=.int bits:=xO;obtain rfl:qU=.int thing:=qV;exact jw (K:=K) (ju Uj (ju kE (je jkq (eI (i:=0)) (eI (i:=1)) rfl) (jm _) rfl) (jm _) rfl) X Hm Kk
def jbv (Fn:Fun K "is_cover" "is_cover" (top 19) f fd):FnOk P w K mg base CX0 2 f fd ["beneath","low","high"] (sp3 K (pF (cT cI)) (pF cI) (pF cI) (rF cB) GM):=by
  refine(ok3 (N:=["beneath","low","high"]) Fn fun cdv A outer s H0 Q E_ hr nd hu beneath low high Gc Y6 GT Fe R X jA Y7 GU Hm Kk=>?_);refine⟨_,(jc (xn (Jj (GC (pD_ Y2 hr (jb (pX zH (pv 0) (pv 2)) (jb (pv 1) jd))))) (jf (js QR)) j2) (jf (js (jhI (kB (jgu rfl) B.any_ (kW (own:=["mid"]) (ix:=[0,1,2]) (qu rfl) rfl (Zm rfl B.range_ (jb (jI yu (pv 1) jl) (jb (pv 2) jd))) (fun _=>(kq (i:=0) (show List.Nodup (["mid","beneath","low","high"]:List Str) by decide +kernel) rfl (Or.inl rfl))) (fun _=>qY) (fun _=>(jbV (pD_ Y2 hr (jb (pX zH (pv 1) (pv 3)) (jb (pv 0) jd))) (jbU (pD_ Y2 hr (jb (pX zH (pv 1) (pv 0)) (jb (pv 2) jd)))))))))))),?_⟩
  try dsimp only[jN]
  unfold GM at Hm;replace jA:(cT cI).rep K Fe beneath Gc:=jA;obtain rfl:Y6=.int low:=Y7;obtain rfl:GT=.int high:=GU;refine(jgE (K:=K) (Qb (zI (jU (je U0 (eV (i:=0) jA) (eI (i:=2)) rfl) (eI (i:=1)) rfl)) rfl) X Hm ?_ ?_)
  ·intro F H Hm E X
   try dsimp only[we] at Hm
   exact jw (K:=K) (QX _) X Hm Kk
  ·intro F H Hm E X
   try dsimp only[X9] at Hm
   replace jA:=E.xc jA;refine G0 ?_;exact jw (K:=K) (jcl (kF jlU (jQ (kA (qg (jaX (je kE (eI (i:=1)) (jm _) rfl) (eI (i:=2)) rfl) [some Gc,some (.int low),some (.int high)] rfl (fun b5 mid _ _ E4=>ym) (fun b5 mid _ _ E4=>(jcm (jU (je U0 (eV (i:=1) (Cd.mono _ (E4).f jA)) (eI (i:=3)) rfl) (eI (i:=0)) rfl) (jU (je U0 (eV (i:=1) (Cd.mono _ (E4).f jA)) (eI (i:=0)) rfl) (eI (i:=2)) rfl) rfl)) rfl))) rfl) rfl) X Hm Kk
def We (Fn:Fun K "cover_pairs" "cover_pairs" (top 20) f fd):FnOk P w K mg base CX0 3 f fd ["beneath"] (sp1 K (pF (cT cI)) (rF (cT (cP cI cI))) yG):=by
  refine(ok1 (N:=["beneath","found","low","high"]) Fn fun cdv A outer s H0 Q E_ hr nd hu beneath Gc Fe R X jA Hm Kk=>?_);refine⟨_,(jc (pS (i:=1) nd (xB jd)) (jc (xu PassesOwn.never rfl (kz rfl B.range_ (jb (kB jt B.len_ (pv 0)) jd)) (pG (i:=2) nd) (jf (xu PassesOwn.never rfl (Zm rfl B.range_ (jb (jI yu (pv 2) jl) (jb (kB jt B.len_ (pv 0)) jd))) (pG (i:=3) nd) (jf (ZD (xn (GC (pD_ UB hr (jb (pv 0) (jb (pv 2) (jb (pv 3) jd))))) (jf (k7 (zQ Xw XU XT yx (pv 1) (jb (Ge (jb (pv 2) (jb (pv 3) jd))) jd)))) j2)))))) (jf (js (cY yw B.tuple_ (pv 1)))))),?_⟩
  try dsimp only[jN]
  unfold yG at Hm;replace jA:(cT cI).rep K Fe beneath Gc:=jA;refine(Jw (K:=K) (xD (xC (c:=(cP cI cI))) (by decide)) X Hm ?_);intro found ku F H Hm E X Hn Aa;replace jA:=E.xc jA;refine Jp (K:=K) (c:=cI) ?_ X Hm (fun F1 found σ' F' H'=>∃ (ku:Addr) (w1_:Option V) (w2_:Option V),σ'=[some Gc,some (.ref ku),w1_,w2_]/\(Ext Fe H0 F' H'/\Same F1 F')/\Own K H0 F' H' (cP cI cI) found ku) ?_ ?_ ?_ ?_
  ·exact(qN (jh jb9 (jV (p:=pF (cT cI)) (i:=0) rfl jA) rfl) rfl)
  ·intro F H E X;replace Aa:=Aa.mono E;exact⟨_,_,_,rfl,⟨X,(Same.refl _)⟩,Aa⟩
  ·rintro F1 found σ_ F_ H_ ⟨ku,w1_,w2_,rfl,⟨X_,SF_⟩,Aa⟩;exact⟨X_,SF_⟩
  ·rintro F1 S0_ found B_ low Y6 σ_ F_ H_ F H ⟨ku,w1_,w2_,rfl,⟨X,SF_⟩,Aa⟩ E Y7 Hm
   try dsimp only at Hm
   have SL0:=SF_;replace SF_:=Same.trans S0_ SF_;replace jA:=Cd.mono _ SF_ jA;replace X:=Ext.trans X E;replace jA:=E.xc jA;replace Aa:=Aa.mono E;replace SL0:=E.xd SL0;obtain rfl:Y6=.int low:=Y7;refine x9 ?_;refine ZF (K:=K) (c:=cI) ?_ X Hm (fun F1 found σ' F' H'=>∃ (ku:Addr) (w3_:Option V),σ'=[some Gc,some (.ref ku),some (.int low),w3_]/\(Ext Fe H0 F' H'/\Same F1 F')/\Own K H0 F' H' (cP cI cI) found ku) ?_ ?_ ?_ ?_
   ·exact(jaW (je kE (jau (i:=2) rfl) (jm _) rfl) (jh jb9 (jV (p:=pF (cT cI)) (i:=0) rfl jA) rfl) rfl)
   ·intro F H E X;replace Aa:=Aa.mono E;exact⟨_,_,rfl,⟨X,(Same.refl _)⟩,Aa⟩
   ·rintro F1 found σ_ F_ H_ ⟨ku,w3_,rfl,⟨X_,SF_⟩,Aa⟩;exact⟨X_,SF_⟩
   ·rintro F1 S0_ found B_ high GT σ_ F_ H_ F H ⟨ku,w3_,rfl,⟨X,SF_⟩,Aa⟩ E GU Hm
    try dsimp only at Hm
    have SL1:=SF_;replace SF_:=Same.trans S0_ SF_;replace jA:=Cd.mono _ SF_ jA;replace X:=Ext.trans X E;replace jA:=E.xc jA;replace Aa:=Aa.mono E;replace SL1:=E.xd SL1;obtain rfl:GT=.int high:=GU;refine x9 ?_;refine(jhZ (K:=K) (fun found σ' H'=>∃ F':Hp,∃ (ku:Addr) ,σ'=[some Gc,some (.ref ku),some (.int low),some (.int high)]/\(Ext Fe H0 F' H'/\Same F F')/\Own K H0 F' H' (cP cI cI) found ku) (zI (JB (eV (i:=0) jA) (eI (i:=2)) (eI (i:=3)) rfl)) X Hm ?_ ?_ ?_)
    ·intro B_ F H Hm E X;replace Aa:=Aa.mono E;have SJ2:=E.f;refine(QD (K:=K) (k':=1) rfl Aa (qL (eI (i:=2)) (eI (i:=3)) rfl) X Hm ?_);intro found F H Hm Cg X Aa;replace SJ2:=Same.trans SJ2 Cg.f;cases Hm;exact⟨F,_,rfl,⟨X,SJ2⟩,Aa⟩
    ·intro B_ F H Hm E X;replace Aa:=Aa.mono E;have SJ2:=E.f;refine G0 ?_;cases Hm;exact⟨F,_,rfl,⟨X,SJ2⟩,Aa⟩
    ·rintro found σ_ H Hm ⟨F,ku,rfl,⟨X,SF_⟩,Aa⟩
     try dsimp only at Hm
     replace SL1:=Same.trans SL1 SF_;cases Hm;exact⟨F,_,_,rfl,⟨X,SL1⟩,Aa⟩
   ·rintro F1 S0_ found σ_ F H Hm ⟨ku,w3_,rfl,⟨X,SF_⟩,Aa⟩
    try dsimp only at Hm
    replace SF_:=Same.trans S0_ SF_;replace SL0:=Same.trans SL0 SF_;cases Hm;exact⟨F,_,_,_,rfl,⟨X,SL0⟩,Aa⟩
  ·rintro F1 S0_ found σ_ F H Hm ⟨ku,w1_,w2_,rfl,⟨X,SF_⟩,Aa⟩
   try dsimp only at Hm
   exact jw (K:=K) (jh ZE (jQ (jV (p:=pB (cP cI cI)) (i:=1) rfl Aa.b)) rfl) X Hm Kk
section
variable {f:Addr} 
def Ax:FnScope ["self","many","pairs"] ["self","many","pairs"] (jD ((jC (top 21) 0))):=scK
def YD (Fn:Fun K "__init__" "Order.__init__" ((jC (top 21) 0)) f fd):FnOk P w K mg base CX0 4 f fd ["self","many","pairs"] (jjW K C_Order (pF cI) (pB (cP cI cI)) (ji C_Order) yp):=by
 refine Fn.ok Ax (fun vs H Q E h=>?_) (fun cdv A outer s Hq vs Q E_ hr h=>?_)
 ·obtain⟨_,_,_,_,_,_,_,_,_,rfl,_⟩:=h;rfl
 ·obtain⟨many,pairs,Ua,xf,Fe,H0,x_self,dx_self,R,rfl,rfl,n1_,n2_,n3_,S_,Qy,jJ,Hm,Kk⟩:=h;have nd:=Ax.nd;have hu:=Qp hr;refine⟨_,(jc (k7 (pD_ Jb hr (jb (pv 1) (jb (pv 2) jd)))) (jc (zl (pv 0) (pv 1) rfl) (jc (zl (pv 0) (pD_ JT hr (jb (pv 1) (jb (pv 2) jd))) rfl) (jf (zl (pv 0) (pD_ Jc hr (jb (jY (pv 0) rfl) jd)) rfl))))),?_⟩
  try dsimp only[jN]
  obtain⟨X,jW⟩:=yn (C:=C_Order) S_ n1_ n2_ n3_;unfold yp at Hm;obtain rfl:Ua=.int many:=Qy;have jz:Bor K H0 Fe (cP cI cI) pairs xf:=jJ;clear jJ;refine(Jx (K:=K) (jo (eI (i:=1)) (jV (p:=pB (cP cI cI)) (i:=2) rfl (Bor.b jz X)) rfl) X Hm ?_);intro _ F H Hm E X;replace jz:=E.xb jz;replace jW:=OwnI.mono jW E;refine(ja0 (K:=K) (k':=0) (c:=cI) rfl jW Af.cl Af.n_many (XH (Xe 0) (by decide:0<1000)) (eI (i:=1)) X Hm ?_);intro f_many jbL F H Hm Cg X jbM jW;replace jz:=Bor.mono jz Cg.f;obtain rfl:jbL=.int f_many:=jbM;refine(ja0 (K:=K) (k':=0) (c:=(cT cI)) rfl jW Af.cl Af.n_beneath (XH (Gv (Xe 0)) (by decide:1<1000)) (jo (eI (i:=1)) (jV (p:=pB (cP cI cI)) (i:=2) rfl (Bor.b jz X)) rfl) X Hm ?_);intro f_beneath jga F H Hm Cg X zk jW;refine(UP (K:=K) (k':=0) (c:=(cT (cP cI cI))) rfl jW Af.cl Af.n_neighbours (XH (Gv (Gv (Xe 0))) (by decide:2<1000)) (jx (jaZ (p:=pF (cT cI)) (k:=0) rfl jW Af.cl Af.n_beneath (by rw[jj,if_pos rfl]) zk) rfl) X Hm ?_);intro f_neighbours jdJ F H Hm Cg X UG jW;replace zk:=Cd.mono _ Cg.f zk;cases Hm;obtain⟨F',X',Cg,hx⟩:=OwnI.freeze jW X;exact Kk F' H X' ⟨x_self,dx_self,_,_,_,rfl,hx,rfl,Cd.mono _ Cg.f zk,Cd.mono _ Cg.f UG⟩
def YE (Fn:Fun K "size" "Order.size" ((jC (top 21) 1)) f fd):FnOk P w K mg base CX0 1 f fd ["self"] (sp1 K (pF (ji C_Order)) (rF cI) jP):=by
  refine(ok1 (N:=["self"]) Fn fun cdv A outer s H0 Q E_ hr nd hu self xz Fe R X jq Hm Kk=>?_);refine⟨_,(jf (js (jY (pv 0) rfl))),?_⟩
  try dsimp only[jN]
  unfold jP at Hm;replace jq:(ji C_Order).rep K Fe self xz:=jq;exact jw (K:=K) (jp (Qw Af) (eV (i:=0) jq) rfl) X Hm Kk
def Z8 (Fn:Fun K "things_of" "things_of" (top 23) f fd):FnOk P w K mg base CX0 2 f fd ["bits"] (sp1 K (pF cI) (rO cI) kC):=by
  refine(ok1 (N:=["bits"]) Fn fun cdv A outer s H0 Q E_ hr nd hu bits xN Fe R X xO Hm Kk=>?_);refine⟨_,(jf (js (kW (own:=["thing"]) (ix:=[0]) (qu rfl) rfl (kz rfl B.range_ (jb (jhP PySem.F.plainAttrs_int PySem.F.slot_int_bit_length PySem.F.type_int_bit_length jej (pv 0)) jd)) (fun _=>(kq (i:=0) (show List.Nodup (["thing","bits"]:List Str) by decide +kernel) rfl (Or.inl rfl))) (fun _=>Gs (GC (pD_ Y2 hr (jb (pv 1) (jb (pv 0) jd))))) (fun _=>(pv 0))))),?_⟩
  try dsimp only[jN]
  unfold kC at Hm;obtain rfl:xN=.int bits:=xO;exact jw (K:=K) (qg (zS (Ya (eI (i:=0)) rfl) rfl) [some (.int bits)] rfl (fun b2 thing _ _ E1=>(zI (jo (eI (i:=1)) (eI (i:=0)) rfl))) (fun b2 thing _ _ E1=>(eI (i:=0))) rfl) X Hm Kk
def Z9 (Fn:Fun K "holds_all" "holds_all" (top 25) f fd):FnOk P w K mg base CX0 1 f fd ["bits","others"] (sp2 K (pF cI) (pF cI) (rF cB) qO):=by
  refine(ok2 (N:=["bits","others"]) Fn fun cdv A outer s H0 Q E_ hr nd hu bits others xN jhD Fe R X xO jhE Hm Kk=>?_);refine⟨_,(jf (js (Js GF (jI jdZ (pv 0) (pv 1)) (pv 1) (jT _)))),?_⟩
  try dsimp only[jN]
  unfold qO at Hm;obtain rfl:xN=.int bits:=xO;obtain rfl:jhD=.int others:=jhE;exact jw (K:=K) (je Uj (je kE (eI (i:=0)) (eI (i:=1)) rfl) (eI (i:=1)) rfl) X Hm Kk
def YF (Fn:Fun K "is_downset" "is_downset" (top 26) f fd):FnOk P w K mg base CX0 3 f fd ["order","bits"] (sp2 K (pF (ji C_Order)) (pF cI) (rF cB) xk):=by
  refine(ok2 (N:=["order","bits"]) Fn fun cdv A outer s H0 Q E_ hr nd hu order bits jv xN Fe R X ja xO Hm Kk=>?_);refine⟨_,(jc (xn (PW.pt (V8 (jM V_ (pv 1) jl (jT _)) (UL (jM Wa (jI jhL (pv 1) (yy jO (hr.mono (by decide)) (pv 0))) jl (jT _))))) (jf (js QR)) j2) (jf (js (kB (jb7 rfl) B.all_ (kW (own:=["thing"]) (ix:=[0,1]) (qu rfl) rfl (qw (pD_ kP hr (jb (pv 1) jd))) (fun _=>(kq (i:=0) (show List.Nodup (["thing","order","bits"]:List Str) by decide +kernel) rfl (Or.inl rfl))) (fun _=>qY) (fun _=>(pD_ yi hr (jb (pv 2) (jb (pX zH (jY (pv 1) rfl) (pv 0)) jd))))))))),?_⟩
  try dsimp only[jN]
  unfold xk at Hm;replace ja:(ji C_Order).rep K Fe order jv:=ja;obtain rfl:xN=.int bits:=xO;refine(jgE (K:=K) (Vs (kY (je yX (eI (i:=1)) (jm _) rfl)) (kY (ju yX (ju jkq (eI (i:=1)) (kM kH (eV (i:=0) ja) rfl) rfl) (jm _) rfl)) rfl) X Hm ?_ ?_)
  ·intro F H Hm E X
   try dsimp only[we] at Hm
   exact jw (K:=K) (QX _) X Hm Kk
  ·intro F H Hm E X
   try dsimp only[X9] at Hm
   replace ja:=E.xc ja;refine G0 ?_;exact jw (K:=K) (kF jkC (jQ (kA (qg (yA (jQ (kA (jx (eI (i:=1)) rfl)))) [some jv,some (.int bits)] rfl (fun b6 thing _ _ E5=>ym) (fun b6 thing _ _ E5=>(jU (eI (i:=2)) (je U0 (jp (q_ Af) (eV (i:=1) (Cd.mono _ (E5).f ja)) rfl) (eI (i:=0)) rfl) rfl)) rfl))) rfl) X Hm Kk
def jbw (Fn:Fun K "downsets" "downsets" (top 31) f fd):FnOk P w K mg base CX0 4 f fd ["order"] (sp1 K (pF (ji C_Order)) (rO cI) kL):=by
  refine(ok1 (N:=["order"]) Fn fun cdv A outer s H0 Q E_ hr nd hu order jv Fe R X ja Hm Kk=>?_);refine⟨_,(jf (js (kW (own:=["bits"]) (ix:=[0]) (qu rfl) rfl (kz rfl B.range_ (jb (jI QU jl (yy jO (hr.mono (by decide)) (pv 0))) jd)) (fun _=>(kq (i:=0) (show List.Nodup (["bits","order"]:List Str) by decide +kernel) rfl (Or.inl rfl))) (fun _=>Gs (GC (pD_ zx hr (jb (pv 1) (jb (pv 0) jd))))) (fun _=>(pv 0))))),?_⟩
  try dsimp only[jN]
  unfold kL at Hm;replace ja:(ji C_Order).rep K Fe order jv:=ja;exact jw (K:=K) (qg (Jz (ju W2 (jm _) (kM kH (eV (i:=0) ja) rfl) rfl) rfl) [some jv] rfl (fun b5 bits _ _ E4=>(zI (jo (eV (i:=1) (Cd.mono _ (E4).f ja)) (eI (i:=0)) rfl))) (fun b5 bits _ _ E4=>(eI (i:=0))) rfl) X Hm Kk
def jdx (Fn:Fun K "is_door" "is_door" (top 29) f fd):FnOk P w K mg base CX0 2 f fd ["order","bits","thing"] (sp3 K (pF (ji C_Order)) (pF cI) (pF cI) (rF cB) yH):=by
  refine(ok3 (N:=["order","bits","thing"]) Fn fun cdv A outer s H0 Q E_ hr nd hu order bits thing jv xN qU Fe R X ja xO qV Hm Kk=>?_);refine⟨_,(jf (js (jbV (jhI (pD_ Y2 hr (jb (pv 1) (jb (pv 2) jd)))) (jbU (pD_ yi hr (jb (pv 1) (jb (pX zH (jY (pv 0) rfl) (pv 2)) jd))))))),?_⟩
  try dsimp only[jN]
  unfold yH at Hm;replace ja:(ji C_Order).rep K Fe order jv:=ja;obtain rfl:xN=.int bits:=xO;obtain rfl:qU=.int thing:=qV;exact jw (K:=K) (jcm (jcl (jo (eI (i:=1)) (eI (i:=2)) rfl) rfl) (jU (eI (i:=1)) (je U0 (jp (q_ Af) (eV (i:=0) ja) rfl) (eI (i:=2)) rfl) rfl) rfl) X Hm Kk
def Wf (Fn:Fun K "things_next" "things_next" (top 42) f fd):FnOk P w K mg base CX0 3 f fd ["order","ahead"] (sp2 K (pF (ji C_Order)) (pF cI) (rO cI) kI):=by
  refine(ok2 (N:=["order","ahead"]) Fn fun cdv A outer s H0 Q E_ hr nd hu order ahead jv VZ Fe R X ja V0 Hm Kk=>?_);refine⟨_,(jf (js (kW (own:=["thing"]) (ix:=[0,1]) (qu rfl) rfl (kz rfl B.range_ (jb (yy jO (hr.mono (by decide)) (pv 0)) jd)) (fun _=>(kq (i:=0) (show List.Nodup (["thing","order","ahead"]:List Str) by decide +kernel) rfl (Or.inl rfl))) (fun _=>Gs (GC (pD_ JU hr (jb (pv 1) (jb (pv 2) (jb (pv 0) jd)))))) (fun _=>(pv 0))))),?_⟩
  try dsimp only[jN]
  unfold kI at Hm;replace ja:(ji C_Order).rep K Fe order jv:=ja;obtain rfl:VZ=.int ahead:=V0;exact jw (K:=K) (qg (Jz (kM kH (eV (i:=0) ja) rfl) rfl) [some jv,some (.int ahead)] rfl (fun b3 thing _ _ E2=>(zI (JB (eV (i:=1) (Cd.mono _ (E2).f ja)) (eI (i:=2)) (eI (i:=0)) rfl))) (fun b3 thing _ _ E2=>(eI (i:=0))) rfl) X Hm Kk
def jdy (Fn:Fun K "ways_on" "ways_on" (top 43) f fd):FnOk P w K mg base CX0 5 f fd ["order"] (sp1 K (pF (ji C_Order)) (rD (κ:=Int) cI) xa):=by
  refine(ok1 (N:=["order","ways","ahead","grown"]) Fn fun cdv A outer s H0 Q E_ hr nd hu order jv Fe R X ja Hm Kk=>?_);refine⟨_,(jc (pS (i:=1) nd jg1) (jc (xu PassesOwn.never rfl (jkS rfl B.reversed_ (pD_ xY hr (jb (pv 0) jd))) (pG (i:=2) nd) (jc (J_ (i:=3) (own:=["thing"]) (ix:=[2]) (qu rfl) rfl (qw (pD_ xq hr (jb (pv 0) (jb (pv 2) jd)))) (fun _=>(kq (i:=0) (show List.Nodup (["thing","ahead"]:List Str) by decide +kernel) rfl (Or.inl rfl))) (fun _=>qY) (fun _=>(jI Vd (pv 1) (jI QU jl (pv 0)))) nd rfl rfl) (jf (jfe (hu1 hu) (pv 1) (pv 2) (QS (jM Wa (kB jt B.len_ (pv 3)) jl (jT _)) (kB (QW rfl) B.sum_ (kW (own:=["bits"]) (ix:=[1]) (qu rfl) rfl (qw (pv 3)) (fun _=>(kq (i:=0) (show List.Nodup (["bits","ways"]:List Str) by decide +kernel) rfl (Or.inl rfl))) (fun _=>qY) (fun _=>(Up (hu1 hu) (pv 1) (pv 0) (fun _ _=>rfl))))) jl) rfl)))) (jf (js (pv 1))))),?_⟩
  try dsimp only[jN]
  unfold xa at Hm;replace ja:(ji C_Order).rep K Fe order jv:=ja;refine(jib (K:=K) (ji_ (κ:=Int) (c:=cI)) X Hm ?_);intro ways GV F H Hm E X Hn Ad;replace ja:=E.xc ja;refine Jp (K:=K) (c:=cI) ?_ X Hm (fun F1 ways σ' F' H'=>∃ (GV:Addr) (w2_:Option V) (w3_:Option V),σ'=[some jv,some (.ref GV),w2_,w3_]/\(Ext Fe H0 F' H'/\Same F1 F')/\OwnD K H0 F' H' cI ways GV) ?_ ?_ ?_ ?_
  ·exact(jg6 (qZ (jx (jV (p:=pF (ji C_Order)) (i:=0) rfl ja) rfl)) rfl)
  ·intro F H E X;replace Ad:=Ad.mono E;exact⟨_,_,_,rfl,⟨X,(Same.refl _)⟩,Ad⟩
  ·rintro F1 ways σ_ F_ H_ ⟨GV,w2_,w3_,rfl,⟨X_,SF_⟩,Ad⟩;exact⟨X_,SF_⟩
  ·rintro F1 S0_ ways B_ ahead VZ σ_ F_ H_ F H ⟨GV,w2_,w3_,rfl,⟨X,SF_⟩,Ad⟩ E V0 Hm
   try dsimp only at Hm
   have SL0:=SF_;replace SF_:=Same.trans S0_ SF_;replace ja:=Cd.mono _ SF_ ja;replace X:=Ext.trans X E;replace ja:=E.xc ja;replace Ad:=Ad.mono E;replace SL0:=E.xd SL0;obtain rfl:VZ=.int ahead:=V0;refine x9 ?_;refine(yB (K:=K) (c:=(cL cI)) (qZ (qg (yA (jQ (kA (jo (eV (i:=0) ja) (eI (i:=2)) rfl)))) [some (.int ahead)] rfl (fun b5 thing _ _ E4=>ym) (fun b5 thing _ _ E4=>(ju kE (eI (i:=1)) (je W2 (jm _) (eI (i:=0)) rfl) rfl)) rfl)) X Hm ?_);intro grown jjI F H Hm E X Gd;replace Ad:=Ad.mono E;replace SL0:=E.xd SL0;refine(jjb (K:=K) (k':=1) rfl Ad (Jy (kY (je yX (jh q8 (jQ (qf (eV (i:=3) Gd))) rfl) (jm _) rfl)) (kF jez (jQ (kA (xE (yA (jQ (qf (eV (i:=3) Gd)))) [some (.ref GV)] rfl (fun b10 bits _ _ E9=>ym) (fun b10 bits _ _ E9=>(Vu (jV (p:=pD (κ:=Int) cI) (i:=1) rfl (OwnD.mono Ad (E9)).b) (eI (i:=0)) rfl)) rfl))) rfl) (jm _) rfl) (eI (i:=2)) X Hm ?_);intro ways F H Hm Cg X Ad;replace SL0:=Same.trans SL0 Cg.f;cases Hm;exact⟨F,_,_,_,rfl,⟨X,SL0⟩,Ad⟩
  ·rintro F1 S0_ ways σ_ F H Hm ⟨GV,w2_,w3_,rfl,⟨X,SF_⟩,Ad⟩
   try dsimp only at Hm
   exact jjh (K:=K) (i:=1) rfl Ad X Hm Kk
def jdz (Fn:Fun K "line_at" "line_at" (top 46) f fd):FnOk P w K mg base CX0 6 f fd ["order","number"] (sp2 K (pF (ji C_Order)) (pF cI) (rF (cT cI)) zr):=by
  refine(ok2 (N:=["order","number","ways","row","ahead","left","choices"]) Fn fun cdv A outer s H0 Q E_ hr nd hu order number jv Y8 Fe R X ja Y9 Hm Kk=>?_);refine⟨_,(jc (pS (i:=2) nd (pD_ JV hr (jb (pv 0) jd))) (jc (xn (Jj (J8 UY V_ jl (pv 1) (Up (hu1 hu) (pv 2) jl (fun _ _=>rfl)))) (jf qz) j2) (jc (pS (i:=3) nd (xB jd)) (jc (pS (i:=4) nd jl) (jc (pS (i:=5) nd (pv 1)) (jc (GY PassesOwn.never (jM V_ (kB jt B.len_ (pv 3)) (yy jO (hr.mono (by decide)) (pv 0)) (jT _)) (jc (pS (i:=6) nd (pD_ xq hr (jb (pv 0) (jb (pv 4) jd)))) (jc (GY PassesOwn.never (jM jlL (pv 5) (Up (hu1 hu) (pv 2) (jI Vd (pv 4) (jI QU jl (pX kU (pv 6) jl))) (fun _ _=>rfl)) (jT _)) (jc (pS (i:=5) nd (jI UM (pv 5) (Up (hu1 hu) (pv 2) (jI Vd (pv 4) (jI QU jl (pX kU (pv 6) jl))) (fun _ _=>rfl)))) (jf (pS (i:=6) nd (zc Uh (pv 6) (Gr jl) Gq))))) (jc (k7 (zQ Xw XU XT yx (pv 3) (jb (pX kU (pv 6) jl) jd))) (jf (pS (i:=4) nd (jI Vd (pv 4) (jI QU jl (pX kU (pv 6) jl))))))))) (jf (js (cY yw B.tuple_ (pv 3)))))))))),?_⟩
  try dsimp only[jN]
  unfold zr at Hm;replace ja:(ji C_Order).rep K Fe order jv:=ja;obtain rfl:Y8=.int number:=Y9;refine(jib (K:=K) (jx (eV (i:=0) ja) rfl) X Hm ?_);intro ways GV F H Hm E X Hn Ad;replace ja:=E.xc ja;refine(jgE (K:=K) (Qb (kY (ZH (jm _) (eI (i:=1)) (Vu (jV (p:=pD (κ:=Int) cI) (i:=2) rfl Ad.b) (jm _) rfl) rfl)) rfl) X Hm ?_ ?_)
  ·intro F H Hm E X
   try dsimp only[we] at Hm
   cases Hm
  ·intro F H Hm E X
   try dsimp only[X9] at Hm
   replace ja:=E.xc ja;replace Ad:=Ad.mono E;refine G0 ?_;refine(Jw (K:=K) (xD (xC (c:=cI)) (by decide)) X Hm ?_);intro row Wn F H Hm E X Hn Ah;have xg:=OwnD.ne Ad Hn;have UH:=Ne.symm xg;replace ja:=E.xc ja;replace Ad:=Ad.mono E;refine(qb (K:=K) (jm _) X Hm ?_);intro ahead F H Hm E X;replace ja:=E.xc ja;replace Ad:=Ad.mono E;replace Ah:=Ah.mono E;refine(qb (K:=K) (eI (i:=1)) X Hm ?_);intro left F H Hm E X;replace ja:=E.xc ja;replace Ad:=Ad.mono E;replace Ah:=Ah.mono E;refine QF (K:=K) X Hm (fun F1 b σ' F' H'=>match b with | (row,ahead,left)=>∃ (Wn:Addr) (w3_:Option V),σ'=[some jv,some (.int number),some (.ref GV),some (.ref Wn),some (.int ahead),some (.int left),w3_]/\(Ext Fe H0 F' H'/\Same F1 F')/\OwnD K H0 F' H' cI ways GV/\Own K H0 F' H' cI row Wn/\GV≠Wn) ?_ ?_ ?_ ?_ ?_
   ·exact⟨_,_,rfl,⟨X,(Same.refl _)⟩,Ad,Ah,xg⟩
   ·rintro F1 ⟨row,ahead,left⟩ σ_ F_ H_ ⟨Wn,w3_,rfl,⟨X_,SF_⟩,Ad,Ah,xg⟩;exact⟨X_,SF_⟩
   ·rintro⟨row,ahead,left⟩ σ_ F H ⟨Wn,w3_,rfl,⟨X,SF_⟩,Ad,Ah,xg⟩;replace ja:=Cd.mono _ SF_ ja;have UH:=Ne.symm xg;exact(kY (ju yX (jh q8 (jQ (jV (p:=pB cI) (i:=3) rfl Ah.b)) rfl) (kM kH (jV (p:=pF (ji C_Order)) (i:=0) rfl ja) rfl) rfl))
   ·rintro⟨row,ahead,left⟩ B_ σ_ F_ H_ F H ⟨Wn,w3_,rfl,⟨X,SF_⟩,Ad,Ah,xg⟩ E Hm
    try dsimp only at Hm
    have SL0:=SF_;replace ja:=Cd.mono _ SF_ ja;have UH:=Ne.symm xg;replace X:=Ext.trans X E;replace ja:=E.xc ja;replace Ad:=Ad.mono E;replace Ah:=Ah.mono E;replace SL0:=E.xd SL0;refine(yB (K:=K) (c:=(cL cI)) (qZ (jo (eV (i:=0) ja) (eI (i:=4)) rfl)) X Hm ?_);intro choices zC F H Hm E X kx;replace Ad:=Ad.mono E;replace Ah:=Ah.mono E;replace SL0:=E.xd SL0;refine QF (K:=K) X Hm (fun F1 b σ' F' H'=>match b with | (left,choices)=>∃ (zC:V),σ'=[some jv,some (.int number),some (.ref GV),some (.ref Wn),some (.int ahead),some (.int left),some zC]/\(Ext Fe H0 F' H'/\Same F1 F')/\OwnD K H0 F' H' cI ways GV/\Own K H0 F' H' cI row Wn/\(cL cI).rep K F' choices zC) ?_ ?_ ?_ ?_ ?_
    ·exact⟨_,rfl,⟨X,(Same.refl _)⟩,Ad,Ah,kx⟩
    ·rintro F1 ⟨left,choices⟩ σ_ F_ H_ ⟨zC,rfl,⟨X_,SF_⟩,Ad,Ah,kx⟩;exact⟨X_,SF_⟩
    ·rintro⟨left,choices⟩ σ_ F H ⟨zC,rfl,⟨X,SF_⟩,Ad,Ah,kx⟩;exact(kY (ju yX (jau (i:=5) rfl) (Q3 (jV (p:=pD (κ:=Int) cI) (i:=2) rfl Ad.b) (ju kE (jau (i:=4) rfl) (ju W2 (jm _) (je zm (jQ (qf (jV (p:=pF (cL cI)) (i:=6) rfl kx))) (jm _) rfl) rfl) rfl) rfl) rfl))
    ·rintro⟨left,choices⟩ B_ σ_ F_ H_ F H ⟨zC,rfl,⟨X,SF_⟩,Ad,Ah,kx⟩ E Hm
     try dsimp only at Hm
     have SL1:=SF_;replace X:=Ext.trans X E;replace Ad:=Ad.mono E;replace Ah:=Ah.mono E;replace kx:=E.xc kx;replace SL1:=E.xd SL1;refine(qb (K:=K) (ju kE (eI (i:=5)) (Q3 (jV (p:=pD (κ:=Int) cI) (i:=2) rfl Ad.b) (ju kE (eI (i:=4)) (ju W2 (jm _) (je zm (jQ (qf (eV (i:=6) kx))) (jm _) rfl) rfl) rfl) rfl) rfl) X Hm ?_);intro left F H Hm E X;replace Ad:=Ad.mono E;replace Ah:=Ah.mono E;replace kx:=E.xc kx;replace SL1:=E.xd SL1;refine(Jv (K:=K) (c:=(cL cI)) (qZ (zP (jQ (qf (eV (i:=6) kx))) (qM (jm _) rfl) Gu rfl)) X Hm ?_);intro choices zC F H Hm E X kx;replace Ad:=Ad.mono E;replace Ah:=Ah.mono E;replace SL1:=E.xd SL1;cases Hm;exact⟨F,_,rfl,⟨X,SL1⟩,Ad,Ah,kx⟩
    ·rintro⟨left,choices⟩ σ_ F_ H_ F H ⟨zC,rfl,⟨X,SF_⟩,Ad,Ah,kx⟩ E Hm
     try dsimp only at Hm
     replace SL0:=Same.trans SL0 SF_;replace X:=Ext.trans X E;replace Ad:=Ad.mono E;replace Ah:=Ah.mono E;replace kx:=E.xc kx;replace SL0:=E.xd SL0;refine(jgF (K:=K) (i:=3) rfl Ah (je zm (jQ (qf (eV (i:=6) kx))) (jm _) rfl) X Hm ?_);intro row F H Hm Cg X Ah;replace Ad:=OwnD.chg Ad Cg xg;replace kx:=Cd.mono _ Cg.f kx;replace SL0:=Same.trans SL0 Cg.f;refine(zR (K:=K) (ju kE (eI (i:=4)) (ju W2 (jm _) (je zm (jQ (qf (eV (i:=6) kx))) (jm _) rfl) rfl) rfl) X Hm ?_);intro ahead F H Hm E X;replace Ad:=Ad.mono E;replace Ah:=Ah.mono E;replace SL0:=E.xd SL0;cases Hm;exact⟨F,_,_,rfl,⟨X,SL0⟩,Ad,Ah,xg⟩
   ·rintro⟨row,ahead,left⟩ σ_ F_ H_ F H ⟨Wn,w3_,rfl,⟨X,SF_⟩,Ad,Ah,xg⟩ E Hm
    try dsimp only at Hm
    have UH:=Ne.symm xg;replace X:=Ext.trans X E;replace Ah:=Ah.mono E;exact jw (K:=K) (jh ZE (jQ (jV (p:=pB cI) (i:=3) rfl Ah.b)) rfl) X Hm Kk
def VR (Fn:Fun K "covers" "Order.covers" ((jC (top 21) 4)) f fd):FnOk P w K mg base CX0 1 f fd ["self"] (sp1 K (pF (ji C_Order)) (rO (cP cI cI)) zf):=by
  refine(ok1 (N:=["self"]) Fn fun cdv A outer s H0 Q E_ hr nd hu self xz Fe R X jq Hm Kk=>?_);refine⟨_,(jf (js (cY Jt B.list_ (jY (pv 0) rfl)))),?_⟩
  try dsimp only[jN]
  unfold zf at Hm;replace jq:(ji C_Order).rep K Fe self xz:=jq;exact jw (K:=K) (jh jaM (jp (x6 Af) (eV (i:=0) jq) rfl) rfl) X Hm Kk
def YG (Fn:Fun K "order_text" "order_text" (top 66) f fd):FnOk P w K mg base CX0 2 f fd ["order"] (sp1 K (pF (ji C_Order)) (rF cS) xG):=by
  refine(ok1 (N:=["order","words","low","high"]) Fn fun cdv A outer s H0 Q E_ hr nd hu order jv Fe R X ja Hm Kk=>?_);refine⟨_,(jc (pS (i:=1) nd (xB (jb (cY jX B.str_ (yy jO (hr.mono (by decide)) (pv 0))) jd))) (jc (xu PassesOwn.never rfl (qw (yy Gy (hr.mono (by decide)) (pv 0))) (Qs rfl (kZ (pG (i:=2) nd) (kZ (pG (i:=3) nd) Gp))) (jf (k7 (zQ Xw XU XT yx (pv 1) (jb (jbd (WA (pv 2) (jfu (WA (pv 3) jft)))) jd))))) (jf (js (zQ Xz PySem.F.slot_str_join PySem.F.type_str_join Ur kg (jb (pv 1) jd)))))),?_⟩
  try dsimp only[jN]
  unfold xG at Hm;replace ja:(ji C_Order).rep K Fe order jv:=ja;refine(Jw (K:=K) (xD (GJ (kF zp (kM kH (eV (i:=0) ja) rfl) rfl) (xC (c:=cS)) rfl) (by decide)) X Hm ?_);intro words UI F H Hm E X Hn Am;replace ja:=E.xc ja;refine Jp (K:=K) (c:=(cP cI cI)) ?_ X Hm (fun F1 words σ' F' H'=>∃ (UI:Addr) (w4_:Option V) (w5_:Option V),σ'=[some jv,some (.ref UI),w4_,w5_]/\(Ext Fe H0 F' H'/\Same F1 F')/\Own K H0 F' H' cS words UI) ?_ ?_ ?_ ?_
  ·exact(Vp (qZ (kM VC (jV (p:=pF (ji C_Order)) (i:=0) rfl ja) rfl)))
  ·intro F H E X;replace Am:=Am.mono E;exact⟨_,_,_,rfl,⟨X,(Same.refl _)⟩,Am⟩
  ·rintro F1 words σ_ F_ H_ ⟨UI,w4_,w5_,rfl,⟨X_,SF_⟩,Am⟩;exact⟨X_,SF_⟩
  ·rintro F1 S0_ words B_ ⟨low,high⟩ Bh σ_ F_ H_ F H ⟨UI,w4_,w5_,rfl,⟨X,SF_⟩,Am⟩ E Be Hm
   try dsimp only at Hm
   have SL0:=SF_;replace X:=Ext.trans X E;replace Am:=Am.mono E;replace SL0:=E.xd SL0;refine jcg Be X.sub fun Y6 GT Y7 GU=>?_;obtain rfl:Y6=.int low:=Y7;obtain rfl:GT=.int high:=GU;refine(Ju (K:=K) (i:=1) rfl Am (jbe (WC (eI (i:=2)) (jfw (WC (eI (i:=3)) jfv))) rfl) X Hm ?_);intro words F H Hm Cg X Am;replace SL0:=Same.trans SL0 Cg.f;cases Hm;exact⟨F,_,_,_,rfl,⟨X,SL0⟩,Am⟩
  ·rintro F1 S0_ words σ_ F H Hm ⟨UI,w4_,w5_,rfl,⟨X,SF_⟩,Am⟩
   try dsimp only at Hm
   exact jw (K:=K) (Qe (kd _) (jQ (jV (p:=pB cS) (i:=1) rfl Am.b)) rfl) X Hm Kk
def A3:FnScope ["self","order","bits","line","answer"] ["self","order","bits","line","answer"] (jD ((jC (top 94) 0))):=scK
def Z_ (Fn:Fun K "__init__" "Spot.__init__" ((jC (top 94) 0)) f fd):FnOk P w K mg base CX0 1 f fd ["self","order","bits","line","answer"] (jlV K C_Spot (pF (ji C_Order)) (pF cI) (pF (cT cI)) (pF cS) (jE C_Order C_Spot) qP):=by
 refine Fn.ok A3 (fun vs H Q E h=>?_) (fun cdv A outer s Hq vs Q E_ hr h=>?_)
 ·obtain⟨_,_,_,_,_,_,_,_,_,_,_,_,_,rfl,_⟩:=h;rfl
 ·obtain⟨order,bits,line,answer,jv,xN,Qz,jhF,Fe,H0,x_self,dx_self,R,rfl,rfl,n1_,n2_,n3_,S_,ja,xO,j8,jhG,Hm,Kk⟩:=h;have nd:=A3.nd;have hu:=Qp hr;refine⟨_,(jc (zl (pv 0) (pv 1) rfl) (jc (zl (pv 0) (pv 2) rfl) (jc (zl (pv 0) (pv 3) rfl) (jf (zl (pv 0) (pv 4) rfl))))),?_⟩
  try dsimp only[jN]
  obtain⟨X,jW⟩:=yn (C:=C_Spot) S_ n1_ n2_ n3_;unfold qP at Hm;replace ja:(ji C_Order).rep K Fe order jv:=ja;obtain rfl:xN=.int bits:=xO;replace j8:(cT cI).rep K Fe line Qz:=j8;obtain rfl:jhF=.str answer:=jhG;refine(ja0 (K:=K) (k':=0) (c:=(ji C_Order)) rfl jW Ae.cl Ae.n_order (XH (Xe 0) (by decide:0<1000)) (eV (i:=1) ja) X Hm ?_);intro f_order Gk F H Hm Cg X ko jW;replace j8:=Cd.mono _ Cg.f j8;refine(ja0 (K:=K) (k':=0) (c:=cI) rfl jW Ae.cl Ae.n_bits (XH (Gv (Xe 0)) (by decide:1<1000)) (eI (i:=2)) X Hm ?_);intro f_bits jbN F H Hm Cg X jbO jW;replace j8:=Cd.mono _ Cg.f j8;replace ko:=Cd.mono _ Cg.f ko;obtain rfl:jbN=.int f_bits:=jbO;refine(ja0 (K:=K) (k':=0) (c:=(cT cI)) rfl jW Ae.cl Ae.n_line (XH (Gv (Gv (Xe 0))) (by decide:2<1000)) (eV (i:=3) j8) X Hm ?_);intro f_line jjJ F H Hm Cg X QQ jW;replace ko:=Cd.mono _ Cg.f ko;refine(UP (K:=K) (k':=0) (c:=cS) rfl jW Ae.cl Ae.n_answer (XH (Gv (Gv (Gv (Xe 0)))) (by decide:3<1000)) (Qa (i:=4) rfl) X Hm ?_);intro f_answer Y_ F H Hm Cg X Za jW;replace ko:=Cd.mono _ Cg.f ko;replace QQ:=Cd.mono _ Cg.f QQ;obtain rfl:Y_=.str f_answer:=Za;cases Hm;obtain⟨F',X',Cg,hx⟩:=OwnI.freeze jW X;exact Kk F' H X' ⟨x_self,dx_self,_,_,_,_,rfl,hx,Cd.mono _ Cg.f ko,rfl,Cd.mono _ Cg.f QQ,rfl⟩
def YH (Fn:Fun K "with_order" "with_order" (top 97) f fd):FnOk P w K mg base CX0 7 f fd ["order"] (sp1 K (pF (ji C_Order)) (rF (jE C_Order C_Spot)) qc):=by
  refine(ok1 (N:=["order"]) Fn fun cdv A outer s H0 Q E_ hr nd hu order jv Fe R X ja Hm Kk=>?_);refine⟨_,(jf (js (Jm yj (hr.mono (by decide)) rfl (jb (pv 0) (jb jl (jb (pD_ JW hr (jb (pv 0) (jb jl jd))) (jb (pD_ zy hr (jb (pv 0) jd)) jd))))))),?_⟩
  try dsimp only[jN]
  unfold qc at Hm;replace ja:(ji C_Order).rep K Fe order jv:=ja;exact jw (K:=K) (Um (eV (i:=0) ja) (jm _) (jo (eV (i:=0) ja) (jm _) rfl) (jx (eV (i:=0) ja) rfl) rfl) X Hm Kk
def A4:FnScope ["self"] ["self"] (jD ((jC (top 125) 0))):=scK
def jaa (Fn:Fun K "__init__" "Desk.__init__" ((jC (top 125) 0)) f fd):FnOk P w K mg base CX0 8 f fd ["self"] (jl4 K C_Desk (jE C_Order C_Spot) m_Desk_init):=by
 refine Fn.ok A4 (fun vs H Q E h=>?_) (fun cdv A outer s Hq vs Q E_ hr h=>?_)
 ·obtain⟨_,_,_,_,_,rfl,_⟩:=h;rfl
 ·obtain⟨Fe,H0,x_self,dx_self,R,rfl,rfl,n1_,n2_,n3_,S_,Hm,Kk⟩:=h;have nd:=A4.nd;have hu:=Qp hr;refine⟨_,(jc (zl (pv 0) (pD_ xL hr (jb (Jm zw (hr.mono (by decide)) rfl (jb jl (jb (xB jd) jd))) jd)) rfl) (jf (zl (pv 0) (xB jd) rfl))),?_⟩
  try dsimp only[jN]
  obtain⟨X,jW⟩:=yn (C:=C_Desk) S_ n1_ n2_ n3_;unfold m_Desk_init at Hm;refine(ja0 (K:=K) (k':=0) (c:=(jE C_Order C_Spot)) rfl jW Ai.cl Ai.n_spot (by decide:0<1000) (kK (JC (jm _) (kA (xD (xC (c:=(cP cI cI))) (by decide))) rfl) rfl) X Hm ?_);intro f_spot jjK F H Hm Cg X jbP jW;refine(jhm (K:=K) (i:=0) rfl jW jbP Ai.cl Ai.n_earlier (xD (xC (c:=(jE C_Order C_Spot))) (by decide)) X Hm ?_);intro f_earlier F H Hm X qW;cases Hm;exact Kk F H X qW
def QI (Fn:Fun K "_law_field_pairs" "_law_field_pairs" (top 128) f fd):FnOk P w K mg base CX0 1 f fd ["_law_a","_law_b"] (sp2 K (pF cI) (pF cI) (rO (cP cI cI)) yI):=by
  refine(ok2 (N:=["_law_a","_law_b","_law_pairs","_law_r","_law_c"]) Fn fun cdv A outer s H0 Q E_ hr nd hu a_ b_ V_a_ V_b_ Fe R X P_a_ P_b_ Hm Kk=>?_);refine⟨_,(jc (pS (i:=2) nd (xB jd)) (jc (xu PassesOwn.never rfl (kz rfl B.range_ (jb (pv 0) jd)) (pG (i:=3) nd) (jf (xu PassesOwn.never rfl (kz rfl B.range_ (jb (pv 1) jd)) (pG (i:=4) nd) (jc (ZD (xn (jM Wa (pv 4) jl (jT _)) (jf (k7 (zQ Xw XU XT yx (pv 2) (jb (Ge (jb (jI UM (jI yu (jI GE (pv 3) (pv 1)) (pv 4)) jl) (jb (jI yu (jI GE (pv 3) (pv 1)) (pv 4)) jd))) jd)))) j2)) (jf (ZD (xn (jM Wa (pv 3) jl (jT _)) (jf (k7 (zQ Xw XU XT yx (pv 2) (jb (Ge (jb (jI UM (jI yu (jI GE (pv 3) (pv 1)) (pv 4)) (pv 1)) (jb (jI yu (jI GE (pv 3) (pv 1)) (pv 4)) jd))) jd)))) j2))))))) (jf (js (pv 2))))),?_⟩
  try dsimp only[jN]
  unfold yI at Hm;obtain rfl:V_a_=.int a_:=P_a_;obtain rfl:V_b_=.int b_:=P_b_;refine(Jw (K:=K) (xD (xC (c:=(cP cI cI))) (by decide)) X Hm ?_);intro pairs kQ F H Hm E X Hn Ab;refine Jp (K:=K) (c:=cI) ?_ X Hm (fun F1 pairs σ' F' H'=>∃ (kQ:Addr) (w1_:Option V) (w2_:Option V),σ'=[some (.int a_),some (.int b_),some (.ref kQ),w1_,w2_]/\(Ext Fe H0 F' H'/\Same F1 F')/\Own K H0 F' H' (cP cI cI) pairs kQ) ?_ ?_ ?_ ?_
  ·exact(qN (jau (i:=0) rfl) rfl)
  ·intro F H E X;replace Ab:=Ab.mono E;exact⟨_,_,_,rfl,⟨X,(Same.refl _)⟩,Ab⟩
  ·rintro F1 pairs σ_ F_ H_ ⟨kQ,w1_,w2_,rfl,⟨X_,SF_⟩,Ab⟩;exact⟨X_,SF_⟩
  ·rintro F1 S0_ pairs B_ r_ V_r_ σ_ F_ H_ F H ⟨kQ,w1_,w2_,rfl,⟨X,SF_⟩,Ab⟩ E P_r_ Hm
   try dsimp only at Hm
   have SL0:=SF_;replace SF_:=Same.trans S0_ SF_;replace X:=Ext.trans X E;replace Ab:=Ab.mono E;replace SL0:=E.xd SL0;obtain rfl:V_r_=.int r_:=P_r_;refine x9 ?_;refine ZF (K:=K) (c:=cI) ?_ X Hm (fun F1 pairs σ' F' H'=>∃ (kQ:Addr) (w3_:Option V),σ'=[some (.int a_),some (.int b_),some (.ref kQ),some (.int r_),w3_]/\(Ext Fe H0 F' H'/\Same F1 F')/\Own K H0 F' H' (cP cI cI) pairs kQ) ?_ ?_ ?_ ?_
   ·exact(qN (jau (i:=1) rfl) rfl)
   ·intro F H E X;replace Ab:=Ab.mono E;exact⟨_,_,rfl,⟨X,(Same.refl _)⟩,Ab⟩
   ·rintro F1 pairs σ_ F_ H_ ⟨kQ,w3_,rfl,⟨X_,SF_⟩,Ab⟩;exact⟨X_,SF_⟩
   ·rintro F1 S0_ pairs B_ c_ V_c_ σ_ F_ H_ F H ⟨kQ,w3_,rfl,⟨X,SF_⟩,Ab⟩ E P_c_ Hm
    try dsimp only at Hm
    have SL1:=SF_;replace SF_:=Same.trans S0_ SF_;replace X:=Ext.trans X E;replace Ab:=Ab.mono E;replace SL1:=E.xd SL1;obtain rfl:V_c_=.int c_:=P_c_;refine x9 ?_;refine(jh2 (K:=K) (fun pairs σ' H'=>∃ F':Hp,∃ (kQ:Addr) ,σ'=[some (.int a_),some (.int b_),some (.ref kQ),some (.int r_),some (.int c_)]/\(Ext Fe H0 F' H'/\Same F F')/\Own K H0 F' H' (cP cI cI) pairs kQ) (kY (je yX (eI (i:=4)) (jm _) rfl)) X Hm ?_ ?_ ?_)
    ·intro B_ F H Hm E X;replace Ab:=Ab.mono E;have SJ2:=E.f;refine(Ju (K:=K) (i:=2) rfl Ab (QZ (ju kE (ju kE (je UZ (eI (i:=3)) (eI (i:=1)) rfl) (eI (i:=4)) rfl) (jm _) rfl) (ju kE (je UZ (eI (i:=3)) (eI (i:=1)) rfl) (eI (i:=4)) rfl) rfl) X Hm ?_);intro pairs F H Hm Cg X Ab;replace SJ2:=Same.trans SJ2 Cg.f;cases Hm;exact⟨F,_,rfl,⟨X,SJ2⟩,Ab⟩
    ·intro B_ F H Hm E X;replace Ab:=Ab.mono E;have SJ2:=E.f;refine G0 ?_;cases Hm;exact⟨F,_,rfl,⟨X,SJ2⟩,Ab⟩
    ·rintro pairs σ_ H Hm ⟨F,kQ,rfl,⟨X,SF_⟩,Ab⟩
     try dsimp only at Hm
     replace SL1:=Same.trans SL1 SF_;refine(jaO (K:=K) (fun pairs σ' H'=>∃ F':Hp,∃ (kQ:Addr) ,σ'=[some (.int a_),some (.int b_),some (.ref kQ),some (.int r_),some (.int c_)]/\(Ext Fe H0 F' H'/\Same F F')/\Own K H0 F' H' (cP cI cI) pairs kQ) (kY (je yX (eI (i:=3)) (jm _) rfl)) X Hm ?_ ?_ ?_)
     ·intro B_ F H Hm E X;replace Ab:=Ab.mono E;have SJ2:=E.f;refine(Ju (K:=K) (i:=2) rfl Ab (QZ (ju kE (ju kE (je UZ (eI (i:=3)) (eI (i:=1)) rfl) (eI (i:=4)) rfl) (eI (i:=1)) rfl) (ju kE (je UZ (eI (i:=3)) (eI (i:=1)) rfl) (eI (i:=4)) rfl) rfl) X Hm ?_);intro pairs F H Hm Cg X Ab;replace SJ2:=Same.trans SJ2 Cg.f;cases Hm;exact⟨F,_,rfl,⟨X,SJ2⟩,Ab⟩
     ·intro B_ F H Hm E X;replace Ab:=Ab.mono E;have SJ2:=E.f;refine G0 ?_;cases Hm;exact⟨F,_,rfl,⟨X,SJ2⟩,Ab⟩
     ·rintro pairs σ_ H Hm ⟨F,kQ,rfl,⟨X,SF_⟩,Ab⟩
      try dsimp only at Hm
      replace SL1:=Same.trans SL1 SF_;cases Hm;exact⟨F,_,_,rfl,⟨X,SL1⟩,Ab⟩
   ·rintro F1 S0_ pairs σ_ F H Hm ⟨kQ,w3_,rfl,⟨X,SF_⟩,Ab⟩
    try dsimp only at Hm
    replace SF_:=Same.trans S0_ SF_;replace SL0:=Same.trans SL0 SF_;cases Hm;exact⟨F,_,_,_,rfl,⟨X,SL0⟩,Ab⟩
  ·rintro F1 S0_ pairs σ_ F H Hm ⟨kQ,w1_,w2_,rfl,⟨X,SF_⟩,Ab⟩
   try dsimp only at Hm
   exact W6 (K:=K) (i:=2) rfl Ab X Hm Kk
def YI (Fn:Fun K "_law_shown" "_law_shown" (top 133) f fd):FnOk P w K mg base CX0 1 f fd ["_law_many","_law_pairs"] (sp2 K (pF cI) (pB (cP cI cI)) (rF cS) JL):=by
  refine(ok2 (N:=["_law_many","_law_pairs"]) Fn fun cdv A outer s H0 Q E_ hr nd hu many pairs Ua xf Fe R X Qy jJ Hm Kk=>?_);refine⟨_,(jf (js (zQ Xz PySem.F.slot_str_join PySem.F.type_str_join Ur kg (jb (jI Vi (xB (jb (cY jX B.str_ (pv 0)) jd)) (kW (own:=["_law_low","_law_high"]) (ix:=[]) (qu rfl) rfl (qw (kB ZV B.sorted_ (pv 1))) (fun _=>(Qs rfl (kZ (kq (i:=0) (show List.Nodup (["_law_low","_law_high"]:List Str) by decide +kernel) rfl (Or.inl rfl)) (kZ (kq (i:=1) (show List.Nodup (["_law_low","_law_high"]:List Str) by decide +kernel) rfl (Or.inl rfl)) Gp)))) (fun _=>qY) (fun _=>(jbd (WA (pv 0) (jfu (WA (pv 1) jft))))))) jd)))),?_⟩
  try dsimp only[jN]
  unfold JL at Hm;obtain rfl:Ua=.int many:=Qy;have jz:Bor K H0 Fe (cP cI cI) pairs xf:=jJ;clear jJ;exact jw (K:=K) (Qe (kd _) (jQ (kA (ju jaN (kA (xD (GJ (jh zp (eI (i:=0)) rfl) (xC (c:=cS)) rfl) (by decide))) (kA (jaY (yA (jQ (kA (jh jfr (jQ (jV (p:=pB (cP cI cI)) (i:=1) rfl (Bor.b jz X))) rfl)))) [] rfl (fun b4 low high _ _ E3=>ym) (fun b4 low high _ _ E3=>(jbe (WC (eI (i:=0)) (jfw (WC (eI (i:=1)) jfv))) rfl)) rfl)) rfl))) rfl) X Hm Kk
def Av:FnScope ["self"] ["self"] (jD ((jC (top 125) 2))):=scK
def Wg (Fn:Fun K "undone" "Desk.undone" ((jC (top 125) 2)) f fd):FnOk P w K mg base CX0 1 f fd ["self"] (spK K C_Desk (jE C_Order C_Spot) csN cS (fun D z=>yJ D)):=by
 refine Fn.ok Av (fun vs H Q E h=>?_) (fun cdv A outer s Hq vs Q E_ hr h=>?_)
 ·obtain⟨_,_,_,_,_,_,_,rfl,_,_,hd_,_⟩:=h;obtain rfl:=hd_;rfl
 ·obtain⟨self,z_,jlo,ws_,Fe,H0,R,rfl,X,qW,hd_,Hm,Kk⟩:=JE h;obtain rfl:=hd_
  try dsimp only at Hm
  have nd:=Av.nd;have hu:=Qp hr;refine⟨_,(jc (xn (jM GF (kB jt B.len_ (jY (pv 0) rfl)) jl (jT _)) (jf qz) j2) (jc (zl (pv 0) (jhP Xw PySem.F.slot_list_pop PySem.F.type_list_pop jkj (jY (pv 0) rfl)) rfl) (jf (js kg)))),?_⟩
  try dsimp only[jN]
  unfold yJ at Hm;refine(QY (K:=K) (kY (je Uj (jh q8 (jQ (jjv (i:=0) rfl qW Ai.cl Ai.n_earlier)) rfl) (jm _) rfl)) X Hm ?_ ?_)
  ·intro F H Hc Hm E X;replace qW:=OwnK.mono qW E;cases Hm
  ·intro F H Hc Hm E X;replace qW:=OwnK.mono qW E;refine G0 ?_;refine(jk6 (K:=K) (i:=0) rfl qW Ai.cl Ai.n_spot Ai.n_earlier X Hm ?_);intro self H Hm X qW;exact JG (K:=K) (Qg qW X (kd _)) Hm Kk
def YJ (Fn:Fun K "told_order" "told_order" (top 113) f fd):FnOk P w K mg base CX0 3 f fd ["spot"] (sp1 K (pF (jE C_Order C_Spot)) (rF cS) xH):=by
  refine(ok1 (N:=["spot"]) Fn fun cdv A outer s H0 Q E_ hr nd hu spot kR Fe R X jn Hm Kk=>?_);refine⟨_,(jf (js (pD_ zy hr (jb (jY (pv 0) rfl) jd)))),?_⟩
  try dsimp only[jN]
  unfold xH at Hm;replace jn:(jE C_Order C_Spot).rep K Fe spot kR:=jn;exact jw (K:=K) (jx (jp (jR Ae) (eV (i:=0) jn) rfl) rfl) X Hm Kk
def jbx (Fn:Fun K "how_many" "how_many" (top 32) f fd):FnOk P w K mg base CX0 5 f fd ["order"] (sp1 K (pF (ji C_Order)) (rF cI) GN):=by
  refine(ok1 (N:=["order"]) Fn fun cdv A outer s H0 Q E_ hr nd hu order jv Fe R X ja Hm Kk=>?_);refine⟨_,(jf (js (kB jt B.len_ (pD_ xY hr (jb (pv 0) jd))))),?_⟩
  try dsimp only[jN]
  unfold GN at Hm;replace ja:(ji C_Order).rep K Fe order jv:=ja;exact jw (K:=K) (kF q8 (jQ (kA (jx (eV (i:=0) ja) rfl))) rfl) X Hm Kk
def Uy (Fn:Fun K "how_many_lines" "how_many_lines" (top 44) f fd):FnOk P w K mg base CX0 6 f fd ["order"] (sp1 K (pF (ji C_Order)) (rF cI) yc):=by
  refine(ok1 (N:=["order"]) Fn fun cdv A outer s H0 Q E_ hr nd hu order jv Fe R X ja Hm Kk=>?_);refine⟨_,(jf (js (Up (hu1 hu) (pD_ JV hr (jb (pv 0) jd)) jl (fun _ _=>rfl)))),?_⟩
  try dsimp only[jN]
  unfold yc at Hm;replace ja:(ji C_Order).rep K Fe order jv:=ja;exact jw (K:=K) (Q3 (jkV (jx (eV (i:=0) ja) rfl)) (jm _) rfl) X Hm Kk
def Wh (Fn:Fun K "with_blanks" "with_blanks" (top 96) f fd):FnOk P w K mg base CX0 1 f fd ["values"] (sp1 K (pB cI) (rF cS) xQ):=by
  refine(ok1 (N:=["values"]) Fn fun cdv A outer s H0 Q E_ hr nd hu values Zb Fe R X Ub Hm Kk=>?_);refine⟨_,(jf (js (zQ Xz PySem.F.slot_str_join PySem.F.type_str_join Ur kg (jb (kW (own:=["value"]) (ix:=[]) (qu rfl) rfl (qw (pv 0)) (fun _=>(kq (i:=0) (show List.Nodup (["value"]:List Str) by decide +kernel) rfl (Or.inl rfl))) (fun _=>qY) (fun _=>(cY jX B.str_ (pv 0)))) jd)))),?_⟩
  try dsimp only[jN]
  unfold xQ at Hm;have Zc:Bor K H0 Fe cI values Zb:=Ub;clear Ub;exact jw (K:=K) (Qe (kd _) (jQ (kA (xE (yA (jQ (jV (p:=pB cI) (i:=0) rfl (Bor.b Zc X)))) [] rfl (fun b2 value _ _ E1=>ym) (fun b2 value _ _ E1=>(jh zp (eI (i:=0)) rfl)) rfl))) rfl) X Hm Kk
def Wi (Fn:Fun K "told_counts" "told_counts" (top 114) f fd):FnOk P w K mg base CX0 7 f fd ["spot"] (sp1 K (pF (jE C_Order C_Spot)) (rF cS) kr):=by
  refine(ok1 (N:=["spot"]) Fn fun cdv A outer s H0 Q E_ hr nd hu spot kR Fe R X jn Hm Kk=>?_);refine⟨_,(jf (js (pD_ xr hr (jb (xB (jb (pD_ UC hr (jb (jY (pv 0) rfl) jd)) (jb (pD_ zE hr (jb (jY (pv 0) rfl) jd)) jd))) jd)))),?_⟩
  try dsimp only[jN]
  unfold kr at Hm;replace jn:(jE C_Order C_Spot).rep K Fe spot kR:=jn;exact jw (K:=K) (kK (kA (xD (GJ (jx (jp (jR Ae) (eV (i:=0) jn) rfl) rfl) (GJ (jx (jp (jR Ae) (eV (i:=0) jn) rfl) rfl) (xC (c:=cI)) rfl) rfl) (by decide))) rfl) X Hm Kk
def Ay:FnScope ["self","order"] ["self","order"] (jD ((jC (top 86) 0))):=scK
def YK (Fn:Fun K "__init__" "Turn.__init__" ((jC (top 86) 0)) f fd):FnOk P w K mg base CX0 1 f fd ["self","order"] (jgR K C_Great (pF (ji C_Order)) (Qx C_Order C_Great) xl):=by
 refine Fn.ok Ay (fun vs H Q E h=>?_) (fun cdv A outer s Hq vs Q E_ hr h=>?_)
 ·obtain⟨_,_,_,_,_,_,_,rfl,_⟩:=h;rfl
 ·obtain⟨order,jv,Fe,H0,x_self,dx_self,R,rfl,rfl,n1_,n2_,n3_,S_,ja,Hm,Kk⟩:=h;have nd:=Ay.nd;have hu:=Qp hr;refine⟨_,(jf (zl (pv 0) (pv 1) rfl)),?_⟩
  try dsimp only[jN]
  obtain⟨X,jW⟩:=yn (C:=C_Great) S_ n1_ n2_ n3_;unfold xl at Hm;replace ja:(ji C_Order).rep K Fe order jv:=ja;refine(UP (K:=K) (k':=0) (c:=(ji C_Order)) rfl jW Au.cl Au.n_order (XH (Xe 0) (by decide:0<1000)) (eV (i:=1) ja) X Hm ?_);intro f_order Gk F H Hm Cg X ko jW;cases Hm;obtain⟨F',X',Cg,hx⟩:=OwnI.freeze jW X;exact Kk F' H X' ⟨x_self,dx_self,_,rfl,hx,Cd.mono _ Cg.f ko⟩
def U3 (Fn:Fun K "check_downset" "check_downset" (top 27) f fd):FnOk P w K mg base CX0 4 f fd ["order","bits"] (sp2 K (pF (ji C_Order)) (pF cI) (rF cU) xb):=by
  refine(ok2 (N:=["order","bits"]) Fn fun cdv A outer s H0 Q E_ hr nd hu order bits jv xN Fe R X ja xO Hm Kk=>?_);refine⟨_,(jf (xn (Jj (GC (pD_ zx hr (jb (pv 0) (jb (pv 1) jd))))) (jf qz) j2)),?_⟩
  try dsimp only[jN]
  unfold xb at Hm;replace ja:(ji C_Order).rep K Fe order jv:=ja;obtain rfl:xN=.int bits:=xO;refine(jgz (K:=K) (Qb (zI (jo (eV (i:=0) ja) (eI (i:=1)) rfl)) rfl) X Hm ?_ ?_)
  ·intro F H Hm E X
   try dsimp only[we] at Hm
   cases Hm
  ·intro F H Hm E X
   try dsimp only[X9] at Hm
   refine G0 ?_;cases Hm;exact Kk _ F H X rfl
def jfY (Fn:Fun K "set_of" "set_of" (top 24) f fd):FnOk P w K mg base CX0 1 f fd ["things"] (sp1 K (pB cI) (rF cI) Qi):=by
  refine(ok1 (N:=["things","bits","thing"]) Fn fun cdv A outer s H0 Q E_ hr nd hu yO Gm Fe R X ye Hm Kk=>?_);refine⟨_,(jc (pS (i:=1) nd jl) (jc (xu PassesOwn.never rfl (qw (pv 0)) (pG (i:=2) nd) (jf (pS (i:=1) nd (jI Vd (pv 1) (jI QU jl (pv 2)))))) (jf (js (pv 1))))),?_⟩
  try dsimp only[jN]
  unfold Qi at Hm;have qI:Bor K H0 Fe cI yO Gm:=ye;clear ye;refine(qb (K:=K) (jm _) X Hm ?_);intro bits F H Hm E X;replace qI:=E.xb qI;refine jaT (K:=K) (c:=cI) ?_ X Hm (fun F1 bits σ' F' H'=>∃ (w1_:Option V),σ'=[some Gm,some (.int bits),w1_]/\(Ext Fe H0 F' H'/\Same F1 F')) ?_ ?_ ?_ ?_
  ·exact(jes (i:=0) rfl qI)
  ·intro F H E X;exact⟨_,rfl,⟨X,(Same.refl _)⟩⟩
  ·rintro F1 bits σ_ F_ H_ ⟨w1_,rfl,⟨X_,SF_⟩⟩;exact⟨X_,SF_⟩
  ·rintro F1 S0_ bits B_ thing qU σ_ F_ H_ F H ⟨w1_,rfl,⟨X,SF_⟩⟩ E qV Hm
   try dsimp only at Hm
   have SL0:=SF_;replace X:=Ext.trans X E;replace SL0:=E.xd SL0;obtain rfl:qU=.int thing:=qV;refine x9 ?_;refine(zR (K:=K) (ju kE (eI (i:=1)) (je W2 (jm _) (eI (i:=2)) rfl) rfl) X Hm ?_);intro bits F H Hm E X;replace SL0:=E.xd SL0;cases Hm;exact⟨F,_,rfl,⟨X,SL0⟩⟩
  ·rintro F1 S0_ bits σ_ F H Hm ⟨w1_,rfl,⟨X,SF_⟩⟩
   try dsimp only at Hm
   exact jw (K:=K) (eI (i:=1)) X Hm Kk
def jhA (Fn:Fun K "doors" "doors" (top 30) f fd):FnOk P w K mg base CX0 5 f fd ["order","bits"] (sp2 K (pF (ji C_Order)) (pF cI) (rF cI) Uw):=by
  refine(ok2 (N:=["order","bits"]) Fn fun cdv A outer s H0 Q E_ hr nd hu order bits jv xN Fe R X ja xO Hm Kk=>?_);refine⟨_,(jc (k7 (pD_ xM hr (jb (pv 0) (jb (pv 1) jd)))) (jf (js (pD_ Y4 hr (jb (kW (own:=["thing"]) (ix:=[0,1]) (qu rfl) rfl (kz rfl B.range_ (jb (yy jO (hr.mono (by decide)) (pv 0)) jd)) (fun _=>(kq (i:=0) (show List.Nodup (["thing","order","bits"]:List Str) by decide +kernel) rfl (Or.inl rfl))) (fun _=>Gs (GC (pD_ JU hr (jb (pv 1) (jb (pv 2) (jb (pv 0) jd)))))) (fun _=>(pv 0))) jd))))),?_⟩
  try dsimp only[jN]
  unfold Uw at Hm;replace ja:(ji C_Order).rep K Fe order jv:=ja;obtain rfl:xN=.int bits:=xO;refine(Jx (K:=K) (jo (eV (i:=0) ja) (eI (i:=1)) rfl) X Hm ?_);intro _ F H Hm E X;replace ja:=E.xc ja;exact jw (K:=K) (kK (kA (qg (Jz (kM kH (eV (i:=0) ja) rfl) rfl) [some jv,some (.int bits)] rfl (fun b3 thing _ _ E2=>(zI (JB (eV (i:=1) (Cd.mono _ (E2).f ja)) (eI (i:=2)) (eI (i:=0)) rfl))) (fun b3 thing _ _ E2=>(eI (i:=0))) rfl)) rfl) X Hm Kk
def YL (Fn:Fun K "great_turn" "great_turn" (top 81) f fd):FnOk P w K mg base CX0 6 f fd ["order","bits"] (sp2 K (pF (ji C_Order)) (pF cI) (rF cI) zt):=by
  refine(ok2 (N:=["order","bits","entered","turned","thing"]) Fn fun cdv A outer s H0 Q E_ hr nd hu order bits jv xN Fe R X ja xO Hm Kk=>?_);refine⟨_,(jc (pS (i:=2) nd (pD_ jbG hr (jb (pv 0) (jb (pv 1) jd)))) (jc (pS (i:=3) nd (pv 2)) (jc (xu PassesOwn.never rfl (qw (pD_ kP hr (jb (pv 2) jd))) (pG (i:=4) nd) (jf (pS (i:=3) nd (jI Vd (pv 3) (pX zH (jY (pv 0) rfl) (pv 4)))))) (jf (js (pv 3)))))),?_⟩
  try dsimp only[jN]
  unfold zt at Hm;replace ja:(ji C_Order).rep K Fe order jv:=ja;obtain rfl:xN=.int bits:=xO;refine(qb (K:=K) (jo (eV (i:=0) ja) (eI (i:=1)) rfl) X Hm ?_);intro entered F H Hm E X;replace ja:=E.xc ja;refine(qb (K:=K) (eI (i:=2)) X Hm ?_);intro turned F H Hm E X;replace ja:=E.xc ja;refine Jp (K:=K) (c:=cI) ?_ X Hm (fun F1 turned σ' F' H'=>∃ (w1_:Option V),σ'=[some jv,some (.int bits),some (.int entered),some (.int turned),w1_]/\(Ext Fe H0 F' H'/\Same F1 F')) ?_ ?_ ?_ ?_
  ·exact(Vp (qZ (jx (jau (i:=2) rfl) rfl)))
  ·intro F H E X;exact⟨_,rfl,⟨X,(Same.refl _)⟩⟩
  ·rintro F1 turned σ_ F_ H_ ⟨w1_,rfl,⟨X_,SF_⟩⟩;exact⟨X_,SF_⟩
  ·rintro F1 S0_ turned B_ thing qU σ_ F_ H_ F H ⟨w1_,rfl,⟨X,SF_⟩⟩ E qV Hm
   try dsimp only at Hm
   have SL0:=SF_;replace SF_:=Same.trans S0_ SF_;replace ja:=Cd.mono _ SF_ ja;replace X:=Ext.trans X E;replace ja:=E.xc ja;replace SL0:=E.xd SL0;obtain rfl:qU=.int thing:=qV;refine x9 ?_;refine(zR (K:=K) (ju kE (eI (i:=3)) (je U0 (jp (q_ Af) (eV (i:=0) ja) rfl) (eI (i:=4)) rfl) rfl) X Hm ?_);intro turned F H Hm E X;replace SL0:=E.xd SL0;cases Hm;exact⟨F,_,rfl,⟨X,SL0⟩⟩
  ·rintro F1 S0_ turned σ_ F H Hm ⟨w1_,rfl,⟨X,SF_⟩⟩
   try dsimp only at Hm
   exact jw (K:=K) (eI (i:=3)) X Hm Kk
def YM (Fn:Fun K "done" "Great.done" ((jC (top 87) 0)) f fd):FnOk P w K mg base CX0 7 f fd ["self","one"] (sp2 K (pF (Qx C_Order C_Great)) (pF cI) (rF cI) kX):=by
  refine(ok2 (N:=["self","one"]) Fn fun cdv A outer s H0 Q E_ hr nd hu self one xz GW Fe R X jq ky Hm Kk=>?_);refine⟨_,(jf (js (pD_ JX hr (jb (jY (pv 0) rfl) (jb (pv 1) jd))))),?_⟩
  try dsimp only[jN]
  unfold kX at Hm;replace jq:(Qx C_Order C_Great).rep K Fe self xz:=jq;obtain rfl:GW=.int one:=ky;exact jw (K:=K) (jo (jp (VF Au) (eV (i:=0) jq) rfl) (eI (i:=1)) rfl) X Hm Kk
def jby (Fn:Fun K "round_of" "round_of" (top 63) f fd):FnOk P w K mg base CX0 8 f fd ["turn","one"] (sp2 K (pF (Qx C_Order C_Great)) (pF cI) (rO cI) Qj):=by
  refine(ok2 (N:=["turn","one","circle","following"]) Fn fun cdv A outer s H0 Q E_ hr nd hu turn one jip GW Fe R X x5 ky Hm Kk=>?_);refine⟨_,(jc (pS (i:=2) nd (xB (jb (pv 1) jd))) (jc (pS (i:=3) nd (qv yt (hr.mono (by decide)) (pv 0) (jb (pv 1) jd))) (jc (GY PassesOwn.never (jM Qm (pv 3) (pv 1) (jT _)) (jc (k7 (zQ Xw XU XT yx (pv 2) (jb (pv 3) jd))) (jf (pS (i:=3) nd (qv yt (hr.mono (by decide)) (pv 0) (jb (pv 3) jd)))))) (jf (js (pv 2)))))),?_⟩
  try dsimp only[jN]
  unfold Qj at Hm;replace x5:(Qx C_Order C_Great).rep K Fe turn jip:=x5;obtain rfl:GW=.int one:=ky;refine(Jw (K:=K) (xD (qK (eI (i:=1)) (xC (c:=cI)) rfl) (by decide)) X Hm ?_);intro circle Jh F H Hm E X Hn qJ;replace x5:=E.xc x5;refine(qb (K:=K) (xj G4 (eV (i:=0) x5) (eI (i:=1)) rfl) X Hm ?_);intro following F H Hm E X;replace x5:=E.xc x5;replace qJ:=qJ.mono E;refine QF (K:=K) X Hm (fun F1 b σ' F' H'=>match b with | (circle,following)=>∃ (Jh:Addr),σ'=[some jip,some (.int one),some (.ref Jh),some (.int following)]/\(Ext Fe H0 F' H'/\Same F1 F')/\Own K H0 F' H' cI circle Jh) ?_ ?_ ?_ ?_ ?_
  ·exact⟨_,rfl,⟨X,(Same.refl _)⟩,qJ⟩
  ·rintro F1 ⟨circle,following⟩ σ_ F_ H_ ⟨Jh,rfl,⟨X_,SF_⟩,qJ⟩;exact⟨X_,SF_⟩
  ·rintro⟨circle,following⟩ σ_ F H ⟨Jh,rfl,⟨X,SF_⟩,qJ⟩;exact(kY (je jaK (jau (i:=3) rfl) (jau (i:=1) rfl) rfl))
  ·rintro⟨circle,following⟩ B_ σ_ F_ H_ F H ⟨Jh,rfl,⟨X,SF_⟩,qJ⟩ E Hm
   try dsimp only at Hm
   have SL0:=SF_;replace x5:=Cd.mono _ SF_ x5;replace X:=Ext.trans X E;replace x5:=E.xc x5;replace qJ:=qJ.mono E;replace SL0:=E.xd SL0;refine(jc7 (K:=K) (k':=2) rfl qJ (eI (i:=3)) X Hm ?_);intro circle F H Hm Cg X qJ;replace x5:=Cd.mono _ Cg.f x5;replace SL0:=Same.trans SL0 Cg.f;refine(zR (K:=K) (xj G4 (eV (i:=0) x5) (eI (i:=3)) rfl) X Hm ?_);intro following F H Hm E X;replace qJ:=qJ.mono E;replace SL0:=E.xd SL0;cases Hm;exact⟨F,_,rfl,⟨X,SL0⟩,qJ⟩
  ·rintro⟨circle,following⟩ σ_ F_ H_ F H ⟨Jh,rfl,⟨X,SF_⟩,qJ⟩ E Hm
   try dsimp only at Hm
   replace X:=Ext.trans X E;replace qJ:=qJ.mono E;exact W6 (K:=K) (i:=2) rfl qJ X Hm Kk
def Wj (Fn:Fun K "great_round" "great_round" (top 111) f fd):FnOk P w K mg base CX0 9 f fd ["spot"] (sp1 K (pF (jE C_Order C_Spot)) (rO cI) xo):=by
  refine(ok1 (N:=["spot"]) Fn fun cdv A outer s H0 Q E_ hr nd hu spot kR Fe R X jn Hm Kk=>?_);refine⟨_,(jf (js (pD_ UD hr (jb (Jm zA (hr.mono (by decide)) rfl (jb (jY (pv 0) rfl) jd)) (jb (jY (pv 0) rfl) jd))))),?_⟩
  try dsimp only[jN]
  unfold xo at Hm;replace jn:(jE C_Order C_Spot).rep K Fe spot kR:=jn;exact jw (K:=K) (jU (yo (jp (jR Ae) (eV (i:=0) jn) rfl) rfl) (jp (G3 Ae) (eV (i:=0) jn) rfl) rfl) X Hm Kk
def YN (Fn:Fun K "told_round" "told_round" (top 116) f fd):FnOk P w K mg base CX0 10 f fd ["spot"] (sp1 K (pF (jE C_Order C_Spot)) (rF cS) qC):=by
  refine(ok1 (N:=["spot"]) Fn fun cdv A outer s H0 Q E_ hr nd hu spot kR Fe R X jn Hm Kk=>?_);refine⟨_,(jf (js (cY jX B.str_ (kB jt B.len_ (pD_ yT hr (jb (pv 0) jd)))))),?_⟩
  try dsimp only[jN]
  unfold qC at Hm;replace jn:(jE C_Order C_Spot).rep K Fe spot kR:=jn;exact jw (K:=K) (kF zp (kF q8 (jQ (kA (jx (eV (i:=0) jn) rfl))) rfl) rfl) X Hm Kk
def QJ (Fn:Fun K "greatest_divisor" "greatest_divisor" (top 36) f fd):FnOk P w K mg base CX0 1 f fd ["one","other"] (sp2 K (pF cI) (pF cI) (rF cI) k0):=by
  refine(ok2 (N:=["one","other","first","second","rest"]) Fn fun cdv A outer s H0 Q E_ hr nd hu one other GW UJ Fe R X ky Ji Hm Kk=>?_);refine⟨_,(jc (pS (i:=2) nd (kB jbY B.abs_ (pv 0))) (jc (pS (i:=3) nd (kB jbY B.abs_ (pv 1))) (jc (GY PassesOwn.never (jM Wa (pv 3) jl (jT _)) (jc (pS (i:=4) nd (jI Jk (pv 2) (pv 3))) (jc (pS (i:=2) nd (pv 3)) (jf (pS (i:=3) nd (pv 4)))))) (jf (js (pv 2)))))),?_⟩
  try dsimp only[jN]
  unfold k0 at Hm;obtain rfl:GW=.int one:=ky;obtain rfl:UJ=.int other:=Ji;refine(qb (K:=K) (jh jkH (eI (i:=0)) rfl) X Hm ?_);intro first F H Hm E X;refine(qb (K:=K) (jh jkH (eI (i:=1)) rfl) X Hm ?_);intro second F H Hm E X;refine QF (K:=K) X Hm (fun F1 b σ' F' H'=>match b with | (first,second)=>∃ (w1_:Option V),σ'=[some (.int one),some (.int other),some (.int first),some (.int second),w1_]/\(Ext Fe H0 F' H'/\Same F1 F')) ?_ ?_ ?_ ?_ ?_
  ·exact⟨_,rfl,⟨X,(Same.refl _)⟩⟩
  ·rintro F1 ⟨first,second⟩ σ_ F_ H_ ⟨w1_,rfl,⟨X_,SF_⟩⟩;exact⟨X_,SF_⟩
  ·rintro⟨first,second⟩ σ_ F H ⟨w1_,rfl,⟨X,SF_⟩⟩;exact(kY (je yX (jau (i:=3) rfl) (jm _) rfl))
  ·rintro⟨first,second⟩ B_ σ_ F_ H_ F H ⟨w1_,rfl,⟨X,SF_⟩⟩ E Hm
   try dsimp only at Hm
   have SL0:=SF_;replace X:=Ext.trans X E;replace SL0:=E.xd SL0;refine(qb (K:=K) (je W1 (eI (i:=2)) (eI (i:=3)) rfl) X Hm ?_);intro rest_ F H Hm E X;replace SL0:=E.xd SL0;refine(qb (K:=K) (eI (i:=3)) X Hm ?_);intro first F H Hm E X;replace SL0:=E.xd SL0;refine(zR (K:=K) (eI (i:=4)) X Hm ?_);intro second F H Hm E X;replace SL0:=E.xd SL0;cases Hm;exact⟨F,_,rfl,⟨X,SL0⟩⟩
  ·rintro⟨first,second⟩ σ_ F_ H_ F H ⟨w1_,rfl,⟨X,SF_⟩⟩ E Hm
   try dsimp only at Hm
   replace X:=Ext.trans X E;exact jw (K:=K) (eI (i:=2)) X Hm Kk
def At:FnScope ["self","top","bottom","shared","divisor"] ["self","top","bottom"] (jD ((jC (top 37) 0))):=scK
def U4 (Fn:FunD K "__init__" "Fraction.__init__" ((jC (top 37) 0)) f fd):FnOk P w K mg base CX0 2 f fd ["self","top","bottom"] (jjW K C_Fraction (pF cI) (pF cI) (xF C_Fraction) xc):=by
 refine Fn.ok At (fun vs H Q E h=>?_) (fun cdv A outer s Hq vs Q E_ hr h=>?_)
 ·obtain⟨_,_,_,_,_,_,_,_,_,rfl,_⟩:=h;rfl
 ·obtain⟨top,bottom,jjL,Zd,Fe,H0,x_self,dx_self,R,rfl,rfl,n1_,n2_,n3_,S_,jjM,Ze,Hm,Kk⟩:=h;have nd:=At.nd;have hu:=Qp hr;refine⟨_,(jc (xn (jM GF (pv 2) jl (jT _)) (jf qz) j2) (jc (pS (i:=3) nd (pD_ yU hr (jb (pv 1) (jb (pv 2) jd)))) (jc (pS (i:=4) nd (QS (jM V_ (pv 2) jl (jT _)) (Zo Ve (pv 3)) (pv 3))) (jc (zl (pv 0) (jI Gf (pv 1) (pv 4)) rfl) (jf (zl (pv 0) (jI Gf (pv 2) (pv 4)) rfl)))))),?_⟩
  try dsimp only[jN]
  obtain⟨X,jW⟩:=yn (C:=C_Fraction) S_ n1_ n2_ n3_;unfold xc at Hm;obtain rfl:jjL=.int top:=jjM;obtain rfl:Zd=.int bottom:=Ze;refine(QY (K:=K) (kY (je Uj (eI (i:=2)) (jm _) rfl)) X Hm ?_ ?_)
  ·intro F H Hc Hm E X;replace jW:=OwnI.mono jW E;cases Hm
  ·intro F H Hc Hm E X;replace jW:=OwnI.mono jW E;refine G0 ?_;refine(qb (K:=K) (jo (eI (i:=1)) (eI (i:=2)) rfl) X Hm ?_);intro shared F H Hm E X;replace jW:=OwnI.mono jW E;refine(qb (K:=K) (Jy (kY (je yX (eI (i:=2)) (jm _) rfl)) (zo o_u (eI (i:=3)) rfl) (eI (i:=3)) rfl) X Hm ?_);intro divisor F H Hm E X;replace jW:=OwnI.mono jW E;refine(ja0 (K:=K) (k':=0) (c:=cI) rfl jW Ak.cl Ak.n_top (XH (Xe 0) (by decide:0<1000)) (je jaJ (eI (i:=1)) (eI (i:=4)) rfl) X Hm ?_);intro f_top jdK F H Hm Cg X jdL jW;obtain rfl:jdK=.int f_top:=jdL;refine(UP (K:=K) (k':=0) (c:=cI) rfl jW Ak.cl Ak.n_bottom (XH (Gv (Xe 0)) (by decide:1<1000)) (je jaJ (eI (i:=2)) (eI (i:=4)) rfl) X Hm ?_);intro f_bottom Zf F H Hm Cg X Zg jW;obtain rfl:Zf=.int f_bottom:=Zg;cases Hm;obtain⟨F',X',Cg,hx⟩:=OwnI.freeze jW X;exact Kk F' H X' ⟨x_self,dx_self,_,_,rfl,hx,rfl,rfl⟩
def jjF (Fn:Fun K "mean" "mean" (top 38) f fd):FnOk P w K mg base CX0 4 f fd ["numbers"] (sp1 K (pB cI) (rF (xF C_Fraction)) jcD):=by
  refine(ok1 (N:=["numbers"]) Fn fun cdv A outer s H0 Q E_ hr nd hu numbers jaq Fe R X jZ Hm Kk=>?_);refine⟨_,(jf (js (Jm zY (hr.mono (by decide)) rfl (jb (kB (QW rfl) B.sum_ (pv 0)) (jb (kB jt B.len_ (pv 0)) jd))))),?_⟩
  try dsimp only[jN]
  unfold jcD at Hm;have jar:Bor K H0 Fe cI numbers jaq:=jZ;clear jZ;exact jw (K:=K) (JC (jh jez (jQ (jV (p:=pB cI) (i:=0) rfl (Bor.b jar X))) rfl) (jh q8 (jQ (jV (p:=pB cI) (i:=0) rfl (Bor.b jar X))) rfl) rfl) X Hm Kk
def Uz (Fn:Fun K "shown" "Fraction.shown" ((jC (top 37) 2)) f fd):FnOk P w K mg base CX0 1 f fd ["self"] (sp1 K (pF (xF C_Fraction)) (rF cS) yd):=by
  refine(ok1 (N:=["self","top","bottom"]) Fn fun cdv A outer s H0 Q E_ hr nd hu self xz Fe R X jq Hm Kk=>?_);refine⟨_,(jc (pS (i:=1) nd (jY (pv 0) rfl)) (jc (pS (i:=2) nd (jY (pv 0) rfl)) (jf (js (QS (jM GF (pv 2) jl (jT _)) (cY jX B.str_ (pv 1)) (jbd (WA (pv 1) (jfu (WA (pv 2) jft))))))))),?_⟩
  try dsimp only[jN]
  unfold yd at Hm;replace jq:(xF C_Fraction).rep K Fe self xz:=jq;refine(qb (K:=K) (jp (U1 Ak) (eV (i:=0) jq) rfl) X Hm ?_);intro top F H Hm E X;replace jq:=E.xc jq;refine(qb (K:=K) (jp (QH Ak) (eV (i:=0) jq) rfl) X Hm ?_);intro bottom F H Hm E X;exact jw (K:=K) (Jy (kY (je Uj (eI (i:=2)) (jm _) rfl)) (jh zp (eI (i:=1)) rfl) (jbe (WC (eI (i:=1)) (jfw (WC (eI (i:=2)) jfv))) rfl) rfl) X Hm Kk
def jab (Fn:Fun K "mean_size" "mean_size" (top 112) f fd):FnOk P w K mg base CX0 5 f fd ["sets"] (sp1 K (pB cI) (rF cS) zW):=by
  refine(ok1 (N:=["sets"]) Fn fun cdv A outer s H0 Q E_ hr nd hu sets jlp Fe R X jiq Hm Kk=>?_);refine⟨_,(jf (js (yy zF (hr.mono (by decide)) (pD_ jf0 hr (jb (kW (own:=["bits"]) (ix:=[]) (qu rfl) rfl (qw (pv 0)) (fun _=>(kq (i:=0) (show List.Nodup (["bits"]:List Str) by decide +kernel) rfl (Or.inl rfl))) (fun _=>qY) (fun _=>(kB jt B.len_ (pD_ kP hr (jb (pv 0) jd))))) jd))))),?_⟩
  try dsimp only[jN]
  unfold zW at Hm;have jlq:Bor K H0 Fe cI sets jlp:=jiq;clear jiq;exact jw (K:=K) (jdg Uu (kK (kA (xE (yA (jQ (jV (p:=pB cI) (i:=0) rfl (Bor.b jlq X)))) [] rfl (fun b2 bits _ _ E1=>ym) (fun b2 bits _ _ E1=>(kF q8 (jQ (kA (jx (eI (i:=0)) rfl))) rfl)) rfl)) rfl) rfl) X Hm Kk
def jjG (Fn:Fun K "brim" "brim" (top 28) f fd):FnOk P w K mg base CX0 5 f fd ["order","bits"] (sp2 K (pF (ji C_Order)) (pF cI) (rF cI) WF):=by
  refine(ok2 (N:=["order","bits","covered","thing"]) Fn fun cdv A outer s H0 Q E_ hr nd hu order bits jv xN Fe R X ja xO Hm Kk=>?_);refine⟨_,(jc (k7 (pD_ xM hr (jb (pv 0) (jb (pv 1) jd)))) (jc (pS (i:=2) nd jl) (jc (xu PassesOwn.never rfl (qw (pD_ kP hr (jb (pv 1) jd))) (pG (i:=3) nd) (jf (pS (i:=2) nd (jI Vd (pv 2) (pX zH (jY (pv 0) rfl) (pv 3)))))) (jf (js (jI jdZ (pv 1) (Zo jkb (pv 2)))))))),?_⟩
  try dsimp only[jN]
  unfold WF at Hm;replace ja:(ji C_Order).rep K Fe order jv:=ja;obtain rfl:xN=.int bits:=xO;refine(Jx (K:=K) (jo (eV (i:=0) ja) (eI (i:=1)) rfl) X Hm ?_);intro _ F H Hm E X;replace ja:=E.xc ja;refine(qb (K:=K) (jm _) X Hm ?_);intro covered F H Hm E X;replace ja:=E.xc ja;refine Jp (K:=K) (c:=cI) ?_ X Hm (fun F1 covered σ' F' H'=>∃ (w1_:Option V),σ'=[some jv,some (.int bits),some (.int covered),w1_]/\(Ext Fe H0 F' H'/\Same F1 F')) ?_ ?_ ?_ ?_
  ·exact(Vp (qZ (jx (jau (i:=1) rfl) rfl)))
  ·intro F H E X;exact⟨_,rfl,⟨X,(Same.refl _)⟩⟩
  ·rintro F1 covered σ_ F_ H_ ⟨w1_,rfl,⟨X_,SF_⟩⟩;exact⟨X_,SF_⟩
  ·rintro F1 S0_ covered B_ thing qU σ_ F_ H_ F H ⟨w1_,rfl,⟨X,SF_⟩⟩ E qV Hm
   try dsimp only at Hm
   have SL0:=SF_;replace SF_:=Same.trans S0_ SF_;replace ja:=Cd.mono _ SF_ ja;replace X:=Ext.trans X E;replace ja:=E.xc ja;replace SL0:=E.xd SL0;obtain rfl:qU=.int thing:=qV;refine x9 ?_;refine(zR (K:=K) (ju kE (eI (i:=2)) (je U0 (jp (q_ Af) (eV (i:=0) ja) rfl) (eI (i:=3)) rfl) rfl) X Hm ?_);intro covered F H Hm E X;replace SL0:=E.xd SL0;cases Hm;exact⟨F,_,rfl,⟨X,SL0⟩⟩
  ·rintro F1 S0_ covered σ_ F H Hm ⟨w1_,rfl,⟨X,SF_⟩⟩
   try dsimp only at Hm
   exact jw (K:=K) (je kE (eI (i:=1)) (zo o_u (eI (i:=2)) rfl) rfl) X Hm Kk
def U5 (Fn:Fun K "with_blanks" "with_blanks" (top 96) f fd):FnOk P w K mg base CX0 1 f fd ["values"] (sp1 K (pB cS) (rF cS) yK):=by
  refine(ok1 (N:=["values"]) Fn fun cdv A outer s H0 Q E_ hr nd hu values Zb Fe R X Ub Hm Kk=>?_);refine⟨_,(jf (js (zQ Xz PySem.F.slot_str_join PySem.F.type_str_join Ur kg (jb (kW (own:=["value"]) (ix:=[]) (qu rfl) rfl (qw (pv 0)) (fun _=>(kq (i:=0) (show List.Nodup (["value"]:List Str) by decide +kernel) rfl (Or.inl rfl))) (fun _=>qY) (fun _=>(cY ZZ B.str_ (pv 0)))) jd)))),?_⟩
  try dsimp only[jN]
  unfold yK at Hm;have Zc:Bor K H0 Fe cS values Zb:=Ub;clear Ub;exact jw (K:=K) (Qe (kd _) (jQ (kA (JA (yA (jQ (jV (p:=pB cS) (i:=0) rfl (Bor.b Zc X)))) [] rfl (fun b2 value jjN _ _ E1 jf5=>ym) (fun b2 value jjN _ _ E1 jf5=>(jh jk8 (eV (i:=0) jf5) rfl)) rfl))) rfl) X Hm Kk
def jac (Fn:Fun K "told_mean" "told_mean" (top 117) f fd):FnOk P w K mg base CX0 10 f fd ["spot"] (sp1 K (pF (jE C_Order C_Spot)) (rF cS) xp):=by
  refine(ok1 (N:=["spot","circle"]) Fn fun cdv A outer s H0 Q E_ hr nd hu spot kR Fe R X jn Hm Kk=>?_);refine⟨_,(jc (pS (i:=1) nd (pD_ yT hr (jb (pv 0) jd))) (jf (js (pD_ zZ hr (jb (xB (jb (pD_ Je hr (jb (pv 1) jd)) (jb (pD_ Je hr (jb (kW (own:=["bits"]) (ix:=[0]) (qu rfl) rfl (qw (pv 1)) (fun _=>(kq (i:=0) (show List.Nodup (["bits","spot"]:List Str) by decide +kernel) rfl (Or.inl rfl))) (fun _=>qY) (fun _=>(pD_ jf1 hr (jb (jY (pv 1) rfl) (jb (pv 0) jd))))) jd)) jd))) jd))))),?_⟩
  try dsimp only[jN]
  unfold xp at Hm;replace jn:(jE C_Order C_Spot).rep K Fe spot kR:=jn;refine(yB (K:=K) (c:=(cL cI)) (qZ (jx (eV (i:=0) jn) rfl)) X Hm ?_);intro circle jlG F H Hm E X jcK;replace jn:=E.xc jn;exact jw (K:=K) (kK (kA (xD (GJ (jx (qf (eV (i:=1) jcK)) rfl) (GJ (kK (kA (xE (yA (jQ (qf (eV (i:=1) jcK)))) [some kR] rfl (fun b2 bits _ _ E1=>ym) (fun b2 bits _ _ E1=>(jo (jp (jR Ae) (eV (i:=1) (Cd.mono _ (E1).f jn)) rfl) (eI (i:=0)) rfl)) rfl)) rfl) (xC (c:=cS)) rfl) rfl) (by decide))) rfl) X Hm Kk
def jdA (Fn:Fun K "by_size" "by_size" (top 58) f fd):FnOk P w K mg base CX0 5 f fd ["order"] (sp1 K (pF (ji C_Order)) (rO cI) JM):=by
  refine(ok1 (N:=["order","counts","bits","many"]) Fn fun cdv A outer s H0 Q E_ hr nd hu order jv Fe R X ja Hm Kk=>?_);refine⟨_,(jc (pS (i:=1) nd (jI jee (xB (jb jl jd)) (jI yu (yy jO (hr.mono (by decide)) (pv 0)) jl))) (jc (xu PassesOwn.never rfl (qw (pD_ xY hr (jb (pv 0) jd))) (pG (i:=2) nd) (jc (pS (i:=3) nd (kB jt B.len_ (pD_ kP hr (jb (pv 2) jd)))) (jf (Wo (jI yu (pX kU (pv 1) (pv 3)) jl) (jdU (pv 1) (pv 3) WS))))) (jf (js (pv 1))))),?_⟩
  try dsimp only[jN]
  unfold JM at Hm;replace ja:(ji C_Order).rep K Fe order jv:=ja;refine(Jw (K:=K) (ju jjc (kA (xD (qK (jm _) (xC (c:=cI)) rfl) (by decide))) (ju kE (kM kH (eV (i:=0) ja) rfl) (jm _) rfl) rfl) X Hm ?_);intro counts Qk F H Hm E X Hn Aj;replace ja:=E.xc ja;refine Jp (K:=K) (c:=cI) ?_ X Hm (fun F1 counts σ' F' H'=>∃ (Qk:Addr) (w5_:Option V) (w6_:Option V),σ'=[some jv,some (.ref Qk),w5_,w6_]/\(Ext Fe H0 F' H'/\Same F1 F')/\Own K H0 F' H' cI counts Qk) ?_ ?_ ?_ ?_
  ·exact(Vp (qZ (jx (jV (p:=pF (ji C_Order)) (i:=0) rfl ja) rfl)))
  ·intro F H E X;replace Aj:=Aj.mono E;exact⟨_,_,_,rfl,⟨X,(Same.refl _)⟩,Aj⟩
  ·rintro F1 counts σ_ F_ H_ ⟨Qk,w5_,w6_,rfl,⟨X_,SF_⟩,Aj⟩;exact⟨X_,SF_⟩
  ·rintro F1 S0_ counts B_ bits xN σ_ F_ H_ F H ⟨Qk,w5_,w6_,rfl,⟨X,SF_⟩,Aj⟩ E xO Hm
   try dsimp only at Hm
   have SL0:=SF_;replace X:=Ext.trans X E;replace Aj:=Aj.mono E;replace SL0:=E.xd SL0;obtain rfl:xN=.int bits:=xO;refine x9 ?_;refine(qb (K:=K) (kF q8 (jQ (kA (jx (eI (i:=2)) rfl))) rfl) X Hm ?_);intro many F H Hm E X;replace Aj:=Aj.mono E;replace SL0:=E.xd SL0;refine(jeB (K:=K) (k':=1) rfl Aj (ju kE (je zm (jQ (jV (p:=pB cI) (i:=1) rfl Aj.b)) (eI (i:=3)) rfl) (jm _) rfl) (eI (i:=3)) X Hm ?_);intro counts F H Hm Cg X Aj;replace SL0:=Same.trans SL0 Cg.f;cases Hm;exact⟨F,_,_,_,rfl,⟨X,SL0⟩,Aj⟩
  ·rintro F1 S0_ counts σ_ F H Hm ⟨Qk,w5_,w6_,rfl,⟨X,SF_⟩,Aj⟩
   try dsimp only at Hm
   exact W6 (K:=K) (i:=1) rfl Aj X Hm Kk
def YO (Fn:Fun K "told_sizes" "told_sizes" (top 118) f fd):FnOk P w K mg base CX0 6 f fd ["spot"] (sp1 K (pF (jE C_Order C_Spot)) (rF cS) qD):=by
  refine(ok1 (N:=["spot"]) Fn fun cdv A outer s H0 Q E_ hr nd hu spot kR Fe R X jn Hm Kk=>?_);refine⟨_,(jf (js (pD_ xr hr (jb (pD_ VW hr (jb (jY (pv 0) rfl) jd)) jd)))),?_⟩
  try dsimp only[jN]
  unfold qD at Hm;replace jn:(jE C_Order C_Spot).rep K Fe spot kR:=jn;exact jw (K:=K) (kK (kA (jx (jp (jR Ae) (eV (i:=0) jn) rfl) rfl)) rfl) X Hm Kk
def U6 (Fn:Fun K "one_fall_more" "one_fall_more" (top 60) f fd):FnOk P w K mg base CX0 1 f fd ["counts"] (sp1 K (pB cI) (rO cI) xI):=by
  refine(ok1 (N:=["counts"]) Fn fun cdv A outer s H0 Q E_ hr nd hu counts Ql Fe R X jr Hm Kk=>?_);refine⟨_,(jf (js (jI Vi (xB (jb jl jd)) (zc Uh (pv 0) Gq (Gr (Zo Ve jl)))))),?_⟩
  try dsimp only[jN]
  unfold xI at Hm;have jhH:Bor K H0 Fe cI counts Ql:=jr;clear jr;exact jw (K:=K) (je jaN (kA (xD (qK (jm _) (xC (c:=cI)) rfl) (by decide))) (kA (zP (jQ (jV (p:=pB cI) (i:=0) rfl (Bor.b jhH X))) Gu (qM (zo o_u (jm _) rfl) rfl) rfl)) rfl) X Hm Kk
def jhB (Fn:Fun K "added" "added" (top 59) f fd):FnOk P w K mg base CX0 1 f fd ["one","other"] (sp2 K (pB cI) (pB cI) (rO cI) VI):=by
  refine(ok2 (N:=["one","other"]) Fn fun cdv A outer s H0 Q E_ hr nd hu one other GW UJ Fe R X ky Ji Hm Kk=>?_);refine⟨_,(jf (js (kW (own:=["place"]) (ix:=[0,1]) (qu rfl) rfl (kz rfl B.range_ (jb (kB jt B.len_ (pv 0)) jd)) (fun _=>(kq (i:=0) (show List.Nodup (["place","one","other"]:List Str) by decide +kernel) rfl (Or.inl rfl))) (fun _=>qY) (fun _=>(jI yu (pX kU (pv 1) (pv 0)) (pX kU (pv 2) (pv 0))))))),?_⟩
  try dsimp only[jN]
  unfold VI at Hm;have jlr:Bor K H0 Fe cI one GW:=ky;clear ky;have jjO:Bor K H0 Fe cI other UJ:=Ji;clear Ji;exact jw (K:=K) (qg (zS (jh q8 (jQ (jV (p:=pB cI) (i:=0) rfl (Bor.b jlr X))) rfl) rfl) [some GW,some UJ] rfl (fun b2 place _ _ E1=>ym) (fun b2 place _ _ E1=>(ju kE (je zm (jQ (jV (p:=pB cI) (i:=1) rfl (Bor.b (Bor.mono jlr (E1).f) (Ext.trans X (E1))))) (eI (i:=0)) rfl) (je zm (jQ (jV (p:=pB cI) (i:=2) rfl (Bor.b (Bor.mono jjO (E1).f) (Ext.trans X (E1))))) (eI (i:=0)) rfl) rfl)) rfl) X Hm Kk
def jbz (Fn:Fun K "by_falls" "by_falls" (top 61) f fd):FnOk P w K mg base CX0 4 f fd ["order"] (sp1 K (pF (ji C_Order)) (rO cI) GO):=by
  refine(ok1 (N:=["order","nothing","begun","place","longer","ahead","last","counts","thing","grown","more"]) Fn fun cdv A outer s H0 Q E_ hr nd hu order jv Fe R X ja Hm Kk=>?_);refine⟨_,(jc (pS (i:=1) nd (jI jee (xB (jb jl jd)) (yy jO (hr.mono (by decide)) (pv 0)))) (jc (jcu (i:=2) nd rfl (Or.inr rfl) (jhb (fl:=Kt.fl (Int×Int)) (hu1 hu) (Ge (jb jl (jb (Zo Ve jl) jd))) (jI Vi (xB (jb jl jd)) (zc Uh (pv 1) (Gr jl) Gq)))) (jc (xu PassesOwn.never rfl (kz rfl B.range_ (jb (yy jO (hr.mono (by decide)) (pv 0)) jd)) (pG (i:=3) nd) (jc (pS (i:=4) nd (jg2 (fl:=Kt.fl (Int×Int)))) (jc (xu PassesOwn.never rfl (jkZ (pv 2)) (Qs rfl (kZ (pG (i:=5) nd) (kZ (pG (i:=6) nd) Gp))) (jc (pS (i:=7) nd (Up (hu1 hu) (pv 2) (Ge (jb (pv 5) (jb (pv 6) jd))) (fun _ _=>rfl))) (jf (xu PassesOwn.never rfl (qw (pD_ xq hr (jb (pv 0) (jb (pv 5) jd)))) (pG (i:=8) nd) (jc (pS (i:=9) nd (Ge (jb (jI Vd (pv 5) (jI QU jl (pv 8))) (jb (pv 8) jd)))) (jc (pS (i:=10) nd (QS (jM Wa (pv 6) (pv 8) (jT _)) (pD_ Ga hr (jb (pv 7) jd)) (pv 7))) (jf (jfe (hu1 hu) (pv 4) (pv 9) (pD_ jbI hr (jb (jg3 (hu1 hu) (pv 4) (pv 9) (pv 1) ⟨rfl,rfl,rfl,rfl⟩) (jb (pv 10) jd))) rfl)))))))) (jf (jcu (i:=2) nd rfl (Or.inr rfl) (pv 4)))))) (jf (js (kW (own:=["falls"]) (ix:=[2]) (qu rfl) rfl (kz rfl B.range_ (jb (yy jO (hr.mono (by decide)) (pv 0)) jd)) (fun _=>(kq (i:=0) (show List.Nodup (["falls","begun"]:List Str) by decide +kernel) rfl (Or.inr rfl))) (fun _=>qY) (fun _=>(kB (QW rfl) B.sum_ (kW (own:=["counts"]) (ix:=[0]) (qu rfl) rfl (jjo (pv 1)) (fun _=>(kq (i:=0) (show List.Nodup (["counts","falls"]:List Str) by decide +kernel) rfl (Or.inl rfl))) (fun _=>qY) (fun _=>(pX kU (pv 0) (pv 1)))))))))))),?_⟩
  try dsimp only[jN]
  unfold GO at Hm;replace ja:(ji C_Order).rep K Fe order jv:=ja;refine(yB (K:=K) (c:=(cL cI)) (qZ (ju jjc (kA (xD (qK (jm _) (xC (c:=cI)) rfl) (by decide))) (kM kH (eV (i:=0) ja) rfl) rfl)) X Hm ?_);intro nothing V1 F H Hm E X jB;replace ja:=E.xc ja;refine(jjj (K:=K) (jdm (qL (jm _) (zo o_u (jm _) rfl) rfl) (qZ (je jaN (kA (xD (qK (jm _) (xC (c:=cI)) rfl) (by decide))) (kA (zP (jQ (qf (eV (i:=1) jB))) (qM (jm _) rfl) Gu rfl)) rfl)) rfl) X Hm ?_);intro begun GB F H Hm E X j3;replace ja:=E.xc ja;replace jB:=E.xc jB;refine Jp (K:=K) (c:=cI) ?_ X Hm (fun F1 begun σ' F' H'=>∃ (GB:V) (w6_:Option V) (w7_:Option V) (w8_:Option V) (w9_:Option V) (w10_:Option V) (w11_:Option V) (w12_:Option V) (w13_:Option V),σ'=[some jv,some V1,some GB,w6_,w7_,w8_,w9_,w10_,w11_,w12_,w13_]/\(Ext Fe H0 F' H'/\Same F1 F')/\(cFD (κ:=(Int×Int)) (cL cI)).rep K F' begun GB) ?_ ?_ ?_ ?_
  ·exact(jeQ (kM kH (jV (p:=pF (ji C_Order)) (i:=0) rfl ja) rfl) rfl)
  ·intro F H E X;replace j3:=E.xc j3;exact⟨_,_,_,_,_,_,_,_,_,rfl,⟨X,(Same.refl _)⟩,j3⟩
  ·rintro F1 begun σ_ F_ H_ ⟨GB,w6_,w7_,w8_,w9_,w10_,w11_,w12_,w13_,rfl,⟨X_,SF_⟩,j3⟩;exact⟨X_,SF_⟩
  ·rintro F1 S0_ begun B_ place V2 σ_ F_ H_ F H ⟨GB,w6_,w7_,w8_,w9_,w10_,w11_,w12_,w13_,rfl,⟨X,SF_⟩,j3⟩ E V3 Hm
   try dsimp only at Hm
   have SL0:=SF_;replace SF_:=Same.trans S0_ SF_;replace ja:=Cd.mono _ SF_ ja;replace jB:=Cd.mono _ SF_ jB;replace X:=Ext.trans X E;replace ja:=E.xc ja;replace jB:=E.xc jB;replace j3:=E.xc j3;replace SL0:=E.xd SL0;obtain rfl:V2=.int place:=V3;refine x9 ?_;refine(jji (K:=K) (jhc (κ:=(Int×Int)) (c:=(cL cI))) X Hm ?_);intro longer yf F H Hm E X Hn Ag;replace ja:=E.xc ja;replace jB:=E.xc jB;replace j3:=E.xc j3;replace SL0:=E.xd SL0;refine jaT (K:=K) (c:=(cP cI cI)) ?_ X Hm (fun F1 longer σ' F' H'=>∃ (yf:Addr) (w14_:Option V) (w15_:Option V) (w16_:Option V) (w17_:Option V) (w18_:Option V) (w19_:Option V),σ'=[some jv,some V1,some GB,some (.int place),some (.ref yf),w14_,w15_,w16_,w17_,w18_,w19_]/\(Ext Fe H0 F' H'/\Same F1 F')/\OwnDT K H0 F' H' (cL cI) longer yf) ?_ ?_ ?_ ?_
   ·exact(jdn (jV (p:=pF (cFD (κ:=(Int×Int)) (cL cI))) (i:=2) rfl j3) rfl)
   ·intro F H E X;replace Ag:=Ag.mono E;exact⟨_,_,_,_,_,_,_,rfl,⟨X,(Same.refl _)⟩,Ag⟩
   ·rintro F1 longer σ_ F_ H_ ⟨yf,w14_,w15_,w16_,w17_,w18_,w19_,rfl,⟨X_,SF_⟩,Ag⟩;exact⟨X_,SF_⟩
   ·rintro F1 S0_ longer B_ ⟨ahead,last⟩ jny σ_ F_ H_ F H ⟨yf,w14_,w15_,w16_,w17_,w18_,w19_,rfl,⟨X,SF_⟩,Ag⟩ E jmy Hm
    try dsimp only at Hm
    have SL1:=SF_;replace SF_:=Same.trans S0_ SF_;replace ja:=Cd.mono _ SF_ ja;replace jB:=Cd.mono _ SF_ jB;replace j3:=Cd.mono _ SF_ j3;replace X:=Ext.trans X E;replace ja:=E.xc ja;replace jB:=E.xc jB;replace j3:=E.xc j3;replace Ag:=Ag.mono E;replace SL1:=E.xd SL1;refine jcg jmy X.sub fun VZ jls V0 jlt=>?_;obtain rfl:VZ=.int ahead:=V0;obtain rfl:jls=.int last:=jlt;refine(yB (K:=K) (c:=(cL cI)) (ZW (eV (i:=2) j3) (qL (eI (i:=5)) (eI (i:=6)) rfl) rfl) X Hm ?_);intro counts Ql F H Hm E X jr;replace ja:=E.xc ja;replace jB:=E.xc jB;replace Ag:=Ag.mono E;replace SL1:=E.xd SL1;refine ZF (K:=K) (c:=cI) ?_ X Hm (fun F1 longer σ' F' H'=>∃ (yf:Addr) (w21_:Option V) (w22_:Option V) (w23_:Option V),σ'=[some jv,some V1,some GB,some (.int place),some (.ref yf),some (.int ahead),some (.int last),some Ql,w21_,w22_,w23_]/\(Ext Fe H0 F' H'/\Same F1 F')/\OwnDT K H0 F' H' (cL cI) longer yf) ?_ ?_ ?_ ?_
    ·exact(Vp (qZ (jo (jV (p:=pF (ji C_Order)) (i:=0) rfl ja) (jau (i:=5) rfl) rfl)))
    ·intro F H E X;replace Ag:=Ag.mono E;exact⟨_,_,_,_,rfl,⟨X,(Same.refl _)⟩,Ag⟩
    ·rintro F1 longer σ_ F_ H_ ⟨yf,w21_,w22_,w23_,rfl,⟨X_,SF_⟩,Ag⟩;exact⟨X_,SF_⟩
    ·rintro F1 S0_ longer B_ thing qU σ_ F_ H_ F H ⟨yf,w21_,w22_,w23_,rfl,⟨X,SF_⟩,Ag⟩ E qV Hm
     try dsimp only at Hm
     have SL2:=SF_;replace SF_:=Same.trans S0_ SF_;replace jB:=Cd.mono _ SF_ jB;replace jr:=Cd.mono _ SF_ jr;replace X:=Ext.trans X E;replace jB:=E.xc jB;replace Ag:=Ag.mono E;replace jr:=E.xc jr;replace SL2:=E.xd SL2;obtain rfl:qU=.int thing:=qV;refine x9 ?_;refine(yB (K:=K) (c:=(cP cI cI)) (QZ (ju kE (eI (i:=5)) (je W2 (jm _) (eI (i:=8)) rfl) rfl) (eI (i:=8)) rfl) X Hm ?_);intro grown jjI F H Hm E X Gd;replace jB:=E.xc jB;replace Ag:=Ag.mono E;replace jr:=E.xc jr;replace SL2:=E.xd SL2;refine(yB (K:=K) (c:=(cL cI)) (Jy (kY (je yX (eI (i:=6)) (eI (i:=8)) rfl)) (qZ (jx (qf (eV (i:=7) jr)) rfl)) (eV (i:=7) jr) rfl) X Hm ?_);intro more jmS F H Hm E X jf6;replace jB:=E.xc jB;replace Ag:=Ag.mono E;replace Gd:=E.xc Gd;replace SL2:=E.xd SL2;refine(jhe (K:=K) (k':=4) rfl Ag (qZ (jo (qf (Yk (jV (p:=pDT (κ:=(Int×Int)) (cL cI)) (i:=4) rfl Ag.b) (eV (i:=9) Gd) (eV (i:=1) jB) rfl)) (qf (eV (i:=10) jf6)) rfl)) (eV (i:=9) Gd) X Hm ?_);intro longer F H Hm Cg X Ag;replace SL2:=Same.trans SL2 Cg.f;cases Hm;exact⟨F,_,_,_,_,rfl,⟨X,SL2⟩,Ag⟩
    ·rintro F1 S0_ longer σ_ F H Hm ⟨yf,w21_,w22_,w23_,rfl,⟨X,SF_⟩,Ag⟩
     try dsimp only at Hm
     replace SF_:=Same.trans S0_ SF_;replace SL1:=Same.trans SL1 SF_;cases Hm;exact⟨F,_,_,_,_,_,_,_,rfl,⟨X,SL1⟩,Ag⟩
   ·rintro F1 S0_ longer σ_ F H Hm ⟨yf,w14_,w15_,w16_,w17_,w18_,w19_,rfl,⟨X,SF_⟩,Ag⟩
    try dsimp only at Hm
    replace SF_:=Same.trans S0_ SF_;replace j3:=Cd.mono _ SF_ j3;replace SL0:=Same.trans SL0 SF_;refine(jjk (K:=K) (j:=4) rfl Ag X Hm ?_);intro begun GB F H Hm Cg X j3;replace SL0:=Same.trans SL0 Cg.f;cases Hm;exact⟨F,_,_,_,_,_,_,_,_,_,rfl,⟨X,SL0⟩,j3⟩
  ·rintro F1 S0_ begun σ_ F H Hm ⟨GB,w6_,w7_,w8_,w9_,w10_,w11_,w12_,w13_,rfl,⟨X,SF_⟩,j3⟩
   try dsimp only at Hm
   replace SF_:=Same.trans S0_ SF_;replace ja:=Cd.mono _ SF_ ja;exact jw (K:=K) (qg (Jz (kM kH (eV (i:=0) ja) rfl) rfl) [some GB] rfl (fun b35 falls _ _ E34=>ym) (fun b35 falls _ _ E34=>(kF jez (jQ (kA (JA (jbi (eV (i:=1) (Cd.mono _ (E34).f j3)) rfl) [some (.int falls)] rfl (fun b37 counts Ql _ _ E36 jr=>ym) (fun b37 counts Ql _ _ E36 jr=>(je zm (jQ (qf (eV (i:=0) jr))) (eI (i:=1)) rfl)) rfl))) rfl)) rfl) X Hm Kk
def YQ (Fn:Fun K "told_falls" "told_falls" (top 119) f fd):FnOk P w K mg base CX0 5 f fd ["spot"] (sp1 K (pF (jE C_Order C_Spot)) (rF cS) qE):=by
  refine(ok1 (N:=["spot"]) Fn fun cdv A outer s H0 Q E_ hr nd hu spot kR Fe R X jn Hm Kk=>?_);refine⟨_,(jf (js (pD_ xr hr (jb (pD_ UE hr (jb (jY (pv 0) rfl) jd)) jd)))),?_⟩
  try dsimp only[jN]
  unfold qE at Hm;replace jn:(jE C_Order C_Spot).rep K Fe spot kR:=jn;exact jw (K:=K) (kK (kA (jx (jp (jR Ae) (eV (i:=0) jn) rfl) rfl)) rfl) X Hm Kk
def jad (Fn:Fun K "is_number" "is_number" (top 123) f fd):FnOk P w K mg base CX0 1 f fd ["word"] (sp1 K (pF cS) (rF cB) xJ):=by
  refine(ok1 (N:=["word"]) Fn fun cdv A outer s H0 Q E_ hr nd hu word Uc Fe R X Gn Hm Kk=>?_);obtain⟨t_MOST_FIGURES,g_MOST_FIGURES⟩:=Gx;obtain⟨t_FIGURES,g_FIGURES⟩:=VV;refine⟨_,(jc (xn (PW.pt (V8 (Jj (J8 UY UY jl (kB Zw B.len_ (pv 0)) (Uf (v:=.int 6) rfl g_MOST_FIGURES ⟨_,rfl⟩))) (UL (PW.pt (jbT (jM GF (pX jkg (pv 0) jl) kg (jT _)) (WP (jM Qm (pv 0) kg (jT _)))))))) (jf (js QR)) j2) (jf (js (kB (jb7 rfl) B.all_ (kW (own:=["sign"]) (ix:=[]) (qu rfl) rfl (jil (pv 0)) (fun _=>(kq (i:=0) (show List.Nodup (["sign"]:List Str) by decide +kernel) rfl (Or.inl rfl))) (fun _=>qY) (fun _=>(Js jd2 (pv 0) (Uf (v:=.str "0123456789") rfl g_FIGURES ⟨_,rfl⟩) (by with_unfolding_all rfl)))))))),?_⟩
  try dsimp only[jN]
  unfold xJ at Hm;obtain rfl:Uc=.str word:=Gn;refine(jgE (K:=K) (jaU (Qb (kY (Z0 (jm _) (jh jk4 (Qa (i:=0) rfl) rfl) (jm _) rfl)) rfl) (jgQ (kY (ju jc5 (je jl2 (Qa (i:=0) rfl) (jm _) rfl) (kd _) rfl)) (kY (je jgx (Qa (i:=0) rfl) (kd _) rfl)) rfl) rfl) X Hm ?_ ?_)
  ·intro F H Hm E X
   try dsimp only[we] at Hm
   exact jw (K:=K) (QX _) X Hm Kk
  ·intro F H Hm E X
   try dsimp only[X9] at Hm
   refine G0 ?_;exact jw (K:=K) (kF jkC (jQ (kA (Qc (jdq (Qa (i:=0) rfl) rfl) [] rfl (fun b6 sign jf7 _ _ E5 jcL=>ym) (fun b6 sign jf7 _ _ E5 jcL=>(je jl1 (eV (i:=0) jcL) (kd _) rfl)) rfl))) rfl) X Hm Kk
def jdB (Fn:Fun K "figures" "figures" (top 95) f fd):FnOk P w K mg base CX0 1 f fd ["things"] (sp1 K (pB cI) (rF cS) JN):=by
  refine(ok1 (N:=["things"]) Fn fun cdv A outer s H0 Q E_ hr nd hu yO Gm Fe R X ye Hm Kk=>?_);refine⟨_,(jf (js (zQ Xz PySem.F.slot_str_join PySem.F.type_str_join Ur kg (jb (kW (own:=["thing"]) (ix:=[]) (qu rfl) rfl (qw (pv 0)) (fun _=>(kq (i:=0) (show List.Nodup (["thing"]:List Str) by decide +kernel) rfl (Or.inl rfl))) (fun _=>qY) (fun _=>(cY jX B.str_ (pv 0)))) jd)))),?_⟩
  try dsimp only[jN]
  unfold JN at Hm;have qI:Bor K H0 Fe cI yO Gm:=ye;clear ye;exact jw (K:=K) (Qe (kd _) (jQ (kA (xE (yA (jQ (jV (p:=pB cI) (i:=0) rfl (Bor.b qI X)))) [] rfl (fun b2 thing _ _ E1=>ym) (fun b2 thing _ _ E1=>(jh zp (eI (i:=0)) rfl)) rfl))) rfl) X Hm Kk
def VS (Fn:Fun K "with_downset" "with_downset" (top 98) f fd):FnOk P w K mg base CX0 3 f fd ["spot","bits"] (sp2 K (pF (jE C_Order C_Spot)) (pF cI) (rF (jE C_Order C_Spot)) qQ):=by
  refine(ok2 (N:=["spot","bits"]) Fn fun cdv A outer s H0 Q E_ hr nd hu spot bits kR xN Fe R X jn xO Hm Kk=>?_);refine⟨_,(jf (js (Jm yj (hr.mono (by decide)) rfl (jb (jY (pv 0) rfl) (jb (pv 1) (jb (jY (pv 0) rfl) (jb (QS (jM GF (pv 1) jl (jT _)) kg (pD_ VX hr (jb (pD_ kP hr (jb (pv 1) jd)) jd))) jd))))))),?_⟩
  try dsimp only[jN]
  unfold qQ at Hm;replace jn:(jE C_Order C_Spot).rep K Fe spot kR:=jn;obtain rfl:xN=.int bits:=xO;exact jw (K:=K) (Um (jp (jR Ae) (eV (i:=0) jn) rfl) (eI (i:=1)) (jp (yD Ae) (eV (i:=0) jn) rfl) (Jy (kY (je Uj (eI (i:=1)) (jm _) rfl)) (kd _) (kK (kA (jx (eI (i:=1)) rfl)) rfl) rfl) rfl) X Hm Kk
def jbA (Fn:Fun K "at_great" "at_great" (top 105) f fd):FnOk P w K mg base CX0 8 f fd ["spot"] (sp1 K (pF (jE C_Order C_Spot)) (rF (jE C_Order C_Spot)) xR):=by
  refine(ok1 (N:=["spot"]) Fn fun cdv A outer s H0 Q E_ hr nd hu spot kR Fe R X jn Hm Kk=>?_);refine⟨_,(jf (js (pD_ yb hr (jb (pv 0) (jb (qv yt (hr.mono (by decide)) (Jm zA (hr.mono (by decide)) rfl (jb (jY (pv 0) rfl) jd)) (jb (jY (pv 0) rfl) jd)) jd))))),?_⟩
  try dsimp only[jN]
  unfold xR at Hm;replace jn:(jE C_Order C_Spot).rep K Fe spot kR:=jn;exact jw (K:=K) (jU (eV (i:=0) jn) (GK G4 (yo (jp (jR Ae) (eV (i:=0) jn) rfl) rfl) (jp (G3 Ae) (eV (i:=0) jn) rfl) rfl) rfl) X Hm Kk
def Az:FnScope ["self","order"] ["self","order"] (jD ((jC (top 86) 0))):=scK
def YR (Fn:Fun K "__init__" "Turn.__init__" ((jC (top 86) 0)) f fd):FnOk P w K mg base CX0 1 f fd ["self","order"] (jgR K qm (pF (ji C_Order)) (JI C_Order qm) qF):=by
 refine Fn.ok Az (fun vs H Q E h=>?_) (fun cdv A outer s Hq vs Q E_ hr h=>?_)
 ·obtain⟨_,_,_,_,_,_,_,rfl,_⟩:=h;rfl
 ·obtain⟨order,jv,Fe,H0,x_self,dx_self,R,rfl,rfl,n1_,n2_,n3_,S_,ja,Hm,Kk⟩:=h;have nd:=Az.nd;have hu:=Qp hr;refine⟨_,(jf (zl (pv 0) (pv 1) rfl)),?_⟩
  try dsimp only[jN]
  obtain⟨X,jW⟩:=yn (C:=qm) S_ n1_ n2_ n3_;unfold qF at Hm;replace ja:(ji C_Order).rep K Fe order jv:=ja;refine(UP (K:=K) (k':=0) (c:=(ji C_Order)) rfl jW Al.cl Al.n_order (XH (Xe 0) (by decide:0<1000)) (eV (i:=1) ja) X Hm ?_);intro f_order Gk F H Hm Cg X ko jW;cases Hm;obtain⟨F',X',Cg,hx⟩:=OwnI.freeze jW X;exact Kk F' H X' ⟨x_self,dx_self,_,rfl,hx,Cd.mono _ Cg.f ko⟩
def jdC (Fn:Fun K "is_line" "is_line" (top 40) f fd):FnOk P w K mg base CX0 2 f fd ["order","line"] (sp2 K (pF (ji C_Order)) (pF (cT cI)) (rF cB) yL):=by
  refine(ok2 (N:=["order","line","ahead","thing"]) Fn fun cdv A outer s H0 Q E_ hr nd hu order line jv Qz Fe R X ja j8 Hm Kk=>?_);refine⟨_,(jc (xn (jM (jhS hu) (kB ZL B.sorted_ (pv 1)) (cY (WZ rfl) B.list_ (jiF rfl B.range_ (jb (yy jO (hr.mono (by decide)) (pv 0)) jd))) (jT _)) (jf (js QR)) j2) (jc (pS (i:=2) nd jl) (jc (xu PassesOwn.never rfl (jbW (pv 1)) (pG (i:=3) nd) (jc (xn (Jj (GC (pD_ yi hr (jb (pv 2) (jb (pX zH (jY (pv 0) rfl) (pv 3)) jd))))) (jf (js QR)) j2) (jf (pS (i:=2) nd (jI Vd (pv 2) (jI QU jl (pv 3))))))) (jf (js QR))))),?_⟩
  try dsimp only[jN]
  unfold yL at Hm;replace ja:(ji C_Order).rep K Fe order jv:=ja;replace j8:(cT cI).rep K Fe line Qz:=j8;refine(jgE (K:=K) (kY (ju (jks (eqL eqI) (by decide) nfL) (jgw (kA (jh jeW (eV (i:=1) j8) rfl))) (jgw (kA (jeT (kM kH (eV (i:=0) ja) rfl) rfl))) rfl)) X Hm ?_ ?_)
  ·intro F H Hm E X
   try dsimp only[we] at Hm
   exact jw (K:=K) (QX _) X Hm Kk
  ·intro F H Hm E X
   try dsimp only[X9] at Hm
   replace ja:=E.xc ja;replace j8:=E.xc j8;refine G0 ?_;refine(qb (K:=K) (jm _) X Hm ?_);intro ahead F H Hm E X;replace ja:=E.xc ja;replace j8:=E.xc j8;refine jgP (K:=K) (c:=cI) (fun c=>c=R) ?_ X Hm ?_ (fun F1 ahead σ' F' H'=>∃ (w4_:Option V),σ'=[some jv,some Qz,some (.int ahead),w4_]/\(Ext Fe H0 F' H'/\Same F1 F')) ?_ ?_ ?_ ?_
   ·exact(jkz (jV (p:=pF (cT cI)) (i:=1) rfl j8))
   ·intro c h;exact Option.some.inj h
   ·intro F H E X;exact⟨_,rfl,⟨X,(Same.refl _)⟩⟩
   ·rintro F1 ahead σ_ F_ H_ ⟨w4_,rfl,⟨X_,SF_⟩⟩;exact⟨X_,SF_⟩
   ·rintro F1 S0_ ahead B_ thing qU σ_ F_ H_ F H ⟨w4_,rfl,⟨X,SF_⟩⟩ E qV Hm Hr
    try dsimp only at Hm
    have SL0:=SF_;replace SF_:=Same.trans S0_ SF_;replace ja:=Cd.mono _ SF_ ja;replace X:=Ext.trans X E;replace ja:=E.xc ja;replace SL0:=E.xd SL0;obtain rfl:qU=.int thing:=qV;refine x9 ?_;refine(jgE (K:=K) (Qb (zI (jU (eI (i:=2)) (je U0 (jp (q_ Af) (eV (i:=0) ja) rfl) (eI (i:=3)) rfl) rfl)) rfl) X Hm ?_ ?_)
    ·intro F H Hm E X
     try dsimp only[we] at Hm
     obtain⟨y_,Hy_,Hm⟩:=bind_some Hm;cases Hm;exact jw (K:=K) (QX _) X (Hy_.trans (congrArg some (Hr _ rfl))) Kk
    ·intro F H Hm E X
     try dsimp only[X9] at Hm
     replace SL0:=E.xd SL0;refine G0 ?_;refine(zR (K:=K) (ju kE (eI (i:=2)) (je W2 (jm _) (eI (i:=3)) rfl) rfl) X Hm ?_);intro ahead F H Hm E X;replace SL0:=E.xd SL0;cases Hm;exact⟨_,F,rfl,_,rfl,⟨X,SL0⟩⟩
   ·rintro F1 S0_ ahead σ_ F H Hm ⟨w4_,rfl,⟨X,SF_⟩⟩
    try dsimp only at Hm
    exact jw (K:=K) (QX _) X Hm Kk
def YS (Fn:Fun K "check_line" "check_line" (top 41) f fd):FnOk P w K mg base CX0 3 f fd ["order","line"] (sp2 K (pF (ji C_Order)) (pF (cT cI)) (rF cU) kh):=by
  refine(ok2 (N:=["order","line"]) Fn fun cdv A outer s H0 Q E_ hr nd hu order line jv Qz Fe R X ja j8 Hm Kk=>?_);refine⟨_,(jf (xn (Jj (GC (pD_ VY hr (jb (pv 0) (jb (pv 1) jd))))) (jf qz) j2)),?_⟩
  try dsimp only[jN]
  unfold kh at Hm;replace ja:(ji C_Order).rep K Fe order jv:=ja;replace j8:(cT cI).rep K Fe line Qz:=j8;refine(jgz (K:=K) (Qb (zI (jo (eV (i:=0) ja) (eV (i:=1) j8) rfl)) rfl) X Hm ?_ ?_)
  ·intro F H Hm E X
   try dsimp only[we] at Hm
   cases Hm
  ·intro F H Hm E X
   try dsimp only[X9] at Hm
   refine G0 ?_;cases Hm;exact Kk _ F H X rfl
def Qr (Fn:Fun K "check_thing" "Order.check_thing" ((jC (top 21) 2)) f fd):FnOk P w K mg base CX0 1 f fd ["self","thing"] (sp2 K (pF (ji C_Order)) (pF cI) (rF cU) kj):=by
  refine(ok2 (N:=["self","thing"]) Fn fun cdv A outer s H0 Q E_ hr nd hu self thing xz qU Fe R X jq qV Hm Kk=>?_);refine⟨_,(jf (xn (Jj (J8 UY V_ jl (pv 1) (jY (pv 0) rfl))) (jf qz) j2)),?_⟩
  try dsimp only[jN]
  unfold kj at Hm;replace jq:(ji C_Order).rep K Fe self xz:=jq;obtain rfl:qU=.int thing:=qV;refine(jcd (K:=K) (GI (kY (G1 (jm _) (eI (i:=1)) (jp (Qw Af) (eV (i:=0) jq) rfl) rfl)) rfl) X Hm ?_ ?_)
  ·intro F H Hc Hm E X;cases Hm
  ·intro F H Hc Hm E X;refine G0 ?_;cases Hm;exact Kk _ F H X rfl
def QK (Fn:Fun K "just_above" "Order.just_above" ((jC (top 21) 6)) f fd):FnOk P w K mg base CX0 2 f fd ["self","thing"] (sp2 K (pF (ji C_Order)) (pF cI) (rO cI) k5):=by
  refine(ok2 (N:=["self","thing"]) Fn fun cdv A outer s H0 Q E_ hr nd hu self thing xz qU Fe R X jq qV Hm Kk=>?_);refine⟨_,(jc (k7 (qv qo (hr.mono (by decide)) (pv 0) (jb (pv 1) jd))) (jf (js (kW (own:=["low","high"]) (ix:=[1]) (qu rfl) rfl (jbW (jY (pv 0) rfl)) (fun _=>(Qs rfl (kZ (kq (i:=0) (show List.Nodup (["low","high","thing"]:List Str) by decide +kernel) rfl (Or.inl rfl)) (kZ (kq (i:=1) (show List.Nodup (["low","high","thing"]:List Str) by decide +kernel) rfl (Or.inl rfl)) Gp)))) (fun _=>Gs (jM GF (pv 0) (pv 2) (jT _))) (fun _=>(pv 1)))))),?_⟩
  try dsimp only[jN]
  unfold k5 at Hm;replace jq:(ji C_Order).rep K Fe self xz:=jq;obtain rfl:qU=.int thing:=qV;refine(Jx (K:=K) (xj zJ (eV (i:=0) jq) (eI (i:=1)) rfl) X Hm ?_);intro _ F H Hm E X;replace jq:=E.xc jq;exact jw (K:=K) (Q0 (jeu (jp (x6 Af) (eV (i:=0) jq) rfl)) [some (.int thing)] rfl (fun b2 low high _ _ E1=>(kY (je Uj (eI (i:=0)) (eI (i:=2)) rfl))) (fun b2 low high _ _ E1=>(eI (i:=1))) rfl) X Hm Kk
def U7 (Fn:Fun K "places_within" "places_within" (top 83) f fd):FnOk P w K mg base CX0 1 f fd ["row","things"] (sp2 K (pF (cT cI)) (pB cI) (rO cI) kJ):=by
  refine(ok2 (N:=["row","things"]) Fn fun cdv A outer s H0 Q E_ hr nd hu row yO xZ Gm Fe R X jK ye Hm Kk=>?_);refine⟨_,(jf (js (kW (own:=["thing"]) (ix:=[0]) (qu rfl) rfl (qw (pv 1)) (fun _=>(kq (i:=0) (show List.Nodup (["thing","row"]:List Str) by decide +kernel) rfl (Or.inl rfl))) (fun _=>Gs (jM (jhT hu) (pv 0) (pv 1) (by with_unfolding_all rfl))) (fun _=>(jlW PySem.F.slot_tuple_index PySem.F.type_tuple_index jeZ (pv 1) (jb (pv 0) jd)))))),?_⟩
  try dsimp only[jN]
  unfold kJ at Hm;replace jK:(cT cI).rep K Fe row xZ:=jK;have qI:Bor K H0 Fe cI yO Gm:=ye;clear ye;exact jw (K:=K) (xE (yA (jQ (jV (p:=pB cI) (i:=1) rfl (Bor.b qI X)))) [some xZ] rfl (fun b2 thing _ _ E1=>(kY (je (jlS eqI (by decide)) (jgv (eI (i:=0))) (jgv (eV (i:=1) (Cd.mono _ (E1).f jK))) rfl))) (fun b2 thing _ _ E1=>(Yc (eV (i:=1) (Cd.mono _ (E1).f jK)) (eI (i:=0)) rfl)) rfl) X Hm Kk
def jjH (Fn:Fun K "slid" "slid" (top 84) f fd):FnOk P w K mg base CX0 3 f fd ["order","row"] (sp2 K (pF (ji C_Order)) (pF (cT cI)) (rF (cT cI)) JO):=by
  refine(ok2 (N:=["order","row","moved","gap","higher","place"]) Fn fun cdv A outer s H0 Q E_ hr nd hu order row jv xZ Fe R X ja jK Hm Kk=>?_);refine⟨_,(jc (pS (i:=2) nd (cY Jt B.list_ (pv 1))) (jc (pS (i:=3) nd (pX zH (pv 1) jl)) (jc (pS (i:=4) nd (pD_ qp hr (jb (pv 1) (jb (qv xx (hr.mono (by decide)) (pv 0) (jb (pv 3) jd)) jd)))) (jc (GY PassesOwn.never (jM Wa (kB jt B.len_ (pv 4)) jl (jT _)) (jc (pS (i:=5) nd (kB (je0 rfl) B.min_ (pv 4))) (jc (Wo (pv 3) (jdU (pv 2) (pv 5) WS)) (jc (pS (i:=3) nd (pX zH (pv 1) (pv 5))) (jf (pS (i:=4) nd (pD_ qp hr (jb (pv 1) (jb (qv xx (hr.mono (by decide)) (pv 0) (jb (pv 3) jd)) jd))))))))) (jf (js (cY yw B.tuple_ (jI Vi (zc Uh (pv 2) (Gr jl) Gq) (xB (jb (pv 3) jd)))))))))),?_⟩
  try dsimp only[jN]
  unfold JO at Hm;replace ja:(ji C_Order).rep K Fe order jv:=ja;replace jK:(cT cI).rep K Fe row xZ:=jK;refine(Jw (K:=K) (jh jaM (eV (i:=1) jK) rfl) X Hm ?_);intro moved yk F H Hm E X Hn Ac;replace ja:=E.xc ja;replace jK:=E.xc jK;refine(qb (K:=K) (je U0 (eV (i:=1) jK) (jm _) rfl) X Hm ?_);intro gap F H Hm E X;replace ja:=E.xc ja;replace jK:=E.xc jK;replace Ac:=Ac.mono E;refine(yB (K:=K) (c:=(cL cI)) (qZ (jU (eV (i:=1) jK) (kA (xj zU (eV (i:=0) ja) (eI (i:=3)) rfl)) rfl)) X Hm ?_);intro higher Go F H Hm E X qa;replace ja:=E.xc ja;replace jK:=E.xc jK;replace Ac:=Ac.mono E;refine QF (K:=K) X Hm (fun F1 b σ' F' H'=>match b with | (moved,gap,higher)=>∃ (yk:Addr) (Go:V) (w3_:Option V),σ'=[some jv,some xZ,some (.ref yk),some (.int gap),some Go,w3_]/\(Ext Fe H0 F' H'/\Same F1 F')/\Own K H0 F' H' cI moved yk/\(cL cI).rep K F' higher Go) ?_ ?_ ?_ ?_ ?_
  ·exact⟨_,_,_,rfl,⟨X,(Same.refl _)⟩,Ac,qa⟩
  ·rintro F1 ⟨moved,gap,higher⟩ σ_ F_ H_ ⟨yk,Go,w3_,rfl,⟨X_,SF_⟩,Ac,qa⟩;exact⟨X_,SF_⟩
  ·rintro⟨moved,gap,higher⟩ σ_ F H ⟨yk,Go,w3_,rfl,⟨X,SF_⟩,Ac,qa⟩;exact(kY (je yX (jh q8 (jQ (qf (jV (p:=pF (cL cI)) (i:=4) rfl qa))) rfl) (jm _) rfl))
  ·rintro⟨moved,gap,higher⟩ B_ σ_ F_ H_ F H ⟨yk,Go,w3_,rfl,⟨X,SF_⟩,Ac,qa⟩ E Hm
   try dsimp only at Hm
   have SL0:=SF_;replace ja:=Cd.mono _ SF_ ja;replace jK:=Cd.mono _ SF_ jK;replace X:=Ext.trans X E;replace ja:=E.xc ja;replace jK:=E.xc jK;replace Ac:=Ac.mono E;replace qa:=E.xc qa;replace SL0:=E.xd SL0;refine(qb (K:=K) (jh jkJ (jQ (qf (eV (i:=4) qa))) rfl) X Hm ?_);intro place F H Hm E X;replace ja:=E.xc ja;replace jK:=E.xc jK;replace Ac:=Ac.mono E;replace qa:=E.xc qa;replace SL0:=E.xd SL0;refine(jck (K:=K) (k':=2) rfl Ac (eI (i:=3)) (eI (i:=5)) X Hm ?_);intro moved F H Hm Cg X Ac;replace ja:=Cd.mono _ Cg.f ja;replace jK:=Cd.mono _ Cg.f jK;replace qa:=Cd.mono _ Cg.f qa;replace SL0:=Same.trans SL0 Cg.f;refine(qb (K:=K) (je U0 (eV (i:=1) jK) (eI (i:=5)) rfl) X Hm ?_);intro gap F H Hm E X;replace ja:=E.xc ja;replace jK:=E.xc jK;replace Ac:=Ac.mono E;replace qa:=E.xc qa;replace SL0:=E.xd SL0;refine(Jv (K:=K) (c:=(cL cI)) (qZ (jU (eV (i:=1) jK) (kA (xj zU (eV (i:=0) ja) (eI (i:=3)) rfl)) rfl)) X Hm ?_);intro higher Go F H Hm E X qa;replace Ac:=Ac.mono E;replace SL0:=E.xd SL0;cases Hm;exact⟨F,_,_,_,rfl,⟨X,SL0⟩,Ac,qa⟩
  ·rintro⟨moved,gap,higher⟩ σ_ F_ H_ F H ⟨yk,Go,w3_,rfl,⟨X,SF_⟩,Ac,qa⟩ E Hm
   try dsimp only at Hm
   replace X:=Ext.trans X E;replace Ac:=Ac.mono E;exact jw (K:=K) (kF ZE (jQ (kA (je jaN (kA (zP (jQ (jV (p:=pB cI) (i:=2) rfl Ac.b)) (qM (jm _) rfl) Gu rfl)) (kA (xD (qK (eI (i:=3)) (xC (c:=cI)) rfl) (by decide))) rfl))) rfl) X Hm Kk
def YT (Fn:Fun K "done" "Slide.done" ((jC (top 88) 0)) f fd):FnOk P w K mg base CX0 4 f fd ["self","one"] (sp2 K (pF (JI C_Order qm)) (pF (cT cI)) (rF (cT cI)) kN):=by
  refine(ok2 (N:=["self","one"]) Fn fun cdv A outer s H0 Q E_ hr nd hu self one xz GW Fe R X jq ky Hm Kk=>?_);refine⟨_,(jc (k7 (pD_ qH hr (jb (jY (pv 0) rfl) (jb (pv 1) jd)))) (jf (js (pD_ jao hr (jb (jY (pv 0) rfl) (jb (pv 1) jd)))))),?_⟩
  try dsimp only[jN]
  unfold kN at Hm;replace jq:(JI C_Order qm).rep K Fe self xz:=jq;replace ky:(cT cI).rep K Fe one GW:=ky;refine(Jx (K:=K) (jo (jp (yE Al) (eV (i:=0) jq) rfl) (eV (i:=1) ky) rfl) X Hm ?_);intro _ F H Hm E X;replace jq:=E.xc jq;replace ky:=E.xc ky;exact jw (K:=K) (jo (jp (yE Al) (eV (i:=0) jq) rfl) (eV (i:=1) ky) rfl) X Hm Kk
def jae (Fn:Fun K "figures" "figures" (top 95) f fd):FnOk P w K mg base CX0 1 f fd ["things"] (sp1 K (pF (cT cI)) (rF cS) qk):=by
  refine(ok1 (N:=["things"]) Fn fun cdv A outer s H0 Q E_ hr nd hu yO Gm Fe R X ye Hm Kk=>?_);refine⟨_,(jf (js (zQ Xz PySem.F.slot_str_join PySem.F.type_str_join Ur kg (jb (kW (own:=["thing"]) (ix:=[]) (qu rfl) rfl (jbW (pv 0)) (fun _=>(kq (i:=0) (show List.Nodup (["thing"]:List Str) by decide +kernel) rfl (Or.inl rfl))) (fun _=>qY) (fun _=>(cY jX B.str_ (pv 0)))) jd)))),?_⟩
  try dsimp only[jN]
  unfold qk at Hm;replace ye:(cT cI).rep K Fe yO Gm:=ye;exact jw (K:=K) (Qe (kd _) (jQ (kA (xE (jeu (eV (i:=0) ye)) [] rfl (fun b2 thing _ _ E1=>ym) (fun b2 thing _ _ E1=>(jh zp (eI (i:=0)) rfl)) rfl))) rfl) X Hm Kk
def jaf (Fn:Fun K "with_line" "with_line" (top 99) f fd):FnOk P w K mg base CX0 3 f fd ["spot","line"] (sp2 K (pF (jE C_Order C_Spot)) (pF (cT cI)) (rF (jE C_Order C_Spot)) qR):=by
  refine(ok2 (N:=["spot","line"]) Fn fun cdv A outer s H0 Q E_ hr nd hu spot line kR Qz Fe R X jn j8 Hm Kk=>?_);refine⟨_,(jf (js (Jm yj (hr.mono (by decide)) rfl (jb (jY (pv 0) rfl) (jb (jY (pv 0) rfl) (jb (pv 1) (jb (pD_ QO hr (jb (pv 1) jd)) jd))))))),?_⟩
  try dsimp only[jN]
  unfold qR at Hm;replace jn:(jE C_Order C_Spot).rep K Fe spot kR:=jn;replace j8:(cT cI).rep K Fe line Qz:=j8;exact jw (K:=K) (Um (jp (jR Ae) (eV (i:=0) jn) rfl) (jp (G3 Ae) (eV (i:=0) jn) rfl) (eV (i:=1) j8) (jx (eV (i:=1) j8) rfl) rfl) X Hm Kk
def jbB (Fn:Fun K "at_slide" "at_slide" (top 107) f fd):FnOk P w K mg base CX0 5 f fd ["spot"] (sp1 K (pF (jE C_Order C_Spot)) (rF (jE C_Order C_Spot)) xS):=by
  refine(ok1 (N:=["spot"]) Fn fun cdv A outer s H0 Q E_ hr nd hu spot kR Fe R X jn Hm Kk=>?_);refine⟨_,(jf (js (pD_ qr hr (jb (pv 0) (jb (qv JY (hr.mono (by decide)) (Jm zB (hr.mono (by decide)) rfl (jb (jY (pv 0) rfl) jd)) (jb (jY (pv 0) rfl) jd)) jd))))),?_⟩
  try dsimp only[jN]
  unfold xS at Hm;replace jn:(jE C_Order C_Spot).rep K Fe spot kR:=jn;exact jw (K:=K) (jU (eV (i:=0) jn) (GK Yr (yo (jp (jR Ae) (eV (i:=0) jn) rfl) rfl) (jp (yD Ae) (eV (i:=0) jn) rfl) rfl) rfl) X Hm Kk
def QL (Fn:Fun K "just_below" "Order.just_below" ((jC (top 21) 5)) f fd):FnOk P w K mg base CX0 2 f fd ["self","thing"] (sp2 K (pF (ji C_Order)) (pF cI) (rO cI) k6):=by
  refine(ok2 (N:=["self","thing"]) Fn fun cdv A outer s H0 Q E_ hr nd hu self thing xz qU Fe R X jq qV Hm Kk=>?_);refine⟨_,(jc (k7 (qv qo (hr.mono (by decide)) (pv 0) (jb (pv 1) jd))) (jf (js (kW (own:=["low","high"]) (ix:=[1]) (qu rfl) rfl (jbW (jY (pv 0) rfl)) (fun _=>(Qs rfl (kZ (kq (i:=0) (show List.Nodup (["low","high","thing"]:List Str) by decide +kernel) rfl (Or.inl rfl)) (kZ (kq (i:=1) (show List.Nodup (["low","high","thing"]:List Str) by decide +kernel) rfl (Or.inl rfl)) Gp)))) (fun _=>Gs (jM GF (pv 1) (pv 2) (jT _))) (fun _=>(pv 0)))))),?_⟩
  try dsimp only[jN]
  unfold k6 at Hm;replace jq:(ji C_Order).rep K Fe self xz:=jq;obtain rfl:qU=.int thing:=qV;refine(Jx (K:=K) (xj zJ (eV (i:=0) jq) (eI (i:=1)) rfl) X Hm ?_);intro _ F H Hm E X;replace jq:=E.xc jq;exact jw (K:=K) (Q0 (jeu (jp (x6 Af) (eV (i:=0) jq) rfl)) [some (.int thing)] rfl (fun b2 low high _ _ E1=>(kY (je Uj (eI (i:=1)) (eI (i:=2)) rfl))) (fun b2 low high _ _ E1=>(eI (i:=0))) rfl) X Hm Kk
def jag (Fn:Fun K "slid_back" "slid_back" (top 85) f fd):FnOk P w K mg base CX0 3 f fd ["order","row"] (sp2 K (pF (ji C_Order)) (pF (cT cI)) (rF (cT cI)) qS):=by
  refine(ok2 (N:=["order","row","moved","gap","lower","place"]) Fn fun cdv A outer s H0 Q E_ hr nd hu order row jv xZ Fe R X ja jK Hm Kk=>?_);refine⟨_,(jc (pS (i:=2) nd (cY Jt B.list_ (pv 1))) (jc (pS (i:=3) nd (pX zH (pv 1) (Zo Ve jl))) (jc (pS (i:=4) nd (pD_ qp hr (jb (pv 1) (jb (qv xy (hr.mono (by decide)) (pv 0) (jb (pv 3) jd)) jd)))) (jc (GY PassesOwn.never (jM Wa (kB jt B.len_ (pv 4)) jl (jT _)) (jc (pS (i:=5) nd (kB (je1 rfl) B.max_ (pv 4))) (jc (Wo (pv 3) (jdU (pv 2) (pv 5) WS)) (jc (pS (i:=3) nd (pX zH (pv 1) (pv 5))) (jf (pS (i:=4) nd (pD_ qp hr (jb (pv 1) (jb (qv xy (hr.mono (by decide)) (pv 0) (jb (pv 3) jd)) jd))))))))) (jf (js (cY yw B.tuple_ (jI Vi (xB (jb (pv 3) jd)) (zc Uh (pv 2) Gq (Gr (Zo Ve jl))))))))))),?_⟩
  try dsimp only[jN]
  unfold qS at Hm;replace ja:(ji C_Order).rep K Fe order jv:=ja;replace jK:(cT cI).rep K Fe row xZ:=jK;refine(Jw (K:=K) (jh jaM (eV (i:=1) jK) rfl) X Hm ?_);intro moved yk F H Hm E X Hn Ac;replace ja:=E.xc ja;replace jK:=E.xc jK;refine(qb (K:=K) (je U0 (eV (i:=1) jK) (zo o_u (jm _) rfl) rfl) X Hm ?_);intro gap F H Hm E X;replace ja:=E.xc ja;replace jK:=E.xc jK;replace Ac:=Ac.mono E;refine(yB (K:=K) (c:=(cL cI)) (qZ (jU (eV (i:=1) jK) (kA (xj zV (eV (i:=0) ja) (eI (i:=3)) rfl)) rfl)) X Hm ?_);intro lower J5 F H Hm E X xt;replace ja:=E.xc ja;replace jK:=E.xc jK;replace Ac:=Ac.mono E;refine QF (K:=K) X Hm (fun F1 b σ' F' H'=>match b with | (moved,gap,lower)=>∃ (yk:Addr) (J5:V) (w3_:Option V),σ'=[some jv,some xZ,some (.ref yk),some (.int gap),some J5,w3_]/\(Ext Fe H0 F' H'/\Same F1 F')/\Own K H0 F' H' cI moved yk/\(cL cI).rep K F' lower J5) ?_ ?_ ?_ ?_ ?_
  ·exact⟨_,_,_,rfl,⟨X,(Same.refl _)⟩,Ac,xt⟩
  ·rintro F1 ⟨moved,gap,lower⟩ σ_ F_ H_ ⟨yk,J5,w3_,rfl,⟨X_,SF_⟩,Ac,xt⟩;exact⟨X_,SF_⟩
  ·rintro⟨moved,gap,lower⟩ σ_ F H ⟨yk,J5,w3_,rfl,⟨X,SF_⟩,Ac,xt⟩;exact(kY (je yX (jh q8 (jQ (qf (jV (p:=pF (cL cI)) (i:=4) rfl xt))) rfl) (jm _) rfl))
  ·rintro⟨moved,gap,lower⟩ B_ σ_ F_ H_ F H ⟨yk,J5,w3_,rfl,⟨X,SF_⟩,Ac,xt⟩ E Hm
   try dsimp only at Hm
   have SL0:=SF_;replace ja:=Cd.mono _ SF_ ja;replace jK:=Cd.mono _ SF_ jK;replace X:=Ext.trans X E;replace ja:=E.xc ja;replace jK:=E.xc jK;replace Ac:=Ac.mono E;replace xt:=E.xc xt;replace SL0:=E.xd SL0;refine(qb (K:=K) (jh jkK (jQ (qf (eV (i:=4) xt))) rfl) X Hm ?_);intro place F H Hm E X;replace ja:=E.xc ja;replace jK:=E.xc jK;replace Ac:=Ac.mono E;replace xt:=E.xc xt;replace SL0:=E.xd SL0;refine(jck (K:=K) (k':=2) rfl Ac (eI (i:=3)) (eI (i:=5)) X Hm ?_);intro moved F H Hm Cg X Ac;replace ja:=Cd.mono _ Cg.f ja;replace jK:=Cd.mono _ Cg.f jK;replace xt:=Cd.mono _ Cg.f xt;replace SL0:=Same.trans SL0 Cg.f;refine(qb (K:=K) (je U0 (eV (i:=1) jK) (eI (i:=5)) rfl) X Hm ?_);intro gap F H Hm E X;replace ja:=E.xc ja;replace jK:=E.xc jK;replace Ac:=Ac.mono E;replace xt:=E.xc xt;replace SL0:=E.xd SL0;refine(Jv (K:=K) (c:=(cL cI)) (qZ (jU (eV (i:=1) jK) (kA (xj zV (eV (i:=0) ja) (eI (i:=3)) rfl)) rfl)) X Hm ?_);intro lower J5 F H Hm E X xt;replace Ac:=Ac.mono E;replace SL0:=E.xd SL0;cases Hm;exact⟨F,_,_,_,rfl,⟨X,SL0⟩,Ac,xt⟩
  ·rintro⟨moved,gap,lower⟩ σ_ F_ H_ F H ⟨yk,J5,w3_,rfl,⟨X,SF_⟩,Ac,xt⟩ E Hm
   try dsimp only at Hm
   replace X:=Ext.trans X E;replace Ac:=Ac.mono E;exact jw (K:=K) (kF ZE (jQ (kA (je jaN (kA (xD (qK (eI (i:=3)) (xC (c:=cI)) rfl) (by decide))) (kA (zP (jQ (jV (p:=pB cI) (i:=2) rfl Ac.b)) Gu (qM (zo o_u (jm _) rfl) rfl) rfl)) rfl))) rfl) X Hm Kk
def YU (Fn:Fun K "back" "Slide.back" ((jC (top 88) 1)) f fd):FnOk P w K mg base CX0 4 f fd ["self","one"] (sp2 K (pF (JI C_Order qm)) (pF (cT cI)) (rF (cT cI)) qd):=by
  refine(ok2 (N:=["self","one"]) Fn fun cdv A outer s H0 Q E_ hr nd hu self one xz GW Fe R X jq ky Hm Kk=>?_);refine⟨_,(jc (k7 (pD_ qH hr (jb (jY (pv 0) rfl) (jb (pv 1) jd)))) (jf (js (pD_ Gb hr (jb (jY (pv 0) rfl) (jb (pv 1) jd)))))),?_⟩
  try dsimp only[jN]
  unfold qd at Hm;replace jq:(JI C_Order qm).rep K Fe self xz:=jq;replace ky:(cT cI).rep K Fe one GW:=ky;refine(Jx (K:=K) (jo (jp (yE Al) (eV (i:=0) jq) rfl) (eV (i:=1) ky) rfl) X Hm ?_);intro _ F H Hm E X;replace jq:=E.xc jq;replace ky:=E.xc ky;exact jw (K:=K) (jo (jp (yE Al) (eV (i:=0) jq) rfl) (eV (i:=1) ky) rfl) X Hm Kk
def YV (Fn:Fun K "at_unslide" "at_unslide" (top 108) f fd):FnOk P w K mg base CX0 5 f fd ["spot"] (sp1 K (pF (jE C_Order C_Spot)) (rF (jE C_Order C_Spot)) qG):=by
  refine(ok1 (N:=["spot"]) Fn fun cdv A outer s H0 Q E_ hr nd hu spot kR Fe R X jn Hm Kk=>?_);refine⟨_,(jf (js (pD_ qr hr (jb (pv 0) (jb (qv JZ (hr.mono (by decide)) (Jm zB (hr.mono (by decide)) rfl (jb (jY (pv 0) rfl) jd)) (jb (jY (pv 0) rfl) jd)) jd))))),?_⟩
  try dsimp only[jN]
  unfold qG at Hm;replace jn:(jE C_Order C_Spot).rep K Fe spot kR:=jn;exact jw (K:=K) (jU (eV (i:=0) jn) (GK Ys (yo (jp (jR Ae) (eV (i:=0) jn) rfl) rfl) (jp (yD Ae) (eV (i:=0) jn) rfl) rfl) rfl) X Hm Kk
def A0:FnScope ["self","order"] ["self","order"] (jD ((jC (top 86) 0))):=scK
def YW (Fn:Fun K "__init__" "Turn.__init__" ((jC (top 86) 0)) f fd):FnOk P w K mg base CX0 1 f fd ["self","order"] (jgR K xv (pF (ji C_Order)) (VG C_Order xv) yq):=by
 refine Fn.ok A0 (fun vs H Q E h=>?_) (fun cdv A outer s Hq vs Q E_ hr h=>?_)
 ·obtain⟨_,_,_,_,_,_,_,rfl,_⟩:=h;rfl
 ·obtain⟨order,jv,Fe,H0,x_self,dx_self,R,rfl,rfl,n1_,n2_,n3_,S_,ja,Hm,Kk⟩:=h;have nd:=A0.nd;have hu:=Qp hr;refine⟨_,(jf (zl (pv 0) (pv 1) rfl)),?_⟩
  try dsimp only[jN]
  obtain⟨X,jW⟩:=yn (C:=xv) S_ n1_ n2_ n3_;unfold yq at Hm;replace ja:(ji C_Order).rep K Fe order jv:=ja;refine(UP (K:=K) (k':=0) (c:=(ji C_Order)) rfl jW Ao.cl Ao.n_order (XH (Xe 0) (by decide:0<1000)) (eV (i:=1) ja) X Hm ?_);intro f_order Gk F H Hm Cg X ko jW;cases Hm;obtain⟨F',X',Cg,hx⟩:=OwnI.freeze jW X;exact Kk F' H X' ⟨x_self,dx_self,_,rfl,hx,Cd.mono _ Cg.f ko⟩
def YX (Fn:Fun K "done" "Above.done" ((jC (top 89) 0)) f fd):FnOk P w K mg base CX0 4 f fd ["self","one"] (sp2 K (pF (VG C_Order xv)) (pF (cT cI)) (rF (cT cI)) km):=by
  refine(ok2 (N:=["self","one","row","end"]) Fn fun cdv A outer s H0 Q E_ hr nd hu self one xz GW Fe R X jq ky Hm Kk=>?_);refine⟨_,(jc (k7 (pD_ qH hr (jb (jY (pv 0) rfl) (jb (pv 1) jd)))) (jc (pS (i:=2) nd (pv 1)) (jc (xu PassesOwn.never rfl (je4 rfl B.range_ (jb (kB jt B.len_ (pv 1)) (jb jl (jb (Zo Ve jl) jd)))) (pG (i:=3) nd) (jf (pS (i:=2) nd (jI jco (pD_ jao hr (jb (jY (pv 0) rfl) (jb (zc Yb (pv 2) Gq (Gr (pv 3))) jd))) (zc Yb (pv 2) (Gr (pv 3)) Gq))))) (jf (js (pv 2)))))),?_⟩
  try dsimp only[jN]
  unfold km at Hm;replace jq:(VG C_Order xv).rep K Fe self xz:=jq;replace ky:(cT cI).rep K Fe one GW:=ky;refine(Jx (K:=K) (jo (jp (JJ Ao) (eV (i:=0) jq) rfl) (eV (i:=1) ky) rfl) X Hm ?_);intro _ F H Hm E X;replace jq:=E.xc jq;replace ky:=E.xc ky;refine(yB (K:=K) (c:=(cT cI)) (eV (i:=1) ky) X Hm ?_);intro row xZ F H Hm E X jK;replace jq:=E.xc jq;replace ky:=E.xc ky;refine Jp (K:=K) (c:=cI) ?_ X Hm (fun F1 row σ' F' H'=>∃ (xZ:V) (w1_:Option V),σ'=[some xz,some GW,some xZ,w1_]/\(Ext Fe H0 F' H'/\Same F1 F')/\(cT cI).rep K F' row xZ) ?_ ?_ ?_ ?_
  ·exact(ja6 (jh jb9 (jV (p:=pF (cT cI)) (i:=1) rfl ky) rfl) (jm _) (zo o_u (jm _) rfl) rfl)
  ·intro F H E X;replace jK:=E.xc jK;exact⟨_,_,rfl,⟨X,(Same.refl _)⟩,jK⟩
  ·rintro F1 row σ_ F_ H_ ⟨xZ,w1_,rfl,⟨X_,SF_⟩,jK⟩;exact⟨X_,SF_⟩
  ·rintro F1 S0_ row B_ end_ jlu σ_ F_ H_ F H ⟨xZ,w1_,rfl,⟨X,SF_⟩,jK⟩ E jlv Hm
   try dsimp only at Hm
   have SL0:=SF_;replace SF_:=Same.trans S0_ SF_;replace jq:=Cd.mono _ SF_ jq;replace X:=Ext.trans X E;replace jq:=E.xc jq;replace jK:=E.xc jK;replace SL0:=E.xd SL0;obtain rfl:jlu=.int end_:=jlv;refine x9 ?_;refine(Jv (K:=K) (c:=(cT cI)) (ju jh5 (jo (jp (JJ Ao) (eV (i:=0) jq) rfl) (Qd (eV (i:=2) jK) Gu (qM (eI (i:=3)) rfl) rfl) rfl) (Qd (eV (i:=2) jK) (qM (eI (i:=3)) rfl) Gu rfl) rfl) X Hm ?_);intro row xZ F H Hm E X jK;replace SL0:=E.xd SL0;cases Hm;exact⟨F,_,_,rfl,⟨X,SL0⟩,jK⟩
  ·rintro F1 S0_ row σ_ F H Hm ⟨xZ,w1_,rfl,⟨X,SF_⟩,jK⟩
   try dsimp only at Hm
   exact jw (K:=K) (eV (i:=2) jK) X Hm Kk
def jbC (Fn:Fun K "at_above" "at_above" (top 109) f fd):FnOk P w K mg base CX0 5 f fd ["spot"] (sp1 K (pF (jE C_Order C_Spot)) (rF (jE C_Order C_Spot)) xT):=by
  refine(ok1 (N:=["spot"]) Fn fun cdv A outer s H0 Q E_ hr nd hu spot kR Fe R X jn Hm Kk=>?_);refine⟨_,(jf (js (pD_ qr hr (jb (pv 0) (jb (qv J1 (hr.mono (by decide)) (Jm J0 (hr.mono (by decide)) rfl (jb (jY (pv 0) rfl) jd)) (jb (jY (pv 0) rfl) jd)) jd))))),?_⟩
  try dsimp only[jN]
  unfold xT at Hm;replace jn:(jE C_Order C_Spot).rep K Fe spot kR:=jn;exact jw (K:=K) (jU (eV (i:=0) jn) (GK Yu (yo (jp (jR Ae) (eV (i:=0) jn) rfl) rfl) (jp (yD Ae) (eV (i:=0) jn) rfl) rfl) rfl) X Hm Kk
def A1:FnScope ["self","order"] ["self","order"] (jD ((jC (top 86) 0))):=scK
def YY (Fn:Fun K "__init__" "Turn.__init__" ((jC (top 86) 0)) f fd):FnOk P w K mg base CX0 1 f fd ["self","order"] (jgR K xw (pF (ji C_Order)) (VH C_Order xw) yr):=by
 refine Fn.ok A1 (fun vs H Q E h=>?_) (fun cdv A outer s Hq vs Q E_ hr h=>?_)
 ·obtain⟨_,_,_,_,_,_,_,rfl,_⟩:=h;rfl
 ·obtain⟨order,jv,Fe,H0,x_self,dx_self,R,rfl,rfl,n1_,n2_,n3_,S_,ja,Hm,Kk⟩:=h;have nd:=A1.nd;have hu:=Qp hr;refine⟨_,(jf (zl (pv 0) (pv 1) rfl)),?_⟩
  try dsimp only[jN]
  obtain⟨X,jW⟩:=yn (C:=xw) S_ n1_ n2_ n3_;unfold yr at Hm;replace ja:(ji C_Order).rep K Fe order jv:=ja;refine(UP (K:=K) (k':=0) (c:=(ji C_Order)) rfl jW Ap.cl Ap.n_order (XH (Xe 0) (by decide:0<1000)) (eV (i:=1) ja) X Hm ?_);intro f_order Gk F H Hm Cg X ko jW;cases Hm;obtain⟨F',X',Cg,hx⟩:=OwnI.freeze jW X;exact Kk F' H X' ⟨x_self,dx_self,_,rfl,hx,Cd.mono _ Cg.f ko⟩
def YZ (Fn:Fun K "done" "Below.done" ((jC (top 90) 0)) f fd):FnOk P w K mg base CX0 4 f fd ["self","one"] (sp2 K (pF (VH C_Order xw)) (pF (cT cI)) (rF (cT cI)) qe):=by
  refine(ok2 (N:=["self","one","row","start"]) Fn fun cdv A outer s H0 Q E_ hr nd hu self one xz GW Fe R X jq ky Hm Kk=>?_);refine⟨_,(jc (k7 (pD_ qH hr (jb (jY (pv 0) rfl) (jb (pv 1) jd)))) (jc (pS (i:=2) nd (pv 1)) (jc (xu PassesOwn.never rfl (kz rfl B.range_ (jb (jI UM (kB jt B.len_ (pv 1)) jl) jd)) (pG (i:=3) nd) (jf (pS (i:=2) nd (jI jco (zc Yb (pv 2) Gq (Gr (pv 3))) (pD_ Gb hr (jb (jY (pv 0) rfl) (jb (zc Yb (pv 2) (Gr (pv 3)) Gq) jd))))))) (jf (js (pv 2)))))),?_⟩
  try dsimp only[jN]
  unfold qe at Hm;replace jq:(VH C_Order xw).rep K Fe self xz:=jq;replace ky:(cT cI).rep K Fe one GW:=ky;refine(Jx (K:=K) (jo (jp (JK Ap) (eV (i:=0) jq) rfl) (eV (i:=1) ky) rfl) X Hm ?_);intro _ F H Hm E X;replace jq:=E.xc jq;replace ky:=E.xc ky;refine(yB (K:=K) (c:=(cT cI)) (eV (i:=1) ky) X Hm ?_);intro row xZ F H Hm E X jK;replace jq:=E.xc jq;replace ky:=E.xc ky;refine Jp (K:=K) (c:=cI) ?_ X Hm (fun F1 row σ' F' H'=>∃ (xZ:V) (w1_:Option V),σ'=[some xz,some GW,some xZ,w1_]/\(Ext Fe H0 F' H'/\Same F1 F')/\(cT cI).rep K F' row xZ) ?_ ?_ ?_ ?_
  ·exact(qN (je kE (jh jb9 (jV (p:=pF (cT cI)) (i:=1) rfl ky) rfl) (jm _) rfl) rfl)
  ·intro F H E X;replace jK:=E.xc jK;exact⟨_,_,rfl,⟨X,(Same.refl _)⟩,jK⟩
  ·rintro F1 row σ_ F_ H_ ⟨xZ,w1_,rfl,⟨X_,SF_⟩,jK⟩;exact⟨X_,SF_⟩
  ·rintro F1 S0_ row B_ GG jjP σ_ F_ H_ F H ⟨xZ,w1_,rfl,⟨X,SF_⟩,jK⟩ E jjQ Hm
   try dsimp only at Hm
   have SL0:=SF_;replace SF_:=Same.trans S0_ SF_;replace jq:=Cd.mono _ SF_ jq;replace X:=Ext.trans X E;replace jq:=E.xc jq;replace jK:=E.xc jK;replace SL0:=E.xd SL0;obtain rfl:jjP=.int GG:=jjQ;refine x9 ?_;refine(Jv (K:=K) (c:=(cT cI)) (ju jh5 (Qd (eV (i:=2) jK) Gu (qM (eI (i:=3)) rfl) rfl) (jo (jp (JK Ap) (eV (i:=0) jq) rfl) (Qd (eV (i:=2) jK) (qM (eI (i:=3)) rfl) Gu rfl) rfl) rfl) X Hm ?_);intro row xZ F H Hm E X jK;replace SL0:=E.xd SL0;cases Hm;exact⟨F,_,_,rfl,⟨X,SL0⟩,jK⟩
  ·rintro F1 S0_ row σ_ F H Hm ⟨xZ,w1_,rfl,⟨X,SF_⟩,jK⟩
   try dsimp only at Hm
   exact jw (K:=K) (eV (i:=2) jK) X Hm Kk
def jbD (Fn:Fun K "at_below" "at_below" (top 110) f fd):FnOk P w K mg base CX0 5 f fd ["spot"] (sp1 K (pF (jE C_Order C_Spot)) (rF (jE C_Order C_Spot)) xU):=by
  refine(ok1 (N:=["spot"]) Fn fun cdv A outer s H0 Q E_ hr nd hu spot kR Fe R X jn Hm Kk=>?_);refine⟨_,(jf (js (pD_ qr hr (jb (pv 0) (jb (qv J3 (hr.mono (by decide)) (Jm J2 (hr.mono (by decide)) rfl (jb (jY (pv 0) rfl) jd)) (jb (jY (pv 0) rfl) jd)) jd))))),?_⟩
  try dsimp only[jN]
  unfold xU at Hm;replace jn:(jE C_Order C_Spot).rep K Fe spot kR:=jn;exact jw (K:=K) (jU (eV (i:=0) jn) (GK Yw (yo (jp (jR Ae) (eV (i:=0) jn) rfl) rfl) (jp (yD Ae) (eV (i:=0) jn) rfl) rfl) rfl) X Hm Kk
def VT (Fn:Fun K "check_stairs" "check_stairs" (top 50) f fd):FnOk P w K mg base CX0 1 f fd ["k"] (sp1 K (pF cI) (rF cU) zg):=by
  refine(ok1 (N:=["k"]) Fn fun cdv A outer s H0 Q E_ hr nd hu k_ V_k_ Fe R X P_k_ Hm Kk=>?_);obtain⟨t_MOST_STAIRS,g_MOST_STAIRS⟩:=Ja;refine⟨_,(jf (xn (Jj (J8 UY UY jl (pv 0) (Uf (v:=.int 3) rfl g_MOST_STAIRS ⟨_,rfl⟩))) (jf qz) j2)),?_⟩
  try dsimp only[jN]
  unfold zg at Hm;obtain rfl:V_k_=.int k_:=P_k_;refine(jcd (K:=K) (GI (kY (G1 (jm _) (eI (i:=0)) (jm _) rfl)) rfl) X Hm ?_ ?_)
  ·intro F H Hc Hm E X;cases Hm
  ·intro F H Hc Hm E X;refine G0 ?_;cases Hm;exact Kk _ F H X rfl
def jbE (Fn:Fun K "cells_of" "cells_of" (top 51) f fd):FnOk P w K mg base CX0 1 f fd ["widths"] (sp1 K (pB cI) (rO (cP cI cI)) GP):=by
  refine(ok1 (N:=["widths","found","row"]) Fn fun cdv A outer s H0 Q E_ hr nd hu widths jcM Fe R X jcN Hm Kk=>?_);refine⟨_,(jc (pS (i:=1) nd (xB jd)) (jc (xu PassesOwn.never rfl (kz rfl B.range_ (jb (kB jt B.len_ (pv 0)) jd)) (pG (i:=2) nd) (jf (k7 (zQ Xw PySem.F.slot_list_extend PySem.F.type_list_extend Zy (pv 1) (jb (kW (own:=["column"]) (ix:=[2]) (qu rfl) rfl (kz rfl B.range_ (jb (pX kU (pv 0) (pv 2)) jd)) (fun _=>(kq (i:=0) (show List.Nodup (["column","row"]:List Str) by decide +kernel) rfl (Or.inl rfl))) (fun _=>qY) (fun _=>(Ge (jb (pv 1) (jb (pv 0) jd))))) jd))))) (jf (js (pv 1))))),?_⟩
  try dsimp only[jN]
  unfold GP at Hm;have xA:Bor K H0 Fe cI widths jcM:=jcN;clear jcN;refine(Jw (K:=K) (xD (xC (c:=(cP cI cI))) (by decide)) X Hm ?_);intro found ku F H Hm E X Hn Aa;replace xA:=E.xb xA;refine Jp (K:=K) (c:=cI) ?_ X Hm (fun F1 found σ' F' H'=>∃ (ku:Addr) (w1_:Option V),σ'=[some jcM,some (.ref ku),w1_]/\(Ext Fe H0 F' H'/\Same F1 F')/\Own K H0 F' H' (cP cI cI) found ku) ?_ ?_ ?_ ?_
  ·exact(qN (jh q8 (jQ (jV (p:=pB cI) (i:=0) rfl (Bor.b xA X))) rfl) rfl)
  ·intro F H E X;replace Aa:=Aa.mono E;exact⟨_,_,rfl,⟨X,(Same.refl _)⟩,Aa⟩
  ·rintro F1 found σ_ F_ H_ ⟨ku,w1_,rfl,⟨X_,SF_⟩,Aa⟩;exact⟨X_,SF_⟩
  ·rintro F1 S0_ found B_ row xZ σ_ F_ H_ F H ⟨ku,w1_,rfl,⟨X,SF_⟩,Aa⟩ E jK Hm
   try dsimp only at Hm
   have SL0:=SF_;replace SF_:=Same.trans S0_ SF_;replace xA:=Bor.mono xA SF_;replace X:=Ext.trans X E;replace xA:=E.xb xA;replace Aa:=Aa.mono E;replace SL0:=E.xd SL0;obtain rfl:xZ=.int row:=jK;refine x9 ?_;refine(ZJ (K:=K) (k':=1) rfl Aa (kA (qg (Jz (je zm (jQ (jV (p:=pB cI) (i:=0) rfl (Bor.b xA X))) (eI (i:=2)) rfl) rfl) [some (.int row)] rfl (fun b4 column _ _ E3=>ym) (fun b4 column _ _ E3=>(qL (eI (i:=1)) (eI (i:=0)) rfl)) rfl)) X Hm ?_);intro found F H Hm Cg X Aa;replace SL0:=Same.trans SL0 Cg.f;cases Hm;exact⟨F,_,_,rfl,⟨X,SL0⟩,Aa⟩
  ·rintro F1 S0_ found σ_ F H Hm ⟨ku,w1_,rfl,⟨X,SF_⟩,Aa⟩
   try dsimp only at Hm
   exact W6 (K:=K) (i:=1) rfl Aa X Hm Kk
def VU (Fn:Fun K "stairs_cells" "stairs_cells" (top 52) f fd):FnOk P w K mg base CX0 2 f fd ["k"] (sp1 K (pF cI) (rO (cP cI cI)) zh):=by
  refine(ok1 (N:=["k"]) Fn fun cdv A outer s H0 Q E_ hr nd hu k_ V_k_ Fe R X P_k_ Hm Kk=>?_);refine⟨_,(jf (js (pD_ GR hr (jb (jgZ rfl rfl B.list_ rfl B.range_ (jb (pv 0) (jb jl (jb (Zo Ve jl) jd)))) jd)))),?_⟩
  try dsimp only[jN]
  unfold zh at Hm;obtain rfl:V_k_=.int k_:=P_k_;exact jw (K:=K) (kK (kA (ZO (eI (i:=0)) (jm _) (zo o_u (jm _) rfl) rfl)) rfl) X Hm Kk
def Q_ (Fn:Fun K "neither_greater" "neither_greater" (top 53) f fd):FnOk P w K mg base CX0 1 f fd ["one","other"] (sp2 K (pF (cP cI cI)) (pF (cP cI cI)) (rF cB) xV):=by
  refine(ok2 (N:=["one","other"]) Fn fun cdv A outer s H0 Q E_ hr nd hu one other GW UJ Fe R X ky Ji Hm Kk=>?_);refine⟨_,(jf (js (jbV (Js UY (pX zH (pv 0) jl) (pX zH (pv 1) jl) (jT _)) (jbU (Js UY (pX zH (pv 0) jl) (pX zH (pv 1) jl) (jT _)))))),?_⟩
  try dsimp only[jN]
  unfold xV at Hm;replace ky:(cP cI cI).rep K Fe one GW:=ky;replace Ji:(cP cI cI).rep K Fe other UJ:=Ji;exact jw (K:=K) (jdf (je yX (Wv (eV (i:=0) ky) rfl) (Wv (eV (i:=1) Ji) rfl) rfl) (je yX (Ww (eV (i:=0) ky) rfl) (Ww (eV (i:=1) Ji) rfl) rfl) rfl) X Hm Kk
def jbF (Fn:Fun K "order_of" "order_of" (top 54) f fd):FnOk P w K mg base CX0 6 f fd ["cells"] (sp1 K (pB (cP cI cI)) (rF (ji C_Order)) GQ):=by
  refine(ok1 (N:=["cells","pairs","high"]) Fn fun cdv A outer s H0 Q E_ hr nd hu cells yW Fe R X jy Hm Kk=>?_);refine⟨_,(jc (pS (i:=1) nd (xB jd)) (jc (xu PassesOwn.never rfl (kz rfl B.range_ (jb (kB jt B.len_ (pv 0)) jd)) (pG (i:=2) nd) (jf (k7 (zQ Xw PySem.F.slot_list_extend PySem.F.type_list_extend Zy (pv 1) (jb (kW (own:=["low"]) (ix:=[0,2]) (qu rfl) rfl (kz rfl B.range_ (jb (pv 2) jd)) (fun _=>(kq (i:=0) (show List.Nodup (["low","cells","high"]:List Str) by decide +kernel) rfl (Or.inl rfl))) (fun _=>Gs (GC (pD_ za hr (jb (pX kU (pv 1) (pv 0)) (jb (pX kU (pv 1) (pv 2)) jd))))) (fun _=>(Ge (jb (pv 0) (jb (pv 2) jd))))) jd))))) (jf (js (Jm zw (hr.mono (by decide)) rfl (jb (kB jt B.len_ (pv 0)) (jb (pv 1) jd))))))),?_⟩
  try dsimp only[jN]
  unfold GQ at Hm;have x8:Bor K H0 Fe (cP cI cI) cells yW:=jy;clear jy;refine(Jw (K:=K) (xD (xC (c:=(cP cI cI))) (by decide)) X Hm ?_);intro pairs kQ F H Hm E X Hn Ab;replace x8:=E.xb x8;refine Jp (K:=K) (c:=cI) ?_ X Hm (fun F1 pairs σ' F' H'=>∃ (kQ:Addr) (w1_:Option V),σ'=[some yW,some (.ref kQ),w1_]/\(Ext Fe H0 F' H'/\Same F1 F')/\Own K H0 F' H' (cP cI cI) pairs kQ) ?_ ?_ ?_ ?_
  ·exact(qN (jh q8 (jQ (jV (p:=pB (cP cI cI)) (i:=0) rfl (Bor.b x8 X))) rfl) rfl)
  ·intro F H E X;replace Ab:=Ab.mono E;exact⟨_,_,rfl,⟨X,(Same.refl _)⟩,Ab⟩
  ·rintro F1 pairs σ_ F_ H_ ⟨kQ,w1_,rfl,⟨X_,SF_⟩,Ab⟩;exact⟨X_,SF_⟩
  ·rintro F1 S0_ pairs B_ high GT σ_ F_ H_ F H ⟨kQ,w1_,rfl,⟨X,SF_⟩,Ab⟩ E GU Hm
   try dsimp only at Hm
   have SL0:=SF_;replace SF_:=Same.trans S0_ SF_;replace x8:=Bor.mono x8 SF_;replace X:=Ext.trans X E;replace x8:=E.xb x8;replace Ab:=Ab.mono E;replace SL0:=E.xd SL0;obtain rfl:GT=.int high:=GU;refine x9 ?_;refine(ZJ (K:=K) (k':=1) rfl Ab (kA (qg (zS (eI (i:=2)) rfl) [some yW,some (.int high)] rfl (fun b3 low _ _ E2=>(zI (jU (je zm (jQ (jV (p:=pB (cP cI cI)) (i:=1) rfl (Bor.b (Bor.mono x8 (E2).f) (Ext.trans X (E2))))) (eI (i:=0)) rfl) (je zm (jQ (jV (p:=pB (cP cI cI)) (i:=1) rfl (Bor.b (Bor.mono x8 (E2).f) (Ext.trans X (E2))))) (eI (i:=2)) rfl) rfl))) (fun b3 low _ _ E2=>(qL (eI (i:=0)) (eI (i:=2)) rfl)) rfl)) X Hm ?_);intro pairs F H Hm Cg X Ab;replace SL0:=Same.trans SL0 Cg.f;cases Hm;exact⟨F,_,_,rfl,⟨X,SL0⟩,Ab⟩
  ·rintro F1 S0_ pairs σ_ F H Hm ⟨kQ,w1_,rfl,⟨X,SF_⟩,Ab⟩
   try dsimp only at Hm
   replace SF_:=Same.trans S0_ SF_;replace x8:=Bor.mono x8 SF_;exact jw (K:=K) (JC (jh q8 (jQ (jV (p:=pB (cP cI cI)) (i:=0) rfl (Bor.b x8 X))) rfl) (jV (p:=pB (cP cI cI)) (i:=1) rfl Ab.b) rfl) X Hm Kk
def jfZ (Fn:Fun K "stairs" "stairs" (top 56) f fd):FnOk P w K mg base CX0 7 f fd ["k"] (sp1 K (pF cI) (rF (ji C_Order)) Q5):=by
  refine(ok1 (N:=["k"]) Fn fun cdv A outer s H0 Q E_ hr nd hu k_ V_k_ Fe R X P_k_ Hm Kk=>?_);refine⟨_,(jc (k7 (pD_ Gz hr (jb (pv 0) jd))) (jf (js (pD_ GS hr (jb (pD_ GA hr (jb (pv 0) jd)) jd))))),?_⟩
  try dsimp only[jN]
  unfold Q5 at Hm;obtain rfl:V_k_=.int k_:=P_k_;refine(Jx (K:=K) (jx (eI (i:=0)) rfl) X Hm ?_);intro _ F H Hm E X;exact jw (K:=K) (kK (kA (jx (eI (i:=0)) rfl)) rfl) X Hm Kk
def jah (Fn:Fun K "at_stairs" "at_stairs" (top 100) f fd):FnOk P w K mg base CX0 8 f fd ["spot","k"] (sp2 K (pF (jE C_Order C_Spot)) (pF cI) (rF (jE C_Order C_Spot)) xK):=by
  refine(ok2 (N:=["spot","k"]) Fn fun cdv A outer s H0 Q E_ hr nd hu spot k_ kR V_k_ Fe R X jn P_k_ Hm Kk=>?_);refine⟨_,(jf (js (pD_ xL hr (jb (pD_ Y5 hr (jb (pv 1) jd)) jd)))),?_⟩
  try dsimp only[jN]
  unfold xK at Hm;replace jn:(jE C_Order C_Spot).rep K Fe spot kR:=jn;obtain rfl:V_k_=.int k_:=P_k_;exact jw (K:=K) (kK (jx (eI (i:=1)) rfl) rfl) X Hm Kk
def Y0 (Fn:Fun K "downset_at" "downset_at" (top 34) f fd):FnOk P w K mg base CX0 5 f fd ["order","place"] (sp2 K (pF (ji C_Order)) (pF cI) (rF cI) zu):=by
  refine(ok2 (N:=["order","place","found"]) Fn fun cdv A outer s H0 Q E_ hr nd hu order place jv V2 Fe R X ja V3 Hm Kk=>?_);refine⟨_,(jc (pS (i:=2) nd (pD_ xY hr (jb (pv 0) jd))) (jc (xn (Jj (J8 UY V_ jl (pv 1) (kB jt B.len_ (pv 2)))) (jf qz) j2) (jf (js (pX kU (pv 2) (pv 1)))))),?_⟩
  try dsimp only[jN]
  unfold zu at Hm;replace ja:(ji C_Order).rep K Fe order jv:=ja;obtain rfl:V2=.int place:=V3;refine(yB (K:=K) (c:=(cL cI)) (qZ (jx (eV (i:=0) ja) rfl)) X Hm ?_);intro found jmz F H Hm E X UK;refine(QY (K:=K) (GI (kY (G1 (jm _) (eI (i:=1)) (jh q8 (jQ (qf (eV (i:=2) UK))) rfl) rfl)) rfl) X Hm ?_ ?_)
  ·intro F H Hc Hm E X;cases Hm
  ·intro F H Hc Hm E X;replace UK:=E.xc UK;refine G0 ?_;exact jw (K:=K) (je zm (jQ (qf (eV (i:=2) UK))) (eI (i:=1)) rfl) X Hm Kk
def jdD (Fn:Fun K "at_down" "at_down" (top 101) f fd):FnOk P w K mg base CX0 6 f fd ["spot","place"] (sp2 K (pF (jE C_Order C_Spot)) (pF cI) (rF (jE C_Order C_Spot)) yM):=by
  refine(ok2 (N:=["spot","place"]) Fn fun cdv A outer s H0 Q E_ hr nd hu spot place kR V2 Fe R X jn V3 Hm Kk=>?_);refine⟨_,(jf (js (pD_ yb hr (jb (pv 0) (jb (pD_ J4 hr (jb (jY (pv 0) rfl) (jb (pv 1) jd))) jd))))),?_⟩
  try dsimp only[jN]
  unfold yM at Hm;replace jn:(jE C_Order C_Spot).rep K Fe spot kR:=jn;obtain rfl:V2=.int place:=V3;exact jw (K:=K) (jU (eV (i:=0) jn) (jo (jp (jR Ae) (eV (i:=0) jn) rfl) (eI (i:=1)) rfl) rfl) X Hm Kk
def jdE (Fn:Fun K "at_line" "at_line" (top 103) f fd):FnOk P w K mg base CX0 7 f fd ["spot","number"] (sp2 K (pF (jE C_Order C_Spot)) (pF cI) (rF (jE C_Order C_Spot)) yN):=by
  refine(ok2 (N:=["spot","number"]) Fn fun cdv A outer s H0 Q E_ hr nd hu spot number kR Y8 Fe R X jn Y9 Hm Kk=>?_);refine⟨_,(jf (js (pD_ qr hr (jb (pv 0) (jb (pD_ JW hr (jb (jY (pv 0) rfl) (jb (pv 1) jd))) jd))))),?_⟩
  try dsimp only[jN]
  unfold yN at Hm;replace jn:(jE C_Order C_Spot).rep K Fe spot kR:=jn;obtain rfl:Y8=.int number:=Y9;exact jw (K:=K) (jU (eV (i:=0) jn) (jo (jp (jR Ae) (eV (i:=0) jn) rfl) (eI (i:=1)) rfl) rfl) X Hm Kk
def Wk (Fn:Fun K "check_field" "check_field" (top 49) f fd):FnOk P w K mg base CX0 1 f fd ["a","b"] (sp2 K (pF cI) (pF cI) (rF cU) zN):=by
  refine(ok2 (N:=["a","b"]) Fn fun cdv A outer s H0 Q E_ hr nd hu a_ b_ V_a_ V_b_ Fe R X P_a_ P_b_ Hm Kk=>?_);obtain⟨t_MOST_THINGS,g_MOST_THINGS⟩:=yR;refine⟨_,(jf (xn (PW.pt (V8 (jM V_ (pv 0) jl (jT _)) (V8 (jM V_ (pv 1) jl (jT _)) (UL (jM Wa (jI GE (pv 0) (pv 1)) (Uf (v:=.int 9) rfl g_MOST_THINGS ⟨_,rfl⟩) (jT _)))))) (jf qz) j2)),?_⟩
  try dsimp only[jN]
  unfold zN at Hm;obtain rfl:V_a_=.int a_:=P_a_;obtain rfl:V_b_=.int b_:=P_b_;refine(jgz (K:=K) (Vs (kY (je yX (eI (i:=0)) (jm _) rfl)) (Vs (kY (je yX (eI (i:=1)) (jm _) rfl)) (kY (ju yX (je UZ (eI (i:=0)) (eI (i:=1)) rfl) (jm _) rfl)) rfl) rfl) X Hm ?_ ?_)
  ·intro F H Hm E X
   try dsimp only[we] at Hm
   cases Hm
  ·intro F H Hm E X
   try dsimp only[X9] at Hm
   refine G0 ?_;cases Hm;exact Kk _ F H X rfl
def jhC (Fn:Fun K "field" "field" (top 55) f fd):FnOk P w K mg base CX0 7 f fd ["a","b"] (sp2 K (pF cI) (pF cI) (rF (ji C_Order)) zX):=by
  refine(ok2 (N:=["a","b"]) Fn fun cdv A outer s H0 Q E_ hr nd hu a_ b_ V_a_ V_b_ Fe R X P_a_ P_b_ Hm Kk=>?_);refine⟨_,(jc (k7 (pD_ Jf hr (jb (pv 0) (jb (pv 1) jd)))) (jf (js (pD_ GS hr (jb (pD_ GR hr (jb (jI jee (xB (jb (pv 1) jd)) (pv 0)) jd)) jd))))),?_⟩
  try dsimp only[jN]
  unfold zX at Hm;obtain rfl:V_a_=.int a_:=P_a_;obtain rfl:V_b_=.int b_:=P_b_;refine(Jx (K:=K) (jo (eI (i:=0)) (eI (i:=1)) rfl) X Hm ?_);intro _ F H Hm E X;exact jw (K:=K) (kK (kA (kK (kA (je jjc (kA (xD (qK (eI (i:=1)) (xC (c:=cI)) rfl) (by decide))) (eI (i:=0)) rfl)) rfl)) rfl) X Hm Kk
def jai (Fn:Fun K "step_from" "step_from" (top 124) f fd):FnOk P w K mg base CX0 10 f fd ["spot","row"] (sp2 K (pF (jE C_Order C_Spot)) (pF cS) (rF (jE C_Order C_Spot)) j_):=by
  refine(ok2 (N:=["spot","row","words","name","numbers"]) Fn fun cdv A outer s H0 Q E_ hr nd hu spot row kR xZ Fe R X jn jK Hm Kk=>?_);obtain⟨t_ORDER_START,g_ORDER_START⟩:=G_;refine⟨_,(jc (xn (GC (zQ Xz PySem.F.slot_str_startswith PySem.F.type_str_startswith jfF (pv 1) (jb (Uf (v:=.str "order ") rfl g_ORDER_START ⟨_,rfl⟩) jd))) (jf qz) j2) (jc (pS (i:=2) nd (zQ Xz PySem.F.slot_str_split PySem.F.type_str_split Q4 (pv 1) (jb kg jd))) (jc (pS (i:=3) nd (pX kU (pv 2) jl)) (jc (J_ (i:=4) (own:=["word"]) (ix:=[]) (qu rfl) rfl (qw (zc Uh (pv 2) (Gr jl) Gq)) (fun _=>(kq (i:=0) (show List.Nodup (["word"]:List Str) by decide +kernel) rfl (Or.inl rfl))) (fun _=>Gs (GC (pD_ QN hr (jb (pv 0) jd)))) (fun _=>(cY zT B.int_ (pv 0))) nd rfl rfl) (jc (xn (jM Qm (kB jt B.len_ (pv 4)) (jI UM (kB jt B.len_ (pv 2)) jl) (jT _)) (jf qz) j2) (jc (xn (PW.pt (jbT (jbS (jcz zO (by rfl) (pv 3) (ks:=["great","ungreat","slide","unslide","above","below"]) (by rfl)) (by with_unfolding_all rfl)) (WP (jM GF (kB jt B.len_ (pv 4)) jl (jT _))))) (jf (js (VB zO (hr.mono (by decide)) rfl (pv 3) (fun _ _=>rfl) (jb (pv 0) jd)))) j2) (jc (xn (PW.pt (jbT (jbS (jcz zj (by rfl) (pv 3) (ks:=["stairs","down","toggle","line","swap"]) (by rfl)) (by with_unfolding_all rfl)) (WP (jM GF (kB jt B.len_ (pv 4)) jl (jT _))))) (jf (js (VB zj (hr.mono (by decide)) rfl (pv 3) (fun _ _=>rfl) (jb (pv 0) (jb (pX kU (pv 4) jl) jd))))) j2) (jc (xn (PW.pt (jbT (jM GF (pv 3) kg (jT _)) (WP (jM GF (kB jt B.len_ (pv 4)) jl (jT _))))) (jf (js (pD_ xL hr (jb (pD_ jbK hr (jb (pX kU (pv 4) jl) (jb (pX kU (pv 4) jl) jd))) jd)))) j2) (jf qz))))))))),?_⟩
  try dsimp only[jN]
  unfold j_ at Hm;replace jn:(jE C_Order C_Spot).rep K Fe spot kR:=jn;obtain rfl:xZ=.str row:=jK;refine(QY (K:=K) (zI (Yn (Qa (i:=1) rfl) (kd _) rfl)) X Hm ?_ ?_)
  ·intro F H Hc Hm E X;cases Hm
  ·intro F H Hc Hm E X;replace jn:=E.xc jn;refine G0 ?_;refine(yB (K:=K) (c:=(cL cS)) (qZ (ZY (Qa (i:=1) rfl) (kd _) rfl)) X Hm ?_);intro words jmA F H Hm E X qt;replace jn:=E.xc jn;refine(jcj (K:=K) (je zm (jQ (qf (eV (i:=2) qt))) (jm _) rfl) X Hm ?_);intro name F H Hm E X;replace jn:=E.xc jn;replace qt:=E.xc qt;refine(yB (K:=K) (c:=(cL cI)) (qZ (JA (yA (jQ (kA (zP (jQ (qf (eV (i:=2) qt))) (qM (jm _) rfl) Gu rfl)))) [] rfl (fun b2 word Uc _ _ E1 Gn=>(zI (jx (eV (i:=0) Gn) rfl))) (fun b2 word Uc _ _ E1 Gn=>(jh Vz (eV (i:=0) Gn) rfl)) rfl)) X Hm ?_);intro numbers jaq F H Hm E X jZ;replace jn:=E.xc jn;replace qt:=E.xc qt;refine(QY (K:=K) (kY (je jaK (jh q8 (jQ (qf (eV (i:=4) jZ))) rfl) (je kE (jh q8 (jQ (qf (eV (i:=2) qt))) rfl) (jm _) rfl) rfl)) X Hm ?_ ?_)
   ·intro F H Hc Hm E X;cases Hm
   ·intro F H Hc Hm E X;replace jn:=E.xc jn;replace jZ:=E.xc jZ;refine G0 ?_;refine(QY (K:=K) (Ul (zI (Qh (Qa (i:=3) rfl) rfl)) (kY (je Uj (jh q8 (jQ (qf (eV (i:=4) jZ))) rfl) (jm _) rfl)) rfl) X Hm ?_ ?_)
    ·intro F H Hc Hm E X;replace jn:=E.xc jn;exact jw (K:=K) (Qv (Qa (i:=3) rfl) (eV (i:=0) jn) rfl) X Hm Kk
    ·intro F H Hc Hm E X;replace jn:=E.xc jn;replace jZ:=E.xc jZ;refine G0 ?_;refine(QY (K:=K) (Ul (zI (Qh (Qa (i:=3) rfl) rfl)) (kY (je Uj (jh q8 (jQ (qf (eV (i:=4) jZ))) rfl) (jm _) rfl)) rfl) X Hm ?_ ?_)
     ·intro F H Hc Hm E X;replace jn:=E.xc jn;replace jZ:=E.xc jZ;exact jw (K:=K) (Z1 (Qa (i:=3) rfl) (eV (i:=0) jn) (je zm (jQ (qf (eV (i:=4) jZ))) (jm _) rfl) rfl) X Hm Kk
     ·intro F H Hc Hm E X;replace jZ:=E.xc jZ;refine G0 ?_;refine(QY (K:=K) (Ul (kY (je jc5 (Qa (i:=3) rfl) (kd _) rfl)) (kY (je Uj (jh q8 (jQ (qf (eV (i:=4) jZ))) rfl) (jm _) rfl)) rfl) X Hm ?_ ?_)
      ·intro F H Hc Hm E X;replace jZ:=E.xc jZ;exact jw (K:=K) (kK (jU (je zm (jQ (qf (eV (i:=4) jZ))) (jm _) rfl) (je zm (jQ (qf (eV (i:=4) jZ))) (jm _) rfl) rfl) rfl) X Hm Kk
      ·intro F H Hc Hm E X;refine G0 ?_;cases Hm
def A5:FnScope ["self","row","step"] ["self","row"] (jD ((jC (top 125) 1))):=scK
def jaj (Fn:Fun K "told" "Desk.told" ((jC (top 125) 1)) f fd):FnOk P w K mg base CX0 12 f fd ["self","row"] (spK K C_Desk (jE C_Order C_Spot) (csC cS csN) cS (fun D z=>jF D z.1)):=by
 refine Fn.ok A5 (fun vs H Q E h=>?_) (fun cdv A outer s Hq vs Q E_ hr h=>?_)
 ·obtain⟨_,_,_,_,_,_,_,rfl,_,_,hd_,_⟩:=h;obtain⟨_,_,rfl,_,rfl⟩:=hd_;rfl
 ·obtain⟨self,z_,jlo,ws_,Fe,H0,R,rfl,X,qW,hd_,Hm,Kk⟩:=JE h;obtain⟨xZ,_,rfl,jK,rfl⟩:=hd_;obtain⟨row,_⟩:=z_;dsimp only at Hm jK;have nd:=A5.nd;have hu:=Qp hr;refine⟨_,(jc (xn (jM GF (pv 1) kg (jT _)) (jf (js (yy Jd (hr.mono (by decide)) (pv 0)))) j2) (jc (xn (jbS (jcz UF (by rfl) (pv 1) (ks:=["show","counts","where","round","mean","sizes","falls"]) (by rfl)) (by with_unfolding_all rfl)) (jf qz) j2) (jc (pS (i:=2) nd (pD_ QP hr (jb (jY (pv 0) rfl) (jb (pv 1) jd)))) (jc (k7 (zQ Xw XU XT yx (jY (pv 0) rfl) (jb (jY (pv 0) rfl) jd))) (jc (zl (pv 0) (pv 2) rfl) (jf (js (jY (pv 2) rfl)))))))),?_⟩
  try dsimp only[jN]
  unfold jF at Hm;obtain rfl:xZ=.str row:=jK;refine(QY (K:=K) (kY (je jc5 (Qa (i:=1) rfl) (kd _) rfl)) X Hm ?_ ?_)
  ·intro F H Hc Hm E X;replace qW:=OwnK.mono qW E;exact JG (K:=K) (yC (i:=0) rfl qW X (ya X.sub) (fun _ _=>rfl)) Hm Kk
  ·intro F H Hc Hm E X;replace qW:=OwnK.mono qW E;refine G0 ?_;refine(QY (K:=K) (zI (Qh (Qa (i:=1) rfl) rfl)) X Hm ?_ ?_)
   ·intro F H Hc Hm E X;replace qW:=OwnK.mono qW E;cases Hm
   ·intro F H Hc Hm E X;replace qW:=OwnK.mono qW E;refine G0 ?_;refine(yB (K:=K) (c:=(jE C_Order C_Spot)) (jo (jju (i:=0) rfl qW Ai.cl Ai.n_spot) (Qa (i:=1) rfl) rfl) X Hm ?_);intro step jmT F H Hm E X jcO;replace qW:=OwnK.mono qW E;refine(jk5 (K:=K) (i:=0) rfl qW Ai.cl Ai.n_spot Ai.n_earlier X Hm ?_);intro l1 H Hm X qW;refine(jjw (K:=K) (i:=0) rfl qW Ai.cl Ai.n_spot (eV (i:=2) jcO) X Hm ?_);intro s2 F H Hm Sf_ X qW;replace jcO:=Cd.mono _ Sf_ jcO;exact JG (K:=K) (Qg qW X (jp (VE Ae) (eV (i:=2) jcO) rfl)) Hm Kk
def Wl (Fn:Fun K "told" "Desk.told" ((jC (top 125) 1)) f fd):FnOk P w K mg base CX0 12 f fd ["self","row"] (sp2 K (pK (jE C_Order C_Spot) C_Desk) (pF cS) (rF cS) jL):=by
  refine(ok2 (N:=["self","row","step"]) Fn fun cdv A outer s H0 Q E_ hr nd hu self row xz xZ Fe R X jq jK Hm Kk=>?_);refine⟨_,(jc (xn (jM GF (pv 1) kg (jT _)) (jf qz) j2) (jc (xn (jbS (jcz UF (by rfl) (pv 1) (ks:=["show","counts","where","round","mean","sizes","falls"]) (by rfl)) (by with_unfolding_all rfl)) (jf (js (VB UF (hr.mono (by decide)) rfl (pv 1) (fun _ _=>rfl) (jb (jY (pv 0) rfl) jd)))) j2) (jc qz jdT))),?_⟩
  try dsimp only[jN]
  unfold jL at Hm;obtain rfl:xZ=.str row:=jK;refine(QY (K:=K) (kY (je jc5 (Qa (i:=1) rfl) (kd _) rfl)) X Hm ?_ ?_)
  ·intro F H Hc Hm E X;replace jq:=Pm.mono _ E jq;cases Hm
  ·intro F H Hc Hm E X;replace jq:=Pm.mono _ E jq;refine G0 ?_;refine(QY (K:=K) (zI (Qh (Qa (i:=1) rfl) rfl)) X Hm ?_ ?_)
   ·intro F H Hc Hm E X;replace jq:=Pm.mono _ E jq;exact jw (K:=K) (Qv (Qa (i:=1) rfl) (jhk (i:=0) rfl jq Ai.cl Ai.n_spot) rfl) X Hm Kk
   ·intro F H Hc Hm E X;replace jq:=Pm.mono _ E jq;refine G0 ?_;cases Hm
def A2:FnScope ["_law_desk","_law_row","_law_many","_law_found","_law_k"] ["_law_desk","_law_row","_law_many"] (jD (top 131)):=scK
def Y1 (Fn:Fun K "_law_often" "_law_often" (top 131) f fd):FnOk P w K mg base CX0 13 f fd ["_law_desk","_law_row","_law_many"] (spK K C_Desk (jE C_Order C_Spot) (csC cS (csC cI csN)) cS (fun D z=>qx D z.1 z.2.1)):=by
 refine Fn.ok A2 (fun vs H Q E h=>?_) (fun cdv A outer s Hq vs Q E_ hr h=>?_)
 ·obtain⟨_,_,_,_,_,_,_,rfl,_,_,hd_,_⟩:=h;obtain⟨_,_,rfl,_,_,_,rfl,_,rfl⟩:=hd_;rfl
 ·obtain⟨desk,z_,J6,ws_,Fe,H0,R,rfl,X,jg,hd_,Hm,Kk⟩:=JE h;obtain⟨xZ,_,rfl,jK,Ua,_,rfl,Qy,rfl⟩:=hd_;obtain⟨row,many,_⟩:=z_;dsimp only at Hm jK Qy;have nd:=A2.nd;have hu:=Qp hr;refine⟨_,(jc (pS (i:=3) nd kg) (jc (xu PassesOwn.never rfl (kz rfl B.range_ (jb (pv 2) jd)) (pG (i:=4) nd) (jf (pS (i:=3) nd (qv kD (hr.mono (by decide)) (pv 0) (jb (pv 1) jd))))) (jf (js (pv 3))))),?_⟩
  try dsimp only[jN]
  unfold qx at Hm;obtain rfl:xZ=.str row:=jK;obtain rfl:Ua=.int many:=Qy;refine(jcj (K:=K) (kd _) X Hm ?_);intro found F H Hm E X;replace jg:=OwnK.mono jg E;refine Jp (K:=K) (c:=cI) ?_ X Hm (fun F1 b σ' F' H'=>match b with | (desk,found)=>∃ (w1_:Option V),σ'=[some (.ref J6),some (.str row),some (.int many),some (.str found),w1_]/\(Ext Fe H0 F' H'/\Same F1 F')/\OwnK K H0 F' H' (jE C_Order C_Spot) C_Desk desk J6) ?_ ?_ ?_ ?_
  ·exact(qN (jau (i:=2) rfl) rfl)
  ·intro F H E X;replace jg:=OwnK.mono jg E;exact⟨_,rfl,⟨X,(Same.refl _)⟩,jg⟩
  ·rintro F1 ⟨desk,found⟩ σ_ F_ H_ ⟨w1_,rfl,⟨X_,SF_⟩,jg⟩;exact⟨X_,SF_⟩
  ·rintro F1 S0_ ⟨desk,found⟩ B_ k_ V_k_ σ_ F_ H_ F H ⟨w1_,rfl,⟨X,SF_⟩,jg⟩ E P_k_ Hm
   try dsimp only at Hm
   have SL0:=SF_;replace X:=Ext.trans X E;replace jg:=OwnK.mono jg E;replace SL0:=E.xd SL0;obtain rfl:V_k_=.int k_:=P_k_;refine x9 ?_;refine(jjt (K:=K) (j:=3) (yC (i:=0) rfl jg X (kG (Qa (i:=1) rfl) (ya X.sub)) (fun _ _=>rfl)) Hm ?_);intro found desk F H Hm Sf_ X jg
   try dsimp only at Hm
   replace SL0:=Same.trans SL0 Sf_;cases Hm;exact⟨F,_,rfl,⟨X,SL0⟩,jg⟩
  ·rintro F1 S0_ ⟨desk,found⟩ σ_ F H Hm ⟨w1_,rfl,⟨X,SF_⟩,jg⟩
   try dsimp only at Hm
   exact JG (K:=K) (Qg jg X (Qa (i:=3) rfl)) Hm Kk
def Aw:FnScope ["_law_desk","_law_line","_law_one","_law_other"] ["_law_desk","_law_line"] (jD (top 132)):=scK
def Wm (Fn:Fun K "_law_turned" "_law_turned" (top 132) f fd):FnOk P w K mg base CX0 14 f fd ["_law_desk","_law_line"] (spK K C_Desk (jE C_Order C_Spot) (csC cS csN) cB (fun D z=>G6 D z.1)):=by
 refine Fn.ok Aw (fun vs H Q E h=>?_) (fun cdv A outer s Hq vs Q E_ hr h=>?_)
 ·obtain⟨_,_,_,_,_,_,_,rfl,_,_,hd_,_⟩:=h;obtain⟨_,_,rfl,_,rfl⟩:=hd_;rfl
 ·obtain⟨desk,z_,J6,ws_,Fe,H0,R,rfl,X,jg,hd_,Hm,Kk⟩:=JE h;obtain⟨Qz,_,rfl,j8,rfl⟩:=hd_;obtain⟨line,_⟩:=z_;dsimp only at Hm j8;have nd:=Aw.nd;have hu:=Qp hr;refine⟨_,(jc (xn (PW.pt (V8 (jM Qm (pD_ kO hr (jb (pv 0) (jb kg (jb jl jd)))) (pv 1) (jT _)) (UL (jM Qm (pD_ kO hr (jb (pv 0) (jb kg (jb jl jd)))) (pv 1) (jT _))))) (jf (js QR)) j2) (jc (k7 (qv kD (hr.mono (by decide)) (pv 0) (jb kg jd))) (jc (pS (i:=2) nd (qv kD (hr.mono (by decide)) (pv 0) (jb kg jd))) (jc (k7 (pD_ kO hr (jb (pv 0) (jb kg (jb jl jd))))) (jc (k7 (qv kD (hr.mono (by decide)) (pv 0) (jb kg jd))) (jc (pS (i:=3) nd (qv kD (hr.mono (by decide)) (pv 0) (jb kg jd))) (jc (k7 (pD_ kO hr (jb (pv 0) (jb kg (jb jl jd))))) (jf (js (Js GF (pv 2) (pv 3) (jT _))))))))))),?_⟩
  try dsimp only[jN]
  unfold G6 at Hm;obtain rfl:Qz=.str line:=j8;refine(jfE (K:=K) (jcy (G2 (JF WD (ze (i:=0) rfl jg X (kG (kd _) (kG (jm _) (ya X.sub)))) (fun F H desk Sf_ X jg=>by exact (Qa (i:=1) rfl)))) (fun F H desk Sf_ X jg=>by exact (G2 (JF WD (ze (i:=0) rfl jg X (kG (kd _) (kG (jm _) (ya X.sub)))) (fun F H desk Sf_ X jg=>by exact (Qa (i:=1) rfl)))))) Hm ?_ ?_)
  ·intro desk F H Hm Sf_ X jg
   try dsimp only at Hm
   exact JG (K:=K) (Qg jg X (QX _)) Hm Kk
  ·intro desk F H Hm Sf_ X jg
   try dsimp only at Hm
   refine G0 ?_;refine(Ym (K:=K) (yC (i:=0) rfl jg X (kG (kd _) (ya X.sub)) (fun _ _=>rfl)) Hm ?_);intro u1 desk F H Hm Sf_ X jg
   try dsimp only at Hm
   refine(WE (K:=K) (j:=2) (yC (i:=0) rfl jg X (kG (kd _) (ya X.sub)) (fun _ _=>rfl)) Hm ?_);intro one desk F H Hm Sf_ X jg
   try dsimp only at Hm
   refine(Ym (K:=K) (ze (i:=0) rfl jg X (kG (kd _) (kG (jm _) (ya X.sub)))) Hm ?_);intro u2 desk F H Hm Sf_ X jg
   try dsimp only at Hm
   refine(Ym (K:=K) (yC (i:=0) rfl jg X (kG (kd _) (ya X.sub)) (fun _ _=>rfl)) Hm ?_);intro u3 desk F H Hm Sf_ X jg
   try dsimp only at Hm
   refine(WE (K:=K) (j:=3) (yC (i:=0) rfl jg X (kG (kd _) (ya X.sub)) (fun _ _=>rfl)) Hm ?_);intro other desk F H Hm Sf_ X jg
   try dsimp only at Hm
   refine(Ym (K:=K) (ze (i:=0) rfl jg X (kG (kd _) (kG (jm _) (ya X.sub)))) Hm ?_);intro u4 desk F H Hm Sf_ X jg
   try dsimp only at Hm
   exact JG (K:=K) (Qg jg X (je jc5 (Qa (i:=2) rfl) (Qa (i:=3) rfl) rfl)) Hm Kk
def U8 (Fn:Fun K "_law_fraction" "_law_fraction" (top 130) f fd):FnOk P w K mg base CX0 1 f fd ["_law_top","_law_bottom"] (sp2 K (pF cI) (pF cI) (rF cS) yY):=by
  refine(ok2 (N:=["_law_top","_law_bottom","_law_one","_law_other","_law_rest"]) Fn fun cdv A outer s H0 Q E_ hr nd hu top bottom jjL Zd Fe R X jjM Ze Hm Kk=>?_);refine⟨_,(jc (pS (i:=2) nd (pv 0)) (jc (pS (i:=3) nd (pv 1)) (jc (GY PassesOwn.never (jM Qm (pv 3) jl (jT _)) (jc (pS (i:=4) nd (jI Jk (pv 2) (pv 3))) (jc (pS (i:=2) nd (pv 3)) (jf (pS (i:=3) nd (pv 4)))))) (jc (xn (jM GF (pv 1) (pv 2) (jT _)) (jf (js (cY jX B.str_ (jI Gf (pv 0) (pv 2))))) j2) (jf (js (jI qy (jI qy (cY jX B.str_ (jI Gf (pv 0) (pv 2))) kg) (cY jX B.str_ (jI Gf (pv 1) (pv 2)))))))))),?_⟩
  try dsimp only[jN]
  unfold yY at Hm;obtain rfl:jjL=.int top:=jjM;obtain rfl:Zd=.int bottom:=Ze;refine(qb (K:=K) (eI (i:=0)) X Hm ?_);intro one F H Hm E X;refine(qb (K:=K) (eI (i:=1)) X Hm ?_);intro other F H Hm E X;refine QF (K:=K) X Hm (fun F1 b σ' F' H'=>match b with | (one,other)=>∃ (w1_:Option V),σ'=[some (.int top),some (.int bottom),some (.int one),some (.int other),w1_]/\(Ext Fe H0 F' H'/\Same F1 F')) ?_ ?_ ?_ ?_ ?_
  ·exact⟨_,rfl,⟨X,(Same.refl _)⟩⟩
  ·rintro F1 ⟨one,other⟩ σ_ F_ H_ ⟨w1_,rfl,⟨X_,SF_⟩⟩;exact⟨X_,SF_⟩
  ·rintro⟨one,other⟩ σ_ F H ⟨w1_,rfl,⟨X,SF_⟩⟩;exact(kY (je jaK (jau (i:=3) rfl) (jm _) rfl))
  ·rintro⟨one,other⟩ B_ σ_ F_ H_ F H ⟨w1_,rfl,⟨X,SF_⟩⟩ E Hm
   try dsimp only at Hm
   have SL0:=SF_;replace X:=Ext.trans X E;replace SL0:=E.xd SL0;refine(qb (K:=K) (je W1 (eI (i:=2)) (eI (i:=3)) rfl) X Hm ?_);intro rest_ F H Hm E X;replace SL0:=E.xd SL0;refine(qb (K:=K) (eI (i:=3)) X Hm ?_);intro one F H Hm E X;replace SL0:=E.xd SL0;refine(zR (K:=K) (eI (i:=4)) X Hm ?_);intro other F H Hm E X;replace SL0:=E.xd SL0;cases Hm;exact⟨F,_,rfl,⟨X,SL0⟩⟩
  ·rintro⟨one,other⟩ σ_ F_ H_ F H ⟨w1_,rfl,⟨X,SF_⟩⟩ E Hm
   try dsimp only at Hm
   replace X:=Ext.trans X E;refine(QY (K:=K) (kY (je Uj (eI (i:=1)) (eI (i:=2)) rfl)) X Hm ?_ ?_)
   ·intro F H Hc Hm E X;exact jw (K:=K) (kF zp (je jaJ (eI (i:=0)) (eI (i:=2)) rfl) rfl) X Hm Kk
   ·intro F H Hc Hm E X;refine G0 ?_;exact jw (K:=K) (ju Jn (ju Jn (kF zp (je jaJ (eI (i:=0)) (eI (i:=2)) rfl) rfl) (kd _) rfl) (kF zp (je jaJ (eI (i:=1)) (eI (i:=2)) rfl) rfl) rfl) X Hm Kk
def Aq:FnScope ["_law_desk","_law_k","_law_cell","_law_cells","_law_r","_law_pairs","_law_high","_law_c","_law_line","_law_due","_law_sign"] ["_law_desk","_law_k","_law_cell"] (jD (top 134)):=scK
def UA (Fn:Fun K "_law_on_stairs" "_law_on_stairs" (top 134) f fd):FnOk P w K mg base CX0 14 f fd ["_law_desk","_law_k","_law_cell"] (spK K C_Desk (jE C_Order C_Spot) (csC cI (csC cI csN)) cB (fun D z=>ql D z.1 z.2.1)):=by
 refine Fn.ok Aq (fun vs H Q E h=>?_) (fun cdv A outer s Hq vs Q E_ hr h=>?_)
 ·obtain⟨_,_,_,_,_,_,_,rfl,_,_,hd_,_⟩:=h;obtain⟨_,_,rfl,_,_,_,rfl,_,rfl⟩:=hd_;rfl
 ·obtain⟨desk,z_,J6,ws_,Fe,H0,R,rfl,X,jg,hd_,Hm,Kk⟩:=JE h;obtain⟨V_k_,_,rfl,P_k_,jf4,_,rfl,jcJ,rfl⟩:=hd_;obtain⟨k_,cell,_⟩:=z_;dsimp only at Hm P_k_ jcJ;have nd:=Aq.nd;have hu:=Qp hr;refine⟨_,(jc (pS (i:=3) nd (xB jd)) (jc (xu PassesOwn.never rfl (kz rfl B.range_ (jb (pv 1) jd)) (pG (i:=4) nd) (jf (pS (i:=3) nd (jI Vi (pv 3) (kW (own:=["_law_c"]) (ix:=[4]) (qu rfl) rfl (kz rfl B.range_ (jb (jI UM (pv 1) (pv 4)) jd)) (fun _=>(kq (i:=0) (show List.Nodup (["_law_c","_law_r"]:List Str) by decide +kernel) rfl (Or.inl rfl))) (fun _=>qY) (fun _=>(Ge (jb (pv 1) (jb (pv 0) jd))))))))) (jc (pS (i:=5) nd (xB jd)) (jc (xu PassesOwn.never rfl (kz rfl B.range_ (jb (kB jt B.len_ (pv 3)) jd)) (pG (i:=6) nd) (jc (Wo (pX kU (pv 3) (pv 6)) (Qs rfl (kZ (pG (i:=4) nd) (kZ (pG (i:=7) nd) Gp)))) (jf (pS (i:=5) nd (jI Vi (pv 5) (kW (own:=["_law_low"]) (ix:=[3,4,6,7]) (qu rfl) rfl (kz rfl B.range_ (jb (pv 6) jd)) (fun _=>(kq (i:=0) (show List.Nodup (["_law_low","_law_cells","_law_r","_law_high","_law_c"]:List Str) by decide +kernel) rfl (Or.inl rfl))) (fun _=>Gs (jM (jhT hu) (pX kU (pv 1) (pv 0)) (xB (jb (Ge (jb (jI UM (pv 2) jl) (jb (pv 4) jd))) (jb (Ge (jb (pv 2) (jb (jI UM (pv 4) jl) jd))) jd))) (by with_unfolding_all rfl))) (fun _=>(Ge (jb (pv 0) (jb (pv 3) jd)))))))))) (jc (xn (jM Qm (qv kD (hr.mono (by decide)) (pv 0) (jb (jI qy kg (cY jX B.str_ (pv 1))) jd)) (pD_ zz hr (jb (kB jt B.len_ (pv 3)) (jb (pv 5) jd))) (jT _)) (jf (js QR)) j2) (jc (pS (i:=8) nd (qv kD (hr.mono (by decide)) (pv 0) (jb (jI qy kg (cY jX B.str_ (jI Jk (pv 2) (cY zT B.int_ (pX kU (zQ Xz PySem.F.slot_str_split PySem.F.type_str_split Q4 (qv kT (hr.mono (by decide)) (pv 0) (jb kg jd)) (jb kg jd)) jl))))) jd))) (jc (pS (i:=9) nd kg) (jc (xu PassesOwn.never rfl (jil (pv 8)) (pG (i:=10) nd) (jc (Wo (pX kU (pv 3) (cY zT B.int_ (pv 10))) (Qs rfl (kZ (pG (i:=4) nd) (kZ (pG (i:=7) nd) Gp)))) (jf (pS (i:=9) nd (jI qy (pv 9) (cY jX B.str_ (zQ Xw PySem.F.slot_list_index PySem.F.type_list_index (jfg hu) (pv 3) (jb (Ge (jb (pv 7) (jb (pv 4) jd))) jd)))))))) (jf (js (jbV (Js GF (pD_ kO hr (jb (pv 0) (jb kg (jb (kB jt B.len_ (pv 3)) jd)))) (pv 9) (jT _)) (jbU (Js GF (pD_ kO hr (jb (pv 0) (jb kg (jb (kB jt B.len_ (pv 3)) jd)))) (pv 8) (jT _)))))))))))))),?_⟩
  try dsimp only[jN]
  unfold ql at Hm;obtain rfl:V_k_=.int k_:=P_k_;obtain rfl:jf4=.int cell:=jcJ;refine(yB (K:=K) (c:=(cL (cP cI cI))) (qZ (xD (xC (c:=(cP cI cI))) (by decide))) X Hm ?_);intro cells yW F H Hm E X jy;replace jg:=OwnK.mono jg E;refine Jp (K:=K) (c:=cI) ?_ X Hm (fun F1 cells σ' F' H'=>∃ (yW:V) (w1_:Option V),σ'=[some (.ref J6),some (.int k_),some (.int cell),some yW,w1_,none,none,none,none,none,none]/\(Ext Fe H0 F' H'/\Same F1 F')/\OwnK K H0 F' H' (jE C_Order C_Spot) C_Desk desk J6/\(cL (cP cI cI)).rep K F' cells yW) ?_ ?_ ?_ ?_
  ·exact(qN (jau (i:=1) rfl) rfl)
  ·intro F H E X;replace jg:=OwnK.mono jg E;replace jy:=E.xc jy;exact⟨_,_,rfl,⟨X,(Same.refl _)⟩,jg,jy⟩
  ·rintro F1 cells σ_ F_ H_ ⟨yW,w1_,rfl,⟨X_,SF_⟩,jg,jy⟩;exact⟨X_,SF_⟩
  ·rintro F1 S0_ cells B_ r_ V_r_ σ_ F_ H_ F H ⟨yW,w1_,rfl,⟨X,SF_⟩,jg,jy⟩ E P_r_ Hm
   try dsimp only at Hm
   have SL0:=SF_;replace X:=Ext.trans X E;replace jg:=OwnK.mono jg E;replace jy:=E.xc jy;replace SL0:=E.xd SL0;obtain rfl:V_r_=.int r_:=P_r_;refine x9 ?_;refine(Jv (K:=K) (c:=(cL (cP cI cI))) (qZ (ju jaN (qf (eV (i:=3) jy)) (kA (qg (zS (je kE (eI (i:=1)) (eI (i:=4)) rfl) rfl) [some (.int r_)] rfl (fun b3 c_ _ _ E2=>ym) (fun b3 c_ _ _ E2=>(qL (eI (i:=1)) (eI (i:=0)) rfl)) rfl)) rfl)) X Hm ?_);intro cells yW F H Hm E X jy;replace jg:=OwnK.mono jg E;replace SL0:=E.xd SL0;cases Hm;exact⟨F,_,_,rfl,⟨X,SL0⟩,jg,jy⟩
  ·rintro F1 S0_ cells σ_ F H Hm ⟨yW,w1_,rfl,⟨X,SF_⟩,jg,jy⟩
   try dsimp only at Hm
   replace SF_:=Same.trans S0_ SF_;refine(yB (K:=K) (c:=(cL (cP cI cI))) (qZ (xD (xC (c:=(cP cI cI))) (by decide))) X Hm ?_);intro pairs xf F H Hm E X jJ;replace jg:=OwnK.mono jg E;replace jy:=E.xc jy;refine Jp (K:=K) (c:=cI) ?_ X Hm (fun F1 pairs σ' F' H'=>∃ (w8_:Option V) (xf:V) (w9_:Option V) (w10_:Option V),σ'=[some (.ref J6),some (.int k_),some (.int cell),some yW,w8_,some xf,w9_,w10_,none,none,none]/\(Ext Fe H0 F' H'/\Same F1 F')/\OwnK K H0 F' H' (jE C_Order C_Spot) C_Desk desk J6/\(cL (cP cI cI)).rep K F' pairs xf) ?_ ?_ ?_ ?_
   ·exact(qN (jh q8 (jQ (qf (jV (p:=pF (cL (cP cI cI))) (i:=3) rfl jy))) rfl) rfl)
   ·intro F H E X;replace jg:=OwnK.mono jg E;replace jJ:=E.xc jJ;exact⟨_,_,_,_,rfl,⟨X,(Same.refl _)⟩,jg,jJ⟩
   ·rintro F1 pairs σ_ F_ H_ ⟨w8_,xf,w9_,w10_,rfl,⟨X_,SF_⟩,jg,jJ⟩;exact⟨X_,SF_⟩
   ·rintro F1 S0_ pairs B_ high GT σ_ F_ H_ F H ⟨w8_,xf,w9_,w10_,rfl,⟨X,SF_⟩,jg,jJ⟩ E GU Hm
    try dsimp only at Hm
    have SL0:=SF_;replace SF_:=Same.trans S0_ SF_;replace jy:=Cd.mono _ SF_ jy;replace X:=Ext.trans X E;replace jg:=OwnK.mono jg E;replace jy:=E.xc jy;replace jJ:=E.xc jJ;replace SL0:=E.xd SL0;obtain rfl:GT=.int high:=GU;refine x9 ?_;refine(jeD (K:=K) (je zm (jQ (qf (eV (i:=3) jy))) (eI (i:=6)) rfl) X Hm ?_);intro r_ c_ V_r_ V_c_ F H Hm E X P_r_ P_c_
    try dsimp only at Hm
    obtain rfl:V_r_=.int r_:=P_r_;obtain rfl:V_c_=.int c_:=P_c_;replace jg:=OwnK.mono jg E;replace jy:=E.xc jy;replace jJ:=E.xc jJ;replace SL0:=E.xd SL0;refine(Jv (K:=K) (c:=(cL (cP cI cI))) (qZ (ju jaN (qf (eV (i:=5) jJ)) (kA (qg (zS (eI (i:=6)) rfl) [some yW,some (.int r_),some (.int high),some (.int c_)] rfl (fun b13 low _ _ E12=>(kY (ju (jlR (eqP eqI eqI) (by decide)) (jgv (je zm (jQ (qf (eV (i:=1) (Cd.mono _ (E12).f jy)))) (eI (i:=0)) rfl)) (jgw (kA (xD (qK (qL (je kE (eI (i:=2)) (jm _) rfl) (eI (i:=4)) rfl) (qK (qL (eI (i:=2)) (je kE (eI (i:=4)) (jm _) rfl) rfl) (xC (c:=(cP cI cI))) rfl) rfl) (by decide)))) rfl))) (fun b13 low _ _ E12=>(qL (eI (i:=0)) (eI (i:=3)) rfl)) rfl)) rfl)) X Hm ?_);intro pairs xf F H Hm E X jJ;replace jg:=OwnK.mono jg E;replace SL0:=E.xd SL0;cases Hm;exact⟨F,_,_,_,_,rfl,⟨X,SL0⟩,jg,jJ⟩
   ·rintro F1 S0_ pairs σ_ F H Hm ⟨w8_,xf,w9_,w10_,rfl,⟨X,SF_⟩,jg,jJ⟩
    try dsimp only at Hm
    replace SF_:=Same.trans S0_ SF_;replace jy:=Cd.mono _ SF_ jy;refine(jfE (K:=K) (G2 (JF WD (yC (i:=0) rfl jg X (kG (ju Jn (kd _) (jh zp (eI (i:=1)) rfl) rfl) (ya X.sub)) (fun _ _=>rfl)) (fun F H desk Sf_ X jg=>by replace jy:=Cd.mono _ Sf_ jy; replace jJ:=Cd.mono _ Sf_ jJ; exact (jo (jh q8 (jQ (qf (eV (i:=3) jy))) rfl) (qf (eV (i:=5) jJ)) rfl)))) Hm ?_ ?_)
    ·intro desk F H Hm Sf_ X jg
     try dsimp only at Hm
     replace jy:=Cd.mono _ Sf_ jy;replace jJ:=Cd.mono _ Sf_ jJ;exact JG (K:=K) (Qg jg X (QX _)) Hm Kk
    ·intro desk F H Hm Sf_ X jg
     try dsimp only at Hm
     replace jy:=Cd.mono _ Sf_ jy;replace jJ:=Cd.mono _ Sf_ jJ;refine G0 ?_;refine(WE (K:=K) (j:=8) (yC (i:=0) rfl jg X (kG (ju Jn (kd _) (kF zp (ju W1 (eI (i:=2)) (kF Vz (ju zm (jQ (kA (Qf (yh (i:=0) rfl jg (fun _ _=>rfl) (kd _) rfl) (kd _) rfl))) (jm _) rfl) rfl) rfl) rfl) rfl) (ya X.sub)) (fun _ _=>rfl)) Hm ?_);intro line desk F H Hm Sf_ X jg
     try dsimp only at Hm
     replace jy:=Cd.mono _ Sf_ jy;replace jJ:=Cd.mono _ Sf_ jJ;refine(jcj (K:=K) (kd _) X Hm ?_);intro due F H Hm E X;replace jg:=OwnK.mono jg E;replace jy:=E.xc jy;replace jJ:=E.xc jJ;refine Jp (K:=K) (c:=cS) ?_ X Hm (fun F1 due σ' F' H'=>∃ (w31_:Option V) (w32_:Option V) (w33_:Option V),σ'=[some (.ref J6),some (.int k_),some (.int cell),some yW,w31_,some xf,w9_,w32_,some (.str line),some (.str due),w33_]/\(Ext Fe H0 F' H'/\Same F1 F')/\OwnK K H0 F' H' (jE C_Order C_Spot) C_Desk desk J6) ?_ ?_ ?_ ?_
     ·exact(jdp (Qa (i:=8) rfl) rfl)
     ·intro F H E X;replace jg:=OwnK.mono jg E;exact⟨_,_,_,rfl,⟨X,(Same.refl _)⟩,jg⟩
     ·rintro F1 due σ_ F_ H_ ⟨w31_,w32_,w33_,rfl,⟨X_,SF_⟩,jg⟩;exact⟨X_,SF_⟩
     ·rintro F1 S0_ due B_ sign jf7 σ_ F_ H_ F H ⟨w31_,w32_,w33_,rfl,⟨X,SF_⟩,jg⟩ E jcL Hm
      try dsimp only at Hm
      have SL0:=SF_;replace SF_:=Same.trans S0_ SF_;replace jy:=Cd.mono _ SF_ jy;replace X:=Ext.trans X E;replace jg:=OwnK.mono jg E;replace jy:=E.xc jy;replace SL0:=E.xd SL0;obtain rfl:jf7=.str sign:=jcL;refine x9 ?_;refine(jeD (K:=K) (ju zm (jQ (qf (eV (i:=3) jy))) (jh Vz (Qa (i:=10) rfl) rfl) rfl) X Hm ?_);intro r_ c_ V_r_ V_c_ F H Hm E X P_r_ P_c_
      try dsimp only at Hm
      obtain rfl:V_r_=.int r_:=P_r_;obtain rfl:V_c_=.int c_:=P_c_;replace jg:=OwnK.mono jg E;replace jy:=E.xc jy;replace SL0:=E.xd SL0;refine(jer (K:=K) (ju Jn (Qa (i:=9) rfl) (kF zp (Ye (eqP eqI eqI) (by decide) (qf (eV (i:=3) jy)) (qL (eI (i:=7)) (eI (i:=4)) rfl) rfl) rfl) rfl) X Hm ?_);intro due F H Hm E X;replace jg:=OwnK.mono jg E;replace SL0:=E.xd SL0;cases Hm;exact⟨F,_,_,_,rfl,⟨X,SL0⟩,jg⟩
     ·rintro F1 S0_ due σ_ F H Hm ⟨w31_,w32_,w33_,rfl,⟨X,SF_⟩,jg⟩
      try dsimp only at Hm
      replace SF_:=Same.trans S0_ SF_;replace jy:=Cd.mono _ SF_ jy;replace jJ:=Cd.mono _ SF_ jJ;exact JG (K:=K) (jjs (JF jik (ze (i:=0) rfl jg X (kG (kd _) (kG (jh q8 (jQ (qf (eV (i:=3) jy))) rfl) (ya X.sub)))) (fun F H desk Sf_ X jg=>by replace jy:=Cd.mono _ Sf_ jy; replace jJ:=Cd.mono _ Sf_ jJ; exact (Qa (i:=9) rfl))) (fun F H desk Sf_ X jg=>by replace jy:=Cd.mono _ Sf_ jy; replace jJ:=Cd.mono _ Sf_ jJ; exact (JF jik (ze (i:=0) rfl jg X (kG (kd _) (kG (jh q8 (jQ (qf (eV (i:=3) jy))) rfl) (ya X.sub)))) (fun F H desk Sf_ X jg=>by replace jy:=Cd.mono _ Sf_ jy; replace jJ:=Cd.mono _ Sf_ jJ; exact (Qa (i:=8) rfl))))) Hm Kk
def jln (Fn:Fun K "law" "law" (top 135) f fd):FnOk P w K mg base CX0 15 f fd ["_law_script"] (sp1 K (pF cScr) (rF cB) Z2):=by
  refine(ok1 (N:=["_law_script","_law_a","_law_b","_law_desk","_law_shown_here","_law_counts","_law_sizes","_law_things","_law_line"]) Fn fun cdv A outer s H0 Q E_ hr nd hu script Vc Fe R X jk Hm Kk=>?_);refine⟨_,(jc (Wo (pD_ JS hr (jb (pD_ qT hr (jb (pv 0) (jb jl jd))) jd)) (Qs rfl (kZ (pG (i:=1) nd) (kZ (pG (i:=2) nd) Gp)))) (jc (pS (i:=3) nd (jjz QM (hr.mono (by decide)) rfl)) (jc (pS (i:=4) nd (pD_ zz hr (jb (jI GE (pv 1) (pv 2)) (jb (pD_ yS hr (jb (pv 1) (jb (pv 2) jd))) jd)))) (jc (xn (PW.pt (V8 (jM Qm (qv kD (hr.mono (by decide)) (pv 3) (jb (jI qy (jI qy (jI qy kg (cY jX B.str_ (pv 1))) kg) (cY jX B.str_ (pv 2))) jd)) (pv 4) (jT _)) (UL (jM Qm (qv kT (hr.mono (by decide)) (pv 3) (jb kg jd)) (pv 4) (jT _))))) (jf (js QR)) j2) (jc (J_ (i:=5) (own:=["_law_word"]) (ix:=[]) (qu rfl) rfl (qw (zQ Xz PySem.F.slot_str_split PySem.F.type_str_split Q4 (qv kT (hr.mono (by decide)) (pv 3) (jb kg jd)) (jb kg jd))) (fun _=>(kq (i:=0) (show List.Nodup (["_law_word"]:List Str) by decide +kernel) rfl (Or.inl rfl))) (fun _=>qY) (fun _=>(cY zT B.int_ (pv 0))) nd rfl rfl) (jc (J_ (i:=6) (own:=["_law_word"]) (ix:=[]) (qu rfl) rfl (qw (zQ Xz PySem.F.slot_str_split PySem.F.type_str_split Q4 (qv kT (hr.mono (by decide)) (pv 3) (jb kg jd)) (jb kg jd))) (fun _=>(kq (i:=0) (show List.Nodup (["_law_word"]:List Str) by decide +kernel) rfl (Or.inl rfl))) (fun _=>qY) (fun _=>(cY zT B.int_ (pv 0))) nd rfl rfl) (jc (xn (PW.pt (V8 (jM Qm (kB jt B.len_ (pv 6)) (jI yu (jI GE (pv 1) (pv 2)) jl) (jT _)) (V8 (jM Qm (kB (QW rfl) B.sum_ (pv 6)) (pX kU (pv 5) jl) (jT _)) (UL (jM (jhS hu) (pv 6) (jdh rfl rfl B.list_ rfl B.reversed_ (pv 6)) (jT _)))))) (jf (js QR)) j2) (jc (xn (jM Qm (kB (QW rfl) B.sum_ (kW (own:=["_law_word"]) (ix:=[]) (qu rfl) rfl (qw (zQ Xz PySem.F.slot_str_split PySem.F.type_str_split Q4 (qv kT (hr.mono (by decide)) (pv 3) (jb kg jd)) (jb kg jd))) (fun _=>(kq (i:=0) (show List.Nodup (["_law_word"]:List Str) by decide +kernel) rfl (Or.inl rfl))) (fun _=>qY) (fun _=>(cY zT B.int_ (pv 0))))) (pX kU (pv 5) jl) (jT _)) (jf (js QR)) j2) (jc (pS (i:=7) nd (qv kD (hr.mono (by decide)) (pv 3) (jb (jI qy kg (cY jX B.str_ (jI Jk (pD_ qT hr (jb (pv 0) (jb jl jd))) (pX kU (pv 5) jl)))) jd))) (jc (pS (i:=8) nd (qv kD (hr.mono (by decide)) (pv 3) (jb (jI qy kg (cY jX B.str_ (jI Jk (pD_ qT hr (jb (pv 0) (jb jl jd))) (pX kU (pv 5) jl)))) jd))) (jc (xn (PW.pt (V8 (jM Qm (pD_ kO hr (jb (pv 3) (jb kg (jb (jI yu (pv 1) (pv 2)) jd)))) (pv 7) (jT _)) (UL (jM Qm (pD_ kO hr (jb (pv 3) (jb kg (jb (jI GE (pv 1) (pv 2)) jd)))) (pv 8) (jT _))))) (jf (js QR)) j2) (jc (xn (PW.pt (V8 (jM Qm (jI Jk (jI yu (pv 1) (pv 2)) (cY zT B.int_ (qv kT (hr.mono (by decide)) (pv 3) (jb kg jd)))) jl (jT _)) (UL (Jj (GC (pD_ Jg hr (jb (pv 3) (jb (pv 8) jd)))))))) (jf (js QR)) j2) (jc (xn (jM Qm (qv kT (hr.mono (by decide)) (pv 3) (jb kg jd)) (jI qy (jI qy (pD_ yV hr (jb (jI GE (pv 1) (pv 2)) (jb jl jd))) kg) (pD_ yV hr (jb (jI GE (pv 1) (pv 2)) (jb (jI yu (pv 1) (pv 2)) jd)))) (jT _)) (jf (js QR)) j2) (jf (js (pD_ zG hr (jb (pv 3) (jb (jI yu jl (jI Jk (pD_ qT hr (jb (pv 0) (jb jl jd))) jl)) (jb (pD_ qT hr (jb (pv 0) (jb jl jd))) jd))))))))))))))))))),?_⟩
  try dsimp only[jN]
  unfold Z2 at Hm;replace jk:cScr.rep K Fe script Vc:=jk;refine(jeD (K:=K) (kK (jo (eV (i:=0) jk) (jm _) rfl) rfl) X Hm ?_);intro a_ b_ V_a_ V_b_ F H Hm E X P_a_ P_b_
  try dsimp only at Hm
  obtain rfl:V_a_=.int a_:=P_a_;obtain rfl:V_b_=.int b_:=P_b_;replace jk:=E.xc jk;refine(jjx (K:=K) jhl X Hm ?_);intro desk J6 F H Hm E X jg;replace jk:=E.xc jk;refine(jcj (K:=K) (jU (je UZ (eI (i:=1)) (eI (i:=2)) rfl) (kA (jo (eI (i:=1)) (eI (i:=2)) rfl)) rfl) X Hm ?_);intro shown_here F H Hm E X;replace jk:=E.xc jk;replace jg:=OwnK.mono jg E;refine(jfE (K:=K) (jcy (G2 (JF WD (yC (i:=3) rfl jg X (kG (ju Jn (ju Jn (ju Jn (kd _) (jh zp (eI (i:=1)) rfl) rfl) (kd _) rfl) (jh zp (eI (i:=2)) rfl) rfl) (ya X.sub)) (fun _ _=>rfl)) (fun F H desk Sf_ X jg=>by replace jk:=Cd.mono _ Sf_ jk; exact (Qa (i:=4) rfl)))) (fun F H desk Sf_ X jg=>by replace jk:=Cd.mono _ Sf_ jk; exact (jcx jg X (kY (ju jgx (yh (i:=3) rfl jg (fun _ _=>rfl) (kd _) rfl) (Qa (i:=4) rfl) rfl))))) Hm ?_ ?_)
  ·intro desk F H Hm Sf_ X jg
   try dsimp only at Hm
   replace jk:=Cd.mono _ Sf_ jk;exact jw (K:=K) (QX _) X Hm Kk
  ·intro desk F H Hm Sf_ X jg
   try dsimp only at Hm
   replace jk:=Cd.mono _ Sf_ jk;refine G0 ?_;refine(yB (K:=K) (c:=(cL cI)) (qZ (Qc (yA (jQ (kA (Qf (yh (i:=3) rfl jg (fun _ _=>rfl) (kd _) rfl) (kd _) rfl)))) [] rfl (fun b15 word Uc _ _ E14 Gn=>ym) (fun b15 word Uc _ _ E14 Gn=>(jh Vz (eV (i:=0) Gn) rfl)) rfl)) X Hm ?_);intro counts Ql F H Hm E X jr;replace jk:=E.xc jk;replace jg:=OwnK.mono jg E;refine(yB (K:=K) (c:=(cL cI)) (qZ (Qc (yA (jQ (kA (Qf (yh (i:=3) rfl jg (fun _ _=>rfl) (kd _) rfl) (kd _) rfl)))) [] rfl (fun b19 word Uc _ _ E18 Gn=>ym) (fun b19 word Uc _ _ E18 Gn=>(jh Vz (eV (i:=0) Gn) rfl)) rfl)) X Hm ?_);intro sizes jmB F H Hm E X kf;replace jk:=E.xc jk;replace jg:=OwnK.mono jg E;replace jr:=E.xc jr;refine(jgE (K:=K) (jaU (kY (ju jaK (jh q8 (jQ (qf (eV (i:=6) kf))) rfl) (ju kE (je UZ (eI (i:=1)) (eI (i:=2)) rfl) (jm _) rfl) rfl)) (jaU (kY (ju jaK (jh jez (jQ (qf (eV (i:=6) kf))) rfl) (je zm (jQ (qf (eV (i:=5) jr))) (jm _) rfl) rfl)) (kY (je (jks (eqL eqI) (by decide) nfL) (jgv (eV (i:=6) kf)) (jgw (kA (ja1 (jQ (qf (eV (i:=6) kf))) rfl))) rfl)) rfl) rfl) X Hm ?_ ?_)
   ·intro F H Hm E X
    try dsimp only[we] at Hm
    replace jg:=OwnK.mono jg E;exact jw (K:=K) (QX _) X Hm Kk
   ·intro F H Hm E X
    try dsimp only[X9] at Hm
    replace jk:=E.xc jk;replace jg:=OwnK.mono jg E;replace jr:=E.xc jr;replace kf:=E.xc kf;refine G0 ?_;refine(jgE (K:=K) (kY (ju jaK (kF jez (jQ (kA (Qc (yA (jQ (kA (Qf (yh (i:=3) rfl jg (fun _ _=>rfl) (kd _) rfl) (kd _) rfl)))) [] rfl (fun b29 word Uc _ _ E28 Gn=>ym) (fun b29 word Uc _ _ E28 Gn=>(jh Vz (eV (i:=0) Gn) rfl)) rfl))) rfl) (je zm (jQ (qf (eV (i:=5) jr))) (jm _) rfl) rfl)) X Hm ?_ ?_)
    ·intro F H Hm E X
     try dsimp only[we] at Hm
     replace jg:=OwnK.mono jg E;exact jw (K:=K) (QX _) X Hm Kk
    ·intro F H Hm E X
     try dsimp only[X9] at Hm
     replace jk:=E.xc jk;replace jg:=OwnK.mono jg E;replace jr:=E.xc jr;replace kf:=E.xc kf;refine G0 ?_;refine(WE (K:=K) (j:=7) (yC (i:=3) rfl jg X (kG (ju Jn (kd _) (kF zp (ju W1 (jo (eV (i:=0) jk) (jm _) rfl) (je zm (jQ (qf (eV (i:=5) jr))) (jm _) rfl) rfl) rfl) rfl) (ya X.sub)) (fun _ _=>rfl)) Hm ?_);intro yO desk F H Hm Sf_ X jg
     try dsimp only at Hm
     replace jk:=Cd.mono _ Sf_ jk;replace jr:=Cd.mono _ Sf_ jr;replace kf:=Cd.mono _ Sf_ kf;refine(WE (K:=K) (j:=8) (yC (i:=3) rfl jg X (kG (ju Jn (kd _) (kF zp (ju W1 (jo (eV (i:=0) jk) (jm _) rfl) (je zm (jQ (qf (eV (i:=5) jr))) (jm _) rfl) rfl) rfl) rfl) (ya X.sub)) (fun _ _=>rfl)) Hm ?_);intro line desk F H Hm Sf_ X jg
     try dsimp only at Hm
     replace jk:=Cd.mono _ Sf_ jk;replace jr:=Cd.mono _ Sf_ jr;replace kf:=Cd.mono _ Sf_ kf;refine(jfE (K:=K) (jcy (G2 (JF WD (ze (i:=3) rfl jg X (kG (kd _) (kG (je kE (eI (i:=1)) (eI (i:=2)) rfl) (ya X.sub)))) (fun F H desk Sf_ X jg=>by replace jk:=Cd.mono _ Sf_ jk; replace jr:=Cd.mono _ Sf_ jr; replace kf:=Cd.mono _ Sf_ kf; exact (Qa (i:=7) rfl)))) (fun F H desk Sf_ X jg=>by replace jk:=Cd.mono _ Sf_ jk; replace jr:=Cd.mono _ Sf_ jr; replace kf:=Cd.mono _ Sf_ kf; exact (G2 (JF WD (ze (i:=3) rfl jg X (kG (kd _) (kG (je UZ (eI (i:=1)) (eI (i:=2)) rfl) (ya X.sub)))) (fun F H desk Sf_ X jg=>by replace jk:=Cd.mono _ Sf_ jk; replace jr:=Cd.mono _ Sf_ jr; replace kf:=Cd.mono _ Sf_ kf; exact (Qa (i:=8) rfl)))))) Hm ?_ ?_)
     ·intro desk F H Hm Sf_ X jg
      try dsimp only at Hm
      replace jk:=Cd.mono _ Sf_ jk;replace jr:=Cd.mono _ Sf_ jr;replace kf:=Cd.mono _ Sf_ kf;exact jw (K:=K) (QX _) X Hm Kk
     ·intro desk F H Hm Sf_ X jg
      try dsimp only at Hm
      replace jk:=Cd.mono _ Sf_ jk;replace jr:=Cd.mono _ Sf_ jr;replace kf:=Cd.mono _ Sf_ kf;refine G0 ?_;refine(jfE (K:=K) (jcy (jcx jg X (kY (ju jaK (ju W1 (je kE (eI (i:=1)) (eI (i:=2)) rfl) (kF Vz (yh (i:=3) rfl jg (fun _ _=>rfl) (kd _) rfl) rfl) rfl) (jm _) rfl))) (fun F H desk Sf_ X jg=>by replace jk:=Cd.mono _ Sf_ jk; replace jr:=Cd.mono _ Sf_ jr; replace kf:=Cd.mono _ Sf_ kf; exact (jjr (G2 (ze (i:=3) rfl jg X (kG (Qa (i:=8) rfl) (ya X.sub))))))) Hm ?_ ?_)
      ·intro desk F H Hm Sf_ X jg
       try dsimp only at Hm
       replace jk:=Cd.mono _ Sf_ jk;replace jr:=Cd.mono _ Sf_ jr;replace kf:=Cd.mono _ Sf_ kf;exact jw (K:=K) (QX _) X Hm Kk
      ·intro desk F H Hm Sf_ X jg
       try dsimp only at Hm
       replace jk:=Cd.mono _ Sf_ jk;replace jr:=Cd.mono _ Sf_ jr;replace kf:=Cd.mono _ Sf_ kf;refine G0 ?_;refine(jgE (K:=K) (kY (ju jgx (yh (i:=3) rfl jg (fun _ _=>rfl) (kd _) rfl) (ju Jn (ju Jn (jU (je UZ (eI (i:=1)) (eI (i:=2)) rfl) (jm _) rfl) (kd _) rfl) (jU (je UZ (eI (i:=1)) (eI (i:=2)) rfl) (je kE (eI (i:=1)) (eI (i:=2)) rfl) rfl) rfl) rfl)) X Hm ?_ ?_)
       ·intro F H Hm E X
        try dsimp only[we] at Hm
        replace jg:=OwnK.mono jg E;exact jw (K:=K) (QX _) X Hm Kk
       ·intro F H Hm E X
        try dsimp only[X9] at Hm
        replace jk:=E.xc jk;replace jg:=OwnK.mono jg E;refine G0 ?_;exact jhj (K:=K) (ze (i:=3) rfl jg X (kG (ju kE (jm _) (jeP (by decide) (jo (eV (i:=0) jk) (jm _) rfl) (jm _) rfl) rfl) (kG (jo (eV (i:=0) jk) (jm _) rfl) (ya X.sub)))) Hm Kk
end
end
def all_mk {l:W.OpenLaw}{fa:Addr} (X:K.In h) (G:h.Ns mainGlobals mg) (hfa:mg "law"=some (.ref fa))
  {f25 f29 f38 f40 f45 f47 f51 f55 f65 f69 f72 f75 f82 f84 f85 f94 C_Spot C_Desk C_Great qm xv xw:Addr}{od40 od94 an40 an94:Option Addr}{sl40 sl94:Array (Option Value)}{oc40 oc94 kV40 kV94 dc40 dc94 pm40 pm94 cd40 cd94 ct40 ct94:Value}{Td40:Addr}{dV40 dv40:Value}{oT40:Obj}{nT40:Nat}{w6 w5 w4 w3 w0 w2 w1:Addr}{w10 w11 w8 w7 w9:Tok}
  (y0:W.nsIn K mainGlobals "Order"=some (some (.ref C_Order)))
  (y1:jfD K C_Order=true)
  (y2:W.findIn K (.ref C_Order) "many"=some none)
  (y3:W.findIn K (.ref C_Order) "beneath"=some none)
  (y4:W.findIn K (.ref C_Order) "neighbours"=some none)
  (y5:W.nsIn K mainGlobals "Spot"=some (some (.ref C_Spot)))
  (y6:jfD K C_Spot=true)
  (y7:W.findIn K (.ref C_Spot) "order"=some none)
  (y8:W.findIn K (.ref C_Spot) "bits"=some none)
  (y9:W.findIn K (.ref C_Spot) "line"=some none)
  (y10:W.findIn K (.ref C_Spot) "answer"=some none)
  (y11:W.nsIn K mainGlobals "Desk"=some (some (.ref C_Desk)))
  (y12:jfD K C_Desk=true)
  (y13:W.findIn K (.ref C_Desk) "spot"=some none)
  (y14:W.findIn K (.ref C_Desk) "earlier"=some none)
  (y15:W.nsIn K mainGlobals "Great"=some (some (.ref C_Great)))
  (y16:jfD K C_Great=true)
  (y17:W.findIn K (.ref C_Great) "order"=some none)
  (y18:W.nsIn K mainGlobals "Fraction"=some (some (.ref C_Fraction)))
  (y19:jfD K C_Fraction=true)
  (y20:W.findIn K (.ref C_Fraction) "top"=some none)
  (y21:W.findIn K (.ref C_Fraction) "bottom"=some none)
  (y22:W.nsIn K mainGlobals "Slide"=some (some (.ref qm)))
  (y23:jfD K qm=true)
  (y24:W.findIn K (.ref qm) "order"=some none)
  (y25:W.nsIn K mainGlobals "Above"=some (some (.ref xv)))
  (y26:jfD K xv=true)
  (y27:W.findIn K (.ref xv) "order"=some none)
  (y28:W.nsIn K mainGlobals "Below"=some (some (.ref xw)))
  (y29:jfD K xw=true)
  (y30:W.findIn K (.ref xw) "order"=some none)
  (F0:DefX K "_law_cell_at" (top 127))
  (F1:DefX K "_law_sides" (top 129))
  (F2:DefX K "check_parts" (top 16))
  (F3:DefX K "sets_below" (top 18))
  (F4:DefX K "has" (top 17))
  (F5:DefX K "is_cover" (top 19))
  (F6:DefX K "cover_pairs" (top 20))
  (F7:MthX K C_Order "__init__" "Order.__init__" ((jC (top 21) 0)))
  (F8:MthX K C_Order "size" "Order.size" ((jC (top 21) 1)))
  (F9:DefX K "things_of" (top 23))
  (F10:DefX K "holds_all" (top 25))
  (F11:DefX K "is_downset" (top 26))
  (F12:DefX K "downsets" (top 31))
  (F13:DefX K "is_door" (top 29))
  (F14:DefX K "things_next" (top 42))
  (F15:DefX K "ways_on" (top 43))
  (F16:DefX K "line_at" (top 46))
  (F17:MthX K C_Order "covers" "Order.covers" ((jC (top 21) 4)))
  (F18:DefX K "order_text" (top 66))
  (F19:MthX K C_Spot "__init__" "Spot.__init__" ((jC (top 94) 0)))
  (F20:DefX K "with_order" (top 97))
  (F21:MthX K C_Desk "__init__" "Desk.__init__" ((jC (top 125) 0)))
  (F22:DefX K "_law_field_pairs" (top 128))
  (F23:DefX K "_law_shown" (top 133))
  (F24:MthX K C_Desk "undone" "Desk.undone" ((jC (top 125) 2)))
  (a25:W.nsIn K mainGlobals "told_order"=some (some (.ref f25)))
  (F25:FunX K "told_order" "told_order" (top 113) f25)
  (F26:DefX K "how_many" (top 32))
  (F27:DefX K "how_many_lines" (top 44))
  (F28:DefX K "with_blanks" (top 96))
  (a29:W.nsIn K mainGlobals "told_counts"=some (some (.ref f29)))
  (F29:FunX K "told_counts" "told_counts" (top 114) f29)
  (F30:MthX K C_Great "__init__" "Turn.__init__" ((jC (top 86) 0)))
  (F31:DefX K "check_downset" (top 27))
  (F32:DefX K "set_of" (top 24))
  (F33:DefX K "doors" (top 30))
  (F34:DefX K "great_turn" (top 81))
  (F35:MthX K C_Great "done" "Great.done" ((jC (top 87) 0)))
  (F36:DefX K "round_of" (top 63))
  (F37:DefX K "great_round" (top 111))
  (a38:W.nsIn K mainGlobals "told_round"=some (some (.ref f38)))
  (F38:FunX K "told_round" "told_round" (top 116) f38)
  (F39:DefX K "greatest_divisor" (top 36))
  (a40:W.findIn K (.ref C_Fraction) "__init__"=some (some (.ref f40))) (i40:W.isFn K (.ref f40)=true)
  (l40:K.lookup f40=some ⟨oc40,od40,.func (W.fnOf "__init__" "Fraction.__init__" (yg ((jC (top 37) 0))) (qX ((jC (top 37) 0))) (jD ((jC (top 37) 0))) dV40 kV40 dc40 pm40 an40 cd40 ct40),sl40⟩) (c40:W.codeIn K cd40 "Fraction.__init__"=true) (k40:W.keepIn K (.ref f40)=true)
  (dE40:dV40=.ref Td40) (lT40:K.lookup Td40=some oT40) (hT40:oT40.data=.seq #[dv40] nT40)
  (F41:DefX K "mean" (top 38))
  (F42:MthX K C_Fraction "shown" "Fraction.shown" ((jC (top 37) 2)))
  (F43:DefX K "mean_size" (top 112))
  (F44:DefX K "brim" (top 28))
  (a45:W.nsIn K mainGlobals "told_mean"=some (some (.ref f45)))
  (F45:FunX K "told_mean" "told_mean" (top 117) f45)
  (F46:DefX K "by_size" (top 58))
  (a47:W.nsIn K mainGlobals "told_sizes"=some (some (.ref f47)))
  (F47:FunX K "told_sizes" "told_sizes" (top 118) f47)
  (F48:DefX K "one_fall_more" (top 60))
  (F49:DefX K "added" (top 59))
  (F50:DefX K "by_falls" (top 61))
  (a51:W.nsIn K mainGlobals "told_falls"=some (some (.ref f51)))
  (F51:FunX K "told_falls" "told_falls" (top 119) f51)
  (F52:DefX K "is_number" (top 123))
  (F53:DefX K "figures" (top 95))
  (F54:DefX K "with_downset" (top 98))
  (a55:W.nsIn K mainGlobals "at_great"=some (some (.ref f55)))
  (F55:FunX K "at_great" "at_great" (top 105) f55)
  (F56:MthX K qm "__init__" "Turn.__init__" ((jC (top 86) 0)))
  (F57:DefX K "is_line" (top 40))
  (F58:DefX K "check_line" (top 41))
  (F59:MthX K C_Order "check_thing" "Order.check_thing" ((jC (top 21) 2)))
  (F60:MthX K C_Order "just_above" "Order.just_above" ((jC (top 21) 6)))
  (F61:DefX K "places_within" (top 83))
  (F62:DefX K "slid" (top 84))
  (F63:MthX K qm "done" "Slide.done" ((jC (top 88) 0)))
  (F64:DefX K "with_line" (top 99))
  (a65:W.nsIn K mainGlobals "at_slide"=some (some (.ref f65)))
  (F65:FunX K "at_slide" "at_slide" (top 107) f65)
  (F66:MthX K C_Order "just_below" "Order.just_below" ((jC (top 21) 5)))
  (F67:DefX K "slid_back" (top 85))
  (F68:MthX K qm "back" "Slide.back" ((jC (top 88) 1)))
  (a69:W.nsIn K mainGlobals "at_unslide"=some (some (.ref f69)))
  (F69:FunX K "at_unslide" "at_unslide" (top 108) f69)
  (F70:MthX K xv "__init__" "Turn.__init__" ((jC (top 86) 0)))
  (F71:MthX K xv "done" "Above.done" ((jC (top 89) 0)))
  (a72:W.nsIn K mainGlobals "at_above"=some (some (.ref f72)))
  (F72:FunX K "at_above" "at_above" (top 109) f72)
  (F73:MthX K xw "__init__" "Turn.__init__" ((jC (top 86) 0)))
  (F74:MthX K xw "done" "Below.done" ((jC (top 90) 0)))
  (a75:W.nsIn K mainGlobals "at_below"=some (some (.ref f75)))
  (F75:FunX K "at_below" "at_below" (top 110) f75)
  (F76:DefX K "check_stairs" (top 50))
  (F77:DefX K "cells_of" (top 51))
  (F78:DefX K "stairs_cells" (top 52))
  (F79:DefX K "neither_greater" (top 53))
  (F80:DefX K "order_of" (top 54))
  (F81:DefX K "stairs" (top 56))
  (a82:W.nsIn K mainGlobals "at_stairs"=some (some (.ref f82)))
  (F82:FunX K "at_stairs" "at_stairs" (top 100) f82)
  (F83:DefX K "downset_at" (top 34))
  (a84:W.nsIn K mainGlobals "at_down"=some (some (.ref f84)))
  (F84:FunX K "at_down" "at_down" (top 101) f84)
  (a85:W.nsIn K mainGlobals "at_line"=some (some (.ref f85)))
  (F85:FunX K "at_line" "at_line" (top 103) f85)
  (F86:DefX K "check_field" (top 49))
  (F87:DefX K "field" (top 55))
  (F88:DefX K "step_from" (top 124))
  (F89:MthX K C_Desk "told" "Desk.told" ((jC (top 125) 1)))
  (F90:DefX K "_law_often" (top 131))
  (F91:DefX K "_law_turned" (top 132))
  (F92:DefX K "_law_fraction" (top 130))
  (F93:DefX K "_law_on_stairs" (top 134))
  (a94:W.nsIn K mainGlobals "law"=some (some (.ref f94)))
  (l94:K.lookup f94=some ⟨oc94,od94,.func (W.fnOf "law" "law" (yg (top 135)) (qX (top 135)) (jD (top 135)) .none kV94 dc94 pm94 an94 cd94 ct94),sl94⟩) (c94:W.codeIn K cd94 "law"=true) (k94:W.keepIn K (.ref f94)=true)
  (y31:W.nsIn K mainGlobals "told_where"=some (some (.ref w6))) (y32:W.keepIn K (.ref w6)=true)
  (y33:W.nsIn K mainGlobals "at_ungreat"=some (some (.ref w5))) (y34:W.keepIn K (.ref w5)=true)
  (y35:W.nsIn K mainGlobals "at_toggle"=some (some (.ref w4))) (y36:W.keepIn K (.ref w4)=true)
  (y37:W.nsIn K mainGlobals "at_swap"=some (some (.ref w3))) (y38:W.keepIn K (.ref w3)=true)
  (y39:W.nsIn K mainGlobals "ASKED"=some (some (.ref w0)))
  (y40:PyProof.Rows.KTD.tabLook (fun (f:Addr) v=>v==Value.ref f) (fun b=>K.lookup b) w0 [("show",f25),("counts",f29),("where",w6),("round",f38),("mean",f45),("sizes",f47),("falls",f51)]=true) (y41:PyProof.Rows.KTD.hashesOf (fun b=>K.lookup b) w0=([("show",f25),("counts",f29),("where",w6),("round",f38),("mean",f45),("sizes",f47),("falls",f51)]:List (Str×Addr)).map fun p=>(PySem.strKind l.prog w).hash p.1)
  (y42:W.nsIn K mainGlobals "PLAIN_STEPS"=some (some (.ref w2)))
  (y43:PyProof.Rows.KTD.tabLook (fun (f:Addr) v=>v==Value.ref f) (fun b=>K.lookup b) w2 [("great",f55),("ungreat",w5),("slide",f65),("unslide",f69),("above",f72),("below",f75)]=true) (y44:PyProof.Rows.KTD.hashesOf (fun b=>K.lookup b) w2=([("great",f55),("ungreat",w5),("slide",f65),("unslide",f69),("above",f72),("below",f75)]:List (Str×Addr)).map fun p=>(PySem.strKind l.prog w).hash p.1)
  (y45:W.nsIn K mainGlobals "NUMBER_STEPS"=some (some (.ref w1)))
  (y46:PyProof.Rows.KTD.tabLook (fun (f:Addr) v=>v==Value.ref f) (fun b=>K.lookup b) w1 [("stairs",f82),("down",f84),("toggle",w4),("line",f85),("swap",w3)]=true) (y47:PyProof.Rows.KTD.hashesOf (fun b=>K.lookup b) w1=([("stairs",f82),("down",f84),("toggle",w4),("line",f85),("swap",w3)]:List (Str×Addr)).map fun p=>(PySem.strKind l.prog w).hash p.1)
  (y48:W.nsIn K mainGlobals "MOST_THINGS"=some (some (.int 9 w10))) (y49:W.nsIn K mainGlobals "ORDER_START"=some (some (.str "order " w11))) (y50:W.nsIn K mainGlobals "MOST_FIGURES"=some (some (.int 6 w8))) (y51:W.nsIn K mainGlobals "FIGURES"=some (some (.str "0123456789" w7))) (y52:W.nsIn K mainGlobals "MOST_STAIRS"=some (some (.int 3 w9)))
  (z0:W.nsIn K mainGlobals "len"=some none) (z1:W.nsIn K mainGlobals "range"=some none) (z2:W.nsIn K mainGlobals "isinstance"=some none) (z3:W.nsIn K mainGlobals "any"=some none) (z4:W.nsIn K mainGlobals "all"=some none) (z5:W.nsIn K mainGlobals "sum"=some none) (z6:W.nsIn K mainGlobals "list"=some none) (z7:W.nsIn K mainGlobals "tuple"=some none) (z8:W.nsIn K mainGlobals "int"=some none) (z9:W.nsIn K mainGlobals "bool"=some none) (z10:W.nsIn K mainGlobals "str"=some none) (z11:W.nsIn K mainGlobals "enumerate"=some none) (z12:W.nsIn K mainGlobals "reversed"=some none) (z13:W.nsIn K mainGlobals "sorted"=some none) (z14:W.nsIn K mainGlobals "set"=some none) (z15:W.nsIn K mainGlobals "max"=some none) (z16:W.nsIn K mainGlobals "min"=some none) (z17:W.nsIn K mainGlobals "abs"=some none) (z18:W.nsIn K mainGlobals "zip"=some none) :
  ∃ fd:FuncData,(∀ (s:Shared) (v:Value),BindsTo s fd ⟨[v],[]⟩ [("_law_script",v)])/\∀ base:Heap,K.In base->base.Ns mainGlobals mg->FnOk l.prog w K mg base CX0 15 fa fd ["_law_script"] (sp1 K (pF cScr) (rF cB) Z2):=by
 have e:=hfa.symm.trans (wb X G a94);cases e;have B:Bi mg:=⟨Xq X G z0,Xq X G z1,Xq X G z2,Xq X G z3,Xq X G z4,Xq X G z5,Xq X G z6,Xq X G z7,Xq X G z8,Xq X G z9,Xq X G z10,Xq X G z11,Xq X G z12,Xq X G z13,Xq X G z14,Xq X G z15,Xq X G z16,Xq X G z17,Xq X G z18⟩;have Af:Ar K mg C_Order:=⟨(jdO y1).cl,y2,y3,y4⟩;have Ae:As K mg C_Spot:=⟨(jdO y6).cl,y7,y8,y9,y10⟩;have Ai:Ba K mg C_Desk:=⟨(jdO y12).cl,y13,y14⟩;have Au:A6 K mg C_Great:=⟨(jdO y16).cl,y17⟩;have Ak:An K mg C_Fraction:=⟨(jdO y19).cl,y20,y21⟩;have Al:A7 K mg qm:=⟨(jdO y23).cl,y24⟩;have Ao:A8 K mg xv:=⟨(jdO y26).cl,y27⟩;have Ap:A9 K mg xw:=⟨(jdO y29).cl,y30⟩;have yR:∃ t,mg "MOST_THINGS"=some (.int 9 t):=⟨_,wb X G y48⟩;have G_:∃ t,mg "ORDER_START"=some (.str "order " t):=⟨_,wb X G y49⟩;have Gx:∃ t,mg "MOST_FIGURES"=some (.int 6 t):=⟨_,wb X G y50⟩;have VV:∃ t,mg "FIGURES"=some (.str "0123456789" t):=⟨_,wb X G y51⟩;have Ja:∃ t,mg "MOST_STAIRS"=some (.int 3 t):=⟨_,wb X G y52⟩;obtain⟨f0,fd0,a0,F0⟩:=F0.ex;obtain⟨f1,fd1,a1,F1⟩:=F1.ex;obtain⟨f2,fd2,a2,F2⟩:=F2.ex;obtain⟨f3,fd3,a3,F3⟩:=F3.ex;obtain⟨f4,fd4,a4,F4⟩:=F4.ex;obtain⟨f5,fd5,a5,F5⟩:=F5.ex;obtain⟨f6,fd6,a6,F6⟩:=F6.ex;obtain⟨f7,fd7,a7,i7,F7⟩:=F7.ex;obtain⟨f8,fd8,a8,i8,F8⟩:=F8.ex;obtain⟨f9,fd9,a9,F9⟩:=F9.ex;obtain⟨f10,fd10,a10,F10⟩:=F10.ex;obtain⟨f11,fd11,a11,F11⟩:=F11.ex;obtain⟨f12,fd12,a12,F12⟩:=F12.ex;obtain⟨f13,fd13,a13,F13⟩:=F13.ex;obtain⟨f14,fd14,a14,F14⟩:=F14.ex;obtain⟨f15,fd15,a15,F15⟩:=F15.ex;obtain⟨f16,fd16,a16,F16⟩:=F16.ex;obtain⟨f17,fd17,a17,i17,F17⟩:=F17.ex;obtain⟨f18,fd18,a18,F18⟩:=F18.ex;obtain⟨f19,fd19,a19,i19,F19⟩:=F19.ex;obtain⟨f20,fd20,a20,F20⟩:=F20.ex;obtain⟨f21,fd21,a21,i21,F21⟩:=F21.ex;obtain⟨f22,fd22,a22,F22⟩:=F22.ex;obtain⟨f23,fd23,a23,F23⟩:=F23.ex;obtain⟨f24,fd24,a24,i24,F24⟩:=F24.ex;obtain⟨fd25,F25⟩:=F25.ex;obtain⟨f26,fd26,a26,F26⟩:=F26.ex;obtain⟨f27,fd27,a27,F27⟩:=F27.ex;obtain⟨f28,fd28,a28,F28⟩:=F28.ex;obtain⟨fd29,F29⟩:=F29.ex;obtain⟨f30,fd30,a30,i30,F30⟩:=F30.ex;obtain⟨f31,fd31,a31,F31⟩:=F31.ex;obtain⟨f32,fd32,a32,F32⟩:=F32.ex;obtain⟨f33,fd33,a33,F33⟩:=F33.ex;obtain⟨f34,fd34,a34,F34⟩:=F34.ex;obtain⟨f35,fd35,a35,i35,F35⟩:=F35.ex;obtain⟨f36,fd36,a36,F36⟩:=F36.ex;obtain⟨f37,fd37,a37,F37⟩:=F37.ex;obtain⟨fd38,F38⟩:=F38.ex;obtain⟨f39,fd39,a39,F39⟩:=F39.ex;have F40:=jjd (st:=(jC (top 37) 0)) l40 c40 k40;have b40:Binds K _ ["self","top","bottom"] []:=jje (fd:=W.fnOf "__init__" "Fraction.__init__" (yg ((jC (top 37) 0))) (qX ((jC (top 37) 0))) (jD ((jC (top 37) 0))) dV40 kV40 dc40 pm40 an40 cd40 ct40) dE40 lT40 hT40 fun us hl=>match us,hl with | [_,_,_],_=>⟨_,rfl,rfl⟩
 obtain⟨f41,fd41,a41,F41⟩:=F41.ex;obtain⟨f42,fd42,a42,i42,F42⟩:=F42.ex;obtain⟨f43,fd43,a43,F43⟩:=F43.ex;obtain⟨f44,fd44,a44,F44⟩:=F44.ex;obtain⟨fd45,F45⟩:=F45.ex;obtain⟨f46,fd46,a46,F46⟩:=F46.ex;obtain⟨fd47,F47⟩:=F47.ex;obtain⟨f48,fd48,a48,F48⟩:=F48.ex;obtain⟨f49,fd49,a49,F49⟩:=F49.ex;obtain⟨f50,fd50,a50,F50⟩:=F50.ex;obtain⟨fd51,F51⟩:=F51.ex;obtain⟨f52,fd52,a52,F52⟩:=F52.ex;obtain⟨f53,fd53,a53,F53⟩:=F53.ex;obtain⟨f54,fd54,a54,F54⟩:=F54.ex;obtain⟨fd55,F55⟩:=F55.ex;obtain⟨f56,fd56,a56,i56,F56⟩:=F56.ex;obtain⟨f57,fd57,a57,F57⟩:=F57.ex;obtain⟨f58,fd58,a58,F58⟩:=F58.ex;obtain⟨f59,fd59,a59,i59,F59⟩:=F59.ex;obtain⟨f60,fd60,a60,i60,F60⟩:=F60.ex;obtain⟨f61,fd61,a61,F61⟩:=F61.ex;obtain⟨f62,fd62,a62,F62⟩:=F62.ex;obtain⟨f63,fd63,a63,i63,F63⟩:=F63.ex;obtain⟨f64,fd64,a64,F64⟩:=F64.ex;obtain⟨fd65,F65⟩:=F65.ex;obtain⟨f66,fd66,a66,i66,F66⟩:=F66.ex;obtain⟨f67,fd67,a67,F67⟩:=F67.ex;obtain⟨f68,fd68,a68,i68,F68⟩:=F68.ex;obtain⟨fd69,F69⟩:=F69.ex;obtain⟨f70,fd70,a70,i70,F70⟩:=F70.ex;obtain⟨f71,fd71,a71,i71,F71⟩:=F71.ex;obtain⟨fd72,F72⟩:=F72.ex;obtain⟨f73,fd73,a73,i73,F73⟩:=F73.ex;obtain⟨f74,fd74,a74,i74,F74⟩:=F74.ex;obtain⟨fd75,F75⟩:=F75.ex;obtain⟨f76,fd76,a76,F76⟩:=F76.ex;obtain⟨f77,fd77,a77,F77⟩:=F77.ex;obtain⟨f78,fd78,a78,F78⟩:=F78.ex;obtain⟨f79,fd79,a79,F79⟩:=F79.ex;obtain⟨f80,fd80,a80,F80⟩:=F80.ex;obtain⟨f81,fd81,a81,F81⟩:=F81.ex;obtain⟨fd82,F82⟩:=F82.ex;obtain⟨f83,fd83,a83,F83⟩:=F83.ex;obtain⟨fd84,F84⟩:=F84.ex;obtain⟨fd85,F85⟩:=F85.ex;obtain⟨f86,fd86,a86,F86⟩:=F86.ex;obtain⟨f87,fd87,a87,F87⟩:=F87.ex;obtain⟨f88,fd88,a88,F88⟩:=F88.ex;obtain⟨f89,fd89,a89,i89,F89⟩:=F89.ex;obtain⟨f90,fd90,a90,F90⟩:=F90.ex;obtain⟨f91,fd91,a91,F91⟩:=F91.ex;obtain⟨f92,fd92,a92,F92⟩:=F92.ex;obtain⟨f93,fd93,a93,F93⟩:=F93.ex;have F94:=jb3 (st:=top 135) l94 c94 k94;refine⟨W.fnOf "law" "law" (yg (top 135)) (qX (top 135)) (jD (top 135)) .none kV94 dc94 pm94 an94 cd94 ct94,fun s v=>.of_eq rfl,fun base _ _=>?_⟩;have B:BiX l.prog w K mg base:=⟨B⟩;have qT:=jG X G a0 F0 (VQ B F0);have JS:=jG X G a1 F1 (YB (P:=l.prog) (w:=w) (base:=base) F1);have Jb:=jG X G a2 F2 (Wd (P:=l.prog) (w:=w) (base:=base) yR F2);have JT:=jG X G a3 F3 (YC B F3);have Y2:=jG X G a4 F4 (jlm (P:=l.prog) (w:=w) (base:=base) F4);have UB:=jG X G a5 F5 (jbv B Y2 F5);have Jc:=jG X G a6 F6 (We B UB F6);have zw:=Vy X G y1 a7 i7 y0 F7 (YD (P:=l.prog) (w:=w) (base:=base) Af Jb JT Jc F7);have jO:=Gj a8 i8 Af.cl F8 (YE (P:=l.prog) (w:=w) (base:=base) Af F8);have kP:=jG X G a9 F9 (Z8 B Y2 F9);have yi:=jG X G a10 F10 (Z9 (P:=l.prog) (w:=w) (base:=base) F10);have zx:=jG X G a11 F11 (YF B Af jO kP yi F11);have xY:=jG X G a12 F12 (jbw (C_Order:=C_Order) B jO zx F12);have JU:=jG X G a13 F13 (jdx (P:=l.prog) (w:=w) (base:=base) Af Y2 yi F13);have xq:=jG X G a14 F14 (Wf (C_Order:=C_Order) B jO JU F14);have JV:=jG X G a15 F15 (jdy (C_Order:=C_Order) B xY xq F15);have JW:=jG X G a16 F16 (jdz (C_Order:=C_Order) B jO xq JV F16);have Gy:=Gj a17 i17 Af.cl F17 (VR B Af F17);have zy:=jG X G a18 F18 (YG (C_Order:=C_Order) B jO Gy F18);have yj:=Vy X G y6 a19 i19 y5 F19 (Z_ (P:=l.prog) (w:=w) (base:=base) (C_Order:=C_Order) Ae F19);have xL:=jG X G a20 F20 (YH (P:=l.prog) (w:=w) (base:=base) (C_Order:=C_Order) (C_Spot:=C_Spot) JW zy yj F20);have QM:=Vy X G y12 a21 i21 y11 F21 (jaa (P:=l.prog) (w:=w) (base:=base) (C_Order:=C_Order) (C_Spot:=C_Spot) Ai zw xL F21);have yS:=jG X G a22 F22 (QI B F22);have zz:=jG X G a23 F23 (YI B F23);have Jd:=Gj a24 i24 Ai.cl F24 (Wg (C_Order:=C_Order) (C_Spot:=C_Spot) B Ai F24);have UT:=YJ (P:=l.prog) (w:=w) (base:=base) (C_Order:=C_Order) Ae zy F25;have jak:=jG X G a25 F25 (UT);have UC:=jG X G a26 F26 (jbx (C_Order:=C_Order) B xY F26);have zE:=jG X G a27 F27 (Uy (P:=l.prog) (w:=w) (base:=base) (C_Order:=C_Order) JV F27);have xr:=jG X G a28 F28 (Wh B F28);have Ud:=Wi (P:=l.prog) (w:=w) (base:=base) (C_Order:=C_Order) Ae UC zE xr F29;have Y3:=jG X G a29 F29 (Ud);have zA:=Vy X G y16 a30 i30 y15 F30 (YK (P:=l.prog) (w:=w) (base:=base) (C_Order:=C_Order) Au F30);have xM:=jG X G a31 F31 (U3 (P:=l.prog) (w:=w) (base:=base) (C_Order:=C_Order) zx F31);have Y4:=jG X G a32 F32 (jfY (P:=l.prog) (w:=w) (base:=base) F32);have jbG:=jG X G a33 F33 (jhA (C_Order:=C_Order) B jO JU xM Y4 F33);have JX:=jG X G a34 F34 (YL (P:=l.prog) (w:=w) (base:=base) Af kP jbG F34);have yt:=Gj a35 i35 Au.cl F35 (YM (P:=l.prog) (w:=w) (base:=base) (C_Order:=C_Order) Au JX F35);have UD:=jG X G a36 F36 (jby (P:=l.prog) (w:=w) (base:=base) (C_Great:=C_Great) (C_Order:=C_Order) yt F36);have yT:=jG X G a37 F37 (Wj (P:=l.prog) (w:=w) (base:=base) (C_Order:=C_Order) Ae zA UD F37);have UU:=YN (C_Order:=C_Order) (C_Spot:=C_Spot) B yT F38;have jal:=jG X G a38 F38 (UU);have yU:=jG X G a39 F39 (QJ B F39);have zY:Kls l.prog w K mg base "Fraction" C_Fraction 2 ["self","top","bottom"] (jjW K C_Fraction (pF cI) (pF cI) (xF C_Fraction) xc):=⟨_,_,⟨(jdO y19).ma,a40,i40,(jdO y19).kc⟩,U4 (P:=l.prog) (w:=w) (base:=base) Ak yU F40,wb X G y18,b40⟩;have jf0:=jG X G a41 F41 (jjF (C_Fraction:=C_Fraction) B zY F41);have zF:=Gj a42 i42 Ak.cl F42 (Uz B Ak F42);have Je:=jG X G a43 F43 (jab B kP jf0 zF F43);have jf1:=jG X G a44 F44 (jjG (P:=l.prog) (w:=w) (base:=base) Af kP xM F44);have zZ:=jG X G a28 F28 (U5 B F28);have V4:=jac (P:=l.prog) (w:=w) (base:=base) (C_Order:=C_Order) Ae yT Je jf1 zZ F45;have jbH:=jG X G a45 F45 (V4);have VW:=jG X G a46 F46 (jdA (C_Order:=C_Order) B jO kP xY F46);have UV:=YO (P:=l.prog) (w:=w) (base:=base) (C_Order:=C_Order) Ae xr VW F47;have jam:=jG X G a47 F47 (UV);have Ga:=jG X G a48 F48 (U6 (P:=l.prog) (w:=w) (base:=base) F48);have jbI:=jG X G a49 F49 (jhB B F49);have UE:=jG X G a50 F50 (jbz (C_Order:=C_Order) B jO xq Ga jbI F50);have UW:=YQ (P:=l.prog) (w:=w) (base:=base) (C_Order:=C_Order) Ae xr UE F51;have jan:=jG X G a51 F51 (UW);have UF:TabD l.prog w K mg base "ASKED" 11 (jhp K (pF (jE C_Order C_Spot)) (rF cS) jbn):=jbm (D:=[("show",f25),("counts",f29),("where",w6),("round",f38),("mean",f45),("sizes",f47),("falls",f51)]) (wb X G y39) ⟨y40,(show List.Nodup (["show","counts","where","round","mean","sizes","falls"]:List Str) by decide +kernel),y41⟩ (qB F25 UT (qB F29 Ud (Yp y32 no1 (qB F38 UU (qB F45 V4 (qB F47 UV (qB F51 UW Yo)))))));have QN:=jG X G a52 F52 (jad B Gx VV F52);have VX:=jG X G a53 F53 (jdB B F53);have yb:=jG X G a54 F54 (VS (P:=l.prog) (w:=w) (base:=base) (C_Order:=C_Order) Ae kP yj VX F54);have WK:=jbA (P:=l.prog) (w:=w) (base:=base) (C_Order:=C_Order) Ae zA yt yb F55;have jdF:=jG X G a55 F55 (WK);have zB:=Vy X G y23 a56 i56 y22 F56 (YR (P:=l.prog) (w:=w) (base:=base) (C_Order:=C_Order) Al F56);have VY:=jG X G a57 F57 (jdC B Af jO yi F57);have qH:=jG X G a58 F58 (YS (P:=l.prog) (w:=w) (base:=base) (C_Order:=C_Order) VY F58);have qo:=Gj a59 i59 Af.cl F59 (Qr (P:=l.prog) (w:=w) (base:=base) Af F59);have xx:=Gj a60 i60 Af.cl F60 (QK (P:=l.prog) (w:=w) (base:=base) Af qo F60);have qp:=jG X G a61 F61 (U7 (P:=l.prog) (w:=w) (base:=base) F61);have jao:=jG X G a62 F62 (jjH (C_Order:=C_Order) B xx qp F62);have JY:=Gj a63 i63 Al.cl F63 (YT (P:=l.prog) (w:=w) (base:=base) (C_Order:=C_Order) Al qH jao F63);have QO:=jG X G a53 F53 (jae B F53);have qr:=jG X G a64 F64 (jaf (P:=l.prog) (w:=w) (base:=base) (C_Order:=C_Order) Ae yj QO F64);have WL:=jbB (P:=l.prog) (w:=w) (base:=base) (C_Order:=C_Order) Ae zB JY qr F65;have jdG:=jG X G a65 F65 (WL);have xy:=Gj a66 i66 Af.cl F66 (QL (P:=l.prog) (w:=w) (base:=base) Af qo F66);have Gb:=jG X G a67 F67 (jag (C_Order:=C_Order) B qp xy F67);have JZ:=Gj a68 i68 Al.cl F68 (YU (P:=l.prog) (w:=w) (base:=base) (C_Order:=C_Order) Al qH Gb F68);have UX:=YV (P:=l.prog) (w:=w) (base:=base) (C_Order:=C_Order) Ae zB qr JZ F69;have jap:=jG X G a69 F69 (UX);have J0:=Vy X G y26 a70 i70 y25 F70 (YW (P:=l.prog) (w:=w) (base:=base) (C_Order:=C_Order) Ao F70);have J1:=Gj a71 i71 Ao.cl F71 (YX (C_Order:=C_Order) B Ao qH jao F71);have WM:=jbC (P:=l.prog) (w:=w) (base:=base) (C_Order:=C_Order) Ae qr J0 J1 F72;have jdH:=jG X G a72 F72 (WM);have J2:=Vy X G y29 a73 i73 y28 F73 (YY (P:=l.prog) (w:=w) (base:=base) (C_Order:=C_Order) Ap F73);have J3:=Gj a74 i74 Ap.cl F74 (YZ (C_Order:=C_Order) B Ap qH Gb F74);have WN:=jbD (P:=l.prog) (w:=w) (base:=base) (C_Order:=C_Order) Ae qr J2 J3 F75;have jdI:=jG X G a75 F75 (WN);have zO:TabD l.prog w K mg base "PLAIN_STEPS" 9 (jhp K (pF (jE C_Order C_Spot)) (rF (jE C_Order C_Spot)) zM):=jbm (D:=[("great",f55),("ungreat",w5),("slide",f65),("unslide",f69),("above",f72),("below",f75)]) (wb X G y42) ⟨y43,(show List.Nodup (["great","ungreat","slide","unslide","above","below"]:List Str) by decide +kernel),y44⟩ (qB F55 WK (Yp y34 no1 (qB F65 WL (qB F69 UX (qB F72 WM (qB F75 WN Yo))))));have Gz:=jG X G a76 F76 (VT (P:=l.prog) (w:=w) (base:=base) Ja F76);have GR:=jG X G a77 F77 (jbE B F77);have GA:=jG X G a78 F78 (VU B GR F78);have za:=jG X G a79 F79 (Q_ (P:=l.prog) (w:=w) (base:=base) F79);have GS:=jG X G a80 F80 (jbF (C_Order:=C_Order) B zw za F80);have Y5:=jG X G a81 F81 (jfZ (P:=l.prog) (w:=w) (base:=base) (C_Order:=C_Order) Gz GA GS F81);have V5:=jah (P:=l.prog) (w:=w) (base:=base) (C_Order:=C_Order) (C_Spot:=C_Spot) xL Y5 F82;have jbJ:=jG X G a82 F82 (V5);have J4:=jG X G a83 F83 (Y0 (C_Order:=C_Order) B xY F83);have jas:=jdD (P:=l.prog) (w:=w) (base:=base) (C_Order:=C_Order) Ae yb J4 F84;have jf2:=jG X G a84 F84 (jas);have jat:=jdE (P:=l.prog) (w:=w) (base:=base) (C_Order:=C_Order) Ae JW qr F85;have jf3:=jG X G a85 F85 (jat);have zj:TabD l.prog w K mg base "NUMBER_STEPS" 9 (jjA K (pF (jE C_Order C_Spot)) (pF cI) (rF (jE C_Order C_Spot)) zi):=jbm (D:=[("stairs",f82),("down",f84),("toggle",w4),("line",f85),("swap",w3)]) (wb X G y45) ⟨y46,(show List.Nodup (["stairs","down","toggle","line","swap"]:List Str) by decide +kernel),y47⟩ (qB F82 V5 (qB F84 jas (Yp y36 no2 (qB F85 jat (Yp y38 no2 Yo)))));have Jf:=jG X G a86 F86 (Wk (P:=l.prog) (w:=w) (base:=base) yR F86);have jbK:=jG X G a87 F87 (jhC (P:=l.prog) (w:=w) (base:=base) (C_Order:=C_Order) GR GS Jf F87);have QP:=jG X G a88 F88 (jai (C_Order:=C_Order) (C_Spot:=C_Spot) B G_ xL QN zO zj jbK F88);have kD:=Gj a89 i89 Ai.cl F89 (jaj (P:=l.prog) (w:=w) (base:=base) (C_Order:=C_Order) Ai Ae Jd UF QP F89);have kT:=Gj a89 i89 Ai.cl F89 (Wl (P:=l.prog) (w:=w) (base:=base) (C_Order:=C_Order) (C_Spot:=C_Spot) Ai UF F89);have kO:=jG X G a90 F90 (Y1 (C_Desk:=C_Desk) (C_Order:=C_Order) (C_Spot:=C_Spot) B kD F90);have Jg:=jG X G a91 F91 (Wm (P:=l.prog) (w:=w) (base:=base) (C_Desk:=C_Desk) (C_Order:=C_Order) (C_Spot:=C_Spot) kD kO F91);have yV:=jG X G a92 F92 (U8 B F92);have zG:=jG X G a93 F93 (UA (C_Desk:=C_Desk) (C_Order:=C_Order) (C_Spot:=C_Spot) B zz kD kT kO F93);exact jln B qT JS QM yS zz kD kT kO Jg yV zG F94
end Lw
namespace Lw
open PySem L2 L3
def walk {l:W.OpenLaw}{q:Program}{d:DefRec}{K:Params->W.Frag} (hn:l.most=some 63) (hdf:d.params.defaults=[])
  (hY:∀ (w:World) (h:Heap),YP w h->(K w.params).In h)
  (F:∀ (w:World) (mg:Str->Option Value) (fa:Addr) (h:Heap),(K w.params).In h->h.Ns mainGlobals mg->mg d.name=some (.ref fa) ->
   ∃ fd:FuncData,(∀ (s:Shared) (u:Value),BindsTo s fd ⟨[u],[]⟩ [("_law_script",u)])/\∀ base:Heap,(K w.params).In base->base.Ns mainGlobals mg->FnOk l.prog w (K w.params) mg base CX0 15 fa fd ["_law_script"] (sp1 (K w.params) (pF cScr) (rF cB) Z2)) :
  W.WalkO q loose XP YP l.row.toRowW d [] (fun f vs=>PySem.call f vs):=
 L2.walk_of (n:=63) (k:=15) (x:="_law_script") (CX:=fun _=>CX0) (sp:=fun w=>sp1 (K w.params) (pF cScr) (rF cB) Z2) hn (by decide) hdf ⟨rfl,by decide,by decide,rfl⟩ hY F (fun _ H a ns hl _ hS=>⟨ns,_,H,true,rfl,Same.refl _,⟨a,rfl,hS⟩,law_true ns hl,fun u F' H' E h=>h⟩) fun _ _ _ _ _ z=>z
end Lw
open PySem PySem.W PyProof.Rows
set_option maxRecDepth 100000 in
set_option maxHeartbeats 0 in
theorem PySem.Challenge.cw_toggleclock_k94_whole_desk_on_fields_holds : PySem.Challenge.rw_toggleclock_k94_whole_desk_on_fields.Holds := by
 refine Ht ?_
 k_fill
 refine Lw.walk (l := PySem.Challenge.rw_toggleclock_k94_whole_desk_on_fields) rfl rfl (fun w h Y => PySem.W.kIn_of Y) ?F
 case F =>
  intro w mg fa h KX G hmg
  refine' Lw.all_mk KX G hmg ?y0 ?y1 ?y2 ?y3 ?y4 ?y5 ?y6 ?y7 ?y8 ?y9 ?y10 ?y11 ?y12 ?y13 ?y14 ?y15 ?y16 ?y17 ?y18 ?y19 ?y20 ?y21 ?y22 ?y23 ?y24 ?y25 ?y26 ?y27 ?y28 ?y29 ?y30 ?F0 ?F1 ?F2 ?F3 ?F4 ?F5 ?F6 ?F7 ?F8 ?F9 ?F10 ?F11 ?F12 ?F13 ?F14 ?F15 ?F16 ?F17 ?F18 ?F19 ?F20 ?F21 ?F22 ?F23 ?F24 ?a25 ?F25 ?F26 ?F27 ?F28 ?a29 ?F29 ?F30 ?F31 ?F32 ?F33 ?F34 ?F35 ?F36 ?F37 ?a38 ?F38 ?F39 ?a40 ?i40 ?l40 ?c40 ?k40 ?dE40 ?lT40 ?hT40 ?F41 ?F42 ?F43 ?F44 ?a45 ?F45 ?F46 ?a47 ?F47 ?F48 ?F49 ?F50 ?a51 ?F51 ?F52 ?F53 ?F54 ?a55 ?F55 ?F56 ?F57 ?F58 ?F59 ?F60 ?F61 ?F62 ?F63 ?F64 ?a65 ?F65 ?F66 ?F67 ?F68 ?a69 ?F69 ?F70 ?F71 ?a72 ?F72 ?F73 ?F74 ?a75 ?F75 ?F76 ?F77 ?F78 ?F79 ?F80 ?F81 ?a82 ?F82 ?F83 ?a84 ?F84 ?a85 ?F85 ?F86 ?F87 ?F88 ?F89 ?F90 ?F91 ?F92 ?F93 ?a94 ?l94 ?c94 ?k94 ?y31 ?y32 ?y33 ?y34 ?y35 ?y36 ?y37 ?y38 ?y39 ?y40 ?y41 ?y42 ?y43 ?y44 ?y45 ?y46 ?y47 ?y48 ?y49 ?y50 ?y51 ?y52 ?z0 ?z1 ?z2 ?z3 ?z4 ?z5 ?z6 ?z7 ?z8 ?z9 ?z10 ?z11 ?z12 ?z13 ?z14 ?z15 ?z16 ?z17 ?z18
  case y0=>k_is
  case y1=>as_aux_lemma => kernel_rfl
  (case y2 | y3 | y4 | y5 => k_is)
  case y6=>as_aux_lemma => kernel_rfl
  (case y7 | y8 | y9 | y10 | y11 => k_is)
  case y12=>as_aux_lemma => kernel_rfl
  (case y13 | y14 | y15 => k_is)
  case y16=>as_aux_lemma => kernel_rfl
  (case y17 | y18 => k_is)
  case y19=>as_aux_lemma => kernel_rfl
  (case y20 | y21 | y22 => k_is)
  case y23=>as_aux_lemma => kernel_rfl
  (case y24 | y25 => k_is)
  case y26=>as_aux_lemma => kernel_rfl
  (case y27 | y28 => k_is)
  case y29=>as_aux_lemma => kernel_rfl
  case y30=>k_is
  (case F0 | F1 | F2 | F3 | F4 | F5 | F6 => as_aux_lemma => exact L3.defX_mk (by k_is) (by k_is) (by k_is) (by k_is))
  (case F7 | F8 => as_aux_lemma => exact L3.mthX_mk (by k_is) (by k_is) (by k_is) (by k_is) (by k_is))
  (case F9 | F10 | F11 | F12 | F13 | F14 | F15 | F16 => as_aux_lemma => exact L3.defX_mk (by k_is) (by k_is) (by k_is) (by k_is))
  case F17=>as_aux_lemma => exact L3.mthX_mk (by k_is) (by k_is) (by k_is) (by k_is) (by k_is)
  case F18=>as_aux_lemma => exact L3.defX_mk (by k_is) (by k_is) (by k_is) (by k_is)
  case F19=>as_aux_lemma => exact L3.mthX_mk (by k_is) (by k_is) (by k_is) (by k_is) (by k_is)
  case F20=>as_aux_lemma => exact L3.defX_mk (by k_is) (by k_is) (by k_is) (by k_is)
  case F21=>as_aux_lemma => exact L3.mthX_mk (by k_is) (by k_is) (by k_is) (by k_is) (by k_is)
  (case F22 | F23 => as_aux_lemma => exact L3.defX_mk (by k_is) (by k_is) (by k_is) (by k_is))
  case F24=>as_aux_lemma => exact L3.mthX_mk (by k_is) (by k_is) (by k_is) (by k_is) (by k_is)
  case a25=>k_is
  case F25=>as_aux_lemma => exact L3.funX_mk (by k_is) (by k_is) (by k_is)
  (case F26 | F27 | F28 => as_aux_lemma => exact L3.defX_mk (by k_is) (by k_is) (by k_is) (by k_is))
  case a29=>k_is
  case F29=>as_aux_lemma => exact L3.funX_mk (by k_is) (by k_is) (by k_is)
  case F30=>as_aux_lemma => exact L3.mthX_mk (by k_is) (by k_is) (by k_is) (by k_is) (by k_is)
  (case F31 | F32 | F33 | F34 => as_aux_lemma => exact L3.defX_mk (by k_is) (by k_is) (by k_is) (by k_is))
  case F35=>as_aux_lemma => exact L3.mthX_mk (by k_is) (by k_is) (by k_is) (by k_is) (by k_is)
  (case F36 | F37 => as_aux_lemma => exact L3.defX_mk (by k_is) (by k_is) (by k_is) (by k_is))
  case a38=>k_is
  case F38=>as_aux_lemma => exact L3.funX_mk (by k_is) (by k_is) (by k_is)
  case F39=>as_aux_lemma => exact L3.defX_mk (by k_is) (by k_is) (by k_is) (by k_is)
  (case a40 | i40 | l40 | c40 | k40 => k_is)
  case dE40=>first|rfl|with_unfolding_all rfl
  case lT40=>k_is
  case hT40=>first|rfl|with_unfolding_all rfl
  case F41=>as_aux_lemma => exact L3.defX_mk (by k_is) (by k_is) (by k_is) (by k_is)
  case F42=>as_aux_lemma => exact L3.mthX_mk (by k_is) (by k_is) (by k_is) (by k_is) (by k_is)
  (case F43 | F44 => as_aux_lemma => exact L3.defX_mk (by k_is) (by k_is) (by k_is) (by k_is))
  case a45=>k_is
  case F45=>as_aux_lemma => exact L3.funX_mk (by k_is) (by k_is) (by k_is)
  case F46=>as_aux_lemma => exact L3.defX_mk (by k_is) (by k_is) (by k_is) (by k_is)
  case a47=>k_is
  case F47=>as_aux_lemma => exact L3.funX_mk (by k_is) (by k_is) (by k_is)
  (case F48 | F49 | F50 => as_aux_lemma => exact L3.defX_mk (by k_is) (by k_is) (by k_is) (by k_is))
  case a51=>k_is
  case F51=>as_aux_lemma => exact L3.funX_mk (by k_is) (by k_is) (by k_is)
  (case F52 | F53 | F54 => as_aux_lemma => exact L3.defX_mk (by k_is) (by k_is) (by k_is) (by k_is))
  case a55=>k_is
  case F55=>as_aux_lemma => exact L3.funX_mk (by k_is) (by k_is) (by k_is)
  case F56=>as_aux_lemma => exact L3.mthX_mk (by k_is) (by k_is) (by k_is) (by k_is) (by k_is)
  (case F57 | F58 => as_aux_lemma => exact L3.defX_mk (by k_is) (by k_is) (by k_is) (by k_is))
  (case F59 | F60 => as_aux_lemma => exact L3.mthX_mk (by k_is) (by k_is) (by k_is) (by k_is) (by k_is))
  (case F61 | F62 => as_aux_lemma => exact L3.defX_mk (by k_is) (by k_is) (by k_is) (by k_is))
  case F63=>as_aux_lemma => exact L3.mthX_mk (by k_is) (by k_is) (by k_is) (by k_is) (by k_is)
  case F64=>as_aux_lemma => exact L3.defX_mk (by k_is) (by k_is) (by k_is) (by k_is)
  case a65=>k_is
  case F65=>as_aux_lemma => exact L3.funX_mk (by k_is) (by k_is) (by k_is)
  case F66=>as_aux_lemma => exact L3.mthX_mk (by k_is) (by k_is) (by k_is) (by k_is) (by k_is)
  case F67=>as_aux_lemma => exact L3.defX_mk (by k_is) (by k_is) (by k_is) (by k_is)
  case F68=>as_aux_lemma => exact L3.mthX_mk (by k_is) (by k_is) (by k_is) (by k_is) (by k_is)
  case a69=>k_is
  case F69=>as_aux_lemma => exact L3.funX_mk (by k_is) (by k_is) (by k_is)
  (case F70 | F71 => as_aux_lemma => exact L3.mthX_mk (by k_is) (by k_is) (by k_is) (by k_is) (by k_is))
  case a72=>k_is
  case F72=>as_aux_lemma => exact L3.funX_mk (by k_is) (by k_is) (by k_is)
  (case F73 | F74 => as_aux_lemma => exact L3.mthX_mk (by k_is) (by k_is) (by k_is) (by k_is) (by k_is))
  case a75=>k_is
  case F75=>as_aux_lemma => exact L3.funX_mk (by k_is) (by k_is) (by k_is)
  (case F76 | F77 | F78 | F79 | F80 | F81 => as_aux_lemma => exact L3.defX_mk (by k_is) (by k_is) (by k_is) (by k_is))
  case a82=>k_is
  case F82=>as_aux_lemma => exact L3.funX_mk (by k_is) (by k_is) (by k_is)
  case F83=>as_aux_lemma => exact L3.defX_mk (by k_is) (by k_is) (by k_is) (by k_is)
  case a84=>k_is
  case F84=>as_aux_lemma => exact L3.funX_mk (by k_is) (by k_is) (by k_is)
  case a85=>k_is
  case F85=>as_aux_lemma => exact L3.funX_mk (by k_is) (by k_is) (by k_is)
  (case F86 | F87 | F88 => as_aux_lemma => exact L3.defX_mk (by k_is) (by k_is) (by k_is) (by k_is))
  case F89=>as_aux_lemma => exact L3.mthX_mk (by k_is) (by k_is) (by k_is) (by k_is) (by k_is)
  (case F90 | F91 | F92 | F93 => as_aux_lemma => exact L3.defX_mk (by k_is) (by k_is) (by k_is) (by k_is))
  (case a94 | l94 | c94 | k94 | y31 | y32 | y33 | y34 | y35 | y36 | y37 | y38 | y39 => k_is)
  (case y40 | y41 => as_aux_lemma => kernel_rfl)
  case y42=>k_is
  (case y43 | y44 => as_aux_lemma => kernel_rfl)
  case y45=>k_is
  (case y46 | y47 => as_aux_lemma => kernel_rfl)
  (case y48 | y49 | y50 | y51 | y52 | z0 | z1 | z2 | z3 | z4 | z5 | z6 | z7 | z8 | z9 | z10 | z11 | z12 | z13 | z14 | z15 | z16 | z17 | z18 => k_is)