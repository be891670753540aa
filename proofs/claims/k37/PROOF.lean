import PyProof.Rows.All
import Wide.All
import OpenK.AllK
import Wide.FinOn
import Lean
import PyProof.EqAt
import PyProof.EqKinds
import PyProof.TupleCall
import PyProof.NeData
import PyProof.DictRoadsH
import Wide.Seal
import PyProof.CompMap
import PyProof.DictIter
import PyProof.DictWalks
import PyProof.CompUse
import PyProof.P3In
import OpenK.KOwn
import KE.KTryMore
import PyProof.RulesAs
import PyProof.ExcArgs
import PyProof.NsDelKeeps
import KE.KIsAll
import OpenK.KDescr
import PyProof.ZipIter
import PyProof.TupleIter
import KE.KRevSl
import PyProof.Rows.SortWalk
import PyProof.MeetsSeq
import KE.KDictSum
import PyProof.EnumMake
import PyProof.EnumFor
import PyProof.EnumStmt
import PyProof.ListRange
import KE.KSortKey
import PyProof.Rows.SortStr
import PyProof.Rows.CallKwBuiltin
import KE.KTab
import PyProof.ConsumeWalk
import PyProof.Comp
import PyProof.ForAny
import PyProof.Rows.StrJoin2
import PyProof.CallStr
import KE.KSortTup
import PyProof.Rows.SetFrom
import PyProof.CollectWalk
import PyProof.Rows.StrNews
import PyProof.StrWalks
import PyProof.SliceStr2
import KE.KIntText
import KE.IntTextText
import PyProof.StrLawsTight
import PyProof.StrLawsChain
import PyProof.InstEq
import PySem.Challenge.RW_askring_k37_desk_answers
namespace PySem.W.Fast
def tw10031824097416529390:=True
def tw10060778990970006783:=True
def tw10120647817398572683:=True
def tw10178805378633994300:=True
def tw10180531263073907735:=True
def tw10194287868376747067:=True
def tw10201086008153188930:=True
def tw10238072708650541390:=True
def tw10283556299056849777:=True
def tw10301650753723255585:=True
def tw10335613396769069381:=True
def tw10345305854565493505:=True
def tw10351676579205729050:=True
def tw10435745987493893280:=True
def tw10493249361161176682:=True
def tw10518149931552031469:=True
def tw10602711290958585801:=True
def tw10609082530398480793:=True
def tw10646304611694310366:=True
def tw10738900569898138606:=True
def tw10775389139152941536:=True
def tw10783488204274758357:=True
def tw10839371912288846378:=True
def tw10898941034122339170:=True
def tw10939803666112422824:=True
def tw11139060109094243306:=True
def tw11238611528440620718:=True
def tw11249453669489637041:=True
def tw11288215755070583507:=True
def tw1129238130563092551:=True
def tw11341753229296596465:=True
def tw11365323338405059539:=True
def tw11382591372430290171:=True
def tw11405873264020917518:=True
def tw11425385727566038793:=True
def tw11428082972330109078:=True
def tw11506974366813390574:=True
def tw11518878619192780551:=True
def tw11520758295669357920:=True
def tw11560282407423447414:=True
def tw11700145973304321948:=True
def tw11762937940094290775:=True
def tw11790432779102905224:=True
def tw11817257337535203525:=True
def tw11823148443646061748:=True
def tw1187825010518334016:=True
def tw11913494657941095059:=True
def tw11930794471713641583:=True
def tw11976789176556949118:=True
def tw12014857746702428398:=True
def tw12177568743905537866:=True
def tw1221224352575744757:=True
def tw12404113433228557299:=True
def tw12436515113815251091:=True
def tw12487209706247712405:=True
def tw12593460565409920642:=True
def tw12659499371921866806:=True
def tw12691403721605557080:=True
def tw12699442360060552557:=True
def tw12795515406184361501:=True
def tw12802860891736713100:=True
def tw12807980483230217571:=True
def tw12833279379457728732:=True
def tw12873505861040878903:=True
def tw12917262330250157348:=True
def tw13040896790288484698:=True
def tw13086207694613534529:=True
def tw13101953576249149390:=True
def tw13210376959714790695:=True
def tw13254683104387333865:=True
def tw13276578860279027192:=True
def tw13309695486650908670:=True
def tw13329604074774678718:=True
def tw13354259218868180453:=True
def tw13377633458856322743:=True
def tw1349595330668524316:=True
def tw13516653839682084:=True
def tw13549912986488193221:=True
def tw1355968292676735228:=True
def tw13582768925124215042:=True
def tw13588070630811811218:=True
def tw13599158583527716288:=True
def tw13717048658846160425:=True
def tw13805566615013641876:=True
def tw13817359749799676534:=True
def tw13821993499377985611:=True
def tw13899790869064390387:=True
def tw13901670642243695596:=True
def tw1394663570552629673:=True
def tw13970056171157550446:=True
def tw13978854390015442110:=True
def tw1410335158769052116:=True
def tw14188305242573721855:=True
def tw14259224950996566377:=True
def tw14260786693014630973:=True
def tw142803016299529783:=True
def tw14340913031402191335:=True
def tw14343091860644179825:=True
def tw14346038353653797755:=True
def tw14496062806456167890:=True
def tw144968636151071689:=True
def tw1449812315691117535:=True
def tw14545655580189668467:=True
def tw1458659484031190450:=True
def tw14619751011179936749:=True
def tw14633843875473334014:=True
def tw14690934503086054712:=True
def tw14714731304403594279:=True
def tw1485341336916573982:=True
def tw14931068113629010670:=True
def tw14946201470777937312:=True
def tw14995923495065075483:=True
def tw15102235001565433204:=True
def tw15214355483544273614:=True
def tw15255129269142079047:=True
def tw15291240196437322225:=True
def tw15340610991109055476:=True
def tw15403591380559995717:=True
def tw1544901277641736680:=True
def tw15639608512373227365:=True
def tw15639929327594824023:=True
def tw15697881595623249049:=True
def tw15872966268348404483:=True
def tw15884260149502409788:=True
def tw15918567814774434402:=True
def tw15922746161566231146:=True
def tw15983860352830011536:=True
def tw16083959555428151959:=True
def tw16165649987790864369:=True
def tw16223307089658918014:=True
def tw16285981499816383131:=True
def tw16338652975840059637:=True
def tw16413088573407641385:=True
def tw1642724583503074491:=True
def tw16463930302367119772:=True
def tw16481895033232426065:=True
def tw16487200162242528291:=True
def tw16534252511842378126:=True
def tw16632740650978976922:=True
def tw16858182357461690943:=True
def tw16872143090536148090:=True
def tw16941447563058668762:=True
def tw17066205564016969214:=True
def tw17096746057027385585:=True
def tw1718599955969599055:=True
def tw17212217289842583995:=True
def tw17329153379937414823:=True
def tw17480665361957731734:=True
def tw17567030165062420606:=True
def tw17580759762385004527:=True
def tw17601214428050845741:=True
def tw17606749010637143575:=True
def tw17618557304087770979:=True
def tw17761074891530447554:=True
def tw1781209010956194524:=True
def tw17947435435530354019:=True
def tw18077251753277642867:=True
def tw18142679400920229599:=True
def tw18156848561505458179:=True
def tw18166143330670346086:=True
def tw18344014767552380194:=True
def tw18368714152827502650:=True
def tw18379423105573681569:=True
def tw1838893352269894661:=True
def tw1868397136200363678:=True
def tw1876643830753237891:=True
def tw1890142389777521964:=True
def tw189635181302190217:=True
def tw1988479184089223605:=True
def tw2060637122274036597:=True
def tw2321814351210849981:=True
def tw2375458366848523565:=True
def tw2460146773362425894:=True
def tw2479471190278048996:=True
def tw2480820177153679725:=True
def tw2481238970170318051:=True
def tw2488676818835919420:=True
def tw2513441091067785984:=True
def tw2581788833326986327:=True
def tw2604526650587787852:=True
def tw2656792282471726833:=True
def tw272300081111959819:=True
def tw2766343660636808967:=True
def tw2788970486700910251:=True
def tw2895073775360819053:=True
def tw293196188748093844:=True
def tw3017204618273857874:=True
def tw3128732257990858826:=True
def tw3145562827914677394:=True
def tw3146962843394451648:=True
def tw3174564885058107813:=True
def tw3201877862886256480:=True
def tw3227235601928137381:=True
def tw3278751723280742004:=True
def tw3312355627974690400:=True
def tw3478951833301739269:=True
def tw3510478282086073410:=True
def tw3545521648093505468:=True
def tw3570392312580378616:=True
def tw3610246580468685158:=True
def tw3617256231194384268:=True
def tw3706128509670759321:=True
def tw3726519199927026566:=True
def tw376372388698079844:=True
def tw3798030288536420681:=True
def tw3803756823638341101:=True
def tw3861543521604736860:=True
def tw4010594490746259801:=True
def tw4174734318044828892:=True
def tw4221156460102882333:=True
def tw427651546735134650:=True
def tw428827843899156844:=True
def tw4289366532471653524:=True
def tw4432655893885155992:=True
def tw4444731086105224815:=True
def tw4451522691746492157:=True
def tw4571119093704522896:=True
def tw460929509982063605:=True
def tw470344764646998062:=True
def tw4761223537597909897:=True
def tw4882576816759022657:=True
def tw4902202755330205145:=True
def tw4925665339417922155:=True
def tw4928362702753964625:=True
def tw4938664636053603083:=True
def tw4954489284154567773:=True
def tw4978917397967948241:=True
def tw5011974600985008501:=True
def tw519166674465920798:=True
def tw5252049689750995169:=True
def tw5282734734018654699:=True
def tw5291950364985760806:=True
def tw5307005757167816009:=True
def tw5313724718668515665:=True
def tw5376993353779983393:=True
def tw5434109927933215007:=True
def tw5534051366702634876:=True
def tw5596759085472024617:=True
def tw5664241367994130240:=True
def tw5683942252669908925:=True
def tw5702525375773204839:=True
def tw5765725900299819875:=True
def tw5912339363173535935:=True
def tw5914954349012049816:=True
def tw5971138459136008161:=True
def tw5974270247817659941:=True
def tw5998105389558553714:=True
def tw6002846978270374888:=True
def tw6036679010451757272:=True
def tw6095537031991826058:=True
def tw6241551510364412783:=True
def tw6286475122495791615:=True
def tw6295205266292365692:=True
def tw6304530464909445084:=True
def tw6346318490595983224:=True
def tw6358241318838131613:=True
def tw6377970779084395943:=True
def tw6447605509149214647:=True
def tw6449493499608115865:=True
def tw6474383661046681083:=True
def tw651285034835719033:=True
def tw656323051399473175:=True
def tw6563853741180424985:=True
def tw6580003561501292470:=True
def tw6592447852352642723:=True
def tw6625065234822233041:=True
def tw6674769522602712535:=True
def tw6691577719071713100:=True
def tw6704010075170856901:=True
def tw6728895591645832748:=True
def tw6731217160361930408:=True
def tw6751242841934140854:=True
def tw6757609338276369267:=True
def tw6862961306731848724:=True
def tw6867396160404744781:=True
def tw6886413782900550412:=True
def tw6894307594211982007:=True
def tw6912406739882021108:=True
def tw6940275776284782872:=True
def tw7012356064263390090:=True
def tw7026119684865814115:=True
def tw7062272009293457098:=True
def tw7081803307755243214:=True
def tw7094510786892310084:=True
def tw7188629540530033186:=True
def tw721454416364594502:=True
def tw7239121087369561489:=True
def tw7277094577827671404:=True
def tw7309816427516937934:=True
def tw7312184119401840375:=True
def tw7383323629906774664:=True
def tw7406932120238310334:=True
def tw7470428002921318814:=True
def tw749005600306593450:=True
def tw7496525123967970825:=True
def tw7537884183804207194:=True
def tw7572159186301826380:=True
def tw7716788398891653421:=True
def tw7736564222160418177:=True
def tw7798192841993652984:=True
def tw7848742747676604881:=True
def tw7964650656546039487:=True
def tw8009299395041091179:=True
def tw8049298645644307089:=True
def tw824477183473475372:=True
def tw8350357264227893356:=True
def tw8416776262446483105:=True
def tw8418980475521252409:=True
def tw8456952710492362577:=True
def tw8547859262962915806:=True
def tw8587145532350092227:=True
def tw8604262080426830021:=True
def tw8649646635365804470:=True
def tw8716492593160696986:=True
def tw9021206077817868075:=True
def tw9064084065482206301:=True
def tw911576501353508050:=True
def tw9126679203174329296:=True
def tw9179721139473154188:=True
def tw9261381050440033740:=True
def tw9270106981043662977:=True
def tw9290627821416606860:=True
def tw9303107042085686567:=True
def tw9312365549998915038:=True
def tw936251236820193368:=True
def tw9362907116967681041:=True
def tw9372663447039197295:=True
def tw9417952448590607244:=True
def tw945179132884227793:=True
def tw9551809192268542968:=True
def tw9572915559971225867:=True
def tw9597024664287668080:=True
def tw9669040193619870170:=True
def tw9806922996356943355:=True
def tw9854640260758761010:=True
def tw9915434916430433466:=True
def tw9932285253185138423:=True
def tw9940185680828256451:=True
end PySem.W.Fast
open PySem.W (InitBack InstAt any_some bind_fn callWith_K callWith_K0 cellsFrom_some codeIn codeRec_of emptyDict eq_bytes excIn exmOne exm_one findObj_own fnOf funFrames_hide get_value handedIn hasDictIn hideAll hideAll_get hideAll_none hideAll_size instObj isFn isNs_of_in kdl_dict kdu_collect keepIn ki_setAt ki_setBack kia_one kitOne kitx_bool kitx_dict kitx_float kitx_int kitx_list kitx_none kitx_own kitx_str kitx_tuple lookIn looks_clsIn make_core makesIn makes_of methodCall_KW methodObj method_fn mg_none_of mg_of ne_bytes nsIn nsMap_none_of_in of_hideAll osa_open plainGet plainGet_of plainOver set_plain specialIn tail_of_in takerIn takesIn truthy_bytes typeIn)
open Nat (le_succ log2_lt lt_succ_of_lt lt_succ_self min_eq_left ne_of_gt ne_of_lt zero_le)
open List (Nodup Pairwise all_cons all_eq_true any_cons any_eq_true append_nil contains_cons contains_eq_mem drop_of_length_le drop_zero filterMap_cons filter_append filter_cons find?_cons find?_eq_none forIn_cons forIn_nil getD_eq_getElem?_getD getElem?_eq_getElem getElem?_map getElem_mem length_cons length_drop length_eq_zero_iff length_filter_le length_map length_nil length_replicate length_take map_append map_cons map_map map_nil mem_append mem_append_right mem_cons mem_cons_of_mem mem_cons_self mem_filter mem_filterMap mem_map mem_of_getElem? mem_range mem_singleton nodup_append nodup_cons nodup_nil not_mem_nil of_mem_zip replicate size_toArray take_add_one take_length take_nil take_of_length_le take_succ take_zero)
open Int (emod_lt_of_pos emod_nonneg toNat_natCast)
open Bool (and_eq_true false_eq_true not_eq_true')
open Option (getD_none isSome_map isSome_none isSome_some)
set_option Elab.async false
set_option linter.all false
set_option compiler.extract_closed false
set_option maxRecDepth 100000
open Option renaming some→f',none→Nf
open PySem renaming wpAny_bind→j',Addr→K',Value→Na,wpAny_pure→Nc,Shared→Ng,PyData→Ni,sizeLine→Nl,FuncData→Np,wpAny→Nq,World→Nt,Program→ND,Paired→NF,Heap→NI,Around→NN,mainGlobals→NQ,starEach→NR,wpAny_call_entry→NT,DictEntry→NU,Stmt→NX,wpAny_callSpecial?_slot→NY,wpAny_holding→N2,wpAny_truthy_bool→N5,bootBuiltins→Oa,wpAny_newObj_type→Ob,placesWithHash→Oh,compareOp→Oi,Obj→Ow,SetTable→OA,sysModules→OD,wpAny_dictEpoch→OG,wpAny_rule→OH,wpAny_field→OK,wpAny_seqItems→Pd,rawInt→Pe,wpAny_setField→Pf,wpAny_passesOwn→Pm,wpAny_setState_of→Px,behindInMarks→PB,backTo→PF,cLine→PJ,wpAny_mono→PL,wpAny_Call_Name_kw→PM
open Bool renaming false→D',true→G',false_ne_true→Nz,false_eq_true→NK,and_eq_true→Om,eq_iff_iff→ON,not_true→O9,not_eq_true'→Pu
open PySem.Heap renaming get?_push_of_some→Nb,get?_push_size→Nr,lt_size→Nx,size_push→N9,get?_update_self→Ov,SameBut→Ox,get?_update_other→OV
open List renaming mem_singleton→Nd,length_append→Nj,getElem?_eq_getElem→Nk,length_map→Nu,mem_cons_self→Nv,mem_cons_of_mem→Nw,mem_cons→NA,size_toArray→NC,getElem?_eq_some_iff→NG,getElem?_map→NL,length_cons→NM,mem_of_getElem?→N1,append_assoc→N4,not_mem_nil→N8,mem_append→Oc,mem_append_right→Oj,length_eq_zero_iff→Ot,map_cons→Oy,length_take→OI,contains_eq_mem→OO,map_append→OS,getD_eq_getElem?_getD→OW,find?_cons→OY,length_replicate→O0,mem_map→O1,take_of_length_le→O3,append_nil→O5,nodup_append→O7,length→O8,cons_ne_nil→Pa,nodup_cons→Pc,filter_cons→Pt,range→PQ,length_filter_le→PR,Perm→PU,mem_filter→P0
open PySem.W renaming Frag→Nh,exmOne→Og,findIn→Ol,mg_none_of→OZ
open Nat renaming le_refl→Nm,lt_of_lt_of_le→Nn,le_trans→NS,ne_of_lt→NZ,zero_le→Ou,lt_irrefl→O2
open PySem.PyData renaming eqv→Ny,str→Od,strOk→Oq,canLayAll0→OJ,eqvAll→OR,depthAll→Pj,list→Pw
open Option.some renaming inj→NH
open Array renaming getElem?_eq_getElem→NJ,length_toList→NO,getElem?_toList→N0
open PySem.Value renaming ref→NP,none→Of
open PySem.F renaming plainAttrs_list→NV,slot_list_append→OL,plainAttrs_str→OU,slot_dict_get→OX,plainAttrs_dict→O4,slot_dict_pop→Ph
open Or renaming inl→NW
open PySem.Str renaming ofString→N3
open PySem.Heap.SameBut renaming update→N6
open PySem.SeqAt renaming EqAt→N7
open PySem.Builtin.Str renaming strSliceIndices→Oe,occurrences→OQ
open PySem.Builtin.SmallTypes renaming nextOf→Oo,ownedTupleIsFree→OM
open PyProof.Rows renaming callWith_type1→Oz
open Sum renaming inl→OB
open False renaming elim→OC
open PySem.Calls renaming spliced_cons→OE,evalArgs_plain→OP,callWith_builtin→OT,spliced_nil→Py
open PySem.SetTable renaming below→OF
open True renaming intro→O6
open Ne renaming symm→Pg
open PySem.PassesOwn renaming never→Pl
open PySem.Txt renaming join→PK
open List.Perm renaming append_left→PN,append_right→PY
open Int renaming emod_lt_of_pos→PX,emod_nonneg→P1
open PySem.Obj renaming mapSeq→PZ
theorem Vc{c:Prop}[h:Decidable c](hc:c){α:Sort _}{t e:α}:ite c t e=t:=if_pos hc
theorem Vd{c:Prop}[h:Decidable c](hc:¬c){α:Sort _}{t e:α}:ite c t e=e:=if_neg hc
theorem Ve{p:Prop}[Decidable p]:(decide p=true)=p:=decide_eq_true_eq
theorem Vf{p:Prop}[h:Decidable p](x:p):decide p=true:=decide_eq_true x
local macro_rules|`(tactic|omega)=>`(tactic|lia)
namespace L2
open PySem PySem.Spec PyProof.Rows
abbrev Key:=Sum Int Str
def oM:Key->Na->Bool
|.inl k,v=>Na.isInt k v
|.inr x,v=>Na.isStrOf x v
def M6 (w:Nt):Key->Int
|.inl k=>hashInt k
|.inr x=>hashStr w x
def be:∀ {k:Key}{v:Na},oM k v=G'->(∃ i t,k=OB i/\v=Na.int i t)\/(∃ x t,k=Sum.inr x/\v=Na.str x t)
|.inl i,v,h=>by
  obtain⟨t,e⟩:=Na.isInt_shape (k:=i) (v:=v) h;exact .inl ⟨i,t,rfl,e⟩
|.inr x,v,h=>by
  obtain⟨t,e⟩:=Na.isStrOf_shape (x:=x) (v:=v) h;exact .inr ⟨x,t,rfl,e⟩
def Bz (i:Int) (t:Tok):oM (.inl i) (.int i t)=G':=by simp[oM,Na.isInt]
def B4 (x:Str) (t:Tok):oM (.inr x) (.str x t)=G':=by simp[oM,Na.isStrOf]
def K6 (a b:Int):decide ((OB a:Key)=OB b)=(a == b):=by
 by_cases e:a=b
 . subst e;simp
 . have h:¬ (OB a:Key)=OB b:=λq=>e (OB.inj q)
   rw[decide_eq_false h];exact(beq_eq_false_iff_ne.mpr e).symm
def Kk (a b:Str):decide ((Sum.inr a:Key)=Sum.inr b)=decide (a=b):=by
 by_cases e:a=b
 . subst e;simp
 . have h:¬ (Sum.inr a:Key)=Sum.inr b:=λq=>e (Sum.inr.inj q)
   rw[decide_eq_false h,decide_eq_false e]
def KD (a:Int) (b:Str):decide ((OB a:Key)=Sum.inr b)=D':=decide_eq_false (λq=>nomatch q)
def Jp (a:Str) (b:Int):decide ((Sum.inr a:Key)=OB b)=D':=decide_eq_false (λq=>nomatch q)
def bv (prog:ND) (w:Nt):PySem.KeyKind prog w Key where
 is:=oM
 hash:=M6 w
 inj:=λv a b ha hb=>by
  rcases be ha with⟨i,t,rfl,rfl⟩|⟨x,t,rfl,rfl⟩
  . rcases be hb with⟨j,u,rfl,e⟩|⟨y,u,rfl,e⟩
    . injection e with e1 _;rw[e1]
    . exact nomatch e
  . rcases be hb with⟨j,u,rfl,e⟩|⟨y,u,rfl,e⟩
    . exact nomatch e
    . injection e with e1 _;rw[e1]
 byValue:=λk v h=>by
  rcases be h with⟨i,t,rfl,rfl⟩|⟨x,t,rfl,rfl⟩<;>rfl
 pyHash:=λhv h=>by
  rcases be hv with⟨i,t,rfl,rfl⟩|⟨x,t,rfl,rfl⟩
  . exact wpAny_pyHash_int h
  . exact wpAny_pyHash_str h
 eqBool:=λhu hv h=>by
  rcases be hu with⟨i,t,rfl,rfl⟩|⟨x,t,rfl,rfl⟩
  . rcases be hv with⟨j,u,rfl,rfl⟩|⟨y,u,rfl,rfl⟩
    . rw[K6]at h;exact wpAny_eqBool_int h
    . rw[KD]at h;exact N7.int_str i t y u _ _ _ _ h
  . rcases be hv with⟨j,u,rfl,rfl⟩|⟨y,u,rfl,rfl⟩
    . rw[Jp]at h;exact N7.str_int x t j u _ _ _ _ h
    . rw[Kk]at h;exact wpAny_eqBool_str h
 «strs»:=λk x t v h=>by
  rcases be h with⟨i,u,rfl,e⟩|⟨y,u,rfl,e⟩
  . exact nomatch e
  . injection e with e1 _
    subst e1;cases v<;>rfl
def x9 (prog:ND) (w:Nt) (i:Int) (t:Tok):(bv prog w).is (.inl i) (.int i t)=G':=Bz i t
def xc (prog:ND) (w:Nt) (x:Str) (t:Tok):(bv prog w).is (.inr x) (.str x t)=G':=B4 x t
inductive V where
|non|bl (b:Bool)|int (i:Int)|str (x:Str)|byt (b:Array UInt8)|flt (b:UInt64)|ref (a:K')|ty (n:String)
 deriving DecidableEq
def cw:V->Na->Prop
|.non,u=>u=Of
|.bl b,u=>u=Na.bool b
|.int i,u=>∃ t,u=Na.int i t
|.str x,u=>∃ t,u=Na.str x t
|.byt b,u=>∃ t,u=Na.bytes b t
|.flt b,u=>∃ t,u=Na.float b t
|.ref a,u=>u=NP a
|.ty n,u=>u=Na.type n
abbrev bQ:List V->List Na->Prop:=NF cw
theorem bQ.length {xs:List V}{us:List Na}(r:bQ xs us):xs.length=us.length:=NF.length r
theorem bQ.get:∀ {xs:List V}{us:List Na}{i:Nat}{x:V},bQ xs us->xs[i]?=f' x->∃ u,us[i]?=f' u/\cw x u
|_,_,_,_,.nil,e=>by simp at e
|_,_,0,_,.cons r _,e=>by simp at e;subst e;exact⟨_,rfl,r⟩
|_,_,i+1,x,.cons _ t,e=>by
  obtain⟨u,h1,h2⟩:=bQ.get (i:=i) (x:=x) t (by simpa using e);exact⟨u,by simpa using h1,h2⟩
theorem bQ.set {x:V}{u:Na}(r:cw x u):∀ {xs:List V}{us:List Na}(i:Nat),bQ xs us->bQ (xs.set i x) (us.set i u)
|_,_,_,.nil=>.nil
|_,_,0,.cons _ t=>.cons r t
|_,_,i+1,.cons q t=>.cons q (bQ.set r i t)
theorem bQ.append:∀ {xs ys:List V}{us ws:List Na},bQ xs us->bQ ys ws->bQ (xs++ys) (us++ws)
|_,_,_,_,.nil,s=>s
|_,_,_,_,.cons r t,s=>.cons r (bQ.append t s)
theorem bQ.take:∀ {xs:List V}{us:List Na}(n:Nat),bQ xs us->bQ (xs.take n) (us.take n)
|_,_,0,_=>.nil
|_,_,_+1,.nil=>.nil
|_,_,n+1,.cons r t=>.cons r (bQ.take n t)
theorem bQ.drop:∀ {xs:List V}{us:List Na}(n:Nat),bQ xs us->bQ (xs.drop n) (us.drop n)
|_,_,0,r=>r
|_,_,_+1,.nil=>.nil
|_,_,n+1,.cons _ t=>bQ.drop n t
def wL:Option V->Option Na->Prop
|some v,f' u=>cw v u
|none,Nf=>True
|_,_=>False
def KV {κ:Type}:List (κ × V)->List (κ × Na)->Prop:=NF λ(p:κ × V) (q:κ × Na)=>p.1=q.1/\cw p.2 q.2
def kV:Key->V
|.inl i=>.int i
|.inr x=>.str x
inductive HO where
 /-- a list -/
|lst (xs:List V)
 /-- a tuple (never changes) -/
|tup (xs:List V)
 /-- a dict whose keys are ints and texts;one whose keys are tuples of ints and texts (the empty one is both) -/
|dK (kvs:List (Key × V))|dT (kvs:List (List Key × V))
 /-- a set of ints: its members,its size -/
|set (S:Int->Bool) (n:Nat)
 /-- an instance of the class at C,its dict at dx,its attributes -/
|ins (C dx:K') (fs:List (Str × V))
 /-- the dict of the instance at x -/
|own (x:K')
 /-- the dict of an exception -/
|xd (fs:List (Str × V))
 /-- a bound method,f of x -/
|met (f x:K')
 /-- a range object lo,lo+1,.. below hi -/
|rng (lo hi:Int)
 /-- a thing that is known to the object (the script;a dict while a loop walks it): read,never written while it is so -/
|frz (o:Ow) (u:HO)
 /-- a code object's table -/
|tbl (ps:Array Na)
 /-- any other thing,by what is G' of its one object (a def of one's own: SetO a S n:=HO.ext λh=>..) -/
|ext (φ:NI->Prop)
abbrev Hp:=K'->Option HO
def upd (H:Hp) (a:K') (o:HO):Hp:=λb=>if b=a then f' o else H b
def a8 {H:Hp}{a:K'}{o:HO}:upd H a o a=f' o:=by unfold upd;rw[Vc rfl]
def ae {H:Hp}{a b:K'}{o:HO}(h:b≠a):upd H a o b=H b:=by unfold upd;rw[Vd h]
def fc {H:Hp}{a:K'}{o u:HO}:upd (upd H a o) a u=upd H a u:=by
 funext b;unfold upd;split<;>rfl
def jh {H:Hp}{a b:K'}{o u:HO}(h:H a=f' o) (h':H b=f' u) (d:o≠u):a≠b:=by
 intro e;subst e;rw[h]at h';exact d (NH h')
def ac {H:Hp}{a b:K'}{o:HO}(h:H a=f' o) (h':H b=Nf):a≠b:=by
 intro e;subst e;rw[h]at h';cases h'
section
variable (P:ND) (w:Nt)
def dB (H:Hp) (h:NI) (a:K'):HO->Prop
|.lst xs=>xs.length <= Nl/\∃ (its:List Na) (n:Nat),bQ xs its/\h.get? a=f' { cls:=.type "list",data:=.seq its.toArray n }
|.tup xs=>xs.length <= Nl/\∃ its:List Na,bQ xs its/\IsTup h a its.toArray
|.dK kvs=>kvs.length <= Nl/\(a == OD)=D'/\∃ vs,KV kvs vs/\h.DictOf (bv P w) a vs
|.dT kvs=>kvs.length <= Nl/\(a == OD)=D'/\∃ xs:List (List Key × K' × Na),
  NF (λ(p:List Key × V) (q:List Key × K' × Na)=>p.1=q.1/\H q.2.1=f' (.tup (p.1.map kV))/\cw p.2 q.2.2) kvs xs /\
  ∃ o es ep,h.get? a=f' o/\o.ExactDict/\o.data=.dict es ep/\es.toList=xs.map (entryOfKey (tupleKind (bv P w)))/\(xs.map (·.1)).Nodup
|.set S n=>h.SetOf (intKind P w) a S n
|.ins C dx fs=>H dx=f' (.own a)/\fs.length <= 1000/\dx≠a/\h.get? a=f' (instObj C dx) /\
  ∃ mA,h.Ns1 dx mA/\(∀ f,wL (fs.lookup f) (mA f))/\PySem.Within mA (fs.map (·.1))
|.own _=>∃ o,h.get? a=f' o
|.xd fs=>∃ mA,h.Ns1 a mA/\∀ f,wL (fs.lookup f) (mA f)
|.rng lo hi=>∃ t u v,h.get? a=f' { cls:=.type "range",data:=.fields #[.int lo t,.int hi u,.int 1 v] }
|.frz o u=>h.get? a=f' o/\dB H h a u
|.tbl ps=>h.get? a=f' { cls:=.none,data:=.fields ps }
|.met f x=>h.get? a=f' (methodObj (.ref f) (.ref x))
|.ext φ=>φ h/\(∃ o,h.get? a=f' o)/\∀ h1 h2:NI,φ h1->(∀ o,h1.get? a=f' o->h2.get? a=f' o)->φ h2
def HOk (H:Hp) (h:NI):Prop:=∀ a o,H a=f' o->dB P w H h a o
end
section
variable {P:ND}{w:Nt}{H H':Hp}{h h':NI}{a:K'}{o:HO}
theorem dB.lt (x:dB P w H h a o):a < h.objs.size:=by
 cases o with
|lst xs=>obtain⟨_,_,_,_,e⟩:=x;exact Nx e
|tup xs=>obtain⟨_,_,_,p⟩:=x;exact p.lt
|dK kvs=>obtain⟨_,_,_,_,o,_,_,e,_⟩:=x;exact Nx e
|dT kvs=>obtain⟨_,_,_,_,o,_,_,e,_⟩:=x;exact Nx e
|set S n=>obtain⟨o,_,_,_,e,_⟩:=x;exact Nx e
|ins C dx fs=>obtain⟨_,_,_,e,_⟩:=x;exact Nx e
|own y=>obtain⟨_,e⟩:=x;exact Nx e
|xd fs=>obtain⟨_,⟨_,_,_,e,_⟩,_⟩:=x;exact Nx e
|rng lo hi=>obtain⟨_,_,_,e⟩:=x;exact Nx e
|frz ob u=>obtain⟨e,_⟩:=x;exact Nx e
|tbl ps=>exact Nx (show h.get? a=f' _ from x)
|met f y=>exact Nx (show h.get? a=f' _ from x)
|ext φ=>obtain⟨_,⟨_,e⟩,_⟩:=x;exact Nx e
theorem Paired.mapP {α β:Type}{F G:α->β->Prop}:∀ {l₁:List α}{l₂:List β},NF F l₁ l₂->(∀ a b,F a b->G a b)->NF G l₁ l₂
|_,_,.nil,_=>.nil
|_,_,.cons r t,f=>.cons (f _ _ r) (Paired.mapP t f)
def dB.stay (x:dB P w H h a o) (k:∀ b u,(b=a\/H b=f' (.own a))->h.get? b=f' u->h'.get? b=f' u)
 (ho:∀ b,H b=f' (.own a)->H' b=f' (.own a)) (ht:∀ b xs,H b=f' (.tup xs)->H' b=f' (.tup xs)):dB P w H' h' a o:=by
 induction o with
|lst xs=>obtain⟨z,its,n,r,e⟩:=x;exact⟨z,its,n,r,k _ _ (.inl rfl) e⟩
|tup xs=>obtain⟨z,its,r,ob,e,c⟩:=x;exact⟨z,its,r,ob,k _ _ (.inl rfl) e,c⟩
|dK kvs=>obtain⟨z,y,vs,r,ob,es,ep,e,c⟩:=x;exact⟨z,y,vs,r,ob,es,ep,k _ _ (.inl rfl) e,c⟩
|dT kvs =>
  obtain⟨z,y,xs,r,ob,es,ep,e,c⟩:=x;exact⟨z,y,xs,Paired.mapP r λp q z=>⟨z.1,ht _ _ z.2.1,z.2.2⟩,ob,es,ep,k _ _ (.inl rfl) e,c⟩
|set S n=>obtain⟨ob,es,ep,t,e,c⟩:=x;exact⟨ob,es,ep,t,k _ _ (.inl rfl) e,c⟩
|ins C dx fs =>
  obtain⟨d,z,ne,e,mA,⟨od,es,ep,e2,c⟩,r⟩:=x;exact⟨ho _ d,z,ne,k _ _ (.inl rfl) e,mA,⟨od,es,ep,k _ _ (.inr d) e2,c⟩,r⟩
|own y=>obtain⟨ob,e⟩:=x;exact⟨ob,k _ _ (.inl rfl) e⟩
|xd fs=>obtain⟨mA,⟨od,es,ep,e,c⟩,r⟩:=x;exact⟨mA,⟨od,es,ep,k _ _ (.inl rfl) e,c⟩,r⟩
|rng lo hi=>obtain⟨t,u,v,e⟩:=x;exact⟨t,u,v,k _ _ (.inl rfl) e⟩
|frz ob u ih=>obtain⟨e,q⟩:=x;exact⟨k _ _ (.inl rfl) e,ih q⟩
|tbl ps =>
  have e:h.get? a=f' { cls:=.none,data:=.fields ps }:=x;show h'.get? a=f' { cls:=.none,data:=.fields ps };exact k a _ (.inl rfl) e
|met f y =>
  have e:h.get? a=f' (methodObj (.ref f) (.ref y)):=x;show h'.get? a=f' (methodObj (.ref f) (.ref y));exact k a _ (.inl rfl) e
|ext φ=>obtain⟨p,⟨o,e⟩,st⟩:=x;exact⟨st _ _ p λo q=>k _ _ (.inl rfl) q,⟨o,k _ _ (.inl rfl) e⟩,st⟩
theorem HOk.lt (x:HOk P w H h) (e:H a=f' o):a < h.objs.size:=(x a o e).lt
def HOk.fresh (x:HOk P w H h) (e:h.objs.size <= a):H a=Nf:=by
 cases q:H a with
|none=>rfl
|some u=>exact absurd (Nn (x.lt q) e) (O2 _)
def HOk.kept (x:HOk P w H h) (k:∀ b u,h.get? b=f' u->h'.get? b=f' u):HOk P w H h':=λa o e =>
 (x a o e).stay (λb u _ q=>k b u q) (λ_ q=>q) λ_ _ q=>q
def HOk.laid (x:HOk P w H h) (k:∀ b u,h.get? b=f' u->h'.get? b=f' u) (hp:h.objs.size <= a) (new:dB P w (upd H a o) h' a o):HOk P w (upd H a o) h':=λb u e=>by
 have hn:=x.fresh hp;by_cases hb:b=a
 . subst hb;rw[a8]at e;cases e;exact new
 . rw[ae hb]at e;exact(x b u e).stay (λc v _ q=>k c v q) (λc q=>by rw[ae (ac q hn)];exact q) λc xs q=>by rw[ae (ac q hn)];exact q
end
def Rd (H:Hp) (a:K') (u:HO):Prop:=H a=f' u\/∃ o,H a=f' (.frz o u)
def Rd.ok {P:ND}{w:Nt}{H:Hp}{h:NI}{a:K'}{u:HO}(r:Rd H a u) (x:HOk P w H h):dB P w H h a u:=by
 rcases r with r|⟨o,r⟩
 . exact x a u r
 . obtain⟨_,q⟩:=x a _ r;exact q
def Mut:Option HO->Prop
|some (.lst _)=>True
|some (.dK _)=>True
|some (.dT _)=>True
|some (.set _ _)=>True
|some (.ins _ _ _)=>True
|some (.ext _)=>True
|_=>False
section
variable {P:ND}{w:Nt}{H:Hp}{h h':NI}{x e:K'}{o':HO}
def HOk.write (ok:HOk P w H h) (mu:Mut (H x)) (he:e=x\/H e=f' (.own x)) (k:∀ b u,b≠e->h.get? b=f' u->h'.get? b=f' u) (heo:∃ u,h'.get? e=f' u)
 (new:dB P w (upd H x o') h' x o'):HOk P w (upd H x o') h':=λb u q=>by
 have nown:∀ c y,H c=f' (.own y)->c≠x:=λc y r z=>by subst z;rw[r]at mu;exact mu
 have ntup:∀ c xs,H c=f' (.tup xs)->c≠x:=λc xs r z=>by subst z;rw[r]at mu;exact mu
 by_cases hb:b=x
 . subst hb;rw[a8]at q;cases q;exact new
 . rw[ae hb]at q;by_cases hbe:b=e
   . have q':H b=f' (.own x):=by
      rcases he with z|z
      . exact absurd (hbe.trans z) hb
      . rw[hbe];exact z
     rw[q]at q';cases q';obtain⟨v,hv⟩:=heo;exact⟨v,by rw[hbe];exact hv⟩
   . refine(ok b u q).stay (λc v hc r=>k c v ?_ r) (λc r=>by rw[ae (nown c b r)];exact r) λc xs r=>by rw[ae (ntup c xs r)];exact r
     rcases hc with rfl|hc
     . exact hbe
     . rintro rfl;rcases he with z|z
       . exact nown c b hc z
       . rw[hc]at z;cases z;exact hb rfl
end
structure Un (fs ex:List K') (H H':Hp) (h h':NI):Prop where
 keep:∀ b o,h.get? b=f' o->H b=Nf->b ∉ fs->b ∉ ex->h'.get? b=f' o
 slot:∀ b o,h.get? b=f' o->H b=Nf->b∈fs->b ∉ ex->∃ sl,h'.get? b=f' { o with slots:=sl }
 free:∀ b o,h.get? b=f' o->H b=Nf->b ∉ ex->H' b=Nf
 there:∀ b o,h.get? b=f' o->b ∉ ex->∃ o',h'.get? b=f' o'
 tups:∀ b xs,H b=f' (.tup xs)->H' b=f' (.tup xs)
 frzs:∀ b o u,H b=f' (.frz o u)->H' b=f' (.frz o u)
 tbls:∀ b ps,H b=f' (.tbl ps)->∃ more,H' b=f' (.tbl (ps++more))
section
variable {fs fs' ex ex':List K'}{H H1 H2:Hp}{h h1 h2 h':NI}{a x e:K'}{o:HO}
def Un.any (u:Un fs ex H H1 h h1) {b:K'}{ob:Ow}(q:h.get? b=f' ob) (n:H b=Nf) (hx:b ∉ ex):∃ sl,h1.get? b=f' { ob with slots:=sl }:=by
 by_cases hb:b∈fs
 . exact u.slot b ob q n hb hx
 . exact⟨ob.slots,u.keep b ob q n hb hx⟩
def Un.kept (k:∀ b u,h.get? b=f' u->h'.get? b=f' u):Un fs ex H H h h' :=
 ⟨λb ob q _ _ _=>k b ob q,λb ob q _ _ _=>⟨ob.slots,k b ob q⟩,λ_ _ _ n _=>n,λb ob q _=>⟨ob,k b ob q⟩,λ_ _ q=>q,λ_ _ _ q=>q,λ_ ps q=>⟨#[],by rw[q];simp⟩⟩
def Un.refl:Un fs ex H H h h:=Un.kept λ_ _ q=>q
def Un.laid (k:∀ b u,h.get? b=f' u->h'.get? b=f' u) (hp:h.objs.size <= a) (hn:H a=Nf):Un fs ex H (upd H a o) h h' where
 keep:=λb u q _ _ _=>k b u q
 slot:=λb u q _ _ _=>⟨u.slots,k b u q⟩
 free:=λb u q n _=>by rw[ae (NZ (Nn (Nx q) hp))];exact n
 there:=λb u q _=>⟨u,k b u q⟩
 tups:=λb xs q=>by rw[ae (ac q hn)];exact q
 frzs:=λb u xs q=>by rw[ae (ac q hn)];exact q
 tbls:=λb ps q=>⟨#[],by rw[ae (ac q hn),q];simp⟩
def Un.write (mu:Mut (H x)) (he:e=x\/H e=f' (.own x)) (k:∀ b u,b≠e->h.get? b=f' u->h'.get? b=f' u) (heo:∃ u,h'.get? e=f' u):Un fs ex H (upd H x o) h h':=by
 have hx:∀ b,H b=Nf->b≠x:=λb n z=>by subst z;rw[n]at mu;exact mu
 have hb:∀ b,H b=Nf->b≠e:=λb n z=>by
  subst z;rcases he with r|r
  . exact hx b n r
  . rw[n]at r;cases r
 have hm:∀ b u,H b=f' u->¬ Mut (f' u)->b≠x:=λb u q nm z=>by subst z;rw[q]at mu;exact nm mu
 refine⟨λb u q n _ _=>k b u (hb b n) q,λb u q n _ _=>⟨u.slots,k b u (hb b n) q⟩,λb u q n _=>by rw[ae (hx b n)];exact n,λb u q _=>?_,
  λb xs q=>by rw[ae (hm b _ q λz=>z)];exact q,λb u xs q=>by rw[ae (hm b _ q λz=>z)];exact q,λb ps q=>⟨#[],by rw[ae (hm b _ q λz=>z),q];simp⟩⟩
 by_cases hbe:b=e
 . subst hbe;exact heo
 . exact⟨u,k b u hbe q⟩
end
def trk (h:NI) (H:Hp):List K':=(PQ h.objs.size).filter λa=>(H a).isSome
def EW (h:NI) (H:Hp):NI:=hideAll h (trk h H)
def Dn (h:NI) (H:Hp):(EW h H).objs.size=h.objs.size:=hideAll_size _ _
def Fc {h:NI}{H:Hp}{b:K'}{o:Ow}(e:h.get? b=f' o) (n:H b=Nf):(EW h H).get? b=f' o :=
 hideAll_get _ e λhm=>by
  have q:(H b).isSome=G':=(P0.mp hm).2;rw[n]at q;simp at q
def HD {h:NI}{H:Hp}{b:K'}{o:Ow}(e:(EW h H).get? b=f' o):h.get? b=f' o/\H b=Nf:=by
 have e':h.get? b=f' o:=of_hideAll (trk h H) e;refine⟨e',?_⟩;cases q:H b with
|none=>rfl
|some x =>
  have hm:b∈trk h H:=P0.mpr ⟨mem_range.mpr (Nx e'),by simp[q]⟩;have z:(EW h H).get? b=Nf:=hideAll_none (trk h H) hm;rw[z]at e;cases e
def IC (g h:NI) (L:K'):List (K' × Ow):=(PQ h.objs.size).filterMap λa=>if a=L\/(g.get? a).isSome=G' then Nf else (h.get? a).map λo=>(a,o)
def ck (g h:NI) (L d:K'):List (K' × Ow):=(IC g h L).filter λp=>decide (p.1≠d)
structure Mod (K:Nh) (mg:Str->Option Na) (base:NI):Prop where
 kin:K.In base
 glob:base.Ns NQ mg
 blt:∃ mb,base.Ns builtinsNs mb/\∀ x:Str,x≠"__name__"->mb x=Oa x
 nolimit:base.NoLimit
structure Cx where
 prog:ND
 w:Nt
 K:Nh
 mg:Str->Option Na
 base:NI
 A:NN
 N:List Str
 s₀:Ng
 H₀:Hp
 env:Env
 outer:List Env
 stack:List Env
 ex:List K'
 fn:Str->Bool
 calm:Bool
 pn:List (K' × Ow)
 xe:Na->Ng->Prop
def frs (l:List Env):List K':=l.filterMap (·.frame)
abbrev Cx.fs (X:Cx):List K':=frs X.outer
def Vis (sc:Scope) (x:Str):Prop:=sc.names.lookup x=f' .local\/sc.names.lookup x=f' .cell\/sc.names.lookup x=f' .free
def Loc (sc:Scope) (x:Str):Prop:=sc.names.lookup x=f' .local\/sc.names.lookup x=f' .cell
def MG (env:Env) (h:NI) (m:Str->Option Na) (x:Str) (u:Na):Prop :=
 (env.kindOf x=f' .local/\m x=f' u)\/((env.kindOf x=f' .cell\/env.kindOf x=f' .free)/\∃ c,env.cells.lookup x=f' c/\h.IsCell c (f' u))
structure Cx.Ok (X:Cx):Prop where
 mod:Mod X.K X.mg X.base
 kind:X.env.scope.kind=.function
 glob:X.env.globals=NQ
 blt:X.env.builtins=builtinsNs
 above:X.s₀.heap.objs.size <= X.env.locals
 inj:∀ x y c,X.env.cells.lookup x=f' c->X.env.cells.lookup y=f' c->x=y
 has:∀ x,(X.env.kindOf x=f' .cell\/X.env.kindOf x=f' .free)->∃ c,X.env.cells.lookup x=f' c
 cab:∀ x c,X.fn x=G'->X.env.cells.lookup x=f' c->X.s₀.heap.objs.size <= c
 hd:X.calm=G'->X.A.handled=Nf
 frames:X.A.frames=f' X.stack
 stk:X.stack=X.outer\/(X.stack=X.env :: X.outer/\X.env.frame=f' X.env.locals)
 exf:∀ b∈X.ex,b≠X.env.locals/\∀ x c,X.env.cells.lookup x=f' c->c≠b
 bs:∀ b o,X.base.get? b=f' o->X.s₀.heap.get? b=f' o/\X.H₀ b=Nf
 bsz:X.base.objs.size <= X.s₀.heap.objs.size
 noex:∀ b o,X.base.get? b=f' o->b ∉ X.ex
 exfs:∀ b∈X.ex,b ∉ X.fs
 funs:X.s₀.heap.FunFrames X.base X.outer
 frf:∀ b∈X.fs,X.H₀ b=Nf
structure Inv (X:Cx) (P2:List (K' × Ow)) (σ:List (Option V)) (H:Hp) (s:Ng):Prop where
 ok:X.Ok
 os:s.os=X.s₀.os
 bare:AllBare s.gens
 base:Un X.fs X.ex X.H₀ H X.s₀.heap s.heap
 loc:∃ m,s.heap.Ns X.env.locals m/\∀ (i:Nat) (x:Str) (v:V),X.N[i]?=f' x->σ[i]?=f' (f' v)->Vis X.env.scope x->∃ u,cw v u/\MG X.env s.heap m x u
 cell:∀ x c,X.env.cells.lookup x=f' c->∃ v,s.heap.IsCell c v
 free:H X.env.locals=Nf
 freeC:∀ x c,X.env.cells.lookup x=f' c->H c=Nf
 pin:∀ p∈X.pn++P2,s.heap.get? p.1=f' p.2/\H p.1=Nf/\p.1≠X.env.locals/\p.1 ∉ X.fs/\∀ v,p.2.data≠.cell v
 hok:HOk X.prog X.w H s.heap
 len:σ.length=X.N.length
section
variable {X:Cx}{P2:List (K' × Ow)}{σ:List (Option V)}{H H':Hp}{s:Ng}{h':NI}
def Cx.Ok.nofr (ok:X.Ok) {b:K'}{o:Ow}(e:X.base.get? b=f' o):b ∉ X.fs:=λhb=>by
 have:=(ok.funs.mem hb).1;rw[e]at this;cases this
theorem Inv.bs (I:Inv X P2 σ H s):∀ b o,X.base.get? b=f' o->s.heap.get? b=f' o/\H b=Nf:=λb o e =>
 ⟨I.base.keep b o (I.ok.bs b o e).1 (I.ok.bs b o e).2 (I.ok.nofr e) (I.ok.noex b o e),I.base.free b o (I.ok.bs b o e).1 (I.ok.bs b o e).2 (I.ok.noex b o e)⟩
def Inv.bk (I:Inv X P2 σ H s):∀ b o,X.base.get? b=f' o->s.heap.get? b=f' o:=λb o e=>(I.bs b o e).1
theorem Inv.mod (I:Inv X P2 σ H s):Mod X.K X.mg X.base:=I.ok.mod
def Inv.kIn (I:Inv X P2 σ H s):X.K.In s.heap:=I.ok.mod.kin.keeps I.bk
theorem Inv.lt (I:Inv X P2 σ H s):X.env.locals < s.heap.objs.size:=let ⟨_,hn,_⟩:=I.loc;hn.lt
def Inv.sz (I:Inv X P2 σ H s):X.s₀.heap.objs.size <= s.heap.objs.size:=NS I.ok.above (Nat.le_of_lt I.lt)
def Inv.nofs (I:Inv X P2 σ H s) {a:K'}(h:s.heap.objs.size <= a):a ∉ X.fs:=λhb=>by
 obtain⟨_,o,ho,_⟩:=I.ok.funs.mem hb;exact absurd (Nn (Nx ho) (NS I.sz h)) (O2 _)
def Inv.cne (I:Inv X P2 σ H s):∀ x c,X.env.cells.lookup x=f' c->c≠X.env.locals:=λx c e z=>by
 obtain⟨v,o,ho,hd⟩:=I.cell x c e;obtain⟨m,⟨o',es,ep,ho',hd',_⟩,_⟩:=I.loc;rw[z,ho']at ho;cases ho;rw[hd']at hd;cases hd
theorem Inv.funs (I:Inv X P2 σ H s):s.heap.FunFrames X.base X.outer:=by
 have all:∀ (l:List Env),(∀ b∈frs l,b∈X.fs)->X.s₀.heap.FunFrames X.base l->s.heap.FunFrames X.base l:=by
  intro l
  induction l with
 |nil=>intro _ _;trivial
 |cons env r ih =>
   intro hs hl;obtain⟨hk,⟨L,o,hf,hn,ho,hd⟩,hr⟩:=hl;have hL:L∈X.fs:=hs L (by unfold frs;rw[filterMap_cons,hf];exact Nv);obtain⟨sl,e⟩:=I.base.slot L o ho (I.ok.frf L hL) hL λz=>I.ok.exfs L z hL
   exact⟨hk,⟨L,_,hf,hn,e,hd⟩,ih (λb hb=>hs b (by unfold frs;rw[filterMap_cons,hf];exact Nw _ hb)) hr⟩
 exact all X.outer (λ_ hb=>hb) I.ok.funs
theorem Inv.stack (I:Inv X P2 σ H s):s.heap.FunFrames X.base X.stack:=by
 rcases I.ok.stk with e|⟨e,hf⟩
 . rw[e];exact I.funs
 . rw[e];obtain⟨m,hn,_⟩:=I.loc;refine .cons (by rw[I.ok.kind];decide) hf hn ?_ I.funs;exact NI.get?_none_of_le (NS I.ok.bsz I.ok.above)
def Inv.stkSub (I:Inv X P2 σ H s):∀ b∈frs X.stack,b∈X.env.locals :: X.fs:=λb hb=>by
 rcases I.ok.stk with e|⟨e,hf⟩
 . rw[e]at hb;exact Nw _ hb
 . rw[e]at hb;unfold frs at hb;rw[filterMap_cons,hf]at hb;exact hb
def Inv.stkFree (I:Inv X P2 σ H s):∀ b∈frs X.stack,H b=Nf:=λb hb=>by
 rcases NA.mp (I.stkSub b hb) with e|hb
 . rw[e];exact I.free
 . obtain⟨_,o,ho,_⟩:=I.ok.funs.mem hb;exact I.base.free b o ho (I.ok.frf b hb) λz=>I.ok.exfs b z hb
def Inv.step {g':Array GenState}{t':Nat}{d':Drawn}{ch:List K'}(I:Inv X P2 σ H s)
 (hch:∀ b∈ch,(b∈X.ex\/X.s₀.heap.objs.size <= b)/\b≠X.env.locals/\(∀ x c,X.env.cells.lookup x=f' c->c≠b)/\∀ p∈X.pn++P2,p.1≠b)
 (keep:∀ b o,b≠X.env.locals->b ∉ X.fs->b ∉ ch->s.heap.get? b=f' o->H b=Nf->h'.get? b=f' o)
 (slot:∀ b o,b≠X.env.locals->b∈X.fs->b ∉ ch->s.heap.get? b=f' o->H b=Nf->∃ sl,h'.get? b=f' { o with slots:=sl }) (free:∀ b o,b ∉ ch->s.heap.get? b=f' o->H b=Nf->H' b=Nf)
 (there:∀ b o,b ∉ ch->s.heap.get? b=f' o->∃ o',h'.get? b=f' o')
 (tups:∀ b xs,H b=f' (.tup xs)->H' b=f' (.tup xs)) (frzs:∀ b o u,H b=f' (.frz o u)->H' b=f' (.frz o u)) (tbls:∀ b ps,H b=f' (.tbl ps)->∃ more,H' b=f' (.tbl (ps++more)))
 (ns:∀ m,s.heap.Ns X.env.locals m->h'.Ns X.env.locals m) (hok:HOk X.prog X.w H' h') (hg:AllBare g') :
 Inv X P2 σ H' { s with heap:=h',gens:=g',drawn:=d',toks:=t' }:=by
 have neL:∀ b o,X.s₀.heap.get? b=f' o->b≠X.env.locals:=λb o e=>NZ (Nn (Nx e) I.ok.above)
 have neC:∀ b o,X.s₀.heap.get? b=f' o->b ∉ X.ex->b ∉ ch:=λb o e hx hb=>by
  rcases(hch b hb).1 with z|z
  . exact hx z
  . exact absurd (Nn (Nx e) z) (O2 _)
 have cellK:∀ x c,X.env.cells.lookup x=f' c->∀ v,s.heap.IsCell c v->h'.IsCell c v:=λx c e v ⟨o,ho,hd⟩=>by
  have nch:c ∉ ch:=λz=>(hch c z).2.2.1 x c e rfl
  by_cases hc:c∈X.fs
  . obtain⟨sl,q⟩:=slot c o (I.cne x c e) hc nch ho (I.freeC x c e);exact⟨_,q,hd⟩
  . exact⟨o,keep c o (I.cne x c e) hc nch ho (I.freeC x c e),hd⟩
 refine⟨I.ok,I.os,hg,⟨λb o e n hb hx=>?_,λb o e n hb hx=>?_,λb o e n hx=>?_,λb o e hx=>?_,λb xs e=>tups b xs (I.base.tups b xs e),λb o xs e=>frzs b o xs (I.base.frzs b o xs e),λb ps e=>?_⟩,?_,λx c e=>?_,?_,λx c e=>?_,λp hp=>?_,hok,I.len⟩
 . exact keep b o (neL b o e) hb (neC b o e hx) (I.base.keep b o e n hb hx) (I.base.free b o e n hx)
 . obtain⟨sl,e1⟩:=I.base.slot b o e n hb hx;obtain⟨sl',e2⟩:=slot b _ (neL b o e) hb (neC b o e hx) e1 (I.base.free b o e n hx);exact⟨sl',e2⟩
 . obtain⟨o',e1⟩:=I.base.there b o e hx;exact free b o' (neC b o e hx) e1 (I.base.free b o e n hx)
 . obtain⟨o',e1⟩:=I.base.there b o e hx;exact there b o' (neC b o e hx) e1
 . obtain⟨m1,e1⟩:=I.base.tbls b ps e;obtain⟨m2,e2⟩:=tbls b _ e1;exact⟨m1++m2,by rw[e2,Array.append_assoc]⟩
 . obtain⟨m,hn,hl⟩:=I.loc;refine⟨m,ns m hn,λi x v e1 e2 e3=>?_⟩;obtain⟨u,r,l⟩:=hl i x v e1 e2 e3;refine⟨u,r,?_⟩;rcases l with l|⟨k,c,e,z⟩
   . exact .inl l
   . exact .inr ⟨k,c,e,cellK x c e _ z⟩
 . obtain⟨v,z⟩:=I.cell x c e;exact⟨v,cellK x c e v z⟩
 . obtain⟨m,⟨o,_,_,ho,_⟩,_⟩:=I.loc;exact free _ o (λz=>(hch _ z).2.1 rfl) ho I.free
 . obtain⟨v,o,ho,hd⟩:=I.cell x c e;exact free c o (λz=>(hch c z).2.2.1 x c e rfl) ho (I.freeC x c e)
 . obtain⟨e,n,ne,nf,d⟩:=I.pin p hp;have nch:p.1 ∉ ch:=λz=>(hch p.1 z).2.2.2 p hp rfl
   exact⟨keep p.1 p.2 ne nf nch e n,free p.1 p.2 nch e n,ne,nf,d⟩
def Inv.un {t':Nat}(I:Inv X P2 σ H s) (u:Un X.fs [] H H' s.heap h') (hok:HOk X.prog X.w H' h'):Inv X P2 σ H' { s with heap:=h',toks:=t' }:=by
 obtain⟨m,⟨o,es,ep,ho,r⟩,_⟩:=id I.loc;obtain⟨sl,hL⟩:=u.any ho I.free (by simp);exact I.step (g':=s.gens) (d':=s.drawn) (ch:=[]) (λ_ z=>nomatch z) (λb o _ hb _ e n=>u.keep b o e n hb (by simp)) (λb o _ hb _ e n=>u.slot b o e n hb (by simp)) (λb o _ e n=>u.free b o e n (by simp)) (λb o _ e=>u.there b o e (by simp)) u.tups u.frzs u.tbls (λm' hm=>by
  obtain⟨o',es',ep',ho',r'⟩:=hm;rw[ho]at ho';cases ho';exact⟨_,es',ep',hL,r'⟩) hok I.bare
def Inv.call {g':Array GenState}{t':Nat}{d':Drawn}{ch:List K'}(I:Inv X P2 σ H s) (u:Un (frs X.stack) ch H H' s.heap h') (hok:HOk X.prog X.w H' h') (hg:AllBare g')
 (hch:∀ b∈ch,(b∈X.ex\/X.s₀.heap.objs.size <= b)/\b≠X.env.locals/\(∀ x c,X.env.cells.lookup x=f' c->c≠b)/\∀ p∈X.pn++P2,p.1≠b) :
 Inv X P2 σ H' { s with heap:=h',gens:=g',drawn:=d',toks:=t' }:=by
 obtain⟨m,⟨o,es,ep,ho,r⟩,_⟩:=id I.loc;obtain⟨sl,hL⟩:=u.any ho I.free λz=>(hch _ z).2.1 rfl
 exact I.step (ch:=ch) hch (λb o hL hb hc e n=>u.keep b o e n (λz=>(NA.mp (I.stkSub b z)).elim hL hb) hc) (λb o _ _ hc e n=>u.any e n hc) (λb o hc e n=>u.free b o e n hc) (λb o hc e=>u.there b o e hc) u.tups u.frzs u.tbls (λm' hm=>by
  obtain⟨o',es',ep',ho',r'⟩:=hm;rw[ho]at ho';cases ho';exact⟨_,es',ep',hL,r'⟩) hok hg
def Inv.turned {t':Nat}{it:K'}(I:Inv X P2 σ H s) (k:∀ b o,b≠it->s.heap.get? b=f' o->h'.get? b=f' o) (hn:H it=Nf) (hL:it≠X.env.locals)
 (h1:it∈X.ex\/X.s₀.heap.objs.size <= it) (h2:∀ x c,X.env.cells.lookup x=f' c->c≠it) (h3:∀ p∈X.pn++P2,p.1≠it):Inv X P2 σ H { s with heap:=h',toks:=t' }:=by
 have nit:∀ b u,H b=f' u->b≠it:=λb u e z=>by rw[z,hn]at e;cases e
 refine I.step (g':=s.gens) (d':=s.drawn) (ch:=[it]) (λb hb=>?_) (λb o _ _ hc e _=>k b o (λz=>hc (by simp[z])) e) (λb o _ _ hc e _=>⟨o.slots,k b o (λz=>hc (by simp[z])) e⟩) (λ_ _ _ _ n=>n)
  (λb o hc e=>⟨o,k b o (λz=>hc (by simp[z])) e⟩) (λ_ _ e=>e) (λ_ _ _ e=>e) (λb ps e=>⟨#[],by rw[e];simp⟩) (λm hm=>?_) (λb u e=>?_) I.bare
 . have e:b=it:=by simpa using hb
   subst e;exact⟨h1,hL,h2,h3⟩
 . obtain⟨o,es,ep,ho,r⟩:=hm;exact⟨o,es,ep,k _ o (Pg hL) ho,r⟩
 . refine(I.hok b u e).stay (λc v hc q=>k c v ?_ q) (λ_ q=>q) λ_ _ q=>q
   rcases hc with z|z
   . rw[z];exact nit b u e
   . exact nit c _ z
def Inv.tok (I:Inv X P2 σ H s) (t:Nat):Inv X P2 σ H { s with toks:=t }:=I.un (h':=s.heap) (t':=t) Un.refl I.hok
theorem Inv.kept {t':Nat}(I:Inv X P2 σ H s) (k:∀ b u,s.heap.get? b=f' u->h'.get? b=f' u):Inv X P2 σ H { s with heap:=h',toks:=t' }:=I.un (Un.kept k) (I.hok.kept k)
theorem Inv.laid {a:K'}{o:HO}{t':Nat}(I:Inv X P2 σ H s) (k:∀ b u,s.heap.get? b=f' u->h'.get? b=f' u) (hp:s.heap.objs.size <= a) (new:dB X.prog X.w (upd H a o) h' a o) :
 Inv X P2 σ (upd H a o) { s with heap:=h',toks:=t' }:=I.un (Un.laid k hp (I.hok.fresh hp)) (I.hok.laid k hp new)
theorem Inv.write {x e:K'}{o:HO}{t':Nat}(I:Inv X P2 σ H s) (mu:Mut (H x)) (he:e=x\/H e=f' (.own x)) (k:∀ b u,b≠e->s.heap.get? b=f' u->h'.get? b=f' u) (heo:∃ u,h'.get? e=f' u)
 (new:dB X.prog X.w (upd H x o) h' x o):Inv X P2 σ (upd H x o) { s with heap:=h',toks:=t' }:=I.un (Un.write mu he k heo) (I.hok.write mu he k heo new)
def Inv.pins_of {pins':List (K' × Ow)}(I:Inv X P2 σ H s) (h:∀ p∈pins',s.heap.get? p.1=f' p.2/\H p.1=Nf/\p.1≠X.env.locals/\p.1 ∉ X.fs/\∀ v,p.2.data≠.cell v):Inv X pins' σ H s :=
 ⟨I.ok,I.os,I.bare,I.base,I.loc,I.cell,I.free,I.freeC,λp hp=>(Oc.mp hp).elim (λz=>I.pin p (List.mem_append_left _ z)) (h p),I.hok,I.len⟩
def ye {N:List Str}(hN:N.Nodup) {i j:Nat}{x:Str}(a:N[i]?=f' x) (b:N[j]?=f' x):i=j:=by
 obtain⟨h1,e1⟩:=NG.mp a;obtain⟨h2,e2⟩:=NG.mp b;exact(List.getElem_inj hN).mp (e1.trans e2.symm)
def wf {M:Model}{A:NN}{E:Na->Ng->Prop}{i:Nat}{x:Str}{v:V}{u:Na}{Q:Unit->Ng->Prop}(I:Inv X P2 σ H s) (hN:X.N.Nodup) (hi:X.N[i]?=f' x) (hx:Loc X.env.scope x) (r:cw v u)
 (h:∀ s',Inv X P2 (σ.set i (f' v)) H s'->(∃ a,Ox a s.heap s'.heap/\(a=X.env.locals\/X.env.cells.lookup x=f' a))->Q () s') (hf:X.fn x=G'\/X.env.scope.names.lookup x=f' .local:=by first|exact .inl rfl|exact .inr rfl|assumption):Nq M A (storeName X.env x u) Q E s:=by
 obtain⟨m,hn,hl⟩:=id I.loc;have hcls:(X.env.scope.kind == .class || (X.env.scope.kind == .module && X.env.locals != X.env.globals))=D':=by rw[I.ok.kind];rfl
 have hiσ:i < σ.length:=by rw[I.len];exact(NG.mp hi).1
 have cne:=I.cne;have tracked:∀ {a:K'} {h':NI},(∃ o,s.heap.get? a=f' o/\H a=Nf)->Ox a s.heap h'->HOk X.prog X.w H h':=λ{a h'} ha hs b ob e=>by
  obtain⟨_,_,hfree⟩:=ha;refine(I.hok b ob e).stay (λc w' hc q=>(hs.2 c ?_).trans q) (λ_ q=>q) λ_ _ q=>q
  rintro rfl;rcases hc with rfl|hc
  . rw[hfree]at e;cases e
  . rw[hfree]at hc;cases hc
 rcases hx with hk|hk
 . refine wpAny_storeName_local hk hn (λh' hn' hs=>?_) hcls;obtain⟨oL,_,_,hoL,_⟩:=id hn;refine h _ ⟨I.ok,I.os,I.bare,⟨λb o e n hb hx=>?_,λb o e n hb hx=>?_,I.base.free,λb o e hx=>?_,I.base.tups,I.base.frzs,I.base.tbls⟩,⟨_,hn',λj y v' e1 e2 e3=>?_⟩,λy c e=>?_,I.free,I.freeC,λp hp=>?_,tracked ⟨oL,hoL,I.free⟩ hs,by simpa using I.len⟩ ⟨_,hs,.inl rfl⟩
   . exact(hs.2 b (NZ (Nn (Nx e) I.ok.above))).trans (I.base.keep b o e n hb hx)
   . obtain⟨sl,e1⟩:=I.base.slot b o e n hb hx;exact⟨sl,(hs.2 b (NZ (Nn (Nx e) I.ok.above))).trans e1⟩
   . obtain⟨o',e1⟩:=I.base.there b o e hx;exact⟨o',(hs.2 b (NZ (Nn (Nx e) I.ok.above))).trans e1⟩
   . by_cases hj:j=i
     . subst hj;rw[hi]at e1;cases e1;rw[List.getElem?_set_self hiσ]at e2;cases e2;exact⟨u,r,.inl ⟨hk,by simp⟩⟩
     . rw[List.getElem?_set_ne (Pg hj)]at e2;obtain⟨u',r',q⟩:=hl j y v' e1 e2 e3;refine⟨u',r',?_⟩;rcases q with⟨k,e⟩|⟨k,c,e,z⟩
       . refine .inl ⟨k,?_⟩;have:y≠x:=λe=>hj (ye hN e1 (e ▸ hi))
         simp[this,e]
       . exact .inr ⟨k,c,e,z.sameBut hs (cne y c e)⟩
   . obtain⟨w',z⟩:=I.cell y c e;exact⟨w',z.sameBut hs (cne y c e)⟩
   . obtain⟨e,n,ne,nf,d⟩:=I.pin p hp;exact⟨(hs.2 p.1 ne).trans e,n,ne,nf,d⟩
 . have hfn:X.fn x=G':=by
    rcases hf with z|z
    . exact z
    . rw[z]at hk;cases hk
   obtain⟨c,hc⟩:=I.ok.has x (.inl hk);obtain⟨w',z⟩:=I.cell x c hc;refine wpAny_storeName_cell I.ok.kind hk hc z (λh' hc' hs=>?_);obtain⟨oc,hoc,hocd⟩:=id z;refine h { s with heap:=h' } ⟨I.ok,I.os,I.bare,⟨λb o e n hb hx=>?_,λb o e n hb hx=>?_,I.base.free,λb o e hx=>?_,I.base.tups,I.base.frzs,I.base.tbls⟩,⟨m,hn.sameBut hs (Pg (cne x c hc)),λj y v' e1 e2 e3=>?_⟩,λy c' e=>?_,I.free,I.freeC,λp hp=>?_,tracked ⟨oc,hoc,I.freeC x c hc⟩ hs,by simpa using I.len⟩ ⟨c,hs,.inr hc⟩
   . exact(hs.2 b (NZ (Nn (Nx e) (I.ok.cab x c hfn hc)))).trans (I.base.keep b o e n hb hx)
   . obtain⟨sl,e1⟩:=I.base.slot b o e n hb hx;exact⟨sl,(hs.2 b (NZ (Nn (Nx e) (I.ok.cab x c hfn hc)))).trans e1⟩
   . obtain⟨o',e1⟩:=I.base.there b o e hx;exact⟨o',(hs.2 b (NZ (Nn (Nx e) (I.ok.cab x c hfn hc)))).trans e1⟩
   . by_cases hj:j=i
     . subst hj;rw[hi]at e1;cases e1;rw[List.getElem?_set_self hiσ]at e2;cases e2;exact⟨u,r,.inr ⟨.inl hk,c,hc,hc'⟩⟩
     . rw[List.getElem?_set_ne (Pg hj)]at e2;obtain⟨u',r',q⟩:=hl j y v' e1 e2 e3;refine⟨u',r',?_⟩;rcases q with q|⟨k,c',e,z'⟩
       . exact .inl q
       . refine .inr ⟨k,c',e,z'.sameBut hs ?_⟩;rintro rfl;exact hj (ye hN e1 (I.ok.inj _ _ _ e hc ▸ hi))
   . by_cases hcc:c'=c
     . subst hcc;exact⟨_,hc'⟩
     . obtain⟨w2,z2⟩:=I.cell y c' e;exact⟨w2,z2.sameBut hs hcc⟩
   . obtain⟨e,n,ne,nf,d⟩:=I.pin p hp;refine⟨(hs.2 p.1 ?_).trans e,n,ne,nf,d⟩;intro q;rw[q,hoc]at e;have q':oc=p.2:=NH e;exact d w' (by rw[<-q'];exact hocd)
def yp {M:Model}{A:NN}{E:Na->Ng->Prop}{i:Nat}{x:Str}{v:V}{u:Na}{Q:Unit->Ng->Prop}(I:Inv X P2 σ H s) (hN:X.N.Nodup) (hi:X.N[i]?=f' x) (hx:Loc X.env.scope x) (r:cw v u)
 (h:∀ s',Inv X P2 (σ.set i (f' v)) H s'->Q () s') (hf:X.fn x=G'\/X.env.scope.names.lookup x=f' .local:=by first|exact .inl rfl|exact .inr rfl|assumption):Nq M A (storeName X.env x u) Q E s :=
 wf I hN hi hx r (λs' I' _=>h s' I') hf
def Inv.call' {s':Ng}{ch:List K'}(I:Inv X P2 σ H s) (ho:s'.os=s.os) (u:Un (frs X.stack) ch H H' s.heap s'.heap) (hok:HOk X.prog X.w H' s'.heap) (hg:AllBare s'.gens)
 (hch:∀ b∈ch,(b∈X.ex\/X.s₀.heap.objs.size <= b)/\b≠X.env.locals/\(∀ x c,X.env.cells.lookup x=f' c->c≠b)/\∀ p∈X.pn++P2,p.1≠b):Inv X P2 σ H' s':=by
 obtain⟨h',g',d',t',o'⟩:=s';have e:o'=s.os:=ho;subst e;exact I.call (g':=g') (t':=t') (d':=d') u hok hg hch
end
abbrev XK:=Na->Option K'->Hp->Prop
abbrev St:=List (Option V)
abbrev VK:=V->Hp->Prop
abbrev TE:=St->Hp->VK->Prop
abbrev TT:=St->Hp->(Bool->Hp->Prop)->Prop
abbrev TA:=St->Hp->(List V->Hp->Prop)->Prop
structure Ends where
 nx:St->Hp->Prop
 rt:VK
 bk:St->Hp->Prop:=λ_ _=>False
 ct:St->Hp->Prop:=λ_ _=>False
abbrev TS:=Ends->St->Hp->Prop
def EP (X:Cx) (P2:List (K' × Ow)) (σ:St) (Q:VK) (u:Na) (s':Ng):Prop:=∃ v H',Inv X P2 σ H' s'/\cw v u/\Q v H'
def TP (X:Cx) (P2:List (K' × Ow)) (σ:St) (Q:Bool->Hp->Prop) (b:Bool) (s':Ng):Prop:=∃ H',Inv X P2 σ H' s'/\Q b H'
def AP (X:Cx) (P2:List (K' × Ow)) (σ:St) (Q:List V->Hp->Prop) (us:List Na) (s':Ng):Prop:=∃ vs H',Inv X P2 σ H' s'/\bQ vs us/\Q vs H'
def SP (X:Cx) (P2:List (K' × Ow)) (D:Ends) (f:Flow) (s':Ng):Prop :=
 match f with
|.next=>∃ σ' H',Inv X P2 σ' H' s'/\D.nx σ' H'
|.brk=>∃ σ' H',Inv X P2 σ' H' s'/\D.bk σ' H'
|.cont=>∃ σ' H',Inv X P2 σ' H' s'/\D.ct σ' H'
|.ret u=>∃ v σ' H',Inv X P2 σ' H' s'/\cw v u/\D.rt v H'
def PE (X:Cx) (e:Expr) (t:TE):Prop :=
 ∀ (P2:List (K' × Ow)) (s:Ng) (σ:St) (H:Hp) (Q:VK),Inv X P2 σ H s->t σ H Q->Nq (model X.prog X.w) X.A (eval e X.env) (EP X P2 σ Q) X.xe s
def PT (X:Cx) (e:Expr) (t:TT):Prop :=
 ∀ (P2:List (K' × Ow)) (s:Ng) (σ:St) (H:Hp) (Q:Bool->Hp->Prop),Inv X P2 σ H s->t σ H Q->Nq (model X.prog X.w) X.A (isTrue e X.env (eval e X.env)) (TP X P2 σ Q) X.xe s
def PW (X:Cx) (e:Expr) (t:TT):Prop :=
 ∀ (whole:Sem Na) (P2:List (K' × Ow)) (s:Ng) (σ:St) (H:Hp) (Q:Bool->Hp->Prop),Inv X P2 σ H s->t σ H Q->Nq (model X.prog X.w) X.A (isTrue e X.env whole) (TP X P2 σ Q) X.xe s
def PW.pt {X:Cx}{e:Expr}{t:TT}(h:PW X e t):PT X e t:=h _
def PA (X:Cx) (es:List Expr) (t:TA):Prop :=
 ∀ (pos:Pos) (P2:List (K' × Ow)) (s:Ng) (σ:St) (H:Hp) (Q:List V->Hp->Prop),Inv X P2 σ H s->t σ H Q->Nq (model X.prog X.w) X.A (spliced (PF pos (NR es X.env))) (AP X P2 σ Q) X.xe s
def PS (X:Cx) (st:NX) (t:TS):Prop :=
 ∀ (P2:List (K' × Ow)) (s:Ng) (σ:St) (H:Hp) (D:Ends),Inv X P2 σ H s->t D σ H->Nq (model X.prog X.w) X.A (exec st X.env) (SP X P2 D) X.xe s
def PSs (X:Cx) (st:List NX) (t:TS):Prop :=
 ∀ (P2:List (K' × Ow)) (s:Ng) (σ:St) (H:Hp) (D:Ends),Inv X P2 σ H s->t D σ H->Nq (model X.prog X.w) X.A (execs st X.env) (SP X P2 D) X.xe s
def thn {α:Type}{t:Sem α}{Q Q':α->Ng->Prop}{M:Model}{A:NN}{E:Na->Ng->Prop}{s:Ng}(h:Nq M A t Q E s) (hQ:∀ a s,Q a s->Q' a s):Nq M A t Q' E s:=PL h hQ λ_ _ x=>x
section
variable {X:Cx}
def qP (i:Nat):TE:=λσ H Q=>∃ v,σ[i]?=f' (f' v)/\Q v H
def tC (v:V):TE:=λ_ H Q=>Q v H
def K7 {i:Nat}{x:Str}{pos:Pos}(hN:X.N[i]?=f' x) (hv:Vis X.env.scope x) (hd:(x == ("__debug__":Str))=D':=by decide) (hcd:(x == ("__classdict__":Str))=D':=by decide):PE X (.Name x pos) (qP i):=by
 intro P2 s σ H Q I h;obtain⟨v,e,h⟩:=h;obtain⟨m,hn,hl⟩:=I.loc;obtain⟨u,r,l⟩:=hl i x v hN e hv;have fin:EP X P2 σ Q u s:=⟨v,H,I,r,h⟩
 rcases l with⟨hk,hm⟩|⟨hk,c,hc,hcell⟩
 . exact wpAny_Name (wpAny_loadName_local I.ok.kind hk hn hm fin) hd
 . rcases hk with hk|hk
   . exact wpAny_Name (wpAny_loadName_cell I.ok.kind hk hc hcell fin) hd
   . exact wpAny_Name (wpAny_loadName_free I.ok.kind hk hc hcell fin hcd) hd
def ag {i j pos}:PE X (.Constant (.int i) j pos) (tC (.int i)):=λ_ _ _ H _ I h=>wpAny_Constant_int ⟨.int i,H,I.tok _,⟨_,rfl⟩,h⟩
def eG {b j pos}:PE X (.Constant (.bool b) j pos) (tC (.bl b)):=λ_ _ _ H _ I h=>Constant_bool ⟨.bl b,H,I,rfl,h⟩
def dY {j pos}:PE X (.Constant .none j pos) (tC .non):=λ_ _ _ H _ I h=>Constant_none ⟨.non,H,I,rfl,h⟩
def aj {x j pos}:PE X (.Constant (.str x) j pos) (tC (.str x)):=λ_ _ _ H _ I h=>Calls.Constant_str ⟨.str x,H,I.tok _,⟨_,rfl⟩,h⟩
def Gl (X:Cx) (x:Str):Prop:=X.env.kindOf x=f' .globalImplicit
def fJ {E:Na->Ng->Prop}{P2:List (K' × Ow)}{s:Ng}{σ:St}{H:Hp}{x:Str}{u:Na}{pos:Pos}{Q:Na->Ng->Prop}(I:Inv X P2 σ H s) (hg:Gl X x) (hm:X.mg x=f' u) (h:Q u s)
 (hd:(x == ("__debug__":Str))=D':=by decide):Nq (model X.prog X.w) X.A (eval (.Name x pos) X.env) Q E s :=
 Calls.Name_function_global I.ok.kind hg (Calls.loadGlobal_global (by rw[I.ok.glob];exact I.mod.glob.keeps I.bk) hm h) hd
def om {E:Na->Ng->Prop}{P2:List (K' × Ow)}{s:Ng}{σ:St}{H:Hp}{x:Str}{u:Na}{pos:Pos}{Q:Na->Ng->Prop}(I:Inv X P2 σ H s) (hg:Gl X x) (hm:X.mg x=Nf) (hv:Oa x=f' u) (h:Q u s)
 (hn:x≠"__name__":=by decide) (hd:(x == ("__debug__":Str))=D':=by decide):Nq (model X.prog X.w) X.A (eval (.Name x pos) X.env) Q E s:=by
 obtain⟨mb,h1,h2⟩:=I.mod.blt;exact Calls.Name_function_global I.ok.kind hg (Calls.loadGlobal_builtin (by rw[I.ok.glob];exact I.mod.glob.keeps I.bk) hm (by rw[I.ok.blt];exact h1.keeps I.bk) ((h2 x hn).trans hv) h) hd
def f6 {x:Str}{v:V}{u:Na}{pos:Pos}(hg:Gl X x) (hm:X.mg x=f' u) (r:cw v u) (hd:(x == ("__debug__":Str))=D':=by decide):PE X (.Name x pos) (tC v) :=
 λ_ _ _ H _ I h=>fJ I hg hm ⟨v,H,I,r,h⟩ hd
def jd {x:Str}{v:V}{u:Na}{pos:Pos}(hg:Gl X x) (hm:X.mg x=Nf) (hv:Oa x=f' u) (r:cw v u) (hn:x≠"__name__":=by decide) (hd:(x == ("__debug__":Str))=D':=by decide):PE X (.Name x pos) (tC v) :=
 λ_ _ _ H _ I h=>om I hg hm hv ⟨v,H,I,r,h⟩ hn hd
variable {a b:Expr}{ta tb:TE}{pos:Pos}
def PC (X:Cx) (op:CmpOp) (a b:Expr) (t:TE):Prop :=
 ∀ (P2:List (K' × Ow)) (s:Ng) (σ:St) (H:Hp) (Q:VK),Inv X P2 σ H s->t σ H Q ->
  Nq (model X.prog X.w) X.A (eval a X.env) (λv s₁=>Nq (model X.prog X.w) X.A (eval b X.env) (λu s₂=>Nq (model X.prog X.w) X.A (Oi op v u) (EP X P2 σ Q) X.xe s₂) X.xe s₁) X.xe s
def zg (b:Expr) {op:CmpOp}(h:op≠.In) (h2:op≠.NotIn):PB op b=D':=by
 have e1:(op == CmpOp.In)=D':=by cases op<;>first|rfl|exact absurd rfl h
 have e2:(op == CmpOp.NotIn)=D':=by cases op<;>first|rfl|exact absurd rfl h2
 cases b<;>simp[PB,e1,e2]
def tB (t:TE):TT:=λσ H Q=>t σ H λx H1=>∃ c,x=.bl c/\Q c H1
def ym {op:CmpOp}{t:TE}(h:PC X op a b t) (h1:PB op b=D':=by first|exact zg _ (by decide) (by decide)|rfl):PE X (.Compare a [op] [b] pos) t:=λP2 s σ H Q I hw=>wpAny_Compare1 (h P2 s σ H Q I hw) h1
def BT {op:CmpOp}{t:TE}(h:PC X op a b t) (h1:PB op b=D':=by first|exact zg _ (by decide) (by decide)|rfl):PT X (.Compare a [op] [b] pos) (tB t):=by
 intro P2 s σ H Q I hw;refine wpAny_isTrue_Compare1 (thn (h P2 s σ H _ I hw) λv s1 h1=>thn h1 λu s2 h2=>thn h2 λc s3 ur1=>?_) h1;obtain⟨x,H1,I1,r1,q1⟩:=ur1;obtain⟨d,rfl,q⟩:=q1;cases r1;exact N5 ⟨H1,I1,q⟩
def bP {e:Expr}{t:TE}(h:PE X e t) (he:∀ whole,isTrue e X.env whole=(do let v <-whole;standAt e.pos;holding [v] (truthy v)):=by intro _;rfl):PT X e (tB t):=by
 intro P2 s σ H Q I hw;refine isTrue_plain (thn (h P2 s σ H _ I hw) λv s1 ur2=>?_) (he _);obtain⟨x,H1,I1,r1,q1⟩:=ur2;obtain⟨d,rfl,q⟩:=q1;cases r1;exact N5 ⟨H1,I1,q⟩
variable {tA tB':TT}{ck:List Expr}
def Mt (t u:TT):TT:=λσ H Q=>t σ H λc H1=>if c=G' then u σ H1 Q else Q D' H1
def tOr (t u:TT):TT:=λσ H Q=>t σ H λc H1=>if c=G' then Q G' H1 else u σ H1 Q
def MA (t:TT):TT:=λσ H Q=>t σ H λc H1=>Q (!c) H1
def Ch (ha:PT X a tA):PW X (.BoolOp .And [a] pos) tA:=by
 intro wh P2 s σ H Q I h;refine isTrue_and (thn (ha P2 s σ H Q I h) λc s1 e=>?_);cases c with
|true=>exact isTrue_and_nil e
|false=>exact e
def oo (ha:PT X a tA):PW X (.BoolOp .Or [a] pos) tA:=by
 intro wh P2 s σ H Q I h;refine isTrue_or (thn (ha P2 s σ H Q I h) λc s1 e=>?_);cases c with
|false=>exact isTrue_or_nil e
|true=>exact e
def Gu (ha:PT X a tA) (hb:PW X (.BoolOp .And (b :: ck) pos) tB'):PW X (.BoolOp .And (a :: b :: ck) pos) (Mt tA tB'):=by
 intro wh P2 s σ H Q I h;refine isTrue_and (thn (ha P2 s σ H _ I h) λc s1 ur3=>?_);obtain⟨H1,I1,q1⟩:=ur3;cases c with
|true=>exact hb wh P2 s1 σ H1 Q I1 q1
|false=>exact⟨H1,I1,q1⟩
def uk (ha:PT X a tA) (hb:PW X (.BoolOp .Or (b :: ck) pos) tB'):PW X (.BoolOp .Or (a :: b :: ck) pos) (tOr tA tB'):=by
 intro wh P2 s σ H Q I h;refine isTrue_or (thn (ha P2 s σ H _ I h) λc s1 ur4=>?_);obtain⟨H1,I1,q1⟩:=ur4;cases c with
|true=>exact⟨H1,I1,q1⟩
|false=>exact hb wh P2 s1 σ H1 Q I1 q1
def eI (ha:PT X a tA):PT X (.UnaryOp .Not a pos) (MA tA):=by
 intro P2 s σ H Q I h;exact isTrue_not (ha P2 s σ H (λc H1=>Q (!c) H1) I h)
def Lp (ta tb:TE):TE:=λσ H Q=>ta σ H λx H1=>∃ c,x=.bl c/\if c=G' then tb σ H1 Q else Q (.bl D') H1
def MY (ta tb:TE):TE:=λσ H Q=>ta σ H λx H1=>∃ c,x=.bl c/\if c=G' then Q (.bl G') H1 else tb σ H1 Q
def KW (ta:TE):TE:=λσ H Q=>ta σ H λx H1=>∃ c,x=.bl c/\Q (.bl (!c)) H1
def Bq {op}{t:TE}(h:PE X a t):PE X (.BoolOp op [a] pos) t:=λP2 s σ H Q I hw=>BoolOp_one (h P2 s σ H Q I hw)
def Gx (ha:PE X a ta) (hb:PE X (.BoolOp .And (b :: ck) pos) tb):PE X (.BoolOp .And (a :: b :: ck) pos) (Lp ta tb):=by
 intro P2 s σ H Q I h;refine BoolOp_and (thn (ha P2 s σ H _ I h) λv s1 ur5=>?_);obtain⟨x,H1,I1,r1,q1⟩:=ur5;obtain⟨c,rfl,q1⟩:=q1;cases r1;refine N5 ?_;cases c with
|true=>exact hb P2 s1 σ H1 Q I1 q1
|false=>exact⟨.bl D',H1,I1,rfl,q1⟩
def Ls (ha:PE X a ta) (hb:PE X (.BoolOp .Or (b :: ck) pos) tb):PE X (.BoolOp .Or (a :: b :: ck) pos) (MY ta tb):=by
 intro P2 s σ H Q I h;refine BoolOp_or (thn (ha P2 s σ H _ I h) λv s1 ur6=>?_);obtain⟨x,H1,I1,r1,q1⟩:=ur6;obtain⟨c,rfl,q1⟩:=q1;cases r1;refine N5 ?_;cases c with
|false=>exact hb P2 s1 σ H1 Q I1 q1
|true=>exact⟨.bl G',H1,I1,rfl,q1⟩
def Ke (ha:PE X a ta):PE X (.UnaryOp .Not a pos) (KW ta):=by
 intro P2 s σ H Q I h;refine UnaryOp_ (thn (ha P2 s σ H _ I h) λv s1 ur7=>?_);obtain⟨x,H1,I1,r1,q1⟩:=ur7;obtain⟨c,rfl,q1⟩:=q1;cases r1;exact not_of (N5 ⟨.bl (!c),H1,I1,rfl,q1⟩)
def tIf (t:TT) (ta tb:TE):TE:=λσ H Q=>t σ H λc H1=>if c=G' then ta σ H1 Q else tb σ H1 Q
def fX {c:Expr}(hc:PT X c tA) (ha:PE X a ta) (hb:PE X b tb):PE X (.IfExp c a b pos) (tIf tA ta tb):=by
 intro P2 s σ H Q I h;refine wpAny_IfExp (thn (hc P2 s σ H _ I h) λd s1 ur8=>?_);obtain⟨H1,I1,q1⟩:=ur8;cases d with
|true=>exact ha P2 s1 σ H1 Q I1 q1
|false=>exact hb P2 s1 σ H1 Q I1 q1
end
def SqL (K:Nh) (H:Hp) (a:K') (xs:List V):Prop :=
 Rd H a (.lst xs) \/
  ∃ (o:Ow) (its:Array Na) (n:Nat),K.lookup a=f' o/\o.cls=.type "list"/\o.dict=Nf/\o.data=.seq its n/\its.size <= Nl/\bQ xs its.toList
def SqT (K:Nh) (H:Hp) (a:K') (xs:List V):Prop :=
 Rd H a (.tup xs) \/
  ∃ (o:Ow) (its:Array Na) (n:Nat),K.lookup a=f' o/\o.cls=.type "tuple"/\o.data=.seq its n/\its.size <= Nl/\bQ xs its.toList
def MO:Na->Option V
|.none=>f' .non
|.bool b=>f' (.bl b)
|.int i _=>f' (.int i)
|.str x _=>f' (.str x)
|.bytes b _=>f' (.byt b)
|.float b _=>f' (.flt b)
|.ref a=>f' (.ref a)
|.type n=>f' (.ty n)
|_=>Nf
def cw.abs {x:V}{u:Na}(r:cw x u):MO u=f' x:=by
 cases x with
|non=>cases r;rfl
|bl _=>cases r;rfl
|int _=>obtain⟨t,rfl⟩:=r;rfl
|str _=>obtain⟨t,rfl⟩:=r;rfl
|byt _=>obtain⟨t,rfl⟩:=r;rfl
|flt _=>obtain⟨t,rfl⟩:=r;rfl
|ref _=>cases r;rfl
|ty _=>cases r;rfl
theorem cw.inj {x y:V}{u:Na}(r:cw x u) (q:cw y u):x=y:=NH (r.abs.symm.trans q.abs)
theorem bQ.inj:∀ {xs ys:List V}{us:List Na},bQ xs us->bQ ys us->xs=ys
|_,_,_,.nil,.nil=>rfl
|_,_,_,.cons r t,.cons r' t'=>by rw[r.inj r',bQ.inj t t']
section
variable {X:Cx}{P2:List (K' × Ow)}{σ:St}{H:Hp}{s:Ng}{a:K'}{xs ys:List V}
def SqL.of {K:Nh}(h:H a=f' (.lst xs)):SqL K H a xs:=.inl (.inl h)
def SqT.of {K:Nh}(h:H a=f' (.tup xs)):SqT K H a xs:=.inl (.inl h)
def Inv.list (I:Inv X P2 σ H s) (h:SqL X.K H a xs):∃ its:List Na,bQ xs its/\PlainL s.heap a its.toArray/\xs.length <= Nl:=by
 rcases h with h|⟨o,its,n,hk,hc,hd,hs,hz,r⟩
 . obtain⟨z,its,n,r,e⟩:=h.ok I.hok;exact⟨its,r,⟨_,n,e,rfl,rfl,rfl⟩,z⟩
 . refine⟨its.toList,r,⟨o,n,I.kIn a o hk,hc,hd,by simpa using hs⟩,?_⟩;have e:=r.length;simp only[NO]at e;omega
def Inv.tuple (I:Inv X P2 σ H s) (h:SqT X.K H a xs):∃ its:List Na,bQ xs its/\IsTup s.heap a its.toArray/\xs.length <= Nl:=by
 rcases h with h|⟨o,its,n,hk,hc,hs,hz,r⟩
 . obtain⟨z,its,r,p⟩:=h.ok I.hok;exact⟨its,r,p,z⟩
 . refine⟨its.toList,r,⟨o,I.kIn a o hk,hc,n,by simpa using hs⟩,?_⟩;have e:=r.length;simp only[NO]at e;omega
def Inv.list_inj (I:Inv X P2 σ H s) (h:SqL X.K H a xs) (h':SqL X.K H a ys):xs=ys:=by
 obtain⟨its,r,⟨o,n,e,_,_,d⟩,_⟩:=I.list h;obtain⟨its',r',⟨o',n',e',_,_,d'⟩,_⟩:=I.list h';rw[e]at e';cases e';rw[d]at d';injection d' with d1 _
 have:its=its':=by simpa using congrArg Array.toList d1
 subst this;exact r.inj r'
def Inv.tuple_inj (I:Inv X P2 σ H s) (h:SqT X.K H a xs) (h':SqT X.K H a ys):xs=ys:=by
 obtain⟨its,r,⟨o,e,_,n,d⟩,_⟩:=I.tuple h;obtain⟨its',r',⟨o',e',_,n',d'⟩,_⟩:=I.tuple h';rw[e]at e';cases e';rw[d]at d';injection d' with d1 _
 have:its=its':=by simpa using congrArg Array.toList d1
 subst this;exact r.inj r'
end
abbrev Cx.wish (X:Cx) (E:Na->Ng->Prop):Cx:={ X with xe:=E }
abbrev Cx.nox (X:Cx):Cx:=X.wish λ_ _=>False
theorem Cx.Ok.wish {X:Cx}(ok:X.Ok) (E:Na->Ng->Prop):(X.wish E).Ok :=
 ⟨ok.mod,ok.kind,ok.glob,ok.blt,ok.above,ok.inj,ok.has,ok.cab,ok.hd,ok.frames,ok.stk,ok.exf,ok.bs,ok.bsz,ok.noex,ok.exfs,ok.funs,ok.frf⟩
def Cx.Ok.unwish {X:Cx}{E:Na->Ng->Prop}(ok:(X.wish E).Ok):X.Ok :=
 ⟨ok.mod,ok.kind,ok.glob,ok.blt,ok.above,ok.inj,ok.has,ok.cab,ok.hd,ok.frames,ok.stk,ok.exf,ok.bs,ok.bsz,ok.noex,ok.exfs,ok.funs,ok.frf⟩
section
variable {X:Cx}{P2:List (K' × Ow)}{σ:St}{H:Hp}{s:Ng}{E:Na->Ng->Prop}
theorem Inv.wish (I:Inv X P2 σ H s) (E:Na->Ng->Prop):Inv (X.wish E) P2 σ H s:=⟨I.ok.wish E,I.os,I.bare,I.base,I.loc,I.cell,I.free,I.freeC,I.pin,I.hok,I.len⟩
theorem Inv.unwish (I:Inv (X.wish E) P2 σ H s):Inv X P2 σ H s:=⟨I.ok.unwish,I.os,I.bare,I.base,I.loc,I.cell,I.free,I.freeC,I.pin,I.hok,I.len⟩
theorem SP.unwish {D:Ends}{f:Flow}{s':Ng}(h:SP (X.wish E) P2 D f s'):SP X P2 D f s':=by
 cases f with
|next=>obtain⟨σ',H',I,q⟩:=h;exact⟨σ',H',I.unwish,q⟩
|brk=>obtain⟨σ',H',I,q⟩:=h;exact⟨σ',H',I.unwish,q⟩
|cont=>obtain⟨σ',H',I,q⟩:=h;exact⟨σ',H',I.unwish,q⟩
|ret u=>obtain⟨v,σ',H',I,r,q⟩:=h;exact⟨v,σ',H',I.unwish,r,q⟩
theorem PSs.nox {st:List NX}{t:TS}(h:PSs X.nox st t):PSs X st t:=λP2 s σ H D I hw =>
 PL (h P2 s σ H D (I.wish _) hw) (λ_ _ q=>q.unwish) λ_ _ z=>OC z
end
section
variable {X:Cx}{st:NX}{ck:List NX}{t u:TS}{e:Expr}{te:TE}{pos:Pos}
def LG:TS:=λD σ H=>D.nx σ H
def Md (t u:TS):TS:=λD σ H=>t { D with nx:=u D } σ H
def am:PSs X [] LG:=λ_ _ σ H _ I h=>wpAny_execs_nil ⟨σ,H,I,h⟩
def Fa (h1:PS X st t) (h2:PSs X ck u):PSs X (st :: ck) (Md t u):=by
 intro P2 s σ H D I h;refine wpAny_execs_cons (thn (h1 P2 s σ H { D with nx:=u D } I h) λf s1 q=>?_);cases f with
|next =>
  obtain⟨σ',H',I',q⟩:=q;exact h2 P2 s1 σ' H' D I' q
|ret v=>exact q
|brk=>exact q
|cont=>exact q
def ao (h1:PS X st t):PSs X [st] t:=by
 intro P2 s σ H D I h;refine wpAny_execs_cons (thn (h1 P2 s σ H D I h) λf s1 q=>?_);cases f with
|next=>exact wpAny_execs_nil q
|ret v=>exact q
|brk=>exact q
|cont=>exact q
def Inv.quiet {P2:List (K' × Ow)}{σ:St}{H:Hp}{s:Ng}(I:Inv X P2 σ H s):interactive X.env=D':=by simp[interactive,I.ok.kind]
def KR (te:TE):TS:=λD σ H=>te σ H λ_ H1=>D.nx σ H1
def aL (he:PE X e te) (hs:swapsWith e Nf pos.line X.env=pure D':=by rfl):PS X (.Expr e pos) (KR te):=by
 intro P2 s σ H D I h;exact wpAny_Expr_any (thn (he P2 s σ H _ I h) λv s1 uq1=>by(obtain⟨x,H1,I1,r1,q1⟩:=uq1;exact ⟨σ,H1,I1,q1⟩)) I.quiet hs
def Mz (te:TE):TS:=λD σ H=>te σ H D.rt
def Jd (he:PE X e te):PS X (.Return (f' e) pos) (Mz te):=by
 intro P2 s σ H D I h;exact wpAny_Return_some (thn (he P2 s σ H _ I h) λv s1 uq2=>by(obtain⟨x,H1,I1,r1,q1⟩:=uq2;exact ⟨x,σ,H1,I1,r1,q1⟩))
def LN:TS:=λD _ H=>D.rt .non H
def Ha:PS X (.Return Nf pos) LN:=λ_ _ σ H _ I h=>wpAny_Return_none ⟨.non,σ,H,I,rfl,h⟩
def Ml (c:TT) (t u:TS):TS:=λD σ H=>c σ H λb H1=>if b=G' then t D σ H1 else u D σ H1
def aI {c:Expr}{a b:List NX}{tc:TT}(hc:PT X c tc) (ha:PSs X a t) (hb:PSs X b u):PS X (.If c a b pos) (Ml tc t u):=by
 intro P2 s σ H D I h;refine wpAny_If (thn (hc P2 s σ H _ I h) λd s1 ur9=>?_);obtain⟨H1,I1,q1⟩:=ur9;cases d with
|true=>exact ha P2 s1 σ H1 D I1 q1
|false=>exact hb P2 s1 σ H1 D I1 q1
def Kl:TS:=λ_ _ _=>False
def fR:PS X st Kl:=λ_ _ _ _ _ _ h=>h.elim
end
abbrev TG:=V->St->Hp->(St->Hp->Prop)->Prop
abbrev TGs:=List V->St->Hp->(St->Hp->Prop)->Prop
def PG (X:Cx) (target:Expr) (t:TG):Prop :=
 ∀ (P2:List (K' × Ow)) (s:Ng) (σ:St) (H:Hp) (v:V) (u:Na) (Q:St->Hp->Prop),Inv X P2 σ H s->cw v u->t v σ H Q ->
  Nq (model X.prog X.w) X.A (assign target X.env u) (λ_ s'=>∃ σ' H',Inv X P2 σ' H' s'/\Q σ' H') X.xe s
def PGs (X:Cx) (ts:List Expr) (t:TGs):Prop :=
 ∀ (P2:List (K' × Ow)) (s:Ng) (σ:St) (H:Hp) (vs:List V) (us:List Na) (Q:St->Hp->Prop),Inv X P2 σ H s->bQ vs us->t vs σ H Q ->
  Nq (model X.prog X.w) X.A (assignInOrder ((assignEach ts X.env).map (·.2)) us) (λ_ s'=>∃ σ' H',Inv X P2 σ' H' s'/\Q σ' H') X.xe s
abbrev LD:=V->V->V->Hp->(Hp->Prop)->Prop
def Me (X:Cx) (t:LD):Prop :=
 ∀ (P2:List (K' × Ow)) (s:Ng) (σ:St) (H:Hp) (o i v:V) (ov iv u:Na) (Q:Hp->Prop),Inv X P2 σ H s->cw o ov->cw i iv->cw v u->t o i v H Q ->
  Nq (model X.prog X.w) X.A (setItem ov iv u) (λ_ s'=>∃ H',Inv X P2 σ H' s'/\Q H') X.xe s
section
variable {X:Cx}{pos:Pos}
def mt (i:Nat):TG:=λv σ H Q=>Q (σ.set i (f' v)) H
def ig {i:Nat}{x:Str}(hN:X.N.Nodup) (hi:X.N[i]?=f' x) (hx:Loc X.env.scope x) (hf:X.fn x=G'\/X.env.scope.names.lookup x=f' .local:=by first|exact .inl rfl|exact .inr rfl|assumption):PG X (.Name x pos) (mt i):=by
 intro P2 s σ H v u Q I r h;exact wpAny_assign_Name (yp I hN hi hx r (λs' I'=>⟨_,H,I',h⟩) hf)
def KQ:TGs:=λvs σ H Q=>vs=[]/\Q σ H
def xM (t:TG) (u:TGs):TGs:=λvs σ H Q=>∃ v r,vs=v :: r/\t v σ H λσ' H'=>u r σ' H' Q
def CF:PGs X [] KQ:=by
 intro P2 s σ H vs us Q I r h;obtain⟨e,h⟩:=h;subst e;cases r;exact assignInOrder_nil ⟨σ,H,I,h⟩
def pd {e:Expr}{es:List Expr}{t:TG}{u:TGs}(h1:PG X e t) (h2:PGs X es u)
 (hs:(assignEach (e :: es) X.env).map (·.2)=assign e X.env :: (assignEach es X.env).map (·.2):=by rfl):PGs X (e :: es) (xM t u):=by
 intro P2 s σ H vs us Q I r h;obtain⟨v,vr,e1,h⟩:=h;subst e1;cases r with
|cons r rr =>
  rw[hs];refine assignInOrder_cons (thn (h1 P2 s σ H _ _ _ I r h) λ_ s1 ur10=>?_);obtain⟨σ1,H1,I1,q1⟩:=ur10;exact h2 P2 s1 σ1 H1 _ _ Q I1 rr q1
def KJ (K:Nh) (n:Nat) (t:TGs):TG:=λv σ H Q=>∃ a xs,v=.ref a/\SqT K H a xs/\xs.length=n/\t xs σ H Q
def FV {es:List Expr}{k:Nat}{t:TGs}{n:Nat}(hc:X.calm=G') (h:PGs X es t)
 (hn:(assignEach es X.env).length=n:=by rfl) (hst:(assignEach es X.env).findIdx? (·.1)=Nf:=by rfl):PG X (.Tuple es k pos) (KJ X.K n t):=by
 intro P2 s σ H v u Q I r hw;obtain⟨a,xs,e1,hq,hl,hw⟩:=hw;subst e1;cases r;obtain⟨its,rv,ht,hz⟩:=I.tuple hq;refine assign_Tuple_tuple (I.ok.hd hc) ht (by simp[hn,<-hl,rv.length]) hst λh' hx=>?_
 have I1:Inv X P2 σ H { s with heap:=h' }:=I.kept (t':=s.toks) λb o e=>hx b o (NZ (Nx e)) e
 exact h P2 _ σ H xs _ Q I1 (by simpa using rv) hw
def Ms (to ti:TE) (t:LD):TG:=λv σ H Q=>to σ H λo H1=>ti σ H1 λi H2=>t o i v H2 λH3=>Q σ H3
def lA {o i:Expr}{to ti:TE}{t:LD}(ho:PE X o to) (hi:PE X i ti) (hs:Me X t)
 (ha:∀ v,assign (.Subscript o i pos) X.env v=(do
  let ov <-holding [v] (eval o X.env);let iv <-holding [v,ov] (eval i X.env)
  standAt pos
  holding [v,ov,iv] (setItem ov iv v)
  release [v,ov,iv] []):=by intro _;rfl):PG X (.Subscript o i pos) (Ms to ti t):=by
 intro P2 s σ H v u Q I r h;rw[ha];refine j' (N2 (thn (ho P2 s σ H _ I h) λov s1 ur11=>?_));obtain⟨x,H1,I1,r1,q1⟩:=ur11;refine j' (N2 (thn (hi P2 s1 σ H1 _ I1 q1) λiv s2 ⟨y,H2,I2,r2,q2⟩=>?_));refine j' (wpAny_standAt (j' (N2 (thn (hs P2 s2 σ H2 x y v ov iv u _ I2 r1 r2 r q2) λ_ s3 ur12=>?_))));obtain⟨H3,I3,q3⟩:=ur12;exact wpAny_release ⟨σ,H3,I3,q3⟩
def Lw (te:TE) (g:TG):TS:=λD σ H=>te σ H λx H1=>g x σ H1 D.nx
def lv {tg e:Expr}{te:TE}{g:TG}(he:PE X e te) (hg:PG X tg g) (hs:swapsWithSole [tg] e pos.line X.env=pure D':=by rfl) (hw:swappedStores [tg] e X.env=pure Nf:=by rfl)
 (h1:(assignEach [tg] X.env).map (·.2)=[assign tg X.env]:=by rfl):PS X (.Assign [tg] e pos) (Lw te g):=by
 intro P2 s σ H D I h;refine wpAny_Assign_stores (thn (he P2 s σ H _ I h) λv s1 ur13=>?_) hs hw;obtain⟨x,H1,I1,r1,q1⟩:=ur13;rw[h1];exact thn (hg P2 s1 σ H1 x v _ I1 r1 q1) λ_ s2 q=>q
def aJ {i:Nat}{x:Str}{e:Expr}{te:TE}{pos':Pos}(hN:X.N.Nodup) (hi:X.N[i]?=f' x) (hx:Loc X.env.scope x) (he:PE X e te) (hs:swapsWith e (f' (.Name x pos')) pos.line X.env=pure D':=by rfl) (hf:X.fn x=G'\/X.env.scope.names.lookup x=f' .local:=by first|exact .inl rfl|exact .inr rfl|assumption) :
 PS X (.Assign [.Name x pos'] e pos) (Lw te (mt i)):=by
 intro P2 s σ H D I h;refine wpAny_Assign_Name (thn (he P2 s σ H _ I h) λv s1 ur14=>?_) hs;obtain⟨y,H1,I1,r1,q1⟩:=ur14;exact yp I1 hN hi hx r1 (λs2 I2=>⟨_,H1,I2,q1⟩) hf
end
section
variable {X:Cx}{pos:Pos}
def KA (c:TT) (tb:TS):TS:=λD σ H=>∃ W:Nat->St->Hp->Prop,(∃ m,W m σ H)/\∀ m σ H,W m σ H ->
 c σ H λb H1=>if b=G' then ∃ N:St->Hp->Prop,(∀ σ' H',N σ' H'->∃ m',m' < m/\W m' σ' H')/\tb { D with nx:=N,ct:=N,bk:=D.nx } σ H1 else D.nx σ H1
def DX {c:Expr}{body:List NX}{tc:TT}{tb:TS}(hp:PassesOwn (model X.prog X.w) X.A X.env X.xe) (hc:PT X c tc) (hb:PSs X body tb):PS X (.While c body [] pos) (KA tc tb):=by
 intro P2 s σ H D I h;obtain⟨W,⟨m0,w0⟩,turn⟩:=h;refine wpAny_While (codeAny_whileLoop (λn s'=>∃ σ' H',Inv X P2 σ' H' s'/\W n σ' H') ?_ m0 ⟨σ,H,I,w0⟩);rintro n s1 ⟨σ1,H1,I1,w1⟩;refine Pm hp (thn (hc P2 s1 σ1 H1 _ I1 (turn n σ1 H1 w1)) λb s2 ur15=>?_);obtain⟨H2,I2,q2⟩:=ur15;cases b with
|true =>
  obtain⟨N,hN,q2⟩:=q2;rw[Vc rfl];refine Pm hp (thn (hb P2 s2 σ1 H2 _ I2 q2) λf s3 q3=>?_);cases f with
 |next =>
   obtain⟨σ3,H3,I3,n3⟩:=q3;obtain⟨m',hm,w3⟩:=hN σ3 H3 n3;exact⟨m',hm,σ3,H3,I3,w3⟩
 |cont =>
   obtain⟨σ3,H3,I3,n3⟩:=q3;obtain⟨m',hm,w3⟩:=hN σ3 H3 n3;exact⟨m',hm,σ3,H3,I3,w3⟩
 |brk=>exact q3
 |ret v=>exact q3
|false =>
  rw[Vd Nz];exact wpAny_execs_nil ⟨σ1,H2,I2,q2⟩
end
structure It where
 go:Nat->Hp->Prop
 yld:Nat->Hp->V->Hp->Prop
 stop:Nat->Hp->Prop
def wP (X:Cx) (P2:List (K' × Ow)) (H:Hp) (b:K'):Prop :=
 H b=Nf/\b≠X.env.locals/\b ∉ X.fs/\(b∈X.ex\/X.s₀.heap.objs.size <= b)/\(∀ x c,X.env.cells.lookup x=f' c->c≠b)/\∀ p∈X.pn++P2,p.1≠b
def Inv.fpOk {X:Cx}{P2:List (K' × Ow)}{σ:St}{H H':Hp}{s:Ng}{b:K'}(I:Inv X P2 σ H s) (hb:s.heap.objs.size <= b) (hn:H' b=Nf):wP X P2 H' b:=by
 refine⟨hn,ne_of_gt (Nn I.lt hb),I.nofs hb,.inr (NS I.sz hb),λx c e z=>?_,λp hp z=>?_⟩
 . obtain⟨v,q⟩:=I.cell x c e;exact absurd (Nn q.lt (by rw[z];exact hb)) (O2 _)
 . exact absurd (Nn (Nx (I.pin p hp).1) (by rw[z];exact hb)) (O2 _)
structure Turn (P:ND) (w:Nt) (K:Nh) (tg:Expr) (J:It) (fp:List K') (it:K') (tn:Nat->NI->Prop):Prop where
 mem:it∈fp
 obj:∀ i h,tn i h->∀ b∈fp,∃ o,h.get? b=f' o/\∀ v,o.data≠.cell v
 keep:∀ i h h',tn i h->(∀ b∈fp,∀ o,h.get? b=f' o->h'.get? b=f' o)->tn i h'
 item:∀ (X:Cx),X.prog=P->X.w=w->X.K=K->X.calm=G'->∀ (i:Nat) (P2:List (K' × Ow)) (s:Ng) (σ:St) (H:Hp) (E:Na->Ng->Prop),Inv X P2 σ H s->(∀ b∈fp,wP X P2 H b)->tn i s.heap->J.go i H ->
  Nq (model P w) X.A (pyNext (.ref it)) (λr s1=>∃ u,r=f' u /\
   Nq (model P w) X.A (letOwnedTupleGo tg (.ref it) u) (λ_ s2=>∃ x H',Inv X P2 σ H' s2/\cw x u/\J.yld i H x H'/\tn (i+1) s2.heap/\∀ b∈fp,H' b=Nf) E s1) E s
 done:∀ (X:Cx),X.prog=P->X.w=w->X.K=K->X.calm=G'->∀ (i:Nat) (P2:List (K' × Ow)) (s:Ng) (σ:St) (H:Hp) (E:Na->Ng->Prop),Inv X P2 σ H s->(∀ b∈fp,wP X P2 H b)->tn i s.heap->J.stop i H ->
  Nq (model P w) X.A (pyNext (.ref it)) (λr s1=>r=Nf/\Inv X P2 σ H s1) E s
 self:∀ (A:NN) (i:Nat) (s:Ng) (Q:Na->Ng->Prop) (E:Na->Ng->Prop),tn i s.heap->Q (.ref it) s->Nq (model P w) A (pyIter (.ref it)) Q E s
abbrev TI:=St->Hp->(It->Hp->Prop)->Prop
def PIE (X:Cx) (P2:List (K' × Ow)) (σ:St) (tg:Expr) (R:It->Hp->Prop) (itv:Na) (s2:Ng):Prop :=
 ∃ (it:K') (fp:List K') (tn:Nat->NI->Prop) (J:It) (H':Hp),itv=.ref it/\Inv X P2 σ H' s2/\Turn X.prog X.w X.K tg J fp it tn/\tn 0 s2.heap/\(∀ b∈fp,wP X P2 H' b)/\R J H'
def PI (X:Cx) (tg iter:Expr) (wi:TI):Prop :=
 ∀ (P2:List (K' × Ow)) (s:Ng) (σ:St) (H:Hp) (R:It->Hp->Prop),Inv X P2 σ H s->wi σ H R ->
  Nq (model X.prog X.w) X.A (eval iter X.env) (λv s1=>Nq (model X.prog X.w) X.A (pyIter v) (PIE X P2 σ tg R) X.xe s1) X.xe s
def CI {M:Model}{A:NN}{E:Na->Ng->Prop}{s:Ng}{tg:Expr}{it:K'}{u:Na}{o:Ow}{n:String}{vs:Array Na}{Q:Unit->Ng->Prop}(ho:s.heap.get? it=f' o) (hc:o.cls=.type n) (hd:o.data=.fields vs)
 (hn:["enumerate","zip","dict_itemiterator","dict_reverseitemiterator","odict_iterator","itertools.zip_longest","itertools.pairwise"].contains n=D') (hQ:Q () s):Nq M A (letOwnedTupleGo tg (.ref it) u) Q E s:=by
 unfold letOwnedTupleGo;cases tg<;>first
 |exact Nc hQ
 |(cases u<;>first
  |exact Nc hQ
  |(refine j' (wpAny_load ho ?_)
    rw[hc,hd];show Nq M A (if (["enumerate","zip","dict_itemiterator","dict_reverseitemiterator","odict_iterator","itertools.zip_longest","itertools.pairwise"].contains n && vs[0]? == f' (Pe _))=G' then _ else _) Q E s;rw[Vd (by intro h;rw[hn,Bool.false_and]at h;cases h)];exact Nc hQ))
def Itl (K:Nh) (a:K'):It :=
 ⟨λi H=>∃ xs x,SqL K H a xs/\xs[i]?=f' x,λi H x H'=>H'=H/\∀ xs,SqL K H a xs->xs[i]?=f' x,λi H=>∃ xs,SqL K H a xs/\xs.length <= i⟩
def Itt (K:Nh) (a:K'):It :=
 ⟨λi H=>∃ xs x,SqT K H a xs/\xs[i]?=f' x,λi H x H'=>H'=H/\∀ xs,SqT K H a xs->xs[i]?=f' x,λi H=>∃ xs,SqT K H a xs/\xs.length <= i⟩
def Itr (lo:Int) (n:Nat):It:=⟨λi _=>i < n,λi H x H'=>H'=H/\x=.int (lo+i),λi _=>n <= i⟩
def BS {P:ND}{w:Nt}{K:Nh}{tg:Expr}(a it:K'):Turn P w K tg (Itl K a) [it] it (λi h=>h.IsListIter it a i) where
 mem:=by simp
 obj:=λi h st b hb=>by
  have e:b=it:=by simpa using hb
  subst e;obtain⟨o,e,c,d⟩:=st;exact⟨o,e,λv z=>by rw[d]at z;cases z⟩
 keep:=λi h h' st k=>st.at λo e=>k it (by simp) o e
 item:=by
  intro X hP hw hK hc i P2 s σ H E I hf st hg;subst hP hw hK;obtain⟨xs,x,hq,hx⟩:=hg;obtain⟨its,rv,p,hz⟩:=I.list hq;obtain⟨u,hu,ru⟩:=rv.get hx;obtain⟨f0,f1,f2,f3,f4,f5⟩:=hf it (by simp);refine wpAny_pyNext_list_item st p.isList (x:=u) (by simpa using hu) λh' st' sb=>?_
  have I1:Inv X P2 σ H { s with heap:=h' }:=I.turned (t':=s.toks) (λb o hb e=>(sb.2 b hb).trans e) f0 f1 f3 f4 f5;obtain⟨o,e,c,d⟩:=id st';exact⟨u,rfl,CI (s:={ s with heap:=h' }) e c d (by decide) ⟨x,H,I1,ru,⟨rfl,λys hy=>by rw[I.list_inj hy hq];exact hx⟩,st',λb hb=>(hf b hb).1⟩⟩
 done:=by
  intro X hP hw hK hc i P2 s σ H E I hf st hg;subst hP hw hK;obtain⟨xs,hq,hx⟩:=hg;obtain⟨its,rv,p,hz⟩:=I.list hq;obtain⟨f0,f1,f2,f3,f4,f5⟩:=hf it (by simp);have hl:=rv.length;exact wpAny_pyNext_list_end (I.ok.hd hc) st p.isList (by simp;omega) λh' eb=>⟨rfl,I.turned (t':=s.toks) (λb o hb e=>eb b o hb e) f0 f1 f3 f4 f5⟩
 self:=λ_ _ _ _ _ st h=>wpAny_pyIter_listiter st h
def zy {P:ND}{w:Nt}{K:Nh}{tg:Expr}(a it:K'):Turn P w K tg (Itt K a) [it] it (λi h=>h.IsTupleIter it a i) where
 mem:=by simp
 obj:=λi h st b hb=>by
  have e:b=it:=by simpa using hb
  subst e;obtain⟨o,e,c,d⟩:=st;exact⟨o,e,λv z=>by rw[d]at z;cases z⟩
 keep:=λi h h' st k=>st.at λo e=>k it (by simp) o e
 item:=by
  intro X hP hw hK hc i P2 s σ H E I hf st hg;subst hP hw hK;obtain⟨xs,x,hq,hx⟩:=hg;obtain⟨its,rv,p,hz⟩:=I.tuple hq;obtain⟨u,hu,ru⟩:=rv.get hx;obtain⟨f0,f1,f2,f3,f4,f5⟩:=hf it (by simp);refine wpAny_pyNext_tuple_item st (show s.heap.IsTuple a its.toArray from p) (x:=u) (by simpa using hu) λh' st' sb=>?_
  have I1:Inv X P2 σ H { s with heap:=h' }:=I.turned (t':=s.toks) (λb o hb e=>(sb.2 b hb).trans e) f0 f1 f3 f4 f5;obtain⟨o,e,c,d⟩:=id st';exact⟨u,rfl,CI (s:={ s with heap:=h' }) e c d (by decide) ⟨x,H,I1,ru,⟨rfl,λys hy=>by rw[I.tuple_inj hy hq];exact hx⟩,st',λb hb=>(hf b hb).1⟩⟩
 done:=by
  intro X hP hw hK hc i P2 s σ H E I hf st hg;subst hP hw hK;obtain⟨xs,hq,hx⟩:=hg;obtain⟨its,rv,p,hz⟩:=I.tuple hq;obtain⟨f0,f1,f2,f3,f4,f5⟩:=hf it (by simp);have hl:=rv.length;exact wpAny_pyNext_tuple_end (I.ok.hd hc) st (show s.heap.IsTuple a its.toArray from p) (by simp;omega) λh' eb=>⟨rfl,I.turned (t':=s.toks) (λb o hb e=>eb b o hb e) f0 f1 f3 f4 f5⟩
 self:=λ_ _ _ _ _ st h=>wpAny_pyIter_tupleiter st h
def AN {P:ND}{w:Nt}{K:Nh}{tg:Expr}(it:K') (lo:Int) (n:Nat):Turn P w K tg (Itr lo n) [it] it (λi h=>IsRangeIter h it (lo+(i:Nat) * 1) ((n:Int) - (i:Nat)) 1) where
 mem:=by simp
 obj:=λi h st b hb=>by
  have e:b=it:=by simpa using hb
  subst e;exact⟨_,st,λv z=>by
   have z':Data.fields _=Data.cell v:=z;cases z'⟩
 keep:=λi h h' st k=>k it (by simp) _ st
 item:=by
  intro X hP hw hK hc i P2 s σ H E I hf st hg;subst hP hw hK;obtain⟨f0,f1,f2,f3,f4,f5⟩:=hf it (by simp);have W:=Walks.range (prog:=X.prog) (w:=X.w) (I.ok.hd hc) it lo 1 n;refine W.item i s _ _ hg st λv h' tk hv st' kk=>?_
  obtain⟨t,rfl⟩:=hv;have I1:Inv X P2 σ H { s with heap:=h',toks:=tk }:=I.turned (λb o hb e=>kk b o (by simpa using hb) e) f0 f1 f3 f4 f5;refine⟨_,rfl,CI (s:={ s with heap:=h',toks:=tk }) (n:="range_iterator") st' rfl rfl (by decide) ⟨.int (lo+i),H,I1,⟨t,?_⟩,⟨rfl,rfl⟩,st',λb hb=>(hf b hb).1⟩⟩;rw[Int.mul_one]
 done:=by
  intro X hP hw hK hc i P2 s σ H E I hf st hg;subst hP hw hK;obtain⟨f0,f1,f2,f3,f4,f5⟩:=hf it (by simp);exact wpAny_pyNext_range_end (I.ok.hd hc) st (by have:n <= i:=hg;omega) λh' eb=>⟨rfl,I.turned (t':=s.toks) (λb o hb e=>eb b o hb e) f0 f1 f3 f4 f5⟩
 self:=λ_ _ _ _ _ st h=>wpAny_pyIter_rangeiter st h
section
variable {X:Cx}{tg:Expr}
def LB (K:Nh) (tl:TE):TI:=λσ H R=>tl σ H λx H1=>∃ a,x=.ref a/\(∃ xs,SqL K H1 a xs)/\R (Itl K a) H1
def Mv (K:Nh) (tl:TE):TI:=λσ H R=>tl σ H λx H1=>∃ a,x=.ref a/\(∃ xs,SqT K H1 a xs)/\R (Itt K a) H1
def jK {l:Expr}{tl:TE}(hl:PE X l tl):PI X tg l (LB X.K tl):=by
 intro P2 s σ H R I h;refine thn (hl P2 s σ H _ I h) λv s1 ur16=>?_
 obtain⟨x,H1,I1,r1,q1⟩:=ur16;obtain⟨a,e,⟨xs,hq⟩,q⟩:=q1;subst e;cases r1;obtain⟨its,rv,p,hz⟩:=I1.list hq;refine wpAny_pyIter_list p.isList ?_;refine⟨s1.heap.objs.size,[s1.heap.objs.size],_,_,H1,rfl,I1.kept (t':=s1.toks) λb o e=>Nb _ e,BS a _,⟨_,Nr _ rfl,rfl,rfl⟩,λb hb=>?_,q⟩;have e:b=s1.heap.objs.size:=by simpa using hb
 subst e;exact I1.fpOk (Nm _) (I1.hok.fresh (Nm _))
def xY {l:Expr}{tl:TE}(hl:PE X l tl):PI X tg l (Mv X.K tl):=by
 intro P2 s σ H R I h;refine thn (hl P2 s σ H _ I h) λv s1 ur17=>?_
 obtain⟨x,H1,I1,r1,q1⟩:=ur17;obtain⟨a,e,⟨xs,hq⟩,q⟩:=q1;subst e;cases r1;obtain⟨its,rv,p,hz⟩:=I1.tuple hq;refine wpAny_pyIter_tuple (show s1.heap.IsTuple a its.toArray from p) ?_;refine⟨s1.heap.objs.size,[s1.heap.objs.size],_,_,H1,rfl,I1.kept (t':=s1.toks) λb o e=>Nb _ e,zy a _,⟨_,Nr _ rfl,rfl,rfl⟩,λb hb=>?_,q⟩;have e:b=s1.heap.objs.size:=by simpa using hb
 subst e;exact I1.fpOk (Nm _) (I1.hok.fresh (Nm _))
def Ff {P2:List (K' × Ow)}{σ:St}{H:Hp}{s:Ng}{R:It->Hp->Prop}{E:Na->Ng->Prop}{lo hi:Int}{t u v:Tok}{tk:Nat}(I:Inv X P2 σ H s) (h1:-(2 ^ 62) <= lo) (h2:lo < 2 ^ 62) (h3:-(2 ^ 62) <= hi) (h4:hi < 2 ^ 62)
 (q:R (Itr lo (hi - lo).toNat) H):Nq (model X.prog X.w) X.A (pyIter (.ref s.heap.objs.size)) (PIE X P2 σ tg R) E { s with heap:=s.heap.push { cls:=.type "range",data:=.fields #[.int lo t,.int hi u,.int 1 v] },toks:=tk }:=by
 refine wpAny_pyIter_range (IsRange.new ..) (small_one h1 h2 h3 h4) ?_;have I1:Inv X P2 σ H { s with heap:=s.heap.push { cls:=.type "range",data:=.fields #[.int lo t,.int hi u,.int 1 v] },toks:=tk }:=I.kept λb o e=>Nb _ e
 refine⟨(s.heap.push { cls:=.type "range",data:=.fields #[.int lo t,.int hi u,.int 1 v] }).objs.size,[(s.heap.push { cls:=.type "range",data:=.fields #[.int lo t,.int hi u,.int 1 v] }).objs.size],_,_,H,rfl,
  I1.kept (t':=tk) λb o e=>Nb _ e,AN _ lo (hi - lo).toNat,?_,λb hb=>?_,q⟩
 . have e1:lo+((0:Nat):Int) * 1=lo:=by simp
   have e2:(((hi - lo).toNat:Nat):Int) - ((0:Nat):Int)=Builtin.Range.rangeSize lo hi 1:=by rw[rangeSize_one];split<;>omega
   show IsRangeIter _ _ (lo+((0:Nat):Int) * 1) ((((hi - lo).toNat:Nat):Int) - ((0:Nat):Int)) 1;rw[e1,e2];exact Nr _ rfl
 . have e:b=(s.heap.push { cls:=.type "range",data:=.fields #[.int lo t,.int hi u,.int 1 v] }).objs.size:=by simpa using hb
   subst e;exact I1.fpOk (Nm _) (I1.hok.fresh (Nm _))
def KY (ta:TA):TI:=λσ H R=>ta σ H λvs H1=>∃ j:Int,vs=[.int j]/\-(2 ^ 62) <= j/\j < 2 ^ 62/\R (Itr 0 j.toNat) H1
def pX {a:Expr}{ta:TA}{p pos:Pos}(hg:Gl X "range") (hm:X.mg "range"=Nf) (ha:PA X [a] ta) (hs:NR [a] X.env=[(D',eval a X.env)]:=by rfl):PI X tg (.Call (.Name "range" p) [a] [] pos) (KY ta):=by
 intro P2 s σ H R I h;refine Call_ (om I hg hm boot_range (Oz (thn (ha pos P2 s σ H _ I h) λus s1 ur18=>?_) hs rfl));obtain⟨vs,H1,I1,r1,q1⟩:=ur18;obtain⟨j,e,q1,q2,q⟩:=q1;subst e;cases r1 with
|cons r rr =>
  cases rr;obtain⟨t,rfl⟩:=r;exact call_range_1 (Ff I1 (by omega) (by omega) q1 q2 (by simpa using q))
def Mw (wi:TI) (g:TG) (tb:TS):TS:=λD σ H=>wi σ H λJ H1=>∃ W:Nat->Nat->St->Hp->Prop,(∃ m,W 0 m σ H1)/\∀ i m σ H,W i m σ H ->
 (J.stop i H/\D.nx σ H)\/(J.go i H/\∃ N:St->Hp->Prop,(∀ σ' H',N σ' H'->∃ m',m' < m/\W (i+1) m' σ' H')/\∀ x H',J.yld i H x H'->g x σ H' λσ2 H2=>tb { D with nx:=N,ct:=N,bk:=D.nx } σ2 H2)
def ve (fp:List K') (h:NI):List (K' × Ow):=fp.filterMap λb=>(h.get? b).map λo=>(b,o)
def l9 {fp:List K'}{h:NI}{b:K'}{o:Ow}(hb:b∈fp) (e:h.get? b=f' o):(b,o)∈ve fp h:=mem_filterMap.mpr ⟨b,hb,by rw[e];rfl⟩
def Df {fp:List K'}{h:NI}{p:K' × Ow}(hp:p∈ve fp h):p.1∈fp/\h.get? p.1=f' p.2:=by
 obtain⟨b,hb,e⟩:=mem_filterMap.mp hp;cases q:h.get? b with
|none=>rw[q]at e;cases e
|some o =>
  rw[q]at e;have e':(b,o)=p:=NH e;subst e';exact⟨hb,q⟩
def Inv.pinned {P2:List (K' × Ow)}{σ:St}{H:Hp}{s:Ng}{fp:List K'}(I:Inv X P2 σ H s) (hf:∀ b∈fp,wP X P2 H b) (ho:∀ b∈fp,∃ o,s.heap.get? b=f' o/\∀ v,o.data≠.cell v):Inv X (P2++ve fp s.heap) σ H s :=
 I.pins_of λp hp=>(Oc.mp hp).elim (λz=>I.pin p (Oj _ z)) λz=>by
  obtain⟨hb,e⟩:=Df z;obtain⟨f0,f1,f2,_⟩:=hf p.1 hb;obtain⟨o,e',d⟩:=ho p.1 hb;rw[e]at e';cases e';exact⟨e,f0,f1,f2,d⟩
def Inv.unpinned {P2 pl:List (K' × Ow)}{σ:St}{H:Hp}{s:Ng}(I:Inv X (P2++pl) σ H s):Inv X P2 σ H s:=I.pins_of λp hp=>I.pin p (Oj _ (List.mem_append_left _ hp))
def sI {iter:Expr}{body:List NX}{wi:TI}{g:TG}{tb:TS}{pos:Pos}(hp:PassesOwn (model X.prog X.w) X.A X.env X.xe) (hc:X.calm=G') (hi:PI X tg iter wi) (hg:PG X tg g) (hb:PSs X body tb)
 (hs:∀ x,foldedSetIterable iter X.env x=pure x:=by intro _;rfl):PS X (.For tg iter body [] pos) (Mw wi g tb):=by
 intro P2 s σ H D I h;refine wpAny_For (thn (hi P2 s σ H _ I h) λv s1 h1=>thn h1 λitv s2 h2=>?_) hs;obtain⟨it,fp,tn,J,H2,e,I2,T,st2,f2,W,⟨m0,w0⟩,turn⟩:=h2;subst e;have stat:∀ {H':Hp},(∀ b∈fp,H' b=Nf)->∀ b∈fp,wP X P2 H' b:=λhn b hb=>⟨hn b hb,(f2 b hb).2⟩
 refine codeAny_forLoop_any (λn s'=>∃ i σ' H',Inv X P2 σ' H' s'/\tn i s'.heap/\(∀ b∈fp,H' b=Nf)/\W i n σ' H') ?_ m0 ⟨0,σ,H2,I2,st2,λb hb=>(f2 b hb).1,w0⟩;rintro n s3 ⟨i,σ3,H3,I3,st3,fr3,w3⟩;rcases turn i n σ3 H3 w3 with⟨stop,qn⟩|⟨go,N,hN,step⟩
 . refine Pm hp (thn (T.done X rfl rfl rfl hc i P2 s3 σ3 H3 X.xe I3 (stat fr3) st3 stop) λr s4 ur19=>?_);obtain⟨hr,I4⟩:=ur19;subst hr;exact wpAny_execs_nil ⟨σ3,H3,I4,qn⟩
 . refine Pm hp (thn (T.item X rfl rfl rfl hc i P2 s3 σ3 H3 X.xe I3 (stat fr3) st3 go) λr s4 ur20=>?_);obtain⟨u,hr,h4⟩:=ur20;subst hr;refine Pm hp (thn h4 λ_ s5 ur21=>?_);obtain⟨x,H5,I5,r5,y5,st5,fr5⟩:=ur21;have I5':=I5.pinned (stat fr5) (T.obj _ _ st5);refine Pm hp (thn (hg _ s5 σ3 H5 x u _ I5' r5 (step x H5 y5)) λ_ s6 ur22=>?_);obtain⟨σ6,H6,I6,q6⟩:=ur22;refine Pm hp (thn (hb _ s6 σ6 H6 _ I6 q6) λf s7 q7=>?_);have again:∀ {σ7:St} {H7:Hp},Inv X (P2++ve fp s5.heap) σ7 H7 s7->N σ7 H7->∃ m,m < n/\∃ i σ' H',Inv X P2 σ' H' s7/\tn i s7.heap/\(∀ b∈fp,H' b=Nf)/\W i m σ' H':=λ{σ7 H7} I7 n7=>by
    obtain⟨m',hm,w7⟩:=hN σ7 H7 n7;refine⟨m',hm,i+1,σ7,H7,I7.unpinned,T.keep _ _ _ st5 λb hb o e=>(I7.pin (b,o) (Oj _ (Oj _ (l9 hb e)))).1,λb hb=>?_,w7⟩;obtain⟨o,e,d⟩:=T.obj _ _ st5 b hb;exact(I7.pin (b,o) (Oj _ (Oj _ (l9 hb e)))).2.1
   cases f with
  |next=>obtain⟨σ7,H7,I7,n7⟩:=q7;exact again I7 n7
  |cont=>obtain⟨σ7,H7,I7,n7⟩:=q7;exact again I7 n7
  |brk=>obtain⟨σ7,H7,I7,q7⟩:=q7;exact⟨σ7,H7,I7.unpinned,q7⟩
  |ret v=>obtain⟨x7,σ7,H7,I7,r7,q7⟩:=q7;exact⟨x7,σ7,H7,I7.unpinned,r7,q7⟩
end
def yX {K:Nh}{a:K'}{xs:List V}{g:TG}{tb:TS}{D:Ends}{σ:St}{H:Hp}(Pv:Nat->St->Hp->Prop) (h0:Pv 0 σ H) (hl:∀ i σ H,i <= xs.length->Pv i σ H->SqL K H a xs)
 (hs:∀ i x σ H,xs[i]?=f' x->Pv i σ H->g x σ H λσ2 H2=>tb { D with nx:=Pv (i+1),ct:=Pv (i+1),bk:=D.nx } σ2 H2) (hd:∀ σ H,Pv xs.length σ H->D.nx σ H) :
 ∃ W:Nat->Nat->St->Hp->Prop,(∃ m,W 0 m σ H)/\∀ i m σ H,W i m σ H ->
  ((Itl K a).stop i H/\D.nx σ H)\/((Itl K a).go i H/\∃ N:St->Hp->Prop,(∀ σ' H',N σ' H'->∃ m',m' < m/\W (i+1) m' σ' H')/\∀ x H',(Itl K a).yld i H x H'->g x σ H' λσ2 H2=>tb { D with nx:=N,ct:=N,bk:=D.nx } σ2 H2):=by
 refine⟨λi m σ H=>m=xs.length - i/\i <= xs.length/\Pv i σ H,⟨xs.length,by simp,Ou _,h0⟩,?_⟩;rintro i m σ H ⟨rfl,hi,p⟩;have q:=hl i σ H hi p;by_cases hlt:i < xs.length
 . refine .inr ⟨⟨xs,xs[i],q,by simp[hlt]⟩,Pv (i+1),λσ' H' p'=>⟨xs.length - (i+1),by omega,rfl,hlt,p'⟩,λx H' y=>?_⟩;obtain⟨e,y⟩:=y;subst e;exact hs i x σ _ (y xs q) p
 . have e:i=xs.length:=by omega
   subst e;exact .inl ⟨⟨xs,q,Nm _⟩,hd σ H p⟩
def GZ {K:Nh}{a:K'}{xs:List V}{g:TG}{tb:TS}{D:Ends}{σ:St}{H:Hp}(Pv:Nat->St->Hp->Prop) (h0:Pv 0 σ H) (hl:∀ i σ H,i <= xs.length->Pv i σ H->SqT K H a xs)
 (hs:∀ i x σ H,xs[i]?=f' x->Pv i σ H->g x σ H λσ2 H2=>tb { D with nx:=Pv (i+1),ct:=Pv (i+1),bk:=D.nx } σ2 H2) (hd:∀ σ H,Pv xs.length σ H->D.nx σ H) :
 ∃ W:Nat->Nat->St->Hp->Prop,(∃ m,W 0 m σ H)/\∀ i m σ H,W i m σ H ->
  ((Itt K a).stop i H/\D.nx σ H)\/((Itt K a).go i H/\∃ N:St->Hp->Prop,(∀ σ' H',N σ' H'->∃ m',m' < m/\W (i+1) m' σ' H')/\∀ x H',(Itt K a).yld i H x H'->g x σ H' λσ2 H2=>tb { D with nx:=N,ct:=N,bk:=D.nx } σ2 H2):=by
 refine⟨λi m σ H=>m=xs.length - i/\i <= xs.length/\Pv i σ H,⟨xs.length,by simp,Ou _,h0⟩,?_⟩;rintro i m σ H ⟨rfl,hi,p⟩;have q:=hl i σ H hi p;by_cases hlt:i < xs.length
 . refine .inr ⟨⟨xs,xs[i],q,by simp[hlt]⟩,Pv (i+1),λσ' H' p'=>⟨xs.length - (i+1),by omega,rfl,hlt,p'⟩,λx H' y=>?_⟩;obtain⟨e,y⟩:=y;subst e;exact hs i x σ _ (y xs q) p
 . have e:i=xs.length:=by omega
   subst e;exact .inl ⟨⟨xs,q,Nm _⟩,hd σ H p⟩
def Cu {lo:Int}{n:Nat}{g:TG}{tb:TS}{D:Ends}{σ:St}{H:Hp}(Pv:Nat->St->Hp->Prop) (h0:Pv 0 σ H)
 (hs:∀ i σ H,i < n->Pv i σ H->g (.int (lo+i)) σ H λσ2 H2=>tb { D with nx:=Pv (i+1),ct:=Pv (i+1),bk:=D.nx } σ2 H2) (hd:∀ σ H,Pv n σ H->D.nx σ H) :
 ∃ W:Nat->Nat->St->Hp->Prop,(∃ m,W 0 m σ H)/\∀ i m σ H,W i m σ H ->
  ((Itr lo n).stop i H/\D.nx σ H)\/((Itr lo n).go i H/\∃ N:St->Hp->Prop,(∀ σ' H',N σ' H'->∃ m',m' < m/\W (i+1) m' σ' H')/\∀ x H',(Itr lo n).yld i H x H'->g x σ H' λσ2 H2=>tb { D with nx:=N,ct:=N,bk:=D.nx } σ2 H2):=by
 refine⟨λi m σ H=>m=n - i/\i <= n/\Pv i σ H,⟨n,by simp,Ou _,h0⟩,?_⟩;rintro i m σ H ⟨rfl,hi,p⟩;by_cases hlt:i < n
 . refine .inr ⟨hlt,Pv (i+1),λσ' H' p'=>⟨n - (i+1),by omega,rfl,hlt,p'⟩,λx H' y=>?_⟩;obtain⟨e,y⟩:=y;subst e y;exact hs i σ _ hlt p
 . have e:i=n:=by omega
   subst e;exact .inl ⟨Nm _,hd σ H p⟩
abbrev R2:=V->V->Hp->VK->Prop
def OpR (X:Cx) (f:Na->Na->Sem Na) (r:R2):Prop :=
 ∀ (P2:List (K' × Ow)) (s:Ng) (σ:St) (H:Hp) (x y:V) (v u:Na) (Q:VK),Inv X P2 σ H s->cw x v->cw y u->r x y H Q ->
  Nq (model X.prog X.w) X.A (f v u) (EP X P2 σ Q) X.xe s
def UnR (X:Cx) (f:Na->Sem Na) (r:V->Hp->VK->Prop):Prop :=
 ∀ (P2:List (K' × Ow)) (s:Ng) (σ:St) (H:Hp) (x:V) (v:Na) (Q:VK),Inv X P2 σ H s->cw x v->r x H Q ->
  Nq (model X.prog X.w) X.A (f v) (EP X P2 σ Q) X.xe s
def mW (X:Cx) (f:Na) (r:List V->Hp->VK->Prop):Prop :=
 ∀ (P2:List (K' × Ow)) (s:Ng) (σ:St) (H:Hp) (xs:List V) (us:List Na) (Q:VK),Inv X P2 σ H s->bQ xs us->r xs H Q ->
  Nq (model X.prog X.w) X.A (call f us) (EP X P2 σ Q) X.xe s
def MP (X:Cx) (r:V->Hp->(Bool->Hp->Prop)->Prop):Prop :=
 ∀ (P2:List (K' × Ow)) (s:Ng) (σ:St) (H:Hp) (x:V) (v:Na) (Q:Bool->Hp->Prop),Inv X P2 σ H s->cw x v->r x H Q ->
  Nq (model X.prog X.w) X.A (truthy v) (TP X P2 σ Q) X.xe s
def tOp (r:R2) (ta tb:TE):TE:=λσ H Q=>ta σ H λx H1=>tb σ H1 λy H2=>r x y H2 Q
def tUn (r:V->Hp->VK->Prop) (ta:TE):TE:=λσ H Q=>ta σ H λx H1=>r x H1 Q
def rI (C:Int->Int->Prop) (g:Int->Int->V):R2:=λx y H Q=>∃ i j,x=.int i/\y=.int j/\C i j/\Q (g i j) H
def rI0 (g:Int->Int->V):R2:=λx y H Q=>∃ i j,x=.int i/\y=.int j/\Q (g i j) H
def rU (g:Int->V):V->Hp->VK->Prop:=λx H Q=>∃ i,x=.int i/\Q (g i) H
section
variable {X:Cx}{a b c:Expr}{ta tb tc:TE}{pos:Pos}
def Lo (ha:PE X a ta) (hb:PE X b tb) {P2:List (K' × Ow)}{s:Ng}{σ:St}{H:Hp}{R:V->V->Hp->Prop}(I:Inv X P2 σ H s)
 (h:ta σ H λx H1=>tb σ H1 λy H2=>R x y H2) {Q:Na->Ng->Prop} {f:Na->Na->Sem Na}
 (hf:∀ v u s2 x y H2,Inv X P2 σ H2 s2->cw x v->cw y u->R x y H2->Nq (model X.prog X.w) X.A (f v u) Q X.xe s2) :
 Nq (model X.prog X.w) X.A (eval a X.env) (λv s₁=>Nq (model X.prog X.w) X.A (eval b X.env) (λu s₂=>Nq (model X.prog X.w) X.A (f v u) Q X.xe s₂) X.xe s₁) X.xe s:=by
 refine thn (ha P2 s σ H _ I h) λv s1 ur23=>?_
 obtain⟨x,H1,I1,r1,q1⟩:=ur23;refine thn (hb P2 s1 σ H1 _ I1 q1) λu s2 ur24=>?_
 obtain⟨y,H2,I2,r2,q2⟩:=ur24;exact hf v u s2 x y H2 I2 r1 r2 q2
def dA {op:Operator}{r:R2}(ho:OpR X (binaryOp op) r) (ha:PE X a ta) (hb:PE X b tb):PE X (.BinOp a op b pos) (tOp r ta tb):=by
 intro P2 s σ H Q I h;exact wpAny_BinOp (Lo ha hb I h λv u s2 x y H2 I2 rx ry q=>ho P2 s2 σ H2 x y v u Q I2 rx ry q)
def FL {op:UnaryOp}{r:V->Hp->VK->Prop}(ho:UnR X (unaryOp op) r) (ha:PE X a ta):PE X (.UnaryOp op a pos) (tUn r ta):=by
 intro P2 s σ H Q I h;exact UnaryOp_ (thn (ha P2 s σ H _ I h) λv s1 uq3=>by(obtain⟨x,H1,I1,r1,q1⟩:=uq3;exact ho P2 s1 σ H1 x v Q I1 r1 q1))
def opI {f:Na->Na->Sem Na}{C:Int->Int->Prop}{g:Int->Int->Int}
 (rule:∀ (i j:Int) (t u:Tok) (s:Ng) (Q:Na->Ng->Prop) (E:Na->Ng->Prop),C i j->Q (.int (g i j) s.toks) { s with toks:=s.toks+1 }->Nq (model X.prog X.w) X.A (f (.int i t) (.int j u)) Q E s) :
 OpR X f (rI C λi j=>.int (g i j)):=by
 intro P2 s σ H x y v u Q I rx ry h;obtain⟨i,j,rfl,rfl,hc,q⟩:=h;obtain⟨t,rfl⟩:=rx;obtain⟨t',rfl⟩:=ry;exact rule i j t t' s _ _ hc ⟨.int (g i j),H,I.tok _,⟨_,rfl⟩,q⟩
def LZ {f:Na->Na->Sem Na}{g:Int->Int->Int}
 (rule:∀ (i j:Int) (t u:Tok) (s:Ng) (Q:Na->Ng->Prop) (E:Na->Ng->Prop),Q (.int (g i j) s.toks) { s with toks:=s.toks+1 }->Nq (model X.prog X.w) X.A (f (.int i t) (.int j u)) Q E s) :
 OpR X f (rI0 λi j=>.int (g i j)):=by
 intro P2 s σ H x y v u Q I rx ry h;obtain⟨i,j,rfl,rfl,q⟩:=h;obtain⟨t,rfl⟩:=rx;obtain⟨t',rfl⟩:=ry;exact rule i j t t' s _ _ ⟨.int (g i j),H,I.tok _,⟨_,rfl⟩,q⟩
def Ln {f:Na->Na->Sem Na}{g:Int->Int->Bool}
 (rule:∀ (i j:Int) (t u:Tok) (s:Ng) (Q:Na->Ng->Prop) (E:Na->Ng->Prop),Q (.bool (g i j)) s->Nq (model X.prog X.w) X.A (f (.int i t) (.int j u)) Q E s) :
 OpR X f (rI0 λi j=>.bl (g i j)):=by
 intro P2 s σ H x y v u Q I rx ry h;obtain⟨i,j,rfl,rfl,q⟩:=h;obtain⟨t,rfl⟩:=rx;obtain⟨t',rfl⟩:=ry;exact rule i j t t' s _ _ ⟨.bl (g i j),H,I,rfl,q⟩
def MI (i j:Int):Prop:=0 <= j/\j <= 1000000/\i.natAbs < 2 ^ 64
def KP (i j:Int):Prop:=(-(2 ^ 64) < i/\i < 2 ^ 64)\/(-(2 ^ 64) < j/\j < 2 ^ 64)
def KP.ok {i j:Int}(h:KP i j):IntMulOk i j:=by
 rcases h with⟨h1,h2⟩|⟨h1,h2⟩
 . exact .of_left (intBits_le_64 h1 h2)
 . exact .of_right (intBits_le_64 h1 h2)
def o6:OpR X (binaryOp .Add) (rI0 λi j=>.int (i+j)):=LZ λ_ _ _ _ _ _ _ q=>add_int q
def Bl:OpR X (binaryOp .Sub) (rI0 λi j=>.int (i - j)):=LZ λ_ _ _ _ _ _ _ q=>sub_int q
def yy:OpR X (binaryOp .Mult) (rI KP λi j=>.int (i * j)):=opI λ_ _ _ _ _ _ _ hc q=>mul_int q hc.ok
def pZ:OpR X (binaryOp .Mod) (rI (λ_ j=>0 < j) λi j=>.int (i % j)):=opI λi j _ _ _ _ _ hc q=>by
 have h1:(0:Int) < j:=hc;exact mod_int' (by omega) (by rw[Int.fmod_eq_emod_of_nonneg i (by omega)];exact q)
def Dp:OpR X (binaryOp .Pow) (rI MI λi j=>.int (i ^ j.toNat)):=opI λ_ _ _ _ _ _ _ hc q=>pow_int_small hc.1 hc.2.1 hc.2.2 q
def unI {f:Na->Sem Na}{g:Int->Int}
 (rule:∀ (i:Int) (t:Tok) (s:Ng) (Q:Na->Ng->Prop) (E:Na->Ng->Prop),Q (.int (g i) s.toks) { s with toks:=s.toks+1 }->Nq (model X.prog X.w) X.A (f (.int i t)) Q E s) :
 UnR X f (rU λi=>.int (g i)):=by
 intro P2 s σ H x v Q I rx h;obtain⟨i,rfl,q⟩:=h;obtain⟨t,rfl⟩:=rx;exact rule i t s _ _ ⟨.int (g i),H,I.tok _,⟨_,rfl⟩,q⟩
def yz:UnR X (unaryOp .USub) (rU λi=>.int (-i)):=unI λ_ _ _ _ _ q=>neg_int q
end
def M9:V->V->Bool
|.non,.non=>G'|.non,.int _=>G'|.int _,.non=>G'|.non,.bl _=>G'|.bl _,.non=>G'|.non,.str _=>G'|.str _,.non=>G'
|.int _,.int _=>G'|.bl _,.bl _=>G'|.str _,.str _=>G'|.byt _,.byt _=>G'
|.int _,.str _=>G'|.str _,.int _=>G'|.bl _,.str _=>G'|.str _,.bl _=>G'
|_,_=>D'
def rEq:R2:=λx y H Q=>M9 x y=G'/\Q (.bl (decide (x=y))) H
def rNe:R2:=λx y H Q=>M9 x y=G'/\Q (.bl (!decide (x=y))) H
def Cq {i j:Int}:decide (V.int i=V.int j)=(i == j):=by
 rw[ON];simp
def Ge {i j:Bool}:decide (V.bl i=V.bl j)=(i == j):=by
 rw[ON];simp
def CP {i j:Str}:decide (V.str i=V.str j)=(i == j):=by
 rw[ON];simp
def D6 {i j:Array UInt8}:decide (V.byt i=V.byt j)=(i.toList == j.toList):=by
 rw[ON];cases i;cases j;simp
section
variable {X:Cx}{a b c:Expr}{ta tb tc:TE}{pos:Pos}
def bw {P2:List (K' × Ow)}{σ:St}{H:Hp}{s:Ng}{Q:VK}{k k':Bool}(I:Inv X P2 σ H s) (q:Q (.bl k) H) (e:k=k'):EP X P2 σ Q (.bool k') s:=by
 subst e;exact⟨.bl k,H,I,rfl,q⟩
def cp:OpR X (Oi .Eq) rEq:=by
 intro P2 s σ H x y v u Q I rx ry h;obtain⟨hs,q⟩:=h;cases x with
|non =>
  cases rx;cases y with
 |non=>cases ry;exact PySem.EqNone.eq_none_none (bw I q (by simp))
 |bl j=>cases ry;exact PySem.EqNone.eq_none_bool (bw I q (by simp))
 |int j=>obtain⟨t',rfl⟩:=ry;exact PySem.EqNone.eq_none_int (bw I q (by simp))
 |str j=>obtain⟨t',rfl⟩:=ry;exact PySem.EqNone.eq_none_str (bw I q (by simp))
 |_=>exact absurd (show D'=G' from hs) Nz
|bl i =>
  cases rx;cases y with
 |non=>cases ry;exact PySem.EqNone.eq_bool_none (bw I q (by simp))
 |bl j=>cases ry;exact eq_bool (bw I q Ge)
 |str j=>obtain⟨t',rfl⟩:=ry;exact PySem.EqMixed.eq_bool_str (bw I q (by simp))
 |_=>exact absurd (show D'=G' from hs) Nz
|int i =>
  obtain⟨t,rfl⟩:=rx;cases y with
 |non=>cases ry;exact PySem.EqNone.eq_int_none (bw I q (by simp))
 |int j=>obtain⟨t',rfl⟩:=ry;exact eq_int (bw I q Cq)
 |str j=>obtain⟨t',rfl⟩:=ry;exact PySem.EqMixed.eq_int_str (bw I q (by simp))
 |_=>exact absurd (show D'=G' from hs) Nz
|str i =>
  obtain⟨t,rfl⟩:=rx;cases y with
 |non=>cases ry;exact PySem.EqNone.eq_str_none (bw I q (by simp))
 |bl j=>cases ry;exact PySem.EqMixed.eq_str_bool (bw I q (by simp))
 |int j=>obtain⟨t',rfl⟩:=ry;exact PySem.EqMixed.eq_str_int (bw I q (by simp))
 |str j=>obtain⟨t',rfl⟩:=ry;exact eq_str (bw I q CP)
 |_=>exact absurd (show D'=G' from hs) Nz
|byt i =>
  obtain⟨t,rfl⟩:=rx;cases y with
 |byt j=>obtain⟨t',rfl⟩:=ry;exact eq_bytes (bw I q D6)
 |_=>exact absurd (show D'=G' from hs) Nz
|_=>cases y<;>exact absurd (show D'=G' from hs) Nz
def oQ:OpR X (Oi .NotEq) rNe:=by
 intro P2 s σ H x y v u Q I rx ry h;obtain⟨hs,q⟩:=h;cases x with
|non =>
  cases rx;cases y with
 |non=>cases ry;exact PySem.EqNone.ne_none_none (bw I q (by simp))
 |bl j=>cases ry;exact PySem.EqNone.ne_none_bool (bw I q (by simp))
 |int j=>obtain⟨t',rfl⟩:=ry;exact PySem.EqNone.ne_none_int (bw I q (by simp))
 |str j=>obtain⟨t',rfl⟩:=ry;exact PySem.EqNone.ne_none_str (bw I q (by simp))
 |_=>exact absurd (show D'=G' from hs) Nz
|bl i =>
  cases rx;cases y with
 |non=>cases ry;exact PySem.EqNone.ne_bool_none (bw I q (by simp))
 |bl j=>cases ry;exact ne_bool (bw I q (congrArg not Ge))
 |str j=>obtain⟨t',rfl⟩:=ry;exact PySem.EqMixed.ne_bool_str (bw I q (by simp))
 |_=>exact absurd (show D'=G' from hs) Nz
|int i =>
  obtain⟨t,rfl⟩:=rx;cases y with
 |non=>cases ry;exact PySem.EqNone.ne_int_none (bw I q (by simp))
 |int j=>obtain⟨t',rfl⟩:=ry;exact ne_int (bw I q (congrArg not Cq))
 |str j=>obtain⟨t',rfl⟩:=ry;exact PySem.EqMixed.ne_int_str (bw I q (by simp))
 |_=>exact absurd (show D'=G' from hs) Nz
|str i =>
  obtain⟨t,rfl⟩:=rx;cases y with
 |non=>cases ry;exact PySem.EqNone.ne_str_none (bw I q (by simp))
 |bl j=>cases ry;exact PySem.EqMixed.ne_str_bool (bw I q (by simp))
 |int j=>obtain⟨t',rfl⟩:=ry;exact PySem.EqMixed.ne_str_int (bw I q (by simp))
 |str j=>obtain⟨t',rfl⟩:=ry;exact ne_str (bw I q (congrArg not CP))
 |_=>exact absurd (show D'=G' from hs) Nz
|byt i =>
  obtain⟨t,rfl⟩:=rx;cases y with
 |byt j=>obtain⟨t',rfl⟩:=ry;exact ne_bytes (bw I q (congrArg not D6))
 |_=>exact absurd (show D'=G' from hs) Nz
|_=>cases y<;>exact absurd (show D'=G' from hs) Nz
def Lv:OpR X (Oi .Lt) (rI0 λi j=>.bl (decide (i < j))):=Ln λ_ _ _ _ _ _ _ q=>lt_int q
def zF:OpR X (Oi .LtE) (rI0 λi j=>.bl (decide (i <= j))):=Ln λ_ _ _ _ _ _ _ q=>le_int q
def Ki:OpR X (Oi .Gt) (rI0 λi j=>.bl (decide (j < i))):=Ln λ_ _ _ _ _ _ _ q=>gt_int q
def Cb:OpR X (Oi .In) (λx y H Q=>∃ i j,x=.str i/\y=.str j/\Q (.bl (!(OQ j i 0 j.length 1).isEmpty)) H):=by
 intro P2 s σ H x y v u Q I rx ry h;obtain⟨i,j,rfl,rfl,q⟩:=h;obtain⟨t,rfl⟩:=rx;obtain⟨t',rfl⟩:=ry;exact in_str (bw I q rfl)
def vi:OpR X (Oi .Is) (λx y H Q=>y=.non/\Q (.bl (decide (x=.non))) H):=by
 intro P2 s σ H x y v u Q I rx ry h;obtain⟨rfl,q⟩:=h;cases ry;refine is_none_gen (bw I q ?_);cases x<;>first
 |(cases rx;rfl)
 |(obtain⟨t,rfl⟩:=rx;rfl)
def pF:OpR X (Oi .IsNot) (λx y H Q=>y=.non/\Q (.bl (!decide (x=.non))) H):=by
 intro P2 s σ H x y v u Q I rx ry h;obtain⟨rfl,q⟩:=h;cases ry;refine isnot_none_gen (bw I q ?_);cases x<;>first
 |(cases rx;rfl)
 |(obtain⟨t,rfl⟩:=rx;rfl)
def ay (b:Expr) {op:CmpOp}(h:op≠.In:=by decide) (h2:op≠.NotIn:=by decide):PB op b=D':=by
 have e1:(op == CmpOp.In)=D':=by cases op<;>first|rfl|exact absurd rfl h
 have e2:(op == CmpOp.NotIn)=D':=by cases op<;>first|rfl|exact absurd rfl h2
 cases b<;>simp[PB,e1,e2]
def cc {op:CmpOp}{r:R2}(ho:OpR X (Oi op) r) (ha:PE X a ta) (hb:PE X b tb) (hm:PB op b=D'):PE X (.Compare a [op] [b] pos) (tOp r ta tb):=by
 intro P2 s σ H Q I h;exact wpAny_Compare1 (Lo ha hb I h λv u s2 x y H2 I2 rx ry q=>ho P2 s2 σ H2 x y v u Q I2 rx ry q) hm
def E7 (t:TE):TT:=λσ H Q=>t σ H λx H'=>∃ k,x=.bl k/\Q k H'
def ar {op:CmpOp}{r:R2}(ho:OpR X (Oi op) r) (ha:PE X a ta) (hb:PE X b tb) (hm:PB op b=D'):PT X (.Compare a [op] [b] pos) (E7 (tOp r ta tb)):=by
 intro P2 s σ H Q I h;refine wpAny_isTrue_Compare1 (thn (ha P2 s σ H _ I h) λv s1 ⟨x,H1,I1,r1,q1⟩=>thn (hb P2 s1 σ H1 _ I1 q1) λu s2 ⟨y,H2,I2,r2,q2⟩ =>
  thn (ho P2 s2 σ H2 x y v u _ I2 r1 r2 q2) λc s3 ⟨z,H3,I3,r3,k,e,q3⟩=>?_) hm
 subst e;cases r3;exact N5 ⟨H3,I3,q3⟩
def Gk (r r':R2) (ta tb tc:TE):TE:=λσ H Q=>ta σ H λx H1=>tb σ H1 λy H2=>r x y H2 λz H3=>∃ k,z=.bl k /\
 (if k=G' then tc σ H3 λw' H4=>r' y w' H4 Q else Q (.bl D') H3)
def DO {op op':CmpOp}{r r':R2}(ho:OpR X (Oi op) r) (ho':OpR X (Oi op') r') (ha:PE X a ta) (hb:PE X b tb) (hc:PE X c tc)
 (hm:lastMarks [op,op'] [b,c]=D':=by with_unfolding_all rfl):PE X (.Compare a [op,op'] [b,c] pos) (Gk r r' ta tb tc):=by
 intro P2 s σ H Q I h;refine Compare_chain (thn (ha P2 s σ H _ I h) λv s1 ⟨x,H1,I1,r1,q1⟩=>chain_link (thn (hb P2 s1 σ H1 _ I1 q1) λu s2 ⟨y,H2,I2,r2,q2⟩ =>
  thn (ho P2 s2 σ H2 x y v u _ I2 r1 r2 q2) λd s3 ⟨z,H3,I3,r3,k,e,q3⟩=>?_)) hm
 subst e;cases r3;refine N5 ?_;cases k with
|false=>exact ite_ff ⟨.bl D',H3,I3,rfl,q3⟩
|true=>exact ite_tt (chain_last (thn (hc P2 s3 σ H3 _ I3 q3) λw' s4 uq4=>by(obtain⟨z',H4,I4,r4,q4⟩:=uq4;exact ho' P2 s4 σ H4 y z' u w' Q I4 r2 r4 q4)))
def yf {op op':CmpOp}{r r':R2}(ho:OpR X (Oi op) r) (ho':OpR X (Oi op') r') (ha:PE X a ta) (hb:PE X b tb) (hc:PE X c tc)
 (hm:lastMarks [op,op'] [b,c]=D':=by with_unfolding_all rfl):PT X (.Compare a [op,op'] [b,c] pos) (E7 (Gk r r' ta tb tc)):=by
 intro P2 s σ H Q I h;refine isTrue_chain (thn (ha P2 s σ H _ I h) λv s1 ⟨x,H1,I1,r1,q1⟩=>test_link (thn (hb P2 s1 σ H1 _ I1 q1) λu s2 ⟨y,H2,I2,r2,q2⟩ =>
  thn (ho P2 s2 σ H2 x y v u _ I2 r1 r2 q2) λd s3 ⟨z,H3,I3,r3,k,e,q3⟩=>?_)) hm
 subst e;cases r3;refine N5 ?_;cases k with
|false =>
  obtain⟨k',e',q'⟩:=q3;cases e';exact ite_ff ⟨H3,I3,q'⟩
|true =>
  refine ite_tt (test_last (thn (hc P2 s3 σ H3 _ I3 q3) λw' s4 ⟨z',H4,I4,r4,q4⟩=>thn (ho' P2 s4 σ H4 y z' u w' _ I4 r2 r4 q4) λd' s5 ur25=>?_));obtain⟨z2,H5,I5,r5,k2,e2,q5⟩:=ur25;subst e2;cases r5;exact N5 ⟨H5,I5,q5⟩
def LX (K:Nh) (x:V) (H:Hp) (k:Bool):Prop :=
 match x with
|.non=>k=D'
|.bl b=>k=b
|.int i=>k=(i != 0)
|.str y=>y.length <= Nl/\k=((y.length:Int) != 0)
|.byt y=>y.size <= Nl/\k=((y.size:Int) != 0)
|.ref p=>(∃ xs,SqL K H p xs/\k=!xs.isEmpty)\/(∃ xs,SqT K H p xs/\k=!xs.isEmpty)\/∃ kvs,H p=f' (.dK kvs)/\k=!kvs.isEmpty
|_=>False
def A8 {κ:Type}{kvs:List (κ × V)}{vs:List (κ × Na)}(r:KV kvs vs):(!vs.isEmpty)=!kvs.isEmpty:=by
 cases r<;>rfl
def sh {xs:List V}{its:List Na}(r:bQ xs its):(!its.toArray.isEmpty)=!xs.isEmpty:=by
 cases r<;>simp
def sP:(Nl:Nat) < 2 ^ 63:=by rw[sizeLine_eq];decide
def IZ:MP X (λx H Q=>∃ k,LX X.K x H k/\Q k H):=by
 intro P2 s σ H x v Q I rx h;obtain⟨k,e,q⟩:=h;have hl:=sP;have hs:Nl=16777216:=sizeLine_eq;cases x with
|non =>
  cases rx;have e':k=D':=e;subst e';exact truthy_none ⟨H,I,q⟩
|bl b =>
  cases rx;have e':k=b:=e;subst e';exact N5 ⟨H,I,q⟩
|int i =>
  obtain⟨t,rfl⟩:=rx;have e':k=(i != 0):=e;subst e';exact PySem.P.truthy_int ⟨H,I,q⟩
|str y =>
  obtain⟨t,rfl⟩:=rx;obtain⟨hy,e'⟩:y.length <= Nl/\k=((y.length:Int) != 0):=e;subst e';exact PySem.P.truthy_str (by omega) ⟨H,I.tok _,q⟩
|byt y =>
  obtain⟨t,rfl⟩:=rx;obtain⟨hy,e'⟩:y.size <= Nl/\k=((y.size:Int) != 0):=e;subst e';exact truthy_bytes (by omega) ⟨H,I.tok _,q⟩
|ref p =>
  cases rx;have e':(∃ xs,SqL X.K H p xs/\k=!xs.isEmpty)\/(∃ xs,SqT X.K H p xs/\k=!xs.isEmpty)\/∃ kvs,H p=f' (.dK kvs)/\k=!kvs.isEmpty:=e;rcases e' with⟨xs,hx,e'⟩|⟨xs,hx,e'⟩|⟨kvs,hx,e'⟩
  . subst e';obtain⟨its,r,pl,hz⟩:=I.list hx;have hlen:=r.length;exact wpAny_truthy_list pl.isList (by simp only[NC];omega) ⟨H,I.tok _,by rw[sh r];exact q⟩
  . subst e';obtain⟨its,r,pl,hz⟩:=I.tuple hx;have hlen:=r.length;exact truthy_tuple pl (by simp only[NC];omega) ⟨H,I.tok _,by rw[sh r];exact q⟩
  . subst e';obtain⟨hz,hS,vs,r,m⟩:kvs.length <= Nl/\(p == OD)=D'/\∃ vs,KV kvs vs/\s.heap.DictOf (bv X.prog X.w) p vs:=I.hok p _ hx;have hlen:kvs.length=vs.length:=NF.length r;exact wpAny_truthy_dict hS m (by omega) ⟨H,I.tok _,by rw[A8 r];exact q⟩
|_=>exact(show False from e).elim
def mG (ha:PE X a ta) (he:∀ whole,isTrue a X.env whole=(do let v <-whole;standAt a.pos;holding [v] (truthy v))) :
 PT X a (λσ H Q=>ta σ H λx H'=>∃ k,LX X.K x H' k/\Q k H'):=by
 intro P2 s σ H Q I h;exact isTrue_plain (thn (ha P2 s σ H _ I h) λv s1 uq5=>by(obtain⟨x,H1,I1,r1,q1⟩:=uq5;exact IZ P2 s1 σ H1 x v Q I1 r1 q1)) (he _)
def Al:OpR X (binaryOp .Add) (λx y H Q=>∃ i j,x=.str i/\y=.str j/\i.length+j.length <= Nl/\Q (.str (i++j)) H):=by
 intro P2 s σ H x y v u Q I rx ry h;obtain⟨i,j,rfl,rfl,hz,q⟩:=h;obtain⟨t,rfl⟩:=rx;obtain⟨t',rfl⟩:=ry;exact add_str (λt' tk=>⟨.str (i++j),H,I.tok _,⟨_,rfl⟩,q⟩) hz
def mO {x:V}{us:List Na}(r:bQ [x] us):∃ u,us=[u]/\cw x u:=by
 cases r with
|cons r1 r2=>cases r2;exact⟨_,rfl,r1⟩
def GT {x y:V}{us:List Na}(r:bQ [x,y] us):∃ u w',us=[u,w']/\cw x u/\cw y w':=by
 cases r with
|cons r1 r2 =>
  cases r2 with
 |cons r3 r4=>cases r4;exact⟨_,_,rfl,r1,r3⟩
def pq:mW X (.type "int") (λxs H Q=>(∃ i,xs=[.int i]/\Q (.int i) H)\/∃ k,xs=[.bl k]/\Q (.int (if k then 1 else 0)) H):=by
 intro P2 s σ H xs us Q I r h;rcases h with⟨i,rfl,q⟩|⟨k,rfl,q⟩
 . obtain⟨u,rfl,t,rfl⟩:=mO r;exact call_int_int ⟨.int i,H,I,⟨_,rfl⟩,q⟩
 . obtain⟨u,rfl,r1⟩:=mO r;cases r1;exact call_int_bool ⟨.int (if k then 1 else 0),H,I.tok _,⟨_,rfl⟩,q⟩
end
structure ObjM (h:NI) (x dx C:K') (mA:Str->Option Na):Prop where
 obj:h.get? x=f' (instObj C dx)
 ns:h.Ns1 dx mA
 ne:dx≠x
def Ds {h:NI}{dx:K'}{mA:Str->Option Na}(n:h.Ns1 dx mA):∃ od,h.get? dx=f' od/\∀ name,lookIn name od=f' (mA name):=by
 obtain⟨o,es,ep,ho,hd,hk,_,hm⟩:=n;refine⟨o,ho,λname=>?_⟩;have e:=hm name;unfold nsFind findBy at e;rw[<-Array.find?_toList]at e;unfold lookIn;rw[hd];dsimp only;split
 . rename_i y q;rw[q]at e;exact congrArg f' e
 . rename_i q;rw[q]at e;have a:es.toList.any (·.refKey)=D':=by
    rw[List.any_eq_false];intro y hy;obtain⟨z,t,hkey⟩:=hk y (Array.mem_toList_iff.mp hy);simp[NU.refKey,hkey]
   have a':¬ es.toList.any (·.refKey)=G':=by rw[a];exact Nz
   rw[Vd a'];exact congrArg f' e
def ObjM.look {h:NI}{x dx C:K'}{mA:Str->Option Na}(I:ObjM h x dx C mA):∃ od,InstAt h x (instObj C dx) C (f' od)/\∀ name,lookIn name od=f' (mA name) :=
 let ⟨od,ho,hl⟩:=Ds I.ns
 ⟨od,⟨I.obj,rfl,rfl,ho⟩,hl⟩
section
variable {prog:ND}{w:Nt}{A:NN}{E:Na->Ng->Prop}{s:Ng}{K:Nh}{x dx C f:K'}{mA:Str->Option Na}{name:Str}{v:Na}
def IF {expr:Bool}{Q:Na->Ng->Prop}(X:K.In s.heap) (I:ObjM s.heap x dx C mA) (hg:plainGet K C name=G') (hh:hasDictIn K C=G')
 (ha:Ol K (.ref C) name=f' Nf) (hv:mA name=f' v) (hv':handedIn v=G') (h:Q v { s with toks:=s.toks+1 }) :
 Nq (model prog w) A (getAttr (.ref x) name expr) Q E s:=by
 obtain⟨od,J,hl⟩:=I.look;exact get_value X J (plainGet_of hg).1 (findObj_own hh ha rfl (by rw[hl,hv])) hv' h
def Fj {pl:Sem Bool}{Q:Na × List Na->Ng->Prop}(X:K.In s.heap) (I:ObjM s.heap x dx C mA) (hg:plainGet K C name=G')
 (hf:Ol K (.ref C) name=f' (f' (.ref f))) (ht:isFn K (.ref f)=G') (hv:mA name=Nf) (h:Q (.ref f,[.ref x]) s) :
 Nq (model prog w) A (getMethod (.ref x) name pl) Q E s:=by
 obtain⟨od,J,hl⟩:=I.look;exact method_fn X J (plainGet_of hg).1 (plainGet_of hg).2 hf (beq_iff_eq.mp ht) (by show (lookIn name od).map (·.isSome)=f' D';rw[hl,hv];rfl) h
def HN {ns:List Str}{Q:Unit->Ng->Prop}(X:K.In s.heap) (I:ObjM s.heap x dx C mA)
 (hs:Ol K (.ref C) "__setattr__"=f' (f' (.builtin "object.__setattr__"))) (hp:plainOver K C=G') (ht:takerIn K C name=f' Nf) (hh:hasDictIn K C=G')
 (hw:PySem.Within mA ns) (hsz:ns.length <= Nl)
 (h:∀ h',ObjM h' x dx C (λy=>if y=name then f' v else mA y)->Ox dx s.heap h'->Q () { s with heap:=h',toks:=s.toks+2 }) :
 Nq (model prog w) A (setAttr (.ref x) name v) Q E s:=by
 obtain⟨od,J,hl⟩:=I.look;refine set_plain X J hs (osa_open (s:={ s with toks:=s.toks+1 }) (r:=Nf) X J hp ht λb=>?_);obtain⟨cd,hc,hd'⟩:=any_some hh;have hx:s.heap.get? x=f' ⟨.ref C,f' dx,.plain,#[]⟩:=I.obj;refine j' (Nc (j' (j' (wpAny_loadPart hx (j' (PySem.W.Looks.here (s:={ s with toks:=s.toks+1 }) (looks_clsIn X hc) ?_))))));rw[hd'];refine Nc (a:=f' dx) (j' (Nc (j' ?_)));refine wpAny_nsSet1 (s:={ s with toks:=s.toks+1 }) I.ns λh' hn2 hs2=>?_
 obtain⟨oD,esD,epD,hoD,hdD,hcD⟩:=hn2.count (PySem.Within.cons name v hw);refine j' (wpAny_lookBehind hoD (by rw[hdD];exact pastItsLine_dict (NS hcD (by rw[NM];omega))) ?_);exact Nc (h _ ⟨(hs2.2 _ (Pg I.ne)).trans I.obj,hn2,I.ne⟩ hs2)
def Fv {R:Result->Ng->Prop}{vs:List Na}{kw:List (Str × Na)}(X:K.In s.heap) (hm:makesIn K C=G')
 (hi:Ol K (.ref C) "__init__"=f' (f' (.ref f))) (hf:typeIn K (.ref f)=f' (.type "function"))
 (h:codeAny (model prog w) (A.under (.builtin "type.__call__" ⟨.ref C :: vs,kw⟩)) (.call (.ref f) ⟨.ref (s.heap.objs.size+1) :: vs,kw⟩) (InitBack (s.heap.objs.size+1) R)
  { s with heap:=(s.heap.push emptyDict).push (instObj C s.heap.objs.size) }) :
 codeAny (model prog w) A (.call (.ref C) ⟨vs,kw⟩) R s:=by
 obtain⟨hh,g,d,t,os⟩:=s;exact make_core (makes_of X hm) (PySem.W.looks_findIn X hi) (λself=>bind_fn X self hf) (.inl rfl) h
end
def bp (f:Str) (v:V):List (Str × V)->List (Str × V)
|[]=>[(f,v)]
|(g,x) :: r=>if g=f then (g,v) :: r else (g,x) :: bp f v r
theorem a9 (f g:Str) (v:V):∀ fs:List (Str × V),(bp f v fs).lookup g=if g=f then f' v else fs.lookup g
|[]=>by
  show List.lookup g [(f,v)]=_;by_cases h:g=f
  . have hb:(g == f)=G':=beq_iff_eq.mpr h;simp only[List.lookup,hb,Vc h]
  . have hb:(g == f)=D':=beq_eq_false_iff_ne.mpr h;simp only[List.lookup,hb,Vd h]
|(k,x) :: r=>by
  have ih:=a9 f g v r;rw[show bp f v ((k,x) :: r)=(if k=f then (k,v) :: r else (k,x) :: bp f v r) from rfl];by_cases hk:k=f
  . rw[Vc hk];by_cases h:g=k
    . have hb:(g == k)=G':=beq_iff_eq.mpr h;simp only[List.lookup,hb,Vc (h.trans hk)]
    . have hb:(g == k)=D':=beq_eq_false_iff_ne.mpr h;simp only[List.lookup,hb,Vd (λe:g=f=>h (e.trans hk.symm))]
  . rw[Vd hk];by_cases h:g=k
    . have hb:(g == k)=G':=beq_iff_eq.mpr h;simp only[List.lookup,hb,Vd (λe:g=f=>hk (h.symm.trans e))]
    . have hb:(g == k)=D':=beq_eq_false_iff_ne.mpr h;simp only[List.lookup,hb];exact ih
theorem qU (f:Str) (v:V):∀ fs:List (Str × V),f∈(bp f v fs).map (·.1)/\∀ g,g∈fs.map (·.1)->g∈(bp f v fs).map (·.1)
|[]=>⟨by simp[bp],λg h=>by simp at h⟩
|(k,x) :: r=>by
  obtain⟨i1,i2⟩:=qU f v r;rw[show bp f v ((k,x) :: r)=(if k=f then (k,v) :: r else (k,x) :: bp f v r) from rfl];by_cases hk:k=f
  . rw[Vc hk];subst hk;exact⟨by simp,λg h=>by simpa using h⟩
  . rw[Vd hk];refine⟨?_,λg h=>?_⟩
    . rw[Oy];exact Nw _ i1
    . rw[Oy]at h |-;rcases NA.mp h with e|e
      . exact NA.mpr (.inl e)
      . exact Nw _ (i2 g e)
theorem pN (f:Str) (v:V):∀ fs:List (Str × V),(bp f v fs).length <= fs.length+1
|[]=>by simp[bp]
|(k,x) :: r=>by
  have ih:=pN f v r;rw[show bp f v ((k,x) :: r)=(if k=f then (k,v) :: r else (k,x) :: bp f v r) from rfl];by_cases hk:k=f
  . rw[Vc hk,NM,NM];omega
  . rw[Vd hk,NM,NM];omega
def wL.some_of {v:V}{o:Option Na}(r:wL (f' v) o):∃ u,o=f' u/\cw v u:=by
 cases o with
|none=>exact(show False from r).elim
|some u=>exact⟨u,rfl,r⟩
def wL.none_of {o:Option Na}(r:wL Nf o):o=Nf:=by
 cases o with
|none=>rfl
|some u=>exact(show False from r).elim
def BK {v:V}{u:Na}(r:cw v u):handedIn u=G':=by
 cases v with
|non=>cases (show u=Of from r);rfl
|bl b=>cases (show u=Na.bool b from r);rfl
|int i=>obtain⟨t,e⟩:=(show ∃ t,u=Na.int i t from r);cases e;rfl
|str x=>obtain⟨t,e⟩:=(show ∃ t,u=Na.str x t from r);cases e;rfl
|byt b=>obtain⟨t,e⟩:=(show ∃ t,u=Na.bytes b t from r);cases e;rfl
|flt b=>obtain⟨t,e⟩:=(show ∃ t,u=Na.float b t from r);cases e;rfl
|ref a=>cases (show u=NP a from r);rfl
|ty n=>cases (show u=Na.type n from r);rfl
section
variable {P:ND}{w:Nt}{H H':Hp}{h h':NI}{a C dx:K'}{fs fs':List (Str × V)}
def tH (hok:HOk P w H h) (e:H a=f' (.ins C dx fs)):∃ mA,ObjM h a dx C mA/\(∀ f,wL (fs.lookup f) (mA f))/\PySem.Within mA (fs.map (·.1))/\fs.length <= 1000/\H dx=f' (.own a):=by
 obtain⟨d,z,ne,ob,mA,n,r,q⟩:=(show dB P w H h a (.ins C dx fs) from hok a _ e)
 exact⟨mA,⟨ob,n,ne⟩,r,q,z,d⟩
end
structure Cls (K:Nh) (C:K'):Prop where
 pg:plainGet K C Str.empty=G'
 hd:hasDictIn K C=G'
 po:plainOver K C=G'
 sa:Ol K (.ref C) "__setattr__"=f' (f' (.builtin "object.__setattr__"))
def Cls.get {K:Nh}{C:K'}(c:Cls K C) (f:Str):plainGet K C f=G':=c.pg
def aV (K:Nh) (C:K') (f:Str):Prop:=Ol K (.ref C) f=f' Nf
def aV.taker {K:Nh}{C:K'}{f:Str}(n:aV K C f):takerIn K C f=f' Nf:=by
 unfold takerIn;rw[show Ol K (.ref C) f=f' Nf from n];rfl
structure Meth (K:Nh) (C:K') (m:Str) (f:K'):Prop where
 at_:Ol K (.ref C) m=f' (f' (.ref f))
 fn:isFn K (.ref f)=G'
 kp:keepIn K (.ref f)=G'
section
variable {X:Cx}{P2:List (K' × Ow)}{σ:St}{H:Hp}{s:Ng}{a C dx:K'}{fs:List (Str × V)}{f:Str}{v:V}{A:NN}{E:Na->Ng->Prop}
def AS {b:Bool}{Q:Na->Ng->Prop}(I:Inv X P2 σ H s) (e:H a=f' (.ins C dx fs)) (c:Cls X.K C) (n:aV X.K C f) (l:fs.lookup f=f' v)
 (h:∀ u s',Inv X P2 σ H s'->cw v u->Q u s'):Nq (model X.prog X.w) A (getAttr (.ref a) f b) Q E s:=by
 obtain⟨mA,O,r,_,_,_⟩:=tH I.hok e;obtain⟨u,hu,ru⟩:=wL.some_of (v:=v) (o:=mA f) (by rw[<-l];exact r f);exact IF I.kIn O (c.get f) c.hd n hu (BK ru) (h u _ (I.tok _) ru)
def nk {m:Str}{g:K'}{pl:Sem Bool}{Q:Na × List Na->Ng->Prop}(I:Inv X P2 σ H s) (e:H a=f' (.ins C dx fs)) (c:Cls X.K C) (k:Meth X.K C m g) (l:fs.lookup m=Nf)
 (h:Q (.ref g,[.ref a]) s):Nq (model X.prog X.w) A (getMethod (.ref a) m pl) Q E s:=by
 obtain⟨mA,O,r,_,_,_⟩:=tH I.hok e;have hn:mA m=Nf:=wL.none_of (by rw[<-l];exact r m);exact Fj I.kIn O (c.get m) k.at_ k.fn hn h
def Af {y:V}{u:Na}{Q:Unit->Ng->Prop}(I:Inv X P2 σ H s) (e:H a=f' (.ins C dx fs)) (c:Cls X.K C) (n:aV X.K C f) (hl:fs.length < 1000) (ry:cw y u)
 (h:∀ s',Inv X P2 σ (upd H a (.ins C dx (bp f y fs))) s'->Q () s'):Nq (model X.prog X.w) A (setAttr (.ref a) f u) Q E s:=by
 obtain⟨mA,O,r,wi,_,ho⟩:=tH I.hok e;have hz:(fs.map (·.1)).length <= Nl:=by rw[Nu,sizeLine_eq];omega
 refine HN I.kIn O c.sa c.po n.taker c.hd wi hz λh' O' sb=>h _ ?_
 have hd:∃ o,h'.get? dx=f' o:=let ⟨o,_,_,e',_⟩:=O'.ns;⟨o,e'⟩;refine I.write (x:=a) (e:=dx) (by rw[e];exact O6) (.inr ho) (λb q hb z=>(sb.2 b hb).trans z) hd ?_;refine⟨by rw[ae O.ne];exact ho,?_,O.ne,O'.obj,_,O'.ns,λg=>?_,λg hg=>?_⟩
 . have:=pN f y fs;omega
 . show wL ((bp f y fs).lookup g) (if g=f then f' u else mA g);rw[a9];by_cases q:g=f
   . rw[Vc q,Vc q];exact ry
   . rw[Vd q,Vd q];exact r g
 . by_cases q:g=f
   . rw[q];exact(qU f y fs).1
   . refine(qU f y fs).2 g (wi g λz=>hg ?_);show (if g=f then f' u else mA g)=Nf;rw[Vd q];exact z
def Inv.made (I:Inv X P2 σ H s):Inv X P2 σ (upd (upd H s.heap.objs.size (.own (s.heap.objs.size+1))) (s.heap.objs.size+1) (.ins C s.heap.objs.size []))
 { s with heap:=(s.heap.push emptyDict).push (instObj C s.heap.objs.size) }:=by
 have e1:(s.heap.push emptyDict).get? s.heap.objs.size=f' emptyDict:=Nr s.heap rfl;have e2:((s.heap.push emptyDict).push (instObj C s.heap.objs.size)).get? (s.heap.objs.size+1)=f' (instObj C s.heap.objs.size):=by
  have:=Nr (s.heap.push emptyDict) (o:=instObj C s.heap.objs.size) rfl;rwa [N9]at this
 have e3:(s.heap.push emptyDict).Ns s.heap.objs.size (λ_=>Nf):=⟨emptyDict,#[],_,e1,rfl,(λe he=>absurd he (by simp)),λ_=>rfl⟩
 have I1:=I.laid (a:=s.heap.objs.size) (o:=.own (s.heap.objs.size+1)) (h':=s.heap.push emptyDict) (t':=s.toks) (λb u q=>Nb _ q) (Nm _) ⟨_,e1⟩;refine I1.laid (a:=s.heap.objs.size+1) (o:=.ins C s.heap.objs.size []) (t':=s.toks) (λb u q=>Nb _ q) (Nat.le_of_eq (N9 _ _)) ?_;have ne:s.heap.objs.size≠s.heap.objs.size+1:=NZ (lt_succ_self _);refine⟨by rw[ae ne,a8],Ou _,ne,e2,λ_=>Nf,(NI.Ns1.of_empty e3).at λo q=>Nb _ q,λ_=>O6,λy hy=>absurd rfl hy⟩
def IK {prog:ND}{w:Nt}{env:Env}{e:Expr}{f:Str}{pos:Pos}{s:Ng}{Q:Na->Ng->Prop}(hb:attributeBase e f env (eval e env)=eval e env)
 (h:Nq (model prog w) A (eval e env) (λo s₁=>Nq (model prog w) A (getAttr o f G') Q E s₁) E s):Nq (model prog w) A (eval (.Attribute e f pos) env) Q E s :=
 Attribute_any_ h (by rw[arm_eval_Attribute,hb])
end
def MU (K:Nh) (ta:TE) (f:Str):TE:=λσ H Q=>ta σ H λx H1=>∃ a C dx fs v,x=.ref a/\H1 a=f' (.ins C dx fs)/\Cls K C/\aV K C f/\fs.lookup f=f' v/\Q v H1
def Mr (K:Nh) (ta tv:TE) (f:Str):TS:=λD σ H=>tv σ H λy H1=>ta σ H1 λx H2=>∃ a C dx fs,x=.ref a/\H2 a=f' (.ins C dx fs)/\Cls K C/\aV K C f/\fs.length < 1000 /\
 D.nx σ (upd H2 a (.ins C dx (bp f y fs)))
section
variable {X:Cx}{o e value:Expr}{f:Str}{pos pos' tpos:Pos}{ta tv:TE}
def ak (he:PE X e ta) (hb:attributeBase e f X.env (eval e X.env)=eval e X.env):PE X (.Attribute e f pos) (MU X.K ta f):=by
 intro P2 s σ H Q I h;refine IK hb (thn (he P2 s σ H _ I h) λu s1 ur26=>?_);obtain⟨x,H1,I1,rx,a,C,dx,fs,v,ex,ea,c,n,l,q⟩:=ur26;subst ex;obtain rfl:u=NP a:=rx;exact AS I1 ea c n l λu' s2 I2 ru=>⟨v,H1,I2,ru,q⟩
def bo (ha:PE X o ta) (hv:PE X value tv) (hs:swapsWith value (f' (.Attribute o f pos')) pos.line X.env=pure D'):PS X (.Assign [.Attribute o f pos'] value pos) (Mr X.K ta tv f):=by
 intro P2 s σ H D I h;refine plainObj_wpAny_Assign_Attribute (thn (hv P2 s σ H _ I h) λu s1 ⟨y,H1,I1,ry,q⟩=>thn (ha P2 s1 σ H1 _ I1 q) λov s2 ur27=>?_) hs;obtain⟨x,H2,I2,rx,a,C,dx,fs,ex,ea,c,n,l,q2⟩:=ur27;subst ex;obtain rfl:ov=NP a:=rx;exact Af I2 ea c n l ry λs3 I3=>⟨σ,_,I3,q2⟩
end
section
variable {X:Cx}{P2:List (K' × Ow)}{σ:St}{H:Hp}{s:Ng}{A:NN}{E:Na->Ng->Prop}{Q:Na->Ng->Prop}{c:Na}{b:Bool}
inductive TyOf (K:Nh) (H:Hp):V->Na->Prop where
|non:TyOf K H .non (.type "NoneType")
|bl (x:Bool):TyOf K H (.bl x) (.type "bool")
|int (i:Int):TyOf K H (.int i) (.type "int")
|str (x:Str):TyOf K H (.str x) (.type "str")
|flt (x:UInt64):TyOf K H (.flt x) (.type "float")
|lst {a:K'} {xs:List V} (e:H a=f' (.lst xs)):TyOf K H (.ref a) (.type "list")
|frz {a:K'} {o:Ow} {xs:List V} (e:H a=f' (.frz o (.lst xs))):TyOf K H (.ref a) (.type "list")
|tup {a:K'} {xs:List V} (e:H a=f' (.tup xs)):TyOf K H (.ref a) (.type "tuple")
|dK {a:K'} {kvs:List (Key × V)} (e:H a=f' (.dK kvs)):TyOf K H (.ref a) (.type "dict")
|dT {a:K'} {kvs:List (List Key × V)} (e:H a=f' (.dT kvs)):TyOf K H (.ref a) (.type "dict")
|ins {a C dx:K'} {fs:List (Str × V)} (e:H a=f' (.ins C dx fs)) (cl:Cls K C) (ha:Ol K (.ref C) "__class__"=f' (f' (.builtin "object.__class__")))
  (hn:specialIn K (.builtin "object.__class__") "__get__"=f' (f' (.builtin "getset_descriptor.__get__"))) (htk:takesIn K (.builtin "object.__class__")=f' G')
  (hm:PySem.W.mroIn K C (.type "object")=f' G'):TyOf K H (.ref a) (.ref C)
def Bm {x:V}{u t:Na}(I:Inv X P2 σ H s) (rx:cw x u) (ty:TyOf X.K H x t) (e:kitOne X.K t c=f' b) (h:∀ tk,Q (.bool b) { s with toks:=tk }) :
 Nq (model X.prog X.w) A (call (.builtin "isinstance") [u,c]) Q E s:=by
 cases ty with
|non=>cases (show u=Of from rx);exact kia_one kitx_none I.kIn O6 e (λz=>nomatch z) h
|bl y=>cases (show u=Na.bool y from rx);exact kia_one kitx_bool I.kIn O6 e (λz=>nomatch z) h
|int i=>obtain⟨t,q⟩:=(show ∃ t,u=Na.int i t from rx);cases q;exact kia_one kitx_int I.kIn O6 e (λz=>nomatch z) h
|str y=>obtain⟨t,q⟩:=(show ∃ t,u=Na.str y t from rx);cases q;exact kia_one kitx_str I.kIn O6 e (λz=>nomatch z) h
|flt y=>obtain⟨t,q⟩:=(show ∃ t,u=Na.float y t from rx);cases q;exact kia_one kitx_float I.kIn O6 e (λz=>nomatch z) h
|@lst a xs ea =>
  cases (show u=NP a from rx);obtain⟨_,_,n,_,h1⟩:=(show dB X.prog X.w H s.heap a (.lst xs) from I.hok a _ ea)
  exact kia_one kitx_list I.kIn ⟨_,h1,rfl⟩ e (λz=>nomatch z) h
|@frz a ob xs ea =>
  cases (show u=NP a from rx);obtain⟨_,_,_,n,_,h1⟩:=(show dB X.prog X.w H s.heap a (.frz ob (.lst xs)) from I.hok a _ ea)
  exact kia_one kitx_list I.kIn ⟨_,h1,rfl⟩ e (λz=>nomatch z) h
|@tup a xs ea =>
  cases (show u=NP a from rx);obtain⟨_,_,_,p⟩:=(show dB X.prog X.w H s.heap a (.tup xs) from I.hok a _ ea)
  obtain⟨o,h1,h2,_⟩:=p;exact kia_one kitx_tuple I.kIn ⟨o,h1,h2⟩ e (λz=>nomatch z) h
|@dK a kvs ea =>
  cases (show u=NP a from rx);obtain⟨_,_,vs,_,p⟩:=(show dB X.prog X.w H s.heap a (.dK kvs) from I.hok a _ ea)
  obtain⟨o,es,ep,h1,h2,_⟩:=p;exact kia_one kitx_dict I.kIn ⟨o,h1,h2.1⟩ e (λz=>nomatch z) h
|@dT a kvs ea =>
  cases (show u=NP a from rx);obtain⟨_,_,xs,_,o,es,ep,h1,h2,_⟩:=(show dB X.prog X.w H s.heap a (.dT kvs) from I.hok a _ ea)
  exact kia_one kitx_dict I.kIn ⟨o,h1,h2.1⟩ e (λz=>nomatch z) h
|@ins a C dx fs ea cl ha hn htk hm =>
  cases (show u=NP a from rx);obtain⟨mA,O,_⟩:=tH I.hok ea;obtain⟨od,J,_⟩:=O.look;exact kia_one (kitx_own (cl.get _) cl.hd ha hn htk hm) I.kIn J e (λz=>nomatch z) h
end
structure Room (k:Nat) (A:NN):Prop where
 hd:A.handled=Nf
 dp:A.depth+3 * k+5 < recursionLimit
 un:A.units+16 * k+200 < PJ
def Room.mono {j k:Nat}{A:NN}(r:Room k A) (h:j <= k):Room j A:=⟨r.hd,by have:=r.dp;omega,by have:=r.un;omega⟩
theorem Room.deeper {k:Nat}{A:NN}(r:Room (k+1) A) (env:Env):Room k (A.deeper env) :=
 ⟨r.hd,by have:=r.dp;show A.depth+1+3 * k+5 < _;omega,by have:=r.un;show A.units+3+16 * k+200 < _;omega⟩
def zJ {A:NN}{C:K'}{us:List Na}{kw:List (Str × Na)}:(A.under (.builtin "type.__call__" ⟨.ref C :: us,kw⟩)).depth=A.depth+1:=by
 first|rfl|simp[NN.under,Code.weight,Code.isCreation,Code.isGuard,Code.isCaller,Code.frames,Code.isFrame,guardIds]
def A0 {A:NN}{C:K'}{us:List Na}{kw:List (Str × Na)}:(A.under (.builtin "type.__call__" ⟨.ref C :: us,kw⟩)).units=A.units+1:=by
 first|rfl|simp[NN.under,Code.cUnits,Code.frames,Code.isFrame]
def Room.make {k:Nat}{A:NN}(r:Room (k+1) A) (C:K') (us:List Na) (kw:List (Str × Na)):Room k (A.under (.builtin "type.__call__" ⟨.ref C :: us,kw⟩)) :=
 ⟨r.hd,by have:=r.dp;rw[zJ];omega,by have:=r.un;rw[A0];omega⟩
theorem Room.depth {k:Nat}{A:NN}(r:Room k A):A.depth < recursionLimit:=by have:=r.dp;omega
theorem Room.units {k:Nat}{A:NN}(r:Room k A):A.units+64 < PJ:=by have:=r.un;omega
def AU:TA:=λ_ H Q=>Q [] H
def li (ta:TE) (tr:TA):TA:=λσ H Q=>ta σ H λx H1=>tr σ H1 λxs H2=>Q (x :: xs) H2
section
variable {X:Cx}{e:Expr}{es:List Expr}{te:TE}{t:TA}{pos:Pos}
def aa:PA X [] AU:=λ_ _ _ _ H Q I h=>Py ⟨[],H,I,.nil,h⟩
def Hk (ha:PE X e te) (hr:PA X es t) (hs:NR (e :: es) X.env=(D',eval e X.env) :: NR es X.env:=by rfl):PA X (e :: es) (li te t):=by
 intro pos P2 s σ H Q I h;rw[hs];show Nq _ _ (spliced ((D',eval e X.env) :: PF pos (NR es X.env))) _ _ s;refine OE (thn (ha P2 s σ H _ I h) λu s1 ur28=>?_);obtain⟨x,H1,I1,r1,q1⟩:=ur28;exact thn (hr pos P2 s1 σ H1 _ I1 q1) λus s2 uq6=>by(obtain⟨xs,H2,I2,r2,q2⟩:=uq6;exact ⟨x :: xs,H2,I2,.cons r1 r2,q2⟩)
def LY (t:TA):TE:=λσ H Q=>t σ H λxs H1=>xs.length <= Nl/\∀ p,H1 p=Nf->Q (.ref p) (upd H1 p (.tup xs))
def Mu (t:TA):TE:=λσ H Q=>t σ H λxs H1=>xs.length <= Nl/\∀ p,H1 p=Nf->Q (.ref p) (upd H1 p (.lst xs))
def bi {x1}(h:PA X es t):PE X (.Tuple es x1 pos) (LY t):=by
 intro P2 s σ H Q I hq;refine wpAny_Tuple_spliced (thn (h pos P2 s σ H _ I hq) λus s1 ⟨xs,H1,I1,r,z,q⟩=>⟨by rw[<-r.length];exact z,?_⟩);have hf:H1 s1.heap.objs.size=Nf:=I1.hok.fresh (Nm _);refine⟨.ref s1.heap.objs.size,upd H1 s1.heap.objs.size (.tup xs),I1.laid (t':=s1.toks) (λb u e=>Nb _ e) (Nm _) ?_,rfl,q _ hf⟩;exact⟨z,us,r,⟨_,Nr _ rfl,rfl,_,rfl⟩⟩
def bG (h:PA X es t):PE X (.List es pos) (Mu t):=by
 intro P2 s σ H Q I hq;refine wpAny_List_spliced (thn (h pos P2 s σ H _ I hq) λus s1 ⟨xs,H1,I1,r,z,q⟩=>⟨by rw[<-r.length];exact z,?_⟩);have hf:H1 s1.heap.objs.size=Nf:=I1.hok.fresh (Nm _);refine⟨.ref s1.heap.objs.size,upd H1 s1.heap.objs.size (.lst xs),I1.laid (t':=s1.toks) (λb u e=>Nb _ e) (Nm _) ?_,rfl,q _ hf⟩;exact⟨z,us,0,r,Nr _ rfl⟩
end
abbrev Sp:=List V->Hp->VK->XK->Prop
abbrev CXT:=List Env->Hp->Ng->XK->Na->Ng->Prop
structure Env0 (P:ND) (w:Nt) (K:Nh) (mg:Str->Option Na) (base:NI) (A:NN) (outer:List Env) (s:Ng) (H:Hp):Prop where
 frames:A.frames=f' outer
 mod:Mod K mg base
 bs:∀ b o,base.get? b=f' o->s.heap.get? b=f' o/\H b=Nf
 bsz:base.objs.size <= s.heap.objs.size
 funs:s.heap.FunFrames base outer
 frf:∀ b∈frs outer,H b=Nf
 hok:HOk P w H s.heap
 bare:AllBare s.gens
def CE (outer:List Env) (P:ND) (w:Nt) (H:Hp) (s:Ng) (Q:VK) (u:Na) (s':Ng):Prop :=
 ∃ v H',s'.os=s.os/\AllBare s'.gens/\Un (frs outer) [] H H' s.heap s'.heap/\HOk P w H' s'.heap/\cw v u/\Q v H'
def CR (CX:CXT) (outer:List Env) (P:ND) (w:Nt) (H:Hp) (s:Ng) (Q:VK) (E:XK) (r:Result) (s':Ng):Prop :=
 match r with
|.ok (.ret u)=>CE outer P w H s Q u s'
|.ok _=>False
|.error e=>CX outer H s E e s'
structure FnOk (P:ND) (w:Nt) (K:Nh) (mg:Str->Option Na) (base:NI) (CX:CXT) (k:Nat) (f:K') (fd:Np) (ps:List Str) (sp:Sp):Prop where
 len:∀ vs H Q E,sp vs H Q E->vs.length=ps.length
 run:∀ (A:NN) (outer:List Env) (s:Ng) (H:Hp) (args:Args) (us:List Na) (vs:List V) (Q:VK) (E:XK),Room k A->Env0 P w K mg base A outer s H->BindsTo s fd args (ps.zip us)->bQ vs us->sp vs H Q E ->
  codeAny (model P w) A (.call (.ref f) args) (CR CX outer P w H s Q E) s
def FnOk.imp {P:ND}{w:Nt}{K:Nh}{mg:Str->Option Na}{base:NI}{CX:CXT}{k:Nat}{f:K'}{fd:Np}{ps:List Str}{sp sp':Sp}(F:FnOk P w K mg base CX k f fd ps sp)
 (h:∀ vs H Q E,sp' vs H Q E->sp vs H Q E):FnOk P w K mg base CX k f fd ps sp' :=
 ⟨λvs H Q E q=>F.len vs H Q E (h _ _ _ _ q),λA outer s H args us vs Q E hr he hb hv hs=>F.run A outer s H args us vs Q E hr he hb hv (h _ _ _ _ hs)⟩
def Env0.make {P:ND}{w:Nt}{K:Nh}{mg:Str->Option Na}{base:NI}{A:NN}{outer:List Env}{s:Ng}{H:Hp}(e:Env0 P w K mg base A outer s H) (C:K') (us:List Na) (kw:List (Str × Na)) :
 Env0 P w K mg base (A.under (.builtin "type.__call__" ⟨.ref C :: us,kw⟩)) outer s H:=⟨by first|exact e.frames|(simpa [NN.under,Code.envs,Code.isFrame,pushEnvs] using e.frames),e.mod,e.bs,e.bsz,e.funs,e.frf,e.hok,e.bare⟩
section
variable {X:Cx}{P2:List (K' × Ow)}{σ:St}{H:Hp}{s s':Ng}
def Inv.env0 (I:Inv X P2 σ H s):Env0 X.prog X.w X.K X.mg X.base X.A X.stack s H :=
 ⟨I.ok.frames,I.ok.mod,I.bs,NS I.ok.bsz I.sz,I.stack,I.stkFree,I.hok,I.bare⟩
def Inv.after {Q:VK}{u:Na}(I:Inv X P2 σ H s) (h:CE X.stack X.prog X.w H s Q u s'):EP X P2 σ Q u s':=by
 obtain⟨v,H',os,bare,un,hok,r,q⟩:=h;obtain⟨hh,g,d,t,os'⟩:=s';obtain rfl:os'=s.os:=os;exact⟨v,H',I.call (h':=hh) (g':=g) (d':=d) (t':=t) (ch:=[]) un hok bare (λb z=>absurd z (by simp)),r,q⟩
end
def uY (sp:Sp) (dvs:List V) (E:XK) (t:TA):TE:=λσ H Q=>t σ H λvs H1=>sp (vs++dvs) H1 Q E
def Jv (C:K') (m:Str) (sp:Sp) (dvs:List V) (E:XK) (ta:TE) (t:TA):TE:=λσ H Q=>ta σ H λx H1=>∃ a dx fs,x=.ref a/\H1 a=f' (.ins C dx fs)/\fs.lookup m=Nf /\
 t σ H1 λvs H2=>sp (x :: (vs++dvs)) H2 Q E
def Jl (C:K') (sp:Sp) (dvs:List V) (E:XK) (t:TA):TE:=λσ H Q=>t σ H λvs H1=>∀ x dx,H1 x=Nf->H1 dx=Nf->dx≠x ->
 sp (.ref x :: (vs++dvs)) (upd (upd H1 dx (.own x)) x (.ins C dx [])) (λv H2=>v=.non/\Q (.ref x) H2) E
def aB (K:Nh) (fd:Np) (ps:List Str) (ds:List Na):Prop :=
 ∀ (s:Ng) (us:List Na),K.In s.heap->(us++ds).length=ps.length->BindsTo s fd ⟨us,[]⟩ (ps.zip (us++ds))
def aB.all {K:Nh}{fd:Np}{ps:List Str}(h:∀ us:List Na,us.length=ps.length->bindArgs fd ⟨us,[]⟩=pure (ps.zip us)):aB K fd ps []:=λs us _ hl=>by
 rw[O5]at hl |-;exact .of_eq (h us hl)
def lz (CX:CXT) (X:Cx) (E:XK):Prop:=∀ (P2:List (K' × Ow)) (σ:St) (H:Hp) (s:Ng) (e:Na) (s':Ng),Inv X P2 σ H s->CX X.stack H s E e s'->X.xe e s'
section
variable {X:Cx}{CX:CXT}{k:Nat}{f C:K'}{fd:Np}{ps:List Str}{sp:Sp}{dvs:List V}{ds:List Na}{E:XK}{x m:Str}{p pos apos:Pos}{e o:Expr}{es:List Expr}{ta:TE}{t:TA}
def D8 {P2:List (K' × Ow)}{σ:St}{H:Hp}{s:Ng}{Q:VK}{us:List Na}{vs:List V}(F:FnOk X.prog X.w X.K X.mg X.base CX k f fd ps sp) (hr:Room k X.A) (hb:aB X.K fd ps ds) (hd:bQ dvs ds) (hx:lz CX X E)
 (I:Inv X P2 σ H s) (r:bQ vs us) (h:sp (vs++dvs) H Q E):Nq (model X.prog X.w) X.A (call (.ref f) us) (EP X P2 σ Q) X.xe s:=by
 have r2:bQ (vs++dvs) (us++ds):=r.append hd;have hl:(us++ds).length=ps.length:=by rw[<-r2.length];exact F.len _ _ _ _ h
 refine wpAny_call (codeAny_mono (F.run X.A X.stack s H ⟨us,[]⟩ (us++ds) (vs++dvs) Q E hr I.env0 (hb s us I.kIn hl) r2 h) λr s' hq=>?_);cases r with
|error e=>exact hx P2 σ H s e s' I hq
|ok fl =>
  cases fl with
 |ret u=>exact I.after hq
 |next=>exact OC hq
 |brk=>exact OC hq
 |cont=>exact OC hq
def au (F:FnOk X.prog X.w X.K X.mg X.base CX k f fd ps sp) (hr:Room k X.A) (hg:Gl X x) (hm:X.mg x=f' (.ref f)) (hk:keepIn X.K (.ref f)=G') (hb:aB X.K fd ps ds) (hd:bQ dvs ds) (hx:lz CX X E)
 (ha:PA X (e :: es) t) (hdb:(x == ("__debug__":Str))=D':=by decide) (he:NR (e :: es) X.env=(D',eval e X.env) :: NR es X.env:=by rfl) (hpl:(PF pos (NR es X.env)).any (·.1)=D':=by rfl) :
 PE X (.Call (.Name x p) (e :: es) [] pos) (uY sp dvs E t):=by
 intro P2 s σ H Q I h;refine PM (fJ I hg hm ?_ hdb);refine callWith_K (h₀:=X.base) I.ok.mod.kin hk (thn (ha pos P2 s σ H _ I h) λus s1 ⟨vs,H1,I1,r,q⟩=>⟨I1.kIn,?_⟩) he hpl;exact D8 F hr hb hd hx I1 r q
def av {pl:Sem Bool}(he:PE X o ta) (c:Cls X.K C) (hm:Meth X.K C m f) (F:FnOk X.prog X.w X.K X.mg X.base CX k f fd ps sp) (hr:Room k X.A) (hb:aB X.K fd ps ds) (hd:bQ dvs ds) (hx:lz CX X E) (ha:PA X (e :: es) t)
 (hst:NR (e :: es) X.env=(D',eval e X.env) :: NR es X.env:=by rfl) (hpl:(PF pos (NR es X.env)).any (·.1)=D':=by rfl)
 (ht:eval (.Call (.Attribute o m apos) (e :: es) [] pos) X.env=(do
  let ov <-eval o X.env
  standAt apos.atName
  let (f,first) <-holding [ov] (getMethod ov m pl)
  callWith pos f first (PF pos (NR (e :: es) X.env)) (backToKw pos (keywordEach [] X.env))):=by rfl) :
 PE X (.Call (.Attribute o m apos) (e :: es) [] pos) (Jv C m sp dvs E ta t):=by
 intro P2 s σ H Q I h;refine methodCall_KW (pl:=pl) (thn (he P2 s σ H _ I h) λu s1 ur29=>?_) ht;obtain⟨x,H1,I1,rx,a,dx,fs,ex,ea,l,q⟩:=ur29;subst ex;obtain rfl:u=NP a:=rx;refine nk I1 ea c hm l ?_;refine callWith_K (first:=[.ref a]) (h₀:=X.base) I.ok.mod.kin hm.kp (thn (ha pos P2 s1 σ H1 _ I1 q) λus s2 ⟨vs,H2,I2,r,q2⟩=>⟨I2.kIn,?_⟩) hst hpl;exact D8 (us:=.ref a :: us) (vs:=.ref a :: vs) F hr hb hd hx I2 (.cons rfl r) q2
def aS {pl:Sem Bool}(he:PE X o ta) (c:Cls X.K C) (hm:Meth X.K C m f) (F:FnOk X.prog X.w X.K X.mg X.base CX k f fd ps sp) (hr:Room k X.A) (hb:aB X.K fd ps ds) (hd:bQ dvs ds) (hx:lz CX X E)
 (ht:eval (.Call (.Attribute o m apos) [] [] pos) X.env=(do
  let ov <-eval o X.env
  standAt apos.atName
  let (f,first) <-holding [ov] (getMethod ov m pl)
  callWith pos f first (PF pos (NR [] X.env)) (backToKw pos (keywordEach [] X.env))):=by rfl) :
 PE X (.Call (.Attribute o m apos) [] [] pos) (Jv C m sp dvs E ta AU):=by
 intro P2 s σ H Q I h;refine methodCall_KW (pl:=pl) (thn (he P2 s σ H _ I h) λu s1 ur30=>?_) ht;obtain⟨x,H1,I1,rx,a,dx,fs,ex,ea,l,q⟩:=ur30;subst ex;obtain rfl:u=NP a:=rx;refine nk I1 ea c hm l ?_;exact callWith_K0 (first:=[.ref a]) I1.kIn hm.kp (D8 (us:=[.ref a]) (vs:=[.ref a]) F hr hb hd hx I1 (.cons rfl .nil) q)
structure Mk (K:Nh) (C f:K'):Prop where
 makes:makesIn K C=G'
 init:Ol K (.ref C) "__init__"=f' (f' (.ref f))
 fn:isFn K (.ref f)=G'
 kp:keepIn K (.ref C)=G'
def yW {P2:List (K' × Ow)}{σ:St}{H:Hp}{s:Ng}{Q:VK}{us:List Na}{vs:List V}(M:Mk X.K C f) (F:FnOk X.prog X.w X.K X.mg X.base CX k f fd ps sp) (hr:Room (k+1) X.A) (hb:aB X.K fd ps ds) (hd:bQ dvs ds)
 (hx:lz CX X E) (I:Inv X P2 σ H s) (r:bQ vs us)
 (h:∀ x dx,H x=Nf->H dx=Nf->dx≠x->sp (.ref x :: (vs++dvs)) (upd (upd H dx (.own x)) x (.ins C dx [])) (λv H2=>v=.non/\Q (.ref x) H2) E) :
 Nq (model X.prog X.w) X.A (call (.ref C) us) (EP X P2 σ Q) X.xe s:=by
 have hq:=h (s.heap.objs.size+1) s.heap.objs.size (I.hok.fresh (le_succ _)) (I.hok.fresh (Nm _)) (NZ (lt_succ_self _));have I2:=Inv.made (C:=C) I;have r2:bQ (V.ref (s.heap.objs.size+1) :: (vs++dvs)) (NP (s.heap.objs.size+1) :: (us++ds)):=.cons rfl (r.append hd);have hl:(NP (s.heap.objs.size+1) :: us++ds).length=ps.length:=by
  have e:=r2.length;rw[F.len _ _ _ _ hq]at e;exact e.symm
 refine wpAny_call (Fv (f:=f) I.kIn M.makes M.init (beq_iff_eq.mp M.fn) (codeAny_mono (F.run _ X.stack _ _ ⟨NP (s.heap.objs.size+1) :: us,[]⟩ (NP (s.heap.objs.size+1) :: (us++ds)) _ _ E (hr.make C us [])
  (I2.env0.make C us []) (hb _ (NP (s.heap.objs.size+1) :: us) I2.kIn hl) r2 hq) λr s' hq'=>?_))
 cases r with
|error e=>exact hx P2 σ _ _ e s' I2 hq'
|ok fl =>
  cases fl with
 |ret u =>
   obtain⟨v,H',I3,rv,ev,q3⟩:=I2.after hq';subst ev;exact⟨rv,⟨V.ref (s.heap.objs.size+1),H',I3,rfl,q3⟩⟩
 |next=>exact OC hq'
 |brk=>exact OC hq'
 |cont=>exact OC hq'
def kG (M:Mk X.K C f) (F:FnOk X.prog X.w X.K X.mg X.base CX k f fd ps sp) (hr:Room (k+1) X.A) (hg:Gl X x) (hm:X.mg x=f' (.ref C)) (hb:aB X.K fd ps ds) (hd:bQ dvs ds) (hx:lz CX X E)
 (ha:PA X (e :: es) t) (hdb:(x == ("__debug__":Str))=D':=by decide) (he:NR (e :: es) X.env=(D',eval e X.env) :: NR es X.env:=by rfl) (hpl:(PF pos (NR es X.env)).any (·.1)=D':=by rfl) :
 PE X (.Call (.Name x p) (e :: es) [] pos) (Jl C sp dvs E t):=by
 intro P2 s σ H Q I h;refine PM (fJ I hg hm ?_ hdb);refine callWith_K (h₀:=X.base) I.ok.mod.kin M.kp (thn (ha pos P2 s σ H _ I h) λus s1 ⟨vs,H1,I1,r,q⟩=>⟨I1.kIn,?_⟩) he hpl;exact yW M F hr hb hd hx I1 r q
def pp (M:Mk X.K C f) (F:FnOk X.prog X.w X.K X.mg X.base CX k f fd ps sp) (hr:Room (k+1) X.A) (hg:Gl X x) (hm:X.mg x=f' (.ref C)) (hb:aB X.K fd ps ds) (hd:bQ dvs ds) (hx:lz CX X E)
 (hdb:(x == ("__debug__":Str))=D':=by decide):PE X (.Call (.Name x p) [] [] pos) (Jl C sp dvs E AU):=by
 intro P2 s σ H Q I h;refine PM (fJ I hg hm ?_ hdb);exact callWith_K0 I.kIn M.kp (yW (us:=[]) M F hr hb hd hx I .nil h)
end
section
variable {X:Cx}{CX:CXT}{k:Nat}{f C:K'}{fd:Np}{ps ks:List Str}{sp:Sp}{E:XK}{x m:Str}{p pos apos kpos:Pos}{e o:Expr}{es:List Expr}{kws:List Keyword}{te ta:TE}{t tk:TA}{nm:Option Str}
variable {g:List Na->List Na->List Na}{gV:List V->List V->List V}
end
structure FnScope (N P:List Str) (sc:Scope):Prop where
 kind:sc.kind=.function
 co:sc.isCoroutine=D'
 gen:sc.isGenerator=D'
 nd:N.Nodup
 pre:N.take P.length=P
 par:∀ x∈P,sc.names.lookup x=f' .local\/sc.names.lookup x=f' .cell
 nofree:∀ y∈sc.names,y.2≠.free
theorem vj {kindOf:Str->Option NameKind}{x:Str}:∀ {binds:List (Str × Na)}{m:Str->Option Na},(∀ v,(x,v) ∉ binds)->bindL kindOf binds m x=m x
|[],_,_=>rfl
|(n,v) :: r,m,h=>by
  unfold bindL;rw[vj λw hw=>h w (Nw _ hw)];split
  . have:x≠n:=by rintro rfl;exact h v Nv
    simp[this]
  . rfl
theorem vR {kindOf:Str->Option NameKind}{x:Str}:∀ {binds:List (Str × Na)}{m:Str->Option Na},(∀ v,(x,v) ∉ binds)->bindC kindOf binds m x=m x
|[],_,_=>rfl
|(n,v) :: r,m,h=>by
  unfold bindC;rw[vR λw hw=>h w (Nw _ hw)];split
  . rfl
  . have:x≠n:=by rintro rfl;exact h v Nv
    simp[this]
theorem wc {kindOf:Str->Option NameKind}{x:Str}{v:Na}:∀ {P:List Str}{vs:List Na}{i:Nat}{m:Str->Option Na},P.Nodup->P[i]?=f' x->vs[i]?=f' v->kindOf x=f' .local ->
 bindL kindOf (P.zip vs) m x=f' v
|[],_,_,_,_,h,_,_=>by simp at h
|_ :: _,[],_,_,_,_,h,_=>by simp at h
|p :: P,w :: vs,0,m,nd,h1,h2,hk=>by
  simp at h1 h2;subst h1;subst h2;show bindL kindOf ((p,w) :: P.zip vs) m p=_;unfold bindL;rw[vj λv hv=>(Pc.mp nd).1 (of_mem_zip hv).1,Vc hk];simp
|p :: P,w :: vs,i+1,m,nd,h1,h2,hk=>by
  show bindL kindOf ((p,w) :: P.zip vs) m x=_;unfold bindL;exact wc (i:=i) (Pc.mp nd).2 (by simpa using h1) (by simpa using h2) hk
theorem w6 {kindOf:Str->Option NameKind}{x:Str}{v:Na}:∀ {P:List Str}{vs:List Na}{i:Nat}{m:Str->Option Na},P.Nodup->P[i]?=f' x->vs[i]?=f' v->kindOf x≠f' .local ->
 bindC kindOf (P.zip vs) m x=f' v
|[],_,_,_,_,h,_,_=>by simp at h
|_ :: _,[],_,_,_,_,h,_=>by simp at h
|p :: P,w :: vs,0,m,nd,h1,h2,hk=>by
  simp at h1 h2;subst h1;subst h2;show bindC kindOf ((p,w) :: P.zip vs) m p=_;unfold bindC;rw[vR λv hv=>(Pc.mp nd).1 (of_mem_zip hv).1,Vd hk];simp
|p :: P,w :: vs,i+1,m,nd,h1,h2,hk=>by
  show bindC kindOf ((p,w) :: P.zip vs) m x=_;unfold bindC;exact w6 (i:=i) (Pc.mp nd).2 (by simpa using h1) (by simpa using h2) hk
def sW (N:List Str) (vs:List V):St:=vs.map f'++replicate (N.length - vs.length) Nf
def G7 (CX:CXT) (P:ND) (w:Nt) (K:Nh) (mg:Str->Option Na) (base:NI) (N:List Str) (qual:Str) (scope:Scope) (f:K') (cd:Na) (A:NN) (outer:List Env) (s:Ng) (H:Hp) (E:XK):Cx where
 prog:=P
 w:=w
 K:=K
 mg:=mg
 base:=base
 A:=A.deeper (envOfC qual scope s.heap.objs.size f cd)
 N:=N
 s₀:=s
 H₀:=H
 env:=envOfC qual scope s.heap.objs.size f cd
 outer:=outer
 stack:=envOfC qual scope s.heap.objs.size f cd :: outer
 ex:=[]
 calm:=G'
 fn:=λ_=>G'
 pn:=[]
 xe:=λe s'=>Nq (model P w) (A.deeper (envOfC qual scope s.heap.objs.size f cd)) (leaving (envOfC qual scope s.heap.objs.size f cd) e) (λ_ s''=>CX outer H s E e s'') (λe' s''=>CX outer H s E e' s'') s'
def ze {sc:Scope}{n:Nat}{x:Str}(h:sc.names.lookup x=f' .cell):∃ c,(cellsFrom n sc.names []).lookup x=f' c:=by
 have q:=cellsFrom_some sc.names n [] (.inl h);exact Option.isSome_iff_exists.mp q
def Bn {CX:CXT}{P:ND}{w:Nt}{K:Nh}{mg:Str->Option Na}{base:NI}{N ps:List Str}{qual:Str}{scope:Scope}{f:K'}{cd:Na}{A:NN}{outer:List Env}{s s1:Ng}{H:Hp}{E:XK}{us:List Na}{vs:List V}
 (S:FnScope N ps scope) (hd:A.handled=Nf) (e0:Env0 P w K mg base A outer s H) (hl:vs.length=ps.length) (r:bQ vs us)
 (x:InCallC s s.heap.objs.size (bindL (envOfC qual scope s.heap.objs.size f cd).kindOf (ps.zip us) λ_=>Nf) (cellsFrom (s.heap.objs.size+1) scope.names []) (bindC (envOfC qual scope s.heap.objs.size f cd).kindOf (ps.zip us) λ_=>Nf) s1) :
 Inv (G7 CX P w K mg base N qual scope f cd A outer s H E) [] (sW N vs) H s1:=by
 have hpl:ps.length <= N.length:=by have:=congrArg O8 S.pre;rw[OI]at this;omega
 obtain⟨h1,tk,rfl,hk⟩:=x.done;have noA:∀ b:K',b ∉ (G7 CX P w K mg base N qual scope f cd A outer s H E).ex:=λb z=>absurd (show b∈([]:List K') from z) (by simp)
 refine⟨⟨e0.mod,S.kind,rfl,rfl,Nm _,λy z c h1 h2=>?_,λy hy=>?_,λy c _ h=>?_,λ_=>hd,NN.frames_deeper e0.frames,.inr ⟨rfl,rfl⟩,λb z=>absurd z (noA b),e0.bs,e0.bsz,λb _ _=>noA b,λb z=>absurd z (noA b),e0.funs,e0.frf⟩,
  rfl,e0.bare,Un.kept hk,⟨_,x.toInCall.ns,λi y v h1 h2 h3=>?_⟩,λy c h=>⟨_,x.cell y c h⟩,e0.hok.fresh (Nm _),λy c h=>?_,λp hp=>absurd (show p∈([]:List (K' × Ow)) from hp) (by simp),e0.hok.kept hk,?_⟩
 . exact name_of_addr x.apart (PySem.mem_of_lookup h1) (PySem.mem_of_lookup h2)
 . have hy:scope.names.lookup y=f' .cell\/scope.names.lookup y=f' .free:=hy;rcases hy with hy|hy
   . exact ze hy
   . exact absurd rfl (S.nofree _ (PySem.mem_of_lookup hy))
 . exact Nat.le_of_lt (x.above y c (PySem.mem_of_lookup h))
 . have hi:i < vs.length:=by
    unfold sW at h2;by_cases hi:i < vs.length
    . exact hi
    . rw[List.getElem?_append_right (by simpa using hi)]at h2;rw[List.getElem?_replicate]at h2;split at h2<;>cases h2
   have ha:vs[i]?=f' v:=by
    unfold sW at h2;rw[List.getElem?_append_left (by simpa using hi),NL]at h2;cases e:vs[i]? with
   |none=>rw[e]at h2;cases h2
   |some a=>rw[e]at h2;cases h2;rfl
   obtain⟨u,hu,rv⟩:=r.get ha;have hp:ps[i]?=f' y:=by
    rw[<-S.pre,List.getElem?_take_of_lt (by omega)];exact h1
   have ndP:ps.Nodup:=by rw[<-S.pre];exact S.nd.sublist (List.take_sublist _ _)
   refine⟨u,rv,?_⟩;rcases S.par y (N1 hp) with k|k
   . exact .inl ⟨k,wc ndP hp hu k⟩
   . obtain⟨c,e⟩:=ze (n:=s.heap.objs.size+1) k;refine .inr ⟨.inl k,c,e,?_⟩;have q:=x.cell y c e;rw[w6 ndP hp hu (by show scope.names.lookup y≠_;rw[k];decide)]at q;exact q
 . exact e0.hok.fresh (Nat.le_of_lt (x.above y c (PySem.mem_of_lookup h)))
 . unfold sW;show _=N.length;rw[Nj,Nu,O0];omega
def Kx {CX:CXT}{P:ND}{w:Nt}{K:Nh}{mg:Str->Option Na}{base:NI}{k:Nat}{f:K'}{name qual:Str}{params:Arguments}{body:List NX}{scope:Scope}{dV kV doc pm cdv ct oc:Na}{an od:Option K'}
 {osl:Array (Option Na)} {N ps:List Str} {sp:Sp} (lk:K.lookup f=f' ⟨oc,od,.func (fnOf name qual params body scope dV kV doc pm an cdv ct),osl⟩) (hcd:codeIn K cdv qual=G') (S:FnScope N ps scope)
 (len:∀ vs H Q E,sp vs H Q E->vs.length=ps.length)
 (hbody:∀ (A:NN) (outer:List Env) (s:Ng) (H:Hp) (vs:List V) (Q:VK) (E:XK),Room k (A.deeper (envOfC qual scope s.heap.objs.size f cdv))->sp vs H Q E ->
  ∃ t,PSs (G7 CX P w K mg base N qual scope f cdv A outer s H E) body t/\t { nx:=λ_ H'=>Q .non H',rt:=Q } (sW N vs) H) :
 FnOk P w K mg base CX (k+1) f (fnOf name qual params body scope dV kV doc pm an cdv ct) ps sp:=by
 refine⟨len,λA outer s H args us vs Q E hr e0 hb r hsp=>?_⟩;have hl:=len _ _ _ _ hsp;have KX:K.In s.heap:=e0.mod.kin.keeps λb o e=>(e0.bs b o e).1
 have lim:s.heap.NoLimit:=e0.mod.nolimit.keeps λb o e=>(e0.bs b o e).1
 have hkind:∀ y∈ps.zip us,scope.names.lookup y.1=f' .local\/(scope.names.lookup y.1=f' .cell/\((cellsFrom (s.heap.objs.size+1) scope.names []).lookup y.1).isSome=G'):=λ⟨n,v⟩ hy=>by
  rcases S.par n (of_mem_zip hy).1 with q|q
  . exact .inl q
  . exact .inr ⟨q,cellsFrom_some _ _ _ (.inl q)⟩
 refine codeAny_call_function hr.depth (KX _ _ lk) rfl S.co S.gen rfl (codeRec_of KX hcd) (hb _ _ _ _ ?_);refine wpAny_newFunctionEnv_cells S.kind hkind λenv he s1 x=>?_
 subst he;refine⟨lim.keeps x.toInCall.keep,codeAny_func ?_⟩;obtain⟨t,ht,hq⟩:=hbody A outer s H vs Q E (hr.deeper _) hsp;have I:Inv (G7 CX P w K mg base N qual scope f cdv A outer s H E) [] (sW N vs) H s1:=Bn S hr.hd e0 hl r x;refine PL (ht [] s1 (sW N vs) H _ I hq) (λfl s' hs=>?_) λe s' hs=>hs
 have fin:∀ {σ':St} {H':Hp} {v:V} {u:Na},Inv (G7 CX P w K mg base N qual scope f cdv A outer s H E) [] σ' H' s'->cw v u->Q v H'->CE outer P w H s Q u s' :=
  λ{σ' H' v u} J rv q=>⟨v,H',J.os,J.bare,J.base,J.hok,rv,q⟩
 cases fl with
|ret u =>
  obtain⟨v,σ',H',J,rv,q⟩:=hs;exact fin J rv q
|next =>
  obtain⟨σ',H',J,q⟩:=hs;exact fin (v:=V.non) (u:=Of) J rfl q
|brk =>
  obtain⟨_,_,_,q⟩:=hs;exact OC q
|cont =>
  obtain⟨_,_,_,q⟩:=hs;exact OC q
section
variable {X:Cx}{x:Str}{p pos:Pos}{e:Expr}{es:List Expr}{t:TA}{id T:String}{r:List V->Hp->VK->Prop}
def tCB (r:List V->Hp->VK->Prop) (t:TA):TE:=λσ H Q=>t σ H λvs H1=>r vs H1 Q
def aN (hc:mW X (.builtin id) r) (hg:Gl X x) (hm:X.mg x=Nf) (hv:Oa x=f' (.builtin id)) (ha:PA X (e :: es) t) (hn:x≠"__name__":=by decide) (hdb:(x == ("__debug__":Str))=D':=by decide)
 (he:NR (e :: es) X.env=(D',eval e X.env) :: NR es X.env:=by rfl) (hpl:(PF pos (NR es X.env)).any (·.1)=D':=by rfl):PE X (.Call (.Name x p) (e :: es) [] pos) (tCB r t):=by
 intro P2 s σ H Q I h;refine PM (om I hg hm hv ?_ hn hdb);exact PyProof.Rows.callWith_builtin1 (thn (ha pos P2 s σ H _ I h) λus s1 uq7=>by(obtain⟨vs,H1,I1,r1,q1⟩:=uq7;exact hc P2 s1 σ H1 vs us Q I1 r1 q1)) he hpl
def aR (hc:mW X (.type T) r) (hg:Gl X x) (hm:X.mg x=Nf) (hv:Oa x=f' (.type T)) (ha:PA X (e :: es) t) (hn:x≠"__name__":=by decide) (hdb:(x == ("__debug__":Str))=D':=by decide)
 (he:NR (e :: es) X.env=(D',eval e X.env) :: NR es X.env:=by rfl) (hpl:(PF pos (NR es X.env)).any (·.1)=D':=by rfl):PE X (.Call (.Name x p) (e :: es) [] pos) (tCB r t):=by
 intro P2 s σ H Q I h;refine PM (om I hg hm hv ?_ hn hdb);exact Oz (thn (ha pos P2 s σ H _ I h) λus s1 uq8=>by(obtain⟨vs,H1,I1,r1,q1⟩:=uq8;exact hc P2 s1 σ H1 vs us Q I1 r1 q1)) he hpl
end
end L2
namespace HT
open PySem PyProof.Rows
section
open PySem.SeqAt
open PySem.AutoSeq1 (wpAny_loadPart')
open PySem.MeetsSeq PySem.MeetsSeq2 PySem.MeetsSeq3
end
section
variable {prog:ND}{w:Nt}{A:NN}{E:Na->Ng->Prop}{s:Ng}
def sIx (n d:Nat):Option Int->Nat
|none=>d
|some v=>if v < 0 then (v+(n:Int)).toNat else min v.toNat n
def sIx_nat (n d k:Nat):sIx n d (f' (k:Int))=min k n:=by
 show (if (k:Int) < 0 then ((k:Int)+(n:Int)).toNat else min (k:Int).toNat n)=min k n;rw[Vd (by omega),toNat_natCast]
def Kz (n d:Nat) (hd:d <= n) (o:Option Int):sIx n d o <= n:=by
 cases o with
|none=>exact hd
|some v =>
  show (if v < 0 then (v+(n:Int)).toNat else min v.toNat n) <= n;by_cases hv:v < 0
  . rw[Vc hv];omega
  . rw[Vd hv];exact Nat.min_le_right _ _
def Cj (v:Int) (n d:Nat):(if v < 0 then max (v+(n:Int)) 0 else min v (n:Int))=((sIx n d (f' v):Nat):Int):=by
 show (if v < 0 then max (v+(n:Int)) 0 else min v (n:Int))=(((if v < 0 then (v+(n:Int)).toNat else min v.toNat n):Nat):Int)
 by_cases hv:v < 0
 . simp only[Vc hv];omega
 . simp only[Vd hv];omega
def A1 (lo hi:Option Int) (n:Nat):Builtin.Slice.sliceAdjust lo hi 1 (n:Int)=(((sIx n 0 lo:Nat):Int),((sIx n n hi:Nat):Int)):=by
 have h1:¬ ((1:Int) < 0):=by omega
 unfold Builtin.Slice.sliceAdjust;simp only[h1,if_false];refine Prod.ext ?_ ?_
 . cases lo with
  |none=>rfl
  |some v=>exact Cj v n 0
 . cases hi with
  |none=>rfl
  |some v=>exact Cj v n n
def Ah (i j:Nat):Builtin.Slice.slicePlaces (i:Int) (j:Int) 1=j - i:=by
 unfold Builtin.Slice.slicePlaces;have h1:(1:Int) > 0:=by omega
 simp only[h1,if_true,Int.ediv_one];split<;>omega
def sQ {v:Na}{o:Option Int}{Q:Option Int->Ng->Prop}(p:IsPart v o) (h:Q o s):Nq (model prog w) A (Builtin.Slice.slicePartIndex v) Q E s:=by
 cases p with
|none=>exact slicePart_none h
|int i t=>exact slicePart_int h
def oO {sl:K'}{vl vu:Na}{lo hi:Option Int}{n:Nat}{Q:Int × Int × Nat->Ng->Prop}(hs:s.heap.IsSliceOf sl vl vu .none) (pl:IsPart vl lo) (pu:IsPart vu hi)
 (h:Q (((sIx n 0 lo:Nat):Int),1,sIx n n hi - sIx n 0 lo) s):Nq (model prog w) A (Builtin.Slice.sliceApplied (.ref sl) (pure (n:Int))) Q E s:=by
 obtain⟨os,hos,hcs,hds⟩:=id hs;unfold Builtin.Slice.sliceApplied Builtin.Slice.sliceFields;refine j' (j' (OK hos hds (x:=vl) rfl (j' (OK hos hds (x:=vu) rfl (j' (OK hos hds (x:=.none) rfl (Nc ?_)))))));refine j' (slicePart_none ?_);show Nq _ _ (if ((1:Int) == 0)=G' then _ else _) _ _ s;rw[Vd (by decide)];refine j' (sQ pl (j' (sQ pu (j' (Nc ?_)))));show Nq _ _ (match Builtin.Slice.sliceAdjust lo hi 1 (n:Int) with|(lo,hi)=>pure (lo,(1:Int),Builtin.Slice.slicePlaces lo hi 1)) _ _ s;rw[A1 lo hi n];show Nq _ _ (pure (((sIx n 0 lo:Nat):Int),(1:Int),Builtin.Slice.slicePlaces ((sIx n 0 lo:Nat):Int) ((sIx n n hi:Nat):Int) 1)) _ _ s;rw[Ah];exact Nc h
def DM (xs:Array Na) (i k:Nat):((PQ k).filterMap λ(m:Nat)=>xs[((i:Int)+(m:Int) * 1).toNat]?).toArray=((xs.toList.drop i).take k).toArray:=by
 have e:(λ(m:Nat)=>xs[((i:Int)+(m:Int) * 1).toNat]?)=λm=>xs[i+m]?:=by
  funext m;have:((i:Int)+(m:Int) * 1).toNat=i+m:=by omega
  rw[this]
 rw[e];have:=pick_run xs i k;rw[List.filterMap_map]at this;have e2:((λx=>xs[x]?) ∘ λx=>i+x)=λm=>xs[i+m]?:=rfl
 rw[e2]at this;rw[this]
def getItem_tuple_cut {t sl:K'}{items:Array Na}{vl vu:Na}{lo hi:Option Int}{Q:Na->Ng->Prop}(ht:IsTup s.heap t items) (hs:s.heap.IsSliceOf sl vl vu .none) (pl:IsPart vl lo) (pu:IsPart vu hi)
 (hw:¬ (sIx items.size 0 lo=0/\sIx items.size items.size hi=items.size))
 (h:Q (.ref s.heap.objs.size) { s with heap:=s.heap.push { cls:=.type "tuple",data:=.seq ((items.toList.drop (sIx items.size 0 lo)).take (sIx items.size items.size hi - sIx items.size 0 lo)).toArray } })
 (hsz:items.size <= Nl):Nq (model prog w) A (getItem (.ref t) (.ref sl)) Q E s:=by
 have htake:sizeOk (.seq ((items.toList.drop (sIx items.size 0 lo)).take (sIx items.size items.size hi - sIx items.size 0 lo)).toArray):=by
  show ((items.toList.drop (sIx items.size 0 lo)).take (sIx items.size items.size hi - sIx items.size 0 lo)).toArray.size <= Nl;rw[NC,OI,length_drop,NO];omega
 have hj:sIx items.size items.size hi <= items.size:=Kz _ _ (Nm _) hi;obtain⟨os,hos,hcs,hds⟩:=id hs;have hTs:s.TypeIs (.ref sl) "slice":=⟨os,hos,hcs⟩
 unfold getItem
 try with_reducible refine N2 ?_
 first|refine j' (Nc ?_)|skip
 refine j' (wpAny_sequenceKey ht.typeIs (by decide) ?_);refine j' (NY (name:=N3 "__getitem__") ht.typeIs PyProof.Rows.slot_tuple_getitem
  (NT PyProof.Rows.slot_tuple_getitem ht.typeIs entry_tuple_getitem ?_ (args_tuple_getitem _ _)))
 show Nq _ _ (Builtin.Tuple.tupleItemsOf (.ref t) >>= _) _ _ s;refine j' (tupleItemsOf_ ht ?_);refine j' (wpAny_typeOf hTs ?_);rw[Vc (by decide)];refine j' (oO hs pl pu ?_);have hno:¬ ((((sIx items.size 0 lo:Nat):Int) == 0 && (1:Int) == 1 && (sIx items.size items.size hi - sIx items.size 0 lo) == items.size)=G'):=by
  intro q;rw[Om,Om]at q;have q1:((sIx items.size 0 lo:Nat):Int)=0:=eq_of_beq q.1.1;have q2:sIx items.size items.size hi - sIx items.size 0 lo=items.size:=eq_of_beq q.2;exact hw ⟨by omega,by omega⟩
 show Nq _ _ (if (((sIx items.size 0 lo:Nat):Int) == 0 && (1:Int) == 1 && (sIx items.size items.size hi - sIx items.size 0 lo) == items.size)=G' then _ else _) _ _ s;rw[Vd hno,DM]
 first
 |exact j' (m:=Builtin.Tuple.tupleExact _) (Ob (Nc ⟨_,rfl,Nc h⟩) htake)
 |exact j' (m:=Builtin.Tuple.tupleExact _) (Ob (j' (Nc (Nc ⟨_,rfl,Nc h⟩))) htake)
 |exact j' (j' (m:=Builtin.Tuple.tupleExact _) (Ob (Nc (Nc ⟨_,rfl,Nc h⟩)) htake))
 |exact j' (j' (m:=Builtin.Tuple.tupleExact _) (Ob (Nc ⟨_,rfl,Nc h⟩) htake))
end
end HT
namespace L2
open PySem PySem.Spec PyProof.Rows
abbrev TO:=St->Hp->(Option Int->Hp->Prop)->Prop
def PO (X:Cx) (e:Option Expr) (t:TO):Prop :=
 ∀ (P2:List (K' × Ow)) (s:Ng) (σ:St) (H:Hp) (Q:Option Int->Hp->Prop),Inv X P2 σ H s->t σ H Q ->
  Nq (model X.prog X.w) X.A (evalPart e X.env) (λu s'=>∃ o H',Inv X P2 σ H' s'/\IsPart u o/\Q o H') X.xe s
def HP:TO:=λ_ H Q=>Q Nf H
def Lx (t:TE):TO:=λσ H Q=>t σ H λx H1=>∃ i,x=.int i/\Q (f' i) H1
section
variable {X:Cx}{e:Expr}{te:TE}{lo hi:Option Expr}{tl th:TO}{pos p2:Pos}
def iw:PO X Nf HP:=by
 intro P2 s σ H Q I h;rw[evalPart_none];exact Nc ⟨Nf,H,I,.none,h⟩
def eB (h:PE X e te):PO X (f' e) (Lx te):=by
 intro P2 s σ H Q I hw;rw[evalPart_some];refine thn (h P2 s σ H _ I hw) λu s1 ur31=>?_
 obtain⟨x,H1,I1,r1,q1⟩:=ur31;obtain⟨i,rfl,q⟩:=q1;obtain⟨t,rfl⟩:=r1;exact⟨f' i,H1,I1,.int i t,q⟩
def SlR (X:Cx) (r:V->Option Int->Option Int->Hp->VK->Prop):Prop :=
 ∀ (P2:List (K' × Ow)) (s:Ng) (σ:St) (H:Hp) (x:V) (v vl vu:Na) (lo hi:Option Int) (sl:K') (Q:VK),Inv X P2 σ H s->cw x v->s.heap.IsSliceOf sl vl vu .none->IsPart vl lo->IsPart vu hi->r x lo hi H Q ->
  ∃ T id,typeLookup (.type T) "__getitem__"=pure (f' (.builtin id))/\s.TypeIs v T/\Nq (model X.prog X.w) X.A (getItem v (.ref sl)) (EP X P2 σ Q) X.xe s
def tSl (r:V->Option Int->Option Int->Hp->VK->Prop) (te:TE) (tl th:TO):TE:=λσ H Q=>te σ H λx H1=>tl σ H1 λl H2=>th σ H2 λu H3=>r x l u H3 Q
def d6 {r:V->Option Int->Option Int->Hp->VK->Prop}(hr:SlR X r) (he:PE X e te) (hl:PO X lo tl) (hu:PO X hi th):PE X (.Subscript e (.Slice lo hi Nf p2) pos) (tSl r te tl th):=by
 intro P2 s σ H Q I h;refine Subscript_ (thn (he P2 s σ H _ I h) λv s1 ur32=>?_);obtain⟨x,H1,I1,r1,q1⟩:=ur32;refine wpAny_Slice (thn (hl P2 s1 σ H1 _ I1 q1) λvl s2 ⟨l,H2,I2,pl,q2⟩=>thn (hu P2 s2 σ H2 _ I2 q2) λvu s3 ⟨u,H3,I3,pu,q3⟩=>?_);rw[evalPart_none];refine Nc ?_;have I4:Inv X P2 σ H3 { s3 with heap:=s3.heap.push { cls:=.type "slice",data:=.fields #[vl,vu,.none] } }:=I3.kept (t':=s3.toks) λb ob q=>Nb _ q
 obtain⟨T,id,hT,ht,hg⟩:=hr P2 { s3 with heap:=s3.heap.push { cls:=.type "slice",data:=.fields #[vl,vu,.none] } } σ H3 x v vl vu l u s3.heap.objs.size Q I4 r1 (NI.IsSliceOf.new ..) pl pu q3;show Nq (model X.prog X.w) X.A (subscriptTail e (.Slice lo hi Nf p2) v (.ref s3.heap.objs.size)) (EP X P2 σ Q) X.xe { s3 with heap:=s3.heap.push { cls:=.type "slice",data:=.fields #[vl,vu,.none] } };exact tail_any (ops:=[.ref s3.heap.objs.size,v]) ht hT hg (by with_unfolding_all rfl)
def lx (xs:List V) (lo hi:Option Int):List V:=(xs.drop (HT.sIx xs.length 0 lo)).take (HT.sIx xs.length xs.length hi - HT.sIx xs.length 0 lo)
def pG (xs:List V) (lo hi:Option Int):(lx xs lo hi).length <= xs.length:=by
 unfold lx;rw[OI,length_drop];omega
def MQ (K:Nh):V->Option Int->Option Int->Hp->VK->Prop:=λx lo hi H Q=>∃ a xs,x=.ref a/\SqT K H a xs /\
 ¬ (HT.sIx xs.length 0 lo=0/\HT.sIx xs.length xs.length hi=xs.length)/\∀ p,H p=Nf->Q (.ref p) (upd H p (.tup (lx xs lo hi)))
def Ja:SlR X (MQ X.K):=by
 intro P2 s σ H x v vl vu lo hi sl Q I rx hs pl pu h;obtain⟨a,xs,rfl,hx,hw,q⟩:=h;cases rx;obtain⟨its,r,ht,hz⟩:=I.tuple hx;have hlen:its.toArray.size=xs.length:=by rw[NC];exact r.length.symm
 refine⟨"tuple",_,PyProof.Rows.slot_tuple_getitem.lookup,ht.typeIs,?_⟩;refine HT.getItem_tuple_cut ht hs pl pu (by rw[hlen];exact hw) ?_ (by rw[hlen];exact hz);rw[hlen];refine⟨.ref s.heap.objs.size,_,I.laid (t':=s.toks) (o:=.tup (lx xs lo hi)) (λb ob q=>Nb _ q) (Nm _) ?_,rfl,q _ (I.hok.fresh (Nm _))⟩;exact⟨NS (pG xs lo hi) hz,_,(r.drop (HT.sIx xs.length 0 lo)).take (HT.sIx xs.length xs.length hi - HT.sIx xs.length 0 lo),IsTup.new _ _⟩
end
def ixN (n:Nat) (i:Int):Option Nat:=if 0 <= i then (if i < n then f' i.toNat else Nf) else if -(n:Int) <= i then f' (i+n).toNat else Nf
def atI {α:Type}(xs:List α) (i:Int):Option α:=(ixN xs.length i).bind λj=>xs[j]?
def Bt {n:Nat}{i:Int}{j:Nat}(h:ixN n i=f' j):seqIndex? i n=f' j/\j < n/\-(n:Int) <= i/\i < n:=by
 unfold ixN at h;by_cases h0:0 <= i
 . rw[Vc h0]at h;by_cases h1:i < n
   . rw[Vc h1]at h;have e:i.toNat=j:=NH h;exact⟨by rw[seqIndex_of h0 h1,e],by omega,by omega,h1⟩
   . rw[Vd h1]at h;cases h
 . rw[Vd h0]at h;by_cases h1:-(n:Int) <= i
   . rw[Vc h1]at h;have e:(i+n).toNat=j:=NH h;exact⟨by rw[seqIndex_neg (by omega) h1,e],by omega,h1,by omega⟩
   . rw[Vd h1]at h;cases h
def B7 {α:Type}{xs:List α}{i:Int}{v:α}(h:atI xs i=f' v):∃ j,seqIndex? i xs.length=f' j/\xs[j]?=f' v/\j < xs.length/\-(xs.length:Int) <= i/\i < xs.length:=by
 unfold atI at h;cases e:ixN xs.length i with
|none=>rw[e]at h;cases h
|some j =>
  rw[e]at h;obtain⟨h1,h2,h3,h4⟩:=Bt e;exact⟨j,h1,h,h2,h3,h4⟩
def Hy (b:Expr):Prop:=∀ o i,subscripted b D' o i=operate [o,i] (getItem o i)
def IxR (X:Cx) (r:R2):Prop :=
 ∀ (value slice:Expr) (P2:List (K' × Ow)) (s:Ng) (σ:St) (H:Hp) (x y:V) (v u:Na) (Q:VK),Inv X P2 σ H s->cw x v->cw y u->r x y H Q ->
  subscripted slice D' v u=operate [v,u] (getItem v u)->Nq (model X.prog X.w) X.A (subscriptTail value slice v u) (EP X P2 σ Q) X.xe s
def MtR (X:Cx) (id:String) (r:V->List V->Hp->VK->Prop):Prop :=
 ∀ (P2:List (K' × Ow)) (s:Ng) (σ:St) (H:Hp) (x:V) (xs:List V) (v:Na) (us:List Na) (Q:VK),Inv X P2 σ H s->cw x v->bQ xs us->r x xs H Q ->
  Nq (model X.prog X.w) X.A (call (.builtin id) (v :: us)) (EP X P2 σ Q) X.xe s
section
variable {X:Cx}{a b:Expr}{ta tb:TE}{pos:Pos}
def az {r:R2}(hr:IxR X r) (ha:PE X a ta) (hb:PE X b tb) (hs:Hy b):PE X (.Subscript a b pos) (tOp r ta tb):=by
 intro P2 s σ H Q I h;exact Subscript_ (Lo ha hb I h λv u s2 x y H2 I2 rx ry q=>hr a b P2 s2 σ H2 x y v u Q I2 rx ry q (hs _ _))
def LC (K:Nh):R2:=λx y H Q=>∃ p xs i v,x=.ref p/\y=.int i/\SqL K H p xs/\atI xs i=f' v/\Q v H
def Ju (K:Nh):R2:=λx y H Q=>∃ p xs i v,x=.ref p/\y=.int i/\SqT K H p xs/\atI xs i=f' v/\Q v H
def aC:IxR X (LC X.K):=by
 intro value slice P2 s σ H x y v u Q I rx ry h hs;obtain⟨p,xs,i,z,rfl,rfl,hq,he,q⟩:=h;cases rx;obtain⟨t,rfl⟩:=ry;obtain⟨its,r,pl,hz⟩:=I.list hq;obtain⟨j,h1,h2,h3,h4,h5⟩:=B7 he;obtain⟨w,ew,rw'⟩:=r.get h2;have hl:=r.length;have hn:=sP;have fin:EP X P2 σ Q w s:=⟨z,H,I,rw',q⟩
 by_cases h0:0 <= i
 . have hj:i.toNat=j:=by
    rw[seqIndex_of h0 h5]at h1;exact NH h1
   exact item_listR pl.isList h0 (by omega) (by rw[hj];simpa using ew) fin hs
 . have hj:(i+(its.toArray.size:Int)).toNat=j:=by
    rw[seqIndex_neg (by omega) h4]at h1;rw[NC,<-hl];exact NH h1
   exact subscriptTail_builtinR (x:=w) pl.isList.typeIs slot_list_getitem.lookup
    (wpAny_getItem_list_neg (Q:=λr s'=>r=w/\EP X P2 σ Q r s') pl.isList (by omega) (by rw[NC]<;>omega) (by omega) (by rw[hj];simpa using ew) ⟨rfl,fin⟩) hs
def aF:IxR X (Ju X.K):=by
 intro value slice P2 s σ H x y v u Q I rx ry h hs;obtain⟨p,xs,i,z,rfl,rfl,hq,he,q⟩:=h;cases rx;obtain⟨t,rfl⟩:=ry;obtain⟨its,r,pl,hz⟩:=I.tuple hq;obtain⟨j,h1,h2,h3,h4,h5⟩:=B7 he;obtain⟨w,ew,rw'⟩:=r.get h2;have hl:=r.length;have hn:=sP;have fin:EP X P2 σ Q w s:=⟨z,H,I,rw',q⟩
 exact subscriptTail_builtinR (x:=w) pl.typeIs slot_tuple_getitem.lookup
  (getItem_tuple (j:=j) (Q:=λr s'=>r=w/\EP X P2 σ Q r s') pl (by omega) (by omega) (by rw[NC,<-hl];exact h1) (by simpa using ew) ⟨rfl,fin⟩) hs
def Am (its:List Na) (n j:Nat) (u:Na):PZ (·.setIfInBounds j u) { cls:=.type "list",data:=.seq its.toArray n }={ cls:=.type "list",data:=.seq (its.set j u).toArray n }:=by
 simp[PZ]
theorem Inv.lst {P2:List (K' × Ow)}{σ:St}{H:Hp}{s:Ng}{p:K'}{xs:List V}(I:Inv X P2 σ H s) (h:H p=f' (.lst xs)) :
 ∃ (its:List Na) (n:Nat),bQ xs its/\s.heap.get? p=f' { cls:=.type "list",data:=.seq its.toArray n }/\xs.length <= Nl:=by
 obtain⟨z,its,n,r,e⟩:=I.hok p _ h;exact⟨its,n,r,e,z⟩
def Inv.lstUpd {P2:List (K' × Ow)}{σ:St}{H:Hp}{s:Ng}{p:K'}{xs ys:List V}{its its':List Na}{n n':Nat}{f:Ow->Ow}(I:Inv X P2 σ H s) (h:H p=f' (.lst xs))
 (ho:s.heap.get? p=f' { cls:=.type "list",data:=.seq its.toArray n }) (hf:f { cls:=.type "list",data:=.seq its.toArray n }={ cls:=.type "list",data:=.seq its'.toArray n' }) (r:bQ ys its') (hz:ys.length <= Nl) (t:Nat) :
 Inv X P2 σ (upd H p (.lst ys)) { s with heap:=s.heap.update p f,toks:=t }:=by
 have e:(s.heap.update p f).get? p=f' { cls:=.type "list",data:=.seq its'.toArray n' }:=by
  rw[Ov f ho (by rw[hf]<;>rfl),hf]
 refine I.write (x:=p) (e:=p) (by rw[h];trivial) (.inl rfl) (λb u hb q=>(OV _ _ (Pg hb)).trans q) ⟨_,e⟩ ?_;exact⟨hz,its',n',r,e⟩
def Lr:V->V->V->Hp->(Hp->Prop)->Prop:=λo i v H Q=>∃ p xs k j,o=.ref p/\i=.int k/\H p=f' (.lst xs)/\ixN xs.length k=f' j/\Q (upd H p (.lst (xs.set j v)))
def fi:Me X Lr:=by
 intro P2 s σ H o i v ov iv u Q I ro ri rv h;obtain⟨p,xs,k,j,rfl,rfl,hp,hj,q⟩:=h;cases ro;obtain⟨t,rfl⟩:=ri;obtain⟨its,n,r,ho,hz⟩:=I.lst hp;obtain⟨h1,h2,h3,h4⟩:=Bt hj;have hl:=r.length;have hn:=sP;have I':Inv X P2 σ (upd H p (.lst (xs.set j v))) { s with heap:=s.heap.update p (PZ (·.setIfInBounds j u)) } :=
  I.lstUpd hp ho (Am its n j u) (r.set rv j) (by rw[List.length_set];exact hz) s.toks
 by_cases h0:0 <= k
 . have hk:k.toNat=j:=by
    rw[seqIndex_of h0 h4]at h1;exact NH h1
   exact ki_setAt ho h0 (by omega) (by rw[NC,<-hl];exact h4) (by rw[hk];exact⟨_,I',q⟩)
 . have hk:(k+(its.toArray.size:Int)).toNat=j:=by
    rw[seqIndex_neg (by omega) h3]at h1;rw[NC,<-hl];exact NH h1
   exact ki_setBack ho (by omega) (by rw[NC,<-hl];exact h3) (by omega) (by rw[hk];exact⟨_,I',q⟩)
def vE (lo hi:Option Int) (n:Nat):(sliceBounds lo hi Nf n).1=((HT.sIx n 0 lo:Nat):Int)/\(sliceBounds lo hi Nf n).2.1=((HT.sIx n n hi:Nat):Int)/\(sliceBounds lo hi Nf n).2.2=1:=by
 refine⟨?_,?_,rfl⟩
 . cases lo with
  |none=>simp[sliceBounds,HT.sIx]
  |some i =>
    simp only[sliceBounds,HT.sIx,getD_none,show (1:Int) > 0 by decide,if_true];by_cases h:i < 0
    . simp only[h,if_true]<;>omega
    . simp only[h,if_false]<;>omega
 . cases hi with
  |none=>simp[sliceBounds,HT.sIx]
  |some i =>
    simp only[sliceBounds,HT.sIx,getD_none,show (1:Int) > 0 by decide,if_true];by_cases h:i < 0
    . simp only[h,if_true]<;>omega
    . simp only[h,if_false]<;>omega
def uN (its:List Na) (lo hi:Option Int):slicePick its.toArray lo hi Nf=((its.drop (HT.sIx its.length 0 lo)).take (HT.sIx its.length its.length hi - HT.sIx its.length 0 lo)).toArray:=by
 obtain⟨h1,h2,h3⟩:=vE lo hi its.toArray.size;unfold slicePick;rw[h1,h2,h3];simp only[sliceRange_one,pick_run,NC]<;>rfl
def MS (K:Nh):V->Option Int->Option Int->Hp->VK->Prop:=λx lo hi H Q=>∃ a xs,x=.ref a/\SqL K H a xs/\∀ p,H p=Nf->Q (.ref p) (upd H p (.lst (lx xs lo hi)))
def ib:SlR X (MS X.K):=by
 intro P2 s σ H x v vl vu lo hi sl Q I rx hs pl pu h;obtain⟨a,xs,rfl,hx,q⟩:=h;cases rx;obtain⟨its,r,ht,hz⟩:=I.list hx;have hlen:=r.length;refine⟨"list",_,slot_list_getitem.lookup,ht.isList.typeIs,?_⟩;refine wpAny_getItem_list_slice ht.isList hs pl pu .none (by simp) ?_ (by rw[NC]<;>omega);rw[uN,<-hlen];refine⟨.ref s.heap.objs.size,_,I.laid (t':=s.toks) (o:=.lst (lx xs lo hi)) (λb ob q=>Nb _ q) (Nm _) ?_,rfl,q _ (I.hok.fresh (Nm _))⟩;exact⟨NS (pG xs lo hi) hz,_,0,(r.drop (HT.sIx xs.length 0 lo)).take (HT.sIx xs.length xs.length hi - HT.sIx xs.length 0 lo),Nr _ rfl⟩
def uP:V->Bool
|.non=>G'
|.bl _=>G'
|.int _=>G'
|.str _=>G'
|_=>D'
def eqV:V->V->Bool
|.non,.non=>G'
|.bl a,.bl b=>a == b
|.bl a,.int b=>(if a then 1 else 0) == b
|.int a,.bl b=>a == (if b then 1 else 0)
|.int a,.int b=>a == b
|.str a,.str b=>a == b
|_,_=>D'
def JL {A:NN}{s:Ng}{y x:V}{u v:Na}(ry:cw y u) (rx:cw x v) (fy:uP y=G') (fx:uP x=G'):N7 A s u v (eqV y x):=by
 cases y with
|non =>
  cases ry;cases x with
 |non=>cases rx;exact N7.same _
 |bl b=>cases rx;exact N7.none_bool b
 |int b=>obtain⟨t,rfl⟩:=rx;exact N7.none_int b t
 |str b=>obtain⟨t,rfl⟩:=rx;exact N7.none_str b t
 |_=>exact absurd (show D'=G' from fx) Nz
|bl a =>
  cases ry;cases x with
 |non=>cases rx;exact N7.bool_none a
 |bl b=>cases rx;exact N7.bool_bool a b
 |int b=>obtain⟨t,rfl⟩:=rx;exact N7.bool_int a b t
 |str b=>obtain⟨t,rfl⟩:=rx;exact N7.bool_str a b t
 |_=>exact absurd (show D'=G' from fx) Nz
|int a =>
  obtain⟨t',rfl⟩:=ry;cases x with
 |non=>cases rx;exact N7.int_none a t'
 |bl b=>cases rx;exact N7.int_bool a t' b
 |int b=>obtain⟨t,rfl⟩:=rx;exact N7.int_int a t' b t
 |str b=>obtain⟨t,rfl⟩:=rx;exact N7.int_str a t' b t
 |_=>exact absurd (show D'=G' from fx) Nz
|str a =>
  obtain⟨t',rfl⟩:=ry;cases x with
 |non=>cases rx;exact N7.str_none a t'
 |bl b=>cases rx;exact N7.str_bool a t' b
 |int b=>obtain⟨t,rfl⟩:=rx;exact N7.str_int a t' b t
 |str b=>obtain⟨t,rfl⟩:=rx;exact N7.str_str a t' b t
 |_=>exact absurd (show D'=G' from fx) Nz
|_=>exact absurd (show D'=G' from fy) Nz
def eqU (x:V) (u:Na):Bool:=match u with
|.none=>eqV .non x
|.bool b=>eqV (.bl b) x
|.int i _=>eqV (.int i) x
|.str z _=>eqV (.str z) x
|_=>D'
def GC {x y:V}{u:Na}(r:cw y u) (f:uP y=G'):eqU x u=eqV y x:=by
 cases y with
|non=>cases r;rfl
|bl b=>cases r;rfl
|int i=>obtain⟨t,rfl⟩:=r;rfl
|str z=>obtain⟨t,rfl⟩:=r;rfl
|_=>exact absurd (show D'=G' from f) Nz
theorem pO {x:V}:∀ {xs:List V}{us:List Na},bQ xs us->xs.all uP=G'->us.any (eqU x)=xs.any λy=>eqV y x
|_,_,.nil,_=>rfl
|y :: xs,u :: us,.cons r t,f=>by
  rw[all_cons,Om]at f;rw[any_cons,any_cons,GC r f.1,pO t f.2]
theorem mz {A:NN}{s:Ng}{x:V}{v:Na}(rx:cw x v) (fx:uP x=G'):∀ {xs:List V}{us:List Na},bQ xs us->xs.all uP=G'->∀ u∈us,N7 A s u v (eqU x u)
|_,_,.nil,_=>λu hu=>by cases hu
|y :: xs,u :: us,.cons r t,f=>λu' hu=>by
  rw[all_cons,Om]at f;rcases NA.mp hu with rfl|hu
  . rw[GC r f.1];exact JL r rx f.1 fx
  . exact mz rx fx t f.2 u' hu
def inV (x:V) (xs:List V):Bool:=xs.any λy=>eqV y x
def rIn (K:Nh) (neg:Bool):R2:=λx y H Q=>∃ p xs,y=.ref p/\(SqL K H p xs\/SqT K H p xs)/\uP x=G'/\xs.all uP=G'/\Q (.bl (if neg then !inV x xs else inV x xs)) H
def eF:OpR X (Oi .In) (rIn X.K D'):=by
 intro P2 s σ H x y v u Q I rx ry h;obtain⟨p,xs,rfl,hq,fx,fs,q⟩:=h;cases ry;rcases hq with hq|hq
 . obtain⟨its,r,pl,hz⟩:=I.list hq;refine SeqAt.in_listAt (eqU x) pl.isList (λw hw=>mz rx fx r fs w (by simpa using hw)) ⟨.bl _,H,I,rfl,?_⟩;rw[show its.toArray.any (eqU x)=its.any (eqU x) by simp,pO r fs];exact q
 . obtain⟨its,r,pl,hz⟩:=I.tuple hq;refine SeqAt.in_tupleAt (eqU x) pl (λw hw=>mz rx fx r fs w (by simpa using hw)) ⟨.bl _,H,I,rfl,?_⟩;rw[show its.toArray.any (eqU x)=its.any (eqU x) by simp,pO r fs];exact q
def l5:OpR X (Oi .NotIn) (rIn X.K G'):=by
 intro P2 s σ H x y v u Q I rx ry h;obtain⟨p,xs,rfl,hq,fx,fs,q⟩:=h;cases ry;rcases hq with hq|hq
 . obtain⟨its,r,pl,hz⟩:=I.list hq;refine SeqAt.notIn_listAt (eqU x) pl.isList (λw hw=>mz rx fx r fs w (by simpa using hw)) ⟨.bl _,H,I,rfl,?_⟩;rw[show its.toArray.any (eqU x)=its.any (eqU x) by simp,pO r fs];exact q
 . obtain⟨its,r,pl,hz⟩:=I.tuple hq;refine SeqAt.notIn_tupleAt (eqU x) pl (λw hw=>mz rx fx r fs w (by simpa using hw)) ⟨.bl _,H,I,rfl,?_⟩;rw[show its.toArray.any (eqU x)=its.any (eqU x) by simp,pO r fs];exact q
def b8:mW X (.builtin "len") (λxs H Q=>∃ p ys,xs=[.ref p]/\(SqL X.K H p ys\/SqT X.K H p ys)/\Q (.int ys.length) H):=by
 intro P2 s σ H xs us Q I r h;obtain⟨p,ys,rfl,hq,q⟩:=h;obtain⟨u,rfl,rx⟩:=mO r;cases rx;have hn:=sP;rcases hq with hq|hq
 . obtain⟨its,r',pl,hz⟩:=I.list hq;have hlen:=r'.length;exact Calls.call_len_list pl.isList (by simp only[NC]<;>omega) ⟨.int ys.length,H,I.tok _,⟨s.toks+1,by rw[NC,hlen]⟩,q⟩
 . obtain⟨its,r',pl,hz⟩:=I.tuple hq;have hlen:=r'.length;exact len_tuple pl (by simp only[NC]<;>omega) ⟨.int ys.length,H,I.tok _,⟨s.toks+1,by rw[NC,hlen]⟩,q⟩
def wn:mW X (.builtin "len") (λxs H Q=>∃ z,xs=[.str z]/\z.length <= Nl/\Q (.int z.length) H):=by
 intro P2 s σ H xs us Q I r h;obtain⟨z,rfl,hz,q⟩:=h;obtain⟨u,rfl,t,rfl⟩:=mO r;have hn:=sP;exact len_str (by omega) ⟨.int z.length,H,I.tok _,⟨_,rfl⟩,q⟩
def oq:mW X (.type "list") (λxs H Q=>∃ p ys,xs=[.ref p]/\(SqL X.K H p ys\/SqT X.K H p ys)/\∀ l,H l=Nf->Q (.ref l) (upd H l (.lst ys))):=by
 intro P2 s σ H xs us Q I r h;obtain⟨p,ys,rfl,hq,q⟩:=h;obtain⟨u,rfl,rx⟩:=mO r;cases rx;have fin:∀ (its:List Na),bQ ys its->ys.length <= Nl->∀ (h':NI) (c':Nat),(∀ b o',s.heap.get? b=f' o'->h'.get? b=f' o') ->
  h'.get? s.heap.objs.size=f' { cls:=.type "list",dict:=Nf,data:=.seq its.toArray c',slots:=#[] }->EP X P2 σ Q (.ref s.heap.objs.size) { s with heap:=h' }:=λits r' hz h' c' kp e =>
  ⟨.ref s.heap.objs.size,_,I.laid (t':=s.toks) kp (Nm _) (show dB X.prog X.w _ h' _ (.lst ys) from ⟨hz,its,c',r',e⟩),rfl,q _ (I.hok.fresh (Nm _))⟩
 rcases hq with hq|hq
 . obtain⟨its,r',pl,hz⟩:=I.list hq;have hlen:=r'.length;obtain⟨o,ho,hc,n,hd⟩:=pl.isList;exact call_list_seq p (.inl rfl) ho hc hd (λh' c' kp e=>fin its r' hz h' c' kp e) (by simp only[NC]<;>omega)
 . obtain⟨its,r',pl,hz⟩:=I.tuple hq;have hlen:=r'.length;obtain⟨o,ho,hc,n,hd⟩:=pl;exact call_list_seq p (.inr rfl) ho hc hd (λh' c' kp e=>fin its r' hz h' c' kp e) (by simp only[NC]<;>omega)
def fW:mW X (.type "tuple") (λxs H Q=>∃ p ys,xs=[.ref p]/\((SqL X.K H p ys/\∀ l,H l=Nf->Q (.ref l) (upd H l (.tup ys)))\/(SqT X.K H p ys/\Q (.ref p) H))):=by
 intro P2 s σ H xs us Q I r h;obtain⟨p,ys,rfl,h⟩:=h;obtain⟨u,rfl,rx⟩:=mO r;cases rx;rcases h with⟨hq,q⟩|⟨hq,q⟩
 . obtain⟨its,r',pl,hz⟩:=I.list hq;have hlen:=r'.length;refine call_tuple_list pl.isList (λh' kp=>?_) (by simp only[NC]<;>omega);have I1:Inv X P2 σ H { s with heap:=h' }:=I.kept (t':=s.toks) kp;have I2:Inv X P2 σ (upd H h'.objs.size (.tup ys)) { s with heap:=h'.push { cls:=.type "tuple",data:=.seq its.toArray } } :=
    I1.laid (t':=s.toks) (λb o e=>Nb _ e) (Nm _) (show dB X.prog X.w _ _ _ (.tup ys) from ⟨hz,its,r',IsTup.new _ _⟩)
   exact⟨.ref h'.objs.size,_,I2,rfl,q _ (I1.hok.fresh (Nm _))⟩
 . obtain⟨its,r',pl,hz⟩:=I.tuple hq;exact call_tuple_same pl ⟨.ref p,H,I,rfl,q⟩
def tyV (K:Nh) (T:String) (x:V) (H:Hp):Prop:=match x with
|.str _=>T="str"
|.int _=>T="int"
|.ref p=>(T="list"/\∃ xs,SqL K H p xs)\/(T="tuple"/\∃ o,K.lookup p=f' o/\o.cls=.type "tuple"/\o.dict=Nf) \/
  (T="dict"/\((∃ kvs,H p=f' (.dK kvs))\/∃ kvs,H p=f' (.dT kvs)))\/(T="set"/\∃ S n,H p=f' (.set S n))
|_=>False
def JX {P2:List (K' × Ow)}{σ:St}{H:Hp}{s:Ng}{T:String}{x:V}{v:Na}(I:Inv X P2 σ H s) (r:cw x v) (ty:tyV X.K T x H) :
 s.TypeIs v T/\∀ a,v=.ref a->∃ ob,s.heap.get? a=f' ob/\ob.dict=Nf:=by
 cases x with
|str z =>
  obtain⟨t,rfl⟩:=r;cases (show T="str" from ty);exact⟨typeIs_str s z t,λ_ e=>nomatch e⟩
|int i =>
  obtain⟨t,rfl⟩:=r;cases (show T="int" from ty);exact⟨typeIs_int s i t,λ_ e=>nomatch e⟩
|ref p =>
  cases r;rcases ty with⟨rfl,xs,hq⟩|⟨rfl,o,hk,hc,hd⟩|⟨rfl,hk⟩|⟨rfl,S,n,hk⟩
  . obtain⟨its,_,pl,_⟩:=I.list hq;refine⟨pl.isList.typeIs,λa e=>?_⟩;cases e;obtain⟨o,n,e,c,hd,_⟩:=pl;exact⟨o,e,hd⟩
  . refine⟨⟨o,I.kIn p o hk,hc⟩,λa e=>?_⟩;cases e;exact⟨o,I.kIn _ o hk,hd⟩
  . have z:∃ o,s.heap.get? p=f' o/\o.ExactDict:=by
     rcases hk with⟨kvs,hk⟩|⟨kvs,hk⟩
     . obtain⟨_,_,_,_,o,_,_,e,ex,_⟩:=I.hok p _ hk;exact⟨o,e,ex⟩
     . obtain⟨_,_,_,_,o,_,_,e,ex,_⟩:=I.hok p _ hk;exact⟨o,e,ex⟩
    obtain⟨o,e,ex⟩:=z;refine⟨⟨o,e,ex.1⟩,λa e2=>?_⟩;cases e2;exact⟨o,e,ex.2.1⟩
  . obtain⟨o,_,_,_,e,ex,_⟩:=I.hok p _ hk;refine⟨⟨o,e,ex.1⟩,λa e2=>?_⟩;cases e2;exact⟨o,e,ex.2.1⟩
|_=>exact OC ty
def tBM (K:Nh) (T:String) (r:V->List V->Hp->VK->Prop) (to:TE) (t:TA):TE:=λσ H Q=>to σ H λx H1=>tyV K T x H1/\t σ H1 λxs H2=>r x xs H2 Q
variable {o e:Expr}{es:List Expr}{to:TE}{t:TA}{name:Str}{apos cpos:Pos}{T id:String}{r:V->List V->Hp->VK->Prop}
def jU (pa:PlainAttrs T) (slot:Slot T name id) (hty:typeOf (.builtin id)=pure (.type "method_descriptor")) (hm:MtR X id r) (ho:PE X o to) (ha:PA X (e :: es) t)
 (hbase:attributeBase o name X.env (eval o X.env)=eval o X.env:=by rfl)
 (hfew:((PF cpos (NR (e :: es) X.env)).all (λx=>!x.1) && (backToKw cpos (keywordEach [] X.env)).all (λx=>x.1.isSome)
  && decide ((e :: es).length+([]:List Keyword).length+(if ([]:List Keyword).isEmpty then 0 else 1) < 30))=G':=by rfl)
 (hline:(apos.endLine == cpos.line)=G':=by rfl) (hs:NR (e :: es) X.env=(D',eval e X.env) :: NR es X.env:=by rfl) (hplain:(PF cpos (NR es X.env)).any (·.1)=D':=by rfl) :
 PE X (.Call (.Attribute o name apos) (e :: es) [] cpos) (tBM X.K T r to t):=by
 intro P2 s σ H Q I h;refine wpAny_Call_method_late hbase hfew hline rfl (thn (ho P2 s σ H _ I h) λv s1 ur33=>?_);obtain⟨x,H1,I1,r1,ty,q1⟩:=ur33;obtain⟨h1,h2⟩:=JX I1 r1 ty;refine⟨T,id,pa,slot,hty,h1,h2,?_⟩;have hA:=ha cpos P2 s1 σ H1 _ I1 q1;rw[hs]at hA |-;refine OT (by show (D' || (PF cpos (NR es X.env)).any (·.1))=D';rw[hplain]<;>rfl) (OP ?_);exact thn hA λus s2 uq9=>by(obtain⟨vs,H2,I2,r2,q2⟩:=uq9;exact hm P2 s2 σ H2 x vs v us Q I2 r1 r2 q2)
end
def MtM (X:Cx) (id:String) (r:V->List V->Hp->VK->Prop):Prop :=
 ∀ (P2:List (K' × Ow)) (s:Ng) (σ:St) (H:Hp) (x:V) (xs:List V) (v:Na) (us:List Na) (Q:VK),Inv X P2 σ H s->cw x v->bQ xs us->r x xs H Q ->
  Nq (model X.prog X.w) X.A (call (.builtin id) (v :: us)) (EP X P2 σ Q) X.xe s
def bQ.one:∀ {x:V}{us:List Na},bQ [x] us->∃ u,us=[u]/\cw x u
|_,_,.cons r .nil=>⟨_,rfl,r⟩
def bQ.zero:∀ {us:List Na},bQ [] us->us=[]
|_,.nil=>rfl
theorem bQ.eraseIdx:∀ {xs:List V}{us:List Na}(i:Nat),bQ xs us->bQ (xs.eraseIdx i) (us.eraseIdx i)
|_,_,_,.nil=>.nil
|_,_,0,.cons _ t=>t
|_,_,i+1,.cons r t=>.cons r (bQ.eraseIdx i t)
theorem vW {α:Type}:∀ (l:List α) (i:Nat),(l.eraseIdx i).length <= l.length
|[],_=>Nm _
|_ :: _,0=>le_succ _
|_ :: r,i+1=>Nat.succ_le_succ (vW r i)
section
variable {X:Cx}{P2:List (K' × Ow)}{σ:St}{H:Hp}{s:Ng}{l b:K'}{xs ys zs:List V}
def Inv.lset {its its':List Na}{n:Nat}{f:Array Na->Array Na}{t':Nat}(I:Inv X P2 σ H s) (hH:H l=f' (.lst xs))
 (e:s.heap.get? l=f' { cls:=.type "list",data:=.seq its.toArray n }) (hf:f its.toArray=its'.toArray) (hv:bQ ys its') (hz:ys.length <= Nl) :
 Inv X P2 σ (upd H l (.lst ys)) { s with heap:=s.heap.update l (PZ f),toks:=t' }:=by
 have q:=PySem.IsL.update e f;rw[hf]at q;refine I.write (x:=l) (e:=l) (by rw[hH];exact trivial) (.inl rfl) (λb' u hb hu=>(OV s.heap (PZ f) (Pg hb)).trans hu) ⟨_,q⟩ ?_;exact⟨hz,its',_,hv,q⟩
def Inv.lnew {its:List Na}{t':Nat}(I:Inv X P2 σ H s) (hv:bQ ys its) (hz:ys.length <= Nl) :
 Inv X P2 σ (upd H s.heap.objs.size (.lst ys)) { s with heap:=s.heap.push { cls:=.type "list",data:=.seq its.toArray },toks:=t' } :=
 I.laid (λ_ _ q=>Nb _ q) (Nm _) ⟨hz,its,0,hv,Nr _ rfl⟩
theorem Inv.fresh (I:Inv X P2 σ H s):H s.heap.objs.size=Nf:=I.hok.fresh (Nm _)
def Inv.lstM (I:Inv X P2 σ H s) (hH:H l=f' (.lst xs)):xs.length <= Nl/\∃ (its:List Na) (n:Nat),bQ xs its/\xs.length=its.length/\s.heap.get? l=f' { cls:=.type "list",data:=.seq its.toArray n }:=by
 obtain⟨z,its,n,r,e⟩:=I.hok l _ hH;exact⟨z,its,n,r,r.length,e⟩
def Fn {n:Nat}(h:n <= Nl):Builtin.List.listTooLong n=D':=by
 unfold Builtin.List.listTooLong;exact decide_eq_false (by omega)
end
section
variable {X:Cx}
def HY:V->List V->Hp->VK->Prop:=λx vs H Q=>∃ l xs y,x=.ref l/\vs=[y]/\H l=f' (.lst xs)/\xs.length < Nl/\Q .non (upd H l (.lst (xs++[y])))
def gM:MtM X "list.append" HY:=by
 intro P2 s σ H x vs v us Q I rx rv h;obtain⟨l,xs,y,rfl,rfl,hH,hz,q⟩:=h;cases rx;obtain⟨u,rfl,ru⟩:=rv.one;obtain⟨z,its,n,r,hl,e⟩:=I.lstM hH;refine call_meets F.slot_list_append ⟨_,e,rfl⟩ F.entry_list_append (F.args_list_append_2 _ _) (PySem.list_append l its.toArray n u (by rw[NC];omega)) ⟨e,?_⟩;refine⟨.non,_,I.lset (its':=its++[u]) hH e (by simp) (r.append (.cons ru .nil)) ?_,rfl,q⟩;rw[Nj,List.length_singleton];omega
def HS:V->List V->Hp->VK->Prop:=λx vs H Q=>∃ l b xs zs,x=.ref l/\vs=[.ref b]/\H l=f' (.lst xs)/\H b=f' (.lst zs)/\xs.length+zs.length <= Nl/\Q .non (upd H l (.lst (xs++zs)))
def qC:MtM X "list.extend" HS:=by
 intro P2 s σ H x vs v us Q I rx rv h;obtain⟨l,b,xs,zs,rfl,rfl,hH,hB,hz,q⟩:=h;cases rx;obtain⟨u,rfl,ru⟩:=rv.one;cases ru;obtain⟨z,its,n,r,hl,e⟩:=I.lstM hH;obtain⟨z2,its2,n2,r2,hl2,e2⟩:=I.lstM hB;have hsz:its.toArray.size+its2.toArray.size <= Nl:=by rw[NC,NC];omega
 have hlong:¬ (!its.toArray.isEmpty && Builtin.List.listTooLong (its.toArray.size+its2.toArray.size))=G':=by
  rw[Fn hsz,Bool.and_false];exact Nz
 refine call_meets F.slot_list_extend ⟨_,e,rfl⟩ F.entry_list_extend (F.args_list_extend_2 _ _)
  (AutoSeq1.list_extend_list_list_0 l its.toArray n b its2.toArray n2 hlong (by rw[NC];omega) (by omega)) ⟨e,e2,?_⟩
 refine⟨.non,_,I.lset (its':=its++its2) hH e (by simp) (r.append r2) ?_,rfl,q⟩;rw[Nj];omega
def JC:V->List V->Hp->VK->Prop:=λx vs H Q=>∃ l xs i k y,x=.ref l/\vs=[.int i]/\H l=f' (.lst xs)/\-(2 ^ 63) <= i/\i < 2 ^ 63/\seqIndex? i xs.length=f' k/\xs[k]?=f' y/\Q y (upd H l (.lst (xs.eraseIdx k)))
def tZ:MtM X "list.pop" JC:=by
 intro P2 s σ H x vs v us Q I rx rv h;obtain⟨l,xs,i,k,y,rfl,rfl,hH,h1,h2,hk,hy,q⟩:=h;cases rx;obtain⟨u,rfl,ru⟩:=rv.one;obtain⟨t,rfl⟩:=ru;obtain⟨z,its,n,r,hl,e⟩:=I.lstM hH;obtain⟨w,hw,rw'⟩:=r.get hy;refine call_meets F.slot_list_pop ⟨_,e,rfl⟩ F.entry_list_pop (F.args_list_pop_2 _ _)
  (MeetsSeq.list_pop_at l its.toArray n i t k w (fitsIndex_both h1 h2) (by rw[NC,<-hl];exact hk) (by rw[<-N0];exact hw) (by rw[NC];omega)) ⟨e,?_⟩
 refine⟨y,_,I.lset (its':=its.eraseIdx k) hH e ?_ (r.eraseIdx k) ?_,rw',q⟩
 . show its.toArray.eraseIdxIfInBounds k=(its.eraseIdx k).toArray;rw[List.eraseIdxIfInBounds_toArray]
 . have:=vW xs k;omega
def ML:R2:=λx y H Q=>∃ l b xs zs,x=.ref l/\y=.ref b/\H l=f' (.lst xs)/\H b=f' (.lst zs)/\xs.length+zs.length <= Nl/\∀ p,H p=Nf->Q (.ref p) (upd H p (.lst (xs++zs)))
def Co:OpR X (binaryOp .Add) ML:=by
 intro P2 s σ H x y v u Q I rx ry h;obtain⟨l,b,xs,zs,rfl,rfl,hH,hB,hz,q⟩:=h;cases rx;cases ry;obtain⟨z,its,n,r,hl,e⟩:=I.lstM hH;obtain⟨z2,its2,n2,r2,hl2,e2⟩:=I.lstM hB;refine PySem.P.add_list e e2 ?_ (by rw[NC,NC];omega);have ea:its.toArray++its2.toArray=(its++its2).toArray:=by simp
 rw[ea];exact⟨.ref _,_,I.lnew (t':=s.toks) (r.append r2) (by rw[Nj];omega),rfl,q _ I.fresh⟩
end
section
variable {prog:ND}{w:Nt}{A:NN}{E:Na->Ng->Prop}{s:Ng}
set_option maxRecDepth 100000 in
end
section
variable {X:Cx}
end
section
variable {κ:Type} [DecidableEq κ]
def qE (kvs:List (κ × V)) (k:κ):Option V:=(kvs.find? λkv=>decide (kv.1=k)).map (·.2)
def vo (kvs:List (κ × V)) (k:κ) (v:V):List (κ × V) :=
 if (kvs.any λkv=>decide (kv.1=k))=G' then kvs.map (λkv=>if kv.1=k then (kv.1,v) else kv) else kvs++[(k,v)]
def nX (kvs:List (κ × V)) (k:κ):List (κ × V):=kvs.filter λkv=>decide (kv.1≠k)
def pi {p:κ × V}{r:List (κ × V)}{k:κ}(e:p.1=k):qE (p :: r) k=f' p.2:=by simp[qE,OY,e]
def oV {p:κ × V}{r:List (κ × V)}{k:κ}(e:¬ p.1=k):qE (p :: r) k=qE r k:=by simp[qE,OY,e]
theorem p9 (k:κ):∀ kvs:List (κ × V),(kvs.any λkv=>decide (kv.1=k))=(qE kvs k).isSome
|[]=>rfl
|p :: r=>by
  rw[any_cons];by_cases e:p.1=k
  . simp only[pi e,Vf e,Bool.true_or,isSome_some]
  . rw[oV e,decide_eq_false e,Bool.false_or];exact p9 k r
def qd (kvs:List (κ × V)) (k:κ) (v:V):(vo kvs k v).length <= kvs.length+1:=by
 unfold vo;split
 . rw[Nu];omega
 . rw[Nj,NM,length_nil];omega
def wL.isSome_eq {o:Option V}{u:Option Na}(r:wL o u):o.isSome=u.isSome:=by
 cases o with
|none=>cases u with
 |none=>rfl
 |some _=>exact(show False from r).elim
|some _=>cases u with
 |none=>exact(show False from r).elim
 |some _=>rfl
def KV.val {kvs:List (κ × V)}{vs:List (κ × Na)}(r:KV kvs vs) (k:κ):wL (qE kvs k) (valueAt vs k):=by
 unfold KV at r
 induction r with
|nil=>exact O6
|@cons p q ps qs h t ih =>
  obtain⟨h1,h2⟩:=h;by_cases e:p.1=k
  . have e':q.1=k:=h1.symm.trans e;have b:valueAt (q :: qs) k=f' q.2:=by simp[valueAt,OY,e']
    rw[pi e,b];exact h2
  . have e':¬ q.1=k:=λz=>e (h1.trans z)
    have b:valueAt (q :: qs) k=valueAt qs k:=by simp[valueAt,OY,e']
    rw[oV e,b];exact ih
theorem KV.any {kvs:List (κ × V)}{vs:List (κ × Na)}(r:KV kvs vs) (k:κ):(kvs.any λkv=>decide (kv.1=k))=vs.any λkv=>decide (kv.1=k):=by
 unfold KV at r
 induction r with
|nil=>rfl
|cons h t ih=>rw[any_cons,any_cons,ih,h.1]
def KV.repl {kvs:List (κ × V)}{vs:List (κ × Na)}(r:KV kvs vs) (k:κ) {y:V}{u:Na}(ry:cw y u) :
 KV (kvs.map λkv=>if kv.1=k then (kv.1,y) else kv) (vs.map λkv=>if kv.1=k then (kv.1,u) else kv):=by
 unfold KV at r |-
 induction r with
|nil=>exact .nil
|@cons p q ps qs h t ih =>
  rw[Oy,Oy];refine .cons ?_ ih;obtain⟨h1,h2⟩:=h;by_cases e:p.1=k
  . rw[Vc e,Vc (h1.symm.trans e)];exact⟨h1,ry⟩
  . rw[Vd e,Vd (λz=>e (h1.trans z))];exact⟨h1,h2⟩
def KV.put {kvs:List (κ × V)}{vs:List (κ × Na)}(r:KV kvs vs) (k:κ) {y:V}{u:Na}(ry:cw y u):KV (vo kvs k y) (stored vs k u):=by
 unfold vo stored;rw[r.any k];by_cases e:(vs.any λkv=>decide (kv.1=k))=G'
 . rw[Vc e,Vc e];exact r.repl k ry
 . rw[Vd e,Vd e];exact NF.snoc r ⟨rfl,ry⟩
def KV.drop {kvs:List (κ × V)}{vs:List (κ × Na)}(r:KV kvs vs) (k:κ):KV (nX kvs k) (without vs k):=by
 unfold KV at r |-;unfold nX without
 induction r with
|nil=>exact .nil
|@cons p q ps qs h t ih =>
  obtain⟨h1,h2⟩:=h;rw[Pt,Pt];by_cases e:p.1=k
  . have a:¬ decide (p.1≠k)=G':=by simp[e]
    have b:¬ decide (q.1≠k)=G':=by simp[h1.symm.trans e]
    rw[Vd a,Vd b];exact ih
  . have e':¬ q.1=k:=λz=>e (h1.trans z)
    have a:decide (p.1≠k)=G':=by simp[e]
    have b:decide (q.1≠k)=G':=by simp[e']
    rw[Vc a,Vc b];exact .cons ⟨h1,h2⟩ ih
def KV.keys {kvs:List (κ × V)}{vs:List (κ × Na)}(r:KV kvs vs):kvs.map (·.1)=vs.map (·.1):=by
 unfold KV at r
 induction r with
|nil=>rfl
|cons h t ih=>rw[Oy,Oy,ih,h.1]
theorem KV.length {kvs:List (κ × V)}{vs:List (κ × Na)}(r:KV kvs vs):kvs.length=vs.length:=NF.length r
def Eu (kvs:List (κ × V)) (k:κ):(nX kvs k).length <= kvs.length:=PR _ _
end
def zE {P:ND}{w:Nt}{k:Key}{u:Na}(r:cw (kV k) u):(bv P w).is k u=G':=by
 cases k with
|inl i=>obtain⟨t,e⟩:=(show ∃ t,u=Na.int i t from r);subst e;exact x9 P w i t
|inr x=>obtain⟨t,e⟩:=(show ∃ t,u=Na.str x t from r);subst e;exact xc P w x t
theorem vL {P:ND}{w:Nt}:∀ {ks:List Key}{us:List Na},bQ (ks.map kV) us->ItemsAre (bv P w) ks us
|[],_,r=>by rw[map_nil]at r;cases r;exact .nil
|k :: ks,_,r=>by
  rw[Oy]at r;cases r with
 |cons h t=>exact .cons (zE h) (vL t)
abbrev KT (H:Hp):List (List Key × V)->List (List Key × K' × Na)->Prop:=NF λp q=>p.1=q.1/\H q.2.1=f' (.tup (p.1.map kV))/\cw p.2 q.2.2
def KT.val {H:Hp}{kvs:List (List Key × V)}{xs:List (List Key × K' × Na)}(r:KT H kvs xs) (k:List Key):wL (qE kvs k) ((atKey xs k).map (·.2)):=by
 induction r with
|nil=>exact O6
|@cons p q ps qs h t ih =>
  obtain⟨h1,_,h2⟩:=h;by_cases e:p.1=k
  . have e':q.1=k:=h1.symm.trans e;have b:atKey (q :: qs) k=f' q.2:=by simp[atKey,OY,e']
    rw[pi e,b];exact h2
  . have e':¬ q.1=k:=λz=>e (h1.trans z)
    have b:atKey (q :: qs) k=atKey qs k:=by simp[atKey,OY,e']
    rw[oV e,b];exact ih
def KT.repl {H:Hp}{kvs:List (List Key × V)}{xs:List (List Key × K' × Na)}(r:KT H kvs xs) (k:List Key) {y:V}{u:Na}(ry:cw y u) :
 KT H (kvs.map λkv=>if kv.1=k then (kv.1,y) else kv) (xs.map (putAt k u)):=by
 induction r with
|nil=>exact .nil
|@cons p q ps qs h t ih =>
  rw[Oy,Oy];refine .cons ?_ ih;obtain⟨h1,h2,h3⟩:=h;unfold putAt;by_cases e:p.1=k
  . rw[Vc e,Vc (h1.symm.trans e)];exact⟨h1,h2,ry⟩
  . rw[Vd e,Vd (λz=>e (h1.trans z))];exact⟨h1,h2,h3⟩
def KT.put {H:Hp}{kvs:List (List Key × V)}{xs:List (List Key × K' × Na)}(r:KT H kvs xs) (k:List Key) {b:K'}{y:V}{u:Na}(hb:H b=f' (.tup (k.map kV))) (ry:cw y u) :
 KT H (vo kvs k y) (storedH xs k b u):=by
 have e:(kvs.any λkv=>decide (kv.1=k))=(atKey xs k).isSome:=by
  rw[p9,(r.val k).isSome_eq,isSome_map]
 unfold vo storedH;rw[e];by_cases q:(atKey xs k).isSome=G'
 . rw[Vc q,Vc q];exact r.repl k ry
 . rw[Vd q,Vd q];exact NF.snoc r ⟨rfl,hb,ry⟩
def KT.keeps {H H':Hp}{kvs:List (List Key × V)}{xs:List (List Key × K' × Na)}(r:KT H kvs xs) (ht:∀ b ys,H b=f' (.tup ys)->H' b=f' (.tup ys)):KT H' kvs xs :=
 Paired.mapP r λ_ _ z=>⟨z.1,ht _ _ z.2.1,z.2.2⟩
section
variable {P:ND}{w:Nt}{H:Hp}{h:NI}{a:K'}
def Kh {u:HO}(ok:HOk P w H h) (e:Rd H a u):dB P w H h a u:=e.ok ok
def Eg {kvs:List (Key × V)}(ok:HOk P w H h) (e:Rd H a (.dK kvs)):kvs.length <= Nl/\(a == OD)=D'/\∃ vs,KV kvs vs/\h.DictOf (bv P w) a vs :=
 show dB P w H h a (.dK kvs) from Kh ok e
def BW {kvs:List (Key × V)}(ok:HOk P w H h) (e:H a=f' (.dK kvs)):kvs.length <= Nl/\(a == OD)=D'/\∃ vs,KV kvs vs/\h.DictOf (bv P w) a vs:=Eg ok (.inl e)
def yc {ks:List Key}(ok:HOk P w H h) (e:H a=f' (.tup (ks.map kV))):(tupleKind (bv P w)).is h ks a:=by
 obtain⟨_,its,r,o,h1,h2,n,h3⟩:=(show dB P w H h a (.tup (ks.map kV)) from ok a _ e)
 exact⟨o,its.toArray,n,h1,h2,h3,by simpa using vL r⟩
def DC {kvs:List (List Key × V)}(ok:HOk P w H h) (e:Rd H a (.dT kvs)):kvs.length <= Nl/\(a == OD)=D' /\
 ∃ xs,KT H kvs xs/\h.DictOfH (tupleKind (bv P w)) a xs:=by
 obtain⟨z,y,xs,r,o,es,ep,h1,h2,h3,h4,h5⟩:=(show dB P w H h a (.dT kvs) from Kh ok e)
 refine⟨z,y,xs,r,o,es,ep,h1,h2,h3,h4,λx hx=>?_,h5⟩;have all:∀ {l:List (List Key × V)} {m:List (List Key × K' × Na)},KT H l m->∀ x∈m,(tupleKind (bv P w)).is h x.1 x.2.1:=by
  intro l m q
  induction q with
 |nil=>intro x hx;exact nomatch hx
 |@cons p q ps qs hq t ih =>
   intro x hx;rcases NA.mp hx with e|hx
   . subst e;exact yc ok (by rw[<-hq.1];exact hq.2.1)
   . exact ih x hx
 exact all r x hx
def Ld {kvs:List (List Key × V)}(ok:HOk P w H h) (e:H a=f' (.dT kvs)):kvs.length <= Nl/\(a == OD)=D' /\
 ∃ xs,KT H kvs xs/\h.DictOfH (tupleKind (bv P w)) a xs:=DC ok (.inl e)
end
def Dv (H:Hp) (a:K') (y:V) (r:Option V):Prop :=
 (∃ kvs k,Rd H a (.dK kvs)/\y=kV k/\r=qE kvs k)\/∃ kvs k b,Rd H a (.dT kvs)/\y=.ref b/\H b=f' (.tup (k.map kV))/\r=qE kvs k
def Gq (H:Hp) (a:K') (y v:V) (H':Hp):Prop :=
 (∃ kvs k,H a=f' (.dK kvs)/\y=kV k/\kvs.length < Nl/\H'=upd H a (.dK (vo kvs k v))) \/
 ∃ kvs k b,H a=f' (.dT kvs)/\y=.ref b/\H b=f' (.tup (k.map kV))/\kvs.length < Nl/\H'=upd H a (.dT (vo kvs k v))
def Dv.k {H:Hp}{a:K'}{kvs:List (Key × V)}{k:Key}(e:H a=f' (.dK kvs)):Dv H a (kV k) (qE kvs k):=.inl ⟨kvs,k,.inl e,rfl,rfl⟩
def Gq.k {H:Hp}{a:K'}{kvs:List (Key × V)}{k:Key}{v:V}(e:H a=f' (.dK kvs)) (hl:kvs.length < Nl):Gq H a (kV k) v (upd H a (.dK (vo kvs k v))):=.inl ⟨kvs,k,e,rfl,hl,rfl⟩
section
variable {X:Cx}{P2:List (K' × Ow)}{σ:St}{H:Hp}{s:Ng}{a:K'}{y v:V}{u r:Na}{o:Option V}{A:NN}{E:Na->Ng->Prop}
def Inv.big (I:Inv X P2 σ H s):OD < s.heap.objs.size:=by
 have h:NQ < s.heap.objs.size:=(I.mod.glob.keeps I.bk).lt;exact Nat.lt_trans (by decide) h
def MJ {Q:Na->Ng->Prop}(hu:A.units+1 < PJ) (I:Inv X P2 σ H s) (g:Dv H a y o) (ry:cw y u) (h:∀ s',Inv X P2 σ H s'->Q (.bool o.isSome) s') :
 Nq (model X.prog X.w) A (Oi .In u (.ref a)) Q E s:=by
 rcases g with⟨kvs,k,e,ey,l⟩|⟨kvs,k,b,e,ey,eb,l⟩
 . subst ey;obtain⟨z,hd,vs,rel,dd⟩:=Eg I.hok e;refine wpAny_in_of (zE ry) hd dd.mapOf ?_;rw[<-(rel.val k).isSome_eq,<-l];exact h _ (I.tok _)
 . subst ey;cases (show u=NP b from ry);obtain⟨z,hd,xs,rel,dd⟩:=DC I.hok e;refine wpAny_in_heap (tupleKind_room_in1 hu) (yc I.hok eb) hd dd ?_;have q:=(rel.val k).isSome_eq;rw[isSome_map]at q;rw[<-q,<-l];exact h _ (I.tok _)
def Hu {Q:Na->Ng->Prop}(hu:A.units+1 < PJ) (I:Inv X P2 σ H s) (g:Dv H a y o) (ry:cw y u) (h:∀ s',Inv X P2 σ H s'->Q (.bool (!o.isSome)) s') :
 Nq (model X.prog X.w) A (Oi .NotIn u (.ref a)) Q E s:=by
 rcases g with⟨kvs,k,e,ey,l⟩|⟨kvs,k,b,e,ey,eb,l⟩
 . subst ey;obtain⟨z,hd,vs,rel,dd⟩:=Eg I.hok e;refine wpAny_notIn_of (zE ry) hd dd.mapOf ?_;rw[<-(rel.val k).isSome_eq,<-l];exact h _ (I.tok _)
 . subst ey;cases (show u=NP b from ry);obtain⟨z,hd,xs,rel,dd⟩:=DC I.hok e;refine wpAny_notIn_heap (tupleKind_room_in1 hu) (yc I.hok eb) hd dd ?_;have q:=(rel.val k).isSome_eq;rw[isSome_map]at q;rw[<-q,<-l];exact h _ (I.tok _)
def tK {h':NI}{t':Nat}{ob:HO}(I:Inv X P2 σ H s) (mu:Mut (H a)) (hs:Ox a s.heap h') (he:∃ q,h'.get? a=f' q) (new:dB X.prog X.w (upd H a ob) h' a ob) :
 Inv X P2 σ (upd H a ob) { s with heap:=h',toks:=t' } :=
 I.write (x:=a) (e:=a) mu (.inl rfl) (λb q hb z=>(hs.2 b hb).trans z) he new
def G8 {P:ND}{w:Nt}{H':Hp}{h':NI}{kvs:List (Key × V)}{vs:List (Key × Na)}(z:kvs.length <= Nl) (hd:(a == OD)=D') (rel:KV kvs vs) (dd:h'.DictOf (bv P w) a vs) :
 dB P w H' h' a (.dK kvs):=⟨z,hd,vs,rel,dd⟩
def CK {H':Hp}{Q:Unit->Ng->Prop}(hu:A.units+1 < PJ) (I:Inv X P2 σ H s) (g:Gq H a y v H') (ry:cw y u) (rv:cw v r) (h:∀ s',Inv X P2 σ H' s'->Q () s') :
 Nq (model X.prog X.w) A (setItem (.ref a) u r) Q E s:=by
 rcases g with⟨kvs,k,e,ey,l,eH⟩|⟨kvs,k,b,e,ey,eb,l,eH⟩
 . subst ey eH;obtain⟨z,hd,vs,rel,dd⟩:=BW I.hok e;have hz:vs.length <= Nl:=by rw[<-rel.length];exact z
   have hl:(vo kvs k v).length <= Nl:=by have:=qd kvs k v;omega
   refine wpAny_setItem_pairs (hsz:=hz) (zE ry) dd λh' dd' hs=>h _ ?_
   have he:∃ q,h'.get? a=f' q:=let ⟨q,_,_,hq,_⟩:=dd';⟨q,hq⟩;exact tK I (by rw[e];exact O6) hs he (G8 hl hd (rel.put k rv) dd')
 . subst ey eH;cases (show u=NP b from ry);obtain⟨z,hd,xs,rel,dd⟩:=Ld I.hok e;have hz:xs.length <= Nl:=by rw[<-NF.length rel];exact z
   have hl:(vo kvs k v).length <= Nl:=by have:=qd kvs k v;omega
   refine wpAny_setItem_heap (hsz:=hz) (tupleKind_room_in1 hu) (yc I.hok eb) dd λh' dd' hs=>h _ ?_
   obtain⟨q,es,ep,hq,h2,h3,h4,_,h5⟩:=dd';refine tK I (by rw[e];exact O6) hs ⟨q,hq⟩ ⟨hl,hd,_,(rel.put k eb rv).keeps λc ys ec=>?_,q,es,ep,hq,h2,h3,h4,h5⟩;rw[ae (jh ec e (λz=>nomatch z))];exact ec
end
section
variable {X:Cx}{P2:List (K' × Ow)}{σ:St}{H:Hp}{s:Ng}{a:K'}{kvs:List (Key × V)}{k:Key}{u:Na}{A:NN}{E:Na->Ng->Prop}
def JJ {v:V}{more:List Na}{Q:Na->Ng->Prop}(I:Inv X P2 σ H s) (e:H a=f' (.dK kvs)) (ry:cw (kV k) u) (l:qE kvs k=f' v) (hm:more=[]\/∃ x,more=[x])
 (h:∀ w' s',Inv X P2 σ (upd H a (.dK (nX kvs k))) s'->cw v w'->Q w' s'):Nq (model X.prog X.w) A (call (.builtin "dict.pop") (.ref a :: u :: more)) Q E s:=by
 obtain⟨z,hd,vs,rel,dd⟩:=BW I.hok e;obtain⟨w',hw,rw'⟩:=wL.some_of (v:=v) (o:=valueAt vs k) (by rw[<-l];exact rel.val k);have hp:(keyPart u).isSome=G':=by
  cases k with
 |inl i=>obtain⟨t,q⟩:=(show ∃ t,u=Na.int i t from ry);subst q;rfl
 |inr x=>obtain⟨t,q⟩:=(show ∃ t,u=Na.str x t from ry);subst q;rfl
 have ha:argsOk "dict.pop" ⟨.ref a :: u :: more,[]⟩:=by
  rcases hm with q|⟨x,q⟩
  . subst q;exact PySem.F.args_dict_pop_2 _ _
  . subst q;exact PySem.F.args_dict_pop_3 _ _ _
 refine call_meetsIn Ph dd.typeIs PySem.F.entry_dict_pop ha (meets_dict_pop_there (bv X.prog X.w) a (zE ry) more hm hp)
  ⟨vs,w',dd,by rw[<-rel.length];exact z,hw,λh' dd' hs=>h w' _ ?_ rw'⟩
 have he:∃ q,h'.get? a=f' q:=let ⟨q,_,_,hq,_⟩:=dd';⟨q,hq⟩;exact tK I (by rw[e];exact O6) hs he (G8 (NS (Eu kvs k) z) hd (rel.drop k) dd')
def Km {r:Na}{Q:Na->Ng->Prop}(I:Inv X P2 σ H s) (e:H a=f' (.dK kvs)) (ry:cw (kV k) u) (l:qE kvs k=Nf) (h:∀ s',Inv X P2 σ H s'->Q r s') :
 Nq (model X.prog X.w) A (call (.builtin "dict.pop") [.ref a,u,r]) Q E s:=by
 obtain⟨z,hd,vs,rel,dd⟩:=BW I.hok e;have hn:valueAt vs k=Nf:=wL.none_of (by rw[<-l];exact rel.val k);have hp:(keyPart u).isSome=G':=by
  cases k with
 |inl i=>obtain⟨t,q⟩:=(show ∃ t,u=Na.int i t from ry);subst q;rfl
 |inr x=>obtain⟨t,q⟩:=(show ∃ t,u=Na.str x t from ry);subst q;rfl
 exact call_meetsIn Ph dd.typeIs PySem.F.entry_dict_pop (PySem.F.args_dict_pop_3 _ _ _) (meets_dict_pop_default (bv X.prog X.w) a (zE ry) hd hp r) ⟨vs,dd,hn,h _ (I.tok _)⟩
end
def M7 (i:Expr):Prop:=∀ ov iv,subscripted i D' ov iv=operate [ov,iv] (getItem ov iv)
def Hb {prog:ND}{w:Nt}{A:NN}{E:Na->Ng->Prop}{s:Ng}{env:Env}{value slice:Expr}{pos:Pos}{T id:String}{Q:Na->Ng->Prop}
 (hl:typeLookup (.type T) "__getitem__"=pure (f' (.builtin id))) (hs:M7 slice)
 (h:Nq (model prog w) A (eval value env) (λo s₁=>Nq (model prog w) A (eval slice env) (λi s₂=>s₂.TypeIs o T/\Nq (model prog w) A (getItem o i) Q E s₂) E s₁) E s) :
 Nq (model prog w) A (eval (.Subscript value slice pos) env) Q E s:=by
 refine Subscript_ (PL h (λo s₁ h₁=>PL h₁ (λi s₂ h₂=>?_) λ_ _ x=>x) λ_ _ x=>x);obtain⟨hT,h₂⟩:=h₂;unfold subscriptTail;refine j' ?_;rw[getitemInPython_of_ne hT.not_modules];refine j' (wpAny_specialOf hT hl ?_);have fin:Nq (model prog w) A (subscripted slice D' o i) (λr s₃=>Nq (model prog w) A (letTemporaryGo value o r >>= λ_=>pure r) Q E s₃) E s₂:=by
  rw[hs o i];exact wpAny_operating (PL h₂ (λr s₃ h₃=>j' (wpAny_letTemporaryGo (Nc h₃))) λ_ _ x=>x)
 first
 |exact Nc (j' fin)
 |exact j' (Nc (j' fin))
 |exact j' fin
def ME (ty td:TE):TE:=λσ H Q=>ty σ H λy H1=>td σ H1 λx H2=>∃ a o,x=.ref a/\Dv H2 a y o/\Q (.bl o.isSome) H2
def HR (ty td:TE):TE:=λσ H Q=>ty σ H λy H1=>td σ H1 λx H2=>∃ a o,x=.ref a/\Dv H2 a y o/\Q (.bl (!o.isSome)) H2
def Lg (td ty tv:TE):TS:=λD σ H=>tv σ H λv H1=>td σ H1 λx H2=>ty σ H2 λy H3=>∃ a H4,x=.ref a/\Gq H3 a y v H4/\D.nx σ H4
section
variable {X:Cx}{o i e value:Expr}{pos pos' tpos:Pos}{td ty tv:TE}
def GA (hu:X.A.units+1 < PJ) (hi:PE X i ty) (ho:PE X o td):PC X .In i o (ME ty td):=by
 intro P2 s σ H Q I h;refine thn (hi P2 s σ H _ I h) λiv s1 ⟨y,H1,I1,ry,q1⟩=>thn (ho P2 s1 σ H1 _ I1 q1) λu s2 ur34=>?_
 obtain⟨x,H2,I2,rx,a,ov,ex,g,q2⟩:=ur34;subst ex;obtain rfl:u=NP a:=rx;exact MJ hu I2 g ry λs3 I3=>⟨.bl ov.isSome,H2,I3,rfl,q2⟩
def mX (hu:X.A.units+1 < PJ) (hi:PE X i ty) (ho:PE X o td):PC X .NotIn i o (HR ty td):=by
 intro P2 s σ H Q I h;refine thn (hi P2 s σ H _ I h) λiv s1 ⟨y,H1,I1,ry,q1⟩=>thn (ho P2 s1 σ H1 _ I1 q1) λu s2 ur35=>?_
 obtain⟨x,H2,I2,rx,a,ov,ex,g,q2⟩:=ur35;subst ex;obtain rfl:u=NP a:=rx;exact Hu hu I2 g ry λs3 I3=>⟨.bl (!ov.isSome),H2,I3,rfl,q2⟩
def tG (hu:X.A.units+1 < PJ) (ho:PE X o td) (hi:PE X i ty) (hv:PE X value tv) (hs:swapsWith value (f' (.Subscript o i pos')) pos.line X.env=pure D') :
 PS X (.Assign [.Subscript o i pos'] value pos) (Lg td ty tv):=by
 intro P2 s σ H D I h;refine wpAny_Assign_Subscript (thn (hv P2 s σ H _ I h) λr s1 ⟨v,H1,I1,rv,q1⟩=>thn (ho P2 s1 σ H1 _ I1 q1) λu s2 ⟨x,H2,I2,rx,q2⟩=>thn (hi P2 s2 σ H2 _ I2 q2) λiv s3 ur36=>?_) hs;obtain⟨y,H3,I3,ry,a,H4,ex,g,q3⟩:=ur36;subst ex;obtain rfl:u=NP a:=rx;exact CK hu I3 g ry rv λs4 I4=>⟨σ,H4,I4,q3⟩
end
def EE {P:ND}{w:Nt}{H:Hp}(h:NI) (hb:OD < h.objs.size):dB P w H (h.push { cls:=.type "dict",data:=.dict #[] }) h.objs.size (.dK []) :=
 ⟨Ou _,beq_eq_false_iff_ne.mpr (Pg (NZ hb)),[],.nil,NI.DictOf.new h⟩
def K3:TE:=λ_ H Q=>∀ p,H p=Nf->Q (.ref p) (upd H p (.dK []))
section
variable {X:Cx}{pos:Pos}
def pe:PE X (.Dict [] [] pos) K3:=λP2 s σ H Q I h =>
 wpAny_Dict_empty ⟨.ref s.heap.objs.size,_,I.laid (a:=s.heap.objs.size) (o:=.dK []) (t':=s.toks) (λ_ _ q=>Nb _ q) (Nm _) (EE s.heap I.big),rfl,h _ (I.hok.fresh (Nm _))⟩
end
structure M1 (X:Cx) (o:Expr) (m:Str) (apos:Pos) (e:Expr) (cpos:Pos):Prop where
 base:attributeBase o m X.env (eval o X.env)=eval o X.env
 few:((PF cpos (NR [e] X.env)).all (λx=>!x.1) && (backToKw cpos (keywordEach [] X.env)).all (λx=>x.1.isSome)
  && decide (([e]:List Expr).length+([]:List Keyword).length+(if ([]:List Keyword).isEmpty then 0 else 1) < 30))=G'
 line:(apos.endLine == cpos.line)=G'
 trees:PF cpos (NR [e] X.env)=[(D',eval e X.env)]
structure M2 (X:Cx) (o:Expr) (m:Str) (apos:Pos) (e f:Expr) (cpos:Pos):Prop where
 base:attributeBase o m X.env (eval o X.env)=eval o X.env
 few:((PF cpos (NR [e,f] X.env)).all (λx=>!x.1) && (backToKw cpos (keywordEach [] X.env)).all (λx=>x.1.isSome)
  && decide (([e,f]:List Expr).length+([]:List Keyword).length+(if ([]:List Keyword).isEmpty then 0 else 1) < 30))=G'
 line:(apos.endLine == cpos.line)=G'
 trees:PF cpos (NR [e,f] X.env)=[(D',eval e X.env),(D',eval f X.env)]
def IsD (H:Hp) (a:K'):Prop:=(∃ kvs,Rd H a (.dK kvs))\/∃ kvs,Rd H a (.dT kvs)
def G5 {X:Cx}{P2:List (K' × Ow)}{σ:St}{H:Hp}{s:Ng}{a:K'}(I:Inv X P2 σ H s) (d:IsD H a) :
 s.TypeIs (.ref a) "dict"/\(∀ b,NP a=.ref b->∃ ob,s.heap.get? b=f' ob/\ob.dict=Nf)/\(a == OD)=D':=by
 rcases d with⟨kvs,e⟩|⟨kvs,e⟩
 . obtain⟨_,hd,vs,_,dd⟩:=Eg I.hok e;refine⟨dd.typeIs,λb q=>?_,hd⟩;cases q;obtain⟨ob,_,_,h1,h2,_⟩:=dd;exact⟨ob,h1,h2.2.1⟩
 . obtain⟨_,hd,xs,_,dd⟩:=DC I.hok e;refine⟨dd.typeIs,λb q=>?_,hd⟩;cases q;obtain⟨ob,_,_,h1,h2,_⟩:=dd;exact⟨ob,h1,h2.2.1⟩
section
variable {X:Cx}{P2:List (K' × Ow)}{σ:St}{H:Hp}{s:Ng}{a:K'}{y d:V}{u r:Na}{o:Option V}{A:NN}{E:Na->Ng->Prop}
end
def JH (td ty:TE):TE:=λσ H Q=>td σ H λx H1=>∃ a,x=.ref a/\IsD H1 a/\ty σ H1 λy H2=>∃ kvs k v,H2 a=f' (.dK kvs)/\y=kV k/\qE kvs k=f' v/\Q v (upd H2 a (.dK (nX kvs k)))
section
variable {X:Cx}{o e f:Expr}{apos cpos:Pos}{td ty tx:TE}
def tO (ho:PE X o td) (he:PE X e ty) (m:M1 X o "pop" apos e cpos):PE X (.Call (.Attribute o "pop" apos) [e] [] cpos) (JH td ty):=by
 intro P2 s σ H Q I h;refine wpAny_Call_method m.base m.few m.line O4 Ph PySem.F.type_dict_pop (thn (ho P2 s σ H _ I h) λu s1 ur37=>?_);obtain⟨x,H1,I1,rx,a,ex,d,q1⟩:=ur37;subst ex;obtain rfl:u=NP a:=rx;obtain⟨t1,t2,_⟩:=G5 I1 d;refine⟨t1,t2,?_⟩;rw[m.trees];refine OT rfl (OP (OE (thn (he P2 s1 σ H1 _ I1 q1) λiv s2 ⟨y,H2,I2,ry,kvs,k,v,ea,ey,l,q2⟩=>Py ?_)));subst ey;exact JJ I2 ea ry l (.inl rfl) λw' s3 I3 rw'=>⟨v,_,I3,rw',q2⟩
end
section
variable {X:Cx}{P2:List (K' × Ow)}{σ:St}{H:Hp}{s:Ng}{a:K'}{kvs:List (Key × V)}{A:NN}{E:Na->Ng->Prop}
end
section
variable {X:Cx}{P2:List (K' × Ow)}{σ:St}{H:Hp}{s:Ng}{a:K'}{y:V}{u:Na}{A:NN}{E:Na->Ng->Prop}
end
end L2
namespace Att
open PySem PySem.W PySem.Calls PyProof.Rows
def pT {P:Params}{h:NI}:∀ (ns:List Int) (vs:List Na),WellAll P h vs (ns.map WData.int)->IntsAre vs ns:=by
 intro ns
 induction ns with
|nil =>
  intro vs w;rw[map_nil]at w;cases w;exact .nil
|cons n ns ih =>
  intro vs w;rw[Oy]at w;cases w with
 |cons a b =>
   cases a;exact .cons _ _ (ih _ b)
def Cz {l:OpenLaw}{n:Nat}(hn:l.most=f' n) {P:Params}{h:NI}{args:List WData}{vals:List Na}
 (hpre:l.row.toRowW.claim.pre args=G') (hwl:WellAll P h vals args) :
 ∃ a vs ns,vals=[NP a]/\args=[WData.list (ns.map WData.int)]/\h.get? a=f' { cls:=.type "list",data:=.seq vs.toArray }/\IntsAre vs ns/\ns.length <= n:=by
 have hsh:WShape.hasAll [] args [.list .int]=G':=(pre_splitW hpre).1;have hc:l.pre.holds [] { args:=args }=G':=(pre_splitW hpre).2;obtain⟨d,r,rfl,h1,h2⟩:=hasAllW_cons hsh;obtain rfl:=hasAllW_nil h2;obtain⟨xs,rfl,h3⟩:=hasW_list h1;obtain⟨ns,rfl⟩:=items_int h3;have hlen:ns.length <= n:=by
  unfold OpenLaw.pre at hc;have h4:(WTm.not (.lt (.lit (.int (n:Int))) (.len (.arg 0)))).holds [] { args:=[.list (ns.map .int)] }=G':=by
   have h4:=(holds_andW hc).1;rw[hn]at h4;exact h4
  have h5:=condW_of h4 (w_not (w_lt w_lit (w_len_list (w_arg rfl))));rw[Nu]at h5;refine Nat.le_of_not_lt λq=>?_
  have q':(n:Int) < ((ns.length:Nat):Int):=by omega
  first
  |(rw[Vf q']at h5;exact absurd h5 (by decide))
  |(simp at h5;omega)
 cases hwl with
|cons w1 w2 =>
  cases w2;cases w1 with
 |list ho hall=>exact⟨_,_,ns,rfl,rfl,ho,pT ns _ hall,hlen⟩
def BB (l:OpenLaw) (args:List WData):l.row.toRowW.claim.post args (.bool G') args=G' :=
 postW_of (r:=l.row.toRowW) (X:=(G' == G'))
  (show WShape.has [] (.bool G') .bool=G' by first|rfl|decide|simp[WShape.has,WShape.arms,WShape.armsAll])
  (show (WTm.eq .res (.lit (.bool G'))).value [] { args:=args,res:=f' (.bool G'),after:=args }=f' (.bool (G' == G')) from w_eq_bool (w_res rfl) w_lit) rfl
def attach_call {l:OpenLaw}{n:Nat}{q:ND}{loose:List Str}{XP:(Str->Option Na)->NI->Prop}{YP:Nt->NI->Prop}{d:DefRec}
 (hn:l.most=f' n) (hdf:d.params.defaults=[])
 (call:∀ (w:Nt) (s₀ s₁:Ng) (mg mb:Str->Option Na) (fa:K') (o:Ow) (pm cd doc:Na) (a:K') (vs:List Na) (ns:List Int),
  Ground q loose [] XP w s₀ mg mb s₁.heap->YP w s₁.heap ->
  s₁.heap.get? fa=f' o->o.data=.func (docDef d.name d.params d.body d.scope pm cd doc)->s₁.heap.CodeRec cd d.name->mg d.name=f' (.ref fa) ->
  s₁.heap.get? a=f' { cls:=.type "list",data:=.seq vs.toArray }->IntsAre vs ns->ns.length <= n->s₁.gens=#[] ->
  codeAny (model l.prog w) callerA (.call (.ref fa) ⟨[.ref a],[]⟩) (λr s'=>r=.ok (.ret (.bool G'))/\OldK s₁.heap s'.heap/\s'.os=s₁.os/\AllBare s'.gens) s₁) :
 WalkO q loose XP YP l.row.toRowW d [] (λf vs=>PySem.call f vs):=by
 intro w s₀ s₁ mg mb G Y fa o pm cd doc dV kV ho hd hcd hD hmg hg args vals as hpre hlay hrd hwl hlo;obtain rfl:dV=.none:=Dflts.none hD hdf;obtain rfl:kV=.none:=Dflts.noKw hD;obtain⟨a,vs,ns,rfl,rfl,hobj,hints,hlen⟩:=Cz hn hpre hwl;refine enter_call (codeAny_mono (call w s₀ s₁ mg mb fa o pm cd doc a vs ns G Y ho (fd_plain hd) hcd hmg hobj hints hlen hg) λr s' hq=>?_);obtain⟨rfl,h2,h3,h4⟩:=hq;exact⟨.inl ⟨.bool G',.bool G',[],rfl,λ_=>rfl,.bool G',BB l _,λ_=>⟨Pairwise.nil,λ_ hm=>(nomatch hm)⟩⟩,h2,h3,h4⟩
section
variable {prog:ND}{w:Nt}{A:NN}{E:Na->Ng->Prop}{s:Ng}{K:Frag}
def Mb (h:NI) (L d:K'):List (K' × Ow):=(PQ h.objs.size).filterMap λa=>if a=L\/a=d then Nf else (h.get? a).map λo=>(a,o)
end
end Att
namespace L2
open PySem PySem.Spec PyProof.Rows
theorem vq:∀ {vs:List Na}{ns:List Int},IntsAre vs ns->bQ (ns.map V.int) vs
|_,_,.nil=>.nil
|_,_,.cons n t h=>.cons ⟨t,rfl⟩ (vq h)
def Li (H:Hp):Prop:=∀ b,H b=Nf\/∃ o xs,H b=f' (.frz o (.lst xs))
def DQ {P:ND}{w:Nt}{K:Nh}{mg mb:Str->Option Na}{CX:CXT}{k:Nat}{fa a:K'}{fd:Np}{x:Str}{sp:Sp}{s₁:Ng}{vs:List Na}{ns:List Int}
 (KX:K.In s₁.heap) (hns:s₁.heap.Ns NQ mg) (hb:s₁.heap.Ns builtinsNs mb) (hbb:∀ x:Str,x≠"__name__"->mb x=Oa x) (hlim:s₁.heap.NoLimit) (hg:s₁.gens=#[])
 (ha:s₁.heap.get? a=f' { cls:=.type "list",data:=.seq vs.toArray }) (hi:IntsAre vs ns) (hl:ns.length <= Nl) (hr:Room k callerA)
 (F:∀ base:NI,K.In base->base.Ns NQ mg->FnOk P w K mg base CX k fa fd [x] sp) (hbind:∀ (s:Ng) (u:Na),BindsTo s fd ⟨[u],[]⟩ [(x,u)])
 (hsp:∀ H:Hp,Li H->SqL K H a (ns.map V.int)->sp [.ref a] H (λv _=>v=.bl G') λ_ _ _=>False)
 (hCX:∀ H e s',CX [] H s₁ (λ_ _ _=>False) e s'->False) :
 codeAny (model P w) callerA (.call (.ref fa) ⟨[.ref a],[]⟩) (λr s'=>r=.ok (.ret (.bool G'))/\OldK s₁.heap s'.heap/\s'.os=s₁.os/\AllBare s'.gens) s₁:=by
 have rv:=vq hi;have lenV:=hi.length;have core:∀ H:Hp,Li H->SqL K H a (ns.map V.int)->HOk P w H s₁.heap->(∀ b,H b≠Nf->b=a)->(H a≠Nf->K.lookup a=Nf) ->
  codeAny (model P w) callerA (.call (.ref fa) ⟨[.ref a],[]⟩) (λr s'=>r=.ok (.ret (.bool G'))/\OldK s₁.heap s'.heap/\s'.os=s₁.os/\AllBare s'.gens) s₁:=by
  intro H hO hS hok hA hK;have base_of:∀ {b:K'} {o:Ow},s₁.heap.get? b=f' o->H b=Nf->(EW s₁.heap H).get? b=f' o:=λe n=>Fc e n
  have noA:∀ {b:K'} {o:Ow} {es:Array NU} {ep:Nat},s₁.heap.get? b=f' o->o.data=.dict es ep->H b=Nf:=λ{b o es ep} e d=>by
   cases q:H b with
  |none=>rfl
  |some u =>
    have e':b=a:=hA b (by rw[q];simp);subst e';rw[ha]at e;cases e;have d':Data.seq vs.toArray _=Data.dict es ep:=d;cases d'
  have nsK:∀ {b:K'} {m:Str->Option Na},s₁.heap.Ns b m->(EW s₁.heap H).Ns b m:=λ{b m} ⟨o,es,ep,e,d,r⟩=>⟨o,es,ep,base_of e (noA e d),d,r⟩
  have hKb:K.In (EW s₁.heap H):=λb o e=>base_of (KX b o e) (by
   cases q:H b with
  |none=>rfl
  |some u =>
    have e':b=a:=hA b (by rw[q];simp);subst e';rw[hK (by rw[q];simp)]at e;cases e)
  have hM:Mod K mg (EW s₁.heap H):=⟨hKb,nsK hns,⟨mb,nsK hb,hbb⟩,let ⟨mc,h1,h2⟩:=hlim;⟨mc,nsK h1,h2⟩⟩
  have e0:Env0 P w K mg (EW s₁.heap H) callerA [] s₁ H:=⟨rfl,hM,λb o e=>HD e,Nat.le_of_eq (Dn _ _),trivial,λb hb=>absurd (show b∈([]:List K') from hb) (by simp),hok,.of_eq hg⟩
  refine codeAny_mono ((F _ hKb (nsK hns)).run callerA [] s₁ H ⟨[.ref a],[]⟩ [.ref a] [.ref a] _ _ hr e0 (hbind s₁ (.ref a)) (.cons rfl .nil) (hsp H hO hS)) λr s' h=>?_
  cases r with
 |error e=>exact(hCX H e s' h).elim
 |ok fl =>
   cases fl with
  |next=>exact OC h
  |brk=>exact OC h
  |cont=>exact OC h
  |ret u =>
    obtain⟨v,H',os,bare,un,hok',r',q⟩:=h;have q':v=.bl G':=q;subst q';obtain rfl:u=Na.bool G':=r';refine⟨rfl,OldK.of_keep λb o e=>?_,os,bare⟩;cases q:H b with
   |none=>exact un.keep b o e q (by intro z;exact absurd (show b∈([]:List K') from z) (by simp)) (by simp)
   |some u =>
     rcases hO b with z|⟨ob,xs,z⟩
     . rw[q]at z;cases z
     . have z2:=un.frzs b ob _ z;obtain⟨e1,_⟩:=hok b _ z;obtain⟨e2,_⟩:=hok' b _ z2;rw[e]at e1;cases e1;exact e2
 cases hk:K.lookup a with
|some o =>
  have e:=KX a o hk;rw[ha]at e;cases e;refine core (λ_=>Nf) (λ_=>.inl rfl) (.inr ⟨_,vs.toArray,_,hk,rfl,rfl,rfl,by rw[NC,lenV];exact hl,by simpa using rv⟩) (λb u z=>by have z':(Nf:Option HO)=f' u:=z;cases z') (λb z=>absurd rfl z) λz=>absurd rfl z
|none =>
  refine core (λb=>if b=a then f' (.frz { cls:=.type "list",data:=.seq vs.toArray } (.lst (ns.map V.int))) else Nf) (λb=>?_) (.inl (.inr ⟨{ cls:=.type "list",data:=.seq vs.toArray },Vc rfl⟩)) (λb u z=>?_) (λb z=>?_) λ_=>hk
  . by_cases hb:b=a
    . exact .inr ⟨_,_,Vc hb⟩
    . exact .inl (Vd hb)
  . by_cases hb:b=a
    . have z':=(Vc hb).symm.trans z;cases z';subst hb;exact⟨ha,by rw[Nu];exact hl,vs,_,rv,ha⟩
    . have z':=(Vd hb).symm.trans z;cases z'
  . by_cases hb:b=a
    . exact hb
    . exact absurd (Vd hb) z
def walk_of {l:PySem.W.OpenLaw}{n k:Nat}{q:ND}{loose:List Str}{XP:(Str->Option Na)->NI->Prop}{YP:Nt->NI->Prop}{d:DefRec}{K:Params->Nh}{CX:Nt->CXT}{sp:Nt->Sp}{x:Str}
 (hn:l.most=f' n) (hn2:n <= Nl) (hdf:d.params.defaults=[]) (hr:Room k callerA)
 (hY:∀ (w:Nt) (h:NI),YP w h->(K w.params).In h)
 (F:∀ (w:Nt) (mg:Str->Option Na) (fa:K') (h:NI),(K w.params).In h->h.Ns NQ mg->mg d.name=f' (.ref fa) ->
  ∃ fd:Np,(∀ (s:Ng) (u:Na),BindsTo s fd ⟨[u],[]⟩ [(x,u)]) /\
   ∀ base:NI,(K w.params).In base->base.Ns NQ mg->FnOk l.prog w (K w.params) mg base (CX w) k fa fd [x] (sp w))
 (hsp:∀ (w:Nt) (H:Hp) (a:K') (ns:List Int),ns.length <= n->Li H->SqL (K w.params) H a (ns.map V.int)->sp w [.ref a] H (λv _=>v=.bl G') λ_ _ _=>False)
 (hCX:∀ (w:Nt) (H:Hp) (s:Ng) (e:Na) (s':Ng),CX w [] H s (λ_ _ _=>False) e s'->False) :
 PySem.W.WalkO q loose XP YP l.row.toRowW d [] (λf vs=>PySem.call f vs):=by
 refine Att.attach_call hn hdf λw s₀ s₁ mg mb fa o pm cd doc a vs ns G Y ho hd hcd hmg hobj hints hlen hg=>?_
 have KX:=hY w _ Y;obtain⟨fd,hb,hF⟩:=F w mg fa _ KX G.T.g hmg;exact DQ KX G.T.g G.T.b G.T.builtins G.T.nolimit hg hobj hints (NS hlen hn2) hr hF hb (λH hO hS=>hsp w H a ns hlen hO hS) λH e s'=>hCX w H s₁ e s'
def aA (s:NX) (j:Nat):NX:=match s with
|.ClassDef _ _ _ body _ _ _ _ _ _ _=>body.getD j (.Pass ⟨0,0,0,0⟩)
|_=>.Pass ⟨0,0,0,0⟩
def gc (s:NX):Arguments:=match s with
|.FunctionDef _ a _ _ _ _ _ _ _ _=>a
|_=>{ posonlyargs:=[],args:=[],vararg:=Nf,kwonlyargs:=[],kw_defaults:=[],kwarg:=Nf,defaults:=[] }
def eZ (s:NX):List NX:=match s with
|.FunctionDef _ _ b _ _ _ _ _ _ _=>b
|_=>[]
def ai (s:NX):Scope:=match s with
|.FunctionDef _ _ _ _ _ _ sc _ _ _=>sc
|_=>{ kind:=.function,names:=[],isGenerator:=D',isCoroutine:=D' }
abbrev CX0:CXT:=λ_ _ _ _ _ _=>False
abbrev E0:XK:=λ_ _ _=>False
def aq {X:Cx}:lz CX0 X E0:=λ_ _ _ _ _ _ _ h=>h.elim
structure Fun (K:Nh) (x qual:Str) (st:NX) (f:K') (fd:Np):Prop where
 ex:∃ (oc:Na) (od:Option K') (kV doc pm:Na) (an:Option K') (cdv ct:Na) (osl:Array (Option Na)),
  fd=fnOf x qual (gc st) (eZ st) (ai st) .none kV doc pm an cdv ct/\K.lookup f=f' ⟨oc,od,.func fd,osl⟩/\codeIn K cdv qual=G'
 kp:keepIn K (.ref f)=G'
section
variable {P:ND}{w:Nt}{K:Nh}{mg:Str->Option Na}{base:NI}
def Fun.ok {x qual:Str}{st:NX}{f:K'}{fd:Np}{N ps:List Str}{k:Nat}{sp:Sp}(F:Fun K x qual st f fd) (S:FnScope N ps (ai st)) (len:∀ vs H Q E,sp vs H Q E->vs.length=ps.length)
 (hbody:∀ (cdv:Na) (A:NN) (outer:List Env) (s:Ng) (H:Hp) (vs:List V) (Q:VK) (E:XK),Room k (A.deeper (envOfC qual (ai st) s.heap.objs.size f cdv))->sp vs H Q E ->
  ∃ t,PSs (G7 CX0 P w K mg base N qual (ai st) f cdv A outer s H E).nox (eZ st) t/\t { nx:=λ_ H'=>Q .non H',rt:=Q } (sW N vs) H):FnOk P w K mg base CX0 (k+1) f fd ps sp:=by
 obtain⟨oc,od,kV,doc,pm,an,cdv,ct,osl,rfl,lk,hcd⟩:=F.ex;refine Kx lk hcd S len λA outer s H vs Q E hr hsp=>?_
 obtain⟨t,h,q⟩:=hbody cdv A outer s H vs Q E hr hsp;exact⟨t,h.nox,q⟩
def Fun.binds {x qual:Str}{st:NX}{f:K'}{fd:Np}{ps:List Str}(F:Fun K x qual st f fd)
 (h:∀ (kV doc pm:Na) (an:Option K') (cdv ct:Na) (us:List Na),us.length=ps.length->bindArgs (fnOf x qual (gc st) (eZ st) (ai st) .none kV doc pm an cdv ct) ⟨us,[]⟩=pure (ps.zip us)):aB K fd ps []:=by
 obtain⟨oc,od,kV,doc,pm,an,cdv,ct,osl,rfl,lk,hcd⟩:=F.ex;exact .all (h kV doc pm an cdv ct)
def fun_mk {x qual:Str}{st:NX}{f:K'}{oc:Na}{od an:Option K'}{osl:Array (Option Na)}{kV doc pm cdv ct:Na}(l:K.lookup f=f' ⟨oc,od,.func (fnOf x qual (gc st) (eZ st) (ai st) .none kV doc pm an cdv ct),osl⟩)
 (c:codeIn K cdv qual=G') (k:keepIn K (.ref f)=G'):Fun K x qual st f (fnOf x qual (gc st) (eZ st) (ai st) .none kV doc pm an cdv ct):=⟨⟨oc,od,kV,doc,pm,an,cdv,ct,osl,rfl,l,c⟩,k⟩
end
def bU {A:NN}{k:Nat}(hr:Room k A):A.units+1 < PJ:=Nat.lt_of_le_of_lt (Nat.add_le_add_left (by decide:1 <= 64) _) hr.units
section
variable {X:Cx}
def pv (i:Nat) {x:Str}{pos:Pos}(hN:X.N[i]?=f' x:=by rfl) (hv:Vis X.env.scope x:=by first|exact NW rfl|exact Or.inr (NW rfl)|exact Or.inr (Or.inr rfl)) (hd:(x == ("__debug__":Str))=D':=by decide)
 (hcd:(x == ("__classdict__":Str))=D':=by decide):PE X (.Name x pos) (qP i):=K7 hN hv hd hcd
end
def cW {A B:Prop}(h:B):if D'=G' then A else B:=by
 rw[Vd Nz];exact h
def fP {A B:Prop}(h:A):if G'=G' then A else B:=by
 rw[Vc rfl];exact h
def J0 {c A B:Prop} [Decidable c] (h1:c->A) (h2:¬ c->B):if c then A else B:=by
 by_cases h:c
 . rw[Vc h];exact h1 h
 . rw[Vd h];exact h2 h
def bq (H H':Hp):Prop:=∀ b o,H b=f' o->H' b=f' o
def bq.refl (H:Hp):bq H H:=λ_ _ h=>h
def bq.trans {H H1 H2:Hp}(a:bq H H1) (b:bq H1 H2):bq H H2:=λc o h=>b c o (a c o h)
def bq.seq {K:Nh}{H H':Hp}{a:K'}{xs:List V}(e:bq H H') (h:SqL K H a xs):SqL K H' a xs:=by
 rcases h with (h|⟨o,h⟩)|h
 . exact .inl (.inl (e _ _ h))
 . exact .inl (.inr ⟨o,e _ _ h⟩)
 . exact .inr h
section
variable {X:Cx}
end
section
variable {κ:Type} [DecidableEq κ]
end
def sr:Oa "int"=f' (.type "int"):=by decide +kernel
def Ct:Oa "bool"=f' (.type "bool"):=by decide +kernel
def BZ:Oa "list"=f' (.type "list"):=by decide +kernel
def gW:Oa "tuple"=f' (.type "tuple"):=by decide +kernel
def jP:Oa "str"=f' (.type "str"):=by decide +kernel
def xN:Oa "reversed"=f' (.type "reversed"):=by decide +kernel
def bx:Oa "isinstance"=f' (.builtin "isinstance"):=by decide +kernel
def i0:Oa "len"=f' (.builtin "len"):=by decide +kernel
section
variable {X:Cx}
def c8:mW X (.builtin "isinstance") (λxs H Q=>∃ x c t b,xs=[x,V.ty c]/\TyOf X.K H x t/\kitOne X.K t (.type c)=f' b/\Q (.bl b) H):=by
 intro P2 s σ H xs us Q I r h;obtain⟨x,c,t,b,rfl,ty,e,q⟩:=h;obtain⟨u,w',rfl,ru,rw⟩:=GT r;cases rw;exact Bm I ru ty e λtk=>⟨.bl b,H,I.tok _,rfl,q⟩
def LK (_i j:Int):Prop:=0 < j/\j < 2 ^ 40
def yZ:OpR X (binaryOp .FloorDiv) (rI LK λi j=>.int (i / j)):=opI λi j _ _ _ _ _ hc q=>by
 have h1:(0:Int) < j:=hc.1;have h2:j < 2 ^ 40:=hc.2;refine floordiv_int (by omega) (by rw[Int.fdiv_eq_ediv_of_nonneg i (by omega)];exact q) (.inl (PyProof.noPylong_of_log2 ?_));have h3:j.natAbs≠0:=by omega
 have h4:j.natAbs.log2 < 40:=(log2_lt h3).mpr (by omega);omega
end
def iy {c A B:Prop} [Decidable c] (hc:c) (h:A):if c then A else B:=by
 rw[Vc hc];exact h
def cu {c A B:Prop} [Decidable c] (hc:¬ c) (h:B):if c then A else B:=by
 rw[Vd hc];exact h
def uA {i j:Int}(h0:0 <= i) (h1:i < 4294967296):KP i j:=.inl ⟨Int.lt_of_lt_of_le (by decide) h0,Int.lt_trans h1 (by decide)⟩
def af {H:Hp}{p:K'}{o:HO}(h:H p=Nf):bq H (upd H p o):=λb u e=>by
 rw[ae (ac e h)];exact e
section
variable {X:Cx}
end
end L2
set_option Elab.async false
set_option maxRecDepth 100000
set_option maxHeartbeats 4000000
namespace MX
open PySem PySem.W
mutual
def kd:Ni->Bool
|.int _=>G'
|.str x=>Oq x
|.tuple xs=>kds xs
|.none=>D'
|.bool _=>D'
|.list _=>D'
|.dict _=>D'
def kds:List Ni->Bool
|[]=>G'
|x :: xs=>kd x && kds xs
end
mutual
def hashD (w:Nt):Ni->Int
|.int i=>hashInt i
|.str x=>hashStr w x
|.tuple xs=>reduceHash (Builtin.Tuple.tupleHashOf (wC w xs))
|.none=>0
|.bool _=>0
|.list _=>0
|.dict _=>0
def wC (w:Nt):List Ni->List Int
|[]=>[]
|x :: xs=>hashD w x :: wC w xs
end
mutual
theorem kd_lay:∀ d:Ni,kd d=G'->d.canLay0=G'
|.int _,_=>rfl
|.str _,h=>h
|.tuple xs,h=>Br xs h
|.none,h=>by cases h
|.bool _,h=>by cases h
|.list _,h=>by cases h
|.dict _,h=>by cases h
theorem Br:∀ xs:List Ni,kds xs=G'->OJ xs=G'
|[],_=>rfl
|x :: xs,h=>by
  have h':(kd x && kds xs)=G':=h;rw[Om]at h';show (x.canLay0 && OJ xs)=G';rw[kd_lay x h'.1,Br xs h'.2];rfl
end
def GB {p q:Prop}(h1:¬ p) (h2:¬ q):p ↔ q:=⟨λz=>(h1 z).elim,λz=>(h2 z).elim⟩
mutual
theorem eqv_iff:∀ d e:Ni,kd d=G'->kd e=G'->(Ny d e=G' ↔ d=e)
|.int a,.int b,_,_=>by
  show (a == b)=G' ↔ _;rw[beq_iff_eq];exact⟨λz=>by rw[z],λz=>by injection z⟩
|.str a,.str b,_,_=>by
  show (a == b)=G' ↔ _;rw[beq_iff_eq];exact⟨λz=>by rw[z],λz=>by injection z⟩
|.tuple xs,.tuple ys,h1,h2=>by
  have q:=eqvs_iff xs ys h1 h2;show OR xs ys=G' ↔ _;rw[q];exact⟨λz=>by rw[z],λz=>by injection z⟩
|.int _,.str _,_,_=>GB (λz=>by cases z) (λz=>by cases z)
|.int _,.tuple _,_,_=>GB (λz=>by cases z) (λz=>by cases z)
|.str _,.int _,_,_=>GB (λz=>by cases z) (λz=>by cases z)
|.str _,.tuple _,_,_=>GB (λz=>by cases z) (λz=>by cases z)
|.tuple _,.int _,_,_=>GB (λz=>by cases z) (λz=>by cases z)
|.tuple _,.str _,_,_=>GB (λz=>by cases z) (λz=>by cases z)
theorem eqvs_iff:∀ xs ys:List Ni,kds xs=G'->kds ys=G'->(OR xs ys=G' ↔ xs=ys)
|[],[],_,_=>⟨λ_=>rfl,λ_=>rfl⟩
|[],_ :: _,_,_=>GB (λz=>by cases z) (λz=>by cases z)
|_ :: _,[],_,_=>GB (λz=>by cases z) (λz=>by cases z)
|x :: xs,y :: ys,h1,h2=>by
  have h1':(kd x && kds xs)=G':=h1;have h2':(kd y && kds ys)=G':=h2;rw[Om]at h1' h2';show (Ny x y && OR xs ys)=G' ↔ _;rw[Om,eqv_iff x y h1'.1 h2'.1,eqvs_iff xs ys h1'.2 h2'.2];exact⟨λz=>by rw[z.1,z.2],λz=>by injection z with a b;exact⟨a,b⟩⟩
end
section
variable {prog:ND}{w:Nt}{E:Na->Ng->Prop}
mutual
theorem xq:∀ (k:Ni) (v:Na) (as:List K') (A:NN) (s:Ng) (Q:Int->Ng->Prop),kd k=G'->Reads s.heap v k as->A.units+k.depth < PJ ->
 (∀ tk,Q (hashD w k) { s with toks:=tk })->Nq (model prog w) A (pyHash v) Q E s
|.int i,_,_,A,s,Q,_,x,_,h=>by cases x;exact wpAny_pyHash_int (h _)
|.str y,_,_,A,s,Q,_,x,_,h=>by cases x;exact wpAny_pyHash_str (h _)
|.tuple xs,_,_,A,s,Q,hk,x,hu,h=>by
  cases x with
 |@tuple a o vs n _ _ hg hc hdt hw =>
   refine pyHash_slot (T:="tuple") ⟨_,hg,hc⟩ F.slot_tuple_hash F.entry_tuple_hash (F.args_tuple_hash_1 _) (beq_builtin_none _) (.inr (Nat.lt_of_le_of_lt (Nat.le_add_right _ _) hu)) ?_;show Nq _ _ (Builtin.Tuple.tupleItemsOf (.ref a) >>= _) _ _ s;refine j' (wpAny_tupleItemsOf hg hdt (j' ?_));rw[<-Array.forIn_toList];refine zb xs _ _ A.in1 s #[] _ hk hw (by simp only[Ni.depth,NN.in1_units]at hu |-;omega) λtk b hb=>?_
   show Nq _ _ (retInt (Builtin.Tuple.tupleHashOf b.toList)) _ _ _;rw[hb];exact j' (wpAny_mkInt (Nc ⟨_,_,rfl,h _⟩))
|.none,_,_,_,_,_,h,_,_,_=>by cases h
|.bool _,_,_,_,_,_,h,_,_,_=>by cases h
|.list _,_,_,_,_,_,h,_,_,_=>by cases h
|.dict _,_,_,_,_,_,h,_,_,_=>by cases h
theorem zb:∀ (xs:List Ni) (vs:List Na) (as:List K') (A:NN) (s:Ng) (b:Array Int) (Q:Array Int->Ng->Prop),kds xs=G'->ReadsAll s.heap vs xs as->A.units+Pj xs < PJ ->
 (∀ tk b',b'.toList=b.toList++wC w xs->Q b' { s with toks:=tk }) ->
 Nq (model prog w) A (forIn vs b λx r=>do let h <-pyHash x;pure PUnit.unit;pure (ForInStep.yield (r.push h))) Q E s
|[],_,_,A,s,b,Q,_,x,_,h=>by cases x;exact Nc (h s.toks b (by simp[wC]))
|k :: xs,_,_,A,s,b,Q,hk,x,hu,h=>by
  cases x with
 |cons x1 x2 =>
   have hk':(kd k && kds xs)=G':=hk;rw[Om]at hk';simp only[Pj]at hu;rw[forIn_cons];refine j' (j' (xq k _ _ A s _ hk'.1 x1 (by omega) λtk=>j' (Nc (Nc ?_))));exact zb xs _ _ A _ _ Q hk'.2 x2 (by omega) λtk' b' hb=>h tk' b' (by simp[hb,wC])
end
def zj:∀ (n:Nat) (k:Ni) (v:Na) (as:List K') (A:NN) (s:Ng) (Q:Bool->Ng->Prop),kd k=G'->Reads s.heap v k as->k.depth <= n ->
 Q G' s->Nq (model prog w) A (eqIsQuiet n v) Q E s:=by
 intro n
 induction n with
|zero =>
  intro k v as A s Q hk x hu h;cases x with
 |int i t=>rw[eqIsQuiet_byValue 0 rfl];exact Nc h
 |str i t=>rw[eqIsQuiet_byValue 0 rfl];exact Nc h
 |tuple=>simp only[Ni.depth]at hu;omega
 |none=>cases hk
 |bool=>cases hk
 |list=>cases hk
 |dict=>cases hk
|succ n ih =>
  intro k v as A s Q hk x hu h;cases x with
 |int i t=>rw[eqIsQuiet_byValue _ rfl];exact Nc h
 |str i t=>rw[eqIsQuiet_byValue _ rfl];exact Nc h
 |none=>cases hk
 |bool=>cases hk
 |list=>cases hk
 |dict=>cases hk
 |@tuple a o vs m xs _ hg hc hdt hw =>
   have hT:s.TypeIs (.ref a) "tuple":=⟨_,hg,hc⟩
   unfold eqIsQuiet;refine j' (wpAny_specialOf hT F.slot_tuple_eq.lookup ?_);show Nq _ _ (isInstance (.ref a) (.type "tuple") >>= _) _ _ s;refine j' (wpAny_isInstance hT isSubtype_tuple_tuple ?_);simp only[O9,NK,if_false];refine j' (Pd hg hdt (j' ?_));show Nq _ _ (forIn vs _ _) _ _ s;rw[<-Array.forIn_toList];refine wpAny_forIn_list _ (λck r s'=>r.1=Nf/\s'=s/\∃ ys bs,ReadsAll s.heap ck ys bs/\kds ys=G'/\Pj ys <= n) _ ?_ ?_ _ _
    ⟨rfl,rfl,xs,_,hw,hk,by simp only[Ni.depth]at hu;omega⟩
   . rintro y ck r s' ⟨hr,rfl,ys,bs,rd,hks,hdp⟩;cases rd with
    |@cons _ _ d ds _ _ r1 r2 =>
      have hks':(kd d && kds ds)=G':=hks;rw[Om]at hks';simp only[Pj]at hdp;refine j' (ih d _ _ A _ _ hks'.1 r1 (by omega) ?_);simp only[O9,NK,if_false];exact Nc ⟨rfl,rfl,ds,_,r2,hks'.2,by omega⟩
   . rintro⟨r1,r2⟩ s' ⟨hr,rfl,_⟩;simp only at hr;subst hr;exact Nc h
def Ent (w:Nt) (h:NI) (k:Ni) (e:NU):Prop:=kd k=G'/\k.depth <= 8/\(∃ as,Reads h e.key k as)/\e.hash=hashD w k
def Ask (h:NI) (k:Ni) (v:Na):Prop:=kd k=G'/\k.depth <= 8/\(∃ as,Reads h v k as)/\((∃ x t,v=.str x t)\/∃ a,v=.ref a)
abbrev Ents (w:Nt) (h:NI) (ks:List Ni) (es:List NU):Prop:=NF (Ent w h) ks es
theorem f2_get {α β:Type}{R:α->β->Prop}:∀ {xs:List α}{ys:List β},NF R xs ys->∀ (j:Nat) (y:β),ys[j]?=f' y->∃ x,xs[j]?=f' x/\R x y
|_,_,.nil,j,y,h=>by simp at h
|_,_,.cons r t,0,y,h=>by simp at h;subst h;exact⟨_,rfl,r⟩
|_,_,.cons r t,j+1,y,h=>by
  obtain⟨x,e,q⟩:=f2_get t j y (by simpa using h);exact⟨x,by simpa using e,q⟩
theorem x8 {α β:Type}{R:α->β->Prop}:∀ {xs:List α}{ys:List β},NF R xs ys->∀ (j:Nat) (x:α),xs[j]?=f' x->∃ y,ys[j]?=f' y/\R x y
|_,_,.nil,j,y,h=>by simp at h
|_,_,.cons r t,0,y,h=>by simp at h;subst h;exact⟨_,rfl,r⟩
|_,_,.cons r t,j+1,y,h=>by
  obtain⟨x,e,q⟩:=x8 t j y (by simpa using h);exact⟨x,by simpa using e,q⟩
def zR {n:Nat}{f:Nat->Option Int}{h:Int}{j:Nat}(hj:j < n) (e:f j=f' h):j∈Oh n f h:=by
 unfold Oh;exact P0.mpr ⟨mem_range.mpr hj,by rw[e];simp⟩
def q9 {n:Nat}{f:Nat->Option Int}{h:Int}{j:Nat}(hj:j∈Oh n f h):j < n:=by
 unfold Oh at hj;exact mem_range.mp (P0.mp hj).1
def va {n:Nat}{f:Nat->Option Int}{h:Int}:(Oh n f h).Nodup:=by
 unfold Oh;exact Nodup.sublist List.filter_sublist List.nodup_range
def Kg {α:Type}{xs:List α}(hn:xs.Nodup) {i j:Nat}{k:α}(hi:xs[i]?=f' k) (hj:xs[j]?=f' k):i=j :=
 (List.getElem?_inj (NG.mp hi).1 hn).mp (hi.trans hj.symm)
variable {A:NN}{s:Ng}
def Gg {d:K'}{o:Ow}{es:Array NU}{ep:Nat}{ks:List Ni}{k:Ni}{key:Na}{Q:Option Nat->Ng->Prop}(hu:A.units+8 < PJ) (hk:Ask s.heap k key)
 (ho:s.heap.get? d=f' o) (hd:o.data=.dict es ep) (hes:Ents w s.heap ks es.toList) (hn:ks.Nodup) (hnone:k ∉ ks->Q Nf s) (hsome:∀ j:Nat,ks[j]?=f' k->Q (f' j) s) :
 Nq (model prog w) A (dictFind d key (hashD w k)) Q E s:=by
 obtain⟨kk,kdp,⟨as,kr⟩,ksh⟩:=hk;have hget:∀ (j:Nat) (e:NU),es[j]?=f' e->∃ k',ks[j]?=f' k'/\Ent w s.heap k' e:=λj e h=>f2_get hes j e (by rw[N0];exact h)
 have hget':∀ (j:Nat) (k':Ni),ks[j]?=f' k'->∃ e,es[j]?=f' e/\Ent w s.heap k' e:=λj k' h=>by
  obtain⟨e,h1,h2⟩:=x8 hes j k' h;exact⟨e,by rw[<-N0];exact h1,h2⟩
 have hplace:∀ j:Nat,ks[j]?=f' k->j∈Oh es.size (λi=>es[i]?.map (·.hash)) (hashD w k):=λj h=>by
  obtain⟨e,h1,_,_,_,h2⟩:=hget' j k h;exact zR (Array.getElem?_eq_some_iff.mp h1).1 (by rw[h1,<-h2];rfl)
 have heq:∀ (k':Ni) (e:NU) (R:Bool->Ng->Prop),Ent w s.heap k' e->(k'=k->R G' s)->(k'≠k->R D' s)->Nq (model prog w) A (eqBool e.key key) R E s:=λk' e R h h1 h2=>by
  obtain⟨ek,ed,⟨bs,er⟩,_⟩:=h;refine SeqAt.eqAt_reads k' k A s _ _ _ _ er kr (kd_lay _ ek) (kd_lay _ kk) (by omega) prog w E R ?_;by_cases z:k'=k
  . rw[(eqv_iff k' k ek kk).mpr z];exact h1 z
  . have:Ny k' k=D':=by
     cases q:Ny k' k with
    |false=>rfl
    |true=>exact absurd ((eqv_iff k' k ek kk).mp q) z
    rw[this];exact h2 z
 have none_of:(∀ j:Nat,ks[j]?=f' k->j∈([]:List Nat))->Q Nf s:=λh=>hnone λm=>by
  obtain⟨j,hj⟩:=List.mem_iff_getElem?.mp m;exact absurd (h j hj) (by simp)
 have plain:Nq (model prog w) A (dictWalkPlain d key (hashD w k) es (Oh es.size (λi=>es[i]?.map (·.hash)) (hashD w k))) Q E s:=by
  refine j' ?_;refine wpAny_forIn_list _ (λck b s'=>s'=s/\b=(Nf,())/\(∀ j:Nat,ks[j]?=f' k->j∈ck)/\∀ j∈ck,j < es.size) _ ?_ ?_ _ _ ⟨rfl,rfl,hplace,λj=>q9⟩
  . rintro x ck b s' ⟨rfl,rfl,hin,hlt⟩;have hx:=hlt x Nv;have hlt':∀ j∈ck,j < es.size:=λj hj=>hlt j (Nw _ hj)
    obtain⟨k',hk',he⟩:=hget x es[x] (NJ hx);have next:k'≠k->∀ j:Nat,ks[j]?=f' k->j∈ck:=λz j hj=>by
     rcases NA.mp (hin j hj) with q|q
     . subst q;rw[hk']at hj;exact absurd (NH hj) z
     . exact q
    simp only[NJ hx];by_cases hh:(es[x].hash == hashD w k)=G'
    . rw[Vc hh];refine j' (OG ho hd (j' (heq k' es[x] _ he (λz=>j' (OG ho hd ?_)) (λz=>j' (OG ho hd ?_)))))
      . show Nq _ _ (if (ep != ep)=G' then _ else _) _ E _;rw[Vd (by simp)];exact j' (OH (Nc (Nc (hsome x (z ▸ hk')))))
      . show Nq _ _ (if (ep != ep)=G' then _ else _) _ E _;rw[Vd (by simp)];exact j' (OH (Nc ⟨rfl,rfl,next z,hlt'⟩))
    . rw[Vd hh];refine Nc ⟨rfl,rfl,next λz=>hh ?_,hlt'⟩;rw[he.2.2.2,z];simp
  . rintro b s' ⟨rfl,rfl,hin,_⟩;exact Nc (none_of hin)
 have hstored:∀ v∈(Oh es.size (λi=>es[i]?.map (·.hash)) (hashD w k)).filterMap (λi=>es[i]?.map (·.key)),∃ k' bs,kd k'=G'/\k'.depth <= 8/\Reads s.heap v k' bs:=λv hv=>by
  obtain⟨i,_,hi⟩:=mem_filterMap.mp hv;cases q:es[i]? with
 |none=>rw[q]at hi;cases hi
 |some e =>
   rw[q]at hi;have z:e.key=v:=by simpa using hi
   obtain⟨k',_,h1,h2,⟨bs,h3⟩,_⟩:=hget i e q;exact⟨k',bs,h1,h2,z ▸ h3⟩
 have htell:∀ (R:Bool->Ng->Prop),R D' s->Nq (model prog w) A (tableMayTell key ((Oh es.size (λi=>es[i]?.map (·.hash)) (hashD w k)).filterMap (λi=>es[i]?.map (·.key)))) R E s:=λR h=>by
  unfold tableMayTell;split
  . exact Nc h
  . refine j' (zj 8 k key _ A s _ kk kr kdp ?_);simp only[O9,NK,if_false];refine j' ?_;refine wpAny_forIn_list _ (λck r s'=>s'=s/\r=(Nf,())/\∀ v∈ck,∃ k' bs,kd k'=G'/\k'.depth <= 8/\Reads s.heap v k' bs) _ ?_ ?_ _ _ ⟨rfl,rfl,hstored⟩
    . rintro x ck r s' ⟨rfl,rfl,hr⟩;obtain⟨k',bs,h1,h2,h3⟩:=hr x Nv;refine j' (zj 8 k' x _ A _ _ h1 h3 h2 ?_);simp only[O9,NK,if_false];exact Nc ⟨rfl,rfl,λv hv=>hr v (Nw _ hv)⟩
    . rintro r s' ⟨rfl,rfl,_⟩;exact Nc h
 have hany:∀ a:K',key=.ref a->¬ (es.any λe=>e.key == NP a && e.hash != hashD w k)=G':=by
  rintro a rfl h;rw[<-Array.any_toList,any_eq_true]at h;obtain⟨e,hin,hc⟩:=h;obtain⟨j,hj⟩:=List.mem_iff_getElem?.mp hin;obtain⟨k',hk',h1,h2,⟨bs,h3⟩,h4⟩:=hget j e (by rw[<-N0];exact hj);rw[Om]at hc;have z1:e.key=.ref a:=beq_iff_eq.mp hc.1;rw[z1]at h3;have z2:=SeqAt.Reads.unique k' k _ _ _ (kd_lay _ h1) h3 kr;rw[h4,z2]at hc;simp at hc
 unfold dictFind;refine N2 ?_;refine j' (wpAny_dictEntries ho hd ?_);dsimp only;rcases ksh with⟨x,t,rfl⟩|⟨a,rfl⟩
 . dsimp only;by_cases hstr:(es.all λe=>isExactStrKey e.key)=G'
   . rw[Vc hstr];unfold foundByValue;have kx:k=.str x:=by cases kr;rfl
     have hkey:∀ (j:Nat) (e:NU),es[j]?=f' e->∃ k',ks[j]?=f' k'/\Ent w s.heap k' e/\(e.key.isStr x=G' ↔ k'=k):=λj e h=>by
      obtain⟨k',h1,h2⟩:=hget j e h;refine⟨k',h1,h2,?_⟩;have hs:isExactStrKey e.key=G':=by
       have q:=Array.all_eq_true.mp hstr;obtain⟨hl,he⟩:=Array.getElem?_eq_some_iff.mp h;have:=q j hl;rw[he]at this;exact this
      obtain⟨_,_,⟨bs,h3⟩,_⟩:=h2;cases hv:e.key with
     |str y u =>
       rw[hv]at h3;cases h3;show (y == x)=G' ↔ _;rw[kx,beq_iff_eq];exact⟨λz=>by rw[z],λz=>by injection z⟩
     |_=>rw[hv]at hs;cases hs
     cases hf:es.findIdx? (λe=>e.key.isStr x) with
    |none =>
      refine Nc (hnone λm=>?_);obtain⟨j,hj⟩:=List.mem_iff_getElem?.mp m;obtain⟨e,he,_⟩:=hget' j k hj;obtain⟨k',h1,_,h2⟩:=hkey j e he;rw[hj]at h1;have h3:=Array.findIdx?_eq_none_iff.mp hf e (Array.mem_of_getElem? he);rw[h2.mpr (NH h1).symm]at h3;cases h3
    |some i =>
      obtain⟨hlt,hi,_⟩:=Array.findIdx?_eq_some_iff_getElem.mp hf;obtain⟨k',h1,h2,h3⟩:=hkey i es[i] (NJ hlt);have z:k'=k:=h3.mp hi;simp only[NJ hlt];refine j' (OG ho hd (j' (heq k' es[i] _ h2 (λ_=>j' (OG ho hd ?_)) (λq=>absurd z q))));rw[Vd (by simp)];simp only[if_true];exact j' (OH (Nc (hsome i (z ▸ h1))))
   . rw[Vd hstr];by_cases hall:((Na.str x t :: (Oh es.size (λi=>es[i]?.map (·.hash)) (hashD w k)).filterMap (λi=>es[i]?.map (·.key))).all carriedByValue)=G'
     . rw[Vc hall];exact plain
     . rw[Vd hall];by_cases hone:(((Oh es.size (λi=>es[i]?.map (·.hash)) (hashD w k)).filterMap (λi=>es[i]?.map (·.key))) == [Na.str x t])=G'
       all_goals
        first
        |(rw[Vc hone];refine j' (Nc ?_))
        |(rw[Vd hone];refine j' (htell _ ?_))
        rw[Vd (by simp)];refine j' (wpAny_forIn_list _ (λck b s'=>s'=s/\∃ hit,b=(Nf,hit)/\((hit=Nf/\∀ j:Nat,ks[j]?=f' k->j∈ck)\/∃ j,hit=f' j/\ks[j]?=f' k/\j ∉ ck)/\(∀ j∈ck,j < es.size)/\ck.Nodup) _ ?_ ?_ _ _
         ⟨rfl,Nf,rfl,.inl ⟨rfl,hplace⟩,λj=>q9,va⟩)
        . rintro x ck b s' ⟨rfl,hit,rfl,hin,hlt,hnd⟩;have hx:=hlt x Nv;have hlt':∀ j∈ck,j < es.size:=λj hj=>hlt j (Nw _ hj)
          obtain⟨hxr,hnd'⟩:=Pc.mp hnd;obtain⟨k',hk',he⟩:=hget x es[x] (NJ hx);have next:k'≠k->((hit=Nf/\∀ j:Nat,ks[j]?=f' k->j∈ck)\/∃ j,hit=f' j/\ks[j]?=f' k/\j ∉ ck):=λz=>by
           rcases hin with⟨h0,hin⟩|⟨j,h0,hj,hjr⟩
           . refine .inl ⟨h0,λj hj=>?_⟩;rcases NA.mp (hin j hj) with q|q
             . subst q;rw[hk']at hj;exact absurd (NH hj) z
             . exact q
           . exact .inr ⟨j,h0,hj,λq=>hjr (Nw _ q)⟩
          simp only[NJ hx];by_cases hh:(es[x].hash == hashD w k)=G'
          . rw[Vc hh];refine j' (OG ho hd (j' (heq k' es[x] _ he (λz=>j' (OG ho hd ?_)) (λz=>j' (OG ho hd ?_)))))
            . rw[Vd (by simp)];have hkx:ks[x]?=f' k:=z ▸ hk';rcases hin with⟨rfl,hin⟩|⟨j,_,hj,hjr⟩
              . simp only[isSome_none,NK,if_false,if_true];refine j' (OH ?_);split
                . exact Nc (Nc (hsome x hkx))
                . exact Nc ⟨rfl,f' x,rfl,.inr ⟨x,rfl,hkx,hxr⟩,hlt',hnd'⟩
              . exact absurd (Kg hn hj hkx ▸ Nv) hjr
            . rw[Vd (by simp)];simp only[NK,if_false];refine j' (OH ?_)
              try rw[Vd (by simp)]
              exact Nc ⟨rfl,hit,rfl,next z,hlt',hnd'⟩
          . rw[Vd hh];refine Nc ⟨rfl,hit,rfl,next λz=>hh ?_,hlt',hnd'⟩;rw[he.2.2.2,z];simp
        . rintro b s' ⟨rfl,hit,rfl,hin,_⟩;rcases hin with⟨rfl,hin⟩|⟨j,rfl,hj,_⟩
          . exact Nc (none_of hin)
          . exact Nc (hsome j hj)
 . dsimp only;rw[Vd (show ¬ ((NP a :: (Oh es.size (λi=>es[i]?.map (·.hash)) (hashD w k)).filterMap (λi=>es[i]?.map (·.key))).all carriedByValue)=G' from by simp[carriedByValue]),Vd (hany a rfl)];by_cases hone:(((Oh es.size (λi=>es[i]?.map (·.hash)) (hashD w k)).filterMap (λi=>es[i]?.map (·.key))) == [NP a])=G'
   all_goals
    first
    |(rw[Vc hone];refine j' (Nc ?_))
    |(rw[Vd hone];refine j' (htell _ ?_))
    rw[Vd (by simp)];refine j' (wpAny_forIn_list _ (λck b s'=>s'=s/\∃ hit,b=(Nf,hit)/\((hit=Nf/\∀ j:Nat,ks[j]?=f' k->j∈ck)\/∃ j,hit=f' j/\ks[j]?=f' k/\j ∉ ck)/\(∀ j∈ck,j < es.size)/\ck.Nodup) _ ?_ ?_ _ _
     ⟨rfl,Nf,rfl,.inl ⟨rfl,hplace⟩,λj=>q9,va⟩)
    . rintro x ck b s' ⟨rfl,hit,rfl,hin,hlt,hnd⟩;have hx:=hlt x Nv;have hlt':∀ j∈ck,j < es.size:=λj hj=>hlt j (Nw _ hj)
      obtain⟨hxr,hnd'⟩:=Pc.mp hnd;obtain⟨k',hk',he⟩:=hget x es[x] (NJ hx);have next:k'≠k->((hit=Nf/\∀ j:Nat,ks[j]?=f' k->j∈ck)\/∃ j,hit=f' j/\ks[j]?=f' k/\j ∉ ck):=λz=>by
       rcases hin with⟨h0,hin⟩|⟨j,h0,hj,hjr⟩
       . refine .inl ⟨h0,λj hj=>?_⟩;rcases NA.mp (hin j hj) with q|q
         . subst q;rw[hk']at hj;exact absurd (NH hj) z
         . exact q
       . exact .inr ⟨j,h0,hj,λq=>hjr (Nw _ q)⟩
      simp only[NJ hx];by_cases hh:(es[x].hash == hashD w k)=G'
      . rw[Vc hh];refine j' (OG ho hd (j' (heq k' es[x] _ he (λz=>j' (OG ho hd ?_)) (λz=>j' (OG ho hd ?_)))))
        . rw[Vd (by simp)];have hkx:ks[x]?=f' k:=z ▸ hk';rcases hin with⟨rfl,hin⟩|⟨j,_,hj,hjr⟩
          . simp only[isSome_none,NK,if_false,if_true];refine j' (OH ?_);split
            . exact Nc (Nc (hsome x hkx))
            . exact Nc ⟨rfl,f' x,rfl,.inr ⟨x,rfl,hkx,hxr⟩,hlt',hnd'⟩
          . exact absurd (Kg hn hj hkx ▸ Nv) hjr
        . rw[Vd (by simp)];simp only[NK,if_false];refine j' (OH ?_)
          try rw[Vd (by simp)]
          exact Nc ⟨rfl,hit,rfl,next z,hlt',hnd'⟩
      . rw[Vd hh];refine Nc ⟨rfl,hit,rfl,next λz=>hh ?_,hlt',hnd'⟩;rw[he.2.2.2,z];simp
    . rintro b s' ⟨rfl,hit,rfl,hin,_⟩;rcases hin with⟨rfl,hin⟩|⟨j,rfl,hj,_⟩
      . exact Nc (none_of hin)
      . exact Nc (hsome j hj)
def DictE (h:NI) (d:K') (es:List NU) (ep:Nat):Prop:=∃ o,h.get? d=f' o/\o.ExactDict/\o.data=.dict es.toArray ep
def kf (h:NI) (d:K') (es:List NU):Prop:=∃ o ep,h.get? d=f' o/\o.ExactDict/\o.data=.dict es.toArray ep
def kf.ep {h:NI}{d:K'}{es:List NU}(x:kf h d es):∃ ep,DictE h d es ep:=let ⟨o,ep,e⟩:=x;⟨ep,o,e⟩
def DictE.es {h:NI}{d:K'}{es:List NU}{ep:Nat}(x:DictE h d es ep):kf h d es:=let ⟨o,e⟩:=x;⟨o,ep,e⟩
def kf.typeIs {s:Ng}{d:K'}{es:List NU}(x:kf s.heap d es):s.TypeIs (.ref d) "dict":=let ⟨o,_,ho,hc,_⟩:=x;⟨o,ho,hc.1⟩
def Lc {d:K'}{es:List NU}{ks:List Ni}{k:Ni}{key:Na}{Q:Option Na->Ng->Prop}(hu:A.units+8 < PJ) (hk:Ask s.heap k key)
 (hm:kf s.heap d es) (hes:Ents w s.heap ks es) (hn:ks.Nodup) (hnone:k ∉ ks->∀ tk,Q Nf { s with toks:=tk })
 (hsome:∀ (j:Nat) (e:NU),ks[j]?=f' k->es[j]?=f' e->∀ tk,Q (f' e.val) { s with toks:=tk }):Nq (model prog w) A (dictGet d key) Q E s:=by
 obtain⟨o,ep,ho,hc,hd⟩:=hm;obtain⟨kk,kdp,⟨as,kr⟩,ksh⟩:=id hk;unfold dictGet;refine N2 (j' (xq k key as A s _ kk kr (by omega) λtk=>j' (Gg (s:={ s with toks:=tk }) hu hk ho hd hes hn ?_ ?_)))
 . exact λh=>Nc (hnone h tk)
 . intro j hj;refine j' (wpAny_dictEntries (s:={ s with toks:=tk }) ho hd ?_);obtain⟨e,he,_⟩:=x8 hes j k hj;have q:es.toArray[j]?=f' e:=by rw[List.getElem?_toArray];exact he
   rw[q];exact Nc (hsome j e hj he tk)
def Ll {d:K'}{es:List NU}{ks:List Ni}{k:Ni}{key v:Na}{Q:Unit->Ng->Prop}(hu:A.units+8 < PJ) (hk:Ask s.heap k key)
 (hm:kf s.heap d es) (hes:Ents w s.heap ks es) (hn:ks.Nodup) (hsz:es.length <= Nl)
 (hQ:∀ (h':NI) (tk:Nat) (es':List NU),kf h' d es'->Ox d s.heap h'->((k ∉ ks/\es'=es++[⟨hashD w k,key,v⟩])\/∃ j:Nat,ks[j]?=f' k/\es'=es.modify j λe=>{ e with val:=v }) ->
  Q () { s with heap:=h',toks:=tk }):Nq (model prog w) A (dictSet d key v) Q E s:=by
 obtain⟨o,ep,ho,hc,hd⟩:=hm;obtain⟨kk,kdp,⟨as,kr⟩,ksh⟩:=id hk;unfold dictSet;refine N2 (j' (xq k key as A s _ kk kr (by omega) λtk=>?_));unfold dictSetHashed;refine N2 (j' (Gg (s:={ s with toks:=tk }) hu hk ho hd hes hn ?_ ?_))
 . intro h;refine j' (OH (wpAny_updateDictKeys (hz:=by simpa using hsz) (s:={ s with toks:=tk }) ho hd (hQ _ tk (es++[⟨hashD w k,key,v⟩]) ⟨_,ep+1,Ov _ ho (Ow.isFreed_of_dict (Ow.data_mapDictKeys hd _)),hc.mapDictKeys _,?_⟩ (N6 ..) (.inl ⟨h,rfl⟩))));rw[Ow.data_mapDictKeys hd _];simp
 . intro j hj;refine j' (OH (j' (wpAny_updateDict (s:={ s with toks:=tk }) ho hd (wpAny_point (hQ _ tk (es.modify j λe=>{ e with val:=v }) ⟨_,ep,Ov _ ho (Ow.isFreed_of_dict (Ow.data_mapDict hd _)),hc.mapDict _,?_⟩ (N6 ..) (.inr ⟨j,hj,rfl⟩))))));rw[Ow.data_mapDict hd _];simp
def meets_D (d:K') (key dflt:Na) (hd:(d == OD)=D') :
 MeetsIn prog w (Builtin.«dict.get» ⟨[.ref d,key,dflt],[]⟩) (λA R s=>A.in1.units+8 < PJ/\∃ k ks es,Ask s.heap k key/\kf s.heap d es/\Ents w s.heap ks es/\ks.Nodup /\
  (k ∉ ks->∀ tk,R (.ok (.ret dflt)) { s with toks:=tk })/\∀ (j:Nat) (e:NU),ks[j]?=f' k->es[j]?=f' e->∀ tk,R (.ok (.ret e.val)) { s with toks:=tk }) :=
 .of_wp λA R s ⟨hu,k,ks,es,hk,hm,hes,hn,h1,h2⟩=>by
  show Nq _ _ (dictGet d key >>= _) _ _ s;refine j' (Lc hu hk hm hes hn (λh tk=>?_) λj e hj he tk=>Nc ⟨_,rfl,h2 j e hj he tk⟩);show Nq _ _ (Builtin.Dict.missed d key >>= _) _ _ _;exact j' (wpAny_missed_other hd (Nc ⟨dflt,rfl,h1 h tk⟩))
def put_D {d:K'}{es:List NU}{ks:List Ni}{k:Ni}{key v:Na}{Q:Unit->Ng->Prop}(hu:A.in1.units+8 < PJ) (hk:Ask s.heap k key)
 (hm:kf s.heap d es) (hes:Ents w s.heap ks es) (hn:ks.Nodup) (hsz:es.length <= Nl)
 (hQ:∀ (h':NI) (tk:Nat) (es':List NU),kf h' d es'->Ox d s.heap h'->((k ∉ ks/\es'=es++[⟨hashD w k,key,v⟩])\/∃ j:Nat,ks[j]?=f' k/\es'=es.modify j λe=>{ e with val:=v }) ->
  Q () { s with heap:=h',toks:=tk }):Nq (model prog w) A (setItem (.ref d) key v) Q E s:=by
 unfold setItem;refine N2 (j' (wpAny_sequenceKey hm.typeIs (by decide) (j' (NY (name:=N3 "__setitem__") hm.typeIs slot_dict_setitem
  (NT slot_dict_setitem hm.typeIs entry_dict_setitem ?_ (args_dict_setitem _ _ _))))))
 show Nq _ _ (Builtin.Dict.notOrdered "__setitem__" ⟨[.ref d,key,v],[]⟩ >>= _) _ _ s;refine j' (wpAny_notOrdered_dict hm.typeIs ?_);show Nq _ _ (dictSet d key v >>= _) _ _ s;exact j' (Ll hu hk hm hes hn hsz λh' tk es' a b c=>Nc ⟨.none,rfl,Nc (hQ h' tk es' a b c)⟩)
end
end MX
namespace L2
open PySem PySem.Spec PyProof.Rows
mutual
def DV (H:Hp):Ni->V->Prop
|.none,x=>x=.non
|.bool b,x=>x=.bl b
|.int i,x=>x=.int i
|.str t,x=>x=.str t
|.list ds,x=>∃ (a:K') (vs:List V),x=.ref a/\H a=f' (.lst vs)/\DVs H ds vs
|.tuple ds,x=>∃ (a:K') (vs:List V),x=.ref a/\H a=f' (.tup vs)/\DVs H ds vs
|.dict _,_=>False
def DVs (H:Hp):List Ni->List V->Prop
|[],vs=>vs=[]
|d :: ds,vs=>∃ (v:V) (r:List V),vs=v :: r/\DV H d v/\DVs H ds r
end
section
variable {P:ND}{w:Nt}{H H':Hp}{h:NI}
mutual
theorem DV.reads (ok:HOk P w H h):∀ (d:Ni) (x:V) (u:Na),DV H d x->cw x u->∃ as,Reads h u d as
|.none,_,_,e,r=>by cases e;cases r;exact⟨_,.none⟩
|.bool b,_,_,e,r=>by cases e;cases r;exact⟨_,.bool b⟩
|.int i,_,_,e,r=>by cases e;obtain⟨t,rfl⟩:=r;exact⟨_,.int i t⟩
|.str y,_,_,e,r=>by cases e;obtain⟨t,rfl⟩:=r;exact⟨_,.str y t⟩
|.list ds,_,_,e,r=>by
  obtain⟨a,vs,rfl,ha,hv⟩:=e;cases r;obtain⟨_,its,n,rv,hg⟩:=ok a _ ha;obtain⟨as,q⟩:=DVs.reads ok ds vs its hv rv;exact⟨_,.list hg rfl rfl (by simpa using q)⟩
|.tuple ds,_,_,e,r=>by
  obtain⟨a,vs,rfl,ha,hv⟩:=e;cases r;obtain⟨_,its,rv,o,hg,hc,n,hd⟩:=ok a _ ha;obtain⟨as,q⟩:=DVs.reads ok ds vs its hv rv;exact⟨_,.tuple hg hc hd (by simpa using q)⟩
|.dict _,_,_,e,_=>OC e
theorem DVs.reads (ok:HOk P w H h):∀ (ds:List Ni) (vs:List V) (us:List Na),DVs H ds vs->bQ vs us->∃ as,ReadsAll h us ds as
|[],_,_,e,r=>by cases e;cases r;exact⟨_,.nil⟩
|d :: ds,_,_,e,r=>by
  obtain⟨v,vs,rfl,h1,h2⟩:=e;cases r with
 |cons r1 r2 =>
   obtain⟨as,q1⟩:=DV.reads ok d _ _ h1 r1;obtain⟨bs,q2⟩:=DVs.reads ok ds _ _ h2 r2;exact⟨_,.cons q1 q2⟩
end
mutual
theorem DV.mono (hs:∀ b vs,H b=f' (.lst vs)->H' b=f' (.lst vs)) (ht:∀ b vs,H b=f' (.tup vs)->H' b=f' (.tup vs)):∀ (d:Ni) (x:V),DV H d x->DV H' d x
|.none,_,e=>e
|.bool _,_,e=>e
|.int _,_,e=>e
|.str _,_,e=>e
|.list ds,_,⟨a,vs,e,ha,hv⟩=>⟨a,vs,e,hs _ _ ha,DVs.mono hs ht ds vs hv⟩
|.tuple ds,_,⟨a,vs,e,ha,hv⟩=>⟨a,vs,e,ht _ _ ha,DVs.mono hs ht ds vs hv⟩
|.dict _,_,e=>e
theorem DVs.mono (hs:∀ b vs,H b=f' (.lst vs)->H' b=f' (.lst vs)) (ht:∀ b vs,H b=f' (.tup vs)->H' b=f' (.tup vs)):∀ (ds:List Ni) (vs:List V),DVs H ds vs->DVs H' ds vs
|[],_,e=>e
|d :: ds,_,⟨v,r,e,h1,h2⟩=>⟨v,r,e,DV.mono hs ht d v h1,DVs.mono hs ht ds r h2⟩
end
mutual
theorem DV.keep (ht:∀ b vs,H b=f' (.tup vs)->H' b=f' (.tup vs)):∀ (d:Ni) (x:V),MX.kd d=G'->DV H d x->DV H' d x
|.int _,_,_,e=>e
|.str _,_,_,e=>e
|.tuple ds,_,k,⟨a,vs,e,ha,hv⟩=>⟨a,vs,e,ht _ _ ha,DVs.keep ht ds vs k hv⟩
|.none,_,k,_=>by cases k
|.bool _,_,k,_=>by cases k
|.list _,_,k,_=>by cases k
|.dict _,_,k,_=>by cases k
theorem DVs.keep (ht:∀ b vs,H b=f' (.tup vs)->H' b=f' (.tup vs)):∀ (ds:List Ni) (vs:List V),MX.kds ds=G'->DVs H ds vs->DVs H' ds vs
|[],_,_,e=>e
|d :: ds,_,k,⟨v,r,e,h1,h2⟩=>by
  have k':(MX.kd d && MX.kds ds)=G':=k;rw[Om]at k';exact⟨v,r,e,DV.keep ht d v k'.1 h1,DVs.keep ht ds r k'.2 h2⟩
end
theorem DVs.snoc:∀ {ds:List Ni}{vs:List V}{d:Ni}{v:V},DVs H ds vs->DV H d v->DVs H (ds++[d]) (vs++[v])
|[],_,d,v,e,h=>by cases e;exact⟨v,[],rfl,h,rfl⟩
|c :: ds,_,d,v,⟨v',r,e,h1,h2⟩,h=>by subst e;exact⟨v',r++[v],rfl,h1,DVs.snoc h2 h⟩
end
def wM (d:Ni):Prop:=d.canLay0=G'/\d.depth <= 16
def wM.key {d:Ni}(h:MX.kd d=G') (h2:d.depth <= 8):wM d:=⟨MX.kd_lay d h,by omega⟩
theorem wM.int (i:Int):wM (.int i):=⟨rfl,by show 0 <= 16;decide⟩
def M8 (neg:Bool):R2:=λx y H Q=>∃ d e,DV H d x/\DV H e y/\wM d/\wM e/\Q (.bl (if neg then !PyData.eqv d e else Ny d e)) H
section
variable {X:Cx}
def qD (hu:X.A.units+64 < PJ):OpR X (Oi .Eq) (M8 D'):=by
 intro P2 s σ H x y v u Q I rx ry h;obtain⟨d,e,h1,h2,l1,l2,q⟩:=h;obtain⟨as,r1⟩:=DV.reads I.hok d x v h1 rx;obtain⟨bs,r2⟩:=DV.reads I.hok e y u h2 ry;exact SeqAt.compareEq_reads r1 r2 l1.1 l2.1 (by have:=l1.2;omega) ⟨.bl _,H,I,rfl,q⟩
def FU (hu:X.A.units+64 < PJ):OpR X (Oi .NotEq) (M8 G'):=by
 intro P2 s σ H x y v u Q I rx ry h;obtain⟨d,e,h1,h2,l1,l2,q⟩:=h;obtain⟨as,r1⟩:=DV.reads I.hok d x v h1 rx;obtain⟨bs,r2⟩:=DV.reads I.hok e y u h2 ry;exact SeqAt.neOverData X.prog X.w X.A X.xe s v u d e as bs _ r1 r2 l1.1 l2.1 (by have:=l1.2;omega) ⟨.bl _,H,I,rfl,q⟩
end
def qV (a:K') (es:List NU) (ep:Nat):HO:=.ext λh=>(a == OD)=D'/\MX.DictE h a es ep
def EY (w:Nt) (H:Hp) (p:Ni × V) (e:NU):Prop:=MX.kd p.1=G'/\p.1.depth <= 8/\e.hash=MX.hashD w p.1/\(∃ x,cw x e.key/\DV H p.1 x)/\cw p.2 e.val
def MD (w:Nt) (H:Hp) (a:K') (kvs:List (Ni × V)):Prop:=∃ es ep,H a=f' (qV a es ep)/\NF (EY w H) kvs es/\(kvs.map (·.1)).Nodup/\kvs.length <= Nl
def wO (H:Hp) (k:Ni) (y:V):Prop:=MX.kd k=G'/\k.depth <= 8/\DV H k y/\((∃ t,y=.str t)\/∃ b,y=.ref b)
def fL (kvs:List (Ni × V)) (k:Ni):Option V:=(kvs.find? λp=>Ny p.1 k).map (·.2)
def wK (kvs:List (Ni × V)) (k:Ni) (v:V):List (Ni × V) :=
 if (kvs.any λp=>Ny p.1 k)=G' then kvs.map (λp=>if Ny p.1 k=G' then (p.1,v) else p) else kvs++[(k,v)]
def qV.ok {P:ND}{w:Nt}{H:Hp}{h:NI}{a:K'}{es:List NU}{ep:Nat}(hs:(a == OD)=D') (hm:MX.DictE h a es ep):dB P w H h a (qV a es ep):=by
 refine⟨⟨hs,hm⟩,?_,λh1 h2 uq10 k=>by(obtain⟨z,o,e,r⟩:=uq10;exact ⟨z,o,k o e,r⟩)⟩;obtain⟨o,e,_⟩:=hm;exact⟨o,e⟩
def qV.of {P:ND}{w:Nt}{H:Hp}{h:NI}{a:K'}{es:List NU}{ep:Nat}(ok:HOk P w H h) (e:H a=f' (qV a es ep)):(a == OD)=D'/\MX.DictE h a es ep:=by
 obtain⟨q,_⟩:=ok a _ e;exact q
theorem Paired.keys {w:Nt}{H:Hp}:∀ {kvs:List (Ni × V)}{es:List NU},NF (EY w H) kvs es->kvs.length=es.length
|_,_,.nil=>rfl
|_,_,.cons _ t=>by rw[NM,NM,Paired.keys t]
theorem xx {P:ND}{w:Nt}{H:Hp}{h:NI}(ok:HOk P w H h):∀ {kvs:List (Ni × V)}{es:List NU},NF (EY w H) kvs es->MX.Ents w h (kvs.map (·.1)) es
|_,_,.nil=>.nil
|_,_,.cons ⟨k1,k2,k3,⟨x,rx,dx⟩,_⟩ t=>.cons ⟨k1,k2,DV.reads ok _ _ _ dx rx,k3⟩ (xx ok t)
def Gc {P:ND}{w:Nt}{H:Hp}{h:NI}{k:Ni}{y:V}{u:Na}(ok:HOk P w H h) (hk:wO H k y) (r:cw y u):MX.Ask h k u:=by
 obtain⟨k1,k2,k3,k4⟩:=hk;refine⟨k1,k2,DV.reads ok _ _ _ k3 r,?_⟩;rcases k4 with⟨t,rfl⟩|⟨b,rfl⟩
 . obtain⟨tk,rfl⟩:=r;exact .inl ⟨_,_,rfl⟩
 . cases r;exact .inr ⟨_,rfl⟩
section
variable {w:Nt}{H:Hp}
def fD {d e:Ni}(h1:MX.kd d=G') (h2:MX.kd e=G') (n:d≠e):Ny d e=D':=by
 cases q:Ny d e with
|false=>rfl
|true=>exact absurd ((MX.eqv_iff d e h1 h2).mp q) n
def d9 {d:Ni}(h1:MX.kd d=G'):Ny d d=G':=(MX.eqv_iff d d h1 h1).mpr rfl
def KK (kvs:List (Ni × V)):Prop:=∀ p∈kvs,MX.kd p.1=G'
def KK.of {kvs:List (Ni × V)}{es:List NU}:NF (EY w H) kvs es->KK kvs:=by
 intro r
 induction r with
|nil=>intro p h;cases h
|cons a _ ih =>
  intro p h;rcases NA.mp h with rfl|h
  . exact a.1
  . exact ih p h
theorem xZ {k:Ni}(hk:MX.kd k=G'):∀ {kvs:List (Ni × V)}{j:Nat},KK kvs->(kvs.map (·.1)).Nodup->(kvs.map (·.1))[j]?=f' k->∃ v,kvs[j]?=f' (k,v)/\fL kvs k=f' v
|[],j,_,_,e=>by simp at e
|(a,v) :: r,0,kk,_,e=>by
  simp at e;subst e;refine⟨v,rfl,?_⟩;unfold fL;rw[OY,d9 hk];rfl
|(a,v) :: r,j+1,kk,nd,e=>by
  have nd':(a :: r.map (·.1)).Nodup:=nd;obtain⟨n1,n2⟩:=Pc.mp nd';have e':(r.map (·.1))[j]?=f' k:=by simpa using e
  obtain⟨v',h1,h2⟩:=xZ hk (λp h=>kk p (Nw _ h)) n2 e';refine⟨v',by simpa using h1,?_⟩;have ne:a≠k:=λz=>n1 (by rw[z];exact N1 e')
  unfold fL at h2 |-;rw[OY,fD (kk _ Nv) hk ne];exact h2
def yO {k:Ni}(hk:MX.kd k=G') {kvs:List (Ni × V)}(kk:KK kvs) (n:k ∉ kvs.map (·.1)):fL kvs k=Nf:=by
 unfold fL;rw[find?_eq_none.mpr λp hp=>?_]
 . rfl
 . rw[fD (kk p hp) hk λz=>n (O1.mpr ⟨p,hp,z⟩)];decide
def D9 {k:Ni}(hk:MX.kd k=G') {kvs:List (Ni × V)}(kk:KK kvs) (n:k ∉ kvs.map (·.1)) (v:V):wK kvs k v=kvs++[(k,v)]:=by
 unfold wK;rw[Vd];intro h;obtain⟨p,hp,e⟩:=any_eq_true.mp h;exact n (O1.mpr ⟨p,hp,(MX.eqv_iff _ _ (kk p hp) hk).mp e⟩)
def zU {k:Ni}(hk:MX.kd k=G') {kvs:List (Ni × V)}(kk:KK kvs) (n:k ∉ kvs.map (·.1)) (v:V):kvs.map (λp=>if Ny p.1 k=G' then (p.1,v) else p)=kvs:=by
 induction kvs with
|nil=>rfl
|cons p r ih =>
  have hp:p.1≠k:=λz=>n (O1.mpr ⟨p,Nv,z⟩)
  rw[Oy,fD (kk p Nv) hk hp,ih (λq h=>kk q (Nw _ h)) λh=>n (by rw[Oy];exact Nw _ h)];simp
theorem G6 {k:Ni}(hk:MX.kd k=G') {v:V}{u:Na}(rv:cw v u):∀ {kvs:List (Ni × V)}{es:List NU}{j:Nat},NF (EY w H) kvs es->(kvs.map (·.1)).Nodup->(kvs.map (·.1))[j]?=f' k ->
 NF (EY w H) (kvs.map (λp=>if Ny p.1 k=G' then (p.1,v) else p)) (es.modify j λe=>{ e with val:=u })
|_,_,j,.nil,_,e=>by simp at e
|(a,v') :: r,e0 :: es,0,.cons q t,nd,e=>by
  simp at e;subst e;have nd':(a :: r.map (·.1)).Nodup:=nd;rw[Oy,d9 hk,zU hk (KK.of t) (Pc.mp nd').1];exact .cons ⟨q.1,q.2.1,q.2.2.1,q.2.2.2.1,rv⟩ t
|(a,v') :: r,e0 :: es,j+1,.cons q t,nd,e=>by
  have nd':(a :: r.map (·.1)).Nodup:=nd;obtain⟨n1,n2⟩:=Pc.mp nd';have e':(r.map (·.1))[j]?=f' k:=by simpa using e
  have ne:a≠k:=λz=>n1 (by rw[z];exact N1 e')
  rw[Oy,fD q.1 hk ne];exact .cons q (G6 hk rv t n2 e')
def Jf {k:Ni}(hk:MX.kd k=G') {kvs:List (Ni × V)}{j:Nat}(e:(kvs.map (·.1))[j]?=f' k):(kvs.any λp=>Ny p.1 k)=G':=by
 obtain⟨p,hp,z⟩:=O1.mp (N1 e);exact any_eq_true.mpr ⟨p,hp,by rw[z];exact d9 hk⟩
def BP {k:Ni}{v:V}{kvs:List (Ni × V)}:(kvs.map (λp=>if Ny p.1 k=G' then (p.1,v) else p)).map (·.1)=kvs.map (·.1):=by
 rw[map_map];congr 1;funext p;show (if Ny p.1 k=G' then (p.1,v) else p).1=p.1;split<;>rfl
def En (kvs:List (Ni × V)) (k:Ni) (v:V):(wK kvs k v).length <= kvs.length+1:=by
 unfold wK;split
 . rw[Nu];omega
 . rw[Nj];exact Nm _
end
section
variable {w:Nt}{H H':Hp}{a:K'}{kvs:List (Ni × V)}
theorem EY.keep (ht:∀ b vs,H b=f' (.tup vs)->H' b=f' (.tup vs)) {p:Ni × V}{e:NU}(q:EY w H p e):EY w H' p e:=by
 obtain⟨k1,k2,k3,⟨x,rx,dx⟩,k5⟩:=q;exact⟨k1,k2,k3,⟨x,rx,DV.keep ht _ _ k1 dx⟩,k5⟩
theorem MD.keep (m:MD w H a kvs) (ha:H' a=H a) (ht:∀ b vs,H b=f' (.tup vs)->H' b=f' (.tup vs)):MD w H' a kvs:=by
 obtain⟨es,ep,h1,h2,h3⟩:=m;exact⟨es,ep,by rw[ha];exact h1,Paired.mapP h2 λ_ _ q=>q.keep ht,h3⟩
end
section
variable {X:Cx}{P2:List (K' × Ow)}{σ:St}{H:Hp}{s:Ng}{a:K'}{kvs:List (Ni × V)}{k:Ni}{y v d:V}{u r:Na}{A:NN}{E:Na->Ng->Prop}
def M3 {A:NN}(hu:A.units+64 < PJ):A.in1.units+8 < PJ:=by
 rw[NN.in1_units];omega
def IH {Q:Na->Ng->Prop}(hu:A.units+64 < PJ) (I:Inv X P2 σ H s) (m:MD X.w H a kvs) (hk:wO H k y) (ry:cw y u) (rd:cw d r) (h:∀ w' s',Inv X P2 σ H s'->cw ((fL kvs k).getD d) w'->Q w' s') :
 Nq (model X.prog X.w) A (call (.builtin "dict.get") [.ref a,u,r]) Q E s:=by
 obtain⟨es,ep,h1,h2,h3,h4⟩:=m;obtain⟨hs,hme⟩:=qV.of I.hok h1;have hm:=hme.es;refine call_meetsIn OX hm.typeIs PySem.F.entry_dict_get (PySem.F.args_dict_get_3 _ _ _) (MX.meets_D a u r hs) ⟨M3 hu,k,_,es,Gc I.hok hk ry,hm,xx I.hok h2,h3,λn tk=>h _ _ (I.tok _) ?_,λj e hj he tk=>h _ _ (I.tok _) ?_⟩
 . rw[yO hk.1 (KK.of h2) n];exact rd
 . obtain⟨v',g1,g2⟩:=xZ hk.1 (KK.of h2) h3 hj;rw[g2];obtain⟨p,e1,e2⟩:=MX.f2_get h2 j e he;rw[g1]at e1;cases e1;exact e2.2.2.2.2
def Kw {Q:Unit->Ng->Prop}(hu:A.units+64 < PJ) (I:Inv X P2 σ H s) (m:MD X.w H a kvs) (hl:kvs.length < Nl) (hk:wO H k y) (ry:cw y u) (rv:cw v r)
 (h:∀ H' s',Inv X P2 σ H' s'->(∀ b,b≠a->H' b=H b)->MD X.w H' a (wK kvs k v)->Q () s'):Nq (model X.prog X.w) A (setItem (.ref a) u r) Q E s:=by
 obtain⟨es,ep,h1,h2,h3,h4⟩:=m;obtain⟨hs,hme⟩:=qV.of I.hok h1;have hm:=hme.es;have kk:=KK.of h2;have hz:es.length <= Nl:=by rw[<-Paired.keys h2];omega
 refine MX.put_D (M3 hu) (Gc I.hok hk ry) hm (xx I.hok h2) h3 hz λh' tk es' hm' hsb hor=>?_
 obtain⟨ep',hm2⟩:=hm'.ep;have I':Inv X P2 σ (upd H a (qV a es' ep')) { s with heap:=h',toks:=tk }:=tK I (by rw[h1];exact O6) hsb (let ⟨o,e,_⟩:=hm2;⟨o,e⟩) (qV.ok hs hm2);refine h _ _ I' (λb hb=>ae hb) ⟨es',ep',a8,?_⟩;have ht:∀ b vs,H b=f' (.tup vs)->upd H a (qV a es' ep') b=f' (.tup vs):=λb vs e=>by
  rw[ae (jh e h1 (by intro z;cases z))];exact e
 rcases hor with⟨n,rfl⟩|⟨j,hj,rfl⟩
 . rw[D9 hk.1 kk n];refine⟨?_,?_,by rw[Nj];show kvs.length+1 <= Nl;omega⟩
   . refine NF.snoc (Paired.mapP h2 λ_ _ q=>q.keep ht) ⟨hk.1,hk.2.1,rfl,⟨y,ry,DV.keep ht _ _ hk.1 hk.2.2.1⟩,rv⟩
   . rw[OS];exact nd_snocP h3 n
 . have e:wK kvs k v=kvs.map (λp=>if Ny p.1 k=G' then (p.1,v) else p):=by
    unfold wK;rw[Vc (Jf hk.1 hj)]
   rw[e];exact⟨Paired.mapP (G6 hk.1 rv h2 h3 hj) λ_ _ q=>q.keep ht,by rw[BP];exact h3,by rw[Nu];exact h4⟩
where
 nd_snocP {l:List Ni} {k:Ni} (hn:l.Nodup) (hk:k ∉ l):(l++[k]).Nodup:=by
  rw[O7];exact⟨hn,by simp,λx hx y hy=>by
   rw[Nd.mp hy];exact λz=>hk (z ▸ hx)⟩
end
def LP:TE:=λ_ H Q=>∀ p,H p=Nf->Q (.ref p) (upd H p (qV p [] 0))
def KS (w:Nt) (td ty tv:TE):TS:=λD σ H=>tv σ H λv H1=>td σ H1 λx H2=>ty σ H2 λy H3=>∃ a kvs k,x=.ref a/\MD w H3 a kvs/\kvs.length < Nl/\wO H3 k y /\
 ∀ H4,(∀ b,b≠a->H4 b=H3 b)->MD w H4 a (wK kvs k v)->D.nx σ H4
def KE (w:Nt) (td ty tx:TE):TE:=λσ H Q=>td σ H λx H1=>∃ a,x=.ref a/\(∃ kvs,MD w H1 a kvs)/\ty σ H1 λy H2=>tx σ H2 λz H3=>∃ kvs k,MD w H3 a kvs/\wO H3 k y/\Q ((fL kvs k).getD z) H3
section
variable {X:Cx}{o i e f value:Expr}{pos pos' apos cpos:Pos}{td ty tv tx:TE}
def Hr:PE X (.Dict [] [] pos) LP:=λP2 s σ H Q I h =>
 wpAny_Dict_empty ⟨.ref s.heap.objs.size,_,I.laid (a:=s.heap.objs.size) (o:=qV s.heap.objs.size [] 0) (t':=s.toks) (λ_ _ q=>Nb _ q) (Nm _)
  (qV.ok (beq_eq_false_iff_ne.mpr (Pg (NZ I.big))) ⟨_,Nr _ rfl,⟨rfl,rfl,rfl⟩,rfl⟩),rfl,h _ (I.hok.fresh (Nm _))⟩
def Hm (hu:X.A.units+64 < PJ) (ho:PE X o td) (hi:PE X i ty) (hv:PE X value tv) (hs:swapsWith value (f' (.Subscript o i pos')) pos.line X.env=pure D') :
 PS X (.Assign [.Subscript o i pos'] value pos) (KS X.w td ty tv):=by
 intro P2 s σ H D I h;refine wpAny_Assign_Subscript (thn (hv P2 s σ H _ I h) λr s1 ⟨v,H1,I1,rv,q1⟩=>thn (ho P2 s1 σ H1 _ I1 q1) λu s2 ⟨x,H2,I2,rx,q2⟩=>thn (hi P2 s2 σ H2 _ I2 q2) λiv s3 ur38=>?_) hs;obtain⟨y,H3,I3,ry,a,kvs,k,ex,m,hl,hk,q3⟩:=ur38;subst ex;obtain rfl:u=NP a:=rx;exact Kw hu I3 m hl hk ry rv λH4 s4 I4 g1 g2=>⟨σ,H4,I4,q3 H4 g1 g2⟩
def Fs (hu:X.A.units+64 < PJ) (ho:PE X o td) (he:PE X e ty) (hf:PE X f tx) (m:M2 X o "get" apos e f cpos):PE X (.Call (.Attribute o "get" apos) [e,f] [] cpos) (KE X.w td ty tx):=by
 intro P2 s σ H Q I h;refine wpAny_Call_method m.base m.few m.line O4 OX PySem.F.type_dict_get (thn (ho P2 s σ H _ I h) λu s1 ur39=>?_);obtain⟨x,H1,I1,rx,a,ex,⟨kv0,es,ep,e1,_⟩,q1⟩:=ur39;subst ex;obtain rfl:u=NP a:=rx;obtain⟨_,ob,g1,g2,g3⟩:=qV.of I1.hok e1;refine⟨⟨ob,g1,g2.1⟩,λb eb=>by injection eb with eb;subst eb;exact⟨ob,g1,g2.2.1⟩,?_⟩;rw[m.trees];refine OT rfl (OP (OE (thn (he P2 s1 σ H1 _ I1 q1) λiv s2 ⟨y,H2,I2,ry,q2⟩ =>
  OE (thn (hf P2 s2 σ H2 _ I2 q2) λfv s3 ⟨z,H3,I3,rz,kvs,k,md,hk,q3⟩=>Py ?_))))
 exact IH hu I3 md hk ry rz λw' s4 I4 rw'=>⟨_,H3,I4,rw',q3⟩
end
def Itv (K:Nh) (a:K') (n:Nat):It :=
 ⟨λi H=>i < n/\∃ xs,SqL K H a xs/\xs.length=n,λi H x H'=>H'=H/\∀ xs,SqL K H a xs->xs[n - 1 - i]?=f' x,λi _=>i=n⟩
def Fx {P:ND}{w:Nt}{K:Nh}{tg:Expr}(a it:K') (n:Nat):Turn P w K tg (Itv K a n) [it] it (λi h=>h.IsRevIter it a ((n:Int) - 1 - i)) where
 mem:=Nd.mpr rfl
 obj:=λi h st b hb=>by
  obtain rfl:b=it:=Nd.mp hb;obtain⟨o,e,c,d⟩:=st;exact⟨o,e,λv z=>by rw[d]at z;cases z⟩
 keep:=λi h h' st k=>st.at λo e=>k it (Nd.mpr rfl) o e
 item:=by
  intro X hP hw hK hc i P2 s σ H E I hf st hg;subst hP hw hK;obtain⟨hi,xs,hq,hn⟩:=hg;obtain⟨its,rv,p,hz⟩:=I.list hq;have hlt:n - 1 - i < xs.length:=by omega
  obtain⟨u,hu,ru⟩:=rv.get (Nk hlt);obtain⟨f0,f1,f2,f3,f4,f5⟩:=hf it (Nd.mpr rfl);have ei:(n:Int) - 1 - i=((n - 1 - i:Nat):Int):=by omega
  rw[ei]at st;refine wpAny_pyNext_rev_item st p.isList (x:=u) (by simpa using hu) λh' st' sb=>?_
  have I1:Inv X P2 σ H { s with heap:=h' }:=I.turned (t':=s.toks) (λb o hb e=>(sb.2 b hb).trans e) f0 f1 f3 f4 f5;have ej:((n - 1 - i:Nat):Int) - 1=(n:Int) - 1 - ((i+1:Nat):Int):=by omega
  rw[ej]at st';obtain⟨o,e,c,d⟩:=id st';exact⟨u,rfl,CI (s:={ s with heap:=h' }) e c d (by decide) ⟨_,H,I1,ru,⟨rfl,λys hy=>by rw[I.list_inj hy hq];exact Nk hlt⟩,st',λb hb=>(hf b hb).1⟩⟩
 done:=by
  intro X hP hw hK hc i P2 s σ H E I hf st hg;subst hP hw hK;obtain⟨f0,f1,f2,f3,f4,f5⟩:=hf it (Nd.mpr rfl);have hg':i=n:=hg;have ei:(n:Int) - 1 - i=-1:=by omega
  rw[ei]at st;exact wpAny_pyNext_rev_end (I.ok.hd hc) st λh' eb=>⟨rfl,I.turned (t':=s.toks) (λb o hb e=>eb b o hb e) f0 f1 f3 f4 f5⟩
 self:=λ_ _ _ _ _ st h=>wpAny_pyIter_revIter st h
def MK (K:Nh) (ta:TA):TI:=λσ H R=>ta σ H λvs H1=>∃ a xs,vs=[.ref a]/\SqL K H1 a xs/\R (Itv K a xs.length) H1
section
variable {X:Cx}{tg:Expr}
def K0 {l:Expr}{ta:TA}{p pos:Pos}(hg:Gl X "reversed") (hm:X.mg "reversed"=Nf) (ha:PA X [l] ta) (hs:NR [l] X.env=[(D',eval l X.env)]:=by rfl):PI X tg (.Call (.Name "reversed" p) [l] [] pos) (MK X.K ta):=by
 intro P2 s σ H R I h;refine Call_ (om I hg hm xN (Oz (thn (ha pos P2 s σ H _ I h) λus s1 ur40=>?_) hs rfl));obtain⟨vs,H1,I1,r1,a,xs,ev,hq,q⟩:=ur40;subst ev;obtain⟨u,rfl,ru⟩:=mO r1;cases ru;obtain⟨its,rv,pl,hz⟩:=I1.list hq;have hlen:=rv.length;refine call_reversed_list pl.isList ?_;have sz:((its.toArray.size:Nat):Int) - 1=(xs.length:Int) - 1 - ((0:Nat):Int):=by simp;omega
 rw[sz];have st0:(s1.heap.push (revObj a ((xs.length:Int) - 1 - ((0:Nat):Int)))).IsRevIter s1.heap.objs.size a ((xs.length:Int) - 1 - ((0:Nat):Int)):=⟨_,Nr _ rfl,rfl,rfl⟩
 refine wpAny_pyIter_revIter (s:={ s1 with heap:=s1.heap.push (revObj a ((xs.length:Int) - 1 - ((0:Nat):Int))) }) st0 ?_;refine⟨s1.heap.objs.size,[s1.heap.objs.size],_,_,H1,rfl,I1.kept (t':=s1.toks) λb o e=>Nb _ e,Fx a _ xs.length,st0,λb hb=>?_,q⟩;obtain rfl:b=s1.heap.objs.size:=Nd.mp hb;exact I1.fpOk (Nm _) (I1.hok.fresh (Nm _))
def Hf {K:Nh}{a:K'}{xs:List V}{g:TG}{tb:TS}{D:Ends}{σ:St}{H:Hp}(Pv:Nat->St->Hp->Prop) (h0:Pv 0 σ H) (hl:∀ i σ H,i <= xs.length->Pv i σ H->SqL K H a xs)
 (hs:∀ i x σ H,i < xs.length->xs[xs.length - 1 - i]?=f' x->Pv i σ H->g x σ H λσ2 H2=>tb { D with nx:=Pv (i+1),ct:=Pv (i+1),bk:=D.nx } σ2 H2) (hd:∀ σ H,Pv xs.length σ H->D.nx σ H) :
 ∃ W:Nat->Nat->St->Hp->Prop,(∃ m,W 0 m σ H)/\∀ i m σ H,W i m σ H->((Itv K a xs.length).stop i H/\D.nx σ H)\/((Itv K a xs.length).go i H/\∃ N:St->Hp->Prop,(∀ σ' H',N σ' H'->∃ m',m' < m/\W (i+1) m' σ' H') /\
  ∀ x H',(Itv K a xs.length).yld i H x H'->g x σ H' λσ2 H2=>tb { D with nx:=N,ct:=N,bk:=D.nx } σ2 H2):=by
 refine⟨λi m σ H=>Pv i σ H/\i <= xs.length/\m=xs.length - i,⟨_,h0,Ou _,rfl⟩,?_⟩;rintro i m σ H ⟨hp,hi,rfl⟩;by_cases z:i=xs.length
 . subst z;exact .inl ⟨rfl,hd σ H hp⟩
 . have hlt:i < xs.length:=by omega
   refine .inr ⟨⟨hlt,xs,hl i σ H hi hp,rfl⟩,Pv (i+1),λσ' H' q=>⟨xs.length - (i+1),by omega,q,hlt,rfl⟩,?_⟩;rintro x H' ⟨rfl,hx⟩;exact hs i x σ H' hlt (hx xs (hl i σ H' hi hp)) hp
end
def MZ (K:Nh) (neg:Bool):R2:=λx y H Q=>∃ a b xs,x=.ref a/\y=.ref b/\SqL K H a xs/\SqL K H b []/\Q (.bl (if neg then !xs.isEmpty else xs.isEmpty)) H
section
variable {X:Cx}
def Es (hu:X.A.units+64 < PJ):OpR X (Oi .NotEq) (MZ X.K G'):=by
 intro P2 s σ H x y v u Q I rx ry h;obtain⟨a,b,xs,rfl,rfl,h1,h2,q⟩:=h;cases rx;cases ry;obtain⟨its,r1,p1,_⟩:=I.list h1;obtain⟨it2,r2,p2,_⟩:=I.list h2;have e2:it2=[]:=bQ.zero r2;subst e2;have hl:=r1.length;cases xs with
|nil =>
  have e1:its=[]:=bQ.zero r1;subst e1;exact SeqAt.RcNeAt.lists (e:=λ_=>G') p1.isList p2.isList rfl (by omega) (λj h1 _=>absurd h1 (Nat.not_lt_zero _)) X.prog X.w X.xe _ ⟨.bl D',H,I,rfl,q⟩
|cons z zs =>
  have hne:(its.toArray.size != ([]:List Na).toArray.size)=G':=by
   rw[NM]at hl;rw[bne_iff_ne,NC,NC,length_nil];omega
  exact SeqAt.RcNeAt.lists_lengths p1.isList p2.isList hne (by omega) X.prog X.w X.xe _ ⟨.bl G',H,I,rfl,q⟩
end
def nhr:¬ (("held":Str)="rows"):=by decide +kernel
def stF (hd rl:K'):List (Str × V):=bp "rows" (.ref rl) (bp "held" (.ref hd) [])
def yg {hd rl:K'}:(stF hd rl).lookup ("held":Str)=f' (.ref hd):=by
 unfold stF;rw[a9,Vd nhr,a9,Vc rfl]
def lf {hd rl:K'}:(stF hd rl).lookup ("rows":Str)=f' (.ref rl):=by
 unfold stF;rw[a9,Vc rfl]
def cr {hd rl:K'}{m:Str}(h1:¬ m="rows") (h2:¬ m="held"):(stF hd rl).lookup m=Nf:=by
 unfold stF;rw[a9,Vd h1,a9,Vd h2]
 all_goals rfl
def sdI:Bool->Int
|false=>0
|true=>1
def sS {l:Bool->K'}(b:Bool):atI [V.ref (l D'),V.ref (l G')] (sdI b)=f' (.ref (l b)):=by
 cases b<;>rfl
theorem wO.keep {H H':Hp}{k:Ni}{y:V}(h:wO H k y) (ht:∀ b vs,H b=f' (.tup vs)->H' b=f' (.tup vs)):wO H' k y :=
 ⟨h.1,h.2.1,DV.keep ht _ _ h.1 h.2.2.1,h.2.2.2⟩
def Wt (H:Hp) (p:Ni × V) (tv:V):Prop:=∃ t cv,tv=.ref t/\H t=f' (.tup [cv,p.2])/\wO H p.1 cv
theorem Wt.keep {H H':Hp}{p:Ni × V}{tv:V}(h:Wt H p tv) (ht:∀ b vs,H b=f' (.tup vs)->H' b=f' (.tup vs)):Wt H' p tv:=by
 obtain⟨t,cv,e,h1,h2⟩:=h;exact⟨t,cv,e,ht _ _ h1,h2.keep ht⟩
def BM (H:Hp) (l:K') (es:List (Ni × V)):Prop:=∃ ts:List V,H l=f' (.lst ts)/\NF (Wt H) es ts
theorem BM.keep {H H':Hp}{l:K'}{es:List (Ni × V)}(h:BM H l es) (hl:∀ o,H l=f' o->H' l=f' o) (ht:∀ b vs,H b=f' (.tup vs)->H' b=f' (.tup vs)):BM H' l es:=by
 obtain⟨ts,h1,h2⟩:=h;exact⟨ts,hl _ h1,Paired.mapP h2 λ_ _ q=>q.keep ht⟩
theorem aU {α β:Type}{F:α->β->Prop}:∀ {xs:List α}{ys:List β},NF F xs ys->xs.length=ys.length
|_,_,.nil=>rfl
|_,_,.cons _ t=>by rw[NM,NM,aU t]
def setR {α:Type}(r:Bool->α) (b:Bool) (v:α):Bool->α:=λc=>if c=b then v else r c
def ba {α:Type}{r:Bool->α}{b:Bool}{v:α}:setR r b v b=v:=Vc rfl
def eS {α:Type}{r:Bool->α}{b c:Bool}{v:α}(h:c≠b):setR r b v c=r c:=Vd h
structure Sto (w:Nt) (C:K') (H:Hp) (x hd rl:K') (l:Bool->K') (M:List (Ni × V)) (r:Bool->List (Ni × V)):Prop where
 ob:∃ dx,H x=f' (.ins C dx (stF hd rl))
 me:MD w H hd M
 ro:H rl=f' (.lst [.ref (l D'),.ref (l G')])
 rw:∀ b,BM H (l b) (r b)
 nl:l D'≠l G'
 nr:∀ b,l b≠rl
def Kp (xs:List K') (H H':Hp):Prop:=∀ c o,c ∉ xs->H c=f' o->H' c=f' o
def Kp.refl (xs:List K') (H:Hp):Kp xs H H:=λ_ _ _ e=>e
def Kp.trans {xs:List K'}{H H1 H2:Hp}(a:Kp xs H H1) (b:Kp xs H1 H2):Kp xs H H2:=λc o n e=>b c o n (a c o n e)
def Kp.mono {xs ys:List K'}{H H':Hp}(a:Kp xs H H') (h:∀ c,c∈xs->c∈ys):Kp ys H H':=λc o n e=>a c o (λz=>n (h c z)) e
section
variable {w:Nt}{C:K'}{H H':Hp}{x hd rl:K'}{l:Bool->K'}{M:List (Ni × V)}{r:Bool->List (Ni × V)}
def MD.there (m:MD w H hd M):∃ ee:List NU × Nat,H hd=f' (qV hd ee.1 ee.2):=let ⟨es,ep,h,_⟩:=m;⟨(es,ep),h⟩
def MD.keepS (m:MD w H hd M) (ha:∀ o,H hd=f' o->H' hd=f' o) (ht:∀ b vs,H b=f' (.tup vs)->H' b=f' (.tup vs)):MD w H' hd M:=by
 obtain⟨es,ep,h1,h2⟩:=id m;exact m.keep ((ha _ h1).trans h1.symm) ht
theorem Sto.keep (S:Sto w C H x hd rl l M r) (h:∀ c o,(c=x\/c=hd\/c=rl\/∃ b,c=l b)->H c=f' o->H' c=f' o) (ht:∀ b vs,H b=f' (.tup vs)->H' b=f' (.tup vs)):Sto w C H' x hd rl l M r:=by
 obtain⟨dx,e⟩:=S.ob;exact⟨⟨dx,h _ _ (.inl rfl) e⟩,S.me.keepS (λo=>h _ o (.inr (.inl rfl))) ht,h _ _ (.inr (.inr (.inl rfl))) S.ro,λb=>(S.rw b).keep (λo=>h _ o (.inr (.inr (.inr ⟨b,rfl⟩)))) ht,S.nl,S.nr⟩
def Sto.same (S:Sto w C H x hd rl l M r) (h:bq H H'):Sto w C H' x hd rl l M r:=S.keep (λc o _ e=>h c o e) λb vs e=>h b _ e
def Sto.own (x hd rl:K') (l:Bool->K') (c:K'):Prop:=c=x\/c=hd\/c=rl\/c=l D'\/c=l G'
theorem Sto.there (S:Sto w C H x hd rl l M r) {c:K'}(h:Sto.own x hd rl l c):∃ o,H c=f' o/\(∀ xs,o≠.tup xs):=by
 rcases h with rfl|rfl|rfl|rfl|rfl
 . obtain⟨dx,e⟩:=S.ob;exact⟨_,e,λ_ z=>by cases z⟩
 . obtain⟨es,e⟩:=S.me.there;exact⟨_,e,λ_ z=>by cases z⟩
 . exact⟨_,S.ro,λ_ z=>by cases z⟩
 . obtain⟨ts,e,_⟩:=S.rw D';exact⟨_,e,λ_ z=>by cases z⟩
 . obtain⟨ts,e,_⟩:=S.rw G';exact⟨_,e,λ_ z=>by cases z⟩
end
def mU (M:List (Ni × V)) (es:List (Ni × V)):List (Ni × V):=es.foldl (λM p=>wK M p.1 p.2) M
def cD (M es:List (Ni × V)) (k:Ni):V:=match es.reverse.find? (λp=>Ny p.1 k) with
|some p=>p.2
|none=>(fL M k).getD (.int 0)
def EF (es:List (Ni × V)) (k:Ni):Option V:=(es.reverse.find? λp=>Ny p.1 k).map (·.2)
def xT (M es:List (Ni × V)) (k:Ni):cD M es k=((EF es k).or (fL M k)).getD (.int 0):=by
 unfold cD EF;cases es.reverse.find? (λp=>Ny p.1 k)<;>rfl
theorem yu {k k':Ni}(h:MX.kd k=G') (h':MX.kd k'=G') (v:V):∀ {M:List (Ni × V)},KK M->fL (M.map λp=>if Ny p.1 k'=G' then (p.1,v) else p) k=(fL M k).map λx=>if Ny k' k=G' then v else x
|[],_=>rfl
|p :: r,kk=>by
  have ih:=yu h h' v (M:=r) λq hq=>kk q (Nw _ hq)
  have kp:=kk p Nv;unfold fL at ih |-;rw[Oy,OY,OY];have e1:(if Ny p.1 k'=G' then (p.1,v) else p).1=p.1:=by split<;>rfl
  rw[e1];cases z:Ny p.1 k with
 |false=>exact ih
 |true =>
   have pk:=(MX.eqv_iff _ _ kp h).mp z;show f' (if Ny p.1 k'=G' then (p.1,v) else p).2=f' (if Ny k' k=G' then v else p.2);by_cases y:k'=k
   . subst y;rw[d9 h',z];rfl
   . rw[fD h' h y,pk,fD h h' λq=>y q.symm];rfl
def zu {M:List (Ni × V)}{k k':Ni}(kk:KK M) (h':MX.kd k'=G') (h:MX.kd k=G') (v:V):fL (wK M k' v) k=if Ny k' k=G' then f' v else fL M k:=by
 by_cases n:k'∈M.map (·.1)
 . obtain⟨p,hp,e⟩:=O1.mp n;have ha:(M.any λp=>Ny p.1 k')=G':=any_eq_true.mpr ⟨p,hp,by rw[e];exact d9 h'⟩;unfold wK;rw[Vc ha,yu h h' v kk];by_cases y:k'=k
   . subst y;rw[d9 h'];have:(fL M k').isSome=G':=by
      unfold fL;rw[isSome_map,List.find?_isSome];exact⟨p,hp,by rw[e];exact d9 h'⟩
     cases z:fL M k' with
    |none=>rw[z]at this;cases this
    |some x=>rfl
   . rw[fD h' h y];cases fL M k<;>rfl
 . rw[D9 h' kk n];unfold fL;rw[List.find?_append,OY];by_cases y:k'=k
   . subst y;have z:=yO h' kk n;unfold fL at z;rw[Option.map_eq_none_iff]at z;rw[z,d9 h'];rfl
   . rw[fD h' h y];cases M.find? (λp=>Ny p.1 k)<;>rfl
mutual
theorem GH {H:Hp}{D:K'}{o:HO}(hD:H D=Nf) (ho:∀ xs,o≠.tup xs):∀ {k:Ni}{y:V},MX.kd k=G'->DV (upd H D o) k y->DV H k y
|.int _,_,_,e=>e
|.str _,_,_,e=>e
|.tuple ds,_,h,⟨a,vs,e,ha,hv⟩=>by
  have ne:a≠D:=λz=>by
   rw[z,a8]at ha;exact ho vs (NH ha)
  exact⟨a,vs,e,by rw[ae ne]at ha;exact ha,yV hD ho h hv⟩
|.none,_,h,_=>by cases h
|.bool _,_,h,_=>by cases h
|.list _,_,h,_=>by cases h
|.dict _,_,h,_=>by cases h
theorem yV {H:Hp}{D:K'}{o:HO}(hD:H D=Nf) (ho:∀ xs,o≠.tup xs):∀ {ds:List Ni}{vs:List V},MX.kds ds=G'->DVs (upd H D o) ds vs->DVs H ds vs
|[],_,_,e=>e
|d :: ds,_,h,⟨v,r,e,h1,h2⟩=>by
  have h':(MX.kd d && MX.kds ds)=G':=h;rw[Om]at h';exact⟨v,r,e,GH hD ho h'.1 h1,yV hD ho h'.2 h2⟩
end
theorem mem_of_lookup {β:Type}{y:Str}{c:β}:∀ {l:List (Str × β)},l.lookup y=f' c->(y,c)∈l
|[],h=>by cases h
|(k,v) :: r,h=>by
  rw[List.lookup_cons]at h;cases e:y == k with
 |true =>
   rw[e]at h;cases h;rw[beq_iff_eq.mp e];exact Nv
 |false =>
   rw[e]at h;exact Nw _ (mem_of_lookup h)
def cK (X:Cx) (scope:Scope) (cl:List (Str × K')) (C:K') (xs N':List Str) (s₃:Ng) (H₃:Hp) (P2:List (K' × Ow)) (ex:List K') (E':Na->Ng->Prop):Cx :=
 { X with N:=N',s₀:=s₃,H₀:=H₃,env:=compEnvC scope cl C X.env,outer:=X.stack,stack:=X.stack,ex:=ex,fn:=λy=>xs.contains y,pn:=X.pn++P2,xe:=E' }
abbrev cxR (X:Cx) (scope:Scope) (cl:List (Str × K')) (xs caps:List Str) (s₃:Ng) (H₃:Hp) (P2:List (K' × Ow)) (fp:List K') (R:Result->Ng->Prop):Cx:=cK X scope cl s₃.heap.objs.size xs (xs++caps) s₃ H₃ P2 fp (notedBy (model X.prog X.w) X.A (compEnvC scope cl s₃.heap.objs.size X.env) λe s'=>R (.error e) s')
structure CompOk (X:Cx) (scope:Scope) (cl:List (Str × K')) (xs:List Str):Prop where
 kind:scope.kind=.function
 clos:closureFor scope X.env=pure cl
 nocell:∀ y∈scope.names,y.2≠.cell
 names:∀ y∈scope.names,y.2=.local->scope.names.lookup y.1=f' .local
 xloc:∀ x∈xs,scope.names.lookup x=f' .local
 sub:∀ p∈cl,X.env.cells.lookup p.1=f' p.2
 has:∀ p∈scope.names,p.2=.free->∃ c,cl.lookup p.1=f' c
 nox:∀ x∈xs,cl.lookup x=Nf
def Du (X:Cx) (scope:Scope) (cl:List (Str × K')):List Str->List Nat->Prop
|[],[]=>True
|y :: ys,j :: js=>((∃ c,cl.lookup y=f' c)/\X.N[j]?=f' y/\(X.env.scope.names.lookup y=f' .cell\/X.env.scope.names.lookup y=f' .free)/\((relabel scope X.env).names.lookup y=f' .cell\/(relabel scope X.env).names.lookup y=f' .free))/\Du X scope cl ys js
|_,_=>False
theorem Du.len {X:Cx}{scope:Scope}{cl:List (Str × K')}:∀ {caps:List Str}{js:List Nat},Du X scope cl caps js->caps.length=js.length
|[],[],_=>rfl
|_ :: _,_ :: _,⟨_,h⟩=>by rw[NM,NM,h.len]
theorem Du.at' {X:Cx}{scope:Scope}{cl:List (Str × K')}{y:Str}:∀ {caps:List Str}{js:List Nat}{i:Nat},Du X scope cl caps js->caps[i]?=f' y->∃ j,js[i]?=f' j/\(∃ c,cl.lookup y=f' c)/\X.N[j]?=f' y/\(X.env.scope.names.lookup y=f' .cell\/X.env.scope.names.lookup y=f' .free)/\((relabel scope X.env).names.lookup y=f' .cell\/(relabel scope X.env).names.lookup y=f' .free)
|[],[],_,_,e=>by simp at e
|_ :: _,j :: _,0,⟨h,_⟩,e=>by cases e;exact⟨j,rfl,h⟩
|_ :: _,_ :: _,i+1,⟨_,h⟩,e=>h.at' (i:=i) e
def PTs (X:Cx) (ifs:List Expr) (t:TT):Prop :=
 ∀ (P2:List (K' × Ow)) (s:Ng) (σ:St) (H:Hp) (Q:Bool->Hp->Prop),Inv X P2 σ H s->t σ H Q ->
  Nq (model X.prog X.w) X.A (forIn ifs G' λc r=>if r=G' then do let ok <-isTrue c X.env (eval c X.env);pure (ForInStep.yield ok) else pure (ForInStep.yield r)) (TP X P2 σ Q) X.xe s
def d8 {X:Cx}:PTs X [] (λ_ H Q=>Q G' H):=λP2 s σ H Q I h=>by
 rw[forIn_nil];exact Nc ⟨H,I,h⟩
def xJ {X:Cx}{c:Expr}{t:TT}(h:PT X c t):PTs X [c] t:=λP2 s σ H Q I q=>wpAny_tests_one (h P2 s σ H Q I q)
def wB (σ:St) (js:List Nat):St:=js.map λj=>(σ[j]?).getD Nf
def Ks (wi:TI) (js:List Nat) (tc:TT) (te:TE):TE:=λσ H Q=>wi σ H λJ H1=>∀ D,H1 D=Nf->∃ W:Nat->Nat->List V->Hp->Prop,(∃ m,W 0 m [] (upd H1 D (.lst []))) /\
 ∀ i m ys H2,W i m ys H2->H2 D=f' (.lst ys)/\ys.length < Nl/\((J.stop i H2/\Q (.ref D) H2)\/(J.go i H2/\∀ x H3,J.yld i H2 x H3 ->
  tc (f' x :: wB σ js) H3 λb H4=>if b=G' then te (f' x :: wB σ js) H4 λy H5=>H5 D=f' (.lst ys)/\∃ m',m' < m/\W (i+1) m' (ys++[y]) (upd H5 D (.lst (ys++[y])))
   else ∃ m',m' < m/\W (i+1) m' ys H4))
def Kv (wi:TI) (g:TG) (js:List Nat) (tc:TT) (te:TE):TE:=λσ H Q=>wi σ H λJ H1=>∀ D,H1 D=Nf->∃ W:Nat->Nat->List V->Hp->Prop,(∃ m,W 0 m [] (upd H1 D (.lst []))) /\
 ∀ i m ys H2,W i m ys H2->H2 D=f' (.lst ys)/\ys.length < Nl/\((J.stop i H2/\Q (.ref D) H2)\/(J.go i H2/\∀ x H3,J.yld i H2 x H3->∀ v0 v1:Option V,
  g x (v0 :: v1 :: wB σ js) H3 λσ' H'=>∃ v0' v1',σ'=v0' :: v1' :: wB σ js/\tc σ' H' λb H4=>if b=G' then te σ' H4 λy H5=>H5 D=f' (.lst ys)/\∃ m',m' < m/\W (i+1) m' (ys++[y]) (upd H5 D (.lst (ys++[y])))
   else ∃ m',m' < m/\W (i+1) m' ys H4))
def RN (n:Nat) (g:TG) (js:List Nat) (tc:TT) (te:TE) (σ:St) (Q:VK) (J:It) (H1:Hp):Prop:=∀ D,H1 D=Nf->∃ W:Nat->Nat->List V->Hp->Prop,(∃ m,W 0 m [] (upd H1 D (.lst []))) /\
 ∀ i m ys H2,W i m ys H2->H2 D=f' (.lst ys)/\ys.length < Nl/\((J.stop i H2/\Q (.ref D) H2)\/(J.go i H2/\∀ x H3,J.yld i H2 x H3->∀ vs:St,vs.length=n->∃ Pk:St->Hp->Prop,g x (vs++wB σ js) H3 Pk/\∀ σ' H',Pk σ' H'->∃ vs':St,vs'.length=n/\σ'=vs'++wB σ js /\
  tc σ' H' λb H4=>if b=G' then te σ' H4 λy H5=>H5 D=f' (.lst ys)/\∃ m',m' < m/\W (i+1) m' (ys++[y]) (upd H5 D (.lst (ys++[y])))
   else ∃ m',m' < m/\W (i+1) m' ys H4))
def Gj {X:Cx}{x1 x2:Str}{p1 p2 pos:Pos}{k:Nat}(hc:X.calm=G') (hN:X.N.Nodup) (h0:X.N[0]?=f' x1) (h1:X.N[1]?=f' x2) (l1:Loc X.env.scope x1) (l2:Loc X.env.scope x2) (f1:X.fn x1=G') (f2:X.fn x2=G') :
 PG X (.Tuple [.Name x1 p1,.Name x2 p2] k pos) (KJ X.K 2 (xM (mt 0) (xM (mt 1) KQ))) :=
 FV hc (pd (ig hN h0 l1 (.inl f1)) (pd (ig hN h1 l2 (.inl f2)) CF))
abbrev GK (ifs:List Expr) (env:Env):Sem Bool:=forIn ifs G' λc r=>if r=G' then do
 let ok <-isTrue c env (eval c env)
 pure (ForInStep.yield ok) else pure (ForInStep.yield r)
def Fp {P:ND}{w:Nt}{A:NN}{R:Result->Ng->Prop}{s:Ng}{elt tg iter:Expr}{ifs:List Expr}{sc:Scope}{ps:Pos}{it acc:Na}{env:Env}(J:Nat->Ng->Prop)
 (turn:∀ k t,J k t->Nq (model P w) A (pyNext it) (λo t1=>match o with
 |none=>R (.ok .next) t1
 |some y=>Nq (model P w) A (letOwnedTupleGo tg it y) (λ_ t2=>Nq (model P w) A (assign tg env y) (λ_ t3=>Nq (model P w) A (GK ifs env) (λok t4 =>
   if ok=G' then Nq (model P w) A (eval elt env) (λx t5=>Nq (model P w) A (call (.builtin "list.append") [acc,x]) (λ_ t6=>∃ j,j < k/\J j t6) (notedBy (model P w) A env λe t'=>R (.error e) t') t5) (notedBy (model P w) A env λe t'=>R (.error e) t') t4
   else ∃ j,j < k/\J j t4) (notedBy (model P w) A env λe t'=>R (.error e) t') t3) (notedBy (model P w) A env λe t'=>R (.error e) t') t2) (notedBy (model P w) A env λe t'=>R (.error e) t') t1) (notedBy (model P w) A env λe t'=>R (.error e) t') t)
 (k:Nat) (h:J k s):codeAny (model P w) A (.compLoop (.ListComp elt [⟨tg,iter,ifs,0⟩] sc ps) 0 it acc env) R s:=by
 refine codeAny_loop rfl J (λk t hJ=>?_) k h;show Nq _ A (Sem.onRaise (compTurn (.ListComp elt [⟨tg,iter,ifs,0⟩] sc ps) 0 it acc env) (λy=>do noteFrame y env;theTreesLotGoes y)) _ _ t;refine wpAny_noted ?_;rw[compTurn_list];refine j' (wpAny_standAt (j' (thn (turn k t hJ) λo t1 h1=>?_)));cases o with
|none=>exact Nc h1
|some y =>
  refine j' (thn h1 λ_ t2 h2=>j' (thn h2 λ_ t3 h3=>j' (thn h3 λok t4 h4=>?_)));cases ok with
 |false=>exact Nc ⟨rfl,h4⟩
 |true =>
   rw[Vc rfl]at h4;refine j' (j' (thn h4 λx t5 h5=>j' (thn h5 λ_ t6 h6=>?_)));exact Nc (Nc ⟨rfl,h6⟩)
section
variable {X:Cx}{scope:Scope}{cl:List (Str × K')}{xs N':List Str}
def xb {names:List (Str × NameKind)}{env:Env}{y:Str}{k:NameKind}(h:(names.map λ(n,k)=>if (k == NameKind.free && env.scope.kind == .function && env.kindOf n == f' .cell) then (n,NameKind.cell) else (n,k)).lookup y=f' k) (hk:k=.cell\/k=.free) (hn:∀ p∈names,p.2≠.cell):∃ p∈names,p.1=y/\p.2=.free:=by
 obtain⟨⟨n,k0⟩,hp,e⟩:=O1.mp (mem_of_lookup h);dsimp only at e;split at e
 . rename_i hc;injection e with e1 e2
   refine⟨_,hp,e1,?_⟩;rw[Om,Om]at hc;exact beq_iff_eq.mp hc.1.1
 . injection e with e1 e2
   refine⟨_,hp,e1,?_⟩;rcases hk with rfl|rfl
   . exact absurd e2 (hn _ hp)
   . exact e2
def zK {P2:List (K' × Ow)}{σ:St}{H₃:Hp}{s₃:Ng}{ex:List K'}{E':Na->Ng->Prop}(O:CompOk X scope cl xs) (I:Inv X P2 σ H₃ s₃) (hf:∀ b∈ex,wP X P2 H₃ b/\b < s₃.heap.objs.size) :
 (cK X scope cl s₃.heap.objs.size xs N' s₃ H₃ P2 ex E').Ok where
 mod:=I.ok.mod
 kind:=O.kind
 glob:=I.ok.glob
 blt:=I.ok.blt
 above:=Nm _
 inj:=λy z c h1 h2=>I.ok.inj y z c (O.sub _ (mem_of_lookup h1)) (O.sub _ (mem_of_lookup h2))
 has:=λy h=>by
  have h':∃ k,(relabel scope X.env).names.lookup y=f' k/\(k=.cell\/k=.free):=by
   rcases h with h|h
   . exact⟨_,h,.inl rfl⟩
   . exact⟨_,h,.inr rfl⟩
  obtain⟨k,e,hk⟩:=h';obtain⟨p,hp,rfl,e2⟩:=xb e hk O.nocell;exact O.has p hp e2
 cab:=λy c h1 h2=>by
  have h2':cl.lookup y=f' c:=h2;rw[O.nox y (List.contains_iff_mem.mp h1)]at h2';cases h2'
 hd:=I.ok.hd
 frames:=I.ok.frames
 stk:=.inl rfl
 exf:=λb hb=>⟨NZ (hf b hb).2,λy c e=>(hf b hb).1.2.2.2.2.1 y c (O.sub _ (mem_of_lookup e))⟩
 bs:=I.bs
 bsz:=NS I.ok.bsz I.sz
 noex:=λb o e hb=>by
  obtain⟨_,_,_,h4,_⟩:=(hf b hb).1;rcases h4 with z|z
  . exact I.ok.noex b o e z
  . have g1:b < X.base.objs.size:=Nx e;exact absurd (Nn g1 (NS I.ok.bsz z)) (O2 _)
 exfs:=λb hb z=>by
  obtain⟨_,h2,h3,_⟩:=(hf b hb).1;rcases NA.mp (I.stkSub b z) with q|q
  . exact h2 q
  . exact h3 q
 funs:=I.stack
 frf:=I.stkFree
def Inv.block {P2:List (K' × Ow)}{σ σ':St}{H₃ H':Hp}{s₃ s':Ng}{ex:List K'}{E':Na->Ng->Prop}{h':NI}(I:Inv X P2 σ H₃ s₃) (hf:∀ b∈ex,wP X P2 H₃ b)
 (I':Inv (cK X scope cl s₃.heap.objs.size xs N' s₃ H₃ P2 ex E') [] σ' H' s') (hs:Ox s₃.heap.objs.size s'.heap h'):Inv X P2 σ H' { s' with heap:=h' }:=by
 have ne:∀ b o,s₃.heap.get? b=f' o->b≠s₃.heap.objs.size:=λb o e=>NZ (Nx e)
 have fr:H' s₃.heap.objs.size=Nf:=I'.free;have hok:HOk X.prog X.w H' h':=λa o e=>by
  refine(I'.hok a o e).stay (λb u hb q=>(hs.2 b ?_).trans q) (λ_ q=>q) λ_ _ q=>q
  rintro rfl;rcases hb with z|z
  . rw[<-z,fr]at e;cases e
  . rw[fr]at z;cases z
 have u:Un (frs X.stack) ex H₃ H' s₃.heap h':=by
  obtain⟨k1,k2,k3,k4,k5,k6,k7⟩:=I'.base;refine⟨λb o q n hb hx=>(hs.2 b (ne b o q)).trans (k1 b o q n hb hx),λb o q n hb hx=>?_,k3,λb o q hx=>?_,k5,k6,k7⟩
  . obtain⟨sl,e⟩:=k2 b o q n hb hx;exact⟨sl,(hs.2 b (ne b o q)).trans e⟩
  . obtain⟨o',e⟩:=k4 b o q hx;exact⟨o',(hs.2 b (ne b o q)).trans e⟩
 exact I.call' (s':={ s' with heap:=h' }) I'.os u hok I'.bare λb hb=>⟨(hf b hb).2.2.2.1,(hf b hb).2.1,(hf b hb).2.2.2.2.1,(hf b hb).2.2.2.2.2⟩
def Inv.enter {P2:List (K' × Ow)}{σ:St}{H₃:Hp}{s₃:Ng}{ex:List K'}{E':Na->Ng->Prop}{caps:List Str}{js:List Nat}{h₁:NI}{tk:Nat}(O:CompOk X scope cl xs) (I:Inv X P2 σ H₃ s₃)
 (hf:∀ b∈ex,wP X P2 H₃ b/\b < s₃.heap.objs.size) (hcp:Du X scope cl caps js)
 (hn:h₁.Ns s₃.heap.objs.size λ_=>Nf) (hk:∀ b o,s₃.heap.get? b=f' o->h₁.get? b=f' o) :
 Inv (cK X scope cl s₃.heap.objs.size xs (xs++caps) s₃ H₃ P2 ex E') [] (replicate xs.length Nf++wB σ js) H₃ { s₃ with heap:=h₁,toks:=tk }:=by
 have hlen:=hcp.len;obtain⟨m0,hm0,hl0⟩:=I.loc;refine⟨zK O I hf,rfl,I.bare,Un.kept hk,⟨_,hn,λi y v e1 e2 e3=>?_⟩,λy c e=>?_,I.hok.fresh (Nm _),λy c e=>I.freeC y c (O.sub _ (mem_of_lookup e)),λp hp=>?_,I.hok.kept hk,?_⟩
 . have e1':(xs++caps)[i]?=f' y:=e1;have e2':(replicate xs.length (Nf:Option V)++wB σ js)[i]?=f' (f' v):=e2;by_cases hi:i < xs.length
   . rw[List.getElem?_append_left (by rw[O0];exact hi),List.getElem?_replicate,Vc hi]at e2';cases e2'
   . rw[List.getElem?_append_right (by omega)]at e1';rw[List.getElem?_append_right (by rw[O0];omega),O0]at e2';obtain⟨j,ej,⟨c,hc⟩,hN,hk1,hk2⟩:=hcp.at' e1';unfold wB at e2';rw[NL,ej]at e2';have e3':(σ[j]?).getD Nf=f' v:=by simpa using e2'
     have e4:σ[j]?=f' (f' v):=by
      cases q:σ[j]? with
     |none=>rw[q]at e3';cases e3'
     |some z=>rw[q]at e3';rw[show z=f' v from e3']
     obtain⟨u,r,l⟩:=hl0 j y v hN e4 (by rcases hk1 with z|z;exact .inr (.inl z);exact .inr (.inr z));refine⟨u,r,.inr ⟨hk2,c,hc,?_⟩⟩;rcases l with⟨z,_⟩|⟨_,c',z1,o,z2,z3⟩
     . have z':X.env.scope.names.lookup y=f' .local:=z;rcases hk1 with q|q<;>(rw[q]at z';cases z')
     . rw[O.sub _ (mem_of_lookup hc)]at z1;cases z1;exact⟨o,hk _ _ z2,z3⟩
 . obtain⟨v,o,z2,z3⟩:=I.cell y c (O.sub _ (mem_of_lookup e));exact⟨v,o,hk _ _ z2,z3⟩
 . have hp':p∈X.pn++P2:=by simpa [cK] using hp
   obtain⟨g1,g2,g3,g4,g5⟩:=I.pin p hp';refine⟨hk _ _ g1,g2,NZ (Nx g1),λz=>?_,g5⟩;rcases NA.mp (I.stkSub p.1 z) with q|q
   . exact g3 q
   . exact g4 q
 . show (replicate xs.length Nf++wB σ js).length=(xs++caps).length;unfold wB;rw[Nj,Nj,O0,Nu,hlen]
def qk {tg:Expr}{g:TG}{pos np:Pos}{iter elt:Expr}{ifs:List Expr}{caps:List Str}{js:List Nat}{wi:TI}{tc:TT}{te:TE}{use:Option (Na->Sem Unit)}{QQ:Na->Ng->Prop}{Q:VK}{Rd:It->Hp->Prop}{P2:List (K' × Ow)}{s:Ng}{σ:St}{H:Hp}
 (hc:X.calm=G') (O:CompOk X scope cl xs) (hg:∀ C s₃ H₃ P2 ex E',PG (cK X scope cl C xs (xs++caps) s₃ H₃ P2 ex E') tg g)
 (hcp:Du X scope cl caps js)
 (hi:PI X tg iter wi) (ht:∀ C s₃ H₃ P2 ex E',PTs (cK X scope cl C xs (xs++caps) s₃ H₃ P2 ex E') ifs tc) (he:∀ C s₃ H₃ P2 ex E',PE (cK X scope cl C xs (xs++caps) s₃ H₃ P2 ex E') elt te)
 (hs:∀ x,foldedSetIterable iter X.env x=pure x) (I:Inv X P2 σ H s) (h:wi σ H Rd) (hR:∀ J H1,Rd J H1->RN xs.length g js tc te σ Q J H1)
 (fl:∀ (s₃:Ng) (H₃ H':Hp) (s':Ng) (D:K') (f:Flow) (mm:Str->Option Na),Inv X P2 σ H₃ s₃->s'.heap.Ns s₃.heap.objs.size mm->H' s₃.heap.objs.size=Nf->(∀ h',Ox s₃.heap.objs.size s'.heap h'->Inv X P2 σ H' { s' with heap:=h' })->Q (.ref D) H'->compPost (model X.prog X.w) X.A X.xe use QQ (.ref D) s₃.heap.objs.size (.ok f) s') :
 Nq (model X.prog X.w) X.A (comprehension (.ListComp elt [⟨tg,iter,ifs,0⟩] scope pos) scope X.env np (newList []) D' (eval iter X.env) use) QQ X.xe s:=by
 refine wpAny_comprehension_free rfl hs O.clos O.kind O.names (thn (hi P2 s σ H _ I h) λv s1 h1=>thn h1 λitv s2 ur41=>?_);obtain⟨it,fp,tn,J,H1,e,I2,T,t0,hf,q0⟩:=ur41;subst e;have q:=hR _ _ q0;refine Ob (wpAny_newFunctionEnv O.nocell (by intro y hy;cases hy) (λh₁ hns₁ hsb₁=>?_) O.kind);obtain⟨W,⟨m0,w0⟩,step⟩:=q s2.heap.objs.size (I2.hok.fresh (Nm _));have I3:Inv X P2 σ (upd H1 s2.heap.objs.size (.lst [])) { s2 with heap:=s2.heap.push { cls:=.type "list",data:=.seq ([]:List Na).toArray } }:=I2.lnew (t':=s2.toks) (its:=[]) .nil (Ou _);have fpl:∀ b∈fp,b < s2.heap.objs.size:=λb hb=>by
  obtain⟨o,e,_⟩:=T.obj _ _ t0 b hb;exact Nx e
 have hf3:∀ b∈fp,wP X P2 (upd H1 s2.heap.objs.size (.lst [])) b:=λb hb=>by
  obtain⟨f0,f⟩:=hf b hb;exact⟨by rw[ae (NZ (fpl b hb))];exact f0,f⟩
 generalize hs3:({ s2 with heap:=s2.heap.push { cls:=.type "list",data:=.seq ([]:List Na).toArray } }:Ng)=s₃ at *;generalize hH3:upd H1 s2.heap.objs.size (.lst [])=H₃ at *;have hsz:s2.heap.objs.size < s₃.heap.objs.size:=by rw[<-hs3];show _ < (s2.heap.push _).objs.size;rw[N9];exact lt_succ_self _
 have hk2:∀ b o,s2.heap.get? b=f' o->s₃.heap.get? b=f' o:=λb o e=>by rw[<-hs3];exact Nb _ e
 have hk3:∀ b o,s₃.heap.get? b=f' o->h₁.get? b=f' o:=λb o e=>hsb₁.extBut b o (NZ (Nx e)) (Nb _ e)
 have t3:tn 0 h₁:=T.keep _ _ _ t0 λb _ o e=>hk3 b o (hk2 b o e)
 have loop:∀ (R:Result->Ng->Prop),(∀ f s',(∃ σ' H',Inv (cxR X scope cl xs caps s₃ H₃ P2 fp R) [] σ' H' s'/\Q (.ref s2.heap.objs.size) H')->R (.ok f) s') ->
  ∀ tk,codeAny (model X.prog X.w) X.A (.compLoop (.ListComp elt [⟨tg,iter,ifs,0⟩] scope pos) 0 (.ref it) (.ref s2.heap.objs.size) (compEnvC scope cl s₃.heap.objs.size X.env)) R { s₃ with heap:=h₁,toks:=tk }:=by
  intro R hR tk;have I4:=Inv.enter (E':=notedBy (model X.prog X.w) X.A (compEnvC scope cl s₃.heap.objs.size X.env) λe s'=>R (.error e) s') (tk:=tk) O I3 (λb hb=>⟨hf3 b hb,Nat.lt_trans (fpl b hb) hsz⟩) hcp (by simpa using hns₁) hk3;have stat:∀ {H':Hp},(∀ b∈fp,H' b=Nf)->∀ b∈fp,wP (cxR X scope cl xs caps s₃ H₃ P2 fp R) [] H' b:=λhn b hb=>by
   obtain⟨f0,f1,f2,f3,f4,f5⟩:=hf3 b hb;refine⟨hn b hb,NZ (Nat.lt_trans (fpl b hb) hsz),λz=>?_,.inl hb,λy c e=>f4 y c (O.sub _ (mem_of_lookup e)),λp hp=>f5 p (by simpa [cxR,cK] using hp)⟩;rcases NA.mp (I3.stkSub b z) with q|q
   . exact f1 q
   . exact f2 q
  refine Fp (λn s'=>∃ (i:Nat) (vs:St) (ys:List V) (H':Hp),vs.length=xs.length/\Inv (cxR X scope cl xs caps s₃ H₃ P2 fp R) [] (vs++wB σ js) H' s'/\tn i s'.heap/\(∀ b∈fp,H' b=Nf)/\W i n ys H') ?_ m0
   ⟨0,_,[],H₃,O0,I4,t3,λb hb=>(hf3 b hb).1,w0⟩
  rintro n s4 ⟨i,vs,ys,H4,vl,J4,t4,fr4,w4⟩;obtain⟨hD,hlen,hor⟩:=step i n ys H4 w4;rcases hor with⟨stop,qn⟩|⟨go,hy⟩
  . refine thn (T.done (cxR X scope cl xs caps s₃ H₃ P2 fp R) rfl rfl rfl hc i [] s4 _ H4 _ J4 (stat fr4) t4 stop) λr s5 ur42=>?_
    obtain⟨hr,J5⟩:=ur42;subst hr;exact hR _ _ ⟨_,H4,J5,qn⟩
  . refine thn (T.item (cxR X scope cl xs caps s₃ H₃ P2 fp R) rfl rfl rfl hc i [] s4 _ H4 _ J4 (stat fr4) t4 go) λr s5 ur43=>?_
    obtain⟨u,hr,h5⟩:=ur43;subst hr;refine thn h5 λ_ s6 ur44=>?_
    obtain⟨y,H6,J6,ry,yl,t6,fr6⟩:=ur44;have J6':=J6.pinned (stat fr6) (T.obj _ _ t6);obtain⟨Pk,hy6,hPk⟩:=hy y H6 yl vs vl;refine thn (hg _ _ _ _ _ _ _ s6 _ H6 y u _ J6' ry hy6) λ_ s7 ur45=>?_
    obtain⟨σ7,H7,J7,q7⟩:=ur45;obtain⟨vs',vl',e7,hy7⟩:=hPk _ _ q7;subst e7;refine thn (ht _ _ _ _ _ _ _ s7 _ H7 _ J7 hy7) λok s8 ur46=>?_
    obtain⟨H8,J8,q8⟩:=ur46;have back:∀ {σ9:St} {H9:Hp} {s9:Ng},Inv (cxR X scope cl xs caps s₃ H₃ P2 fp R) ([]++ve fp s6.heap) σ9 H9 s9->tn (i+1) s9.heap/\∀ b∈fp,H9 b=Nf:=λJ9=>by
     refine⟨T.keep _ _ _ t6 λb hb o e=>(J9.pin (b,o) (Oj _ (Oj _ (l9 hb e)))).1,λb hb=>?_⟩;obtain⟨o,e,d⟩:=T.obj _ _ t6 b hb;exact(J9.pin (b,o) (Oj _ (Oj _ (l9 hb e)))).2.1
    cases ok with
   |false =>
     rw[Vd (by decide)];rw[Vd (by decide)]at q8;obtain⟨m',hm,w8⟩:=q8;obtain⟨b1,b2⟩:=back J8;exact⟨m',hm,i+1,vs',ys,H8,vl',J8.unpinned,b1,b2,w8⟩
   |true =>
     rw[Vc rfl];rw[Vc rfl]at q8;refine thn (he _ _ _ _ _ _ _ s8 _ H8 _ J8 q8) λz s9 ur47=>?_
     obtain⟨vz,H9,J9,rz,hD9,m',hm,w9⟩:=ur47;refine thn (gM (X:=(cxR X scope cl xs caps s₃ H₃ P2 fp R)) _ s9 _ H9 (.ref s2.heap.objs.size) [vz] (.ref s2.heap.objs.size) [z] (λ_ H10=>H10=upd H9 s2.heap.objs.size (.lst (ys++[vz]))) J9 rfl (.cons rz .nil) ⟨_,ys,vz,rfl,rfl,hD9,hlen,rfl⟩) λ_ s10 ur48=>?_
     obtain⟨v10,H10,J10,r10,e10⟩:=ur48;subst e10;obtain⟨b1,b2⟩:=back J10;exact⟨m',hm,i+1,vs',ys++[vz],_,vl',J10.unpinned,b1,b2,w9⟩
 have fin:∀ tk,codeAny (model X.prog X.w) X.A (.compLoop (.ListComp elt [⟨tg,iter,ifs,0⟩] scope pos) 0 (.ref it) (.ref s2.heap.objs.size) (compEnvC scope cl s₃.heap.objs.size X.env)) (compPost (model X.prog X.w) X.A X.xe use QQ (.ref s2.heap.objs.size) s₃.heap.objs.size) { s₃ with heap:=h₁,toks:=tk }:=λtk=>by
  refine loop _ (λf s' ur49=>?_) tk;obtain⟨σ',H',J',qn⟩:=ur49;obtain⟨mm,hmm,_⟩:=J'.loc;exact fl s₃ H₃ H' s' _ f mm I3 hmm J'.free (λh' hs'=>Inv.block I3 hf3 J' hs') qn
 exact codeAny_compStart_list (fin _) (T.self _ _ _ _ _ t3 (fin _))
end
section
variable {X:Cx}{scope:Scope}{cl:List (Str × K')}{x x2 x3:Str}{js:List Nat}{tc:TT}{te:TE}{σ:St}{Q:VK}{J:It}{H1:Hp}{g:TG}{caps:List Str}{pos:Pos}{tg iter elt:Expr}{ifs:List Expr}{wi:TI}
def LV (h:∀ D,H1 D=Nf->∃ W:Nat->Nat->List V->Hp->Prop,(∃ m,W 0 m [] (upd H1 D (.lst []))) /\
 ∀ i m ys H2,W i m ys H2->H2 D=f' (.lst ys)/\ys.length < Nl/\((J.stop i H2/\Q (.ref D) H2)\/(J.go i H2/\∀ x H3,J.yld i H2 x H3 ->
  tc (f' x :: wB σ js) H3 λb H4=>if b=G' then te (f' x :: wB σ js) H4 λy H5=>H5 D=f' (.lst ys)/\∃ m',m' < m/\W (i+1) m' (ys++[y]) (upd H5 D (.lst (ys++[y])))
   else ∃ m',m' < m/\W (i+1) m' ys H4))):RN 1 (mt 0) js tc te σ Q J H1:=λD hD=>by
 obtain⟨W,w0,step⟩:=h D hD;refine⟨W,w0,λi m ys H2 hw=>?_⟩;obtain⟨a,b,c⟩:=step i m ys H2 hw;refine⟨a,b,c.imp_right λ⟨g1,g2⟩=>⟨g1,λx H3 yl vs hl=>?_⟩⟩
 match vs,hl with
|[v0],_=>exact⟨λσ' H'=>σ'=f' x :: wB σ js/\H'=H3,⟨rfl,rfl⟩,λσ' H' uq11=>by(obtain⟨e1,e2⟩:=uq11;exact ⟨[f' x],rfl,e1,by rw[e1,e2];exact g2 x H3 yl⟩)⟩
def Mj (h:∀ D,H1 D=Nf->∃ W:Nat->Nat->List V->Hp->Prop,(∃ m,W 0 m [] (upd H1 D (.lst []))) /\
 ∀ i m ys H2,W i m ys H2->H2 D=f' (.lst ys)/\ys.length < Nl/\((J.stop i H2/\Q (.ref D) H2)\/(J.go i H2/\∀ x H3,J.yld i H2 x H3->∀ v0 v1:Option V,
  g x (v0 :: v1 :: wB σ js) H3 λσ' H'=>∃ v0' v1',σ'=v0' :: v1' :: wB σ js/\tc σ' H' λb H4=>if b=G' then te σ' H4 λy H5=>H5 D=f' (.lst ys)/\∃ m',m' < m/\W (i+1) m' (ys++[y]) (upd H5 D (.lst (ys++[y])))
   else ∃ m',m' < m/\W (i+1) m' ys H4))):RN 2 g js tc te σ Q J H1:=λD hD=>by
 obtain⟨W,w0,step⟩:=h D hD;refine⟨W,w0,λi m ys H2 hw=>?_⟩;obtain⟨a,b,c⟩:=step i m ys H2 hw;refine⟨a,b,c.imp_right λ⟨g1,g2⟩=>⟨g1,λx H3 yl vs hl=>?_⟩⟩
 match vs,hl with
|[v0,v1],_=>exact⟨_,g2 x H3 yl v0 v1,λσ' H' uq12=>by(obtain⟨a1,a2,e1,e2⟩:=uq12;exact ⟨[a1,a2],rfl,e1,e2⟩)⟩
def LW {px:Pos}{C:K'}{s₃:Ng}{H₃:Hp}{P2:List (K' × Ow)}{ex:List K'}{E':Na->Ng->Prop}(O:CompOk X scope cl [x]) (hnd:(x :: caps).Nodup):PG (cK X scope cl C [x] ([x]++caps) s₃ H₃ P2 ex E') (.Name x px) (mt 0) :=
 ig (i:=0) hnd rfl (.inl (lookup_relabel_local (O.xloc x Nv))) (.inl (show [x].contains x=G' from List.contains_iff_mem.mpr Nv))
def BH {P2:List (K' × Ow)}(s₃:Ng) (H₃ H':Hp) (s':Ng) (D:K') (f:Flow) (mm:Str->Option Na) (_:Inv X P2 σ H₃ s₃) (hm:s'.heap.Ns s₃.heap.objs.size mm) (_:H' s₃.heap.objs.size=Nf) (hb:∀ h',Ox s₃.heap.objs.size s'.heap h'->Inv X P2 σ H' { s' with heap:=h' }) (qn:Q (.ref D) H'):compPost (model X.prog X.w) X.A X.xe Nf (EP X P2 σ Q) (.ref D) s₃.heap.objs.size (.ok f) s' :=
 ⟨mm,hm,λh' hs'=>⟨.ref D,H',hb h' hs',rfl,qn⟩⟩
def ik {px:Pos}(hc:X.calm=G') (O:CompOk X scope cl [x]) (hnd:(x :: caps).Nodup)
 (hcp:Du X scope cl caps js)
 (hi:PI X (.Name x px) iter wi) (ht:∀ C s₃ H₃ P2 ex E',PTs (cK X scope cl C [x] (x :: caps) s₃ H₃ P2 ex E') ifs tc) (he:∀ C s₃ H₃ P2 ex E',PE (cK X scope cl C [x] (x :: caps) s₃ H₃ P2 ex E') elt te)
 (hs:∀ x,foldedSetIterable iter X.env x=pure x:=by intro _;rfl):PE X (.ListComp elt [⟨.Name x px,iter,ifs,0⟩] scope pos) (Ks wi js tc te):=by
 intro P2 s σ H Q I h;rw[eval_ListComp];exact qk hc O (λ_ _ _ _ _ _=>LW O hnd) hcp hi ht he hs I h (λ_ _=>LV) BH
def yP (hc:X.calm=G') (O:CompOk X scope cl [x,x2]) (hg:∀ C s₃ H₃ P2 ex E',PG (cK X scope cl C [x,x2] (x :: x2 :: caps) s₃ H₃ P2 ex E') tg g)
 (hcp:Du X scope cl caps js)
 (hi:PI X tg iter wi) (ht:∀ C s₃ H₃ P2 ex E',PTs (cK X scope cl C [x,x2] (x :: x2 :: caps) s₃ H₃ P2 ex E') ifs tc) (he:∀ C s₃ H₃ P2 ex E',PE (cK X scope cl C [x,x2] (x :: x2 :: caps) s₃ H₃ P2 ex E') elt te)
 (hs:∀ x,foldedSetIterable iter X.env x=pure x:=by intro _;rfl):PE X (.ListComp elt [⟨tg,iter,ifs,0⟩] scope pos) (Kv wi g js tc te):=by
 intro P2 s σ H Q I h;rw[eval_ListComp];exact qk hc O hg hcp hi ht he hs I h (λ_ _=>Mj) BH
def IQ {P2:List (K' × Ow)}{D:Ends}{yT:Str}{iN:Nat}{py:Pos}(hN:X.N.Nodup) (hiN:X.N[iN]?=f' yT) (hyL:Loc X.env.scope yT) (hfN:X.fn yT=G'\/X.env.scope.names.lookup yT=f' .local) (s₃:Ng) (H₃ H':Hp) (s':Ng) (Da:K') (f:Flow) (mm:Str->Option Na) (I3:Inv X P2 σ H₃ s₃) (hmm:s'.heap.Ns s₃.heap.objs.size mm) (fr:H' s₃.heap.objs.size=Nf) (hb:∀ h',Ox s₃.heap.objs.size s'.heap h'->Inv X P2 σ H' { s' with heap:=h' }) (qn:mt iN (.ref Da) σ H' D.nx) :
 compPost (model X.prog X.w) X.A X.xe (f' (assign (.Name yT py) X.env)) (λ_ s'=>SP X P2 D .next s') (.ref Da) s₃.heap.objs.size (.ok f) s':=by
 have I5:Inv X P2 σ H' s':=hb _ (Ox.refl _ _);show Nq _ _ (assign (.Name yT py) X.env _) _ _ _;refine wpAny_assign_Name (wf I5 hN hiN hyL (v:=.ref Da) rfl (λs6 I6 ur50=>?_) hfN);obtain⟨a6,hs6,ha6⟩:=ur50;have neL:s₃.heap.objs.size≠X.env.locals:=(NZ I3.lt).symm;have neCl:∀ y c,X.env.cells.lookup y=f' c->c≠s₃.heap.objs.size:=λy c z=>by
  obtain⟨v,q⟩:=I3.cell _ _ z;exact NZ q.lt
 have neC:s₃.heap.objs.size≠a6:=by
  rcases ha6 with z|z
  . rw[z];exact neL
  . exact(neCl _ _ z).symm
 refine⟨mm,NI.Ns.sameBut hmm hs6 neC,λh' hs'=>⟨_,H',I6.turned (t':=s6.toks) (it:=s₃.heap.objs.size) (λb o hb e=>(hs'.2 b hb).trans e) fr neL (.inr I3.sz) neCl (λp hp=>NZ (Nx (I3.pin p hp).1)),qn⟩⟩
def DL {P2:List (K' × Ow)}{s:Ng}{H:Hp}{D:Ends}{yT:Str}{py spos:Pos}(hsw:swapsWith (.ListComp elt [⟨tg,iter,ifs,0⟩] scope pos) (f' (.Name yT py)) spos.line X.env=pure G')
 (h:∀ (np:Pos) (s:Ng),Inv X P2 σ H s->Nq (model X.prog X.w) X.A (comprehension (.ListComp elt [⟨tg,iter,ifs,0⟩] scope pos) scope X.env np (newList []) D' (eval iter X.env) (f' (assign (.Name yT py) X.env))) (λ_ s'=>SP X P2 D .next s') X.xe s) (I:Inv X P2 σ H s) :
 Nq (model X.prog X.w) X.A (exec (.Assign [.Name yT py] (.ListComp elt [⟨tg,iter,ifs,0⟩] scope pos) spos) X.env) (SP X P2 D) X.xe s:=by
 rw[exec_Assign_Name_used _ _ _ _ hsw];refine j' (wpAny_standAt (j' ?_));exact j' (PL (h _ _ (by first|exact I|exact I.stood _)) (λ_ s' hq=>Nc (Nc hq)) λ_ _ e=>e)
def nY {px py spos:Pos}{yT:Str}{iN:Nat}(hN:X.N.Nodup) (hiN:X.N[iN]?=f' yT) (hyL:Loc X.env.scope yT) (hsw:swapsWith (.ListComp elt [⟨.Name x px,iter,ifs,0⟩] scope pos) (f' (.Name yT py)) spos.line X.env=pure G') (hc:X.calm=G') (O:CompOk X scope cl [x]) (hnd:(x :: caps).Nodup)
 (hcp:Du X scope cl caps js)
 (hi:PI X (.Name x px) iter wi) (ht:∀ C s₃ H₃ P2 ex E',PTs (cK X scope cl C [x] (x :: caps) s₃ H₃ P2 ex E') ifs tc) (he:∀ C s₃ H₃ P2 ex E',PE (cK X scope cl C [x] (x :: caps) s₃ H₃ P2 ex E') elt te)
 (hs:∀ x,foldedSetIterable iter X.env x=pure x:=by intro _;rfl) (hfN:X.fn yT=G'\/X.env.scope.names.lookup yT=f' .local:=by first|exact .inl rfl|exact .inr rfl|assumption) :
 PS X (.Assign [.Name yT py] (.ListComp elt [⟨.Name x px,iter,ifs,0⟩] scope pos) spos) (Lw (Ks wi js tc te) (mt iN)):=λ_ _ σ _ D I h =>
 DL hsw (λ_ _ I=>qk (Q:=λv H1=>mt iN v σ H1 D.nx) hc O (λ_ _ _ _ _ _=>LW O hnd) hcp hi ht he hs I h (λ_ _=>LV (Q:=λv H1=>mt iN v σ H1 D.nx)) (IQ hN hiN hyL hfN)) I
end
def B8 (env:Env):List (Str × K')->Prop
|[]=>True
|p :: r=>env.cells.lookup p.1=f' p.2/\B8 env r
theorem B8.all {env:Env}:∀ {cl:List (Str × K')},B8 env cl->∀ p∈cl,env.cells.lookup p.1=f' p.2
|[],_,p,h=>by cases h
|q :: r,⟨a,b⟩,p,h=>by
  rcases NA.mp h with rfl|h
  . exact a
  . exact B8.all b p h
theorem xi {α β:Type}{f:α->β}{b:β}:∀ {xs:List α},xs.map f=xs.map (λ_=>b)->∀ x∈xs,f x=b
|[],_,_,h=>by cases h
|y :: ys,e,x,h=>by
  rw[Oy,Oy]at e;injection e with e1 e2
  rcases NA.mp h with z|z
  . rw[z];exact e1
  . exact xi e2 x z
def gu {X:Cx}{scope:Scope}{cl:List (Str × K')}{xs:List Str}(kind:scope.kind=.function) (clos:closureFor scope X.env=pure cl) (nocell:∀ y∈scope.names,y.2≠.cell) (names:∀ y∈scope.names,y.2=.local->scope.names.lookup y.1=f' .local)
 (xloc:xs.map (λx=>scope.names.lookup x)=xs.map λ_=>f' .local) (sub:B8 X.env cl) (has:(scope.names.all λp=>p.2 != .free || (cl.lookup p.1).isSome)=G') (nox:xs.map (λx=>cl.lookup x)=xs.map λ_=>Nf):CompOk X scope cl xs :=
 ⟨kind,clos,nocell,names,xi xloc,sub.all,λp hp hf=>by
  have h:=all_eq_true.mp has p hp;rw[hf]at h;have h':(cl.lookup p.1).isSome=G':=by simpa using h
  exact Option.isSome_iff_exists.mp h',xi nox⟩
section
variable {X:Cx}
end
def Mp (t u:TS):TS:=λD σ H=>∃ B:St->Hp->Prop,t { D with nx:=B } σ H/\∀ σ' H',B σ' H'->u D σ' H'
def kj {X:Cx}{st:NX}{ck:List NX}{t u:TS}(h1:PS X st t) (h2:PSs X ck u):PSs X (st :: ck) (Mp t u):=by
 intro P2 s σ H D I h;obtain⟨B,h,k⟩:=h;refine wpAny_execs_cons (thn (h1 P2 s σ H { D with nx:=B } I h) λf s1 q=>?_);cases f with
|next =>
  obtain⟨σ',H',I',q⟩:=q;exact h2 P2 s1 σ' H' D I' (k σ' H' q)
|ret v=>exact q
|brk=>exact q
|cont=>exact q
def L6 (t:TT):TT:=λσ H Q=>∃ B:Bool->Hp->Prop,t σ H B/\∀ b H',B b H'->Q b H'
def vZ {X:Cx}{e:Expr}{t:TT}(h:PT X e t):PT X e (L6 t):=by
 intro P2 s σ H Q I q;obtain⟨B,q,k⟩:=q;exact thn (h P2 s σ H B I q) λb s1 uq13=>by(obtain⟨H1,I1,z⟩:=uq13;exact ⟨H1,I1,k b H1 z⟩)
mutual
theorem eqv_refl:∀ d:Ni,d.canLay0=G'->Ny d d=G'
|.none,_=>rfl
|.bool b,_=>by simp[Ny]
|.int i,_=>by simp[Ny]
|.str t,_=>by simp[Ny]
|.list xs,h=>by
  have h':OJ xs=G':=by simpa [Ni.canLay0] using h
  simpa [Ny] using lH xs h'
|.tuple xs,h=>by
  have h':OJ xs=G':=by simpa [Ni.canLay0] using h
  simpa [Ny] using lH xs h'
|.dict _,h=>by simp[Ni.canLay0]at h
theorem lH:∀ xs:List Ni,OJ xs=G'->OR xs xs=G'
|[],_=>rfl
|x :: xs,h=>by
  have h':x.canLay0=G'/\OJ xs=G':=by simpa [OJ] using h
  simp[OR,eqv_refl x h'.1,lH xs h'.2]
end
section
variable {X:Cx}{pos:Pos}
end
def bq.seqT {K:Nh}{H H':Hp}{a:K'}{xs:List V}(e:bq H H') (h:SqT K H a xs):SqT K H' a xs:=by
 rcases h with z|z
 . rcases z with z|⟨o,z⟩
   . exact .inl (.inl (e _ _ z))
   . exact .inl (.inr ⟨o,e _ _ z⟩)
 . exact .inr z
def dB.here {P:ND}{w:Nt}{H:Hp}{h:NI}{a:K'}{o:HO}(x:dB P w H h a o):∃ ob,h.get? a=f' ob:=by
 cases o with
|lst xs=>obtain⟨_,_,_,_,e⟩:=x;exact⟨_,e⟩
|tup xs=>obtain⟨_,_,_,_,e,_⟩:=x;exact⟨_,e⟩
|dK kvs=>obtain⟨_,_,_,_,o,_,_,e,_⟩:=x;exact⟨_,e⟩
|dT kvs=>obtain⟨_,_,_,_,o,_,_,e,_⟩:=x;exact⟨_,e⟩
|set S n=>obtain⟨o,_,_,_,e,_⟩:=x;exact⟨_,e⟩
|ins C dx fs=>obtain⟨_,_,_,e,_⟩:=x;exact⟨_,e⟩
|own y=>exact x
|xd fs=>obtain⟨_,⟨_,_,_,e,_⟩,_⟩:=x;exact⟨_,e⟩
|rng lo hi=>obtain⟨_,_,_,e⟩:=x;exact⟨_,e⟩
|frz ob u=>exact⟨_,x.1⟩
|tbl ps=>exact⟨_,show h.get? a=f' _ from x⟩
|met f y=>exact⟨_,show h.get? a=f' _ from x⟩
|ext φ=>exact x.2.1
def HOk.nothing {P:ND}{w:Nt}{H:Hp}{h:NI}{a:K'}(ok:HOk P w H h) (e:h.get? a=Nf):H a=Nf:=by
 cases q:H a with
|none=>rfl
|some o =>
  obtain⟨ob,e'⟩:=(ok a o q).here;rw[e']at e;cases e
def Trc (h:NI) (e T:K') (cls fl:Na):Prop :=
 ∃ oe vs oT ts a0,h.get? e=f' oe/\(oe.cls=cls/\vs[0]?=f' a0)/\oe.data=.fields vs/\vs[1]?=f' (.ref T)/\T≠e/\h.get? T=f' oT/\oT.data=.fields ts/\ts[3]?=f' fl
def Trc.on {h B:NI}{e T:K'}{cls fl:Na}(x:Trc h e T cls fl) (hB:B.get? T=Nf):∃ a0,h.TracedAtW B e cls a0 fl:=by
 obtain⟨oe,vs,oT,ts,a0,h1,h2,h3,h4,h5,h6,h7,h8⟩:=x;exact⟨a0,oe,vs,T,oT,ts,h1,h2,h3,h4,hB,h5,h6,h7,h8⟩
def Apt (X:Cx) (P2:List (K' × Ow)) (H:Hp) (b:K'):Prop :=
 X.s₀.heap.get? b=Nf/\H b=Nf/\b≠X.env.locals/\(∀ x c,X.env.cells.lookup x=f' c->c≠b)/\∀ p∈X.pn++P2,p.1≠b
section
variable {X:Cx}{P2:List (K' × Ow)}{σ:St}{H H':Hp}{s:Ng}{h':NI}
def Inv.apt (I:Inv X P2 σ H s) (hx:X.ex=[]) {b:K'}(e:s.heap.get? b=Nf) (n:H' b=Nf):Apt X P2 H' b:=by
 refine⟨?_,n,?_,λx c hc z=>?_,λp hp z=>?_⟩
 . cases q:X.s₀.heap.get? b with
  |none=>rfl
  |some o =>
    obtain⟨o',e'⟩:=I.base.there b o q (by rw[hx];simp);rw[e]at e';cases e'
 . rintro rfl;obtain⟨m,⟨o,_,_,ho,_⟩,_⟩:=I.loc;rw[e]at ho;cases ho
 . obtain⟨v,o,ho,_⟩:=I.cell x c hc;rw[z,e]at ho;cases ho
 . have ho:=(I.pin p hp).1;rw[z,e]at ho;cases ho
def Inv.fsIn (I:Inv X P2 σ H s):∀ b∈X.fs,b∈frs X.stack:=λb hb=>by
 rcases I.ok.stk with e|⟨e,f⟩
 . rw[e];exact hb
 . rw[e];show b∈List.filterMap (·.frame) (X.env :: X.outer);rw[filterMap_cons,f];exact Nw _ hb
def Inv.moved (I:Inv X P2 σ H s) (ch:List K') (hch:∀ b∈ch,Apt X P2 H b) (keep:∀ b o,b ∉ ch->b ∉ frs X.stack->s.heap.get? b=f' o->h'.get? b=f' o)
 (slot:∀ b o,b∈frs X.stack->s.heap.get? b=f' o->∃ sl,h'.get? b=f' { o with slots:=sl }):Inv X P2 σ H { s with heap:=h' }:=by
 have up:∀ b o,b ∉ ch->s.heap.get? b=f' o->∃ sl,h'.get? b=f' { o with slots:=sl }:=λb o n e=>by
  by_cases z:b∈frs X.stack
  . exact slot b o z e
  . exact⟨o.slots,keep b o n z e⟩
 have neL:∀ b o,X.s₀.heap.get? b=f' o->b≠X.env.locals:=λb o e=>NZ (Nn (Nx e) I.ok.above)
 have neC:∀ b o,X.s₀.heap.get? b=f' o->b ∉ ch:=λb o e z=>by
  rw[(hch b z).1]at e;cases e
 have nst:∀ b,b≠X.env.locals->b ∉ X.fs->b ∉ frs X.stack:=λb n1 n2 z=>(NA.mp (I.stkSub b z)).elim n1 n2
 have cellU:∀ x c,X.env.cells.lookup x=f' c->∀ v,s.heap.IsCell c v->h'.IsCell c v:=λx c hc v ⟨o,ho,hd⟩=>by
  obtain⟨sl,q⟩:=up c o (λz=>(hch c z).2.2.2.1 x c hc rfl) ho;exact⟨_,q,hd⟩
 refine⟨I.ok,I.os,I.bare,⟨λb o e n hb hx=>?_,λb o e n hb hx=>?_,I.base.free,λb o e hx=>?_,I.base.tups,I.base.frzs,I.base.tbls⟩,?_,λx c e=>?_,I.free,I.freeC,λp hp=>?_,λa o e=>?_,I.len⟩
 . exact keep b o (neC b o e) (nst b (neL b o e) hb) (I.base.keep b o e n hb hx)
 . obtain⟨sl,e1⟩:=I.base.slot b o e n hb hx;obtain⟨sl',e2⟩:=slot b _ (I.fsIn b hb) e1;exact⟨sl',e2⟩
 . obtain⟨o',e1⟩:=I.base.there b o e hx;obtain⟨sl,e2⟩:=up b o' (neC b o e) e1;exact⟨_,e2⟩
 . obtain⟨m,⟨o,es,ep,ho,r⟩,hl⟩:=I.loc;obtain⟨sl,q⟩:=up _ o (λz=>(hch _ z).2.2.1 rfl) ho;refine⟨m,⟨_,es,ep,q,r⟩,λi x v e1 e2 e3=>?_⟩;obtain⟨u,r',l⟩:=hl i x v e1 e2 e3;refine⟨u,r',?_⟩;rcases l with l|⟨k,c,e,z⟩
   . exact .inl l
   . exact .inr ⟨k,c,e,cellU x c e _ z⟩
 . obtain⟨v,z⟩:=I.cell x c e;exact⟨v,cellU x c e v z⟩
 . obtain⟨e,n,ne,nf,d⟩:=I.pin p hp;exact⟨keep p.1 p.2 (λz=>(hch p.1 z).2.2.2.2 p hp rfl) (nst p.1 ne nf) e,n,ne,nf,d⟩
 . refine(I.hok a o e).stay (λb u hb q=>keep b u (λz=>?_) (λz=>?_) q) (λ_ q=>q) λ_ _ q=>q
   . have n:=(hch b z).2.1;rcases hb with rfl|hb
     . rw[n]at e;cases e
     . rw[n]at hb;cases hb
   . have n:=I.stkFree b z;rcases hb with rfl|hb
     . rw[n]at e;cases e
     . rw[n]at hb;cases hb
abbrev hid (X:Cx) (h:NI) (e T:K'):NI:=hideAll h (e :: T :: frs X.stack)
def mT {h:NI}{e T:K'}:(hid X h e T).StaysIn h:=λ_ _ q=>of_hideAll _ q
def lb {h:NI}{e T:K'}(F:h.FunFrames X.base X.stack):h.FunFrames (hid X h e T) X.stack :=
 funFrames_hide F λenv he a ha=>Nw _ (Nw _ (mem_filterMap.mpr ⟨env,he,ha⟩))
def Il {h:NI}{e T:K'}:(hid X h e T).get? e=Nf:=hideAll_none _ Nv
def Iz {h:NI}{e T:K'}:(hid X h e T).get? T=Nf:=hideAll_none _ (Nw _ Nv)
def Inv.flown (hx:X.ex=[]) (I:Inv X P2 σ H s) {e T:K'}{cls a0 fl:Na}(aE:Apt X P2 H e) (aT:Apt X P2 H T) (k1:(hid X s.heap e T).StaysIn h') (k2:h'.FunFrames (hid X s.heap e T) X.stack)
 (k3:h'.TracedAtW (hid X s.heap e T) e cls a0 fl) (k4:s.heap.UpToSlots h'):Inv X P2 σ H { s with heap:=h' }/\∃ T',Trc h' e T' cls fl/\Apt X P2 H T':=by
 refine⟨I.moved [e,T] (λb hb=>?_) (λb o n1 n2 q=>?_) (λb o hb q=>?_),?_⟩
 . rcases NA.mp hb with rfl|hb
   . exact aE
   . rw[Nd.mp hb];exact aT
 . refine k1 b o (hideAll_get _ q λz=>?_);rcases NA.mp z with z|z
   . exact n1 (by rw[z];exact Nv)
   . rcases NA.mp z with z|z
     . exact n1 (by rw[z];simp)
     . exact n2 z
 . obtain⟨_,o',e',hd⟩:=I.stack.mem hb;rw[q]at e';cases e';exact k4 b o q hd
 . obtain⟨oe,vs,T',oT,ts,h1,h2,h3,h4,h5,h6,h7,h8,h9⟩:=k3;refine⟨T',⟨oe,vs,oT,ts,a0,h1,h2,h3,h4,h6,h7,h8,h9⟩,?_⟩;by_cases z:T'=T
   . rw[z];exact aT
   . have nf:T' ∉ frs X.stack:=λy=>by
      obtain⟨_,o',e',hd⟩:=k2.mem y;rw[h7]at e';cases e';exact hd _ h8
     have hn:s.heap.get? T'=Nf:=by
      cases q:s.heap.get? T' with
     |none=>rfl
     |some o =>
       have:=hideAll_get (e :: T :: frs X.stack) q λy=>by
        rcases NA.mp y with y|y
        . exact h6 y
        . rcases NA.mp y with y|y
          . exact z y
          . exact nf y
       rw[h5]at this;cases this
     exact I.apt hx hn (I.hok.nothing hn)
end
def CXv (P:ND) (w:Nt):CXT:=λouter H s E e s'=>∃ (ex T:K') (cls:Na) (H':Hp),e=.ref ex/\s'.os=s.os/\AllBare s'.gens/\Un (frs outer) [] H H' s.heap s'.heap/\HOk P w H' s'.heap/\Trc s'.heap ex T cls .none /\
 s.heap.get? ex=Nf/\s.heap.get? T=Nf/\H' ex=Nf/\H' T=Nf/\E cls Nf H'
structure Raisy (X:Cx) (E:XK):Prop where
 ex:X.ex=[]
 stk:X.stack=X.env :: X.outer
 frm:X.env.frame=f' X.env.locals
 xe:X.xe=λe s'=>Nq (model X.prog X.w) X.A («leaving» X.env e) (λ_ s''=>CXv X.prog X.w X.outer X.H₀ X.s₀ E e s'') (λe' s''=>CXv X.prog X.w X.outer X.H₀ X.s₀ E e' s'') s'
section
variable {X:Cx}{P2:List (K' × Ow)}{σ:St}{H H':Hp}{s:Ng}{E:XK}
def Inv.out (hx:X.ex=[]) (I:Inv X P2 σ H s) {e T:K'}{cls:Na}(t:Trc s.heap e T cls .none) (aE:Apt X P2 H e) (aT:Apt X P2 H T) (q:E cls Nf H):CXv X.prog X.w X.outer X.H₀ X.s₀ E (.ref e) s:=by
 refine⟨e,T,cls,H,rfl,I.os,I.bare,?_,I.hok,t,aE.1,aT.1,aE.2.1,aT.2.1,q⟩;have u:=I.base;rw[hx]at u;exact u
def AE (R:Raisy X E) (I:Inv X P2 σ H s) {e:K'}{cls:Na}{args:List Na}{h2:NI}(M:NI.MadeExcOf s.heap h2 e cls args) (q:E cls Nf H):X.xe (.ref e) { s with heap:=h2 }:=by
 rw[R.xe];have aE:Apt X P2 H e:=I.apt R.ex M.new (I.hok.nothing M.new);have I2:Inv X P2 σ H { s with heap:=h2 }:=I.kept (t':=s.toks) M.keeps;obtain⟨t,he,_,_⟩:=M.there;have hA:X.A.frames=f' (X.env :: X.outer):=by rw[<-R.stk];exact I.ok.frames
 have FF:=lb (e:=e) (T:=e) I2.stack;rw[R.stk]at FF;refine wpAny_leaving_firstW (base:=hid X h2 e e) (a0:=.ref t) hA FF R.frm he mT Il rfl rfl rfl λh' hL=>?_
 obtain⟨k1,k2,k3,k4⟩:=hL;rw[<-R.stk]at k2;obtain⟨I3,T',t3,aT⟩:=I2.flown R.ex aE aE k1 k2 k3 k4;exact I3.out R.ex t3 aE aT q
def Raisy.passes (R:Raisy X E):lz (CXv X.prog X.w) X E:=by
 intro P2 σ H s e s' I h;obtain⟨ex,T,cls,H',rfl,os,bare,un,hok,t,n1,n2,n3,n4,q⟩:=h;have I2:Inv X P2 σ H' s':=I.call' (ch:=[]) os un hok bare (λb z=>absurd z (by simp));have aE:Apt X P2 H' ex:=I.apt R.ex n1 n3;have aT:Apt X P2 H' T:=I.apt R.ex n2 n4;rw[R.xe];have hA:X.A.frames=f' (X.env :: X.outer):=by rw[<-R.stk];exact I.ok.frames
 have FF:=lb (e:=ex) (T:=T) I2.stack;rw[R.stk]at FF;obtain⟨a0,tw⟩:=t.on (Iz (X:=X) (h:=s'.heap) (e:=ex) (T:=T));refine wpAny_leaving_nextW (base:=hid X s'.heap ex T) (a0:=a0) hA FF R.frm tw mT Il λh' hL=>?_
 obtain⟨k1,k2,k3,k4⟩:=hL;rw[<-R.stk]at k2;obtain⟨I3,T',t3,aT'⟩:=I2.flown R.ex aE aT k1 k2 k3 k4;exact I3.out R.ex t3 aE aT' q
end
def veB:List Na:=[.type "ValueError",.type "Exception",.type "BaseException",.type "object"]
def HI {K:Nh}{h:NI}{C:K'}(X:K.In h) (q:excIn K C veB "ValueError.__new__"=G') :
 ∃ bm N nm qn bs hd sn sub ab col dd k0 k1 k2 k3 k5 mN,h.get? C=f' (excClassObj nm qn C N bs bm hd sn sub ab col dd k0 k1 k2 k3 k5 "ValueError.__new__")/\h.Ns N mN/\mN "__init__"=Nf/\OwnTail h veB bm:=by
 unfold excIn at q;split at q
 . rename_i dd cd sl ho;split at q
   . rename_i C' bm k0 k1 k2 k3 n k5 hm hs;obtain⟨nm,bs,mro,ns,qn,hd,sn,sub,ab,col,del⟩:=cd;simp only[Om,beq_iff_eq,Pu]at q hm;have q1:=q.1.1.1.1.1;have q2:=q.1.1.1.1.2;have q3:=q.1.1.1.2;have es:sl=#[k0,k1,k2,k3,f' (.builtin n),k5]:=Array.ext' hs;rw[hm,q3,es,q1,q2]at ho;have hok:=q.1.2;refine⟨bm,ns,nm,qn,bs,hd,sn,sub,ab,col,dd,k0,k1,k2,k3,k5,h.nsMap ns,X _ _ ho,?_,nsMap_none_of_in X hok q.2,tail_of_in X q.1.1.2⟩;exact NI.Ns.of_isNs (isNs_of_in X hok)
   . cases q
 . cases q
def Ka (E:XK) (C:K') (t:TA):TS:=λ_ σ H=>t σ H λvs H1=>vs.length <= Nl/\E (.ref C) Nf H1
def iX {X:Cx}{E:XK}{x:Str}{C:K'}{e:Expr}{es:List Expr}{t:TA}{np cpos pos:Pos}(R:Raisy X E) (hh:X.A.handled=Nf) (hg:Gl X x) (hm:X.mg x=f' (.ref C)) (hc:excIn X.K C veB "ValueError.__new__"=G')
 (ha:PA X (e :: es) t) (hdb:(x == ("__debug__":Str))=D':=by decide) (he:NR (e :: es) X.env=(D',eval e X.env) :: NR es X.env:=by rfl) (hpl:(PF cpos (NR (e :: es) X.env)).any (·.1)=D':=by rfl) :
 PS X (.Raise (f' (.Call (.Name x np) (e :: es) [] cpos)) Nf pos) (Ka E C t):=by
 intro P2 s σ H D I h;obtain⟨bm,N,nm,qn,bs,hd,sn,sub,ab,col,dd,k0,k1,k2,k3,k5,mN,hC,hN,hni,TL⟩:=HI I.ok.mod.kin hc;refine wpAny_Raise_call_subT (C:=C) (nm:=nm) (q:=qn) (N:=N) (bs:=bs) (bm:=bm) (hdct:=hd) (sn:=sn) (sub:=sub) (ab:=ab) (col:=col) (dd:=dd) (k0:=k0) (k1:=k1) (k2:=k2) (k3:=k3) (k5:=k5) PySem.F.excBase_ValueError (mN:=mN)
  (TL.hasType PySem.F.excBase_ValueError.hasBase) hh hpl hni (fJ I hg hm ⟨rfl,?_⟩ hdb)
 have hq:=ha cpos P2 s σ H _ I h;have e2:PF cpos (NR (e :: es) X.env)=PF cpos ((D',eval e X.env) :: NR es X.env):=by rw[he]
 rw[e2]at hq |-;refine OP (thn hq λus s2 ur51=>?_);obtain⟨vs,H2,I2,r,z,q⟩:=ur51;exact⟨rfl,by rw[<-r.length];exact z,I2.bk _ _ hC,hN.keeps I2.bk,TL.keeps I2.bk,λh' ex M=>AE R I2 M q⟩
def Fun.okX {P:ND}{w:Nt}{K:Nh}{mg:Str->Option Na}{base:NI}{x qual:Str}{st:NX}{f:K'}{fd:Np}{N ps:List Str}{k:Nat}{sp:Sp}(F:Fun K x qual st f fd) (S:FnScope N ps (ai st)) (len:∀ vs H Q E,sp vs H Q E->vs.length=ps.length)
 (hbody:∀ (cdv:Na) (A:NN) (outer:List Env) (s:Ng) (H:Hp) (vs:List V) (Q:VK) (E:XK),Room k (A.deeper (envOfC qual (ai st) s.heap.objs.size f cdv))->Raisy (G7 (CXv P w) P w K mg base N qual (ai st) f cdv A outer s H E) E->sp vs H Q E ->
  ∃ t,PSs (G7 (CXv P w) P w K mg base N qual (ai st) f cdv A outer s H E) (eZ st) t/\t { nx:=λ_ H'=>Q .non H',rt:=Q } (sW N vs) H):FnOk P w K mg base (CXv P w) (k+1) f fd ps sp:=by
 obtain⟨oc,od,kV,doc,pm,an,cdv,ct,osl,rfl,lk,hcd⟩:=F.ex;exact Kx lk hcd S len λA outer s H vs Q E hr hsp=>hbody cdv A outer s H vs Q E hr ⟨rfl,rfl,rfl,rfl⟩ hsp
abbrev Cx.tryX (X:Cx) (P2:List (K' × Ow)) (R:St->Na->Hp->Prop):Cx :=
 { X with pn:=X.pn++P2,xe:=λe s'=>∃ (ex T:K') (cls:Na) (σ':St) (H':Hp),e=.ref ex/\Inv X P2 σ' H' s'/\Trc s'.heap ex T cls .none/\Apt X P2 H' ex/\Apt X P2 H' T/\R σ' cls H' }
abbrev Cx.inH (X:Cx) (e:Na):Cx:={ X with A:=X.A.mark (f' e),calm:=D',xe:=λ_ _=>False }
section
variable {X:Cx}{P2 pins':List (K' × Ow)}{σ:St}{H H':Hp}{s:Ng}{R:St->Na->Hp->Prop}{e:Na}
def Cx.Ok.try_ (ok:X.Ok):(X.tryX P2 R).Ok:=⟨ok.mod,ok.kind,ok.glob,ok.blt,ok.above,ok.inj,ok.has,ok.cab,ok.hd,ok.frames,ok.stk,ok.exf,ok.bs,ok.bsz,ok.noex,ok.exfs,ok.funs,ok.frf⟩
def Cx.Ok.untry (ok:(X.tryX P2 R).Ok):X.Ok:=⟨ok.mod,ok.kind,ok.glob,ok.blt,ok.above,ok.inj,ok.has,ok.cab,ok.hd,ok.frames,ok.stk,ok.exf,ok.bs,ok.bsz,ok.noex,ok.exfs,ok.funs,ok.frf⟩
theorem Inv.try_ (I:Inv X P2 σ H s):Inv (X.tryX P2 R) [] σ H s:=⟨I.ok.try_,I.os,I.bare,I.base,I.loc,I.cell,I.free,I.freeC,λp hp=>I.pin p (by simpa [Cx.tryX] using hp),I.hok,I.len⟩
theorem Inv.untry (I:Inv (X.tryX P2 R) pins' σ H s):Inv X P2 σ H s:=⟨I.ok.untry,I.os,I.bare,I.base,I.loc,I.cell,I.free,I.freeC,λp hp=>I.pin p (List.mem_append_left _ hp),I.hok,I.len⟩
theorem Cx.Ok.inH (ok:X.Ok):(X.inH e).Ok:=⟨ok.mod,ok.kind,ok.glob,ok.blt,ok.above,ok.inj,ok.has,ok.cab,λz=>(by cases z),ok.frames,ok.stk,ok.exf,ok.bs,ok.bsz,ok.noex,ok.exfs,ok.funs,ok.frf⟩
theorem Inv.inH (I:Inv X P2 σ H s):Inv (X.inH e) P2 σ H s:=⟨I.ok.inH,I.os,I.bare,I.base,I.loc,I.cell,I.free,I.freeC,I.pin,I.hok,I.len⟩
def Inv.outH (ok:X.Ok) (I:Inv (X.inH e) P2 σ H s):Inv X P2 σ H s:=⟨ok,I.os,I.bare,I.base,I.loc,I.cell,I.free,I.freeC,I.pin,I.hok,I.len⟩
theorem SP.outH {D:Ends}{f:Flow}{s':Ng}(ok:X.Ok) (h:SP (X.inH e) P2 D f s'):SP X P2 D f s':=by
 cases f with
|next=>obtain⟨σ',H',I,q⟩:=h;exact⟨σ',H',I.outH ok,q⟩
|brk=>obtain⟨σ',H',I,q⟩:=h;exact⟨σ',H',I.outH ok,q⟩
|cont=>obtain⟨σ',H',I,q⟩:=h;exact⟨σ',H',I.outH ok,q⟩
|ret u=>obtain⟨v,σ',H',I,r,q⟩:=h;exact⟨v,σ',H',I.outH ok,r,q⟩
theorem SP.untry {D:Ends}{f:Flow}{s':Ng}(h:SP (X.tryX P2 R) pins' D f s'):SP X P2 D f s':=by
 cases f with
|next=>obtain⟨σ',H',I,q⟩:=h;exact⟨σ',H',I.untry,q⟩
|brk=>obtain⟨σ',H',I,q⟩:=h;exact⟨σ',H',I.untry,q⟩
|cont=>obtain⟨σ',H',I,q⟩:=h;exact⟨σ',H',I.untry,q⟩
|ret u=>obtain⟨v,σ',H',I,r,q⟩:=h;exact⟨v,σ',H',I.untry,r,q⟩
end
structure Framed (X:Cx):Prop where
 ex:X.ex=[]
 stk:X.stack=X.env :: X.outer
 frm:X.env.frame=f' X.env.locals
abbrev TH:=Ends->St->Na->Hp->Prop
def PH (X:Cx) (hs:List ExceptHandler) (t:TH):Prop :=
 ∀ (P2:List (K' × Ow)) (s:Ng) (σ:St) (H:Hp) (D:Ends) (ex T:K') (cls:Na),Inv X P2 σ H s->Trc s.heap ex T cls .none->Apt X P2 H ex->Apt X P2 H T->t D σ cls H ->
  Nq (model X.prog X.w) X.A (handleBy (.ref ex) X.env hs) (SP X P2 D) X.xe s
def L7:TH:=λ_ _ _ _=>False
def C4 {X:Cx}:PH X [] L7:=λ_ _ _ _ _ _ _ _ _ _ _ _ h=>h.elim
def Jm (K:Nh) (C:Na) (tb:TS) (tr:TH):TH:=λD σ cls H=>∃ b,Og K cls C=f' b/\if b=G' then tb D σ H else tr D σ cls H
section
variable {X:Cx}
def Trc.ty {M:Model}{h:NI}{e T:K'}{cls fl:Na}(t:Trc h e T cls fl):PySem.W.Looks M h (typeOf (.ref e)) cls:=by
 obtain⟨oe,vs,oT,ts,a0,h1,⟨rfl,_⟩,_⟩:=t;exact(PySem.W.Looks.ld h1).andThen .now
def Mc {P2:List (K' × Ow)}{σ:St}{H:Hp}{s:Ng}{ex T:K'}{cls fl:Na}{A:NN}{Q:Unit->Ng->Prop}{E:Na->Ng->Prop}(hx:X.ex=[]) (I:Inv X P2 σ H s) (t:Trc s.heap ex T cls fl) (aE:Apt X P2 H ex) (aT:Apt X P2 H T)
 (h:∀ s' T',Inv X P2 σ H s'->Trc s'.heap ex T' cls .none->Apt X P2 H T'->Q () s'):Nq (model X.prog X.w) A (setFlight (.ref ex) Nf) Q E s:=by
 obtain⟨a0,tw⟩:=t.on (Iz (X:=X) (h:=s.heap) (e:=ex) (T:=T));refine wpAny_setFlight_noneW (base:=hid X s.heap ex T) (l:=X.stack) mT (lb I.stack) tw λh' k1 k2 k3 k4=>?_
 obtain⟨I3,T',t3,aT'⟩:=I.flown hx aE aT k1 k2 k3.at λb o q n=>⟨o.slots,k4 b o q n⟩
 exact h _ T' I3 t3 aT'
def jq {x:Str}{C:K'}{b₀:NX}{suite:List NX}{np pos:Pos}{ck:List ExceptHandler}{tb:TS}{tr:TH}(F:Framed X) (hg:Gl X x) (hm:X.mg x=f' (.ref C)) (hb:∀ e,PSs (X.inH e) (b₀ :: suite) tb) (hr:PH X ck tr)
 (hdb:(x == ("__debug__":Str))=D':=by decide):PH X (.ExceptHandler (f' (.Name x np)) Nf (b₀ :: suite) pos :: ck) (Jm X.K (.ref C) tb tr):=by
 intro P2 s σ H D ex T cls I t aE aT h;obtain⟨b,hx,h⟩:=h;refine wpAny_handleBy_cons (codeAny_handlers_test (fJ (X:=X.inH (.ref ex)) I.inH hg hm ?_ hdb)) (by intro q;cases q);refine(exm_one (M:=model X.prog X.w) I.kIn t.ty hx).at ?_;cases b with
|false=>exact hr P2 s σ H D ex T cls I t aE aT h
|true =>
  refine codeAny_handlers_suite (Mc F.ex I t aE aT λs' T' I' t' aT'=>?_);exact PL (hb (.ref ex) P2 s' σ H D I'.inH h) (λf s2 q=>q.outH I.ok) λ_ _ z=>OC z
def MT (tb:(St->Na->Hp->Prop)->TS) (th:TH):TS:=λD σ H=>∃ R:St->Na->Hp->Prop,tb R D σ H/\∀ σ' cls H',R σ' cls H'->th D σ' cls H'
def Ca {body:List NX}{h₀:ExceptHandler}{hs:List ExceptHandler}{pos:Pos}{tb:(St->Na->Hp->Prop)->TS}{th:TH}(F:Framed X) (hb:∀ P2 R,PSs (X.tryX P2 R) body (tb R)) (hh:PH X (h₀ :: hs) th):PS X (.Try body (h₀ :: hs) [] [] pos) (MT tb th):=by
 intro P2 s σ H D I h;obtain⟨R,h,k⟩:=h;refine wpAny_Try_except (PL (hb P2 R [] s σ H D I.try_ h) (λf s1 q=>?_) λe s1 q=>?_)
 . have q':=q.untry;cases f with
  |next=>exact wpAny_execs_nil q'
  |brk=>exact q'
  |cont=>exact q'
  |ret u=>exact q'
 . obtain⟨ex,T,cls,σ',H',rfl,I1,t,aE,aT,r⟩:=q;have hA:X.A.frames=f' (X.env :: X.outer):=by rw[<-F.stk];exact I.ok.frames
   have FF:=lb (e:=ex) (T:=T) I1.stack;rw[F.stk]at FF;obtain⟨a0,tw⟩:=t.on (Iz (X:=X) (h:=s1.heap) (e:=ex) (T:=T));refine wpAny_noteFrame_onW (base:=hid X s1.heap ex T) (a0:=a0) hA FF F.frm tw mT Il λh' hL=>?_
   obtain⟨k1,k2,k3,k4⟩:=hL;rw[<-F.stk]at k2;obtain⟨I2,T2,t2,aT2⟩:=I1.flown F.ex aE aT k1 k2 k3 k4;exact Mc F.ex I2 t2 aE aT2 λs3 T3 I3 t3 aT3=>hh P2 s3 σ' H' D ex T3 cls I3 t3 aE aT3 (k σ' cls H' r)
end
def Kj (C:K') (m:Str) (sp:Sp) (dvs:List V) (R:St->Na->Hp->Prop) (ta:TE) (t:TA):TE:=λσ H Q=>ta σ H λx H1=>∃ a dx fs,x=.ref a/\H1 a=f' (.ins C dx fs)/\fs.lookup m=Nf /\
 t σ H1 λvs H2=>sp (x :: (vs++dvs)) H2 Q λcls _ H'=>R σ cls H'
section
variable {X:Cx}{k:Nat}{f C:K'}{fd:Np}{ps:List Str}{sp:Sp}{dvs:List V}{ds:List Na}{x m:Str}{p pos apos:Pos}{e o:Expr}{es:List Expr}{ta:TE}{t:TA}{P2:List (K' × Ow)}{R:St->Na->Hp->Prop}
def Hl {pins':List (K' × Ow)}{σ:St}{H:Hp}{s:Ng}{Q:VK}{us:List Na}{vs:List V}(hx:X.ex=[]) (F:FnOk X.prog X.w X.K X.mg X.base (CXv X.prog X.w) k f fd ps sp) (hr:Room k X.A) (hb:aB X.K fd ps ds) (hd:bQ dvs ds)
 (I:Inv (X.tryX P2 R) pins' σ H s) (r:bQ vs us) (h:sp (vs++dvs) H Q λcls _ H'=>R σ cls H'):Nq (model X.prog X.w) X.A (call (.ref f) us) (EP (X.tryX P2 R) pins' σ Q) (X.tryX P2 R).xe s:=by
 have r2:bQ (vs++dvs) (us++ds):=r.append hd;have hl:(us++ds).length=ps.length:=r2.length.symm.trans (F.len _ _ _ _ h);refine wpAny_call (codeAny_mono (F.run X.A X.stack s H ⟨us,[]⟩ _ _ Q _ hr I.env0 (hb s us I.kIn hl) r2 h) λr s' hq=>?_);cases r with
|error e =>
  obtain⟨ex,T,cls,H',rfl,os,bare,un,hok,t,n1,n2,n3,n4,q⟩:=hq;exact⟨ex,T,cls,σ,H',rfl,(I.call' (ch:=[]) os un hok bare (λb z=>absurd z (by simp))).untry,t,I.untry.apt hx n1 n3,I.untry.apt hx n2 n4,q⟩
|ok fl =>
  cases fl with
 |ret u=>exact I.after hq
 |next=>exact OC hq
 |brk=>exact OC hq
 |cont=>exact OC hq
def tf {pl:Sem Bool}(hx:X.ex=[]) (he:PE (X.tryX P2 R) o ta) (c:Cls X.K C) (hm:Meth X.K C m f) (F:FnOk X.prog X.w X.K X.mg X.base (CXv X.prog X.w) k f fd ps sp) (hr:Room k X.A) (hb:aB X.K fd ps ds) (hd:bQ dvs ds) (ha:PA (X.tryX P2 R) (e :: es) t)
 (hst:NR (e :: es) X.env=(D',eval e X.env) :: NR es X.env:=by rfl) (hpl:(PF pos (NR es X.env)).any (·.1)=D':=by rfl)
 (ht:eval (.Call (.Attribute o m apos) (e :: es) [] pos) X.env=(do
  let ov <-eval o X.env
  standAt apos.atName
  let (f,first) <-holding [ov] (getMethod ov m pl)
  callWith pos f first (PF pos (NR (e :: es) X.env)) (backToKw pos (keywordEach [] X.env))):=by rfl) :
 PE (X.tryX P2 R) (.Call (.Attribute o m apos) (e :: es) [] pos) (Kj C m sp dvs R ta t):=by
 intro pins' s σ H Q I h;refine methodCall_KW (pl:=pl) (thn (he pins' s σ H _ I h) λu s1 z=>?_) ht;obtain⟨x,H1,I1,rx,a,dx,fs,ex,ea,l,q⟩:=z;subst ex;cases (show u=NP a from rx);refine nk I1 ea c hm l (callWith_K (first:=[.ref a]) (h₀:=X.base) I.ok.mod.kin hm.kp (thn (ha pos pins' s1 σ H1 _ I1 q) λus s2 z=>?_) hst hpl);obtain⟨vs,H2,I2,r,q2⟩:=z;exact⟨I2.kIn,Hl (us:=.ref a :: us) (vs:=.ref a :: vs) hx F hr hb hd I2 (.cons rfl r) q2⟩
end
end L2
namespace PySem.W
open PySem PySem.Calls PyProof.Rows Builtin Builtin.ObjectAttr Builtin.Getset_descriptor
section
variable {prog:ND}{w:Nt}{A:NN}{E:Na->Ng->Prop}{h:NI}{g:Array GenState}{d:Drawn}{t:Nat}{os:OsState}{K:Frag}{x C:K'}{ox:Ow}
end
end PySem.W
namespace L2
open PySem PySem.Spec PyProof.Rows
section
variable {X:Cx}{P2:List (K' × Ow)}{σ:St}{H:Hp}{s:Ng}
def Inv.seen {x:K'}{o:HO}(I:Inv X P2 σ H s) (a:Apt X P2 H x) (new:dB X.prog X.w (upd H x o) s.heap x o):Inv X P2 σ (upd H x o) s:=by
 obtain⟨a1,a2,a3,a4,a5⟩:=a;have ne:∀ b u,H b=f' u->b≠x:=λb u e z=>by rw[z,a2]at e;cases e
 refine⟨I.ok,I.os,I.bare,⟨I.base.keep,I.base.slot,λb u e n hx=>?_,I.base.there,λb xs e=>?_,λb u v e=>?_,λb ps e=>?_⟩,I.loc,I.cell,?_,λy c e=>?_,λp hp=>?_,λb u e=>?_,I.len⟩
 . rw[ae (λz=>by rw[z,a1]at e;cases e)];exact I.base.free b u e n hx
 . have q:=I.base.tups b xs e;rw[ae (ne _ _ q)];exact q
 . have q:=I.base.frzs b u v e;rw[ae (ne _ _ q)];exact q
 . obtain⟨more,q⟩:=I.base.tbls b ps e;exact⟨more,by rw[ae (ne _ _ q)];exact q⟩
 . rw[ae (Pg a3)];exact I.free
 . rw[ae (a4 y c e)];exact I.freeC y c e
 . obtain⟨e,n,r⟩:=I.pin p hp;exact⟨e,by rw[ae (a5 p hp)];exact n,r⟩
 . by_cases hb:b=x
   . subst hb;rw[a8]at e;cases e;exact new
   . rw[ae hb]at e;refine(I.hok b u e).stay (λ_ _ _ q=>q) (λc q=>?_) λc xs q=>?_
     . rw[ae (ne _ _ q)];exact q
     . rw[ae (ne _ _ q)];exact q
end
end L2
namespace PySem
open Sem (wp)
def SqI (b:Bool) (h:NI) (i l:K') (k:Nat):Prop:=match b with
|false=>h.IsListIter i l k
|true=>h.IsTupleIter i l k
def SqA (b:Bool) (h:NI) (l:K') (xs:Array Na):Prop:=match b with
|false=>h.IsList l xs
|true=>h.IsTuple l xs
def SqI.at {b:Bool}{h h':NI}{i l:K'}{k:Nat}(x:SqI b h i l k) (e:∀ o,h.get? i=f' o->h'.get? i=f' o):SqI b h' i l k:=by
 cases b<;>(obtain⟨o,h1,r⟩:=x;exact⟨o,e o h1,r⟩)
def SqA.at {b:Bool}{h h':NI}{l:K'}{xs:Array Na}(x:SqA b h l xs) (e:∀ o,h.get? l=f' o->h'.get? l=f' o):SqA b h' l xs:=by
 cases b<;>(obtain⟨o,h1,r⟩:=x;exact⟨o,e o h1,r⟩)
def SqI.obj {b:Bool}{h:NI}{i l:K'}{k:Nat}(x:SqI b h i l k):∃ o,h.get? i=f' o/\∀ v,o.data≠.cell v:=by
 cases b<;>(obtain⟨o,h1,_,h3⟩:=x;exact⟨o,h1,λv z=>by rw[h3]at z;cases z⟩)
def SqA.lt {b:Bool}{h:NI}{l:K'}{xs:Array Na}(x:SqA b h l xs):l < h.objs.size:=by
 cases b<;>(obtain⟨o,h1,_⟩:=x;exact Nx h1)
section
variable {prog:ND}{w:Nt}{A:NN}{E:Na->Ng->Prop}{s:Ng}
def Cm {b:Bool}{it l:K'}{i:Nat}{items:Array Na}{x:Na}{Q:Na->Ng->Prop}(hit:SqI b s.heap it l i) (hl:SqA b s.heap l items) (hx:items[i]?=f' x)
 (hQ:∀ h',SqI b h' it l (i+1)->Ox it s.heap h'->Q x { s with heap:=h' }):Nq (model prog w) A (Oo (.ref it)) Q E s:=by
 cases b with
|false=>exact wpAny_nextOf_list_item hit hl hx hQ
|true =>
  have hty:s.TypeIs (.ref it) "tuple_iterator":=NI.IsTupleIter.typeIs hit;obtain⟨o,ho,hc,hd⟩:=id hit;obtain⟨ol,hol,_,nl,hdl⟩:=hl;unfold Oo;refine j' (NY (name:=N3 "__next__") hty F.slot_tuple_iterator_next (NT F.slot_tuple_iterator_next hty F.entry_tuple_iterator_next ?_ (F.args_tuple_iterator_next_1 _)));show Nq _ _ (field (.ref it) 0 >>= _) _ _ s;refine j' (OK ho hd (x:=.ref l) rfl ?_);show Nq _ _ (if (NP l == Of)=G' then _ else _) _ _ s;rw[Vd (show ¬ ((NP l == Of)=G') from Nz)];show Nq _ _ (field (.ref it) 1 >>= _) _ _ s;refine j' (OK ho hd (x:=.int i 0) rfl ?_);show Nq _ _ (seqItems? (.ref l) >>= _) _ _ s;refine j' (Pd hol hdl ?_);simp only[toNat_natCast,hx];refine j' (Pf ho hd (by simp) (Nc ⟨x,rfl,Nc (hQ _ ?_ (N6 ..))⟩));exact⟨_,Ov _ ho (Ow.isFreed_of_fields (Ow.data_mapFields hd _)),(Ow.cls_mapFields ..).trans hc,by rw[Ow.data_mapFields hd];simp[Pe]⟩
def wZ {b:Bool}{it l:K'}{i:Nat}{items:Array Na}{Q:Na->Ng->Prop}(hh:A.handled=Nf) (hit:SqI b s.heap it l i) (hl:SqA b s.heap l items) (hx:items[i]?=Nf)
 (hE:∀ h' e,NI.ExtBut it s.heap h'->(∃ o,h'.get? e=f' o/\o.cls=.type "StopIteration")->E (.ref e) { s with heap:=h' }):Nq (model prog w) A (Oo (.ref it)) Q E s:=by
 cases b with
|false=>exact wpAny_nextOf_list_end hh hit hl hx hE
|true =>
  have hty:s.TypeIs (.ref it) "tuple_iterator":=NI.IsTupleIter.typeIs hit;obtain⟨o,ho,hc,hd⟩:=id hit;obtain⟨ol,hol,_,nl,hdl⟩:=hl;unfold Oo;refine j' (NY (name:=N3 "__next__") hty F.slot_tuple_iterator_next (NT F.slot_tuple_iterator_next hty F.entry_tuple_iterator_next ?_ (F.args_tuple_iterator_next_1 _)));show Nq _ _ (field (.ref it) 0 >>= _) _ _ s;refine j' (OK ho hd (x:=.ref l) rfl ?_);show Nq _ _ (if (NP l == Of)=G' then _ else _) _ _ s;rw[Vd (show ¬ ((NP l == Of)=G') from Nz)];show Nq _ _ (field (.ref it) 1 >>= _) _ _ s;refine j' (OK ho hd (x:=.int i 0) rfl ?_);show Nq _ _ (seqItems? (.ref l) >>= _) _ _ s;refine j' (Pd hol hdl ?_);simp only[toNat_natCast,hx];refine j' (OH (j' (Pf ho hd (by simp) ?_)));show Nq _ _ (newExc (.type "StopIteration") [] >>= _) _ _ _;refine j' ?_;simp only[newExc,newTuple];refine j' (Ob ?_ (by size_fits));refine j' (m:=firstArgMember _ _) (wpAny_of_eq (a:=Of) (by first|rfl|(simp only[firstArgMember];rfl)) ?_);refine Ob ?_ (by size_fits);simp only[raiseNew];refine j' (wpAny_handled ?_)
  first|rw[show A.in1.handled=Nf from hh]|rw[hh]
  refine j' (Nc (wpAny_throw ?_));exact hE _ _ (((N6 ..).extBut.push _).push _) ⟨_,Nr _ rfl,rfl⟩
def xh {b b2:Bool}{z TI TO i1 i2 l1 l2:K'}{k1 k2:Nat}{xs ys:Array Na}{x y a c:Na}{Q:Option Na->Ng->Prop}(D:ZipApart z TI TO i1 i2 l1 l2)
 (hz:IsZip s.heap z TI TO .none) (hTI:IsPair s.heap TI (.ref i1) (.ref i2)) (hTO:IsPair s.heap TO a c)
 (h1:SqI b s.heap i1 l1 k1) (h2:SqI b2 s.heap i2 l2 k2) (hl1:SqA b s.heap l1 xs) (hl2:SqA b2 s.heap l2 ys) (hx:xs[k1]?=f' x) (hy:ys[k2]?=f' y)
 (hQ:∀ h',IsZip h' z TI TO (Pe s.heap.objs.size)->IsPair h' TO x y->SqI b h' i1 l1 (k1+1)->SqI b2 h' i2 l2 (k2+1)->IsPair h' s.heap.objs.size x y ->
  (∀ c o,c≠z->c≠TO->c≠i1->c≠i2->s.heap.get? c=f' o->h'.get? c=f' o)->Q (f' (.ref s.heap.objs.size)) { s with heap:=h' }):Nq (model prog w) A (pyNext (.ref z)) Q E s:=by
 have hT:s.TypeIs (.ref z) "zip":=⟨_,hz,rfl⟩
 unfold pyNext;refine j' (wpAny_attempt (NY (name:=N3 "__next__") hT F.slot_zip_next (NT F.slot_zip_next hT F.entry_zip_next ?_ (F.args_zip_next_1 _))));show Nq _ _ (field (.ref z) 2 >>= _) _ _ _;refine j' (OK hz rfl (x:=.bool D') rfl ?_);show Nq _ _ (field (.ref z) 3 >>= _) _ _ _;refine j' (OK hz rfl (x:=.ref TI) rfl (j' (Pd hTI rfl ?_)));show Nq _ _ (OM (.ref z) >>= _) _ _ _;refine j' ?_;unfold OM;refine j' (OK hz rfl (x:=.none) rfl (Nc ?_));simp only[if_true];refine j' (OH (j' (OK hz rfl (x:=.ref TO) rfl (j' (wpAny_setField_rec hz (by simp) λg1 z1 e1=>?_)))))
 replace z1:IsZip g1 z TI TO .ellipsis:=z1
 refine j' ?_;simp only[List.zipIdx_cons,List.zipIdx_nil,forIn_cons,forIn_nil];refine j' (j' (wpAny_onRaise ?_));show Nq _ _ (Oo (.ref i1) >>= _) _ _ _;refine j' (Cm (h1.at λo e=>e1.extBut _ _ D.i1z e) (hl1.at λo e=>e1.extBut _ _ D.l1z e) hx λg2 h1' e2=>Nc ?_);have t2:IsPair g2 TO a c:=e2.extBut _ _ D.TOi1 (e1.extBut _ _ D.TOz hTO);refine j' (Pd t2 rfl (j' (wpAny_updateSeq_pair t2 λg3 t3 e3=>?_)))
 replace t3:IsPair g3 TO x c:=t3
 refine j' (wpAny_letGo (Nc ?_));refine j' (j' (wpAny_onRaise ?_));show Nq _ _ (Oo (.ref i2) >>= _) _ _ _;refine j' (Cm (h2.at λo e=>e3.extBut _ _ D.TOi2.symm (e2.extBut _ _ D.i12.symm (e1.extBut _ _ D.i2z e))) (hl2.at λo e=>e3.extBut _ _ D.l2TO (e2.extBut _ _ D.l2i1 (e1.extBut _ _ D.l2z e))) hy λg4 h2' e4=>Nc ?_);have t4:IsPair g4 TO x c:=e4.extBut _ _ D.TOi2 t3;refine j' (Pd t4 rfl (j' (wpAny_updateSeq_pair t4 λg5 t5 e5=>?_)))
 replace t5:IsPair g5 TO x y:=t5
 refine j' (wpAny_letGo (Nc (Nc ?_)));refine j' (Pd t5 rfl (j' (wpAny_newTuple ?_)));have hsz:g5.objs.size=s.heap.objs.size:=by rw[e5.1,e4.1,e3.1,e2.1,e1.1]
 have z5:IsZip g5 z TI TO .ellipsis:=e5.extBut _ _ D.TOz.symm (e4.extBut _ _ D.i2z.symm (e3.extBut _ _ D.TOz.symm (e2.extBut _ _ D.i1z.symm z1)));have k5:∀ c o,c≠z->c≠TO->c≠i1->c≠i2->s.heap.get? c=f' o->g5.get? c=f' o:=λc o c1 c2 c3 c4 e =>
  e5.extBut _ _ c2 (e4.extBut _ _ c4 (e3.extBut _ _ c2 (e2.extBut _ _ c3 (e1.extBut _ _ c1 e))))
 have w1:SqI b g5 i1 l1 (k1+1):=h1'.at λo e=>e5.extBut _ _ D.TOi1.symm (e4.extBut _ _ D.i12 (e3.extBut _ _ D.TOi1.symm e))
 have w2:SqI b2 g5 i2 l2 (k2+1):=h2'.at λo e=>e5.extBut _ _ D.TOi2.symm e
 have zlt:z < g5.objs.size:=Nx z5;show Nq _ _ (Builtin.SmallTypes.ownedTupleHandOut (.ref z) (.ref g5.objs.size) >>= _) _ _ _;refine j' ?_;unfold Builtin.SmallTypes.ownedTupleHandOut;have z6:IsZip (g5.push { cls:=.type "tuple",data:=.seq #[x,y] }) z TI TO .ellipsis:=Nb _ z5;refine j' (wpAny_setField_rec z6 (by simp) λg7 z7 e7=>?_)
 replace z7:IsZip g7 z TI TO (Pe g5.objs.size):=z7
 refine wpAny_setField_rec z7 (by simp) λg8 z8 e8=>?_
 replace z8:IsZip g8 z TI TO (Pe g5.objs.size):=z8
 have up:∀ c o,c≠z->g5.get? c=f' o->g8.get? c=f' o:=λc o c1 e=>e8.extBut _ _ c1 (e7.extBut _ _ c1 (Nb _ e))
 have t8:IsPair g8 g5.objs.size x y:=e8.extBut _ _ (ne_of_gt zlt) (e7.extBut _ _ (ne_of_gt zlt) (Nr _ rfl));rw[hsz]at z8 t8;refine Nc ⟨_,rfl,Nc ?_⟩;show Q (f' (.ref g5.objs.size)) _;rw[hsz];exact hQ g8 z8 (up _ _ D.TOz t5) (w1.at λo e=>up _ o D.i1z e) (w2.at λo e=>up _ o D.i2z e) t8 λc o c1 c2 c3 c4 e=>up c o c1 (k5 c o c1 c2 c3 c4 e)
def AX {b:Bool}{z TI TO i1 i2 l1 l2:K'}{k1:Nat}{xs:Array Na}{Q:Option Na->Ng->Prop}(hh:A.handled=Nf) (D:ZipApart z TI TO i1 i2 l1 l2)
 (hz:IsZip s.heap z TI TO .none) (hTI:IsPair s.heap TI (.ref i1) (.ref i2)) (h1:SqI b s.heap i1 l1 k1) (hl1:SqA b s.heap l1 xs) (hx:xs[k1]?=Nf)
 (hQ:∀ h',(∀ c o,c≠z->c≠i1->s.heap.get? c=f' o->h'.get? c=f' o)->Q Nf { s with heap:=h' }):Nq (model prog w) A (pyNext (.ref z)) Q E s:=by
 have hT:s.TypeIs (.ref z) "zip":=⟨_,hz,rfl⟩
 unfold pyNext;refine j' (wpAny_attempt (NY (name:=N3 "__next__") hT F.slot_zip_next (NT F.slot_zip_next hT F.entry_zip_next ?_ (F.args_zip_next_1 _))));show Nq _ _ (field (.ref z) 2 >>= _) _ _ _;refine j' (OK hz rfl (x:=.bool D') rfl ?_);show Nq _ _ (field (.ref z) 3 >>= _) _ _ _;refine j' (OK hz rfl (x:=.ref TI) rfl (j' (Pd hTI rfl ?_)));show Nq _ _ (OM (.ref z) >>= _) _ _ _;refine j' ?_;unfold OM;refine j' (OK hz rfl (x:=.none) rfl (Nc ?_));simp only[if_true];refine j' (OH (j' (OK hz rfl (x:=.ref TO) rfl (j' (wpAny_setField_rec hz (by simp) λg1 z1 e1=>?_)))))
 replace z1:IsZip g1 z TI TO .ellipsis:=z1
 refine j' ?_;simp only[List.zipIdx_cons,List.zipIdx_nil,forIn_cons,forIn_nil];refine j' (j' (wpAny_onRaise ?_));show Nq _ _ (Oo (.ref i1) >>= _) _ _ _;refine j' (wZ hh (h1.at λo e=>e1.extBut _ _ D.i1z e) (hl1.at λo e=>e1.extBut _ _ D.l1z e) hx λg2 e e2 he=>?_);obtain⟨oe,hoe,hce⟩:=he;have z2:IsZip g2 z TI TO .ellipsis:=e2 _ _ D.i1z.symm z1;have hez:e≠z:=λq=>by subst q;rw[z2]at hoe;cases hoe;simp at hce
 refine wpAny_setField_rec z2 (by simp) λg3 _ e3=>?_
 refine j' (wpAny_isInstance (T:="StopIteration") (b:=G') ⟨oe,e3.extBut _ _ hez hoe,hce⟩ isSubtype_stop ?_);exact Nc (hQ g3 λc o c1 c2 q=>e3.extBut _ _ c1 (e2 _ _ c2 (e1.extBut _ _ c1 q)))
abbrev Fq (h:NI) (l1:K'):NI:=h.push { cls:=.type "tuple_iterator",data:=.fields #[.ref l1,.int 0 0] }
abbrev DG (h:NI) (l1 l2:K'):NI:=(Fq h l1).push { cls:=.type "tuple_iterator",data:=.fields #[.ref l2,.int 0 0] }
abbrev EM (h:NI) (l1 l2:K'):NI:=(DG h l1 l2).push { cls:=.type "tuple",data:=.seq #[.ref h.objs.size,.ref (Fq h l1).objs.size] }
abbrev Ec (h:NI) (l1 l2:K'):NI:=(EM h l1 l2).push { cls:=.type "tuple",data:=.seq #[.none,.none] }
abbrev Aa (h:NI) (l1 l2:K'):NI:=(Ec h l1 l2).push { cls:=.type "zip",data:=.fields #[.none,.bool D',.bool D',.ref (DG h l1 l2).objs.size,.ref (EM h l1 l2).objs.size] }
def zH (l1 l2:K') (xs ys:Array Na) :
 Meets (Builtin.«zip.__new__» ⟨[.type "zip",.ref l1,.ref l2],[]⟩) (λ_ R s=>s.heap.IsTuple l1 xs/\s.heap.IsTuple l2 ys/\R (.ok (.ret (.ref (Ec s.heap l1 l2).objs.size))) { s with heap:=Aa s.heap l1 l2 }) :=
 .of_wp λprog w A R s h=>by
  obtain⟨hp,g,d,tk,os⟩:=s;obtain⟨hl1,hl2,h⟩:=h;have hsub:=sub_zip;have hL1:NI.IsTuple (Ng.heap ⟨hp,g,d,tk,os⟩) l1 xs:=hl1;have hL2:NI.IsTuple (Ng.heap ⟨hp.push { cls:=.type "tuple_iterator",data:=.fields #[.ref l1,.int 0 0] },g,d,tk,os⟩) l2 ys:=NI.IsTuple.push hl2 _
  wp_walk using wpAny_pyIter_tuple hL1,wpAny_pyIter_tuple hL2
  exact⟨_,rfl,h⟩
def xy {b:Bool}{l1 l2:K'}{xs ys:Array Na}{Q:Na->Ng->Prop}(hl1:SqA b s.heap l1 xs) (hl2:SqA b s.heap l2 ys)
 (h:∀ h',IsZip h' (s.heap.objs.size+4) (s.heap.objs.size+2) (s.heap.objs.size+3) .none->IsPair h' (s.heap.objs.size+2) (.ref s.heap.objs.size) (.ref (s.heap.objs.size+1)) ->
  IsPair h' (s.heap.objs.size+3) .none .none->SqI b h' s.heap.objs.size l1 0->SqI b h' (s.heap.objs.size+1) l2 0->(∀ c o,s.heap.get? c=f' o->h'.get? c=f' o)->Q (.ref (s.heap.objs.size+4)) { s with heap:=h' }) :
 Nq (model prog w) A (call (.type "zip") [.ref l1,.ref l2]) Q E s:=by
 cases b with
|false=>exact call_zip_2 hl1 hl2 λh' a1 a2 a3 a4 a5 _ a7=>h h' a1 a2 a3 a4 a5 a7
|true =>
  refine callType_new F.called_zip (by decide) (F.typeCall_zip_2 _ _) (F.newCall_zip_2 _ _) (λobj=>F.args_object_init_3 obj _ _) F.entry_zip_new (zH l1 l2 xs ys) ⟨hl1,hl2,?_⟩;have z1:(Fq s.heap l1).objs.size=s.heap.objs.size+1:=N9 ..;have z2:(DG s.heap l1 l2).objs.size=s.heap.objs.size+2:=by rw[N9,z1]
  have z3:(EM s.heap l1 l2).objs.size=s.heap.objs.size+3:=by rw[N9,z2]
  have z4:(Ec s.heap l1 l2).objs.size=s.heap.objs.size+4:=by rw[N9,z3]
  have g5:(Aa s.heap l1 l2).get? (Ec s.heap l1 l2).objs.size=f' _:=Nr _ rfl;have g4:(Aa s.heap l1 l2).get? (EM s.heap l1 l2).objs.size=f' _:=Nb _ (Nr _ rfl);have g3:(Aa s.heap l1 l2).get? (DG s.heap l1 l2).objs.size=f' _:=Nb _ (Nb _ (Nr _ rfl));have g2:(Aa s.heap l1 l2).get? (Fq s.heap l1).objs.size=f' _:=Nb _ (Nb _ (Nb _ (Nr _ rfl)));have g1:(Aa s.heap l1 l2).get? s.heap.objs.size=f' _:=Nb _ (Nb _ (Nb _ (Nb _ (Nr _ rfl))));show _/\_;rw[z2,z3,z4]at g5;rw[z1,z2]at g3;rw[z3]at g4;rw[z1]at g2;rw[z4];exact⟨⟨_,g5,rfl⟩,h _ g5 g3 g4 ⟨_,g1,rfl,rfl⟩ ⟨_,g2,rfl,rfl⟩ λc o x=>Nb _ (Nb _ (Nb _ (Nb _ (Nb _ x))))⟩
end
end PySem
namespace L2
open PySem PySem.Spec PyProof.Rows
def Sq (b:Bool) (K:Nh) (H:Hp) (a:K') (xs:List V):Prop:=match b with
|false=>SqL K H a xs
|true=>SqT K H a xs
section
variable {X:Cx}
def Inv.sq {P2:List (K' × Ow)}{σ:St}{H:Hp}{s:Ng}{b:Bool}{a:K'}{xs:List V}(I:Inv X P2 σ H s) (h:Sq b X.K H a xs):∃ its:List Na,bQ xs its/\SqA b s.heap a its.toArray:=by
 cases b with
|false=>obtain⟨its,r,p,_⟩:=I.list h;exact⟨its,r,p.isList⟩
|true=>obtain⟨its,r,p,_⟩:=I.tuple h;exact⟨its,r,p⟩
def Inv.sq_inj {P2:List (K' × Ow)}{σ:St}{H:Hp}{s:Ng}{b:Bool}{a:K'}{xs ys:List V}(I:Inv X P2 σ H s) (h:Sq b X.K H a xs) (h':Sq b X.K H a ys):xs=ys:=by
 cases b
 . exact I.list_inj h h'
 . exact I.tuple_inj h h'
def Inv.turnedL {P2:List (K' × Ow)}{σ:St}{H:Hp}{s:Ng}{h':NI}{t':Nat}{ch:List K'}(I:Inv X P2 σ H s) (hf:∀ b∈ch,wP X P2 H b) (k:∀ b o,b ∉ ch->s.heap.get? b=f' o->h'.get? b=f' o):Inv X P2 σ H { s with heap:=h',toks:=t' }:=by
 refine I.step (g':=s.gens) (d':=s.drawn) (ch:=ch) (λb hb=>?_) (λb o _ _ n e _=>k b o n e) (λb o _ _ n e _=>⟨o.slots,k b o n e⟩) (λ_ _ _ _ n=>n) (λb o n e=>⟨o,k b o n e⟩) (λ_ _ q=>q) (λ_ _ _ q=>q) (λ_ ps q=>⟨#[],by rw[Array.append_empty];exact q⟩) (λm hm=>?_) (λa o e=>?_) I.bare
 . obtain⟨_,f1,_,f3,f4,f5⟩:=hf b hb;exact⟨f3,f1,f4,f5⟩
 . obtain⟨o,es,ep,ho,r⟩:=hm;exact⟨o,es,ep,k _ o (λz=>(hf _ z).2.1 rfl) ho,r⟩
 . refine(I.hok a o e).stay (λb u hb q=>k b u (λz=>?_) q) (λ_ q=>q) λ_ _ q=>q
   have n:=(hf b z).1;rcases hb with rfl|hb
   . rw[n]at e;cases e
   . rw[n]at hb;cases hb
def Inv.aptSz {P2:List (K' × Ow)}{σ:St}{H:Hp}{s:Ng}{b:K'}(I:Inv X P2 σ H s) (hb:s.heap.objs.size <= b) (hn:H b=Nf):Apt X P2 H b:=by
 obtain⟨_,f1,_,_,f4,f5⟩:=I.fpOk hb hn;refine⟨?_,hn,f1,f4,f5⟩;cases q:X.s₀.heap.get? b with
|none=>rfl
|some o=>exact absurd (Nn (Nx q) (NS I.sz hb)) (O2 _)
def Izm (b b2:Bool) (K:Nh) (a1 a2:K'):It :=
 ⟨λi H=>∃ xs ys x y,Sq b K H a1 xs/\Sq b2 K H a2 ys/\xs[i]?=f' x/\ys[i]?=f' y,
  λi H v H'=>∃ T x y,H T=Nf/\v=.ref T/\H'=upd H T (.tup [x,y])/\(∀ xs,Sq b K H a1 xs->xs[i]?=f' x)/\∀ ys,Sq b2 K H a2 ys->ys[i]?=f' y,
  λi H=>∃ xs,Sq b K H a1 xs/\xs.length <= i⟩
abbrev Itz (b:Bool) (K:Nh) (a1 a2:K'):It:=Izm b b K a1 a2
def yL {P:ND}{w:Nt}{K:Nh}{elts:List Expr}{kt:Nat}{pt:Pos}{b b2:Bool}{z TI TO i1 i2 a1 a2:K'}(D:ZipApart z TI TO i1 i2 a1 a2) :
 Turn P w K (.Tuple elts kt pt) (Izm b b2 K a1 a2) [z,TI,TO,i1,i2] z (λi h=>IsZip h z TI TO .none/\IsPair h TI (.ref i1) (.ref i2)/\(∃ a c,IsPair h TO a c)/\SqI b h i1 a1 i/\SqI b2 h i2 a2 i) where
 mem:=Nv
 obj:=λi h st c hc=>by
  obtain⟨s1,s2,⟨_,_,s3⟩,s4,s5⟩:=st;simp only[NA,N8,or_false]at hc;rcases hc with rfl|rfl|rfl|rfl|rfl
  . exact⟨_,s1,λv q=>by cases q⟩
  . exact⟨_,s2,λv q=>by cases q⟩
  . exact⟨_,s3,λv q=>by cases q⟩
  . exact s4.obj
  . exact s5.obj
 keep:=λi h h' st k=>by
  obtain⟨s1,s2,⟨u,v,s3⟩,s4,s5⟩:=st;exact⟨k z (by simp) _ s1,k TI (by simp) _ s2,⟨u,v,k TO (by simp) _ s3⟩,s4.at λo e=>k i1 (by simp) o e,s5.at λo e=>k i2 (by simp) o e⟩
 item:=by
  intro X hP hw hK hc i P2 s σ H E I hf st hg;subst hP hw hK;obtain⟨s1,s2,⟨u,v,s3⟩,s4,s5⟩:=st;obtain⟨xs,ys,x,y,q1,q2,hx,hy⟩:=hg;obtain⟨us,r1,p1⟩:=I.sq q1;obtain⟨ws,r2,p2⟩:=I.sq q2;obtain⟨ux,hux,rx⟩:=r1.get hx;obtain⟨uy,huy,ry⟩:=r2.get hy;refine xh D s1 s2 s3 s4 s5 p1 p2 (x:=ux) (y:=uy) (by simpa using hux) (by simpa using huy) λh' t1 t2 t3 t4 t5 kk=>?_
  have hfresh:H s.heap.objs.size=Nf:=I.hok.fresh (Nm _);have lt:∀ {c o},s.heap.get? c=f' o->c≠s.heap.objs.size:=λe=>NZ (Nx e)
  refine⟨_,rfl,wpAny_letOwnedTupleGo_zip t1 λh'' u1 e2=>?_⟩;have ch:∀ c o,c ∉ [z,TO,i1,i2]->s.heap.get? c=f' o->h''.get? c=f' o:=λc o n e=>by
   have n1:c≠z:=λq=>n (by simp[q])
   exact e2.extBut _ _ n1 (kk c o n1 (λq=>n (by simp[q])) (λq=>n (by simp[q])) (λq=>n (by simp[q])) e)
  have sub:∀ c∈[z,TO,i1,i2],c∈[z,TI,TO,i1,i2]:=λc hc=>by
   simp only[NA,N8,or_false]at hc |-;rcases hc with h|h|h|h<;>simp[h]
  have I1:Inv X P2 σ H { s with heap:=h'' }:=I.turnedL (t':=s.toks) (λb hb=>hf b (sub b hb)) ch;have T5:IsPair h'' s.heap.objs.size ux uy:=e2.extBut _ _ (lt s1).symm t5;have apt:=I.aptSz (Nm s.heap.objs.size) hfresh;have I2:=I1.seen (o:=.tup [x,y]) apt ⟨by show 2 <= Nl;decide,[ux,uy],.cons rx (.cons ry .nil),⟨_,T5,rfl,_,rfl⟩⟩;refine⟨.ref s.heap.objs.size,_,I2,rfl,⟨_,x,y,hfresh,rfl,rfl,λzs hz=>by rw[I.sq_inj hz q1];exact hx,λzs hz=>by rw[I.sq_inj hz q2];exact hy⟩,⟨u1,e2.extBut _ _ D.TIz (kk _ _ D.TIz D.TITO D.TIi1 D.TIi2 s2),⟨_,_,e2.extBut _ _ D.TOz t2⟩,t3.at λo e=>e2.extBut _ _ D.i1z e,t4.at λo e=>e2.extBut _ _ D.i2z e⟩,λb hb=>?_⟩;obtain⟨o,ho,_⟩:∃ o,s.heap.get? b=f' o/\True:=by
   simp only[NA,N8,or_false]at hb;rcases hb with rfl|rfl|rfl|rfl|rfl
   . exact⟨_,s1,trivial⟩
   . exact⟨_,s2,trivial⟩
   . exact⟨_,s3,trivial⟩
   . obtain⟨o,e,_⟩:=s4.obj;exact⟨o,e,trivial⟩
   . obtain⟨o,e,_⟩:=s5.obj;exact⟨o,e,trivial⟩
  rw[ae (lt ho)];exact(hf b hb).1
 done:=by
  intro X hP hw hK hc i P2 s σ H E I hf st hg;subst hP hw hK;obtain⟨s1,s2,_,s4,s5⟩:=st;obtain⟨xs,q1,hx⟩:=hg;obtain⟨us,r1,p1⟩:=I.sq q1;have hl:=r1.length;exact AX (I.ok.hd hc) D s1 s2 s4 p1 (by simp;omega) λh' kk=>⟨rfl,I.turnedL (t':=s.toks) (ch:=[z,i1]) (λb hb=>hf b (by
   simp only[NA,N8,or_false]at hb |-;rcases hb with q|q<;>simp[q])) λb o n e=>kk b o (λq=>n (by simp[q])) (λq=>n (by simp[q])) e⟩
 self:=λA i s Q E st hQ=>wpAny_pyIter_zip st.1 hQ
def Lj (K:Nh) (ta:TA):TI:=λσ H R=>ta σ H λvs H1=>∃ b a1 a2 xs ys,vs=[.ref a1,.ref a2]/\Sq b K H1 a1 xs/\Sq b K H1 a2 ys/\R (Itz b K a1 a2) H1
def zk:Oa "zip"=f' (.type "zip"):=by decide +kernel
def vS {n l1 l2:Nat}(h1:l1 < n) (h2:l2 < n):ZipApart (n+4) (n+2) (n+3) n (n+1) l1 l2:=by
 constructor<;>(show (_:Nat)≠_;omega)
def Je {a c:Expr}{ta:TA}{p pos pt:Pos}{elts:List Expr}{kt:Nat}(hg:Gl X "zip") (hm:X.mg "zip"=Nf) (ha:PA X [a,c] ta) (hs:NR [a,c] X.env=[(D',eval a X.env),(D',eval c X.env)]:=by rfl) (hs2:NR [c] X.env=[(D',eval c X.env)]:=by rfl) :
 PI X (.Tuple elts kt pt) (.Call (.Name "zip" p) [a,c] [] pos) (Lj X.K ta):=by
 intro P2 s σ H R I h;refine Call_ (om I hg hm zk (Oz (thn (ha pos P2 s σ H _ I h) λus s1 ur52=>?_) (by rw[hs,hs2]) (by rw[hs2];rfl)));obtain⟨vs,H1,I1,r1,q1⟩:=ur52;obtain⟨b,a1,a2,xs,ys,e,h1,h2,q⟩:=q1;subst e;obtain⟨u,w',rfl,ru,rw⟩:=GT r1;cases ru;cases rw;obtain⟨us,_,p1⟩:=I1.sq h1;obtain⟨ws,_,p2⟩:=I1.sq h2;refine xy p1 p2 λh' z1 z2 z3 z4 z5 kk=>wpAny_pyIter_zip z1 ?_
 have fr:∀ b,s1.heap.objs.size <= b->wP X P2 H1 b:=λb hb=>I1.fpOk hb (I1.hok.fresh hb)
 refine⟨_,[s1.heap.objs.size+4,s1.heap.objs.size+2,s1.heap.objs.size+3,s1.heap.objs.size,s1.heap.objs.size+1],_,_,H1,rfl,I1.kept (t':=s1.toks) kk,yL (vS p1.lt p2.lt),⟨z1,z2,⟨_,_,z3⟩,z4,z5⟩,λb hb=>fr b ?_,q⟩;simp only[NA,N8,or_false]at hb;rcases hb with rfl|rfl|rfl|rfl|rfl<;>omega
end
section
variable {X:Cx}
theorem BQ:∀ {us:List Na}{ns:List Int},IntsAre us ns->bQ (ns.map V.int) us
|_,_,.nil=>.nil
|_,_,.cons n t r=>.cons ⟨t,rfl⟩ (BQ r)
def pU:Oa "sorted"=f' (.builtin "sorted"):=by decide +kernel
end
section
variable {X:Cx}
theorem sw {P:ND}{w:Nt}:∀ {vs:List (Key × Na)}{ns:List Int}{us:List Na},vs.map (·.1)=ns.map OB->us.length=vs.length ->
 (∀ (j:Nat) (u:Na),us[j]?=f' u->∃ k x,vs[j]?=f' (k,x)/\(bv P w).is k u=G')->IntsAre us ns
|[],[],[],_,_,_=>.nil
|[],[],_ :: _,_,h,_=>by cases h
|[],_ :: _,_,h,_,_=>by cases h
|_ :: _,[],_,h,_,_=>by cases h
|_ :: _,_ :: _,[],_,h,_=>by cases h
|(k,x) :: vs,n :: ns,u :: us,e,h,g=>by
  have e1:k=OB n:=by simpa using (List.cons.inj e).1
  subst e1;have r:=sw (P:=P) (w:=w) (us:=us) (List.cons.inj e).2 (by simpa using h) λj u' hu=>by
   obtain⟨k',x',q,q2⟩:=g (j+1) u' (by simpa using hu);exact⟨k',x',by simpa using q,q2⟩
  obtain⟨k',x',q,q2⟩:=g 0 u rfl;cases q;rcases be (show oM (OB n) u=G' from q2) with⟨i,t,e1,e2⟩|⟨y,t,e1,e2⟩
  . cases e1;subst e2;exact .cons _ t r
  . cases e1
def vy (hc:X.calm=G'):mW X (.builtin "sorted") (λxs H Q=>∃ (p:K') (kvs:List (Key × V)) (ns:List Int),xs=[.ref p]/\H p=f' (.dK kvs)/\kvs.map (·.1)=ns.map OB/\ns.length < 64 /\
 ∀ (l:K') (ns':List Int),H l=Nf->ns'.Perm ns->ns'.Pairwise (· <= ·)->Q (.ref l) (upd H l (.lst (ns'.map V.int)))):=by
 intro P2 s σ H xs us Q I r h;obtain⟨p,kvs,ns,rfl,hH,hk,h64,q⟩:=h;obtain⟨u,rfl,rx⟩:=mO r;cases rx;obtain⟨z,hd,vs,rel,dd⟩:=BW I.hok hH;have hl:=rel.length;have hkv:vs.map (·.1)=ns.map OB:=by rw[<-hk];exact rel.keys.symm
 have hln:ns.length=vs.length:=by
  have:=congrArg O8 hkv;simpa using this.symm
 obtain⟨ep,hat⟩:=dd.dictAt;refine Calls.call_function_entry kind_sorted plain_sorted entry_sorted (args_sorted1 _) ?_;unfold Builtin.«sorted»;refine j' (m:=checkCount "sorted" 1 1 _) (Nc ?_);refine j' (kdu_collect (A:=X.A.in1) (kdl_dict (knd:=bv X.prog X.w) (kvs:=vs) (ep:=ep) hd) (I.ok.hd hc) hat (by omega) λh' tk acc hkp hacc=>?_);have I1:Inv X P2 σ H { s with heap:=h',toks:=tk }:=I.kept (t':=tk) hkp;have hal:acc.toList.length=vs.length:=by rw[NO];exact hacc.1
 have hI:IntsAre acc.toList ns:=sw (P:=X.prog) (w:=X.w) hkv hal λj u hu=>by
  obtain⟨k,x,e,g⟩:=hacc.2 j u (by rw[<-N0];exact hu);exact⟨k,x,e,g⟩
 refine j' (wpAny_newList ?_ (by rw[hal];omega));have hoL:(h'.push (seqObj "list" acc.toList.toArray 0)).get? h'.objs.size=f' (seqObj "list" acc.toList.toArray 0):=Nr _ rfl;show Nq _ _ _ _ _ { s with heap:=h'.push (seqObj "list" acc.toList.toArray 0),toks:=tk };refine j' (N2 (NT slot_list_sort ⟨_,hoL,rfl⟩ entry_list_sort (list_sort_tree hoL hI (by omega) λout ns' a1 a2 a3=>⟨_,rfl,?_⟩) (args_list_sort _)));obtain⟨e,he⟩:=sortedHeap_at (out:=out) hoL;refine Nc ⟨_,rfl,.ref h'.objs.size,_,I1.laid (t':=tk) (o:=.lst (ns'.map V.int)) (λb o' q=>?_) (Nm _) ?_,rfl,q _ _ (I1.hok.fresh (Nm _)) a2 a3⟩
 . rw[sortedHeap_old (NZ (Nx q)) (by rw[size_push'];exact lt_succ_of_lt (Nx q))];exact Nb _ q
 . exact⟨by rw[Nu,a2.length_eq];omega,out.toList,e,BQ a1,he⟩
end
def xL {prog:ND}{w:Nt}{A:NN}{E:Na->Ng->Prop}{s:Ng}{Q:Int->Ng->Prop}(h:Q 4238894112 { s with toks:=s.toks+1 }):Nq (model prog w) A (pyHash .none) Q E s:=by
 have hT:s.TypeIs Of "NoneType":=rfl;unfold pyHash;have hv:[Of].any Na.onHeap=D':=rfl;refine j' ?_;rw[cRoomFor,Vd (by rw[hv];exact Nz)];refine Nc ?_;refine j' (wpAny_specialOf hT PySem.F.slot_NoneType_hash.lookup ?_);show Nq _ _ (if (f' (Na.builtin "NoneType.__hash__") == f' Of)=G' then _ else _) Q E s;rw[Vd (by rw[beq_builtin_none];exact Nz)];refine j' (wpAny_specialOf hT PySem.F.slot_NoneType_hash.lookup ?_);show Nq _ _ (callSpecialIfBoundUnlessNone? Of "__hash__" _ >>= _) Q E s;refine j' (wpAny_callSpecialIfBoundUnlessNone?_slot hT PySem.F.slot_NoneType_hash
  (NT PySem.F.slot_NoneType_hash hT PySem.F.entry_NoneType_hash
   (show Nq _ _ (do ret (<-mkInt 4238894112)) _ _ s from wpAny_ret_mkInt ?_) (PySem.F.args_NoneType_hash_1 _)))
 show Nq _ _ (if (decide (-(2:Int) ^ 63 <= 4238894112) && decide ((4238894112:Int) < 2 ^ 63))=G' then _ else _) Q E _;rw[Vc (by decide)];exact Nc h
def JW:Option Key->Na->Bool
|none,.none=>G'
|none,_=>D'
|some k,v=>oM k v
def eJ {v:Na}(h:JW Nf v=G'):v=.none:=by
 cases v<;>first|rfl|cases h
def xt (prog:ND) (w:Nt):PySem.KeyKind prog w (Option Key) where
 is:=JW
 hash:=λk=>match k with
 |none=>4238894112
 |some k=>M6 w k
 inj:=λv a b ha hb=>by
  cases a with
 |none =>
   cases eJ ha;cases b with
  |none=>rfl
  |some k=>rcases be (show oM k Of=G' from hb) with⟨i,t,_,e⟩|⟨x,t,_,e⟩<;>cases e
 |some k =>
   cases b with
  |none =>
    cases eJ hb;rcases be (show oM k Of=G' from ha) with⟨i,t,_,e⟩|⟨x,t,_,e⟩<;>cases e
  |some k'=>rw[(bv prog w).inj v k k' ha hb]
 byValue:=λk v h=>by
  cases k with
 |none=>cases eJ h;rfl
 |some k=>exact(bv prog w).byValue k v h
 pyHash:=λ{A E s k v Q} hv h=>by
  cases k with
 |none=>cases eJ hv;exact xL h
 |some k=>exact(bv prog w).pyHash (k:=k) hv h
 eqBool:=λ{A E s a b u v Q} hu hv h=>by
  cases a with
 |none =>
   cases eJ hu;cases b with
  |none=>cases eJ hv;exact N7.same Of _ _ _ _ h
  |some k =>
    rcases be (show oM k v=G' from hv) with⟨i,t,rfl,rfl⟩|⟨x,t,rfl,rfl⟩
    . exact N7.none_int i t _ _ _ _ h
    . exact N7.none_str x t _ _ _ _ h
 |some k =>
   cases b with
  |none =>
    cases eJ hv;rcases be (show oM k u=G' from hu) with⟨i,t,rfl,rfl⟩|⟨x,t,rfl,rfl⟩
    . exact N7.int_none i t _ _ _ _ h
    . exact N7.str_none x t _ _ _ _ h
  |some k' =>
    refine(bv prog w).eqBool (a:=k) (b:=k') hu hv ?_;have e:decide (f' k=f' k')=decide (k=k'):=by
     rw[decide_eq_decide];exact⟨λz=>NH z,λz=>by rw[z]⟩
    rw[<-e];exact h
 «strs»:=λk x t v h=>by
  cases k with
 |none=>cases h
 |some k=>exact(bv prog w).strs k x t v h
theorem wu {P:ND}{w:Nt}:∀ {es:List NU}{vs:List (Key × Na)},Pairs (bv P w) es vs->Pairs (xt P w) es (vs.map λq=>(f' q.1,q.2))
|_,_,.nil=>.nil
|_,_,.cons a b t=>.cons a b (wu t)
def DN {P:ND}{w:Nt}{h:NI}{a:K'}{vs:List (Key × Na)}(d:h.DictOf (bv P w) a vs):h.DictOf (xt P w) a (vs.map λq=>(f' q.1,q.2)):=by
 obtain⟨o,es,ep,h1,h2,h3,h4,h5,h6⟩:=d;refine⟨o,es,ep,h1,h2,h3,λe he=>?_,wu h5,?_⟩
 . obtain⟨k,a,b⟩:=h4 e he;exact⟨f' k,a,b⟩
 . rw[map_map];have:((λq:Option Key × Na=>q.1) ∘ λq:Key × Na=>(f' q.1,q.2))=f' ∘ (λq:Key × Na=>q.1):=rfl;rw[this,<-map_map];exact Pairwise.map _ (λa b n z=>n (NH z)) h6
theorem G0:∀ (vs:List (Key × Na)),valueAt (vs.map λq=>(f' q.1,q.2)) (Nf:Option Key)=Nf
|[]=>rfl
|q :: vs=>by
  have:=G0 vs;unfold valueAt at this |-;rw[Oy,OY];have e:decide (((f' q.1,q.2):Option Key × Na).1=Nf)=D':=rfl;rw[e];exact this
def Ir (td ty tx:TE):TE:=λσ H Q=>td σ H λx H1=>∃ a,x=.ref a/\IsD H1 a/\ty σ H1 λy H2=>tx σ H2 λz H3=>∃ kvs,H3 a=f' (.dK kvs) /\
 ((∃ k,y=kV k/\(∀ v,qE kvs k=f' v->Q v (upd H3 a (.dK (nX kvs k))))/\(qE kvs k=Nf->Q z H3))\/(y=.non/\Q z H3))
def Di {X:Cx}{o e f:Expr}{apos cpos:Pos}{td ty tx:TE}(ho:PE X o td) (he:PE X e ty) (hf:PE X f tx) (m:M2 X o "pop" apos e f cpos):PE X (.Call (.Attribute o "pop" apos) [e,f] [] cpos) (Ir td ty tx):=by
 intro P2 s σ H Q I h;refine wpAny_Call_method m.base m.few m.line O4 Ph PySem.F.type_dict_pop (thn (ho P2 s σ H _ I h) λu s1 ur53=>?_);obtain⟨x,H1,I1,rx,a,ex,d,q1⟩:=ur53;subst ex;obtain rfl:u=NP a:=rx;obtain⟨t1,t2,_⟩:=G5 I1 d;refine⟨t1,t2,?_⟩;rw[m.trees];refine OT rfl (OP (OE (thn (he P2 s1 σ H1 _ I1 q1) λiv s2 ⟨y,H2,I2,ry,q2⟩ =>
  OE (thn (hf P2 s2 σ H2 _ I2 q2) λfv s3 ⟨z,H3,I3,rz,kvs,ea,q3⟩=>Py ?_))))
 rcases q3 with⟨k,ey,q3,q4⟩|⟨ey,q4⟩
 . subst ey;cases l:qE kvs k with
  |some v=>exact JJ I3 ea ry l (.inr ⟨fv,rfl⟩) λw' s4 I4 rw'=>⟨v,_,I4,rw',q3 v l⟩
  |none=>exact Km I3 ea ry l λs4 I4=>⟨z,H3,I4,rz,q4 l⟩
 . subst ey;cases ry;obtain⟨zz,hd,vs,rel,dd⟩:=BW I3.hok ea;exact call_meetsIn Ph dd.typeIs PySem.F.entry_dict_pop (PySem.F.args_dict_pop_3 _ _ _) (meets_dict_pop_default (xt X.prog X.w) a (k:=Nf) (key:=Of) rfl hd rfl fv) ⟨_,DN dd,G0 vs,⟨z,H3,I3.tok _,rz,q4⟩⟩
def Db {x hd rl:K'}{l:Bool->K'}{c:K'}(hc:c=x\/c=hd\/c=rl\/∃ b,c=l b):Sto.own x hd rl l c:=by
 rcases hc with h|h|h|⟨b',h⟩
 . exact .inl h
 . exact .inr (.inl h)
 . exact .inr (.inr (.inl h))
 . cases b'
   . exact .inr (.inr (.inr (.inl h)))
   . exact .inr (.inr (.inr (.inr h)))
def GI {x hd rl:K'}{l:Bool->K'}(b:Bool):Sto.own x hd rl l (l b):=Db (.inr (.inr (.inr ⟨b,rfl⟩)))
def Jt {x hd rl:K'}{l:Bool->K'}:Sto.own x hd rl l hd:=.inr (.inl rfl)
def Sto.kp {w:Nt}{C:K'}{H H':Hp}{x hd rl:K'}{l:Bool->K'}{M:List (Ni × V)}{r:Bool->List (Ni × V)}{xs:List K'}(S:Sto w C H x hd rl l M r) (k:Kp xs H H') (h:∀ c∈xs,¬ Sto.own x hd rl l c) (ht:∀ c∈xs,∀ vs,H c≠f' (.tup vs)):Sto w C H' x hd rl l M r :=
 S.keep (λc o hc e=>k c o (λz=>h c z (Db hc)) e) λc vs e=>k c _ (λz=>ht c z vs e) e
def Kp.one {H:Hp}{c:K'}{o:HO}:Kp [c] H (upd H c o):=λb u n e=>by rw[ae λz=>n (Nd.mpr z)];exact e
def fld {K:Nh}{H:Hp}{a C dx:K'}{fs:List (Str × V)}{v:V}{f:Str}{Q:V->Prop}(hx:H a=f' (.ins C dx fs)) (c:Cls K C) (na:aV K C f) (l:fs.lookup f=f' v) (q:Q v) :
 ∃ a' C' dx' fs' v',V.ref a=.ref a'/\H a'=f' (.ins C' dx' fs')/\Cls K C'/\aV K C' f/\fs'.lookup f=f' v'/\Q v':=⟨a,C,dx,fs,v,rfl,hx,c,na,l,q⟩
structure RP where
 s:Int
 R:Int
 e:Bool
structure RP.Ok (p:RP):Prop where
 s0:0 < p.s
 s8:p.s <= 8
 sR:0 < p.s * p.R
structure SA where
 x:K'
 hd:K'
 rl:K'
 l:Bool->K'
abbrev SA.At (w:Nt) (C:K') (H:Hp) (z:SA) (M:List (Ni × V)) (r:Bool->List (Ni × V)):Prop:=Sto w C H z.x z.hd z.rl z.l M r
def SA.own (z:SA) (c:K'):Prop:=Sto.own z.x z.hd z.rl z.l c
def rF (st:K') (b:Bool) (w0 w1 w2:Str) (p:RP):List (Str × V) :=
 bp "counter_first" (.bl p.e) (bp "rounds" (.int p.R) (bp "size" (.int p.s) (bp "fetched" (.str w2) (bp "laid" (.str w1) (bp "word" (.str w0) (bp "side" (.int (sdI b)) (bp "shelf" (.ref st) [])))))))
section
variable {st:K'}{b:Bool}{w0 w1 w2:Str}{p:RP}
def i4:(rF st b w0 w1 w2 p).lookup ("shelf":Str)=f' (.ref st):=by unfold rF;repeat (first|rw[a9,Vc rfl]|rw[a9,Vd (by decide +kernel)]);try rfl
def jZ:(rF st b w0 w1 w2 p).lookup ("side":Str)=f' (.int (sdI b)):=by unfold rF;repeat (first|rw[a9,Vc rfl]|rw[a9,Vd (by decide +kernel)]);try rfl
def GP:(rF st b w0 w1 w2 p).lookup ("word":Str)=f' (.str w0):=by unfold rF;repeat (first|rw[a9,Vc rfl]|rw[a9,Vd (by decide +kernel)]);try rfl
def sY:(rF st b w0 w1 w2 p).lookup ("laid":Str)=f' (.str w1):=by unfold rF;repeat (first|rw[a9,Vc rfl]|rw[a9,Vd (by decide +kernel)]);try rfl
def nK:(rF st b w0 w1 w2 p).lookup ("fetched":Str)=f' (.str w2):=by unfold rF;repeat (first|rw[a9,Vc rfl]|rw[a9,Vd (by decide +kernel)]);try rfl
def uK:(rF st b w0 w1 w2 p).lookup ("size":Str)=f' (.int p.s):=by unfold rF;repeat (first|rw[a9,Vc rfl]|rw[a9,Vd (by decide +kernel)]);try rfl
def w5:(rF st b w0 w1 w2 p).lookup ("rounds":Str)=f' (.int p.R):=by unfold rF;repeat (first|rw[a9,Vc rfl]|rw[a9,Vd (by decide +kernel)]);try rfl
def tj:(rF st b w0 w1 w2 p).lookup ("counter_first":Str)=f' (.bl p.e):=by unfold rF;repeat (first|rw[a9,Vc rfl]|rw[a9,Vd (by decide +kernel)]);try rfl
def mH:(rF st b w0 w1 w2 p).lookup ("filled":Str)=Nf:=by unfold rF;repeat (first|rw[a9,Vc rfl]|rw[a9,Vd (by decide +kernel)]);try rfl
def BF:(rF st b w0 w1 w2 p).lookup ("is_full":Str)=Nf:=by unfold rF;repeat (first|rw[a9,Vc rfl]|rw[a9,Vd (by decide +kernel)]);try rfl
def u8:(rF st b w0 w1 w2 p).lookup ("place_at":Str)=Nf:=by unfold rF;repeat (first|rw[a9,Vc rfl]|rw[a9,Vd (by decide +kernel)]);try rfl
def nF:(rF st b w0 w1 w2 p).lookup ("write_further":Str)=Nf:=by unfold rF;repeat (first|rw[a9,Vc rfl]|rw[a9,Vd (by decide +kernel)]);try rfl
def FS:(rF st b w0 w1 w2 p).lookup ("lay":Str)=Nf:=by unfold rF;repeat (first|rw[a9,Vc rfl]|rw[a9,Vd (by decide +kernel)]);try rfl
def y4:(rF st b w0 w1 w2 p).lookup ("fetch":Str)=Nf:=by unfold rF;repeat (first|rw[a9,Vc rfl]|rw[a9,Vd (by decide +kernel)]);try rfl
end
def Rn (CR:K') (H:Hp) (q st:K') (b:Bool) (w0 w1 w2:Str) (p:RP):Prop:=∃ dx,H q=f' (.ins CR dx (rF st b w0 w1 w2 p))
def gK (ns:List Int):List (Key × V):=ns.map λi=>(.inl i,.bl G')
theorem km (i:Int):∀ ns:List Int,qE (gK ns) (.inl i)=if ns.contains i then f' (.bl G') else Nf
|[]=>rfl
|n :: ns=>by
  by_cases h:n=i
  . subst h;show qE ((OB n,V.bl G') :: gK ns) _=_;rw[pi rfl,contains_cons];simp
  . show qE ((OB n,V.bl G') :: gK ns) _=_;rw[oV (λz=>h (OB.inj z)),km i ns,contains_cons];have:(i == n)=D':=by simpa using λz=>h z.symm
    rw[this];rfl
def y6 (i:Int) (ns:List Int) (h:ns.contains i=D'):vo (gK ns) (.inl i) (.bl G')=gK (ns++[i]):=by
 unfold vo;rw[p9,km,h];simp[gK]
def Im (i:Int) (ns:List Int) (h:ns.contains i=G'):vo (gK ns) (.inl i) (.bl G')=gK ns:=by
 unfold vo;rw[p9,km,h];simp only[if_true,isSome_some];unfold gK;rw[map_map];refine List.map_congr_left λx _=>?_
 show (if OB x=OB i then _ else _)=_;split<;>rfl
theorem qR (i:Int):∀ ns:List Int,nX (gK ns) (.inl i)=gK (ns.filter (λn=>decide (n≠i)))
|[]=>rfl
|n :: ns=>by
  have ih:=qR i ns;unfold nX gK at ih |-;rw[Oy,Pt,Pt,ih];have e:decide (((OB n,V.bl G'):Key × V).1≠OB i)=decide (n≠i):=by
   by_cases h:n=i
   . subst h;simp
   . have:(OB n:Key)≠OB i:=λz=>h (OB.inj z)
     simp[h,this]
  rw[e];split<;>rfl
def yR (ns:List Int):(gK ns).length=ns.length:=by unfold gK;rw[Nu]
def vQ (ns:List Int) (i:Int):List Int:=if ns.contains i then ns else ns++[i]
def GJ (i:Int) (ns:List Int):vo (gK ns) (.inl i) (.bl G')=gK (vQ ns i):=by
 unfold vQ;cases h:ns.contains i with
|true=>rw[Im i ns h];rfl
|false=>rw[y6 i ns h];rfl
structure HA where
 h:K'
 ra:K'
 rb:K'
 gd:K'
def hF (z:HA) (n:Int):List (Str × V):=bp "going" (.ref z.gd) (bp "names" (.int n) (bp "answers" (.ref z.rb) (bp "asks" (.ref z.ra) [])))
section
variable {z:HA}{n:Int}
def Cw:(hF z n).lookup ("asks":Str)=f' (.ref z.ra):=by unfold hF;repeat (first|rw[a9,Vc rfl]|rw[a9,Vd (by decide +kernel)]);try rfl
def sg:(hF z n).lookup ("answers":Str)=f' (.ref z.rb):=by unfold hF;repeat (first|rw[a9,Vc rfl]|rw[a9,Vd (by decide +kernel)]);try rfl
def F6:(hF z n).lookup ("names":Str)=f' (.int n):=by unfold hF;repeat (first|rw[a9,Vc rfl]|rw[a9,Vd (by decide +kernel)]);try rfl
def oZ:(hF z n).lookup ("going":Str)=f' (.ref z.gd):=by unfold hF;repeat (first|rw[a9,Vc rfl]|rw[a9,Vd (by decide +kernel)]);try rfl
def yK:(hF z n).lookup ("least_free":Str)=Nf:=by unfold hF;repeat (first|rw[a9,Vc rfl]|rw[a9,Vd (by decide +kernel)]);try rfl
def yq:(hF z n).lookup ("check_ask":Str)=Nf:=by unfold hF;repeat (first|rw[a9,Vc rfl]|rw[a9,Vd (by decide +kernel)]);try rfl
def JF:(hF z n).lookup ("ask":Str)=Nf:=by unfold hF;repeat (first|rw[a9,Vc rfl]|rw[a9,Vd (by decide +kernel)]);try rfl
def zP:(hF z n).lookup ("collect":Str)=Nf:=by unfold hF;repeat (first|rw[a9,Vc rfl]|rw[a9,Vd (by decide +kernel)]);try rfl
def EO:(hF z n).lookup ("something_waits":Str)=Nf:=by unfold hF;repeat (first|rw[a9,Vc rfl]|rw[a9,Vd (by decide +kernel)]);try rfl
end
structure Hn (CH CR:K') (H:Hp) (z:HA) (st:K') (p:RP) (n:Int) (aw:List Int):Prop where
 ob:∃ dx,H z.h=f' (.ins CH dx (hF z n))
 ra:Rn CR H z.ra st D' "ask" "asked" "taken" p
 rb:Rn CR H z.rb st D' "answer" "answered" "handed" p
 go:H z.gd=f' (.dK (gK aw))
def HA.own (z:HA) (c:K'):Prop:=c=z.h\/c=z.ra\/c=z.rb\/c=z.gd
structure TA' where
 h:K'
 ra:K'
 rb:K'
 gd:K'
def tF (z:TA'):List (Str × V):=bp "doing" (.ref z.gd) (bp "answers" (.ref z.rb) (bp "asks" (.ref z.ra) []))
section
variable {z:TA'}
def Ce:(tF z).lookup ("asks":Str)=f' (.ref z.ra):=by unfold tF;repeat (first|rw[a9,Vc rfl]|rw[a9,Vd (by decide +kernel)]);try rfl
def se:(tF z).lookup ("answers":Str)=f' (.ref z.rb):=by unfold tF;repeat (first|rw[a9,Vc rfl]|rw[a9,Vd (by decide +kernel)]);try rfl
def p7:(tF z).lookup ("doing":Str)=f' (.ref z.gd):=by unfold tF;repeat (first|rw[a9,Vc rfl]|rw[a9,Vd (by decide +kernel)]);try rfl
def GU:(tF z).lookup ("take":Str)=Nf:=by unfold tF;repeat (first|rw[a9,Vc rfl]|rw[a9,Vd (by decide +kernel)]);try rfl
def z9:(tF z).lookup ("check_answer":Str)=Nf:=by unfold tF;repeat (first|rw[a9,Vc rfl]|rw[a9,Vd (by decide +kernel)]);try rfl
def C1:(tF z).lookup ("answer":Str)=Nf:=by unfold tF;repeat (first|rw[a9,Vc rfl]|rw[a9,Vd (by decide +kernel)]);try rfl
def DK:(tF z).lookup ("tasks":Str)=Nf:=by unfold tF;repeat (first|rw[a9,Vc rfl]|rw[a9,Vd (by decide +kernel)]);try rfl
def EH:(tF z).lookup ("something_waits":Str)=Nf:=by unfold tF;repeat (first|rw[a9,Vc rfl]|rw[a9,Vd (by decide +kernel)]);try rfl
end
structure Tn (CT CR:K') (H:Hp) (z:TA') (st:K') (p:RP) (ts:List Int):Prop where
 ob:∃ dx,H z.h=f' (.ins CT dx (tF z))
 ra:Rn CR H z.ra st G' "ask" "asked" "taken" p
 rb:Rn CR H z.rb st G' "answer" "answered" "handed" p
 go:H z.gd=f' (.dK (gK ts))
def TA'.own (z:TA') (c:K'):Prop:=c=z.h\/c=z.ra\/c=z.rb\/c=z.gd
section
variable {CH CT CR:K'}{H H':Hp}{st:K'}{p:RP}{n:Int}{aw:List Int}
def Rn.keep {q:K'}{b:Bool}{w0 w1 w2:Str}(r:Rn CR H q st b w0 w1 w2 p) (k:∀ o,H q=f' o->H' q=f' o):Rn CR H' q st b w0 w1 w2 p:=by
 obtain⟨dx,hx⟩:=r;exact⟨dx,k _ hx⟩
theorem Hn.keep {z:HA}(B:Hn CH CR H z st p n aw) (k:∀ c o,z.own c->H c=f' o->H' c=f' o):Hn CH CR H' z st p n aw:=by
 obtain⟨dx,hx⟩:=B.ob;exact⟨⟨dx,k _ _ (.inl rfl) hx⟩,B.ra.keep λo=>k _ o (.inr (.inl rfl)),B.rb.keep λo=>k _ o (.inr (.inr (.inl rfl))),k _ _ (.inr (.inr (.inr rfl))) B.go⟩
def Hn.same {z:HA}(B:Hn CH CR H z st p n aw) (q:bq H H'):Hn CH CR H' z st p n aw:=B.keep λc o _=>q c o
def Hn.there {z:HA}(B:Hn CH CR H z st p n aw) {c:K'}(hc:z.own c):∃ o,H c=f' o/\((∃ C dx fs,o=.ins C dx fs)\/∃ kvs,o=.dK kvs):=by
 rcases hc with rfl|rfl|rfl|rfl
 . obtain⟨dx,hx⟩:=B.ob;exact⟨_,hx,.inl ⟨_,_,_,rfl⟩⟩
 . obtain⟨dx,hx⟩:=B.ra;exact⟨_,hx,.inl ⟨_,_,_,rfl⟩⟩
 . obtain⟨dx,hx⟩:=B.rb;exact⟨_,hx,.inl ⟨_,_,_,rfl⟩⟩
 . exact⟨_,B.go,.inr ⟨_,rfl⟩⟩
def Hn.lists {z:HA}{xs:List K'}(B:Hn CH CR H z st p n aw) (k:Kp xs H H') (hx:∀ c∈xs,(∃ ys,H c=f' (.lst ys))\/∃ ee:List NU × Nat,H c=f' (qV c ee.1 ee.2)):Hn CH CR H' z st p n aw :=
 B.keep λc o hc q=>k c o (λm=>by
  obtain⟨o',e,s⟩:=B.there hc;rcases hx c m with⟨ys,e'⟩|⟨ee,e'⟩
  . rw[e]at e';cases e';rcases s with⟨_,_,_,s⟩|⟨_,s⟩<;>cases s
  . rw[e]at e';cases e';rcases s with⟨_,_,_,s⟩|⟨_,s⟩<;>cases s) q
theorem Tn.keep {z:TA'}(B:Tn CT CR H z st p aw) (k:∀ c o,z.own c->H c=f' o->H' c=f' o):Tn CT CR H' z st p aw:=by
 obtain⟨dx,hx⟩:=B.ob;exact⟨⟨dx,k _ _ (.inl rfl) hx⟩,B.ra.keep λo=>k _ o (.inr (.inl rfl)),B.rb.keep λo=>k _ o (.inr (.inr (.inl rfl))),k _ _ (.inr (.inr (.inr rfl))) B.go⟩
def Tn.there {z:TA'}(B:Tn CT CR H z st p aw) {c:K'}(hc:z.own c):∃ o,H c=f' o/\((∃ C dx fs,o=.ins C dx fs)\/∃ kvs,o=.dK kvs):=by
 rcases hc with rfl|rfl|rfl|rfl
 . obtain⟨dx,hx⟩:=B.ob;exact⟨_,hx,.inl ⟨_,_,_,rfl⟩⟩
 . obtain⟨dx,hx⟩:=B.ra;exact⟨_,hx,.inl ⟨_,_,_,rfl⟩⟩
 . obtain⟨dx,hx⟩:=B.rb;exact⟨_,hx,.inl ⟨_,_,_,rfl⟩⟩
 . exact⟨_,B.go,.inr ⟨_,rfl⟩⟩
def Tn.lists {z:TA'}{xs:List K'}(B:Tn CT CR H z st p aw) (k:Kp xs H H') (hx:∀ c∈xs,(∃ ys,H c=f' (.lst ys))\/∃ ee:List NU × Nat,H c=f' (qV c ee.1 ee.2)):Tn CT CR H' z st p aw :=
 B.keep λc o hc q=>k c o (λm=>by
  obtain⟨o',e,s⟩:=B.there hc;rcases hx c m with⟨ys,e'⟩|⟨ee,e'⟩
  . rw[e]at e';cases e';rcases s with⟨_,_,_,s⟩|⟨_,s⟩<;>cases s
  . rw[e]at e';cases e';rcases s with⟨_,_,_,s⟩|⟨_,s⟩<;>cases s) q
end
def cO (n:Nat) (aw:List Int):Option Int:=(PQ n).map (λ(k:Nat)=>(k:Int)) |>.find? λk=>!aw.contains k
def As {n i:Nat}{aw:List Int}(hi:i < n) (h:aw.contains (i:Int)=D') (hno:∀ j < i,aw.contains (j:Int)=G'):cO n aw=f' (i:Int):=by
 unfold cO;rw[List.find?_eq_some_iff_getElem];refine⟨by rw[h];rfl,i,by simpa using hi,by simp,λj hj=>?_⟩;simp only[List.getElem_map,List.getElem_range];rw[hno j hj];rfl
def zS {n:Nat}{aw:List Int}(hno:∀ j < n,aw.contains (j:Int)=G'):cO n aw=Nf:=by
 unfold cO;rw[find?_eq_none];intro x hx;obtain⟨j,hj,rfl⟩:=O1.mp hx;rw[hno j (mem_range.mp hj)];decide
def sj {n:Nat}{aw:List Int}{k:Int}(h:cO n aw=f' k):aw.contains k=D':=by
 unfold cO at h;have:=List.find?_some h;simpa using this
def oY {n:Nat}{aw:List Int}{k:Int}(h:cO n aw=f' k):0 <= k/\k < n:=by
 unfold cO at h;have:=List.mem_of_find?_eq_some h;obtain⟨j,hj,rfl⟩:=O1.mp this;have:=mem_range.mp hj;omega
theorem eL (i:Str):∀ ns:List Str,inV (.str i) (ns.map V.str)=ns.contains i
|[]=>rfl
|n :: ns=>by
  have ih:=eL i ns;unfold inV at ih |-;rw[Oy,any_cons,ih,contains_cons];congr 1;show eqV (.str n) (.str i)=(i == n)
  simp only[eqV];rw[ON,beq_iff_eq,beq_iff_eq];exact eq_comm
theorem bE:∀ ns:List Str,(ns.map V.str).all uP=G'
|[]=>rfl
|n :: ns=>by rw[Oy,all_cons,bE ns];rfl
def sC {α:Type}{r:Bool->α}{b:Bool}{u v:α}:setR (setR r b u) b v=setR r b v:=by
 funext c;unfold setR;split<;>rfl
def kS {H:Hp}{t:Str}(h:Oq t=G'):wO H (.str t) (.str t):=⟨h,by show 0 <= 8;decide,rfl,.inl ⟨_,rfl⟩⟩
def kT {H:Hp}{a:K'}{t:Str}{i:Int}(h:Oq t=G') (ha:H a=f' (.tup [.str t,.int i])):wO H (.tuple [.str t,.int i]) (.ref a):=⟨by
 show (Oq _ && (G' && G'))=G';rw[h];rfl,by show 1 <= 8;decide,⟨a,_,rfl,ha,⟨_,_,rfl,rfl,_,_,rfl,rfl,rfl⟩⟩,.inr ⟨_,rfl⟩⟩
def up1 {H:Hp}{a b:K'}{o:HO}(h:upd H a o b=Nf):b≠a/\H b=Nf:=by
 have n:b≠a:=λz=>by rw[z,a8]at h;cases h
 exact⟨n,by rw[ae n]at h;exact h⟩
def iF {H H':Hp}{c:K'}(e:bq H H') (h:H' c=Nf):H c=Nf:=by
 cases z:H c with
|none=>rfl
|some o=>rw[e c o z]at h;cases h
def gn {H H':Hp}{xs:List K'}{c:K'}(e:Kp xs H H') (h:H' c=Nf) (n:∀ x∈xs,H' x≠Nf):H c=Nf:=by
 cases z:H c with
|none=>rfl
|some o=>rw[e c o (λm=>n c m h) z]at h;cases h
def qH (p:RP) (w0 w1:Str) (A:Int) (t:V):List (Ni × V) :=
 if p.e then [(.str w1,.int ((A+1) % (p.s * p.R))),(.tuple [.str w0,.int (A % p.s)],t)] else [(.tuple [.str w0,.int (A % p.s)],t),(.str w1,.int ((A+1) % (p.s * p.R)))]
def Sto.noT {w:Nt}{C:K'}{H:Hp}{x hd rl:K'}{l:Bool->K'}{M:List (Ni × V)}{r:Bool->List (Ni × V)}(S:Sto w C H x hd rl l M r) {b:Bool}{c:K'}{vs:List V}(h:H c=f' (.tup vs)):c ∉ [l b]:=λz=>by
 obtain⟨ts,e,_⟩:=S.rw b;rw[Nd.mp z,e]at h;cases h
def Sto.noI {w:Nt}{C:K'}{H:Hp}{x hd rl:K'}{l:Bool->K'}{M:List (Ni × V)}{r:Bool->List (Ni × V)}(S:Sto w C H x hd rl l M r) {b:Bool}{c C' dx:K'}{fs:List (Str × V)}(h:H c=f' (.ins C' dx fs)):c ∉ [l b]:=λz=>by
 obtain⟨ts,e,_⟩:=S.rw b;rw[Nd.mp z,e]at h;cases h
def Sto.noD {w:Nt}{C:K'}{H:Hp}{x hd rl:K'}{l:Bool->K'}{M:List (Ni × V)}{r:Bool->List (Ni × V)}(S:Sto w C H x hd rl l M r) {c:K'}{kvs:List (Key × V)}(h:H c=f' (.dK kvs)):¬ Sto.own x hd rl l c:=λz=>by
 rcases z with rfl|rfl|rfl|rfl|rfl
 . obtain⟨dx,e⟩:=S.ob;rw[e]at h;cases h
 . obtain⟨es,e⟩:=S.me.there;rw[e]at h;cases h
 . rw[S.ro]at h;cases h
 . obtain⟨ts,e,_⟩:=S.rw D';rw[e]at h;cases h
 . obtain⟨ts,e,_⟩:=S.rw G';rw[e]at h;cases h
def AO {X:Cx}:lz (CXv X.prog X.w) X E0:=λ_ _ _ _ _ _ _ h=>by
 obtain⟨_,_,_,_,_,_,_,_,_,_,_,_,_,_,q⟩:=h;exact q.elim
def gg {K:Nh}{H:Hp}{a C:K'}{fs:List (Str × V)}{v:V}{f:Str}{Q:V->Prop}(hx:∃ dx,H a=f' (.ins C dx fs)) (c:Cls K C) (na:aV K C f) (l:fs.lookup f=f' v) (q:Q v) :
 ∃ a' C' dx' fs' v',V.ref a=.ref a'/\H a'=f' (.ins C' dx' fs')/\Cls K C'/\aV K C' f/\fs'.lookup f=f' v'/\Q v':=let ⟨dx,hx⟩:=hx;⟨a,C,dx,fs,v,rfl,hx,c,na,l,q⟩
def dX {H:Hp}{a C:K'}{fs:List (Str × V)}{m:Str}{q:Prop}(hx:∃ dx,H a=f' (.ins C dx fs)) (l:fs.lookup m=Nf) (h:q) :
 ∃ a' dx' fs',V.ref a=.ref a'/\H a'=f' (.ins C dx' fs')/\fs'.lookup m=Nf/\q:=let ⟨dx,hx⟩:=hx;⟨a,dx,fs,rfl,hx,l,h⟩
section
variable {w:Nt}{CH CR CS:K'}{H H':Hp}{z:HA}{sa:SA}{p:RP}{n:Int}{aw:List Int}{M:List (Ni × V)}{r:Bool->List (Ni × V)}
end
section
variable {w:Nt}{CT CR CS:K'}{H H':Hp}{z:TA'}{sa:SA}{p:RP}{aw:List Int}{M:List (Ni × V)}{r:Bool->List (Ni × V)}
end
def RD (H:Hp) (p:Ni × V) (d:Ni):Prop:=∃ x,d=.tuple [p.1,x]/\DV H x p.2
theorem zr {H:Hp}:∀ {es:List (Ni × V)}{ts:List V}{ds:List Ni},NF (Wt H) es ts->NF (RD H) es ds->DVs H ds ts
|_,_,_,.nil,.nil=>rfl
|_,_,_,.cons ⟨t,cv,e,ht,hk⟩ r,.cons ⟨x,e',dx⟩ r'=>by
  subst e e';exact⟨_,_,rfl,⟨t,_,rfl,ht,_,_,rfl,hk.2.2.1,_,_,rfl,dx,rfl⟩,zr r r'⟩
theorem sK:∀ {ds:List Ni},(∀ d∈ds,MX.kd d=G'/\d.depth <= 9)->OJ ds=G'/\Pj ds <= 9
|[],_=>⟨rfl,Ou _⟩
|d :: ds,h=>by
  obtain⟨a,b⟩:=sK λu hu=>h u (Nw _ hu)
  have hd:=h d Nv;refine⟨?_,?_⟩
  . show (Ni.canLay0 d && OJ ds)=G';rw[MX.kd_lay _ hd.1,a];rfl
  . show max d.depth (Pj ds) <= 9;have:=hd.2;omega
def l8 {H H':Hp}{h dh:K'}{C:K'}(nh:H h=Nf) (ndh:H dh=Nf) (kp:Kp [h] (upd (upd H dh (.own h)) h (.ins C dh [])) H'):bq H H':=λc o e=>by
 have y1:=ac e ndh;have y2:=ac e nh;exact kp c o (λz=>y2 (Nd.mp z)) (by rw[ae y2,ae y1];exact e)
def zY {x:V}:[x].length <= Nl:=by show 1 <= Nl;decide
def DP:([]:List V).length <= Nl:=by show 0 <= Nl;decide
def zW {K:Nh}:kitOne K (.type "tuple") (.type "tuple")=f' G':=by rfl
def GW {K:Nh}:kitOne K (.type "int") (.type "tuple")=f' D':=by rfl
inductive Cn where
|asked|taken|answered|handed|hs|ts
instance:DecidableEq Cn:=λa b=>by
 cases a<;>cases b<;>first|exact isTrue rfl|exact isFalse (λh=>by cases h)
def Cn.key:Cn->Str
|.asked=>"asked"
|.taken=>"taken"
|.answered=>"answered"
|.handed=>"handed"
|.hs=>"hand sleeps"
|.ts=>"heart sleeps"
def xl:Bool->Str
|false=>"ask"
|true=>"answer"
def pk (g:Bool) (i:Int):Ni:=.tuple [.str (xl g),.int i]
inductive Wr where
|c (k:Cn) (i:Int)
|p (g:Bool) (i nm wt:Int)
def Wr.key:Wr->Ni
|.c k _=>.str k.key
|.p g i _ _=>pk g i
def Wr.dat:Wr->Ni
|.c _ i=>.int i
|.p _ _ nm wt=>.tuple [.int nm,.int wt]
def Wr.Ok:Wr->Prop
|.c _ _=>True
|.p _ i nm _=>(0 <= i/\i < 8)/\0 <= nm/\nm < 9
def Wr.cnt (k:Cn):Wr->Option Int
|.c k' i=>if k'=k then f' i else Nf
|.p _ _ _ _=>Nf
def Wr.plc (g:Bool) (i:Int):Wr->Option (Int × Int)
|.c _ _=>Nf
|.p g' i' nm wt=>if g'=g/\i'=i then f' (nm,wt) else Nf
structure Mem where
 c:Cn->Int
 p:Bool->Int->Option (Int × Int)
def Mem.zero:Mem:=⟨λ_=>0,λ_ _=>Nf⟩
def Mem.put (m:Mem) (x:Wr):Mem:=⟨λk=>(x.cnt k).getD (m.c k),λg i=>(x.plc g i).or (m.p g i)⟩
def rdC (m:Mem) (row:List Wr) (k:Cn):Int:=(row.reverse.findSome? (Wr.cnt k)).getD (m.c k)
def rdP (m:Mem) (row:List Wr) (g:Bool) (i:Int):Option (Int × Int):=(row.reverse.findSome? (Wr.plc g i)).or (m.p g i)
def zQ (k:Cn):Oq k.key=G':=by cases k<;>decide +kernel
def Lu (g:Bool):Oq (xl g)=G':=by cases g<;>decide +kernel
def K9 {k k':Cn}(h:k.key=k'.key):k=k':=by
 cases k<;>cases k'<;>first|rfl|exact absurd h (by decide +kernel)
def K8 {g g':Bool}(h:xl g=xl g'):g=g':=by
 cases g<;>cases g'<;>first|rfl|exact absurd h (by decide +kernel)
def xQ (g:Bool) (i:Int):MX.kd (pk g i)=G':=by
 show (Oq (xl g) && (G' && G'))=G';rw[Lu];rfl
def wR (k:Cn):MX.kd (.str k.key)=G':=zQ k
def Wr.key_kd (x:Wr):MX.kd x.key=G':=by
 cases x with
|c k i=>exact wR k
|p g i nm wt=>exact xQ g i
def Wr.dat_kd (x:Wr):MX.kd x.dat=G':=by cases x<;>rfl
def JE {g g':Bool}{i i':Int}(h:pk g i=pk g' i'):g=g'/\i=i':=by
 injection h with h
 injection h with h1 h2
 injection h1 with h1
 injection h2 with h2 _
 injection h2 with h2
 exact⟨K8 h1,h2⟩
def tI {x:Wr}{d:Ni}(hd:MX.kd d=G'):Ny x.key d=G' ↔ x.key=d:=MX.eqv_iff _ _ x.key_kd hd
def Wr.cnt_some {x:Wr}{k:Cn}{i:Int}(h:x.cnt k=f' i):x=.c k i:=by
 cases x with
|c k' j =>
  unfold Wr.cnt at h;dsimp only at h;split at h
  . rename_i e;cases e;cases h;rfl
  . cases h
|p=>cases h
def Wr.plc_some {x:Wr}{g:Bool}{i nm wt:Int}(h:x.plc g i=f' (nm,wt)):x=.p g i nm wt:=by
 cases x with
|c=>cases h
|p g' j a b =>
  unfold Wr.plc at h;dsimp only at h;split at h
  . rename_i e;obtain⟨e1,e2⟩:=e;cases e1;cases e2;cases h;rfl
  . cases h
def Wr.cnt_none {x:Wr}{k:Cn}(h:x.cnt k=Nf):x.key≠.str k.key:=by
 intro e;cases x with
|c k' j =>
  have:=K9 (Od.inj e);unfold Wr.cnt at h;dsimp only at h;rw[Vc this]at h;cases h
|p=>cases e
def Wr.plc_none {x:Wr}{g:Bool}{i:Int}(h:x.plc g i=Nf):x.key≠pk g i:=by
 intro e;cases x with
|c=>cases e
|p g' j a b =>
  have:=JE e;unfold Wr.plc at h;dsimp only at h;rw[Vc this]at h;cases h
def WrR (H:Hp) (x:Wr) (q:Ni × V):Prop:=x.Ok/\q.1=x.key/\DV H x.dat q.2
theorem WrR.keep {H H':Hp}{x:Wr}{q:Ni × V}(h:WrR H x q) (ht:∀ b vs,H b=f' (.tup vs)->H' b=f' (.tup vs)):WrR H' x q:=⟨h.1,h.2.1,DV.keep ht _ _ x.dat_kd h.2.2⟩
def lW:List Ni:=[.str (Cn.key .asked),.str (Cn.key .taken),.str (Cn.key .answered),.str (Cn.key .handed),.str (Cn.key .hs),.str (Cn.key .ts),
 pk D' 0,pk D' 1,pk D' 2,pk D' 3,pk D' 4,pk D' 5,pk D' 6,pk D' 7,pk G' 0,pk G' 1,pk G' 2,pk G' 3,pk G' 4,pk G' 5,pk G' 6,pk G' 7]
def Wr.key_all {x:Wr}(h:x.Ok):x.key∈lW:=by
 cases x with
|c k i=>cases k<;>first|exact N1 (i:=0) rfl|exact N1 (i:=1) rfl|exact N1 (i:=2) rfl|exact N1 (i:=3) rfl|exact N1 (i:=4) rfl|exact N1 (i:=5) rfl
|p g i a b =>
  obtain⟨m,rfl⟩:=Int.eq_ofNat_of_zero_le h.1.1;have h':m < 8:=Int.ofNat_lt.mp h.1.2;have e:∀ m:Nat,m < 8->lW[6+m]?=f' (pk D' m)/\lW[14+m]?=f' (pk G' m):=by intro m hm;match m,hm with|0,_|1,_|2,_|3,_|4,_|5,_|6,_|7,_=>exact⟨rfl,rfl⟩
  cases g
  . exact N1 (e m h').1
  . exact N1 (e m h').2
theorem mZ {α:Type} [DecidableEq α]:∀ {l ks:List α},l.Nodup->(∀ a∈l,a∈ks)->l.length <= ks.length
|[],_,_,_=>Ou _
|a :: l,ks,h,hs=>by
  have ha:=hs a Nv;have hn:=Pc.mp h;have:=mZ (l:=l) (ks:=ks.erase a) hn.2 λb hb=>(List.mem_erase_of_ne (λe=>hn.1 (by rw[<-e];exact hb))).mpr (hs b (Nw _ hb))
  rw[List.length_erase_of_mem ha]at this;have h0:0 < ks.length:=List.length_pos_of_mem ha;rw[NM];omega
structure MemR (H:Hp) (M:List (Ni × V)) (m:Mem):Prop where
 c:∀ k:Cn,(fL M (.str k.key)).getD (.int 0)=.int (m.c k)
 p:∀ g i,(m.p g i=Nf/\fL M (pk g i)=Nf)\/∃ nm wt v,m.p g i=f' (nm,wt)/\fL M (pk g i)=f' v/\DV H (.tuple [.int nm,.int wt]) v
 ks:∀ q∈M,q.1∈lW
 ok:∀ g i nm wt,m.p g i=f' (nm,wt)->0 <= nm/\nm < 9
def AT:∀ d∈lW,MX.kd d=G':=by
 intro d hd;simp only[lW,NA,N8,or_false]at hd;rcases hd with rfl|rfl|rfl|rfl|rfl|rfl|rfl|rfl|rfl|rfl|rfl|rfl|rfl|rfl|rfl|rfl|rfl|rfl|rfl|rfl|rfl|rfl<;>first|exact wR _|exact xQ _ _
def MemR.kk {H:Hp}{M:List (Ni × V)}{m:Mem}(h:MemR H M m):KK M:=λq hq=>AT _ (h.ks q hq)
theorem MemR.zero {H:Hp}:MemR H [] Mem.zero:=⟨λ_=>rfl,λ_ _=>.inl ⟨rfl,rfl⟩,λ_ h=>(by cases h),λ_ _ _ _ h=>(by cases h)⟩
theorem MemR.keep {H H':Hp}{M:List (Ni × V)}{m:Mem}(h:MemR H M m) (ht:∀ b vs,H b=f' (.tup vs)->H' b=f' (.tup vs)):MemR H' M m :=
 ⟨h.c,λg i=>(h.p g i).imp id λuq14=>by(obtain⟨nm,wt,v,a,b,c⟩:=uq14;exact ⟨nm,wt,v,a,b,DV.keep ht _ _ rfl c⟩),h.ks,h.ok⟩
def KI {M:List (Ni × V)}{k:Ni}{v:V}{K:List Ni}(h:∀ q∈M,q.1∈K) (hk:k∈K):∀ q∈wK M k v,q.1∈K:=by
 intro q hq;unfold wK at hq;split at hq
 . obtain⟨p,hp,e⟩:=O1.mp hq;have:=h p hp;rw[<-e];split<;>exact this
 . rcases Oc.mp hq with z|z
   . exact h q z
   . rw[Nd.mp z];exact hk
theorem MemR.put {H:Hp}{M:List (Ni × V)}{m:Mem}{x:Wr}{q:Ni × V}(h:MemR H M m) (hx:WrR H x q):MemR H (wK M q.1 q.2) (m.put x):=by
 obtain⟨ho,hk,hd⟩:=hx;refine⟨λk=>?_,λg i=>?_,KI h.ks (by rw[hk];exact Wr.key_all ho),λg i nm wt e=>?_⟩
 . rw[hk,zu h.kk x.key_kd (wR k)];unfold Mem.put;dsimp only;cases e:x.cnt k with
  |some i =>
    have ex:=Wr.cnt_some e;subst ex;rw[Vc (show Ny (Wr.key (.c k i)) (.str k.key)=G' from d9 (wR k))];exact hd
  |none =>
    rw[Vd λz=>Wr.cnt_none e ((tI (wR k)).mp z)];exact h.c k
 . rw[hk,zu h.kk x.key_kd (xQ g i)];unfold Mem.put;dsimp only;cases e:x.plc g i with
  |some nw =>
    have ex:=Wr.plc_some (nm:=nw.1) (wt:=nw.2) e;subst ex;rw[Vc (show Ny (Wr.key (.p g i nw.1 nw.2)) (pk g i)=G' from d9 (xQ g i))];exact .inr ⟨nw.1,nw.2,q.2,rfl,rfl,hd⟩
  |none =>
    rw[Vd λz=>Wr.plc_none e ((tI (xQ g i)).mp z)];exact h.p g i
 . have e':(x.plc g i).or (m.p g i)=f' (nm,wt):=e;cases q:x.plc g i with
  |none=>rw[q]at e';exact h.ok g i nm wt e'
  |some nw =>
    rw[q]at e';cases e';have ex:=Wr.plc_some q;subst ex;exact ho.2
theorem Paired.rev {α β:Type}{F:α->β->Prop}:∀ {xs:List α}{ys:List β},NF F xs ys->NF F xs.reverse ys.reverse
|_,_,.nil=>.nil
|_,_,.cons r t=>by
  rw[List.reverse_cons,List.reverse_cons];exact NF.snoc (Paired.rev t) r
theorem Gh {H:Hp}{k:Cn}:∀ {row:List Wr}{es:List (Ni × V)},NF (WrR H) row es ->
 (es.find? λp=>Ny p.1 (.str k.key)).map (·.2)=(row.findSome? (Wr.cnt k)).map V.int
|_,_,.nil=>rfl
|x :: row,q :: es,.cons ⟨_,hk,hd⟩ t=>by
  rw[OY,List.findSome?_cons];cases e:x.cnt k with
 |some i =>
   have ex:=Wr.cnt_some e;subst ex;have:Ny q.1 (.str k.key)=G':=by rw[hk];exact d9 (wR k)
   rw[this];show f' q.2=f' (V.int i);exact congrArg f' hd
 |none =>
   have:Ny q.1 (.str k.key)=D':=by
    rw[hk];cases z:Ny x.key (.str k.key) with
   |false=>rfl
   |true=>exact absurd ((tI (wR k)).mp z) (Wr.cnt_none e)
   rw[this];exact Gh t
theorem Gv {H:Hp}{g:Bool}{i:Int}:∀ {row:List Wr}{es:List (Ni × V)},NF (WrR H) row es ->
 (row.findSome? (Wr.plc g i)=Nf/\(es.find? λp=>Ny p.1 (pk g i))=Nf)\/∃ nm wt q,row.findSome? (Wr.plc g i)=f' (nm,wt)/\(es.find? λp=>Ny p.1 (pk g i))=f' q/\DV H (.tuple [.int nm,.int wt]) q.2
|_,_,.nil=>.inl ⟨rfl,rfl⟩
|x :: row,q :: es,.cons ⟨_,hk,hd⟩ t=>by
  rw[OY,List.findSome?_cons];cases e:x.plc g i with
 |some nw =>
   have ex:=Wr.plc_some (nm:=nw.1) (wt:=nw.2) e;subst ex;have:Ny q.1 (pk g i)=G':=by rw[hk];exact d9 (xQ g i)
   rw[this];exact .inr ⟨nw.1,nw.2,q,rfl,rfl,hd⟩
 |none =>
   have:Ny q.1 (pk g i)=D':=by
    rw[hk];cases z:Ny x.key (pk g i) with
   |false=>rfl
   |true=>exact absurd ((tI (xQ g i)).mp z) (Wr.plc_none e)
   rw[this];exact Gv t
def cA {H:Hp}{M es:List (Ni × V)}{m:Mem}{row:List Wr}(h:MemR H M m) (r:NF (WrR H) row es) (k:Cn):cD M es (.str k.key)=.int (rdC m row k):=by
 rw[xT];unfold EF rdC;rw[Gh (Paired.rev r)];cases row.reverse.findSome? (Wr.cnt k) with
|some i=>rfl
|none=>exact h.c k
def Ba {H:Hp}{M es:List (Ni × V)}{m:Mem}{row:List Wr}(h:MemR H M m) (r:NF (WrR H) row es) (g:Bool) (i:Int) :
 (rdP m row g i=Nf/\cD M es (pk g i)=.int 0)\/∃ nm wt c,rdP m row g i=f' (nm,wt)/\cD M es (pk g i)=.ref c/\H c=f' (.tup [.int nm,.int wt]):=by
 rw[xT];unfold EF rdP;have tup:∀ {nm wt:Int} {v:V},DV H (.tuple [.int nm,.int wt]) v->∃ c,v=.ref c/\H c=f' (.tup [.int nm,.int wt]):=λ{nm wt v} h=>by
  obtain⟨c,vs,e,hc,v1,r1,e1,d1,v2,r2,e2,d2,e3⟩:=h;cases d1;cases d2;cases e3;subst e2 e1;exact⟨c,e,hc⟩
 rcases Gv (g:=g) (i:=i) (Paired.rev r) with⟨e1,e2⟩|⟨nm,wt,q,e1,e2,d⟩
 . rw[e1,e2];rcases h.p g i with⟨a,b⟩|⟨nm,wt,v,a,b,c⟩
   . rw[a,b];exact .inl ⟨rfl,rfl⟩
   . rw[a,b];obtain⟨c',rfl,hc⟩:=tup c;exact .inr ⟨nm,wt,c',rfl,rfl,hc⟩
 . rw[e1,e2];obtain⟨c',e,hc⟩:=tup d;exact .inr ⟨nm,wt,c',rfl,by show q.2=_;exact e,hc⟩
theorem BV {H:Hp}{g:Bool}{i nm wt:Int}:∀ {row:List Wr}{es:List (Ni × V)},NF (WrR H) row es->row.findSome? (Wr.plc g i)=f' (nm,wt)->0 <= nm/\nm < 9
|_,_,.nil,h=>by cases h
|x :: row,_,.cons hx t,h=>by
  rw[List.findSome?_cons]at h;cases q:x.plc g i with
 |none=>rw[q]at h;exact BV t h
 |some nw =>
   rw[q]at h;cases h;have ex:=Wr.plc_some q;subst ex;exact hx.1.2
def Ky {H:Hp}{M es:List (Ni × V)}{m:Mem}{row:List Wr}(h:MemR H M m) (r:NF (WrR H) row es) {g:Bool}{i nm wt:Int}(e:rdP m row g i=f' (nm,wt)):0 <= nm/\nm < 9:=by
 unfold rdP at e;cases q:row.reverse.findSome? (Wr.plc g i) with
|none=>rw[q]at e;exact h.ok g i nm wt e
|some nw =>
  rw[q]at e;cases e;exact BV (Paired.rev r) q
def StT (w:Nt) (C:K') (H:Hp) (sa:SA) (m:Mem) (rs:Bool->List Wr):Prop:=∃ M r,sa.At w C H M r/\MemR H M m/\∀ b,NF (WrR H) (rs b) (r b)
section
variable {w:Nt}{C:K'}{H H':Hp}{sa:SA}{m:Mem}{rs:Bool->List Wr}
theorem StT.keep (S:StT w C H sa m rs) (h:∀ c o,sa.own c->H c=f' o->H' c=f' o) (ht:∀ b vs,H b=f' (.tup vs)->H' b=f' (.tup vs)):StT w C H' sa m rs:=by
 obtain⟨M,r,S,R,P⟩:=S;exact⟨M,r,S.keep (λc o hc=>h c o (Db hc)) ht,R.keep ht,λb=>Paired.mapP (P b) λ_ _ q=>q.keep ht⟩
def StT.same (S:StT w C H sa m rs) (h:bq H H'):StT w C H' sa m rs:=S.keep (λc o _=>h c o) λb vs=>h b _
theorem StT.there (S:StT w C H sa m rs) {c:K'}(h:sa.own c):∃ o,H c=f' o/\(∀ xs,o≠.tup xs):=by
 obtain⟨M,r,S,_⟩:=S;exact S.there h
theorem StT.ob (S:StT w C H sa m rs):∃ dx,H sa.x=f' (.ins C dx (stF sa.hd sa.rl)):=by
 obtain⟨M,r,S,_⟩:=S;exact S.ob
def StT.names (S:StT w C H sa m rs) {b g:Bool}{i nm wt:Int}(e:rdP m (rs b) g i=f' (nm,wt)):0 <= nm/\nm < 9:=by
 obtain⟨M,r,S,R,P⟩:=S;exact Ky R (P b) e
def StT.small {M:List (Ni × V)}{r:Bool->List (Ni × V)}(S:sa.At w C H M r) (R:MemR H M m):M.length <= 22:=by
 obtain⟨es,ep,_,_,nd,_⟩:=S.me;have:=@mZ Ni (λa b=>Classical.propDecidable (a=b)) _ lW nd λd hd=>by
  obtain⟨q,hq,rfl⟩:=O1.mp hd;exact R.ks q hq
 rw[Nu]at this;exact this
end
theorem iC {α β:Type}{F:α->β->Prop}:∀ {xs:List α}{ys:List β}{xs':List α}{ys':List β},NF F xs ys->NF F xs' ys'->NF F (xs++xs') (ys++ys')
|_,_,_,_,.nil,t=>t
|_,_,_,_,.cons r t,t'=>.cons r (iC t t')
def StT.grow {w:Nt}{C:K'}{H H':Hp}{sa:SA}{m:Mem}{rs:Bool->List Wr}{M:List (Ni × V)}{r:Bool->List (Ni × V)}{b:Bool}{ws:List Wr}{es:List (Ni × V)}(R:MemR H M m) (P:∀ b,NF (WrR H) (rs b) (r b)) (S2:sa.At w C H' M (setR r b (r b++es))) (ht:∀ c vs,H c=f' (.tup vs)->H' c=f' (.tup vs)) (hn:NF (WrR H') ws es):StT w C H' sa m (setR rs b (rs b++ws)):=by
 refine⟨M,_,S2,R.keep ht,λc=>?_⟩;by_cases e:c=b
 . subst e;rw[ba,ba];exact iC (Paired.mapP (P c) λ_ _ q=>q.keep ht) hn
 . rw[eS e,eS e];exact Paired.mapP (P c) λ_ _ q=>q.keep ht
def bj (p:RP) (m:Mem) (row:List Wr) (a b:Cn):Int:=(rdC m row a - rdC m row b) % (p.s * p.R)
def lG (p:RP) (m:Mem) (row:List Wr) (a:Cn):Wr:=.c a ((rdC m row a+1) % (p.s * p.R))
def Bc (p:RP) (m:Mem) (row:List Wr) (g:Bool) (a:Cn) (nm wt:Int):List Wr :=
 if p.e then [lG p m row a,.p g (rdC m row a % p.s) nm wt] else [.p g (rdC m row a % p.s) nm wt,lG p m row a]
def y8 {H:Hp}{p:RP}{m:Mem}{row:List Wr}{g:Bool}{a:Cn}{nm wt:Int}{t:K'}(hp:p.Ok) (hn:0 <= nm/\nm < 9) (ht:H t=f' (.tup [.int nm,.int wt])):NF (WrR H) (Bc p m row g a nm wt) (qH p (xl g) a.key (rdC m row a) (.ref t)):=by
 have h1:WrR H (.p g (rdC m row a % p.s) nm wt) (.tuple [.str (xl g),.int (rdC m row a % p.s)],.ref t):=by
  have a1:=P1 (rdC m row a) (show p.s≠0 by have:=hp.s0;omega);have a2:=PX (rdC m row a) hp.s0;have:=hp.s8;exact⟨⟨⟨a1,by omega⟩,hn⟩,rfl,⟨t,_,rfl,ht,_,_,rfl,rfl,_,_,rfl,rfl,rfl⟩⟩
 have h2:WrR H (lG p m row a) (.str a.key,.int ((rdC m row a+1) % (p.s * p.R))):=⟨trivial,rfl,rfl⟩
 unfold Bc qH;cases p.e with
|true=>exact .cons h2 (.cons h1 .nil)
|false=>exact .cons h1 (.cons h2 .nil)
structure LA where
 sd:K'
 md:K'
 rw:K'
 l:Bool->K'
 ud:K'
 tk:K'
section
variable {H:Hp}{la:LA}{p:RP}{n:Int}
end
section
variable {w:Nt}{H H':Hp}{la:LA}{p:RP}{n:Int}{m:Mem}{rs:Bool->List Wr}{un tk:List Int}
end
theorem B5 (i:Int):∀ ns:List Int,inV (.int i) (ns.map V.int)=ns.contains i
|[]=>rfl
|n :: ns=>by
  have ih:=B5 i ns;unfold inV at ih |-;rw[Oy,any_cons,ih,contains_cons];congr 1;show eqV (.int n) (.int i)=(i == n)
  simp only[eqV];rw[ON,beq_iff_eq,beq_iff_eq];exact eq_comm
def aP {α:Type}{x:α}{xs:List α}:atI (x :: xs) 0=f' x:=by
 unfold atI ixN;simp
theorem jX {α β:Type}{F:α->β->Prop}:∀ {xs:List α}{ys:List β}{j:Nat}{y:β},NF F xs ys->ys[j]?=f' y->∃ x,xs[j]?=f' x/\F x y
|_,_,_,_,.nil,e=>by simp at e
|_,_,0,_,.cons r _,e=>by simp at e;subst e;exact⟨_,rfl,r⟩
|_,_,j+1,_,.cons _ t,e=>by
  obtain⟨x,a,b⟩:=jX (j:=j) t (by simpa using e);exact⟨x,by simpa using a,b⟩
def KO (own:K'->Prop) (H H':Hp):Prop:=∀ c o,¬ own c->H c=f' o->H' c=f' o
def KO.refl (own:K'->Prop) (H:Hp):KO own H H:=λ_ _ _ e=>e
def KO.of_kp {own:K'->Prop}{xs:List K'}{H H':Hp}(k:Kp xs H H') (h:∀ c∈xs,own c):KO own H H':=λc o n e=>k c o (λm=>n (h c m)) e
def KO.of_same {own:K'->Prop}{H H':Hp}(s:bq H H'):KO own H H':=λc o _ e=>s c o e
def KO.trans {own own':K'->Prop}{H H1 H2:Hp}(a:KO own H H1) (b:KO own' H1 H2) (h:∀ c,own' c->own c\/H c=Nf):KO own H H2:=λc o n e=>b c o (λz=>by
 rcases h c z with y|y
 . exact n y
 . rw[y]at e;cases e) (a c o n e)
section
variable {w:Nt}{CH CT CR CS:K'}{H H':Hp}{z:HA}{zt:TA'}{sa:SA}{la:LA}{p:RP}{n:Int}{m:Mem}{rs:Bool->List Wr}{un tk aw:List Int}{nn:Int}{st:K'}
end
def scD:Ni->Bool
|.none=>G'
|.bool _=>G'
|.int _=>G'
|.str _=>G'
|_=>D'
def flD:Ni->Bool
|.tuple ds=>ds.all scD
|d=>scD d
def DV.sc {H H':Hp}:∀ {d:Ni}{v:V},scD d=G'->DV H d v->DV H' d v
|.none,_,_,h=>h
|.bool _,_,_,h=>h
|.int _,_,_,h=>h
|.str _,_,_,h=>h
|.list _,_,h,_=>by cases h
|.tuple _,_,h,_=>by cases h
|.dict _,_,h,_=>by cases h
theorem DVs.sc {H H':Hp}:∀ {ds:List Ni}{vs:List V},ds.all scD=G'->DVs H ds vs->DVs H' ds vs
|[],_,_,h=>h
|d :: ds,_,h,⟨v,r,e,h1,h2⟩=>by
  rw[all_cons,Om]at h;exact⟨v,r,e,DV.sc h.1 h1,DVs.sc h.2 h2⟩
def DV.fl {H H':Hp}(ht:∀ b vs,H b=f' (.tup vs)->H' b=f' (.tup vs)):∀ {d:Ni}{v:V},flD d=G'->DV H d v->DV H' d v
|.none,_,_,h=>h
|.bool _,_,_,h=>h
|.int _,_,_,h=>h
|.str _,_,_,h=>h
|.list _,_,h,_=>by cases h
|.tuple ds,_,h,⟨a,vs,e,ha,hv⟩=>⟨a,vs,e,ht _ _ ha,DVs.sc h hv⟩
|.dict _,_,h,_=>by cases h
def Nms (k:Int) (ns:List Int):Prop:=ns.Nodup/\∀ x∈ns,0 <= x/\x < k
def Nms.nil (k:Int):Nms k []:=⟨nodup_nil,λ_ h=>by cases h⟩
def Nms.len {k:Int}{ns:List Int}(h:Nms k ns) (hk:k <= 9):ns.length <= 9:=by
 have:=mZ (l:=ns) (ks:=[0,1,2,3,4,5,6,7,8]) h.1 λx hx=>by
  have:=h.2 x hx;have:x=0\/x=1\/x=2\/x=3\/x=4\/x=5\/x=6\/x=7\/x=8:=by omega
  simp only[NA,N8,or_false];exact this
 exact this
def Nms.snoc {k x:Int}{ns:List Int}(h:Nms k ns) (hx:ns.contains x=D') (hb:0 <= x/\x < k):Nms k (ns++[x]):=by
 refine⟨?_,λy hy=>?_⟩
 . rw[O7];refine⟨h.1,Pc.mpr ⟨by simp,nodup_nil⟩,λa ha b hb' e=>?_⟩;rw[Nd.mp hb']at e;rw[OO,decide_eq_false_iff_not]at hx;exact hx (e ▸ ha)
 . rcases Oc.mp hy with z|z
   . exact h.2 y z
   . rw[Nd.mp z];exact hb
theorem Nms.filter {k x:Int}{ns:List Int}(h:Nms k ns):Nms k (ns.filter λy=>decide (y≠x)) :=
 ⟨Pairwise.filter _ h.1,λy hy=>h.2 y (P0.mp hy).1⟩
def Nms.next {k x:Int}{ns:List Int}(h:Nms k ns) (hb:0 <= x/\x < k):Nms k (vQ ns x):=by
 unfold vQ;cases e:ns.contains x with
|true=>exact h
|false=>exact h.snoc e hb
section
variable {g:Bool}{a f:Cn}{s N:Int}{W:List Wr}{A:List (Int × Int)}{na nf:Nat}
end
section
variable {g:Bool}{a f:Cn}{s N:Int}{W:List Wr}{A:List (Int × Int)}{na nf:Nat}
end
section
variable {s R:Int}{m:Mem}{rs:Bool->List Wr}{A B:List (Int × Int)}{T Hd:Nat}{Wf Wt:List Wr}{df dt:Nat}{A' B':List (Int × Int)}{a' h' b' t':Nat}
end
section
variable {s R:Int}{n:Nat}{m:Mem}{rs:Bool->List Wr}{un tk:List Int}{A B:List (Int × Int)}{T Hd:Nat}
end
section
variable {X:Cx}
def Ite (K:Nh) (a:K'):It :=
 ⟨λi H=>∃ xs x,SqL K H a xs/\xs[i]?=f' x,
  λi H v H'=>∃ T x,H T=Nf/\v=.ref T/\H'=upd H T (.tup [.int (i:Int),x])/\∀ xs,SqL K H a xs->xs[i]?=f' x,
  λi H=>∃ xs,SqL K H a xs/\xs.length <= i⟩
def CD {P:ND}{w:Nt}{K:Nh}{elts:List Expr}{kt:Nat}{pt:Pos}{e it a:K'}(hne:e≠it) :
 Turn P w K (.Tuple elts kt pt) (Ite K a) [e,it] e (λi h=>(∃ old,IsEnum h e it (i:Int) old)/\h.IsListIter it a i) where
 mem:=Nv
 obj:=λi h st c hc=>by
  obtain⟨⟨_,s1⟩,o,s2,_,s3⟩:=st;simp only[NA,N8,or_false]at hc;rcases hc with rfl|rfl
  . exact⟨_,s1,λv q=>by cases q⟩
  . exact⟨o,s2,λv q=>by rw[s3]at q;cases q⟩
 keep:=λi h h' st k=>by
  obtain⟨⟨u,s1⟩,o,s2,s3⟩:=st;exact⟨⟨u,k e (by simp) _ s1⟩,o,k it (by simp) _ s2,s3⟩
 item:=by
  intro X hP hw hK hc i P2 s σ H E I hf st hg;subst hP hw hK;obtain⟨⟨u,s1⟩,s2⟩:=st;obtain⟨xs,x,q1,hx⟩:=hg;obtain⟨us,r1,p1,_⟩:=I.list q1;obtain⟨ux,hux,rx⟩:=r1.get hx;refine wpAny_pyNext_enum_item s1 s2 p1.isList (x:=ux) (by simpa using hux) hne λh' t1 t2 t3 t4 kk=>?_
  have hfresh:H s.heap.objs.size=Nf:=I.hok.fresh (Nm _);have lt:∀ {c o},s.heap.get? c=f' o->c≠s.heap.objs.size:=λe=>NZ (Nx e)
  refine⟨_,rfl,wpAny_letOwnedTupleGo_enum t1 λh'' u1 e2=>?_⟩;have ch:∀ c o,c ∉ [e,it]->s.heap.get? c=f' o->h''.get? c=f' o:=λc o n ee=>by
   have n1:c≠e:=λq=>n (by simp[q])
   exact e2.extBut _ _ n1 (kk c o n1 (λq=>n (by simp[q])) ee)
  have I1:Inv X P2 σ H { s with heap:=h'',toks:=s.toks+1 }:=I.turnedL (t':=s.toks+1) (λb hb=>hf b hb) ch;have T5:h''.get? s.heap.objs.size=f' { cls:=.type "tuple",data:=.seq #[.int (i:Int) s.toks,ux] }:=e2.extBut _ _ (lt s1).symm t3;have apt:=I.aptSz (Nm s.heap.objs.size) hfresh;have I2:=I1.seen (o:=.tup [.int (i:Int),x]) apt ⟨by show 2 <= Nl;decide,[.int (i:Int) s.toks,ux],.cons ⟨_,rfl⟩ (.cons rx .nil),⟨_,T5,rfl,_,rfl⟩⟩;refine⟨.ref s.heap.objs.size,_,I2,rfl,⟨_,x,hfresh,rfl,rfl,λzs hz=>by rw[I.list_inj hz q1];exact hx⟩,⟨⟨_,u1⟩,?_⟩,λb hb=>?_⟩
  . obtain⟨o,a1,a2⟩:=t2;exact⟨o,e2.extBut _ _ hne.symm a1,a2⟩
  . obtain⟨o,ho,_⟩:∃ o,s.heap.get? b=f' o/\True:=by
     simp only[NA,N8,or_false]at hb;rcases hb with rfl|rfl
     . exact⟨_,s1,trivial⟩
     . obtain⟨o,a1,_⟩:=s2;exact⟨o,a1,trivial⟩
    rw[ae (lt ho)];exact(hf b hb).1
 done:=by
  intro X hP hw hK hc i P2 s σ H E I hf st hg;subst hP hw hK;obtain⟨⟨u,s1⟩,s2⟩:=st;obtain⟨xs,q1,hx⟩:=hg;obtain⟨us,r1,p1,_⟩:=I.list q1;have hl:=r1.length;exact wpAny_pyNext_enum_end (I.ok.hd hc) s1 s2 p1.isList (by simp;omega) λh' kk=>⟨rfl,I.turnedL (t':=s.toks) (ch:=[it]) (λb hb=>hf b (by
   rw[Nd.mp hb];simp)) λb o n ee=>kk b o (λq=>n (by simp[q])) ee⟩
 self:=λA i s Q E st hQ=>by
  obtain⟨⟨u,s1⟩,_⟩:=st;exact wpAny_pyIter_enum s1 hQ
def LT (K:Nh) (ta:TA):TI:=λσ H R=>ta σ H λvs H1=>∃ a xs,vs=[.ref a]/\SqL K H1 a xs/\R (Ite K a) H1
def CC:Oa "enumerate"=f' (.type "enumerate"):=by decide +kernel
def Ix {a:Expr}{ta:TA}{p pos pt:Pos}{elts:List Expr}{kt:Nat}(hg:Gl X "enumerate") (hm:X.mg "enumerate"=Nf) (ha:PA X [a] ta) (hs:NR [a] X.env=[(D',eval a X.env)]:=by rfl) :
 PI X (.Tuple elts kt pt) (.Call (.Name "enumerate" p) [a] [] pos) (LT X.K ta):=by
 intro P2 s σ H R I h;refine Call_ (om I hg hm CC (Oz (thn (ha pos P2 s σ H _ I h) λus s1 ⟨vs,H1,I1,r1,q1⟩=>?_) (by rw[hs];rfl) (by first|rfl|(rw[hs];rfl))));obtain⟨a1,xs,e,h1,q⟩:=q1;subst e;obtain⟨u,rfl,ru⟩:=r1.one;cases ru;obtain⟨us,_,p1,_⟩:=I1.list h1;refine call_enumerate_list p1.isList λh' z1 z2 z3 kk=>wpAny_pyIter_enum z1 ?_
 have fr:∀ b,s1.heap.objs.size <= b->wP X P2 H1 b:=λb hb=>I1.fpOk hb (I1.hok.fresh hb)
 refine⟨_,[s1.heap.objs.size+1,s1.heap.objs.size],_,_,H1,rfl,I1.kept (t':=s1.toks) kk,CD (by show (_:Nat)≠_;omega),⟨⟨_,z1⟩,z2⟩,λb hb=>fr b ?_,q⟩;simp only[NA,N8,or_false]at hb;rcases hb with rfl|rfl<;>omega
def F5 {K:Nh}{a:K'}{xs:List V}{g:TG}{tb:TS}{D:Ends}{σ:St}{H:Hp}(Pv:Nat->St->Hp->Prop) (h0:Pv 0 σ H) (hl:∀ i σ H,i <= xs.length->Pv i σ H->SqL K H a xs)
 (hs:∀ i x T σ H,xs[i]?=f' x->H T=Nf->Pv i σ H->g (.ref T) σ (upd H T (.tup [.int (i:Int),x])) λσ2 H2=>tb { D with nx:=Pv (i+1),ct:=Pv (i+1),bk:=D.nx } σ2 H2) (hd:∀ σ H,Pv xs.length σ H->D.nx σ H) :
 ∃ W:Nat->Nat->St->Hp->Prop,(∃ m,W 0 m σ H)/\∀ i m σ H,W i m σ H ->
  ((Ite K a).stop i H/\D.nx σ H)\/((Ite K a).go i H/\∃ N:St->Hp->Prop,(∀ σ' H',N σ' H'->∃ m',m' < m/\W (i+1) m' σ' H')/\∀ x H',(Ite K a).yld i H x H'->g x σ H' λσ2 H2=>tb { D with nx:=N,ct:=N,bk:=D.nx } σ2 H2):=by
 refine⟨λi m σ H=>m=xs.length - i/\i <= xs.length/\Pv i σ H,⟨xs.length,by simp,Ou _,h0⟩,?_⟩;rintro i m σ H ⟨rfl,hi,p⟩;have q1:=hl i σ H hi p;by_cases hlt:i < xs.length
 . refine .inr ⟨⟨xs,xs[i],q1,Nk hlt⟩,Pv (i+1),λσ' H' z=>⟨xs.length - (i+1),by omega,rfl,hlt,z⟩,?_⟩;rintro v H' ⟨T,x,hT,rfl,rfl,hx⟩;exact hs i x T σ H (hx _ q1) hT p
 . refine .inl ⟨⟨xs,q1,by omega⟩,hd σ H ?_⟩;have e:i=xs.length:=by omega
   rw[<-e];exact p
end
section
variable {X:Cx}
end
section
variable {X:Cx}
end
def ltS (a b:Str):Prop:=a.cps.toList < b.cps.toList
def Paired.at' {α β:Type}{R:α->β->Prop}{as:List α}{bs:List β}(h:NF R as bs):∀ {i:Nat}{a:α},as[i]?=f' a->∃ b,bs[i]?=f' b/\R a b:=by
 induction h with
|nil=>intro i a e;cases e
|cons r _ ih =>
  intro i a e;cases i with
 |zero=>cases e;exact⟨_,rfl,r⟩
 |succ i=>exact ih (i:=i) e
section
variable {X:Cx}{P2:List (K' × Ow)}{σ:St}{H:Hp}{s:Ng}
end
def FW (K:Nh) (a:K') (D:List (Str × K')):Prop:=(a == OD)=D'/\∃ o es ep,K.lookup a=f' o/\o.ExactDict/\o.data=.dict es ep/\KTD.Rows (λ(b:K') (v:Na)=>v=.ref b) es.toList D
section
variable {X:Cx}{P2:List (K' × Ow)}{σ:St}{H:Hp}{s:Ng}
def jv {A:NN}{E:Na->Ng->Prop}{a:K'}{D:List (Str × K')}{k:Str}{tk:Tok}{o:Ow}{es:Array NU}{ep:Nat}{prog:ND}{w:Nt}{s:Ng}{Q:Option Na->Ng->Prop}(ho:s.heap.get? a=f' o) (hd:o.data=.dict es ep) (hr:KTD.Rows (λ(b:K') (v:Na)=>v=.ref b) es.toList D)
 (h1:Q ((KTD.datumAt k D).map NP) { s with toks:=s.toks+1 }):Nq (model prog w) A (dictGet a (.str k tk)) Q E s:=by
 unfold dictGet
 try with_reducible refine N2 ?_
 refine j' (wpAny_pyHash_str (j' (KTD.kt_dictFind_strs (s:={ s with toks:=s.toks+1 }) ho hd (by obtain⟨l⟩:=es;simpa using hr.exact) ?_)));have hq:Q (findBy (λk v=>v.isStr k) es k) { s with toks:=s.toks+1 }:=by
  have hf:findBy (λk v=>v.isStr k) es k=(es.toList.find? λe=>e.key.isStr k).map (·.val):=by
   obtain⟨l⟩:=es;simp[findBy]
  rw[hf];cases hat:KTD.datumAt k D with
 |some d =>
   obtain⟨v,hv,hfl⟩:=hr.find_some hat;rw[hv,hfl];rw[hat]at h1;exact h1
 |none =>
   rw[hr.find_none hat];rw[hat]at h1;exact h1
 rw[findBy_of_findIdx?]at hq;cases hi:es.findIdx? λe=>e.key.isStr k with
|none=>rw[hi]at hq;exact Nc hq
|some i=>rw[hi]at hq;exact j' (wpAny_dictEntries (s:={ s with toks:=s.toks+1 }) ho hd (Nc hq))
def Mh:Option K'->V
|some b=>.ref b
|none=>.non
def IJ (D:List (Str × K')) (ty:TE):TE:=λσ H Q=>ty σ H λy H1=>∃ k,y=.str k/\Q (Mh (KTD.datumAt k D)) H1
def BE {T:Str}{a:K'}{D:List (Str × K')}{e:Expr}{ty:TE}{p apos cpos:Pos}(hg:Gl X T) (hm:X.mg T=f' (.ref a)) (ht:FW X.K a D) (he:PE X e ty) (m:M1 X (.Name T p) "get" apos e cpos) (hdb:(T == ("__debug__":Str))=D':=by decide):PE X (.Call (.Attribute (.Name T p) "get" apos) [e] [] cpos) (IJ D ty):=by
 intro P2 s σ H Q I h;obtain⟨hs,o,es,ep,hl,hx,hd,hr⟩:=ht;have ho:∀ {s':Ng} {H':Hp},Inv X P2 σ H' s'->s'.heap.get? a=f' o:=λI'=>I'.kIn a o hl
 refine wpAny_Call_method m.base m.few m.line O4 OX PySem.F.type_dict_get (fJ I hg hm ?_ hdb);refine⟨⟨o,ho I,hx.1⟩,?_,?_⟩
 . intro b q;cases q;exact⟨o,ho I,hx.2.1⟩
 . rw[m.trees];refine OT rfl (OP (OE (thn (he P2 s σ H _ I h) λiv s2 ⟨y,H2,I2,ry,k,ey,q2⟩=>Py ?_)));subst ey;obtain⟨t,rfl⟩:=ry;refine NT OX ⟨o,ho I2,hx.1⟩ PySem.F.entry_dict_get ?_ (PySem.F.args_dict_get_2 _ _);show Nq _ _ (dictGet a (.str k t) >>= _) _ _ s2;refine j' (jv (ho I2) hd hr ?_);cases hat:KTD.datumAt k D with
  |some b =>
    rw[hat]at q2;exact Nc ⟨_,rfl,.ref b,H2,I2.tok _,rfl,q2⟩
  |none =>
    rw[hat]at q2;show Nq _ _ (Builtin.Dict.missed a (.str k t) >>= _) _ _ _;exact j' (wpAny_missed_other hs (Nc ⟨.none,rfl,.non,H2,I2.tok _,rfl,q2⟩))
end
section
variable {X:Cx}
def AK {prog:ND}{w:Nt}{A:NN}{I l:K'}{items:Array Na}(hh:A.handled=Nf) (hIl:I≠l) :
 Walks prog w A I [I,l] [I] items.size (λi v=>items[i]?=f' v) (λi h=>h.IsListIter I l i/\h.IsList l items) where
 sub b hb:=by rw[Nd.mp hb];exact Nv
 frame i h h' st k:=by
  obtain⟨⟨o,ho,r⟩,⟨ol,hol,rl⟩⟩:=st;exact⟨⟨o,k I Nv _ ho,r⟩,⟨ol,k l (Nw _ Nv) _ hol,rl⟩⟩
 item i s Q E hi st k:=by
  refine wpAny_pyNext_list_item st.1 st.2 (NJ hi) λh' it' sb=>k _ h' s.toks (NJ hi) ⟨it',?_⟩ λb o hb e=>(sb.2 b (λy=>hb (by rw[y];exact Nd.mpr rfl))).trans e
  obtain⟨ol,hol,rl⟩:=st.2;exact⟨ol,(sb.2 l (Pg hIl)).trans hol,rl⟩
 done s Q E st k:=by
  refine wpAny_pyNext_list_end hh st.1 st.2 (by rw[Array.getElem?_eq_none_iff];exact Nm _) λh' eb=>k h' s.toks λb o hb e=>?_
  exact eb b o (λy=>hb (by rw[y];exact Nd.mpr rfl)) e
 self i s Q E st k:=wpAny_pyIter_listiter st.1 k
theorem vA:∀ {bs:List Bool}{us:List Na},bQ (bs.map V.bl) us->us=bs.map Na.bool
|[],_,.nil=>rfl
|b :: bs,_,.cons r t=>by
  have r':_=Na.bool b:=r;rw[r',vA t];rfl
def Dj:Oa "all"=f' (.builtin "all"):=by decide +kernel
def uf (hc:X.calm=G'):mW X (.builtin "all") (λxs H Q=>∃ (p:K') (bs:List Bool),xs=[.ref p]/\SqL X.K H p (bs.map V.bl)/\Q (.bl (bs.all id)) H):=by
 intro P2 s σ H xs us Q I r h;obtain⟨p,bs,rfl,hq,q⟩:=h;obtain⟨u,rfl,rx⟩:=mO r;cases rx;obtain⟨its,r',pl,hz⟩:=I.list hq;have hb:=vA r';have il:=pl.isList;refine call_all_walk (wpAny_pyIter_list il ⟨s.heap.objs.size,_,_,_,_,_,λi=>bs.getD i G',rfl,AK (I:=s.heap.objs.size) (l:=p) (items:=its.toArray) (I.ok.hd hc) ?_,⟨⟨_,Nr _ rfl,rfl,rfl⟩,?_⟩,?_,?_⟩)
 . obtain⟨o,ho,_⟩:=il;exact Pg (NZ (Nx ho))
 . obtain⟨o,ho,rr⟩:=il;exact⟨o,Nb _ ho,rr⟩
 . intro i v s' Q' E' hv hq';have hv':its[i]?=f' v:=by rw[<-hv];simp
   rw[hb,NL]at hv';obtain⟨b,hbi,rfl⟩:=Option.map_eq_some_iff.mp hv';have:bs.getD i G'=b:=by rw[OW,hbi];rfl
   have hq2:Q' (bs.getD i G') s':=hq';rw[this]at hq2;exact N5 hq2
 . intro h' tk k;have e:((PQ its.toArray.size).all λi=>bs.getD i G')=bs.all id:=by
    have hl:its.toArray.size=bs.length:=by rw[NC,hb,Nu]
    rw[hl,ON,all_eq_true,all_eq_true];constructor
    . intro h x hx;obtain⟨i,hi,rfl⟩:=List.getElem_of_mem hx;have:=h i (mem_range.mpr hi);rw[OW,Nk hi]at this;exact this
    . intro h i hi;have hi':=mem_range.mp hi;rw[OW,Nk hi'];exact h _ (getElem_mem hi')
   rw[e];refine⟨.bl (bs.all id),H,I.kept λb o hb=>k b o (λy=>?_) (Nb _ hb),rfl,q⟩;rw[Nd]at y;have:=Nx hb;rw[y]at this;exact O2 _ this
end
section
variable {X:Cx}
def L8 (K:Nh):V->List V->Hp->VK->Prop:=λx vs H Q=>∃ (sep:Str) (p:K') (ys:List Str),x=.str sep/\vs=[.ref p]/\SqL K H p (ys.map V.str)/\(ys.map (·.length)).sum+ys.length * sep.length <= 16777216/\Q (.str (PK sep ys)) H
theorem yY:∀ {ys:List Str}{us:List Na},bQ (ys.map V.str) us->StrsAre us ys
|[],_,.nil=>.nil
|y :: ys,_,.cons r t=>by
  obtain⟨tk,e⟩:=r;rw[e];exact .cons _ _ (yY t)
def tP:MtR X "str.join" (L8 X.K):=by
 intro P2 s σ H x vs v us Q I rx rv h;obtain⟨sep,p,ys,rfl,rfl,hq,hl,q⟩:=h;obtain⟨t,rfl⟩:=rx;obtain⟨u,rfl,ru⟩:=rv.one;cases ru;obtain⟨its,r',pl,hz⟩:=I.list hq;exact join_list pl.isList (yY r') hl λt' k=>⟨.str (PK sep ys),H,I.tok k,⟨t',rfl⟩,q⟩
def fj:mW X (.type "str") (λxs H Q=>(∃ i:Int,xs=[.int i]/\i.natAbs.log2 < 1920/\Q (.str (toString i)) H)\/∃ t,xs=[.str t]/\Q (.str t) H):=by
 intro P2 s σ H xs us Q I r h;rcases h with⟨i,rfl,hz,q⟩|⟨x,rfl,q⟩
 . obtain⟨u,rfl,t,rfl⟩:=mO r;exact PySem.P.str_of_int hz ⟨.str _,H,I.tok _,⟨_,rfl⟩,q⟩
 . obtain⟨u,rfl,t,rfl⟩:=mO r;exact PySem.P.str_of_str ⟨.str x,H,I,⟨t,rfl⟩,q⟩
end
def mD {X:Cx}{x:Str}{i:Int}{p:Pos}(hg:Gl X x) (hm:∃ t,X.mg x=f' (.int i t)) (hdb:(x == ("__debug__":Str))=D':=by decide):PE X (.Name x p) (tC (.int i)):=by
 obtain⟨t,hm⟩:=hm;intro P2 s σ H Q I h;exact fJ I hg hm ⟨.int i,H,I,⟨t,rfl⟩,h⟩ hdb
def zA (z:HA) (zt:TA') (sa:SA) (c:K'):Prop:=z.own c\/zt.own c\/sa.own c
structure X5 (w:Nt) (CH CT CR CS:K') (H:Hp) (z:HA) (zt:TA') (sa:SA) (p:RP) (n:Nat) (m:Mem) (rs:Bool->List Wr) (un tk:List Int):Prop where
 hn:Hn CH CR H z sa.x p n un
 tn:Tn CT CR H zt sa.x p tk
 st:StT w CS H sa m rs
 dz:∀ c,z.own c->¬ zt.own c
section
variable {w:Nt}{CH CT CR CS:K'}{H H':Hp}{z:HA}{zt:TA'}{sa:SA}{p:RP}{n:Nat}{m m':Mem}{rs rs':Bool->List Wr}{un tk un' tk':List Int}
theorem X5.keep (W:X5 w CH CT CR CS H z zt sa p n m rs un tk) (k:∀ c o,zA z zt sa c->H c=f' o->H' c=f' o) (ht:∀ b vs,H b=f' (.tup vs)->H' b=f' (.tup vs)):X5 w CH CT CR CS H' z zt sa p n m rs un tk :=
 ⟨W.hn.keep λc o h=>k c o (.inl h),W.tn.keep λc o h=>k c o (.inr (.inl h)),W.st.keep (λc o h=>k c o (.inr (.inr h))) ht,W.dz⟩
theorem X5.there (W:X5 w CH CT CR CS H z zt sa p n m rs un tk) {c:K'}(h:zA z zt sa c):∃ o,H c=f' o/\∀ vs,o≠.tup vs:=by
 rcases h with h|h|h
 . obtain⟨o,e,⟨_,_,_,s⟩|⟨_,s⟩⟩:=W.hn.there h
   . exact⟨o,e,λvs y=>by rw[y]at s;cases s⟩
   . exact⟨o,e,λvs y=>by rw[y]at s;cases s⟩
 . obtain⟨o,e,⟨_,_,_,s⟩|⟨_,s⟩⟩:=W.tn.there h
   . exact⟨o,e,λvs y=>by rw[y]at s;cases s⟩
   . exact⟨o,e,λvs y=>by rw[y]at s;cases s⟩
 . exact W.st.there h
def L9 {p:RP}{st:K'}{nn:Int}{aw:List Int}(B:Hn CH CR H z st p nn aw) (S:StT w CS H sa m rs) (b:Bool):¬ z.own (sa.l b):=λhc=>by
 obtain⟨o1,q1,s1⟩:=B.there hc;obtain⟨M,r,S',_⟩:=S;obtain⟨ts,e,_⟩:=S'.rw b;rw[e]at q1;cases q1;rcases s1 with⟨_,_,_,s⟩|⟨_,s⟩<;>cases s
def Ly {p:RP}{st:K'}{aw:List Int}(B:Tn CT CR H zt st p aw) (S:StT w CS H sa m rs) (b:Bool):¬ zt.own (sa.l b):=λhc=>by
 obtain⟨o1,q1,s1⟩:=B.there hc;obtain⟨M,r,S',_⟩:=S;obtain⟨ts,e,_⟩:=S'.rw b;rw[e]at q1;cases q1;rcases s1 with⟨_,_,_,s⟩|⟨_,s⟩<;>cases s
def sA:∀ c∈[z.gd,sa.l D'],zA z zt sa c:=λc hc=>by
 rcases NA.mp hc with y|y
 . rw[y];exact .inl (.inr (.inr (.inr rfl)))
 . rw[Nd.mp y];exact .inr (.inr (GI D'))
def sJ:∀ c∈[zt.gd,sa.l G'],zA z zt sa c:=λc hc=>by
 rcases NA.mp hc with y|y
 . rw[y];exact .inr (.inl (.inr (.inr (.inr rfl))))
 . rw[Nd.mp y];exact .inr (.inr (GI G'))
def wF {b:Bool}:∀ c∈[sa.l b,sa.hd],zA z zt sa c:=λc hc=>by
 rcases NA.mp hc with y|y
 . rw[y];exact .inr (.inr (GI b))
 . rw[Nd.mp y];exact .inr (.inr Jt)
def X5.hand (W:X5 w CH CT CR CS H z zt sa p n m rs un tk) (hn':Hn CH CR H' z sa.x p n un') (st':StT w CS H' sa m' rs') (kp:Kp [z.gd,sa.l D'] H H'):X5 w CH CT CR CS H' z zt sa p n m' rs' un' tk:=by
 refine⟨hn',W.tn.keep λc o hc e=>kp c o (λmm=>?_) e,st',W.dz⟩;rcases NA.mp mm with y|y
 . exact W.dz c (by rw[y];exact .inr (.inr (.inr rfl))) hc
 . exact Ly W.tn W.st D' (by rw[<-Nd.mp y];exact hc)
def X5.heart (W:X5 w CH CT CR CS H z zt sa p n m rs un tk) (tn':Tn CT CR H' zt sa.x p tk') (st':StT w CS H' sa m' rs') (kp:Kp [zt.gd,sa.l G'] H H'):X5 w CH CT CR CS H' z zt sa p n m' rs' un tk':=by
 refine⟨W.hn.keep λc o hc e=>kp c o (λmm=>?_) e,tn',st',W.dz⟩;rcases NA.mp mm with y|y
 . exact W.dz c hc (by rw[y];exact .inr (.inr (.inr rfl)))
 . exact L9 W.hn W.st G' (by rw[<-Nd.mp y];exact hc)
def X5.store (W:X5 w CH CT CR CS H z zt sa p n m rs un tk) {b:Bool}(st':StT w CS H' sa m' rs') (kp:Kp [sa.l b,sa.hd] H H'):X5 w CH CT CR CS H' z zt sa p n m' rs' un tk:=by
 have hx:∀ c∈[sa.l b,sa.hd],(∃ ys,H c=f' (.lst ys))\/∃ ee:List NU × Nat,H c=f' (qV c ee.1 ee.2):=λc hc=>by
  obtain⟨M,r,S,_⟩:=W.st;rcases NA.mp hc with y|y
  . obtain⟨ts,e,_⟩:=S.rw b;exact .inl ⟨ts,by rw[y];exact e⟩
  . obtain⟨ee,e⟩:=S.me.there;exact .inr ⟨ee,by rw[Nd.mp y];exact e⟩
 exact⟨W.hn.lists kp hx,W.tn.lists kp hx,st',W.dz⟩
end
def DV2 {H:Hp}{c:K'}{x y:Int}(h:H c=f' (.tup [.int x,.int y])):DV H (.tuple [.int x,.int y]) (.ref c):=⟨c,_,rfl,h,_,_,rfl,rfl,_,_,rfl,rfl,rfl⟩
theorem gm {H:Hp}:∀ {ds:List Ni}{ts:List V},DVs H ds ts->ts.length=ds.length
|[],_,h=>by cases h;rfl
|d :: ds,_,⟨v,r,h,h1,h2⟩=>by subst h;rw[NM,NM,gm h2]
def Gw {xs:List V}{j:Nat}{v:V}(h:xs[j]?=f' v):atI xs (j:Int)=f' v:=by
 unfold atI ixN;have hl:=(NG.mp h).1;rw[Vc (by omega),Vc (by omega)];exact h
inductive Bd where
|up|lies|asleep
instance:DecidableEq Bd:=λa b=>by
 cases a<;>cases b<;>first|exact isTrue rfl|exact isFalse (λh=>by cases h)
def Bd.key:Bd->Str
|.up=>"up"
|.lies=>"lies"
|.asleep=>"asleep"
def KH {a b:Bd}(h:a.key=b.key):a=b:=by
 cases a<;>cases b<;>first|rfl|exact absurd h (by decide +kernel)
structure YP where
 p:RP
 n:Nat
 fb:Bool
 fl:Bool
 fk:Bool
structure YP.Ok (q:YP):Prop where
 ok:q.p.Ok
 n9:q.n <= 9
structure YA where
 y:K'
 ft:K'
 sa:SA
 z:HA
 zt:TA'
 sl:K'
 qu:K'
 hp:K'
structure YS where
 m:Mem
 rs:Bool->List Wr
 un:List Int
 tk:List Int
 bd:Bool->Bd
 qt:Bool->Bool
 hs:List Ni
def YS.zero:YS:=⟨Mem.zero,λ_=>[],[],[],λ_=>.up,λ_=>G',[]⟩
def yF (a:YA) (q:YP):List (Str × V):=bp "happened" (.ref a.hp) (bp "quiet" (.ref a.qu) (bp "sleepers" (.ref a.sl) (bp "look_sees" (.bl q.fk) (bp "lie_fences" (.bl q.fl) (bp "bell_fences" (.bl q.fb) (bp "heart" (.ref a.zt.h) (bp "hand" (.ref a.z.h) (bp "shelf" (.ref a.sa.x) (bp "faults" (.ref a.ft) (bp "rounds" (.int q.p.R) (bp "size" (.int q.p.s) [])))))))))))
section
variable {a:YA}{q:YP}
def Iv:(yF a q).lookup ("size":Str)=f' (.int q.p.s):=by unfold yF;repeat (first|rw[a9,Vc rfl]|rw[a9,Vd (by decide +kernel)]);try rfl
def Bb:(yF a q).lookup ("rounds":Str)=f' (.int q.p.R):=by unfold yF;repeat (first|rw[a9,Vc rfl]|rw[a9,Vd (by decide +kernel)]);try rfl
def fZ:(yF a q).lookup ("shelf":Str)=f' (.ref a.sa.x):=by unfold yF;repeat (first|rw[a9,Vc rfl]|rw[a9,Vd (by decide +kernel)]);try rfl
def ue:(yF a q).lookup ("hand":Str)=f' (.ref a.z.h):=by unfold yF;repeat (first|rw[a9,Vc rfl]|rw[a9,Vd (by decide +kernel)]);try rfl
def mM:(yF a q).lookup ("heart":Str)=f' (.ref a.zt.h):=by unfold yF;repeat (first|rw[a9,Vc rfl]|rw[a9,Vd (by decide +kernel)]);try rfl
def IB:(yF a q).lookup ("bell_fences":Str)=f' (.bl q.fb):=by unfold yF;repeat (first|rw[a9,Vc rfl]|rw[a9,Vd (by decide +kernel)]);try rfl
def Jo:(yF a q).lookup ("lie_fences":Str)=f' (.bl q.fl):=by unfold yF;repeat (first|rw[a9,Vc rfl]|rw[a9,Vd (by decide +kernel)]);try rfl
def II:(yF a q).lookup ("look_sees":Str)=f' (.bl q.fk):=by unfold yF;repeat (first|rw[a9,Vc rfl]|rw[a9,Vd (by decide +kernel)]);try rfl
def cF:(yF a q).lookup ("sleepers":Str)=f' (.ref a.sl):=by unfold yF;repeat (first|rw[a9,Vc rfl]|rw[a9,Vd (by decide +kernel)]);try rfl
def pj:(yF a q).lookup ("quiet":Str)=f' (.ref a.qu):=by unfold yF;repeat (first|rw[a9,Vc rfl]|rw[a9,Vd (by decide +kernel)]);try rfl
def jk:(yF a q).lookup ("happened":Str)=f' (.ref a.hp):=by unfold yF;repeat (first|rw[a9,Vc rfl]|rw[a9,Vd (by decide +kernel)]);try rfl
def eN {f:Str}(h:f ∉ (["size","rounds","faults","shelf","hand","heart","bell_fences","lie_fences","look_sees","sleepers","quiet","happened"]:List Str)):(yF a q).lookup f=Nf:=by
 simp only[NA,N8,or_false,not_or]at h;obtain⟨h1,h2,h3,h4,h5,h6,h7,h8,h9,h10,h11,h12⟩:=h;unfold yF;rw[a9,Vd h12,a9,Vd h11,a9,Vd h10,a9,Vd h9,a9,Vd h8,a9,Vd h7,a9,Vd h6,a9,Vd h5,a9,Vd h4,a9,Vd h3,a9,Vd h2,a9,Vd h1];rfl
end
def YA.lists (a:YA) (c:K'):Prop:=c=a.sl\/c=a.qu\/c=a.hp
def YA.own (a:YA) (c:K'):Prop:=c=a.y\/zA a.z a.zt a.sa c\/a.lists c
structure Yn (w:Nt) (CY CH CT CR CS:K') (H:Hp) (a:YA) (q:YP) (S:YS):Prop where
 ob:∃ dx,H a.y=f' (.ins CY dx (yF a q))
 x:X5 w CH CT CR CS H a.z a.zt a.sa q.p q.n S.m S.rs S.un S.tk
 sl:H a.sl=f' (.lst [.str (S.bd D').key,.str (S.bd G').key])
 qu:H a.qu=f' (.lst [.bl (S.qt D'),.bl (S.qt G')])
 hp:∃ ts,H a.hp=f' (.lst ts)/\DVs H S.hs ts
 fl:∀ d∈S.hs,flD d=G'
 d1:∀ c,a.lists c->¬ zA a.z a.zt a.sa c
 d2:a.sl≠a.qu/\a.sl≠a.hp/\a.qu≠a.hp
 d3:¬ zA a.z a.zt a.sa a.y
theorem DVs.fl {H H':Hp}(ht:∀ b vs,H b=f' (.tup vs)->H' b=f' (.tup vs)):∀ {ds:List Ni}{vs:List V},(∀ d∈ds,flD d=G')->DVs H ds vs->DVs H' ds vs
|[],_,_,h=>h
|d :: ds,_,hf,⟨v,r,e,h1,h2⟩=>⟨v,r,e,DV.fl ht (hf d Nv) h1,DVs.fl ht (λx hx=>hf x (Nw _ hx)) h2⟩
section
variable {w:Nt}{CY CH CT CR CS:K'}{H H':Hp}{a:YA}{q:YP}{S:YS}
theorem Yn.keep (Y:Yn w CY CH CT CR CS H a q S) (k:∀ c o,a.own c->H c=f' o->H' c=f' o) (ht:∀ b vs,H b=f' (.tup vs)->H' b=f' (.tup vs)):Yn w CY CH CT CR CS H' a q S:=by
 obtain⟨dx,hx⟩:=Y.ob;obtain⟨ts,h1,h2⟩:=Y.hp;exact⟨⟨dx,k _ _ (.inl rfl) hx⟩,Y.x.keep (λc o h=>k c o (.inr (.inl h))) ht,k _ _ (.inr (.inr (.inl rfl))) Y.sl,k _ _ (.inr (.inr (.inr (.inl rfl)))) Y.qu,⟨ts,k _ _ (.inr (.inr (.inr (.inr rfl)))) h1,DVs.fl ht Y.fl h2⟩,Y.fl,Y.d1,Y.d2,Y.d3⟩
def Yn.same (Y:Yn w CY CH CT CR CS H a q S) (s:bq H H'):Yn w CY CH CT CR CS H' a q S:=Y.keep (λc o _=>s c o) λb vs=>s b _
def Yn.list (Y:Yn w CY CH CT CR CS H a q S) {c:K'}(h:a.lists c):∃ ys,H c=f' (.lst ys):=by
 rcases h with rfl|rfl|rfl
 . exact⟨_,Y.sl⟩
 . exact⟨_,Y.qu⟩
 . obtain⟨ts,e,_⟩:=Y.hp;exact⟨_,e⟩
theorem Yn.there (Y:Yn w CY CH CT CR CS H a q S) {c:K'}(h:a.own c):∃ o,H c=f' o/\∀ vs,o≠.tup vs:=by
 rcases h with rfl|h|h
 . obtain⟨dx,e⟩:=Y.ob;exact⟨_,e,λ_ z=>by cases z⟩
 . exact Y.x.there h
 . obtain⟨ys,e⟩:=Y.list h;exact⟨_,e,λ_ z=>by cases z⟩
def Yn.tups (Y:Yn w CY CH CT CR CS H a q S) {xs:List K'}(kp:Kp xs H H') (h:∀ c∈xs,a.own c):∀ b vs,H b=f' (.tup vs)->H' b=f' (.tup vs):=λb vs e=>kp b _ (λmm=>by
 obtain⟨o,e',nn⟩:=Y.there (h b mm);rw[e']at e;exact nn vs (NH e)) e
def Yn.parts (Y:Yn w CY CH CT CR CS H a q S) {xs:List K'}{m:Mem}{rs:Bool->List Wr}{un tk:List Int}(X':X5 w CH CT CR CS H' a.z a.zt a.sa q.p q.n m rs un tk) (kp:Kp xs H H') (h:∀ c∈xs,zA a.z a.zt a.sa c):Yn w CY CH CT CR CS H' a q { S with m:=m,rs:=rs,un:=un,tk:=tk }:=by
 have ht:=Y.tups kp λc hc=>.inr (.inl (h c hc))
 obtain⟨dx,hx⟩:=Y.ob;obtain⟨ts,h1,h2⟩:=Y.hp;have ls:∀ c o,a.lists c->H c=f' o->H' c=f' o:=λc o hc e=>kp c o (λmm=>Y.d1 c hc (h c mm)) e
 exact⟨⟨dx,kp _ _ (λmm=>Y.d3 (h _ mm)) hx⟩,X',ls _ _ (.inl rfl) Y.sl,ls _ _ (.inr (.inl rfl)) Y.qu,⟨ts,ls _ _ (.inr (.inr rfl)) h1,DVs.fl ht Y.fl h2⟩,Y.fl,Y.d1,Y.d2,Y.d3⟩
def Yn.lst_tups (Y:Yn w CY CH CT CR CS H a q S) {c:K'}(hc:a.lists c) (o:HO):∀ b vs,H b=f' (.tup vs)->upd H c o b=f' (.tup vs):=λb vs e=>by
 obtain⟨ys,e'⟩:=Y.list hc;rw[ae (λy=>by rw[y,e']at e;cases e)];exact e
def Yn.lst_own (Y:Yn w CY CH CT CR CS H a q S) {c:K'}(hc:a.lists c) (o:HO):∀ b u,zA a.z a.zt a.sa b->H b=f' u->upd H c o b=f' u:=λb u hb e=>by
 rw[ae (λy=>Y.d1 c hc (by rw[<-y];exact hb))];exact e
def Yn.lst_y (Y:Yn w CY CH CT CR CS H a q S) {c:K'}(hc:a.lists c) (o:HO):∃ dx,upd H c o a.y=f' (.ins CY dx (yF a q)):=by
 obtain⟨dx,hx⟩:=Y.ob;obtain⟨ys,e'⟩:=Y.list hc;exact⟨dx,by rw[ae (λy=>by rw[y,e']at hx;cases hx)];exact hx⟩
def Yn.setSl (Y:Yn w CY CH CT CR CS H a q S) (b:Bool) (x:Bd) {ys:List V}(h:ys=[.str (setR S.bd b x D').key,.str (setR S.bd b x G').key]):Yn w CY CH CT CR CS (upd H a.sl (.lst ys)) a q { S with bd:=setR S.bd b x }:=by
 have hc:a.lists a.sl:=.inl rfl;obtain⟨ts,h1,h2⟩:=Y.hp;have ht:=Y.lst_tups hc (.lst ys);exact⟨Y.lst_y hc _,Y.x.keep (Y.lst_own hc _) ht,by rw[a8,h],by rw[ae (Pg Y.d2.1)];exact Y.qu,⟨ts,by rw[ae (Pg Y.d2.2.1)];exact h1,DVs.fl ht Y.fl h2⟩,Y.fl,Y.d1,Y.d2,Y.d3⟩
def Yn.setQu (Y:Yn w CY CH CT CR CS H a q S) (b x:Bool) {ys:List V}(h:ys=[.bl (setR S.qt b x D'),.bl (setR S.qt b x G')]):Yn w CY CH CT CR CS (upd H a.qu (.lst ys)) a q { S with qt:=setR S.qt b x }:=by
 have hc:a.lists a.qu:=.inr (.inl rfl);obtain⟨ts,h1,h2⟩:=Y.hp;have ht:=Y.lst_tups hc (.lst ys);exact⟨Y.lst_y hc _,Y.x.keep (Y.lst_own hc _) ht,by rw[ae Y.d2.1];exact Y.sl,by rw[a8,h],⟨ts,by rw[ae (Pg Y.d2.2.2)];exact h1,DVs.fl ht Y.fl h2⟩,Y.fl,Y.d1,Y.d2,Y.d3⟩
def Yn.setHp (Y:Yn w CY CH CT CR CS H a q S) {x:Ni}{v:V}{ts:List V}(hts:H a.hp=f' (.lst ts)) (hv:DV H x v) (hx:flD x=G'):Yn w CY CH CT CR CS (upd H a.hp (.lst (ts++[v]))) a q { S with hs:=S.hs++[x] }:=by
 have hc:a.lists a.hp:=.inr (.inr rfl);obtain⟨ts',h1,h2⟩:=Y.hp;rw[hts]at h1;cases h1;have ht:=Y.lst_tups hc (.lst (ts++[v]));have hf:∀ d∈S.hs++[x],flD d=G':=λd hd=>by
  rcases Oc.mp hd with h|h
  . exact Y.fl d h
  . rw[Nd.mp h];exact hx
 exact⟨Y.lst_y hc _,Y.x.keep (Y.lst_own hc _) ht,by rw[ae Y.d2.2.1];exact Y.sl,by rw[ae Y.d2.2.2];exact Y.qu,⟨_,a8,DVs.fl ht hf (DVs.snoc h2 hv)⟩,hf,Y.d1,Y.d2,Y.d3⟩
end
inductive Dd where
|ask (wt:Int)|collect|take|answer (nm wt:Int)|bell (b:Bool)|lie (b:Bool)|look (b:Bool)|drain (b:Bool)
def Dd.vs:Dd->List V
|.ask wt=>[.str "ask",.int wt]
|.collect=>[.str "collect"]
|.take=>[.str "take"]
|.answer nm wt=>[.str "answer",.int nm,.int wt]
|.bell b=>[.str "bell",.int (sdI b)]
|.lie b=>[.str "lie",.int (sdI b)]
|.look b=>[.str "look",.int (sdI b)]
|.drain b=>[.str "drain",.int (sdI b)]
def Dd.Ok:Dd->Prop
|.ask wt=>-1000000000 <= wt/\wt <= 1000000000
|.answer _ wt=>-1000000000 <= wt/\wt <= 1000000000
|_=>True
inductive Rf where
|deed|full|name|task
def Dd.chk (q:YP) (S:YS):Dd->Option Rf
|.drain b=>if S.rs b=[] then f' .deed else Nf
|.look b=>if S.bd b=.lies then Nf else f' .deed
|.bell b=>if S.bd b=.up then Nf else f' .deed
|.lie b=>if S.bd b=.up then Nf else f' .deed
|.collect=>if S.bd D'=.up then Nf else f' .deed
|.take=>if S.bd G'=.up then Nf else f' .deed
|.ask _=>if S.bd D'=.up then (if bj q.p S.m (S.rs D') .asked .taken=q.p.s then f' .full else match cO q.n S.un with|none=>f' .name|some _=>Nf) else f' .deed
|.answer nm _=>if S.bd G'=.up then (if S.tk.contains nm=D' then f' .task else if bj q.p S.m (S.rs G') .answered .handed=q.p.s then f' .full else Nf) else f' .deed
section
variable {K:Nh}
def LF:kitOne K (.type "int") (.type "int")=f' G':=by rfl
def IS:kitOne K (.type "int") (.type "bool")=f' D':=by rfl
def Fl:kitOne K (.type "str") (.type "str")=f' G':=by rfl
end
def gS (x:Int) (k:Str):Bool:=if k="worth" then decide (-1000000000 <= x) && decide (x <= 1000000000) else if k="side" then decide (x=0) || decide (x=1) else G'
def Dd.word:Dd->Str
|.ask _=>"ask"
|.collect=>"collect"
|.take=>"take"
|.answer _ _=>"answer"
|.bell _=>"bell"
|.lie _=>"lie"
|.look _=>"look"
|.drain _=>"drain"
def Dd.args:Dd->List Int
|.ask wt=>[wt]
|.collect=>[]
|.take=>[]
|.answer nm wt=>[nm,wt]
|.bell b=>[sdI b]
|.lie b=>[sdI b]
|.look b=>[sdI b]
|.drain b=>[sdI b]
def Dd.ks:Dd->List Str
|.ask _=>["worth"]
|.collect=>[]
|.take=>[]
|.answer _ _=>["name","worth"]
|_=>["side"]
def Dd.side:Dd->Bool
|.ask _=>D'
|.collect=>D'
|.take=>G'
|.answer _ _=>G'
|.bell b=>b
|.lie b=>b
|.look b=>b
|.drain b=>b
def Dd.vs_eq (x:Dd):x.vs=.str x.word :: x.args.map V.int:=by cases x<;>rfl
def Dd.len (x:Dd):x.args.length=x.ks.length/\x.args.length <= 2:=by cases x<;>exact⟨rfl,by simp[Dd.args]⟩
def pc (b:Bool):gS (sdI b) "side"=G':=by cases b<;>decide +kernel
def Dd.part {x:Dd}(h:x.Ok):∀ (i:Nat) (y:Int) (k:Str),x.args[i]?=f' y->x.ks[i]?=f' k->gS y k=G':=by
 intro i y k hy hk;have wk:∀ {wt:Int},(-1000000000 <= wt/\wt <= 1000000000)->gS wt "worth"=G':=λ{wt} h=>by
  unfold gS;rw[Vc rfl,Vf h.1,Vf h.2];rfl
 have nmk:∀ {nm:Int},gS nm "name"=G':=λ{nm}=>by
  unfold gS;rw[Vd (by decide +kernel),Vd (by decide +kernel)]
 cases x with
|ask wt =>
  match i,hy,hk with
 |0,hy,hk=>cases hy;cases hk;exact wk h
 |_+1,hy,_=>cases hy
|collect=>cases hy
|take=>cases hy
|answer nm wt =>
  match i,hy,hk with
 |0,hy,hk=>cases hy;cases hk;exact nmk
 |1,hy,hk=>cases hy;cases hk;exact wk h
 |_+2,hy,_=>cases hy
|bell b =>
  match i,hy,hk with
 |0,hy,hk=>cases hy;cases hk;exact pc b
 |_+1,hy,_=>cases hy
|lie b =>
  match i,hy,hk with
 |0,hy,hk=>cases hy;cases hk;exact pc b
 |_+1,hy,_=>cases hy
|look b =>
  match i,hy,hk with
 |0,hy,hk=>cases hy;cases hk;exact pc b
 |_+1,hy,_=>cases hy
|drain b =>
  match i,hy,hk with
 |0,hy,hk=>cases hy;cases hk;exact pc b
 |_+1,hy,_=>cases hy
def iE (xs:List V) (k:Nat):lx xs (f' (k:Int)) Nf=xs.drop k:=by
 unfold lx;rw[HT.sIx_nat,show HT.sIx xs.length xs.length Nf=xs.length from rfl];by_cases h:k <= xs.length
 . rw[min_eq_left h,O3 (by rw[length_drop];exact Nm _)]
 . rw[Nat.min_eq_right (by omega),drop_of_length_le (Nm _),drop_of_length_le (by omega),take_nil]
end L2
namespace L2
def Dd.grp (x:Dd):((x.word="ask"\/x.word="collect")/\x.side=D')\/((x.word="take"\/x.word="answer")/\x.side=G')\/((x.word="bell"\/x.word="lie"\/x.word="look"\/x.word="drain")/\x.args=[sdI x.side]):=by
 cases x
 . exact .inl ⟨.inl rfl,rfl⟩
 . exact .inl ⟨.inr rfl,rfl⟩
 . exact .inr (.inl ⟨.inl rfl,rfl⟩)
 . exact .inr (.inl ⟨.inr rfl,rfl⟩)
 . exact .inr (.inr ⟨.inl rfl,rfl⟩)
 . exact .inr (.inr ⟨.inr (.inl rfl),rfl⟩)
 . exact .inr (.inr ⟨.inr (.inr (.inl rfl)),rfl⟩)
 . exact .inr (.inr ⟨.inr (.inr (.inr rfl)),rfl⟩)
end L2
namespace L2
open PySem
def Dd.need:Dd->Bd
|.look _=>.lies
|_=>.up
def Dd.chk_bed {q:YP}{S:YS}{x:Dd}(hd:∀ b,x≠.drain b) (h:S.bd x.side≠x.need):x.chk q S=f' .deed:=by
 cases x
 . exact Vd h
 . exact Vd h
 . exact Vd h
 . exact Vd h
 . exact Vd h
 . exact Vd h
 . exact Vd h
 . exact absurd rfl (hd _)
def Dd.word_drain (x:Dd):x.word="drain" ↔ ∃ b,x=.drain b:=by
 constructor
 . intro h;cases x with
  |drain b=>exact⟨b,rfl⟩
  |ask wt=>exact absurd (show ("ask":Str)="drain" from h) (by decide +kernel)
  |collect=>exact absurd (show ("collect":Str)="drain" from h) (by decide +kernel)
  |take=>exact absurd (show ("take":Str)="drain" from h) (by decide +kernel)
  |answer nm wt=>exact absurd (show ("answer":Str)="drain" from h) (by decide +kernel)
  |bell b=>exact absurd (show ("bell":Str)="drain" from h) (by decide +kernel)
  |lie b=>exact absurd (show ("lie":Str)="drain" from h) (by decide +kernel)
  |look b=>exact absurd (show ("look":Str)="drain" from h) (by decide +kernel)
 . rintro⟨b,rfl⟩;rfl
def Dd.word_look (x:Dd):(x.word="look"/\x.need=.lies/\∃ b,x=.look b)\/(x.word≠"look"/\x.need=.up):=by
 cases x with
|look b=>exact .inl ⟨rfl,rfl,b,rfl⟩
|ask wt=>exact .inr ⟨show ¬ ("ask":Str)="look" by decide +kernel,rfl⟩
|collect=>exact .inr ⟨show ¬ ("collect":Str)="look" by decide +kernel,rfl⟩
|take=>exact .inr ⟨show ¬ ("take":Str)="look" by decide +kernel,rfl⟩
|answer nm wt=>exact .inr ⟨show ¬ ("answer":Str)="look" by decide +kernel,rfl⟩
|bell b=>exact .inr ⟨show ¬ ("bell":Str)="look" by decide +kernel,rfl⟩
|lie b=>exact .inr ⟨show ¬ ("lie":Str)="look" by decide +kernel,rfl⟩
|drain b=>exact .inr ⟨show ¬ ("drain":Str)="look" by decide +kernel,rfl⟩
def Dd.word_aa (x:Dd):(∃ wt,x=.ask wt)\/(∃ nm wt,x=.answer nm wt)\/(x.word≠"ask"/\x.word≠"answer"/\∀ (q:YP) (S:YS),(∀ b,x≠.drain b)->S.bd x.side=x.need->x.chk q S=Nf):=by
 cases x with
|ask wt=>exact .inl ⟨_,rfl⟩
|answer nm wt=>exact .inr (.inl ⟨_,_,rfl⟩)
|collect=>exact .inr (.inr ⟨show ¬ ("collect":Str)="ask" by decide +kernel,show ¬ ("collect":Str)="answer" by decide +kernel,λq S _ h=>Vc h⟩)
|take=>exact .inr (.inr ⟨show ¬ ("take":Str)="ask" by decide +kernel,show ¬ ("take":Str)="answer" by decide +kernel,λq S _ h=>Vc h⟩)
|bell b=>exact .inr (.inr ⟨show ¬ ("bell":Str)="ask" by decide +kernel,show ¬ ("bell":Str)="answer" by decide +kernel,λq S _ h=>Vc h⟩)
|lie b=>exact .inr (.inr ⟨show ¬ ("lie":Str)="ask" by decide +kernel,show ¬ ("lie":Str)="answer" by decide +kernel,λq S _ h=>Vc h⟩)
|look b=>exact .inr (.inr ⟨show ¬ ("look":Str)="ask" by decide +kernel,show ¬ ("look":Str)="answer" by decide +kernel,λq S _ h=>Vc h⟩)
|drain b=>exact .inr (.inr ⟨show ¬ ("drain":Str)="ask" by decide +kernel,show ¬ ("drain":Str)="answer" by decide +kernel,λq S h _=>absurd rfl (h b)⟩)
def Ie {a b:Bd}(h:a≠b):V.str a.key≠V.str b.key:=λy=>h (KH (by injection y))
end L2
namespace L2
open PySem PySem.Spec PyProof.Rows
instance (a b:Str):Decidable (ltS a b):=inferInstanceAs (Decidable (a.cps.toList < b.cps.toList))
def lj:Bool->Cn
|false=>.hs
|true=>.ts
def Mem.putAllY (m:Mem) (row:List Wr):Mem:=row.foldl Mem.put m
def YS.fence (S:YS) (b:Bool):YS:={ S with m:=S.m.putAllY (S.rs b),rs:=setR S.rs b [] }
def YS.wr (S:YS) (b:Bool) (x:Wr):YS:={ S with rs:=setR S.rs b (S.rs b++[x]) }
def sO (wd:Str) (x y:Ni):Ni:=.tuple [.str wd,x,y]
def swT (q:YP) (S:YS):Bool->Bool
|false=>decide (bj q.p S.m (S.rs D') .answered .handed≠0)
|true=>decide (bj q.p S.m (S.rs G') .asked .taken≠0)
def Dd.run (q:YP) (S:YS):Dd->Ni × YS
|.ask wt=>match cO q.n S.un with
 |some nm=>(.int nm,{ S with rs:=setR S.rs D' (S.rs D'++Bc q.p S.m (S.rs D') D' .asked nm wt),un:=S.un++[nm],qt:=setR S.qt D' D',hs:=S.hs++[sO "asked" (.int nm) (.int wt)] })
 |none=>(.none,S)
|.collect=>if bj q.p S.m (S.rs D') .answered .handed=0 then (.none,S) else match rdP S.m (S.rs D') G' (rdC S.m (S.rs D') .handed % q.p.s) with
 |some nw=>(.tuple [.int nw.1,.int nw.2],{ S with rs:=setR S.rs D' (S.rs D'++[lG q.p S.m (S.rs D') .handed]),un:=S.un.filter (λk=>decide (k≠nw.1)),hs:=S.hs++[sO "handed" (.int nw.1) (.int nw.2)] })
 |none=>(.tuple [.none,.none],{ S with rs:=setR S.rs D' (S.rs D'++[lG q.p S.m (S.rs D') .handed]),hs:=S.hs++[sO "handed" .none .none] })
|.take=>if bj q.p S.m (S.rs G') .asked .taken=0 then (.none,S) else match rdP S.m (S.rs G') D' (rdC S.m (S.rs G') .taken % q.p.s) with
 |some nw=>(.tuple [.int nw.1,.int nw.2],{ S with rs:=setR S.rs G' (S.rs G'++[lG q.p S.m (S.rs G') .taken]),tk:=vQ S.tk nw.1,hs:=S.hs++[sO "taken" (.int nw.1) (.int nw.2)] })
 |none=>(.tuple [.none,.none],{ S with rs:=setR S.rs G' (S.rs G'++[lG q.p S.m (S.rs G') .taken]),hs:=S.hs++[sO "taken" .none .none] })
|.answer nm wt=>(.none,{ S with rs:=setR S.rs G' (S.rs G'++Bc q.p S.m (S.rs G') G' .answered nm wt),tk:=S.tk.filter (λk=>decide (k≠nm)),qt:=setR S.qt G' D',hs:=S.hs++[sO "answered" (.int nm) (.int wt)] })
|.bell b =>
  let S1:=if q.fb then S.fence b else S
  let S2:={ S1 with qt:=setR S1.qt b G' }
  if rdC S2.m (S2.rs b) (lj (!b))≠1 then (.bool D',S2) else if S2.bd (!b)=.asleep then (.bool G',({ S2 with bd:=setR S2.bd (!b) .up }:YS).wr (!b) (.c (lj (!b)) 0)) else (.bool G',S2)
|.lie b =>
  let S1:=S.wr b (.c (lj b) 1);let S2:=if q.fl then S1.fence b else S1
  (.none,{ S2 with bd:=setR S2.bd b .lies })
|.look b=>if q.fk=G'/\swT q S b=G' then (.bool G',{ (S.wr b (.c (lj b) 0)) with bd:=setR S.bd b .up }) else (.bool D',{ S with bd:=setR S.bd b .asleep })
|.drain b=>match S.rs b with
 |x :: ck=>(.none,{ S with m:=S.m.put x,rs:=setR S.rs b ck })
 |[]=>(.none,S)
structure YI (q:YP) (S:YS) (L:Nat):Prop where
 und:Nms q.n S.un
 tkd:Nms 9 S.tk
 len:∀ b,(S.rs b).length <= L
 hl:S.hs.length <= L
theorem YI.zero (q:YP):YI q YS.zero 0:=⟨Nms.nil _,Nms.nil _,λ_=>Nm _,Nm _⟩
def YI.mono {q:YP}{S:YS}{L L':Nat}(h:YI q S L) (hl:L <= L'):YI q S L':=⟨h.und,h.tkd,λb=>NS (h.len b) hl,NS h.hl hl⟩
def Rf.key:Rf->Str
|.deed=>"deed"
|.full=>"full"
|.name=>"name"
|.task=>"task"
def Rf.key_ne (r:Rf):r.key≠"none":=by cases r<;>decide +kernel
def Dd.out (q:YP) (S:YS) (x:Dd):Str × Ni × YS:=match x.chk q S with
|none=>("none",(x.run q S).1,(x.run q S).2)
|some r=>(r.key,.none,S)
def Dd.out_none {q:YP}{S:YS}{x:Dd}(h:x.chk q S=Nf):x.out q S=(("none":Str),(x.run q S).1,(x.run q S).2):=by unfold Dd.out;rw[h]
def Dd.out_some {q:YP}{S:YS}{x:Dd}{r:Rf}(h:x.chk q S=f' r):x.out q S=(r.key,.none,S):=by unfold Dd.out;rw[h]
def Fch (d:Ni):Prop:=d=.none\/d=.tuple [.none,.none]\/∃ a b:Int,d=.tuple [.int a,.int b]
def DI (q:YP) (S:YS):Fch (Dd.take.run q S).1:=by
 unfold Dd.run;by_cases h:bj q.p S.m (S.rs G') .asked .taken=0
 . rw[Vc h];exact .inl rfl
 . rw[Vd h];cases rdP S.m (S.rs G') D' (rdC S.m (S.rs G') .taken % q.p.s) with
  |none=>exact .inr (.inl rfl)
  |some nw=>exact .inr (.inr ⟨_,_,rfl⟩)
def xH (q:YP) (S:YS):Fch (Dd.collect.run q S).1:=by
 unfold Dd.run;by_cases h:bj q.p S.m (S.rs D') .answered .handed=0
 . rw[Vc h];exact .inl rfl
 . rw[Vd h];cases rdP S.m (S.rs D') G' (rdC S.m (S.rs D') .handed % q.p.s) with
  |none=>exact .inr (.inl rfl)
  |some nw=>exact .inr (.inr ⟨_,_,rfl⟩)
def Dd.aft (ts:List Int) (x:Dd) (key:Str) (d:Ni):List Int:=if key="none" then (match x,d with
|.take,.tuple [.int a,.int _]=>vQ ts a
|.answer nm _,_=>ts.erase nm
|_,_=>ts) else ts
def LS:Ni->Ni
|.tuple (a :: _)=>a
|d=>d
def LQ:Ni->Ni
|.tuple (_ :: b :: _)=>b
|d=>d
def Dd.hap (x:Dd) (key:Str) (d:Ni):List Ni:=if key="none" then (match x with
|.ask wt=>[sO "asked" d (.int wt)]
|.answer nm wt=>[sO "answered" (.int nm) (.int wt)]
|.take=>(match d with|.none=>[]|_=>[sO "taken" (LS d) (LQ d)])
|.collect=>(match d with|.none=>[]|_=>[sO "handed" (LS d) (LQ d)])
|_=>[]) else []
def Jx {q:YP}{S:YS}(x:Dd):(x.out q S).2.2.hs=S.hs++x.hap (x.out q S).1 (x.out q S).2.1:=by
 cases hc:x.chk q S with
|some r =>
  rw[Dd.out_some hc];show S.hs=S.hs++(if r.key="none" then _ else []);rw[Vd r.key_ne,O5]
|none =>
  rw[Dd.out_none hc];show (x.run q S).2.hs=S.hs++(if ("none":Str)="none" then _ else []);rw[Vc rfl];cases x with
 |ask wt =>
   show (match cO q.n S.un with|some nm=>_|none=>_:Ni × YS).2.hs=S.hs++[sO "asked" (match cO q.n S.un with|some nm=>_|none=>_:Ni × YS).1 (.int wt)];cases hl:cO q.n S.un with
  |some nm=>rfl
  |none =>
    have h':(if S.bd D'=.up then (if bj q.p S.m (S.rs D') .asked .taken=q.p.s then f' Rf.full else match cO q.n S.un with|none=>f' Rf.name|some _=>Nf) else f' Rf.deed)=Nf:=hc;rw[hl]at h';split at h'
    . split at h'<;>cases h'
    . cases h'
 |answer nm wt=>rfl
 |take =>
   unfold Dd.run;by_cases h:bj q.p S.m (S.rs G') .asked .taken=0
   . rw[Vc h];exact(O5 _).symm
   . rw[Vd h];cases rdP S.m (S.rs G') D' (rdC S.m (S.rs G') .taken % q.p.s) with
    |none=>rfl
    |some nw=>rfl
 |collect =>
   unfold Dd.run;by_cases h:bj q.p S.m (S.rs D') .answered .handed=0
   . rw[Vc h];exact(O5 _).symm
   . rw[Vd h];cases rdP S.m (S.rs D') G' (rdC S.m (S.rs D') .handed % q.p.s) with
    |none=>rfl
    |some nw=>rfl
 |bell b =>
   have f1:(if q.fb then S.fence b else S).hs=S.hs:=by cases q.fb<;>rfl
   have aux:∀ S2:YS,(if rdC S2.m (S2.rs b) (lj (!b))≠1 then (Ni.bool D',S2) else if S2.bd (!b)=.asleep then (.bool G',({ S2 with bd:=setR S2.bd (!b) .up }:YS).wr (!b) (.c (lj (!b)) 0)) else (.bool G',S2)).2.hs=S2.hs:=λS2=>by
    split
    . rfl
    . split<;>rfl
   show _=S.hs++[];rw[O5];exact(aux { (if q.fb then S.fence b else S) with qt:=setR (if q.fb then S.fence b else S).qt b G' }).trans f1
 |lie b =>
   have f1:(if q.fl then (S.wr b (.c (lj b) 1)).fence b else S.wr b (.c (lj b) 1)).hs=S.hs:=by cases q.fl<;>rfl
   show _=S.hs++[];rw[O5];exact f1
 |look b =>
   show (if _ then _ else _:Ni × YS).2.hs=S.hs++[];rw[O5];split<;>rfl
 |drain b =>
   show (match S.rs b with|x :: ck=>_|[]=>_:Ni × YS).2.hs=S.hs++[];rw[O5];cases S.rs b<;>rfl
def wU {own:K'->Prop}{H H':Hp}(ko:KO own H H') (h:∀ c,own c->∀ vs,H c≠f' (.tup vs)):∀ b vs,H b=f' (.tup vs)->H' b=f' (.tup vs):=λb vs e=>ko b _ (λz=>h b z vs e) e
section
variable {w:Nt}{CY CH CT CR CS:K'}{H H':Hp}{a:YA}{q:YP}{S:YS}
def Yn.noT (Y:Yn w CY CH CT CR CS H a q S):∀ c,a.own c->∀ vs,H c≠f' (.tup vs):=λc hc vs e=>by
 obtain⟨o,e',n⟩:=Y.there hc;rw[e']at e;exact n vs (NH e)
def Yn.ko (Y:Yn w CY CH CT CR CS H a q S) {own:K'->Prop}(ko:KO own H H') (hd:∀ c,own c->¬ a.own c) (hn:∀ c,own c->∀ vs,H c≠f' (.tup vs)):Yn w CY CH CT CR CS H' a q S :=
 Y.keep (λc o hc e=>ko c o (λz=>hd c z hc) e) (wU ko hn)
def Yn.fresh (Y:Yn w CY CH CT CR CS H a q S) {c:K'}(h:H c=Nf):¬ a.own c:=λhc=>by
 obtain⟨o,e,_⟩:=Y.there hc;rw[e]at h;cases h
end
def GM {d:Ni}(h:wM d):Ny d d=G':=PySem.SeqAt.eqv_refl d h.1
def FnOk.or {P:ND}{w:Nt}{K:Nh}{mg:Str->Option Na}{base:NI}{CX:CXT}{k:Nat}{f:K'}{fd:Np}{ps:List Str}{sp1 sp2:Sp}(F1:FnOk P w K mg base CX k f fd ps sp1) (F2:FnOk P w K mg base CX k f fd ps sp2):FnOk P w K mg base CX k f fd ps (λvs H Q E=>sp1 vs H Q E\/sp2 vs H Q E) :=
 ⟨λvs H Q E h=>h.elim (F1.len vs H Q E) (F2.len vs H Q E),λA outer s H args us vs Q E hr he hb hv hs=>hs.elim (F1.run A outer s H args us vs Q E hr he hb hv) (F2.run A outer s H args us vs Q E hr he hb hv)⟩
def inC (N:Int) (k:Cn) (i:Int):Prop:=k=.hs\/k=.ts\/(0 <= i/\i < N)
def Wr.In (N:Int):Wr->Prop
|.c k i=>inC N k i
|.p _ _ _ _=>True
section
variable {N:Int}{m:Mem}{rs:Bool->List Wr}{b:Bool}{x:Wr}{ck:List Wr}
end
def lkA:Bool->Cn
|false=>.answered
|true=>.asked
def lkB:Bool->Cn
|false=>.handed
|true=>.taken
section
variable {rs:Bool->List Wr}{b:Bool}
end
structure Ord where
 lt:Nat->Nat->Bool
 n:Nat
 tr:∀ a b c,lt a b=G'->lt b c=G'->lt a c=G'
 tot:∀ a b,a < n->b < n->a≠b->lt a b=D'->lt b a=G'
section
variable {O:Ord}
end
section
variable {prog:ND}{w:Nt}{A:NN}{E:Na->Ng->Prop}{s:Ng}
end
section
variable {X:Cx}
end
section
variable {K:Nh}
end
section
variable {s R:Int}{n:Nat}{S:YS}{A B:List (Int × Int)}{T Hd:Nat}
end
abbrev Ev:=Cn × Int × Int
def th (k:Cn) (es:List Ev):List (Int × Int):=(es.filter λe=>decide (e.1=k)).map (·.2)
section
variable {s R:Int}{n:Nat}{S:YS}{es:List Ev}
end
section
variable {s R:Int}{n:Nat}{S:YS}{es:List Ev}
end
inductive Wd where
|asked|taken|answered|handed
instance:DecidableEq Wd:=λa b=>by
 cases a<;>cases b<;>first|exact isTrue rfl|exact isFalse (λh=>by cases h)
def Wd.key:Wd->Str
|.asked=>"asked"
|.taken=>"taken"
|.answered=>"answered"
|.handed=>"handed"
structure Hap where
 w:Wd
 n:Int
 o:Int
def thH (w:Wd) (hs:List Hap):List (Int × Int):=(hs.filter λh=>decide (h.w=w)).map λh=>(h.n,h.o)
def uG (w:Wd) (hs:List Hap) (h:Hap):thH w (hs++[h])=if h.w=w then thH w hs++[(h.n,h.o)] else thH w hs:=by
 unfold thH;rw[filter_append,OS];by_cases e:h.w=w
 . rw[Vc e,Pt,Vc (Vf e)];rfl
 . rw[Vd e,Pt,Vd (by rw[decide_eq_false e];decide)];simp
def cnt (w:Wd) (x:Int) (hs:List Hap):Nat:=((thH w hs).filter λp=>decide (p.1=x)).length
def Eb (w:Wd) (x:Int) (hs:List Hap) (h:Hap):cnt w x (hs++[h])=cnt w x hs+if h.w=w/\h.n=x then 1 else 0:=by
 unfold cnt;rw[uG];by_cases e:h.w=w
 . rw[Vc e,filter_append,Nj];by_cases q:h.n=x
   . rw[Vc ⟨e,q⟩,Pt,Vc (Vf q)];rfl
   . rw[Vd (λz=>q z.2),Pt,Vd (by rw[decide_eq_false q];decide)];rfl
 . rw[Vd e,Vd (λz=>e z.1)];rfl
def cX {w' w:Wd}{hs:List Hap}{n o:Int}:thH w (hs++[⟨w',n,o⟩])=if w'=w then thH w hs++[(n,o)] else thH w hs:=uG w hs _
def JM {w' w:Wd}{hs:List Hap}{n o x:Int}:cnt w x (hs++[⟨w',n,o⟩])=cnt w x hs+if w'=w/\n=x then 1 else 0:=Eb w x hs _
def jQ {w' w:Wd}{hs:List Hap}{n o x:Int}(h:w'≠w):cnt w x (hs++[⟨w',n,o⟩])=cnt w x hs:=by rw[JM,Vd λz=>h z.1];rfl
def uO {w:Wd}{hs:List Hap}{n o x:Int}:cnt w x (hs++[⟨w,n,o⟩])=cnt w x hs+if n=x then 1 else 0:=by rw[JM];simp
def xa (ah:List Hap) (h:Hap):Bool:=match h.w with
|.asked=>decide (cnt .asked h.n ah=cnt .handed h.n ah)
|.answered=>decide (cnt .answered h.n ah < cnt .taken h.n ah)
|.taken=>decide (((thH .asked ah).drop (thH .taken ah).length).take 1=[(h.n,h.o)])
|.handed=>decide (((thH .answered ah).drop (thH .handed ah).length).take 1=[(h.n,h.o)])
structure JI (ah:List Hap) (un uh:List (Int × Int)) (go do':List Int):Prop where
 eu:un=(thH .asked ah).drop (thH .taken ah).length
 eh:uh=(thH .answered ah).drop (thH .handed ah).length
 lt:(thH .taken ah).length <= (thH .asked ah).length
 lh:(thH .handed ah).length <= (thH .answered ah).length
 pm:go.Perm (un.map (·.1)++(do'++uh.map (·.1)))
 nd:go.Nodup
 ca:∀ x,cnt .asked x ah=cnt .handed x ah+if x∈go then 1 else 0
 ct:∀ x,cnt .taken x ah=cnt .answered x ah+if x∈do' then 1 else 0
def JI.zero:JI [] [] [] [] []:=⟨rfl,rfl,Nm _,Nm _,PU.refl _,nodup_nil,λ_=>rfl,λ_=>rfl⟩
def GS (un uh:List (Int × Int)) (go do':List Int) (h:Hap):Bool:=match h.w with
|.asked=>!go.contains h.n
|.answered=>do'.contains h.n
|.taken=>decide (un.take 1=[(h.n,h.o)])
|.handed=>decide (uh.take 1=[(h.n,h.o)])
section
variable {ah:List Hap}{un uh:List (Int × Int)}{go do':List Int}
def JI.fits (J:JI ah un uh go do') (h:Hap):GS un uh go do' h=xa ah h:=by
 unfold GS xa;cases h.w with
|asked =>
  show (!go.contains h.n)=decide _;rw[OO,J.ca h.n];by_cases e:h.n∈go<;>simp[e]
|taken=>show decide _=decide _;rw[J.eu]
|answered =>
  show do'.contains h.n=decide _;rw[OO,J.ct h.n];by_cases e:h.n∈do'<;>simp[e]
|handed=>show decide _=decide _;rw[J.eh]
def FD {α:Type}{xs:List α}{x:α}(h:xs.take 1=[x]):xs=x :: xs.drop 1:=by
 cases xs with
|nil=>cases h
|cons y ys=>have:[y]=[x]:=h;cases this;rfl
theorem JI.asked (J:JI ah un uh go do') {n o:Int}(h:n ∉ go):JI (ah++[⟨.asked,n,o⟩]) (un++[(n,o)]) uh (go++[n]) do':=by
 refine⟨?_,?_,?_,?_,?_,?_,λx=>?_,λx=>?_⟩
 . rw[cX,cX,Vc rfl,Vd (by decide),List.drop_append_of_le_length J.lt,<-J.eu]
 . rw[cX,cX,Vd (by decide),Vd (by decide)];exact J.eh
 . rw[cX,cX,Vc rfl,Vd (by decide),Nj];have:=J.lt;omega
 . rw[cX,cX,Vd (by decide),Vd (by decide)];exact J.lh
 . refine(PY [n] J.pm).trans ?_;rw[OS,N4 (un.map (·.1)),N4 (un.map (·.1))];exact PN _ List.perm_append_comm
 . exact O7.mpr ⟨J.nd,by simp,λa ha b hb e=>h (by rw[Nd.mp hb]at e;exact e ▸ ha)⟩
 . rw[uO,jQ (by decide),J.ca x];by_cases e:n=x
   . subst e;simp[h]
   . have e':¬ x=n:=λz=>e z.symm
     simp[e,e']
 . rw[jQ (by decide),jQ (by decide),J.ct x]
theorem JI.taken (J:JI ah un uh go do') {n o:Int}(h:un.take 1=[(n,o)]):JI (ah++[⟨.taken,n,o⟩]) (un.drop 1) uh go (do'++[n])/\n ∉ do':=by
 have e1:=FD h;have pm:=J.pm;rw[e1,Oy,List.cons_append]at pm;have hn:n ∉ do':=λy=>(Pc.mp (pm.nodup_iff.mp J.nd)).1 (Oc.mpr (.inr (Oc.mpr (.inl y))))
 have lt:(thH .taken ah).length < (thH .asked ah).length:=by
  have:=congrArg O8 (J.eu.symm.trans e1);rw[length_drop,NM]at this;omega
 refine⟨⟨?_,?_,?_,?_,?_,J.nd,λx=>?_,λx=>?_⟩,hn⟩
 . rw[cX,cX,Vc rfl,Vd (by decide),Nj,J.eu,List.drop_drop];rfl
 . rw[cX,cX,Vd (by decide),Vd (by decide)];exact J.eh
 . rw[cX,cX,Vc rfl,Vd (by decide),Nj];exact lt
 . rw[cX,cX,Vd (by decide),Vd (by decide)];exact J.lh
 . refine pm.trans ?_;rw[N4 do'];show (n :: (List.map (·.1) (un.drop 1)++(do'++uh.map (·.1)))).Perm _;refine PU.trans ?_ (PN _ (List.perm_append_comm_assoc do' [n] _).symm);exact(List.perm_middle (a:=n)).symm
 . rw[jQ (by decide),jQ (by decide),J.ca x]
 . rw[uO,jQ (by decide),J.ct x];by_cases e:n=x
   . subst e;simp[hn]
   . have e':¬ x=n:=λz=>e z.symm
     simp[e,e']
theorem JI.answered (J:JI ah un uh go do') {n o:Int}(h:n∈do'):JI (ah++[⟨.answered,n,o⟩]) un (uh++[(n,o)]) go (do'.erase n):=by
 have ndo:do'.Nodup:=(O7.mp (O7.mp (J.pm.nodup_iff.mp J.nd)).2.1).1;refine⟨?_,?_,?_,?_,?_,J.nd,λx=>?_,λx=>?_⟩
 . rw[cX,cX,Vd (by decide),Vd (by decide)];exact J.eu
 . rw[cX,cX,Vc rfl,Vd (by decide),List.drop_append_of_le_length J.lh,<-J.eh]
 . rw[cX,cX,Vd (by decide),Vd (by decide)];exact J.lt
 . rw[cX,cX,Vc rfl,Vd (by decide),Nj];have:=J.lh;omega
 . refine J.pm.trans (PN _ ?_);rw[OS];refine(PY _ (List.perm_cons_erase h)).trans ?_;rw[List.cons_append,<-N4];exact(List.perm_append_singleton n _).symm
 . rw[jQ (by decide),jQ (by decide),J.ca x]
 . rw[jQ (by decide),uO,J.ct x];by_cases e:n=x
   . subst e;simp[h,Nodup.mem_erase_iff ndo]
   . have e':¬ x=n:=λz=>e z.symm
     simp[e,e',Nodup.mem_erase_iff ndo]
theorem JI.handed (J:JI ah un uh go do') {n o:Int}(h:uh.take 1=[(n,o)]):JI (ah++[⟨.handed,n,o⟩]) un (uh.drop 1) (go.erase n) do'/\n∈go:=by
 have e1:=FD h;have pm:=J.pm;rw[e1,Oy]at pm;have hn:n∈go:=pm.mem_iff.mpr (Oc.mpr (.inr (Oc.mpr (.inr Nv))));have lt:(thH .handed ah).length < (thH .answered ah).length:=by
  have:=congrArg O8 (J.eh.symm.trans e1);rw[length_drop,NM]at this;omega
 refine⟨⟨?_,?_,?_,?_,?_,J.nd.erase n,λx=>?_,λx=>?_⟩,hn⟩
 . rw[cX,cX,Vd (by decide),Vd (by decide)];exact J.eu
 . rw[cX,cX,Vc rfl,Vd (by decide),Nj,J.eh,List.drop_drop];rfl
 . rw[cX,cX,Vd (by decide),Vd (by decide)];exact J.lt
 . rw[cX,cX,Vc rfl,Vd (by decide),Nj];exact lt
 . have p2:go.Perm (n :: (un.map (·.1)++(do'++(uh.drop 1).map (·.1)))):=by
    refine pm.trans ?_;rw[<-N4,<-N4];exact List.perm_middle
   have p3:=p2.erase n;rw[List.erase_cons_head]at p3;exact p3
 . rw[jQ (by decide),uO,J.ca x];by_cases e:n=x
   . subst e;simp[hn,Nodup.mem_erase_iff J.nd]
   . have e':¬ x=n:=λz=>e z.symm
     simp[e,e',Nodup.mem_erase_iff J.nd]
 . rw[jQ (by decide),jQ (by decide),J.ct x]
def JI.ndo (J:JI ah un uh go do'):do'.Nodup:=(O7.mp (O7.mp (J.pm.nodup_iff.mp J.nd)).2.1).1
def JI.lens (J:JI ah un uh go do'):un.length <= ah.length/\uh.length <= ah.length/\go.length <= un.length+(do'.length+uh.length)/\do'.length <= ah.length:=by
 have l1:∀ w,(thH w ah).length <= ah.length:=λw=>by unfold thH;rw[Nu];exact PR _ _
 have h1:=l1 .asked;have h2:=l1 .answered;have q1:=congrArg O8 J.eu;have q2:=congrArg O8 J.eh;rw[length_drop]at q1 q2;have q3:=J.pm.length_eq;rw[Nj,Nj,Nu,Nu]at q3;have q4:do'.length <= (thH .taken ah).length:=by
  have hsub:∀ x∈do',x∈(thH .taken ah).map (·.1):=λx hx=>by
   have:=J.ct x;rw[Vc hx]at this;have h0:0 < cnt .taken x ah:=by omega
   unfold cnt at h0;obtain⟨p,hp⟩:=List.exists_mem_of_length_pos h0;obtain⟨hp1,hp2⟩:=P0.mp hp;exact O1.mpr ⟨p,hp1,of_decide_eq_true hp2⟩
  have:=mZ J.ndo hsub;rw[Nu]at this;exact this
 have h3:=l1 .taken;omega
end
def HV (H:Hp):Hap->V->Prop:=λh v=>∃ c,v=.ref c/\H c=f' (.tup [.str h.w.key,.int h.n,.int h.o])
def PV (H:Hp):Int × Int->V->Prop:=λp v=>∃ c,v=.ref c/\H c=f' (.tup [.int p.1,.int p.2])
def Kt (H H':Hp):Prop:=∀ b vs,H b=f' (.tup vs)->H' b=f' (.tup vs)
def HV.keep {H H':Hp}(ht:Kt H H') {h:Hap}{v:V}(q:HV H h v):HV H' h v:=by
 obtain⟨c,e,x⟩:=q;exact⟨c,e,ht _ _ x⟩
def PV.keep {H H':Hp}(ht:Kt H H') {p:Int × Int}{v:V}(q:PV H p v):PV H' p v:=by
 obtain⟨c,e,x⟩:=q;exact⟨c,e,ht _ _ x⟩
def bq.kt {H H':Hp}(s:bq H H'):Kt H H':=λb _=>s b _
def SV (H:Hp) (l:K') (hs:List Hap):Prop:=∃ ts,H l=f' (.lst ts)/\NF (HV H) hs ts
def TL (H:Hp) (l:K') (ps:List (Int × Int)):Prop:=∃ ts,H l=f' (.lst ts)/\NF (PV H) ps ts
theorem SV.keep {H H':Hp}{l:K'}{hs:List Hap}(h:SV H l hs) (k:∀ o,H l=f' o->H' l=f' o) (ht:Kt H H'):SV H' l hs:=by
 obtain⟨ts,e,p⟩:=h;exact⟨ts,k _ e,Paired.mapP p λ_ _ q=>q.keep ht⟩
theorem TL.keep {H H':Hp}{l:K'}{ps:List (Int × Int)}(h:TL H l ps) (k:∀ o,H l=f' o->H' l=f' o) (ht:Kt H H'):TL H' l ps:=by
 obtain⟨ts,e,p⟩:=h;exact⟨ts,k _ e,Paired.mapP p λ_ _ q=>q.keep ht⟩
def SV.same {H H':Hp}{l:K'}{hs:List Hap}(h:SV H l hs) (s:bq H H'):SV H' l hs:=h.keep (λo=>s l o) s.kt
structure JA where
 j:K'
 u:K'
 h:K'
 g:K'
 d:K'
def jF (z:JA):List (Str × V):=bp "doing" (.ref z.d) (bp "going" (.ref z.g) (bp "unhanded" (.ref z.h) (bp "untaken" (.ref z.u) [])))
section
variable {z:JA}
def KL:(jF z).lookup ("untaken":Str)=f' (.ref z.u):=by unfold jF;repeat (first|rw[a9,Vc rfl]|rw[a9,Vd (by decide +kernel)]);try rfl
def KN:(jF z).lookup ("unhanded":Str)=f' (.ref z.h):=by unfold jF;repeat (first|rw[a9,Vc rfl]|rw[a9,Vd (by decide +kernel)]);try rfl
def La:(jF z).lookup ("going":Str)=f' (.ref z.g):=by unfold jF;repeat (first|rw[a9,Vc rfl]|rw[a9,Vd (by decide +kernel)]);try rfl
def Lz:(jF z).lookup ("doing":Str)=f' (.ref z.d):=by unfold jF;repeat (first|rw[a9,Vc rfl]|rw[a9,Vd (by decide +kernel)]);try rfl
def CU:(jF z).lookup ("fits":Str)=Nf:=by unfold jF;repeat (first|rw[a9,Vc rfl]|rw[a9,Vd (by decide +kernel)]);try rfl
def LM:(jF z).lookup ("go_on":Str)=Nf:=by unfold jF;repeat (first|rw[a9,Vc rfl]|rw[a9,Vd (by decide +kernel)]);try rfl
end
structure Jn (CJ:K') (H:Hp) (z:JA) (un uh:List (Int × Int)) (go do':List Int):Prop where
 ob:∃ dx,H z.j=f' (.ins CJ dx (jF z))
 u:TL H z.u un
 h:TL H z.h uh
 g:H z.g=f' (.dK (gK go))
 d:H z.d=f' (.dK (gK do'))
 nu:z.u≠z.h
 ng:z.g≠z.d
def JA.own (z:JA) (c:K'):Prop:=c=z.j\/c=z.u\/c=z.h\/c=z.g\/c=z.d
section
variable {CJ:K'}{H H':Hp}{z:JA}{un uh:List (Int × Int)}{go do':List Int}
theorem Jn.keep (J:Jn CJ H z un uh go do') (k:∀ c o,z.own c->H c=f' o->H' c=f' o) (ht:Kt H H'):Jn CJ H' z un uh go do':=by
 obtain⟨dx,hx⟩:=J.ob;exact⟨⟨dx,k _ _ (.inl rfl) hx⟩,J.u.keep (λo=>k _ o (.inr (.inl rfl))) ht,J.h.keep (λo=>k _ o (.inr (.inr (.inl rfl)))) ht,k _ _ (.inr (.inr (.inr (.inl rfl)))) J.g,k _ _ (.inr (.inr (.inr (.inr rfl)))) J.d,J.nu,J.ng⟩
def Jn.same (J:Jn CJ H z un uh go do') (s:bq H H'):Jn CJ H' z un uh go do':=J.keep (λc o _=>s c o) s.kt
def ju {c x:K'}{o o':HO}(hx:H x=f' o') (h:H c=f' o) (hn:o≠o'):∀ q,upd H x q c=f' o:=λq=>by
 rw[ae λe=>by rw[e,hx]at h;exact hn (NH h).symm];exact h
def iK {x:K'}{o':HO}(hx:H x=f' o') (hn:∀ vs,o'≠.tup vs) (q:HO):Kt H (upd H x q):=λb vs e=>ju hx e (λz=>hn vs z.symm) q
def TL.up {l x:K'}{ps:List (Int × Int)}{o':HO}(h:TL H l ps) (hx:H x=f' o') (hn:∀ vs,o'≠.tup vs) (nl:l≠x) (q:HO):TL (upd H x q) l ps :=
 h.keep (λo e=>by rw[ae nl];exact e) (iK hx hn q)
def Jn.setU (J:Jn CJ H z un uh go do') {un':List (Int × Int)}{ts:List V}(h:NF (PV H) un' ts):Jn CJ (upd H z.u (.lst ts)) z un' uh go do':=by
 obtain⟨t0,e0,_⟩:=J.u;obtain⟨dx,hx⟩:=J.ob;have ht:=iK e0 (λ_ z=>by cases z) (.lst ts);exact⟨⟨dx,ju e0 hx (by intro z;cases z) _⟩,⟨ts,a8,Paired.mapP h λ_ _ q=>q.keep ht⟩,J.h.up e0 (λ_ z=>by cases z) J.nu.symm _,ju e0 J.g (by intro z;cases z) _,ju e0 J.d (by intro z;cases z) _,J.nu,J.ng⟩
def Jn.setH (J:Jn CJ H z un uh go do') {uh':List (Int × Int)}{ts:List V}(h:NF (PV H) uh' ts):Jn CJ (upd H z.h (.lst ts)) z un uh' go do':=by
 obtain⟨t0,e0,_⟩:=J.h;obtain⟨dx,hx⟩:=J.ob;have ht:=iK e0 (λ_ z=>by cases z) (.lst ts);exact⟨⟨dx,ju e0 hx (by intro z;cases z) _⟩,J.u.up e0 (λ_ z=>by cases z) J.nu _,⟨ts,a8,Paired.mapP h λ_ _ q=>q.keep ht⟩,ju e0 J.g (by intro z;cases z) _,ju e0 J.d (by intro z;cases z) _,J.nu,J.ng⟩
def Jn.setG (J:Jn CJ H z un uh go do') {kv:List (Key × V)}{go2:List Int}(h:kv=gK go2):Jn CJ (upd H z.g (.dK kv)) z un uh go2 do':=by
 obtain⟨dx,hx⟩:=J.ob;have nl:∀ {l ps},TL H l ps->l≠z.g:=λ{l ps} ⟨ts,e,_⟩ y=>by rw[y,J.g]at e;cases e
 exact⟨⟨dx,ju J.g hx (by intro z;cases z) _⟩,J.u.up J.g (λ_ z=>by cases z) (nl J.u) _,J.h.up J.g (λ_ z=>by cases z) (nl J.h) _,by rw[a8,h],by rw[ae J.ng.symm];exact J.d,J.nu,J.ng⟩
def Jn.setD (J:Jn CJ H z un uh go do') {kv:List (Key × V)}{do2:List Int}(h:kv=gK do2):Jn CJ (upd H z.d (.dK kv)) z un uh go do2:=by
 obtain⟨dx,hx⟩:=J.ob;have nl:∀ {l ps},TL H l ps->l≠z.d:=λ{l ps} ⟨ts,e,_⟩ y=>by rw[y,J.d]at e;cases e
 exact⟨⟨dx,ju J.d hx (by intro z;cases z) _⟩,J.u.up J.d (λ_ z=>by cases z) (nl J.u) _,J.h.up J.d (λ_ z=>by cases z) (nl J.h) _,by rw[ae J.ng];exact J.g,by rw[a8,h],J.nu,J.ng⟩
end
def t7 {H:Hp}{j x C dx:K'}{fs:List (Str × V)}{o:HO}{f:Str}(hj:H j=f' (.ins C dx fs)) (hx:H x=Nf) :
 upd (upd H x o) j (.ins C dx (bp f (.ref x) fs)) j=f' (.ins C dx (bp f (.ref x) fs))/\upd (upd H x o) j (.ins C dx (bp f (.ref x) fs)) x=f' o/\upd H x o j=f' (.ins C dx fs)/\(∀ c u,c≠j->H c=f' u->upd (upd H x o) j (.ins C dx (bp f (.ref x) fs)) c=f' u):=by
 have n1:x≠j:=λz=>by rw[z,hj]at hx;cases hx
 refine⟨a8,by rw[ae n1];exact a8,by rw[ae n1.symm];exact hj,λc u nc e=>?_⟩;rw[ae nc,ae (ac e hx)];exact e
def vO:Option Nat->V
|none=>.non
|some k=>.int (k:Int)
def pvD (p:Int × Int):Ni:=.tuple [.int p.1,.int p.2]
theorem pS {H:Hp}:∀ {ps:List (Int × Int)}{ts:List V},NF (PV H) ps ts->DVs H (ps.map pvD) ts
|_,_,.nil=>rfl
|_,_,.cons ⟨c,e,q⟩ t=>⟨_,_,rfl,⟨c,_,e,q,_,_,rfl,rfl,_,_,rfl,rfl,rfl⟩,pS t⟩
def IR (p:Int × Int):MX.kd (pvD p)=G':=rfl
def tV (ds:List Ni) (h:∀ d∈ds,MX.kd d=G'/\d.depth <= 9):wM (.list ds):=by
 obtain⟨h1,h2⟩:=sK h;exact⟨h1,by show Pj _+1 <= 16;omega⟩
def sM (ps:List (Int × Int)):wM (.list (ps.map pvD)):=tV _ λd hd=>by
 obtain⟨p,_,rfl⟩:=O1.mp hd;exact⟨rfl,by show 1 <= 9;decide⟩
theorem wV {α:Type}(f:α->Ni) (h:∀ a,MX.kd (f a)=G'):∀ xs:List α,MX.kds (xs.map f)=G'
|[]=>rfl
|x :: xs=>by
  show (MX.kd (f x) && MX.kds (xs.map f))=G';rw[h x,wV f h xs];rfl
def GR {p q:Int × Int}(h:pvD p=pvD q):p=q:=by
 injection h with this
 injection this with h1 h2
 injection h2 with h2 _
 injection h1 with h1
 injection h2 with h2
 exact Prod.ext h1 h2
def C6 (ps qs:List (Int × Int)):Ny (.list (ps.map pvD)) (.list (qs.map pvD))=decide (ps=qs):=by
 have e:=MX.eqvs_iff (ps.map pvD) (qs.map pvD) (wV pvD IR ps) (wV pvD IR qs);show OR _ _=_;by_cases h:ps=qs
 . rw[Vf h];exact e.mpr (by rw[h])
 . rw[decide_eq_false h];cases z:OR (ps.map pvD) (qs.map pvD) with
  |false=>rfl
  |true=>exact absurd ((List.map_inj_right λ_ _ y=>GR y).mp (e.mp z)) h
def uF (xs:List V) (k:Nat):lx xs Nf (f' (k:Int))=xs.take k:=by
 unfold lx;rw[HT.sIx_nat,show HT.sIx xs.length 0 Nf=0 from rfl,drop_zero,Nat.sub_zero];by_cases h:k <= xs.length
 . rw[min_eq_left h]
 . rw[Nat.min_eq_right (by omega),O3 (Nm _),O3 (by omega)]
def yh (xs:List V) (j k:Nat):lx xs (f' (j:Int)) (f' (k:Int))=(xs.drop j).take (k - j):=by
 unfold lx;rw[HT.sIx_nat,HT.sIx_nat];by_cases h:j <= xs.length
 . rw[min_eq_left h];by_cases h2:k <= xs.length
   . rw[min_eq_left h2]
   . rw[Nat.min_eq_right (by omega),O3 (by rw[length_drop];exact Nm _),O3 (by rw[length_drop];omega)]
 . have e1:min j xs.length=xs.length:=by omega
   rw[e1,drop_of_length_le (Nm _),drop_of_length_le (show xs.length <= j by omega),take_nil,take_nil]
theorem gi {α β:Type}{F:α->β->Prop}:∀ {xs:List α}{ys:List β}(k:Nat),NF F xs ys->NF F (xs.take k) (ys.take k)
|_,_,0,_=>by rw[take_zero,take_zero];exact .nil
|_,_,_+1,.nil=>.nil
|_,_,k+1,.cons r t=>.cons r (gi k t)
theorem jn {α β:Type}{F:α->β->Prop}:∀ {xs:List α}{ys:List β}(k:Nat),NF F xs ys->NF F (xs.drop k) (ys.drop k)
|_,_,0,h=>by rw[drop_zero,drop_zero];exact h
|_,_,_+1,.nil=>.nil
|_,_,k+1,.cons _ t=>jn k t
def G3 {α:Type}(xs:List α):xs.eraseIdx 0=xs.drop 1:=by cases xs<;>rfl
inductive L5 where
|st|la|ta|to|aw
instance:DecidableEq L5:=λa b=>by
 cases a<;>cases b<;>first|exact isTrue rfl|exact isFalse (λh=>by cases h)
section
variable {H H':Hp}{q:L5->K'}{hs:List Hap}{un uh:List (Int × Int)}{go do':List Int}
end
inductive Hx where
|h (x:Hap)
|n (b:Bool)
def Hx.w:Hx->Wd
|.h x=>x.w
|.n D'=>.handed
|.n G'=>.taken
def Hx.d1:Hx->Ni
|.h x=>.int x.n
|.n _=>.none
def Hx.d2:Hx->Ni
|.h x=>.int x.o
|.n _=>.none
def Hx.v1:Hx->V
|.h x=>.int x.n
|.n _=>.non
def Hx.v2:Hx->V
|.h x=>.int x.o
|.n _=>.non
def Hx.d (x:Hx):Ni:=sO x.w.key x.d1 x.d2
def XV (H:Hp):Hx->V->Prop:=λh v=>∃ c,v=.ref c/\H c=f' (.tup [.str h.w.key,h.v1,h.v2])
def SX (H:Hp) (l:K') (hs:List Hx):Prop:=∃ ts,H l=f' (.lst ts)/\NF (XV H) hs ts
def XV.keep {H H':Hp}(ht:Kt H H') {h:Hx}{v:V}(q:XV H h v):XV H' h v:=by
 obtain⟨c,e,x⟩:=q;exact⟨c,e,ht _ _ x⟩
def SX.same {H H':Hp}{l:K'}{hs:List Hx}(h:SX H l hs) (s:bq H H'):SX H' l hs:=by
 obtain⟨ts,e,p⟩:=h;exact⟨ts,s _ _ e,Paired.mapP p λ_ _ q=>q.keep s.kt⟩
theorem JV {H:Hp}:∀ {hs:List Hx}{ts:List V},DVs H (hs.map Hx.d) ts->NF (XV H) hs ts
|[],ts,h=>by
  have:ts=[]:=h;rw[this];exact .nil
|x :: hs,ts,h=>by
  obtain⟨v,r,rfl,h1,h2⟩:=h;obtain⟨t,vs,rfl,ht,v1,r1,rfl,d1,v2,r2,rfl,d2,v3,r3,rfl,d3,e3⟩:=h1;have e3':r3=[]:=e3;subst e3';have z1:v1=.str x.w.key:=d1;have z2:v2=x.v1:=by cases x<;>exact d2
  have z3:v3=x.v2:=by cases x<;>exact d3
  subst z1 z2 z3;exact .cons ⟨t,rfl,ht⟩ (JV h2)
theorem Ko {H:Hp}:∀ {A:List Hx}{ts:List V}{k:Nat}{y:V},NF (XV H) A ts->ts[k]?=f' y->∃ h c,A[k]?=f' h/\y=.ref c/\H c=f' (.tup [.str h.w.key,h.v1,h.v2])
|_,_,_,_,.nil,h=>by cases h
|h :: _,_ :: _,0,_,.cons ⟨c,e,q⟩ _,hk=>by cases hk;exact⟨h,c,rfl,e,q⟩
|_ :: _,_ :: _,k+1,_,.cons _ t,hk=>Ko (k:=k) t hk
theorem K4 {H:Hp}:∀ {hs:List Hap}{ts:List V},NF (XV H) (hs.map Hx.h) ts->NF (HV H) hs ts
|[],_,.nil=>.nil
|_ :: _,_,.cons ⟨c,e,q⟩ t=>.cons ⟨c,e,q⟩ (K4 t)
def kC:List Hap->List Hx->Option Nat
|_,[]=>Nf
|ah,.h x :: t=>if xa ah x=G' then kC (ah++[x]) t else f' ah.length
|ah,.n _ :: _=>f' ah.length
def rls:List Hx->List Hap
|[]=>[]
|.h x :: t=>x :: rls t
|.n _ :: t=>rls t
theorem vd:∀ {hs:List Hx}{ah:List Hap},kC ah hs=Nf->hs=(rls hs).map .h
|[],_,_=>rfl
|.h x :: t,ah,h=>by
  have h':(if xa ah x=G' then kC (ah++[x]) t else f' ah.length)=Nf:=h;split at h'
  . show Hx.h x :: t=.h x :: (rls t).map .h;rw[<-vd h']
  . cases h'
|.n _ :: _,_,h=>by cases h
def Bg {hs:List Hx}{ah:List Hap}{i:Nat}{x:Hap}(hi:hs[i]?=f' (.h x)):kC ah (hs.drop i)=if xa ah x=G' then kC (ah++[x]) (hs.drop (i+1)) else f' ah.length:=by
 have hlt:i < hs.length:=(NG.mp hi).1;rw[List.drop_eq_getElem_cons hlt,(NG.mp hi).2];rfl
def Ae {hs:List Hx}{ah:List Hap}{i:Nat}{b:Bool}(hi:hs[i]?=f' (.n b)):kC ah (hs.drop i)=f' ah.length:=by
 have hlt:i < hs.length:=(NG.mp hi).1;rw[List.drop_eq_getElem_cons hlt,(NG.mp hi).2];rfl
def Lq {hs:List Hx}{ah:List Hap}{i:Nat}{x:Hap}(hi:hs[i]?=f' (.h x)) (h:hs.take i=ah.map .h):hs.take (i+1)=(ah++[x]).map .h:=by
 rw[take_succ,hi,h,OS];rfl
def Mi {hs:List Hx}{ah:List Hap}{i:Nat}(hi:i <= hs.length) (h:hs.take i=ah.map .h):ah.length=i:=by
 have:=congrArg O8 h;rw[OI,Nu]at this;omega
def lkW:Bool->Wd
|false=>.answered
|true=>.asked
def lkX:Bool->Wd
|false=>.handed
|true=>.taken
structure RA where
 ld:K'
 sn:K'
 l:Bool->K'
 ud:K'
 tk:K'
section
variable {H H':Hp}{z:RA}{ah ah':List Hap}{go do' go2 do2:List Int}
end
def IP (q:YP) (S:YS) (b:Bool):Int:=(S.m.c (lkA b) - S.m.c (lkB b)) % (q.p.s * q.p.R)
def FI (q:YP) (S:YS) (hs:List Hap) (b:Bool):Bool:=decide (IP q S b≠(((thH (lkW b) hs).length - (thH (lkX b) hs).length:Nat):Int))
def ovB (q:YP) (S:YS) (b:Bool):Bool:=decide (S.bd b=.asleep) && (S.qt (!b) && decide (IP q S b≠0))
def IN (q:YP) (S:YS) (hs:List Hx):Bool:=if kC [] hs=Nf then (if S.rs D'=[]/\S.rs G'=[] then (FI q S (rls hs) G' || (FI q S (rls hs) D' || (ovB q S D' || ovB q S G'))) else D') else G'
section
variable {q:YP}{S:YS}{hs:List Hx}
end
def Ck {q:YP}{S:YS}{wt:Int}(h:(Dd.ask wt).chk q S=Nf):∃ nm,cO q.n S.un=f' nm:=by
 have h':(if S.bd D'=.up then (if bj q.p S.m (S.rs D') .asked .taken=q.p.s then f' Rf.full else match cO q.n S.un with|none=>f' Rf.name|some _=>Nf) else f' Rf.deed)=Nf:=h;split at h'
 . split at h'
   . cases h'
   . cases e:cO q.n S.un with
    |none=>rw[e]at h';cases h'
    |some nm=>exact⟨nm,rfl⟩
 . cases h'
def IY {q:YP}{S:YS}{x:Dd}(h:x.chk q S=Nf):∃ fs:List Hx,fs.length <= 1/\(x.run q S).2.hs=S.hs++fs.map Hx.d:=by
 have hh:=Jx (q:=q) (S:=S) x;rw[Dd.out_none h]at hh
 suffices hs:∃ fs:List Hx,fs.length <= 1/\x.hap "none" (x.run q S).1=fs.map Hx.d by
  obtain⟨fs,h1,h2⟩:=hs;exact⟨fs,h1,by rw[<-h2];exact hh⟩
 clear hh;have g:∀ (wd:Wd) (b:Bool),(wd=match b with|false=>.handed|true=>.taken)->∀ d,Fch d->∃ fs:List Hx,fs.length <= 1/\(match d with|.none=>[]|_=>[sO wd.key (LS d) (LQ d)])=fs.map Hx.d:=λwd b hb d hd=>by
  rcases hd with rfl|rfl|⟨i,j,rfl⟩
  . exact⟨[],by decide,rfl⟩
  . exact⟨[.n b],Nm _,by subst hb;cases b<;>rfl⟩
  . exact⟨[.h ⟨wd,i,j⟩],Nm _,rfl⟩
 cases x with
|ask wt =>
  obtain⟨nm,e⟩:=Ck h;refine⟨[.h ⟨.asked,nm,wt⟩],Nm _,?_⟩;show [sO "asked" (match cO q.n S.un with|some nm=>_|none=>_:Ni × YS).1 (.int wt)]=_;rw[e];rfl
|answer nm wt=>exact⟨[.h ⟨.answered,nm,wt⟩],Nm _,rfl⟩
|take=>exact g .taken G' rfl _ (DI q S)
|collect=>exact g .handed D' rfl _ (xH q S)
|bell b=>exact⟨[],Ou _,rfl⟩
|lie b=>exact⟨[],Ou _,rfl⟩
|look b=>exact⟨[],Ou _,rfl⟩
|drain b=>exact⟨[],Ou _,rfl⟩
def Jc (t:OA) (n:Nat):(t.orStandIn n).led=t.led:=by
 unfold OA.orStandIn;split<;>rfl
def HJ (t:OA) (es:Array (Int × Na)) (h:Int) (x:Na):(layNew t es h x).2.1.led=t.led:=by
 unfold layNew;split
 . exact Jc _ _
 . rfl
def Ao {t t':OA}{hs:Array Int}{n:Nat}{r:Array Nat}(e:t.relaid hs n=f' (t',r)):t'.led=t.led/\t'.plain=t.plain:=by
 unfold OA.relaid OA.laid at e;simp only[Option.bind_eq_bind,Option.bind_eq_some_iff]at e;obtain⟨_,_,e⟩:=e;cases e;exact⟨rfl,rfl⟩
def Ci (t:OA) (es:Array (Int × Na)) (n:Nat):(relayAll t es n).2.1.led=t.led/\(t.plain=D'->(relayAll t es n).2.1.plain=D'):=by
 unfold relayAll;split
 . rename_i t' r e;obtain⟨h1,h2⟩:=Ao e;dsimp only;split
   . exact⟨h1,λh=>h2.trans h⟩
   . exact⟨rfl,λ_=>rfl⟩
 . exact⟨rfl,λ_=>rfl⟩
def uw (w:Nt) (h:NI) (a:K') (ks:List Str) (led:Bool):Prop :=
 ∃ o es ep t,h.get? a=f' o/\o.ExactSet/\o.data=.set es ep t/\(∀ e∈es.toList,∃ k tk,e=(hashStr w k,.str k tk))/\(es.toList.map λe=>strOf e.2).Perm ks/\ks.Nodup/\es.size < scanBound/\t.fits es.size=G'/\t.led=led/\(0 < es.size->t.plain=D')
section
variable {prog:ND}{w:Nt}{A:NN}{E:Na->Ng->Prop}{s:Ng}{a:K'}{ks:List Str}{led:Bool}
def Jz {es:List (Int × Na)}(h:∀ e∈es,∃ k tk,e=(hashStr w k,.str k tk)):ElemsOf (PySem.strKind prog w) es:=λe he=>by
 obtain⟨k,tk,rfl⟩:=h e he;exact⟨⟨k,strKind_is _ _ _ _,rfl⟩,rfl⟩
def uw.new (led:Bool) {h:NI}:uw w (h.push { cls:=.type "set",dict:=Nf,data:=.set #[] 0 (.fresh 0 0 led) }) h.objs.size [] led :=
 ⟨_,#[],0,_,Nr _ rfl,⟨rfl,rfl,rfl⟩,rfl,(λe he=>by simp at he),PU.refl _,nodup_nil,by decide,by rfl,rfl,(λh=>by simp at h)⟩
def r0 (ks:List Str) (y:Str):List Str:=if y∈ks then ks else ks++[y]
def uw.store {h:NI}{o:Ow}{es:Array (Int × Na)}{ep:Nat}{t:OA}(ho:h.get? a=f' o) (hex:o.ExactSet) (hd:o.data=.set es ep t) {es':Array (Int × Na)}{t':OA}(hel:∀ e∈es'.toList,∃ k tk,e=(hashStr w k,.str k tk)) (hpm:(es'.toList.map λe=>strOf e.2).Perm ks) (hnd:ks.Nodup) (hb:es'.size < scanBound) (hf:t'.fits es'.size=G') (hl:t'.led=led) (hp:t'.plain=D') :
 (h.update a (Ow.putSet es' t')).get? a=f' { o with data:=.set es' (ep+1) t' }/\uw w (h.update a (Ow.putSet es' t')) a ks led:=by
 have hg:(h.update a (Ow.putSet es' t')).get? a=f' { o with data:=.set es' (ep+1) t' }:=by
  have:=Ov (Ow.putSet es' t') ho (by rw[putSet_of es' t' hd];rfl);rw[putSet_of es' t' hd]at this;exact this
 exact⟨hg,_,es',ep+1,t',hg,hex,rfl,hel,hpm,hnd,hb,hf,hl,λ_=>hp⟩
def zm {g:Bool->Sem Unit}(hg:∀ (b:Bool) (s₁:Ng) (Q':Unit->Ng->Prop),Q' () s₁->Nq (model prog w) A (g b) Q' E s₁)
 {o:Ow} {es:Array (Int × Na)} {ep:Nat} {t:OA} (ho:s.heap.get? a=f' o) (hex:o.ExactSet) (hd:o.data=.set es ep t)
 {e1:Array (Int × Na)} {t2:OA} (hel:∀ e∈e1.toList,∃ k tk,e=(hashStr w k,.str k tk)) (hpm:(e1.toList.map λe=>strOf e.2).Perm ks) (hnd:ks.Nodup) (hb:e1.size < scanBound) (hf:t2.fits e1.size=G') (hl:t2.led=led) (hp:t2.plain=D') {dm:Bool} {R:Option Bool->Ng->Prop}
 (h:∀ h',Ox a s.heap h'->uw w h' a ks led->R (f' G') { s with heap:=h' }) :
 Nq (model prog w) A (do
  storeSet a e1 t2
  if (!dm && t2.tooFull)=G' then do
   g (relayAll t2 e1 (OA.grown e1.size)).2.2
   storeSet a (relayAll t2 e1 (OA.grown e1.size)).1 (relayAll t2 e1 (OA.grown e1.size)).2.1
   pure (f' G')
   else pure (f' G')) R E s:=by
 refine j' (wpAny_storeSet_of ho hd ?_ (fits_of_scanBound hb));obtain⟨ho1,S1⟩:=uw.store (w:=w) (led:=led) ho hex hd hel hpm hnd hb hf hl hp;have sb:=N6 s.heap a (Ow.putSet e1 t2);split
 . have rp:=relayAll_perm t2 e1 (OA.grown e1.size);have rf:=relayAll_fits t2 e1 (OA.grown e1.size);have rl:=Ci t2 e1 (OA.grown e1.size);generalize relayAll t2 e1 (OA.grown e1.size)=Rl at rp rf rl |-;obtain⟨e2,t3,gv⟩:=Rl;dsimp only at rp rf rl |-;have hsz:e2.size=e1.size:=by rw[<-NO,rp.length_eq,NO]
   refine j' (hg _ _ _ (j' (wpAny_storeSet_of ho1 rfl ?_ (fits_of_scanBound (by rw[hsz];exact hb)))));obtain⟨_,S2⟩:=uw.store (w:=w) (led:=led) ho1 hex rfl (λe he=>hel e (rp.mem_iff.mp he)) ((rp.map _).trans hpm) hnd (by rw[hsz];exact hb) rf (rl.1.trans hl) (rl.2 hp);exact Nc (h _ (sb.trans (N6 _ a _)) S2)
 . exact Nc (h _ sb S1)
def Aq {y:Str}{tk:Tok}{Q:Bool->Ng->Prop}(S:uw w s.heap a ks led) (hroom:ks.length+1 < scanBound)
 (h:∀ h' b,Ox a s.heap h'->uw w h' a (r0 ks y) led->Q b { s with heap:=h' }) :
 Nq (model prog w) A (setAddHashed a (.str y tk) (hashStr w y)) Q E s:=by
 obtain⟨o,es,ep,t,ho,hex,hd,hel,hpm,hnd,hb,hf,hled,hpl⟩:=S;have hsz:es.size=ks.length:=by
  have:=hpm.length_eq;rw[Nu,NO]at this;exact this
 have helK:ElemsOf (PySem.strKind prog w) es.toList:=Jz hel;have hkey:(PySem.strKind prog w).is y (.str y tk)=G':=strKind_is _ _ _ _;unfold setAddHashed setAddHashedIn;refine N2 (j' (Px ho hd hf ?_));dsimp only;rw[byScan_of (knd:=PySem.strKind prog w) rfl hb helK];simp only[↓reduceIte];unfold setAddByScan;refine j' (j' (OH (j' (wpAny_setScan_of (knd:=PySem.strKind prog w) hkey ho hd hf helK ?_))));have hmem:(∃ e∈es.toList,(PySem.strKind prog w).is y e.2=G') ↔ y∈ks:=by
  rw[<-hpm.mem_iff,O1];constructor
  . rintro⟨e,he,hq⟩;obtain⟨k,tk',rfl⟩:=hel e he;have hq':Na.isStrOf y (.str k tk')=G':=hq;obtain⟨u,hu⟩:=Na.isStrOf_shape hq';cases hu;exact⟨_,he,rfl⟩
  . rintro⟨e,he,hq⟩;obtain⟨k,tk',rfl⟩:=hel e he;have hk:k=y:=hq;subst hk;exact⟨_,he,strKind_is _ _ _ _⟩
 cases hr:List.findIdx? (λe=>(PySem.strKind prog w).is y e.2) es.toList with
|some j =>
  dsimp only;obtain⟨hj,hpj,_⟩:=List.findIdx?_eq_some_iff_getElem.mp hr;have hy:y∈ks:=hmem.mp ⟨_,getElem_mem hj,hpj⟩;refine Nc (Nc ?_);have hk:r0 ks y=ks:=Vc hy;exact h s.heap _ (Ox.refl a s.heap) (by rw[hk];exact⟨o,es,ep,t,ho,hex,hd,hel,hpm,hnd,hb,hf,hled,hpl⟩)
|none =>
  dsimp only;have hy:y ∉ ks:=λz=>by
   obtain⟨e,he,hp⟩:=hmem.mpr z;have:=List.findIdx?_eq_none_iff.mp hr e he;rw[hp]at this;exact Bool.noConfusion this
  have hk:r0 ks y=ks++[y]:=Vd hy;rw[hk]at h;have hgw:∀ (b:Bool) {s₁:Ng} {Q':Unit->Ng->Prop},Q' () s₁->Nq (model prog w) A (match b with|true=>rule "set.scan.the-table-gave-way"|false=>pure ()) Q' E s₁ :=
   λb s₁ Q' hq=>by cases b<;>first|exact Nc hq|exact OH hq
  have hperm:=layNew_perm t es (hashStr w y) (.str y tk);have hfits:=layNew_fits t es (hashStr w y) (.str y tk);have hll:=HJ t es (hashStr w y) (.str y tk);show Nq _ _ (let (es,t,wasDummy,gave):=layNew t es (hashStr w y) (.str y tk);_) _ _ _;generalize hL:layNew t es (hashStr w y) (.str y tk)=L at hperm hfits hll |-;obtain⟨es1,t1,wasDummy,gave⟩:=L;dsimp only at hperm hfits hll |-;have hpm1:(es1.toList.map λe=>strOf e.2).Perm (ks++[y]):=by
   refine(hperm.map _).trans ?_;rw[Array.toList_push,OS];exact PY _ hpm
  have hnd1:(ks++[y]).Nodup:=O7.mpr ⟨hnd,by simp,λa ha b hb e=>hy (by rw[Nd.mp hb]at e;exact e ▸ ha)⟩;have hel1:∀ e∈es1.toList,∃ k tk,e=(hashStr w k,.str k tk):=λe he=>by
   have:=hperm.mem_iff.mp he;rw[Array.toList_push]at this;rcases Oc.mp this with z|z
   . exact hel e z
   . exact⟨y,tk,Nd.mp z⟩
  have hb1:es1.size < scanBound:=by
   have:=hpm1.length_eq;rw[Nu,NO,Nj]at this;rw[this];exact hroom
  refine j' (hgw _ ?_);split
  . refine j' ?_;rw[hashByValue_scannable 8 (x:=.str y tk) rfl];refine Nc ?_;rw[show plainKind (.str y tk)=D' from rfl];simp only[NK,↓reduceIte];refine zm ?_ ho hex hd hel1 hpm1 hnd1 hb1 (OA.fits_plain_off hfits) (hll.trans hled) rfl ?_
    . intro b s₁ Q' hq;cases b<;>first|exact Nc hq|exact OH hq
    . intro h' hsb S';dsimp only;exact Nc (h h' _ hsb S')
  . rename_i hp;refine j' (Nc ?_);simp only[↓reduceIte];have hp':t1.plain=D':=by cases e:t1.plain with|false=>rfl|true=>exact absurd e hp
    refine zm ?_ ho hex hd hel1 hpm1 hnd1 hb1 hfits (hll.trans hled) hp' ?_
    . intro b s₁ Q' hq;cases b<;>first|exact Nc hq|exact OH hq
    . intro h' hsb S';dsimp only;exact Nc (h h' _ hsb S')
end
def AZ (val:Nat->Str) (i:Nat):List Str:=(PQ i).foldl (λks j=>r0 ks (val j)) []
def qw (val:Nat->Str) (i:Nat):AZ val (i+1)=r0 (AZ val i) (val i):=by
 unfold AZ;rw[List.range_succ,List.foldl_append];rfl
def FG (ks:List Str) (y:Str):(r0 ks y).length <= ks.length+1:=by
 unfold r0;split
 . exact le_succ _
 . rw[Nj];exact Nm _
theorem tN (val:Nat->Str):∀ i,(AZ val i).length <= i
|0=>Nm _
|i+1=>by
  rw[qw];have:=FG (AZ val i) (val i);have:=tN val i;omega
def p8 (w:Nt):Bool:=w.params.followText "set-order"
def uw.at' {w:Nt}{h h':NI}{a:K'}{ks:List Str}{led:Bool}(S:uw w h a ks led) (e:∀ o,h.get? a=f' o->h'.get? a=f' o):uw w h' a ks led:=by
 obtain⟨o,es,ep,t,ho,r⟩:=S;exact⟨o,es,ep,t,e _ ho,r⟩
section
variable {prog:ND}{w:Nt}{A:NN}{E:Na->Ng->Prop}{s:Ng}
def xR (a:Na) {Q₁:Na->Ng->Prop}(h:Q₁ (.ref s.heap.objs.size) { s with heap:=s.heap.push { cls:=.type "set",dict:=Nf,data:=.set #[] 0 (.fresh 0 0 (!p8 w)) } }) :
 codeAny (model prog w) A (.call (.builtin "set.__new__") ⟨[.type "set",a],[]⟩) (wants Q₁ E) s:=by
 refine codeAny_of_tree ?_;show Nq _ A.in1 (do checkBuiltinCall "set.__new__" ⟨[.type "set",a],[]⟩;again (.builtin "set.__new__" ⟨[.type "set",a],[]⟩)) _ _ s;refine j' (wpAny_of_eq (F.newCall_set_1 a) (Nc ⟨plainId_quiet F.plain_set_new _,codeAny_builtin F.entry_set_new ?_⟩));rw[NN.under_plainId F.plain_set_new _];unfold Builtin.«set.__new__» Builtin.Frozenset.newClass;have hsub:=PySem.sub_set_self;obtain⟨hp,g,d,tk,os⟩:=s;dsimp only
 wp_walk
 refine wpAny_askSetting (Nc ?_);dsimp only;simp only[newObj];refine j' (wpAny_alloc (Nc (Nc ?_)));exact h
variable {R:Result->Ng->Prop}{I:K'}{fp wr:List K'}{G:Array GenState->Array GenState->Prop}{n:Nat}{P:Nat->Na->Prop}{St:Nat->Ng->Prop}
def Fm (W:WalksS prog w A.in1 I fp wr G n P St) (S:K') (hSf:S ∉ fp) {led:Bool}(val:Nat->Str) (hval:∀ i v,P i v->∃ t,v=.str (val i) t) (hb:n+1 < scanBound) :
 ∀ (k i:Nat) (s:Ng),n - i=k->i <= n->St i s->uw w s.heap S (AZ val i) led ->
  (∀ s',Moved (S :: wr) G s s'->uw w s'.heap S (AZ val n) led->R (.ok (.ret .none)) s') ->
  codeAny (model prog w) A (.builtin "set.update.loop" ⟨[.ref S,.ref I],[]⟩) R s:=by
 have hSw:S ∉ wr:=λh=>hSf (W.sub _ h)
 have hsub:∀ b∈wr,b∈S :: wr:=λb hb=>Nw _ hb
 intro k
 induction k with
|zero =>
  intro i s hk hi hst hS hR;obtain rfl:i=n:=by omega
  refine codeAny_builtin F.entry_set_update_loop ?_;rw[NN.under_plainId F.plain_set_update_loop _];show Nq _ A.in1 (pyNext (.ref I) >>= _) _ _ s;refine j' (W.done s _ _ hst λs' hm=>?_);exact Nc (hR s' (hm.mono hsub) (hS.at' λo e=>hm.heap S _ hSw e))
|succ k ih =>
  intro i s hk hi hst hS hR;have hlt:i < n:=by omega
  refine codeAny_builtin F.entry_set_update_loop ?_;rw[NN.under_plainId F.plain_set_update_loop _];show Nq _ A.in1 (pyNext (.ref I) >>= _) _ _ s;refine j' (W.item i s _ _ hlt hst λv s' hP hst' hm=>?_);obtain⟨t,rfl⟩:=hval i v hP;have hS':=hS.at' (h':=s'.heap) λo e=>hm.heap S _ hSw e
  show Nq _ A.in1 (holding [Na.str (val i) t] (setAdd S (.str (val i) t)) >>= _) _ _ s';refine j' (N2 ?_);unfold setAdd;refine N2 (j' (wpAny_pyHash_str ?_));have hroom:(AZ val i).length+1 < scanBound:=by have:=tN val i;omega
  refine Aq (s:={ s' with toks:=s'.toks+1 }) hS' hroom λh' b sb S2=>?_
  rw[<-qw]at S2;refine Nc ⟨plainId_quiet F.plain_set_update_loop _,ih (i+1) _ (by omega) hlt (W.frame _ s' _ _ hst' (le_succ _) λb hb o e=>?_) S2 λs'' hm'' hS''=>?_⟩
  . rw[sb.2 b (λz=>hSf (by rw[<-z];exact hb))];exact e
  . refine hR s'' (Moved.trans W.gtrans ((hm.mono hsub).then_heap (le_succ _) λb o hb e=>?_) hm'') hS'';rw[sb.2 b (λz=>hb (by rw[z];exact Nv))];exact e
theorem B3:∀ {vs:List Na}{ss:List Str},StrsAre vs ss->∀ (i:Nat) (v:Na),vs[i]?=f' v->∃ t,v=.str (ss.getD i "") t
|_,_,.nil,i,v,h=>by simp at h
|_,_,.cons n t hr,0,v,h=>by simp at h;exact⟨t,by rw[<-h];rfl⟩
|_,_,.cons n t hr,i+1,v,h=>by
  simp only[List.getElem?_cons_succ]at h;obtain⟨t',e⟩:=B3 hr i v h;exact⟨t',by rw[e];rfl⟩
set_option maxHeartbeats 8000000 in
def DE {l:K'}{items:Array Na}{ss:List Str}{Q:Na->Ng->Prop}(hh:A.handled=Nf) (hl:s.heap.IsList l items) (hi:StrsAre items.toList ss) (hb:items.size+1 < scanBound)
 (h:∀ (h':NI) (tk:Nat),uw w h' s.heap.objs.size (AZ (λi=>ss.getD i "") items.size) (!p8 w)->(∀ b o,b < s.heap.objs.size->s.heap.get? b=f' o->h'.get? b=f' o)->Q (.ref s.heap.objs.size) { s with heap:=h',toks:=tk }) :
 Nq (model prog w) A (call (.type "set") [.ref l]) Q E s:=by
 obtain⟨c,tl,hmro⟩:=F.called_set.mro;have hmade:=F.called_set.made;have hsub:=F.called_set.sub;refine wpAny_call (codeAny_of_tree ?_);show Nq _ _ (callAny (.type "set") _) _ _ _;refine Nc ⟨Code.quiet_builtin _ (by decide +kernel),codeAny_builtin F.entry_type_call ?_⟩;rw[NN.under_plain (weight_type_call_type "set" [.ref l] []) rfl];have h1:=F.called_set.notType;have h2:=F.called_set.canCreate;have hct:=F.typeCall_set_1 (.ref l)
 repeat (any_goals (first|assumption|wp_step))
 refine codeAny_mono (xR (.ref l) (E:=E) (Q₁:=λobj s₁=>obj=.ref s.heap.objs.size/\s₁={ s with heap:=s.heap.push ({ cls:=.type "set",dict:=Nf,data:=.set #[] 0 (.fresh 0 0 (!p8 w)) }:Ow) }) ⟨rfl,rfl⟩) λr s₁ hr=>?_
 cases r with
|error e=>exact hr
|ok fl =>
  cases fl with
 |ret obj =>
   obtain⟨rfl,rfl⟩:=hr;have hS:(s.heap.push ({ cls:=.type "set",dict:=Nf,data:=.set #[] 0 (.fresh 0 0 (!p8 w)) }:Ow)).get? s.heap.objs.size=f' ({ cls:=.type "set",dict:=Nf,data:=.set #[] 0 (.fresh 0 0 (!p8 w)) }:Ow):=Nr _ rfl;have hT:Ng.TypeIs { s with heap:=s.heap.push ({ cls:=.type "set",dict:=Nf,data:=.set #[] 0 (.fresh 0 0 (!p8 w)) }:Ow) } (.ref s.heap.objs.size) "set":=⟨_,hS,rfl⟩
   have hli:=F.called_set.init.lookup;have hbi:=F.called_set.init.bind (.ref s.heap.objs.size)
   repeat (any_goals (first|assumption|wp_step))
   refine codeAny_mono (codeAny_call_builtin (R:=wants (λr s₂=>r=.none/\∃ h' tk,s₂={ s with heap:=h',toks:=tk }/\uw w h' s.heap.objs.size (AZ (λi=>ss.getD i "") items.size) (!p8 w) /\
    (∀ b o,b < s.heap.objs.size->s.heap.get? b=f' o->h'.get? b=f' o)) E) F.called_set.init.plain F.entry_set_init (check_set_init_1 hT ?_)) λr₂ s₂ hr₂=>?_
   . obtain⟨ol,hol,hcl,nl,hdl⟩:=hl;obtain⟨ocls,odict,odata,oslots⟩:=ol;simp only at hcl hdl;subst hcl;subst hdl;have hol':(s.heap.push ({ cls:=.type "set",dict:=Nf,data:=.set #[] 0 (.fresh 0 0 (!p8 w)) }:Ow)).get? l=f' { cls:=.type "list",dict:=odict,data:=.seq items nl,slots:=oslots }:=Nb _ hol;have hsls:=F.sub_list_set;have hslf:=F.sub_list_frozenset;have hne:(Na.type "list" == Na.type "dict")=D':=by decide
     have hl1:(s.heap.push ({ cls:=.type "set",dict:=Nf,data:=.set #[] 0 (.fresh 0 0 (!p8 w)) }:Ow)).IsList l items:=⟨_,hol',rfl,nl,rfl⟩
     unfold Builtin.«set.__init__» noKeywords Builtin.Frozenset.updateFrom;generalize hPI:pyIter=PI
     wp_walk
     subst hPI;refine wpAny_pyIter_list hl1 ?_;refine j' (wpAny_runValue ?_);have hlS:l < s.heap.objs.size:=Nx hol;have hh3:A.in1.in1.in1.handled=Nf:=by simp[hh]
     have hneI:l≠(s.heap.push ({ cls:=.type "set",dict:=Nf,data:=.set #[] 0 (.fresh 0 0 (!p8 w)) }:Ow)).objs.size:=by rw[N9];exact NZ (lt_succ_of_lt hlS)
     have hSf:s.heap.objs.size ∉ [(s.heap.push ({ cls:=.type "set",dict:=Nf,data:=.set #[] 0 (.fresh 0 0 (!p8 w)) }:Ow)).objs.size,l]:=by
      rw[N9];simp only[NA,N8,or_false,not_or];exact⟨NZ (lt_succ_self _),ne_of_gt hlS⟩
     have hval:∀ (i:Nat) (v:Na),items[i]?=f' v->∃ t,v=.str ((λi=>ss.getD i "") i) t:=λi v hv=>B3 hi i v (by rw[N0];exact hv)
     have S0:uw w (s.heap.push ({ cls:=.type "set",dict:=Nf,data:=.set #[] 0 (.fresh 0 0 (!p8 w)) }:Ow)) s.heap.objs.size [] (!p8 w):=uw.new _;refine Fm ((Walks.list hh3 _ l hneI items).toS) s.heap.objs.size hSf (λi=>ss.getD i "") hval hb (items.size - 0) 0 _ (by omega) (Ou _)
      ⟨⟨_,Nr _ rfl,rfl,rfl⟩,(hl1.push _)⟩ (S0.at' λo e=>Nb _ e) ?_
     intro s' hm hS';obtain⟨h',g',d',tk',os'⟩:=s';have eg:g'=s.gens:=hm.gens;have ed:d'=s.drawn:=hm.drawn;have eo:os'=s.os:=hm.os;subst eg;subst ed;subst eo;show Nq _ _ _ _ _ _;refine Nc ?_;show Nq _ _ (ret Of) _ _ _;refine Nc ⟨rfl,h',tk',rfl,hS',λb o hb e=>?_⟩;have hb1:b≠s.heap.objs.size:=NZ hb;have hb2:b≠(s.heap.push ({ cls:=.type "set",dict:=Nf,data:=.set #[] 0 (.fresh 0 0 (!p8 w)) }:Ow)).objs.size:=by rw[N9];exact NZ (lt_succ_of_lt hb)
     exact hm.heap b o (by simp only[NA,N8,or_false,not_or];exact⟨hb1,hb2⟩) (Nb _ (Nb _ e))
   . cases r₂ with
    |error e=>exact hr₂
    |ok fl₂ =>
      cases fl₂ with
     |ret r =>
       obtain⟨rfl,h',tk,rfl,hS',hk'⟩:=hr₂
       repeat (any_goals (first|assumption|wp_step))
       exact h _ _ hS' hk'
     |_=>exact hr₂.elim
 |_=>exact hr.elim
end
def Bv:entryFor table "set.__iter__"=f' Builtin.«frozenset.__iter__»:=entryFor_alias (id':="frozenset.__iter__") (by kernel_rfl) rfl (by decide +kernel) (by kernel_rfl)
def CQ:Manifest.owners.lookup (String.ofList ['r','o','t','a','r','e','t','i','_','t','e','s'].reverse)=f' Manifest.sig_set_iterator:=by kernel_rfl
def fq:Slot "set_iterator" "__next__" "set_iterator.__next__":=.of (owner:="set_iterator") (n:="__next__") (by rw[typeLookup_type,builtinLookup_eq_fast];kernel_rfl) (by decide +kernel) (by decide +kernel) (by decide +kernel) (by first|exact .inl (by decide +kernel)|exact .inr (by decide +kernel)) (by rw[isSubtype_type];kernel_rfl)
def tW:entryFor table "set_iterator.__next__"=f' Builtin.«set_iterator.__next__»:=entryFor_of_tree (by kernel_rfl)
def ph (a:Na):argsOk "set_iterator.__next__" ⟨[a],[]⟩:=by
 unfold argsOk;rw[signature?_of (id:="set_iterator.__next__") (n:=['_','_','t','x','e','n','_','_']) (o:=['r','o','t','a','r','e','t','i','_','t','e','s']) (by kernel_rfl) CQ]
 kernel_rfl
def yH:Slot "set_iterator" "__iter__" "set_iterator.__iter__":=.of (owner:="set_iterator") (n:="__iter__") (by rw[typeLookup_type,builtinLookup_eq_fast];kernel_rfl) (by decide +kernel) (by decide +kernel) (by decide +kernel) (by first|exact .inl (by decide +kernel)|exact .inr (by decide +kernel)) (by rw[isSubtype_type];kernel_rfl)
def HB:entryFor table "set_iterator.__iter__"=f' Builtin.«dict_keyiterator.__iter__»:=entryFor_alias (id':="dict_keyiterator.__iter__") (by kernel_rfl) rfl (by decide +kernel) (by kernel_rfl)
def EN (a:Na):argsOk "set_iterator.__iter__" ⟨[a],[]⟩:=by
 unfold argsOk;rw[signature?_of (id:="set_iterator.__iter__") (n:=['_','_','r','e','t','i','_','_']) (o:=['r','o','t','a','r','e','t','i','_','t','e','s']) (by kernel_rfl) CQ]
 kernel_rfl
def wS (h:NI) (a:K') (es:Array (Int × Na)) (ep:Nat) (t:OA):Prop:=∃ o,h.get? a=f' o/\o.ExactSet/\o.data=.set es ep t/\t.fits es.size=G'
def IG (h:NI) (T:K') (pl:Array Na):Prop:=∃ o n,h.get? T=f' o/\o.data=.seq pl n
def mo (h:NI) (I a:K') (first:Na) (i n ep:Nat):Prop:=∃ o,h.get? I=f' o/\o.cls=.type "set_iterator"/\o.data=.fields #[first,.int i 0,.ref a,.int n 0,.int ep 0]
section
variable {prog:ND}{w:Nt}{A:NN}{E:Na->Ng->Prop}{s:Ng}{I a:K'}{first:Na}{i ep:Nat}{es:Array (Int × Na)}{t:OA}
def wS.at' {h h':NI}(S:wS h a es ep t) (e:∀ o,h.get? a=f' o->h'.get? a=f' o):wS h' a es ep t:=by
 obtain⟨o,ho,r⟩:=S;exact⟨o,e _ ho,r⟩
def mo.at' {n:Nat}{h h':NI}(S:mo h I a first i n ep) (e:∀ o,h.get? I=f' o->h'.get? I=f' o):mo h' I a first i n ep:=by
 obtain⟨o,ho,r⟩:=S;exact⟨o,e _ ho,r⟩
def ui {n:Nat}{Q:Na->Ng->Prop}(hit:mo s.heap I a first i n ep) (h:Q (.ref I) s):Nq (model prog w) A (pyIter (.ref I)) Q E s:=by
 obtain⟨o,ho,hc,hd⟩:=hit;have hT:s.TypeIs (.ref I) "set_iterator":=⟨o,ho,hc⟩
 refine wpAny_pyIter_slot hT yH (NT yH hT HB ?_ (EN _));show Nq _ _ (ret (.ref I)) _ _ s;exact Nc ⟨_,rfl,"set_iterator",_,hT,fq.lookup,h⟩
def xV {s0:Ng}{h1:NI}{Q:Option Na->Ng->Prop}(hh:A.handled=Nf) (hx:NI.ExtBut I s0.heap h1) (hQ:∀ h',NI.ExtBut I s0.heap h'->Q Nf { s0 with heap:=h' }) :
 Nq (model prog w) A.in1 (do let x <-newExc (.type "StopIteration") [];raiseNew (α:=Fin) x) (λfin s'=>∃ v,fin=Fin.done (Flow.ret v)/\Nq (model prog w) A (pure (f' v)) Q E s')
  (λe s'=>Nq (model prog w) A (do let b <-isInstance e (Na.type "StopIteration");if b=G' then pure Nf else throw e) Q E s') { s0 with heap:=h1 }:=by
 refine j' ?_;simp only[newExc,newTuple];refine j' (Ob ?_ (by size_fits));refine j' (m:=firstArgMember _ _) (wpAny_of_eq (a:=Of) (by first|rfl|(simp only[firstArgMember];rfl)) ?_);refine Ob ?_ (by size_fits);simp only[raiseNew];refine j' (wpAny_handled ?_);rw[show A.in1.handled=Nf from hh];refine j' (Nc (wpAny_throw ?_));refine j' (wpAny_isInstance (T:="StopIteration") (b:=G') ⟨_,Nr _ rfl,rfl⟩ isSubtype_stop ?_);exact Nc (hQ _ ((hx.push _).push _))
def t9 {vs:Array Na}{o:Ow}{h:NI}{k:Nat}{v:Na}(ho:h.get? I=f' o) (hc:o.cls=.type "set_iterator") (hd:o.data=.fields vs) :
 (h.update I (Ow.mapFields (·.setIfInBounds k v))).get? I=f' (Ow.mapFields (·.setIfInBounds k v) o)/\(Ow.mapFields (·.setIfInBounds k v) o).cls=.type "set_iterator"/\(Ow.mapFields (·.setIfInBounds k v) o).data=.fields (vs.setIfInBounds k v) :=
 ⟨Ov _ ho (Ow.isFreed_of_fields (Ow.data_mapFields hd _)),(Ow.cls_mapFields ..).trans hc,Ow.data_mapFields hd _⟩
def yn {slot nx:Nat}{x:Na}{Q:Option Na->Ng->Prop}(hit:mo s.heap I a (.int slot 0) i es.size ep) (hX:wS s.heap a es ep t)
 (hn:∀ (A':NN) (Q':Option (Na × Nat)->Ng->Prop) (E':Na->Ng->Prop),Q' (f' (x,nx)) s->Nq (model prog w) A' (setNext a slot i ep) Q' E' s)
 (hQ:∀ h',mo h' I a (.int nx 0) (i+1) es.size ep->NI.ExtBut I s.heap h'->Q (f' x) { s with heap:=h' }):Nq (model prog w) A (pyNext (.ref I)) Q E s:=by
 obtain⟨o,ho,hc,hd⟩:=hit;obtain⟨os,hos,hex,hds,hf⟩:=hX;have hT:s.TypeIs (.ref I) "set_iterator":=⟨o,ho,hc⟩
 unfold pyNext;refine j' (wpAny_attempt (NY (name:=N3 "__next__") hT fq (NT fq hT tW ?_ (ph _))));unfold Builtin.«set_iterator.__next__» slotArgs;simp only[List.isEmpty_nil,O9,NK,↓reduceIte,bind_assoc,length_nil,bne_self_eq_false];refine j' (Nc (j' (wpAny_fieldsOf ho hd ?_)));dsimp only;refine j' (wpAny_setEntries_of hos hds hf ?_);rw[Vd (by simp)];refine j' (hn _ _ _ ?_);dsimp only;obtain⟨p1,p2,p3⟩:=t9 (k:=0) (v:=Pe nx) ho hc hd;refine j' (Pf ho hd (by simp) ?_);obtain⟨q1,q2,q3⟩:=t9 (k:=1) (v:=Pe ((i:Int)+1)) p1 p2 p3;refine j' (Pf p1 p3 (by simp) ?_);refine Nc ⟨_,rfl,Nc (hQ _ ⟨_,q1,q2,by rw[q3];simp[Pe]⟩ ?_)⟩;exact λb o hb e=>(N6 ..).extBut b o hb ((N6 ..).extBut b o hb e)
def yS {slot:Nat}{Q:Option Na->Ng->Prop}(hh:A.handled=Nf) (hit:mo s.heap I a (.int slot 0) i es.size ep) (hX:wS s.heap a es ep t)
 (hn:∀ (A':NN) (Q':Option (Na × Nat)->Ng->Prop) (E':Na->Ng->Prop),Q' Nf s->Nq (model prog w) A' (setNext a slot i ep) Q' E' s)
 (hQ:∀ h',NI.ExtBut I s.heap h'->Q Nf { s with heap:=h' }):Nq (model prog w) A (pyNext (.ref I)) Q E s:=by
 obtain⟨o,ho,hc,hd⟩:=hit;obtain⟨os,hos,hex,hds,hf⟩:=hX;have hT:s.TypeIs (.ref I) "set_iterator":=⟨o,ho,hc⟩
 unfold pyNext;refine j' (wpAny_attempt (NY (name:=N3 "__next__") hT fq (NT fq hT tW ?_ (ph _))));unfold Builtin.«set_iterator.__next__» slotArgs;simp only[List.isEmpty_nil,O9,NK,↓reduceIte,bind_assoc,length_nil,bne_self_eq_false];refine j' (Nc (j' (wpAny_fieldsOf ho hd ?_)));dsimp only;refine j' (wpAny_setEntries_of hos hds hf ?_);rw[Vd (by simp)];refine j' (hn _ _ _ ?_);dsimp only;refine j' (Pf ho hd (by simp) ?_);exact xV hh (N6 ..).extBut hQ
def EU {T:K'}{pl:Array Na}{k:Nat}{hv:Int}{x:Na}{Q:Option Na->Ng->Prop}(hit:mo s.heap I a (.ref T) i es.size ep) (hX:wS s.heap a es ep t) (hT':IG s.heap T pl) (hp:pl[i]?=f' (.int k 0)) (hx:es[k]?=f' (hv,x))
 (hQ:∀ h',mo h' I a (.ref T) (i+1) es.size ep->NI.ExtBut I s.heap h'->Q (f' x) { s with heap:=h' }):Nq (model prog w) A (pyNext (.ref I)) Q E s:=by
 obtain⟨o,ho,hc,hd⟩:=hit;obtain⟨os,hos,hex,hds,hf⟩:=hX;have hT:s.TypeIs (.ref I) "set_iterator":=⟨o,ho,hc⟩
 unfold pyNext;refine j' (wpAny_attempt (NY (name:=N3 "__next__") hT fq (NT fq hT tW ?_ (ph _))));unfold Builtin.«set_iterator.__next__» slotArgs;simp only[List.isEmpty_nil,O9,NK,↓reduceIte,bind_assoc,length_nil,bne_self_eq_false];refine j' (Nc (j' (wpAny_fieldsOf ho hd ?_)));dsimp only;refine j' (wpAny_setEntries_of hos hds hf ?_);rw[Vd (by simp)];obtain⟨ot,nt,hot,hdt⟩:=hT';unfold seqItems?;refine j' (j' (wpAny_load hot ?_));rw[hdt];refine Nc ?_;dsimp only;rw[show ((i:Int)).toNat=i from toNat_natCast i,hp];dsimp only;unfold setNextDrawn;refine j' (j' (Px hos hds hf ?_));dsimp only;rw[show ((ep:Int)).toNat=ep from toNat_natCast ep,Vd (by simp),show ((k:Int)).toNat=k from toNat_natCast k,hx];refine Nc ?_;obtain⟨p1,p2,p3⟩:=t9 (k:=1) (v:=Pe ((i:Int)+1)) ho hc hd;refine j' (Pf ho hd (by simp) ?_);exact Nc ⟨_,rfl,Nc (hQ _ ⟨_,p1,p2,by rw[p3];simp[Pe]⟩ (N6 ..).extBut)⟩
def Fg {T:K'}{pl:Array Na}{Q:Option Na->Ng->Prop}(hh:A.handled=Nf) (hit:mo s.heap I a (.ref T) i es.size ep) (hX:wS s.heap a es ep t) (hT':IG s.heap T pl) (hp:pl[i]?=Nf)
 (hQ:∀ h',NI.ExtBut I s.heap h'->Q Nf { s with heap:=h' }):Nq (model prog w) A (pyNext (.ref I)) Q E s:=by
 obtain⟨o,ho,hc,hd⟩:=hit;obtain⟨os,hos,hex,hds,hf⟩:=hX;have hT:s.TypeIs (.ref I) "set_iterator":=⟨o,ho,hc⟩
 unfold pyNext;refine j' (wpAny_attempt (NY (name:=N3 "__next__") hT fq (NT fq hT tW ?_ (ph _))));unfold Builtin.«set_iterator.__next__» slotArgs;simp only[List.isEmpty_nil,O9,NK,↓reduceIte,bind_assoc,length_nil,bne_self_eq_false];refine j' (Nc (j' (wpAny_fieldsOf ho hd ?_)));dsimp only;refine j' (wpAny_setEntries_of hos hds hf ?_);rw[Vd (by simp)];obtain⟨ot,nt,hot,hdt⟩:=hT';unfold seqItems?;refine j' (j' (wpAny_load hot ?_));rw[hdt];refine Nc ?_;dsimp only;rw[show ((i:Int)).toNat=i from toNat_natCast i,hp];dsimp only;obtain⟨p1,p2,p3⟩:=t9 (k:=0) (v:=Pe 0) ho hc hd;refine j' (Pf ho hd (by simp) ?_);refine j' (Pf p1 p3 (by simp) ?_);refine xV (s0:=s) hh (λb o hb e=>?_) hQ;exact(N6 ..).extBut b o hb ((N6 ..).extBut b o hb e)
def tY {Q:Bool->Ng->Prop}(h:Q (p8 w) s):Nq (model prog w) A setsByText Q E s:=by
 unfold setsByText;exact j' (wpAny_askSetting (Nc h))
def vM {slot:Nat}{Q:Option (Na × Nat)->Ng->Prop}(hb:p8 w=G') (hX:wS s.heap a es ep t) (h:Q (((pickOrder (w.params.setOrder a ep) es)[i]?).map λe=>(e.2,slot)) s):Nq (model prog w) A (setNext a slot i ep) Q E s:=by
 obtain⟨os,hos,hex,hds,hf⟩:=hX;unfold setNext;refine j' (Px hos hds hf (j' (tY ?_)));dsimp only;rw[hb,Vc rfl,Vd (by simp)];unfold setWalk;refine j' (j' (Px hos hds hf (j' (tY ?_))));rw[hb,Vc rfl];exact j' (wpAny_askSetting (Nc (Nc h)))
def zc {slot:Nat}{Q:Option (Na × Nat)->Ng->Prop}(hb:p8 w=D') (hl:t.led=G') (h1:es.size <= 1) (hX:wS s.heap a es ep t)
 (h:Q (match es[OF t.place slot]?,t.place[OF t.place slot]? with|some (_,x),f' j=>f' (x,j+1)|_,_=>Nf) s):Nq (model prog w) A (setNext a slot i ep) Q E s:=by
 obtain⟨os,hos,hex,hds,hf⟩:=hX;unfold setNext;refine j' (Px hos hds hf (j' (tY ?_)));dsimp only;rw[hb,Vd (by decide)];have hd:¬ ((!t.plain && decide (es.size > 1))=G'):=by
  rw[decide_eq_false (by omega)];simp
 refine wpAny_ite_split (λhc=>absurd hc hd) λ_=>?_
 refine j' ?_;show Nq _ _ (if (!t.led && !es.isEmpty)=G' then _ else _) _ _ _;rw[hl,Vd (by simp)];exact Nc (Nc h)
theorem IE {α:Type}:∀ (xs:List α) (k:Nat) (h:k < xs.length),(xs[k] :: xs.eraseIdx k).Perm xs
|x :: xs,0,_=>PU.refl _
|x :: xs,k+1,h=>by
  have hk:k < xs.length:=Nat.lt_of_succ_lt_succ h;show (xs[k] :: x :: xs.eraseIdx k).Perm (x :: xs);exact(PU.swap x xs[k] _).trans ((IE xs k hk).cons x)
def A6 {M:Model}{src:Source}{n:Nat}{Q:Nat->Ng->Prop}(hn:n≠0) (h:∀ i dr,i < n->Q i { s with drawn:=dr }):Nq M A (choose src n) Q E s:=λΓ p hΓ=>by
 show Sem.wp M Γ (.choose src n .pure) _ _ p s;rw[Sem.wp_choose];refine⟨hn,?_⟩;simp only[Sem.wp_pure];exact h _ _ (Nat.mod_lt _ (Nat.pos_of_ne_zero hn))
theorem vm {α:Type}(next:Nat->Nat):∀ (fuel k:Nat) (left:List α) (out:Array α),left.length=fuel->(pickOrder.go next fuel k left out).toList.Perm (out.toList++left)
|0,k,left,out,h=>by
  obtain rfl:=Ot.mp h;rw[O5];exact PU.refl _
|fuel+1,k,left,out,h=>by
  have hlt:next k % left.length < left.length:=Nat.mod_lt _ (by omega);show (match left[next k % left.length]? with|some x=>pickOrder.go next fuel (k+1) (left.eraseIdx (next k % left.length)) (out.push x)|none=>out).toList.Perm _;rw[Nk hlt];refine(vm next fuel (k+1) _ _ (by rw[List.length_eraseIdx,Vc hlt];omega)).trans ?_;rw[Array.toList_push,N4];refine PN _ ?_;exact IE left _ hlt
theorem rY {α:Type}{Q:List α->Ng->Prop}:∀ (n:Nat) (xs:List α) (s:Ng),xs.length=n->(∀ ys dr,ys.Perm xs->Q ys { s with drawn:=dr })->Nq (model prog w) A (drawOrder n xs) Q E s
|0,xs,s,h,q=>by
  obtain rfl:=Ot.mp h;exact Nc (q [] s.drawn (PU.refl _))
|n+1,[],s,h,q=>by cases h
|n+1,x :: xs,s,h,q=>by
  unfold drawOrder;refine j' (A6 (by intro z;cases z) λi dr hi=>?_);rw[Nk hi];dsimp only;refine j' (rY n _ { s with drawn:=dr } (by rw[List.length_eraseIdx,Vc hi,h];rfl) λys dr' hp=>Nc ?_);exact q _ dr' ((hp.cons _).trans (IE (x :: xs) i hi))
end
section
variable {prog:ND}{w:Nt}{A:NN}{E:Na->Ng->Prop}{s:Ng}{I a:K'}{ep:Nat}{es:Array (Int × Na)}{t:OA}
def B6 (w:Nt) (a:K') (ep:Nat) (es:Array (Int × Na)):List Na:=(pickOrder (w.params.setOrder a ep) es).toList.map (·.2)
def qx:(B6 w a ep es).Perm (es.toList.map (·.2)):=(vm _ es.size 0 es.toList #[] (by simp)).map _
def BN (hb:p8 w=G') (hh:A.handled=Nf) (hne:a≠I):Walks prog w A I [I,a] [I] es.size (λi v=>(B6 w a ep es)[i]?=f' v) (λi h=>mo h I a (.int (0:Nat) 0) i es.size ep/\wS h a es ep t) where
 sub:=λb hb=>by simp at hb;simp[hb]
 frame:=λ_ _ _ st hk=>⟨st.1.at' λo e=>hk I (by simp) o e,st.2.at' λo e=>hk a (by simp) o e⟩
 item:=λi s Q E hi st hQ=>by
  have hl:(B6 w a ep es).length=es.size:=by have:=(qx (w:=w) (a:=a) (ep:=ep) (es:=es)).length_eq;simpa using this
  have hx:(B6 w a ep es)[i]?=f' (B6 w a ep es)[i]:=Nk (by omega);refine yn (nx:=0) (x:=(B6 w a ep es)[i]) st.1 st.2 (λA' Q' E' q=>vM hb st.2 ?_) λh' si eb=>hQ _ h' s.toks hx ⟨si,st.2.at' λo e=>eb _ _ hne e⟩ λb o hb e=>eb b o (λz=>hb (by simp[z])) e
  have hm:((pickOrder (w.params.setOrder a ep) es)[i]?).map (·.2)=f' (B6 w a ep es)[i]:=by
   rw[<-hx];unfold B6;rw[NL,N0]
  cases hp:(pickOrder (w.params.setOrder a ep) es)[i]? with
 |none=>rw[hp]at hm;cases hm
 |some p =>
   rw[hp]at hm;have hm':p.2=(B6 w a ep es)[i]:=NH hm;show Q' (f' (p.2,0)) s;rw[hm'];exact q
 done:=λs Q E st hQ=>by
  have hl:(B6 w a ep es).length=es.size:=by have:=(qx (w:=w) (a:=a) (ep:=ep) (es:=es)).length_eq;simpa using this
  refine yS hh st.1 st.2 (λA' Q' E' q=>vM hb st.2 ?_) λh' eb=>hQ h' s.toks λb o hb e=>eb b o (λz=>hb (by simp[z])) e
  have:(pickOrder (w.params.setOrder a ep) es)[es.size]?=Nf:=by
   rw[<-N0];refine List.getElem?_eq_none ?_;unfold B6 at hl;rw[Nu]at hl;omega
  rw[this];exact q
 self:=λ_ _ _ _ st hQ=>ui st.1 hQ
def Bp {T:K'}{pl:Array Na}(hh:A.handled=Nf) (hne:a≠I) (hnT:T≠I) (hpl:pl.size=es.size) {ord:List Na}(hord:∀ i,i < es.size->∃ k hv v,pl[i]?=f' (.int (k:Nat) 0)/\es[k]?=f' (hv,v)/\ord[i]?=f' v) :
 Walks prog w A I [I,a,T] [I] es.size (λi v=>ord[i]?=f' v) (λi h=>mo h I a (.ref T) i es.size ep/\wS h a es ep t/\IG h T pl) where
 sub:=λb hb=>by simp at hb;simp[hb]
 frame:=λ_ _ _ st hk=>⟨st.1.at' λo e=>hk I (by simp) o e,st.2.1.at' λo e=>hk a (by simp) o e,by obtain⟨o,n,h1,h2⟩:=st.2.2;exact⟨o,n,hk T (by simp) _ h1,h2⟩⟩
 item:=λi s Q E hi st hQ=>by
  obtain⟨k,hv,v,h1,h2,h3⟩:=hord i hi;refine EU st.1 st.2.1 st.2.2 h1 h2 λh' si eb=>hQ _ h' s.toks h3 ⟨si,st.2.1.at' λo e=>eb _ _ hne e,?_⟩ λb o hb e=>eb b o (λz=>hb (by simp[z])) e
  obtain⟨o,n,g1,g2⟩:=st.2.2;exact⟨o,n,eb _ _ hnT g1,g2⟩
 done:=λs Q E st hQ=>Fg hh st.1 st.2.1 st.2.2 (by rw[<-hpl];simp) λh' eb=>hQ h' s.toks λb o hb e=>eb b o (λz=>hb (by simp[z])) e
 self:=λ_ _ _ _ st hQ=>ui st.1 hQ
def slO (t:OA):Nat->Nat
|0=>0
|_+1=>t.place.getD 0 0+1
def FZ {p:Array Nat}(h:p.size=1):OF p 0=0/\OF p (p.getD 0 0+1)=1:=by
 obtain⟨x,rfl⟩:∃ x,p=#[x]:=by
  rcases p with⟨l⟩
  match l,h with
 |[x],_=>exact⟨x,rfl⟩
 constructor
 . simp[OF,OF.go]
 . simp[OF,OF.go]
def DA (hb:p8 w=D') (hl:t.led=G') (hf:t.place.size=es.size) (h1:es.size <= 1) (hh:A.handled=Nf) (hne:a≠I):Walks prog w A I [I,a] [I] es.size (λi v=>(es.toList.map (·.2))[i]?=f' v) (λi h=>mo h I a (.int (slO t i:Nat) 0) i es.size ep/\wS h a es ep t) where
 sub:=λb hb=>by simp at hb;simp[hb]
 frame:=λ_ _ _ st hk=>⟨st.1.at' λo e=>hk I (by simp) o e,st.2.at' λo e=>hk a (by simp) o e⟩
 item:=λi s Q E hi st hQ=>by
  have hs:es.size=1:=by omega
  obtain rfl:i=0:=by omega
  obtain⟨b0,_⟩:=FZ (hf.trans hs);have he:es[0]?=f' es[0]:=NJ (by omega);have hp:t.place[0]?=f' (t.place.getD 0 0):=by
   have h0:0 < t.place.size:=by omega
   rw[NJ h0];simp[Array.getD,h0]
  refine yn (nx:=t.place.getD 0 0+1) (x:=es[0].2) st.1 st.2 (λA' Q' E' q=>zc hb hl h1 st.2 ?_) λh' si eb=>hQ _ h' s.toks ?_ ⟨si,st.2.at' λo e=>eb _ _ hne e⟩ λb o hb e=>eb b o (λz=>hb (by simp[z])) e
  . show Q' (match es[OF t.place 0]?,t.place[OF t.place 0]? with|some (_,x),f' j=>f' (x,j+1)|_,_=>Nf) s;rw[b0,he,hp];exact q
  . rw[NL,N0,he];rfl
 done:=λs Q E st hQ=>by
  refine yS hh st.1 st.2 (λA' Q' E' q=>zc hb hl h1 st.2 ?_) λh' eb=>hQ h' s.toks λb o hb e=>eb b o (λz=>hb (by simp[z])) e
  have:es[OF t.place (slO t es.size)]?=Nf:=by
   refine Array.getElem?_eq_none ?_;rcases Nat.lt_or_ge 0 es.size with z|z
   . have hs:es.size=1:=by omega
     obtain⟨_,b1⟩:=FZ (hf.trans hs);rw[hs];show 1 <= OF t.place (t.place.getD 0 0+1);rw[b1];exact Nm _
   . omega
  rw[this];exact q
 self:=λ_ _ _ _ st hQ=>ui st.1 hQ
def DT {Q:Na->Ng->Prop}(hX:wS s.heap a es ep t) (hl:t.led=!p8 w) (hp:0 < es.size->t.plain=D') (hz:es.size <= Nl)
 (hQ:∀ (I:K') (fp:List K') (ord:List Na) (h':NI) (dr:Drawn) (St:Nat->NI->Prop),(∀ A':NN,A'.handled=Nf->Walks prog w A' I fp [I] es.size (λi v=>ord[i]?=f' v) St)->St 0 h'->ord.Perm (es.toList.map (·.2))->(∀ b o,s.heap.get? b=f' o->h'.get? b=f' o)->(∀ b∈fp,b=a\/s.heap.objs.size <= b)->s.heap.objs.size <= I->Q (.ref I) { s with heap:=h',drawn:=dr }) :
 Nq (model prog w) A (pyIter (.ref a)) Q E s:=by
 obtain⟨os,hos,hex,hds,hf⟩:=id hX;have hT:s.TypeIs (.ref a) "set":=⟨os,hos,hex.1⟩
 have hlt:a < s.heap.objs.size:=Nx hos;refine wpAny_pyIter_slot hT F.slot_set_iter (NT F.slot_set_iter hT Bv ?_ (F.args_set_iter_1 _));unfold Builtin.«frozenset.__iter__» Builtin.Frozenset.slot0 slotArgs;simp only[List.isEmpty_nil,O9,NK,↓reduceIte,bind_assoc,length_nil,bne_self_eq_false];unfold Builtin.Frozenset.addrOf Builtin.Frozenset.sizeOf;refine j' (Nc ?_)
 try dsimp only
 refine j' (Nc ?_);refine j' (j' (wpAny_setEntries_of hos hds hf (Nc ?_)));unfold setDrawn;refine j' (j' (Px hos hds hf (j' (tY (Nc ?_)))));have fin:∀ (first:Na) (h1:NI) (dr:Drawn),(∀ b o,s.heap.get? b=f' o->h1.get? b=f' o)->s.heap.objs.size <= h1.objs.size ->
  (∀ I h',h'=h1.push { cls:=.type "set_iterator",data:=.fields #[first,Pe 0,.ref a,Pe es.size,Pe ep] }->I=h1.objs.size->Q (.ref I) { s with heap:=h',drawn:=dr }) ->
  Nq (model prog w) A.in1 (do let e <-setEpoch a;let r <-newFields "set_iterator" [first,Pe 0,NP a,Pe es.size,Pe e];ret r)
   (λfin s'=>∃ v,fin=Fin.done (Flow.ret v)/\∃ T' r,s'.TypeIs v T'/\typeLookup (Na.type T') (N3 "__next__")=pure (f' r)/\Q v s') E { s with heap:=h1,drawn:=dr }:=λfirst h1 dr hk hs hq=>by
  refine j' (wpAny_setEpoch_of (hk _ _ hos) hds hf (j' (Ob ?_ (by size_fits))));exact Nc ⟨_,rfl,"set_iterator",_,⟨_,Nr _ rfl,rfl⟩,fq.lookup,hq _ _ rfl rfl⟩
 have sit:∀ (first:Na) (h1:NI),mo (h1.push { cls:=.type "set_iterator",data:=.fields #[first,Pe 0,.ref a,Pe es.size,Pe ep] }) h1.objs.size a first 0 es.size ep:=λfirst h1=>⟨_,Nr _ rfl,rfl,rfl⟩
 have hpp:∀ (h1:NI) (ob:Ow),(∀ b o,s.heap.get? b=f' o->h1.get? b=f' o)->∀ b o,s.heap.get? b=f' o->(h1.push ob).get? b=f' o:=λh1 ob hk b o e=>Nb _ (hk b o e)
 refine wpAny_ite_split (λhc=>?_) λhc=>?_
 . refine j' (rY es.size (PQ es.size) s (by simp) λys dr hpm=>j' ?_);have hyl:ys.length=es.size:=by have:=hpm.length_eq;simpa using this
   simp only[newTuple];refine Ob ?_ (by show ((ys.map λ(i:Nat)=>Pe i).toArray).size <= Nl;rw[NC,Nu,hyl];exact hz);refine fin _ _ dr (λb o e=>Nb _ e) (by rw[N9];exact le_succ _) λI h' hh' hI=>?_
   subst hh' hI;have hsz:(s.heap.push { cls:=.type "tuple",data:=.seq (ys.map λ(i:Nat)=>Pe i).toArray }).objs.size=s.heap.objs.size+1:=N9 s.heap { cls:=.type "tuple",data:=.seq (ys.map λ(i:Nat)=>Pe i).toArray };refine hQ _ [_,a,s.heap.objs.size] (ys.map λk=>(es.getD k default).2) _ dr _ (λA' hA=>Bp (T:=s.heap.objs.size) (pl:=(ys.map λ(i:Nat)=>Pe i).toArray) (t:=t) (ep:=ep) hA (NZ (Nat.lt_of_lt_of_eq (lt_succ_of_lt hlt) hsz.symm)) (NZ (Nat.lt_of_lt_of_eq (lt_succ_self _) hsz.symm)) (by simp[hyl]) λi hi=>?_) ⟨sit _ _,hX.at' λo e=>hpp _ _ (λb o e=>Nb _ e) _ _ e,_,_,Nb _ (Nr _ rfl),rfl⟩ ?_ (hpp _ _ λb o e=>Nb _ e) (λb hb=>?_) (Nat.le_of_lt (Nat.lt_of_lt_of_eq (lt_succ_self _) hsz.symm))
   . have hi':i < ys.length:=by omega
     have hy:ys[i] < es.size:=by
      have:=hpm.mem_iff.mp (getElem_mem hi');exact mem_range.mp this
     refine⟨ys[i],es[ys[i]].1,es[ys[i]].2,?_,?_,?_⟩
     . rw[<-N0,NL,Nk hi'];rfl
     . rw[NJ hy]
     . rw[NL,Nk hi'];simp[Array.getD,hy]
   . refine(hpm.map _).trans ?_;have:(PQ es.size).map (λk=>(es.getD k default).2)=es.toList.map (·.2):=by
      refine List.ext_getElem (by simp) λi h1 h2=>?_
      have hi:i < es.size:=by simpa using h1
      simp[Array.getD,hi]
     rw[this]
   . simp only[NA,N8,or_false]at hb;rcases hb with z|z|z
     . right;rw[z];exact Nat.le_of_lt (Nat.lt_of_lt_of_eq (lt_succ_self _) hsz.symm)
     . exact .inl z
     . right;rw[z];exact Nm _
 . refine j' (Nc ?_);show Nq _ _ _ _ _ { s with heap:=s.heap,drawn:=s.drawn };refine fin _ _ _ (λb o e=>e) (Nm _) λI h' hh' hI=>?_
   subst hh' hI;cases hb:p8 w with
  |true =>
    exact hQ _ [_,a] _ _ _ _ (λA' hA=>BN (t:=t) (ep:=ep) hb hA (NZ hlt)) ⟨sit _ _,hX.at' λo e=>Nb _ e⟩ qx (λb o e=>Nb _ e) (λb hb=>by
     simp only[NA,N8,or_false]at hb;rcases hb with z|z
     . right;rw[z];exact Nm _
     . exact .inl z) (Nm _)
  |false =>
    rw[hb]at hl hc;have h1:es.size <= 1:=by
     rcases Nat.lt_or_ge 1 es.size with z|z
     . refine absurd (show (!false && (!t.plain && decide (es.size > 1)))=G' from ?_) hc;rw[hp (by omega),Vf z];rfl
     . exact z
    have hpl:t.place.size=es.size:=by
     unfold OA.fits at hf;simp only[Om,beq_iff_eq]at hf;exact hf.1
    exact hQ _ [_,a] _ _ _ _ (λA' hA=>DA (ep:=ep) hb hl hpl h1 hA (NZ hlt)) ⟨sit _ _,hX.at' λo e=>Nb _ e⟩ (PU.refl _) (λb o e=>Nb _ e) (λb hb=>by
     simp only[NA,N8,or_false]at hb;rcases hb with z|z
     . right;rw[z];exact Nm _
     . exact .inl z) (Nm _)
end
section
variable {prog:ND}{w:Nt}{A:NN}{E:Na->Ng->Prop}{s:Ng}{a:K'}{ep:Nat}{es:Array (Int × Na)}{t:OA}
def F8 {Q:Bool->Ng->Prop}(hT:s.TypeIs (.ref a) "set") (h:Q D' s):Nq (model prog w) A (Builtin.List.listLengthHint (.ref a)) Q E s:=by
 unfold Builtin.List.listLengthHint;refine j' (wpAny_specialOf hT PySem.F.slot_set_len.lookup ?_);generalize hid:("set.__len__":String)=id0
 wp_delta
 rw[show splitId id0=f' ("set","__len__") from by subst hid;decide +kernel];subst hid;refine j' (wpAny_isInstance (T:="set") (b:=G') hT (by rw[isSubtype_type];kernel_rfl) ?_);refine wpAny_ite_split (λhab=>absurd hab (by decide)) (λ_=>?_);refine wpAny_ite_split (λ_=>?_) (λhab=>absurd (by decide +kernel) hab);exact j' (wpAny_typeOf hT (Nc h))
def zM {R:Result->Ng->Prop}(hX:wS s.heap a es ep t) (hl:t.led=!p8 w) (hp:0 < es.size->t.plain=D') (hn:es.size <= Nl) (hh:A.handled=Nf) (S:K') (hSa:S≠a) (res:Na) (c₀:Nat) (hS:s.heap.get? S=f' { cls:=.type "list",data:=.seq #[] c₀ })
 (hR:∀ h' tk dr (acc:Array Na) c',(∀ b o,b≠S->s.heap.get? b=f' o->h'.get? b=f' o)->h'.get? S=f' { cls:=.type "list",dict:=Nf,data:=.seq acc c',slots:=#[] }->acc.toList.Perm (es.toList.map (·.2))->R (.ok (.ret res)) { s with heap:=h',toks:=tk,drawn:=dr }) :
 Nq (model prog w) A.in1 (Builtin.List.listExtendWith (.ref S) (.ref a) res)
  (λfin s'=>match fin with|.done f=>R (.ok f) s'|.again c'=>c'.quiet=G'/\codeAny (model prog w) A c' R s') (λe s'=>R (.error e) s') s:=by
 obtain⟨os,hos,hex,hds,hf⟩:=id hX;have hT:s.TypeIs (.ref a) "set":=⟨os,hos,hex.1⟩
 have hlt:S < s.heap.objs.size:=Nx hS;unfold Builtin.List.listExtendWith;refine j' (wpAny_typeOf (T:="set") hT ?_);have h1:Builtin.List.listSameRef (.ref S) (.ref a)=D':=by simp[Builtin.List.listSameRef,hSa]
 simp only[h1,show (Na.type "set" == Na.type "list")=D' by decide,show (Na.type "set" == Na.type "tuple")=D' by decide,Bool.or_false,NK,if_false];refine j' (DT hX hl hp hn λI fp ord h1 dr St W st hord hk hfp hI=>?_);have hSI:S≠I:=NZ (Nn hlt hI);have hSf:S ∉ fp:=λz=>by
  rcases hfp S z with y|y
  . exact hSa y
  . exact absurd (Nn hlt y) (O2 _)
 have key:∀ (h:NI) (c₁ tk:Nat),St 0 h->(∀ b o,b≠S->s.heap.get? b=f' o->h.get? b=f' o)->h.get? S=f' { cls:=.type "list",data:=.seq #[] c₁ } ->
  codeAny (model prog w) A (.builtin "list.extend.loop" ⟨[.ref S,.ref I,res],[]⟩) R { s with heap:=h,toks:=tk,drawn:=dr }:=by
  intro h c₁ tk hst hk' hS₁;refine codeAny_extend_loopS (W A.in1 hh).toS hn S hSf res es.size 0 _ #[] c₁ rfl (Ou _) hst hS₁ (ItemsOf.nil _) λs' acc' c' hm hS' hacc=>?_
  rw[Moved.eq_with hm];refine hR s'.heap s'.toks dr acc' c' (λb o hb e=>hm.heap b o (λhmem=>?_) (hk' b o hb e)) hS' ?_
  . rcases NA.mp hmem with z|z
    . exact hb z
    . have:=Nx e;rw[Nd.mp z]at this;exact absurd (Nn this hI) (O2 _)
  . have hol:=hord.length_eq;rw[Nu,NO]at hol;have hol:ord.length=es.size:=hol;have:acc'.toList=ord:=by
     refine List.ext_getElem (by rw[NO];exact hacc.1.trans hol.symm) λi g1 g2=>?_
     have:ord[i]?=f' acc'.toList[i]:=hacc.2 i acc'.toList[i] (by rw[<-N0];exact Nk g1);rw[Nk g2]at this;exact(NH this).symm
    rw[this];exact hord
 have hS₁:=hk _ _ hS;refine j' (N2 (F8 (s:={ s with heap:=h1,drawn:=dr }) ⟨os,hk _ _ hos,hex.1⟩ ?_));refine wpAny_ite_split (λ_=>?_) (λ_=>Nc ⟨plainId_quiet PySem.F.plain_extend_loop _,key _ c₀ _ st (λb o _ e=>hk b o e) hS₁⟩);refine j' (OH (j' ?_));show Nq _ _ (updateSeq S (·.push .none) >>= λ_=>updateSeq S (·.pop)) _ _ _;refine j' (wpAny_updateSeq hS₁ rfl ?_);have hS₂:=Ov (PZ (·.push Of)) hS₁ rfl;refine wpAny_updateSeq (hz:=by seq_fits) hS₂ rfl ?_;have hS₃:=Ov (PZ (·.pop)) hS₂ rfl;refine Nc ⟨plainId_quiet PySem.F.plain_extend_loop _,key _ _ _ ?_ (λb o hb e=>?_) hS₃⟩
 . refine(W A hh).frame 0 _ _ st λb hb o e=>?_
   have hbS:b≠S:=λz=>hSf (z ▸ hb)
   exact(OV _ _ (Pg hbS)).trans ((OV _ _ (Pg hbS)).trans e)
 . exact(OV _ _ (Pg hb)).trans ((OV _ _ (Pg hb)).trans (hk b o e))
def xj {R:List Na->Ng->Prop}(hX:wS s.heap a es ep t) (hl:t.led=!p8 w) (hp:0 < es.size->t.plain=D') (hn:es.size <= Nl) (hh:A.handled=Nf)
 (h:∀ (h':NI) (tk:Nat) (dr:Drawn) (acc:Array Na),(∀ b o,s.heap.get? b=f' o->h'.get? b=f' o)->acc.toList.Perm (es.toList.map (·.2))->R acc.toList { s with heap:=h',toks:=tk,drawn:=dr }) :
 Nq (model prog w) A (collect (.ref a)) R E s:=by
 obtain⟨os,hos,hex,hds,hf⟩:=id hX;have hlt:a < s.heap.objs.size:=Nx hos;unfold collect;refine j' (wpAny_runValue (codeAny_builtin entry_proto_collect' ?_));rw[NN.under_plainId PySem.F.plain_proto_collect _];show Nq _ A.in1 (newList [] >>= λl=>again (.builtin "list.__iadd__" ⟨[l,.ref a],[]⟩)) _ _ s;refine j' (Ob (Nc ⟨plainId_quiet PySem.F.plain_list_iadd _,codeAny_builtin entry_list_iadd' ?_⟩));rw[NN.under_plainId PySem.F.plain_list_iadd _];have hS₁:(s.heap.push { cls:=.type "list",data:=.seq ([]:List Na).toArray }).get? s.heap.objs.size=f' { cls:=.type "list",data:=.seq #[] }:=Nr _ rfl;show Nq _ A.in1 (Builtin.List.listExtendWith (.ref s.heap.objs.size) (.ref a) (.ref s.heap.objs.size)) _ _ _;have key:=zM (prog:=prog) (A:=A) (s:={ s with heap:=s.heap.push { cls:=.type "list",data:=.seq ([]:List Na).toArray } })
  (R:=λ(q:Result) (s':Ng)=>∃ (h':NI) (tk:Nat) (dr:Drawn) (acc:Array Na) (c':Nat),q=.ok (.ret (.ref s.heap.objs.size))/\s'={ s with heap:=h',toks:=tk,drawn:=dr } /\
   (∀ b o,s.heap.get? b=f' o->h'.get? b=f' o)/\h'.get? s.heap.objs.size=f' { cls:=.type "list",dict:=Nf,data:=.seq acc c',slots:=#[] }/\acc.toList.Perm (es.toList.map (·.2)))
  (hX.at' λo e=>Nb _ e) hl hp hn hh s.heap.objs.size (ne_of_gt hlt) (.ref s.heap.objs.size) 0 hS₁
  (λh' tk dr acc c' hk hS' hacc=>⟨h',tk,dr,acc,c',rfl,rfl,λb o e=>hk b o (NZ (Nx e)) (Nb _ e),hS',hacc⟩)
 refine PL key (λfin s' x=>?_) λe s' x=>?_
 . cases fin with
  |done f =>
    obtain⟨h',tk,dr,acc,c',e,rfl,hk,hS',hacc⟩:=x;cases e;show Nq _ A (load s.heap.objs.size >>= _) _ _ _;exact j' (wpAny_load hS' (Nc (h h' tk dr acc hk hacc)))
  |again c₁ =>
    refine⟨x.1,codeAny_mono x.2 λq s₂ y=>?_⟩;obtain⟨h',tk,dr,acc,c',rfl,rfl,hk,hS',hacc⟩:=y;show Nq _ A (load s.heap.objs.size >>= _) _ _ _;exact j' (wpAny_load hS' (Nc (h h' tk dr acc hk hacc)))
 . obtain⟨_,_,_,_,_,e',_⟩:=x;cases e'
end
def Ic (w:Nt) (p:K') (ks:List Str):HO:=.ext λh=>uw w h p ks (!p8 w)
def Do (ss:List Str):List Str:=ss.foldl r0 []
def BX (ss:List Str):AZ (λi=>ss.getD i "") ss.length=Do ss:=by
 have key:∀ (n:Nat),n <= ss.length->AZ (λi=>ss.getD i "") n=(ss.take n).foldl r0 []:=λn=>by
  induction n with
 |zero=>intro _;rfl
 |succ n ih =>
   intro h;rw[qw,ih (by omega),take_succ,Nk (by omega),List.foldl_append];show r0 _ _=r0 _ _;rw[OW,Nk (by omega)];rfl
 rw[key _ (Nm _),take_length];rfl
def C0 (ss:List Str):(Do ss).length <= ss.length:=by rw[<-BX];exact tN _ _
def G9:Oa "set"=f' (.type "set"):=by decide +kernel
theorem Bx:∀ {ss:List Str}{us:List Na},bQ (ss.map V.str) us->StrsAre us ss
|[],_,h=>by cases h;exact .nil
|x :: ss,_,h=>by
  cases h with
 |cons r t =>
   obtain⟨tk,rfl⟩:=r;exact .cons _ tk (Bx t)
theorem xI:∀ {us:List Na}{ss:List Str},StrsAre us ss->bQ (ss.map V.str) us
|_,_,.nil=>.nil
|_,_,.cons _ t h=>.cons ⟨t,rfl⟩ (xI h)
section
variable {X:Cx}
def Inv.dr {P2:List (K' × Ow)}{σ:St}{H:Hp}{s:Ng}(I:Inv X P2 σ H s) (dr:Drawn):Inv X P2 σ H { s with drawn:=dr }:=⟨I.ok,I.os,I.bare,I.base,I.loc,I.cell,I.free,I.freeC,I.pin,I.hok,I.len⟩
def vn (hc:X.calm=G'):mW X (.type "set") (λxs H Q=>∃ (p:K') (ss:List Str),xs=[.ref p]/\SqL X.K H p (ss.map V.str)/\ss.length < 1000/\∀ q,H q=Nf->Q (.ref q) (upd H q (Ic X.w q (Do ss)))):=by
 intro P2 s σ H xs us Q I r h;obtain⟨p,ss,rfl,hq,h60,q⟩:=h;obtain⟨u,rfl,rx⟩:=mO r;cases rx;obtain⟨its,r',⟨o,n,ho,hcl,hdi,hda⟩,hz⟩:=I.list hq;have hS:StrsAre its ss:=Bx r';have hil:its.length=ss.length:=by have:=r'.length;rw[Nu]at this;exact this.symm
 refine DE (items:=its.toArray) (ss:=ss) (I.ok.hd hc) ⟨o,ho,hcl,n,hda⟩ hS (by rw[NC,hil];show _ < 4096;omega) λh' tk S' hk=>?_
 rw[show its.toArray.size=ss.length from (NC ..).trans hil,BX]at S';refine⟨.ref s.heap.objs.size,_,I.laid (t':=tk) (o:=Ic X.w s.heap.objs.size (Do ss)) (λb o e=>hk b o (Nx e) e) (Nm _) ?_,rfl,q _ (I.hok.fresh (Nm _))⟩;refine⟨S',?_,λh1 h2 z e=>z.at' e⟩;obtain⟨o,_,_,_,ho,_⟩:=S';exact⟨o,ho⟩
def oa (hc:X.calm=G'):mW X (.builtin "sorted") (λxs H Q=>∃ (p:K') (ks:List Str),xs=[.ref p]/\H p=f' (Ic X.w p ks)/\ks.length < 64 /\
 ∀ (l:K') (ss:List Str),H l=Nf->ss.Perm ks->sortedS ss=G'->Q (.ref l) (upd H l (.lst (ss.map V.str)))):=by
 intro P2 s σ H xs us Q I r h;obtain⟨p,ks,rfl,hH,h64,q⟩:=h;obtain⟨u,rfl,rx⟩:=mO r;cases rx;obtain⟨S,_,_⟩:=I.hok _ _ hH;obtain⟨o,es,ep,t,ho,hex,hd,hel,hpm,hnd,hb,hf,hled,hpl⟩:=S;have hsz:es.size=ks.length:=by
  have:=hpm.length_eq;rw[Nu,NO]at this;exact this
 refine Calls.call_function_entry kind_sorted plain_sorted entry_sorted (args_sorted1 _) ?_;unfold Builtin.«sorted»;refine j' (m:=checkCount "sorted" 1 1 _) (Nc ?_);refine j' (xj (A:=X.A.in1) (es:=es) ⟨o,ho,hex,hd,hf⟩ hled hpl (fits_of_scanBound hb) (I.ok.hd hc) λh' tk dr acc hkp hacc=>?_);have I1:Inv X P2 σ H { s with heap:=h',toks:=tk,drawn:=dr }:=(I.kept (t':=tk) hkp).dr dr;have hall:∀ v∈acc.toList,∃ x tk,v=.str x tk:=λv hv=>by
  obtain⟨e,he,rfl⟩:=O1.mp (hacc.mem_iff.mp hv);obtain⟨k,tk,rfl⟩:=hel e he;exact⟨k,tk,rfl⟩
 have hA:=strsAre_map acc.toList hall;have hpk:(acc.toList.map strOf).Perm ks:=by
  refine(hacc.map strOf).trans ?_;rw[map_map];exact hpm
 have hal:acc.toList.length < 64:=by
  have:=hacc.length_eq;rw[Nu,NO (xs:=es)]at this;omega
 refine j' (wpAny_newList ?_ (NS (Nat.le_of_lt hal) (by decide)));have hoL:(h'.push (seqObj "list" acc.toList.toArray 0)).get? h'.objs.size=f' (seqObj "list" acc.toList.toArray 0):=Nr _ rfl;show Nq _ _ _ _ _ { s with heap:=h'.push (seqObj "list" acc.toList.toArray 0),toks:=tk,drawn:=dr };refine j' (N2 (NT slot_list_sort ⟨_,hoL,rfl⟩ entry_list_sort (list_sort_treeK strKind_oneLt hoL hA.keysOf (λv₁ v₂ ck e=>keyKind_strs (by rw[<-e];exact hA)) hal λst' a1 a2=>⟨_,rfl,?_⟩) (args_list_sort _)));obtain⟨ss,b1,b2,b3⟩:=sorted_out_str hA a1 a2;generalize (arrOf st').map (·.2)=out at b1;obtain⟨e,he⟩:=sortedHeap_at (out:=out) hoL;refine Nc ⟨_,rfl,.ref h'.objs.size,_,I1.laid (t':=tk) (o:=.lst (ss.map V.str)) (λb o' q=>?_) (Nm _) ?_,rfl,q _ _ (I1.hok.fresh (Nm _)) (b2.trans hpk) b3⟩
 . rw[sortedHeap_old (NZ (Nx q)) (by rw[size_push'];exact lt_succ_of_lt (Nx q))];exact Nb _ q
 . have hl':=(b2.trans hpk).length_eq;exact⟨by rw[Nu];exact NS (show ss.length <= 64 by omega) (by decide),out.toList,e,xI b1,he⟩
end
def CL {l:List (Str × Tok)}:bQ ((l.map (·.1)).map V.str) (strValues l):=xI (strsAre_of_values l)
section
variable {X:Cx}
def Jj:V->List V->Hp->VK->Prop:=λx vs H Q=>∃ i j:Str,x=.str i/\vs=[.str j]/\(j.length == 0)=D'/\i.length <= 10000/\∀ l,H l=Nf->Q (.ref l) (upd H l (.lst ((Txt.split i j).map V.str)))
def CG (x y:Str):(Txt.split x y).length <= x.length+2:=by
 unfold Txt.split;split
 . show 1 <= _;omega
 . split
   . show 1 <= _;omega
   . rw[length_partsBetween];have e1:=StrLaws.occ_length_le x y 0 x.length (x.length+1);omega
def DZ:MtR X "str.split" Jj:=by
 intro P2 s σ H x vs v us Q I rx rv h;obtain⟨i,j,rfl,rfl,hj,hz,q⟩:=h;obtain⟨t,rfl⟩:=rx;obtain⟨u,rfl,tu,rfl⟩:=rv.one;have hs:10002 <= Nl:=by decide
 have fin:∀ (l:List (Str × Tok)) (k:Nat),l.map (·.1)=Txt.split i j->EP X P2 σ Q (.ref s.heap.objs.size) { s with heap:=s.heap.push { cls:=.type "list",data:=.seq (strValues l).toArray },toks:=k }:=λl k e=>by
  refine⟨.ref s.heap.objs.size,_,I.laid (t':=k) (o:=.lst ((Txt.split i j).map V.str)) (λb o e=>Nb _ e) (Nm _) ?_,rfl,q _ (I.hok.fresh (Nm _))⟩;refine⟨?_,strValues l,0,by rw[<-e];exact CL,Nr _ rfl⟩;rw[Nu];have:=CG i j;omega
 have hn:(Builtin.Str.partsBetween i (OQ i j 0 i.length (i.length+1)) j.length).length <= Nl:=by
  have e1:=StrLaws.occ_length_le i j 0 i.length (i.length+1);rw[length_partsBetween];omega
 cases h1:(decide (i.length < j.length) || decide (Builtin.Str.strKind i < Builtin.Str.strKind j))
 . cases hf:(OQ i j 0 i.length (i.length+1)).isEmpty
   . refine call_meets PySem.F.slot_str_split (typeIs_str _ _ _) PySem.F.entry_str_split (PySem.F.args_str_split_2 _ _) (meets_str_split_sep i j t tu h1 hj hf (by omega) hn) ?_;show wants _ _ _ { s with toks:=_,heap:=s.heap.push { cls:=.type "list",data:=.seq (strsFrom s.toks (Builtin.Str.partsBetween i (OQ i j 0 i.length (i.length+1)) j.length)).toArray } };rw[strsFrom_eq];exact fin (numbered s.toks _) _ ((numbered_texts _ _).trans ((Vd (ne_true_of_eq_false h1)).trans (Vd (ne_true_of_eq_false hf))).symm)
   . exact call_meets PySem.F.slot_str_split (typeIs_str _ _ _) PySem.F.entry_str_split (PySem.F.args_str_split_2 _ _) (meets_str_split_not_found i j t tu h1 hj hf) (fin [(i,t)] s.toks ((Vd (ne_true_of_eq_false h1)).trans (Vc hf)).symm)
 . exact call_meets PySem.F.slot_str_split (typeIs_str _ _ _) PySem.F.entry_str_split (PySem.F.args_str_split_2 _ _) (meets_str_split_cannot_occur i j t tu h1) (fin [(i,t)] s.toks (Vc h1).symm)
def De:MtR X "str.startswith" (λx vs H Q=>∃ i j:Str,x=.str i/\vs=[.str j]/\Q (.bl (Txt.startswith i j)) H):=by
 intro P2 s σ H x vs v us Q I rx rv h;obtain⟨i,j,rfl,rfl,q⟩:=h;obtain⟨t,rfl⟩:=rx;obtain⟨u,rfl,tu,rfl⟩:=rv.one;exact SC.startswith ⟨.bl _,H,I,rfl,q⟩
def wj:mW X (.type "int") (λxs H Q=>∃ (x:Str) (n:Int),xs=[.str x]/\PySem.intText? x=f' n/\x.length <= 640/\Q (.int n) H):=by
 intro P2 s σ H xs us Q I r h;obtain⟨x,n,rfl,hn,hl,q⟩:=h;obtain⟨u,rfl,t,rfl⟩:=mO r;exact PySem.W.KIN.call_text hn hl ⟨.int n,H,I.tok _,⟨_,rfl⟩,q⟩
def M4:R2:=λx y H Q=>∃ i j:Str,x=.str i/\y=.str j/\Q (.bl (!(OQ j i 0 j.length 1).isEmpty)) H
def JP:OpR X (Oi .In) M4:=Cb
def HM (x:Str) (lo hi:Option Int):Str:=if ((Oe lo hi 1 x.length).length == x.length)=G' then x else ⟨((Oe lo hi 1 x.length).filterMap (x.cps[·]?)).toArray⟩
def Kc:SlR X (λx lo hi H Q=>∃ i:Str,x=.str i/\(HM i lo hi).length <= 10000/\Q (.str (HM i lo hi)) H):=by
 intro P2 s σ H x v vl vu lo hi sl Q I rx hs pl pu h;obtain⟨i,rfl,hz,q⟩:=h;obtain⟨t,rfl⟩:=rx;refine⟨"str",_,PySem.F.slot_str_getitem.lookup,typeIs_str s i t,?_⟩;obtain⟨l,rfl,hl⟩:∃ l:Option (Int × Tok),vl=partValue l/\l.map (·.1)=lo:=by
  cases pl with
 |none=>exact⟨Nf,rfl,rfl⟩
 |int a b=>exact⟨f' (a,b),rfl,rfl⟩
 obtain⟨u,rfl,hu⟩:∃ u:Option (Int × Tok),vu=partValue u/\u.map (·.1)=hi:=by
  cases pu with
 |none=>exact⟨Nf,rfl,rfl⟩
 |int a b=>exact⟨f' (a,b),rfl,rfl⟩
 refine wpAny_getItem_str_slice (l:=l) (u:=u) (st:=Nf) hs rfl ?_;subst hl hu;unfold HM at q hz;unfold sliceMade slicePicked;show Made.post (if (((1:Int) == 1) && ((Oe (l.map (·.1)) (u.map (·.1)) 1 i.length).length == i.length))=G' then _ else _) _ _;rw[show ((1:Int) == 1)=G' from rfl,Bool.true_and];by_cases hc:((Oe (l.map (·.1)) (u.map (·.1)) 1 i.length).length == i.length)=G'
 . rw[Vc hc]at q |-;exact⟨.str i,H,I,⟨t,rfl⟩,q⟩
 . rw[Vd hc]at q hz |-;exact⟨NS hz (by decide),.str _,H,I.tok _,⟨_,rfl⟩,q⟩
def ItT (x:Str):It:=⟨λi _=>i < x.cps.size,λi H v H'=>H'=H/\∃ c,x.cps[i]?=f' c/\v=.str ⟨#[c]⟩,λi _=>x.cps.size <= i⟩
def EV {P:ND}{w:Nt}{K:Nh}{tg:Expr}(x:Str) (t:Tok) (it:K'):Turn P w K tg (ItT x) [it] it (λi h=>h.IsStrIter it "str_ascii_iterator" x t i) where
 mem:=by simp
 obj:=λi h st b hb=>by
  have e:b=it:=by simpa using hb
  subst e;obtain⟨o,e,c,d⟩:=st;exact⟨o,e,λv z=>by rw[d]at z;cases z⟩
 keep:=λi h h' st k=>by
  obtain⟨o,ho,r⟩:=st;exact⟨o,k it (by simp) o ho,r⟩
 item:=by
  intro X hP hw hK hc i P2 s σ H E I hf st hg;subst hP hw hK;have hg':i < x.cps.size:=hg;have hx:x.cps[i]?=f' x.cps[i]:=NJ hg';obtain⟨f0,f1,f2,f3,f4,f5⟩:=hf it (by simp);refine wpAny_pyNext_ascii_item st hx λh' st' sb=>?_
  have I1:Inv X P2 σ H { s with heap:=h',toks:=s.toks+1 }:=I.turned (t':=s.toks+1) (λb o hb e=>(sb.2 b hb).trans e) f0 f1 f3 f4 f5;obtain⟨o,e,c,d⟩:=id st';exact⟨_,rfl,CI (s:={ s with heap:=h',toks:=s.toks+1 }) e c d (by decide) ⟨.str ⟨#[x.cps[i]]⟩,H,I1,⟨_,rfl⟩,⟨rfl,_,hx,rfl⟩,st',λb hb=>(hf b hb).1⟩⟩
 done:=by
  intro X hP hw hK hc i P2 s σ H E I hf st hg;subst hP hw hK;obtain⟨f0,f1,f2,f3,f4,f5⟩:=hf it (by simp);have hg':x.cps.size <= i:=hg;exact wpAny_pyNext_ascii_end (I.ok.hd hc) st (Array.getElem?_eq_none hg') λh' eb=>⟨rfl,I.turned (t':=s.toks) (λb o hb e=>eb b o hb e) f0 f1 f3 f4 f5⟩
 self:=λ_ _ _ _ _ st h=>wpAny_pyIter_striter_ascii st h
def MR (tl:TE):TI:=λσ H R=>tl σ H λv H1=>∃ x:Str,v=.str x/\x.cps.all (· < 128)=G'/\R (ItT x) H1
def JT {tg l:Expr}{tl:TE}(hl:PE X l tl):PI X tg l (MR tl):=by
 intro P2 s σ H R I h;refine thn (hl P2 s σ H _ I h) λv s1 ur54=>?_
 obtain⟨x,H1,I1,r1,q1⟩:=ur54;obtain⟨a,e,ha,q⟩:=q1;subst e;obtain⟨t,rfl⟩:=r1;refine wpAny_pyIter_ascii ha ?_;refine⟨s1.heap.objs.size,[s1.heap.objs.size],_,_,H1,rfl,I1.kept (t':=s1.toks) λb o e=>Nb _ e,EV a t _,⟨_,Nr _ rfl,rfl,rfl⟩,λb hb=>?_,q⟩;have e:b=s1.heap.objs.size:=by simpa using hb
 subst e;exact I1.fpOk (Nm _) (I1.hok.fresh (Nm _))
end
section
variable {X:Cx}
def FW.at' {P2:List (K' × Ow)}{σ:St}{H:Hp}{s:Ng}{a:K'}{D:List (Str × K')}(T:FW X.K a D) (I:Inv X P2 σ H s):∃ o es ep,s.heap.get? a=f' o/\o.ExactDict/\o.data=.dict es ep/\KTD.Rows (λ(b:K') (v:Na)=>v=.ref b) es.toList D:=by
 obtain⟨_,o,es,ep,hl,hx,hd,hr⟩:=T;exact⟨o,es,ep,I.kIn a o hl,hx,hd,hr⟩
def K5 (D:List (Str × K')) (ty:TE):TE:=λσ H Q=>ty σ H λy H1=>∃ k,y=.str k/\Q (.bl (KTD.datumAt k D).isSome) H1
def JK (D:List (Str × K')) (ty:TE):TE:=λσ H Q=>ty σ H λy H1=>∃ k b,y=.str k/\KTD.datumAt k D=f' b/\Q (.ref b) H1
def Ey (D:List (Str × K')) (ty tx:TE):TE:=λσ H Q=>ty σ H λy H1=>tx σ H1 λz H2=>∃ k,y=.str k/\Q (match KTD.datumAt k D with|some b=>.ref b|none=>z) H2
variable {T:Str}{a:K'}{D:List (Str × K')}{e f:Expr}{ty tx:TE}{p apos cpos pos:Pos}
def Ek (hg:Gl X T) (hm:X.mg T=f' (.ref a)) (ht:FW X.K a D) (he:PE X e ty) (hdb:(T == ("__debug__":Str))=D':=by decide):PC X .In e (.Name T p) (K5 D ty):=by
 intro P2 s σ H Q I h;refine thn (he P2 s σ H _ I h) λiv s1 ⟨y,H1,I1,ry,k,ey,q⟩=>fJ I1 hg hm ?_ hdb
 subst ey;obtain⟨t,rfl⟩:=ry;obtain⟨o,es,ep,ho,hx,hd,hr⟩:=ht.at' I1;have hT:s1.TypeIs (.ref a) "dict":=⟨o,ho,hx.1⟩
 show Nq _ _ (do return Na.bool (<-contains (.ref a) (.str k t))) _ _ s1;refine j' ?_;unfold contains
 try with_reducible refine N2 ?_
 refine j' (wpAny_specialOf hT PySem.F.slot_dict_contains.lookup ?_);show Nq _ _ (if (f' (Na.builtin "dict.__contains__") == f' Of)=G' then _ else _) _ _ s1;rw[Vd (by rw[beq_builtin_none];exact Nz)];refine j' (wpAny_callSpecialUnlessNone?_slot (name:=N3 "__contains__") hT PySem.F.slot_dict_contains (NT PySem.F.slot_dict_contains hT PySem.F.entry_dict_contains ?_ (PySem.F.args_dict_contains_2 _ _)));show Nq _ _ (dictGet a (.str k t) >>= _) _ _ s1;refine j' (jv ho hd hr ?_);cases hat:KTD.datumAt k D with
|some b =>
  rw[hat]at q;show Nq _ _ (ret (.bool G')) _ _ _;exact Nc ⟨_,rfl,N5 (Nc ⟨.bl G',H1,I1.tok _,rfl,q⟩)⟩
|none =>
  rw[hat]at q;show Nq _ _ (Builtin.Dict.pendingKey? a (.str k t) >>= _) _ _ _;exact j' (wpAny_pendingKey_other ht.1 (Nc ⟨_,rfl,N5 (Nc ⟨.bl D',H1,I1.tok _,rfl,q⟩)⟩))
def Fy (hg:Gl X T) (hm:X.mg T=f' (.ref a)) (ht:FW X.K a D) (he:PE X e ty) (hs:M7 e) (hdb:(T == ("__debug__":Str))=D':=by decide):PE X (.Subscript (.Name T p) e pos) (JK D ty):=by
 intro P2 s σ H Q I h;refine Hb PySem.F.slot_dict_getitem.lookup hs (fJ I hg hm (thn (he P2 s σ H _ I h) λiv s2 ur55=>?_) hdb);obtain⟨y,H2,I2,ry,k,b,ey,hat,q⟩:=ur55;subst ey;obtain⟨t,rfl⟩:=ry;obtain⟨o,es,ep,ho,hx,hd,hr⟩:=ht.at' I2;have hT:s2.TypeIs (.ref a) "dict":=⟨o,ho,hx.1⟩
 refine⟨hT,?_⟩;unfold getItem
 try with_reducible refine N2 ?_
 refine j' (wpAny_sequenceKey hT (by decide) ?_);refine j' (NY (name:=N3 "__getitem__") hT PySem.F.slot_dict_getitem (NT PySem.F.slot_dict_getitem hT PySem.F.entry_dict_getitem ?_ (PySem.F.args_dict_getitem_2 _ _)));show Nq _ _ (dictGet a (.str k t) >>= _) _ _ s2;refine j' (jv ho hd hr ?_);rw[hat];exact Nc ⟨_,rfl,Nc ⟨.ref b,H2,I2.tok _,rfl,q⟩⟩
def AC (hg:Gl X T) (hm:X.mg T=f' (.ref a)) (ht:FW X.K a D) (he:PE X e ty) (hf:PE X f tx) (m:M2 X (.Name T p) "get" apos e f cpos) (hdb:(T == ("__debug__":Str))=D':=by decide):PE X (.Call (.Attribute (.Name T p) "get" apos) [e,f] [] cpos) (Ey D ty tx):=by
 intro P2 s σ H Q I h;refine wpAny_Call_method m.base m.few m.line O4 OX PySem.F.type_dict_get (fJ I hg hm ?_ hdb);obtain⟨o,es,ep,ho,hx,hd,hr⟩:=ht.at' I;refine⟨⟨o,ho,hx.1⟩,?_,?_⟩
 . intro b q;cases q;exact⟨o,ho,hx.2.1⟩
 . rw[m.trees];refine OT rfl (OP (OE (thn (he P2 s σ H _ I h) λiv s2 ⟨y,H2,I2,ry,q2⟩=>OE (thn (hf P2 s2 σ H2 _ I2 q2) λfv s3 ⟨z,H3,I3,rz,k,ey,q3⟩=>Py ?_))));subst ey;obtain⟨t,rfl⟩:=ry;obtain⟨o,es,ep,ho,hx,hd,hr⟩:=ht.at' I3;refine NT OX ⟨o,ho,hx.1⟩ PySem.F.entry_dict_get ?_ (PySem.F.args_dict_get_3 _ _ _);show Nq _ _ (dictGet a (.str k t) >>= _) _ _ s3;refine j' (jv ho hd hr ?_);cases hat:KTD.datumAt k D with
  |some b =>
    rw[hat]at q3;exact Nc ⟨_,rfl,.ref b,H3,I3.tok _,rfl,q3⟩
  |none =>
    rw[hat]at q3;show Nq _ _ (Builtin.Dict.missed a (.str k t) >>= _) _ _ _;exact j' (wpAny_missed_other ht.1 (Nc ⟨_,rfl,z,H3,I3.tok _,rz,q3⟩))
def EI {x y:Str}(hg:Gl X x) (hm:∃ t,X.mg x=f' (.str y t)) (hdb:(x == ("__debug__":Str))=D':=by decide):PE X (.Name x p) (tC (.str y)):=by
 obtain⟨t,hm⟩:=hm;intro P2 s σ H Q I h;exact fJ I hg hm ⟨.str y,H,I,⟨t,rfl⟩,h⟩ hdb
end
def blk:Str:=⟨#[32]⟩
def Gn:(" ":Str)=blk:=by decide +kernel
def NoB (x:Str):Prop:=32 ∉ x.cps.toList
def qN {x y:Str}(h:x.cps.toList=y.cps.toList):x=y:=by
 cases x;cases y;exact congrArg _ (Array.toList_inj.mp h)
theorem yr:∀ {xs us as bs:List Nat},32 ∉ xs->32 ∉ us->xs++32 :: as=us++32 :: bs->xs=us/\as=bs
|[],[],_,_,_,_,h=>⟨rfl,(List.cons.inj h).2⟩
|[],u :: us,_,_,_,hu,h=>absurd ((List.cons.inj h).1 ▸ Nv) hu
|x :: xs,[],_,_,hx,_,h=>absurd ((List.cons.inj h).1 ▸ Nv) hx
|x :: xs,u :: us,as,bs,hx,hu,h=>by
  obtain⟨h1,h2⟩:=List.cons.inj h;obtain⟨h3,h4⟩:=yr (λz=>hx (Nw _ z)) (λz=>hu (Nw _ z)) h2;exact⟨by rw[h1,h3],h4⟩
def mQ (x y:Str) (r:List Str):(Str.join blk (x :: y :: r)).cps.toList=x.cps.toList++32 :: (Str.join blk (y :: r)).cps.toList:=by
 rw[join_cons_cons];show (x.cps++blk.cps++(Str.join blk (y :: r)).cps).toList=_;rw[Array.toList_append,Array.toList_append,N4];rfl
theorem yd:∀ {ws us:List Str},ws≠[]->us≠[]->(∀ x∈ws,NoB x)->(∀ x∈us,NoB x)->Str.join blk ws=Str.join blk us->ws=us
|[],_,h,_,_,_,_=>absurd rfl h
|_,[],_,h,_,_,_=>absurd rfl h
|[x],[u],_,_,_,_,h=>by
  have h':x=u:=h;rw[h']
|[x],u :: v :: r,_,_,hx,_,h=>by
  have e:x.cps.toList=(Str.join blk (u :: v :: r)).cps.toList:=congrArg (λs:Str=>s.cps.toList) h;rw[mQ]at e;exact absurd (by rw[e];exact Oj _ Nv) (hx x Nv)
|x :: y :: r,[u],_,_,_,hu,h=>by
  have e:(Str.join blk (x :: y :: r)).cps.toList=u.cps.toList:=congrArg (λs:Str=>s.cps.toList) h;rw[mQ]at e;exact absurd (by rw[<-e];exact Oj _ Nv) (hu u Nv)
|x :: y :: r,u :: v :: t,_,_,hx,hu,h=>by
  have e:(Str.join blk (x :: y :: r)).cps.toList=(Str.join blk (u :: v :: t)).cps.toList:=congrArg (λs:Str=>s.cps.toList) h;rw[mQ,mQ]at e;obtain⟨h1,h2⟩:=yr (hx x Nv) (hu u Nv) e;have h3:=yd (ws:=y :: r) (us:=v :: t) (Pa _ _) (Pa _ _) (λz hz=>hx z (Nw _ hz)) (λz hz=>hu z (Nw _ hz)) (qN h2);rw[qN h1,h3]
def FH (x y:Str):Txt.split x y≠[]:=by
 unfold Txt.split;split
 . exact Pa _ _
 . split
   . exact Pa _ _
   . intro h;have:=congrArg O8 h;rw[length_partsBetween]at this;exact absurd this (by simp)
def nM {ws:List Str}(h:ws≠[]) (hb:∀ x∈ws,NoB x):Txt.split (PK " " ws) " "=ws:=by
 rw[Gn];refine yd (FH _ _) h (StrLaws.split_free _ 32) hb ?_;rw[StrLaws.join_split];exact StrLaws.glued_eq_join blk ws
def cm (i:Int):Str:=N3 (toString i)
def FC (m:Nat):(cm (m:Int)).cps.toList=(Nat.toDigits 10 m).map Char.toNat:=PySem.W.KIN.signs_num m
def EZ (m:Nat):(cm (-((m:Int)+1))).cps.toList=45 :: (Nat.toDigits 10 (m+1)).map Char.toNat:=by
 unfold cm;have e:toString (-((m:Int)+1))="-"++toString ((m+1:Nat):Int):=by
  have:-((m:Int)+1)=Int.negSucc m:=by omega
  rw[this];rfl
 rw[e];have h:=PySem.W.KIN.signs_num (m+1);rw[signs_ofString]at h |-;rw[String.toList_append,OS,h];rfl
def Gb (m:Nat):∀ c∈(Nat.toDigits 10 m).map Char.toNat,48 <= c/\c <= 57:=λc hc=>by
 obtain⟨ch,hch,e⟩:=O1.mp hc;rw[<-e];exact digit_range (Nat.isDigit_of_mem_toDigits (by decide) (by decide) hch)
def B9 {m:Nat}(h:m <= 1000000000):1 <= (Nat.toDigits 10 m).length/\(Nat.toDigits 10 m).length <= 10:=by
 have h1:1 <= (Nat.toDigits 10 m).length:=toDigits_len_ge 10 m;have h2:=PySem.W.KT.len_num (n:=(m:Int)) (by omega) (by omega);have h3:=congrArg O8 (PySem.W.KIN.signs_num m);rw[Nu,NO]at h3;refine⟨h1,?_⟩;rw[<-h3];exact h2
def mE (i:Int) (h:-1000000000 <= i/\i <= 1000000000):∃ (m:Nat) (ds:List Nat),(∀ c∈ds,48 <= c/\c <= 57)/\1 <= ds.length/\ds.length <= 10/\ds=(Nat.toDigits 10 m).map Char.toNat/\((i=m/\(cm i).cps.toList=ds)\/(i=-(m:Int)/\(cm i).cps.toList=45 :: ds)):=by
 by_cases h0:0 <= i
 . obtain⟨m,rfl⟩:=Int.eq_ofNat_of_zero_le h0;obtain⟨l1,l2⟩:=B9 (m:=m) (by omega);exact⟨m,_,Gb m,by rw[Nu];exact l1,by rw[Nu];exact l2,rfl,.inl ⟨rfl,FC m⟩⟩
 . obtain⟨m,hm⟩:∃ m:Nat,i=-((m:Int)+1):=⟨(-i - 1).toNat,by omega⟩
   subst hm;obtain⟨l1,l2⟩:=B9 (m:=m+1) (by omega);exact⟨m+1,_,Gb (m+1),by rw[Nu];exact l1,by rw[Nu];exact l2,rfl,.inr ⟨by omega,EZ m⟩⟩
def Ib (i:Int) (h:-1000000000 <= i/\i <= 1000000000):∀ c∈(cm i).cps.toList,c=45\/(48 <= c/\c <= 57):=λc hc=>by
 obtain⟨m,ds,hd,_,_,_,z⟩:=mE i h;rcases z with⟨_,e⟩|⟨_,e⟩
 . rw[e]at hc;exact .inr (hd c hc)
 . rw[e]at hc;rcases NA.mp hc with y|y
   . exact .inl y
   . exact .inr (hd c y)
def Ij (i:Int) (h:-1000000000 <= i/\i <= 1000000000):NoB (cm i):=λz=>by
 rcases Ib i h 32 z with y|y<;>omega
def kE (i:Int) (h:-1000000000 <= i/\i <= 1000000000):(cm i).length <= 11:=by
 obtain⟨m,ds,hd,_,l,_,z⟩:=mE i h;show (cm i).cps.size <= 11;rw[<-NO];rcases z with⟨_,e⟩|⟨_,e⟩
 . rw[e];omega
 . rw[e,NM];omega
def uL (i:Int) (h:-1000000000 <= i/\i <= 1000000000):PySem.intText? (cm i)=f' i:=by
 obtain⟨m,ds,hd,l1,l2,hm,z⟩:=mE i h;have hl:=kE i h;have hv:PySem.NumText.digitsVal ds=m:=by rw[hm];exact PySem.W.KIN.val_back m
 have hne:ds≠[]:=λy=>by rw[y]at l1;exact absurd l1 (by decide)
 rcases z with⟨e1,e⟩|⟨e1,e⟩
 . have:=PySem.intText_digits (x:=cm i) (by rw[e];exact hd) (by rw[e];exact hne) (by omega);rw[this,e,hv,e1]
 . have:=PySem.intText_neg (x:=cm i) e hd hne (by omega);rw[this,hv,e1]
def vI (i:Int):Str:=if Txt.startswith (cm i) "-"=G' then HM (cm i) (f' 1) Nf else cm i
def Kn (i:Int) (h:-1000000000 <= i/\i <= 1000000000):(∀ c∈(vI i).cps.toList,48 <= c/\c <= 57)/\1 <= (vI i).length/\(vI i).length <= 10:=by
 obtain⟨m,ds,hd,l1,l2,hm,z⟩:=mE i h;have mn:("-":Str)=⟨#[45]⟩:=by decide +kernel
 have st:∀ (c:Nat) (r:List Nat),Txt.startswith ⟨(c :: r).toArray⟩ ⟨#[45]⟩=decide (c=45):=λc r=>by
  unfold Txt.startswith Builtin.Str.subAt;have e1:((c :: r).toArray.extract 0 (0+(⟨#[45]⟩:Str).length))=#[c]:=by
   apply Array.toList_inj.mp;simp[Str.length]
  show (decide (0+1 <= (c :: r).toArray.size) && ((c :: r).toArray.extract 0 (0+(⟨#[45]⟩:Str).length) == #[45]))=_;rw[e1,Vf (by simp),Bool.true_and];by_cases hc:c=45
  . rw[hc];rfl
  . rw[decide_eq_false hc];simp[hc]
 unfold vI;rw[mn];rcases z with⟨e1,e⟩|⟨e1,e⟩
 . cases ds with
  |nil=>exact absurd l1 (by decide)
  |cons c r =>
    have en:cm i=⟨(c :: r).toArray⟩:=qN (by rw[e]);have hc:=hd c Nv;rw[en,st,decide_eq_false (by omega),Vd (by decide)];exact⟨λx hx=>hd x hx,by show 1 <= (c :: r).toArray.size;rw[NC];exact l1,by show (c :: r).toArray.size <= 10;rw[NC];exact l2⟩
 . have en:cm i=⟨(45 :: ds).toArray⟩:=qN (by rw[e]);rw[en,st,Vf rfl,Vc rfl];have hcut:HM ⟨(45 :: ds).toArray⟩ (f' 1) Nf=⟨ds.toArray⟩:=by
    have hn:(⟨(45 :: ds).toArray⟩:Str).length=ds.length+1:=by show (45 :: ds).toArray.size=_;rw[NC];rfl
    have hi:Oe (f' 1) Nf 1 (⟨(45 :: ds).toArray⟩:Str).length=Oe (f' ((1:Nat):Int)) (f' (((⟨(45 :: ds).toArray⟩:Str).length:Nat):Int)) 1 (⟨(45 :: ds).toArray⟩:Str).length:=by
     unfold Oe;simp only;rw[Vc (show (1:Int) > 0 by decide)];congr 1;omega
    unfold HM;have hp:=StrLaws.strSliceIndices_plain (a:=1) (b:=(⟨(45 :: ds).toArray⟩:Str).length) (len:=(⟨(45 :: ds).toArray⟩:Str).length) (by omega) (Nm _);have hs:=StrLaws.sliced_plain ⟨(45 :: ds).toArray⟩ (a:=1) (b:=(⟨(45 :: ds).toArray⟩:Str).length) (by omega) (Nm _);rw[hi,hs,hp,Vd (by rw[Nu,List.length_range,hn];simp)];refine qN ?_;rw[hn];simp
   rw[hcut];exact⟨λx hx=>hd x hx,by show 1 <= ds.toArray.size;rw[NC];exact l1,by show ds.toArray.size <= 10;rw[NC];exact l2⟩
def KF {c:Nat}(h:48 <= c/\c <= 57):(!(OQ ("0123456789":Str) ⟨#[c]⟩ 0 ("0123456789":Str).length 1).isEmpty)=G':=by
 have:c=48\/c=49\/c=50\/c=51\/c=52\/c=53\/c=54\/c=55\/c=56\/c=57:=by omega
 rcases this with rfl|rfl|rfl|rfl|rfl|rfl|rfl|rfl|rfl|rfl<;>decide +kernel
end L2
namespace PySem
open PySem.Spec PyProof.Rows
section
variable {prog:ND}{w:Nt}{A:NN}{E:Na->Ng->Prop}{s:Ng}
abbrev Ew (h:NI) (l1:K'):NI:=h.push { cls:=.type "list_iterator",data:=.fields #[.ref l1,.int 0 0] }
abbrev Ep (h:NI) (l1 l2:K'):NI:=(Ew h l1).push { cls:=.type "tuple_iterator",data:=.fields #[.ref l2,.int 0 0] }
abbrev Dx (h:NI) (l1 l2:K'):NI:=(Ep h l1 l2).push { cls:=.type "tuple",data:=.seq #[.ref h.objs.size,.ref (Ew h l1).objs.size] }
abbrev DD (h:NI) (l1 l2:K'):NI:=(Dx h l1 l2).push { cls:=.type "tuple",data:=.seq #[.none,.none] }
abbrev zG (h:NI) (l1 l2:K'):NI:=(DD h l1 l2).push { cls:=.type "zip",data:=.fields #[.none,.bool D',.bool D',.ref (Ep h l1 l2).objs.size,.ref (Dx h l1 l2).objs.size] }
def zO (l1 l2:K') (xs ys:Array Na) :
 Meets (Builtin.«zip.__new__» ⟨[.type "zip",.ref l1,.ref l2],[]⟩) (λ_ R s=>s.heap.IsList l1 xs/\s.heap.IsTuple l2 ys/\R (.ok (.ret (.ref (DD s.heap l1 l2).objs.size))) { s with heap:=zG s.heap l1 l2 }) :=
 .of_wp λprog w A R s h=>by
  obtain⟨hp,g,d,tk,os⟩:=s;obtain⟨hl1,hl2,h⟩:=h;have hsub:=sub_zip;have hL1:NI.IsList (Ng.heap ⟨hp,g,d,tk,os⟩) l1 xs:=hl1;have hL2:NI.IsTuple (Ng.heap ⟨hp.push { cls:=.type "list_iterator",data:=.fields #[.ref l1,.int 0 0] },g,d,tk,os⟩) l2 ys:=NI.IsTuple.push hl2 _
  wp_walk using wpAny_pyIter_list hL1,wpAny_pyIter_tuple hL2
  exact⟨_,rfl,h⟩
def xE {l1 l2:K'}{xs ys:Array Na}{Q:Na->Ng->Prop}(hl1:SqA D' s.heap l1 xs) (hl2:SqA G' s.heap l2 ys)
 (h:∀ h',IsZip h' (s.heap.objs.size+4) (s.heap.objs.size+2) (s.heap.objs.size+3) .none->IsPair h' (s.heap.objs.size+2) (.ref s.heap.objs.size) (.ref (s.heap.objs.size+1)) ->
  IsPair h' (s.heap.objs.size+3) .none .none->SqI D' h' s.heap.objs.size l1 0->SqI G' h' (s.heap.objs.size+1) l2 0->(∀ c o,s.heap.get? c=f' o->h'.get? c=f' o)->Q (.ref (s.heap.objs.size+4)) { s with heap:=h' }) :
 Nq (model prog w) A (call (.type "zip") [.ref l1,.ref l2]) Q E s:=by
 refine callType_new F.called_zip (by decide) (F.typeCall_zip_2 _ _) (F.newCall_zip_2 _ _) (λobj=>F.args_object_init_3 obj _ _) F.entry_zip_new (zO l1 l2 xs ys) ⟨hl1,hl2,?_⟩;have z1:(Ew s.heap l1).objs.size=s.heap.objs.size+1:=N9 ..;have z2:(Ep s.heap l1 l2).objs.size=s.heap.objs.size+2:=by rw[N9,z1]
 have z3:(Dx s.heap l1 l2).objs.size=s.heap.objs.size+3:=by rw[N9,z2]
 have z4:(DD s.heap l1 l2).objs.size=s.heap.objs.size+4:=by rw[N9,z3]
 have g5:(zG s.heap l1 l2).get? (DD s.heap l1 l2).objs.size=f' _:=Nr _ rfl;have g4:(zG s.heap l1 l2).get? (Dx s.heap l1 l2).objs.size=f' _:=Nb _ (Nr _ rfl);have g3:(zG s.heap l1 l2).get? (Ep s.heap l1 l2).objs.size=f' _:=Nb _ (Nb _ (Nr _ rfl));have g2:(zG s.heap l1 l2).get? (Ew s.heap l1).objs.size=f' _:=Nb _ (Nb _ (Nb _ (Nr _ rfl)));have g1:(zG s.heap l1 l2).get? s.heap.objs.size=f' _:=Nb _ (Nb _ (Nb _ (Nb _ (Nr _ rfl))));show _/\_;rw[z2,z3,z4]at g5;rw[z1,z2]at g3;rw[z3]at g4;rw[z1]at g2;rw[z4];exact⟨⟨_,g5,rfl⟩,h _ g5 g3 g4 ⟨_,g1,rfl,rfl⟩ ⟨_,g2,rfl,rfl⟩ λc o x=>Nb _ (Nb _ (Nb _ (Nb _ (Nb _ x))))⟩
end
end PySem
namespace L2
open PySem PySem.Spec PyProof.Rows
section
variable {X:Cx}
def Lm (K:Nh) (ta:TA):TI:=λσ H R=>ta σ H λvs H1=>∃ a1 a2 xs ys,vs=[.ref a1,.ref a2]/\SqL K H1 a1 xs/\SqT K H1 a2 ys/\R (Izm D' G' K a1 a2) H1
def HW {a c:Expr}{ta:TA}{p pos pt:Pos}{elts:List Expr}{kt:Nat}(hg:Gl X "zip") (hm:X.mg "zip"=Nf) (ha:PA X [a,c] ta) (hs:NR [a,c] X.env=[(D',eval a X.env),(D',eval c X.env)]:=by rfl) (hs2:NR [c] X.env=[(D',eval c X.env)]:=by rfl) :
 PI X (.Tuple elts kt pt) (.Call (.Name "zip" p) [a,c] [] pos) (Lm X.K ta):=by
 intro P2 s σ H R I h;refine Call_ (om I hg hm zk (Oz (thn (ha pos P2 s σ H _ I h) λus s1 ur56=>?_) (by rw[hs,hs2]) (by rw[hs2];rfl)));obtain⟨vs,H1,I1,r1,q1⟩:=ur56;obtain⟨a1,a2,xs,ys,e,h1,h2,q⟩:=q1;subst e;obtain⟨u,w',rfl,ru,rw⟩:=GT r1;cases ru;cases rw;obtain⟨us,_,p1⟩:=I1.sq (b:=D') h1;obtain⟨ws,_,p2⟩:=I1.sq (b:=G') h2;refine xE p1 p2 λh' z1 z2 z3 z4 z5 kk=>wpAny_pyIter_zip z1 ?_
 have fr:∀ b,s1.heap.objs.size <= b->wP X P2 H1 b:=λb hb=>I1.fpOk hb (I1.hok.fresh hb)
 refine⟨_,[s1.heap.objs.size+4,s1.heap.objs.size+2,s1.heap.objs.size+3,s1.heap.objs.size,s1.heap.objs.size+1],_,_,H1,rfl,I1.kept (t':=s1.toks) kk,yL (vS p1.lt p2.lt),⟨z1,z2,⟨_,_,z3⟩,z4,z5⟩,λb hb=>fr b ?_,q⟩;simp only[NA,N8,or_false]at hb;rcases hb with rfl|rfl|rfl|rfl|rfl<;>omega
end
def Bnd (i:Int):Prop:=-1000000000 <= i/\i <= 1000000000
def InB (k:Str) (i:Int):Prop:=(k="size"/\1 <= i/\i <= 8)\/(k="rounds"/\2 <= i/\i <= 4)\/(k="names"/\1 <= i/\i <= 9)\/(k="name"/\0 <= i/\i <= 1000000000)\/(k="side"/\0 <= i/\i <= 1)\/(k="worth"/\-1000000000 <= i/\i <= 1000000000)
def InB.bnd {k:Str}{i:Int}(h:InB k i):Bnd i:=by
 unfold Bnd;rcases h with h|h|h|h|h|h<;>omega
def FA:List Str:=["bell","counter","lie","look","round"]
def rkF (x:Str):Nat:=FA.idxOf x
def LE:∀ x∈FA,∀ y∈FA,ltCps y.cps.toList x.cps.toList=D'->rkF x <= rkF y:=by decide +kernel
def Jr:∀ x∈FA,∀ y∈FA,rkF x <= rkF y->rkF y <= rkF x->x=y:=by decide +kernel
theorem vx:∀ (l:List Str) (p:Str),p∈FA->(∀ x∈l,x∈FA)->risingS p l=G'->(p :: l).Pairwise (λx y=>rkF x <= rkF y)
|[],p,_,_,_=>List.pairwise_singleton _ _
|x :: r,p,hp,hl,h=>by
  have h':(!ltCps x.cps.toList p.cps.toList && risingS x r)=G':=h;rw[Om,Pu]at h';have hx:=hl x Nv;have ih:=vx r x hx (λy hy=>hl y (Nw _ hy)) h'.2;have h1:=LE p hp x hx h'.1;refine List.pairwise_cons.mpr ⟨λy hy=>?_,ih⟩;rcases NA.mp hy with rfl|hy
  . exact h1
  . exact NS h1 ((List.pairwise_cons.mp ih).1 y hy)
def vV {l:List Str}(hl:∀ x∈l,x∈FA) (h:sortedS l=G'):l.Pairwise (λx y=>rkF x <= rkF y):=by
 cases l with
|nil=>exact Pairwise.nil
|cons p r=>exact vx r p (hl p Nv) (λy hy=>hl y (Nw _ hy)) h
def A2 {l r:List Str}(hr:∀ x∈r,x∈FA) (h1:sortedS l=G') (h2:sortedS r=G') (p:l.Perm r):l=r :=
 have hl:∀ x∈l,x∈FA:=λx hx=>hr x (p.subset hx)
 PU.eq_of_pairwise (λx y hx hy u v=>Jr x (hl x hx) y (hr y hy) u v) (vV hl h1) (vV hr h2) p
theorem yB:∀ (ss acc:List Str),(acc++ss).Nodup->ss.foldl r0 acc=acc++ss
|[],acc,_=>by rw[O5];rfl
|x :: r,acc,h=>by
  have hx:x ∉ acc:=λz=>by
   rw[O7]at h;exact h.2.2 x z x Nv rfl
  show r.foldl r0 (r0 acc x)=_;have e:r0 acc x=acc++[x]:=Vd hx;rw[e,yB r _ (by rw[N4];exact h),N4];rfl
def Dc (ss:List Str) (h:ss.Nodup):Do ss=ss:=yB ss [] h
theorem G1:∀ (ss acc:List Str),acc.Nodup->(∀ x∈acc,x∈FA)->(∀ x∈ss,x∈FA)->(ss.foldl r0 acc).Nodup/\∀ x∈ss.foldl r0 acc,x∈FA
|[],acc,h,ha,_=>⟨h,ha⟩
|x :: r,acc,h,ha,hs=>by
  show (r.foldl r0 (r0 acc x)).Nodup/\_;refine G1 r _ ?_ ?_ λy hy=>hs y (Nw _ hy)
  . unfold r0;split
    . exact h
    . rename_i hx;rw[O7];exact⟨h,by simp,λy hy z hz e=>by rw[Nd.mp hz]at e;exact hx (e ▸ hy)⟩
  . unfold r0;split
    . exact ha
    . intro y hy;rcases Oc.mp hy with z|z
      . exact ha y z
      . rw[Nd.mp z];exact hs x Nv
structure FOk (fs:List Str):Prop where
 fa:∀ x∈fs,x∈FA
 nd:fs.Nodup
 so:sortedS fs=G'
def FOk.of {ss fs:List Str}(h:∀ x∈ss,x∈FA) (p:fs.Perm (Do ss)) (so:sortedS fs=G'):FOk fs:=by
 obtain⟨h1,h2⟩:=G1 ss [] nodup_nil (λx hx=>by cases hx) h;exact⟨λx hx=>h2 x (p.subset hx),p.nodup_iff.mpr h1,so⟩
def FOk.one {fs l:List Str}(h:FOk fs) (p:l.Perm (Do fs)) (so:sortedS l=G'):l=fs:=by
 rw[Dc fs h.nd]at p;exact A2 h.fa so h.so p
def FOk.len {fs:List Str}(h:FOk fs):fs.length <= 5:=mZ (ks:=FA) h.nd h.fa
def IT:∀ x∈FA,NoB x:=by unfold NoB;decide +kernel
def ynS (b:Bool):Str:=if b then "yes" else "no"
inductive Tl:Dd->Ni->Str->Prop
|ans (n wt:Int) (d:Ni):Tl (.answer n wt) d "ok"
|lie (b:Bool) (d:Ni):Tl (.lie b) d "ok"
|drn (b:Bool) (d:Ni):Tl (.drain b) d "ok"
|bell (b c:Bool):Tl (.bell b) (.bool c) (ynS c)
|look (b c:Bool):Tl (.look b) (.bool c) (ynS c)
|ask (wt i:Int):Bnd i->Tl (.ask wt) (.int i) (cm i)
|non (x:Dd):x=.collect\/x=.take->Tl x .none "none"
|two (x:Dd) (i j:Int):x=.collect\/x=.take->Bnd i->Bnd j->Tl x (.tuple [.int i,.int j]) (PK " " [cm i,cm j])
|nn (x:Dd):x=.collect\/x=.take->Tl x (.tuple [.none,.none]) (PK " " ["none","none"])
def Wr.B:Wr->Prop
|.c _ _=>True
|.p _ _ nm wt=>Bnd nm/\Bnd wt
structure WB (S:YS):Prop where
 m:∀ g i nw,S.m.p g i=f' nw->Bnd nw.1/\Bnd nw.2
 r:∀ b,∀ x∈S.rs b,x.B
def BA:WB YS.zero:=⟨(λ_ _ _ h=>by cases h),(λ_ x h=>by cases h)⟩
def Jw {x:Wr}{g:Bool}{i:Int}{nw:Int × Int}(h:x.B) (e:x.plc g i=f' nw):Bnd nw.1/\Bnd nw.2:=by
 cases x with
|c k j=>cases e
|p g' i' nm wt =>
  by_cases hc:g'=g/\i'=i
  . have e':(if g'=g/\i'=i then f' (nm,wt) else Nf)=f' nw:=e;rw[Vc hc]at e';cases e';exact h
  . have e':(if g'=g/\i'=i then f' (nm,wt) else Nf)=f' nw:=e;rw[Vd hc]at e';cases e'
def WB.rd {S:YS}(h:WB S) {b g:Bool}{i:Int}{nw:Int × Int}(e:rdP S.m (S.rs b) g i=f' nw):Bnd nw.1/\Bnd nw.2:=by
 unfold rdP at e;cases hf:(S.rs b).reverse.findSome? (Wr.plc g i) with
|none=>rw[hf]at e;exact h.m g i nw e
|some z =>
  rw[hf]at e;cases e;obtain⟨x,hx,hp⟩:=List.exists_of_findSome?_eq_some hf;exact Jw (h.r b x (List.mem_reverse.mp hx)) hp
def JD {m:Mem}{x:Wr}(hm:∀ g i nw,m.p g i=f' nw->Bnd nw.1/\Bnd nw.2) (hx:x.B):∀ g i nw,(m.put x).p g i=f' nw->Bnd nw.1/\Bnd nw.2:=λg i nw e=>by
 have e':(x.plc g i).or (m.p g i)=f' nw:=e;cases hp:x.plc g i with
|none=>rw[hp]at e';exact hm g i nw e'
|some z=>rw[hp]at e';cases e';exact Jw hx hp
theorem yJ:∀ (row:List Wr) {m:Mem},(∀ g i nw,m.p g i=f' nw->Bnd nw.1/\Bnd nw.2)->(∀ x∈row,x.B)->∀ g i nw,(m.putAllY row).p g i=f' nw->Bnd nw.1/\Bnd nw.2
|[],_,hm,_=>hm
|x :: r,m,hm,hr=>yJ r (m:=m.put x) (JD hm (hr x Nv)) λy hy=>hr y (Nw _ hy)
def WB.of {S S':YS}(h:WB S) (e1:S'.m=S.m) (e2:S'.rs=S.rs):WB S':=⟨by rw[e1];exact h.m,by rw[e2];exact h.r⟩
theorem WB.setR {S S':YS}(h:WB S) {b:Bool}{row:List Wr}(e1:S'.m=S.m) (e2:S'.rs=L2.setR S.rs b row) (hr:∀ x∈row,x.B):WB S':=by
 refine⟨by rw[e1];exact h.m,λc x hx=>?_⟩;rw[e2]at hx;by_cases hc:c=b
 . rw[hc,ba]at hx;exact hr x hx
 . rw[eS hc]at hx;exact h.r c x hx
def WB.add {S S':YS}(h:WB S) {b:Bool}{row:List Wr}(e1:S'.m=S.m) (e2:S'.rs=L2.setR S.rs b (S.rs b++row)) (hr:∀ x∈row,x.B):WB S' :=
 h.setR e1 e2 λx hx=>by
  rcases Oc.mp hx with z|z
  . exact h.r b x z
  . exact hr x z
theorem WB.fence {S:YS}(h:WB S) (b:Bool):WB (S.fence b):=by
 refine⟨yJ (S.rs b) h.m (h.r b),λc x hx=>?_⟩;have hx:x∈L2.setR S.rs b [] c:=hx;by_cases hc:c=b
 . rw[hc,ba]at hx;cases hx
 . rw[eS hc]at hx;exact h.r c x hx
def IX {p:RP}{m:Mem}{row:List Wr}{g:Bool}{k:Cn}{nm wt:Int}(h1:Bnd nm) (h2:Bnd wt):∀ x∈Bc p m row g k nm wt,x.B:=by
 intro x hx;unfold Bc lG at hx;split at hx
 . rcases NA.mp hx with rfl|hx
   . trivial
   . rw[Nd.mp hx];exact⟨h1,h2⟩
 . rcases NA.mp hx with rfl|hx
   . exact⟨h1,h2⟩
   . rw[Nd.mp hx];trivial
def yo {p:RP}{m:Mem}{row:List Wr}{k:Cn}:∀ x∈[lG p m row k],x.B:=λx hx=>by rw[Nd.mp hx];trivial
def Dd.NB:Dd->Prop
|.answer nm _=>0 <= nm/\nm <= 1000000000
|_=>True
theorem WB.run {q:YP}{S:YS}{x:Dd}(h:WB S) (ok:q.Ok) (xo:x.Ok) (nb:x.NB):WB (x.run q S).2:=by
 cases x with
|ask wt =>
  simp only[Dd.run];cases hl:cO q.n S.un with
 |none=>exact h
 |some nm =>
   obtain⟨l0,l1⟩:=oY hl;have:=ok.n9
   try simp only[hl]
   exact h.add rfl rfl (IX (by unfold Bnd;omega) xo)
|collect =>
  simp only[Dd.run];split
  . exact h
  . split
    . exact h.add rfl rfl yo
    . exact h.add rfl rfl yo
|take =>
  simp only[Dd.run];split
  . exact h
  . split
    . exact h.add rfl rfl yo
    . exact h.add rfl rfl yo
|answer nm wt=>exact h.add rfl rfl (IX (by unfold Dd.NB at nb;unfold Bnd;omega) xo)
|bell b =>
  simp only[Dd.run];have h1:WB (if q.fb then S.fence b else S):=by
   split
   . exact h.fence b
   . exact h
  generalize (if q.fb then S.fence b else S)=S1 at h1 |-;split
  . exact h1.of rfl rfl
  . split
    . exact h1.add (b:=!b) (row:=[.c (lj (!b)) 0]) rfl rfl λx hx=>by rw[Nd.mp hx];trivial
    . exact h1.of rfl rfl
|lie b =>
  simp only[Dd.run];have h1:WB (S.wr b (.c (lj b) 1)):=h.add rfl rfl λx hx=>by rw[Nd.mp hx];trivial
  have h2:WB (if q.fl then (S.wr b (.c (lj b) 1)).fence b else S.wr b (.c (lj b) 1)):=by
   split
   . exact h1.fence b
   . exact h1
  exact h2.of rfl rfl
|look b =>
  simp only[Dd.run];split
  . exact h.add (b:=b) (row:=[.c (lj b) 0]) rfl rfl λx hx=>by rw[Nd.mp hx];trivial
  . exact h.of rfl rfl
|drain b =>
  simp only[Dd.run];cases hr:S.rs b with
 |nil=>exact h
 |cons x ck =>
   have hb:=h.r b;rw[hr]at hb;exact(WB.setR (S:={ S with m:=S.m.put x }) (S':={ S with m:=S.m.put x,rs:=L2.setR S.rs b ck }) ⟨JD h.m (hb x Nv),h.r⟩ rfl rfl λy hy=>hb y (Nw _ hy))
def FB {q:YP}{S:YS}{x:Dd}(h:WB S) (ok:q.Ok) (hc:x.chk q S=Nf):∃ t,Tl x (x.run q S).1 t:=by
 cases x with
|ask wt =>
  simp only[Dd.run];cases hl:cO q.n S.un with
 |none =>
   simp only[Dd.chk]at hc;rw[hl]at hc;split at hc
   . split at hc<;>cases hc
   . cases hc
 |some nm =>
   obtain⟨l0,l1⟩:=oY hl;have:=ok.n9
   try simp only[hl]
   exact⟨_,.ask wt nm (by unfold Bnd;omega)⟩
|collect =>
  simp only[Dd.run];split
  . exact⟨_,.non _ (.inl rfl)⟩
  . split
    . rename_i nw e;obtain⟨b1,b2⟩:=h.rd e;exact⟨_,.two _ _ _ (.inl rfl) b1 b2⟩
    . exact⟨_,.nn _ (.inl rfl)⟩
|take =>
  simp only[Dd.run];split
  . exact⟨_,.non _ (.inr rfl)⟩
  . split
    . rename_i nw e;obtain⟨b1,b2⟩:=h.rd e;exact⟨_,.two _ _ _ (.inr rfl) b1 b2⟩
    . exact⟨_,.nn _ (.inr rfl)⟩
|answer nm wt=>exact⟨_,.ans _ _ _⟩
|bell b =>
  simp only[Dd.run];generalize (if q.fb then S.fence b else S)=S1;split
  . exact⟨_,.bell _ _⟩
  . split
    . exact⟨_,.bell _ _⟩
    . exact⟨_,.bell _ _⟩
|lie b=>exact⟨_,.lie _ _⟩
|look b =>
  simp only[Dd.run];split
  . exact⟨_,.look _ _⟩
  . exact⟨_,.look _ _⟩
|drain b=>exact⟨_,.drn _ _⟩
def Dd.ws (x:Dd):List Str:=x.word :: x.args.map cm
def Dd.inB {x:Dd}(xo:x.Ok) (nb:x.NB):NF InB x.ks x.args:=by
 have sd:∀ b:Bool,InB "side" (sdI b):=λb=>.inr (.inr (.inr (.inr (.inl ⟨rfl,by cases b<;>decide,by cases b<;>decide⟩))))
 have wt:∀ i:Int,-1000000000 <= i/\i <= 1000000000->InB "worth" i:=λi h=>.inr (.inr (.inr (.inr (.inr ⟨rfl,h⟩))))
 cases x with
|ask w=>exact .cons (wt w xo) .nil
|collect=>exact .nil
|take=>exact .nil
|answer n w=>exact .cons (.inr (.inr (.inr (.inl ⟨rfl,nb⟩)))) (.cons (wt w xo) .nil)
|bell b=>exact .cons (sd b) .nil
|lie b=>exact .cons (sd b) .nil
|look b=>exact .cons (sd b) .nil
|drain b=>exact .cons (sd b) .nil
def vX:List Str:=["ask","collect","take","answer","bell","lie","look","drain"]
def AF:∀ x∈vX,NoB x:=by unfold NoB;decide +kernel
def xm (x:Dd):x.word∈vX:=by
 cases x<;>simp[Dd.word,vX]
def DY (x:Dd):NoB x.word:=AF _ (xm x)
theorem nZ:∀ {ks:List Str}{is:List Int},NF InB ks is->∀ x∈is.map cm,NoB x
|_,_,.nil,x,h=>by cases h
|_,_,.cons h t,x,hx=>by
  rcases NA.mp hx with rfl|hx
  . exact Ij _ h.bnd
  . exact nZ t x hx
def Dd.ws_noB {x:Dd}(xo:x.Ok) (nb:x.NB):∀ y∈x.ws,NoB y:=λy hy=>by
 rcases NA.mp hy with rfl|hy
 . exact DY x
 . exact nZ (x.inB xo nb) y hy
def kA (s R n:Int) (fs:List Str):List Str:=("ring":Str) :: [s,R,n].map cm++fs
def tL {s R n:Int}(h1:1 <= s/\s <= 8) (h2:2 <= R/\R <= 4) (h3:1 <= n/\n <= 9):NF InB ["size","rounds","names"] [s,R,n] :=
 .cons (.inl ⟨rfl,h1⟩) (.cons (.inr (.inl ⟨rfl,h2⟩)) (.cons (.inr (.inr (.inl ⟨rfl,h3⟩))) .nil))
def Ex {s R n:Int}{fs:List Str}(h1:1 <= s/\s <= 8) (h2:2 <= R/\R <= 4) (h3:1 <= n/\n <= 9) (hf:FOk fs):∀ y∈kA s R n fs,NoB y:=λy hy=>by
 rcases Oc.mp hy with z|z
 . rcases NA.mp z with rfl|z
   . unfold NoB;decide +kernel
   . exact nZ (tL h1 h2 h3) y z
 . exact IT y (hf.fa y z)
section
variable {K:Nh}{H:Hp}{l D:K'}{xs ys:List V}{R:Hp->Prop}{T:V->Hp->VK->Prop}
def wy (hl:SqL K H l xs) (hD:H D=Nf) (hn:xs.length=ys.length) (hz:ys.length < 1000) (k:∀ H',bq H H'->H' D=f' (.lst ys)->R H')
 (hs:∀ (i:Nat) (x y:V) (H3:Hp) (Rv:VK),xs[i]?=f' x->ys[i]?=f' y->bq H H3->(∀ H5,bq H3 H5->Rv y H5)->T x H3 Rv) :
 ∃ W:Nat->Nat->List V->Hp->Prop,(∃ m,W 0 m [] (upd H D (.lst []))) /\
  ∀ i m zs H2,W i m zs H2->H2 D=f' (.lst zs)/\zs.length < Nl/\(((Itl K l).stop i H2/\R H2)\/((Itl K l).go i H2/\∀ x H3,(Itl K l).yld i H2 x H3 ->
   if G'=G' then T x H3 λy H5=>H5 D=f' (.lst zs)/\∃ m',m' < m/\W (i+1) m' (zs++[y]) (upd H5 D (.lst (zs++[y])))
    else ∃ m',m' < m/\W (i+1) m' zs H3)):=by
 refine⟨λi mm zs H'=>i <= ys.length/\mm=ys.length - i/\zs=ys.take i/\H' D=f' (.lst zs)/\bq H H',⟨_,Ou _,rfl,rfl,a8,af hD⟩,?_⟩;rintro i mm zs H2 ⟨hi,rfl,rfl,hD2,e2⟩;refine⟨hD2,Nn (show _ < 1000 by rw[OI];omega) (by decide),?_⟩;by_cases hii:i=ys.length
 . rw[hii,take_length]at hD2;exact .inl ⟨⟨xs,e2.seq hl,by omega⟩,k _ e2 hD2⟩
 . have hlt:i < xs.length:=by omega
   have hlt2:i < ys.length:=by omega
   refine .inr ⟨⟨xs,_,e2.seq hl,Nk hlt⟩,?_⟩;rintro v H3 ⟨e3,hv⟩;have hv:=hv _ (e2.seq hl);subst H3;refine(Vc rfl).mpr (hs i v ys[i] H2 _ hv (Nk hlt2) e2 λH5 e5=>⟨e5 _ _ hD2,ys.length - (i+1),by omega,by omega,rfl,?_,a8,λc o e=>?_⟩)
   . rw[<-List.take_append_getElem hlt2]
   . rw[ae (λz=>by rw[z,hD]at e;cases e)];exact e5 _ _ (e2 c o e)
def mY (hl:SqT K H l xs) (hD:H D=Nf) (hn:xs.length=ys.length) (hz:ys.length < 1000) (k:∀ H',bq H H'->H' D=f' (.lst ys)->R H')
 (hs:∀ (i:Nat) (x y:V) (H3:Hp) (Rv:VK),xs[i]?=f' x->ys[i]?=f' y->bq H H3->(∀ H5,bq H3 H5->Rv y H5)->T x H3 Rv) :
 ∃ W:Nat->Nat->List V->Hp->Prop,(∃ m,W 0 m [] (upd H D (.lst []))) /\
  ∀ i m zs H2,W i m zs H2->H2 D=f' (.lst zs)/\zs.length < Nl/\(((Itt K l).stop i H2/\R H2)\/((Itt K l).go i H2/\∀ x H3,(Itt K l).yld i H2 x H3 ->
   if G'=G' then T x H3 λy H5=>H5 D=f' (.lst zs)/\∃ m',m' < m/\W (i+1) m' (zs++[y]) (upd H5 D (.lst (zs++[y])))
    else ∃ m',m' < m/\W (i+1) m' zs H3)):=by
 refine⟨λi mm zs H'=>i <= ys.length/\mm=ys.length - i/\zs=ys.take i/\H' D=f' (.lst zs)/\bq H H',⟨_,Ou _,rfl,rfl,a8,af hD⟩,?_⟩;rintro i mm zs H2 ⟨hi,rfl,rfl,hD2,e2⟩;refine⟨hD2,Nn (show _ < 1000 by rw[OI];omega) (by decide),?_⟩;by_cases hii:i=ys.length
 . rw[hii,take_length]at hD2;exact .inl ⟨⟨xs,e2.seqT hl,by omega⟩,k _ e2 hD2⟩
 . have hlt:i < xs.length:=by omega
   have hlt2:i < ys.length:=by omega
   refine .inr ⟨⟨xs,_,e2.seqT hl,Nk hlt⟩,?_⟩;rintro v H3 ⟨e3,hv⟩;have hv:=hv _ (e2.seqT hl);subst H3;refine(Vc rfl).mpr (hs i v ys[i] H2 _ hv (Nk hlt2) e2 λH5 e5=>⟨e5 _ _ hD2,ys.length - (i+1),by omega,by omega,rfl,?_,a8,λc o e=>?_⟩)
   . rw[<-List.take_append_getElem hlt2]
   . rw[ae (λz=>by rw[z,hD]at e;cases e)];exact e5 _ _ (e2 c o e)
end
theorem fU {H:Hp}:∀ fs:List Str,DVs H (fs.map Od) (fs.map V.str)
|[]=>rfl
|f :: fs=>⟨_,_,rfl,rfl,fU fs⟩
def L3:∀ x∈FA,MX.kd (.str x)=G':=by decide +kernel
def FOk.lay {fs:List Str}(h:FOk fs):wM (.list (fs.map Od)):=tV _ λd hd=>by
 obtain⟨x,hx,rfl⟩:=O1.mp hd;exact⟨L3 x (h.fa x hx),by show 0 <= 9;decide⟩
inductive Lk where
|story|qW|waits (b:Bool)
def Lk.ws:Lk->List Str
|.story=>["story"]
|.qW=>["errs"]
|.waits b=>["waits",cm (sdI b)]
def Lk.ans (q:YP) (S:YS) (hs:List Hx):Lk->Str
|.story=>cm S.hs.length
|.qW=>ynS (IN q S hs)
|.waits b=>cm (S.rs b).length
def Lk.all:List Lk:=[.story,.qW,.waits D',.waits G']
def Lk.mem (k:Lk):k∈Lk.all:=by
 cases k with
|waits b=>cases b<;>simp[Lk.all]
|_=>simp[Lk.all]
def F4:∀ k∈Lk.all,∀ x∈k.ws,NoB x:=by unfold NoB;decide +kernel
def GN:∀ k∈Lk.all,∀ x∈k.ws,MX.kd (.str x)=G':=by decide +kernel
def Lk.lay (k:Lk):wM (.list (k.ws.map Od)):=tV _ λd hd=>by
 obtain⟨x,hx,rfl⟩:=O1.mp hd;exact⟨GN k k.mem x hx,by show 0 <= 9;decide⟩
theorem oX:∀ ws:List Str,(∀ x∈ws,x.length <= 11)->(PK " " ws).length <= 12 * ws.length
|[],_=>by show (PK " " []).length <= 0;decide +kernel
|[x],h=>NS (h x Nv) (by show 11 <= 12;decide)
|x :: y :: r,h=>by
  have ih:=oX (y :: r) λz hz=>h z (Nw _ hz)
  have hx:=h x Nv;rw[Gn]at ih |-;have g:∀ us:List Str,PK blk us=Str.join blk us:=λus=>StrLaws.glued_eq_join blk us
  rw[g]at ih |-;have e:=congrArg O8 (mQ x y r);rw[Nj,NM,NO,NO,NO]at e;have e':(Str.join blk (x :: y :: r)).length=x.length+((Str.join blk (y :: r)).length+1):=e;rw[e',NM];omega
def Jq:∀ x∈FA,x.length <= 11:=by decide +kernel
def AD:∀ x∈vX,x.length <= 11:=by decide +kernel
def Ez:∀ k∈Lk.all,∀ x∈k.ws,x.length <= 11:=by decide +kernel
theorem k9:∀ {ks:List Str}{is:List Int},NF InB ks is->∀ x∈is.map cm,x.length <= 11
|_,_,.nil,x,h=>by cases h
|_,_,.cons h t,x,hx=>by
  rcases NA.mp hx with rfl|hx
  . exact kE _ h.bnd
  . exact k9 t x hx
def Dd.ws_len {x:Dd}(xo:x.Ok) (nb:x.NB):∀ y∈x.ws,y.length <= 11:=λy hy=>by
 rcases NA.mp hy with rfl|hy
 . exact AD _ (xm x)
 . exact k9 (x.inB xo nb) y hy
def yC {s R n:Int}{fs:List Str}(h1:1 <= s/\s <= 8) (h2:2 <= R/\R <= 4) (h3:1 <= n/\n <= 9) (hf:FOk fs):∀ y∈kA s R n fs,y.length <= 11:=λy hy=>by
 rcases Oc.mp hy with z|z
 . rcases NA.mp z with rfl|z
   . decide +kernel
   . exact k9 (tL h1 h2 h3) y z
 . exact Jq y (hf.fa y z)
def Lk.w0:Lk->Str
|.story=>"story"
|.qW=>"errs"
|.waits _=>"waits"
def Lk.at0 (k:Lk):atI (k.ws.map V.str) 0=f' (.str k.w0):=by cases k<;>rfl
def Lk.ne (k:Lk):k.ws≠[]:=by cases k<;>exact Pa _ _
def Lk.noring (k:Lk):k.w0≠"ring":=by
 cases k
 . show ("story":Str)≠"ring";decide +kernel
 . show ("errs":Str)≠"ring";decide +kernel
 . show ("waits":Str)≠"ring";decide +kernel
def Lk.noform (k:Lk) {a0 a1 a2 a3 a4 a5 a6 a7:K'}:PyProof.Rows.KTD.datumAt k.w0 [("ask",a0),("collect",a1),("take",a2),("answer",a3),("bell",a4),("lie",a5),("look",a6),("drain",a7)]=Nf:=by cases k<;>rfl
def xK:∀ x∈vX,x≠"ring":=by decide +kernel
end L2
namespace PySem.W
open PySem PySem.Calls PyProof.Rows Builtin
section
variable {prog:ND}{w:Nt}{A:NN}{E:Na->Ng->Prop}{h:NI}{g:Array GenState}{d:Drawn}{t:Nat}{os:OsState}{K:Frag}{x C:K'}{ox:Ow}
def wI:isSubtype (.type "NoneType") (.ref C)=pure D':=by rw[isSubtype_type];kernel_rfl
def Ag {M:Model}{s:Ng}{Q:Fin->Ng->Prop}(hq:Q (.done (.ret .notImplemented)) s):Nq M A (Builtin.«object.__eq__» ⟨[.ref x,.none],[]⟩) Q E s:=by
 unfold Builtin.«object.__eq__»
 repeat (first|with_reducible refine wpAny_isSame_plain rfl ?_|wp_step)
 exact hq
def tJ {M:Model}{Q:Unit->Ng->Prop}(X:K.In h) (hob:mroIn K C (.type "object")=f' G') (hx:h.get? x=f' ox) (hc:ox.cls=.ref C) (hq:Q () ⟨h,g,d,t,os⟩) :
 Nq M A (checkBuiltinCall "object.__eq__" ⟨[.ref x,.none],[]⟩) Q E ⟨h,g,d,t,os⟩:=by
 have ha:=F.cmpArgs_eq (.ref x) .none;have LI:Looks M h (isInstance (.ref x) (.type "object")) G':=(show Looks M h (typeOf (.ref x)) (.ref C) from hc ▸ (Looks.ld hx).andThen .now).andThen (looks_mroIn X hob);simp only[checkBuiltinCall,F.cmpKind_eq,F.cmpSplit_eq];refine j' (LI.at ?_)
 repeat (first|assumption|wp_step)
def ut {Q:Option Na->Ng->Prop}(X:K.In h) (he:findIn K (.ref C) "__eq__"=f' (f' (.builtin "object.__eq__"))) (hob:mroIn K C (.type "object")=f' G') (hx:h.get? x=f' ox) (hc:ox.cls=.ref C) (hq:Q Nf ⟨h,g,d,t,os⟩) :
 Nq (model prog w) A (tryCompare (.ref x) "__eq__" .none) Q E ⟨h,g,d,t,os⟩:=by
 have L0:Looks (model prog w) h (typeOf (.ref x)) (.ref C):=hc ▸ (Looks.ld hx).andThen .now;have L1:=looks_findIn (M:=model prog w) X he;simp only[tryCompare];refine j' ?_;simp only[callSpecialIfBound?,bindSpecialIfBound?];refine N2 (j' (j' ?_));unfold specialOf;refine j' (L0.at (L1.at ?_));simp only[F.cmp_object.eq.bind];have hcall:∀ {Q':Na->Ng->Prop},Q' .notImplemented ⟨h,g,d,t,os⟩->Nq (model prog w) A (call (.builtin "object.__eq__") [.ref x,.none]) Q' E ⟨h,g,d,t,os⟩:=λhq' =>
  wpAny_call (codeAny_call_builtin F.cmp_object.eq.plain F.cmpEntry_eq (tJ X hob hx hc (Ag hq')))
 have fin:∀ {Q':Option Na->Ng->Prop},Q' (f' .notImplemented) ⟨h,g,d,t,os⟩->Nq (model prog w) A (call (.builtin "object.__eq__") ([.ref x]++[.none]) >>= λv=>pure (f' v)) Q' E ⟨h,g,d,t,os⟩:=λhq'=>j' (hcall (Nc hq'))
 refine j' (wpAny_askSetting (wpAny_ite ?_));split
 . exact j' (Nc (Nc (fin (Nc hq))))
 . exact wpAny_tryCatch (j' (Nc (Nc (fin (Nc hq)))))
def uS {s:Ng}{Q:Option Na->Ng->Prop}(hq:Q Nf s):Nq (model prog w) A (tryCompare .none "__eq__" (.ref x)) Q E s:=by
 simp only[tryCompare];refine j' (wpAny_callSpecialIfBound?_slot (T:="NoneType") (name:=N3 "__eq__") rfl F.slot_NoneType_eq (call_gives F.slot_NoneType_eq rfl F.entry_NoneType_eq (F.args_NoneType_eq_2 _ _) (SeqAt.NoneType___eq___none_ref_0 x) ?_));exact Nc hq
def inst_eq_none (X:K.In h) (he:findIn K (.ref C) "__eq__"=f' (f' (.builtin "object.__eq__"))) (hob:mroIn K C (.type "object")=f' G') (hx:h.get? x=f' ox) (hc:ox.cls=.ref C) (hu:A.units < PJ) {Q:Bool->Ng->Prop}(hq:Q D' ⟨h,g,d,t,os⟩) :
 Nq (model prog w) A (eqBool (.ref x) .none) Q E ⟨h,g,d,t,os⟩:=by
 have L0:Looks (model prog w) h (typeOf (.ref x)) (.ref C):=hc ▸ (Looks.ld hx).andThen .now;have rc:∀ {Q':Na->Ng->Prop},Q' (.bool D') ⟨h,g,d,t,os⟩->Nq (model prog w) A (richCompare .Eq (.ref x) .none) Q' E ⟨h,g,d,t,os⟩:=λhq'=>by
  simp only[richCompare,cmpInfo_Eq]
  repeat (first|with_reducible refine wpAny_cRoomFor hu ?_|(with_reducible refine wpAny_loadPart_at hx ?_;rw[hc])|with_reducible refine ut X he hob hx hc ?_|with_reducible refine uS ?_|with_reducible refine wpAny_isSame_plain rfl ?_|rw[wI]|wp_step)
  exact hq'
 unfold eqBool;refine N2 ?_
 repeat (first|with_reducible refine rc ?_|wp_step)
 exact hq
end
end PySem.W
namespace L2
open PySem PySem.Spec PyProof.Rows
structure EqNo (K:Nh) (C:K'):Prop where
 eq:Ol K (.ref C) "__eq__"=f' (f' (.builtin "object.__eq__"))
 ob:PySem.W.mroIn K C (.type "object")=f' G'
def H0 (K:Nh):R2:=λx y H Q=>∃ (l:K') (bs:List K'),x=.non/\y=.ref l/\SqL K H l (bs.map V.ref)/\(∀ b∈bs,∃ C dx fs,H b=f' (.ins C dx fs)/\EqNo K C)/\Q (.bl D') H
theorem Bw:∀ {bs:List K'}{us:List Na},bQ (bs.map V.ref) us->us=bs.map NP
|[],_,h=>by cases h;rfl
|b :: bs,_,h=>by
  cases h with
 |cons r t=>cases r;rw[Bw t];rfl
section
variable {X:Cx}
def CM (hu:X.A.units+64 < PJ):OpR X (Oi .In) (H0 X.K):=by
 intro P2 s σ H x y v u Q I rx ry h;obtain⟨l,bs,rfl,rfl,hl,hb,q⟩:=h;cases rx;cases ry;obtain⟨its,r,⟨o,n,ho,hcl,hdi,hda⟩,hz⟩:=I.list hl;cases Bw r;have hT:s.TypeIs (.ref l) "list":=⟨o,ho,hcl⟩
 show Nq _ _ (do return Na.bool (<-contains (.ref l) .none)) _ _ s;obtain⟨cl,di,da,sl⟩:=o;cases hcl;cases hda;refine j' (wpAny_contains_slot hT F.slot_list_contains (call_meets F.slot_list_contains hT F.entry_list_contains (PySem.F.args_list_contains_2 _ _) (SeqAt.list_containsAt l _ n di sl .none λ_=>D') ⟨ho,λy hy=>?_,?_⟩))
 . obtain⟨b,hm,rfl⟩:=O1.mp (List.mem_toArray.mp hy);obtain⟨C,dx,fs,hH,E⟩:=hb b hm;obtain⟨_,_,_,hg,_⟩:=I.hok _ _ hH;intro prog w E' Q' hq;exact PySem.W.inst_eq_none I.kIn E.eq E.ob hg rfl (by show X.A.units+1 < PJ;omega) hq
 . have e:((bs.map NP).toArray.any λ_=>D')=D':=by simp
   rw[e];exact N5 (Nc ⟨.bl D',H,I,rfl,q⟩)
end
end L2
set_option maxHeartbeats 4000000
namespace My
open PySem L2
local macro_rules
 |`($x∣$y)=>`(@Hk _ _ _ _ _ $x $y (by rfl))
 |`($x∪$y)=>`(@Fa _ _ _ _ _ $x $y)
 |`($x∩$y)=>`(@az _ _ _ _ _ _ _ aF $x $y (fun _ _ => rfl))
 |`($x⊆$y)=>`(@az _ _ _ _ _ _ _ aC $x $y (fun _ _ => rfl))
 |`($x⁻¹)=>`(@ao _ _ _ (@Jd _ _ _ _ $x))
def top (i:Nat):NX:=PySem.Challenge.pw_askring_k37_desk_answers.main.body.getD i (.Pass ⟨0,0,0,0⟩)
abbrev i7:NX:=top 2
abbrev nT:NX:=top 3
abbrev nI:NX:=top 4
abbrev jL:NX:=top 8
abbrev kz:NX:=aA (top 9) 0
abbrev jt:NX:=aA (top 9) 1
abbrev i8:NX:=aA (top 9) 2
abbrev gN:NX:=aA (top 9) 3
abbrev cV:NX:=aA (top 9) 4
abbrev nQ:NX:=aA (top 9) 5
abbrev kU:NX:=aA (top 9) 6
abbrev jw:NX:=aA (top 11) 0
abbrev kW:NX:=aA (top 11) 1
abbrev jo:NX:=aA (top 11) 2
abbrev iZ:NX:=top 12
abbrev ji:NX:=top 13
abbrev kH:NX:=aA (top 22) 0
abbrev eQ:NX:=aA (top 22) 2
abbrev fK:NX:=aA (top 22) 3
abbrev nN:NX:=aA (top 22) 4
abbrev iq:NX:=aA (top 22) 5
abbrev cj:NX:=aA (top 22) 7
abbrev j9:NX:=aA (top 24) 0
abbrev kP:NX:=aA (top 24) 2
abbrev cT:NX:=aA (top 24) 3
abbrev ie:NX:=aA (top 24) 4
abbrev jC:NX:=aA (top 24) 5
abbrev bW:NX:=aA (top 24) 6
abbrev jg:NX:=aA (top 26) 0
abbrev iU:NX:=aA (top 26) 2
abbrev jH:NX:=aA (top 26) 3
abbrev iR:NX:=aA (top 26) 4
abbrev kM:NX:=aA (top 26) 5
abbrev im:NX:=aA (top 26) 6
abbrev iP:NX:=aA (top 26) 7
abbrev nR:NX:=top 31
abbrev qp:NX:=top 32
abbrev qB:NX:=top 33
abbrev pV:NX:=top 34
abbrev kZ:NX:=aA (top 35) 0
abbrev lT:NX:=aA (top 35) 1
abbrev el:NX:=aA (top 35) 2
abbrev kB:NX:=aA (top 35) 3
abbrev i9:NX:=aA (top 35) 5
abbrev gt:NX:=aA (top 35) 6
abbrev lQ:NX:=aA (top 35) 7
abbrev kD:NX:=aA (top 35) 8
abbrev kF:NX:=aA (top 35) 11
abbrev f9:NX:=aA (top 35) 12
abbrev fN:NX:=aA (top 35) 13
abbrev jD:NX:=aA (top 35) 14
abbrev fG:NX:=aA (top 35) 15
abbrev de:NX:=aA (top 35) 16
abbrev ia:NX:=aA (top 35) 17
abbrev jB:NX:=aA (top 35) 18
abbrev io:NX:=aA (top 35) 19
abbrev cn:NX:=aA (top 35) 20
abbrev BC:NX:=top 37
abbrev dZ:NX:=top 38
abbrev lK:NX:=top 39
abbrev ky:NX:=top 40
abbrev lY:NX:=top 46
abbrev lZ:NX:=top 47
abbrev kq:NX:=top 48
abbrev ii:NX:=top 49
abbrev lX:NX:=top 50
abbrev m3:NX:=top 51
abbrev lN:NX:=top 52
abbrev kO:NX:=aA (top 53) 0
abbrev nE:NX:=aA (top 53) 1
abbrev gk:NX:=aA (top 53) 2
abbrev gr:NX:=aA (top 53) 3
abbrev ge:NX:=aA (top 53) 4
abbrev ja:NX:=top 55
abbrev pI:NX:=top 56
abbrev nJ:NX:=top 57
abbrev pQ:NX:=top 58
abbrev nP:NX:=top 59
abbrev ni:NX:=top 60
abbrev n8:NX:=top 61
abbrev nC:NX:=top 62
abbrev o3:NX:=top 63
abbrev eT:NX:=top 64
abbrev HF:NX:=top 65
def aH {N P:List Str}{sc:Scope}(a:sc.kind=.function) (b:sc.isCoroutine=D') (c:sc.isGenerator=D') (h:N.Nodup/\N.take P.length=P/\(∀ x∈P,sc.names.lookup x=f' .local\/sc.names.lookup x=f' .cell)/\∀ y∈sc.names,y.2≠.free):FnScope N P sc:=⟨a,b,c,h.1,h.2.1,h.2.2.1,h.2.2.2⟩
def qI:FnScope ["counter","size","rounds"] ["counter","size","rounds"] (ai i7):=aH rfl rfl rfl (by decide +kernel)
def xg:FnScope ["counter","size"] ["counter","size"] (ai nT):=aH rfl rfl rfl (by decide +kernel)
def wW:FnScope ["one","other","size","rounds"] ["one","other","size","rounds"] (ai nI):=aH rfl rfl rfl (by decide +kernel)
def re:FnScope ["rounds","faults"] ["rounds","faults"] (ai jL):=aH rfl rfl rfl (by decide +kernel)
def uJ:FnScope ["self","store","side","words","size","rounds","faults"] ["self","store","side","words","size","rounds","faults"] (ai kz):=aH rfl rfl rfl (by decide +kernel)
def iu:FnScope ["self","laid","fetched"] ["self"] (ai jt):=aH rfl rfl rfl (by decide +kernel)
def pM:FnScope ["self"] ["self"] (ai i8):=aH rfl rfl rfl (by decide +kernel)
def oJ:FnScope ["self","counter"] ["self","counter"] (ai gN):=aH rfl rfl rfl (by decide +kernel)
def kL:FnScope ["self","cell","counter"] ["self","cell","counter"] (ai cV):=aH rfl rfl rfl (by decide +kernel)
def qJ:FnScope ["self","name","worth","counter"] ["self","name","worth"] (ai nQ):=aH rfl rfl rfl (by decide +kernel)
def jf:FnScope ["self","counter","found"] ["self"] (ai kU):=aH rfl rfl rfl (by decide +kernel)
def rh:FnScope ["self"] ["self"] (ai jw):=aH rfl rfl rfl (by decide +kernel)
def mS:FnScope ["self","word","name","worth"] ["self","word","name","worth"] (ai kW):=aH rfl rfl rfl (by decide +kernel)
def rq:FnScope ["self","word","name","worth"] ["self","word","name","worth"] (ai jo):=aH rfl rfl rfl (by decide +kernel)
def fh:FnScope ["story","judge","number","happening"] ["story"] (ai iZ):=aH rfl rfl rfl (by decide +kernel)
def ic:FnScope ["story","laid","fetched","pairs","gone"] ["story","laid","fetched"] (ai ji):=aH rfl rfl rfl (by decide +kernel)
def uE:FnScope ["self","store","size","rounds","names","faults"] ["self","store","size","rounds","names","faults"] (ai kH):=aH rfl rfl rfl (by decide +kernel)
def gT:FnScope ["self","name"] ["self"] (ai eQ):=aH rfl rfl rfl (by decide +kernel)
def nW:FnScope ["self"] ["self"] (ai fK):=aH rfl rfl rfl (by decide +kernel)
def qv:FnScope ["self","worth","name"] ["self","worth"] (ai nN):=aH rfl rfl rfl (by decide +kernel)
def kJ:FnScope ["self","told"] ["self"] (ai iq):=aH rfl rfl rfl (by decide +kernel)
def j8:FnScope ["self"] ["self"] (ai cj):=aH rfl rfl rfl (by decide +kernel)
def rj:FnScope ["self","store","size","rounds","faults"] ["self","store","size","rounds","faults"] (ai j9):=aH rfl rfl rfl (by decide +kernel)
def mJ:FnScope ["self","told"] ["self"] (ai kP):=aH rfl rfl rfl (by decide +kernel)
def kN:FnScope ["self","name"] ["self","name"] (ai cT):=aH rfl rfl rfl (by decide +kernel)
def ql:FnScope ["self","name","worth"] ["self","name","worth"] (ai ie):=aH rfl rfl rfl (by decide +kernel)
def r8:FnScope ["self"] ["self"] (ai jC):=aH rfl rfl rfl (by decide +kernel)
def iA:FnScope ["self"] ["self"] (ai bW):=aH rfl rfl rfl (by decide +kernel)
def qX:FnScope ["self"] ["self"] (ai jg):=aH rfl rfl rfl (by decide +kernel)
def qY:FnScope ["self","side","cell","worth"] ["self","side","cell","worth"] (ai iU):=aH rfl rfl rfl (by decide +kernel)
def lp:FnScope ["self","side","first"] ["self","side"] (ai jH):=aH rfl rfl rfl (by decide +kernel)
def rT:FnScope ["self","side"] ["self","side"] (ai iR):=aH rfl rfl rfl (by decide +kernel)
def mK:FnScope ["self","side","cell","waiting"] ["self","side","cell"] (ai kM):=aH rfl rfl rfl (by decide +kernel)
def qy:FnScope ["self","cell"] ["self","cell"] (ai im):=aH rfl rfl rfl (by decide +kernel)
def rL:FnScope ["self","side"] ["self","side"] (ai iP):=aH rfl rfl rfl (by decide +kernel)
def xn:FnScope ["value"] ["value"] (ai nR):=aH rfl rfl rfl (by decide +kernel)
def AR:FnScope ["value","kind"] ["value","kind"] (ai qp):=aH rfl rfl rfl (by decide +kernel)
def su:FnScope ["some","kinds"] ["some"] (ai qB):=aH rfl rfl rfl (by decide +kernel)
def Aw:FnScope ["some"] ["some"] (ai pV):=aH rfl rfl rfl (by decide +kernel)
def tS:FnScope ["self","size","rounds","names","faults"] ["self","size","rounds","names","faults"] (ai kZ):=aH rfl rfl rfl (by decide +kernel)
def o4:FnScope ["self","some","word"] ["self","some"] (ai lT):=aH rfl rfl rfl (by decide +kernel)
def lM:FnScope ["self","worths"] ["self","worths"] (ai el):=aH rfl rfl rfl (by decide +kernel)
def uq:FnScope ["self"] ["self"] (ai kB):=aH rfl rfl rfl (by decide +kernel)
def pR:FnScope ["self","side"] ["self","side"] (ai i9):=aH rfl rfl rfl (by decide +kernel)
def oN:FnScope ["self","side"] ["self","side"] (ai gt):=aH rfl rfl rfl (by decide +kernel)
def wo:FnScope ["self"] ["self"] (ai lQ):=aH rfl rfl rfl (by decide +kernel)
def uH:FnScope ["self"] ["self"] (ai kD):=aH rfl rfl rfl (by decide +kernel)
def uo:FnScope ["self","some"] ["self","some"] (ai kF):=aH rfl rfl rfl (by decide +kernel)
def my:FnScope ["self","some"] ["self","some"] (ai f9):=aH rfl rfl rfl (by decide +kernel)
def cN:FnScope ["self","worths","deeds","name","word"] ["self","worths"] (ai fN):=aH rfl rfl rfl (by decide +kernel)
def lD:FnScope ["self","worth","name"] ["self","worth"] (ai jD):=aH rfl rfl rfl (by decide +kernel)
def nS:FnScope ["self","name","worth"] ["self","name","worth"] (ai fG):=aH rfl rfl rfl (by decide +kernel)
def lm:FnScope ["self","word","told"] ["self","word","told"] (ai de):=aH rfl rfl rfl (by decide +kernel)
def kQ:FnScope ["self","side","other"] ["self","side"] (ai ia):=aH rfl rfl rfl (by decide +kernel)
def rW:FnScope ["self","side"] ["self","side"] (ai jB):=aH rfl rfl rfl (by decide +kernel)
def pY:FnScope ["self","side"] ["self","side"] (ai io):=aH rfl rfl rfl (by decide +kernel)
def jb:FnScope ["self","side"] ["self","side"] (ai cn):=aH rfl rfl rfl (by decide +kernel)
def Bk:FnScope ["yard","story"] ["yard"] (ai BC):=aH rfl rfl rfl (by decide +kernel)
def ce:FnScope ["yard","words","made","laid","fetched"] ["yard","words"] (ai dZ):=aH rfl rfl rfl (by decide +kernel)
def vB:FnScope ["yard","story","words"] ["yard","story","words"] (ai lK):=aH rfl rfl rfl (by decide +kernel)
def ug:FnScope ["yard","side"] ["yard","side"] (ai ky):=aH rfl rfl rfl (by decide +kernel)
def o7:FnScope ["word","figures"] ["word"] (ai lY):=aH rfl rfl rfl (by decide +kernel)
def k8:FnScope ["word","kind","bounds","number"] ["word","kind"] (ai lZ):=aH rfl rfl rfl (by decide +kernel)
def uD:FnScope ["words","kinds"] ["words","kinds"] (ai kq):=aH rfl rfl rfl (by decide +kernel)
def pD:FnScope ["faults"] ["faults"] (ai ii):=aH rfl rfl rfl (by decide +kernel)
def vK:FnScope ["truth"] ["truth"] (ai lX):=aH rfl rfl rfl (by decide +kernel)
def wE:FnScope ["part"] ["part"] (ai m3):=aH rfl rfl rfl (by decide +kernel)
def vt:FnScope ["word","told"] ["word","told"] (ai lN):=aH rfl rfl rfl (by decide +kernel)
def uc:FnScope ["self"] ["self"] (ai kO):=aH rfl rfl rfl (by decide +kernel)
def qK:FnScope ["self","row","words"] ["self","row"] (ai nE):=aH rfl rfl rfl (by decide +kernel)
def fH:FnScope ["self","words","numbers","faults"] ["self","words"] (ai gk):=aH rfl rfl rfl (by decide +kernel)
def fM:FnScope ["self","words","numbers","told"] ["self","words"] (ai gr):=aH rfl rfl rfl (by decide +kernel)
def jR:FnScope ["self","words","side"] ["self","words"] (ai ge):=aH rfl rfl rfl (by decide +kernel)
def rX:FnScope ["script","k"] ["script","k"] (ai ja):=aH rfl rfl rfl (by decide +kernel)
def Az:FnScope ["cell"] ["cell"] (ai pI):=aH rfl rfl rfl (by decide +kernel)
def pA:FnScope ["row","many","told"] ["row","many"] (ai nJ):=aH rfl rfl rfl (by decide +kernel)
def l7:FnScope ["desk","row","some","faults","made"] ["desk","row"] (ai pQ):=aH rfl rfl rfl (by decide +kernel)
def f8:FnScope ["row","yard","worth","some","side","word","others"] ["row","yard"] (ai nP):=aH rfl rfl rfl (by decide +kernel)
def wT:FnScope ["part"] ["part"] (ai ni):=aH rfl rfl rfl (by decide +kernel)
def xG:FnScope ["deed","told"] ["deed","told"] (ai n8):=aH rfl rfl rfl (by decide +kernel)
def du:FnScope ["yard","deed","answer"] ["yard","deed"] (ai nC):=aH rfl rfl rfl (by decide +kernel)
def dq:FnScope ["desk","row","answer"] ["desk","row"] (ai o3):=aH rfl rfl rfl (by decide +kernel)
def mw:FnScope ["desk","yard","side"] ["desk","yard","side"] (ai eT):=aH rfl rfl rfl (by decide +kernel)
def qg:FnScope ["script","desks","yards","cell","row","at","deed"] ["script"] (ai HF):=aH rfl rfl rfl (by decide +kernel)
set_option genInjectivity false
set_option genSizeOfSpec false
structure Ad where
 cJ:K'
 iW:K'
 iT:K'
 dj:K'
 fg:K'
 dF:K'
 cI:K'
 cb:K'
 bc:K'
 jz:K'
 eV:K'
 dJ:K'
 cL:K'
 dM:K'
 dH:K'
 dC:K'
 fe:K'
 bD:K'
 bO:K'
 jJ:K'
 cG:K'
 aX:K'
 dn:K'
 eW:K'
 bb:K'
 cH:K'
 dc:K'
 aQ:K'
 dw:K'
 dg:K'
 dI:K'
 dL:K'
 eX:K'
 cC:K'
 dG:K'
 iV:K'
 lV:K'
 lJ:K'
 lF:K'
 ff:K'
 gs:K'
 bt:K'
 eP:K'
 cy:K'
 bX:K'
 gh:K'
 f7:K'
 eO:K'
 bF:K'
 bN:K'
 dN:K'
 bM:K'
 bh:K'
 cE:K'
 dE:K'
 cB:K'
 aW:K'
 qW:K'
 bu:K'
 gJ:K'
 eY:K'
 gF:K'
 gx:K'
 eK:K'
 cx:K'
 gb:K'
 gl:K'
 gp:K'
 eU:K'
 iY:K'
 c7:K'
 bY:K'
 c6:K'
 dD:K'
 lI:K'
 jm:K'
 lP:K'
 iS:K'
 jI:K'
 jp:K'
 jr:K'
 jA:K'
 bC:K'
 law:K'
 bB:K'
 gP:K'
 c9:K'
 aM:K'
 aD:K'
 aY:K'
 iz:K'
 iD:K'
 wN:K'
 gU:K'
 hG:K'
 iG:K'
 KC:K'
 hZ:K'
 bJ:K'
 aO:K'
 fY:K'
 lU:K'
 jc:K'
 gC:K'
 gO:K'
 gH:K'
 gq:K'
 gD:K'
 gz:K'
 gf:K'
 gG:K'
 dW:K'
 dO:K'
 dR:K'
 dQ:K'
 dS:K'
structure Fd where
 cJ:Np
 iW:Np
 iT:Np
 dj:Np
 fg:Np
 dF:Np
 cI:Np
 cb:Np
 bc:Np
 jz:Np
 eV:Np
 dJ:Np
 cL:Np
 dM:Np
 dH:Np
 dC:Np
 fe:Np
 bD:Np
 bO:Np
 jJ:Np
 cG:Np
 aX:Np
 dn:Np
 eW:Np
 bb:Np
 cH:Np
 dc:Np
 aQ:Np
 dw:Np
 dg:Np
 dI:Np
 dL:Np
 eX:Np
 cC:Np
 dG:Np
 iV:Np
 lV:Np
 lJ:Np
 lF:Np
 ff:Np
 gs:Np
 bt:Np
 eP:Np
 cy:Np
 bX:Np
 gh:Np
 f7:Np
 eO:Np
 bF:Np
 bN:Np
 dN:Np
 bM:Np
 bh:Np
 cE:Np
 dE:Np
 cB:Np
 aW:Np
 qW:Np
 bu:Np
 gJ:Np
 eY:Np
 gF:Np
 gx:Np
 eK:Np
 cx:Np
 gb:Np
 gl:Np
 gp:Np
 eU:Np
 iY:Np
 c7:Np
 bY:Np
 c6:Np
 dD:Np
 lI:Np
 jm:Np
 lP:Np
 iS:Np
 jI:Np
 jp:Np
 jr:Np
 jA:Np
 bC:Np
 law:Np
structure Gs (K:Nh) (mg:Str->Option Na) (a:Ad) (d:Fd):Prop where
 lr:Fun K "next_counter" "next_counter" i7 a.cJ d.cJ
 qZ:aB K d.cJ ["counter","size","rounds"] []
 rR:mg "next_counter"=f' (.ref a.cJ)
 sE:Fun K "place_of" "place_of" nT a.iW d.iW
 AV:aB K d.iW ["counter","size"] []
 zX:mg "place_of"=f' (.ref a.iW)
 nv:Fun K "ahead_by" "ahead_by" nI a.iT d.iT
 sv:aB K d.iT ["one","other","size","rounds"] []
 sL:mg "ahead_by"=f' (.ref a.iT)
 je:Fun K "rounds_with" "rounds_with" jL a.dj d.dj
 mi:aB K d.dj ["rounds","faults"] []
 m8:mg "rounds_with"=f' (.ref a.dj)
 uZ:Fun K "__init__" "Ring.__init__" kz a.fg d.fg
 gR:aB K d.fg ["self","store","side","words","size","rounds","faults"] []
 uz:Fun K "filled" "Ring.filled" jt a.dF d.dF
 fT:aB K d.dF ["self"] []
 fm:Meth K a.bB "filled" a.dF
 rJ:Fun K "is_full" "Ring.is_full" i8 a.cI d.cI
 lB:aB K d.cI ["self"] []
 l6:Meth K a.bB "is_full" a.cI
 pJ:Fun K "place_at" "Ring.place_at" gN a.cb d.cb
 jY:aB K d.cb ["self","counter"] []
 jO:Meth K a.bB "place_at" a.cb
 ln:Fun K "write_further" "Ring.write_further" cV a.bc d.bc
 cS:aB K d.bc ["self","cell","counter"] []
 cz:Meth K a.bB "write_further" a.bc
 AW:Fun K "lay" "Ring.lay" nQ a.jz d.jz
 rZ:aB K d.jz ["self","name","worth"] []
 pw:Meth K a.bB "lay" a.jz
 vJ:Fun K "fetch" "Ring.fetch" kU a.eV d.eV
 oz:aB K d.eV ["self"] []
 mr:Meth K a.bB "fetch" a.eV
 tE:Fun K "__init__" "Judge.__init__" jw a.dJ d.dJ
 uR:aB K d.dJ ["self"] []
 oj:Fun K "fits" "Judge.fits" kW a.cL d.cL
 uX:aB K d.cL ["self","word","name","worth"] []
 tQ:Meth K a.gP "fits" a.cL
 tT:Fun K "go_on" "Judge.go_on" jo a.dM d.dM
 sZ:aB K d.dM ["self","word","name","worth"] []
 rC:Meth K a.gP "go_on" a.dM
 ms:Fun K "first_wrong" "first_wrong" iZ a.dH d.dH
 sX:aB K d.dH ["story"] []
 uu:mg "first_wrong"=f' (.ref a.dH)
 mf:Fun K "not_fetched" "not_fetched" ji a.dC d.dC
 tX:aB K d.dC ["story","laid","fetched"] []
 sT:mg "not_fetched"=f' (.ref a.dC)
 vU:Fun K "__init__" "Hand.__init__" kH a.fe d.fe
 vb:aB K d.fe ["self","store","size","rounds","names","faults"] []
 nL:Fun K "least_free" "Hand.least_free" eQ a.bD d.bD
 iI:aB K d.bD ["self"] []
 i3:Meth K a.c9 "least_free" a.bD
 oF:Fun K "check_ask" "Hand.check_ask" fK a.bO d.bO
 jM:aB K d.bO ["self"] []
 iH:Meth K a.c9 "check_ask" a.bO
 AY:Fun K "ask" "Hand.ask" nN a.jJ d.jJ
 zB:aB K d.jJ ["self","worth"] []
 xp:Meth K a.c9 "ask" a.jJ
 rB:Fun K "collect" "Hand.collect" iq a.cG d.cG
 rK:aB K d.cG ["self"] []
 pE:Meth K a.c9 "collect" a.cG
 jT:Fun K "something_waits" "Hand.something_waits" cj a.aX d.aX
 jV:aB K d.aX ["self"] []
 jE:Meth K a.c9 "something_waits" a.aX
 u9:Fun K "__init__" "Heart.__init__" j9 a.dn d.dn
 uB:aB K d.dn ["self","store","size","rounds","faults"] []
 vF:Fun K "take" "Heart.take" kP a.eW d.eW
 wm:aB K d.eW ["self"] []
 ub:Meth K a.aM "take" a.eW
 lg:Fun K "check_answer" "Heart.check_answer" cT a.bb d.bb
 fO:aB K d.bb ["self","name"] []
 fE:Meth K a.aM "check_answer" a.bb
 rg:Fun K "answer" "Heart.answer" ie a.cH d.cH
 rS:aB K d.cH ["self","name","worth"] []
 qO:Meth K a.aM "answer" a.cH
 uU:Fun K "tasks" "Heart.tasks" jC a.dc d.dc
 uI:aB K d.dc ["self"] []
 rV:Meth K a.aM "tasks" a.dc
 jy:Fun K "something_waits" "Heart.something_waits" bW a.aQ d.aQ
 jG:aB K d.aQ ["self"] []
 iB:Meth K a.aM "something_waits" a.aQ
 tq:Fun K "__init__" "Store.__init__" jg a.dw d.dw
 uQ:aB K d.dw ["self"] []
 u7:Fun K "write" "Store.write" iU a.dg d.dg
 eC:aB K d.dg ["self","side","cell","worth"] []
 cY:Meth K a.aD "write" a.dg
 tz:Fun K "drain" "Store.drain" jH a.dI d.dI
 mq:aB K d.dI ["self","side"] []
 lw:Meth K a.aD "drain" a.dI
 ua:Fun K "fence" "Store.fence" iR a.dL d.dL
 m6:aB K d.dL ["self","side"] []
 ly:Meth K a.aD "fence" a.dL
 vC:Fun K "read" "Store.read" kM a.eX d.eX
 dU:aB K d.eX ["self","side","cell"] []
 cR:Meth K a.aD "read" a.eX
 rm:Fun K "memory" "Store.memory" im a.cC d.cC
 ix:aB K d.cC ["self","cell"] []
 gL:Meth K a.aD "memory" a.cC
 tm:Fun K "waits" "Store.waits" iP a.dG d.dG
 ez:aB K d.dG ["self","side"] []
 cZ:Meth K a.aD "waits" a.dG
 sG:Fun K "is_whole" "is_whole" nR a.iV d.iV
 A9:aB K d.iV ["value"] []
 zL:mg "is_whole"=f' (.ref a.iV)
 we:Fun K "is_part" "is_part" qp a.lV d.lV
 Bo:aB K d.lV ["value","kind"] []
 BU:mg "is_part"=f' (.ref a.lV)
 wJ:Fun K "is_deed" "is_deed" qB a.lJ d.lJ
 C9:aB K d.lJ ["some"] []
 Cs:mg "is_deed"=f' (.ref a.lJ)
 vH:Fun K "side_of" "side_of" pV a.lF d.lF
 Cc:aB K d.lF ["some"] []
 C8:mg "side_of"=f' (.ref a.lF)
 vN:Fun K "__init__" "Yard.__init__" kZ a.ff d.ff
 oy:aB K d.ff ["self","size","rounds","names","faults"] []
 xr:Fun K "deed" "Yard.deed" lT a.gs d.gs
 pK:aB K d.gs ["self","some"] []
 oA:Meth K a.aY "deed" a.gs
 ma:Fun K "can_be_done" "Yard.can_be_done" el a.bt d.bt
 m5:aB K d.bt ["self","worths"] []
 lS:Meth K a.aY "can_be_done" a.bt
 wG:Fun K "story" "Yard.story" kB a.eP d.eP
 ki:aB K d.eP ["self"] []
 iQ:Meth K a.aY "story" a.eP
 rn:Fun K "sleeper" "Yard.sleeper" i9 a.cy d.cy
 rA:aB K d.cy ["self","side"] []
 pH:Meth K a.aY "sleeper" a.cy
 qF:Fun K "is_quiet" "Yard.is_quiet" gt a.bX d.bX
 pC:aB K d.bX ["self","side"] []
 oR:Meth K a.aY "is_quiet" a.bX
 x4:Fun K "made" "Yard.made" lQ a.gh d.gh
 xz:aB K d.gh ["self"] []
 wz:Meth K a.aY "made" a.gh
 wA:Fun K "store" "Yard.store" kD a.f7 d.f7
 dP:aB K d.f7 ["self"] []
 cM:Meth K a.aY "store" a.f7
 vP:Fun K "check" "Yard.check" kF a.eO d.eO
 o5:aB K d.eO ["self","some"] []
 mF:Meth K a.aY "check" a.eO
 nO:Fun K "is_allowed" "Yard.is_allowed" f9 a.bF d.bF
 n6:aB K d.bF ["self","some"] []
 mL:Meth K a.aY "is_allowed" a.bF
 oG:Fun K "thinkable" "Yard.thinkable" fN a.bN d.bN
 oU:aB K d.bN ["self","worths"] []
 nU:Meth K a.aY "thinkable" a.bN
 um:Fun K "do_ask" "Yard.do_ask" jD a.dN d.dN
 sV:aB K d.dN ["self","worth"] []
 rP:Meth K a.aY "do_ask" a.dN
 oS:Fun K "do_answer" "Yard.do_answer" fG a.bM d.bM
 oE:aB K d.bM ["self","name","worth"] []
 nG:Meth K a.aY "do_answer" a.bM
 lL:Fun K "tell_fetched" "Yard.tell_fetched" de a.bh d.bh
 gI:aB K d.bh ["self","word","told"] []
 fQ:Meth K a.aY "tell_fetched" a.bh
 rD:Fun K "do_bell" "Yard.do_bell" ia a.cE d.cE
 rH:aB K d.cE ["self","side"] []
 qc:Meth K a.aY "do_bell" a.cE
 uT:Fun K "do_lie" "Yard.do_lie" jB a.dE d.dE
 ur:aB K d.dE ["self","side"] []
 rk:Meth K a.aY "do_lie" a.dE
 rQ:Fun K "do_look" "Yard.do_look" io a.cB d.cB
 rE:aB K d.cB ["self","side"] []
 qS:Meth K a.aY "do_look" a.cB
 jW:Fun K "something_waits" "Yard.something_waits" cn a.aW d.aW
 jS:aB K d.aW ["self","side"] []
 jx:Meth K a.aY "something_waits" a.aW
 Bf:Fun K "errs" "errs" BC a.qW d.qW
 Go:aB K d.qW ["yard"] []
 FY:mg "errs"=f' (.ref a.qW)
 e9:Fun K "filled_in_memory" "filled_in_memory" dZ a.bu d.bu
 hU:aB K d.bu ["yard","words"] []
 hV:mg "filled_in_memory"=f' (.ref a.bu)
 lR:Fun K "miscounts" "miscounts" lK a.gJ d.gJ
 qr:aB K d.gJ ["yard","story","words"] []
 qL:mg "miscounts"=f' (.ref a.gJ)
 kI:Fun K "oversleeps" "oversleeps" ky a.eY d.eY
 oB:aB K d.eY ["yard","side"] []
 oC:mg "oversleeps"=f' (.ref a.eY)
 qQ:Fun K "is_number" "is_number" lY a.gF d.gF
 xk:aB K d.gF ["word"] []
 xw:mg "is_number"=f' (.ref a.gF)
 qm:Fun K "number_of" "number_of" lZ a.gx d.gx
 xP:aB K d.gx ["word","kind"] []
 xB:mg "number_of"=f' (.ref a.gx)
 i5:Fun K "numbers_of" "numbers_of" kq a.eK d.eK
 ku:aB K d.eK ["words","kinds"] []
 kK:mg "numbers_of"=f' (.ref a.eK)
 lC:Fun K "check_faults" "check_faults" ii a.cx d.cx
 rO:aB K d.cx ["faults"] []
 rG:mg "check_faults"=f' (.ref a.cx)
 m4:Fun K "yes_or_no" "yes_or_no" lX a.gb d.gb
 qi:aB K d.gb ["truth"] []
 qz:mg "yes_or_no"=f' (.ref a.gb)
 lO:Fun K "part_text" "part_text" m3 a.gl d.gl
 qb:aB K d.gl ["part"] []
 qM:mg "part_text"=f' (.ref a.gl)
 qG:Fun K "told_text" "told_text" lN a.gp d.gp
 xO:aB K d.gp ["word","told"] []
 wQ:mg "told_text"=f' (.ref a.gp)
 vv:Fun K "__init__" "Desk.__init__" kO a.eU d.eU
 oi:aB K d.eU ["self"] []
 zD:Fun K "say" "Desk.say" nE a.iY d.iY
 iM:aB K d.iY ["self","row"] []
 gy:Meth K a.iz "say" a.iY
 pB:Fun K "say_ring" "Desk.say_ring" gk a.c7 d.c7
 qT:aB K d.c7 ["self","words"] []
 oI:Meth K a.iz "say_ring" a.c7
 qj:Fun K "say_deed" "Desk.say_deed" gr a.bY d.bY
 qA:aB K d.bY ["self","words"] []
 oP:Meth K a.iz "say_deed" a.bY
 qa:Fun K "say_look" "Desk.say_look" ge a.c6 d.c6
 qq:aB K d.c6 ["self","words"] []
 oH:Meth K a.iz "say_look" a.c6
 mP:Fun K "_law_cell_at" "_law_cell_at" ja a.dD d.dD
 tR:aB K d.dD ["script","k"] []
 tD:mg "_law_cell_at"=f' (.ref a.dD)
 pW:Fun K "_law_row" "_law_row" pI a.lI d.lI
 vf:aB K d.lI ["cell"] []
 vG:mg "_law_row"=f' (.ref a.lI)
 b9:Fun K "_law_take" "_law_take" nJ a.jm d.jm
 bg:aB K d.jm ["row","many"] []
 bf:mg "_law_take"=f' (.ref a.jm)
 qe:Fun K "_law_new" "_law_new" pQ a.lP d.lP
 wx:aB K d.lP ["desk","row"] []
 ww:mg "_law_new"=f' (.ref a.lP)
 sf:Fun K "_law_deed" "_law_deed" nP a.iS d.iS
 AM:aB K d.iS ["row","yard"] []
 zT:mg "_law_deed"=f' (.ref a.iS)
 nV:Fun K "_law_part" "_law_part" ni a.jI d.jI
 sN:aB K d.jI ["part"] []
 sD:mg "_law_part"=f' (.ref a.jI)
 sk:Fun K "_law_word" "_law_word" n8 a.jp d.jp
 Aj:aB K d.jp ["deed","told"] []
 AA:mg "_law_word"=f' (.ref a.jp)
 sB:Fun K "_law_done" "_law_done" nC a.jr d.jr
 Ar:aB K d.jr ["yard","deed"] []
 AB:mg "_law_done"=f' (.ref a.jr)
 sx:Fun K "_law_said" "_law_said" o3 a.jA d.jA
 zZ:aB K d.jA ["desk","row"] []
 An:mg "_law_said"=f' (.ref a.jA)
 cP:Fun K "_law_asked_right" "_law_asked_right" eT a.bC d.bC
 eM:aB K d.bC ["desk","yard","side"] []
 eR:mg "_law_asked_right"=f' (.ref a.bC)
 KZ:Fun K "law" "law" HF a.law d.law
 MM:aB K d.law ["script"] []
 Mq:mg "law"=f' (.ref a.law)
 ax:Cls K a.bB
 zh:mg "Ring"=f' (.ref a.bB)
 zi:Mk K a.bB a.fg
 bz:aV K a.bB "shelf"
 bK:aV K a.bB "side"
 o9:aV K a.bB "word"
 fA:aV K a.bB "laid"
 eA:aV K a.bB "fetched"
 fB:aV K a.bB "size"
 ij:aV K a.bB "rounds"
 bH:aV K a.bB "counter_first"
 br:Cls K a.gP
 Ip:mg "Judge"=f' (.ref a.gP)
 IL:Mk K a.gP a.dJ
 cf:aV K a.gP "untaken"
 bT:aV K a.gP "unhanded"
 fu:aV K a.gP "going"
 fw:aV K a.gP "doing"
 bS:Cls K a.c9
 JS:mg "Hand"=f' (.ref a.c9)
 JO:Mk K a.c9 a.fe
 kY:aV K a.c9 "asks"
 gw:aV K a.c9 "answers"
 mC:aV K a.c9 "names"
 eD:aV K a.c9 "going"
 bL:Cls K a.aM
 HK:mg "Heart"=f' (.ref a.aM)
 GV:Mk K a.aM a.dn
 j7:aV K a.aM "asks"
 fI:aV K a.aM "answers"
 d5:aV K a.aM "doing"
 aG:Cls K a.aD
 GO:mg "Store"=f' (.ref a.aD)
 Hc:Mk K a.aD a.dw
 iO:aV K a.aD "held"
 bZ:aV K a.aD "rows"
 al:Cls K a.aY
 Gz:mg "Yard"=f' (.ref a.aY)
 Gp:Mk K a.aY a.ff
 o8:aV K a.aY "size"
 lE:aV K a.aY "rounds"
 r9:aV K a.aY "faults"
 b7:aV K a.aY "shelf"
 fC:aV K a.aY "hand"
 cQ:aV K a.aY "heart"
 gE:aV K a.aY "bell_fences"
 gX:aV K a.aY "lie_fences"
 iL:aV K a.aY "look_sees"
 aZ:aV K a.aY "sleepers"
 eE:aV K a.aY "quiet"
 ci:aV K a.aY "happened"
 cU:Cls K a.iz
 FT:mg "Desk"=f' (.ref a.iz)
 G2:Mk K a.iz a.eU
 bV:aV K a.iz "yard"
 HZ:mg "all"=Nf
 Gy:mg "bool"=Nf
 xC:mg "enumerate"=Nf
 Ab:mg "int"=Nf
 bI:mg "isinstance"=Nf
 m9:mg "len"=Nf
 Gi:mg "list"=Nf
 x6:mg "range"=Nf
 A7:mg "reversed"=Nf
 KG:mg "set"=Nf
 tM:mg "sorted"=Nf
 oK:mg "str"=Nf
 kX:mg "tuple"=Nf
 Kr:mg "zip"=Nf
 xf:mg "RingError"=f' (.ref a.iD)
 yj:mg "Full"=f' (.ref a.wN)
 sU:mg "NoName"=f' (.ref a.gU)
 uv:mg "NoTask"=f' (.ref a.hG)
 ml:mg "NoDeed"=f' (.ref a.iG)
 Le:mg "NoRow"=f' (.ref a.KC)
 xU:mg "ASKS"=f' (.ref a.hZ)
 yM:∀ H,SqT K H a.hZ [.str "ask",.str "asked",.str "taken"]
 m7:mg "ANSWERS"=f' (.ref a.bJ)
 mj:∀ H,SqT K H a.bJ [.str "answer",.str "answered",.str "handed"]
 ga:mg "SLEEP_CELLS"=f' (.ref a.aO)
 fV:∀ H,SqT K H a.aO [.str "hand sleeps",.str "heart sleeps"]
 FE:mg "FAULTS"=f' (.ref a.fY)
 EC:∀ H,SqT K H a.fY [.str "bell",.str "counter",.str "lie",.str "look",.str "round"]
 gQ:∃ t,mg "MOST_WORTH"=f' (.int 1000000000 t)
 rM:∃ t,mg "MOST_FIGURES"=f' (.int 12 t)
 BY:∃ t,mg "FIGURES"=f' (.str "0123456789" t)
 xA:mg "FORMS"=f' (.ref a.lU)
 xu:FW K a.lU [("ask",a.gC),("collect",a.gO),("take",a.gH),("answer",a.gq),("bell",a.gD),("lie",a.gz),("look",a.gf),("drain",a.gG)]
 Dr:∀ H,SqT K H a.gC [.str "worth"]
 Dq:∀ H,SqT K H a.gO []
 C2:∀ H,SqT K H a.gH []
 Cr:∀ H,SqT K H a.gq [.str "name",.str "worth"]
 CA:∀ H,SqT K H a.gD [.str "side"]
 D7:∀ H,SqT K H a.gz [.str "side"]
 Bs:∀ H,SqT K H a.gf [.str "side"]
 BR:∀ H,SqT K H a.gG [.str "side"]
 EG:mg "BOUNDS"=f' (.ref a.jc)
 E9:FW K a.jc [("size",a.dW),("rounds",a.dO),("names",a.dR),("name",a.dQ),("side",a.dS)]
 Ap:∀ H,SqT K H a.dW [.int 1,.int 8]
 A4:∀ H,SqT K H a.dO [.int 2,.int 4]
 AI:∀ H,SqT K H a.dR [.int 1,.int 9]
 AG:∀ H,SqT K H a.dQ [.int 0,.int 1000000000]
 AH:∀ H,SqT K H a.dS [.int 0,.int 1]
 xc_Full:excIn K a.wN veB "ValueError.__new__"=G'
 xc_NoName:excIn K a.gU veB "ValueError.__new__"=G'
 xc_NoTask:excIn K a.hG veB "ValueError.__new__"=G'
 xc_NoDeed:excIn K a.iG veB "ValueError.__new__"=G'
 xc_NoRow:excIn K a.KC veB "ValueError.__new__"=G'
 MF:Og K (.ref a.wN) (.ref a.iD)=f' G'
 MV:Og K (.ref a.gU) (.ref a.iD)=f' G'
 MH:Og K (.ref a.hG) (.ref a.iD)=f' G'
 Mn:Og K (.ref a.iG) (.ref a.iD)=f' G'
 JY:Og K (.ref a.iG) (.ref a.iG)=f' G'
 JG:Og K (.ref a.iG) (.ref a.wN)=f' D'
 IV:Og K (.ref a.iG) (.ref a.gU)=f' D'
 Js:Og K (.ref a.iG) (.ref a.hG)=f' D'
 MW:Og K (.ref a.wN) (.ref a.iG)=f' D'
 IU:Og K (.ref a.wN) (.ref a.wN)=f' G'
 MC:Og K (.ref a.wN) (.ref a.gU)=f' D'
 MN:Og K (.ref a.wN) (.ref a.hG)=f' D'
 Mx:Og K (.ref a.gU) (.ref a.iG)=f' D'
 Ji:Og K (.ref a.gU) (.ref a.wN)=f' D'
 Kq:Og K (.ref a.gU) (.ref a.gU)=f' G'
 Mm:Og K (.ref a.gU) (.ref a.hG)=f' D'
 MB:Og K (.ref a.hG) (.ref a.iG)=f' D'
 Ku:Og K (.ref a.hG) (.ref a.wN)=f' D'
 JB:Og K (.ref a.hG) (.ref a.gU)=f' D'
 Jg:Og K (.ref a.hG) (.ref a.hG)=f' G'
 LU:Ol K (.ref a.aY) "__eq__"=f' (f' (.builtin "object.__eq__"))
 Ma:PySem.W.mroIn K a.aY (.type "object")=f' G'
set_option genInjectivity true
set_option genSizeOfSpec true
def iJ {c A B:Prop} [Decidable c] (hc:¬ c) (h:B):if decide c=G' then A else B:=by
 rw[decide_eq_false hc];exact cW h
def pL {c A B:Prop} [Decidable c] (hc:c) (h:A):if decide c=G' then A else B:=by
 rw[Vf hc];exact fP h
def mR {i j:Int}(h:V.int i=V.int j):i=j:=by injection h
def sne {a b:Str}(h:a≠b):¬ V.str a=V.str b:=λy=>h (by injection y)
def l3 {x y z:V}:[x,y,z].length <= Nl:=by show 3 <= Nl;decide
def M5 {n:Nat}(h:0 < n):seqIndex? 0 n=f' 0:=by
 unfold seqIndex?;simp[h]
def Cv (w:Nt) (C:K'):Sp:=λvs H Q _=>∃ x dx,vs=[.ref x]/\H x=f' (.ins C dx []) /\
 ∀ (hd rl:K') (l:Bool->K') (H':Hp),H hd=Nf->H rl=Nf->(∀ b,H (l b)=Nf)->Sto w C H' x hd rl l [] (λ_=>[])->Kp [x] H H'->Q .non H'
def yQ (w:Nt) (C:K'):Sp:=λvs H Q _=>∃ (x hd rl:K') (l:Bool->K') (M:List (Ni × V)) (r:Bool->List (Ni × V)) (b:Bool) (cv wv:V) (k:Ni),vs=[.ref x,.int (sdI b),cv,wv]/\Sto w C H x hd rl l M r/\(r b).length < 100000/\wO H k cv /\
 ∀ H',Sto w C H' x hd rl l M (setR r b (r b++[(k,wv)]))->Kp [l b] H H'->Q .non H'
def zo (w:Nt) (C:K'):Sp:=λvs H Q _=>∃ (x hd rl:K') (l:Bool->K') (M:List (Ni × V)) (r:Bool->List (Ni × V)) (b:Bool) (k:Ni) (v:V) (ck:List (Ni × V)),vs=[.ref x,.int (sdI b)]/\Sto w C H x hd rl l M r/\r b=(k,v) :: ck/\M.length < 100000 /\
 ∀ H',Sto w C H' x hd rl l (wK M k v) (setR r b ck)->Kp [l b,hd] H H'->Q .non H'
def y9 (w:Nt) (C:K'):Sp:=λvs H Q _=>∃ (x hd rl:K') (l:Bool->K') (M:List (Ni × V)) (r:Bool->List (Ni × V)) (b:Bool),vs=[.ref x,.int (sdI b)]/\Sto w C H x hd rl l M r/\M.length+(r b).length < 100000 /\
 ∀ H',Sto w C H' x hd rl l (mU M (r b)) (setR r b [])->Kp [l b,hd] H H'->Q .non H'
def Be (w:Nt) (C:K'):Sp:=λvs H Q _=>∃ (x hd rl:K') (l:Bool->K') (M:List (Ni × V)) (r:Bool->List (Ni × V)) (b:Bool) (cv:V) (k:Ni),vs=[.ref x,.int (sdI b),cv]/\Sto w C H x hd rl l M r/\wO H k cv/\Q (cD M (r b) k) H
def wH (w:Nt) (C:K'):Sp:=λvs H Q _=>∃ (x hd rl:K') (l:Bool->K') (M:List (Ni × V)) (r:Bool->List (Ni × V)) (cv:V) (k:Ni),vs=[.ref x,cv]/\Sto w C H x hd rl l M r/\wO H k cv/\Q ((fL M k).getD (.int 0)) H
def yk (w:Nt) (C:K'):Sp:=λvs H Q _=>∃ (x hd rl:K') (l:Bool->K') (M:List (Ni × V)) (r:Bool->List (Ni × V)) (b:Bool),vs=[.ref x,.int (sdI b)]/\Sto w C H x hd rl l M r /\
 ∀ (p:K') (ts:List V),H p=Nf->NF (Wt H) (r b) ts->Q (.ref p) (upd H p (.lst ts))
def Mf:100000 <= Nl:=by decide
def l2 {x y:V}:[x,y].length <= Nl:=by show 2 <= Nl;decide
section
variable {P:ND}{w:Nt}{K:Nh}{mg:Str->Option Na}{base:NI}{a:Ad}{d:Fd}
def GY (G:Gs K mg a d):FnOk P w K mg base CX0 1 a.dw d.dw ["self"] (Cv w a.aD):=by
 refine G.tq.ok qX (λvs H Q E h=>?_) (λcdv A outer s H vs Q E hr h=>?_)
 . obtain⟨x,dx,rfl,_⟩:=h;rfl
 . obtain⟨x,dx,rfl,hx,k⟩:=h;refine⟨_,((bo (pv 0) Hr rfl)∪(@ao _ _ _ (bo (pv 0) (@bG _ _ _ _ ((@bG _ _ _ _ aa)∣((@bG _ _ _ _ aa)∣aa))) rfl))),?_⟩;intro hd hhd;have n0:x≠hd:=ac hx hhd;refine⟨_,rfl,x,a.aD,dx,[],rfl,(by rw[ae n0];exact hx),G.aG,G.iO,(by show 0 < 1000;decide),?_⟩;refine⟨by show 0 <= Nl;decide,λl0 h0=>⟨by show 0 <= Nl;decide,λl1 h1=>⟨l2,λrl hrl=>⟨_,rfl,x,a.aD,dx,bp "held" (.ref hd) [],rfl,?_,G.aG,G.bZ,by show 1 < 1000;decide,?_⟩⟩⟩⟩
   all_goals
    have m0:x≠l0:=ac a8 h0;have m1:x≠l1:=ac (o:=.ins a.aD dx (bp "held" (.ref hd) [])) (by rw[ae m0];exact a8) h1;have m2:x≠rl:=ac (o:=.ins a.aD dx (bp "held" (.ref hd) [])) (by rw[ae m1,ae m0];exact a8) hrl
   . rw[ae m2,ae m1,ae m0];exact a8
   . have q0:hd≠l0:=ac (o:=qV hd [] 0) (by rw[ae n0.symm];exact a8) h0;have q1:hd≠l1:=ac (o:=qV hd [] 0) (by rw[ae q0,ae n0.symm];exact a8) h1;have q2:hd≠rl:=ac (o:=qV hd [] 0) (by rw[ae q1,ae q0,ae n0.symm];exact a8) hrl;have r1:l0≠l1:=ac a8 h1;have r2:l0≠rl:=ac (o:=.lst []) (by rw[ae r1];exact a8) hrl;have r3:l1≠rl:=ac a8 hrl;have e0:∀ c o,H c=f' o->c≠hd:=λc o e=>ac e hhd
     have f0:H l0=Nf:=by
      cases z:H l0 with
     |none=>rfl
     |some o=>rw[ae m0.symm,ae q0.symm,z]at h0;cases h0
     have f1:H l1=Nf:=by
      cases z:H l1 with
     |none=>rfl
     |some o=>rw[ae r1.symm,ae m1.symm,ae q1.symm,z]at h1;cases h1
     have f2:H rl=Nf:=by
      cases z:H rl with
     |none=>rfl
     |some o=>rw[ae r3.symm,ae r2.symm,ae m2.symm,ae q2.symm,z]at hrl;cases hrl
     refine k hd rl (λb=>if b then l1 else l0) _ hhd f2 (λb=>by cases b;exact f0;exact f1) ⟨⟨dx,a8⟩,⟨[],0,by rw[ae n0.symm,ae q2,ae q1,ae q0,ae n0.symm,a8],.nil,nodup_nil,Ou _⟩,by rw[ae m2.symm,a8];rfl,λb=>⟨[],?_,.nil⟩,r1,λb=>by cases b;exact r2;exact r3⟩ λc o n e=>?_
     . cases b
       . show upd _ x _ l0=_;rw[ae m0.symm,ae r2,ae r1,a8]
       . show upd _ x _ l1=_;rw[ae m1.symm,ae r3,a8]
     . have c0:c≠x:=λz=>n (Nd.mpr z)
       rw[ae c0,ae (ac e f2),ae (ac e f1),ae (ac e f0),ae c0,ae (e0 c o e)];exact e
def mB (G:Gs K mg a d):FnOk P w K mg base CX0 1 a.dg d.dg ["self","side","cell","worth"] (yQ w a.aD):=by
 refine G.u7.ok qY (λvs H Q E h=>?_) (λcdv A outer s H vs Q E hr h=>?_)
 . obtain⟨x,hd,rl,l,M,r,b,cv,wv,k,rfl,_⟩:=h;rfl
 . obtain⟨x,hd,rl,l,M,r,b,cv,wv,k,rfl,S,hlen,hk,q⟩:=h;refine⟨_,(@ao _ _ _ (@aL _ _ _ _ (@jU _ _ _ _ _ _ _ _ _ _ _ _ NV OL PySem.F.type_list_append gM (@az _ _ _ _ _ _ _ aC (ak (pv 0) rfl) (pv 1) (λ_ _=>rfl)) ((@bi _ _ _ _ _ ((pv 2)∣((pv 3)∣aa)))∣aa) (by rfl) (by rfl) (by rfl) (by rfl) (by rfl)) (by rfl))),?_⟩;obtain⟨dx,hx⟩:=S.ob;obtain⟨ts,hl,hp⟩:=S.rw b;have hn:=aU hp;refine⟨_,rfl,x,a.aD,dx,_,_,rfl,hx,G.aG,G.bZ,lf,_,rfl,rl,_,_,_,rfl,rfl,SqL.of S.ro,sS b,.inl ⟨rfl,_,SqL.of hl⟩,_,rfl,_,rfl,l2,λt ht=>⟨l b,ts,.ref t,rfl,rfl,by rw[ae (ac hl ht)];exact hl,Nn (by omega) Mf,?_⟩⟩;have tne:∀ c o,H c=f' o->c≠t:=λc o e=>ac e ht
   have tl:t≠l b:=(tne _ _ hl).symm;have kp:Kp [l b] H (upd (upd H t (.tup [cv,wv])) (l b) (.lst (ts++[.ref t]))):=λc o n e=>by
    rw[ae λz=>n (Nd.mpr z),ae (tne c o e)];exact e
   have kt:∀ c vs,H c=f' (.tup vs)->upd (upd H t (.tup [cv,wv])) (l b) (.lst (ts++[.ref t])) c=f' (.tup vs):=λc vs e=>kp c _ (λz=>by
    rw[Nd.mp z,hl]at e;cases e) e
   refine q _ ⟨⟨dx,kp _ _ (λz=>by rw[Nd.mp z,hl]at hx;cases hx) hx⟩,S.me.keepS (λo e=>kp _ _ (λz=>by
    obtain⟨es,e'⟩:=S.me.there;rw[Nd.mp z,hl]at e';cases e') e) kt,kp _ _ (λz=>S.nr b (Nd.mp z).symm) S.ro,λc=>?_,S.nl,S.nr⟩ kp
   by_cases z:c=b
   . subst z;rw[ba];exact⟨_,a8,NF.snoc (Paired.mapP hp λ_ _ q=>q.keep kt) ⟨t,cv,rfl,by rw[ae tl];exact a8,hk.keep kt⟩⟩
   . rw[eS z];exact(S.rw c).keep (λo e=>kp _ _ (λy=>by
      have y':=Nd.mp y;cases c<;>cases b
      . exact z rfl
      . exact S.nl y'
      . exact S.nl y'.symm
      . exact z rfl) e) kt
def yG (G:Gs K mg a d):FnOk P w K mg base CX0 1 a.dI d.dI ["self","side"] (zo w a.aD):=by
 refine G.tz.ok lp (λvs H Q E h=>?_) (λcdv A outer s H vs Q E hr h=>?_)
 . obtain⟨x,hd,rl,l,M,r,b,k,v,ck,rfl,_⟩:=h;rfl
 . obtain⟨x,hd,rl,l,M,r,b,k,v,ck,rfl,S,hrow,hlen,q⟩:=h;refine⟨_,((aI (eI (mG (@az _ _ _ _ _ _ _ aC (ak (pv 0) rfl) (pv 1) (λ_ _=>rfl)) (λ_=>rfl))) (@ao _ _ _ fR) am)∪((@aJ _ _ 2 _ _ _ _ lp.nd rfl (NW rfl) (@jU _ _ _ _ _ _ _ _ _ _ _ _ NV PySem.F.slot_list_pop PySem.F.type_list_pop tZ (@az _ _ _ _ _ _ _ aC (ak (pv 0) rfl) (pv 1) (λ_ _=>rfl)) (ag∣aa) (by rfl) (by rfl) (by rfl) (by rfl) (by rfl)) (by rfl) (by first|exact .inl rfl|exact .inr rfl|assumption))∪(@ao _ _ _ (Hm hr.units (ak (pv 0) rfl) (@az _ _ _ _ _ _ _ aF (pv 2) ag (λ_ _=>rfl)) (@az _ _ _ _ _ _ _ aF (pv 2) ag (λ_ _=>rfl)) rfl)))),?_⟩;obtain⟨dx,hx⟩:=S.ob;obtain⟨ts0,hl,hp0⟩:=S.rw b;rw[hrow]at hp0;cases hp0 with
  |@cons _ tv _ ts hw hp =>
    obtain⟨t,cv,rfl,ht,hk⟩:=hw;refine⟨_,rfl,x,a.aD,dx,_,_,rfl,hx,G.aG,G.bZ,lf,_,rfl,rl,_,_,_,rfl,rfl,SqL.of S.ro,sS b,G',.inl ⟨_,SqL.of hl,rfl⟩,cW ?_⟩;refine⟨_,rfl,x,a.aD,dx,_,_,rfl,hx,G.aG,G.bZ,lf,_,rfl,rl,_,_,_,rfl,rfl,SqL.of S.ro,sS b,.inl ⟨rfl,_,SqL.of hl⟩,l b,_,0,0,.ref t,rfl,rfl,hl,by decide,by decide,by simp[seqIndex?],rfl,?_⟩;have tl:t≠l b:=jh ht hl (by intro z;cases z);have kp:Kp [l b] H (upd H (l b) (.lst (List.eraseIdx (.ref t :: ts) 0))):=λc o n e=>by
     rw[ae λz=>n (Nd.mpr z)];exact e
    have kt:∀ c vs,H c=f' (.tup vs)->upd H (l b) (.lst (List.eraseIdx (.ref t :: ts) 0)) c=f' (.tup vs):=λc vs e=>kp c _ (λz=>by
     rw[Nd.mp z,hl]at e;cases e) e
    have hx':=kp x _ (λz=>by rw[Nd.mp z,hl]at hx;cases hx) hx;have me':=S.me.keepS (λo e=>kp _ _ (λz=>by
     obtain⟨es,e'⟩:=S.me.there;rw[Nd.mp z,hl]at e';cases e') e) kt
    have ro':=kp rl _ (λz=>S.nr b (Nd.mp z).symm) S.ro;have ht':=kt t _ ht;have rw':∀ c,BM (upd H (l b) (.lst (List.eraseIdx (.ref t :: ts) 0))) (l c) (setR r b ck c):=λc=>by
     by_cases z:c=b
     . subst z;rw[ba];exact⟨ts,a8,Paired.mapP hp λ_ _ q=>q.keep kt⟩
     . rw[eS z];exact(S.rw c).keep (λo e=>kp _ _ (λy=>by
        have y':=Nd.mp y;cases c<;>cases b
        . exact z rfl
        . exact S.nl y'
        . exact S.nl y'.symm
        . exact z rfl) e) kt
    have hk':=hk.keep kt;refine⟨_,rfl,t,_,_,_,rfl,rfl,SqT.of ht',rfl,_,rfl,x,a.aD,dx,_,_,rfl,hx',G.aG,G.iO,yg,_,rfl,t,_,_,_,rfl,rfl,SqT.of ht',rfl,hd,M,k,rfl,me',Nn hlen Mf,hk',λH4 g1 g2=>?_⟩;generalize upd H (l b) (.lst (List.eraseIdx (.ref t :: ts) 0))=H1 at kp kt hx' me' ro' ht' rw' hk' g1 |-;have hdn:∀ c o,H1 c=f' o->(∀ ee:List NU × Nat,o≠qV hd ee.1 ee.2)->c≠hd:=λc o e n z=>by
     obtain⟨es,e'⟩:=me'.there;rw[z,e']at e;exact n es (NH e).symm
    have k4:∀ c o,c≠hd->H1 c=f' o->H4 c=f' o:=λc o n e=>by rw[g1 c n];exact e
    have kt4:∀ c vs,H1 c=f' (.tup vs)->H4 c=f' (.tup vs):=λc vs e=>k4 c _ (hdn c _ e λes z=>by cases z) e
    refine q H4 ⟨⟨dx,k4 _ _ (hdn _ _ hx' λes z=>by cases z) hx'⟩,g2,k4 _ _ (hdn _ _ ro' λes z=>by cases z) ro',λc=>(rw' c).keep (λo e=>k4 _ _ (by
     obtain⟨ts',e',_⟩:=rw' c;exact hdn _ _ e' λes z=>by cases z) e) kt4,S.nl,S.nr⟩ λc o n e=>?_
    exact k4 c o (λz=>n (by rw[z];simp)) (kp c o (λz=>n (by rw[Nd.mp z];simp)) e)
def wq (G:Gs K mg a d):FnOk P w K mg base CX0 1 a.cC d.cC ["self","cell"] (wH w a.aD):=by
 refine G.rm.ok qy (λvs H Q E h=>?_) (λcdv A outer s H vs Q E hr h=>?_)
 . obtain⟨x,hd,rl,l,M,r,cv,k,rfl,_⟩:=h;rfl
 . obtain⟨x,hd,rl,l,M,r,cv,k,rfl,S,hk,q⟩:=h;refine⟨_,((Fs hr.units (ak (pv 0) rfl) (pv 1) ag ⟨rfl,rfl,rfl,rfl⟩)⁻¹),?_⟩;obtain⟨dx,hx⟩:=S.ob;exact⟨_,rfl,x,a.aD,dx,_,_,rfl,hx,G.aG,G.iO,yg,hd,rfl,⟨_,S.me⟩,_,rfl,M,k,S.me,hk,q⟩
def oW (G:Gs K mg a d):FnOk P w K mg base CX0 1 a.dG d.dG ["self","side"] (yk w a.aD):=by
 refine G.tm.ok rL (λvs H Q E h=>?_) (λcdv A outer s H vs Q E hr h=>?_)
 . obtain⟨x,hd,rl,l,M,r,b,rfl,_⟩:=h;rfl
 . obtain⟨x,hd,rl,l,M,r,b,rfl,S,q⟩:=h;refine⟨_,((aR oq (by rfl) G.Gi BZ ((@az _ _ _ _ _ _ _ aC (ak (pv 0) rfl) (pv 1) (λ_ _=>rfl))∣aa))⁻¹),?_⟩;obtain⟨dx,hx⟩:=S.ob;obtain⟨ts,hl,hp⟩:=S.rw b;exact⟨_,rfl,x,a.aD,dx,_,_,rfl,hx,G.aG,G.bZ,lf,_,rfl,rl,_,_,_,rfl,rfl,SqL.of S.ro,sS b,l b,ts,rfl,.inl (SqL.of hl),λp hp'=>q p ts hp' hp⟩
def yN (G:Gs K mg a d):FnOk P w K mg base CX0 2 a.dL d.dL ["self","side"] (y9 w a.aD):=by
 have Ua:FnOk P w K mg base CX0 1 _ _ _ _:=yG G;refine G.ua.ok rT (λvs H Q E h=>?_) (λcdv A outer s H vs Q E hr h=>?_)
 . obtain⟨x,hd,rl,l,M,r,b,rfl,_⟩:=h;rfl
 . obtain⟨x,hd,rl,l,M,r,b,rfl,S,hlen,q⟩:=h;refine⟨_,(@ao _ _ _ (DX Pl (mG (@az _ _ _ _ _ _ _ aC (ak (pv 0) rfl) (pv 1) (λ_ _=>rfl)) (λ_=>rfl)) (@ao _ _ _ (@aL _ _ _ _ (av (pv 0) G.aG G.lw Ua (hr.mono (by decide)) G.mq .nil aq ((pv 1)∣aa)) (by rfl))))),?_⟩;refine⟨λm σ H'=>σ=[f' (.ref x),f' (.int (sdI b))]/\∃ (M' es:List (Ni × V)),Sto w a.aD H' x hd rl l M' (setR r b es)/\m=es.length/\mU M' es=mU M (r b)/\M'.length+es.length < 100000/\Kp [l b,hd] H H',
    ⟨_,rfl,M,r b,by rw[show setR r b (r b)=r from funext λc=>by unfold setR;split;(rename_i z;rw[z]);rfl];exact S,rfl,rfl,hlen,Kp.refl _ _⟩,?_⟩
   rintro m σ H' ⟨rfl,M',es,S',rfl,hd',hl',kp⟩;obtain⟨dx,hx⟩:=S'.ob;obtain⟨ts,hl,hp⟩:=S'.rw b;rw[ba]at hp;have hn:=aU hp;refine⟨_,rfl,x,a.aD,dx,_,_,rfl,hx,G.aG,G.bZ,lf,_,rfl,rl,_,_,_,rfl,rfl,SqL.of S'.ro,sS b,!ts.isEmpty,.inl ⟨_,SqL.of hl,rfl⟩,?_⟩;refine J0 (λht=>?_) (λht=>?_)
   . cases es with
    |nil =>
      cases hp;cases ht
    |cons p es =>
      refine⟨_,λσ' H2 z=>z,?_⟩;refine⟨_,rfl,x,dx,_,rfl,hx,cr (by decide +kernel) (by decide +kernel),_,rfl,x,hd,rl,l,M',_,b,p.1,p.2,es,rfl,S',ba,by rw[NM]at hl';omega,λH2 S2 kp2=>?_⟩;refine⟨es.length,by rw[NM];omega,rfl,wK M' p.1 p.2,es,?_,rfl,hd',by have:=En M' p.1 p.2;rw[NM]at hl';omega,kp.trans kp2⟩;rw[show setR (setR r b (p :: es)) b es=setR r b es from funext λc=>by unfold setR;split<;>rfl]at S2;exact S2
   . cases es with
    |nil =>
      have e:mU M' []=M':=rfl;rw[e]at hd';rw[hd']at S';exact q H' S' kp
    |cons p es =>
      cases hp with
     |cons _ _=>exact absurd rfl ht
def uM (G:Gs K mg a d):FnOk P w K mg base CX0 2 a.eX d.eX ["self","side","cell"] (Be w a.aD):=by
 have Uc:FnOk P w K mg base CX0 1 _ _ _ _:=wq G;refine G.vC.ok mK (λvs H Q E h=>?_) (λcdv A outer s H vs Q E hr h=>?_)
 . obtain⟨x,hd,rl,l,M,r,b,cv,k,rfl,_⟩:=h;rfl
 . obtain⟨x,hd,rl,l,M,r,b,cv,k,rfl,S,hk,q⟩:=h;refine⟨_,((sI Pl rfl (K0 (by rfl) G.A7 ((@az _ _ _ _ _ _ _ aC (ak (pv 0) rfl) (pv 1) (λ_ _=>rfl))∣aa)) (ig (i:=3) mK.nd rfl (NW rfl)) (@ao _ _ _ (aI (ar (qD hr.units) (@az _ _ _ _ _ _ _ aF (pv 3) ag (λ_ _=>rfl)) (pv 2) (ay _)) ((@az _ _ _ _ _ _ _ aF (pv 3) ag (λ_ _=>rfl))⁻¹) am)))∪((av (pv 0) G.aG G.gL Uc (hr.mono (by decide)) G.ix .nil aq ((pv 2)∣aa))⁻¹)),?_⟩;obtain⟨dx,hx⟩:=S.ob;obtain⟨ts,hl,hp⟩:=S.rw b;have hn:=aU hp;refine⟨_,rfl,x,a.aD,dx,_,_,rfl,hx,G.aG,G.bZ,lf,_,rfl,rl,_,_,_,rfl,rfl,SqL.of S.ro,sS b,l b,ts,rfl,SqL.of hl,?_⟩;refine Hf (K:=K) (a:=l b) (xs:=ts) (λi σ H'=>(∃ v,σ=[f' (.ref x),f' (.int (sdI b)),f' cv,v])/\H'=H/\∀ p∈((r b).reverse.take i),Ny p.1 k=D')
    ⟨⟨_,rfl⟩,rfl,λp hp=>by cases hp⟩ (λ_ _ _ _ z=>by rw[z.2.1];exact SqL.of hl) ?_ ?_
   . rintro i y σ H' hi hy ⟨⟨v,rfl⟩,rfl,hno⟩;obtain⟨p,e1,t,tc,rfl,ht,hc⟩:=MX.f2_get hp _ _ hy;have hrev:(r b).reverse[i]?=f' p:=by
      rw[List.getElem?_reverse (by omega)];rw[hn];exact e1
     refine⟨_,rfl,t,_,_,_,rfl,rfl,SqT.of ht,rfl,_,rfl,p.1,k,hc.2.2.1,hk.2.2.1,wM.key hc.1 hc.2.1,wM.key hk.1 hk.2.1,_,rfl,?_⟩;simp only[NK,if_false];refine J0 (λhe=>?_) (λhe=>?_)
     . refine⟨_,rfl,t,_,_,_,rfl,rfl,SqT.of ht,rfl,?_⟩;have e:cD M (r b) k=p.2:=by
        unfold cD;have hfind:(r b).reverse.find? (λp=>Ny p.1 k)=f' p:=by
         rw[List.find?_eq_some_iff_getElem];refine⟨he,i,(NG.mp hrev).1,(NG.mp hrev).2,λj hj=>?_⟩;rw[hno _ (N1 (by rw[List.getElem?_take,Vc hj];exact Nk _))];rfl
        rw[hfind]
       rw[e]at q;exact q
     . refine⟨⟨_,rfl⟩,rfl,λp' hp'=>?_⟩;rw[take_succ,hrev]at hp';rcases Oc.mp hp' with z|z
       . exact hno p' z
       . rw[show p'=p by simpa using z];cases w':Ny p.1 k with
        |false=>rfl
        |true=>exact absurd w' he
   . rintro σ H' ⟨⟨v,rfl⟩,rfl,hno⟩;refine⟨_,rfl,x,dx,_,rfl,hx,cr (by decide +kernel) (by decide +kernel),_,rfl,x,hd,rl,l,M,r,cv,k,rfl,S,hk,?_⟩;have e:cD M (r b) k=(fL M k).getD (.int 0):=by
      unfold cD;have hfind:(r b).reverse.find? (λp=>Ny p.1 k)=Nf:=by
       rw[find?_eq_none];intro p hp';rw[hno p (by rw[O3 (by rw[List.length_reverse];omega)];exact hp')];decide
      rw[hfind]
     rw[e]at q;exact q
def nz (p:Ni × V):Bool:=decide (p.2≠.int 0)
def Iw:Sp:=λvs H Q _=>∃ c s r:Int,vs=[.int c,.int s,.int r]/\0 < s/\s <= 8/\0 < s * r/\Q (.int ((c+1) % (s * r))) H
def ES:Sp:=λvs H Q _=>∃ c s:Int,vs=[.int c,.int s]/\0 < s/\Q (.int (c % s)) H
def DH:Sp:=λvs H Q _=>∃ o b s r:Int,vs=[.int o,.int b,.int s,.int r]/\0 < s/\s <= 8/\0 < s * r/\Q (.int ((o - b) % (s * r))) H
def Iq (G:Gs K mg a d):FnOk P w K mg base CX0 1 a.cJ d.cJ ["counter","size","rounds"] Iw:=by
 refine G.lr.ok qI (λvs H Q E h=>?_) (λcdv A outer st H vs Q E hr h=>?_)
 . obtain⟨c,s,r,rfl,_⟩:=h;rfl
 . obtain⟨c,s,r,rfl,h0,h1,h2,k⟩:=h;refine⟨_,((@dA _ _ _ _ _ _ _ _ pZ (@dA _ _ _ _ _ _ _ _ o6 (pv 0) ag) (@dA _ _ _ _ _ _ _ _ yy (pv 1) (pv 2)))⁻¹),?_⟩;exact⟨_,rfl,_,_,rfl,rfl,_,rfl,_,rfl,_,_,rfl,rfl,uA (by omega) (by omega),_,_,rfl,rfl,h2,k⟩
def Ee (G:Gs K mg a d):FnOk P w K mg base CX0 1 a.iW d.iW ["counter","size"] ES:=by
 refine G.sE.ok xg (λvs H Q E h=>?_) (λcdv A outer st H vs Q E hr h=>?_)
 . obtain⟨c,s,rfl,_⟩:=h;rfl
 . obtain⟨c,s,rfl,h0,k⟩:=h;refine⟨_,((@dA _ _ _ _ _ _ _ _ pZ (pv 0) (pv 1))⁻¹),?_⟩;exact⟨_,rfl,_,rfl,_,_,rfl,rfl,h0,k⟩
def zd (G:Gs K mg a d):FnOk P w K mg base CX0 1 a.iT d.iT ["one","other","size","rounds"] DH:=by
 refine G.nv.ok wW (λvs H Q E h=>?_) (λcdv A outer st H vs Q E hr h=>?_)
 . obtain⟨o,b,s,r,rfl,_⟩:=h;rfl
 . obtain⟨o,b,s,r,rfl,h0,h1,h2,k⟩:=h;refine⟨_,((@dA _ _ _ _ _ _ _ _ pZ (@dA _ _ _ _ _ _ _ _ Bl (pv 0) (pv 1)) (@dA _ _ _ _ _ _ _ _ yy (pv 2) (pv 3)))⁻¹),?_⟩;exact⟨_,rfl,_,rfl,_,_,rfl,rfl,_,rfl,_,rfl,_,_,rfl,rfl,uA (by omega) (by omega),_,_,rfl,rfl,h2,k⟩
def Er:Sp:=λvs H Q _=>∃ (R:Int) (ft:K') (fs:List Str),vs=[.int R,.ref ft]/\H ft=f' (.tup (fs.map V.str))/\Q (.int (if fs.contains "round" then 1 else R)) H
def EJ (K:Nh) (CR:K'):Sp:=λvs H Q _=>∃ (q dx st wa ft:K') (b:Bool) (w0 w1 w2:Str) (s R:Int) (fs:List Str),vs=[.ref q,.ref st,.int (sdI b),.ref wa,.int s,.int R,.ref ft]/\H q=f' (.ins CR dx [])/\(∀ H,SqT K H wa [.str w0,.str w1,.str w2])/\H ft=f' (.tup (fs.map V.str)) /\
 ∀ H',Rn CR H' q st b w0 w1 w2 ⟨s,if fs.contains "round" then 1 else R,fs.contains "counter"⟩->Kp [q] H H'->Q .non H'
def Dg (w:Nt) (CR CS:K'):Sp:=λvs H Q _=>∃ (q:K') (z:SA) (b:Bool) (w0 w1 w2:Str) (p:RP) (M:List (Ni × V)) (r:Bool->List (Ni × V)) (A T:Int),vs=[.ref q]/\Rn CR H q z.x b w0 w1 w2 p/\z.At w CS H M r/\p.Ok/\Oq w1=G'/\Oq w2=G' /\
 cD M (r b) (.str w1)=.int A/\cD M (r b) (.str w2)=.int T/\Q (.int ((A - T) % (p.s * p.R))) H
def HG (w:Nt) (CR CS:K'):Sp:=λvs H Q _=>∃ (q:K') (z:SA) (b:Bool) (w0 w1 w2:Str) (p:RP) (M:List (Ni × V)) (r:Bool->List (Ni × V)) (A T:Int),vs=[.ref q]/\Rn CR H q z.x b w0 w1 w2 p/\z.At w CS H M r/\p.Ok/\Oq w1=G'/\Oq w2=G' /\
 cD M (r b) (.str w1)=.int A/\cD M (r b) (.str w2)=.int T/\Q (.bl (decide ((A - T) % (p.s * p.R)=p.s))) H
def Ax (CR:K'):Sp:=λvs H Q _=>∃ (q st:K') (b:Bool) (w0 w1 w2:Str) (p:RP) (A:Int),vs=[.ref q,.int A]/\Rn CR H q st b w0 w1 w2 p/\p.Ok/\∀ t,H t=Nf->Q (.ref t) (upd H t (.tup [.str w0,.int (A % p.s)]))
def zC (w:Nt) (CR CS:K'):Sp:=λvs H Q _=>∃ (q:K') (z:SA) (b:Bool) (w0 w1 w2:Str) (p:RP) (M:List (Ni × V)) (r:Bool->List (Ni × V)) (A:Int) (cv:V) (k:Ni),vs=[.ref q,cv,.int A]/\Rn CR H q z.x b w0 w1 w2 p/\z.At w CS H M r/\p.Ok/\(r b).length < 100000/\wO H k cv /\
 ∀ H',z.At w CS H' M (setR r b (r b++[(k,.int ((A+1) % (p.s * p.R)))]))->Kp [z.l b] H H'->Q .non H'
def JQ (w:Nt) (CR CS:K'):Sp:=λvs H Q _=>∃ (q:K') (z:SA) (b:Bool) (w0 w1 w2:Str) (p:RP) (M:List (Ni × V)) (r:Bool->List (Ni × V)) (A:Int) (nm wv:V),vs=[.ref q,nm,wv]/\Rn CR H q z.x b w0 w1 w2 p/\z.At w CS H M r/\p.Ok/\Oq w0=G'/\Oq w1=G'/\(r b).length < 99999 /\
 cD M (r b) (.str w1)=.int A/\∀ t H',H t=Nf->H' t=f' (.tup [nm,wv])->z.At w CS H' M (setR r b (r b++qH p w0 w1 A (.ref t)))->Kp [z.l b] H H'->Q .non H'
def EA (w:Nt) (CR CS:K'):Sp:=λvs H Q _=>∃ (q:K') (z:SA) (b:Bool) (w0 w1 w2:Str) (p:RP) (M:List (Ni × V)) (r:Bool->List (Ni × V)) (A T:Int),vs=[.ref q]/\Rn CR H q z.x b w0 w1 w2 p/\z.At w CS H M r/\p.Ok/\Oq w0=G'/\Oq w1=G'/\Oq w2=G'/\(r b).length < 100000 /\
 cD M (r b) (.str w1)=.int A/\cD M (r b) (.str w2)=.int T/\(if (A - T) % (p.s * p.R)=0 then Q .non H else
  (∃ c vs,cD M (r b) (.tuple [.str w0,.int (T % p.s)])=.ref c/\H c=f' (.tup vs)/\∀ H',z.At w CS H' M (setR r b (r b++[(.str w2,.int ((T+1) % (p.s * p.R)))]))->Kp [z.l b] H H'->Q (.ref c) H') \/
  ∃ i,cD M (r b) (.tuple [.str w0,.int (T % p.s)])=.int i/\∀ t H',H t=Nf->H' t=f' (.tup [.non,.non])->z.At w CS H' M (setR r b (r b++[(.str w2,.int ((T+1) % (p.s * p.R)))]))->Kp [z.l b] H H'->Q (.ref t) H')
def yE (G:Gs K mg a d):FnOk P w K mg base CX0 1 a.dj d.dj ["rounds","faults"] Er:=by
 refine G.je.ok re (λvs H Q E h=>?_) (λcdv A outer s H vs Q E hr h=>?_)
 . obtain⟨R,ft,fs,rfl,_⟩:=h;rfl
 . obtain⟨R,ft,fs,rfl,hf,k⟩:=h;refine⟨_,((fX (ar eF aj (pv 1) (by with_unfolding_all rfl)) ag (pv 0))⁻¹),?_⟩;refine⟨_,rfl,ft,_,rfl,.inr (SqT.of hf),rfl,bE fs,_,rfl,?_⟩;simp only[NK,if_false];rw[eL];by_cases hb:fs.contains "round"=G'
   . rw[Vc hb]at k |-;exact k
   . rw[Vd hb]at k |-;exact⟨_,rfl,k⟩
def xW (G:Gs K mg a d):FnOk P w K mg base CX0 2 a.fg d.fg ["self","store","side","words","size","rounds","faults"] (EJ K a.bB):=by
 have U1:FnOk P w K mg base CX0 1 _ _ _ _:=yE G;refine G.uZ.ok uJ (λvs H Q E h=>?_) (λcdv A outer s H vs Q E hr h=>?_)
 . obtain⟨q,dx,st,wa,ft,b,w0,w1,w2,s,R,fs,rfl,_⟩:=h;rfl
 . obtain⟨q,dx,st,wa,ft,b,w0,w1,w2,s,R,fs,rfl,hx,hw,hf,k⟩:=h;refine⟨_,((bo (pv 0) (pv 1) rfl)∪((bo (pv 0) (pv 2) rfl)∪((bo (pv 0) (@az _ _ _ _ _ _ _ aF (pv 3) ag (λ_ _=>rfl)) rfl)∪((bo (pv 0) (@az _ _ _ _ _ _ _ aF (pv 3) ag (λ_ _=>rfl)) rfl)∪((bo (pv 0) (@az _ _ _ _ _ _ _ aF (pv 3) ag (λ_ _=>rfl)) rfl)∪((bo (pv 0) (pv 4) rfl)∪((bo (pv 0) (au U1 (hr.mono (by decide)) (by rfl) G.m8 G.je.kp G.mi .nil aq ((pv 5)∣((pv 6)∣aa))) rfl)∪(@ao _ _ _ (bo (pv 0) (cc eF aj (pv 6) (by with_unfolding_all rfl)) rfl))))))))),?_⟩;have nf:ft≠q:=jh hf hx (by intro z;cases z);have ft':∀ o,upd H q o ft=f' (.tup (fs.map V.str)):=λo=>by rw[ae nf];exact hf
   refine⟨_,rfl,_,rfl,q,a.bB,dx,[],rfl,hx,G.ax,G.bz,by decide,?_⟩;refine⟨_,rfl,_,rfl,q,a.bB,dx,_,rfl,a8,G.ax,G.bK,by show 1 < 1000;decide,?_⟩;rw[fc];refine⟨_,rfl,wa,_,_,_,rfl,rfl,hw _,rfl,_,rfl,q,a.bB,dx,_,rfl,a8,G.ax,G.o9,by show 2 < 1000;decide,?_⟩;rw[fc];refine⟨_,rfl,wa,_,_,_,rfl,rfl,hw _,rfl,_,rfl,q,a.bB,dx,_,rfl,a8,G.ax,G.fA,by show 3 < 1000;decide,?_⟩;rw[fc];refine⟨_,rfl,wa,_,_,_,rfl,rfl,hw _,rfl,_,rfl,q,a.bB,dx,_,rfl,a8,G.ax,G.eA,by show 4 < 1000;decide,?_⟩;rw[fc];refine⟨_,rfl,_,rfl,q,a.bB,dx,_,rfl,a8,G.ax,G.fB,by show 5 < 1000;decide,?_⟩;rw[fc];refine⟨_,rfl,_,rfl,R,ft,fs,rfl,ft' _,_,rfl,q,a.bB,dx,_,rfl,a8,G.ax,G.ij,by show 6 < 1000;decide,?_⟩;rw[fc];refine⟨_,rfl,ft,_,rfl,.inr (SqT.of (ft' _)),rfl,bE fs,_,rfl,q,a.bB,dx,_,rfl,a8,G.ax,G.bH,by show 7 < 1000;decide,?_⟩;rw[fc];simp only[NK,if_false];rw[eL];refine k _ ⟨dx,a8⟩ λc o nc ec=>?_
   rw[ae λz=>nc (Nd.mpr z)];exact ec
def mV (G:Gs K mg a d):FnOk P w K mg base CX0 3 a.dF d.dF ["self"] (Dg w a.bB a.aD):=by
 have Ud:FnOk P w K mg base CX0 2 _ _ _ _:=uM G;have Uy:FnOk P w K mg base CX0 1 _ _ _ _:=zd G;refine G.uz.ok iu (λvs H Q E h=>?_) (λcdv A' outer s H vs Q E hr h=>?_)
 . obtain⟨q,z,b,w0,w1,w2,p,M,r,A,T,rfl,_⟩:=h;rfl
 . obtain⟨q,z,b,w0,w1,w2,p,M,r,A,T,rfl,⟨dx,hx⟩,S,hp,o1,o2,hA,hT,k⟩:=h;refine⟨_,((@aJ _ _ 1 _ _ _ _ iu.nd rfl (NW rfl) (av (ak (pv 0) rfl) G.aG G.cR Ud (hr.mono (by decide)) G.dU .nil aq ((ak (pv 0) rfl)∣((ak (pv 0) rfl)∣aa))) (by rfl) (by first|exact .inl rfl|exact .inr rfl|assumption))∪((@aJ _ _ 2 _ _ _ _ iu.nd rfl (NW rfl) (av (ak (pv 0) rfl) G.aG G.cR Ud (hr.mono (by decide)) G.dU .nil aq ((ak (pv 0) rfl)∣((ak (pv 0) rfl)∣aa))) (by rfl) (by first|exact .inl rfl|exact .inr rfl|assumption))∪((au Uy (hr.mono (by decide)) (by rfl) G.sL G.nv.kp G.sv .nil aq ((pv 1)∣((pv 2)∣((ak (pv 0) rfl)∣((ak (pv 0) rfl)∣aa)))))⁻¹))),?_⟩;obtain⟨dxs,hxs⟩:=S.ob;refine⟨_,rfl,fld hx G.ax G.bz i4 ⟨z.x,dxs,_,rfl,hxs,cr (by decide +kernel) (by decide +kernel),_,rfl,fld hx G.ax G.bK jZ ⟨_,rfl,fld hx G.ax G.fA sY ⟨z.x,z.hd,z.rl,z.l,M,r,b,.str w1,.str w1,rfl,S,kS o1,?_⟩⟩⟩⟩;rw[hA];refine⟨_,rfl,fld hx G.ax G.bz i4 ⟨z.x,dxs,_,rfl,hxs,cr (by decide +kernel) (by decide +kernel),_,rfl,fld hx G.ax G.bK jZ ⟨_,rfl,fld hx G.ax G.eA nK ⟨z.x,z.hd,z.rl,z.l,M,r,b,.str w2,.str w2,rfl,S,kS o2,?_⟩⟩⟩⟩;rw[hT];exact⟨_,rfl,_,rfl,_,rfl,fld hx G.ax G.fB uK ⟨_,rfl,fld hx G.ax G.ij w5 ⟨A,T,p.s,p.R,rfl,hp.s0,hp.s8,hp.sR,k⟩⟩⟩
def D5 (G:Gs K mg a d):FnOk P w K mg base CX0 4 a.cI d.cI ["self"] (HG w a.bB a.aD):=by
 have TV:FnOk P w K mg base CX0 3 _ _ _ _:=mV G;refine G.rJ.ok pM (λvs H Q E h=>?_) (λcdv A' outer s H vs Q E hr h=>?_)
 . obtain⟨q,z,b,w0,w1,w2,p,M,r,A,T,rfl,_⟩:=h;rfl
 . obtain⟨q,z,b,w0,w1,w2,p,M,r,A,T,rfl,⟨dx,hx⟩,S,hp,o1,o2,hA,hT,k⟩:=h;refine⟨_,((cc cp (aS (pv 0) G.ax G.fm TV (hr.mono (by decide)) G.fT .nil aq) (ak (pv 0) rfl) (ay _))⁻¹),?_⟩;refine⟨_,rfl,q,dx,_,rfl,hx,mH,q,z,b,w0,w1,w2,p,M,r,A,T,rfl,⟨dx,hx⟩,S,hp,o1,o2,hA,hT,_,rfl,fld hx G.ax G.fB uK ⟨rfl,?_⟩⟩;have e:decide (V.int ((A - T) % (p.s * p.R))=V.int p.s)=decide ((A - T) % (p.s * p.R)=p.s):=by
    rw[decide_eq_decide];exact⟨mR,λz=>by rw[z]⟩
   rw[e];exact k
def sF (G:Gs K mg a d):FnOk P w K mg base CX0 2 a.cb d.cb ["self","counter"] (Ax a.bB):=by
 have U0:FnOk P w K mg base CX0 1 _ _ _ _:=Ee G;refine G.pJ.ok oJ (λvs H Q E h=>?_) (λcdv A' outer s H vs Q E hr h=>?_)
 . obtain⟨q,st,b,w0,w1,w2,p,A,rfl,_⟩:=h;rfl
 . obtain⟨q,st,b,w0,w1,w2,p,A,rfl,⟨dx,hx⟩,hp,k⟩:=h;refine⟨_,((@bi _ _ _ _ _ ((ak (pv 0) rfl)∣((au U0 (hr.mono (by decide)) (by rfl) G.zX G.sE.kp G.AV .nil aq ((pv 1)∣((ak (pv 0) rfl)∣aa)))∣aa)))⁻¹),?_⟩;exact⟨_,rfl,fld hx G.ax G.o9 GP ⟨_,rfl,_,rfl,fld hx G.ax G.fB uK ⟨A,p.s,rfl,hp.s0,l2,λt ht=>k t ht⟩⟩⟩
def sy (G:Gs K mg a d):FnOk P w K mg base CX0 2 a.bc d.bc ["self","cell","counter"] (zC w a.bB a.aD):=by
 have Ug:FnOk P w K mg base CX0 1 _ _ _ _:=mB G;have UT:FnOk P w K mg base CX0 1 _ _ _ _:=Iq G;refine G.ln.ok kL (λvs H Q E h=>?_) (λcdv A' outer s H vs Q E hr h=>?_)
 . obtain⟨q,z,b,w0,w1,w2,p,M,r,A,cv,ke,rfl,_⟩:=h;rfl
 . obtain⟨q,z,b,w0,w1,w2,p,M,r,A,cv,ke,rfl,⟨dx,hx⟩,S,hp,hl,hk,k⟩:=h;refine⟨_,(@ao _ _ _ (@aL _ _ _ _ (av (ak (pv 0) rfl) G.aG G.cY Ug (hr.mono (by decide)) G.eC .nil aq ((ak (pv 0) rfl)∣((pv 1)∣((au UT (hr.mono (by decide)) (by rfl) G.rR G.lr.kp G.qZ .nil aq ((pv 2)∣((ak (pv 0) rfl)∣((ak (pv 0) rfl)∣aa))))∣aa)))) (by rfl))),?_⟩;obtain⟨dxs,hxs⟩:=S.ob;exact⟨_,rfl,fld hx G.ax G.bz i4 ⟨z.x,dxs,_,rfl,hxs,cr (by decide +kernel) (by decide +kernel),_,rfl,fld hx G.ax G.bK jZ ⟨_,rfl,_,rfl,_,rfl,fld hx G.ax G.fB uK ⟨_,rfl,fld hx G.ax G.ij w5
    ⟨A,p.s,p.R,rfl,hp.s0,hp.s8,hp.sR,z.x,z.hd,z.rl,z.l,M,r,b,cv,_,ke,rfl,S,hl,hk,λH' S' kp'=>k H' S' kp'⟩⟩⟩⟩⟩
def FP (G:Gs K mg a d):FnOk P w K mg base CX0 4 a.jz d.jz ["self","name","worth"] (JQ w a.bB a.aD):=by
 have Ud:FnOk P w K mg base CX0 2 _ _ _ _:=uM G;have Ug:FnOk P w K mg base CX0 1 _ _ _ _:=mB G;have T7:FnOk P w K mg base CX0 2 _ _ _ _:=sy G;have TZ:FnOk P w K mg base CX0 2 _ _ _ _:=sF G;refine G.AW.ok qJ (λvs H Q E h=>?_) (λcdv A' outer s H vs Q E hr h=>?_)
 . obtain⟨q,z,b,w0,w1,w2,p,M,r,A,nm,wv,rfl,_⟩:=h;rfl
 . obtain⟨q,z,b,w0,w1,w2,p,M,r,A,nm,wv,rfl,⟨dx,hx⟩,S,hp,o0,o1,hl,hA,k⟩:=h;refine⟨_,((@aJ _ _ 3 _ _ _ _ qJ.nd rfl (NW rfl) (av (ak (pv 0) rfl) G.aG G.cR Ud (hr.mono (by decide)) G.dU .nil aq ((ak (pv 0) rfl)∣((ak (pv 0) rfl)∣aa))) (by rfl) (by first|exact .inl rfl|exact .inr rfl|assumption))∪((aI (bP (ak (pv 0) rfl)) (@ao _ _ _ (@aL _ _ _ _ (av (pv 0) G.ax G.cz T7 (hr.mono (by decide)) G.cS .nil aq ((ak (pv 0) rfl)∣((pv 3)∣aa))) (by rfl))) am)∪((@aL _ _ _ _ (av (ak (pv 0) rfl) G.aG G.cY Ug (hr.mono (by decide)) G.eC .nil aq ((ak (pv 0) rfl)∣((av (pv 0) G.ax G.jO TZ (hr.mono (by decide)) G.jY .nil aq ((pv 3)∣aa))∣((@bi _ _ _ _ _ ((pv 1)∣((pv 2)∣aa)))∣aa)))) (by rfl))∪(@ao _ _ _ (aI (eI (bP (ak (pv 0) rfl))) (@ao _ _ _ (@aL _ _ _ _ (av (pv 0) G.ax G.cz T7 (hr.mono (by decide)) G.cS .nil aq ((ak (pv 0) rfl)∣((pv 3)∣aa))) (by rfl))) am))))),?_⟩;obtain⟨dxs,hxs⟩:=S.ob;refine⟨_,rfl,fld hx G.ax G.bz i4 ⟨z.x,dxs,_,rfl,hxs,cr (by decide +kernel) (by decide +kernel),_,rfl,fld hx G.ax G.bK jZ ⟨_,rfl,fld hx G.ax G.fA sY ⟨z.x,z.hd,z.rl,z.l,M,r,b,.str w1,.str w1,rfl,S,kS o1,?_⟩⟩⟩⟩;rw[hA];refine⟨_,rfl,fld hx G.ax G.bH tj ⟨_,rfl,?_⟩⟩;cases he:p.e with
  |true =>
    refine fP ?_;refine⟨_,rfl,q,dx,_,rfl,hx,nF,_,rfl,fld hx G.ax G.fA sY ⟨_,rfl,q,z,b,w0,w1,w2,p,M,r,A,.str w1,.str w1,rfl,⟨dx,hx⟩,S,hp,by omega,kS o1,λH1 S1 kp1=>?_⟩⟩;have hx1:=kp1 _ _ (S.noI hx) hx;obtain⟨dx1,hs1⟩:=S1.ob;refine⟨_,rfl,fld hx1 G.ax G.bz i4 ⟨z.x,dx1,_,rfl,hs1,cr (by decide +kernel) (by decide +kernel),_,rfl,fld hx1 G.ax G.bK jZ ⟨_,rfl,q,dx,_,rfl,hx1,u8,_,rfl,q,z.x,b,w0,w1,w2,p,A,rfl,⟨dx,hx1⟩,hp,λt1 ht1=>⟨_,rfl,_,rfl,l2,λt2 ht2=>?_⟩⟩⟩⟩;have e1:=af (o:=.tup [V.str w0,V.int (A % p.s)]) ht1;have e2:=af (o:=.tup [nm,wv]) ht2;have e12:=e1.trans e2;have S2:=S1.same e12;have v1:=e2 _ _ (a8 (H:=H1) (a:=t1) (o:=.tup [V.str w0,V.int (A % p.s)]));have v2:=a8 (H:=upd H1 t1 (.tup [V.str w0,V.int (A % p.s)])) (a:=t2) (o:=.tup [nm,wv]);have n2:H t2=Nf:=gn kp1 (iF e1 ht2) λx hx=>by
     obtain⟨ts,e,_⟩:=S1.rw b;rw[Nd.mp hx,e];intro z;cases z
    have hx2:=e12 _ _ hx1;generalize upd (upd H1 t1 (.tup [V.str w0,V.int (A % p.s)])) t2 (.tup [nm,wv])=H2 at e2 e12 S2 v1 v2 hx2 |-;refine⟨z.x,z.hd,z.rl,z.l,M,_,b,.ref t1,.ref t2,.tuple [.str w0,.int (A % p.s)],rfl,S2,by rw[ba,Nj];show _+1 < _;omega,kT o0 v1,λH3 S3 kp3=>?_⟩;have hx3:=kp3 _ _ (S2.noI hx2) hx2;refine⟨_,rfl,fld hx3 G.ax G.bH tj ⟨_,rfl,?_⟩⟩;rw[he];refine cW ?_;refine k t2 H3 n2 (kp3 _ _ (S2.noT v2) v2) ?_ λc o n e=>kp3 c o n (e12 _ _ (kp1 c o n e))
    rw[ba,sC,N4]at S3;unfold qH;rw[he];exact S3
  |false =>
    refine cW ?_;refine⟨_,rfl,fld hx G.ax G.bz i4 ⟨z.x,dxs,_,rfl,hxs,cr (by decide +kernel) (by decide +kernel),_,rfl,fld hx G.ax G.bK jZ ⟨_,rfl,q,dx,_,rfl,hx,u8,_,rfl,q,z.x,b,w0,w1,w2,p,A,rfl,⟨dx,hx⟩,hp,λt1 ht1=>⟨_,rfl,_,rfl,l2,λt2 ht2=>?_⟩⟩⟩⟩;have e1:=af (o:=.tup [V.str w0,V.int (A % p.s)]) ht1;have e2:=af (o:=.tup [nm,wv]) ht2;have e12:=e1.trans e2;have S2:=S.same e12;have v1:=e2 _ _ (a8 (H:=H) (a:=t1) (o:=.tup [V.str w0,V.int (A % p.s)]));have v2:=a8 (H:=upd H t1 (.tup [V.str w0,V.int (A % p.s)])) (a:=t2) (o:=.tup [nm,wv]);have n2:H t2=Nf:=iF e1 ht2;have hx2:=e12 _ _ hx;generalize upd (upd H t1 (.tup [V.str w0,V.int (A % p.s)])) t2 (.tup [nm,wv])=H2 at e2 e12 S2 v1 v2 hx2 |-;refine⟨z.x,z.hd,z.rl,z.l,M,r,b,.ref t1,.ref t2,.tuple [.str w0,.int (A % p.s)],rfl,S2,by omega,kT o0 v1,λH3 S3 kp3=>?_⟩;have hx3:=kp3 _ _ (S2.noI hx2) hx2;refine⟨_,rfl,fld hx3 G.ax G.bH tj ⟨_,rfl,?_⟩⟩;rw[he];refine fP ?_;refine⟨_,rfl,q,dx,_,rfl,hx3,nF,_,rfl,fld hx3 G.ax G.fA sY ⟨_,rfl,q,z,b,w0,w1,w2,p,M,_,A,.str w1,.str w1,rfl,⟨dx,hx3⟩,S3,hp,by rw[ba,Nj];show _+1 < _;omega,kS o1,λH4 S4 kp4=>?_⟩⟩;have v3:=kp3 _ _ (S2.noT v2) v2;refine k t2 H4 n2 (kp4 _ _ (S3.noT v3) v3) ?_ λc o n e=>kp4 c o n (kp3 c o n (e12 _ _ e))
    rw[ba,sC,N4]at S4;unfold qH;rw[he];exact S4
def zw (G:Gs K mg a d):FnOk P w K mg base CX0 5 a.eV d.eV ["self"] (EA w a.bB a.aD):=by
 have Ud:FnOk P w K mg base CX0 2 _ _ _ _:=uM G;have TV:FnOk P w K mg base CX0 3 _ _ _ _:=mV G;have T7:FnOk P w K mg base CX0 2 _ _ _ _:=sy G;have TZ:FnOk P w K mg base CX0 2 _ _ _ _:=sF G;refine G.vJ.ok jf (λvs H Q E h=>?_) (λcdv A' outer s H vs Q E hr h=>?_)
 . obtain⟨q,z,b,w0,w1,w2,p,M,r,A,T,rfl,_⟩:=h;rfl
 . obtain⟨q,z,b,w0,w1,w2,p,M,r,A,T,rfl,⟨dx,hx⟩,S,hp,o0,o1,o2,hl,hA,hT,k⟩:=h;refine⟨_,((aI (ar cp (aS (pv 0) G.ax G.fm TV (hr.mono (by decide)) G.fT .nil aq) ag (ay _)) (dY⁻¹) am)∪((@aJ _ _ 1 _ _ _ _ jf.nd rfl (NW rfl) (av (ak (pv 0) rfl) G.aG G.cR Ud (hr.mono (by decide)) G.dU .nil aq ((ak (pv 0) rfl)∣((ak (pv 0) rfl)∣aa))) (by rfl) (by first|exact .inl rfl|exact .inr rfl|assumption))∪((@aJ _ _ 2 _ _ _ _ jf.nd rfl (NW rfl) (av (ak (pv 0) rfl) G.aG G.cR Ud (hr.mono (by decide)) G.dU .nil aq ((ak (pv 0) rfl)∣((av (pv 0) G.ax G.jO TZ (hr.mono (by decide)) G.jY .nil aq ((pv 1)∣aa))∣aa))) (by rfl) (by first|exact .inl rfl|exact .inr rfl|assumption))∪((@aL _ _ _ _ (av (pv 0) G.ax G.cz T7 (hr.mono (by decide)) G.cS .nil aq ((ak (pv 0) rfl)∣((pv 1)∣aa))) (by rfl))∪((fX (bP (aN c8 (by rfl) G.bI bx ((pv 2)∣((jd (v:=.ty "tuple") (by rfl) G.kX gW rfl)∣aa)))) (pv 2) (@bi _ _ _ _ _ (dY∣(dY∣aa))))⁻¹))))),?_⟩;obtain⟨dxs,hxs⟩:=S.ob;refine⟨_,rfl,q,dx,_,rfl,hx,mH,q,z,b,w0,w1,w2,p,M,r,A,T,rfl,⟨dx,hx⟩,S,hp,o1,o2,hA,hT,rfl,_,rfl,?_⟩;by_cases h0:(A - T) % (p.s * p.R)=0
   . rw[Vc h0]at k;rw[h0];exact pL rfl k
   rw[Vd h0]at k;refine iJ (λz=>h0 (mR z)) ?_;refine⟨_,rfl,fld hx G.ax G.bz i4 ⟨z.x,dxs,_,rfl,hxs,cr (by decide +kernel) (by decide +kernel),_,rfl,fld hx G.ax G.bK jZ ⟨_,rfl,fld hx G.ax G.eA nK ⟨z.x,z.hd,z.rl,z.l,M,r,b,.str w2,.str w2,rfl,S,kS o2,?_⟩⟩⟩⟩;rw[hT];refine⟨_,rfl,fld hx G.ax G.bz i4 ⟨z.x,dxs,_,rfl,hxs,cr (by decide +kernel) (by decide +kernel),_,rfl,fld hx G.ax G.bK jZ ⟨_,rfl,q,dx,_,rfl,hx,u8,_,rfl,q,z.x,b,w0,w1,w2,p,T,rfl,⟨dx,hx⟩,hp,λt1 ht1=>?_⟩⟩⟩;have e1:=af (o:=.tup [V.str w0,V.int (T % p.s)]) ht1;have S1:=S.same e1;have v1:=a8 (H:=H) (a:=t1) (o:=.tup [V.str w0,V.int (T % p.s)]);have hx1:=e1 _ _ hx;generalize upd H t1 (.tup [V.str w0,V.int (T % p.s)])=H1 at e1 S1 v1 hx1 |-;refine⟨z.x,z.hd,z.rl,z.l,M,r,b,.ref t1,.tuple [.str w0,.int (T % p.s)],rfl,S1,kT o0 v1,?_⟩;refine⟨_,rfl,q,dx,_,rfl,hx1,nF,_,rfl,fld hx1 G.ax G.eA nK ⟨_,rfl,q,z,b,w0,w1,w2,p,M,r,T,.str w2,.str w2,rfl,⟨dx,hx1⟩,S1,hp,hl,kS o2,λH2 S2 kp2=>?_⟩⟩;rcases k with⟨c,vs,e,hc,k⟩|⟨i,e,k⟩
   . rw[e];have hc2:=kp2 _ _ (S1.noT (e1 _ _ hc)) (e1 _ _ hc);exact⟨_,rfl,_,_,_,G',rfl,TyOf.tup hc2,zW,_,rfl,fP ⟨_,rfl,k H2 S2 λc o n q=>kp2 c o n (e1 _ _ q)⟩⟩
   . rw[e];refine⟨_,rfl,_,_,_,D',rfl,TyOf.int i,GW,_,rfl,cW ⟨l2,λt ht=>?_⟩⟩;have e3:=af (o:=.tup [V.non,V.non]) ht;have n3:H t=Nf:=iF e1 (gn kp2 ht λx hx=>by
      obtain⟨ts,e,_⟩:=S2.rw b;rw[Nd.mp hx,e];intro z;cases z)
     exact k t _ n3 a8 (S2.same e3) λc o n q=>e3 _ _ (kp2 c o n (e1 _ _ q))
def DJ (CH CR:K'):Sp:=λvs H Q _=>∃ (h dx st ft:K') (s R n:Int) (fs:List Str),vs=[.ref h,.ref st,.int s,.int R,.int n,.ref ft]/\H h=f' (.ins CH dx [])/\H ft=f' (.tup (fs.map V.str)) /\
 ∀ (z:HA) (H':Hp),z.h=h->H z.ra=Nf->H z.rb=Nf->H z.gd=Nf->Hn CH CR H' z st ⟨s,if fs.contains "round" then 1 else R,fs.contains "counter"⟩ n []->Kp [h] H H'->Q .non H'
def DB (CH CR:K'):Sp:=λvs H Q _=>∃ (z:HA) (st:K') (p:RP) (n:Nat) (aw:List Int),vs=[.ref z.h]/\Hn CH CR H z st p n aw/\n <= 9/\Q (match cO n aw with|some k=>.int k|none=>.non) H
def yA (w:Nt) (CH CR CS F N:K'):Sp:=λvs H Q E=>∃ (z:HA) (sa:SA) (p:RP) (n:Nat) (aw:List Int) (M:List (Ni × V)) (r:Bool->List (Ni × V)) (A T:Int),vs=[.ref z.h]/\Hn CH CR H z sa.x p n aw/\sa.At w CS H M r/\p.Ok/\n <= 9 /\
 cD M (r D') (.str "asked")=.int A/\cD M (r D') (.str "taken")=.int T/\if (A - T) % (p.s * p.R)=p.s then E (.ref F) Nf H else match cO n aw with|none=>E (.ref N) Nf H|some _=>Q .non H
def G4 (w:Nt) (CH CR CS F N:K'):Sp:=λvs H Q E=>∃ (z:HA) (sa:SA) (p:RP) (n:Nat) (aw:List Int) (M:List (Ni × V)) (r:Bool->List (Ni × V)) (wv:V) (A T:Int),vs=[.ref z.h,wv]/\Hn CH CR H z sa.x p n aw/\sa.At w CS H M r/\p.Ok/\n <= 9/\aw.length < 1000/\(r D').length < 99999 /\
 cD M (r D') (.str "asked")=.int A/\cD M (r D') (.str "taken")=.int T/\if (A - T) % (p.s * p.R)=p.s then E (.ref F) Nf H else match cO n aw with
 |none=>E (.ref N) Nf H
 |some nm=>∀ t H',H t=Nf->H' t=f' (.tup [.int nm,wv])->Hn CH CR H' z sa.x p n (aw++[nm])->sa.At w CS H' M (setR r D' (r D'++qH p "ask" "asked" A (.ref t)))->Kp [z.gd,sa.l D'] H H'->Q (.int nm) H'
def sH (w:Nt) (CH CR CS:K'):Sp:=λvs H Q _=>∃ (z:HA) (sa:SA) (p:RP) (n:Int) (aw:List Int) (M:List (Ni × V)) (r:Bool->List (Ni × V)) (A T:Int),vs=[.ref z.h]/\Hn CH CR H z sa.x p n aw/\sa.At w CS H M r/\p.Ok/\(r D').length < 100000 /\
 cD M (r D') (.str "answered")=.int A/\cD M (r D') (.str "handed")=.int T/\(if (A - T) % (p.s * p.R)=0 then Q .non H else
  (∃ c nm wv,cD M (r D') (.tuple [.str "answer",.int (T % p.s)])=.ref c/\H c=f' (.tup [.int nm,wv])/\∀ H',Hn CH CR H' z sa.x p n (aw.filter λk=>decide (k≠nm))->sa.At w CS H' M (setR r D' (r D'++[(.str "handed",.int ((T+1) % (p.s * p.R)))]))->Kp [z.gd,sa.l D'] H H'->Q (.ref c) H') \/
  ∃ i,cD M (r D') (.tuple [.str "answer",.int (T % p.s)])=.int i/\∀ t H',H t=Nf->H' t=f' (.tup [.non,.non])->Hn CH CR H' z sa.x p n aw->sa.At w CS H' M (setR r D' (r D'++[(.str "handed",.int ((T+1) % (p.s * p.R)))]))->Kp [sa.l D'] H H'->Q (.ref t) H')
def FK (G:Gs K mg a d):FnOk P w K mg base CX0 4 a.fe d.fe ["self","store","size","rounds","names","faults"] (DJ a.c9 a.bB):=by
 have TR:FnOk P w K mg base CX0 2 _ _ _ _:=xW G;refine G.vU.ok uE (λvs H Q E h=>?_) (λcdv A outer s H vs Q E hr h=>?_)
 . obtain⟨h,dx,st,ft,s,R,n,fs,rfl,_⟩:=h;rfl
 . obtain⟨h,dx,st,ft,s,R,n,fs,rfl,hx,hf,k⟩:=h;refine⟨_,((bo (pv 0) (kG G.zi TR (hr.mono (by decide)) (by rfl) G.zh G.gR .nil aq ((pv 1)∣(ag∣((f6 (v:=.ref a.hZ) (by rfl) G.xU rfl)∣((pv 2)∣((pv 3)∣((pv 5)∣aa))))))) rfl)∪((bo (pv 0) (kG G.zi TR (hr.mono (by decide)) (by rfl) G.zh G.gR .nil aq ((pv 1)∣(ag∣((f6 (v:=.ref a.bJ) (by rfl) G.m7 rfl)∣((pv 2)∣((pv 3)∣((pv 5)∣aa))))))) rfl)∪((bo (pv 0) (pv 4) rfl)∪(@ao _ _ _ (bo (pv 0) pe rfl))))),?_⟩;refine⟨_,rfl,_,rfl,_,rfl,_,rfl,λra da na nda nea=>?_⟩;refine⟨ra,da,st,a.hZ,ft,D',"ask","asked","taken",s,R,fs,rfl,a8,G.yM,?_,λH1 r1 kp1=>?_⟩
   . rw[ae (ac hf na),ae (ac hf nda)];exact hf
   have e1:bq H H1:=λc o e=>kp1 c o (λz=>ac e na (Nd.mp z)) (by rw[ae (ac e na),ae (ac e nda)];exact e)
   clear kp1;refine⟨rfl,_,rfl,h,a.c9,dx,[],rfl,e1 _ _ hx,G.bS,G.kY,by decide,?_⟩;have n1:ra≠h:=λz=>by rw[z,hx]at na;cases na
   have hx1:=e1 _ _ hx;have kp2:Kp [h] H (upd H1 h (.ins a.c9 dx (bp "asks" (.ref ra) []))):=λc o n e=>by rw[ae λz=>n (Nd.mpr z)];exact e1 _ _ e
   have hx2:upd H1 h (.ins a.c9 dx (bp "asks" (.ref ra) [])) h=f' (.ins a.c9 dx (bp "asks" (.ref ra) [])):=a8;have r2:=r1.keep (H':=upd H1 h (.ins a.c9 dx (bp "asks" (.ref ra) []))) λo e=>by rw[ae n1];exact e
   have hf2:upd H1 h (.ins a.c9 dx (bp "asks" (.ref ra) [])) ft=f' (.tup (fs.map V.str)):=by
    rw[ae (jh (e1 _ _ hf) hx1 (by intro z;cases z))];exact e1 _ _ hf
   generalize upd H1 h (.ins a.c9 dx (bp "asks" (.ref ra) []))=H2 at kp2 hx2 r2 hf2 |-;refine⟨_,rfl,_,rfl,_,rfl,_,rfl,λrb db nb ndb neb=>?_⟩;refine⟨rb,db,st,a.bJ,ft,D',"answer","answered","handed",s,R,fs,rfl,a8,G.mj,?_,λH3 r3 kp3=>?_⟩
   . rw[ae (ac hf2 nb),ae (ac hf2 ndb)];exact hf2
   have e3:bq H2 H3:=λc o e=>kp3 c o (λz=>ac e nb (Nd.mp z)) (by rw[ae (ac e nb),ae (ac e ndb)];exact e)
   clear kp3;have nbH:H rb=Nf:=gn kp2 nb λx m=>by rw[Nd.mp m,hx2];intro z;cases z
   have n3:rb≠h:=λz=>by rw[z,hx2]at nb;cases nb
   refine⟨rfl,_,rfl,h,a.c9,dx,_,rfl,e3 _ _ hx2,G.bS,G.gw,by show 1 < 1000;decide,?_⟩;refine⟨_,rfl,_,rfl,h,a.c9,dx,_,rfl,a8,G.bS,G.mC,by show 2 < 1000;decide,?_⟩;rw[fc];refine λgd hg=>⟨_,rfl,h,a.c9,dx,_,rfl,(by rw[ae (ac a8 hg)];exact a8),G.bS,G.eD,by show 3 < 1000;decide,?_⟩
   obtain⟨ng,hg3⟩:=up1 hg;have gdH:H gd=Nf:=gn kp2 (iF e3 hg3) λx m=>by rw[Nd.mp m,hx2];intro z;cases z
   refine k ⟨h,ra,rb,gd⟩ _ rfl na nbH gdH ⟨⟨dx,a8⟩,(r2.keep λo e=>e3 _ _ e).keep λo e=>?_,r3.keep λo e=>?_,?_⟩ λc o nc ec=>?_
   . rw[ae n1,ae (ac e hg3),ae n1];exact e
   . rw[ae n3,ae (ac e hg3),ae n3];exact e
   . rw[ae ng,a8];rfl
   . have c1:c≠h:=λz=>nc (Nd.mpr z)
     have e4:=e3 _ _ (kp2 c o nc ec);rw[ae c1,ae (ac e4 hg3),ae c1];exact e4
def yw (G:Gs K mg a d):FnOk P w K mg base CX0 1 a.bD d.bD ["self"] (DB a.c9 a.bB):=by
 refine G.nL.ok gT (λvs H Q E h=>?_) (λcdv A outer s H vs Q E hr h=>?_)
 . obtain⟨z,st,p,n,aw,rfl,_⟩:=h;rfl
 . obtain⟨z,st,p,n,aw,rfl,hn,hn9,k⟩:=h;have hu:=bU hr;refine⟨_,((sI Pl rfl (pX (by rfl) G.x6 ((ak (pv 0) rfl)∣aa)) (ig (i:=1) gT.nd rfl (NW rfl)) (@ao _ _ _ (aI (BT (mX hu (pv 1) (ak (pv 0) rfl))) ((pv 1)⁻¹) am)))∪(dY⁻¹)),?_⟩;obtain⟨dx,hx⟩:=hn.ob;refine⟨_,rfl,fld hx G.bS G.mC F6 ⟨n,rfl,by omega,by omega,?_⟩⟩;refine Cu (n:=((n:Nat):Int).toNat) (λi σ H'=>(∃ v,σ=[f' (.ref z.h),v])/\H'=H/\∀ j < i,aw.contains (j:Int)=G') ⟨⟨_,rfl⟩,rfl,λj hj=>absurd hj (by omega)⟩ ?_ ?_
   . rintro i σ H' hi ⟨⟨v,rfl⟩,rfl,hno⟩;rw[Int.zero_add];refine⟨_,rfl,_,rfl,fld hx G.bS G.eD oZ ⟨z.gd,_,rfl,Dv.k (k:=.inl (i:Int)) hn.go,_,rfl,?_⟩⟩;rw[km];cases hc:aw.contains (i:Int) with
    |false =>
      rw[As (by omega) hc hno]at k;exact fP ⟨_,rfl,k⟩
    |true =>
      refine cW ⟨⟨_,rfl⟩,rfl,λj hj=>?_⟩;by_cases hji:j < i
      . exact hno j hji
      . have e:j=i:=by omega
        rw[e];exact hc
   . rintro σ H' ⟨⟨v,rfl⟩,rfl,hno⟩;rw[zS λj hj=>hno j (by omega)]at k;exact k
def zq (G:Gs K mg a d):FnOk P w K mg base (CXv P w) 6 a.bO d.bO ["self"] (yA w a.c9 a.bB a.aD a.wN a.gU):=by
 have TX:FnOk P w K mg base CX0 4 _ _ _ _:=D5 G;have Tz:FnOk P w K mg base CX0 1 _ _ _ _:=yw G;refine G.oF.okX (k:=5) nW (λvs H Q E h=>?_) (λcdv A' outer s' H vs Q E hr hR h=>?_)
 . obtain⟨z,sa,p,n,aw,M,r,A,T,rfl,_⟩:=h;rfl
 . obtain⟨z,sa,p,n,aw,M,r,A,T,rfl,hn,S,hp,n9,hA,hT,k⟩:=h;refine⟨_,((aI (bP (aS (ak (pv 0) rfl) G.ax G.l6 TX (hr.mono (by decide)) G.lB .nil aq)) (@ao _ _ _ (iX hR hr.hd (by rfl) G.yj G.xc_Full (aj∣aa))) am)∪(@ao _ _ _ (aI (ar vi (aS (pv 0) G.bS G.i3 Tz (hr.mono (by decide)) G.iI .nil aq) dY (ay _)) (@ao _ _ _ (iX hR hr.hd (by rfl) G.sU G.xc_NoName (aj∣aa))) am))),?_⟩;obtain⟨dx,hx⟩:=hn.ob;obtain⟨dr,hra⟩:=hn.ra;refine⟨_,rfl,fld hx G.bS G.kY Cw ⟨z.ra,dr,_,rfl,hra,BF,z.ra,sa,D',"ask","asked","taken",p,M,r,A,T,rfl,⟨dr,hra⟩,S,hp,by decide +kernel,by decide +kernel,hA,hT,_,rfl,?_⟩⟩;by_cases hc:(A - T) % (p.s * p.R)=p.s
   . rw[Vc hc]at k;exact pL hc ⟨by show 1 <= Nl;decide,k⟩
   rw[Vd hc]at k;refine iJ hc ?_;refine⟨_,rfl,z.h,dx,_,rfl,hx,yK,z,sa.x,p,n,aw,rfl,hn,n9,rfl,_,rfl,?_⟩;cases hle:cO n aw with
  |none =>
    rw[hle]at k;exact pL rfl ⟨by show 1 <= Nl;decide,k⟩
  |some nm =>
    rw[hle]at k;exact iJ (by intro z;cases z) k
def JN (G:Gs K mg a d):FnOk P w K mg base (CXv P w) 8 a.jJ d.jJ ["self","worth"] (G4 w a.c9 a.bB a.aD a.wN a.gU):=by
 have U8:FnOk P w K mg base (CXv P w) 6 _ _ _ _:=zq G;have Tz:FnOk P w K mg base CX0 1 _ _ _ _:=yw G;have TY:FnOk P w K mg base CX0 4 _ _ _ _:=FP G;refine G.AY.okX (k:=7) qv (λvs H Q E h=>?_) (λcdv A' outer s' H vs Q E hr hR h=>?_)
 . obtain⟨z,sa,p,n,aw,M,r,wv,A,T,rfl,_⟩:=h;rfl
 . obtain⟨z,sa,p,n,aw,M,r,wv,A,T,rfl,hn,S,hp,n9,hal,hrl,hA,hT,k⟩:=h;have hu:=bU hr;refine⟨_,((@aL _ _ _ _ (aS (pv 0) G.bS G.iH U8 (hr.mono (by decide)) G.jM .nil hR.passes) (by rfl))∪((@aJ _ _ 2 _ _ _ _ qv.nd rfl (NW rfl) (aS (pv 0) G.bS G.i3 Tz (hr.mono (by decide)) G.iI .nil aq) (by rfl) (by first|exact .inl rfl|exact .inr rfl|assumption))∪((tG hu (ak (pv 0) rfl) (pv 2) eG rfl)∪((@aL _ _ _ _ (av (ak (pv 0) rfl) G.ax G.pw TY (hr.mono (by decide)) G.rZ .nil aq ((pv 2)∣((pv 1)∣aa))) (by rfl))∪((pv 2)⁻¹))))),?_⟩;obtain⟨dx,hx⟩:=hn.ob;refine⟨_,rfl,z.h,dx,_,rfl,hx,yq,z,sa,p,n,aw,M,r,A,T,rfl,hn,S,hp,n9,hA,hT,?_⟩;by_cases hc:(A - T) % (p.s * p.R)=p.s
   . rw[Vc hc]at k |-;exact k
   rw[Vd hc]at k |-;cases hle:cO n aw with
  |none=>rw[hle]at k;exact k
  |some nm =>
    rw[hle]at k;refine⟨_,rfl,z.h,dx,_,rfl,hx,yK,z,sa.x,p,n,aw,rfl,hn,n9,?_⟩;rw[hle];refine⟨_,rfl,fld hx G.bS G.eD oZ ⟨_,rfl,z.gd,_,rfl,Gq.k (k:=.inl nm) hn.go (Nn (by rw[yR];exact hal) (by decide)),?_⟩⟩;rw[y6 nm aw (sj hle)];have n1:z.h≠z.gd:=jh hx hn.go (by intro z;cases z);have kp1:Kp [z.gd] H (upd H z.gd (.dK (gK (aw++[nm])))):=Kp.one;have S1:=Sto.kp S kp1 (λc hc=>by rw[Nd.mp hc];exact S.noD hn.go) (λc hc vs e=>by rw[Nd.mp hc,hn.go]at e;cases e);have hn1:Hn a.c9 a.bB (upd H z.gd (.dK (gK (aw++[nm])))) z sa.x p n (aw++[nm]):=by
     obtain⟨d1,x1⟩:=hn.ra;obtain⟨d2,x2⟩:=hn.rb;exact⟨⟨dx,by rw[ae n1];exact hx⟩,⟨d1,by rw[ae (jh x1 hn.go (by intro z;cases z))];exact x1⟩,⟨d2,by rw[ae (jh x2 hn.go (by intro z;cases z))];exact x2⟩,a8⟩
    generalize upd H z.gd (.dK (gK (aw++[nm])))=H1 at kp1 S1 hn1 |-;obtain⟨dx1,hx1⟩:=hn1.ob;obtain⟨dr,hra⟩:=hn1.ra;refine⟨_,rfl,fld hx1 G.bS G.kY Cw ⟨z.ra,dr,_,rfl,hra,FS,_,rfl,_,rfl,z.ra,sa,D',"ask","asked","taken",p,M,r,A,.int nm,wv,rfl,⟨dr,hra⟩,S1,hp,by decide +kernel,by decide +kernel,hrl,hA,λt H2 n2 v2 S2 kp2=>⟨_,rfl,?_⟩⟩⟩;refine k t H2 (gn kp1 n2 λx m=>by rw[Nd.mp m,hn1.go];intro z;cases z) v2 (hn1.lists kp2 λc m=>.inl ?_) S2 λc o nc e=>?_
    . obtain⟨ts,e,_⟩:=S1.rw D';exact⟨ts,by rw[Nd.mp m];exact e⟩
    . exact kp2 c o (λm=>nc (Nw _ m)) (kp1 c o (λm=>nc (by rw[Nd.mp m];exact Nv)) e)
def Au (G:Gs K mg a d):FnOk P w K mg base CX0 7 a.cG d.cG ["self"] (sH w a.c9 a.bB a.aD):=by
 have TU:FnOk P w K mg base CX0 5 _ _ _ _:=zw G;refine G.rB.ok kJ (λvs H Q E h=>?_) (λcdv A' outer s' H vs Q E hr h=>?_)
 . obtain⟨z,sa,p,n,aw,M,r,A,T,rfl,_⟩:=h;rfl
 . obtain⟨z,sa,p,n,aw,M,r,A,T,rfl,hn,S,hp,hrl,hA,hT,k⟩:=h;refine⟨_,((@aJ _ _ 1 _ _ _ _ kJ.nd rfl (NW rfl) (aS (ak (pv 0) rfl) G.ax G.mr TU (hr.mono (by decide)) G.oz .nil aq) (by rfl) (by first|exact .inl rfl|exact .inr rfl|assumption))∪((aI (ar pF (pv 1) dY (ay _)) (@ao _ _ _ (@aL _ _ _ _ (Di (ak (pv 0) rfl) (@az _ _ _ _ _ _ _ aF (pv 1) ag (λ_ _=>rfl)) dY ⟨rfl,rfl,rfl,rfl⟩) (by rfl))) am)∪((pv 1)⁻¹))),?_⟩;obtain⟨dx,hx⟩:=hn.ob;obtain⟨dr,hrb⟩:=hn.rb;refine⟨_,rfl,fld hx G.bS G.gw sg ⟨z.rb,dr,_,rfl,hrb,y4,z.rb,sa,D',"answer","answered","handed",p,M,r,A,T,rfl,⟨dr,hrb⟩,S,hp,by decide +kernel,by decide +kernel,by decide +kernel,hrl,hA,hT,?_⟩⟩;by_cases h0:(A - T) % (p.s * p.R)=0
   . rw[Vc h0]at k |-;exact⟨_,rfl,rfl,_,rfl,cW ⟨_,rfl,k⟩⟩
   rw[Vd h0]at k |-;rcases k with⟨c,nm,wv,hrd,hc,k⟩|⟨i,hrd,k⟩
   rotate_left
   . refine .inr ⟨i,hrd,λt H1 n1 v1 S1 kp1=>?_⟩;have hn1:=hn.lists kp1 λc m=>.inl (by
      obtain⟨ts,e,_⟩:=S.rw D';exact⟨ts,by rw[Nd.mp m];exact e⟩)
     obtain⟨dx1,hx1⟩:=hn1.ob;exact⟨_,rfl,rfl,_,rfl,fP ⟨_,rfl,fld hx1 G.bS G.eD oZ ⟨z.gd,rfl,.inl ⟨_,.inl hn1.go⟩,_,rfl,t,_,_,_,rfl,rfl,SqT.of v1,rfl,_,hn1.go,.inr ⟨rfl,_,rfl,k t H1 n1 v1 hn1 S1 kp1⟩⟩⟩⟩
   refine .inl ⟨c,_,hrd,hc,λH1 S1 kp1=>?_⟩;have hn1:=hn.lists kp1 λc m=>.inl (by
    obtain⟨ts,e,_⟩:=S.rw D';exact⟨ts,by rw[Nd.mp m];exact e⟩)
   have hc1:=kp1 _ _ (S.noT hc) hc;obtain⟨dx1,hx1⟩:=hn1.ob;refine⟨_,rfl,rfl,_,rfl,fP ?_⟩;refine⟨_,rfl,fld hx1 G.bS G.eD oZ ⟨z.gd,rfl,.inl ⟨_,.inl hn1.go⟩,_,rfl,c,_,_,_,rfl,rfl,SqT.of hc1,rfl,_,hn1.go,.inl ⟨.inl nm,rfl,λv hv=>⟨_,rfl,?_⟩,λhv=>⟨_,rfl,?_⟩⟩⟩⟩
   . rw[qR];refine k _ ?_ (S1.kp Kp.one (λc hc=>by rw[Nd.mp hc];exact S1.noD hn1.go) λc hc vs e=>by rw[Nd.mp hc,hn1.go]at e;cases e) λc o nc e=>?_
     . obtain⟨d1,x1⟩:=hn1.ra;obtain⟨d2,x2⟩:=hn1.rb;exact⟨⟨dx1,by rw[ae (jh hx1 hn1.go (by intro z;cases z))];exact hx1⟩,⟨d1,by rw[ae (jh x1 hn1.go (by intro z;cases z))];exact x1⟩,⟨d2,by rw[ae (jh x2 hn1.go (by intro z;cases z))];exact x2⟩,a8⟩
     . rw[ae λz=>nc (by rw[z];exact Nv)];exact kp1 c o (λm=>nc (Nw _ m)) e
   . rw[km]at hv;have hno:aw.contains nm=D':=by
      cases z:aw.contains nm with
     |false=>rfl
     |true=>rw[z]at hv;cases hv
     have ef:aw.filter (λk=>decide (k≠nm))=aw:=by
      rw[List.filter_eq_self];intro x hx;refine Vf λz=>?_
      rw[z]at hx;rw[OO,decide_eq_false_iff_not]at hno;exact hno hx
     rw[ef]at k;exact k H1 hn1 S1 λc o nc e=>kp1 c o (λm=>nc (Nw _ m)) e
def Et (CT CR:K'):Sp:=λvs H Q _=>∃ (h dx st ft:K') (s R:Int) (fs:List Str),vs=[.ref h,.ref st,.int s,.int R,.ref ft]/\H h=f' (.ins CT dx [])/\H ft=f' (.tup (fs.map V.str)) /\
 ∀ (z:TA') (H':Hp),z.h=h->H z.ra=Nf->H z.rb=Nf->H z.gd=Nf->Tn CT CR H' z st ⟨s,if fs.contains "round" then 1 else R,fs.contains "counter"⟩ []->Kp [h] H H'->Q .non H'
def zl (w:Nt) (CT CR CS:K'):Sp:=λvs H Q _=>∃ (z:TA') (sa:SA) (p:RP) (ts:List Int) (M:List (Ni × V)) (r:Bool->List (Ni × V)) (A T:Int),vs=[.ref z.h]/\Tn CT CR H z sa.x p ts/\sa.At w CS H M r/\p.Ok/\ts.length < 1000/\(r G').length < 100000 /\
 cD M (r G') (.str "asked")=.int A/\cD M (r G') (.str "taken")=.int T/\(if (A - T) % (p.s * p.R)=0 then Q .non H else
  (∃ c nm wv,cD M (r G') (.tuple [.str "ask",.int (T % p.s)])=.ref c/\H c=f' (.tup [.int nm,wv])/\∀ H',Tn CT CR H' z sa.x p (vQ ts nm)->sa.At w CS H' M (setR r G' (r G'++[(.str "taken",.int ((T+1) % (p.s * p.R)))]))->Kp [z.gd,sa.l G'] H H'->Q (.ref c) H') \/
  ∃ i,cD M (r G') (.tuple [.str "ask",.int (T % p.s)])=.int i/\∀ t H',H t=Nf->H' t=f' (.tup [.non,.non])->Tn CT CR H' z sa.x p ts->sa.At w CS H' M (setR r G' (r G'++[(.str "taken",.int ((T+1) % (p.s * p.R)))]))->Kp [sa.l G'] H H'->Q (.ref t) H')
def vY (w:Nt) (CT CR CS F N:K'):Sp:=λvs H Q E=>∃ (z:TA') (sa:SA) (p:RP) (ts:List Int) (M:List (Ni × V)) (r:Bool->List (Ni × V)) (A T nm:Int),vs=[.ref z.h,.int nm]/\Tn CT CR H z sa.x p ts/\sa.At w CS H M r/\p.Ok /\
 cD M (r G') (.str "answered")=.int A/\cD M (r G') (.str "handed")=.int T/\if ts.contains nm=D' then E (.ref N) Nf H else if (A - T) % (p.s * p.R)=p.s then E (.ref F) Nf H else Q .non H
def vh (w:Nt) (CT CR CS F N:K'):Sp:=λvs H Q E=>∃ (z:TA') (sa:SA) (p:RP) (ts:List Int) (M:List (Ni × V)) (r:Bool->List (Ni × V)) (A T nm:Int) (wv:V),vs=[.ref z.h,.int nm,wv]/\Tn CT CR H z sa.x p ts/\sa.At w CS H M r/\p.Ok/\(r G').length < 99999 /\
 cD M (r G') (.str "answered")=.int A/\cD M (r G') (.str "handed")=.int T/\if ts.contains nm=D' then E (.ref N) Nf H else if (A - T) % (p.s * p.R)=p.s then E (.ref F) Nf H else
  ∀ t H',H t=Nf->H' t=f' (.tup [.int nm,wv])->Tn CT CR H' z sa.x p (ts.filter λk=>decide (k≠nm))->sa.At w CS H' M (setR r G' (r G'++qH p "answer" "answered" A (.ref t)))->Kp [z.gd,sa.l G'] H H'->Q .non H'
def DU (CT CR:K'):Sp:=λvs H Q _=>∃ (z:TA') (st:K') (p:RP) (ts:List Int),vs=[.ref z.h]/\Tn CT CR H z st p ts/\ts.length < 64/\∀ (l:K') (ns:List Int),H l=Nf->ns.Perm ts->ns.Pairwise (· <= ·)->Q (.ref l) (upd H l (.lst (ns.map V.int)))
def Fh (G:Gs K mg a d):FnOk P w K mg base CX0 4 a.dn d.dn ["self","store","size","rounds","faults"] (Et a.aM a.bB):=by
 have TR:FnOk P w K mg base CX0 2 _ _ _ _:=xW G;refine G.u9.ok rj (λvs H Q E h=>?_) (λcdv A outer s H vs Q E hr h=>?_)
 . obtain⟨h,dx,st,ft,s,R,fs,rfl,_⟩:=h;rfl
 . obtain⟨h,dx,st,ft,s,R,fs,rfl,hx,hf,k⟩:=h;refine⟨_,((bo (pv 0) (kG G.zi TR (hr.mono (by decide)) (by rfl) G.zh G.gR .nil aq ((pv 1)∣(ag∣((f6 (v:=.ref a.hZ) (by rfl) G.xU rfl)∣((pv 2)∣((pv 3)∣((pv 4)∣aa))))))) rfl)∪((bo (pv 0) (kG G.zi TR (hr.mono (by decide)) (by rfl) G.zh G.gR .nil aq ((pv 1)∣(ag∣((f6 (v:=.ref a.bJ) (by rfl) G.m7 rfl)∣((pv 2)∣((pv 3)∣((pv 4)∣aa))))))) rfl)∪(@ao _ _ _ (bo (pv 0) pe rfl)))),?_⟩;refine⟨_,rfl,_,rfl,_,rfl,_,rfl,λra da na nda nea=>?_⟩;refine⟨ra,da,st,a.hZ,ft,G',"ask","asked","taken",s,R,fs,rfl,a8,G.yM,?_,λH1 r1 kp1=>?_⟩
   . rw[ae (ac hf na),ae (ac hf nda)];exact hf
   have e1:bq H H1:=λc o e=>kp1 c o (λz=>ac e na (Nd.mp z)) (by rw[ae (ac e na),ae (ac e nda)];exact e)
   clear kp1;refine⟨rfl,_,rfl,h,a.aM,dx,[],rfl,e1 _ _ hx,G.bL,G.j7,by decide,?_⟩;have n1:ra≠h:=λz=>by rw[z,hx]at na;cases na
   have hx1:=e1 _ _ hx;have kp2:Kp [h] H (upd H1 h (.ins a.aM dx (bp "asks" (.ref ra) []))):=λc o n e=>by rw[ae λz=>n (Nd.mpr z)];exact e1 _ _ e
   have hx2:upd H1 h (.ins a.aM dx (bp "asks" (.ref ra) [])) h=f' (.ins a.aM dx (bp "asks" (.ref ra) [])):=a8;have r2:=r1.keep (H':=upd H1 h (.ins a.aM dx (bp "asks" (.ref ra) []))) λo e=>by rw[ae n1];exact e
   have hf2:upd H1 h (.ins a.aM dx (bp "asks" (.ref ra) [])) ft=f' (.tup (fs.map V.str)):=by
    rw[ae (jh (e1 _ _ hf) hx1 (by intro z;cases z))];exact e1 _ _ hf
   generalize upd H1 h (.ins a.aM dx (bp "asks" (.ref ra) []))=H2 at kp2 hx2 r2 hf2 |-;refine⟨_,rfl,_,rfl,_,rfl,_,rfl,λrb db nb ndb neb=>?_⟩;refine⟨rb,db,st,a.bJ,ft,G',"answer","answered","handed",s,R,fs,rfl,a8,G.mj,?_,λH3 r3 kp3=>?_⟩
   . rw[ae (ac hf2 nb),ae (ac hf2 ndb)];exact hf2
   have e3:bq H2 H3:=λc o e=>kp3 c o (λz=>ac e nb (Nd.mp z)) (by rw[ae (ac e nb),ae (ac e ndb)];exact e)
   clear kp3;have nbH:H rb=Nf:=gn kp2 nb λx m=>by rw[Nd.mp m,hx2];intro z;cases z
   have n3:rb≠h:=λz=>by rw[z,hx2]at nb;cases nb
   refine⟨rfl,_,rfl,h,a.aM,dx,_,rfl,e3 _ _ hx2,G.bL,G.fI,by show 1 < 1000;decide,?_⟩;refine λgd hg=>⟨_,rfl,h,a.aM,dx,_,rfl,(by rw[ae (ac a8 hg)];exact a8),G.bL,G.d5,by show 2 < 1000;decide,?_⟩
   obtain⟨ng,hg3⟩:=up1 hg;have gdH:H gd=Nf:=gn kp2 (iF e3 hg3) λx m=>by rw[Nd.mp m,hx2];intro z;cases z
   refine k ⟨h,ra,rb,gd⟩ _ rfl na nbH gdH ⟨⟨dx,a8⟩,(r2.keep λo e=>e3 _ _ e).keep λo e=>?_,r3.keep λo e=>?_,?_⟩ λc o nc ec=>?_
   . rw[ae n1,ae (ac e hg3),ae n1];exact e
   . rw[ae n3,ae (ac e hg3),ae n3];exact e
   . rw[ae ng,a8];rfl
   . have c1:c≠h:=λz=>nc (Nd.mpr z)
     have e4:=e3 _ _ (kp2 c o nc ec);rw[ae c1,ae (ac e4 hg3),ae c1];exact e4
def Dy (G:Gs K mg a d):FnOk P w K mg base CX0 7 a.eW d.eW ["self"] (zl w a.aM a.bB a.aD):=by
 have TU:FnOk P w K mg base CX0 5 _ _ _ _:=zw G;refine G.vF.ok mJ (λvs H Q E h=>?_) (λcdv A' outer s' H vs Q E hr h=>?_)
 . obtain⟨z,sa,p,ts,M,r,A,T,rfl,_⟩:=h;rfl
 . obtain⟨z,sa,p,ts,M,r,A,T,rfl,hn,S,hp,htl,hrl,hA,hT,k⟩:=h;have hu:=bU hr;refine⟨_,((@aJ _ _ 1 _ _ _ _ mJ.nd rfl (NW rfl) (aS (ak (pv 0) rfl) G.ax G.mr TU (hr.mono (by decide)) G.oz .nil aq) (by rfl) (by first|exact .inl rfl|exact .inr rfl|assumption))∪((aI ((Gu (ar pF (pv 1) dY (ay _)) (Ch (ar pF (@az _ _ _ _ _ _ _ aF (pv 1) ag (λ_ _=>rfl)) dY (ay _))))).pt (@ao _ _ _ (tG hu (ak (pv 0) rfl) (@az _ _ _ _ _ _ _ aF (pv 1) ag (λ_ _=>rfl)) eG rfl)) am)∪((pv 1)⁻¹))),?_⟩;obtain⟨dx,hx⟩:=hn.ob;obtain⟨dr,hra⟩:=hn.ra;refine⟨_,rfl,fld hx G.bL G.j7 Ce ⟨z.ra,dr,_,rfl,hra,y4,z.ra,sa,G',"ask","asked","taken",p,M,r,A,T,rfl,⟨dr,hra⟩,S,hp,by decide +kernel,by decide +kernel,by decide +kernel,hrl,hA,hT,?_⟩⟩;by_cases h0:(A - T) % (p.s * p.R)=0
   . rw[Vc h0]at k |-;exact⟨_,rfl,rfl,_,rfl,cW ⟨_,rfl,k⟩⟩
   rw[Vd h0]at k |-;rcases k with⟨c,nm,wv,hrd,hc,k⟩|⟨i,hrd,k⟩
   . refine .inl ⟨c,_,hrd,hc,λH1 S1 kp1=>?_⟩;have hn1:=hn.lists kp1 λc m=>.inl (by
      obtain⟨ts,e,_⟩:=S.rw G';exact⟨ts,by rw[Nd.mp m];exact e⟩)
     have hc1:=kp1 _ _ (S.noT hc) hc;obtain⟨dx1,hx1⟩:=hn1.ob;refine⟨_,rfl,rfl,_,rfl,fP ⟨_,rfl,c,_,_,_,rfl,rfl,SqT.of hc1,rfl,rfl,_,rfl,fP ?_⟩⟩;refine⟨_,rfl,fld hx1 G.bL G.d5 p7 ⟨_,rfl,c,_,_,_,rfl,rfl,SqT.of hc1,rfl,z.gd,_,rfl,Gq.k (k:=.inl nm) hn1.go (Nn (by rw[yR];exact htl) (by decide)),_,rfl,?_⟩⟩;rw[GJ];refine k _ ?_ (S1.kp Kp.one (λc hc=>by rw[Nd.mp hc];exact S1.noD hn1.go) λc hc vs e=>by rw[Nd.mp hc,hn1.go]at e;cases e) λc o nc e=>?_
     . obtain⟨d1,x1⟩:=hn1.ra;obtain⟨d2,x2⟩:=hn1.rb;exact⟨⟨dx1,by rw[ae (jh hx1 hn1.go (by intro z;cases z))];exact hx1⟩,⟨d1,by rw[ae (jh x1 hn1.go (by intro z;cases z))];exact x1⟩,⟨d2,by rw[ae (jh x2 hn1.go (by intro z;cases z))];exact x2⟩,a8⟩
     . rw[ae λz=>nc (by rw[z];exact Nv)];exact kp1 c o (λm=>nc (Nw _ m)) e
   . refine .inr ⟨i,hrd,λt H1 n1 v1 S1 kp1=>?_⟩;have hn1:=hn.lists kp1 λc m=>.inl (by
      obtain⟨ts,e,_⟩:=S.rw G';exact⟨ts,by rw[Nd.mp m];exact e⟩)
     exact⟨_,rfl,rfl,_,rfl,fP ⟨_,rfl,t,_,_,_,rfl,rfl,SqT.of v1,rfl,rfl,_,rfl,cW ⟨_,rfl,k t H1 n1 v1 hn1 S1 kp1⟩⟩⟩
def vD (G:Gs K mg a d):FnOk P w K mg base (CXv P w) 6 a.bb d.bb ["self","name"] (vY w a.aM a.bB a.aD a.wN a.hG):=by
 have TX:FnOk P w K mg base CX0 4 _ _ _ _:=D5 G;refine G.lg.okX (k:=5) kN (λvs H Q E h=>?_) (λcdv A' outer s' H vs Q E hr hR h=>?_)
 . obtain⟨z,sa,p,ts,M,r,A,T,nm,rfl,_⟩:=h;rfl
 . obtain⟨z,sa,p,ts,M,r,A,T,nm,rfl,hn,S,hp,hA,hT,k⟩:=h;have hu:=bU hr;refine⟨_,((aI (BT (mX hu (pv 1) (ak (pv 0) rfl))) (@ao _ _ _ (iX hR hr.hd (by rfl) G.uv G.xc_NoTask (aj∣aa))) am)∪(@ao _ _ _ (aI (bP (aS (ak (pv 0) rfl) G.ax G.l6 TX (hr.mono (by decide)) G.lB .nil aq)) (@ao _ _ _ (iX hR hr.hd (by rfl) G.yj G.xc_Full (aj∣aa))) am))),?_⟩;obtain⟨dx,hx⟩:=hn.ob;obtain⟨dr,hrb⟩:=hn.rb;refine⟨_,rfl,_,rfl,fld hx G.bL G.d5 p7 ⟨z.gd,_,rfl,Dv.k (k:=.inl nm) hn.go,_,rfl,?_⟩⟩;rw[km];cases hc:ts.contains nm with
  |false =>
    rw[Vc hc]at k;exact fP ⟨by show 1 <= Nl;decide,k⟩
  |true =>
    rw[Vd (by rw[hc];decide)]at k;refine cW ?_;refine⟨_,rfl,fld hx G.bL G.fI se ⟨z.rb,dr,_,rfl,hrb,BF,z.rb,sa,G',"answer","answered","handed",p,M,r,A,T,rfl,⟨dr,hrb⟩,S,hp,by decide +kernel,by decide +kernel,hA,hT,_,rfl,?_⟩⟩;by_cases hf:(A - T) % (p.s * p.R)=p.s
    . rw[Vc hf]at k;exact pL hf ⟨by show 1 <= Nl;decide,k⟩
    . rw[Vd hf]at k;exact iJ hf k
def Dk (G:Gs K mg a d):FnOk P w K mg base (CXv P w) 8 a.cH d.cH ["self","name","worth"] (vh w a.aM a.bB a.aD a.wN a.hG):=by
 have U':FnOk P w K mg base (CXv P w) 6 _ _ _ _:=vD G;have TY:FnOk P w K mg base CX0 4 _ _ _ _:=FP G;refine G.rg.okX (k:=7) ql (λvs H Q E h=>?_) (λcdv A' outer s' H vs Q E hr hR h=>?_)
 . obtain⟨z,sa,p,ts,M,r,A,T,nm,wv,rfl,_⟩:=h;rfl
 . obtain⟨z,sa,p,ts,M,r,A,T,nm,wv,rfl,hn,S,hp,hrl,hA,hT,k⟩:=h;refine⟨_,((@aL _ _ _ _ (av (pv 0) G.bL G.fE U' (hr.mono (by decide)) G.fO .nil hR.passes ((pv 1)∣aa)) (by rfl))∪((@aL _ _ _ _ (av (ak (pv 0) rfl) G.ax G.pw TY (hr.mono (by decide)) G.rZ .nil aq ((pv 1)∣((pv 2)∣aa))) (by rfl))∪(@ao _ _ _ (@aL _ _ _ _ (tO (ak (pv 0) rfl) (pv 1) ⟨rfl,rfl,rfl,rfl⟩) (by rfl))))),?_⟩;obtain⟨dx,hx⟩:=hn.ob;obtain⟨dr,hrb⟩:=hn.rb;refine⟨_,rfl,z.h,dx,_,rfl,hx,z9,_,rfl,z,sa,p,ts,M,r,A,T,nm,rfl,hn,S,hp,hA,hT,?_⟩;by_cases hc:ts.contains nm=D'
   . rw[Vc hc]at k |-;exact k
   rw[Vd hc]at k |-;by_cases hf:(A - T) % (p.s * p.R)=p.s
   . rw[Vc hf]at k |-;exact k
   rw[Vd hf]at k |-;refine⟨_,rfl,fld hx G.bL G.fI se ⟨z.rb,dr,_,rfl,hrb,FS,_,rfl,_,rfl,z.rb,sa,G',"answer","answered","handed",p,M,r,A,.int nm,wv,rfl,⟨dr,hrb⟩,S,hp,by decide +kernel,by decide +kernel,hrl,hA,λt H1 n1 v1 S1 kp1=>?_⟩⟩;have hn1:=hn.lists kp1 λc m=>.inl (by
    obtain⟨ts,e,_⟩:=S.rw G';exact⟨ts,by rw[Nd.mp m];exact e⟩)
   obtain⟨dx1,hx1⟩:=hn1.ob;have hv:qE (gK ts) (.inl nm)=f' (.bl G'):=by
    rw[km];cases y:ts.contains nm with
   |true=>rfl
   |false=>exact absurd y hc
   refine⟨_,rfl,fld hx1 G.bL G.d5 p7 ⟨z.gd,rfl,.inl ⟨_,.inl hn1.go⟩,_,rfl,_,.inl nm,_,hn1.go,rfl,hv,?_⟩⟩;rw[qR];refine k t _ n1 ?_ ?_ (S1.kp Kp.one (λc hc=>by rw[Nd.mp hc];exact S1.noD hn1.go) λc hc vs e=>by rw[Nd.mp hc,hn1.go]at e;cases e) λc o nc e=>?_
   . rw[ae (jh v1 hn1.go (by intro z;cases z))];exact v1
   . obtain⟨d1,x1⟩:=hn1.ra;obtain⟨d2,x2⟩:=hn1.rb;exact⟨⟨dx1,by rw[ae (jh hx1 hn1.go (by intro z;cases z))];exact hx1⟩,⟨d1,by rw[ae (jh x1 hn1.go (by intro z;cases z))];exact x1⟩,⟨d2,by rw[ae (jh x2 hn1.go (by intro z;cases z))];exact x2⟩,a8⟩
   . rw[ae λz=>nc (by rw[z];exact Nv)];exact kp1 c o (λm=>nc (Nw _ m)) e
def Fb (G:Gs K mg a d):FnOk P w K mg base CX0 1 a.dc d.dc ["self"] (DU a.aM a.bB):=by
 refine G.uU.ok r8 (λvs H Q E h=>?_) (λcdv A outer s H vs Q E hr h=>?_)
 . obtain⟨z,st,p,ts,rfl,_⟩:=h;rfl
 . obtain⟨z,st,p,ts,rfl,hn,hl,k⟩:=h;refine⟨_,((aN (vy rfl) (by rfl) G.tM pU ((ak (pv 0) rfl)∣aa))⁻¹),?_⟩;obtain⟨dx,hx⟩:=hn.ob;exact⟨_,rfl,fld hx G.bL G.d5 p7 ⟨z.gd,_,ts,rfl,hn.go,by unfold gK;rw[map_map];rfl,hl,λp ns hp h1 h2=>k p ns hp h1 h2⟩⟩
def F0 (w:Nt) (C:K'):Sp:=λvs H Q _=>∃ x dx,vs=[.ref x]/\H x=f' (.ins C dx []) /\
 ∀ (sa:SA) (H':Hp),sa.x=x->(∀ c,sa.own c->c≠x->H c=Nf)->StT w C H' sa Mem.zero (λ_=>[])->Kp [x] H H'->Q .non H'
def CW (w:Nt) (C:K'):Sp:=λvs H Q _=>∃ (sa:SA) (m:Mem) (rs:Bool->List Wr) (b:Bool) (cv wv:V) (x:Wr),vs=[.ref sa.x,.int (sdI b),cv,wv]/\StT w C H sa m rs/\(rs b).length < 99990/\wO H x.key cv/\DV H x.dat wv/\x.Ok /\
 ∀ H',StT w C H' sa m (setR rs b (rs b++[x]))->Kp [sa.l b] H H'->Q .non H'
def B1 (w:Nt) (C:K'):Sp:=λvs H Q _=>∃ (sa:SA) (m:Mem) (rs:Bool->List Wr) (b:Bool) (x:Wr) (ck:List Wr),vs=[.ref sa.x,.int (sdI b)]/\StT w C H sa m rs/\rs b=x :: ck /\
 ∀ H',StT w C H' sa (m.put x) (setR rs b ck)->Kp [sa.l b,sa.hd] H H'->Q .non H'
def wrD (x:Wr):Ni:=.tuple [x.key,x.dat]
def BJ (w:Nt) (C:K'):Sp:=λvs H Q _=>∃ (sa:SA) (m:Mem) (rs:Bool->List Wr) (b:Bool),vs=[.ref sa.x,.int (sdI b)]/\StT w C H sa m rs /\
 ∀ (p:K') (ts:List V),H p=Nf->DVs H ((rs b).map wrD) ts->Q (.ref p) (upd H p (.lst ts))
theorem yx {H:Hp}:∀ {row:List Wr}{es:List (Ni × V)},NF (WrR H) row es->NF (RD H) es (row.map wrD)
|_,_,.nil=>.nil
|x :: _,_,.cons ⟨_,hk,hd⟩ t=>.cons ⟨x.dat,by rw[hk];rfl,hd⟩ (yx t)
def L4 {w:Nt}{C:K'}{vs:List V}{H:Hp}{Q:VK}{E:XK}(h:F0 w C vs H Q E):Cv w C vs H Q E:=by
 obtain⟨x,dx,rfl,hx,k⟩:=h;refine⟨x,dx,rfl,hx,λhd rl l H' f1 f2 f3 S kp=>k ⟨x,hd,rl,l⟩ H' rfl (λc hc n=>?_) ⟨[],_,S,MemR.zero,λ_=>.nil⟩ kp⟩;rcases hc with y|y|y|y|y
 . exact absurd y n
 . rw[y];exact f1
 . rw[y];exact f2
 . rw[y];exact f3 _
 . rw[y];exact f3 _
def D0 {w:Nt}{C:K'}{vs:List V}{H:Hp}{Q:VK}{E:XK}(h:CW w C vs H Q E):yQ w C vs H Q E:=by
 obtain⟨sa,m,rs,b,cv,wv,x,rfl,⟨M,r,S,R,P⟩,hl,hk,hd,ho,k⟩:=h;have hl':=aU (P b);refine⟨sa.x,sa.hd,sa.rl,sa.l,M,r,b,cv,wv,x.key,rfl,S,by omega,hk,λH' S' kp=>k H' ?_ kp⟩;have ht:∀ c vs,H c=f' (.tup vs)->H' c=f' (.tup vs):=λc vs e=>kp c _ (S.noT e) e
 exact StT.grow R P S' ht (.cons ⟨ho,rfl,DV.keep ht _ _ x.dat_kd hd⟩ .nil)
def Jb {w:Nt}{C:K'}{vs:List V}{H:Hp}{Q:VK}{E:XK}(h:B1 w C vs H Q E):zo w C vs H Q E:=by
 obtain⟨sa,m,rs,b,x,ck,rfl,⟨M,r,S,R,P⟩,hb,k⟩:=h;have pb:=P b;rw[hb]at pb;cases hr:r b with
|nil=>rw[hr]at pb;cases pb
|cons q es =>
  rw[hr]at pb;cases pb with
 |cons hx pt =>
   refine⟨sa.x,sa.hd,sa.rl,sa.l,M,r,b,q.1,q.2,es,rfl,S,hr,Nat.lt_of_le_of_lt (StT.small S R) (by decide),λH' S' kp=>k H' ⟨_,_,S',?_,λc=>?_⟩ kp⟩
   all_goals
    have ht:∀ c vs,H c=f' (.tup vs)->H' c=f' (.tup vs):=λc vs e=>kp c _ (λmm=>by
     rcases NA.mp mm with y|y
     . exact S.noT (b:=b) e (Nd.mpr y)
     . obtain⟨ee,e'⟩:=S.me.there;rw[Nd.mp y,e']at e;cases e) e
   . exact(R.put hx).keep ht
   . by_cases e:c=b
     . subst e;rw[ba,ba];exact Paired.mapP pt λ_ _ q=>q.keep ht
     . rw[eS e,eS e];exact Paired.mapP (P c) λ_ _ q=>q.keep ht
def yU {w:Nt}{C:K'}{vs:List V}{H:Hp}{Q:VK}{E:XK}(h:BJ w C vs H Q E):yk w C vs H Q E:=by
 obtain⟨sa,m,rs,b,rfl,⟨M,r,S,R,P⟩,k⟩:=h;exact⟨sa.x,sa.hd,sa.rl,sa.l,M,r,b,rfl,S,λp ts hp pr=>k p ts hp (zr pr (yx (P b)))⟩
def HX (w:Nt) (CH CR CS F N:K'):Sp:=λvs H Q E=>∃ (z:HA) (sa:SA) (p:RP) (n:Nat) (aw:List Int) (m:Mem) (rs:Bool->List Wr) (wt:Int),vs=[.ref z.h,.int wt]/\Hn CH CR H z sa.x p n aw/\StT w CS H sa m rs/\p.Ok/\n <= 9/\aw.length < 1000/\(rs D').length < 99990 /\
 if bj p m (rs D') .asked .taken=p.s then E (.ref F) Nf H else match cO n aw with
 |none=>E (.ref N) Nf H
 |some nm=>∀ H',Hn CH CR H' z sa.x p n (aw++[nm])->StT w CS H' sa m (setR rs D' (rs D'++Bc p m (rs D') D' .asked nm wt))->Kp [z.gd,sa.l D'] H H'->Q (.int nm) H'
def wX (w:Nt) (CH CR CS:K'):Sp:=λvs H Q _=>∃ (z:HA) (sa:SA) (p:RP) (n:Int) (aw:List Int) (m:Mem) (rs:Bool->List Wr),vs=[.ref z.h]/\Hn CH CR H z sa.x p n aw/\StT w CS H sa m rs/\p.Ok/\(rs D').length < 99990 /\
 (if bj p m (rs D') .answered .handed=0 then Q .non H else match rdP m (rs D') G' (rdC m (rs D') .handed % p.s) with
 |some nw=>∀ c H',H' c=f' (.tup [.int nw.1,.int nw.2])->Hn CH CR H' z sa.x p n (aw.filter λk=>decide (k≠nw.1))->StT w CS H' sa m (setR rs D' (rs D'++[lG p m (rs D') .handed]))->Kp [z.gd,sa.l D'] H H'->Q (.ref c) H'
 |none=>∀ c H',H' c=f' (.tup [.non,.non])->Hn CH CR H' z sa.x p n aw->StT w CS H' sa m (setR rs D' (rs D'++[lG p m (rs D') .handed]))->Kp [z.gd,sa.l D'] H H'->Q (.ref c) H')
def Mo {w:Nt}{CH CR CS F N:K'}{vs:List V}{H:Hp}{Q:VK}{E:XK}(h:HX w CH CR CS F N vs H Q E):G4 w CH CR CS F N vs H Q E:=by
 obtain⟨z,sa,p,n,aw,m,rs,wt,rfl,hn,⟨M,r,S,R,P⟩,hp,n9,hal,hrl,k⟩:=h;have hl:=aU (P D');refine⟨z,sa,p,n,aw,M,r,.int wt,rdC m (rs D') .asked,rdC m (rs D') .taken,rfl,hn,S,hp,n9,hal,by omega,cA R (P D') .asked,cA R (P D') .taken,?_⟩;unfold bj at k;by_cases hc:(rdC m (rs D') .asked - rdC m (rs D') .taken) % (p.s * p.R)=p.s
 . rw[Vc hc]at k |-;exact k
 . rw[Vd hc]at k |-;cases hle:cO n aw with
  |none=>rw[hle]at k;exact k
  |some nm =>
    rw[hle]at k;intro t H' n2 v2 hn2 S2 kp2;have ht:∀ c vs,H c=f' (.tup vs)->H' c=f' (.tup vs):=λc vs e=>kp2 c _ (λmm=>by
     rcases NA.mp mm with y|y
     . rw[y,hn.go]at e;cases e
     . exact S.noT e y) e
    exact k H' hn2 (StT.grow R P S2 ht (y8 hp (by have:=oY hle;omega) v2)) kp2
def FN {w:Nt}{CH CR CS:K'}{vs:List V}{H:Hp}{Q:VK}{E:XK}(h:wX w CH CR CS vs H Q E):sH w CH CR CS vs H Q E:=by
 obtain⟨z,sa,p,n,aw,m,rs,rfl,hn,⟨M,r,S,R,P⟩,hp,hrl,k⟩:=h;have hl:=aU (P D');refine⟨z,sa,p,n,aw,M,r,rdC m (rs D') .answered,rdC m (rs D') .handed,rfl,hn,S,hp,by omega,cA R (P D') .answered,cA R (P D') .handed,?_⟩;unfold bj at k;by_cases hc:(rdC m (rs D') .answered - rdC m (rs D') .handed) % (p.s * p.R)=0
 . rw[Vc hc]at k |-;exact k
 . rw[Vd hc]at k |-;have ht:∀ {H':Hp} {xs:List K'},(∀ x∈xs,x=z.gd\/x=sa.l D')->Kp xs H H'->∀ c vs,H c=f' (.tup vs)->H' c=f' (.tup vs):=λhx kp c vs e=>kp c _ (λmm=>by
    rcases hx c mm with y|y
    . rw[y,hn.go]at e;cases e
    . exact S.noT (b:=D') e (Nd.mpr y)) e
   rcases Ba R (P D') G' (rdC m (rs D') .handed % p.s) with⟨e1,e2⟩|⟨nm,wt,c,e1,e2,hc'⟩
   . rw[e1]at k;refine .inr ⟨0,e2,λt H' n1 v1 hn1 S1 kp1=>k t H' v1 hn1 (StT.grow R P S1 (ht (λx mx=>.inr (Nd.mp mx)) kp1) (.cons ⟨trivial,rfl,rfl⟩ .nil)) (kp1.mono λc mc=>Nw _ mc)⟩
   . rw[e1]at k;refine .inl ⟨c,nm,.int wt,e2,hc',λH' hn1 S1 kp1=>?_⟩;have ht':=ht (λx mx=>by
      rcases NA.mp mx with y|y
      . exact .inl y
      . exact .inr (Nd.mp y)) kp1
     exact k c H' (ht' _ _ hc') hn1 (StT.grow R P S1 ht' (.cons ⟨trivial,rfl,rfl⟩ .nil)) kp1
def Em (w:Nt) (CT CR CS:K'):Sp:=λvs H Q _=>∃ (z:TA') (sa:SA) (p:RP) (ts:List Int) (m:Mem) (rs:Bool->List Wr),vs=[.ref z.h]/\Tn CT CR H z sa.x p ts/\StT w CS H sa m rs/\p.Ok/\ts.length < 1000/\(rs G').length < 99990 /\
 (if bj p m (rs G') .asked .taken=0 then Q .non H else match rdP m (rs G') D' (rdC m (rs G') .taken % p.s) with
 |some nw=>∀ c H',H' c=f' (.tup [.int nw.1,.int nw.2])->Tn CT CR H' z sa.x p (vQ ts nw.1)->StT w CS H' sa m (setR rs G' (rs G'++[lG p m (rs G') .taken]))->Kp [z.gd,sa.l G'] H H'->Q (.ref c) H'
 |none=>∀ c H',H' c=f' (.tup [.non,.non])->Tn CT CR H' z sa.x p ts->StT w CS H' sa m (setR rs G' (rs G'++[lG p m (rs G') .taken]))->Kp [z.gd,sa.l G'] H H'->Q (.ref c) H')
def Ac (w:Nt) (CT CR CS F N:K'):Sp:=λvs H Q E=>∃ (z:TA') (sa:SA) (p:RP) (ts:List Int) (m:Mem) (rs:Bool->List Wr) (nm wt:Int),vs=[.ref z.h,.int nm,.int wt]/\Tn CT CR H z sa.x p ts/\StT w CS H sa m rs/\p.Ok/\(rs G').length < 99990/\(∀ x∈ts,0 <= x/\x < 9) /\
 if ts.contains nm=D' then E (.ref N) Nf H else if bj p m (rs G') .answered .handed=p.s then E (.ref F) Nf H else
  ∀ H',Tn CT CR H' z sa.x p (ts.filter λk=>decide (k≠nm))->StT w CS H' sa m (setR rs G' (rs G'++Bc p m (rs G') G' .answered nm wt))->Kp [z.gd,sa.l G'] H H'->Q .non H'
def LR {w:Nt}{CT CR CS:K'}{vs:List V}{H:Hp}{Q:VK}{E:XK}(h:Em w CT CR CS vs H Q E):zl w CT CR CS vs H Q E:=by
 obtain⟨z,sa,p,ts,m,rs,rfl,hn,⟨M,r,S,R,P⟩,hp,htl,hrl,k⟩:=h;have hl:=aU (P G');refine⟨z,sa,p,ts,M,r,rdC m (rs G') .asked,rdC m (rs G') .taken,rfl,hn,S,hp,htl,by omega,cA R (P G') .asked,cA R (P G') .taken,?_⟩;unfold bj at k;by_cases hc:(rdC m (rs G') .asked - rdC m (rs G') .taken) % (p.s * p.R)=0
 . rw[Vc hc]at k |-;exact k
 . rw[Vd hc]at k |-;have ht:∀ {H':Hp} {xs:List K'},(∀ x∈xs,x=z.gd\/x=sa.l G')->Kp xs H H'->∀ c vs,H c=f' (.tup vs)->H' c=f' (.tup vs):=λhx kp c vs e=>kp c _ (λmm=>by
    rcases hx c mm with y|y
    . rw[y,hn.go]at e;cases e
    . exact S.noT (b:=G') e (Nd.mpr y)) e
   rcases Ba R (P G') D' (rdC m (rs G') .taken % p.s) with⟨e1,e2⟩|⟨nm,wt,c,e1,e2,hc'⟩
   . rw[e1]at k;refine .inr ⟨0,e2,λt H' n1 v1 hn1 S1 kp1=>k t H' v1 hn1 (StT.grow R P S1 (ht (λx mx=>.inr (Nd.mp mx)) kp1) (.cons ⟨trivial,rfl,rfl⟩ .nil)) (kp1.mono λc mc=>Nw _ mc)⟩
   . rw[e1]at k;refine .inl ⟨c,nm,.int wt,e2,hc',λH' hn1 S1 kp1=>?_⟩;have ht':=ht (λx mx=>by
      rcases NA.mp mx with y|y
      . exact .inl y
      . exact .inr (Nd.mp y)) kp1
     exact k c H' (ht' _ _ hc') hn1 (StT.grow R P S1 ht' (.cons ⟨trivial,rfl,rfl⟩ .nil)) kp1
def Ih {w:Nt}{CT CR CS F N:K'}{vs:List V}{H:Hp}{Q:VK}{E:XK}(h:Ac w CT CR CS F N vs H Q E):vh w CT CR CS F N vs H Q E:=by
 obtain⟨z,sa,p,ts,m,rs,nm,wt,rfl,hn,⟨M,r,S,R,P⟩,hp,hrl,hts,k⟩:=h;have hl:=aU (P G');refine⟨z,sa,p,ts,M,r,rdC m (rs G') .answered,rdC m (rs G') .handed,nm,.int wt,rfl,hn,S,hp,by omega,cA R (P G') .answered,cA R (P G') .handed,?_⟩;unfold bj at k;by_cases h0:ts.contains nm=D'
 . rw[Vc h0]at k |-;exact k
 rw[Vd h0]at k |-;by_cases hc:(rdC m (rs G') .answered - rdC m (rs G') .handed) % (p.s * p.R)=p.s
 . rw[Vc hc]at k |-;exact k
 . rw[Vd hc]at k |-;intro t H' n2 v2 hn2 S2 kp2;have ht:∀ c vs,H c=f' (.tup vs)->H' c=f' (.tup vs):=λc vs e=>kp2 c _ (λmm=>by
    rcases NA.mp mm with y|y
    . rw[y,hn.go]at e;cases e
    . exact S.noT e y) e
   exact k H' hn2 (StT.grow R P S2 ht (y8 hp (hts nm (by
    cases y:ts.contains nm with
   |false=>exact absurd y h0
   |true=>rw[OO]at y;exact of_decide_eq_true y)) v2)) kp2
def Fo:Sp:=λvs H Q _=>∃ i:Int,vs=[.int i]/\Q (.bl G') H
def D4:Sp:=λvs H Q _=>∃ (i:Int) (k:Str),vs=[.int i,.str k]/\∀ H',bq H H'->Q (.bl (gS i k)) H'
def C3:Sp:=λvs H Q _=>∃ (t:K') (x:Dd),vs=[.ref t]/\H t=f' (.tup x.vs)/\x.Ok/\∀ H',bq H H'->Q (.bl G') H'
def He:Sp:=λvs H Q _=>∃ (t:K') (x:Dd),vs=[.ref t]/\H t=f' (.tup x.vs)/\∀ H',bq H H'->Q (.int (sdI x.side)) H'
def Ed (G:Gs K mg a d):FnOk P w K mg base CX0 1 a.iV d.iV ["value"] Fo:=by
 refine G.sG.ok xn (λvs H Q E h=>?_) (λcdv A' outer s' H vs Q E hr h=>?_)
 . obtain⟨i,rfl,_⟩:=h;rfl
 . obtain⟨i,rfl,k⟩:=h;refine⟨_,((Gx (aN c8 (by rfl) G.bI bx ((pv 0)∣((jd (v:=.ty "int") (by rfl) G.Ab sr rfl)∣aa))) (Bq (Ke (aN c8 (by rfl) G.bI bx ((pv 0)∣((jd (v:=.ty "bool") (by rfl) G.Gy Ct rfl)∣aa))))))⁻¹),?_⟩;exact⟨_,rfl,_,_,.type "int",G',rfl,.int i,LF,_,rfl,fP ⟨_,rfl,_,_,.type "int",D',rfl,.int i,IS,_,rfl,k⟩⟩
def Hg (G:Gs K mg a d):FnOk P w K mg base CX0 2 a.lV d.lV ["value","kind"] D4:=by
 have UH:FnOk P w K mg base CX0 1 _ _ _ _:=Ed G;refine G.we.ok AR (λvs H Q E h=>?_) (λcdv A' outer s' H vs Q E hr h=>?_)
 . obtain⟨i,k,rfl,_⟩:=h;rfl
 . obtain⟨i,kd,rfl,k⟩:=h;refine⟨_,((aI (eI (bP (au UH (hr.mono (by decide)) (by rfl) G.zL G.sG.kp G.A9 .nil aq ((pv 0)∣aa)))) (eG⁻¹) am)∪((aI (ar cp (pv 1) aj (ay _)) ((DO zF zF (FL yz (mD (by rfl) G.gQ)) (pv 0) (mD (by rfl) G.gQ))⁻¹) am)∪((aI (ar cp (pv 1) aj (ay _)) ((cc eF (pv 0) (@bi _ _ _ _ _ (ag∣(ag∣aa))) (by with_unfolding_all rfl))⁻¹) am)∪(eG⁻¹)))),?_⟩;refine⟨_,rfl,i,rfl,_,rfl,cW ?_⟩;refine⟨_,rfl,rfl,_,rfl,?_⟩;by_cases h1:kd="worth"
   . refine iy (Vf (by rw[h1])) ?_;have e:gS i kd=(decide (-1000000000 <= i) && decide (i <= 1000000000)):=by unfold gS;rw[Vc h1]
     refine⟨_,rfl,_,rfl,_,_,rfl,rfl,_,rfl,?_⟩;by_cases hb:-1000000000 <= i
     . refine iy (Vf hb) ⟨_,_,rfl,rfl,?_⟩;rw[Vf hb,Bool.true_and]at e;show Q (.bl (decide (i <= 1000000000))) H;rw[<-e];exact k _ λ_ _ z=>z
     . refine cu (by rw[Ve];exact hb) ?_;rw[decide_eq_false hb,Bool.false_and]at e;show Q (.bl D') H;rw[<-e];exact k _ λ_ _ z=>z
   . refine cu (by rw[Ve];exact sne h1) ?_;refine⟨_,rfl,rfl,_,rfl,?_⟩;by_cases h2:kd="side"
     . refine iy (Vf (by rw[h2])) ?_;have e:gS i kd=(decide (i=0) || decide (i=1)):=by unfold gS;rw[Vd h1,Vc h2]
       refine⟨_,rfl,l2,λt ht=>⟨t,_,rfl,.inr (SqT.of a8),rfl,rfl,?_⟩⟩;simp only[NK,if_false];have e2:inV (.int i) [V.int 0,V.int 1]=gS i kd:=by
        have:=B5 i [0,1];show inV (.int i) (([0,1]:List Int).map V.int)=_;rw[this,e,OO,ON,Ve,Bool.or_eq_true,Ve,Ve];simp
       rw[e2];exact k _ (af ht)
     . refine cu (by rw[Ve];exact sne h2) ?_;have e:gS i kd=G':=by unfold gS;rw[Vd h1,Vd h2]
       show Q (.bl G') H;rw[<-e];exact k _ λ_ _ z=>z
def tp (x:Dd):∃ b,PyProof.Rows.KTD.datumAt x.word [("ask",a.gC),("collect",a.gO),("take",a.gH),("answer",a.gq),("bell",a.gD),("lie",a.gz),("look",a.gf),("drain",a.gG)]=f' b/\(∀ (G:Gs K mg a d) (H:Hp),SqT K H b (x.ks.map V.str)):=by
 cases x
 . exact⟨_,rfl,λG=>G.Dr⟩
 . exact⟨_,rfl,λG=>G.Dq⟩
 . exact⟨_,rfl,λG=>G.C2⟩
 . exact⟨_,rfl,λG=>G.Cr⟩
 . exact⟨_,rfl,λG=>G.CA⟩
 . exact⟨_,rfl,λG=>G.D7⟩
 . exact⟨_,rfl,λG=>G.Bs⟩
 . exact⟨_,rfl,λG=>G.BR⟩
def CB (G:Gs K mg a d):FnOk P w K mg base CX0 3 a.lJ d.lJ ["some"] C3:=by
 have UG:FnOk P w K mg base CX0 2 _ _ _ _:=Hg G;refine G.wJ.ok su (λvs H Q E h=>?_) (λcdv A' outer s' H vs Q E hr h=>?_)
 . obtain⟨t,x,rfl,_⟩:=h;rfl
 . obtain⟨t,x,rfl,ht,hx,k⟩:=h;have hu:=bU hr;refine⟨_,((aI ((uk (eI (bP (aN c8 (by rfl) G.bI bx ((pv 0)∣((jd (v:=.ty "tuple") (by rfl) G.kX gW rfl)∣aa))))) (uk (ar cp (aN b8 (by rfl) G.m9 i0 ((pv 0)∣aa)) ag (ay _)) (oo (eI (bP (aN c8 (by rfl) G.bI bx ((@az _ _ _ _ _ _ _ aF (pv 0) ag (λ_ _=>rfl))∣((jd (v:=.ty "str") (by rfl) G.oK jP rfl)∣aa))))))))).pt (eG⁻¹) am)∪((@aJ _ _ 1 _ _ _ _ su.nd rfl (NW rfl) (BE (by rfl) G.xA G.xu (@az _ _ _ _ _ _ _ aF (pv 0) ag (λ_ _=>rfl)) ⟨rfl,rfl,rfl,rfl⟩) (by rfl) (by first|exact .inl rfl|exact .inr rfl|assumption))∪((aI ((uk (ar vi (pv 1) dY (ay _)) (oo (ar oQ (aN b8 (by rfl) G.m9 i0 ((pv 0)∣aa)) (@dA _ _ _ _ _ _ _ _ o6 (aN b8 (by rfl) G.m9 i0 ((pv 1)∣aa)) ag) (ay _))))).pt (eG⁻¹) am)∪((aN (uf rfl) (by rfl) G.HZ Dj ((by exact yP (x:="value") (x2:="kind") (g:=KJ K 2 (xM (mt 0) (xM (mt 1) KQ))) (tc:=λ_ H Q=>Q G' H) (te:=uY D4 [] E0 (li (qP 0) (li (qP 1) AU))) (caps:=[]) (js:=[]) rfl (gu rfl rfl (by decide +kernel) (by decide +kernel) rfl trivial rfl rfl) (λC s₃ H₃ P2 ex E'=>by exact Gj rfl (show (["value","kind"]:List Str).Nodup from by decide +kernel) rfl rfl (.inl (lookup_relabel_local rfl)) (.inl (lookup_relabel_local rfl)) rfl rfl) trivial (Je (by rfl) G.Kr ((d6 Ja (pv 0) (eB ag) iw)∣((pv 1)∣aa))) (λC s₃ H₃ P2 ex E'=>by exact d8) (λC s₃ H₃ P2 ex E'=>by exact(au UG (hr.mono (by decide)) (by rfl) G.BU G.we.kp G.Bo .nil aq ((pv 0)∣((pv 1)∣aa)))))∣aa))⁻¹)))),?_⟩;obtain⟨b,hb,hs⟩:=tp (K:=K) (mg:=mg) (d:=d) (a:=a) x;have hs:=hs G;obtain⟨l1,l2'⟩:=x.len;have ht':H t=f' (.tup (.str x.word :: x.args.map V.int)):=by rw[<-x.vs_eq];exact ht
   refine⟨_,rfl,_,_,.type "tuple",G',rfl,.tup ht',zW,_,rfl,cW ?_⟩;refine⟨_,rfl,t,_,rfl,.inr (SqT.of ht'),rfl,_,rfl,cu (by rw[Ve];exact λy=>by have:=mR y;rw[NM]at this;omega) ?_⟩;refine⟨_,rfl,t,_,_,_,rfl,rfl,SqT.of ht',aP,_,_,.type "str",G',rfl,.str _,Fl,_,rfl,cW ?_⟩;refine⟨_,rfl,t,_,_,_,rfl,rfl,SqT.of ht',aP,x.word,rfl,?_⟩;rw[hb];refine⟨_,rfl,rfl,_,rfl,cW ?_⟩;refine⟨_,rfl,t,_,rfl,.inr (SqT.of ht'),_,rfl,b,_,rfl,.inr (hs H),_,_,rfl,rfl,rfl,_,rfl,cu ?_ ?_⟩
   . rw[Pu,decide_eq_false_iff_not,Decidable.not_not];refine congrArg V.int ?_;rw[NM,Nu,Nu,l1];rfl
   refine⟨_,rfl,_,rfl,t,_,rfl,SqT.of ht',?_,λp1 hp1=>⟨_,rfl,G',p1,b,_,_,rfl,SqT.of a8,hs _,?_⟩⟩
   . rintro⟨y,_⟩;rw[show (f' (1:Int))=f' ((1:Nat):Int) from rfl,HT.sIx_nat,NM]at y;omega
   have e1:=af (o:=.tup (lx (V.str x.word :: x.args.map V.int) (f' 1) Nf)) hp1;rw[show (f' (1:Int))=f' ((1:Nat):Int) from rfl,iE,show List.drop 1 (V.str x.word :: x.args.map V.int)=x.args.map V.int from rfl]at e1 |-;have v1:upd H p1 (.tup (x.args.map V.int)) p1=f' (.tup (x.args.map V.int)):=a8;intro D hD;generalize upd H p1 (.tup (x.args.map V.int))=H1 at e1 v1 hD |-;refine⟨λi mm ys H'=>i <= x.args.length/\mm=x.args.length - i/\ys=(replicate i G').map V.bl/\H' D=f' (.lst ys)/\∀ c o,c≠D->H1 c=f' o->H' c=f' o,⟨_,Ou _,rfl,rfl,a8,λc o n e=>by rw[ae n];exact e⟩,?_⟩;rintro i mm ys H2 ⟨hi,rfl,rfl,hD2,k2⟩;have e2:bq H1 H2:=λc o e=>k2 c o (λy=>by rw[y,hD]at e;cases e) e
   refine⟨hD2,Nn (show _ < 1000 by rw[Nu,O0];omega) (by decide),?_⟩;by_cases hii:i=x.args.length
   . refine .inl ⟨⟨_,SqT.of (e2 _ _ v1),by rw[Nu];omega⟩,D,replicate i G',rfl,SqL.of hD2,?_⟩;have:(replicate i G').all id=G':=by
      rw[all_eq_true];intro y hy;rw[(List.mem_replicate.mp hy).2];rfl
     rw[this];exact k _ (e1.trans e2)
   . have hlt:i < x.args.length:=by omega
     have hlt2:i < x.ks.length:=by omega
     refine .inr ⟨⟨_,_,_,_,SqT.of (e2 _ _ v1),hs _,by rw[NL,Nk hlt];rfl,by rw[NL,Nk hlt2];rfl⟩,?_⟩;rintro v H3 ⟨T,xv,yv,hT,rfl,rfl,hxv,hyv⟩ v0 v1';have hxv:=hxv _ (SqT.of (e2 _ _ v1));have hyv:=hyv _ (hs _);rw[NL,Nk hlt]at hxv;rw[NL,Nk hlt2]at hyv;cases hxv;cases hyv;refine⟨T,_,rfl,SqT.of a8,rfl,_,_,rfl,_,_,rfl,rfl,_,_,rfl,?_⟩;refine fP ⟨_,rfl,_,rfl,_,_,rfl,λH4 e4=>?_⟩;have hp:=Dd.part hx i _ _ (Nk hlt) (Nk hlt2);rw[hp];have nD:D≠T:=λy=>by rw[<-y,hD2]at hT;cases hT
     refine⟨e4 _ _ (by rw[ae nD];exact hD2),x.args.length - (i+1),by omega,by omega,rfl,by rw[List.replicate_succ',OS];rfl,a8,λc o n e=>?_⟩;rw[ae n];exact e4 _ _ (af hT _ _ (k2 c o n e))
def Ht (G:Gs K mg a d):FnOk P w K mg base CX0 1 a.lF d.lF ["some"] He:=by
 refine G.vH.ok Aw (λvs H Q E h=>?_) (λcdv A' outer s' H vs Q E hr h=>?_)
 . obtain⟨t,x,rfl,_⟩:=h;rfl
 . obtain⟨t,x,rfl,ht,k⟩:=h;have hu:=bU hr;refine⟨_,((aI (ar eF (@az _ _ _ _ _ _ _ aF (pv 0) ag (λ_ _=>rfl)) (@bi _ _ _ _ _ (aj∣(aj∣aa))) (by with_unfolding_all rfl)) (ag⁻¹) am)∪((aI (ar eF (@az _ _ _ _ _ _ _ aF (pv 0) ag (λ_ _=>rfl)) (@bi _ _ _ _ _ (aj∣(aj∣aa))) (by with_unfolding_all rfl)) (ag⁻¹) am)∪((@az _ _ _ _ _ _ _ aF (pv 0) ag (λ_ _=>rfl))⁻¹))),?_⟩;have ht':H t=f' (.tup (.str x.word :: x.args.map V.int)):=by rw[<-x.vs_eq];exact ht
   refine⟨_,rfl,t,_,_,_,rfl,rfl,SqT.of ht',aP,l2,λt1 h1=>⟨t1,_,rfl,.inr (SqT.of a8),rfl,rfl,_,rfl,?_⟩⟩;have e1:=af (o:=.tup [V.str "ask",V.str "collect"]) h1;generalize upd H t1 (.tup [V.str "ask",V.str "collect"])=H1 at e1 |-;rcases x.grp with⟨c1,hsd⟩|⟨c1,hsd⟩|⟨c1,hsd⟩
   . refine iy ?_ ?_
     . rcases c1 with y|y<;>(rw[y];decide +kernel)
     . rw[hsd]at k;exact k H1 e1
   . refine cu ?_ ?_
     . rcases c1 with y|y<;>(rw[y];decide +kernel)
     refine⟨_,rfl,t,_,_,_,rfl,rfl,SqT.of (e1 _ _ ht'),aP,l2,λt2 h2=>⟨t2,_,rfl,.inr (SqT.of a8),rfl,rfl,_,rfl,iy ?_ ?_⟩⟩
     . rcases c1 with y|y<;>(rw[y];decide +kernel)
     . rw[hsd]at k;exact k _ (e1.trans (af h2))
   . refine cu ?_ ?_
     . rcases c1 with y|y|y|y<;>(rw[y];decide +kernel)
     refine⟨_,rfl,t,_,_,_,rfl,rfl,SqT.of (e1 _ _ ht'),aP,l2,λt2 h2=>⟨t2,_,rfl,.inr (SqT.of a8),rfl,rfl,_,rfl,cu ?_ ?_⟩⟩
     . rcases c1 with y|y|y|y<;>(rw[y];decide +kernel)
     rw[hsd]at ht';exact⟨_,rfl,t,_,_,_,rfl,rfl,SqT.of ((e1.trans (af h2)) _ _ ht'),rfl,k _ (e1.trans (af h2))⟩
def AJ (w:Nt) (CH CR CS F N:K'):Sp:=λvs H Q E=>∃ (z:HA) (sa:SA) (p:RP) (n:Nat) (aw:List Int) (m:Mem) (rs:Bool->List Wr),vs=[.ref z.h]/\Hn CH CR H z sa.x p n aw/\StT w CS H sa m rs/\p.Ok/\n <= 9 /\
 if bj p m (rs D') .asked .taken=p.s then E (.ref F) Nf H else match cO n aw with|none=>E (.ref N) Nf H|some _=>Q .non H
def AQ (w:Nt) (CT CR CS F N:K'):Sp:=λvs H Q E=>∃ (z:TA') (sa:SA) (p:RP) (ts:List Int) (m:Mem) (rs:Bool->List Wr) (nm:Int),vs=[.ref z.h,.int nm]/\Tn CT CR H z sa.x p ts/\StT w CS H sa m rs/\p.Ok /\
 if ts.contains nm=D' then E (.ref N) Nf H else if bj p m (rs G') .answered .handed=p.s then E (.ref F) Nf H else Q .non H
def Ii {w:Nt}{CH CR CS F N:K'}{vs:List V}{H:Hp}{Q:VK}{E:XK}(h:AJ w CH CR CS F N vs H Q E):yA w CH CR CS F N vs H Q E:=by
 obtain⟨z,sa,p,n,aw,m,rs,rfl,hn,⟨M,r,S,R,P⟩,hp,n9,k⟩:=h;exact⟨z,sa,p,n,aw,M,r,rdC m (rs D') .asked,rdC m (rs D') .taken,rfl,hn,S,hp,n9,cA R (P D') .asked,cA R (P D') .taken,k⟩
def Ho {w:Nt}{CT CR CS F N:K'}{vs:List V}{H:Hp}{Q:VK}{E:XK}(h:AQ w CT CR CS F N vs H Q E):vY w CT CR CS F N vs H Q E:=by
 obtain⟨z,sa,p,ts,m,rs,nm,rfl,hn,⟨M,r,S,R,P⟩,hp,k⟩:=h;exact⟨z,sa,p,ts,M,r,rdC m (rs G') .answered,rdC m (rs G') .handed,nm,rfl,hn,S,hp,cA R (P G') .answered,cA R (P G') .handed,k⟩
def rfC (a:Ad):Rf->K'
|.deed=>a.iG
|.full=>a.wN
|.name=>a.gU
|.task=>a.hG
def CO (w:Nt) (ad:Ad):Sp:=λvs H Q E=>∃ (a:YA) (q:YP) (S:YS) (x:Dd) (t:K'),vs=[.ref a.y,.ref t]/\Yn w ad.aY ad.c9 ad.aM ad.bB ad.aD H a q S/\q.Ok/\H t=f' (.tup x.vs)/\x.Ok /\
 ∀ H',bq H H'->match x.chk q S with|none=>Q .non H'|some r=>E (.ref (rfC ad r)) Nf H'
def BD (w:Nt) (ad:Ad):Sp:=λvs H Q _=>∃ (a:YA) (q:YP) (S:YS) (x:Dd) (t:K'),vs=[.ref a.y,.ref t]/\Yn w ad.aY ad.c9 ad.aM ad.bB ad.aD H a q S/\q.Ok/\H t=f' (.tup x.vs)/\x.Ok /\
 ∀ H',bq H H'->Q (.bl (x.chk q S).isNone) H'
def Hv {f:Bool->Bd}(b:Bool):atI [V.str (f D').key,V.str (f G').key] (sdI b)=f' (.str (f b).key):=by cases b<;>rfl
def KU {f:Bool->Bool}(b:Bool):atI [V.bl (f D'),V.bl (f G')] (sdI b)=f' (.bl (f b)):=by cases b<;>rfl
def uW (G:Gs K mg a d):FnOk P w K mg base (CXv P w) 8 a.eO d.eO ["self","some"] (CO w a):=by
 have UD:FnOk P w K mg base CX0 3 _ _ _ _:=CB G;have U2:FnOk P w K mg base CX0 1 _ _ _ _:=Ht G;have Ue:FnOk P w K mg base CX0 1 _ _ _ _:=(oW G).imp λvs H Q E=>yU
 have U8:FnOk P w K mg base (CXv P w) 6 _ _ _ _:=(zq G).imp λvs H Q E=>Ii
 have U':FnOk P w K mg base (CXv P w) 6 _ _ _ _:=(vD G).imp λvs H Q E=>Ho
 refine G.vP.okX (k:=7) uo (λvs H Q E h=>?_) (λcdv A' outer s' H vs Q E hr hR h=>?_)
 . obtain⟨y,q,S,x,t,rfl,_⟩:=h;rfl
 . obtain⟨y,q,S,x,t,rfl,Y,qo,ht,hx,k⟩:=h;have hu:=bU hr;refine⟨_,((aI (eI (bP (au UD (hr.mono (by decide)) (by rfl) G.Cs G.wJ.kp G.C9 .nil aq ((pv 1)∣aa)))) (@ao _ _ _ (iX hR hr.hd (by rfl) G.ml G.xc_NoDeed (aj∣aa))) am)∪((aI (ar cp (@az _ _ _ _ _ _ _ aF (pv 1) ag (λ_ _=>rfl)) aj (ay _)) ((aI (eI (mG (av (ak (pv 0) rfl) G.aG G.cZ Ue (hr.mono (by decide)) G.ez .nil aq ((@az _ _ _ _ _ _ _ aF (pv 1) ag (λ_ _=>rfl))∣aa)) (λ_=>rfl))) (@ao _ _ _ (iX hR hr.hd (by rfl) G.ml G.xc_NoDeed (aj∣aa))) am)∪(@ao _ _ _ Ha)) am)∪((aI (ar oQ (@az _ _ _ _ _ _ _ aC (ak (pv 0) rfl) (au U2 (hr.mono (by decide)) (by rfl) G.C8 G.vH.kp G.Cc .nil aq ((pv 1)∣aa)) (λ_ _=>rfl)) (fX (ar cp (@az _ _ _ _ _ _ _ aF (pv 1) ag (λ_ _=>rfl)) aj (ay _)) aj aj) (ay _)) (@ao _ _ _ (iX hR hr.hd (by rfl) G.ml G.xc_NoDeed (aj∣aa))) am)∪((aI (ar cp (@az _ _ _ _ _ _ _ aF (pv 1) ag (λ_ _=>rfl)) aj (ay _)) (@ao _ _ _ (@aL _ _ _ _ (aS (ak (pv 0) rfl) G.bS G.iH U8 (hr.mono (by decide)) G.jM .nil hR.passes) (by rfl))) am)∪(@ao _ _ _ (aI (ar cp (@az _ _ _ _ _ _ _ aF (pv 1) ag (λ_ _=>rfl)) aj (ay _)) (@ao _ _ _ (@aL _ _ _ _ (av (ak (pv 0) rfl) G.bL G.fE U' (hr.mono (by decide)) G.fO .nil hR.passes ((@az _ _ _ _ _ _ _ aF (pv 1) ag (λ_ _=>rfl))∣aa)) (by rfl))) am)))))),?_⟩;have ht':H t=f' (.tup (.str x.word :: x.args.map V.int)):=by rw[<-x.vs_eq];exact ht
   refine⟨_,rfl,t,x,rfl,ht,hx,λH1 e1=>⟨_,rfl,cW ?_⟩⟩;have Y1:=Y.same e1;have ht1:=e1 _ _ ht';refine⟨_,rfl,t,_,_,_,rfl,rfl,SqT.of ht1,aP,rfl,_,rfl,?_⟩;by_cases hd:∃ b,x=.drain b
   . obtain⟨b,rfl⟩:=hd;refine iy (Vf rfl) ?_;refine⟨_,rfl,gg Y1.ob G.al G.b7 fZ (dX Y1.x.st.ob (cr (by decide +kernel) (by decide +kernel)) ?_)⟩;refine⟨_,rfl,t,_,_,_,rfl,rfl,SqT.of ht1,rfl,y.sa,S.m,S.rs,b,rfl,Y1.x.st,λp2 ts hp2 dv=>?_⟩;have e2:=af (o:=.lst ts) hp2;have hl:=gm dv;rw[Nu]at hl;refine⟨!ts.isEmpty,.inl ⟨_,SqL.of a8,rfl⟩,?_⟩;have k2:=k _ (e1.trans e2);cases hrs:S.rs b with
    |nil =>
      rw[hrs]at hl;have:ts=[]:=Ot.mp hl;subst this;rw[show (Dd.drain b).chk q S=f' .deed from Vc hrs]at k2;exact fP ⟨by show 1 <= Nl;decide,k2⟩
    |cons r ck =>
      rw[hrs]at hl;have:ts.isEmpty=D':=by cases ts with|nil=>cases hl|cons=>rfl
      rw[this];rw[show (Dd.drain b).chk q S=Nf from Vd (by rw[hrs];exact λy=>by cases y)]at k2;exact cW k2
   . have hnd:∀ b,x≠.drain b:=λb e=>hd ⟨b,e⟩
     refine cu (by rw[Ve];exact sne λy=>hd ((x.word_drain).mp y)) ?_;refine⟨_,rfl,gg Y1.ob G.al G.aZ cF ?_⟩;refine⟨_,rfl,t,x,rfl,e1 _ _ ht,λH2 e2=>?_⟩;have Y2:=Y1.same e2;have ht2:=e2 _ _ ht1;refine⟨y.sl,_,_,_,rfl,rfl,SqL.of Y2.sl,Hv x.side,?_⟩;refine⟨_,rfl,t,_,_,_,rfl,rfl,SqT.of ht2,aP,rfl,_,rfl,?_⟩;have e3:=e1.trans e2;have bad:∀ {X:Prop},S.bd x.side≠x.need->E (.ref a.iG) Nf H2:=λ{X} hb=>by
      have k2:=k H2 e3;rw[Dd.chk_bed hnd hb]at k2;exact k2
     rcases x.word_look with⟨hw,hn,b,rfl⟩|⟨hw,hn⟩
     . refine iy (Vf (by rw[hw])) ⟨rfl,_,rfl,?_⟩;by_cases hb:S.bd (Dd.look b).side=(Dd.look b).need
       . refine cu (by rw[hb,hn];decide +kernel) ?_;refine⟨_,rfl,t,_,_,_,rfl,rfl,SqT.of ht2,aP,rfl,_,rfl,cu (by rw[Ve];exact sne (show ¬ (("look":Str)="ask") by decide +kernel)) ?_⟩;refine⟨_,rfl,t,_,_,_,rfl,rfl,SqT.of ht2,aP,rfl,_,rfl,cu (by rw[Ve];exact sne (show ¬ (("look":Str)="answer") by decide +kernel)) ?_⟩;have k2:=k H2 e3;rw[show (Dd.look b).chk q S=Nf from Vc hb]at k2;exact k2
       . refine iy ?_ ⟨by show 1 <= Nl;decide,bad (X:=True) hb⟩;have:=Ie hb;rw[hn]at this;rw[Pu,decide_eq_false_iff_not];exact this
     . refine cu (by rw[Ve];exact sne hw) ⟨rfl,_,rfl,?_⟩;by_cases hb:S.bd x.side=x.need
       . refine cu (by rw[hb,hn];decide +kernel) ?_;rcases x.word_aa with⟨wt,rfl⟩|⟨nm,wt,rfl⟩|⟨h1,h2,h3⟩
         . refine⟨_,rfl,t,_,_,_,rfl,rfl,SqT.of ht2,aP,rfl,_,rfl,iy (Vf rfl) ?_⟩;refine⟨_,rfl,gg Y2.ob G.al G.fC ue (dX Y2.x.hn.ob yq ⟨y.z,y.sa,q.p,q.n,S.un,S.m,S.rs,rfl,Y2.x.hn,Y2.x.st,qo.ok,qo.n9,?_⟩)⟩;have k2:=k H2 e3;rw[show (Dd.ask wt).chk q S=_ from Vc hb]at k2;by_cases hc:bj q.p S.m (S.rs D') .asked .taken=q.p.s
           . rw[Vc hc]at k2 |-;exact k2
           . rw[Vd hc]at k2 |-;cases hl:cO q.n S.un with
            |none=>rw[hl]at k2;exact k2
            |some nm =>
              rw[hl]at k2;exact⟨_,rfl,t,_,_,_,rfl,rfl,SqT.of ht2,aP,rfl,_,rfl,cu (by rw[Ve];exact sne (show ¬ (("ask":Str)="answer") by decide +kernel)) k2⟩
         . refine⟨_,rfl,t,_,_,_,rfl,rfl,SqT.of ht2,aP,rfl,_,rfl,cu (by rw[Ve];exact sne (show ¬ (("answer":Str)="ask") by decide +kernel)) ?_⟩;refine⟨_,rfl,t,_,_,_,rfl,rfl,SqT.of ht2,aP,rfl,_,rfl,iy (Vf rfl) ?_⟩;refine⟨_,rfl,gg Y2.ob G.al G.cQ mM (dX Y2.x.tn.ob z9 ⟨_,rfl,t,_,_,_,rfl,rfl,SqT.of ht2,rfl,y.zt,y.sa,q.p,S.tk,S.m,S.rs,nm,rfl,Y2.x.tn,Y2.x.st,qo.ok,?_⟩)⟩;have k2:=k H2 e3;rw[show (Dd.answer nm wt).chk q S=_ from Vc hb]at k2;by_cases h0:S.tk.contains nm=D'
           . rw[Vc h0]at k2 |-;exact k2
           . rw[Vd h0]at k2 |-;by_cases hc:bj q.p S.m (S.rs G') .answered .handed=q.p.s
             . rw[Vc hc]at k2 |-;exact k2
             . rw[Vd hc]at k2 |-;exact k2
         . refine⟨_,rfl,t,_,_,_,rfl,rfl,SqT.of ht2,aP,rfl,_,rfl,cu (by rw[Ve];exact sne h1) ?_⟩;refine⟨_,rfl,t,_,_,_,rfl,rfl,SqT.of ht2,aP,rfl,_,rfl,cu (by rw[Ve];exact sne h2) ?_⟩;have k2:=k H2 e3;rw[h3 q S hnd hb]at k2;exact k2
       . refine iy ?_ ⟨by show 1 <= Nl;decide,bad (X:=True) hb⟩;have:=Ie hb;rw[hn]at this;rw[Pu,decide_eq_false_iff_not];exact this
def Cg (G:Gs K mg a d):FnOk P w K mg base CX0 10 a.bF d.bF ["self","some"] (BD w a):=by
 have Va:FnOk P w K mg base (CXv P w) 8 _ _ _ _:=uW G;refine G.nO.ok my (λvs H Q E h=>?_) (λcdv A' outer s' H vs Q E hr h=>?_)
 . obtain⟨y,q,S,x,t,rfl,_⟩:=h;rfl
 . obtain⟨y,q,S,x,t,rfl,Y,qo,ht,hx,k⟩:=h;have hu:=bU hr;refine⟨_,((Ca ⟨rfl,rfl,rfl⟩ (λP2 R=>by exact(@ao _ _ _ (@aL _ _ _ _ (tf rfl (pv 0) G.al G.mF Va (hr.mono (by decide)) G.o5 .nil ((pv 1)∣aa)) (by rfl)))) (jq ⟨rfl,rfl,rfl⟩ (by rfl) G.xf (λe=>by exact(eG⁻¹)) C4))∪(eG⁻¹)),?_⟩;refine⟨λσ' cls H'=>bq H H'/\x.chk q S≠Nf/\Og K cls (.ref a.iD)=f' G',?_,?_⟩
   . refine⟨_,rfl,dX Y.ob (eN (by decide +kernel)) ⟨_,rfl,y,q,S,x,t,rfl,Y,qo,ht,hx,λH1 e1=>?_⟩⟩;cases hc:x.chk q S with
    |none =>
      have k1:=k H1 e1;rw[hc]at k1;exact k1
    |some r =>
      refine⟨e1,(λy=>by cases y),?_⟩;cases r
      . exact G.Mn
      . exact G.MF
      . exact G.MV
      . exact G.MH
   . rintro σ' cls H' ⟨e1,hc,em⟩;have k1:=k H' e1;cases hc':x.chk q S with
    |none=>exact absurd hc' hc
    |some r =>
      rw[hc']at k1;exact⟨G',em,k1⟩
def LL (s R:Int) (n:Nat) (fs:List Str):YP:=⟨⟨s,if fs.contains "round" then 1 else R,fs.contains "counter"⟩,n,!fs.contains "bell",!fs.contains "lie",!fs.contains "look"⟩
def DW (w:Nt) (ad:Ad):Sp:=λvs H Q _=>∃ (y dx ft:K') (s R:Int) (n:Nat) (fs:List Str),vs=[.ref y,.int s,.int R,.int n,.ref ft]/\H y=f' (.ins ad.aY dx [])/\H ft=f' (.tup (fs.map V.str)) /\
 ∀ (a:YA) (H':Hp),a.y=y->(∀ c,a.own c->c≠y->H c=Nf)->Yn w ad.aY ad.c9 ad.aM ad.bB ad.aD H' a (LL s R n fs) YS.zero->Kp [y] H H'->Q .non H'
def Hs (w:Nt) (ad:Ad):Sp:=λvs H Q _=>∃ (a:YA) (q:YP) (S:YS),vs=[.ref a.y]/\Yn w ad.aY ad.c9 ad.aM ad.bB ad.aD H a q S/\∀ t,H t=Nf->Q (.ref t) (upd H t (.tup [.int q.p.s,.int q.p.R]))
def Fk (w:Nt) (ad:Ad):Sp:=λvs H Q _=>∃ (a:YA) (q:YP) (S:YS),vs=[.ref a.y]/\Yn w ad.aY ad.c9 ad.aM ad.bB ad.aD H a q S/\∀ l ts,H l=Nf->DVs H S.hs ts->Q (.ref l) (upd H l (.lst ts))
def Ay (w:Nt) (ad:Ad):Sp:=λvs H Q _=>∃ (a:YA) (q:YP) (S:YS) (b:Bool),vs=[.ref a.y,.int (sdI b)]/\Yn w ad.aY ad.c9 ad.aM ad.bB ad.aD H a q S/\Q (.str (S.bd b).key) H
def Ak (w:Nt) (ad:Ad):Sp:=λvs H Q _=>∃ (a:YA) (q:YP) (S:YS) (b:Bool),vs=[.ref a.y,.int (sdI b)]/\Yn w ad.aY ad.c9 ad.aM ad.bB ad.aD H a q S/\Q (.bl (S.qt b)) H
def C5 (w:Nt) (ad:Ad):Sp:=λvs H Q _=>∃ (a:YA) (q:YP) (S:YS),vs=[.ref a.y]/\Yn w ad.aY ad.c9 ad.aM ad.bB ad.aD H a q S/\Q (.ref a.sa.x) H
def HC (G:Gs K mg a d):FnOk P w K mg base CX0 1 a.gh d.gh ["self"] (Hs w a):=by
 refine G.x4.ok wo (λvs H Q E h=>?_) (λcdv A' outer s' H vs Q E hr h=>?_)
 . obtain⟨y,q,S,rfl,_⟩:=h;rfl
 . obtain⟨y,q,S,rfl,Y,k⟩:=h;refine⟨_,((@bi _ _ _ _ _ ((ak (pv 0) rfl)∣((ak (pv 0) rfl)∣aa)))⁻¹),?_⟩;exact⟨_,rfl,gg Y.ob G.al G.o8 Iv ⟨_,rfl,gg Y.ob G.al G.lE Bb ⟨l2,λt ht=>k t ht⟩⟩⟩
def uC (G:Gs K mg a d):FnOk P w K mg base CX0 1 a.eP d.eP ["self"] (Fk w a):=by
 refine G.wG.ok uq (λvs H Q E h=>?_) (λcdv A' outer s' H vs Q E hr h=>?_)
 . obtain⟨y,q,S,rfl,_⟩:=h;rfl
 . obtain⟨y,q,S,rfl,Y,k⟩:=h;refine⟨_,((aR oq (by rfl) G.Gi BZ ((ak (pv 0) rfl)∣aa))⁻¹),?_⟩;obtain⟨ts,h1,h2⟩:=Y.hp;exact⟨_,rfl,gg Y.ob G.al G.ci jk ⟨y.hp,ts,rfl,.inl (SqL.of h1),λl hl=>k l ts hl h2⟩⟩
def zI (G:Gs K mg a d):FnOk P w K mg base CX0 1 a.cy d.cy ["self","side"] (Ay w a):=by
 refine G.rn.ok pR (λvs H Q E h=>?_) (λcdv A' outer s' H vs Q E hr h=>?_)
 . obtain⟨y,q,S,b,rfl,_⟩:=h;rfl
 . obtain⟨y,q,S,b,rfl,Y,k⟩:=h;refine⟨_,((@az _ _ _ _ _ _ _ aC (ak (pv 0) rfl) (pv 1) (λ_ _=>rfl))⁻¹),?_⟩;exact⟨_,rfl,gg Y.ob G.al G.aZ cF ⟨_,rfl,y.sl,_,_,_,rfl,rfl,SqL.of Y.sl,Hv b,k⟩⟩
def Av (G:Gs K mg a d):FnOk P w K mg base CX0 1 a.bX d.bX ["self","side"] (Ak w a):=by
 refine G.qF.ok oN (λvs H Q E h=>?_) (λcdv A' outer s' H vs Q E hr h=>?_)
 . obtain⟨y,q,S,b,rfl,_⟩:=h;rfl
 . obtain⟨y,q,S,b,rfl,Y,k⟩:=h;refine⟨_,((@az _ _ _ _ _ _ _ aC (ak (pv 0) rfl) (pv 1) (λ_ _=>rfl))⁻¹),?_⟩;exact⟨_,rfl,gg Y.ob G.al G.eE pj ⟨_,rfl,y.qu,_,_,_,rfl,rfl,SqL.of Y.qu,KU b,k⟩⟩
def mI (G:Gs K mg a d):FnOk P w K mg base CX0 1 a.f7 d.f7 ["self"] (C5 w a):=by
 refine G.wA.ok uH (λvs H Q E h=>?_) (λcdv A' outer s' H vs Q E hr h=>?_)
 . obtain⟨y,q,S,rfl,_⟩:=h;rfl
 . obtain⟨y,q,S,rfl,Y,k⟩:=h;refine⟨_,((ak (pv 0) rfl)⁻¹),?_⟩;exact⟨_,rfl,gg Y.ob G.al G.b7 fZ k⟩
def xX (G:Gs K mg a d):FnOk P w K mg base CX0 6 a.ff d.ff ["self","size","rounds","names","faults"] (DW w a):=by
 have U1:FnOk P w K mg base CX0 1 _ _ _ _:=yE G;have T9:FnOk P w K mg base CX0 1 _ _ _ _:=(GY G).imp λvs H Q E=>L4
 have Tw:FnOk P w K mg base CX0 4 _ _ _ _:=FK G;have TC:FnOk P w K mg base CX0 4 _ _ _ _:=Fh G;refine G.vN.ok tS (λvs H Q E h=>?_) (λcdv A' outer s' H vs Q E hr h=>?_)
 . obtain⟨y,dx,ft,s,R,n,fs,rfl,_⟩:=h;rfl
 . obtain⟨y,dx,ft,s,R,n,fs,rfl,hx,hf,k⟩:=h;have hu:=bU hr;refine⟨_,((bo (pv 0) (pv 1) rfl)∪((bo (pv 0) (au U1 (hr.mono (by decide)) (by rfl) G.m8 G.je.kp G.mi .nil aq ((pv 2)∣((pv 4)∣aa))) rfl)∪((bo (pv 0) (aR fW (by rfl) G.kX gW ((pv 4)∣aa)) rfl)∪((bo (pv 0) (pp G.Hc T9 (hr.mono (by decide)) (by rfl) G.GO G.uQ .nil aq) rfl)∪((bo (pv 0) (kG G.JO Tw (hr.mono (by decide)) (by rfl) G.JS G.vb .nil aq ((ak (pv 0) rfl)∣((pv 1)∣((pv 2)∣((pv 3)∣((pv 4)∣aa)))))) rfl)∪((bo (pv 0) (kG G.GV TC (hr.mono (by decide)) (by rfl) G.HK G.uB .nil aq ((ak (pv 0) rfl)∣((pv 1)∣((pv 2)∣((pv 4)∣aa))))) rfl)∪((bo (pv 0) (cc l5 aj (pv 4) (by with_unfolding_all rfl)) rfl)∪((bo (pv 0) (cc l5 aj (pv 4) (by with_unfolding_all rfl)) rfl)∪((bo (pv 0) (cc l5 aj (pv 4) (by with_unfolding_all rfl)) rfl)∪((bo (pv 0) (@bG _ _ _ _ (aj∣(aj∣aa))) rfl)∪((bo (pv 0) (@bG _ _ _ _ (eG∣(eG∣aa))) rfl)∪(@ao _ _ _ (bo (pv 0) (@bG _ _ _ _ aa) rfl))))))))))))),?_⟩;refine⟨_,rfl,_,rfl,y,a.aY,dx,[],rfl,hx,G.al,G.o8,by decide,?_⟩;have fy:ft≠y:=λz=>by rw[z,hx]at hf;cases hf
   refine⟨_,rfl,_,rfl,R,ft,fs,rfl,by rw[ae fy];exact hf,_,rfl,y,a.aY,dx,_,rfl,a8,G.al,G.lE,by show 1 < 1000;decide,?_⟩;rw[fc];refine⟨_,rfl,ft,_,rfl,.inr ⟨SqT.of (by rw[ae fy];exact hf),?_⟩⟩;refine⟨_,rfl,y,a.aY,dx,_,rfl,a8,G.al,G.r9,by show 2 < 1000;decide,?_⟩;rw[fc];generalize hF3:bp "faults" (.ref ft) (bp "rounds" (.int (if fs.contains "round" then 1 else R)) (bp "size" (.int s) []))=F3;have hl3:F3.length=3:=by rw[<-hF3];rfl
   have kp3:Kp [y] H (upd H y (.ins a.aY dx F3)):=Kp.one;have hx3:upd H y (.ins a.aY dx F3) y=f' (.ins a.aY dx F3):=a8;have hf3:upd H y (.ins a.aY dx F3) ft=f' (.tup (fs.map V.str)):=by rw[ae fy];exact hf
   generalize upd H y (.ins a.aY dx F3)=H3 at kp3 hx3 hf3 |-;have up:∀ {Hi:Hp} {F:List (Str × V)} {c:K'} {o:HO},c≠y->Hi c=f' o->upd Hi y (.ins a.aY dx F) c=f' o:=λn e=>by rw[ae n];exact e
   have nn:∀ {Hi:Hp} {F:List (Str × V)} {c:K'},Hi y=f' (.ins a.aY dx F)->Hi c=Nf->c≠y:=λe h z=>by rw[z,e]at h;cases h
   intro x dxs nx ndx nex;refine⟨x,dxs,rfl,a8,λsa H4 hsx fsa S4 kp4=>⟨rfl,?_⟩⟩;have e4:=l8 nx ndx kp4;have fs4:∀ c,sa.own c->H3 c=Nf:=λc hc=>by
    by_cases z:c=x
    . rw[z];exact nx
    . exact(up1 (up1 (fsa c hc z)).2).2
   subst hsx;refine⟨_,rfl,y,a.aY,dx,F3,rfl,e4 _ _ hx3,G.al,G.b7,by rw[hl3];decide,?_⟩;clear kp4 nx ndx nex fsa;have S5:StT w a.aD (upd H4 y (.ins a.aY dx (bp "shelf" (.ref sa.x) F3))) sa Mem.zero λ_=>[]:=S4.keep (λc o hc e=>up (nn hx3 (fs4 c hc)) e) λb vs e=>up (λz=>by rw[z,e4 _ _ hx3]at e;cases e) e
   have kp5:Kp [y] H3 (upd H4 y (.ins a.aY dx (bp "shelf" (.ref sa.x) F3))):=λc o n e=>up (λz=>n (Nd.mpr z)) (e4 _ _ e)
   have hx5:upd H4 y (.ins a.aY dx (bp "shelf" (.ref sa.x) F3)) y=f' (.ins a.aY dx (bp "shelf" (.ref sa.x) F3)):=a8;have hf5:upd H4 y (.ins a.aY dx (bp "shelf" (.ref sa.x) F3)) ft=f' (.tup (fs.map V.str)):=up fy (e4 _ _ hf3);generalize upd H4 y (.ins a.aY dx (bp "shelf" (.ref sa.x) F3))=H5 at S5 kp5 hx5 hf5 |-;clear S4 e4;refine⟨_,rfl,gg ⟨dx,hx5⟩ G.al G.b7 (v:=.ref sa.x) (by rw[a9,Vc rfl]) ⟨_,rfl,_,rfl,_,rfl,_,rfl,?_⟩⟩;intro h dh nh ndh neh;refine⟨h,dh,sa.x,ft,s,R,n,fs,rfl,a8,?_,λz H6 hz g1 g2 g3 hn6 kp6=>⟨rfl,?_⟩⟩
   . rw[ae (ac hf5 nh),ae (ac hf5 ndh)];exact hf5
   have e6:=l8 nh ndh kp6;have fz:∀ c,z.own c->H5 c=Nf:=λc h2=>by
    rcases h2 with y|y|y|y
    . rw[y,hz];exact nh
    . rw[y];exact(up1 (up1 g1).2).2
    . rw[y];exact(up1 (up1 g2).2).2
    . rw[y];exact(up1 (up1 g3).2).2
   subst hz;refine⟨_,rfl,y,a.aY,dx,_,rfl,e6 _ _ hx5,G.al,G.fC,?_,?_⟩
   . rw[<-hF3];show 4 < 1000;decide
   generalize hF7:bp "hand" (.ref z.h) (bp "shelf" (.ref sa.x) F3)=F7;have S7:StT w a.aD (upd H6 y (.ins a.aY dx F7)) sa Mem.zero λ_=>[]:=(S5.same e6).keep (λc o hc e=>up (nn hx3 (fs4 c hc)) e) λb vs e=>up (λz=>by rw[z,e6 _ _ hx5]at e;cases e) e
   have hn7:Hn a.c9 a.bB (upd H6 y (.ins a.aY dx F7)) z sa.x ⟨s,if fs.contains "round" then 1 else R,fs.contains "counter"⟩ n []:=hn6.keep λc o hc e=>up (nn hx5 (fz c hc)) e
   have kp7:Kp [y] H5 (upd H6 y (.ins a.aY dx F7)):=λc o n e=>up (λz=>n (Nd.mpr z)) (e6 _ _ e)
   have hx7:upd H6 y (.ins a.aY dx F7) y=f' (.ins a.aY dx F7):=a8;have hf7:upd H6 y (.ins a.aY dx F7) ft=f' (.tup (fs.map V.str)):=up fy (e6 _ _ hf5);generalize upd H6 y (.ins a.aY dx F7)=H7 at S7 hn7 kp7 hx7 hf7 |-;clear kp6 nh ndh neh g1 g2 g3 S5 hn6 e6;refine⟨_,rfl,gg ⟨dx,hx7⟩ G.al G.b7 (v:=.ref sa.x) (by rw[<-hF7,a9,Vd (by decide +kernel),a9,Vc rfl]) ⟨_,rfl,_,rfl,_,rfl,?_⟩⟩;intro h dh nh ndh neh;refine⟨h,dh,sa.x,ft,s,R,fs,rfl,a8,?_,λzt H8 hz g1 g2 g3 tn8 kp8=>⟨rfl,?_⟩⟩
   . rw[ae (ac hf7 nh),ae (ac hf7 ndh)];exact hf7
   have e8:=l8 nh ndh kp8;have fzt:∀ c,zt.own c->H7 c=Nf:=λc h2=>by
    rcases h2 with y|y|y|y
    . rw[y,hz];exact nh
    . rw[y];exact(up1 (up1 g1).2).2
    . rw[y];exact(up1 (up1 g2).2).2
    . rw[y];exact(up1 (up1 g3).2).2
   subst hz;have dz:∀ c,z.own c->¬ zt.own c:=λc h1 h2=>by
    obtain⟨o,e,_⟩:=hn7.there h1;rw[fzt c h2]at e;cases e
   refine⟨_,rfl,y,a.aY,dx,_,rfl,e8 _ _ hx7,G.al,G.cQ,?_,?_⟩
   . rw[<-hF7,<-hF3];show 5 < 1000;decide
   have hf9:∀ F,upd H8 y (.ins a.aY dx F) ft=f' (.tup (fs.map V.str)):=λF=>up fy (e8 _ _ hf7)
   refine⟨_,rfl,ft,_,rfl,.inr (SqT.of (hf9 _)),rfl,bE fs,?_⟩;refine⟨_,rfl,y,a.aY,dx,_,rfl,a8,G.al,G.gE,?_,?_⟩
   . rw[<-hF7,<-hF3];show 6 < 1000;decide
   rw[fc];refine⟨_,rfl,ft,_,rfl,.inr (SqT.of (hf9 _)),rfl,bE fs,?_⟩;refine⟨_,rfl,y,a.aY,dx,_,rfl,a8,G.al,G.gX,?_,?_⟩
   . rw[<-hF7,<-hF3];show 7 < 1000;decide
   rw[fc];refine⟨_,rfl,ft,_,rfl,.inr (SqT.of (hf9 _)),rfl,bE fs,?_⟩;refine⟨_,rfl,y,a.aY,dx,_,rfl,a8,G.al,G.iL,?_,?_⟩
   . rw[<-hF7,<-hF3];show 8 < 1000;decide
   rw[fc];simp only[if_true,eL];generalize hF9:bp "look_sees" (V.bl (!fs.contains "look")) (bp "lie_fences" (V.bl (!fs.contains "lie")) (bp "bell_fences" (V.bl (!fs.contains "bell")) (bp "heart" (V.ref zt.h) F7)))=F9;have hl9:F9.length=9:=by rw[<-hF9,<-hF7,<-hF3];rfl
   have S9:StT w a.aD (upd H8 y (.ins a.aY dx F9)) sa Mem.zero λ_=>[]:=(S7.same e8).keep (λc o hc e=>up (nn hx3 (fs4 c hc)) e) λb vs e=>up (λz=>by rw[z,e8 _ _ hx7]at e;cases e) e
   have hn9:=(hn7.same e8).keep (H':=upd H8 y (.ins a.aY dx F9)) λc o hc e=>up (nn hx5 (fz c hc)) e
   have tn9:=Tn.keep (H':=upd H8 y (.ins a.aY dx F9)) tn8 λc o hc e=>up (nn hx7 (fzt c hc)) e
   have kp9:Kp [y] H7 (upd H8 y (.ins a.aY dx F9)):=λc o n e=>up (λz=>n (Nd.mpr z)) (e8 _ _ e)
   have hx9:upd H8 y (.ins a.aY dx F9) y=f' (.ins a.aY dx F9):=a8;generalize upd H8 y (.ins a.aY dx F9)=H9 at S9 hn9 tn9 kp9 hx9 |-;clear kp8 nh ndh neh g1 g2 g3 S7 hn7 e8 tn8 hf9;have X9:X5 w a.c9 a.aM a.bB a.aD H9 z zt sa ⟨s,if fs.contains "round" then 1 else R,fs.contains "counter"⟩ n Mem.zero (λ_=>[]) [] []:=⟨hn9,tn9,S9,dz⟩
   clear S9 hn9 tn9;have kpA:Kp [y] H H9:=kp3.trans (kp5.trans (kp7.trans kp9));have ow:∀ c,zA z zt sa c->H3 c=Nf:=λc hc=>by
    rcases hc with hc|hc|hc
    . exact gn kp5 (fz c hc) λx mx=>by rw[Nd.mp mx,hx5];exact λz=>by cases z
    . exact gn (kp5.trans kp7) (fzt c hc) λx mx=>by rw[Nd.mp mx,hx7];exact λz=>by cases z
    . exact fs4 c hc
   have owH:∀ c,zA z zt sa c->H c=Nf:=λc hc=>gn kp3 (ow c hc) λx mx=>by rw[Nd.mp mx,hx3];exact λz=>by cases z
   have owy:¬ zA z zt sa y:=λhc=>by have:=ow y hc;rw[hx3]at this;cases this
   clear kp3 kp5 kp7 kp9 fs4 fz fzt;have stp:∀ {Hi:Hp} {Fi F':List (Str × V)} {l:K'} {o:HO},Hi y=f' (.ins a.aY dx Fi)->Hi l=Nf->(∀ c u,c≠y->Hi c=f' u->upd (upd Hi l o) y (.ins a.aY dx F') c=f' u)/\upd (upd Hi l o) y (.ins a.aY dx F') l=f' o/\upd (upd Hi l o) y (.ins a.aY dx F') y=f' (.ins a.aY dx F'):=λ{Hi Fi F' l o} hy hl =>
    ⟨λc u n e=>up n (by rw[ae (ac e hl)];exact e),up (nn hy hl) a8,a8⟩
   have kx:∀ {Hi Hj:Hp},(∀ c u,c≠y->Hi c=f' u->Hj c=f' u)->(∃ F,Hi y=f' (.ins a.aY dx F))->X5 w a.c9 a.aM a.bB a.aD Hi z zt sa ⟨s,if fs.contains "round" then 1 else R,fs.contains "counter"⟩ n Mem.zero (λ_=>[]) [] []->X5 w a.c9 a.aM a.bB a.aD Hj z zt sa ⟨s,if fs.contains "round" then 1 else R,fs.contains "counter"⟩ n Mem.zero (λ_=>[]) [] []:=λ{Hi Hj} kk ⟨F,hy⟩ X=>X.keep (λc o hc e=>kk c o (λy'=>owy (by rw[<-y'];exact hc)) e) λb vs e=>kk b _ (λy'=>by rw[y',hy]at e;cases e) e
   refine⟨l2,λsl hsl=>⟨_,rfl,y,a.aY,dx,F9,rfl,(by rw[ae (ac hx9 hsl)];exact hx9),G.al,G.aZ,by rw[hl9];decide,?_⟩⟩;obtain⟨a1,a2,a3⟩:=stp (F':=bp "sleepers" (.ref sl) F9) (o:=.lst [V.str "up",V.str "up"]) hx9 hsl;generalize upd (upd H9 sl (.lst [V.str "up",V.str "up"])) y (.ins a.aY dx (bp "sleepers" (.ref sl) F9))=H10 at a1 a2 a3 |-;have X10:=kx a1 ⟨_,hx9⟩ X9;refine⟨l2,λqu hqu=>⟨_,rfl,y,a.aY,dx,_,rfl,(by rw[ae (ac a3 hqu)];exact a3),G.al,G.eE,?_,?_⟩⟩
   . rw[<-hF9,<-hF7,<-hF3];show 10 < 1000;decide
   obtain⟨b1,b2,b3⟩:=stp (F':=bp "quiet" (.ref qu) (bp "sleepers" (.ref sl) F9)) (o:=.lst [V.bl G',V.bl G']) a3 hqu;generalize upd (upd H10 qu (.lst [V.bl G',V.bl G'])) y (.ins a.aY dx (bp "quiet" (.ref qu) (bp "sleepers" (.ref sl) F9)))=H11 at b1 b2 b3 |-;have X11:=kx b1 ⟨_,a3⟩ X10;have b4:=b1 _ _ (nn hx9 hsl) a2;refine⟨DP,λhp hhp=>⟨_,rfl,y,a.aY,dx,_,rfl,(by rw[ae (ac b3 hhp)];exact b3),G.al,G.ci,?_,?_⟩⟩
   . rw[<-hF9,<-hF7,<-hF3];show 11 < 1000;decide
   obtain⟨c1,c2,c3⟩:=stp (F':=bp "happened" (.ref hp) (bp "quiet" (.ref qu) (bp "sleepers" (.ref sl) F9))) (o:=.lst []) b3 hhp;generalize upd (upd H11 hp (.lst [])) y (.ins a.aY dx (bp "happened" (.ref hp) (bp "quiet" (.ref qu) (bp "sleepers" (.ref sl) F9))))=H12 at c1 c2 c3 |-;have X12:=kx c1 ⟨_,b3⟩ X11;have c4:=c1 _ _ (nn hx9 hsl) b4;have c5:=c1 _ _ (nn a3 hqu) b2;have n1:sl≠qu:=ac a2 hqu;have n2:sl≠hp:=ac b4 hhp;have n3:qu≠hp:=ac b2 hhp;have kpB:Kp [y] H H12:=λc o n e=>c1 c o (λz=>n (Nd.mpr z)) (b1 c o (λz=>n (Nd.mpr z)) (a1 c o (λz=>n (Nd.mpr z)) (kpA c o n e)))
   have nH:∀ {Hi:Hp} {c:K'},Kp [y] H Hi->(∃ F,Hi y=f' (.ins a.aY dx F))->Hi c=Nf->H c=Nf:=λkk ⟨F,e⟩ h=>gn kk h λx mx=>by rw[Nd.mp mx,e];exact λz=>by cases z
   have kp10:Kp [y] H H10:=λc o n e=>a1 c o (λz=>n (Nd.mpr z)) (kpA c o n e)
   have kp11:Kp [y] H H11:=λc o n e=>b1 c o (λz=>n (Nd.mpr z)) (kp10 c o n e)
   refine k ⟨y,ft,sa,z,zt,sl,qu,hp⟩ H12 rfl (λc hc ny=>?_) ⟨⟨dx,?_⟩,X12,c4,c5,⟨[],c2,rfl⟩,λ_ h=>(by cases h),λc hc h5=>?_,⟨n1,n2,n3⟩,owy⟩ kpB
   . rcases hc with y'|hc|y'|y'|y'
     . exact absurd y' ny
     . exact owH c hc
     . rw[y'];exact nH kpA ⟨_,hx9⟩ hsl
     . rw[y'];exact nH kp10 ⟨_,a3⟩ hqu
     . rw[y'];exact nH kp11 ⟨_,b3⟩ hhp
   . rw[c3,<-hF9,<-hF7,<-hF3];rfl
   . rcases hc with y'|y'|y'
     . obtain⟨o,e,_⟩:=X9.there h5;rw[y',hsl]at e;cases e
     . obtain⟨o,e,_⟩:=X10.there h5;rw[y',hqu]at e;cases e
     . obtain⟨o,e,_⟩:=X11.there h5;rw[y',hhp]at e;cases e
def TD (H:Hp) (x:Dd) (v:V):Prop:=∃ t,v=.ref t/\H t=f' (.tup x.vs)
def TD.keep {H H':Hp}(ht:∀ b vs,H b=f' (.tup vs)->H' b=f' (.tup vs)) {x:Dd}{v:V}(h:TD H x v):TD H' x v:=by
 obtain⟨t,e,h⟩:=h;exact⟨t,e,ht _ _ h⟩
def xF {H H':Hp}(ht:∀ b vs,H b=f' (.tup vs)->H' b=f' (.tup vs)) {xs:List Dd}{vs:List V}(h:NF (TD H) xs vs):NF (TD H') xs vs:=Paired.mapP h λ_ _ q=>q.keep ht
def mh (ws:List Int):List Dd:=ws.map Dd.ask++[.collect,.take]
def gZ (ws ks:List Int):List Dd:=mh ws++ks.flatMap λnm=>ws.map (Dd.answer nm)
def IM:List Dd:=[.bell D',.bell G',.lie D',.lie G',.look D',.look G',.drain D',.drain G']
def gY (ws ks:List Int):List Dd:=gZ ws ks++IM
def Ef (w:Nt) (ad:Ad) (K:Nh):Sp:=λvs H Q _=>∃ (a:YA) (q:YP) (S:YS) (wl:K') (ws:List Int),vs=[.ref a.y,.ref wl]/\Yn w ad.aY ad.c9 ad.aM ad.bB ad.aD H a q S/\H wl=f' (.lst (ws.map V.int))/\ws.length <= 60/\S.tk.length < 64 /\
 ∀ (l:K') (ks:List Int) (ts:List V) (H':Hp),ks.Perm S.tk->ks.Pairwise (· <= ·)->H l=Nf->bq H H'->H' l=f' (.lst ts)->NF (TD H') (gY ws ks) ts->Q (.ref l) H'
theorem iC {α β:Type}{R:α->β->Prop}:∀ {a:List α}{b:List β}{c:List α}{d:List β},NF R a b->NF R c d->NF R (a++c) (b++d)
|_,_,_,_,.nil,h=>h
|_,_,_,_,.cons r t,h=>.cons r (iC t h)
theorem mv (ws:List Int):∀ ks:List Int,(ks.flatMap λnm=>ws.map (Dd.answer nm)).length=ks.length * ws.length
|[]=>by simp
|k :: ks=>by
  rw[List.flatMap_cons,Nj,mv ws ks,Nu,NM,Nat.succ_mul];omega
def Gf:List V:=[.str "bell",.str "lie",.str "look",.str "drain"]
def Kd {j:Nat}{v:V}(h:Gf[j]?=f' v):∃ x0 x1 wd,v=.str wd/\x0.vs=[.str wd,.int 0]/\x1.vs=[.str wd,.int 1]/\IM.take (2 * (j+1))=IM.take (2 * j)++[x0,x1]:=by
 match j,h with
|0,h=>cases h;exact⟨.bell D',.bell G',_,rfl,rfl,rfl,rfl⟩
|1,h=>cases h;exact⟨.lie D',.lie G',_,rfl,rfl,rfl,rfl⟩
|2,h=>cases h;exact⟨.look D',.look G',_,rfl,rfl,rfl,rfl⟩
|3,h=>cases h;exact⟨.drain D',.drain G',_,rfl,rfl,rfl,rfl⟩
|_+4,h=>cases h
structure Gr (H H':Hp) (D:K') (xs:List Dd) (ts:List V):Prop where
 kp:∀ c o,c≠D->H c=f' o->H' c=f' o
 at_:H' D=f' (.lst ts)
 td:NF (TD H') xs ts
 new:H D=Nf
section
variable {H H' H'':Hp}{D:K'}{xs es:List Dd}{ts zs:List V}
def Gr.same (g:Gr H H' D xs ts) (s:bq H' H''):Gr H H'' D xs ts:=⟨λc o n e=>s _ _ (g.kp c o n e),s _ _ g.at_,xF (λb vs=>s b _) g.td,g.new⟩
def Gr.sm (g:Gr H H' D xs ts):bq H H':=λc o e=>g.kp c o (λy=>by rw[y,g.new]at e;cases e) e
def Gr.len (g:Gr H H' D xs ts):ts.length=xs.length:=(aU g.td).symm
def Gr.ext (g:Gr H H' D xs ts) (h:NF (TD H') es zs):Gr H (upd H' D (.lst (ts++zs))) D (xs++es) (ts++zs):=by
 have tu:∀ b vs,H' b=f' (.tup vs)->upd H' D (.lst (ts++zs)) b=f' (.tup vs):=λb vs e=>by
  rw[ae (λz=>by rw[z,g.at_]at e;cases e)];exact e
 exact⟨λc o n e=>by rw[ae n];exact g.kp c o n e,a8,iC (xF tu g.td) (xF tu h),g.new⟩
end
def ED (G:Gs K mg a d):FnOk P w K mg base CX0 2 a.bN d.bN ["self","worths"] (Ef w a K):=by
 have TK:FnOk P w K mg base CX0 1 _ _ _ _:=Fb G;refine G.oG.ok cN (λvs H Q E h=>?_) (λcdv A' outer s' H vs Q E hr h=>?_)
 . obtain⟨y,q,S,wl,ws,rfl,_⟩:=h;rfl
 . obtain⟨y,q,S,wl,ws,rfl,Y,hw,wlen,tlen,k⟩:=h;have hu:=bU hr;refine⟨_,((by exact nY (iN:=2) (caps:=[]) (js:=[]) cN.nd rfl (NW rfl) (by rfl) rfl (gu rfl rfl (by decide +kernel) (by decide +kernel) rfl trivial rfl rfl) (by decide +kernel) trivial (jK (pv 1)) (λC s₃ H₃ P2 ex E'=>by exact d8) (λC s₃ H₃ P2 ex E'=>by exact(@bi _ _ _ _ _ (aj∣((pv 0)∣aa)))))∪((@aL _ _ _ _ (@jU _ _ _ _ _ _ _ _ _ _ _ _ NV PySem.F.slot_list_extend PySem.F.type_list_extend qC (pv 2) ((@bG _ _ _ _ ((@bi _ _ _ _ _ (aj∣aa))∣((@bi _ _ _ _ _ (aj∣aa))∣aa)))∣aa) (by rfl) (by rfl) (by rfl) (by rfl) (by rfl)) (by rfl))∪((sI Pl rfl (jK (aS (ak (pv 0) rfl) G.bL G.rV TK (hr.mono (by decide)) G.uI .nil aq)) (ig (i:=3) cN.nd rfl (Or.inr rfl)) (@ao _ _ _ (@aL _ _ _ _ (@jU _ _ _ _ _ _ _ _ _ _ _ _ NV PySem.F.slot_list_extend PySem.F.type_list_extend qC (pv 2) ((by exact ik (caps:=["name"]) (js:=[3]) rfl (gu rfl rfl (by decide +kernel) (by decide +kernel) rfl ⟨rfl,trivial⟩ rfl rfl) (by decide +kernel) ⟨⟨⟨_,rfl⟩,rfl,.inl rfl,.inl rfl⟩,trivial⟩ (jK (pv 1)) (λC s₃ H₃ P2 ex E'=>by exact d8) (λC s₃ H₃ P2 ex E'=>by exact(@bi _ _ _ _ _ (aj∣((pv 1)∣((pv 0)∣aa))))))∣aa) (by rfl) (by rfl) (by rfl) (by rfl) (by rfl)) (by rfl))))∪((sI Pl rfl (xY (@bi _ _ _ _ _ (aj∣(aj∣(aj∣(aj∣aa)))))) (ig (i:=4) cN.nd rfl (NW rfl)) (@ao _ _ _ (@aL _ _ _ _ (@jU _ _ _ _ _ _ _ _ _ _ _ _ NV PySem.F.slot_list_extend PySem.F.type_list_extend qC (pv 2) ((@bG _ _ _ _ ((@bi _ _ _ _ _ ((pv 4)∣(ag∣aa)))∣((@bi _ _ _ _ _ ((pv 4)∣(ag∣aa)))∣aa)))∣aa) (by rfl) (by rfl) (by rfl) (by rfl) (by rfl)) (by rfl))))∪((pv 2)⁻¹))))),?_⟩;refine⟨_,rfl,wl,rfl,⟨_,SqL.of hw⟩,λD hD=>?_⟩;refine⟨λi mm ys H'=>i <= ws.length/\mm=ws.length - i/\Gr H H' D ((ws.take i).map Dd.ask) ys,⟨_,Ou _,rfl,λc o n e=>(by rw[ae n];exact e),a8,.nil,hD⟩,?_⟩;rintro i mm ys H1 ⟨hi,rfl,g1⟩;have hyl:=g1.len;rw[Nu,OI]at hyl;refine⟨g1.at_,Nn (show _ < 1000 by omega) (by decide),?_⟩;by_cases hii:i=ws.length;rotate_left
   . have hlt:i < ws.length:=by omega
     refine .inr ⟨⟨_,_,SqL.of (g1.sm _ _ hw),by rw[NL,Nk hlt];rfl⟩,?_⟩;rintro v H2 ⟨rfl,hv⟩;have hv:=hv _ (SqL.of (g1.sm _ _ hw));rw[NL,Nk hlt]at hv;cases hv;refine fP ⟨_,rfl,l2,λt ht=>?_⟩;have g2:=g1.same (af (o:=.tup [V.str "ask",V.int ws[i]]) ht);refine⟨g2.at_,ws.length - (i+1),by omega,by omega,rfl,?_⟩;rw[take_add_one,Nk hlt,OS];exact g2.ext (.cons ⟨t,rfl,a8⟩ .nil)
   refine .inl ⟨⟨_,SqL.of (g1.sm _ _ hw),by rw[Nu];omega⟩,?_⟩;rw[hii,take_length]at g1;rw[hii,Nat.min_self]at hyl;refine⟨_,rfl,.inl ⟨rfl,_,SqL.of g1.at_⟩,zY,λt1 h1=>⟨zY,λt2 h2=>⟨l2,λlq h3=>?_⟩⟩⟩;have s1:=af (o:=.tup [V.str "collect"]) h1;have s2:=af (o:=.tup [V.str "take"]) h2;have s3:=af (o:=.lst [V.ref t1,V.ref t2]) h3;have g3:=((g1.same s1).same s2).same s3;have p3:NF (TD (upd (upd (upd H1 t1 (.tup [V.str "collect"])) t2 (.tup [V.str "take"])) lq (.lst [V.ref t1,V.ref t2]))) [Dd.collect,Dd.take] [V.ref t1,V.ref t2]:=.cons ⟨t1,rfl,s3 _ _ (s2 _ _ a8)⟩ (.cons ⟨t2,rfl,s3 _ _ a8⟩ .nil);refine⟨D,lq,ys,_,rfl,rfl,g3.at_,a8,NS (show _ <= 1000 by show _+2 <= 1000;omega) (by decide),?_⟩;have g4:=g3.ext p3;have gA:Gr H (upd (upd (upd (upd H1 t1 (.tup [V.str "collect"])) t2 (.tup [V.str "take"])) lq (.lst [V.ref t1,V.ref t2])) D (.lst (ys++[V.ref t1,V.ref t2]))) D (mh ws) (ys++[V.ref t1,V.ref t2]):=g4;clear g3 g4 p3 s1 s2 s3 g1 hii;generalize upd (upd (upd (upd H1 t1 (.tup [V.str "collect"])) t2 (.tup [V.str "take"])) lq (.lst [V.ref t1,V.ref t2])) D (.lst (ys++[V.ref t1,V.ref t2]))=H4 at gA |-;have Y4:=Y.same gA.sm;refine⟨_,rfl,gg Y4.ob G.al G.cQ mM (dX Y4.x.tn.ob DK ⟨y.zt,y.sa.x,q.p,S.tk,rfl,Y4.x.tn,tlen,λlk ks hk pmk pwk=>⟨lk,rfl,⟨_,SqL.of a8⟩,?_⟩⟩)⟩;have gB:=gA.same (af (o:=.lst (ks.map V.int)) hk);have vk:upd H4 lk (.lst (ks.map V.int)) lk=f' (.lst (ks.map V.int)):=a8;have nkD:lk≠D:=λz=>by rw[z,gA.at_]at hk;cases hk
   generalize upd H4 lk (.lst (ks.map V.int))=H5 at gB vk |-;clear gA Y4 hk;have hks:ks.length < 64:=by rw[pmk.length_eq];exact tlen
   refine yX (K:=K) (a:=lk) (xs:=ks.map V.int) (λj σ H'=>∃ ts,(∃ v3 v4,σ=[f' (.ref y.y),f' (.ref wl),f' (.ref D),v3,v4])/\Gr H H' D (gZ ws (ks.take j)) ts/\H' lk=f' (.lst (ks.map V.int)))
    ⟨_,⟨_,_,rfl⟩,by rw[take_zero];show Gr H H5 D (mh ws++[]) _;rw[O5];exact gB,vk⟩ (λ_ _ _ _ uq15=>by(obtain⟨_,_,_,y⟩:=uq15;exact SqL.of y)) ?_ ?_
   . clear gB vk;rintro j v σ H6 hj ⟨ts,⟨v3,v4,rfl⟩,g6,vk⟩;rw[NL]at hj;obtain⟨nm,hnm,rfl⟩:=Option.map_eq_some_iff.mp hj;have hjl:=(NG.mp hnm).1;refine⟨_,rfl,.inl ⟨rfl,_,SqL.of g6.at_⟩,?_⟩;refine⟨_,rfl,wl,rfl,⟨_,SqL.of (g6.sm _ _ hw)⟩,λD2 hD2=>?_⟩;refine⟨λi mm ys H'=>i <= ws.length/\mm=ws.length - i/\Gr H6 H' D2 ((ws.take i).map (Dd.answer nm)) ys,⟨_,Ou _,rfl,λc o n e=>(by rw[ae n];exact e),a8,.nil,hD2⟩,?_⟩;rintro i mm ys2 H7 ⟨hi,rfl,g7⟩;have hyl:=g7.len;rw[Nu,OI]at hyl;refine⟨g7.at_,Nn (show _ < 1000 by omega) (by decide),?_⟩;by_cases hii:i=ws.length;rotate_left
     . have hlt:i < ws.length:=by omega
       refine .inr ⟨⟨_,_,SqL.of (g7.sm _ _ (g6.sm _ _ hw)),by rw[NL,Nk hlt];rfl⟩,?_⟩;rintro v H8 ⟨rfl,hv⟩;have hv:=hv _ (SqL.of (g7.sm _ _ (g6.sm _ _ hw)));rw[NL,Nk hlt]at hv;cases hv;refine fP ⟨_,rfl,_,rfl,l3,λt ht=>?_⟩;have g8:=g7.same (af (o:=.tup [V.str "answer",V.int nm,V.int ws[i]]) ht);refine⟨g8.at_,ws.length - (i+1),by omega,by omega,rfl,?_⟩;rw[take_add_one,Nk hlt,OS];exact g8.ext (.cons ⟨t,rfl,a8⟩ .nil)
     refine .inl ⟨⟨_,SqL.of (g7.sm _ _ (g6.sm _ _ hw)),by rw[Nu];omega⟩,?_⟩;rw[hii,take_length]at g7;have g8:=g6.same g7.sm;have hl8:=g6.len;have hlb:(gZ ws (ks.take j)).length <= 10000:=by
      unfold gZ mh;rw[Nj,Nj,Nu,mv,OI];have h2:min j ks.length * ws.length <= 64 * 60:=Nat.mul_le_mul (by omega) wlen;show ws.length+2+_ <= _;omega
     refine⟨D,D2,ts,ys2,rfl,rfl,g8.at_,g7.at_,NS (show _ <= 20000 by omega) (by decide),?_⟩;have g9:=g8.ext g7.td;refine⟨ts++ys2,⟨_,_,rfl⟩,?_,by rw[ae nkD];exact g7.sm _ _ vk⟩;have:gZ ws (ks.take (j+1))=gZ ws (ks.take j)++ws.map (Dd.answer nm):=by
      unfold gZ;rw[take_add_one,hnm,Option.toList_some,List.flatMap_append,<-N4];congr 1;simp
     rw[this];exact g9
   . clear gB vk;rintro σ H6 ⟨ts,⟨v3,v4,rfl⟩,g6,vk⟩;rw[Nu,take_length]at g6;have hlb:(gZ ws ks).length <= 10000:=by
      unfold gZ mh;rw[Nj,Nj,Nu,mv];have h2:ks.length * ws.length <= 64 * 60:=Nat.mul_le_mul (by omega) wlen;show ws.length+2+_ <= _;omega
     refine⟨by show 4 <= Nl;decide,λtw htw=>⟨tw,rfl,⟨_,SqT.of a8⟩,?_⟩⟩;have g7:=g6.same (af (o:=.tup Gf) htw);have vw:upd H6 tw (.tup Gf) tw=f' (.tup Gf):=a8;change ∃ W:Nat->Nat->St->Hp->Prop,(∃ m,W 0 m [f' (V.ref y.y),f' (V.ref wl),f' (V.ref D),v3,v4] (upd H6 tw (.tup Gf)))/\_;generalize upd H6 tw (.tup Gf)=H7 at g7 vw |-;refine GZ (K:=K) (a:=tw) (xs:=Gf) (λj σ H'=>∃ ts,(∃ v3 v4,σ=[f' (.ref y.y),f' (.ref wl),f' (.ref D),v3,v4])/\Gr H H' D (gZ ws ks++IM.take (2 * j)) ts/\H' tw=f' (.tup Gf))
      ⟨_,⟨_,_,rfl⟩,by rw[Nat.mul_zero,take_zero,O5];exact g7,vw⟩ (λ_ _ _ _ uq16=>by(obtain⟨_,_,_,y⟩:=uq16;exact SqT.of y)) ?_ ?_
     . clear g7 vw g6;rintro j v σ H8 hj ⟨ts,⟨v3,v4,rfl⟩,g8,vw⟩;obtain⟨x0,x1,wd,rfl,h0,h1,ht⟩:=Kd hj;have hj4:j < 4:=(NG.mp hj).1;refine⟨_,rfl,.inl ⟨rfl,_,SqL.of g8.at_⟩,_,rfl,l2,λt1 h1'=>⟨_,rfl,l2,λt2 h2=>⟨l2,λlq h3=>?_⟩⟩⟩;have s1:=af (o:=.tup [V.str wd,V.int 0]) h1';have s2:=af (o:=.tup [V.str wd,V.int 1]) h2;have s3:=af (o:=.lst [V.ref t1,V.ref t2]) h3;have g9:=((g8.same s1).same s2).same s3;have p3:NF (TD (upd (upd (upd H8 t1 (.tup [V.str wd,V.int 0])) t2 (.tup [V.str wd,V.int 1])) lq (.lst [V.ref t1,V.ref t2]))) [x0,x1] [V.ref t1,V.ref t2]:=.cons ⟨t1,rfl,by rw[h0];exact s3 _ _ (s2 _ _ a8)⟩ (.cons ⟨t2,rfl,by rw[h1];exact s3 _ _ a8⟩ .nil);have hl8:=g8.len;rw[Nj,OI]at hl8;refine⟨D,lq,ts,_,rfl,rfl,g9.at_,a8,NS (show _ <= 20000 by show _+2 <= _;omega) (by decide),?_⟩;have nwD:tw≠D:=λz=>by rw[z,g8.at_]at vw;cases vw
       refine⟨ts++[V.ref t1,V.ref t2],⟨_,_,rfl⟩,?_,by rw[ae nwD];exact s3 _ _ (s2 _ _ (s1 _ _ vw))⟩;rw[ht,<-N4];exact g9.ext p3
     . rintro σ H8 ⟨ts,⟨v3,v4,rfl⟩,g8,vw⟩;exact⟨_,rfl,k D ks ts H8 pmk pwk g8.new g8.sm g8.at_ g8.td⟩
def JZ (w:Nt) (ad:Ad) (K:Nh):Sp:=λvs H Q _=>∃ (a:YA) (q:YP) (S:YS) (wl:K') (ws:List Int),vs=[.ref a.y,.ref wl]/\Yn w ad.aY ad.c9 ad.aM ad.bB ad.aD H a q S/\q.Ok/\H wl=f' (.lst (ws.map V.int))/\ws.length <= 60/\(∀ x∈ws,-1000000000 <= x/\x <= 1000000000)/\S.tk.length < 64 /\
 ∀ (l:K') (ks:List Int) (ts:List V) (H':Hp),ks.Perm S.tk->ks.Pairwise (· <= ·)->H l=Nf->bq H H'->H' l=f' (.lst ts)->NF (TD H') ((gY ws ks).filter λx=>(x.chk q S).isNone) ts->Q (.ref l) H'
def zf {ws ks:List Int}(h:∀ x∈ws,-1000000000 <= x/\x <= 1000000000):∀ x∈gY ws ks,x.Ok:=by
 intro x hx;unfold gY gZ mh at hx;rcases Oc.mp hx with hx|hx
 . rcases Oc.mp hx with hx|hx
   . rcases Oc.mp hx with hx|hx
     . obtain⟨wt,hw,rfl⟩:=O1.mp hx;exact h wt hw
     . simp only[NA,N8,or_false]at hx;rcases hx with rfl|rfl<;>exact trivial
   . obtain⟨nm,_,hx⟩:=List.mem_flatMap.mp hx;obtain⟨wt,hw,rfl⟩:=O1.mp hx;exact h wt hw
 . simp only[IM,NA,N8,or_false]at hx;rcases hx with rfl|rfl|rfl|rfl|rfl|rfl|rfl|rfl<;>exact trivial
def Kb (G:Gs K mg a d):FnOk P w K mg base CX0 12 a.bt d.bt ["self","worths"] (JZ w a K):=by
 have Ux:FnOk P w K mg base CX0 2 _ _ _ _:=ED G;have Up:FnOk P w K mg base CX0 10 _ _ _ _:=Cg G;refine G.ma.ok lM (λvs H Q E h=>?_) (λcdv A' outer s' H vs Q E hr h=>?_)
 . obtain⟨y,q,S,wl,ws,rfl,_⟩:=h;rfl
 . obtain⟨y,q,S,wl,ws,rfl,Y,qo,hw,wlen,wok,tlen,k⟩:=h;have hu:=bU hr;refine⟨_,((by exact ik (caps:=["self"]) (js:=[0]) rfl (gu rfl rfl (by decide +kernel) (by decide +kernel) rfl ⟨rfl,trivial⟩ rfl rfl) (by decide +kernel) ⟨⟨⟨_,rfl⟩,rfl,.inl rfl,.inl rfl⟩,trivial⟩ (jK (av (pv 0) G.al G.nU Ux (hr.mono (by decide)) G.oU .nil aq ((pv 1)∣aa))) (λC s₃ H₃ P2 ex E'=>by exact xJ (bP (av (pv 1) G.al G.mL Up (hr.mono (by decide)) G.n6 .nil aq ((pv 0)∣aa)))) (λC s₃ H₃ P2 ex E'=>by exact(pv 0)))⁻¹),?_⟩;refine⟨_,rfl,dX Y.ob (eN (by decide +kernel)) ⟨_,rfl,y,q,S,wl,ws,rfl,Y,hw,wlen,tlen,λl ks ts H1 pmk pwk hl e1 h1 td=>⟨l,rfl,⟨_,SqL.of h1⟩,λD hD=>?_⟩⟩⟩;have Y1:=Y.same e1;have tl:=aU td;have okx:=zf (ks:=ks) wok;have tlen2:(gY ws ks).length <= 20000:=by
    unfold gY gZ mh;rw[Nj,Nj,Nj,Nu,mv];have hk:=pmk.length_eq;have h2:ks.length * ws.length <= 64 * 60:=Nat.mul_le_mul (by omega) wlen;show ws.length+2+_+8 <= _;omega
   refine⟨λi mm ys H'=>i <= ts.length/\mm=ts.length - i/\Gr H1 H' D (((gY ws ks).take i).filter λx=>(x.chk q S).isNone) ys,⟨_,Ou _,rfl,λc o n e=>(by rw[ae n];exact e),a8,.nil,hD⟩,?_⟩;rintro i mm ys H2 ⟨hi,rfl,g2⟩;have hyl:=g2.len;have hfl:=PR (λx:Dd=>(x.chk q S).isNone) ((gY ws ks).take i);rw[OI]at hfl;refine⟨g2.at_,Nn (show _ < 100000 by omega) (by decide),?_⟩;by_cases hii:i=ts.length;rotate_left
   . have hlt:i < ts.length:=by omega
     refine .inr ⟨⟨_,_,SqL.of (g2.sm _ _ h1),Nk hlt⟩,?_⟩;rintro v H3 ⟨rfl,hv⟩;have hv:=hv _ (SqL.of (g2.sm _ _ h1));obtain⟨x,hx,t,rfl,ht⟩:=jX td hv;refine⟨_,rfl,dX (Y1.same g2.sm).ob (eN (by decide +kernel)) ⟨_,rfl,y,q,S,x,t,rfl,Y1.same g2.sm,qo,g2.sm _ _ ht,okx x (N1 hx),λH4 e4=>⟨_,rfl,?_⟩⟩⟩;have g4:=g2.same e4;have et:(gY ws ks).take (i+1)=(gY ws ks).take i++[x]:=by rw[take_add_one,hx];rfl
     cases hc:(x.chk q S).isNone with
    |true =>
      refine fP ⟨_,rfl,g4.at_,ts.length - (i+1),by omega,by omega,rfl,?_⟩;rw[et,filter_append,Pt,hc];exact g4.ext (.cons ⟨t,rfl,e4 _ _ (g2.sm _ _ ht)⟩ .nil)
    |false =>
      refine cW ⟨ts.length - (i+1),by omega,by omega,rfl,?_⟩;rw[et,filter_append,Pt,hc];simp only[NK,if_false,List.filter_nil,O5];exact g4
   refine .inl ⟨⟨_,SqL.of (g2.sm _ _ h1),by omega⟩,?_⟩;rw[hii,O3 (by omega)]at g2;exact k D ks ys H2 pmk pwk (iF e1 hD) (e1.trans g2.sm) g2.at_ g2.td
def CZ (w:Nt) (CH CR CS:K'):Sp:=λvs H Q _=>∃ (z:HA) (sa:SA) (p:RP) (n:Int) (aw:List Int) (m:Mem) (rs:Bool->List Wr),vs=[.ref z.h]/\Hn CH CR H z sa.x p n aw/\StT w CS H sa m rs/\p.Ok/\Q (.bl (decide (bj p m (rs D') .answered .handed≠0))) H
def Cy (w:Nt) (CT CR CS:K'):Sp:=λvs H Q _=>∃ (z:TA') (sa:SA) (p:RP) (ts:List Int) (m:Mem) (rs:Bool->List Wr),vs=[.ref z.h]/\Tn CT CR H z sa.x p ts/\StT w CS H sa m rs/\p.Ok/\Q (.bl (decide (bj p m (rs G') .asked .taken≠0))) H
def BI (w:Nt) (ad:Ad):Sp:=λvs H Q _=>∃ (a:YA) (q:YP) (S:YS) (b:Bool),vs=[.ref a.y,.int (sdI b)]/\Yn w ad.aY ad.c9 ad.aM ad.bB ad.aD H a q S/\q.Ok/\Q (.bl (swT q S b)) H
def Bh (w:Nt) (ad:Ad) (a:YA) (q:YP) (S':YS) (L:Nat) (dd:Ni) (H:Hp) (Q:VK):Prop:=∀ (v:V) (H':Hp),Yn w ad.aY ad.c9 ad.aM ad.bB ad.aD H' a q S'->YI q S' (L+2)->DV H' dd v->KO a.own H H'->Q v H'
structure Rdy (w:Nt) (ad:Ad) (H:Hp) (a:YA) (q:YP) (S:YS) (L:Nat):Prop where
 y:Yn w ad.aY ad.c9 ad.aM ad.bB ad.aD H a q S
 ok:q.Ok
 i:YI q S L
 l:L < 90000
def ER (w:Nt) (ad:Ad):Sp:=λvs H Q _=>∃ (a:YA) (q:YP) (S:YS) (L:Nat) (wt:Int),vs=[.ref a.y,.int wt]/\Rdy w ad H a q S L/\bj q.p S.m (S.rs D') .asked .taken≠q.p.s/\cO q.n S.un≠Nf/\Bh w ad a q ((Dd.ask wt).run q S).2 L ((Dd.ask wt).run q S).1 H Q
def ET (w:Nt) (ad:Ad):Sp:=λvs H Q _=>∃ (a:YA) (q:YP) (S:YS) (L:Nat) (nm wt:Int),vs=[.ref a.y,.int nm,.int wt]/\Rdy w ad H a q S L/\S.tk.contains nm≠D'/\bj q.p S.m (S.rs G') .answered .handed≠q.p.s/\Bh w ad a q ((Dd.answer nm wt).run q S).2 L ((Dd.answer nm wt).run q S).1 H Q
def uV {own:K'->Prop}{H1 H2 H3:Hp}(h1:KO own H1 H2) (h2:KO own H2 H3):KO own H1 H3:=h1.trans h2 λ_ hc=>.inl hc
def rN {own:K'->Prop}{H:Hp}{c:K'}{o:HO}(h:own c):KO own H (upd H c o):=KO.of_kp Kp.one λx hx=>by rw[Nd.mp hx];exact h
def yt {p:RP}{m:Mem}{row:List Wr}{g:Bool}{a:Cn}{nm wt:Int}:(Bc p m row g a nm wt).length=2:=by
 unfold Bc;cases p.e<;>rfl
def kn {rs:Bool->List Wr}{L n:Nat}(h:∀ b,(rs b).length <= L) (b:Bool) {row:List Wr}(hr:row.length <= L+n):∀ c,(setR rs b row c).length <= L+n:=λc=>by
 by_cases e:c=b
 . subst e;rw[ba];exact hr
 . rw[eS e];have:=h c;omega
def Bi (G:Gs K mg a d):FnOk P w K mg base CX0 6 a.aX d.aX ["self"] (CZ w a.c9 a.bB a.aD):=by
 have TV:FnOk P w K mg base CX0 3 _ _ _ _:=mV G;refine G.jT.ok j8 (λvs H Q E h=>?_) (λcdv A' outer s' H vs Q E hr h=>?_)
 . obtain⟨z,sa,p,n,aw,m,rs,rfl,_⟩:=h;rfl
 . obtain⟨z,sa,p,n,aw,m,rs,rfl,hn,⟨M,r,S,R,Pr⟩,hp,k⟩:=h;refine⟨_,((cc oQ (aS (ak (pv 0) rfl) G.ax G.fm TV (hr.mono (by decide)) G.fT .nil aq) ag (ay _))⁻¹),?_⟩;obtain⟨dx,hx⟩:=hn.ob;obtain⟨dr,hrb⟩:=hn.rb;refine⟨_,rfl,fld hx G.bS G.gw sg ⟨z.rb,dr,_,rfl,hrb,mH,z.rb,sa,D',"answer","answered","handed",p,M,r,rdC m (rs D') .answered,rdC m (rs D') .handed,rfl,⟨dr,hrb⟩,S,hp,by decide +kernel,by decide +kernel,cA R (Pr D') .answered,cA R (Pr D') .handed,rfl,?_⟩⟩;have e:(!decide (V.int ((rdC m (rs D') .answered - rdC m (rs D') .handed) % (p.s * p.R))=V.int 0))=decide (bj p m (rs D') .answered .handed≠0):=by
    rw[ON,Pu,decide_eq_false_iff_not,Ve];exact not_congr ⟨λh=>by injection h,λh=>congrArg V.int h⟩
   rw[e];exact k
def Cl (G:Gs K mg a d):FnOk P w K mg base CX0 6 a.aQ d.aQ ["self"] (Cy w a.aM a.bB a.aD):=by
 have TV:FnOk P w K mg base CX0 3 _ _ _ _:=mV G;refine G.jy.ok iA (λvs H Q E h=>?_) (λcdv A' outer s' H vs Q E hr h=>?_)
 . obtain⟨z,sa,p,ts,m,rs,rfl,_⟩:=h;rfl
 . obtain⟨z,sa,p,ts,m,rs,rfl,hn,⟨M,r,S,R,Pr⟩,hp,k⟩:=h;refine⟨_,((cc oQ (aS (ak (pv 0) rfl) G.ax G.fm TV (hr.mono (by decide)) G.fT .nil aq) ag (ay _))⁻¹),?_⟩;obtain⟨dx,hx⟩:=hn.ob;obtain⟨dr,hra⟩:=hn.ra;refine⟨_,rfl,fld hx G.bL G.j7 Ce ⟨z.ra,dr,_,rfl,hra,mH,z.ra,sa,G',"ask","asked","taken",p,M,r,rdC m (rs G') .asked,rdC m (rs G') .taken,rfl,⟨dr,hra⟩,S,hp,by decide +kernel,by decide +kernel,cA R (Pr G') .asked,cA R (Pr G') .taken,rfl,?_⟩⟩;have e:(!decide (V.int ((rdC m (rs G') .asked - rdC m (rs G') .taken) % (p.s * p.R))=V.int 0))=decide (bj p m (rs G') .asked .taken≠0):=by
    rw[ON,Pu,decide_eq_false_iff_not,Ve];exact not_congr ⟨λh=>by injection h,λh=>congrArg V.int h⟩
   rw[e];exact k
def Dh (G:Gs K mg a d):FnOk P w K mg base CX0 7 a.aW d.aW ["self","side"] (BI w a):=by
 have TB:FnOk P w K mg base CX0 6 _ _ _ _:=Bi G;have TF:FnOk P w K mg base CX0 6 _ _ _ _:=Cl G;refine G.jW.ok jb (λvs H Q E h=>?_) (λcdv A' outer s' H vs Q E hr h=>?_)
 . obtain⟨y,q,S,b,rfl,_⟩:=h;rfl
 . obtain⟨y,q,S,b,rfl,Y,qo,k⟩:=h;refine⟨_,((fX (ar cp (pv 1) ag (ay _)) (aS (ak (pv 0) rfl) G.bS G.jE TB (hr.mono (by decide)) G.jV .nil aq) (aS (ak (pv 0) rfl) G.bL G.iB TF (hr.mono (by decide)) G.jG .nil aq))⁻¹),?_⟩;refine⟨_,rfl,rfl,_,rfl,?_⟩;cases b with
  |false =>
    refine iy (by decide +kernel) ?_;exact⟨_,rfl,gg Y.ob G.al G.fC ue (dX Y.x.hn.ob EO ⟨y.z,y.sa,q.p,_,S.un,S.m,S.rs,rfl,Y.x.hn,Y.x.st,qo.ok,k⟩)⟩
  |true =>
    refine cu (by decide +kernel) ?_;exact⟨_,rfl,gg Y.ob G.al G.cQ mM (dX Y.x.tn.ob EH ⟨y.zt,y.sa,q.p,S.tk,S.m,S.rs,rfl,Y.x.tn,Y.x.st,qo.ok,k⟩)⟩
def Fw (G:Gs K mg a d):FnOk P w K mg base CX0 9 a.dN d.dN ["self","worth"] (ER w a):=by
 have U7:FnOk P w K mg base (CXv P w) 8 _ _ _ _:=(JN G).imp λvs H Q E=>Mo
 refine G.um.ok lD (λvs H Q E h=>?_) (λcdv A' outer s' H vs Q E hr h=>?_)
 . obtain⟨y,q,S,L,wt,rfl,_⟩:=h;rfl
 . obtain⟨y,q,S,L,wt,rfl,Rd,hc,hl,k⟩:=h;have Y:=Rd.y;have ll:=Rd.l;have ul:=Rd.i.und.len (by have:=Rd.ok.n9;omega);have rl:=Rd.i.len;have hsl:=Rd.i.hl;refine⟨_,((@aJ _ _ 2 _ _ _ _ lD.nd rfl (NW rfl) (av (ak (pv 0) rfl) G.bS G.xp U7 (hr.mono (by decide)) G.zB .nil AO ((pv 1)∣aa)) (by rfl) (by first|exact .inl rfl|exact .inr rfl|assumption))∪((@aL _ _ _ _ (@jU _ _ _ _ _ _ _ _ _ _ _ _ NV OL PySem.F.type_list_append gM (ak (pv 0) rfl) ((@bi _ _ _ _ _ (aj∣((pv 2)∣((pv 1)∣aa))))∣aa) (by rfl) (by rfl) (by rfl) (by rfl) (by rfl)) (by rfl))∪((@lv _ _ _ _ _ _ eG (lA (ak (pv 0) rfl) ag fi) (by rfl) (by rfl) (by rfl))∪((pv 2)⁻¹)))),?_⟩;cases hle:cO q.n S.un with
  |none=>exact absurd hle hl
  |some nm =>
    refine⟨_,rfl,gg Y.ob G.al G.fC ue (dX Y.x.hn.ob JF ⟨_,rfl,y.z,y.sa,q.p,q.n,S.un,S.m,S.rs,wt,rfl,Y.x.hn,Y.x.st,Rd.ok.ok,Rd.ok.n9,by omega,by have:=rl D';omega,?_⟩)⟩;rw[Vd hc,hle];intro H1 hn1 st1 kp1;have Y1:=Y.parts (Y.x.hand hn1 st1 kp1) kp1 sA;obtain⟨ts,h1,h2⟩:=Y1.hp;have tl:=gm h2;refine⟨_,rfl,gg Y1.ob G.al G.ci jk ⟨.inl ⟨rfl,_,SqL.of h1⟩,_,rfl,_,rfl,l3,λt ht=>?_⟩⟩;have e2:=af (o:=.tup [V.str "asked",V.int nm,V.int wt]) ht;have v2:upd H1 t (.tup [V.str "asked",V.int nm,V.int wt]) t=f' (.tup [V.str "asked",V.int nm,V.int wt]):=a8;generalize upd H1 t (.tup [V.str "asked",V.int nm,V.int wt])=H2 at e2 v2 |-;have Y2:=Y1.same e2;refine⟨y.hp,ts,_,rfl,rfl,e2 _ _ h1,Nn (show _ < 100000 by rw[tl];show S.hs.length < _;omega) (by decide),?_⟩;have Y3:=Y2.setHp (e2 _ _ h1) (x:=sO "asked" (.int nm) (.int wt)) (v:=.ref t) ⟨t,_,rfl,v2,_,_,rfl,rfl,_,_,rfl,rfl,_,_,rfl,rfl,rfl⟩ rfl;refine⟨_,rfl,gg Y3.ob G.al G.eE pj ⟨y.qu,_,_,_,rfl,rfl,Y3.qu,rfl,?_⟩⟩;have Y4:=Y3.setQu D' D' (ys:=[.bl D',.bl (S.qt G')]) rfl;have hrun:(Dd.ask wt).run q S=(.int nm,{ S with rs:=setR S.rs D' (S.rs D'++Bc q.p S.m (S.rs D') D' .asked nm wt),un:=S.un++[nm],qt:=setR S.qt D' D',hs:=S.hs++[sO "asked" (.int nm) (.int wt)] }):=by
     show (match cO q.n S.un with|some nm=>_|none=>_)=_;rw[hle]
    rw[hrun]at k;refine⟨_,rfl,k (.int nm) _ Y4 ⟨Rd.i.und.snoc (sj hle) (oY hle),Rd.i.tkd,kn rl D' (by rw[Nj,yt];have:=rl D';omega),by show (S.hs++[_]).length <= _;rw[Nj];show _+1 <= _;omega⟩ rfl ?_⟩;exact uV (KO.of_kp kp1 λc hc=>.inr (.inl (sA c hc))) (uV (KO.of_same e2) (uV (rN (.inr (.inr (.inr (.inr rfl))))) (rN (.inr (.inr (.inr (.inl rfl)))))))
def FO (G:Gs K mg a d):FnOk P w K mg base CX0 9 a.bM d.bM ["self","name","worth"] (ET w a):=by
 have U9:FnOk P w K mg base (CXv P w) 8 _ _ _ _:=(Dk G).imp λvs H Q E=>Ih
 refine G.oS.ok nS (λvs H Q E h=>?_) (λcdv A' outer s' H vs Q E hr h=>?_)
 . obtain⟨y,q,S,L,nm,wt,rfl,_⟩:=h;rfl
 . obtain⟨y,q,S,L,nm,wt,rfl,Rd,h0,hc,k⟩:=h;have Y:=Rd.y;have ll:=Rd.l;have rl:=Rd.i.len;have hsl:=Rd.i.hl;refine⟨_,((@aL _ _ _ _ (av (ak (pv 0) rfl) G.bL G.qO U9 (hr.mono (by decide)) G.rS .nil AO ((pv 1)∣((pv 2)∣aa))) (by rfl))∪((@aL _ _ _ _ (@jU _ _ _ _ _ _ _ _ _ _ _ _ NV OL PySem.F.type_list_append gM (ak (pv 0) rfl) ((@bi _ _ _ _ _ (aj∣((pv 1)∣((pv 2)∣aa))))∣aa) (by rfl) (by rfl) (by rfl) (by rfl) (by rfl)) (by rfl))∪(@ao _ _ _ (@lv _ _ _ _ _ _ eG (lA (ak (pv 0) rfl) ag fi) (by rfl) (by rfl) (by rfl))))),?_⟩;refine⟨_,rfl,gg Y.ob G.al G.cQ mM (dX Y.x.tn.ob C1 ⟨_,rfl,_,rfl,y.zt,y.sa,q.p,S.tk,S.m,S.rs,nm,wt,rfl,Y.x.tn,Y.x.st,Rd.ok.ok,by have:=rl G';omega,λx hx=>Rd.i.tkd.2 x hx,?_⟩)⟩;rw[Vd h0,Vd hc];intro H1 tn1 st1 kp1;have Y1:=Y.parts (Y.x.heart tn1 st1 kp1) kp1 sJ;obtain⟨ts,h1,h2⟩:=Y1.hp;have tl:=gm h2;refine⟨_,rfl,gg Y1.ob G.al G.ci jk ⟨.inl ⟨rfl,_,SqL.of h1⟩,_,rfl,_,rfl,l3,λt ht=>?_⟩⟩;have e2:=af (o:=.tup [V.str "answered",V.int nm,V.int wt]) ht;have v2:upd H1 t (.tup [V.str "answered",V.int nm,V.int wt]) t=f' (.tup [V.str "answered",V.int nm,V.int wt]):=a8;generalize upd H1 t (.tup [V.str "answered",V.int nm,V.int wt])=H2 at e2 v2 |-;have Y2:=Y1.same e2;refine⟨y.hp,ts,_,rfl,rfl,e2 _ _ h1,Nn (show _ < 100000 by rw[tl];show S.hs.length < _;omega) (by decide),?_⟩;have Y3:=Y2.setHp (e2 _ _ h1) (x:=sO "answered" (.int nm) (.int wt)) (v:=.ref t) ⟨t,_,rfl,v2,_,_,rfl,rfl,_,_,rfl,rfl,_,_,rfl,rfl,rfl⟩ rfl;refine⟨_,rfl,gg Y3.ob G.al G.eE pj ⟨y.qu,_,_,_,rfl,rfl,Y3.qu,rfl,?_⟩⟩;have Y4:=Y3.setQu G' D' (ys:=[.bl (S.qt D'),.bl D']) rfl;refine k .non _ Y4 ⟨Rd.i.und,Rd.i.tkd.filter,kn rl G' (by rw[Nj,yt];have:=rl G';omega),by show (S.hs++[_]).length <= _;rw[Nj];show _+1 <= _;omega⟩ rfl ?_;exact uV (KO.of_kp kp1 λc hc=>.inr (.inl (sJ c hc))) (uV (KO.of_same e2) (uV (rN (.inr (.inr (.inr (.inr rfl))))) (rN (.inr (.inr (.inr (.inl rfl)))))))
def GD (w:Nt) (ad:Ad):Sp:=λvs H Q _=>∃ (a:YA) (q:YP) (S:YS) (wd:Str) (tv:V),vs=[.ref a.y,.str wd,tv]/\Yn w ad.aY ad.c9 ad.aM ad.bB ad.aD H a q S/\S.hs.length < 99000 /\
 ((tv=.non/\Q .non H)\/∃ (t:K') (v1 v2:V) (d1 d2:Ni),tv=.ref t/\H t=f' (.tup [v1,v2])/\DV H d1 v1/\DV H d2 v2/\scD d1=G'/\scD d2=G'/\∀ H',Yn w ad.aY ad.c9 ad.aM ad.bB ad.aD H' a q { S with hs:=S.hs++[sO wd d1 d2] }->KO a.own H H'->H' t=f' (.tup [v1,v2])->Q (.ref t) H')
def Ia (G:Gs K mg a d):FnOk P w K mg base CX0 1 a.bh d.bh ["self","word","told"] (GD w a):=by
 refine G.lL.ok lm (λvs H Q E h=>?_) (λcdv A' outer s' H vs Q E hr h=>?_)
 . obtain⟨y,q,S,wd,tv,rfl,_⟩:=h;rfl
 . obtain⟨y,q,S,wd,tv,rfl,Y,hsl,k⟩:=h;refine⟨_,(@kj _ _ _ _ _ (aI (ar pF (pv 2) dY (ay _)) (@ao _ _ _ (@aL _ _ _ _ (@jU _ _ _ _ _ _ _ _ _ _ _ _ NV OL PySem.F.type_list_append gM (ak (pv 0) rfl) ((@bi _ _ _ _ _ ((pv 1)∣((@az _ _ _ _ _ _ _ aF (pv 2) ag (λ_ _=>rfl))∣((@az _ _ _ _ _ _ _ aF (pv 2) ag (λ_ _=>rfl))∣aa))))∣aa) (by rfl) (by rfl) (by rfl) (by rfl) (by rfl)) (by rfl))) am)
    ((pv 2)⁻¹)),?_⟩
   rcases k with⟨rfl,k⟩|⟨t,v1,v2,d1,d2,rfl,ht,dv1,dv2,s1,s2,k⟩
   . refine⟨λσ' H'=>H'=H/\σ'=[f' (.ref y.y),f' (.str wd),f' .non],?_,?_⟩
     . exact⟨_,rfl,rfl,_,rfl,cW ⟨rfl,rfl⟩⟩
     . rintro σ' H' ⟨rfl,rfl⟩;exact⟨_,rfl,k⟩
   . refine⟨λσ' H'=>σ'=[f' (.ref y.y),f' (.str wd),f' (.ref t)]/\Yn w a.aY a.c9 a.aM a.bB a.aD H' y q { S with hs:=S.hs++[sO wd d1 d2] }/\KO y.own H H'/\H' t=f' (.tup [v1,v2]),?_,?_⟩
     . refine⟨_,rfl,rfl,_,rfl,fP ?_⟩;obtain⟨ts,h1,h2⟩:=Y.hp;have tl:=gm h2;refine⟨_,rfl,gg Y.ob G.al G.ci jk ⟨.inl ⟨rfl,_,SqL.of h1⟩,_,rfl,_,rfl,t,_,_,_,rfl,rfl,SqT.of ht,rfl,_,rfl,t,_,_,_,rfl,rfl,SqT.of ht,rfl,l3,λt2 ht2=>?_⟩⟩;have e2:=af (o:=.tup [V.str wd,v1,v2]) ht2;have w2:upd H t2 (.tup [V.str wd,v1,v2]) t2=f' (.tup [V.str wd,v1,v2]):=a8;generalize upd H t2 (.tup [V.str wd,v1,v2])=H2 at e2 w2 |-;have Y2:=Y.same e2;refine⟨y.hp,ts,_,rfl,rfl,e2 _ _ h1,Nn (show _ < 100000 by rw[tl];omega) (by decide),rfl,?_,?_,?_⟩
       . exact Y2.setHp (e2 _ _ h1) (x:=sO wd d1 d2) (v:=.ref t2) ⟨t2,_,rfl,w2,_,_,rfl,rfl,_,_,rfl,DV.sc s1 dv1,_,_,rfl,DV.sc s2 dv2,rfl⟩ (by show (G' && (scD d1 && (scD d2 && G')))=G';rw[s1,s2];rfl)
       . exact uV (KO.of_same e2) (rN (.inr (.inr (.inr (.inr rfl)))))
       . rw[ae (λz=>by rw[z,h1]at ht;cases ht)];exact e2 _ _ ht
     . rintro σ' H' ⟨rfl,Y',ko,ht'⟩;exact⟨_,rfl,k H' Y' ko ht'⟩
theorem MemR.putAllY {H:Hp}:∀ {row:List Wr}{es M:List (Ni × V)}{m:Mem},MemR H M m->NF (WrR H) row es->MemR H (mU M es) (m.putAllY row)
|_,_,_,_,R,.nil=>R
|_,_,_,_,R,.cons hx t=>by
  have h:=MemR.putAllY (R.put hx) t;exact h
def Cp (w:Nt) (C:K'):Sp:=λvs H Q _=>∃ (sa:SA) (m:Mem) (rs:Bool->List Wr) (b:Bool),vs=[.ref sa.x,.int (sdI b)]/\StT w C H sa m rs/\(rs b).length < 99000 /\
 ∀ H',StT w C H' sa (m.putAllY (rs b)) (setR rs b [])->Kp [sa.l b,sa.hd] H H'->Q .non H'
def Gd {w:Nt}{C:K'}{vs:List V}{H:Hp}{Q:VK}{E:XK}(h:Cp w C vs H Q E):y9 w C vs H Q E:=by
 obtain⟨sa,m,rs,b,rfl,⟨M,r,S,R,P⟩,hl,k⟩:=h;have hl':=aU (P b);have hM:=StT.small S R;refine⟨sa.x,sa.hd,sa.rl,sa.l,M,r,b,rfl,S,by omega,λH' S' kp=>k H' ?_ kp⟩;have ht:∀ c vs,H c=f' (.tup vs)->H' c=f' (.tup vs):=λc vs e=>kp c _ (λmm=>by
  rcases NA.mp mm with y|y
  . exact S.noT (b:=b) e (Nd.mpr y)
  . obtain⟨ee,e'⟩:=S.me.there;rw[Nd.mp y,e']at e;cases e) e
 refine⟨_,_,S',(MemR.putAllY R (P b)).keep ht,λc=>?_⟩;by_cases e:c=b
 . subst e;rw[ba,ba];exact .nil
 . rw[eS e,eS e];exact Paired.mapP (P c) λ_ _ q=>q.keep ht
def DF (w:Nt) (C:K'):Sp:=λvs H Q _=>∃ (sa:SA) (m:Mem) (rs:Bool->List Wr) (b:Bool) (k:Cn),vs=[.ref sa.x,.int (sdI b),.str k.key]/\StT w C H sa m rs/\Q (.int (rdC m (rs b) k)) H
def Lf {w:Nt}{C:K'}{vs:List V}{H:Hp}{Q:VK}{E:XK}(h:DF w C vs H Q E):Be w C vs H Q E:=by
 obtain⟨sa,m,rs,b,k,rfl,⟨M,r,S,R,P⟩,q⟩:=h;refine⟨sa.x,sa.hd,sa.rl,sa.l,M,r,b,.str k.key,.str k.key,rfl,S,kS (zQ k),?_⟩;rw[cA R (P b) k];exact q
def jN (b:Bool):Nat:=if b then 1 else 0
def zN {b:Bool}:ixN 2 (sdI b)=f' (jN b):=by cases b<;>rfl
def vg {f:Bool->Bd}{b:Bool}{x:Bd}:[V.str (f D').key,V.str (f G').key].set (jN b) (.str x.key)=[V.str (setR f b x D').key,V.str (setR f b x G').key]:=by cases b<;>rfl
def IW {f:Bool->Bool}{b x:Bool}:[V.bl (f D'),V.bl (f G')].set (jN b) (.bl x)=[V.bl (setR f b x D'),V.bl (setR f b x G')]:=by cases b<;>rfl
def zn {b:Bool}:atI [V.str "hand sleeps",V.str "heart sleeps"] (sdI b)=f' (.str (lj b).key):=by cases b<;>rfl
def y3 (b:Bool):(1:Int) - sdI b=sdI (!b):=by cases b<;>rfl
def D1 (w:Nt) (ad:Ad):Sp:=λvs H Q _=>∃ (a:YA) (q:YP) (S:YS) (L:Nat) (b:Bool),vs=[.ref a.y,.int (sdI b)]/\Rdy w ad H a q S L/\Bh w ad a q ((Dd.bell b).run q S).2 L ((Dd.bell b).run q S).1 H Q
def Fu (w:Nt) (ad:Ad):Sp:=λvs H Q _=>∃ (a:YA) (q:YP) (S:YS) (L:Nat) (b:Bool),vs=[.ref a.y,.int (sdI b)]/\Rdy w ad H a q S L/\Bh w ad a q ((Dd.lie b).run q S).2 L ((Dd.lie b).run q S).1 H Q
def Bj (w:Nt) (ad:Ad):Sp:=λvs H Q _=>∃ (a:YA) (q:YP) (S:YS) (L:Nat) (b:Bool),vs=[.ref a.y,.int (sdI b)]/\Rdy w ad H a q S L/\Bh w ad a q ((Dd.look b).run q S).2 L ((Dd.look b).run q S).1 H Q
def FR {ad:Ad}{H H':Hp}{y:YA}{q:YP}{S:YS}{b:Bool}(Y:Yn w ad.aY ad.c9 ad.aM ad.bB ad.aD H y q S) (st:StT w ad.aD H' y.sa (S.m.putAllY (S.rs b)) (setR S.rs b [])) (kp:Kp [y.sa.l b,y.sa.hd] H H'):Yn w ad.aY ad.c9 ad.aM ad.bB ad.aD H' y q (S.fence b):=Y.parts (Y.x.store st kp) kp wF
def Bu {ad:Ad}{H H':Hp}{y:YA}{q:YP}{S:YS}{b:Bool}{x:Wr}(Y:Yn w ad.aY ad.c9 ad.aM ad.bB ad.aD H y q S) (st:StT w ad.aD H' y.sa S.m (setR S.rs b (S.rs b++[x]))) (kp:Kp [y.sa.l b] H H'):Yn w ad.aY ad.c9 ad.aM ad.bB ad.aD H' y q (S.wr b x):=Y.parts (Y.x.store (b:=b) st (kp.mono λc hc=>by rw[Nd.mp hc];exact Nv)) kp λc hc=>wF (b:=b) c (by rw[Nd.mp hc];exact Nv)
def LJ {y:YA}{H H':Hp}{b:Bool}(kp:Kp [y.sa.l b,y.sa.hd] H H'):KO y.own H H':=KO.of_kp kp λc hc=>.inr (.inl (wF c hc))
def KM {y:YA}{H H':Hp}{b:Bool}(kp:Kp [y.sa.l b] H H'):KO y.own H H':=KO.of_kp kp λc hc=>.inr (.inl (wF (b:=b) c (by rw[Nd.mp hc];exact Nv)))
def Dl (G:Gs K mg a d):FnOk P w K mg base CX0 8 a.cB d.cB ["self","side"] (Bj w a):=by
 have Ut:FnOk P w K mg base CX0 7 _ _ _ _:=Dh G;have Ug:FnOk P w K mg base CX0 1 _ _ _ _:=(mB G).imp λvs H Q E=>D0
 refine G.rQ.ok pY (λvs H Q E h=>?_) (λcdv A' outer s' H vs Q E hr h=>?_)
 . obtain⟨y,q,S,L,b,rfl,_⟩:=h;rfl
 . obtain⟨y,q,S,L,b,rfl,Rd,k⟩:=h;have Y:=Rd.y;have ll:=Rd.l;have rl:=Rd.i.len;have hu:=bU hr;refine⟨_,((aI ((uk (eI (bP (ak (pv 0) rfl))) (oo (eI (bP (av (pv 0) G.al G.jx Ut (hr.mono (by decide)) G.jS .nil aq ((pv 1)∣aa))))))).pt ((@lv _ _ _ _ _ _ aj (lA (ak (pv 0) rfl) (pv 1) fi) (by rfl) (by rfl) (by rfl))∪(eG⁻¹)) am)∪((@aL _ _ _ _ (av (ak (pv 0) rfl) G.aG G.cY Ug (hr.mono (by decide)) G.eC .nil aq ((pv 1)∣((@az _ _ _ _ _ _ _ aF (f6 (v:=.ref a.aO) (by rfl) G.ga rfl) (pv 1) (λ_ _=>rfl))∣(ag∣aa)))) (by rfl))∪((@lv _ _ _ _ _ _ aj (lA (ak (pv 0) rfl) (pv 1) fi) (by rfl) (by rfl) (by rfl))∪(eG⁻¹)))),?_⟩;have bad:¬ (q.fk=G'/\swT q S b=G')->Q (.bl D') (upd H y.sl (.lst [.str (setR S.bd b .asleep D').key,.str (setR S.bd b .asleep G').key])):=λhn=>by
    have k2:=k;rw[show (Dd.look b).run q S=_ from Vd hn]at k2;exact k2 (.bl D') _ (Y.setSl b .asleep rfl) ⟨Rd.i.und,Rd.i.tkd,λc=>by have:=rl c;show (S.rs c).length <= _;omega,by have:=Rd.i.hl;show S.hs.length <= _;omega⟩ rfl (rN (.inr (.inr (.inl rfl))))
   refine⟨_,rfl,gg Y.ob G.al G.iL II ⟨_,rfl,?_⟩⟩;cases hfk:q.fk with
  |false =>
    refine fP ?_;exact⟨_,rfl,gg Y.ob G.al G.aZ cF ⟨_,rfl,y.sl,_,_,_,rfl,rfl,Y.sl,zN,by rw[show (V.str "asleep":V)=.str (Bd.key .asleep) from rfl,vg];exact bad (by rw[hfk];exact λz=>by cases z.1)⟩⟩
  |true =>
    refine cW ?_;refine⟨_,rfl,dX Y.ob (eN (by decide +kernel)) ⟨_,rfl,y,q,S,b,rfl,Y,Rd.ok,_,rfl,?_⟩⟩;cases hw:swT q S b with
   |false =>
     refine fP ?_;exact⟨_,rfl,gg Y.ob G.al G.aZ cF ⟨_,rfl,y.sl,_,_,_,rfl,rfl,Y.sl,zN,by rw[show (V.str "asleep":V)=.str (Bd.key .asleep) from rfl,vg];exact bad (by rw[hw];exact λz=>by cases z.2)⟩⟩
   |true =>
     refine cW ?_;refine⟨_,rfl,gg Y.ob G.al G.b7 fZ (dX Y.x.st.ob (cr (by decide +kernel) (by decide +kernel)) ⟨_,rfl,_,rfl,a.aO,_,sdI b,.str (lj b).key,rfl,rfl,G.fV _,zn,y.sa,S.m,S.rs,b,.str (lj b).key,.int 0,.c (lj b) 0,rfl,Y.x.st,by have:=rl b;omega,kS (zQ _),rfl,trivial,λH1 st1 kp1=>?_⟩)⟩;have Y1:=Bu Y st1 kp1;refine⟨_,rfl,gg Y1.ob G.al G.aZ cF ⟨_,rfl,y.sl,_,_,_,rfl,rfl,Y1.sl,zN,?_⟩⟩;rw[show (V.str "up":V)=.str (Bd.key .up) from rfl,vg];have Y2:=Y1.setSl b .up rfl;have k2:=k;rw[show (Dd.look b).run q S=_ from Vc ⟨hfk,hw⟩]at k2;exact k2 (.bl G') _ Y2 ⟨Rd.i.und,Rd.i.tkd,kn rl b (by rw[Nj];have:=rl b;show _+1 <= _;omega),by have:=Rd.i.hl;show S.hs.length <= _;omega⟩ rfl (uV (KM kp1) (rN (.inr (.inr (.inl rfl)))))
def Dz (G:Gs K mg a d):FnOk P w K mg base CX0 8 a.dE d.dE ["self","side"] (Fu w a):=by
 have Ug:FnOk P w K mg base CX0 1 _ _ _ _:=(mB G).imp λvs H Q E=>D0
 have Ub:FnOk P w K mg base CX0 2 _ _ _ _:=(yN G).imp λvs H Q E=>Gd
 refine G.uT.ok rW (λvs H Q E h=>?_) (λcdv A' outer s' H vs Q E hr h=>?_)
 . obtain⟨y,q,S,L,b,rfl,_⟩:=h;rfl
 . obtain⟨y,q,S,L,b,rfl,Rd,k⟩:=h;have Y:=Rd.y;have ll:=Rd.l;have rl:=Rd.i.len;have hu:=bU hr;refine⟨_,((@aL _ _ _ _ (av (ak (pv 0) rfl) G.aG G.cY Ug (hr.mono (by decide)) G.eC .nil aq ((pv 1)∣((@az _ _ _ _ _ _ _ aF (f6 (v:=.ref a.aO) (by rfl) G.ga rfl) (pv 1) (λ_ _=>rfl))∣(ag∣aa)))) (by rfl))∪(@kj _ _ _ _ _ (aI (bP (ak (pv 0) rfl)) (@ao _ _ _ (@aL _ _ _ _ (av (ak (pv 0) rfl) G.aG G.ly Ub (hr.mono (by decide)) G.m6 .nil aq ((pv 1)∣aa)) (by rfl))) am)
    (@ao _ _ _ (@lv _ _ _ _ _ _ aj (lA (ak (pv 0) rfl) (pv 1) fi) (by rfl) (by rfl) (by rfl))))),?_⟩
   refine⟨_,rfl,gg Y.ob G.al G.b7 fZ (dX Y.x.st.ob (cr (by decide +kernel) (by decide +kernel)) ⟨_,rfl,_,rfl,a.aO,_,sdI b,.str (lj b).key,rfl,rfl,G.fV _,zn,y.sa,S.m,S.rs,b,.str (lj b).key,.int 1,.c (lj b) 1,rfl,Y.x.st,by have:=rl b;omega,kS (zQ _),rfl,trivial,λH1 st1 kp1=>?_⟩)⟩;have Y1:=Bu Y st1 kp1;have rl1:∀ c,((S.wr b (.c (lj b) 1)).rs c).length <= L+2:=kn rl b (by rw[Nj];have:=rl b;show _+1 <= _;omega);refine⟨λσ' H'=>σ'=[f' (.ref y.y),f' (.int (sdI b))]/\KO y.own H H'/\∃ S2:YS,S2=(if q.fl then (S.wr b (.c (lj b) 1)).fence b else S.wr b (.c (lj b) 1))/\Yn w a.aY a.c9 a.aM a.bB a.aD H' y q S2,?_,?_⟩
   . refine⟨_,rfl,gg Y1.ob G.al G.gX Jo ⟨_,rfl,?_⟩⟩;cases hfl:q.fl with
    |true =>
      refine fP ?_;refine⟨_,rfl,gg Y1.ob G.al G.b7 fZ (dX Y1.x.st.ob (cr (by decide +kernel) (by decide +kernel)) ⟨_,rfl,y.sa,_,_,b,rfl,Y1.x.st,by have:=rl1 b;omega,λH2 st2 kp2=>⟨rfl,uV (KM kp1) (LJ kp2),_,rfl,FR Y1 st2 kp2⟩⟩)⟩
    |false=>exact cW ⟨rfl,KM kp1,_,rfl,Y1⟩
   . rintro σ' H2 ⟨rfl,ko,S2,hS2,Y2⟩;refine⟨_,rfl,gg Y2.ob G.al G.aZ cF ⟨_,rfl,y.sl,_,_,_,rfl,rfl,Y2.sl,zN,?_⟩⟩;rw[show (V.str "lies":V)=.str (Bd.key .lies) from rfl,vg];have Y3:=Y2.setSl b .lies rfl;have k2:Bh w a y q { S2 with bd:=setR S2.bd b .lies } L .none H Q:=by rw[hS2];exact k
     have hun:S2.un=S.un/\S2.tk=S.tk/\S2.hs=S.hs/\∀ c,(S2.rs c).length <= L+2:=by
      rw[hS2];cases q.fl with
     |true =>
       refine⟨rfl,rfl,rfl,λc=>?_⟩;show (setR _ b [] c).length <= _;by_cases e:c=b
       . subst e;rw[ba];exact Ou _
       . rw[eS e];exact rl1 c
     |false=>exact⟨rfl,rfl,rfl,rl1⟩
     exact k2 .non _ Y3 ⟨by show Nms _ S2.un;rw[hun.1];exact Rd.i.und,by show Nms _ S2.tk;rw[hun.2.1];exact Rd.i.tkd,hun.2.2.2,by have:=Rd.i.hl;show S2.hs.length <= _;rw[hun.2.2.1];omega⟩ rfl (uV ko (rN (.inr (.inr (.inl rfl)))))
def B2 (G:Gs K mg a d):FnOk P w K mg base CX0 8 a.cE d.cE ["self","side"] (D1 w a):=by
 have Ug:FnOk P w K mg base CX0 1 _ _ _ _:=(mB G).imp λvs H Q E=>D0
 have Ub:FnOk P w K mg base CX0 2 _ _ _ _:=(yN G).imp λvs H Q E=>Gd
 have Ud:FnOk P w K mg base CX0 2 _ _ _ _:=(uM G).imp λvs H Q E=>Lf
 refine G.rD.ok kQ (λvs H Q E h=>?_) (λcdv A' outer s' H vs Q E hr h=>?_)
 . obtain⟨y,q,S,L,b,rfl,_⟩:=h;rfl
 . obtain⟨y,q,S,L,b,rfl,Rd,k⟩:=h;have Y:=Rd.y;have ll:=Rd.l;have rl:=Rd.i.len;have hu:=bU hr;refine⟨_,((@aJ _ _ 2 _ _ _ _ kQ.nd rfl (NW rfl) (@dA _ _ _ _ _ _ _ _ Bl ag (pv 1)) (by rfl) (by first|exact .inl rfl|exact .inr rfl|assumption))∪(@kj _ _ _ _ _ (aI (bP (ak (pv 0) rfl)) (@ao _ _ _ (@aL _ _ _ _ (av (ak (pv 0) rfl) G.aG G.ly Ub (hr.mono (by decide)) G.m6 .nil aq ((pv 1)∣aa)) (by rfl))) am)
    ((@lv _ _ _ _ _ _ eG (lA (ak (pv 0) rfl) (pv 1) fi) (by rfl) (by rfl) (by rfl))∪((aI (ar (FU hr.units) (av (ak (pv 0) rfl) G.aG G.cR Ud (hr.mono (by decide)) G.dU .nil aq ((pv 1)∣((@az _ _ _ _ _ _ _ aF (f6 (v:=.ref a.aO) (by rfl) G.ga rfl) (pv 2) (λ_ _=>rfl))∣aa))) ag (ay _)) (eG⁻¹) am)∪(@kj _ _ _ _ _ (aI (ar cp (@az _ _ _ _ _ _ _ aC (ak (pv 0) rfl) (pv 2) (λ_ _=>rfl)) aj (ay _)) ((@lv _ _ _ _ _ _ aj (lA (ak (pv 0) rfl) (pv 2) fi) (by rfl) (by rfl) (by rfl))∪(@ao _ _ _ (@aL _ _ _ _ (av (ak (pv 0) rfl) G.aG G.cY Ug (hr.mono (by decide)) G.eC .nil aq ((pv 2)∣((@az _ _ _ _ _ _ _ aF (f6 (v:=.ref a.aO) (by rfl) G.ga rfl) (pv 2) (λ_ _=>rfl))∣(ag∣aa)))) (by rfl)))) am)
    (eG⁻¹)))))),?_⟩
   refine⟨_,rfl,_,_,rfl,rfl,?_⟩;refine⟨λσ' H'=>σ'=[f' (.ref y.y),f' (.int (sdI b)),f' (.int (sdI (!b)))]/\KO y.own H H'/\∃ S1:YS,S1=(if q.fb then S.fence b else S)/\Yn w a.aY a.c9 a.aM a.bB a.aD H' y q S1,?_,?_⟩
   . refine⟨_,rfl,gg Y.ob G.al G.gE IB ⟨_,rfl,?_⟩⟩;cases hfb:q.fb with
    |true =>
      refine fP ?_;refine⟨_,rfl,gg Y.ob G.al G.b7 fZ (dX Y.x.st.ob (cr (by decide +kernel) (by decide +kernel)) ⟨_,rfl,y.sa,_,_,b,rfl,Y.x.st,by have:=rl b;omega,λH2 st2 kp2=>⟨by rw[<-y3];rfl,LJ kp2,_,rfl,FR Y st2 kp2⟩⟩)⟩
    |false=>exact cW ⟨by rw[<-y3];rfl,KO.refl _ _,_,rfl,Y⟩
   . rintro σ' H1 ⟨rfl,ko1,S1,hS1,Y1⟩;refine⟨_,rfl,gg Y1.ob G.al G.eE pj ⟨_,rfl,y.qu,_,_,jN b,rfl,rfl,Y1.qu,zN,?_⟩⟩;rw[IW];have Y2:=Y1.setQu b G' rfl;have ko2:KO y.own H (upd H1 y.qu (.lst [V.bl (setR S1.qt b G' D'),V.bl (setR S1.qt b G' G')])):=uV ko1 (rN (.inr (.inr (.inr (.inl rfl)))));generalize upd H1 y.qu (.lst [V.bl (setR S1.qt b G' D'),V.bl (setR S1.qt b G' G')])=H2 at Y2 ko2 |-;obtain⟨S2,hS2⟩:∃ S2:YS,S2={ S1 with qt:=setR S1.qt b G' }:=⟨_,rfl⟩
     rw[<-hS2]at Y2;have fS:S2.un=S.un/\S2.tk=S.tk/\S2.hs=S.hs/\(∀ c,(S2.rs c).length <= L):=by
      rw[hS2,hS1];cases q.fb with
     |true =>
       refine⟨rfl,rfl,rfl,λc=>?_⟩;show (setR S.rs b [] c).length <= _;by_cases e:c=b
       . subst e;rw[ba];exact Ou _
       . rw[eS e];exact rl c
     |false=>exact⟨rfl,rfl,rfl,rl⟩
     have yi:YI q S2 (L+2):=⟨by rw[fS.1];exact Rd.i.und,by rw[fS.2.1];exact Rd.i.tkd,λc=>by have:=fS.2.2.2 c;omega,by rw[fS.2.2.1];have:=Rd.i.hl;omega⟩
     have hrun:(Dd.bell b).run q S=(if rdC S2.m (S2.rs b) (lj (!b))≠1 then (.bool D',S2) else if S2.bd (!b)=.asleep then (.bool G',({ S2 with bd:=setR S2.bd (!b) .up }:YS).wr (!b) (.c (lj (!b)) 0)) else (.bool G',S2)):=by rw[hS2,hS1];rfl
     rw[hrun]at k;clear hrun hS2 hS1 Y1 ko1;refine⟨_,rfl,gg Y2.ob G.al G.b7 fZ (dX Y2.x.st.ob (cr (by decide +kernel) (by decide +kernel)) ⟨_,rfl,_,rfl,a.aO,_,sdI (!b),.str (lj (!b)).key,rfl,rfl,G.fV _,zn,y.sa,_,_,b,lj (!b),rfl,Y2.x.st,?_⟩)⟩;refine⟨.int (rdC S2.m (S2.rs b) (lj (!b))),.int 1,rfl,rfl,wM.int _,wM.int _,_,rfl,?_⟩;simp only[if_true];by_cases h1:rdC S2.m (S2.rs b) (lj (!b))=1
     . rw[Vd (by rw[h1];exact λz=>z rfl)]at k;refine cu ?_ ?_
       . rw[h1];decide +kernel
       refine⟨λσ' H'=>σ'=[f' (.ref y.y),f' (.int (sdI b)),f' (.int (sdI (!b)))]/\Q (.bl G') H',?_,?_⟩
       . refine⟨_,rfl,gg Y2.ob G.al G.aZ cF ⟨_,rfl,y.sl,_,_,_,rfl,rfl,SqL.of Y2.sl,Hv (!b),rfl,_,rfl,?_⟩⟩;by_cases h2:S2.bd (!b)=.asleep
         . rw[Vc h2]at k;refine iy (Vf (by rw[h2];rfl)) ?_;refine⟨_,rfl,gg Y2.ob G.al G.aZ cF ⟨_,rfl,y.sl,_,_,jN (!b),rfl,rfl,Y2.sl,zN,?_⟩⟩;rw[show (V.str "up":V)=.str (Bd.key .up) from rfl,vg];have Y3:=Y2.setSl (!b) .up rfl;have ko3:KO y.own H (upd H2 y.sl (.lst [V.str (setR S2.bd (!b) .up D').key,V.str (setR S2.bd (!b) .up G').key])):=uV ko2 (rN (.inr (.inr (.inl rfl))));generalize upd H2 y.sl (.lst [V.str (setR S2.bd (!b) .up D').key,V.str (setR S2.bd (!b) .up G').key])=H3 at Y3 ko3 |-;refine⟨_,rfl,gg Y3.ob G.al G.b7 fZ (dX Y3.x.st.ob (cr (by decide +kernel) (by decide +kernel)) ⟨_,rfl,_,rfl,a.aO,_,sdI (!b),.str (lj (!b)).key,rfl,rfl,G.fV _,zn,y.sa,_,_,!b,.str (lj (!b)).key,.int 0,.c (lj (!b)) 0,rfl,Y3.x.st,by have:=fS.2.2.2 (!b);show (S2.rs (!b)).length < _;omega,kS (zQ _),rfl,trivial,λH4 st4 kp4=>⟨rfl,?_⟩⟩)⟩;have Y4:=Bu Y3 st4 kp4;exact k (.bl G') H4 Y4 ⟨yi.und,yi.tkd,kn fS.2.2.2 (!b) (by show (S2.rs (!b)++[_]).length <= _;rw[Nj];have:=fS.2.2.2 (!b);show _+1 <= _;omega),yi.hl⟩ rfl (uV ko3 (KM kp4))
         . rw[Vd h2]at k;refine cu (by rw[Ve];exact Ie h2) ⟨rfl,?_⟩;exact k (.bl G') H2 Y2 yi rfl ko2
       . rintro σ' H' ⟨rfl,k'⟩;exact k'
     . rw[Vc h1]at k;refine iy ?_ (k (.bl D') H2 Y2 yi rfl ko2);rw[Pu];cases z:Ny (.int (rdC S2.m (S2.rs b) (lj (!b)))) (.int 1) with
      |false=>rfl
      |true=>exact absurd (by have:=(MX.eqv_iff _ _ rfl rfl).mp z;injection this) h1
def Ig {q:YP}{S:YS}{wt:Int}(h:(Dd.ask wt).chk q S=Nf):bj q.p S.m (S.rs D') .asked .taken≠q.p.s/\cO q.n S.un≠Nf:=by
 have h':(if S.bd D'=.up then (if bj q.p S.m (S.rs D') .asked .taken=q.p.s then f' Rf.full else match cO q.n S.un with|none=>f' Rf.name|some _=>Nf) else f' Rf.deed)=Nf:=h;split at h'
 . split at h'
   . cases h'
   . rename_i z;refine⟨z,λy=>?_⟩;rw[y]at h';cases h'
 . cases h'
def HU {q:YP}{S:YS}{nm wt:Int}(h:(Dd.answer nm wt).chk q S=Nf):S.tk.contains nm≠D'/\bj q.p S.m (S.rs G') .answered .handed≠q.p.s:=by
 have h':(if S.bd G'=.up then (if S.tk.contains nm=D' then f' Rf.task else if bj q.p S.m (S.rs G') .answered .handed=q.p.s then f' Rf.full else Nf) else f' Rf.deed)=Nf:=h;split at h'
 . split at h'
   . cases h'
   . split at h'
     . cases h'
     . rename_i z1 z2;exact⟨z1,z2⟩
 . cases h'
def C7 {q:YP}{S:YS}{b:Bool}(h:(Dd.drain b).chk q S=Nf):∃ x ck,S.rs b=x :: ck:=by
 cases e:S.rs b with
|cons x ck=>exact⟨x,ck,rfl⟩
|nil =>
  have h':(if S.rs b=[] then f' Rf.deed else Nf)=Nf:=h;rw[e]at h';cases h'
def HQ (w:Nt) (ad:Ad):Sp:=λvs H Q E=>∃ (a:YA) (q:YP) (S:YS) (L:Nat) (x:Dd) (t:K'),vs=[.ref a.y,.ref t]/\Rdy w ad H a q S L/\H t=f' (.tup x.vs)/\x.Ok /\
 match x.chk q S with
|none=>Bh w ad a q (x.run q S).2 L (x.run q S).1 H Q
|some r=>∀ H',bq H H'->E (.ref (rfC ad r)) Nf H'
def BL (G:Gs K mg a d):FnOk P w K mg base (CXv P w) 10 a.gs d.gs ["self","some"] (HQ w a):=by
 have Va:FnOk P w K mg base (CXv P w) 8 _ _ _ _:=uW G;have Uk:FnOk P w K mg base CX0 9 _ _ _ _:=Fw G;have Uj:FnOk P w K mg base CX0 9 _ _ _ _:=FO G;have Ul:FnOk P w K mg base CX0 8 _ _ _ _:=B2 G;have Um:FnOk P w K mg base CX0 8 _ _ _ _:=Dz G;have Uo:FnOk P w K mg base CX0 8 _ _ _ _:=Dl G;have Uw:FnOk P w K mg base CX0 1 _ _ _ _:=Ia G;have Tx:FnOk P w K mg base CX0 7 _ _ _ _:=(Au G).imp λvs H Q E=>FN
 have TJ:FnOk P w K mg base CX0 7 _ _ _ _:=(Dy G).imp λvs H Q E=>LR
 have Ua:FnOk P w K mg base CX0 1 _ _ _ _:=(yG G).imp λvs H Q E=>Jb
 refine G.xr.okX (k:=9) o4 (λvs H Q E h=>?_) (λcdv A' outer s' H vs Q E hr hR h=>?_)
 . obtain⟨y,q,S,L,x,t,rfl,_⟩:=h;rfl
 . obtain⟨y,q,S,L,x,t,rfl,Rd,ht,hx,k⟩:=h;have hu:=bU hr;refine⟨_,((@aL _ _ _ _ (av (pv 0) G.al G.mF Va (hr.mono (by decide)) G.o5 .nil hR.passes ((pv 1)∣aa)) (by rfl))∪((@aJ _ _ 2 _ _ _ _ o4.nd rfl (NW rfl) (@az _ _ _ _ _ _ _ aF (pv 1) ag (λ_ _=>rfl)) (by rfl) (by first|exact .inl rfl|exact .inr rfl|assumption))∪((aI (ar cp (pv 2) aj (ay _)) ((av (pv 0) G.al G.rP Uk (hr.mono (by decide)) G.sV .nil aq ((@az _ _ _ _ _ _ _ aF (pv 1) ag (λ_ _=>rfl))∣aa))⁻¹) am)∪((aI (ar cp (pv 2) aj (ay _)) ((av (pv 0) G.al G.fQ Uw (hr.mono (by decide)) G.gI .nil aq (aj∣((aS (ak (pv 0) rfl) G.bS G.pE Tx (hr.mono (by decide)) G.rK .nil aq)∣aa)))⁻¹) am)∪((aI (ar cp (pv 2) aj (ay _)) ((av (pv 0) G.al G.fQ Uw (hr.mono (by decide)) G.gI .nil aq (aj∣((aS (ak (pv 0) rfl) G.bL G.ub TJ (hr.mono (by decide)) G.wm .nil aq)∣aa)))⁻¹) am)∪((aI (ar cp (pv 2) aj (ay _)) ((av (pv 0) G.al G.nG Uj (hr.mono (by decide)) G.oE .nil aq ((@az _ _ _ _ _ _ _ aF (pv 1) ag (λ_ _=>rfl))∣((@az _ _ _ _ _ _ _ aF (pv 1) ag (λ_ _=>rfl))∣aa)))⁻¹) am)∪((aI (ar cp (pv 2) aj (ay _)) ((av (pv 0) G.al G.qc Ul (hr.mono (by decide)) G.rH .nil aq ((@az _ _ _ _ _ _ _ aF (pv 1) ag (λ_ _=>rfl))∣aa))⁻¹) am)∪((aI (ar cp (pv 2) aj (ay _)) ((av (pv 0) G.al G.rk Um (hr.mono (by decide)) G.ur .nil aq ((@az _ _ _ _ _ _ _ aF (pv 1) ag (λ_ _=>rfl))∣aa))⁻¹) am)∪((aI (ar cp (pv 2) aj (ay _)) ((av (pv 0) G.al G.qS Uo (hr.mono (by decide)) G.rE .nil aq ((@az _ _ _ _ _ _ _ aF (pv 1) ag (λ_ _=>rfl))∣aa))⁻¹) am)∪((av (ak (pv 0) rfl) G.aG G.lw Ua (hr.mono (by decide)) G.mq .nil aq ((@az _ _ _ _ _ _ _ aF (pv 1) ag (λ_ _=>rfl))∣aa))⁻¹)))))))))),?_⟩;refine⟨_,rfl,dX Rd.y.ob (eN (by decide +kernel)) ⟨_,rfl,y,q,S,x,t,rfl,Rd.y,Rd.ok,ht,hx,λH1 e1=>?_⟩⟩;cases hc:x.chk q S with
  |some r =>
    rw[hc]at k;exact k H1 e1
  |none =>
    rw[hc]at k;have Rd1:Rdy w a H1 y q S L:=⟨Rd.y.same e1,Rd.ok,Rd.i,Rd.l⟩
    have k1:Bh w a y q (x.run q S).2 L (x.run q S).1 H1 Q:=λv H' Y' i' dv ko=>k v H' Y' i' dv (uV (KO.of_same e1) ko)
    have ht1:=e1 _ _ ht;clear k ht Rd e1;refine⟨_,rfl,t,_,_,_,rfl,rfl,SqT.of ht1,by rw[x.vs_eq];exact aP,?_⟩;cases x with
   |ask wt =>
     refine⟨_,rfl,rfl,_,rfl,iy (Vf rfl) ?_⟩;obtain⟨c1,c2⟩:=Ig hc;exact⟨_,rfl,dX Rd1.y.ob (eN (by decide +kernel)) ⟨_,rfl,t,_,_,_,rfl,rfl,SqT.of ht1,rfl,y,q,S,L,wt,rfl,Rd1,c1,c2,k1⟩⟩
   |collect =>
     refine⟨_,rfl,rfl,_,rfl,cu (by rw[Ve];exact sne (show ¬ (("collect":Str)="ask") by decide +kernel)) ?_⟩;refine⟨_,rfl,rfl,_,rfl,iy (Vf rfl) ?_⟩;refine⟨_,rfl,dX Rd1.y.ob (eN (by decide +kernel)) ⟨_,rfl,gg Rd1.y.ob G.al G.fC ue (dX Rd1.y.x.hn.ob zP ⟨y.z,y.sa,q.p,_,S.un,S.m,S.rs,rfl,Rd1.y.x.hn,Rd1.y.x.st,Rd1.ok.ok,by have:=Rd1.i.len D';have:=Rd1.l;omega,?_⟩)⟩⟩;have rl:=Rd1.i.len;have hsl:=Rd1.i.hl;have ll:=Rd1.l;unfold Dd.run at k1;by_cases h0:bj q.p S.m (S.rs D') .answered .handed=0
     . rw[Vc h0]at k1 |-;exact⟨y,q,S,"handed",.non,rfl,Rd1.y,by omega,.inl ⟨rfl,k1 .non H1 Rd1.y (Rd1.i.mono (by omega)) rfl (KO.refl _ _)⟩⟩
     . rw[Vd h0]at k1 |-;have rl2:∀ c,(setR S.rs D' (S.rs D'++[lG q.p S.m (S.rs D') .handed]) c).length <= L+2:=kn rl D' (by rw[Nj];have:=rl D';show _+1 <= _;omega);cases hrd:rdP S.m (S.rs D') G' (rdC S.m (S.rs D') .handed % q.p.s) with
      |none =>
        rw[hrd]at k1;intro c H2 hc2 hn2 st2 kp2;have Y2:=Rd1.y.parts (Rd1.y.x.hand hn2 st2 kp2) kp2 sA;refine⟨y,q,_,"handed",.ref c,rfl,Y2,by show S.hs.length < _;omega,.inr ⟨c,.non,.non,.none,.none,rfl,hc2,rfl,rfl,rfl,rfl,λH3 Y3 ko3 hc3=>k1 (.ref c) H3 Y3 ⟨Rd1.i.und,Rd1.i.tkd,rl2,?_⟩ ⟨c,_,rfl,hc3,_,_,rfl,rfl,_,_,rfl,rfl,rfl⟩ (uV (KO.of_kp kp2 λc hc=>.inr (.inl (sA c hc))) ko3)⟩⟩;show (S.hs++[_]).length <= _;rw[Nj];show _+1 <= _;omega
      |some nw =>
        rw[hrd]at k1;intro c H2 hc2 hn2 st2 kp2;have Y2:=Rd1.y.parts (Rd1.y.x.hand hn2 st2 kp2) kp2 sA;refine⟨y,q,_,"handed",.ref c,rfl,Y2,by show S.hs.length < _;omega,.inr ⟨c,.int nw.1,.int nw.2,.int nw.1,.int nw.2,rfl,hc2,rfl,rfl,rfl,rfl,λH3 Y3 ko3 hc3=>k1 (.ref c) H3 Y3 ⟨Rd1.i.und.filter,Rd1.i.tkd,rl2,?_⟩ (DV2 hc3) (uV (KO.of_kp kp2 λc hc=>.inr (.inl (sA c hc))) ko3)⟩⟩;show (S.hs++[_]).length <= _;rw[Nj];show _+1 <= _;omega
   |take =>
     refine⟨_,rfl,rfl,_,rfl,cu (by rw[Ve];exact sne (show ¬ (("take":Str)="ask") by decide +kernel)) ?_⟩;refine⟨_,rfl,rfl,_,rfl,cu (by rw[Ve];exact sne (show ¬ (("take":Str)="collect") by decide +kernel)) ?_⟩;refine⟨_,rfl,rfl,_,rfl,iy (Vf rfl) ?_⟩;refine⟨_,rfl,dX Rd1.y.ob (eN (by decide +kernel)) ⟨_,rfl,gg Rd1.y.ob G.al G.cQ mM (dX Rd1.y.x.tn.ob GU ⟨y.zt,y.sa,q.p,S.tk,S.m,S.rs,rfl,Rd1.y.x.tn,Rd1.y.x.st,Rd1.ok.ok,by have:=Rd1.i.tkd.len (by omega);omega,by have:=Rd1.i.len G';have:=Rd1.l;omega,?_⟩)⟩⟩;have rl:=Rd1.i.len;have hsl:=Rd1.i.hl;have ll:=Rd1.l;unfold Dd.run at k1;by_cases h0:bj q.p S.m (S.rs G') .asked .taken=0
     . rw[Vc h0]at k1 |-;exact⟨y,q,S,"taken",.non,rfl,Rd1.y,by omega,.inl ⟨rfl,k1 .non H1 Rd1.y (Rd1.i.mono (by omega)) rfl (KO.refl _ _)⟩⟩
     . rw[Vd h0]at k1 |-;have rl2:∀ c,(setR S.rs G' (S.rs G'++[lG q.p S.m (S.rs G') .taken]) c).length <= L+2:=kn rl G' (by rw[Nj];have:=rl G';show _+1 <= _;omega);cases hrd:rdP S.m (S.rs G') D' (rdC S.m (S.rs G') .taken % q.p.s) with
      |none =>
        rw[hrd]at k1;intro c H2 hc2 tn2 st2 kp2;have Y2:=Rd1.y.parts (Rd1.y.x.heart tn2 st2 kp2) kp2 sJ;refine⟨y,q,_,"taken",.ref c,rfl,Y2,by show S.hs.length < _;omega,.inr ⟨c,.non,.non,.none,.none,rfl,hc2,rfl,rfl,rfl,rfl,λH3 Y3 ko3 hc3=>k1 (.ref c) H3 Y3 ⟨Rd1.i.und,Rd1.i.tkd,rl2,?_⟩ ⟨c,_,rfl,hc3,_,_,rfl,rfl,_,_,rfl,rfl,rfl⟩ (uV (KO.of_kp kp2 λc hc=>.inr (.inl (sJ c hc))) ko3)⟩⟩;show (S.hs++[_]).length <= _;rw[Nj];show _+1 <= _;omega
      |some nw =>
        rw[hrd]at k1;intro c H2 hc2 tn2 st2 kp2;have Y2:=Rd1.y.parts (Rd1.y.x.heart tn2 st2 kp2) kp2 sJ;have nok:0 <= nw.1/\nw.1 < 9:=Rd1.y.x.st.names hrd;refine⟨y,q,_,"taken",.ref c,rfl,Y2,by show S.hs.length < _;omega,.inr ⟨c,.int nw.1,.int nw.2,.int nw.1,.int nw.2,rfl,hc2,rfl,rfl,rfl,rfl,λH3 Y3 ko3 hc3=>k1 (.ref c) H3 Y3 ⟨Rd1.i.und,Rd1.i.tkd.next nok,rl2,?_⟩ (DV2 hc3) (uV (KO.of_kp kp2 λc hc=>.inr (.inl (sJ c hc))) ko3)⟩⟩;show (S.hs++[_]).length <= _;rw[Nj];show _+1 <= _;omega
   |answer nm wt =>
     refine⟨_,rfl,rfl,_,rfl,cu (by rw[Ve];exact sne (show ¬ (("answer":Str)="ask") by decide +kernel)) ?_⟩;refine⟨_,rfl,rfl,_,rfl,cu (by rw[Ve];exact sne (show ¬ (("answer":Str)="collect") by decide +kernel)) ?_⟩;refine⟨_,rfl,rfl,_,rfl,cu (by rw[Ve];exact sne (show ¬ (("answer":Str)="take") by decide +kernel)) ?_⟩;refine⟨_,rfl,rfl,_,rfl,iy (Vf rfl) ?_⟩;obtain⟨c1,c2⟩:=HU hc;exact⟨_,rfl,dX Rd1.y.ob (eN (by decide +kernel)) ⟨_,rfl,t,_,_,_,rfl,rfl,SqT.of ht1,rfl,_,rfl,t,_,_,_,rfl,rfl,SqT.of ht1,rfl,y,q,S,L,nm,wt,rfl,Rd1,c1,c2,k1⟩⟩
   |bell b =>
     refine⟨_,rfl,rfl,_,rfl,cu (by rw[Ve];exact sne (show ¬ (("bell":Str)="ask") by decide +kernel)) ?_⟩;refine⟨_,rfl,rfl,_,rfl,cu (by rw[Ve];exact sne (show ¬ (("bell":Str)="collect") by decide +kernel)) ?_⟩;refine⟨_,rfl,rfl,_,rfl,cu (by rw[Ve];exact sne (show ¬ (("bell":Str)="take") by decide +kernel)) ?_⟩;refine⟨_,rfl,rfl,_,rfl,cu (by rw[Ve];exact sne (show ¬ (("bell":Str)="answer") by decide +kernel)) ?_⟩;refine⟨_,rfl,rfl,_,rfl,iy (Vf rfl) ?_⟩;exact⟨_,rfl,dX Rd1.y.ob (eN (by decide +kernel)) ⟨_,rfl,t,_,_,_,rfl,rfl,SqT.of ht1,rfl,y,q,S,L,b,rfl,Rd1,k1⟩⟩
   |lie b =>
     refine⟨_,rfl,rfl,_,rfl,cu (by rw[Ve];exact sne (show ¬ (("lie":Str)="ask") by decide +kernel)) ?_⟩;refine⟨_,rfl,rfl,_,rfl,cu (by rw[Ve];exact sne (show ¬ (("lie":Str)="collect") by decide +kernel)) ?_⟩;refine⟨_,rfl,rfl,_,rfl,cu (by rw[Ve];exact sne (show ¬ (("lie":Str)="take") by decide +kernel)) ?_⟩;refine⟨_,rfl,rfl,_,rfl,cu (by rw[Ve];exact sne (show ¬ (("lie":Str)="answer") by decide +kernel)) ?_⟩;refine⟨_,rfl,rfl,_,rfl,cu (by rw[Ve];exact sne (show ¬ (("lie":Str)="bell") by decide +kernel)) ?_⟩;refine⟨_,rfl,rfl,_,rfl,iy (Vf rfl) ?_⟩;exact⟨_,rfl,dX Rd1.y.ob (eN (by decide +kernel)) ⟨_,rfl,t,_,_,_,rfl,rfl,SqT.of ht1,rfl,y,q,S,L,b,rfl,Rd1,k1⟩⟩
   |look b =>
     refine⟨_,rfl,rfl,_,rfl,cu (by rw[Ve];exact sne (show ¬ (("look":Str)="ask") by decide +kernel)) ?_⟩;refine⟨_,rfl,rfl,_,rfl,cu (by rw[Ve];exact sne (show ¬ (("look":Str)="collect") by decide +kernel)) ?_⟩;refine⟨_,rfl,rfl,_,rfl,cu (by rw[Ve];exact sne (show ¬ (("look":Str)="take") by decide +kernel)) ?_⟩;refine⟨_,rfl,rfl,_,rfl,cu (by rw[Ve];exact sne (show ¬ (("look":Str)="answer") by decide +kernel)) ?_⟩;refine⟨_,rfl,rfl,_,rfl,cu (by rw[Ve];exact sne (show ¬ (("look":Str)="bell") by decide +kernel)) ?_⟩;refine⟨_,rfl,rfl,_,rfl,cu (by rw[Ve];exact sne (show ¬ (("look":Str)="lie") by decide +kernel)) ?_⟩;refine⟨_,rfl,rfl,_,rfl,iy (Vf rfl) ?_⟩;exact⟨_,rfl,dX Rd1.y.ob (eN (by decide +kernel)) ⟨_,rfl,t,_,_,_,rfl,rfl,SqT.of ht1,rfl,y,q,S,L,b,rfl,Rd1,k1⟩⟩
   |drain b =>
     refine⟨_,rfl,rfl,_,rfl,cu (by rw[Ve];exact sne (show ¬ (("drain":Str)="ask") by decide +kernel)) ?_⟩;refine⟨_,rfl,rfl,_,rfl,cu (by rw[Ve];exact sne (show ¬ (("drain":Str)="collect") by decide +kernel)) ?_⟩;refine⟨_,rfl,rfl,_,rfl,cu (by rw[Ve];exact sne (show ¬ (("drain":Str)="take") by decide +kernel)) ?_⟩;refine⟨_,rfl,rfl,_,rfl,cu (by rw[Ve];exact sne (show ¬ (("drain":Str)="answer") by decide +kernel)) ?_⟩;refine⟨_,rfl,rfl,_,rfl,cu (by rw[Ve];exact sne (show ¬ (("drain":Str)="bell") by decide +kernel)) ?_⟩;refine⟨_,rfl,rfl,_,rfl,cu (by rw[Ve];exact sne (show ¬ (("drain":Str)="lie") by decide +kernel)) ?_⟩;refine⟨_,rfl,rfl,_,rfl,cu (by rw[Ve];exact sne (show ¬ (("drain":Str)="look") by decide +kernel)) ?_⟩;obtain⟨x,ck,hb⟩:=C7 hc;have rl:=Rd1.i.len;have k2:Bh w a y q { S with m:=S.m.put x,rs:=setR S.rs b ck } L .none H1 Q:=by
      have e:(Dd.drain b).run q S=(.none,{ S with m:=S.m.put x,rs:=setR S.rs b ck }):=by
       show (match S.rs b with|x :: ck=>_|[]=>_)=_;rw[hb]
      rw[e]at k1;exact k1
     refine⟨_,rfl,gg Rd1.y.ob G.al G.b7 fZ (dX Rd1.y.x.st.ob (cr (by decide +kernel) (by decide +kernel)) ⟨_,rfl,t,_,_,_,rfl,rfl,SqT.of ht1,rfl,y.sa,S.m,S.rs,b,x,ck,rfl,Rd1.y.x.st,hb,λH2 st2 kp2=>?_⟩)⟩;refine k2 .non H2 (Rd1.y.parts (Rd1.y.x.store st2 kp2) kp2 wF) ⟨Rd1.i.und,Rd1.i.tkd,kn rl b (by have:=rl b;rw[hb,NM]at this;omega),by have:=Rd1.i.hl;show S.hs.length <= _;omega⟩ rfl (LJ kp2)
def Ft (CJ:K'):Sp:=λvs H Q _=>∃ (j dx:K'),vs=[.ref j]/\H j=f' (.ins CJ dx []) /\
 ∀ (z:JA) (H':Hp),z.j=j->H z.u=Nf->H z.h=Nf->H z.g=Nf->H z.d=Nf->Jn CJ H' z [] [] [] []->Kp [j] H H'->Q .non H'
def Iu (CJ:K'):Sp:=λvs H Q _=>∃ (z:JA) (un uh:List (Int × Int)) (go do':List Int) (h:Hap),vs=[.ref z.j,.str h.w.key,.int h.n,.int h.o]/\Jn CJ H z un uh go do'/\un.length < 1000/\uh.length < 1000/\∀ H',bq H H'->Q (.bl (GS un uh go do' h)) H'
def Hq (CJ:K'):Sp:=λvs H Q _=>∃ (z:JA) (ah:List Hap) (un uh:List (Int × Int)) (go do':List Int) (h:Hap),vs=[.ref z.j,.str h.w.key,.int h.n,.int h.o]/\Jn CJ H z un uh go do'/\JI ah un uh go do'/\xa ah h=G'/\ah.length < 1000 /\
 ∀ H' un' uh' go' do2,Jn CJ H' z un' uh' go' do2->JI (ah++[h]) un' uh' go' do2->KO z.own H H'->Kt H H'->Q .non H'
def Eo (G:Gs K mg a d):FnOk P w K mg base CX0 1 a.dJ d.dJ ["self"] (Ft a.gP):=by
 refine G.tE.ok rh (λvs H Q E h=>?_) (λcdv A outer s H vs Q E hr h=>?_)
 . obtain⟨j,dx,rfl,_⟩:=h;rfl
 . obtain⟨j,dx,rfl,hj,k⟩:=h;refine⟨_,((bo (pv 0) (@bG _ _ _ _ aa) rfl)∪((bo (pv 0) (@bG _ _ _ _ aa) rfl)∪((bo (pv 0) pe rfl)∪(@ao _ _ _ (bo (pv 0) pe rfl))))),?_⟩;refine⟨DP,λu hu=>?_⟩;obtain⟨a1,a2,a3,a4⟩:=t7 (o:=.lst []) (f:="untaken") hj hu;refine⟨_,rfl,j,a.gP,dx,[],rfl,a3,G.br,G.cf,by decide,?_⟩;generalize upd (upd H u (.lst [])) j (.ins a.gP dx (bp "untaken" (.ref u) []))=H1 at a1 a2 a4 |-;refine⟨DP,λh hh=>?_⟩;obtain⟨b1,b2,b3,b4⟩:=t7 (o:=.lst []) (f:="unhanded") a1 hh;refine⟨_,rfl,j,a.gP,dx,_,rfl,b3,G.br,G.bT,by show 1 < 1000;decide,?_⟩;generalize upd (upd H1 h (.lst [])) j (.ins a.gP dx (bp "unhanded" (.ref h) (bp "untaken" (.ref u) [])))=H2 at b1 b2 b4 |-;intro g hg;obtain⟨c1,c2,c3,c4⟩:=t7 (o:=.dK []) (f:="going") b1 hg;refine⟨_,rfl,j,a.gP,dx,_,rfl,c3,G.br,G.fu,by show 2 < 1000;decide,?_⟩;generalize upd (upd H2 g (.dK [])) j (.ins a.gP dx (bp "going" (.ref g) (bp "unhanded" (.ref h) (bp "untaken" (.ref u) []))))=H3 at c1 c2 c4 |-;intro d' hd;obtain⟨d1,d2,d3,d4⟩:=t7 (o:=.dK []) (f:="doing") c1 hd;refine⟨_,rfl,j,a.gP,dx,_,rfl,d3,G.br,G.fw,by show 3 < 1000;decide,?_⟩;generalize upd (upd H3 d' (.dK [])) j (.ins a.gP dx (bp "doing" (.ref d') (bp "going" (.ref g) (bp "unhanded" (.ref h) (bp "untaken" (.ref u) [])))))=H4 at d1 d2 d4 |-;have nb:∀ {H' H'':Hp} {c:K'} {C fs},H' j=f' (.ins C dx fs)->(∀ c u,c≠j->H' c=f' u->H'' c=f' u)->H'' c=Nf->H'' j≠Nf->H' c=Nf:=λ{H' H'' c C fs} q1 q2 q3 q4=>by
    cases y:H' c with
   |none=>rfl
   |some o =>
     by_cases e:c=j
     . rw[e]at q3;exact absurd q3 q4
     . rw[q2 c o e y]at q3;cases q3
   have nn:∀ {H':Hp} {o:HO},H' j=f' o->H' j≠Nf:=λe z=>by rw[e]at z;cases z
   have uj:u≠j:=λy=>by rw[y,hj]at hu;cases hu
   have hj':h≠j:=λy=>by rw[y,a1]at hh;cases hh
   have gj:g≠j:=λy=>by rw[y,b1]at hg;cases hg
   have u2:=b4 _ _ uj a2;have u4:=d4 _ _ uj (c4 _ _ uj u2);have h4:=d4 _ _ hj' (c4 _ _ hj' b2);have g4:=d4 _ _ gj c2;have hhH:=nb hj a4 hh (nn a1);have hgH:=nb hj a4 (nb a1 b4 hg (nn b1)) (nn a1);have hdH:=nb hj a4 (nb a1 b4 (nb b1 c4 hd (nn c1)) (nn b1)) (nn a1);refine k ⟨j,u,h,g,d'⟩ H4 rfl hu hhH hgH hdH ⟨⟨dx,d1⟩,⟨[],u4,.nil⟩,⟨[],h4,.nil⟩,g4,d2,ac a2 hh,ac c2 hd⟩ λc o nc e=>?_
   have nc':c≠j:=λy=>nc (Nd.mpr y)
   exact d4 _ _ nc' (c4 _ _ nc' (b4 _ _ nc' (a4 _ _ nc' e)))
def GF (G:Gs K mg a d):FnOk P w K mg base CX0 1 a.cL d.cL ["self","word","name","worth"] (Iu a.gP):=by
 refine G.oj.ok mS (λvs H Q E h=>?_) (λcdv A outer s H vs Q E hr h=>?_)
 . obtain⟨z,un,uh,go,do',h,rfl,_⟩:=h;rfl
 . obtain⟨z,un,uh,go,do',⟨wd,n,o⟩,rfl,J,lu,lh,k⟩:=h;have hu:=bU hr;refine⟨_,((aI (ar cp (pv 1) aj (ay _)) ((ym (mX hu (pv 2) (ak (pv 0) rfl)))⁻¹) am)∪((aI (ar cp (pv 1) aj (ay _)) ((cc (qD hr.units) (d6 ib (ak (pv 0) rfl) iw (eB ag)) (@bG _ _ _ _ ((@bi _ _ _ _ _ ((pv 2)∣((pv 3)∣aa)))∣aa)) (ay _))⁻¹) am)∪((aI (ar cp (pv 1) aj (ay _)) ((ym (GA hu (pv 2) (ak (pv 0) rfl)))⁻¹) am)∪((cc (qD hr.units) (d6 ib (ak (pv 0) rfl) iw (eB ag)) (@bG _ _ _ _ ((@bi _ _ _ _ _ ((pv 2)∣((pv 3)∣aa)))∣aa)) (ay _))⁻¹)))),?_⟩;obtain⟨dx,hx⟩:=J.ob;cases wd with
  |asked =>
    refine⟨_,rfl,rfl,_,rfl,pL rfl ?_⟩;refine⟨_,rfl,_,rfl,fld hx G.br G.fu La ⟨z.g,_,rfl,Dv.k (k:=.inl n) J.g,?_⟩⟩;have q:=k H (bq.refl _);rw[km];show Q (.bl (!(if go.contains n=G' then f' (V.bl G') else Nf).isSome)) H;have e:(if go.contains n=G' then f' (V.bl G') else Nf).isSome=go.contains n:=by cases go.contains n<;>rfl
    rw[e];exact q
  |taken =>
    refine⟨_,rfl,rfl,_,rfl,iJ (sne (show Wd.key .taken≠"asked" by decide +kernel)) ⟨_,rfl,rfl,_,rfl,pL rfl ?_⟩⟩;obtain⟨ts,e0,pr⟩:=J.u;refine⟨_,rfl,fld hx G.br G.cf KL ⟨_,rfl,z.u,ts,rfl,SqL.of e0,λq hq=>⟨_,rfl,_,rfl,l2,λt ht=>⟨zY,λc hc=>?_⟩⟩⟩⟩;have s1:=af (o:=.lst (lx ts Nf (f' 1))) hq;have s2:=af (o:=.tup [V.int n,V.int o]) ht;have s3:=af (o:=.lst [V.ref t]) hc;have cq:lx ts Nf (f' 1)=ts.take 1:=uF ts 1;have pr1:NF (PV H) (un.take 1) (lx ts Nf (f' 1)):=by rw[cq];exact gi 1 pr
    refine⟨.list ((un.take 1).map pvD),.list ([(n,o)].map pvD),⟨q,_,rfl,s3 _ _ (s2 _ _ a8),?_⟩,⟨c,_,rfl,a8,pS (.cons ⟨t,rfl,s3 _ _ a8⟩ .nil)⟩,sM _,sM _,?_⟩
    . exact pS (Paired.mapP pr1 λ_ _ h=>h.keep (s1.trans (s2.trans s3)).kt)
    . rw[C6];exact k _ (s1.trans (s2.trans s3))
  |answered =>
    refine⟨_,rfl,rfl,_,rfl,iJ (sne (show Wd.key .answered≠"asked" by decide +kernel)) ⟨_,rfl,rfl,_,rfl,iJ (sne (show Wd.key .answered≠"taken" by decide +kernel)) ⟨_,rfl,rfl,_,rfl,pL rfl ?_⟩⟩⟩;refine⟨_,rfl,_,rfl,fld hx G.br G.fw Lz ⟨z.d,_,rfl,Dv.k (k:=.inl n) J.d,?_⟩⟩;have q:=k H (bq.refl _);rw[km];show Q (.bl ((if do'.contains n=G' then f' (V.bl G') else Nf).isSome)) H;have e:(if do'.contains n=G' then f' (V.bl G') else Nf).isSome=do'.contains n:=by cases do'.contains n<;>rfl
    rw[e];exact q
  |handed =>
    refine⟨_,rfl,rfl,_,rfl,iJ (sne (show Wd.key .handed≠"asked" by decide +kernel)) ⟨_,rfl,rfl,_,rfl,iJ (sne (show Wd.key .handed≠"taken" by decide +kernel)) ⟨_,rfl,rfl,_,rfl,iJ (sne (show Wd.key .handed≠"answered" by decide +kernel)) ?_⟩⟩⟩;obtain⟨ts,e0,pr⟩:=J.h;refine⟨_,rfl,fld hx G.br G.bT KN ⟨_,rfl,z.h,ts,rfl,SqL.of e0,λq hq=>⟨_,rfl,_,rfl,l2,λt ht=>⟨zY,λc hc=>?_⟩⟩⟩⟩;have s1:=af (o:=.lst (lx ts Nf (f' 1))) hq;have s2:=af (o:=.tup [V.int n,V.int o]) ht;have s3:=af (o:=.lst [V.ref t]) hc;have cq:lx ts Nf (f' 1)=ts.take 1:=uF ts 1;have pr1:NF (PV H) (uh.take 1) (lx ts Nf (f' 1)):=by rw[cq];exact gi 1 pr
    refine⟨.list ((uh.take 1).map pvD),.list ([(n,o)].map pvD),⟨q,_,rfl,s3 _ _ (s2 _ _ a8),?_⟩,⟨c,_,rfl,a8,pS (.cons ⟨t,rfl,s3 _ _ a8⟩ .nil)⟩,sM _,sM _,?_⟩
    . exact pS (Paired.mapP pr1 λ_ _ h=>h.keep (s1.trans (s2.trans s3)).kt)
    . rw[C6];exact k _ (s1.trans (s2.trans s3))
def GQ (G:Gs K mg a d):FnOk P w K mg base CX0 1 a.dM d.dM ["self","word","name","worth"] (Hq a.gP):=by
 refine G.tT.ok rq (λvs H Q E h=>?_) (λcdv A outer s H vs Q E hr h=>?_)
 . obtain⟨z,ah,un,uh,go,do',h,rfl,_⟩:=h;rfl
 . obtain⟨z,ah,un,uh,go,do',⟨wd,n,o⟩,rfl,J,I,hf,hl,k⟩:=h;have hu:=bU hr;refine⟨_,(@ao _ _ _ (aI (ar cp (pv 1) aj (ay _)) ((tG hu (ak (pv 0) rfl) (pv 2) eG rfl)∪(@ao _ _ _ (@aL _ _ _ _ (@jU _ _ _ _ _ _ _ _ _ _ _ _ NV OL PySem.F.type_list_append gM (ak (pv 0) rfl) ((@bi _ _ _ _ _ ((pv 2)∣((pv 3)∣aa)))∣aa) (by rfl) (by rfl) (by rfl) (by rfl) (by rfl)) (by rfl)))) (@ao _ _ _ (aI (ar cp (pv 1) aj (ay _)) ((@aL _ _ _ _ (@jU _ _ _ _ _ _ _ _ _ _ _ _ NV PySem.F.slot_list_pop PySem.F.type_list_pop tZ (ak (pv 0) rfl) (ag∣aa) (by rfl) (by rfl) (by rfl) (by rfl) (by rfl)) (by rfl))∪(@ao _ _ _ (tG hu (ak (pv 0) rfl) (pv 2) eG rfl))) (@ao _ _ _ (aI (ar cp (pv 1) aj (ay _)) ((@aL _ _ _ _ (tO (ak (pv 0) rfl) (pv 2) ⟨rfl,rfl,rfl,rfl⟩) (by rfl))∪(@ao _ _ _ (@aL _ _ _ _ (@jU _ _ _ _ _ _ _ _ _ _ _ _ NV OL PySem.F.type_list_append gM (ak (pv 0) rfl) ((@bi _ _ _ _ _ ((pv 2)∣((pv 3)∣aa)))∣aa) (by rfl) (by rfl) (by rfl) (by rfl) (by rfl)) (by rfl)))) ((@aL _ _ _ _ (@jU _ _ _ _ _ _ _ _ _ _ _ _ NV PySem.F.slot_list_pop PySem.F.type_list_pop tZ (ak (pv 0) rfl) (ag∣aa) (by rfl) (by rfl) (by rfl) (by rfl) (by rfl)) (by rfl))∪(@ao _ _ _ (@aL _ _ _ _ (tO (ak (pv 0) rfl) (pv 2) ⟨rfl,rfl,rfl,rfl⟩) (by rfl)))))))))),?_⟩;obtain⟨dx,hx⟩:=J.ob;rw[<-I.fits]at hf;obtain⟨l1,l2',l3,l4⟩:=I.lens;have ko1:∀ {H:Hp} {x:K'} {o:HO},z.own x->KO z.own H (upd H x o):=λhx=>KO.of_kp Kp.one λc hc=>by rw[Nd.mp hc];exact hx
   have ou:z.own z.u:=.inr (.inl rfl);have oh:z.own z.h:=.inr (.inr (.inl rfl));have og:z.own z.g:=.inr (.inr (.inr (.inl rfl)));have od:z.own z.d:=.inr (.inr (.inr (.inr rfl)));have kot:∀ {H1 H2 H3:Hp},KO z.own H1 H2->KO z.own H2 H3->KO z.own H1 H3:=λh1 h2=>h1.trans h2 λ_ hc=>.inl hc
   cases wd with
  |asked =>
    have hn:go.contains n=D':=by
     have:(!go.contains n)=G':=hf;simpa using this
    have hn':n ∉ go:=by rw[OO]at hn;exact of_decide_eq_false hn
    refine⟨_,rfl,rfl,_,rfl,pL rfl ?_⟩;refine⟨_,rfl,fld hx G.br G.fu La ⟨_,rfl,z.g,_,rfl,Gq.k (k:=.inl n) J.g (by rw[yR];exact Nn (show _ < 10000 by omega) (by decide)),?_⟩⟩;have J1:=J.setG (y6 n go hn);generalize hH1:upd H z.g (.dK (vo (gK go) (OB n) (.bl G')))=H1 at J1;have k1:KO z.own H H1:=by rw[<-hH1];exact ko1 og
    have t1:Kt H H1:=by rw[<-hH1];exact iK J.g (λ_ z=>by cases z) _
    obtain⟨ts,e0,pr⟩:=J1.u;obtain⟨dx1,hx1⟩:=J1.ob;have lt:=aU pr;refine⟨_,rfl,fld hx1 G.br G.cf KL ⟨.inl ⟨rfl,_,SqL.of e0⟩,_,rfl,_,rfl,l2,λt ht=>⟨z.u,ts,_,rfl,rfl,af ht _ _ e0,Nn (show _ < 10000 by omega) (by decide),?_⟩⟩⟩;have s2:=af (o:=.tup [V.int n,V.int o]) ht;have J2:=(J1.same s2).setU (un':=un++[(n,o)]) (ts:=ts++[.ref t]) (NF.snoc (Paired.mapP pr λ_ _ h=>h.keep s2.kt) ⟨t,rfl,a8⟩);exact k _ _ _ _ _ J2 (I.asked hn') (kot k1 (kot (KO.of_same s2) (ko1 ou))) λb vs e=>iK (s2 _ _ e0) (λ_ z=>by cases z) _ _ _ (s2 _ _ (t1 _ _ e))
  |taken =>
    have hn:un.take 1=[(n,o)]:=of_decide_eq_true hf;obtain⟨I2,hnd⟩:=I.taken hn;have e1:=FD hn;refine⟨_,rfl,rfl,_,rfl,iJ (sne (show Wd.key .taken≠"asked" by decide +kernel)) ⟨_,rfl,rfl,_,rfl,pL rfl ?_⟩⟩;obtain⟨ts,e0,pr⟩:=J.u;have lt:=aU pr;have hl0:0 < ts.length:=by rw[<-lt,e1];exact Nat.succ_pos _
    refine⟨_,rfl,fld hx G.br G.cf KL ⟨.inl ⟨rfl,_,SqL.of e0⟩,z.u,ts,0,0,ts[0],rfl,rfl,e0,by decide,by decide,M5 hl0,Nk hl0,?_⟩⟩;rw[G3];have J1:=J.setU (jn 1 pr);have k1:KO z.own H (upd H z.u (.lst (ts.drop 1))):=ko1 ou;have t1:Kt H (upd H z.u (.lst (ts.drop 1))):=iK e0 (λ_ z=>by cases z) _;generalize upd H z.u (.lst (ts.drop 1))=H1 at J1 k1 t1 |-;obtain⟨dx1,hx1⟩:=J1.ob;refine⟨_,rfl,fld hx1 G.br G.fw Lz ⟨_,rfl,z.d,_,rfl,Gq.k (k:=.inl n) J1.d (by rw[yR];exact Nn (show _ < 10000 by omega) (by decide)),?_⟩⟩;exact k _ _ _ _ _ (J1.setD (y6 n do' (by rw[OO];exact decide_eq_false hnd))) I2 (kot k1 (ko1 od)) λb vs e=>iK J1.d (λ_ z=>by cases z) _ _ _ (t1 _ _ e)
  |answered =>
    have hn:do'.contains n=G':=hf;have hn':n∈do':=by rw[OO]at hn;exact of_decide_eq_true hn
    refine⟨_,rfl,rfl,_,rfl,iJ (sne (show Wd.key .answered≠"asked" by decide +kernel)) ⟨_,rfl,rfl,_,rfl,iJ (sne (show Wd.key .answered≠"taken" by decide +kernel)) ⟨_,rfl,rfl,_,rfl,pL rfl ?_⟩⟩⟩;have hv:qE (gK do') (.inl n)=f' (.bl G'):=by rw[km,hn];rfl
    refine⟨_,rfl,fld hx G.br G.fw Lz ⟨z.d,rfl,.inl ⟨_,.inl J.d⟩,_,rfl,_,.inl n,_,J.d,rfl,hv,?_⟩⟩;have I2:=I.answered (o:=o) hn';have ee:nX (gK do') (OB n)=gK (do'.erase n):=by
     rw[qR,I.ndo.erase_eq_filter];congr 1;refine List.filter_congr λy _=>?_
     by_cases e:y=n
     . subst e;simp
     . simp[e]
    have J1:=J.setD ee;have k1:KO z.own H (upd H z.d (.dK (nX (gK do') (OB n)))):=ko1 od;have t1:Kt H (upd H z.d (.dK (nX (gK do') (OB n)))):=iK J.d (λ_ z=>by cases z) _;generalize upd H z.d (.dK (nX (gK do') (OB n)))=H1 at J1 k1 t1 |-;obtain⟨ts,e0,pr⟩:=J1.h;obtain⟨dx1,hx1⟩:=J1.ob;have lt:=aU pr;refine⟨_,rfl,fld hx1 G.br G.bT KN ⟨.inl ⟨rfl,_,SqL.of e0⟩,_,rfl,_,rfl,l2,λt ht=>⟨z.h,ts,_,rfl,rfl,af ht _ _ e0,Nn (show _ < 10000 by omega) (by decide),?_⟩⟩⟩;have s2:=af (o:=.tup [V.int n,V.int o]) ht;have J2:=(J1.same s2).setH (uh':=uh++[(n,o)]) (ts:=ts++[.ref t]) (NF.snoc (Paired.mapP pr λ_ _ h=>h.keep s2.kt) ⟨t,rfl,a8⟩);exact k _ _ _ _ _ J2 I2 (kot k1 (kot (KO.of_same s2) (ko1 oh))) λb vs e=>iK (s2 _ _ e0) (λ_ z=>by cases z) _ _ _ (s2 _ _ (t1 _ _ e))
  |handed =>
    have hn:uh.take 1=[(n,o)]:=of_decide_eq_true hf;obtain⟨I2,hng⟩:=I.handed hn;have e1:=FD hn;refine⟨_,rfl,rfl,_,rfl,iJ (sne (show Wd.key .handed≠"asked" by decide +kernel)) ⟨_,rfl,rfl,_,rfl,iJ (sne (show Wd.key .handed≠"taken" by decide +kernel)) ⟨_,rfl,rfl,_,rfl,iJ (sne (show Wd.key .handed≠"answered" by decide +kernel)) ?_⟩⟩⟩;obtain⟨ts,e0,pr⟩:=J.h;have lt:=aU pr;have hl0:0 < ts.length:=by rw[<-lt,e1];exact Nat.succ_pos _
    refine⟨_,rfl,fld hx G.br G.bT KN ⟨.inl ⟨rfl,_,SqL.of e0⟩,z.h,ts,0,0,ts[0],rfl,rfl,e0,by decide,by decide,M5 hl0,Nk hl0,?_⟩⟩;rw[G3];have J1:=J.setH (jn 1 pr);have k1:KO z.own H (upd H z.h (.lst (ts.drop 1))):=ko1 oh;have t1:Kt H (upd H z.h (.lst (ts.drop 1))):=iK e0 (λ_ z=>by cases z) _;generalize upd H z.h (.lst (ts.drop 1))=H1 at J1 k1 t1 |-;obtain⟨dx1,hx1⟩:=J1.ob;have hv:qE (gK go) (.inl n)=f' (.bl G'):=by rw[km,OO,Vf hng];rfl
    have ee:nX (gK go) (OB n)=gK (go.erase n):=by
     rw[qR,I.nd.erase_eq_filter];congr 1;refine List.filter_congr λy _=>?_
     by_cases e:y=n
     . subst e;simp
     . simp[e]
    refine⟨_,rfl,fld hx1 G.br G.fu La ⟨z.g,rfl,.inl ⟨_,.inl J1.g⟩,_,rfl,_,.inl n,_,J1.g,rfl,hv,?_⟩⟩;exact k _ _ _ _ _ (J1.setG ee) I2 (kot k1 (ko1 og)) λb vs e=>iK J1.g (λ_ z=>by cases z) _ _ _ (t1 _ _ e)
def wg (ns:List Int) (k:Nat):Int:=ns.getD k 0
def wD (K:Nh):Sp:=λvs H Q _=>∃ (b:K') (ns:List Int) (k:Nat),vs=[.ref b,.int k]/\SqL K H b (ns.map V.int)/\Q (.int (wg ns k)) H
def GX (xs:List V):Prop:=∃ c l:Int,xs=[.int c,.int l]/\0 <= l/\l < 2147483587
def FX:Sp:=λvs H Q _=>∃ c:Int,vs=[.int c]/\∀ (p:K') (rw:List V),H p=Nf->GX rw->Q (.ref p) (upd H p (.lst rw))
def Rw (H:Hp) (r:K'):Prop:=∃ rw,H r=f' (.lst rw)/\GX rw
structure Stp (r:K') (H H':Hp):Prop where
 row:Rw H' r
 keep:∀ b o,b≠r->H b=f' o->H' b=f' o
def Stp.trans {r:K'}{H H1 H2:Hp}(a:Stp r H H1) (b:Stp r H1 H2):Stp r H H2:=⟨b.row,λc o n e=>b.keep c o n (a.keep c o n e)⟩
def Rw.new {r p:K'}{H:Hp}{o:HO}(h:Rw H r) (hp:H p=Nf):Rw (upd H p o) r:=by
 obtain⟨rw,e,q⟩:=h;exact⟨rw,by rw[ae (ac e hp)];exact e,q⟩
theorem Stp.new {r p:K'}{H H1:Hp}{o:HO}(a:Stp r H H1) (hp:H1 p=Nf):Stp r H (upd H1 p o) :=
 ⟨a.row.new hp,λc u n e=>by rw[ae (ac (a.keep c u n e) hp)];exact a.keep c u n e⟩
def Rw.ne {r p:K'}{H:Hp}(h:Rw H r) (hp:H p=Nf):p≠r:=by
 obtain⟨rw,e,_⟩:=h;exact λz=>by rw[z,e]at hp;cases hp
def BG:Sp:=λvs H Q _=>∃ (r:K') (m:Int),vs=[.ref r,.int m]/\Rw H r/\0 < m/\m < 2 ^ 40 /\
 ∀ (g:Int) (H':Hp),0 <= g->g < m->Stp r H H'->Q (.int g) H'
def pP:(0:Int) < 2147483587:=by decide
def B0 (G:Gs K mg a d):FnOk P w K mg base CX0 1 a.dD d.dD ["script","k"] (wD K):=by
 refine G.mP.ok rX (λvs H Q E h=>?_) (λcdv A' outer s' H vs Q E hr h=>?_)
 . obtain⟨b,ns,k,rfl,_⟩:=h;rfl
 . obtain⟨b,ns,k,rfl,hS,q⟩:=h;refine⟨_,((aI (ar Lv (pv 1) (aN b8 (by rfl) G.m9 i0 ((pv 0)∣aa)) (ay _)) ((@az _ _ _ _ _ _ _ aC (pv 0) (pv 1) (λ_ _=>rfl))⁻¹) am)∪(ag⁻¹)),?_⟩;refine⟨_,rfl,_,rfl,b,_,rfl,.inl hS,_,_,rfl,rfl,_,rfl,?_⟩;by_cases h:k < ns.length
   . refine iy (Vf (by rw[Nu];omega)) ?_;refine⟨_,rfl,_,rfl,b,_,_,_,rfl,rfl,hS,Gw (j:=k) (v:=.int (wg ns k)) ?_,q⟩;unfold wg;rw[NL,Nk h,OW,Nk h];rfl
   . refine cu (by rw[Ve,Nu];omega) ?_;have:wg ns k=0:=by unfold wg;rw[OW,List.getElem?_eq_none (by omega)];rfl
     rw[this]at q;exact q
def Jy (G:Gs K mg a d):FnOk P w K mg base CX0 1 a.lI d.lI ["cell"] FX:=by
 refine G.pW.ok Az (λvs H Q E h=>?_) (λcdv A outer s H vs Q E hr h=>?_)
 . obtain⟨c,rfl,_⟩:=h;rfl
 . obtain⟨c,rfl,k⟩:=h;refine⟨_,((@bG _ _ _ _ ((pv 0)∣((@dA _ _ _ _ _ _ _ _ pZ (pv 0) ag)∣aa)))⁻¹),?_⟩;refine⟨_,rfl,_,rfl,_,_,rfl,rfl,pP,?_⟩;refine⟨by show 2 <= Nl;decide,λp hp=>k p _ hp ⟨_,_,rfl,P1 _ (by decide),PX _ pP⟩⟩
def xD (G:Gs K mg a d):FnOk P w K mg base CX0 1 a.jm d.jm ["row","many"] BG:=by
 refine G.b9.ok pA (λvs H Q E h=>?_) (λcdv A outer s H vs Q E hr h=>?_)
 . obtain⟨r,m,rfl,_⟩:=h;rfl
 . obtain⟨r,m,rfl,⟨rw,hl,c,l,rfl,hl0,hl1⟩,hm0,hm1,k⟩:=h;have stp:∀ (c' l':Int),0 <= l'->l' < 2147483587->Stp r H (upd H r (.lst [.int c',.int l'])):=λc' l' g0 g1 =>
    ⟨⟨_,a8,c',l',rfl,g0,g1⟩,λx o n e=>by rw[ae n];exact e⟩
   refine⟨_,((aI (ar Ki (@az _ _ _ _ _ _ _ aC (pv 0) ag (λ_ _=>rfl)) (@dA _ _ _ _ _ _ _ _ Dp ag ag) (ay _)) ((@aJ _ _ 2 _ _ _ _ pA.nd rfl (NW rfl) (@dA _ _ _ _ _ _ _ _ pZ (@az _ _ _ _ _ _ _ aC (pv 0) ag (λ_ _=>rfl)) (pv 1)) (by rfl) (by first|exact .inl rfl|exact .inr rfl|assumption))∪((@lv _ _ _ _ _ _ (@dA _ _ _ _ _ _ _ _ yZ (@az _ _ _ _ _ _ _ aC (pv 0) ag (λ_ _=>rfl)) (pv 1)) (lA (pv 0) ag fi) (by rfl) (by rfl) (by rfl))∪((pv 2)⁻¹))) am)∪((@lv _ _ _ _ _ _ (@dA _ _ _ _ _ _ _ _ pZ (@dA _ _ _ _ _ _ _ _ o6 (@dA _ _ _ _ _ _ _ _ o6 (@dA _ _ _ _ _ _ _ _ yy (@az _ _ _ _ _ _ _ aC (pv 0) ag (λ_ _=>rfl)) (@az _ _ _ _ _ _ _ aC (pv 0) ag (λ_ _=>rfl))) (@dA _ _ _ _ _ _ _ _ yy ag (@az _ _ _ _ _ _ _ aC (pv 0) ag (λ_ _=>rfl)))) ag) ag) (lA (pv 0) ag fi) (by rfl) (by rfl) (by rfl))∪((@dA _ _ _ _ _ _ _ _ pZ (@dA _ _ _ _ _ _ _ _ yZ (@az _ _ _ _ _ _ _ aC (pv 0) ag (λ_ _=>rfl)) ag) (pv 1))⁻¹))),?_⟩;refine⟨_,rfl,r,_,_,_,rfl,rfl,SqL.of hl,rfl,?_⟩;refine⟨_,_,rfl,rfl,⟨by decide,by decide,by decide⟩,_,_,rfl,rfl,_,rfl,?_⟩;refine J0 (λ_=>?_) (λ_=>?_)
   . refine⟨_,rfl,r,_,_,_,rfl,rfl,SqL.of hl,rfl,_,rfl,_,_,rfl,rfl,hm0,?_⟩;refine⟨_,rfl,r,_,_,_,rfl,rfl,SqL.of hl,rfl,_,rfl,_,_,rfl,rfl,⟨hm0,hm1⟩,_,rfl,r,_,_,_,rfl,rfl,hl,rfl,?_⟩;refine⟨_,rfl,?_⟩;exact k _ _ (P1 _ (by omega)) (PX _ hm0) (stp _ _ hl0 hl1)
   . refine⟨_,rfl,r,_,_,_,rfl,rfl,SqL.of hl,rfl,_,rfl,r,_,_,_,rfl,rfl,SqL.of hl,rfl,_,_,rfl,rfl,uA hl0 (by omega),?_⟩;refine⟨_,rfl,r,_,_,_,rfl,rfl,SqL.of hl,rfl,_,_,rfl,rfl,uA (by decide) (by decide),_,_,rfl,rfl,_,_,rfl,rfl,_,_,rfl,rfl,pP,?_⟩;have g0:=P1 (l * l+69621 * l+12345) (show (2147483587:Int)≠0 by decide);have g1:=PX (l * l+69621 * l+12345) pP;refine⟨_,rfl,r,_,_,_,rfl,rfl,hl,rfl,?_⟩;refine⟨_,rfl,r,_,_,_,rfl,rfl,SqL.of a8,rfl,_,_,rfl,rfl,⟨by decide,by decide⟩,_,rfl,_,_,rfl,rfl,hm0,?_⟩;exact k _ _ (P1 _ (by omega)) (PX _ hm0) (stp _ _ g0 g1)
def Eh:Ni:=.tuple [.none,.none]
def z0 (ps:List (Int × Int)):Ny (.list (ps.map pvD)) (.list [Eh])=D':=by
 cases ps with
|nil=>rfl
|cons p ps =>
  show (OR [.int p.1,.int p.2] [.none,.none] && OR (ps.map pvD) [])=D';have:OR [.int p.1,.int p.2] [.none,.none]=D':=by simp[OR,Ny]
  rw[this];rfl
def yI:wM (.list [Eh]):=⟨rfl,by show 2 <= 16;decide⟩
def DR (CJ:K'):Sp:=λvs H Q _=>∃ (z:JA) (un uh:List (Int × Int)) (go do':List Int) (b:Bool),vs=[.ref z.j,.str (Hx.n b).w.key,.non,.non]/\Jn CJ H z un uh go do'/\un.length < 1000/\uh.length < 1000/\∀ H',bq H H'->Q (.bl D') H'
def KB:Sp:=λvs H Q _=>∃ (l:K') (hs:List Hx),vs=[.ref l]/\SX H l hs/\hs.length < 900/\∀ H',bq H H'->Q (vO (kC [] hs)) H'
def Fe (G:Gs K mg a d):FnOk P w K mg base CX0 1 a.cL d.cL ["self","word","name","worth"] (DR a.gP):=by
 refine G.oj.ok mS (λvs H Q E h=>?_) (λcdv A outer s H vs Q E hr h=>?_)
 . obtain⟨z,un,uh,go,do',h,rfl,_⟩:=h;rfl
 . obtain⟨z,un,uh,go,do',b,rfl,J,lu,lh,k⟩:=h;have hu:=bU hr;refine⟨_,((aI (ar cp (pv 1) aj (ay _)) ((ym (mX hu (pv 2) (ak (pv 0) rfl)))⁻¹) am)∪((aI (ar cp (pv 1) aj (ay _)) ((cc (qD hr.units) (d6 ib (ak (pv 0) rfl) iw (eB ag)) (@bG _ _ _ _ ((@bi _ _ _ _ _ ((pv 2)∣((pv 3)∣aa)))∣aa)) (ay _))⁻¹) am)∪((aI (ar cp (pv 1) aj (ay _)) ((ym (GA hu (pv 2) (ak (pv 0) rfl)))⁻¹) am)∪((cc (qD hr.units) (d6 ib (ak (pv 0) rfl) iw (eB ag)) (@bG _ _ _ _ ((@bi _ _ _ _ _ ((pv 2)∣((pv 3)∣aa)))∣aa)) (ay _))⁻¹)))),?_⟩;obtain⟨dx,hx⟩:=J.ob;cases b with
  |true =>
    refine⟨_,rfl,rfl,_,rfl,iJ (sne (show Wd.key .taken≠"asked" by decide +kernel)) ⟨_,rfl,rfl,_,rfl,pL rfl ?_⟩⟩;obtain⟨ts,e0,pr⟩:=J.u;refine⟨_,rfl,fld hx G.br G.cf KL ⟨_,rfl,z.u,ts,rfl,SqL.of e0,λq hq=>⟨_,rfl,_,rfl,l2,λt ht=>⟨zY,λc hc=>?_⟩⟩⟩⟩;have s1:=af (o:=.lst (lx ts Nf (f' 1))) hq;have s2:=af (o:=.tup [V.non,V.non]) ht;have s3:=af (o:=.lst [V.ref t]) hc;have cq:lx ts Nf (f' 1)=ts.take 1:=uF ts 1;have pr1:NF (PV H) (un.take 1) (lx ts Nf (f' 1)):=by rw[cq];exact gi 1 pr
    refine⟨.list ((un.take 1).map pvD),.list [Eh],⟨q,_,rfl,s3 _ _ (s2 _ _ a8),?_⟩,⟨c,_,rfl,a8,_,_,rfl,⟨t,_,rfl,s3 _ _ a8,_,_,rfl,rfl,_,_,rfl,rfl,rfl⟩,rfl⟩,sM _,yI,?_⟩
    . exact pS (Paired.mapP pr1 λ_ _ h=>h.keep (s1.trans (s2.trans s3)).kt)
    . rw[z0];exact k _ (s1.trans (s2.trans s3))
  |false =>
    refine⟨_,rfl,rfl,_,rfl,iJ (sne (show Wd.key .handed≠"asked" by decide +kernel)) ⟨_,rfl,rfl,_,rfl,iJ (sne (show Wd.key .handed≠"taken" by decide +kernel)) ⟨_,rfl,rfl,_,rfl,iJ (sne (show Wd.key .handed≠"answered" by decide +kernel)) ?_⟩⟩⟩;obtain⟨ts,e0,pr⟩:=J.h;refine⟨_,rfl,fld hx G.br G.bT KN ⟨_,rfl,z.h,ts,rfl,SqL.of e0,λq hq=>⟨_,rfl,_,rfl,l2,λt ht=>⟨zY,λc hc=>?_⟩⟩⟩⟩;have s1:=af (o:=.lst (lx ts Nf (f' 1))) hq;have s2:=af (o:=.tup [V.non,V.non]) ht;have s3:=af (o:=.lst [V.ref t]) hc;have cq:lx ts Nf (f' 1)=ts.take 1:=uF ts 1;have pr1:NF (PV H) (uh.take 1) (lx ts Nf (f' 1)):=by rw[cq];exact gi 1 pr
    refine⟨.list ((uh.take 1).map pvD),.list [Eh],⟨q,_,rfl,s3 _ _ (s2 _ _ a8),?_⟩,⟨c,_,rfl,a8,_,_,rfl,⟨t,_,rfl,s3 _ _ a8,_,_,rfl,rfl,_,_,rfl,rfl,rfl⟩,rfl⟩,sM _,yI,?_⟩
    . exact pS (Paired.mapP pr1 λ_ _ h=>h.keep (s1.trans (s2.trans s3)).kt)
    . rw[z0];exact k _ (s1.trans (s2.trans s3))
def Jk (G:Gs K mg a d):FnOk P w K mg base CX0 3 a.dH d.dH ["story"] KB:=by
 have TM:FnOk P w K mg base CX0 1 _ _ _ _:=Eo G;have TN:FnOk P w K mg base CX0 1 _ _ _ _:=(GF G).or (Fe G);have TQ:FnOk P w K mg base CX0 1 _ _ _ _:=GQ G;refine G.ms.ok fh (λvs H Q E h=>?_) (λcdv A outer s H vs Q E hr h=>?_)
 . obtain⟨l,hs,rfl,_⟩:=h;rfl
 . obtain⟨l,hs,rfl,S,hl,k⟩:=h;have hu:=bU hr;refine⟨_,((@aJ _ _ 1 _ _ _ _ fh.nd rfl (NW rfl) (pp G.IL TM (hr.mono (by decide)) (by rfl) G.Ip G.uR .nil aq) (by rfl) (by first|exact .inl rfl|exact .inr rfl|assumption))∪((sI Pl rfl (Ix (by rfl) G.xC ((pv 0)∣aa)) (FV rfl (pd (ig (i:=2) fh.nd rfl (NW rfl)) (pd (ig (i:=3) fh.nd rfl (NW rfl)) CF))) ((aI (eI (bP (av (pv 1) G.br G.tQ TN (hr.mono (by decide)) G.uX .nil aq ((@az _ _ _ _ _ _ _ aF (pv 3) ag (λ_ _=>rfl))∣((@az _ _ _ _ _ _ _ aF (pv 3) ag (λ_ _=>rfl))∣((@az _ _ _ _ _ _ _ aF (pv 3) ag (λ_ _=>rfl))∣aa)))))) ((pv 2)⁻¹) am)∪(@ao _ _ _ (@aL _ _ _ _ (av (pv 1) G.br G.rC TQ (hr.mono (by decide)) G.sZ .nil aq ((@az _ _ _ _ _ _ _ aF (pv 3) ag (λ_ _=>rfl))∣((@az _ _ _ _ _ _ _ aF (pv 3) ag (λ_ _=>rfl))∣((@az _ _ _ _ _ _ _ aF (pv 3) ag (λ_ _=>rfl))∣aa)))) (by rfl)))))∪(dY⁻¹))),?_⟩;intro j dx nj ndx nex;refine⟨j,dx,rfl,a8,λz H1 hz g1 g2 g3 g4 J1 kp1=>⟨rfl,?_⟩⟩;have e1:bq H H1:=l8 nj ndx kp1;have fz:∀ c,z.own c->H c=Nf:=λc hc=>by
    rcases hc with y|y|y|y|y
    . rw[y,hz];exact nj
    . rw[y];exact(up1 (up1 g1).2).2
    . rw[y];exact(up1 (up1 g2).2).2
    . rw[y];exact(up1 (up1 g3).2).2
    . rw[y];exact(up1 (up1 g4).2).2
   subst hz;clear kp1 g1 g2 g3 g4 nj ndx nex;obtain⟨ts,e0,pr⟩:=S;have lt:=aU pr;refine⟨_,rfl,l,ts,rfl,SqL.of (e1 _ _ e0),?_⟩;refine F5 (K:=K) (a:=l) (xs:=ts) (λi σ H'=>∃ ah un uh go do',(∃ v2 v3,σ=[f' (.ref l),f' (.ref z.j),v2,v3])/\Jn a.gP H' z un uh go do'/\hs.take i=ah.map Hx.h/\JI ah un uh go do'/\bq H H'/\kC ah (hs.drop i)=kC [] hs)
    ⟨[],[],[],[],[],⟨_,_,rfl⟩,J1,rfl,JI.zero,e1,rfl⟩ (λ_ _ _ _ uq17=>by(obtain⟨_,_,_,_,_,_,_,_,_,y,_⟩:=uq17;exact SqL.of (y _ _ e0))) ?_ ?_
   . rintro i y T σ H2 hi hT ⟨ah,un,uh,go,do',⟨v2,v3,rfl⟩,J,hta,I,e2,hf⟩;obtain⟨h,c,hh,rfl,vc⟩:=Ko pr hi;have hil:i < hs.length:=(NG.mp hh).1;have hal:=Mi (Nat.le_of_lt hil) hta;have e3:=af (o:=.tup [V.int (i:Int),V.ref c]) hT;have vT:upd H2 T (.tup [V.int (i:Int),V.ref c]) T=f' (.tup [V.int (i:Int),V.ref c]):=a8;have J3:=J.same e3;have E3:=e2.trans e3;generalize upd H2 T (.tup [V.int (i:Int),V.ref c])=H3 at J3 E3 vT |-;have v3:=E3 _ _ vc;refine⟨T,_,rfl,SqT.of vT,rfl,_,_,rfl,_,_,rfl,rfl,?_⟩;obtain⟨l1,l2',l3',l4⟩:=I.lens;cases h with
    |n b =>
      rw[Ae hh]at hf;refine⟨_,rfl,dX J3.ob CU ⟨_,rfl,c,_,_,_,rfl,rfl,SqT.of v3,rfl,_,rfl,c,_,_,_,rfl,rfl,SqT.of v3,rfl,_,rfl,c,_,_,_,rfl,rfl,SqT.of v3,rfl,.inr ⟨z,un,uh,go,do',b,rfl,J3,by omega,by omega,λH4 e4=>⟨_,rfl,?_⟩⟩⟩⟩;have q:=k H4 (E3.trans e4);rw[<-hf,hal]at q;exact fP ⟨_,rfl,q⟩
    |h h =>
      refine⟨_,rfl,dX J3.ob CU ⟨_,rfl,c,_,_,_,rfl,rfl,SqT.of v3,rfl,_,rfl,c,_,_,_,rfl,rfl,SqT.of v3,rfl,_,rfl,c,_,_,_,rfl,rfl,SqT.of v3,rfl,.inl ⟨z,un,uh,go,do',h,rfl,J3,by omega,by omega,λH4 e4=>⟨_,rfl,?_⟩⟩⟩⟩;rw[I.fits];rw[Bg hh]at hf;have J4:=J3.same e4;have E4:=E3.trans e4;have v4:=e4 _ _ v3;cases hb:xa ah h with
     |false =>
       rw[hb]at hf;have q:=k H4 E4;rw[<-hf,Vd (by decide),hal]at q;exact fP ⟨_,rfl,q⟩
     |true =>
       rw[hb,Vc rfl]at hf;refine cW ⟨_,rfl,dX J4.ob LM ⟨_,rfl,c,_,_,_,rfl,rfl,SqT.of v4,rfl,_,rfl,c,_,_,_,rfl,rfl,SqT.of v4,rfl,_,rfl,c,_,_,_,rfl,rfl,SqT.of v4,rfl,z,ah,un,uh,go,do',h,rfl,J4,I,hb,by omega,λH5 un5 uh5 go5 do5 J5 I5 ko5 t5=>?_⟩⟩;refine⟨_,un5,uh5,go5,do5,⟨_,_,rfl⟩,J5,Lq hh hta,I5,λb o e=>?_,hf⟩;exact ko5 b o (λy=>by rw[fz b y]at e;cases e) (E4 b o e)
   . rintro σ H2 ⟨ah,un,uh,go,do',⟨v2,v3,rfl⟩,J,hta,I,e2,hf⟩;rw[drop_of_length_le (by omega)]at hf;have q:=k H2 e2;rw[<-hf]at q;exact q
def IA (w:Nt) (C:K'):Sp:=λvs H Q _=>∃ (sa:SA) (m:Mem) (rs:Bool->List Wr) (k:Cn),vs=[.ref sa.x,.str k.key]/\StT w C H sa m rs/\Q (.int (m.c k)) H
def Mg {w:Nt}{C:K'}{vs:List V}{H:Hp}{Q:VK}{E:XK}(h:IA w C vs H Q E):wH w C vs H Q E:=by
 obtain⟨sa,m,rs,k,rfl,⟨M,r,S,R,P⟩,q⟩:=h;refine⟨sa.x,sa.hd,sa.rl,sa.l,M,r,.str k.key,.str k.key,rfl,S,kS (zQ k),?_⟩;rw[R.c k];exact q
def JU (w:Nt) (ad:Ad) (K:Nh):Sp:=λvs H Q _=>∃ (a:YA) (q:YP) (S:YS) (wt:K') (w0:Str) (b:Bool),vs=[.ref a.y,.ref wt]/\Yn w ad.aY ad.c9 ad.aM ad.bB ad.aD H a q S/\q.Ok /\
 (∀ H,SqT K H wt [.str w0,.str (lkA b).key,.str (lkB b).key])/\∀ H',bq H H'->Q (.int (IP q S b)) H'
def Hw (w:Nt) (ad:Ad):Sp:=λvs H Q _=>∃ (a:YA) (q:YP) (S:YS) (b:Bool),vs=[.ref a.y,.int (sdI b)]/\Yn w ad.aY ad.c9 ad.aM ad.bB ad.aD H a q S/\q.Ok /\
 ∀ H',bq H H'->Q (.bl (ovB q S b)) H'
def Gm (G:Gs K mg a d):FnOk P w K mg base CX0 2 a.bu d.bu ["yard","words"] (JU w a K):=by
 have Ur:FnOk P w K mg base CX0 1 _ _ _ _:=HC G;have Uu:FnOk P w K mg base CX0 1 _ _ _ _:=mI G;have Uy:FnOk P w K mg base CX0 1 _ _ _ _:=zd G;have Uc:FnOk P w K mg base CX0 1 _ _ _ _:=(wq G).imp λvs H Q E=>Mg
 refine G.e9.ok ce (λvs H Q E h=>?_) (λcdv A' outer s' H vs Q E hr h=>?_)
 . obtain⟨y,q,S,wt,w0,b,rfl,_⟩:=h;rfl
 . obtain⟨y,q,S,wt,w0,b,rfl,Y,ok,ht,k⟩:=h;have hu:=bU hr;refine⟨_,((@aJ _ _ 2 _ _ _ _ ce.nd rfl (NW rfl) (aS (pv 0) G.al G.wz Ur (hr.mono (by decide)) G.xz .nil aq) (by rfl) (by first|exact .inl rfl|exact .inr rfl|assumption))∪((@aJ _ _ 3 _ _ _ _ ce.nd rfl (NW rfl) (av (aS (pv 0) G.al G.cM Uu (hr.mono (by decide)) G.dP .nil aq) G.aG G.gL Uc (hr.mono (by decide)) G.ix .nil aq ((@az _ _ _ _ _ _ _ aF (pv 1) ag (λ_ _=>rfl))∣aa)) (by rfl) (by first|exact .inl rfl|exact .inr rfl|assumption))∪((@aJ _ _ 4 _ _ _ _ ce.nd rfl (NW rfl) (av (aS (pv 0) G.al G.cM Uu (hr.mono (by decide)) G.dP .nil aq) G.aG G.gL Uc (hr.mono (by decide)) G.ix .nil aq ((@az _ _ _ _ _ _ _ aF (pv 1) ag (λ_ _=>rfl))∣aa)) (by rfl) (by first|exact .inl rfl|exact .inr rfl|assumption))∪((au Uy (hr.mono (by decide)) (by rfl) G.sL G.nv.kp G.sv .nil aq ((pv 3)∣((pv 4)∣((@az _ _ _ _ _ _ _ aF (pv 2) ag (λ_ _=>rfl))∣((@az _ _ _ _ _ _ _ aF (pv 2) ag (λ_ _=>rfl))∣aa)))))⁻¹)))),?_⟩;refine⟨_,rfl,dX Y.ob (eN (by decide +kernel)) ⟨y,_,S,rfl,Y,λt nt=>?_⟩⟩;have e1:=af (o:=.tup [V.int q.p.s,V.int q.p.R]) nt;have g1:=a8 (H:=H) (a:=t) (o:=.tup [V.int q.p.s,V.int q.p.R]);generalize upd H t _=H1 at e1 g1 |-;have Y1:=Y.same e1;refine⟨_,rfl,dX Y1.ob (eN (by decide +kernel)) ⟨y,_,S,rfl,Y1,?_⟩⟩;refine dX Y1.x.st.ob (cr (by decide +kernel) (by decide +kernel)) ⟨_,rfl,wt,_,_,_,rfl,rfl,ht _,rfl,⟨_,_,_,_,rfl,Y1.x.st,?_⟩⟩;refine⟨_,rfl,dX Y1.ob (eN (by decide +kernel)) ⟨y,_,S,rfl,Y1,?_⟩⟩;refine dX Y1.x.st.ob (cr (by decide +kernel) (by decide +kernel)) ⟨_,rfl,wt,_,_,_,rfl,rfl,ht _,rfl,⟨_,_,_,_,rfl,Y1.x.st,?_⟩⟩;refine⟨_,rfl,_,rfl,_,rfl,t,_,_,_,rfl,rfl,SqT.of g1,rfl,_,rfl,t,_,_,_,rfl,rfl,SqT.of g1,rfl,?_⟩;exact⟨_,_,_,_,rfl,ok.ok.s0,ok.ok.s8,ok.ok.sR,k _ e1⟩
def ID (G:Gs K mg a d):FnOk P w K mg base CX0 3 a.eY d.eY ["yard","side"] (Hw w a):=by
 have Us:FnOk P w K mg base CX0 1 _ _ _ _:=zI G;have Uq:FnOk P w K mg base CX0 1 _ _ _ _:=Av G;have UB:FnOk P w K mg base CX0 2 _ _ _ _:=Gm G;refine G.kI.ok ug (λvs H Q E h=>?_) (λcdv A' outer s' H vs Q E hr h=>?_)
 . obtain⟨y,q,S,b,rfl,_⟩:=h;rfl
 . obtain⟨y,q,S,b,rfl,Y,ok,k⟩:=h;have hu:=bU hr;refine⟨_,((aI ((uk (ar oQ (av (pv 0) G.al G.pH Us (hr.mono (by decide)) G.rA .nil aq ((pv 1)∣aa)) aj (ay _)) (oo (eI (bP (av (pv 0) G.al G.oR Uq (hr.mono (by decide)) G.pC .nil aq ((@dA _ _ _ _ _ _ _ _ Bl ag (pv 1))∣aa))))))).pt (eG⁻¹) am)∪((cc oQ (au UB (hr.mono (by decide)) (by rfl) G.hV G.e9.kp G.hU .nil aq ((pv 0)∣((fX (ar cp (pv 1) ag (ay _)) (f6 (v:=.ref a.bJ) (by rfl) G.m7 rfl) (f6 (v:=.ref a.hZ) (by rfl) G.xU rfl))∣aa))) ag (ay _))⁻¹)),?_⟩;refine⟨_,rfl,dX Y.ob (eN (by decide +kernel)) ⟨_,rfl,y,_,S,b,rfl,Y,?_⟩⟩;refine⟨rfl,_,rfl,?_⟩;unfold ovB at k;by_cases ha:S.bd b=.asleep
   . have e1:¬ (!decide (V.str (S.bd b).key=V.str "asleep"))=G':=by rw[ha];decide +kernel
     rw[Vf ha,Bool.true_and]at k;refine cu e1 ?_;refine⟨_,rfl,dX Y.ob (eN (by decide +kernel)) ⟨_,rfl,_,_,rfl,rfl,⟨y,_,S,!b,by cases b<;>rfl,Y,_,rfl,?_⟩⟩⟩;cases hq:S.qt (!b) with
    |false =>
      rw[hq]at k;exact iy rfl (k H (bq.refl _))
    |true =>
      rw[hq,Bool.true_and]at k;refine cu (λz=>by cases z) ?_;have fin:∀ H',bq H H'->Q (.bl (!decide (V.int (IP q S b)=V.int 0))) H':=λH' e=>by
       have:=k H' e;by_cases z:IP q S b=0
       . rw[z]at this |-;exact this
       . rw[Vf z]at this;rw[decide_eq_false λy=>z (mR y)];exact this
      cases b with
     |false =>
       exact⟨_,rfl,_,rfl,rfl,_,rfl,iy rfl ⟨y,_,S,a.bJ,"answer",D',rfl,Y,ok,G.mj,λH' e=>⟨rfl,fin H' e⟩⟩⟩
     |true =>
       exact⟨_,rfl,_,rfl,rfl,_,rfl,cu (by decide) ⟨y,_,S,a.hZ,"ask",G',rfl,Y,ok,G.yM,λH' e=>⟨rfl,fin H' e⟩⟩⟩
   . have e1:(!decide (V.str (S.bd b).key=V.str "asleep"))=G':=by cases hb:S.bd b<;>first|(rw[hb]at ha;exact absurd rfl ha)|decide +kernel
     rw[decide_eq_false ha,Bool.false_and]at k;refine iy e1 (iy rfl (k H (bq.refl _)))
def CV (k:Wd) (es:List Hap):(thH k es).length <= es.length:=by unfold thH;rw[Nu];exact PR ..
def yD {k:Wd}{es:List Hap}{i:Nat}(h:i < es.length):thH k (es.take (i+1))=if es[i].w=k then thH k (es.take i)++[(es[i].n,es[i].o)] else thH k (es.take i):=by
 rw[take_add_one,Nk h];exact uG k _ _
def Dm {a b:Wd}(h:V.str a.key=V.str b.key):a=b:=by
 cases a<;>cases b<;>first|rfl|exact absurd h (by decide +kernel)
def Lb:Sp:=λvs H Q _=>∃ (st:K') (es:List Hap) (k j:Wd),vs=[.ref st,.str k.key,.str j.key]/\SV H st es/\es.length < 1000 /\
 ∀ (p:K') (H':Hp),bq H H'->TL H' p ((thH k es).drop (thH j es).length)->Q (.ref p) H'
def JR (w:Nt) (ad:Ad) (K:Nh):Sp:=λvs H Q _=>∃ (a:YA) (q:YP) (S:YS) (st wt:K') (w0:Str) (b:Bool) (es:List Hap),vs=[.ref a.y,.ref st,.ref wt]/\Yn w ad.aY ad.c9 ad.aM ad.bB ad.aD H a q S/\q.Ok /\
 (∀ H,SqT K H wt [.str w0,.str (lkA b).key,.str (lkB b).key])/\SV H st es/\es.length < 1000/\∀ H',bq H H'->Q (.bl (FI q S es b)) H'
def LO (b:Bool):(lkA b).key=(lkW b).key:=by cases b<;>rfl
def LH (b:Bool):(lkB b).key=(lkX b).key:=by cases b<;>rfl
def Lh (G:Gs K mg a d):FnOk P w K mg base CX0 1 a.dC d.dC ["story","laid","fetched"] Lb:=by
 refine G.mf.ok ic (λvs H Q E h=>?_) (λcdv A' outer s' H vs Q E hr h=>?_)
 . obtain⟨st,es,k,j,rfl,_⟩:=h;rfl
 . obtain⟨st,es,k,j,rfl,⟨zs,hst,pr⟩,hl,kk⟩:=h;have hu:=bU hr;refine⟨_,((by exact nY (iN:=3) (tc:=E7 (tOp rEq (tOp (Ju K) (qP 0) (tC (.int 0))) (qP 1))) (te:=LY (li (tOp (Ju K) (qP 0) (tC (.int 1))) (li (tOp (Ju K) (qP 0) (tC (.int 2))) AU))) (caps:=["laid"]) (js:=[1]) ic.nd rfl (NW rfl) (by rfl) rfl (gu rfl rfl (by decide +kernel) (by decide +kernel) rfl ⟨rfl,trivial⟩ rfl rfl) (by decide +kernel) ⟨⟨⟨_,rfl⟩,rfl,.inl rfl,.inl rfl⟩,trivial⟩ (jK (pv 0)) (λC s₃ H₃ P2 ex E'=>by exact xJ (ar cp (@az _ _ _ _ _ _ _ aF (pv 0) ag (λ_ _=>rfl)) (pv 1) (ay _))) (λC s₃ H₃ P2 ex E'=>by exact(@bi _ _ _ _ _ ((@az _ _ _ _ _ _ _ aF (pv 0) ag (λ_ _=>rfl))∣((@az _ _ _ _ _ _ _ aF (pv 0) ag (λ_ _=>rfl))∣aa)))))∪((@aJ _ _ 4 _ _ _ _ ic.nd rfl (NW rfl) (aN b8 (by rfl) G.m9 i0 ((by exact ik (tc:=E7 (tOp rEq (tOp (Ju K) (qP 0) (tC (.int 0))) (qP 1))) (te:=qP 0) (caps:=["fetched"]) (js:=[2]) rfl (gu rfl rfl (by decide +kernel) (by decide +kernel) rfl ⟨rfl,trivial⟩ rfl rfl) (by decide +kernel) ⟨⟨⟨_,rfl⟩,rfl,.inl rfl,.inl rfl⟩,trivial⟩ (jK (pv 0)) (λC s₃ H₃ P2 ex E'=>by exact xJ (ar cp (@az _ _ _ _ _ _ _ aF (pv 0) ag (λ_ _=>rfl)) (pv 1) (ay _))) (λC s₃ H₃ P2 ex E'=>by exact(pv 0)))∣aa)) (by rfl) (by first|exact .inl rfl|exact .inr rfl|assumption))∪((d6 ib (pv 3) (eB (pv 4)) iw)⁻¹))),?_⟩;refine⟨_,rfl,st,rfl,⟨_,SqL.of hst⟩,λD hD=>?_⟩;have pl:=aU pr;refine⟨λi mm ys H'=>i <= es.length/\mm=es.length - i/\NF (PV H') (thH k (es.take i)) ys/\H' D=f' (.lst ys)/\∀ c o,c≠D->H c=f' o->H' c=f' o,⟨_,Ou _,rfl,.nil,a8,λc o n e=>by rw[ae n];exact e⟩,?_⟩;rintro i mm ys H2 ⟨hi,rfl,py,hD2,k2⟩;have e2:bq H H2:=λc o e=>k2 c o (λy=>by rw[y,hD]at e;cases e) e
   have yl:ys.length <= i:=by
    have h2:=CV k (es.take i);rw[OI]at h2;have h3:=aU py;omega
   refine⟨hD2,Nn (show _ < 1000 by omega) (by decide),?_⟩;by_cases hii:i=es.length
   . refine .inl ⟨⟨_,SqL.of (e2 _ _ hst),by omega⟩,?_⟩;rw[hii,take_length]at py;clear hii yl k2 hi;refine⟨_,rfl,st,rfl,⟨_,SqL.of (e2 _ _ hst)⟩,λD2 hD3=>?_⟩;refine⟨λi mm zs' H'=>i <= es.length/\mm=es.length - i/\zs'.length=(thH j (es.take i)).length/\H' D2=f' (.lst zs')/\∀ c o,c≠D2->H2 c=f' o->H' c=f' o,⟨_,Ou _,rfl,rfl,a8,λc o n e=>by rw[ae n];exact e⟩,?_⟩;rintro i mm zs' H3 ⟨hi,rfl,pz,hD4,k3⟩;have e3:bq H2 H3:=λc o e=>k3 c o (λy=>by rw[y,hD3]at e;cases e) e
     have yl:zs'.length <= i:=by
      have h2:=CV j (es.take i);rw[OI]at h2;omega
     refine⟨hD4,Nn (show _ < 1000 by omega) (by decide),?_⟩;by_cases hii:i=es.length
     . refine .inl ⟨⟨_,SqL.of (e3 _ _ (e2 _ _ hst)),by omega⟩,?_⟩;rw[hii,take_length]at pz;refine⟨D2,_,rfl,.inl (SqL.of hD4),?_⟩;refine⟨_,rfl,_,rfl,_,rfl,D,ys,rfl,SqL.of (e3 _ _ hD2),λp hp=>?_⟩;rw[iE];have e4:=e3.trans (af (o:=.lst (ys.drop zs'.length)) hp);refine kk p _ (e2.trans e4) ⟨_,a8,?_⟩;rw[<-pz];exact jn _ (Paired.mapP py λ_ _ h=>h.keep e4.kt)
     . have hlt:i < es.length:=by omega
       obtain⟨z,hz,t,rfl,ht⟩:=Paired.at' pr (Nk hlt);refine .inr ⟨⟨_,_,SqL.of (e3 _ _ (e2 _ _ hst)),hz⟩,?_⟩;rintro v H4 ⟨rfl,hv⟩;have hv:=hv _ (SqL.of (e3 _ _ (e2 _ _ hst)));rw[hz]at hv;cases hv;refine⟨_,rfl,t,_,_,_,rfl,rfl,SqT.of (e3 _ _ (e2 _ _ ht)),rfl,_,rfl,rfl,_,rfl,?_⟩;have hth:=yD (k:=j) hlt;by_cases hk:es[i].w=j
       . refine iy (Vf (by rw[hk])) ?_;rw[Vc hk]at hth;refine⟨_,rfl,hD4,_,?_,?_,rfl,?_,a8,λc o n e=>?_⟩
         . omega
         . omega
         . rw[hth,Nj,Nj,pz];rfl
         . rw[ae n];exact k3 c o n e
       . refine cu (by rw[Ve];exact λz=>hk (Dm z)) ?_;rw[Vd hk]at hth;exact⟨_,by omega,by omega,rfl,by rw[hth];exact pz,hD4,k3⟩
   . have hlt:i < es.length:=by omega
     obtain⟨z,hz,t,rfl,ht⟩:=Paired.at' pr (Nk hlt);refine .inr ⟨⟨_,_,SqL.of (e2 _ _ hst),hz⟩,?_⟩;rintro v H3 ⟨e3',hv⟩;have hv:=hv _ (SqL.of (e2 _ _ hst));subst H3;rw[hz]at hv;cases hv;refine⟨_,rfl,t,_,_,_,rfl,rfl,SqT.of (e2 _ _ ht),rfl,_,rfl,rfl,_,rfl,?_⟩;have hth:=yD (k:=k) hlt;by_cases hk:es[i].w=k
     . refine iy (Vf (by rw[hk])) ?_;rw[Vc hk]at hth;refine⟨_,rfl,t,_,_,_,rfl,rfl,SqT.of (e2 _ _ ht),rfl,_,rfl,t,_,_,_,rfl,rfl,SqT.of (e2 _ _ ht),rfl,l2,λt2 ht2=>?_⟩;have e3:=af (o:=.tup [V.int es[i].n,V.int es[i].o]) ht2;have kt:Kt H2 (upd (upd H2 t2 (.tup [V.int es[i].n,V.int es[i].o])) D (.lst (ys++[.ref t2]))):=λb vs e=>iK (e3 _ _ hD2) (λ_ z=>by cases z) _ _ _ (e3 _ _ e)
       refine⟨e3 _ _ hD2,_,?_,?_,rfl,?_,a8,λc o n e=>?_⟩
       . omega
       . omega
       . rw[hth];exact NF.snoc (Paired.mapP py λ_ _ h=>h.keep kt) ⟨t2,rfl,iK (e3 _ _ hD2) (λ_ z=>by cases z) _ _ _ a8⟩
       . rw[ae n];exact e3 _ _ (k2 c o n e)
     . refine cu (by rw[Ve];exact λz=>hk (Dm z)) ?_;rw[Vd hk]at hth;exact⟨_,by omega,by omega,rfl,by rw[hth];exact py,hD2,k2⟩
def K2 (G:Gs K mg a d):FnOk P w K mg base CX0 3 a.gJ d.gJ ["yard","story","words"] (JR w a K):=by
 have UB:FnOk P w K mg base CX0 2 _ _ _ _:=Gm G;have UU:FnOk P w K mg base CX0 1 _ _ _ _:=Lh G;refine G.lR.ok vB (λvs H Q E h=>?_) (λcdv A' outer s' H vs Q E hr h=>?_)
 . obtain⟨y,q,S,st,wt,w0,b,es,rfl,_⟩:=h;rfl
 . obtain⟨y,q,S,st,wt,w0,b,es,rfl,Y,ok,ht,hst,hl,k⟩:=h;have hu:=bU hr;refine⟨_,((cc oQ (au UB (hr.mono (by decide)) (by rfl) G.hV G.e9.kp G.hU .nil aq ((pv 0)∣((pv 2)∣aa))) (aN b8 (by rfl) G.m9 i0 ((au UU (hr.mono (by decide)) (by rfl) G.sT G.mf.kp G.tX .nil aq ((pv 1)∣((@az _ _ _ _ _ _ _ aF (pv 2) ag (λ_ _=>rfl))∣((@az _ _ _ _ _ _ _ aF (pv 2) ag (λ_ _=>rfl))∣aa))))∣aa)) (ay _))⁻¹),?_⟩;refine⟨_,rfl,_,rfl,y,_,S,wt,w0,b,rfl,Y,ok,ht,λH1 e1=>?_⟩;refine⟨_,rfl,_,rfl,wt,_,_,_,rfl,rfl,ht _,rfl,_,rfl,wt,_,_,_,rfl,rfl,ht _,rfl,st,es,lkW b,lkX b,by rw[<-LO,<-LH];rfl,hst.same e1,hl,λp H2 e2 hp=>?_⟩;obtain⟨ys,hp,pr⟩:=hp;refine⟨p,ys,rfl,.inl (SqL.of hp),rfl,?_⟩;have z:=k H2 (e1.trans e2);have le:=aU pr;rw[length_drop]at le;unfold FI at z;by_cases y:IP q S b=(((thH (lkW b) es).length - (thH (lkX b) es).length:Nat):Int)
   . rw[decide_eq_false λw=>w y]at z;rw[Vf (by rw[y,<-le])];exact z
   . rw[Vf y]at z;rw[decide_eq_false λw=>y (by rw[le];exact mR w)];exact z
def GL (w:Nt) (ad:Ad):Sp:=λvs H Q _=>∃ (a:YA) (q:YP) (S:YS) (hs:List Hx),vs=[.ref a.y]/\Yn w ad.aY ad.c9 ad.aM ad.bB ad.aD H a q S/\q.Ok/\S.hs=hs.map Hx.d/\hs.length < 900/\∀ H',bq H H'->Q (.bl (IN q S hs)) H'
def Dt (G:Gs K mg a d):FnOk P w K mg base CX0 4 a.qW d.qW ["yard"] (GL w a):=by
 have Uv:FnOk P w K mg base CX0 1 _ _ _ _:=uC G;have Uu:FnOk P w K mg base CX0 1 _ _ _ _:=mI G;have Ue:FnOk P w K mg base CX0 1 _ _ _ _:=(oW G).imp λvs H Q E=>yU
 have UC:FnOk P w K mg base CX0 3 _ _ _ _:=Jk G;have US:FnOk P w K mg base CX0 3 _ _ _ _:=K2 G;have UY:FnOk P w K mg base CX0 3 _ _ _ _:=ID G;refine G.Bf.ok Bk (λvs H Q E h=>?_) (λcdv A' outer s' H vs Q E hr h=>?_)
 . obtain⟨y,q,S,hs,rfl,_⟩:=h;rfl
 . obtain⟨y,q,S,hs,rfl,Y,ok,hh,hl,k⟩:=h;have hu:=bU hr;refine⟨_,((@aJ _ _ 1 _ _ _ _ Bk.nd rfl (NW rfl) (aS (pv 0) G.al G.iQ Uv (hr.mono (by decide)) G.ki .nil aq) (by rfl) (by first|exact .inl rfl|exact .inr rfl|assumption))∪((aI (ar pF (au UC (hr.mono (by decide)) (by rfl) G.uu G.ms.kp G.sX .nil aq ((pv 1)∣aa)) dY (ay _)) (eG⁻¹) am)∪((aI (vZ ((uk (mG (av (aS (pv 0) G.al G.cM Uu (hr.mono (by decide)) G.dP .nil aq) G.aG G.cZ Ue (hr.mono (by decide)) G.ez .nil aq (ag∣aa)) (λ_=>rfl)) (oo (mG (av (aS (pv 0) G.al G.cM Uu (hr.mono (by decide)) G.dP .nil aq) G.aG G.cZ Ue (hr.mono (by decide)) G.ez .nil aq (ag∣aa)) (λ_=>rfl))))).pt) (eG⁻¹) am)∪((aI (vZ ((uk (bP (au US (hr.mono (by decide)) (by rfl) G.qL G.lR.kp G.qr .nil aq ((pv 0)∣((pv 1)∣((f6 (v:=.ref a.hZ) (by rfl) G.xU rfl)∣aa))))) (oo (bP (au US (hr.mono (by decide)) (by rfl) G.qL G.lR.kp G.qr .nil aq ((pv 0)∣((pv 1)∣((f6 (v:=.ref a.bJ) (by rfl) G.m7 rfl)∣aa)))))))).pt) (eG⁻¹) am)∪((Ls (au UY (hr.mono (by decide)) (by rfl) G.oC G.kI.kp G.oB .nil aq ((pv 0)∣(ag∣aa))) (Bq (au UY (hr.mono (by decide)) (by rfl) G.oC G.kI.kp G.oB .nil aq ((pv 0)∣(ag∣aa)))))⁻¹))))),?_⟩;refine⟨_,rfl,dX Y.ob (eN (by decide +kernel)) ⟨y,_,S,rfl,Y,λl ts nl dv=>?_⟩⟩;have e1:=af (o:=.lst ts) nl;have dv':=DVs.fl (λb vs e=>e1 b _ e) Y.fl dv;have hl1:upd H l (.lst ts) l=f' (.lst ts):=a8;generalize upd H l (.lst ts)=H1 at e1 dv' hl1 |-;have Y1:=Y.same e1;rw[hh]at dv';have SX1:SX H1 l hs:=⟨ts,hl1,JV dv'⟩
   clear dv dv' nl;refine⟨_,rfl,l,hs,rfl,SX1,hl,λH2 e2=>?_⟩;have Y2:=Y1.same e2;have SX2:=SX1.same e2;have E2:=e1.trans e2;clear SX1 Y1 e1 e2 hl1;unfold IN at k;cases hf:kC [] hs with
  |some n =>
    rw[hf,Vd (by intro z;cases z)]at k;exact⟨rfl,_,rfl,fP (k _ E2)⟩
  |none =>
    rw[hf,Vc rfl]at k;refine⟨rfl,_,rfl,cW ?_⟩;have hr:=vd hf;generalize rls hs=rs at k hr;subst hr;rw[Nu]at hl;have S2:SV H2 l rs:=by
     obtain⟨ts,h1,h2⟩:=SX2;exact⟨ts,h1,K4 h2⟩
    clear SX2;refine⟨λb H'=>(b=G' ↔ ¬ (S.rs D'=[]/\S.rs G'=[]))/\bq H2 H',?_,?_⟩
    . refine⟨_,rfl,dX Y2.ob (eN (by decide +kernel)) ⟨y,_,S,rfl,Y2,dX Y2.x.st.ob (cr (by decide +kernel) (by decide +kernel)) ⟨y.sa,S.m,S.rs,D',rfl,Y2.x.st,λp1 t1 hp1 dv1=>⟨_,.inl ⟨_,SqL.of a8,rfl⟩,?_⟩⟩⟩⟩;have l1:=gm dv1;rw[Nu]at l1;have e3:=af (o:=.lst t1) hp1;generalize upd H2 p1 (.lst t1)=H3 at e3 |-;cases hr1:S.rs D' with
     |cons z zs =>
       rw[hr1]at l1;cases t1 with
      |nil=>cases l1
      |cons u us=>exact fP ⟨⟨λ_ w=>(by cases w.1),λ_=>rfl⟩,e3⟩
     |nil =>
       rw[hr1]at l1;cases t1 with
      |cons u us=>cases l1
      |nil =>
        refine cW ?_;have Y3:=Y2.same e3;refine⟨_,rfl,dX Y3.ob (eN (by decide +kernel)) ⟨y,_,S,rfl,Y3,dX Y3.x.st.ob (cr (by decide +kernel) (by decide +kernel)) ⟨y.sa,S.m,S.rs,G',rfl,Y3.x.st,λp2 t2 hp2 dv2=>⟨_,.inl ⟨_,SqL.of a8,rfl⟩,?_,e3.trans (af hp2)⟩⟩⟩⟩;have l2':=gm dv2;rw[Nu]at l2';cases hr2:S.rs G' with
       |cons z zs =>
         rw[hr2]at l2';cases t2 with
        |nil=>cases l2'
        |cons u us=>exact⟨λ_ w=>(by cases w.2),λ_=>rfl⟩
       |nil =>
         rw[hr2]at l2';cases t2 with
        |cons u us=>cases l2'
        |nil=>exact⟨λz=>(by cases z),λz=>absurd ⟨rfl,rfl⟩ z⟩
    rintro b H3 ⟨hb,e3⟩;by_cases hz:S.rs D'=[]/\S.rs G'=[]
    rotate_left
    . rw[Vd hz]at k;rw[hb.mpr hz];exact fP (k _ (E2.trans e3))
    . rw[Vc hz]at k;have hbf:b=D':=by
       cases b with
      |false=>rfl
      |true=>exact absurd hz (hb.mp rfl)
      subst hbf;refine cW ?_;have Y3:=Y2.same e3;have S3:=S2.same e3;have E3:=E2.trans e3;clear Y2 S2 E2 e3 hb;refine⟨λb H'=>b=(FI q S rs G' || FI q S rs D')/\bq H H',?_,?_⟩
      . refine⟨_,rfl,_,rfl,y,q,S,l,a.hZ,"ask",G',rs,rfl,Y3,ok,G.yM,S3,by omega,λH4 e4=>⟨_,rfl,?_⟩⟩;cases FI q S rs G' with
       |true=>exact fP ⟨rfl,E3.trans e4⟩
       |false =>
         refine cW ⟨_,rfl,_,rfl,y,q,S,l,a.bJ,"answer",D',rs,rfl,Y3.same e4,ok,G.mj,S3.same e4,by omega,λH5 e5=>⟨_,rfl,?_⟩⟩;exact⟨rfl,E3.trans (e4.trans e5)⟩
      rintro b H4 ⟨rfl,E4⟩;rw[<-Bool.or_assoc]at k;cases hm:(FI q S rs G' || FI q S rs D') with
     |true =>
       rw[hm]at k;exact fP (k _ E4)
     |false =>
       rw[hm,Bool.false_or]at k;refine cW ?_;refine⟨_,rfl,y,q,S,D',rfl,Y.same E4,ok,λH5 e5=>⟨_,rfl,?_⟩⟩;cases ho:ovB q S D' with
      |true =>
        rw[ho]at k;exact fP (k _ (E4.trans e5))
      |false =>
        rw[ho,Bool.false_or]at k;exact cW ⟨_,rfl,y,q,S,G',rfl,Y.same (E4.trans e5),ok,λH6 e6=>k _ (E4.trans (e5.trans e6))⟩
def E8:Sp:=λvs H Q _=>∃ i:Int,vs=[.str (cm i)]/\Bnd i/\∀ H',bq H H'->Q (.bl G') H'
def EK (G:Gs K mg a d):FnOk P w K mg base CX0 1 a.gF d.gF ["word"] E8:=by
 refine G.qQ.ok o7 (λvs H Q E h=>?_) (λcdv A' outer s' H vs Q E hr h=>?_)
 . obtain⟨i,rfl,_⟩:=h;rfl
 . obtain⟨i,rfl,hb,k⟩:=h;refine⟨_,(@kj _ _ _ _ _ (@aJ _ _ 1 _ _ _ _ o7.nd rfl (NW rfl) (fX (bP (@jU _ _ _ _ _ _ _ _ _ _ _ _ OU PySem.F.slot_str_startswith PySem.F.type_str_startswith De (pv 0) (aj∣aa) (by rfl) (by rfl) (by rfl) (by rfl) (by rfl))) (d6 Kc (pv 0) (eB ag) iw) (pv 0)) (by rfl) (by first|exact .inl rfl|exact .inr rfl|assumption))
    ((@aI _ _ _ _ _ _ _ _ (vZ ((uk (eI (yf zF zF ag (aN wn (by rfl) G.m9 i0 ((pv 1)∣aa)) (mD (by rfl) G.rM))) (oo (eI (bP (aN (uf rfl) (by rfl) G.HZ Dj ((by exact ik (tc:=λ_ H Q=>Q G' H) (te:=tOp M4 (qP 0) (tC (.str "0123456789"))) (caps:=[]) (js:=[]) rfl (gu rfl rfl (by decide +kernel) (by decide +kernel) rfl trivial rfl rfl) (by decide +kernel) trivial (JT (pv 1)) (λC s₃ H₃ P2 ex E'=>by exact d8) (λC s₃ H₃ P2 ex E'=>by exact(cc JP (pv 0) (EI (by rfl) G.BY) (by with_unfolding_all rfl))))∣aa))))))).pt) (eG⁻¹) am)∪((cc cp (aR fj (by rfl) G.oK jP ((aR wj (by rfl) G.Ab sr ((pv 0)∣aa))∣aa)) (pv 0) (ay _))⁻¹))),?_⟩
   obtain⟨f1,f2,f3⟩:=Kn i hb;have nl:=kE i hb;have hfig:(vI i).cps.all (· < 128)=G':=by
    rw[<-Array.all_toList,all_eq_true];intro c hc;have:=f1 c hc;exact Vf (by omega)
   refine⟨λσ H'=>H'=H/\σ=[f' (.str (cm i)),f' (.str (vI i))],?_,?_⟩
   . refine⟨_,rfl,rfl,cm i,"-",rfl,rfl,_,rfl,?_⟩;have fs:vI i=if Txt.startswith (cm i) "-"=G' then HM (cm i) (f' 1) Nf else cm i:=rfl
     cases hs:Txt.startswith (cm i) "-" with
    |true =>
      rw[hs,Vc rfl]at fs;exact fP ⟨_,rfl,_,rfl,cm i,rfl,by rw[<-fs];omega,rfl,by rw[fs];rfl⟩
    |false =>
      rw[hs,Vd (by decide)]at fs;exact cW ⟨_,rfl,rfl,by rw[fs];rfl⟩
   rintro σ H' ⟨rfl,rfl⟩;refine⟨λb H1=>b=D'/\bq H' H1,?_,?_⟩
   . refine⟨_,rfl,_,rfl,NS f3 (by decide),_,_,rfl,rfl,_,rfl,iy (Vf (by omega)) ⟨_,_,rfl,rfl,_,rfl,?_⟩⟩;rw[Vf (by omega)];refine cW ?_;refine⟨_,rfl,vI i,rfl,hfig,λD hD=>?_⟩;have hsz:(vI i).cps.size=(vI i).length:=rfl;refine⟨λj mm ys H1=>j <= (vI i).cps.size/\mm=(vI i).cps.size - j/\ys=(replicate j G').map V.bl/\H1 D=f' (.lst ys)/\bq H' H1,⟨_,Ou _,rfl,rfl,a8,af hD⟩,?_⟩;rintro j mm ys H1 ⟨hj,rfl,rfl,hD1,e1⟩;refine⟨hD1,Nn (show _ < 100 by rw[Nu,O0];omega) (by decide),?_⟩;by_cases hjj:j=(vI i).cps.size
     . refine .inl ⟨by show (vI i).cps.size <= j;omega,?_⟩;refine⟨D,replicate j G',rfl,SqL.of hD1,_,rfl,?_,e1⟩;have:(replicate j G').all id=G':=by
        rw[all_eq_true];intro b hb;rw[List.eq_of_mem_replicate hb];rfl
       rw[this];rfl
     . refine .inr ⟨by show j < (vI i).cps.size;omega,?_⟩;rintro v H2 ⟨rfl,c,hc,rfl⟩;refine fP ?_;have hm:c∈(vI i).cps.toList:=by
        rw[<-N0]at hc;exact N1 hc
       refine⟨_,rfl,_,_,rfl,rfl,?_⟩;rw[KF (f1 c hm)];refine⟨hD1,(vI i).cps.size - (j+1),by omega,by omega,rfl,?_,a8,λc o e=>?_⟩
       . rw[List.replicate_succ',OS];rfl
       . by_cases z:c=D
         . rw[z,hD]at e;cases e
         . rw[ae z];exact e1 c o e
   rintro b H1 ⟨rfl,e1⟩;refine cW ?_;refine⟨_,rfl,cm i,i,rfl,uL i hb,by omega,.inl ⟨i,rfl,?_,_,rfl,rfl,?_⟩⟩
   . have:i.natAbs < 2 ^ 31:=by unfold Bnd at hb;omega
     by_cases z:i.natAbs=0
     . rw[z];decide
     . have:=(log2_lt z).mpr this;omega
   . rw[Vf (show V.str (N3 (toString i))=V.str (cm i) from rfl)];exact k _ e1
def Ea:Sp:=λvs H Q _=>∃ (i:Int) (k:Str),vs=[.str (cm i),.str k]/\InB k i/\∀ H',bq H H'->Q (.int i) H'
def CN (K:Nh):Sp:=λvs H Q _=>∃ (l t:K') (is:List Int) (ks:List Str),vs=[.ref l,.ref t]/\SqL K H l ((is.map cm).map V.str)/\SqT K H t (ks.map V.str)/\NF InB ks is/\is.length <= 60/\∀ D H',H D=Nf->bq H H'->H' D=f' (.lst (is.map V.int))->Q (.ref D) H'
def HL:Sp:=λvs H Q _=>∃ (l:K') (fs:List Str),vs=[.ref l]/\H l=f' (.lst (fs.map V.str))/\FOk fs/\∀ H',bq H H'->Q .non H'
def Fr:Sp:=λvs H Q _=>∃ b:Bool,vs=[.bl b]/\Q (.str (ynS b)) H
def tU:Sp:=λvs H Q _=>(vs=[.non]/\Q (.str "none") H)\/∃ i:Int,vs=[.int i]/\Bnd i/\Q (.str (cm i)) H
def EL:Sp:=λvs H Q _=>∃ (x:Dd) (dd:Ni) (v:V) (t:Str),vs=[.str x.word,v]/\DV H dd v/\Tl x dd t/\∀ H',bq H H'->Q (.str t) H'
def ip {i:Int}(hb:Bnd i):i.natAbs.log2 < 1920:=by
 have:i.natAbs < 2 ^ 31:=by unfold Bnd at hb;omega
 by_cases z:i.natAbs=0
 . rw[z];decide
 . have:=(log2_lt z).mpr this;omega
def BO (G:Gs K mg a d) {k:Str}{i:Int}(h:InB k i):∃ lo hi,lo <= i/\i <= hi/\((∃ b,PyProof.Rows.KTD.datumAt k [("size",a.dW),("rounds",a.dO),("names",a.dR),("name",a.dQ),("side",a.dS)]=f' b/\∀ H:Hp,SqT K H b [.int lo,.int hi])\/(PyProof.Rows.KTD.datumAt k [("size",a.dW),("rounds",a.dO),("names",a.dR),("name",a.dQ),("side",a.dS)]=Nf/\lo=-1000000000/\hi=1000000000)):=by
 rcases h with⟨rfl,h1,h2⟩|⟨rfl,h1,h2⟩|⟨rfl,h1,h2⟩|⟨rfl,h1,h2⟩|⟨rfl,h1,h2⟩|⟨rfl,h1,h2⟩
 . exact⟨1,8,h1,h2,.inl ⟨_,rfl,G.Ap⟩⟩
 . exact⟨2,4,h1,h2,.inl ⟨_,rfl,G.A4⟩⟩
 . exact⟨1,9,h1,h2,.inl ⟨_,rfl,G.AI⟩⟩
 . exact⟨0,1000000000,h1,h2,.inl ⟨_,rfl,G.AG⟩⟩
 . exact⟨0,1,h1,h2,.inl ⟨_,rfl,G.AH⟩⟩
 . exact⟨-1000000000,1000000000,h1,h2,.inr ⟨rfl,rfl,rfl⟩⟩
def FM (G:Gs K mg a d):FnOk P w K mg base CX0 2 a.gx d.gx ["word","kind"] Ea:=by
 have UE:FnOk P w K mg base CX0 1 _ _ _ _:=EK G;refine G.qm.ok k8 (λvs H Q E h=>?_) (λcdv A' outer s' H vs Q E hr h=>?_)
 . obtain⟨i,k,rfl,_⟩:=h;rfl
 . obtain⟨i,kk,rfl,hb,k⟩:=h;have hu:=bU hr;refine⟨_,((aI (eI (bP (au UE (hr.mono (by decide)) (by rfl) G.xw G.qQ.kp G.xk .nil aq ((pv 0)∣aa)))) (@ao _ _ _ fR) am)∪((@aJ _ _ 2 _ _ _ _ k8.nd rfl (NW rfl) (AC (by rfl) G.EG G.E9 (pv 1) (@bi _ _ _ _ _ ((FL yz (mD (by rfl) G.gQ))∣((mD (by rfl) G.gQ)∣aa))) ⟨rfl,rfl,rfl,rfl⟩) (by rfl) (by first|exact .inl rfl|exact .inr rfl|assumption))∪((@aJ _ _ 3 _ _ _ _ k8.nd rfl (NW rfl) (aR wj (by rfl) G.Ab sr ((pv 0)∣aa)) (by rfl) (by first|exact .inl rfl|exact .inr rfl|assumption))∪((aI (eI (yf zF zF (@az _ _ _ _ _ _ _ aF (pv 2) ag (λ_ _=>rfl)) (pv 3) (@az _ _ _ _ _ _ _ aF (pv 2) ag (λ_ _=>rfl)))) (@ao _ _ _ fR) am)∪((pv 3)⁻¹))))),?_⟩;obtain⟨lo,hi,h1,h2,hat⟩:=BO G hb;have nl:=kE i hb.bnd;refine⟨_,rfl,i,rfl,hb.bnd,λH1 e1=>⟨_,rfl,cW ?_⟩⟩;refine⟨_,rfl,_,rfl,l2,λt nt=>⟨kk,rfl,?_⟩⟩;have v2:upd H1 t (.tup [.int (-1000000000),.int 1000000000]) t=f' (.tup [.int (-1000000000),.int 1000000000]):=a8;have e2:=e1.trans (af (o:=.tup [.int (-1000000000),.int 1000000000]) nt);rcases hat with⟨b,hd,hs⟩|⟨hd,rfl,rfl⟩
   . rw[hd];refine⟨_,rfl,cm i,i,rfl,uL i hb.bnd,by omega,?_⟩;refine⟨_,rfl,b,_,_,_,rfl,rfl,hs _,rfl,_,rfl,_,_,rfl,rfl,_,rfl,iy (Vf h1) ⟨_,rfl,b,_,_,_,rfl,rfl,hs _,rfl,_,_,rfl,rfl,_,rfl,?_⟩⟩;rw[Vf h2];exact cW ⟨_,rfl,k _ e2⟩
   . rw[hd];refine⟨_,rfl,cm i,i,rfl,uL i hb.bnd,by omega,?_⟩;refine⟨_,rfl,t,_,_,_,rfl,rfl,SqT.of v2,rfl,_,rfl,_,_,rfl,rfl,_,rfl,iy (Vf h1) ⟨_,rfl,t,_,_,_,rfl,rfl,SqT.of v2,rfl,_,_,rfl,rfl,_,rfl,?_⟩⟩;rw[Vf h2];exact cW ⟨_,rfl,k _ e2⟩
def qf (G:Gs K mg a d):FnOk P w K mg base CX0 3 a.eK d.eK ["words","kinds"] (CN K):=by
 have UW:FnOk P w K mg base CX0 2 _ _ _ _:=FM G;refine G.i5.ok uD (λvs H Q E h=>?_) (λcdv A' outer s' H vs Q E hr h=>?_)
 . obtain⟨l,t,is,ks,rfl,_⟩:=h;rfl
 . obtain⟨l,t,is,ks,rfl,hl,ht,hp,hn,k⟩:=h;have hu:=bU hr;refine⟨_,((aI (ar oQ (aN b8 (by rfl) G.m9 i0 ((pv 0)∣aa)) (aN b8 (by rfl) G.m9 i0 ((pv 1)∣aa)) (ay _)) (@ao _ _ _ fR) am)∪((by exact yP (x:="word") (x2:="kind") (g:=KJ K 2 (xM (mt 0) (xM (mt 1) KQ))) (caps:=[]) (js:=[]) rfl (gu rfl rfl (by decide +kernel) (by decide +kernel) rfl trivial rfl rfl) (λC s₃ H₃ P2 ex E'=>by exact Gj rfl (show (["word","kind"]:List Str).Nodup from by decide +kernel) rfl rfl (.inl (lookup_relabel_local rfl)) (.inl (lookup_relabel_local rfl)) rfl rfl) trivial (HW (by rfl) G.Kr ((pv 0)∣((pv 1)∣aa))) (λC s₃ H₃ P2 ex E'=>by exact d8) (λC s₃ H₃ P2 ex E'=>by exact(au UW (hr.mono (by decide)) (by rfl) G.xB G.qm.kp G.xP .nil aq ((pv 0)∣((pv 1)∣aa)))))⁻¹)),?_⟩;have pl:=aU hp;refine⟨_,rfl,l,_,rfl,.inl hl,_,rfl,t,_,rfl,.inr ht,?_⟩;refine⟨rfl,_,rfl,cu ?_ ?_⟩
   . rw[Pu,decide_eq_false_iff_not,Decidable.not_not];refine congrArg V.int ?_;rw[Nu,Nu,Nu,pl]
   refine⟨_,rfl,_,rfl,l,t,_,_,rfl,hl,ht,λD hD=>?_⟩;refine⟨λi mm ys H'=>i <= is.length/\mm=is.length - i/\ys=(is.take i).map V.int/\H' D=f' (.lst ys)/\bq H H',⟨_,Ou _,rfl,rfl,a8,af hD⟩,?_⟩;rintro i mm ys H2 ⟨hi,rfl,rfl,hD2,e2⟩;refine⟨hD2,Nn (show _ < 1000 by rw[Nu,OI];omega) (by decide),?_⟩;by_cases hii:i=is.length
   . refine .inl ⟨⟨_,e2.seq hl,by rw[Nu,Nu];omega⟩,?_⟩;rw[hii,take_length]at hD2;exact k D _ hD e2 hD2
   . have hlt:i < is.length:=by omega
     have hlt2:i < ks.length:=by omega
     refine .inr ⟨⟨_,_,_,_,e2.seq hl,e2.seqT ht,by rw[NL,NL,Nk hlt];rfl,by rw[NL,Nk hlt2];rfl⟩,?_⟩;rintro v H3 ⟨T,xv,yv,hT,rfl,rfl,hxv,hyv⟩ v0 v1';have hxv:=hxv _ (e2.seq hl);have hyv:=hyv _ (e2.seqT ht);rw[NL,NL,Nk hlt]at hxv;rw[NL,Nk hlt2]at hyv;cases hxv;cases hyv;refine⟨T,_,rfl,SqT.of a8,rfl,_,_,rfl,_,_,rfl,rfl,_,_,rfl,?_⟩;have hb:InB ks[i] is[i]:=by
      obtain⟨x,h1,h2⟩:=jX hp (Nk hlt);rw[Nk hlt2]at h1;cases h1;exact h2
     have nD:D≠T:=λy=>by rw[<-y,hD2]at hT;cases hT
     refine fP ⟨_,rfl,_,rfl,is[i],ks[i],rfl,hb,λH4 e4=>?_⟩;have e24:bq H2 H4:=(af hT).trans e4;refine⟨e24 _ _ hD2,is.length - (i+1),by omega,by omega,rfl,?_,a8,λc o e=>?_⟩
     . rw[<-List.take_append_getElem hlt,OS];rfl
     . rw[ae (λz=>by rw[z,hD]at e;cases e)];exact e24 _ _ (e2 c o e)
def Iy (G:Gs K mg a d):FnOk P w K mg base CX0 1 a.cx d.cx ["faults"] HL:=by
 refine G.lC.ok pD (λvs H Q E h=>?_) (λcdv A' outer s' H vs Q E hr h=>?_)
 . obtain⟨l,fs,rfl,_⟩:=h;rfl
 . obtain⟨l,fs,rfl,hl,hf,k⟩:=h;have hu:=bU hr;refine⟨_,((@aI _ _ _ _ _ _ _ _ (eI (bP (aN (uf rfl) (by rfl) G.HZ Dj ((by exact ik (tc:=λ_ H Q=>Q G' H) (te:=tOp (rIn K D') (qP 0) (tC (.ref a.fY))) (caps:=[]) (js:=[]) rfl (gu rfl rfl (by decide +kernel) (by decide +kernel) rfl trivial rfl rfl) (by decide +kernel) trivial (@jK _ _ _ _ (pv 0)) (λC s₃ H₃ P2 ex E'=>by exact d8) (λC s₃ H₃ P2 ex E'=>by exact(cc eF (pv 0) (f6 (v:=.ref a.fY) (by rfl) G.FE rfl) (by with_unfolding_all rfl))))∣aa)))) (@ao _ _ _ fR) am)∪(@ao _ _ _ (@aI _ _ _ _ _ _ _ _ (ar (FU hr.units) (pv 0) (aN (oa rfl) (by rfl) G.tM pU ((aR (vn rfl) (by rfl) G.KG G9 ((pv 0)∣aa))∣aa)) (ay _)) (@ao _ _ _ fR) am))),?_⟩;have fl:=hf.len;refine⟨_,rfl,l,rfl,⟨_,SqL.of hl⟩,λD hD=>wy (ys:=(fs.map λ_=>G').map V.bl) (SqL.of hl) hD (by simp) (by simp;omega) (λH1 e1 hD1=>?_) (λi x y H3 R hx hy e3 kR=>?_)⟩;rotate_left
   . rw[NL]at hx;cases hf':fs[i]? with
    |none=>rw[hf']at hx;cases hx
    |some f =>
      rw[hf']at hx;cases hx;rw[NL,NL,hf']at hy;cases hy;have hm:=hf.fa f (N1 hf');refine⟨_,rfl,a.fY,_,rfl,.inr (G.EC H3),rfl,bE FA,?_⟩;simp only[NK,if_false];rw[show inV (V.str f) [V.str "bell",V.str "counter",V.str "lie",V.str "look",V.str "round"]=G' from (eL f FA).trans (List.contains_iff_mem.mpr hm)];exact kR _ (bq.refl _)
   refine⟨D,fs.map λ_=>G',rfl,SqL.of hD1,_,rfl,?_⟩;rw[show (fs.map λ_=>G').all id=G' by simp];refine cW ?_;have hl1:=e1 _ _ hl;refine⟨_,rfl,_,rfl,l,fs,rfl,SqL.of hl1,by omega,λq nq=>⟨q,_,rfl,a8,by have:=C0 fs;omega,λl1 fs1 nl1 pf so=>?_⟩⟩;have e2:=af (o:=Ic w q (Do fs)) nq;have e3:=af (o:=.lst (fs1.map V.str)) nl1;have E3:=e2.trans e3;have v3:upd (upd H1 q (Ic w q (Do fs))) l1 (.lst (fs1.map V.str)) l1=f' (.lst (fs1.map V.str)):=a8;have hl3:=E3 _ _ hl1;cases hf.one pf so;refine⟨.list (fs.map Od),.list (fs.map Od),⟨l,_,rfl,hl3,fU fs⟩,⟨l1,_,rfl,v3,fU fs⟩,hf.lay,hf.lay,_,rfl,?_⟩;rw[Vc rfl,GM hf.lay];exact cW (k _ (e1.trans E3))
def za (G:Gs K mg a d):FnOk P w K mg base CX0 1 a.gb d.gb ["truth"] Fr:=by
 refine G.m4.ok vK (λvs H Q E h=>?_) (λcdv A' outer s' H vs Q E hr h=>?_)
 . obtain⟨b,rfl,_⟩:=h;rfl
 . obtain⟨b,rfl,k⟩:=h;refine⟨_,((fX (bP (pv 0)) aj aj)⁻¹),?_⟩;refine⟨_,rfl,b,rfl,?_⟩;cases b
   . exact cW k
   . exact fP k
def FJ (G:Gs K mg a d):FnOk P w K mg base CX0 1 a.gl d.gl ["part"] tU:=by
 refine G.lO.ok wE (λvs H Q E h=>?_) (λcdv A' outer s' H vs Q E hr h=>?_)
 . rcases h with⟨rfl,_⟩|⟨i,rfl,_⟩<;>rfl
 . refine⟨_,((fX (ar vi (pv 0) dY (ay _)) aj (aR fj (by rfl) G.oK jP ((pv 0)∣aa)))⁻¹),?_⟩;rcases h with⟨rfl,k⟩|⟨i,rfl,hb,k⟩
   . exact⟨_,rfl,rfl,_,rfl,iy (Vf rfl) k⟩
   . exact⟨_,rfl,rfl,_,rfl,cu (by rw[Ve];intro z;cases z) ⟨_,rfl,.inl ⟨i,rfl,ip hb,k⟩⟩⟩
def Ej (G:Gs K mg a d):FnOk P w K mg base CX0 2 a.gp d.gp ["word","told"] EL:=by
 have U4:FnOk P w K mg base CX0 1 _ _ _ _:=za G;have UZ:FnOk P w K mg base CX0 1 _ _ _ _:=FJ G;refine G.qG.ok vt (λvs H Q E h=>?_) (λcdv A' outer s' H vs Q E hr h=>?_)
 . obtain⟨x,dd,v,t,rfl,_⟩:=h;rfl
 . obtain⟨x,dd,v,t,rfl,hd,ht,k⟩:=h;have hu:=bU hr;refine⟨_,((aI (ar eF (pv 0) (@bi _ _ _ _ _ (aj∣(aj∣(aj∣aa)))) (by with_unfolding_all rfl)) (aj⁻¹) am)∪((aI (bP (aN c8 (by rfl) G.bI bx ((pv 1)∣((jd (v:=.ty "bool") (by rfl) G.Gy Ct rfl)∣aa)))) ((au U4 (hr.mono (by decide)) (by rfl) G.qz G.m4.kp G.qi .nil aq ((pv 1)∣aa))⁻¹) am)∪((aI (bP (aN c8 (by rfl) G.bI bx ((pv 1)∣((jd (v:=.ty "tuple") (by rfl) G.kX gW rfl)∣aa)))) ((@jU _ _ _ _ _ _ _ _ _ _ _ _ OU PySem.F.slot_str_join PySem.F.type_str_join tP aj ((by exact ik (tc:=λ_ H Q=>Q G' H) (te:=uY tU [] E0 (li (qP 0) AU)) (caps:=[]) (js:=[]) rfl (gu rfl rfl (by decide +kernel) (by decide +kernel) rfl trivial rfl rfl) (by decide +kernel) trivial (xY (pv 1)) (λC s₃ H₃ P2 ex E'=>by exact d8) (λC s₃ H₃ P2 ex E'=>by exact(au UZ (hr.mono (by decide)) (by rfl) G.qM G.lO.kp G.qb .nil aq ((pv 0)∣aa))))∣aa) (by rfl) (by rfl) (by rfl) (by rfl) (by rfl))⁻¹) am)∪((au UZ (hr.mono (by decide)) (by rfl) G.qM G.lO.kp G.qb .nil aq ((pv 1)∣aa))⁻¹)))),?_⟩;refine⟨_,rfl,(by show 3 <= Nl;decide),λq nq=>⟨q,_,rfl,.inr (SqT.of a8),rfl,bE ["answer","lie","drain"],_,rfl,?_⟩⟩;simp only[NK,if_false];rw[show inV (V.str x.word) [V.str "answer",V.str "lie",V.str "drain"]=_ from eL x.word ["answer","lie","drain"]];have e1:=af (o:=.tup [V.str "answer",V.str "lie",V.str "drain"]) nq;generalize upd H q (.tup [V.str "answer",V.str "lie",V.str "drain"])=H1 at e1 |-;cases ht with
  |ans n wt=>exact iy rfl (k _ e1)
  |lie b=>exact iy rfl (k _ e1)
  |drn b=>exact iy rfl (k _ e1)
  |bell b c =>
    cases hd;exact cu (show ¬ (["answer","lie","drain"]:List Str).contains "bell"=G' by decide +kernel) ⟨_,rfl,_,_,.type "bool",G',rfl,.bl _,by rfl,_,rfl,fP ⟨_,rfl,c,rfl,k _ e1⟩⟩
  |look b c =>
    cases hd;exact cu (show ¬ (["answer","lie","drain"]:List Str).contains "look"=G' by decide +kernel) ⟨_,rfl,_,_,.type "bool",G',rfl,.bl _,by rfl,_,rfl,fP ⟨_,rfl,c,rfl,k _ e1⟩⟩
  |ask wt i hb =>
    cases hd;refine cu (show ¬ (["answer","lie","drain"]:List Str).contains "ask"=G' by decide +kernel) ⟨_,rfl,_,_,.type "int",D',rfl,.int _,IS,_,rfl,cW ?_⟩;exact⟨_,rfl,_,_,.type "int",D',rfl,.int _,GW,_,rfl,cW ⟨_,rfl,.inr ⟨i,rfl,hb,k _ e1⟩⟩⟩
  |non _ hx =>
    cases hd;refine cu (by rcases hx with rfl|rfl<;>decide +kernel) ⟨_,rfl,_,_,.type "NoneType",D',rfl,.non,by rfl,_,rfl,cW ?_⟩;exact⟨_,rfl,_,_,.type "NoneType",D',rfl,.non,by rfl,_,rfl,cW ⟨_,rfl,.inl ⟨rfl,k _ e1⟩⟩⟩
  |two _ i j hx h1 h2 =>
    obtain⟨p,ts,rfl,hp,_,_,rfl,rfl,_,_,rfl,rfl,rfl⟩:=hd;have hp1:=e1 _ _ hp;refine cu (by rcases hx with rfl|rfl<;>decide +kernel) ⟨_,rfl,_,_,.type "tuple",D',rfl,.tup hp1,by rfl,_,rfl,cW ?_⟩;refine⟨_,rfl,_,_,.type "tuple",G',rfl,.tup hp1,zW,_,rfl,fP ?_⟩;have n1:=kE i h1;have n2:=kE j h2;refine⟨rfl,_,rfl,_,rfl,⟨_,SqT.of hp1⟩,λD hD=>mY (ys:=[V.str (cm i),V.str (cm j)]) (SqT.of hp1) hD rfl (by show 2 < 1000;decide) (λH2 e2 hD2=>⟨_,D,[cm i,cm j],rfl,rfl,SqL.of hD2,?_,k _ (e1.trans e2)⟩) (λn x y H3 R hx hy e3 kR=>?_)⟩
    . show ((cm i).length+((cm j).length+0))+2 * 1 <= 16777216;omega
    . match n,hx,hy with
     |0,hx,hy=>cases hx;cases hy;exact⟨_,rfl,.inr ⟨i,rfl,h1,kR _ (bq.refl _)⟩⟩
     |1,hx,hy=>cases hx;cases hy;exact⟨_,rfl,.inr ⟨j,rfl,h2,kR _ (bq.refl _)⟩⟩
     |_+2,hx,hy=>cases hx
  |nn _ hx =>
    obtain⟨p,ts,rfl,hp,_,_,rfl,rfl,_,_,rfl,rfl,rfl⟩:=hd;have hp1:=e1 _ _ hp;refine cu (by rcases hx with rfl|rfl<;>decide +kernel) ⟨_,rfl,_,_,.type "tuple",D',rfl,.tup hp1,by rfl,_,rfl,cW ?_⟩;refine⟨_,rfl,_,_,.type "tuple",G',rfl,.tup hp1,zW,_,rfl,fP ?_⟩;refine⟨rfl,_,rfl,_,rfl,⟨_,SqT.of hp1⟩,λD hD=>mY (ys:=[V.str "none",V.str "none"]) (SqT.of hp1) hD rfl (by show 2 < 1000;decide) (λH2 e2 hD2=>⟨_,D,["none","none"],rfl,rfl,SqL.of hD2,(by decide +kernel),k _ (e1.trans e2)⟩) (λn x y H3 R hx hy e3 kR=>?_)⟩
    match n,hx,hy with
   |0,hx,hy=>cases hx;cases hy;exact⟨_,rfl,.inl ⟨rfl,kR _ (bq.refl _)⟩⟩
   |1,hx,hy=>cases hx;cases hy;exact⟨_,rfl,.inl ⟨rfl,kR _ (bq.refl _)⟩⟩
   |_+2,hx,hy=>cases hx
def EX (C:K'):Sp:=λvs H Q _=>∃ dk dx:K',vs=[.ref dk]/\H dk=f' (.ins C dx [])/\Q .non (upd H dk (.ins C dx [("yard",.non)]))
def zx (w:Nt) (ad:Ad):Sp:=λvs H Q _=>∃ (dk dx wl:K') (v:V) (s R:Int) (n:Nat) (fs:List Str),vs=[.ref dk,.ref wl]/\H dk=f' (.ins ad.iz dx [("yard",v)])/\H wl=f' (.lst ((kA s R n fs).map V.str))/\(1 <= s/\s <= 8)/\(2 <= R/\R <= 4)/\(1 <= (n:Int)/\(n:Int) <= 9)/\FOk fs /\
 ∀ (a:YA) (H':Hp),Yn w ad.aY ad.c9 ad.aM ad.bB ad.aD H' a (LL s R n fs) YS.zero->H' dk=f' (.ins ad.iz dx [("yard",.ref a.y)])->(∀ c,a.own c->H c=Nf)->(∀ c o,c≠dk->H c=f' o->H' c=f' o)->Q (.str "ok") H'
def A5 (w:Nt) (ad:Ad):Sp:=λvs H Q E=>∃ (dk dx wl:K') (a:YA) (q:YP) (S:YS) (L:Nat) (x:Dd),vs=[.ref dk,.ref wl]/\H dk=f' (.ins ad.iz dx [("yard",.ref a.y)])/\H wl=f' (.lst (x.ws.map V.str))/\¬ a.own wl/\Rdy w ad H a q S L/\x.Ok/\x.NB /\
 match x.chk q S with
|none=>∃ t,Tl x (x.run q S).1 t/\∀ H',Yn w ad.aY ad.c9 ad.aM ad.bB ad.aD H' a q (x.run q S).2->YI q (x.run q S).2 (L+2)->KO a.own H H'->Q (.str t) H'
|some r=>∀ H',bq H H'->E (.ref (rfC ad r)) Nf H'
def A3 (w:Nt) (ad:Ad):Sp:=λvs H Q _=>∃ (dk dx wl:K') (a:YA) (q:YP) (S:YS) (hs:List Hx) (k:Lk),vs=[.ref dk,.ref wl]/\H dk=f' (.ins ad.iz dx [("yard",.ref a.y)])/\H wl=f' (.lst (k.ws.map V.str))/\Yn w ad.aY ad.c9 ad.aM ad.bB ad.aD H a q S/\q.Ok/\S.hs=hs.map Hx.d/\hs.length < 900/\(∀ b,(S.rs b).length < 100000)/\∀ H',bq H H'->Q (.str (k.ans q S hs)) H'
def Fz (G:Gs K mg a d):FnOk P w K mg base CX0 1 a.eU d.eU ["self"] (EX a.iz):=by
 refine G.vv.ok uc (λvs H Q E h=>?_) (λcdv A' outer s' H vs Q E hr h=>?_)
 . obtain⟨dk,dx,rfl,_⟩:=h;rfl
 . obtain⟨dk,dx,rfl,hd,k⟩:=h;have hu:=bU hr;refine⟨_,(@ao _ _ _ (bo (pv 0) dY rfl)),?_⟩;exact⟨_,rfl,dk,a.iz,dx,[],rfl,hd,G.cU,G.bV,by decide,k⟩
def AL (G:Gs K mg a d):FnOk P w K mg base CX0 8 a.c7 d.c7 ["self","words"] (zx w a):=by
 have UX:FnOk P w K mg base CX0 3 _ _ _ _:=qf G;have Uz:FnOk P w K mg base CX0 1 _ _ _ _:=Iy G;have Uh:FnOk P w K mg base CX0 6 _ _ _ _:=xX G;refine G.pB.ok fH (λvs H Q E h=>?_) (λcdv A' outer s' H vs Q E hr h=>?_)
 . obtain⟨dk,dx,wl,v,s,R,n,fs,rfl,_⟩:=h;rfl
 . obtain⟨dk,dx,wl,v,s,R,n,fs,rfl,hd,hw,hs,hR,hn,hf,k⟩:=h;have hu:=bU hr;refine⟨_,((@aJ _ _ 2 _ _ _ _ fH.nd rfl (NW rfl) (au UX (hr.mono (by decide)) (by rfl) G.kK G.i5.kp G.ku .nil aq ((d6 ib (pv 1) (eB ag) (eB ag))∣((@bi _ _ _ _ _ (aj∣(aj∣(aj∣aa))))∣aa))) (by rfl) (by first|exact .inl rfl|exact .inr rfl|assumption))∪((@aJ _ _ 3 _ _ _ _ fH.nd rfl (NW rfl) (d6 ib (pv 1) (eB ag) iw) (by rfl) (by first|exact .inl rfl|exact .inr rfl|assumption))∪((@aL _ _ _ _ (au Uz (hr.mono (by decide)) (by rfl) G.rG G.lC.kp G.rO .nil aq ((pv 3)∣aa)) (by rfl))∪((bo (pv 0) (kG G.Gp Uh (hr.mono (by decide)) (by rfl) G.Gz G.oy .nil aq ((@az _ _ _ _ _ _ _ aC (pv 2) ag (λ_ _=>rfl))∣((@az _ _ _ _ _ _ _ aC (pv 2) ag (λ_ _=>rfl))∣((@az _ _ _ _ _ _ _ aC (pv 2) ag (λ_ _=>rfl))∣((aR fW (by rfl) G.kX gW ((pv 3)∣aa))∣aa))))) rfl)∪(aj⁻¹))))),?_⟩;refine⟨_,rfl,_,rfl,_,rfl,wl,_,rfl,SqL.of hw,λp np=>⟨(by show 3 <= Nl;decide),λt nt=>?_⟩⟩;have c1:lx ((kA s R n fs).map V.str) (f' 1) (f' 4)=([s,R,n].map cm).map V.str:=by
    rw[show (f' (1:Int))=f' ((1:Nat):Int) from rfl,show (f' (4:Int))=f' ((4:Nat):Int) from rfl,yh];rfl
   have c2:lx ((kA s R n fs).map V.str) (f' 4) Nf=fs.map V.str:=by
    rw[show (f' (4:Int))=f' ((4:Nat):Int) from rfl,iE];rfl
   rw[c1]at nt |-;have e1:=af (o:=.lst (([s,R,n].map cm).map V.str)) np;have v1:=a8 (H:=H) (a:=p) (o:=.lst (([s,R,n].map cm).map V.str));generalize upd H p (.lst (([s,R,n].map cm).map V.str))=H1 at e1 v1 nt |-;have e2:=af (o:=.tup [V.str "size",V.str "rounds",V.str "names"]) nt;have v2:=a8 (H:=H1) (a:=t) (o:=.tup [V.str "size",V.str "rounds",V.str "names"]);have v1':=e2 _ _ v1;have E2:=e1.trans e2;generalize upd H1 t (.tup [V.str "size",V.str "rounds",V.str "names"])=H2 at e2 v2 v1' E2 |-;refine⟨p,t,[s,R,n],["size","rounds","names"],rfl,SqL.of v1',SqT.of v2,tL hs hR hn,(by show 3 <= 60;decide),λD H3 hD e3 hD3=>?_⟩;have E3:=E2.trans e3;refine⟨_,rfl,_,rfl,wl,_,rfl,SqL.of (E3 _ _ hw),λp2 np2=>?_⟩;rw[c2];have e4:=af (o:=.lst (fs.map V.str)) np2;have v4:=a8 (H:=H3) (a:=p2) (o:=.lst (fs.map V.str));generalize upd H3 p2 (.lst (fs.map V.str))=H4 at e4 v4 |-;refine⟨_,rfl,p2,fs,rfl,v4,hf,λH5 e5=>?_⟩;have E5:=E3.trans (e4.trans e5);have hD5:=e5 _ _ (e4 _ _ hD3);have hp5:=e5 _ _ v4;clear e1 v1 np nt e2 v2 v1' E2 e3 hD3 E3 np2 e4 v4 e5 c1 c2;refine⟨_,rfl,D,_,_,_,rfl,rfl,SqL.of hD5,rfl,_,rfl,D,_,_,_,rfl,rfl,SqL.of hD5,rfl,_,rfl,D,_,_,_,rfl,rfl,SqL.of hD5,rfl,_,rfl,p2,_,rfl,.inl ⟨SqL.of hp5,λft nft=>?_⟩⟩;have e6:=af (o:=.tup (fs.map V.str)) nft;have v6:=a8 (H:=H5) (a:=ft) (o:=.tup (fs.map V.str));generalize upd H5 ft (.tup (fs.map V.str))=H6 at e6 v6 |-;have E6:=E5.trans e6;clear E5 e6 hD5 hp5 nft;intro y dy ny ndy nedy;refine⟨y,dy,ft,s,R,n,fs,rfl,a8,by rw[ae (ac v6 ny),ae (ac v6 ndy)];exact v6,λa1 H7 ha fa Y7 kp7=>⟨rfl,?_⟩⟩;have e7:=E6.trans (l8 ny ndy kp7);have hd7:=e7 _ _ hd;have fo:∀ c,a1.own c->H c=Nf:=λc hc=>by
    cases h:H c with
   |none=>rfl
   |some o =>
     have h6:=E6 _ _ h;have n1:c≠y:=ac h6 ny;have:=fa c hc n1;rw[ae n1,ae (ac h6 ndy),h6]at this;cases this
   have nd:¬ a1.own dk:=λz=>by rw[fo dk z]at hd;cases hd
   subst ha;refine⟨_,rfl,dk,a.iz,dx,_,rfl,hd7,G.cU,G.bV,(by show 1 < 1000;decide),?_⟩;have ko:KO (·=dk) H7 (upd H7 dk (.ins a.iz dx (bp "yard" (.ref a1.y) [("yard",v)]))):=λc o n e=>by rw[ae n];exact e
   have Y8:=Y7.ko ko (λc z=>by rw[z];exact nd) (λc z vs e=>by rw[z,hd7]at e;cases e);exact k a1 _ Y8 a8 fo λc o n e=>by rw[ae n];exact e7 c o e
def Ai (G:Gs K mg a d):FnOk P w K mg base (CXv P w) 11 a.bY d.bY ["self","words"] (A5 w a):=by
 have UX:FnOk P w K mg base CX0 3 _ _ _ _:=qf G;have U3:FnOk P w K mg base CX0 2 _ _ _ _:=Ej G;have Vb:FnOk P w K mg base (CXv P w) 10 _ _ _ _:=BL G;refine G.qj.okX (k:=10) fM (λvs H Q E h=>?_) (λcdv A' outer s' H vs Q E hr hR h=>?_)
 . obtain⟨dk,dx,wl,y,q,S,L,x,rfl,_⟩:=h;rfl
 . obtain⟨dk,dx,wl,y,q,S,L,x,rfl,hd,hw,hwn,Y,xo,nb,k⟩:=h;have hu:=bU hr;refine⟨_,((@aJ _ _ 2 _ _ _ _ fM.nd rfl (NW rfl) (au UX (hr.mono (by decide)) (by rfl) G.kK G.i5.kp G.ku .nil aq ((d6 ib (pv 1) (eB ag) iw)∣((Fy (by rfl) G.xA G.xu (@az _ _ _ _ _ _ _ aC (pv 1) ag (λ_ _=>rfl)) (λ_ _=>rfl))∣aa))) (by rfl) (by first|exact .inl rfl|exact .inr rfl|assumption))∪((@aJ _ _ 3 _ _ _ _ fM.nd rfl (NW rfl) (av (ak (pv 0) rfl) G.al G.oA Vb (hr.mono (by decide)) G.pK .nil hR.passes ((aR fW (by rfl) G.kX gW ((@dA _ _ _ _ _ _ _ _ Co (@bG _ _ _ _ ((@az _ _ _ _ _ _ _ aC (pv 1) ag (λ_ _=>rfl))∣aa)) (pv 2))∣aa))∣aa)) (by rfl) (by first|exact .inl rfl|exact .inr rfl|assumption))∪((au U3 (hr.mono (by decide)) (by rfl) G.wQ G.qG.kp G.xO .nil aq ((@az _ _ _ _ _ _ _ aC (pv 1) ag (λ_ _=>rfl))∣((pv 3)∣aa)))⁻¹))),?_⟩;obtain⟨b,hb,hs⟩:=tp (K:=K) (mg:=mg) (d:=d) (a:=a) x;have hs:=hs G;have c1:lx (x.ws.map V.str) (f' 1) Nf=(x.args.map cm).map V.str:=by
    rw[show (f' (1:Int))=f' ((1:Nat):Int) from rfl,iE];rfl
   refine⟨_,rfl,_,rfl,wl,_,rfl,SqL.of hw,λp np=>?_⟩;rw[c1];have e1:=af (o:=.lst ((x.args.map cm).map V.str)) np;have v1:=a8 (H:=H) (a:=p) (o:=.lst ((x.args.map cm).map V.str));generalize upd H p (.lst ((x.args.map cm).map V.str))=H1 at e1 v1 |-;refine⟨_,rfl,wl,_,_,_,rfl,rfl,SqL.of (e1 _ _ hw),aP,x.word,b,rfl,hb,?_⟩;refine⟨p,b,x.args,x.ks,rfl,SqL.of v1,hs _,x.inB xo nb,by obtain⟨l1,l2'⟩:=x.len;omega,λD H2 hD e2 hD2=>?_⟩;have E2:=e1.trans e2;have hw2:=E2 _ _ hw;refine⟨_,rfl,gg ⟨_,E2 _ _ hd⟩ G.cU G.bV rfl (dX (Y.y.same E2).ob (eN (by decide +kernel)) ⟨_,rfl,wl,_,_,_,rfl,rfl,SqL.of hw2,aP,(by show 1 <= Nl;decide),λp3 np3=>?_⟩)⟩;have e3:=af (o:=.lst [V.str x.word]) np3;have v3:upd H2 p3 (.lst [V.str x.word]) p3=f' (.lst [V.str x.word]):=a8;have hD3:=e3 _ _ hD2;have hw3:=e3 _ _ hw2;have E3:=E2.trans e3;obtain⟨l1,l2'⟩:=x.len;refine⟨_,rfl,p3,D,[V.str x.word],x.args.map V.int,rfl,rfl,v3,hD3,NS (show _ <= 100 by rw[Nu];show 1+_ <= 100;omega) (by decide),λp4 np4=>?_⟩;have e4:=af (o:=.lst ([V.str x.word]++x.args.map V.int)) np4;have v4:upd (upd H2 p3 (.lst [V.str x.word])) p4 (.lst ([V.str x.word]++x.args.map V.int)) p4=_:=a8;refine⟨p4,_,rfl,.inl ⟨SqL.of v4,λt nt=>?_⟩⟩;have e5:=af (o:=.tup ([V.str x.word]++x.args.map V.int)) nt;have v5:upd (upd (upd H2 p3 (.lst [V.str x.word])) p4 (.lst ([V.str x.word]++x.args.map V.int))) t (.tup ([V.str x.word]++x.args.map V.int)) t=f' (.tup x.vs):=by rw[x.vs_eq];exact a8
   have hw5:=e5 _ _ (e4 _ _ hw3);have E5:=E3.trans (e4.trans e5);refine⟨y,q,S,L,x,t,rfl,⟨Y.y.same E5,Y.ok,Y.i,Y.l⟩,v5,xo,?_⟩;cases hc:x.chk q S with
  |some r =>
    rw[hc]at k;exact λH6 e6=>k H6 (E5.trans e6)
  |none =>
    rw[hc]at k;obtain⟨tt,htl,k⟩:=k;intro v H6 Y6 i6 dv ko6;have hw6:=ko6 _ _ hwn hw5;refine⟨_,rfl,wl,_,_,_,rfl,rfl,SqL.of hw6,aP,_,rfl,x,_,v,tt,rfl,dv,htl,λH7 e7=>k H7 (Y6.same e7) i6 λc o n e=>e7 _ _ (ko6 _ _ n (E5 _ _ e))⟩
def zV (G:Gs K mg a d):FnOk P w K mg base CX0 5 a.c6 d.c6 ["self","words"] (A3 w a):=by
 have UX:FnOk P w K mg base CX0 3 _ _ _ _:=qf G;have U4:FnOk P w K mg base CX0 1 _ _ _ _:=za G;have UA:FnOk P w K mg base CX0 4 _ _ _ _:=Dt G;have Uv:FnOk P w K mg base CX0 1 _ _ _ _:=uC G;have Uu:FnOk P w K mg base CX0 1 _ _ _ _:=mI G;have Ue:FnOk P w K mg base CX0 1 _ _ _ _:=(oW G).imp λvs H Q E=>yU
 refine G.qa.ok jR (λvs H Q E h=>?_) (λcdv A' outer s' H vs Q E hr h=>?_)
 . obtain⟨dk,dx,wl,y,q,S,hs,k,rfl,_⟩:=h;rfl
 . obtain⟨dk,dx,wl,y,q,S,hs,lk,rfl,hd,hw,Y,ok,hh,hl,hr',k⟩:=h;have hu:=bU hr;refine⟨_,((aI (ar (qD hr.units) (pv 1) (@bG _ _ _ _ (aj∣aa)) (ay _)) ((aR fj (by rfl) G.oK jP ((aN b8 (by rfl) G.m9 i0 ((aS (ak (pv 0) rfl) G.al G.iQ Uv (hr.mono (by decide)) G.ki .nil aq)∣aa))∣aa))⁻¹) am)∪((aI (ar (qD hr.units) (pv 1) (@bG _ _ _ _ (aj∣aa)) (ay _)) ((au U4 (hr.mono (by decide)) (by rfl) G.qz G.m4.kp G.qi .nil aq ((au UA (hr.mono (by decide)) (by rfl) G.FY G.Bf.kp G.Go .nil aq ((ak (pv 0) rfl)∣aa))∣aa))⁻¹) am)∪((aI (ar cp (@az _ _ _ _ _ _ _ aC (pv 1) ag (λ_ _=>rfl)) aj (ay _)) ((@aJ _ _ 2 _ _ _ _ jR.nd rfl (NW rfl) (@az _ _ _ _ _ _ _ aC (au UX (hr.mono (by decide)) (by rfl) G.kK G.i5.kp G.ku .nil aq ((d6 ib (pv 1) (eB ag) iw)∣((@bi _ _ _ _ _ (aj∣aa))∣aa))) ag (λ_ _=>rfl)) (by rfl) (by first|exact .inl rfl|exact .inr rfl|assumption))∪((aR fj (by rfl) G.oK jP ((aN b8 (by rfl) G.m9 i0 ((av (aS (ak (pv 0) rfl) G.al G.cM Uu (hr.mono (by decide)) G.dP .nil aq) G.aG G.cZ Ue (hr.mono (by decide)) G.ez .nil aq ((pv 2)∣aa))∣aa))∣aa))⁻¹)) am)∪(@ao _ _ _ fR)))),?_⟩;refine⟨_,rfl,(by show 1 <= Nl;decide),λp1 np1=>?_⟩;have e1:=af (o:=.lst [V.str "story"]) np1;have v1:=a8 (H:=H) (a:=p1) (o:=.lst [V.str "story"]);generalize upd H p1 (.lst [V.str "story"])=H1 at e1 v1 |-;have Y1:=Y.same e1;have hd1:=e1 _ _ hd;have hw1:=e1 _ _ hw;refine⟨.list (lk.ws.map Od),.list (Lk.story.ws.map Od),⟨wl,_,rfl,hw1,fU _⟩,⟨p1,_,rfl,v1,fU _⟩,lk.lay,Lk.lay _,_,rfl,?_⟩;clear Y hd hw np1 v1;rw[Vd (show ¬ (D'=G') by decide)];cases lk with
  |story =>
    rw[show (Pw (Lk.story.ws.map Od)).eqv (Pw (Lk.story.ws.map Od))=G' from by decide +kernel];refine fP ⟨_,rfl,gg ⟨_,hd1⟩ G.cU G.bV rfl (dX Y1.ob (eN (by decide +kernel)) ⟨y,q,S,rfl,Y1,λl ts nl dv=>⟨l,ts,rfl,.inl (SqL.of a8),?_⟩⟩)⟩;have hlen:=gm dv;rw[hlen];refine .inl ⟨_,rfl,ip ?_,k _ (e1.trans (af nl))⟩;rw[hh,Nu];unfold Bnd;omega
  |qW =>
    rw[show (Pw (Lk.qW.ws.map Od)).eqv (Pw (Lk.story.ws.map Od))=D' from by decide +kernel];refine cW ?_;refine⟨_,rfl,(by show 1 <= Nl;decide),λp2 np2=>?_⟩;have e2:=af (o:=.lst [V.str "errs"]) np2;have v2:=a8 (H:=H1) (a:=p2) (o:=.lst [V.str "errs"]);generalize upd H1 p2 (.lst [V.str "errs"])=H2 at e2 v2 |-;refine⟨.list (Lk.qW.ws.map Od),.list (Lk.qW.ws.map Od),⟨wl,_,rfl,e2 _ _ hw1,fU _⟩,⟨p2,_,rfl,v2,fU _⟩,Lk.lay _,Lk.lay _,_,rfl,?_⟩;rw[Vd (show ¬ (D'=G') by decide),show (Pw (Lk.qW.ws.map Od)).eqv (Pw (Lk.qW.ws.map Od))=G' from by decide +kernel];exact fP ⟨_,rfl,gg ⟨_,e2 _ _ hd1⟩ G.cU G.bV rfl ⟨y,q,S,hs,rfl,Y1.same e2,ok,hh,hl,λH3 e3=>⟨_,rfl,k _ (e1.trans (e2.trans e3))⟩⟩⟩
  |waits b =>
    rw[show (Pw ((Lk.waits b).ws.map Od)).eqv (Pw (Lk.story.ws.map Od))=D' from by cases b<;>decide +kernel];refine cW ?_;refine⟨_,rfl,(by show 1 <= Nl;decide),λp2 np2=>?_⟩;have e2:=af (o:=.lst [V.str "errs"]) np2;have v2:=a8 (H:=H1) (a:=p2) (o:=.lst [V.str "errs"]);generalize upd H1 p2 (.lst [V.str "errs"])=H2 at e2 v2 |-;refine⟨.list ((Lk.waits b).ws.map Od),.list (Lk.qW.ws.map Od),⟨wl,_,rfl,e2 _ _ hw1,fU _⟩,⟨p2,_,rfl,v2,fU _⟩,Lk.lay _,Lk.lay _,_,rfl,?_⟩;rw[Vd (show ¬ (D'=G') by decide),show (Pw ((Lk.waits b).ws.map Od)).eqv (Pw (Lk.qW.ws.map Od))=D' from by cases b<;>decide +kernel];refine cW ?_;have hw2:=e2 _ _ hw1;refine⟨_,rfl,wl,_,_,_,rfl,rfl,SqL.of hw2,rfl,rfl,_,rfl,iy (Vf rfl) ?_⟩;have c1:lx ((Lk.waits b).ws.map V.str) (f' 1) Nf=([sdI b].map cm).map V.str:=by
     rw[show (f' (1:Int))=f' ((1:Nat):Int) from rfl,iE];rfl
    refine⟨_,rfl,_,rfl,wl,_,rfl,SqL.of hw2,λp np=>⟨(by show 1 <= Nl;decide),λt nt=>?_⟩⟩;rw[c1]at nt |-;have e3:=af (o:=.lst (([sdI b].map cm).map V.str)) np;have v3:=a8 (H:=H2) (a:=p) (o:=.lst (([sdI b].map cm).map V.str));generalize upd H2 p (.lst (([sdI b].map cm).map V.str))=H3 at e3 v3 nt |-;have e4:=af (o:=.tup [V.str "side"]) nt;have v4:=a8 (H:=H3) (a:=t) (o:=.tup [V.str "side"]);have v3':=e4 _ _ v3;generalize upd H3 t (.tup [V.str "side"])=H4 at e4 v4 v3' |-;refine⟨p,t,[sdI b],["side"],rfl,SqL.of v3',SqT.of v4,(Dd.inB (x:=.bell b) trivial trivial),(by show 1 <= 60;decide),λD H5 hD e5 hD5=>?_⟩;have E5:=e1.trans (e2.trans (e3.trans (e4.trans e5)));have Y5:=Y1.same (e2.trans (e3.trans (e4.trans e5)));have hd5:=(e2.trans (e3.trans (e4.trans e5))) _ _ hd1;refine⟨D,_,_,_,rfl,rfl,SqL.of hD5,rfl,?_⟩;refine⟨_,rfl,gg ⟨_,hd5⟩ G.cU G.bV rfl (dX Y5.ob (eN (by decide +kernel)) ⟨y,q,S,rfl,Y5,dX Y5.x.st.ob (cr (by decide +kernel) (by decide +kernel)) ⟨_,rfl,y.sa,S.m,S.rs,b,rfl,Y5.x.st,λp1 t1 hp1 dv1=>⟨p1,t1,rfl,.inl (SqL.of a8),?_⟩⟩⟩)⟩;have l1:=gm dv1;rw[Nu]at l1;rw[l1];refine .inl ⟨_,rfl,ip ?_,k _ (E5.trans (af hp1))⟩;have:=hr' b;unfold Bnd;omega
def Jh (w:Nt) (ad:Ad):Sp:=λvs H Q E =>
 (∃ (dk dx:K') (v:V) (s R:Int) (n:Nat) (fs:List Str),vs=[.ref dk,.str (PK " " (kA s R n fs))]/\H dk=f' (.ins ad.iz dx [("yard",v)])/\(1 <= s/\s <= 8)/\(2 <= R/\R <= 4)/\(1 <= (n:Int)/\(n:Int) <= 9)/\FOk fs /\
  ∀ (a:YA) (H':Hp),Yn w ad.aY ad.c9 ad.aM ad.bB ad.aD H' a (LL s R n fs) YS.zero->H' dk=f' (.ins ad.iz dx [("yard",.ref a.y)])->(∀ c,a.own c->H c=Nf)->(∀ c o,c≠dk->H c=f' o->H' c=f' o)->Q (.str "ok") H') \/
 (∃ (dk dx:K') (a:YA) (q:YP) (S:YS) (L:Nat) (x:Dd),vs=[.ref dk,.str (PK " " x.ws)]/\H dk=f' (.ins ad.iz dx [("yard",.ref a.y)])/\Rdy w ad H a q S L/\x.Ok/\x.NB /\
  match x.chk q S with
 |none=>∃ t,Tl x (x.run q S).1 t/\∀ H',Yn w ad.aY ad.c9 ad.aM ad.bB ad.aD H' a q (x.run q S).2->YI q (x.run q S).2 (L+2)->KO a.own H H'->Q (.str t) H'
 |some r=>∀ H',bq H H'->E (.ref (rfC ad r)) Nf H') \/
 (∃ (dk dx:K') (a:YA) (q:YP) (S:YS) (hs:List Hx) (k:Lk),vs=[.ref dk,.str (PK " " k.ws)]/\H dk=f' (.ins ad.iz dx [("yard",.ref a.y)])/\Yn w ad.aY ad.c9 ad.aM ad.bB ad.aD H a q S/\q.Ok/\S.hs=hs.map Hx.d/\hs.length < 900/\(∀ b,(S.rs b).length < 100000)/\∀ H',bq H H'->Q (.str (k.ans q S hs)) H')
def Cd (G:Gs K mg a d):FnOk P w K mg base (CXv P w) 12 a.iY d.iY ["self","row"] (Jh w a):=by
 have Tv:FnOk P w K mg base CX0 8 _ _ _ _:=AL G;have Tu:FnOk P w K mg base CX0 5 _ _ _ _:=zV G;have U6:FnOk P w K mg base (CXv P w) 11 _ _ _ _:=Ai G;refine G.zD.okX (k:=11) qK (λvs H Q E h=>?_) (λcdv A' outer s' H vs Q E hr hR h=>?_)
 . rcases h with⟨dk,dx,v,s,R,n,fs,rfl,_⟩|⟨dk,dx,y,q,S,L,x,rfl,_⟩|⟨dk,dx,y,q,S,hs,k,rfl,_⟩<;>rfl
 . have hu:=bU hr;refine⟨_,((aI (eI (bP (aN c8 (by rfl) G.bI bx ((pv 1)∣((jd (v:=.ty "str") (by rfl) G.oK jP rfl)∣aa))))) (@ao _ _ _ fR) am)∪((@aJ _ _ 2 _ _ _ _ qK.nd rfl (NW rfl) (@jU _ _ _ _ _ _ _ _ _ _ _ _ OU PySem.F.slot_str_split PySem.F.type_str_split DZ (pv 1) (aj∣aa) (by rfl) (by rfl) (by rfl) (by rfl) (by rfl)) (by rfl) (by first|exact .inl rfl|exact .inr rfl|assumption))∪((aI (ar cp (@az _ _ _ _ _ _ _ aC (pv 2) ag (λ_ _=>rfl)) aj (ay _)) ((av (pv 0) G.cU G.oI Tv (hr.mono (by decide)) G.qT .nil aq ((pv 2)∣aa))⁻¹) am)∪((aI (ar vi (ak (pv 0) rfl) dY (ay _)) (@ao _ _ _ fR) am)∪((aI (BT (Ek (by rfl) G.xA G.xu (@az _ _ _ _ _ _ _ aC (pv 2) ag (λ_ _=>rfl)))) ((av (pv 0) G.cU G.oP U6 (hr.mono (by decide)) G.qA .nil hR.passes ((pv 2)∣aa))⁻¹) am)∪((av (pv 0) G.cU G.oH Tu (hr.mono (by decide)) G.qq .nil aq ((pv 2)∣aa))⁻¹)))))),?_⟩;rcases h with⟨dk,dx,v,s,R,n,fs,rfl,hd,hs,hR',hn,hf,k⟩|⟨dk,dx,y,q,S,L,x,rfl,hd,Y,xo,nb,k⟩|⟨dk,dx,y,q,S,hs,lk,rfl,hd,Y,ok,hh,hl,hr',k⟩
   . refine⟨_,rfl,_,_,.type "str",G',rfl,.str _,Fl,_,rfl,cW ?_⟩;have jl:=oX _ (yC hs hR' hn hf);have fl:=hf.len;have rl:(kA s R n fs).length=4+fs.length:=by show (("ring":Str) :: [s,R,(n:Int)].map cm++fs).length=_;rw[Nj];rfl
     refine⟨_,rfl,rfl,_,_,rfl,rfl,(by decide +kernel),by omega,λl nl=>?_⟩;rw[nM (ws:=kA s R n fs) (Pa _ _) (Ex hs hR' hn hf)];have e1:=af (o:=.lst ((kA s R n fs).map V.str)) nl;have v1:=a8 (H:=H) (a:=l) (o:=.lst ((kA s R n fs).map V.str));generalize upd H l (.lst ((kA s R n fs).map V.str))=H1 at e1 v1 |-;have hd1:=e1 _ _ hd;refine⟨_,rfl,l,_,_,_,rfl,rfl,SqL.of v1,aP,rfl,_,rfl,iy (Vf rfl) ?_⟩;refine⟨_,rfl,dX ⟨_,hd1⟩ rfl ⟨_,rfl,dk,dx,l,v,s,R,n,fs,rfl,hd1,v1,hs,hR',hn,hf,λy H2 Y2 hd2 fo k2=>k y H2 Y2 hd2 (λc hc=>?_) λc o nc e=>k2 c o nc (e1 c o e)⟩⟩;cases h:H c with
    |none=>rfl
    |some o =>
      have:=fo c hc;rw[e1 _ _ h]at this;cases this
   . refine⟨_,rfl,_,_,.type "str",G',rfl,.str _,Fl,_,rfl,cW ?_⟩;have jl:=oX _ (x.ws_len xo nb);obtain⟨l1,l2'⟩:=x.len;have wlen:x.ws.length=1+x.args.length:=by unfold Dd.ws;rw[NM,Nu];omega
     refine⟨_,rfl,rfl,_,_,rfl,rfl,(by decide +kernel),by omega,λl nl=>?_⟩;rw[nM (ws:=x.ws) (Pa _ _) (x.ws_noB xo nb)];have nl':¬ y.own l:=Y.y.fresh nl;have e1:=af (o:=.lst (x.ws.map V.str)) nl;have v1:=a8 (H:=H) (a:=l) (o:=.lst (x.ws.map V.str));generalize upd H l (.lst (x.ws.map V.str))=H1 at e1 v1 |-;have hd1:=e1 _ _ hd;obtain⟨b,hb,hs⟩:=tp (K:=K) (mg:=mg) (d:=d) (a:=a) x;refine⟨_,rfl,l,_,_,_,rfl,rfl,SqL.of v1,aP,rfl,_,rfl,cu (by rw[Ve];exact sne (xK _ (xm x))) ?_⟩;refine⟨_,rfl,gg ⟨_,hd1⟩ G.cU G.bV rfl ⟨rfl,_,rfl,cu (by rw[Ve];intro z;cases z) ?_⟩⟩;refine⟨_,rfl,l,_,_,_,rfl,rfl,SqL.of v1,aP,x.word,rfl,_,rfl,?_⟩;rw[hb];refine fP ⟨_,rfl,dX ⟨_,hd1⟩ rfl ⟨_,rfl,dk,dx,l,y,q,S,L,x,rfl,hd1,v1,nl',⟨Y.y.same e1,Y.ok,Y.i,Y.l⟩,xo,nb,?_⟩⟩;cases hc:x.chk q S with
    |some r =>
      rw[hc]at k;exact λH2 e2=>k H2 (e1.trans e2)
    |none =>
      rw[hc]at k;obtain⟨t,ht,k⟩:=k;exact⟨t,ht,λH2 Y2 i2 ko=>k H2 Y2 i2 λc o n e=>ko c o n (e1 c o e)⟩
   . refine⟨_,rfl,_,_,.type "str",G',rfl,.str _,Fl,_,rfl,cW ?_⟩;have jl:=oX _ (Ez lk lk.mem);have wl:lk.ws.length <= 2:=by cases lk<;>simp[Lk.ws]
     refine⟨_,rfl,rfl,_,_,rfl,rfl,(by decide +kernel),by omega,λl nl=>?_⟩;rw[nM lk.ne (F4 lk lk.mem)];have e1:=af (o:=.lst (lk.ws.map V.str)) nl;have v1:=a8 (H:=H) (a:=l) (o:=.lst (lk.ws.map V.str));generalize upd H l (.lst (lk.ws.map V.str))=H1 at e1 v1 |-;have hd1:=e1 _ _ hd;refine⟨_,rfl,l,_,_,_,rfl,rfl,SqL.of v1,lk.at0,rfl,_,rfl,cu (by rw[Ve];exact sne lk.noring) ?_⟩;refine⟨_,rfl,gg ⟨_,hd1⟩ G.cU G.bV rfl ⟨rfl,_,rfl,cu (by rw[Ve];intro z;cases z) ?_⟩⟩;refine⟨_,rfl,l,_,_,_,rfl,rfl,SqL.of v1,lk.at0,lk.w0,rfl,_,rfl,?_⟩;rw[lk.noform];refine cW ⟨_,rfl,dX ⟨_,hd1⟩ rfl ⟨_,rfl,dk,dx,l,y,q,S,hs,lk,rfl,hd1,v1,Y.same e1,ok,hh,hl,hr',λH2 e2=>k H2 (e1.trans e2)⟩⟩
def xS:Sp:=tU
def DS:Sp:=λvs H Q _=>∃ (x:Dd) (dt:K') (dd:Ni) (v:V) (t:Str),vs=[.ref dt,v]/\H dt=f' (.tup x.vs)/\DV H dd v/\Tl x dd t/\∀ H',bq H H'->Q (.str t) H'
def rfN:Rf->Str
|.deed=>"NoDeed"
|.full=>"Full"
|.name=>"NoName"
|.task=>"NoTask"
def HE (w:Nt) (ad:Ad):Sp:=λvs H Q _=>∃ (a:YA) (q:YP) (S:YS) (L:Nat) (x:Dd) (t:K'),vs=[.ref a.y,.ref t]/\Rdy w ad H a q S L/\H t=f' (.tup x.vs)/\x.Ok /\
 match x.chk q S with
|none=>∃ t,Tl x (x.run q S).1 t/\∀ H',Yn w ad.aY ad.c9 ad.aM ad.bB ad.aD H' a q (x.run q S).2->YI q (x.run q S).2 (L+2)->KO a.own H H'->Q (.str t) H'
|some r=>∀ H',bq H H'->Q (.str (rfN r)) H'
def HH (w:Nt) (ad:Ad):Sp:=λvs H Q _=>∃ (dk dx:K') (a:YA) (q:YP) (S:YS) (L:Nat) (x:Dd),vs=[.ref dk,.str (PK " " x.ws)]/\H dk=f' (.ins ad.iz dx [("yard",.ref a.y)])/\Rdy w ad H a q S L/\x.Ok/\x.NB /\
 match x.chk q S with
|none=>∃ t,Tl x (x.run q S).1 t/\∀ H',Yn w ad.aY ad.c9 ad.aM ad.bB ad.aD H' a q (x.run q S).2->YI q (x.run q S).2 (L+2)->KO a.own H H'->Q (.str t) H'
|some r=>∀ H',bq H H'->Q (.str (rfN r)) H'
def By (w:Nt) (ad:Ad):Sp:=λvs H Q _=>∃ (dk dx:K') (ya yb:YA) (q:YP) (S:YS) (hs:List Hx) (b:Bool),vs=[.ref dk,.ref yb.y,.int (sdI b)]/\H dk=f' (.ins ad.iz dx [("yard",.ref ya.y)])/\Yn w ad.aY ad.c9 ad.aM ad.bB ad.aD H ya q S/\Yn w ad.aY ad.c9 ad.aM ad.bB ad.aD H yb q S/\q.Ok/\S.hs=hs.map Hx.d/\hs.length < 900/\(∀ b,(S.rs b).length < 100000)/\∀ H',bq H H'->Q (.bl G') H'
def EB (G:Gs K mg a d):FnOk P w K mg base CX0 1 a.jI d.jI ["part"] xS:=by
 refine G.nV.ok wT (λvs H Q E h=>?_) (λcdv A' outer s' H vs Q E hr h=>?_)
 . rcases h with⟨rfl,_⟩|⟨i,rfl,_⟩<;>rfl
 . refine⟨_,((fX (ar vi (pv 0) dY (ay _)) aj (aR fj (by rfl) G.oK jP ((pv 0)∣aa)))⁻¹),?_⟩;rcases h with⟨rfl,k⟩|⟨i,rfl,hb,k⟩
   . exact⟨_,rfl,rfl,_,rfl,iy (Vf rfl) k⟩
   . exact⟨_,rfl,rfl,_,rfl,cu (by rw[Ve];intro z;cases z) ⟨_,rfl,.inl ⟨i,rfl,ip hb,k⟩⟩⟩
def El (G:Gs K mg a d):FnOk P w K mg base CX0 2 a.jp d.jp ["deed","told"] DS:=by
 have UN:FnOk P w K mg base CX0 1 _ _ _ _:=EB G;refine G.sk.ok xG (λvs H Q E h=>?_) (λcdv A' outer s' H vs Q E hr h=>?_)
 . obtain⟨x,dt,dd,v,t,rfl,_⟩:=h;rfl
 . obtain⟨x,dt,dd,v,t,rfl,hdt,hd,ht,k⟩:=h;have hu:=bU hr;refine⟨_,((aI (ar eF (@az _ _ _ _ _ _ _ aF (pv 0) ag (λ_ _=>rfl)) (@bi _ _ _ _ _ (aj∣(aj∣(aj∣aa)))) (by with_unfolding_all rfl)) (aj⁻¹) am)∪((aI (ar eF (@az _ _ _ _ _ _ _ aF (pv 0) ag (λ_ _=>rfl)) (@bi _ _ _ _ _ (aj∣(aj∣aa))) (by with_unfolding_all rfl)) ((@az _ _ _ _ _ _ _ aC (@bG _ _ _ _ (aj∣(aj∣aa))) (aR pq (by rfl) G.Ab sr ((pv 1)∣aa)) (λ_ _=>rfl))⁻¹) am)∪((aI (bP (aN c8 (by rfl) G.bI bx ((pv 1)∣((jd (v:=.ty "tuple") (by rfl) G.kX gW rfl)∣aa)))) ((@jU _ _ _ _ _ _ _ _ _ _ _ _ OU PySem.F.slot_str_join PySem.F.type_str_join tP aj ((by exact ik (tc:=λ_ H Q=>Q G' H) (te:=uY xS [] E0 (li (qP 0) AU)) (caps:=[]) (js:=[]) rfl (gu rfl rfl (by decide +kernel) (by decide +kernel) rfl trivial rfl rfl) (by decide +kernel) trivial (xY (pv 1)) (λC s₃ H₃ P2 ex E'=>by exact d8) (λC s₃ H₃ P2 ex E'=>by exact(au UN (hr.mono (by decide)) (by rfl) G.sD G.nV.kp G.sN .nil aq ((pv 0)∣aa))))∣aa) (by rfl) (by rfl) (by rfl) (by rfl) (by rfl))⁻¹) am)∪((au UN (hr.mono (by decide)) (by rfl) G.sD G.nV.kp G.sN .nil aq ((pv 1)∣aa))⁻¹)))),?_⟩;have hdt':H dt=f' (.tup (.str x.word :: x.args.map V.int)):=by rw[<-x.vs_eq];exact hdt
   refine⟨_,rfl,dt,_,_,_,rfl,rfl,SqT.of hdt',aP,(by show 3 <= Nl;decide),λq nq=>⟨q,_,rfl,.inr (SqT.of a8),rfl,bE ["answer","lie","drain"],_,rfl,?_⟩⟩;simp only[NK,if_false];rw[show inV (V.str x.word) [V.str "answer",V.str "lie",V.str "drain"]=_ from eL x.word ["answer","lie","drain"]];have e1:=af (o:=.tup [V.str "answer",V.str "lie",V.str "drain"]) nq;have h1:=e1 _ _ hdt';generalize upd H q (.tup [V.str "answer",V.str "lie",V.str "drain"])=H1 at e1 h1 |-;have ynA:∀ c:Bool,atI [V.str "no",V.str "yes"] (if c=G' then 1 else 0)=f' (.str (ynS c)):=λc=>by cases c<;>rfl
   cases ht with
  |ans n wt=>exact iy rfl (k _ e1)
  |lie b=>exact iy rfl (k _ e1)
  |drn b=>exact iy rfl (k _ e1)
  |bell b c =>
    cases hd;refine cu (show ¬ (["answer","lie","drain"]:List Str).contains "bell"=G' by decide +kernel) ?_;refine⟨_,rfl,dt,_,_,_,rfl,rfl,SqT.of h1,aP,l2,λq2 nq2=>⟨q2,_,rfl,.inr (SqT.of a8),rfl,bE ["bell","look"],_,rfl,?_⟩⟩;simp only[NK,if_false];rw[show inV (V.str (Dd.bell b).word) [V.str "bell",V.str "look"]=G' from (eL (Dd.bell b).word ["bell","look"]).trans rfl];refine fP ⟨l2,λp np=>⟨_,rfl,.inr ⟨c,rfl,p,_,_,_,rfl,rfl,SqL.of a8,ynA c,k _ (e1.trans ((af nq2).trans (af np)))⟩⟩⟩
  |look b c =>
    cases hd;refine cu (show ¬ (["answer","lie","drain"]:List Str).contains "look"=G' by decide +kernel) ?_;refine⟨_,rfl,dt,_,_,_,rfl,rfl,SqT.of h1,aP,l2,λq2 nq2=>⟨q2,_,rfl,.inr (SqT.of a8),rfl,bE ["bell","look"],_,rfl,?_⟩⟩;simp only[NK,if_false];rw[show inV (V.str (Dd.look b).word) [V.str "bell",V.str "look"]=G' from (eL (Dd.look b).word ["bell","look"]).trans rfl];refine fP ⟨l2,λp np=>⟨_,rfl,.inr ⟨c,rfl,p,_,_,_,rfl,rfl,SqL.of a8,ynA c,k _ (e1.trans ((af nq2).trans (af np)))⟩⟩⟩
  |ask wt i hb =>
    cases hd;refine cu (show ¬ (["answer","lie","drain"]:List Str).contains "ask"=G' by decide +kernel) ?_;refine⟨_,rfl,dt,_,_,_,rfl,rfl,SqT.of h1,aP,l2,λq2 nq2=>⟨q2,_,rfl,.inr (SqT.of a8),rfl,bE ["bell","look"],_,rfl,?_⟩⟩;simp only[NK,if_false];rw[show inV (V.str (Dd.ask wt).word) [V.str "bell",V.str "look"]=D' from (eL (Dd.ask wt).word ["bell","look"]).trans rfl];exact cW ⟨_,rfl,_,_,.type "int",D',rfl,.int _,GW,_,rfl,cW ⟨_,rfl,.inr ⟨i,rfl,hb,k _ (e1.trans (af nq2))⟩⟩⟩
  |non _ hx =>
    cases hd;refine cu (by rcases hx with rfl|rfl<;>decide +kernel) ?_;refine⟨_,rfl,dt,_,_,_,rfl,rfl,SqT.of h1,aP,l2,λq2 nq2=>⟨q2,_,rfl,.inr (SqT.of a8),rfl,bE ["bell","look"],_,rfl,?_⟩⟩;simp only[NK,if_false];rw[show inV (V.str x.word) [V.str "bell",V.str "look"]=D' from (eL x.word ["bell","look"]).trans (by rcases hx with rfl|rfl<;>rfl)];exact cW ⟨_,rfl,_,_,.type "NoneType",D',rfl,.non,by rfl,_,rfl,cW ⟨_,rfl,.inl ⟨rfl,k _ (e1.trans (af nq2))⟩⟩⟩
  |two _ i j hx b1 b2 =>
    obtain⟨p,ts,rfl,hp,_,_,rfl,rfl,_,_,rfl,rfl,rfl⟩:=hd;refine cu (by rcases hx with rfl|rfl<;>decide +kernel) ?_;refine⟨_,rfl,dt,_,_,_,rfl,rfl,SqT.of h1,aP,l2,λq2 nq2=>⟨q2,_,rfl,.inr (SqT.of a8),rfl,bE ["bell","look"],_,rfl,?_⟩⟩;simp only[NK,if_false];rw[show inV (V.str x.word) [V.str "bell",V.str "look"]=D' from (eL x.word ["bell","look"]).trans (by rcases hx with rfl|rfl<;>rfl)];have e2:=e1.trans (af (o:=.tup [V.str "bell",V.str "look"]) nq2);generalize upd H1 q2 (.tup [V.str "bell",V.str "look"])=H2 at e2 |-;have hp1:=e2 _ _ hp;refine cW ⟨_,rfl,_,_,.type "tuple",G',rfl,.tup hp1,zW,_,rfl,fP ?_⟩;have n1:=kE i b1;have n2:=kE j b2;refine⟨rfl,_,rfl,_,rfl,⟨_,SqT.of hp1⟩,λD hD=>mY (ys:=[V.str (cm i),V.str (cm j)]) (SqT.of hp1) hD rfl (by show 2 < 1000;decide) (λH3 e3 hD3=>⟨_,D,[cm i,cm j],rfl,rfl,SqL.of hD3,?_,k _ (e2.trans e3)⟩) (λn x y H3 R hx hy e3 kR=>?_)⟩
    . show ((cm i).length+((cm j).length+0))+2 * 1 <= 16777216;omega
    . match n,hx,hy with
     |0,hx,hy=>cases hx;cases hy;exact⟨_,rfl,.inr ⟨i,rfl,b1,kR _ (bq.refl _)⟩⟩
     |1,hx,hy=>cases hx;cases hy;exact⟨_,rfl,.inr ⟨j,rfl,b2,kR _ (bq.refl _)⟩⟩
     |_+2,hx,hy=>cases hx
  |nn _ hx =>
    obtain⟨p,ts,rfl,hp,_,_,rfl,rfl,_,_,rfl,rfl,rfl⟩:=hd;refine cu (by rcases hx with rfl|rfl<;>decide +kernel) ?_;refine⟨_,rfl,dt,_,_,_,rfl,rfl,SqT.of h1,aP,l2,λq2 nq2=>⟨q2,_,rfl,.inr (SqT.of a8),rfl,bE ["bell","look"],_,rfl,?_⟩⟩;simp only[NK,if_false];rw[show inV (V.str x.word) [V.str "bell",V.str "look"]=D' from (eL x.word ["bell","look"]).trans (by rcases hx with rfl|rfl<;>rfl)];have e2:=e1.trans (af (o:=.tup [V.str "bell",V.str "look"]) nq2);generalize upd H1 q2 (.tup [V.str "bell",V.str "look"])=H2 at e2 |-;have hp1:=e2 _ _ hp;refine cW ⟨_,rfl,_,_,.type "tuple",G',rfl,.tup hp1,zW,_,rfl,fP ?_⟩;refine⟨rfl,_,rfl,_,rfl,⟨_,SqT.of hp1⟩,λD hD=>mY (ys:=[V.str "none",V.str "none"]) (SqT.of hp1) hD rfl (by show 2 < 1000;decide) (λH3 e3 hD3=>⟨_,D,["none","none"],rfl,rfl,SqL.of hD3,(by decide +kernel),k _ (e2.trans e3)⟩) (λn x y H3 R hx hy e3 kR=>?_)⟩
    match n,hx,hy with
   |0,hx,hy=>cases hx;cases hy;exact⟨_,rfl,.inl ⟨rfl,kR _ (bq.refl _)⟩⟩
   |1,hx,hy=>cases hx;cases hy;exact⟨_,rfl,.inl ⟨rfl,kR _ (bq.refl _)⟩⟩
   |_+2,hx,hy=>cases hx
def Io (G:Gs K mg a d):FnOk P w K mg base CX0 11 a.jr d.jr ["yard","deed"] (HE w a):=by
 have UR:FnOk P w K mg base CX0 2 _ _ _ _:=El G;have Vb:FnOk P w K mg base (CXv P w) 10 _ _ _ _:=BL G;refine G.sB.ok du (λvs H Q E h=>?_) (λcdv A' outer s' H vs Q E hr h=>?_)
 . obtain⟨y,q,S,L,x,t,rfl,_⟩:=h;rfl
 . obtain⟨y,q,S,L,x,t,rfl,Rd,ht,hx,k⟩:=h;have hu:=bU hr;refine⟨_,((@aJ _ _ 2 _ _ _ _ du.nd rfl (NW rfl) aj (by rfl) (by first|exact .inl rfl|exact .inr rfl|assumption))∪((Ca ⟨rfl,rfl,rfl⟩ (λP2 R=>by exact(@ao _ _ _ (@aJ _ _ 2 _ _ _ _ du.nd rfl (NW rfl) (au UR (hr.mono (by decide)) (by rfl) G.AA G.sk.kp G.Aj .nil aq ((pv 1)∣((tf rfl (pv 0) G.al G.oA Vb (hr.mono (by decide)) G.pK .nil ((pv 1)∣aa))∣aa))) (by rfl) (by first|exact .inl rfl|exact .inr rfl|assumption)))) (jq ⟨rfl,rfl,rfl⟩ (by rfl) G.yj (λe=>by exact(@ao _ _ _ (@aJ _ _ 2 _ _ _ _ du.nd rfl (NW rfl) aj (by rfl) (by first|exact .inl rfl|exact .inr rfl|assumption)))) (jq ⟨rfl,rfl,rfl⟩ (by rfl) G.sU (λe=>by exact(@ao _ _ _ (@aJ _ _ 2 _ _ _ _ du.nd rfl (NW rfl) aj (by rfl) (by first|exact .inl rfl|exact .inr rfl|assumption)))) (jq ⟨rfl,rfl,rfl⟩ (by rfl) G.uv (λe=>by exact(@ao _ _ _ (@aJ _ _ 2 _ _ _ _ du.nd rfl (NW rfl) aj (by rfl) (by first|exact .inl rfl|exact .inr rfl|assumption)))) (jq ⟨rfl,rfl,rfl⟩ (by rfl) G.ml (λe=>by exact(@ao _ _ _ (@aJ _ _ 2 _ _ _ _ du.nd rfl (NW rfl) aj (by rfl) (by first|exact .inl rfl|exact .inr rfl|assumption)))) C4)))))∪((pv 2)⁻¹))),?_⟩;refine⟨λσ' cls H'=>σ'=[f' (.ref y.y),f' (.ref t),f' (.str "")]/\bq H H'/\∃ r,x.chk q S=f' r/\cls=.ref (rfC a r),?_,?_⟩
   . refine⟨_,rfl,_,rfl,dX Rd.y.ob (eN (by decide +kernel)) ⟨_,rfl,y,q,S,L,x,t,rfl,Rd,ht,hx,?_⟩⟩;cases hc:x.chk q S with
    |some r=>exact λH1 e1=>⟨rfl,e1,r,rfl,rfl⟩
    |none =>
      rw[hc]at k;obtain⟨tt,htl,k⟩:=k;intro v H1 Y1 i1 dv ko;exact⟨x,t,_,v,tt,rfl,wU ko Rd.y.noT _ _ ht,dv,htl,λH2 e2=>⟨_,rfl,k H2 (Y1.same e2) i1 λc o n e=>e2 _ _ (ko c o n e)⟩⟩
   . rintro σ' cls H1 ⟨rfl,e1,r,hc,rfl⟩;rw[hc]at k;cases r with
    |full=>exact⟨G',G.IU,⟨_,rfl,k _ e1⟩⟩
    |name=>exact⟨D',G.Ji,G',G.Kq,⟨_,rfl,k _ e1⟩⟩
    |task=>exact⟨D',G.Ku,D',G.JB,G',G.Jg,⟨_,rfl,k _ e1⟩⟩
    |deed=>exact⟨D',G.JG,D',G.IV,D',G.Js,G',G.JY,⟨_,rfl,k _ e1⟩⟩
def Hh (G:Gs K mg a d):FnOk P w K mg base CX0 13 a.jA d.jA ["desk","row"] (HH w a):=by
 have U5:FnOk P w K mg base (CXv P w) 12 _ _ _ _:=Cd G;refine G.sx.ok dq (λvs H Q E h=>?_) (λcdv A' outer s' H vs Q E hr h=>?_)
 . obtain⟨dk,dx,y,q,S,L,x,rfl,_⟩:=h;rfl
 . obtain⟨dk,dx,y,q,S,L,x,rfl,hd,Rd,hx,nb,k⟩:=h;have hu:=bU hr;refine⟨_,((@aJ _ _ 2 _ _ _ _ dq.nd rfl (NW rfl) aj (by rfl) (by first|exact .inl rfl|exact .inr rfl|assumption))∪((Ca ⟨rfl,rfl,rfl⟩ (λP2 R=>by exact(@ao _ _ _ (@aJ _ _ 2 _ _ _ _ dq.nd rfl (NW rfl) (tf rfl (pv 0) G.cU G.gy U5 (hr.mono (by decide)) G.iM .nil ((pv 1)∣aa)) (by rfl) (by first|exact .inl rfl|exact .inr rfl|assumption)))) (jq ⟨rfl,rfl,rfl⟩ (by rfl) G.yj (λe=>by exact(@ao _ _ _ (@aJ _ _ 2 _ _ _ _ dq.nd rfl (NW rfl) aj (by rfl) (by first|exact .inl rfl|exact .inr rfl|assumption)))) (jq ⟨rfl,rfl,rfl⟩ (by rfl) G.sU (λe=>by exact(@ao _ _ _ (@aJ _ _ 2 _ _ _ _ dq.nd rfl (NW rfl) aj (by rfl) (by first|exact .inl rfl|exact .inr rfl|assumption)))) (jq ⟨rfl,rfl,rfl⟩ (by rfl) G.uv (λe=>by exact(@ao _ _ _ (@aJ _ _ 2 _ _ _ _ dq.nd rfl (NW rfl) aj (by rfl) (by first|exact .inl rfl|exact .inr rfl|assumption)))) (jq ⟨rfl,rfl,rfl⟩ (by rfl) G.ml (λe=>by exact(@ao _ _ _ (@aJ _ _ 2 _ _ _ _ dq.nd rfl (NW rfl) aj (by rfl) (by first|exact .inl rfl|exact .inr rfl|assumption)))) C4)))))∪((pv 2)⁻¹))),?_⟩;refine⟨λσ' cls H'=>σ'=[f' (.ref dk),f' (.str (PK " " x.ws)),f' (.str "")]/\bq H H'/\∃ r,x.chk q S=f' r/\cls=.ref (rfC a r),?_,?_⟩
   . refine⟨_,rfl,dX ⟨_,hd⟩ rfl ⟨_,rfl,.inr (.inl ⟨dk,dx,y,q,S,L,x,rfl,hd,Rd,hx,nb,?_⟩)⟩⟩;cases hc:x.chk q S with
    |some r=>exact λH1 e1=>⟨rfl,e1,r,rfl,rfl⟩
    |none =>
      rw[hc]at k;obtain⟨tt,htl,k⟩:=k;exact⟨tt,htl,λH1 Y1 i1 ko=>⟨_,rfl,k H1 Y1 i1 ko⟩⟩
   . rintro σ' cls H1 ⟨rfl,e1,r,hc,rfl⟩;rw[hc]at k;cases r with
    |full=>exact⟨G',G.IU,⟨_,rfl,k _ e1⟩⟩
    |name=>exact⟨D',G.Ji,G',G.Kq,⟨_,rfl,k _ e1⟩⟩
    |task=>exact⟨D',G.Ku,D',G.JB,G',G.Jg,⟨_,rfl,k _ e1⟩⟩
    |deed=>exact⟨D',G.JG,D',G.IV,D',G.Js,G',G.JY,⟨_,rfl,k _ e1⟩⟩
def Cf (G:Gs K mg a d):FnOk P w K mg base CX0 13 a.bC d.bC ["desk","yard","side"] (By w a):=by
 have U5:FnOk P w K mg base (CXv P w) 12 _ _ _ _:=Cd G;have UA:FnOk P w K mg base CX0 4 _ _ _ _:=Dt G;have Uv:FnOk P w K mg base CX0 1 _ _ _ _:=uC G;have Uu:FnOk P w K mg base CX0 1 _ _ _ _:=mI G;have Ue:FnOk P w K mg base CX0 1 _ _ _ _:=(oW G).imp λvs H Q E=>yU
 refine G.cP.ok mw (λvs H Q E h=>?_) (λcdv A' outer s' H vs Q E hr h=>?_)
 . obtain⟨dk,dx,ya,yb,q,S,hs,b,rfl,_⟩:=h;rfl
 . obtain⟨dk,dx,ya,yb,q,S,hs,b,rfl,hd,Ya,Yb,ok,hh,hl,hr',k⟩:=h;have hu:=bU hr;refine⟨_,((aI (vZ ((uk (ar oQ (av (pv 0) G.cU G.gy U5 (hr.mono (by decide)) G.iM .nil AO (aj∣aa)) (aR fj (by rfl) G.oK jP ((aN b8 (by rfl) G.m9 i0 ((aS (pv 1) G.al G.iQ Uv (hr.mono (by decide)) G.ki .nil aq)∣aa))∣aa)) (ay _)) (oo (ar oQ (av (pv 0) G.cU G.gy U5 (hr.mono (by decide)) G.iM .nil AO (aj∣aa)) (@az _ _ _ _ _ _ _ aC (@bG _ _ _ _ (aj∣(aj∣aa))) (aR pq (by rfl) G.Ab sr ((au UA (hr.mono (by decide)) (by rfl) G.FY G.Bf.kp G.Go .nil aq ((pv 1)∣aa))∣aa)) (λ_ _=>rfl)) (ay _))))).pt) (eG⁻¹) am)∪((cc cp (av (pv 0) G.cU G.gy U5 (hr.mono (by decide)) G.iM .nil AO ((@dA _ _ _ _ _ _ _ _ Al aj (aR fj (by rfl) G.oK jP ((pv 2)∣aa)))∣aa)) (aR fj (by rfl) G.oK jP ((aN b8 (by rfl) G.m9 i0 ((av (aS (pv 1) G.al G.cM Uu (hr.mono (by decide)) G.dP .nil aq) G.aG G.cZ Ue (hr.mono (by decide)) G.ez .nil aq ((pv 2)∣aa))∣aa))∣aa)) (ay _))⁻¹)),?_⟩;have hsb:Bnd S.hs.length:=by rw[hh,Nu];unfold Bnd;omega
   refine⟨λb H'=>b=D'/\bq H H',?_,?_⟩
   . refine⟨_,rfl,dX ⟨_,hd⟩ rfl (.inr (.inr ⟨dk,dx,ya,q,S,hs,.story,rfl,hd,Ya,ok,hh,hl,hr',λH1 e1=>?_⟩))⟩;have Yb1:=Yb.same e1;refine⟨_,rfl,dX Yb1.ob (eN (by decide +kernel)) ⟨yb,q,S,rfl,Yb1,λl ts nl dv=>⟨l,ts,rfl,.inl (SqL.of a8),?_⟩⟩⟩;rw[gm dv];refine .inl ⟨_,rfl,ip hsb,rfl,_,rfl,?_⟩;rw[Vf (show V.str (Lk.ans q S hs .story)=V.str (N3 (toString (S.hs.length:Int))) from rfl)];refine cW ?_;have e2:=e1.trans (af (o:=.lst ts) nl);generalize upd H1 l (.lst ts)=H2 at e2 |-;refine⟨_,rfl,dX ⟨_,e2 _ _ hd⟩ rfl (.inr (.inr ⟨dk,dx,ya,q,S,hs,.qW,rfl,e2 _ _ hd,Ya.same e2,ok,hh,hl,hr',λH3 e3=>?_⟩))⟩;refine⟨l2,λp np=>?_⟩;have e4:=e2.trans (e3.trans (af (o:=.lst [V.str "no",V.str "yes"]) np));have v4:=a8 (H:=H3) (a:=p) (o:=.lst [V.str "no",V.str "yes"]);generalize upd H3 p (.lst [V.str "no",V.str "yes"])=H4 at e4 v4 |-;refine⟨_,rfl,yb,q,S,hs,rfl,Yb.same e4,ok,hh,hl,λH5 e5=>.inr ⟨_,rfl,p,_,_,_,rfl,rfl,SqL.of (e5 _ _ v4),(show _=f' (V.str (ynS (IN q S hs))) by cases IN q S hs<;>rfl),rfl,_,rfl,?_,e4.trans e5⟩⟩;rw[Vf (show V.str (Lk.ans q S hs .qW)=V.str (ynS (IN q S hs)) from rfl)];rfl
   . rintro b1 H1 ⟨rfl,e1⟩;refine cW ?_;refine⟨_,rfl,dX ⟨_,e1 _ _ hd⟩ rfl ⟨_,rfl,.inl ⟨_,rfl,(by cases b<;>decide),?_⟩⟩⟩;have hw:("waits ":Str)++N3 (toString (sdI b))=PK " " (Lk.waits b).ws:=by cases b<;>decide +kernel
     refine⟨_,_,rfl,rfl,(by cases b<;>decide +kernel),.inr (.inr ⟨dk,dx,ya,q,S,hs,.waits b,(by show [V.ref dk,V.str (("waits ":Str)++N3 (toString (sdI b)))]=_;rw[hw]),e1 _ _ hd,Ya.same e1,ok,hh,hl,hr',λH2 e2=>?_⟩)⟩;have Yb2:=Yb.same (e1.trans e2);refine⟨_,rfl,dX Yb2.ob (eN (by decide +kernel)) ⟨yb,q,S,rfl,Yb2,dX Yb2.x.st.ob (cr (by decide +kernel) (by decide +kernel)) ⟨_,rfl,yb.sa,S.m,S.rs,b,rfl,Yb2.x.st,λp1 t1 hp1 dv1=>⟨p1,t1,rfl,.inl (SqL.of a8),?_⟩⟩⟩⟩;have l1:=gm dv1;rw[Nu]at l1;rw[l1];refine .inl ⟨_,rfl,ip (by have:=hr' b;unfold Bnd;omega),rfl,?_⟩;rw[Vf (show V.str (Lk.ans q S hs (.waits b))=V.str (N3 (toString ((S.rs b).length:Int))) from rfl)];exact k _ (e1.trans (e2.trans (af hp1)))
def FQ (w:Nt) (ad:Ad):Sp:=λvs H Q _=>∃ (dk dx r:K') (v:V),vs=[.ref dk,.ref r]/\H dk=f' (.ins ad.iz dx [("yard",v)])/\Rw H r /\
 ∀ (ya yb:YA) (q:YP) (H':Hp),Yn w ad.aY ad.c9 ad.aM ad.bB ad.aD H' ya q YS.zero->Yn w ad.aY ad.c9 ad.aM ad.bB ad.aD H' yb q YS.zero->q.Ok->(∀ c,ya.own c->¬ yb.own c)->H' dk=f' (.ins ad.iz dx [("yard",.ref ya.y)]) ->
  (∀ c,ya.own c->H c=Nf)->(∀ c,yb.own c->H c=Nf)->(∀ c o,c≠dk->c≠r->H c=f' o->H' c=f' o)->Rw H' r->Q (.ref yb.y) H'
def Dw (w:Nt) (ad:Ad):Sp:=λvs H Q _=>∃ (r:K') (y:YA) (q:YP) (S:YS) (L:Nat),vs=[.ref r,.ref y.y]/\Rw H r/\¬ y.own r/\Yn w ad.aY ad.c9 ad.aM ad.bB ad.aD H y q S/\q.Ok/\YI q S L /\
 ∀ (x:Dd) (t:K') (H':Hp),H' t=f' (.tup x.vs)->x.Ok->x.NB->Stp r H H'->Q (.ref t) H'
def EQ {ws ks:List Int}(h:∀ n∈ks,0 <= n/\n <= 1000000000):∀ x∈gY ws ks,x.NB:=by
 intro x hx;unfold gY gZ mh at hx;rcases Oc.mp hx with hx|hx
 . rcases Oc.mp hx with hx|hx
   . rcases Oc.mp hx with hx|hx
     . obtain⟨wt,hw,rfl⟩:=O1.mp hx;exact trivial
     . simp only[NA,N8,or_false]at hx;rcases hx with rfl|rfl<;>exact trivial
   . obtain⟨nm,hn,hx⟩:=List.mem_flatMap.mp hx;obtain⟨wt,hw,rfl⟩:=O1.mp hx;exact h nm hn
 . simp only[IM,NA,N8,or_false]at hx;rcases hx with rfl|rfl|rfl|rfl|rfl|rfl|rfl|rfl<;>exact trivial
theorem Hz:∀ ws:List Str,(∀ x∈ws,x.length <= 11)->(ws.map (·.length)).sum <= 11 * ws.length
|[],_=>Nm _
|x :: r,h=>by
  have ih:=Hz r λz hz=>h z (Nw _ hz)
  have hx:=h x Nv;rw[Oy,List.sum_cons,NM];omega
def Kf (G:Gs K mg a d):FnOk P w K mg base CX0 13 a.lP d.lP ["desk","row"] (FQ w a):=by
 have UQ:FnOk P w K mg base CX0 1 _ _ _ _:=xD G;have U5:FnOk P w K mg base (CXv P w) 12 _ _ _ _:=Cd G;have Uh:FnOk P w K mg base CX0 6 _ _ _ _:=xX G;refine G.qe.ok l7 (λvs H Q E h=>?_) (λcdv A' outer s' H vs Q E hr h=>?_)
 . obtain⟨dk,dx,r,v,rfl,_⟩:=h;rfl
 . obtain⟨dk,dx,r,v,rfl,hd,hrw,k⟩:=h;have hu:=bU hr;refine⟨_,((@aJ _ _ 2 _ _ _ _ l7.nd rfl (Or.inr rfl) (@bG _ _ _ _ (aj∣(aj∣(aj∣(aj∣(aj∣aa)))))) (by rfl) (by first|exact .inl rfl|exact .inr rfl|assumption))∪((@aJ _ _ 3 _ _ _ _ l7.nd rfl (NW rfl) (aN (oa rfl) (by rfl) G.tM pU ((aR (vn rfl) (by rfl) G.KG G9 ((by exact ik (tc:=λ_ H Q=>Q G' H) (te:=tOp (LC K) (qP 2) (uY BG [] E0 (li (qP 1) (li (tC (.int 5)) AU)))) (caps:=["row","some"]) (js:=[1,2]) rfl (gu rfl rfl (by decide +kernel) (by decide +kernel) rfl ⟨rfl,⟨rfl,trivial⟩⟩ rfl rfl) (by decide +kernel) ⟨⟨⟨_,rfl⟩,rfl,.inl rfl,.inl rfl⟩,⟨⟨⟨_,rfl⟩,rfl,.inl rfl,.inl rfl⟩,trivial⟩⟩ (pX (by rfl) G.x6 ((@az _ _ _ _ _ _ _ aC (@bG _ _ _ _ (ag∣(ag∣(ag∣(ag∣(ag∣aa)))))) (au UQ (hr.mono (by decide)) (by rfl) G.bf G.b9.kp G.bg .nil aq ((pv 1)∣(ag∣aa))) (λ_ _=>rfl))∣aa)) (λC s₃ H₃ P2 ex E'=>by exact d8) (λC s₃ H₃ P2 ex E'=>by exact(@az _ _ _ _ _ _ _ aC (pv 2) (au UQ (hr.mono (by decide)) (by rfl) G.bf G.b9.kp G.bg .nil aq ((pv 1)∣(ag∣aa))) (λ_ _=>rfl))))∣aa))∣aa)) (by rfl) (by first|exact .inl rfl|exact .inr rfl|assumption))∪((@aJ _ _ 4 _ _ _ _ l7.nd rfl (NW rfl) (@bG _ _ _ _ ((@dA _ _ _ _ _ _ _ _ o6 ag (au UQ (hr.mono (by decide)) (by rfl) G.bf G.b9.kp G.bg .nil aq ((pv 1)∣(ag∣aa))))∣((@dA _ _ _ _ _ _ _ _ o6 ag (au UQ (hr.mono (by decide)) (by rfl) G.bf G.b9.kp G.bg .nil aq ((pv 1)∣(ag∣aa))))∣((@dA _ _ _ _ _ _ _ _ o6 ag (au UQ (hr.mono (by decide)) (by rfl) G.bf G.b9.kp G.bg .nil aq ((pv 1)∣(ag∣aa))))∣aa)))) (by rfl) (by first|exact .inl rfl|exact .inr rfl|assumption))∪((@aI _ _ _ _ _ _ _ _ (ar oQ (av (pv 0) G.cU G.gy U5 (hr.mono (by decide)) G.iM .nil AO ((@jU _ _ _ _ _ _ _ _ _ _ _ _ OU PySem.F.slot_str_join PySem.F.type_str_join tP aj ((@dA _ _ _ _ _ _ _ _ Co (@dA _ _ _ _ _ _ _ _ Co (@bG _ _ _ _ (aj∣aa)) (by exact ik (tc:=λ_ H Q=>Q G' H) (te:=tCB (λxs H Q=>(∃ i,xs=[V.int i]/\i.natAbs.log2 < 1920/\Q (V.str (N3 (toString i))) H)\/∃ t,xs=[V.str t]/\Q (V.str t) H) (li (qP 0) AU)) (caps:=[]) (js:=[]) rfl (gu rfl rfl (by decide +kernel) (by decide +kernel) rfl trivial rfl rfl) (by decide +kernel) trivial (@jK _ _ _ _ (pv 4)) (λC s₃ H₃ P2 ex E'=>by exact d8) (λC s₃ H₃ P2 ex E'=>by exact(aR fj (by rfl) G.oK jP ((pv 0)∣aa))))) (pv 3))∣aa) (by rfl) (by rfl) (by rfl) (by rfl) (by rfl))∣aa)) aj (ay _)) (dY⁻¹) am)∪((kG G.Gp Uh (hr.mono (by decide)) (by rfl) G.Gz G.oy .nil aq ((@az _ _ _ _ _ _ _ aC (pv 4) ag (λ_ _=>rfl))∣((@az _ _ _ _ _ _ _ aC (pv 4) ag (λ_ _=>rfl))∣((@az _ _ _ _ _ _ _ aC (pv 4) ag (λ_ _=>rfl))∣((aR fW (by rfl) G.kX gW ((pv 3)∣aa))∣aa)))))⁻¹))))),?_⟩;refine⟨by show 5 <= Nl;decide,λp np=>?_⟩;have S1:Stp r H (upd H p (.lst [V.str "bell",V.str "counter",V.str "lie",V.str "look",V.str "round"])):=Stp.new ⟨hrw,λ_ _ _ e=>e⟩ np;have v1:=a8 (H:=H) (a:=p) (o:=.lst [V.str "bell",V.str "counter",V.str "lie",V.str "look",V.str "round"]);have npr:p≠r:=hrw.ne np;generalize upd H p (.lst [V.str "bell",V.str "counter",V.str "lie",V.str "look",V.str "round"])=H1 at S1 v1 |-;refine⟨by show 5 <= Nl;decide,λp2 np2=>?_⟩;have S2:=S1.new (o:=.lst [V.int 0,V.int 0,V.int 1,V.int 2,V.int 9]) np2;have w2:=a8 (H:=H1) (a:=p2) (o:=.lst [V.int 0,V.int 0,V.int 1,V.int 2,V.int 9]);have v2:upd H1 p2 (.lst [V.int 0,V.int 0,V.int 1,V.int 2,V.int 9]) p=_:=(ae (ac v1 np2)).trans v1;have np2r:p2≠r:=S1.row.ne np2;generalize upd H1 p2 (.lst [V.int 0,V.int 0,V.int 1,V.int 2,V.int 9])=H2 at S2 w2 v2 |-;refine⟨_,rfl,r,5,rfl,S2.row,by decide,by decide,λg1 H3 a1 b1 st3=>?_⟩;obtain⟨m,hm,hm0,hm9⟩:∃ m:Int,atI [V.int 0,V.int 0,V.int 1,V.int 2,V.int 9] g1=f' (.int m)/\0 <= m/\m <= 9:=by
    have h:g1=0\/g1=1\/g1=2\/g1=3\/g1=4:=by omega
    rcases h with rfl|rfl|rfl|rfl|rfl
    . exact⟨0,rfl,by decide,by decide⟩
    . exact⟨0,rfl,by decide,by decide⟩
    . exact⟨1,rfl,by decide,by decide⟩
    . exact⟨2,rfl,by decide,by decide⟩
    . exact⟨9,rfl,by decide,by decide⟩
   have S3:=S2.trans st3;have v3:=st3.keep _ _ npr v2;refine⟨p2,_,_,_,rfl,rfl,SqL.of (st3.keep _ _ np2r w2),hm,m,rfl,by omega,by omega,λD hD=>?_⟩;have nDr:D≠r:=S3.row.ne hD;have nDp:p≠D:=ac v3 hD;clear st3 w2 v2 v1 S2 S1 hm;have hn:m.toNat <= 9:=by omega
   generalize m.toNat=n2 at hn |-;refine⟨λi mm ys H'=>i <= n2/\mm=n2 - i/\(∃ ss:List Str,ys=ss.map V.str/\ss.length=i/\∀ x∈ss,x∈FA)/\H' D=f' (.lst ys)/\Rw H' r/\∀ c o,c≠D->c≠r->H3 c=f' o->H' c=f' o,
    ⟨_,Ou _,rfl,⟨[],rfl,rfl,λx hx=>by cases hx⟩,a8,S3.row.new hD,λc o n _ e=>by rw[ae n];exact e⟩,?_⟩
   rintro i mm ys H4 ⟨hi,rfl,⟨ss,rfl,hl,hfa⟩,hD4,R4,k4⟩;refine⟨hD4,Nn (show _ < 100 by rw[Nu];omega) (by decide),?_⟩;by_cases hii:i=n2;rotate_left
   . have hlt:i < n2:=by omega
     refine .inr ⟨hlt,?_⟩;rintro v' H5 ⟨rfl,rfl⟩;refine fP ?_;have vp:=k4 _ _ nDp npr v3;refine⟨_,rfl,_,rfl,r,5,rfl,R4,by decide,by decide,λg3 H6 a3 b3 st6=>?_⟩;obtain⟨x,hx,hxf⟩:∃ x:Str,atI [V.str "bell",V.str "counter",V.str "lie",V.str "look",V.str "round"] g3=f' (.str x)/\x∈FA:=by
      have h:g3=0\/g3=1\/g3=2\/g3=3\/g3=4:=by omega
      rcases h with rfl|rfl|rfl|rfl|rfl<;>exact⟨_,rfl,by simp[FA]⟩
     refine⟨p,_,_,_,rfl,rfl,SqL.of (st6.keep _ _ npr vp),hx,st6.keep _ _ nDr hD4,n2 - (i+1),by omega,by omega,rfl,⟨ss++[x],by rw[OS];rfl,by rw[Nj,hl];rfl,λz hz=>?_⟩,a8,?_,λc o n n' e=>by rw[ae n];exact st6.keep c o n' (k4 c o n n' e)⟩
     . rcases Oc.mp hz with h|h
       . exact hfa z h
       . rw[Nd.mp h];exact hxf
     . obtain⟨rw,h,ir⟩:=st6.row;exact⟨rw,by rw[ae nDr.symm];exact h,ir⟩
   have S4:Stp r H H4:=⟨R4,λb o n e=>k4 b o (λz=>by have h3:=S3.keep b o n e;rw[z,hD]at h3;cases h3) n (S3.keep b o n e)⟩
   refine .inl ⟨by show n2 <= i;omega,D,ss,rfl,SqL.of hD4,by omega,λq nq=>⟨q,_,rfl,a8,by have:=C0 ss;omega,λl1 fs nl1 pf so=>?_⟩⟩;have fok:=FOk.of hfa pf so;have fl:=fok.len;have S5:=S4.new (o:=Ic w q (Do ss)) nq;have S6:=S5.new (o:=.lst (fs.map V.str)) nl1;have v6:upd (upd H4 q (Ic w q (Do ss))) l1 (.lst (fs.map V.str)) l1=f' (.lst (fs.map V.str)):=a8;have nlr:l1≠r:=S5.row.ne nl1;clear S5 S4 k4 R4 hD4 nl1 nq pf so hD S3 v3 hfa;refine⟨_,rfl,r,8,rfl,S6.row,by decide,by decide,λg4 H7 a4 b4 st7=>⟨_,_,rfl,rfl,?_⟩⟩;have S7:=S6.trans st7;have v7:=st7.keep _ _ nlr v6;clear st7 v6 S6;refine⟨_,rfl,r,3,rfl,S7.row,by decide,by decide,λg5 H8 a5 b5 st8=>⟨_,_,rfl,rfl,?_⟩⟩;refine⟨_,rfl,r,9,rfl,st8.row,by decide,by decide,λg6 H9 a6 b6 st9=>⟨_,_,rfl,rfl,(by show 3 <= Nl;decide),λmp nmp=>?_⟩⟩;have S9:=S7.trans (st8.trans st9);have v9:=(st8.trans st9).keep _ _ nlr v7;obtain⟨sz,hsz⟩:∃ s:Int,1+g4=s:=⟨_,rfl⟩
   obtain⟨R,hR⟩:∃ s:Int,2+g5=s:=⟨_,rfl⟩
   obtain⟨n,hn'⟩:∃ n:Nat,1+g6=(n:Int):=⟨(1+g6).toNat,by omega⟩
   have S10:=S9.new (o:=.lst ([sz,R,(n:Int)].map V.int)) nmp;have m10:upd H9 mp (.lst ([sz,R,(n:Int)].map V.int)) mp=_:=a8;have v10:upd H9 mp (.lst ([sz,R,(n:Int)].map V.int)) l1=_:=(ae (ac v9 nmp)).trans v9;have eo:(HO.lst [V.int (1+g4),V.int (2+g5),V.int (1+g6)])=.lst ([sz,R,(n:Int)].map V.int):=by rw[hsz,hR,hn'];rfl
   show Md _ _ _ _ (upd H9 mp (HO.lst [V.int (1+g4),V.int (2+g5),V.int (1+g6)]));rw[eo];have bs:1 <= sz/\sz <= 8:=by omega
   have bR:2 <= R/\R <= 4:=by omega
   have bn:1 <= (n:Int)/\(n:Int) <= 9:=by omega
   generalize upd H9 mp (.lst ([sz,R,(n:Int)].map V.int))=H10 at S10 m10 v10 |-;clear S9 v9 st8 st9 S7 v7 eo hsz hR hn' nmp;have ndr:dk≠r:=λz=>by obtain⟨rw,h,_⟩:=hrw;rw[<-z,hd]at h;cases h
   have hd10:=S10.keep _ _ ndr hd;have nlp:l1≠mp:=λz=>by rw[z,m10]at v10;cases fs<;>cases v10
   clear hn hm0 hm9 nDr nDp hi hl hii np npr np2 np2r a1 b1 a4 b4 a5 b5 a6 b6;refine⟨_,rfl,dX ⟨_,hd10⟩ rfl ⟨rfl,(by show 1 <= Nl;decide),λp1 np1=>?_⟩⟩;have S11:=S10.new (o:=.lst [V.str "ring"]) np1;have v11:=a8 (H:=H10) (a:=p1) (o:=.lst [V.str "ring"]);have e11:=af (o:=.lst [V.str "ring"]) np1;have m11:=e11 _ _ m10;have l11:=e11 _ _ v10;generalize upd H10 p1 (.lst [V.str "ring"])=H11 at S11 v11 e11 m11 l11 |-;refine⟨_,rfl,mp,rfl,⟨_,SqL.of m11⟩,λD2 hD2=>wy (ys:=([sz,R,(n:Int)].map cm).map V.str) (SqL.of m11) hD2 rfl (by show 3 < 1000;decide) (λH12 e12 hD12=>?_) (λi x y H3' Rv hx hy e3 kR=>?_)⟩;rotate_left
   . match i,hx,hy with
    |0,hx,hy=>cases hx;cases hy;exact⟨_,rfl,.inl ⟨_,rfl,ip (by unfold Bnd;omega),kR _ (bq.refl _)⟩⟩
    |1,hx,hy=>cases hx;cases hy;exact⟨_,rfl,.inl ⟨_,rfl,ip (by unfold Bnd;omega),kR _ (bq.refl _)⟩⟩
    |2,hx,hy=>cases hx;cases hy;exact⟨_,rfl,.inl ⟨_,rfl,ip (by unfold Bnd;omega),kR _ (bq.refl _)⟩⟩
    |_+3,hx,hy=>cases hx
   refine⟨p1,D2,_,_,rfl,rfl,e12 _ _ v11,hD12,(by show 1+3 <= Nl;decide),λp3 np3=>?_⟩;have e13:=e12.trans (af (o:=.lst ([V.str "ring"]++([sz,R,(n:Int)].map cm).map V.str)) np3);have v13:=a8 (H:=H12) (a:=p3) (o:=.lst ([V.str "ring"]++([sz,R,(n:Int)].map cm).map V.str));generalize upd H12 p3 (.lst ([V.str "ring"]++([sz,R,(n:Int)].map cm).map V.str))=H13 at e13 v13 |-;refine⟨_,rfl,p3,l1,_,_,rfl,rfl,v13,e13 _ _ l11,NS (show _ <= 100 by rw[Nu];show 4+_ <= 100;omega) (by decide),λp4 np4=>?_⟩;have er:([V.str "ring"]++([sz,R,(n:Int)].map cm).map V.str)++fs.map V.str=(kA sz R n fs).map V.str:=by
    show _=List.map V.str ((("ring":Str) :: [sz,R,(n:Int)].map cm)++fs);rw[OS];rfl
   rw[er];have e14:=e13.trans (af (o:=.lst ((kA sz R n fs).map V.str)) np4);have v14:=a8 (H:=H13) (a:=p4) (o:=.lst ((kA sz R n fs).map V.str));generalize upd H13 p4 (.lst ((kA sz R n fs).map V.str))=H14 at e14 v14 |-;have rl:(kA sz R n fs).length=4+fs.length:=by show (("ring":Str) :: [sz,R,(n:Int)].map cm++fs).length=_;rw[Nj];rfl
   have s11:=Hz _ (yC bs bR bn fok);refine⟨_,p4,kA sz R n fs,rfl,rfl,SqL.of v14,(by show _+_ * 1 <= _;omega),?_⟩;have E14:=e11.trans e14;have S14:Stp r H H14:=⟨by obtain⟨rw,h,ir⟩:=S11.row;exact⟨rw,e14 _ _ h,ir⟩,λc o nc e=>e14 _ _ (S11.keep c o nc e)⟩
   have m14:=e14 _ _ m11;have l14:=e14 _ _ l11;have d14:=E14 _ _ hd10;clear e11 v11 np1 S11 S10 m11 l11 e12 hD12 hD2 e13 v13 np3 e14 v14 np4 E14 hd10 m10 v10 s11 rl er;refine .inl ⟨dk,dx,v,sz,R,n,fs,rfl,d14,bs,bR,bn,fok,λya H15 Ya hd15 fo k15=>⟨rfl,_,rfl,?_⟩⟩;rw[Vf rfl];refine cW ?_;have nmd:mp≠dk:=λz=>by rw[z,d14]at m14;cases m14
   have nld:l1≠dk:=λz=>by rw[z,d14]at l14;cases l14
   have m15:=k15 _ _ nmd m14;have l15:=k15 _ _ nld l14;refine⟨_,rfl,mp,_,_,_,rfl,rfl,SqL.of m15,rfl,_,rfl,mp,_,_,_,rfl,rfl,SqL.of m15,rfl,_,rfl,mp,_,_,_,rfl,rfl,SqL.of m15,rfl,_,rfl,l1,_,rfl,.inl ⟨SqL.of l15,λft nft=>?_⟩⟩;have e16:=af (o:=.tup (fs.map V.str)) nft;have v16:=a8 (H:=H15) (a:=ft) (o:=.tup (fs.map V.str));generalize upd H15 ft (.tup (fs.map V.str))=H16 at e16 v16 |-;intro y dy ny ndy nedy;refine⟨y,dy,ft,sz,R,n,fs,rfl,a8,by rw[ae (ac v16 ny),ae (ac v16 ndy)];exact v16,λyb H17 ha fa Y17 kp17=>⟨rfl,?_⟩⟩;have e17:=e16.trans (l8 ny ndy kp17);have fo2:∀ c,yb.own c->H15 c=Nf:=λc hc=>by
    cases h:H15 c with
   |none=>rfl
   |some o =>
     have h6:=e16 _ _ h;have n1:c≠y:=ac h6 ny;have:=fa c hc n1;rw[ae n1,ae (ac h6 ndy),h6]at this;cases this
   have kall:∀ c o,c≠dk->c≠r->H c=f' o->H17 c=f' o:=λc o n1 n2 e=>e17 _ _ (k15 _ _ n1 (S14.keep c o n2 e))
   have back:∀ c,H14 c=Nf->H c=Nf:=λc hc=>by
    cases h:H c with
   |none=>rfl
   |some o =>
     by_cases hcr:c=r
     . obtain⟨rw,h2,_⟩:=S14.row;rw[hcr,h2]at hc;cases hc
     . rw[S14.keep c o hcr h]at hc;cases hc
   subst ha;refine k ya yb _ H17 (Ya.same e17) Y17 ⟨⟨by show 0 < sz;omega,by show sz <= 8;omega,?_⟩,by show n <= 9;omega⟩ (λc h1 h2=>?_) (e17 _ _ hd15) (λc hc=>back c (fo c hc)) (λc hc=>?_) kall ?_
   . show 0 < sz * (if fs.contains "round" then 1 else R);refine Int.mul_pos (by omega) ?_;split<;>omega
   . obtain⟨o,e,_⟩:=Ya.there h1;rw[fo2 c h2]at e;cases e
   . cases h:H c with
    |none=>rfl
    |some o =>
      have h15:∃ o',H15 c=f' o':=by
       by_cases hcd:c=dk
       . rw[hcd];exact⟨_,hd15⟩
       . by_cases hcr:c=r
         . obtain⟨rw,h2,_⟩:=S14.row;rw[hcr];exact⟨_,k15 _ _ ndr.symm h2⟩
         . exact⟨_,k15 _ _ hcd (S14.keep c o hcr h)⟩
      obtain⟨o',h15⟩:=h15;rw[fo2 c hc]at h15;cases h15
   . obtain⟨rw,h2,ir⟩:=S14.row;exact⟨rw,e17 _ _ (k15 _ _ ndr.symm h2),ir⟩
def Ei (G:Gs K mg a d):FnOk P w K mg base CX0 13 a.iS d.iS ["row","yard"] (Dw w a):=by
 have UQ:FnOk P w K mg base CX0 1 _ _ _ _:=xD G;have Ui:FnOk P w K mg base CX0 12 _ _ _ _:=Kb G;refine G.sf.ok f8 (λvs H Q E h=>?_) (λcdv A' outer s' H vs Q E hr h=>?_)
 . obtain⟨r,y,q,S,L,rfl,_⟩:=h;rfl
 . obtain⟨r,y,q,S,L,rfl,hrw,nr,Y,ok,hi,k⟩:=h;have hu:=bU hr;refine⟨_,((@aJ _ _ 2 _ _ _ _ f8.nd rfl (NW rfl) (@az _ _ _ _ _ _ _ aC (@bG _ _ _ _ (ag∣((FL yz ag)∣((@dA _ _ _ _ _ _ _ _ Dp ag ag)∣((FL yz (@dA _ _ _ _ _ _ _ _ Dp ag ag))∣(ag∣aa)))))) (au UQ (hr.mono (by decide)) (by rfl) G.bf G.b9.kp G.bg .nil aq ((pv 0)∣(ag∣aa))) (λ_ _=>rfl)) (by rfl) (by first|exact .inl rfl|exact .inr rfl|assumption))∪((@aJ _ _ 3 _ _ _ _ f8.nd rfl (NW rfl) (av (pv 1) G.al G.lS Ui (hr.mono (by decide)) G.m5 .nil aq ((@bG _ _ _ _ ((pv 2)∣aa))∣aa)) (by rfl) (by first|exact .inl rfl|exact .inr rfl|assumption))∪((@aI _ _ _ _ _ _ _ _ (vZ ((Gu (ar (Es hr.units) (pv 3) (@bG _ _ _ _ aa) (ay _)) (Ch (ar Ki (au UQ (hr.mono (by decide)) (by rfl) G.bf G.b9.kp G.bg .nil aq ((pv 0)∣(ag∣aa))) ag (ay _))))).pt) ((@az _ _ _ _ _ _ _ aC (pv 3) (au UQ (hr.mono (by decide)) (by rfl) G.bf G.b9.kp G.bg .nil aq ((pv 0)∣((aN b8 (by rfl) G.m9 i0 ((pv 3)∣aa))∣aa))) (λ_ _=>rfl))⁻¹) am)∪((@aJ _ _ 4 _ _ _ _ f8.nd rfl (NW rfl) (au UQ (hr.mono (by decide)) (by rfl) G.bf G.b9.kp G.bg .nil aq ((pv 0)∣(ag∣aa))) (by rfl) (by first|exact .inl rfl|exact .inr rfl|assumption))∪((@aJ _ _ 5 _ _ _ _ f8.nd rfl (NW rfl) (@az _ _ _ _ _ _ _ aC (@bG _ _ _ _ (aj∣(aj∣(aj∣(aj∣aa))))) (au UQ (hr.mono (by decide)) (by rfl) G.bf G.b9.kp G.bg .nil aq ((pv 0)∣(ag∣aa))) (λ_ _=>rfl)) (by rfl) (by first|exact .inl rfl|exact .inr rfl|assumption))∪((@aJ _ _ 6 _ _ _ _ f8.nd rfl (NW rfl) (@bG _ _ _ _ ((@bi _ _ _ _ _ (aj∣((pv 2)∣aa)))∣((@bi _ _ _ _ _ (aj∣aa))∣((@bi _ _ _ _ _ (aj∣aa))∣((@bi _ _ _ _ _ (aj∣((au UQ (hr.mono (by decide)) (by rfl) G.bf G.b9.kp G.bg .nil aq ((pv 0)∣(ag∣aa)))∣((pv 2)∣aa))))∣((@bi _ _ _ _ _ ((pv 5)∣((pv 4)∣aa)))∣aa)))))) (by rfl) (by first|exact .inl rfl|exact .inr rfl|assumption))∪((@az _ _ _ _ _ _ _ aC (pv 6) (au UQ (hr.mono (by decide)) (by rfl) G.bf G.b9.kp G.bg .nil aq ((pv 0)∣(ag∣aa))) (λ_ _=>rfl))⁻¹))))))),?_⟩;refine⟨_,rfl,_,_,rfl,rfl,⟨by decide,by decide,by decide⟩,_,_,rfl,rfl,⟨by decide,by decide,by decide⟩,_,rfl,(by show 5 <= Nl;decide),λp np=>?_⟩;obtain⟨wsL,hwsL⟩:∃ l:List V,l=[V.int 5,V.int (-7),V.int (10 ^ (9:Int).toNat),V.int (-(10 ^ (9:Int).toNat)),V.int 0]:=⟨_,rfl⟩
   have S1:Stp r H (upd H p (.lst wsL)):=Stp.new ⟨hrw,λ_ _ _ e=>e⟩ np;have v1:=a8 (H:=H) (a:=p) (o:=.lst wsL);have npr:p≠r:=hrw.ne np;rw[hwsL]at S1 v1;generalize upd H p (.lst [V.int 5,V.int (-7),V.int (10 ^ (9:Int).toNat),V.int (-(10 ^ (9:Int).toNat)),V.int 0])=H1 at S1 v1 |-;refine⟨_,rfl,r,5,rfl,S1.row,by decide,by decide,λg1 H2 a1 b1 st2=>?_⟩;obtain⟨wt,hwt,wt1,wt2⟩:∃ m:Int,atI [V.int 5,V.int (-7),V.int (10 ^ (9:Int).toNat),V.int (-(10 ^ (9:Int).toNat)),V.int 0] g1=f' (.int m)/\-1000000000 <= m/\m <= 1000000000:=by
    have h:g1=0\/g1=1\/g1=2\/g1=3\/g1=4:=by omega
    rcases h with rfl|rfl|rfl|rfl|rfl<;>exact⟨_,rfl,by decide,by decide⟩
   have S2:=S1.trans st2;refine⟨p,_,_,_,rfl,rfl,SqL.of (st2.keep _ _ npr v1),hwt,?_⟩;clear v1 st2 S1 hwt npr np a1 b1 hwsL;have Y2:Yn w a.aY a.c9 a.aM a.bB a.aD H2 y q S:=Y.ko (own:=(·=r)) (λc o n e=>S2.keep c o n e) (λc z=>by rw[z];exact nr) (λc z vs e=>by obtain⟨rw,h,_⟩:=hrw;rw[z,h]at e;cases e);refine⟨_,rfl,dX Y2.ob (eN (by decide +kernel)) ⟨_,rfl,(by show 1 <= Nl;decide),λwl nwl=>?_⟩⟩;have e3:=af (o:=.lst [V.int wt]) nwl;have w3:upd H2 wl (.lst [V.int wt]) wl=f' (.lst ([wt].map V.int)):=a8;have S3:=S2.new (o:=.lst [V.int wt]) nwl;generalize upd H2 wl (.lst [V.int wt])=H3 at e3 w3 S3 |-;have wok:∀ x∈[wt],-1000000000 <= x/\x <= 1000000000:=λx hx=>by rw[Nd.mp hx];exact⟨wt1,wt2⟩
   have tkl:=hi.tkd.len (by decide);refine⟨y,q,S,wl,[wt],rfl,Y2.same e3,ok,w3,(by show 1 <= 60;decide),wok,by omega,λlc ks ts H4 pk _ nlc e4 hlc td=>?_⟩;have S4:Stp r H H4:=⟨by obtain⟨rw,h,ir⟩:=S3.row;exact⟨rw,e4 _ _ h,ir⟩,λc o n e=>e4 _ _ (S3.keep c o n e)⟩
   have nlr:lc≠r:=S3.row.ne nlc;clear e3 w3 S3 e4 Y2 S2 nwl nlc Y;have kl:=pk.length_eq;have xlen:((gY [wt] ks).filter λx=>(x.chk q S).isNone).length <= 20000:=by
    refine NS (PR ..) ?_;unfold gY gZ mh;rw[Nj,Nj,Nj,Nu,mv];show 1+2+ks.length * 1+8 <= _;omega
   have tl:=aU td;refine⟨λb H'=>(b=G'->ts≠[])/\Stp r H4 H',?_,?_⟩
   . refine⟨_,rfl,DP,λq2 nq=>⟨lc,q2,ts,rfl,rfl,SqL.of (af nq _ _ hlc),SqL.of a8,_,rfl,?_⟩⟩;have S5:Stp r H4 (upd H4 q2 (.lst [])):=Stp.new ⟨S4.row,λ_ _ _ e=>e⟩ nq;rw[Vc rfl];by_cases hts:ts=[]
     . rw[hts];exact cW ⟨λz=>(by cases z),S5⟩
     . refine iy (by cases ts with|nil=>exact absurd rfl hts|cons _ _=>rfl) ?_;exact⟨_,rfl,r,6,rfl,S5.row,by decide,by decide,λg H6 a2 b2 st=>⟨_,_,rfl,rfl,_,rfl,λ_=>hts,S5.trans st⟩⟩
   rintro b H5 ⟨hb,st5⟩;have S5:=S4.trans st5;have hl5:=st5.keep _ _ nlr hlc;cases b with
  |true =>
    have hp0:=List.length_pos_iff.mpr (hb rfl);refine fP ⟨_,rfl,_,rfl,_,rfl,lc,ts,rfl,.inl (SqL.of hl5),r,_,rfl,st5.row,by omega,by omega,λg H6 g0 g1' st6=>?_⟩;obtain⟨jj,rfl⟩:=Int.eq_ofNat_of_zero_le g0;have hjl:jj < ts.length:=by omega
    obtain⟨x,hx,t,hvt,ht4⟩:=jX td (Nk hjl);have hxm:=(P0.mp (N1 hx)).1;have S6:=st5.trans st6;have ntr:t≠r:=λz=>by obtain⟨rw,h,ir⟩:=S4.row;rw[z,h]at ht4;cases ht4
    refine⟨lc,ts,_,_,rfl,rfl,SqL.of (S6.keep _ _ nlr hlc),Gw (Nk hjl),?_⟩;rw[hvt];exact k x t H6 (S6.keep _ _ ntr ht4) (zf wok x hxm) (EQ (λn hn=>by have:=hi.tkd.2 n (pk.subset hn);omega) x hxm) (S4.trans S6)
  |false =>
    refine cW ?_;clear hb td hlc hl5 tl xlen kl pk;refine⟨_,rfl,r,2,rfl,S5.row,by decide,by decide,λg2 H6 a2 b2 st6=>?_⟩;obtain⟨sb,rfl⟩:∃ b:Bool,g2=sdI b:=by
     have h:g2=0\/g2=1:=by omega
     rcases h with rfl|rfl
     . exact⟨D',rfl⟩
     . exact⟨G',rfl⟩
    have S6:=S5.trans st6;refine⟨(by show 4 <= Nl;decide),λp2 np2=>?_⟩;have S7:=S6.new (o:=.lst [V.str "bell",V.str "lie",V.str "look",V.str "drain"]) np2;have v7:=a8 (H:=H6) (a:=p2) (o:=.lst [V.str "bell",V.str "lie",V.str "look",V.str "drain"]);have np2r:p2≠r:=S6.row.ne np2;generalize upd H6 p2 (.lst [V.str "bell",V.str "lie",V.str "look",V.str "drain"])=H7 at S7 v7 |-;refine⟨_,rfl,r,4,rfl,S7.row,by decide,by decide,λg3 H8 a3 b3 st8=>?_⟩;obtain⟨wd,hwd,x5,hx5,x5o,x5n⟩:∃ wd:Str,atI [V.str "bell",V.str "lie",V.str "look",V.str "drain"] g3=f' (.str wd)/\∃ x:Dd,x.vs=[.str wd,.int (sdI sb)]/\x.Ok/\x.NB:=by
     have h:g3=0\/g3=1\/g3=2\/g3=3:=by omega
     rcases h with rfl|rfl|rfl|rfl
     . exact⟨_,rfl,.bell sb,rfl,trivial,trivial⟩
     . exact⟨_,rfl,.lie sb,rfl,trivial,trivial⟩
     . exact⟨_,rfl,.look sb,rfl,trivial,trivial⟩
     . exact⟨_,rfl,.drain sb,rfl,trivial,trivial⟩
    refine⟨p2,_,_,_,rfl,rfl,SqL.of (st8.keep _ _ np2r v7),hwd,?_⟩;have S8:=S7.trans st8;clear S7 v7 st8 st6 S6 S5 st5 hwd a2 b2 a3 b3;refine⟨_,rfl,l2,λt1 n1=>⟨(by show 1 <= Nl;decide),λt2 n2=>⟨(by show 1 <= Nl;decide),λt3 n3=>?_⟩⟩⟩;have T1:=S8.new (o:=.tup [V.str "ask",V.int wt]) n1;have u1:=a8 (H:=H8) (a:=t1) (o:=.tup [V.str "ask",V.int wt]);have r1:t1≠r:=S8.row.ne n1;generalize upd H8 t1 (.tup [V.str "ask",V.int wt])=J1 at T1 u1 n2 n3 |-;have T2:=T1.new (o:=.tup [V.str "collect"]) n2;have u2:=a8 (H:=J1) (a:=t2) (o:=.tup [V.str "collect"]);have e2:=af (o:=.tup [V.str "collect"]) n2;have r2:t2≠r:=T1.row.ne n2;have u1:=e2 _ _ u1;generalize upd J1 t2 (.tup [V.str "collect"])=J2 at T2 u1 u2 e2 n3 |-;have T3:=T2.new (o:=.tup [V.str "take"]) n3;have u3:=a8 (H:=J2) (a:=t3) (o:=.tup [V.str "take"]);have e3:=af (o:=.tup [V.str "take"]) n3;have r3:t3≠r:=T2.row.ne n3;have u1:=e3 _ _ u1;have u2:=e3 _ _ u2;generalize upd J2 t3 (.tup [V.str "take"])=J3 at T3 u1 u2 u3 e3 |-;refine⟨_,rfl,r,11,rfl,T3.row,by decide,by decide,λg4 J4 a4 b4 st4=>⟨_,rfl,(by show 3 <= Nl;decide),λt4 n4=>?_⟩⟩;have T4:=(T3.trans st4).new (o:=.tup [V.str "answer",V.int g4,V.int wt]) n4;have u4:=a8 (H:=J4) (a:=t4) (o:=.tup [V.str "answer",V.int g4,V.int wt]);have e4:=af (o:=.tup [V.str "answer",V.int g4,V.int wt]) n4;have r4:t4≠r:=st4.row.ne n4;have u1:=e4 _ _ (st4.keep _ _ r1 u1);have u2:=e4 _ _ (st4.keep _ _ r2 u2);have u3:=e4 _ _ (st4.keep _ _ r3 u3);generalize upd J4 t4 (.tup [V.str "answer",V.int g4,V.int wt])=J5 at T4 u1 u2 u3 u4 e4 |-;refine⟨_,rfl,_,rfl,l2,λt5 n5=>?_⟩;have T5:=T4.new (o:=.tup [V.str wd,V.int (sdI sb)]) n5;have u5:=a8 (H:=J5) (a:=t5) (o:=.tup [V.str wd,V.int (sdI sb)]);have e5:=af (o:=.tup [V.str wd,V.int (sdI sb)]) n5;have r5:t5≠r:=T4.row.ne n5;have u1:=e5 _ _ u1;have u2:=e5 _ _ u2;have u3:=e5 _ _ u3;have u4:=e5 _ _ u4;generalize upd J5 t5 (.tup [V.str wd,V.int (sdI sb)])=J6 at T5 u1 u2 u3 u4 u5 e5 |-;refine⟨(by show 5 <= Nl;decide),λlo nlo=>?_⟩;have T6:=T5.new (o:=.lst [V.ref t1,V.ref t2,V.ref t3,V.ref t4,V.ref t5]) nlo;have v6:=a8 (H:=J6) (a:=lo) (o:=.lst [V.ref t1,V.ref t2,V.ref t3,V.ref t4,V.ref t5]);have e6:=af (o:=.lst [V.ref t1,V.ref t2,V.ref t3,V.ref t4,V.ref t5]) nlo;have r6:lo≠r:=T5.row.ne nlo;have u1:=e6 _ _ u1;have u2:=e6 _ _ u2;have u3:=e6 _ _ u3;have u4:=e6 _ _ u4;have u5:=e6 _ _ u5;generalize upd J6 lo (.lst [V.ref t1,V.ref t2,V.ref t3,V.ref t4,V.ref t5])=J7 at T6 v6 u1 u2 u3 u4 u5 e6 |-;refine⟨_,rfl,_,rfl,r,5,rfl,T6.row,by decide,by decide,λg5 J8 a5 b5 st8=>?_⟩;have T8:=T6.trans st8;have fin:∀ (t:K') (x:Dd),t≠r->J7 t=f' (.tup x.vs)->x.Ok->x.NB->Q (.ref t) J8:=λt x n e o' n'=>k x t J8 (st8.keep _ _ n e) o' n' T8
    have h:g5=0\/g5=1\/g5=2\/g5=3\/g5=4:=by omega
    rcases h with rfl|rfl|rfl|rfl|rfl
    . exact⟨lo,_,_,_,rfl,rfl,SqL.of (st8.keep _ _ r6 v6),rfl,fin t1 (.ask wt) r1 u1 ⟨wt1,wt2⟩ trivial⟩
    . exact⟨lo,_,_,_,rfl,rfl,SqL.of (st8.keep _ _ r6 v6),rfl,fin t2 .collect r2 u2 trivial trivial⟩
    . exact⟨lo,_,_,_,rfl,rfl,SqL.of (st8.keep _ _ r6 v6),rfl,fin t3 .take r3 u3 trivial trivial⟩
    . exact⟨lo,_,_,_,rfl,rfl,SqL.of (st8.keep _ _ r6 v6),rfl,fin t4 (.answer g4 wt) r4 u4 ⟨wt1,wt2⟩ ⟨by omega,by omega⟩⟩
    . exact⟨lo,_,_,_,rfl,rfl,SqL.of (st8.keep _ _ r6 v6),rfl,fin t5 x5 r5 (by rw[hx5];exact u5) x5o x5n⟩
structure PD where
 dk:K'
 dx:K'
 A:YA
 B:YA
 q:YP
 S:YS
 hs:List Hx
def PD.own (p:PD) (c:K'):Prop:=c=p.dk\/p.A.own c\/p.B.own c
structure Pr (w:Nt) (ad:Ad) (H:Hp) (p:PD) (L:Nat):Prop where
 d:H p.dk=f' (.ins ad.iz p.dx [("yard",.ref p.A.y)])
 ya:Yn w ad.aY ad.c9 ad.aM ad.bB ad.aD H p.A p.q p.S
 yb:Yn w ad.aY ad.c9 ad.aM ad.bB ad.aD H p.B p.q p.S
 ok:p.q.Ok
 i:YI p.q p.S L
 wb:WB p.S
 h:p.S.hs=p.hs.map Hx.d
 ab:∀ c,p.A.own c->¬ p.B.own c
 na:¬ p.A.own p.dk
 nb:¬ p.B.own p.dk
section
variable {w:Nt}{ad:Ad}{H H':Hp}{p:PD}{L L':Nat}
theorem Pr.ko (P:Pr w ad H p L) {own:K'->Prop}(ko:KO own H H') (hd:∀ c,own c->¬ p.own c) (hn:∀ c,own c->∀ vs,H c≠f' (.tup vs)):Pr w ad H' p L :=
 ⟨ko _ _ (λz=>hd _ z (.inl rfl)) P.d,P.ya.ko ko (λc z y=>hd c z (.inr (.inl y))) hn,P.yb.ko ko (λc z y=>hd c z (.inr (.inr y))) hn,P.ok,P.i,P.wb,P.h,P.ab,P.na,P.nb⟩
theorem Pr.same (P:Pr w ad H p L) (e:bq H H'):Pr w ad H' p L:=⟨e _ _ P.d,P.ya.same e,P.yb.same e,P.ok,P.i,P.wb,P.h,P.ab,P.na,P.nb⟩
theorem Pr.mono (P:Pr w ad H p L) (h:L <= L'):Pr w ad H p L':=⟨P.d,P.ya,P.yb,P.ok,P.i.mono h,P.wb,P.h,P.ab,P.na,P.nb⟩
theorem Pr.there (P:Pr w ad H p L) {c:K'}(h:p.own c):∃ o,H c=f' o/\∀ vs,o≠.tup vs:=by
 rcases h with rfl|h|h
 . exact⟨_,P.d,λvs z=>by cases z⟩
 . exact P.ya.there h
 . exact P.yb.there h
def Pr.fresh (P:Pr w ad H p L) {c:K'}(h:H c=Nf):¬ p.own c:=λz=>by
 obtain⟨o,e,_⟩:=P.there z;rw[e]at h;cases h
def Pr.stp (P:Pr w ad H p L) {r:K'}(st:Stp r H H') (n:¬ p.own r) (hr:Rw H r):Pr w ad H' p L :=
 P.ko (own:=(·=r)) (λc o m e=>st.keep c o m e) (λc z=>by rw[z];exact n) (λc z vs e=>by obtain⟨rw,h,_⟩:=hr;rw[z,h]at e;cases e)
theorem Pr.hl (P:Pr w ad H p L):p.hs.length <= L:=by
 have h:=P.i.hl;rw[P.h,Nu]at h;exact h
end
structure LI (w:Nt) (ad:Ad) (H:Hp) (g:Bool->PD) (d0 y0:K') (L:Nat):Prop where
 p:∀ b,Pr w ad H (g b) L
 dl:H d0=f' (.lst [.ref (g D').dk,.ref (g G').dk])
 yl:H y0=f' (.lst [.ref (g D').B.y,.ref (g G').B.y])
 ap:∀ b c,(g b).own c->¬ (g (!b)).own c
 nd:∀ b,¬ (g b).own d0
 ny:∀ b,¬ (g b).own y0
section
variable {w:Nt}{ad:Ad}{H H':Hp}{p:Bool->PD}{dl yl:K'}{L L':Nat}
def LI.ne (I:LI w ad H p dl yl L):dl≠yl:=λz=>by
 have h1:=I.dl;rw[z,I.yl]at h1;have h2:(p D').B.y=(p D').dk:=by
  have:=NH h1;injection this with e
  injection e with e1 _
  injection e1
 obtain⟨dx,e⟩:=(I.p D').yb.ob;have h3:=(I.p D').d;rw[<-h2,e]at h3;have h4:=NH h3;injection h4 with e1 e2 e3
 have:=congrArg O8 e3;exact absurd this (by show ¬ (12=1);decide)
theorem LI.same (I:LI w ad H p dl yl L) (e:bq H H'):LI w ad H' p dl yl L:=⟨λb=>(I.p b).same e,e _ _ I.dl,e _ _ I.yl,I.ap,I.nd,I.ny⟩
theorem LI.mono (I:LI w ad H p dl yl L) (h:L <= L'):LI w ad H p dl yl L':=⟨λb=>(I.p b).mono h,I.dl,I.yl,I.ap,I.nd,I.ny⟩
theorem LI.stp (I:LI w ad H p dl yl L) {r:K'}(st:Stp r H H') (n:∀ b,¬ (p b).own r) (h1:dl≠r) (h2:yl≠r) (hr:Rw H r):LI w ad H' p dl yl L :=
 ⟨λb=>(I.p b).stp st (n b) hr,st.keep _ _ h1 I.dl,st.keep _ _ h2 I.yl,I.ap,I.nd,I.ny⟩
end
def Ik {α:Type}(f:α->V) (g:Bool->α) (b:Bool):atI [f (g D'),f (g G')] (sdI b)=f' (f (g b)):=by cases b<;>rfl
def D3 (p:Bool->PD) (b:Bool) (x:PD):Bool->PD:=λc=>if c=b then x else p c
def cg {p:Bool->PD}{b:Bool}{x:PD}:D3 p b x b=x:=Vc rfl
def fF {p:Bool->PD}{b c:Bool}{x:PD}(h:c≠b):D3 p b x c=p c:=Vd h
def GE (b:Bool):(!b)≠b:=by cases b<;>decide
def wY {b c:Bool}(h:c≠b):c=!b:=by cases b<;>cases c<;>simp_all
def LI.chg {w:Nt}{ad:Ad}{H H':Hp}{p:Bool->PD}{dl yl:K'}{L L':Nat}(I:LI w ad H p dl yl L) {b:Bool}{x:PD}(hdk:x.dk=(p b).dk) (hB:x.B.y=(p b).B.y) (hx:Pr w ad H' x L') (hl:L <= L')
 (hown:∀ c,x.own c->(p b).own c) (ko:KO (p b).own H H'):LI w ad H' (D3 p b x) dl yl L':=by
 have hn:∀ c,(p b).own c->∀ vs,H c≠f' (.tup vs):=λc hc vs e=>by
  obtain⟨o,h,n⟩:=(I.p b).there hc;rw[h]at e;exact n vs (NH e)
 have hoth:Pr w ad H' (p (!b)) L':=((I.p (!b)).ko ko (I.ap b) hn).mono hl;have e1:∀ c,(D3 p b x c).dk=(p c).dk:=λc=>by
  by_cases h:c=b
  . rw[h,cg,hdk]
  . rw[fF h]
 have e2:∀ c,(D3 p b x c).B.y=(p c).B.y:=λc=>by
  by_cases h:c=b
  . rw[h,cg,hB]
  . rw[fF h]
 have e3:∀ c z,(D3 p b x c).own z->(p c).own z:=λc z h=>by
  by_cases hc:c=b
  . rw[hc,cg]at h;rw[hc];exact hown z h
  . rw[fF hc]at h;exact h
 refine⟨λc=>?_,?_,?_,λc z h1 h2=>I.ap c z (e3 _ _ h1) (e3 _ _ h2),λc z=>I.nd c (e3 _ _ z),λc z=>I.ny c (e3 _ _ z)⟩
 . by_cases h:c=b
   . rw[h,cg];exact hx
   . rw[fF h,wY h];exact hoth
 . rw[e1,e1];exact ko _ _ (I.nd b) I.dl
 . rw[e2,e2];exact ko _ _ (I.ny b) I.yl
def LI.renew {w:Nt}{ad:Ad}{H H':Hp}{p:Bool->PD}{dl yl r:K'}{L:Nat}(I:LI w ad H p dl yl L) {b:Bool}{ya yb:YA}{q:YP}(R:Rw H r) (nr:∀ c,¬ (p c).own r) (rd:dl≠r) (ry:yl≠r)
 (Ya:Yn w ad.aY ad.c9 ad.aM ad.bB ad.aD H' ya q YS.zero) (Yb:Yn w ad.aY ad.c9 ad.aM ad.bB ad.aD H' yb q YS.zero) (ok:q.Ok) (dis:∀ c,ya.own c->¬ yb.own c) (hd:H' (p b).dk=f' (.ins ad.iz (p b).dx [("yard",.ref ya.y)]))
 (fa:∀ c,ya.own c->H c=Nf) (fb:∀ c,yb.own c->H c=Nf) (kp:∀ c o,c≠(p b).dk->c≠r->H c=f' o->H' c=f' o) :
 H' yl=f' (.lst [.ref (p D').B.y,.ref (p G').B.y])/\LI w ad (upd H' yl (.lst ([V.ref (p D').B.y,.ref (p G').B.y].set (if b then 1 else 0) (.ref yb.y)))) (D3 p b ⟨(p b).dk,(p b).dx,ya,yb,q,YS.zero,[]⟩) dl yl L /\
  ∀ z o,H z=f' o->(∀ c,¬ (p c).own z)->∀ c,¬ (D3 p b ⟨(p b).dk,(p b).dx,ya,yb,q,YS.zero,[]⟩ c).own z:=by
 have no:∀ z o,H z=f' o->(∀ c,¬ (p c).own z)->∀ c,¬ (D3 p b ⟨(p b).dk,(p b).dx,ya,yb,q,YS.zero,[]⟩ c).own z:=λz o e h c y=>by
  by_cases hc:c=b
  . rw[hc,cg]at y;rcases y with y|y|y
    . exact h b (.inl y)
    . rw[fa z y]at e;cases e
    . rw[fb z y]at e;cases e
  . rw[fF hc]at y;exact h c y
 have nyk:yl≠(p b).dk:=λz=>I.ny b (.inl z)
 have ndk:dl≠(p b).dk:=λz=>I.nd b (.inl z)
 have y':=kp _ _ nyk ry I.yl;have d':=kp _ _ ndk rd I.dl;have Po:Pr w ad H' (p (!b)) L:=(I.p (!b)).ko (own:=λc=>c=(p b).dk\/c=r) (λc o n e=>kp c o (λz=>n (.inl z)) (λz=>n (.inr z)) e)
  (λc z=>by
   rcases z with rfl|rfl
   . exact I.ap b _ (.inl rfl)
   . exact nr _) (λc z vs e=>by
   rcases z with rfl|rfl
   . rw[(I.p b).d]at e;cases e
   . obtain⟨rw,h,_⟩:=R;rw[h]at e;cases e)
 have Pn:Pr w ad H' ⟨(p b).dk,(p b).dx,ya,yb,q,YS.zero,[]⟩ L:=⟨hd,Ya,Yb,ok,(YI.zero _).mono (Ou _),BA,rfl,dis,(λz=>by have:=fa _ z;rw[(I.p b).d]at this;cases this),(λz=>by have:=fb _ z;rw[(I.p b).d]at this;cases this)⟩
 have ov:∀ {z:PD} {u:HO},Pr w ad H' z L->¬ z.own yl->Pr w ad (upd H' yl u) z L:=λPz nz=>Pz.ko (own:=(·=yl)) (λc o n e=>by rw[ae n];exact e) (λc z=>by rw[z];exact nz) (λc z vs e=>by rw[z,y']at e;cases e)
 have e1:∀ c,(D3 p b ⟨(p b).dk,(p b).dx,ya,yb,q,YS.zero,[]⟩ c).dk=(p c).dk:=λc=>by
  by_cases h:c=b
  . rw[h,cg]
  . rw[fF h]
 refine⟨y',⟨λc=>?_,?_,?_,λc z h1 h2=>?_,no _ _ I.dl I.nd,no _ _ I.yl I.ny⟩,no⟩
 . have nn:=no _ _ I.yl I.ny c;by_cases h:c=b
   . rw[h,cg]at nn |-;exact ov Pn nn
   . rw[fF h]at nn |-;rw[wY h]at nn |-;exact ov Po nn
 . rw[e1,e1,ae I.ne];exact d'
 . rw[a8];cases b
   . rw[cg,fF (by decide)];rfl
   . rw[cg,fF (by decide)];rfl
 . have key:∀ z,(PD.mk (p b).dk (p b).dx ya yb q YS.zero []).own z->¬ (p (!b)).own z:=λz y1 y2=>by
    obtain⟨o,e,_⟩:=(I.p (!b)).there y2;rcases y1 with y|y|y
    . exact I.ap b z (.inl y) y2
    . rw[fa z y]at e;cases e
    . rw[fb z y]at e;cases e
   by_cases h:c=b
   . rw[h]at h1 h2;rw[cg]at h1;rw[fF (GE b)]at h2;exact key z h1 h2
   . have hc:=wY h;rw[hc,Bool.not_not,cg]at h2;rw[fF h,hc]at h1;exact key z h2 h1
def zv (K:Nh):Sp:=λvs H Q _=>∃ (b:K') (ns:List Int),vs=[.ref b]/\SqL K H b (ns.map V.int)/\ns.length <= 63/\∀ H',Q (.bl G') H'
def K1 (G:Gs K mg a d):FnOk P w K mg base CX0 17 a.law d.law ["script"] (zv K):=by
 have UJ:FnOk P w K mg base CX0 1 _ _ _ _:=B0 G;have UO:FnOk P w K mg base CX0 1 _ _ _ _:=Jy G;have UQ:FnOk P w K mg base CX0 1 _ _ _ _:=xD G;have Tt:FnOk P w K mg base CX0 1 _ _ _ _:=Fz G;have UM:FnOk P w K mg base CX0 13 _ _ _ _:=Kf G;have UK:FnOk P w K mg base CX0 13 _ _ _ _:=Ei G;have UL:FnOk P w K mg base CX0 11 _ _ _ _:=Io G;have UP:FnOk P w K mg base CX0 13 _ _ _ _:=Hh G;have UI:FnOk P w K mg base CX0 13 _ _ _ _:=Cf G;refine G.KZ.ok qg (λvs H Q E h=>?_) (λcdv A' outer s' H vs Q E hr h=>?_)
 . obtain⟨l,ns,rfl,_⟩:=h;rfl
 . obtain⟨l,ns,rfl,hS,hlen,k⟩:=h;have hu:=bU hr;refine⟨_,((@aJ _ _ 1 _ _ _ _ qg.nd rfl (Or.inr rfl) (@bG _ _ _ _ ((pp G.G2 Tt (hr.mono (by decide)) (by rfl) G.FT G.oi .nil aq)∣((pp G.G2 Tt (hr.mono (by decide)) (by rfl) G.FT G.oi .nil aq)∣aa))) (by rfl) (by first|exact .inl rfl|exact .inr rfl|assumption))∪((by exact nY (iN:=2) (tc:=λ_ H Q=>Q G' H) (te:=uY (FQ w a) [] E0 (li (tOp (LC K) (qP 2) (qP 0)) (li (uY FX [] E0 (li (tOp (rI0 λi j=>V.int (i+j)) (uY (wD K) [] E0 (li (qP 1) (li (tC (V.int 0)) AU))) (qP 0)) AU)) AU))) (caps:=["script","desks"]) (js:=[0,1]) qg.nd rfl (NW rfl) (by rfl) rfl (gu rfl rfl (by decide +kernel) (by decide +kernel) rfl ⟨rfl,⟨rfl,trivial⟩⟩ rfl rfl) (by decide +kernel) ⟨⟨⟨_,rfl⟩,rfl,.inl rfl,.inl rfl⟩,⟨⟨⟨_,rfl⟩,rfl,.inl rfl,.inl rfl⟩,trivial⟩⟩ (pX (by rfl) G.x6 (ag∣aa)) (λC s₃ H₃ P2 ex E'=>by exact d8) (λC s₃ H₃ P2 ex E'=>by exact(au UM (hr.mono (by decide)) (by rfl) G.ww G.qe.kp G.wx .nil aq ((@az _ _ _ _ _ _ _ aC (pv 2) (pv 0) (λ_ _=>rfl))∣((au UO (hr.mono (by decide)) (by rfl) G.vG G.pW.kp G.vf .nil aq ((@dA _ _ _ _ _ _ _ _ o6 (au UJ (hr.mono (by decide)) (by rfl) G.tD G.mP.kp G.tR .nil aq ((pv 1)∣(ag∣aa))) (pv 0))∣aa))∣aa)))))∪(@kj _ _ _ _ _ (@sI _ _ _ _ _ _ _ _ Pl rfl (@jK _ _ _ _ (d6 ib (pv 0) (eB ag) (eB ag))) (ig (i:=3) qg.nd rfl (NW rfl)) ((@aJ _ _ 4 _ _ _ _ qg.nd rfl (NW rfl) (au UO (hr.mono (by decide)) (by rfl) G.vG G.pW.kp G.vf .nil aq ((pv 3)∣aa)) (by rfl) (by first|exact .inl rfl|exact .inr rfl|assumption))∪((@aJ _ _ 5 _ _ _ _ qg.nd rfl (NW rfl) (aR pq (by rfl) G.Ab sr ((cc cp (au UQ (hr.mono (by decide)) (by rfl) G.bf G.b9.kp G.bg .nil aq ((pv 4)∣(ag∣aa))) ag (ay _))∣aa)) (by rfl) (by first|exact .inl rfl|exact .inr rfl|assumption))∪(@kj _ _ _ _ _ (@aI _ _ _ _ _ _ _ _ (ar cp (au UQ (hr.mono (by decide)) (by rfl) G.bf G.b9.kp G.bg .nil aq ((pv 4)∣(ag∣aa))) ag (ay _)) (@ao _ _ _ (@lv _ _ _ _ _ _ (au UM (hr.mono (by decide)) (by rfl) G.ww G.qe.kp G.wx .nil aq ((@az _ _ _ _ _ _ _ aC (pv 1) (pv 5) (λ_ _=>rfl))∣((pv 4)∣aa))) (lA (pv 2) (pv 5) fi) (by rfl) (by rfl) (by rfl))) am)
    ((@aI _ _ _ _ _ _ _ _ (ar (CM hr.units) dY (pv 2) (by with_unfolding_all rfl)) (eG⁻¹) am)∪(@kj _ _ _ _ _ (@aI _ _ _ _ _ _ _ _ (ar cp (au UQ (hr.mono (by decide)) (by rfl) G.bf G.b9.kp G.bg .nil aq ((pv 4)∣(ag∣aa))) ag (ay _)) (@ao _ _ _ (@aI _ _ _ _ _ _ _ _ (eI (bP (au UI (hr.mono (by decide)) (by rfl) G.eR G.cP.kp G.eM .nil aq ((@az _ _ _ _ _ _ _ aC (pv 1) (pv 5) (λ_ _=>rfl))∣((@az _ _ _ _ _ _ _ aC (pv 2) (pv 5) (λ_ _=>rfl))∣((au UQ (hr.mono (by decide)) (by rfl) G.bf G.b9.kp G.bg .nil aq ((pv 4)∣(ag∣aa)))∣aa)))))) (eG⁻¹) am)) am)
    ((@aJ _ _ 6 _ _ _ _ qg.nd rfl (NW rfl) (au UK (hr.mono (by decide)) (by rfl) G.zT G.sf.kp G.AM .nil aq ((pv 4)∣((@az _ _ _ _ _ _ _ aC (pv 2) (pv 5) (λ_ _=>rfl))∣aa))) (by rfl) (by first|exact .inl rfl|exact .inr rfl|assumption))∪(@ao _ _ _ (@aI _ _ _ _ _ _ _ _ (ar oQ (au UP (hr.mono (by decide)) (by rfl) G.An G.sx.kp G.zZ .nil aq ((@az _ _ _ _ _ _ _ aC (pv 1) (pv 5) (λ_ _=>rfl))∣((@jU _ _ _ _ _ _ _ _ _ _ _ _ OU PySem.F.slot_str_join PySem.F.type_str_join tP aj ((by exact ik (tc:=λ_ H Q=>Q G' H) (te:=tCB (λxs H Q=>(∃ i,xs=[V.int i]/\i.natAbs.log2 < 1920/\Q (V.str (N3 (toString i))) H)\/∃ t,xs=[V.str t]/\Q (V.str t) H) (li (qP 0) AU)) (caps:=[]) (js:=[]) rfl (gu rfl rfl (by decide +kernel) (by decide +kernel) rfl trivial rfl rfl) (by decide +kernel) trivial (xY (pv 6)) (λC s₃ H₃ P2 ex E'=>by exact d8) (λC s₃ H₃ P2 ex E'=>by exact(aR fj (by rfl) G.oK jP ((pv 0)∣aa))))∣aa) (by rfl) (by rfl) (by rfl) (by rfl) (by rfl))∣aa))) (au UL (hr.mono (by decide)) (by rfl) G.AB G.sB.kp G.Ar .nil aq ((@az _ _ _ _ _ _ _ aC (pv 2) (pv 5) (λ_ _=>rfl))∣((pv 6)∣aa))) (ay _)) (eG⁻¹) am)))))))) (by intro _;rfl))
    ((Gx (au UI (hr.mono (by decide)) (by rfl) G.eR G.cP.kp G.eM .nil aq ((@az _ _ _ _ _ _ _ aC (pv 1) ag (λ_ _=>rfl))∣((@az _ _ _ _ _ _ _ aC (pv 2) ag (λ_ _=>rfl))∣(ag∣aa)))) (Bq (au UI (hr.mono (by decide)) (by rfl) G.eR G.cP.kp G.eM .nil aq ((@az _ _ _ _ _ _ _ aC (pv 1) ag (λ_ _=>rfl))∣((@az _ _ _ _ _ _ _ aC (pv 2) ag (λ_ _=>rfl))∣(ag∣aa))))))⁻¹)))),?_⟩
   intro k0 x0 nk0 nx0 ne0;refine⟨k0,x0,rfl,a8,rfl,?_⟩;have E1:bq H (upd (upd (upd H x0 (.own k0)) k0 (.ins a.iz x0 [])) k0 (.ins a.iz x0 [("yard",.non)])):=λc o e=>by
    rw[ae (ac e nk0),ae (ac e nk0),ae (ac e nx0)];exact e
   have v1:=a8 (H:=upd (upd H x0 (.own k0)) k0 (.ins a.iz x0 [])) (a:=k0) (o:=.ins a.iz x0 [("yard",.non)]);generalize upd (upd (upd H x0 (.own k0)) k0 (.ins a.iz x0 [])) k0 (.ins a.iz x0 [("yard",.non)])=H1 at E1 v1 |-;intro k1 x1 nk1 nx1 ne1;refine⟨k1,x1,rfl,a8,rfl,?_⟩;have E2:bq H1 (upd (upd (upd H1 x1 (.own k1)) k1 (.ins a.iz x1 [])) k1 (.ins a.iz x1 [("yard",.non)])):=λc o e=>by
    rw[ae (ac e nk1),ae (ac e nk1),ae (ac e nx1)];exact e
   have w2:=a8 (H:=upd (upd H1 x1 (.own k1)) k1 (.ins a.iz x1 [])) (a:=k1) (o:=.ins a.iz x1 [("yard",.non)]);generalize upd (upd (upd H1 x1 (.own k1)) k1 (.ins a.iz x1 [])) k1 (.ins a.iz x1 [("yard",.non)])=H2 at E2 w2 |-;have v2:=E2 _ _ v1;have k01:k0≠k1:=ac v1 nk1;have nk1H:H k1=Nf:=by
    cases h:H k1 with
   |none=>rfl
   |some o=>rw[E1 _ _ h]at nk1;cases nk1
   have E2':=E1.trans E2;refine⟨l2,λdl ndl=>?_⟩;have E3:=E2'.trans (af (o:=.lst [V.ref k0,V.ref k1]) ndl);have d3:=a8 (H:=H2) (a:=dl) (o:=.lst [V.ref k0,V.ref k1]);have e3:=af (o:=.lst [V.ref k0,V.ref k1]) ndl;have v3:=e3 _ _ v2;have w3:=e3 _ _ w2;generalize upd H2 dl (.lst [V.ref k0,V.ref k1])=H3 at E3 d3 v3 w3 e3 |-;clear E1 v1 nk1 nx1 ne1 E2 w2 v2 E2' ndl e3 nx0 ne0;refine⟨2,rfl,by decide,by decide,λyl nyl=>?_⟩;have nyk0:k0≠yl:=ac v3 nyl;have nyk1:k1≠yl:=ac w3 nyl;have nyd:dl≠yl:=ac d3 nyl;have nylH:H yl=Nf:=by
    cases h:H yl with
   |none=>rfl
   |some o=>rw[E3 _ _ h]at nyl;cases nyl
   have zp:∀ (dk dx:K') (ya yb:YA) (q:YP) (H':Hp),Yn w a.aY a.c9 a.aM a.bB a.aD H' ya q YS.zero->Yn w a.aY a.c9 a.aM a.bB a.aD H' yb q YS.zero->q.Ok->(∀ c,ya.own c->¬ yb.own c)->H' dk=f' (.ins a.iz dx [("yard",.ref ya.y)])->¬ ya.own dk->¬ yb.own dk->Pr w a H' ⟨dk,dx,ya,yb,q,YS.zero,[]⟩ 0:=λdk dx ya yb q H' Ya Yb ok dis hd na nb=>⟨hd,Ya,Yb,ok,YI.zero _,BA,rfl,dis,na,nb⟩
   refine⟨λi mm ys H'=>H' yl=f' (.lst ys)/\H' dl=f' (.lst [.ref k0,.ref k1])/\bq H H' /\
    ((i=0/\mm=2/\ys=[]/\H' k0=f' (.ins a.iz x0 [("yard",.non)])/\H' k1=f' (.ins a.iz x1 [("yard",.non)])) \/
     (i=1/\mm=1/\∃ p:PD,p.dk=k0/\Pr w a H' p 0/\ys=[.ref p.B.y]/\H' k1=f' (.ins a.iz x1 [("yard",.non)])/\¬ p.own k1/\¬ p.own dl/\¬ p.own yl) \/
     (i=2/\mm=0/\∃ p:Bool->PD,LI w a H' p dl yl 0/\ys=[.ref (p D').B.y,.ref (p G').B.y])),
    ⟨2,a8,by rw[ae nyd];exact d3,E3.trans (af nyl),.inl ⟨rfl,rfl,rfl,by rw[ae nyk0];exact v3,by rw[ae nyk1];exact w3⟩⟩,?_⟩
   rintro i mm ys H4 ⟨hyl,hdl,E4,hW⟩;refine⟨hyl,?_,?_⟩
   . refine Nn (show _ < 10 from ?_) (by decide);rcases hW with⟨_,_,rfl,_⟩|⟨_,_,_,_,_,rfl,_⟩|⟨_,_,_,_,rfl⟩
     . show 0 < 10;decide
     . show 1 < 10;decide
     . show 2 < 10;decide
   have rowp:∀ {H:Hp} {r:K'} {rw:List V},H r=Nf->GX rw->Rw (upd H r (.lst rw)) r:=λ_ ir=>⟨_,a8,ir⟩
   rcases hW with⟨rfl,rfl,rfl,hk0,hk1⟩|⟨rfl,rfl,p,rfl,Pp,rfl,hk1,nk1',ndl',nyl'⟩|⟨rfl,rfl,p,I0,rfl⟩
   . refine .inr ⟨by show 0 < 2;decide,?_⟩;rintro v H5 ⟨rfl,rfl⟩;refine fP ?_;refine⟨_,rfl,_,rfl,dl,_,_,_,rfl,rfl,SqL.of hdl,rfl,_,rfl,l,ns,0,rfl,E4.seq hS,_,rfl,_,_,rfl,rfl,_,rfl,λr rw nr ir=>?_⟩;have f1:=af (o:=.lst rw) nr;have R1:=rowp nr ir;have rk0:k0≠r:=ac hk0 nr;have rk1:k1≠r:=ac hk1 nr;have rdl:dl≠r:=ac hdl nr;have ryl:yl≠r:=ac hyl nr;have hk0':=f1 _ _ hk0;have hk1':=f1 _ _ hk1;have hdl':=f1 _ _ hdl;have hyl':=f1 _ _ hyl;have E5:=E4.trans f1;have nrH:H r=Nf:=by
      cases h:H r with
     |none=>rfl
     |some o=>rw[E4 _ _ h]at nr;cases nr
     generalize upd H5 r (.lst rw)=H6 at R1 hk0' hk1' hdl' hyl' E5 f1 |-;refine⟨k0,x0,r,.non,rfl,hk0',R1,λya yb q H7 Ya Yb ok dis hd fa fb kp R7=>?_⟩;have d7:=kp _ _ (λz=>by rw[z,hk0']at hdl';cases hdl') rdl hdl';have y7:=kp _ _ (λz=>by rw[z,hk0']at hyl';cases hyl') ryl hyl';have P7:=zp k0 x0 ya yb q H7 Ya Yb ok dis hd (λz=>by rw[fa _ z]at hk0';cases hk0') (λz=>by rw[fb _ z]at hk0';cases hk0');have no:∀ c o,c≠k0->H6 c=f' o->¬ (PD.mk k0 x0 ya yb q YS.zero []).own c:=λc o n e z=>by
      rcases z with z|z|z
      . exact n z
      . rw[fa c z]at e;cases e
      . rw[fb c z]at e;cases e
     have nyo:=no _ _ nyk0.symm hyl';refine⟨y7,1,by decide,a8,by rw[ae nyd];exact d7,λc o e=>?_,.inr (.inl ⟨rfl,rfl,⟨k0,x0,ya,yb,q,YS.zero,[]⟩,rfl,?_,rfl,?_,no _ _ k01.symm hk1',no _ _ (λz=>by rw[z,hk0']at hdl';cases hdl') hdl',nyo⟩)⟩
     . rw[ae (ac e nylH)];exact kp c o (ac e nk0) (ac e nrH) (E5 c o e)
     . exact P7.ko (own:=(·=yl)) (λc o n e=>by rw[ae n];exact e) (λc z=>by rw[z];exact nyo) (λc z vs e=>by rw[z,y7]at e;cases e)
     . rw[ae nyk1];exact kp _ _ k01.symm rk1 hk1'
   . refine .inr ⟨by show 1 < 2;decide,?_⟩;rintro v H5 ⟨rfl,rfl⟩;refine fP ?_;refine⟨_,rfl,_,rfl,dl,_,_,_,rfl,rfl,SqL.of hdl,rfl,_,rfl,l,ns,0,rfl,E4.seq hS,_,rfl,_,_,rfl,rfl,_,rfl,λr rw nr ir=>?_⟩;have f1:=af (o:=.lst rw) nr;have R1:=rowp nr ir;have rk1:k1≠r:=ac hk1 nr;have rdl:dl≠r:=ac hdl nr;have ryl:yl≠r:=ac hyl nr;have rp:¬ p.own r:=Pp.fresh nr;have hk1':=f1 _ _ hk1;have hdl':=f1 _ _ hdl;have hyl':=f1 _ _ hyl;have E5:=E4.trans f1;have Pp':=Pp.same f1;have nrH:H r=Nf:=by
      cases h:H r with
     |none=>rfl
     |some o=>rw[E4 _ _ h]at nr;cases nr
     generalize upd H5 r (.lst rw)=H6 at R1 hk1' hdl' hyl' E5 f1 Pp' |-;refine⟨k1,x1,r,.non,rfl,hk1',R1,λya yb q H7 Ya Yb ok dis hd fa fb kp R7=>?_⟩;have d7:=kp _ _ (λz=>by rw[z,hk1']at hdl';cases hdl') rdl hdl';have y7:=kp _ _ (λz=>by rw[z,hk1']at hyl';cases hyl') ryl hyl';have P7:=zp k1 x1 ya yb q H7 Ya Yb ok dis hd (λz=>by rw[fa _ z]at hk1';cases hk1') (λz=>by rw[fb _ z]at hk1';cases hk1');have no:∀ c o,c≠k1->H6 c=f' o->¬ (PD.mk k1 x1 ya yb q YS.zero []).own c:=λc o n e z=>by
      rcases z with z|z|z
      . exact n z
      . rw[fa c z]at e;cases e
      . rw[fb c z]at e;cases e
     have nyo:=no _ _ nyk1.symm hyl';have Pq:Pr w a H7 p 0:=Pp'.ko (own:=λc=>c=k1\/c=r) (λc o n e=>kp c o (λz=>n (.inl z)) (λz=>n (.inr z)) e) (λc z=>by rcases z with rfl|rfl;exact nk1';exact rp) (λc z vs e=>by
      rcases z with rfl|rfl
      . rw[hk1']at e;cases e
      . obtain⟨rw,h,_⟩:=R1;rw[h]at e;cases e)
     have ov:∀ {z:PD},Pr w a H7 z 0->¬ z.own yl->Pr w a (upd H7 yl (.lst ([.ref p.B.y]++[.ref yb.y]))) z 0:=λPz nz=>Pz.ko (own:=(·=yl)) (λc o n e=>by rw[ae n];exact e) (λc z=>by rw[z];exact nz) (λc z vs e=>by rw[z,y7]at e;cases e)
     have opp:∀ c,p.own c->¬ (PD.mk k1 x1 ya yb q YS.zero []).own c:=λc hc=>by
      obtain⟨o,e,_⟩:=Pp'.there hc;exact no c o (λz=>nk1' (z ▸ hc)) e
     refine⟨y7,0,by decide,a8,by rw[ae nyd];exact d7,λc o e=>?_,.inr (.inr ⟨rfl,rfl,λb=>if b then ⟨k1,x1,ya,yb,q,YS.zero,[]⟩ else p,⟨λb=>?_,?_,a8,λb c h1 h2=>?_,λb=>?_,λb=>?_⟩,rfl⟩)⟩
     . rw[ae (ac e nylH)];exact kp c o (ac e nk1H) (ac e nrH) (E5 c o e)
     . cases b
       . exact ov Pq nyl'
       . exact ov P7 nyo
     . rw[ae nyd];exact d7
     . cases b
       . exact opp c h1 h2
       . exact opp c h2 h1
     . cases b
       . exact ndl'
       . exact no _ _ (λz=>by rw[z,hk1']at hdl';cases hdl') hdl'
     . cases b
       . exact nyl'
       . exact nyo
   refine .inl ⟨by show 2 <= 2;decide,?_⟩;have S4:=E4.seq hS;clear hyl hdl E4 nylH nyd nyk0 nyk1 nyl zp rowp v3 w3 d3 E3 k01 nk1H nk0 hS;refine⟨λσ H'=>∃ p,(∃ v3 v4 v5 v6,σ=[f' (.ref l),f' (.ref dl),f' (.ref yl),v3,v4,v5,v6])/\LI w a H' p dl yl 124,?_,?_⟩;rotate_left
   . rintro σ H5 ⟨p,⟨v3,v4,v5,v6,rfl⟩,I⟩;have h0:=(I.p D').hl;have h1:=(I.p G').hl;refine⟨_,rfl,dl,_,_,_,rfl,rfl,SqL.of I.dl,rfl,_,rfl,yl,_,_,_,rfl,rfl,SqL.of I.yl,rfl,(p D').dk,(p D').dx,(p D').A,(p D').B,(p D').q,(p D').S,(p D').hs,D',rfl,(I.p D').d,(I.p D').ya,(I.p D').yb,(I.p D').ok,(I.p D').h,by omega,λb=>by have:=(I.p D').i.len b;omega,λH6 e6=>⟨_,rfl,fP ?_⟩⟩;have I6:=I.same e6;exact⟨_,rfl,dl,_,_,_,rfl,rfl,SqL.of I6.dl,rfl,_,rfl,yl,_,_,_,rfl,rfl,SqL.of I6.yl,rfl,(p G').dk,(p G').dx,(p G').A,(p G').B,(p G').q,(p G').S,(p G').hs,G',rfl,(I6.p G').d,(I6.p G').ya,(I6.p G').yb,(I6.p G').ok,(I6.p G').h,by omega,λb=>by have:=(I6.p G').i.len b;omega,λH7 e7=>k _⟩
   refine⟨_,rfl,_,rfl,_,rfl,l,_,rfl,S4,λps hps=>⟨ps,rfl,⟨_,SqL.of a8⟩,?_⟩⟩;have e8:=af (o:=.lst (lx (ns.map V.int) (f' 1) (f' 63))) hps;have v8:upd H4 ps (.lst (lx (ns.map V.int) (f' 1) (f' 63))) ps=f' (.lst (((ns.drop 1).take 62).map V.int)):=by
    rw[a8,show (f' (1:Int))=f' ((1:Nat):Int) from rfl,show (f' (63:Int))=f' ((63:Nat):Int) from rfl,yh,List.map_take,List.map_drop]
   have I8:=I0.same e8;have np0:∀ b,¬ (p b).own ps:=λb=>(I0.p b).fresh hps
   have npy:ps≠yl:=λz=>by rw[z,I0.yl]at hps;cases hps
   generalize upd H4 ps (.lst (lx (ns.map V.int) (f' 1) (f' 63)))=H8 at v8 I8 |-;have cl:((ns.drop 1).take 62).length <= 62:=by rw[OI];omega
   generalize (ns.drop 1).take 62=cs at v8 cl |-;clear I0 S4 e8 hps;refine yX (K:=K) (a:=ps) (xs:=cs.map V.int) (λi σ H'=>∃ p,(∃ v3 v4 v5 v6,σ=[f' (.ref l),f' (.ref dl),f' (.ref yl),v3,v4,v5,v6])/\LI w a H' p dl yl (2 * i)/\H' ps=f' (.lst (cs.map V.int))/\∀ b,¬ (p b).own ps)
    ⟨p,⟨_,_,_,_,rfl⟩,I8,v8,np0⟩ (λ_ _ _ _ uq18=>by(obtain⟨_,_,_,z,_⟩:=uq18;exact SqL.of z)) ?_ ?_
   rotate_left
   . rintro σ H9 ⟨p,hσ,I,_,_⟩;exact⟨p,hσ,I.mono (by rw[Nu];omega)⟩
   clear I8 v8 np0;clear p;rintro i x σ H9 hi ⟨p,⟨v3,v4,v5,v6,rfl⟩,I9,hp9,np9⟩;obtain⟨c,rfl⟩:∃ c,x=.int c:=by
    rw[NL]at hi;cases e:cs[i]? with
   |none=>rw[e]at hi;cases hi
   |some c=>rw[e]at hi;cases hi;exact⟨c,rfl⟩
   have hi62:i < 62:=by have:=(NG.mp hi).1;rw[Nu]at this;omega
   clear hi;refine⟨_,rfl,c,rfl,λr rw nr ir=>?_⟩;have e10:=af (o:=.lst rw) nr;have R10:Rw (upd H9 r (.lst rw)) r:=⟨rw,a8,ir⟩
   have I10:=I9.same e10;have hp10:=e10 _ _ hp9;have nro:∀ b,¬ (p b).own r:=λb=>(I9.p b).fresh nr
   have rd:dl≠r:=ac I9.dl nr;have ry:yl≠r:=ac I9.yl nr;have rps:ps≠r:=ac hp9 nr;generalize upd H9 r (.lst rw)=H10 at R10 I10 hp10 |-;clear I9 e10 hp9 nr ir;refine⟨_,rfl,r,5,rfl,R10,by decide,by decide,λg H11 a1 b1 st=>⟨rfl,.inr ⟨_,rfl,?_⟩⟩⟩;obtain⟨b,hb⟩:∃ b:Bool,(if decide (V.int g=V.int 0)=G' then 1 else 0:Int)=sdI b:=by
    by_cases h:decide (V.int g=V.int 0)=G'
    . exact⟨G',Vc h⟩
    . exact⟨D',Vd h⟩
   rw[hb];have I11:=I10.stp st nro rd ry R10;have hp11:=st.keep _ _ rps hp10;have R11:=st.row;clear st I10 hp10 R10 hb a1 b1;refine⟨λσ H'=>∃ p,σ=[f' (.ref l),f' (.ref dl),f' (.ref yl),f' (.int c),f' (.ref r),f' (.int (sdI b)),v6]/\LI w a H' p dl yl (2 * i)/\Rw H' r/\(∀ b,¬ (p b).own r)/\H' ps=f' (.lst (cs.map V.int))/\∀ b,¬ (p b).own ps,?_,?_⟩
   . refine⟨_,rfl,r,30,rfl,R11,by decide,by decide,λg2 H12 a2 b2 st=>⟨rfl,_,rfl,?_⟩⟩;have I12:=I11.stp st nro rd ry R11;have hp12:=st.keep _ _ rps hp11;have R12:=st.row;refine J0 (λ_=>?_) (λ_=>⟨p,rfl,I12,R12,nro,hp12,np9⟩);refine⟨_,rfl,_,rfl,dl,_,_,_,rfl,rfl,SqL.of I12.dl,Ik V.ref (λb=>(p b).dk) b,_,rfl,(p b).dk,(p b).dx,r,_,rfl,(I12.p b).d,R12,λya yb q H13 Ya Yb ok dis hd fa fb kp R13=>?_⟩;obtain⟨y13,I13,no⟩:=I12.renew R12 nro rd ry Ya Yb ok dis hd fa fb kp;refine⟨_,rfl,_,rfl,yl,_,_,(if b then 1 else 0),rfl,rfl,y13,(by cases b<;>rfl),_,rfl,I13,?_,?_,?_,no _ _ hp12 np9⟩
     . obtain⟨rw,h,ir⟩:=R13;exact⟨rw,by rw[ae ry.symm];exact h,ir⟩
     . obtain⟨rw,h,ir⟩:=R12;exact no _ _ h nro
     . rw[ae npy];exact kp _ _ (λz=>np9 b (.inl z)) rps hp12
   clear I11 hp11 R11 nro np9;clear p;rintro σ H12 ⟨p,rfl,I12,R12,nro,hp12,np9⟩;refine⟨_,rfl,yl,[(p D').B.y,(p G').B.y],rfl,rfl,SqL.of I12.yl,(λz hz=>?_),_,rfl,cW ?_⟩
   . simp only[NA,N8,or_false]at hz;rcases hz with rfl|rfl
     . obtain⟨dx,e⟩:=(I12.p D').yb.ob;exact⟨_,_,_,e,⟨G.LU,G.Ma⟩⟩
     . obtain⟨dx,e⟩:=(I12.p G').yb.ob;exact⟨_,_,_,e,⟨G.LU,G.Ma⟩⟩
   refine⟨λσ H'=>σ=[f' (.ref l),f' (.ref dl),f' (.ref yl),f' (.int c),f' (.ref r),f' (.int (sdI b)),v6]/\LI w a H' p dl yl (2 * i)/\Rw H' r/\H' ps=f' (.lst (cs.map V.int)),?_,?_⟩
   . refine⟨_,rfl,r,5,rfl,R12,by decide,by decide,λg2 H13 a2 b2 st=>⟨rfl,_,rfl,?_⟩⟩;have I13:=I12.stp st nro rd ry R12;have hp13:=st.keep _ _ rps hp12;have R13:=st.row;refine J0 (λ_=>?_) (λ_=>⟨rfl,I13,R13,hp13⟩);refine⟨_,rfl,_,rfl,dl,_,_,_,rfl,rfl,SqL.of I13.dl,Ik V.ref (λb=>(p b).dk) b,_,rfl,_,rfl,yl,_,_,_,rfl,rfl,SqL.of I13.yl,Ik V.ref (λb=>(p b).B.y) b,_,rfl,r,2,rfl,R13,by decide,by decide,λg3 H14 a3 b3 st3=>?_⟩;have I14:=I13.stp st3 nro rd ry R13;have hp14:=st3.keep _ _ rps hp13;obtain⟨sb,rfl⟩:∃ b:Bool,g3=sdI b:=by
      have h:g3=0\/g3=1:=by omega
      rcases h with rfl|rfl
      . exact⟨D',rfl⟩
      . exact⟨G',rfl⟩
     have hl:=(I14.p b).hl;refine⟨(p b).dk,(p b).dx,(p b).A,(p b).B,(p b).q,(p b).S,(p b).hs,sb,rfl,(I14.p b).d,(I14.p b).ya,(I14.p b).yb,(I14.p b).ok,(I14.p b).h,by omega,λc=>by have:=(I14.p b).i.len c;omega,λH15 e15=>⟨_,rfl,cW ⟨rfl,I14.same e15,?_,e15 _ _ hp14⟩⟩⟩;obtain⟨rw,h,ir⟩:=st3.row;exact⟨rw,e15 _ _ h,ir⟩
   clear I12 R12 hp12;rintro σ H13 ⟨rfl,I13,R13,hp13⟩;refine⟨_,rfl,_,rfl,_,rfl,yl,_,_,_,rfl,rfl,SqL.of I13.yl,Ik V.ref (λb=>(p b).B.y) b,r,(p b).B,(p b).q,(p b).S,2 * i,rfl,R13,λz=>nro b (.inr (.inr z)),(I13.p b).yb,(I13.p b).ok,(I13.p b).i,λx t H14 ht xo nb st=>?_⟩;have I14:=I13.stp st nro rd ry R13;have hp14:=st.keep _ _ rps hp13;clear st I13 R13 hp13;have ht':H14 t=f' (.tup (.str x.word :: x.args.map V.int)):=by rw[<-x.vs_eq];exact ht
   obtain⟨xl1,xl2⟩:=x.len;have wl:x.ws.length=1+x.args.length:=by unfold Dd.ws;rw[NM,Nu];omega
   have s11:=Hz _ (x.ws_len xo nb);refine⟨_,rfl,_,rfl,dl,_,_,_,rfl,rfl,SqL.of I14.dl,Ik V.ref (λb=>(p b).dk) b,rfl,_,rfl,t,rfl,⟨_,SqT.of ht'⟩,λD hD=>mY (ys:=x.ws.map V.str) (SqT.of ht') hD (by rw[Nu,wl,NM,Nu];omega) (by rw[Nu];omega) (λH15 e15 hD15=>⟨_,D,x.ws,rfl,rfl,SqL.of hD15,(by show _+_ * 1 <= _;omega),?_⟩) (λn u v H3 Rv hu' hv e3 kR=>?_)⟩;rotate_left
   . cases n with
    |zero=>cases hu';cases hv;exact⟨_,rfl,.inr ⟨_,rfl,kR _ (bq.refl _)⟩⟩
    |succ n =>
      rw[List.getElem?_cons_succ,NL]at hu';have hv':((x.args.map cm).map V.str)[n]?=f' v:=hv;rw[NL,NL]at hv';cases hn:x.args[n]? with
     |none=>rw[hn]at hu';cases hu'
     |some j =>
       rw[hn]at hu' hv';cases hu';cases hv';obtain⟨_,_,hj⟩:=jX (x.inB xo nb) hn;exact⟨_,rfl,.inl ⟨_,rfl,ip hj.bnd,kR _ (bq.refl _)⟩⟩
   have I15:=I14.same e15;have hp15:=e15 _ _ hp14;have ht15:=e15 _ _ ht;clear I14 hp14 ht ht' hD15 e15 hD;refine⟨(p b).dk,(p b).dx,(p b).A,(p b).q,(p b).S,2 * i,x,rfl,(I15.p b).d,⟨(I15.p b).ya,(I15.p b).ok,(I15.p b).i,by omega⟩,xo,nb,?_⟩;cases hc:x.chk (p b).q (p b).S with
  |some rf =>
    intro H16 e16;have I16:=I15.same e16;refine⟨_,rfl,_,rfl,yl,_,_,_,rfl,rfl,SqL.of I16.yl,Ik V.ref (λb=>(p b).B.y) b,_,rfl,(p b).B,(p b).q,(p b).S,2 * i,x,t,rfl,⟨(I16.p b).yb,(I16.p b).ok,(I16.p b).i,by omega⟩,e16 _ _ ht15,xo,?_⟩;rw[hc];intro H17 e17;refine⟨rfl,_,rfl,?_⟩;rw[Vf rfl];exact cW ⟨p,⟨_,_,_,_,rfl⟩,(I16.same e17).mono (by omega),e17 _ _ (e16 _ _ hp15),np9⟩
  |none =>
    obtain⟨tt,htl⟩:=FB (I15.p b).wb (I15.p b).ok hc;refine⟨tt,htl,λH16 Y16 i16 ko16=>?_⟩;have Pb:=I15.p b;have nA:∀ c,(p b).A.own c->(p b).own c:=λc h=>.inr (.inl h)
    have nB:∀ c,(p b).B.own c->(p b).own c:=λc h=>.inr (.inr h)
    have yl16:=ko16 _ _ (λz=>I15.ny b (nA _ z)) I15.yl;have B16:=Pb.yb.ko ko16 Pb.ab Pb.ya.noT;have t16:=wU ko16 Pb.ya.noT _ _ ht15;have d16:=ko16 _ _ Pb.na Pb.d;refine⟨_,rfl,_,rfl,yl,_,_,_,rfl,rfl,SqL.of yl16,Ik V.ref (λb=>(p b).B.y) b,_,rfl,(p b).B,(p b).q,(p b).S,2 * i,x,t,rfl,⟨B16,Pb.ok,Pb.i,by omega⟩,t16,xo,?_⟩;rw[hc];refine⟨tt,htl,λH17 Y17 i17 ko17=>⟨rfl,_,rfl,?_⟩⟩;rw[Vf rfl];refine cW ?_;obtain⟨fs',_,hf2⟩:=IY hc;have A17:=Y16.ko ko17 (λc z y=>Pb.ab c y z) B16.noT;have d17:=ko17 _ _ Pb.nb d16;have ko:KO (p b).own H15 H17:=λc o n e=>ko17 c o (λz=>n (nB c z)) (ko16 c o (λz=>n (nA c z)) e)
    have Pn:Pr w a H17 ⟨(p b).dk,(p b).dx,(p b).A,(p b).B,(p b).q,(x.run (p b).q (p b).S).2,(p b).hs++fs'⟩ (2 * i+2):=⟨d17,A17,Y17,Pb.ok,i17,Pb.wb.run Pb.ok xo nb,by rw[hf2,Pb.h,OS],Pb.ab,Pb.na,Pb.nb⟩
    refine⟨D3 p b ⟨(p b).dk,(p b).dx,(p b).A,(p b).B,(p b).q,(x.run (p b).q (p b).S).2,(p b).hs++fs'⟩,⟨_,_,_,_,rfl⟩,I15.chg rfl rfl Pn (by omega) (λc h=>h) ko,ko _ _ (np9 b) hp15,λc=>?_⟩;by_cases h:c=b
    . rw[h,cg];exact np9 b
    . rw[fF h];exact np9 c
def FnA (K:Nh) (f:K') (x q:Str) (st:NX):Prop:=∃ fd,Fun K x q st f fd
def NsA (K:Nh) (f:K') (x:Str) (st:NX):Prop:=nsIn K NQ x=f' (f' (.ref f))/\FnA K f x x st
def MtA (K:Nh) (C f:K') (x q:Str) (st:NX):Prop:=Ol K (.ref C) x=f' (f' (.ref f))/\isFn K (.ref f)=G'/\FnA K f x q st
def ClA (K:Nh) (C:K') (x:Str):Prop:=nsIn K NQ x=f' (f' (.ref C))/\Cls K C/\makesIn K C=G'/\keepIn K (.ref C)=G'
def Ga (K:Nh) (C:K'):List Str->Prop
|[]=>True
|f :: r=>aV K C f/\Ga K C r
def M0 (K:Nh):List Str->Prop
|[]=>True
|f :: r=>nsIn K NQ f=f' Nf/\M0 K r
section
variable {K:Nh}{h:NI}{mg:Str->Option Na}{f C:K'}{x q:Str}{st:NX}
def bA (X:K.In h) (G:h.Ns NQ mg) (l:NsA K f x st):mg x=f' (.ref f)/\∃ fd,Fun K x x st f fd:=⟨mg_of X G l.1,l.2⟩
def aK (l:MtA K C f x q st):Meth K C x f/\∃ fd,Fun K x q st f fd:=by
 obtain⟨a,i,fd,F⟩:=l;exact⟨⟨a,i,F.kp⟩,fd,F⟩
def qh (X:K.In h) (G:h.Ns NQ mg) (l:ClA K C x) (m:MtA K C f "__init__" q st):mg x=f' (.ref C)/\Cls K C/\Mk K C f:=⟨mg_of X G l.1,l.2.1,l.2.2.1,m.1,m.2.1,l.2.2.2⟩
end
def bnc {n:Nat}{us:List Na}(h:us.length=n+1):∃ u vs,us=u :: vs/\vs.length=n:=by
 cases us
 . cases h
 . exact⟨_,_,rfl,Nat.succ.inj h⟩
def bn1 {K:Nh}{f:K'}{x q:Str}{st:NX}{fd:Np}(F:Fun K x q st f fd) (p0:Str) (h:∀ (kV doc pm:Na) (an:Option K') (cdv ct:Na) (u0:Na),bindArgs (fnOf x q (gc st) (eZ st) (ai st) .none kV doc pm an cdv ct) ⟨[u0],[]⟩=pure ([p0].zip [u0])):aB K fd [p0] []:=F.binds λa b c d e g us hl=>by (obtain⟨u0,t0,rfl,j0⟩:=bnc hl;obtain rfl:=Ot.mp j0;exact h a b c d e g u0)
def bn2 {K:Nh}{f:K'}{x q:Str}{st:NX}{fd:Np}(F:Fun K x q st f fd) (p0 p1:Str) (h:∀ (kV doc pm:Na) (an:Option K') (cdv ct:Na) (u0 u1:Na),bindArgs (fnOf x q (gc st) (eZ st) (ai st) .none kV doc pm an cdv ct) ⟨[u0,u1],[]⟩=pure ([p0,p1].zip [u0,u1])):aB K fd [p0,p1] []:=F.binds λa b c d e g us hl=>by (obtain⟨u0,t0,rfl,j0⟩:=bnc hl;obtain⟨u1,t1,rfl,j1⟩:=bnc j0;obtain rfl:=Ot.mp j1;exact h a b c d e g u0 u1)
def bn3 {K:Nh}{f:K'}{x q:Str}{st:NX}{fd:Np}(F:Fun K x q st f fd) (p0 p1 p2:Str) (h:∀ (kV doc pm:Na) (an:Option K') (cdv ct:Na) (u0 u1 u2:Na),bindArgs (fnOf x q (gc st) (eZ st) (ai st) .none kV doc pm an cdv ct) ⟨[u0,u1,u2],[]⟩=pure ([p0,p1,p2].zip [u0,u1,u2])):aB K fd [p0,p1,p2] []:=F.binds λa b c d e g us hl=>by (obtain⟨u0,t0,rfl,j0⟩:=bnc hl;obtain⟨u1,t1,rfl,j1⟩:=bnc j0;obtain⟨u2,t2,rfl,j2⟩:=bnc j1;obtain rfl:=Ot.mp j2;exact h a b c d e g u0 u1 u2)
def bn4 {K:Nh}{f:K'}{x q:Str}{st:NX}{fd:Np}(F:Fun K x q st f fd) (p0 p1 p2 p3:Str) (h:∀ (kV doc pm:Na) (an:Option K') (cdv ct:Na) (u0 u1 u2 u3:Na),bindArgs (fnOf x q (gc st) (eZ st) (ai st) .none kV doc pm an cdv ct) ⟨[u0,u1,u2,u3],[]⟩=pure ([p0,p1,p2,p3].zip [u0,u1,u2,u3])):aB K fd [p0,p1,p2,p3] []:=F.binds λa b c d e g us hl=>by (obtain⟨u0,t0,rfl,j0⟩:=bnc hl;obtain⟨u1,t1,rfl,j1⟩:=bnc j0;obtain⟨u2,t2,rfl,j2⟩:=bnc j1;obtain⟨u3,t3,rfl,j3⟩:=bnc j2;obtain rfl:=Ot.mp j3;exact h a b c d e g u0 u1 u2 u3)
def bn5 {K:Nh}{f:K'}{x q:Str}{st:NX}{fd:Np}(F:Fun K x q st f fd) (p0 p1 p2 p3 p4:Str) (h:∀ (kV doc pm:Na) (an:Option K') (cdv ct:Na) (u0 u1 u2 u3 u4:Na),bindArgs (fnOf x q (gc st) (eZ st) (ai st) .none kV doc pm an cdv ct) ⟨[u0,u1,u2,u3,u4],[]⟩=pure ([p0,p1,p2,p3,p4].zip [u0,u1,u2,u3,u4])):aB K fd [p0,p1,p2,p3,p4] []:=F.binds λa b c d e g us hl=>by (obtain⟨u0,t0,rfl,j0⟩:=bnc hl;obtain⟨u1,t1,rfl,j1⟩:=bnc j0;obtain⟨u2,t2,rfl,j2⟩:=bnc j1;obtain⟨u3,t3,rfl,j3⟩:=bnc j2;obtain⟨u4,t4,rfl,j4⟩:=bnc j3;obtain rfl:=Ot.mp j4;exact h a b c d e g u0 u1 u2 u3 u4)
def bn6 {K:Nh}{f:K'}{x q:Str}{st:NX}{fd:Np}(F:Fun K x q st f fd) (p0 p1 p2 p3 p4 p5:Str) (h:∀ (kV doc pm:Na) (an:Option K') (cdv ct:Na) (u0 u1 u2 u3 u4 u5:Na),bindArgs (fnOf x q (gc st) (eZ st) (ai st) .none kV doc pm an cdv ct) ⟨[u0,u1,u2,u3,u4,u5],[]⟩=pure ([p0,p1,p2,p3,p4,p5].zip [u0,u1,u2,u3,u4,u5])):aB K fd [p0,p1,p2,p3,p4,p5] []:=F.binds λa b c d e g us hl=>by (obtain⟨u0,t0,rfl,j0⟩:=bnc hl;obtain⟨u1,t1,rfl,j1⟩:=bnc j0;obtain⟨u2,t2,rfl,j2⟩:=bnc j1;obtain⟨u3,t3,rfl,j3⟩:=bnc j2;obtain⟨u4,t4,rfl,j4⟩:=bnc j3;obtain⟨u5,t5,rfl,j5⟩:=bnc j4;obtain rfl:=Ot.mp j5;exact h a b c d e g u0 u1 u2 u3 u4 u5)
def bn7 {K:Nh}{f:K'}{x q:Str}{st:NX}{fd:Np}(F:Fun K x q st f fd) (p0 p1 p2 p3 p4 p5 p6:Str) (h:∀ (kV doc pm:Na) (an:Option K') (cdv ct:Na) (u0 u1 u2 u3 u4 u5 u6:Na),bindArgs (fnOf x q (gc st) (eZ st) (ai st) .none kV doc pm an cdv ct) ⟨[u0,u1,u2,u3,u4,u5,u6],[]⟩=pure ([p0,p1,p2,p3,p4,p5,p6].zip [u0,u1,u2,u3,u4,u5,u6])):aB K fd [p0,p1,p2,p3,p4,p5,p6] []:=F.binds λa b c d e g us hl=>by (obtain⟨u0,t0,rfl,j0⟩:=bnc hl;obtain⟨u1,t1,rfl,j1⟩:=bnc j0;obtain⟨u2,t2,rfl,j2⟩:=bnc j1;obtain⟨u3,t3,rfl,j3⟩:=bnc j2;obtain⟨u4,t4,rfl,j4⟩:=bnc j3;obtain⟨u5,t5,rfl,j5⟩:=bnc j4;obtain⟨u6,t6,rfl,j6⟩:=bnc j5;obtain rfl:=Ot.mp j6;exact h a b c d e g u0 u1 u2 u3 u4 u5 u6)
def all_mk {l:PySem.W.OpenLaw}{w:Nt}{K:Nh}{h:NI}{mg:Str->Option Na}{fa:K'}(X:K.In h) (G:h.Ns NQ mg) (hfa:mg "law"=f' (.ref fa))
 {f_z0 f_z1 f_z2 f_z3 f_z4 f_z5 f_z6 f_z7 f_z8 f_z9 f_z10 f_z11 f_z12 f_z13 f_z14 f_z15 f_z16 f_z17 f_z18 f_z19 f_z20 f_z21 f_z22 f_z23 f_z24 f_z25 f_z26 f_z27 f_z28 f_z29 f_z30 f_z31 f_z32 f_z33 f_z34 f_z35 f_z36 f_z37 f_z38 f_z39 f_z40 f_z41 f_z42 f_z43 f_z44 f_z45 f_z46 f_z47 f_z48 f_z49 f_z50 f_z51 f_z52 f_z53 f_z54 f_z55 f_z56 f_z57 f_z58 f_z59 f_z60 f_z61 f_z62 f_z63 f_z64 f_z65 f_z66 f_z67 f_z68 f_z69 f_z70 f_z71 f_z72 f_z73 f_z74 f_z75 f_z76 f_z77 f_z78 f_z79 f_z80 f_z81 f_z82 f_z83 C_Ring C_Judge C_Hand C_Heart C_Store C_Yard C_Desk C_RingError C_Full C_NoName C_NoTask C_NoDeed C_NoRow hZ bJ aO fY lU jc gC gO gH gq gD gz gf gG dW dO dR dQ dS:K'}
 {tod_ASKS:Option K'} {tsl_ASKS:Array (Option Na)} {tn_ASKS:Nat} {tt0_ASKS tt1_ASKS tt2_ASKS:Tok}
 {tod_ANSWERS:Option K'} {tsl_ANSWERS:Array (Option Na)} {tn_ANSWERS:Nat} {tt0_ANSWERS tt1_ANSWERS tt2_ANSWERS:Tok}
 {tod_SLEEP_CELLS:Option K'} {tsl_SLEEP_CELLS:Array (Option Na)} {tn_SLEEP_CELLS:Nat} {tt0_SLEEP_CELLS tt1_SLEEP_CELLS:Tok}
 {tod_FAULTS:Option K'} {tsl_FAULTS:Array (Option Na)} {tn_FAULTS:Nat} {tt0_FAULTS tt1_FAULTS tt2_FAULTS tt3_FAULTS tt4_FAULTS:Tok}
 {ti_MOST_WORTH:Tok}
 {ti_MOST_FIGURES:Tok}
 {ti_FIGURES:Tok}
 {tep_FORMS:Nat} {th0_FORMS th1_FORMS th2_FORMS th3_FORMS th4_FORMS th5_FORMS th6_FORMS th7_FORMS:Int} {tk0_FORMS tk1_FORMS tk2_FORMS tk3_FORMS tk4_FORMS tk5_FORMS tk6_FORMS tk7_FORMS:Tok}
 {vod0_FORMS:Option K'} {vsl0_FORMS:Array (Option Na)} {vn0_FORMS:Nat} {vt0_0_FORMS:Tok}
 {vod1_FORMS:Option K'} {vsl1_FORMS:Array (Option Na)} {vn1_FORMS:Nat}
 {vod2_FORMS:Option K'} {vsl2_FORMS:Array (Option Na)} {vn2_FORMS:Nat}
 {vod3_FORMS:Option K'} {vsl3_FORMS:Array (Option Na)} {vn3_FORMS:Nat} {vt3_0_FORMS vt3_1_FORMS:Tok}
 {vod4_FORMS:Option K'} {vsl4_FORMS:Array (Option Na)} {vn4_FORMS:Nat} {vt4_0_FORMS:Tok}
 {vod5_FORMS:Option K'} {vsl5_FORMS:Array (Option Na)} {vn5_FORMS:Nat} {vt5_0_FORMS:Tok}
 {vod6_FORMS:Option K'} {vsl6_FORMS:Array (Option Na)} {vn6_FORMS:Nat} {vt6_0_FORMS:Tok}
 {vod7_FORMS:Option K'} {vsl7_FORMS:Array (Option Na)} {vn7_FORMS:Nat} {vt7_0_FORMS:Tok}
 {tep_BOUNDS:Nat} {th0_BOUNDS th1_BOUNDS th2_BOUNDS th3_BOUNDS th4_BOUNDS:Int} {tk0_BOUNDS tk1_BOUNDS tk2_BOUNDS tk3_BOUNDS tk4_BOUNDS:Tok}
 {vod0_BOUNDS:Option K'} {vsl0_BOUNDS:Array (Option Na)} {vn0_BOUNDS:Nat} {vt0_0_BOUNDS vt0_1_BOUNDS:Tok}
 {vod1_BOUNDS:Option K'} {vsl1_BOUNDS:Array (Option Na)} {vn1_BOUNDS:Nat} {vt1_0_BOUNDS vt1_1_BOUNDS:Tok}
 {vod2_BOUNDS:Option K'} {vsl2_BOUNDS:Array (Option Na)} {vn2_BOUNDS:Nat} {vt2_0_BOUNDS vt2_1_BOUNDS:Tok}
 {vod3_BOUNDS:Option K'} {vsl3_BOUNDS:Array (Option Na)} {vn3_BOUNDS:Nat} {vt3_0_BOUNDS vt3_1_BOUNDS:Tok}
 {vod4_BOUNDS:Option K'} {vsl4_BOUNDS:Array (Option Na)} {vn4_BOUNDS:Nat} {vt4_0_BOUNDS vt4_1_BOUNDS:Tok}
 (aC_Ring:ClA K C_Ring "Ring")
 (aC_Judge:ClA K C_Judge "Judge")
 (aC_Hand:ClA K C_Hand "Hand")
 (aC_Heart:ClA K C_Heart "Heart")
 (aC_Store:ClA K C_Store "Store")
 (aC_Yard:ClA K C_Yard "Yard")
 (aC_Desk:ClA K C_Desk "Desk")
 (l_z0:NsA K f_z0 "next_counter" i7)
 (l_z1:NsA K f_z1 "place_of" nT)
 (l_z2:NsA K f_z2 "ahead_by" nI)
 (l_z3:NsA K f_z3 "rounds_with" jL)
 (l_z4:MtA K C_Ring f_z4 "__init__" "Ring.__init__" kz)
 (l_z5:MtA K C_Ring f_z5 "filled" "Ring.filled" jt)
 (l_z6:MtA K C_Ring f_z6 "is_full" "Ring.is_full" i8)
 (l_z7:MtA K C_Ring f_z7 "place_at" "Ring.place_at" gN)
 (l_z8:MtA K C_Ring f_z8 "write_further" "Ring.write_further" cV)
 (l_z9:MtA K C_Ring f_z9 "lay" "Ring.lay" nQ)
 (l_z10:MtA K C_Ring f_z10 "fetch" "Ring.fetch" kU)
 (l_z11:MtA K C_Judge f_z11 "__init__" "Judge.__init__" jw)
 (l_z12:MtA K C_Judge f_z12 "fits" "Judge.fits" kW)
 (l_z13:MtA K C_Judge f_z13 "go_on" "Judge.go_on" jo)
 (l_z14:NsA K f_z14 "first_wrong" iZ)
 (l_z15:NsA K f_z15 "not_fetched" ji)
 (l_z16:MtA K C_Hand f_z16 "__init__" "Hand.__init__" kH)
 (l_z17:MtA K C_Hand f_z17 "least_free" "Hand.least_free" eQ)
 (l_z18:MtA K C_Hand f_z18 "check_ask" "Hand.check_ask" fK)
 (l_z19:MtA K C_Hand f_z19 "ask" "Hand.ask" nN)
 (l_z20:MtA K C_Hand f_z20 "collect" "Hand.collect" iq)
 (l_z21:MtA K C_Hand f_z21 "something_waits" "Hand.something_waits" cj)
 (l_z22:MtA K C_Heart f_z22 "__init__" "Heart.__init__" j9)
 (l_z23:MtA K C_Heart f_z23 "take" "Heart.take" kP)
 (l_z24:MtA K C_Heart f_z24 "check_answer" "Heart.check_answer" cT)
 (l_z25:MtA K C_Heart f_z25 "answer" "Heart.answer" ie)
 (l_z26:MtA K C_Heart f_z26 "tasks" "Heart.tasks" jC)
 (l_z27:MtA K C_Heart f_z27 "something_waits" "Heart.something_waits" bW)
 (l_z28:MtA K C_Store f_z28 "__init__" "Store.__init__" jg)
 (l_z29:MtA K C_Store f_z29 "write" "Store.write" iU)
 (l_z30:MtA K C_Store f_z30 "drain" "Store.drain" jH)
 (l_z31:MtA K C_Store f_z31 "fence" "Store.fence" iR)
 (l_z32:MtA K C_Store f_z32 "read" "Store.read" kM)
 (l_z33:MtA K C_Store f_z33 "memory" "Store.memory" im)
 (l_z34:MtA K C_Store f_z34 "waits" "Store.waits" iP)
 (l_z35:NsA K f_z35 "is_whole" nR)
 (l_z36:NsA K f_z36 "is_part" qp)
 (l_z37:NsA K f_z37 "is_deed" qB)
 (l_z38:NsA K f_z38 "side_of" pV)
 (l_z39:MtA K C_Yard f_z39 "__init__" "Yard.__init__" kZ)
 (l_z40:MtA K C_Yard f_z40 "deed" "Yard.deed" lT)
 (l_z41:MtA K C_Yard f_z41 "can_be_done" "Yard.can_be_done" el)
 (l_z42:MtA K C_Yard f_z42 "story" "Yard.story" kB)
 (l_z43:MtA K C_Yard f_z43 "sleeper" "Yard.sleeper" i9)
 (l_z44:MtA K C_Yard f_z44 "is_quiet" "Yard.is_quiet" gt)
 (l_z45:MtA K C_Yard f_z45 "made" "Yard.made" lQ)
 (l_z46:MtA K C_Yard f_z46 "store" "Yard.store" kD)
 (l_z47:MtA K C_Yard f_z47 "check" "Yard.check" kF)
 (l_z48:MtA K C_Yard f_z48 "is_allowed" "Yard.is_allowed" f9)
 (l_z49:MtA K C_Yard f_z49 "thinkable" "Yard.thinkable" fN)
 (l_z50:MtA K C_Yard f_z50 "do_ask" "Yard.do_ask" jD)
 (l_z51:MtA K C_Yard f_z51 "do_answer" "Yard.do_answer" fG)
 (l_z52:MtA K C_Yard f_z52 "tell_fetched" "Yard.tell_fetched" de)
 (l_z53:MtA K C_Yard f_z53 "do_bell" "Yard.do_bell" ia)
 (l_z54:MtA K C_Yard f_z54 "do_lie" "Yard.do_lie" jB)
 (l_z55:MtA K C_Yard f_z55 "do_look" "Yard.do_look" io)
 (l_z56:MtA K C_Yard f_z56 "something_waits" "Yard.something_waits" cn)
 (l_z57:NsA K f_z57 "errs" BC)
 (l_z58:NsA K f_z58 "filled_in_memory" dZ)
 (l_z59:NsA K f_z59 "miscounts" lK)
 (l_z60:NsA K f_z60 "oversleeps" ky)
 (l_z61:NsA K f_z61 "is_number" lY)
 (l_z62:NsA K f_z62 "number_of" lZ)
 (l_z63:NsA K f_z63 "numbers_of" kq)
 (l_z64:NsA K f_z64 "check_faults" ii)
 (l_z65:NsA K f_z65 "yes_or_no" lX)
 (l_z66:NsA K f_z66 "part_text" m3)
 (l_z67:NsA K f_z67 "told_text" lN)
 (l_z68:MtA K C_Desk f_z68 "__init__" "Desk.__init__" kO)
 (l_z69:MtA K C_Desk f_z69 "say" "Desk.say" nE)
 (l_z70:MtA K C_Desk f_z70 "say_ring" "Desk.say_ring" gk)
 (l_z71:MtA K C_Desk f_z71 "say_deed" "Desk.say_deed" gr)
 (l_z72:MtA K C_Desk f_z72 "say_look" "Desk.say_look" ge)
 (l_z73:NsA K f_z73 "_law_cell_at" ja)
 (l_z74:NsA K f_z74 "_law_row" pI)
 (l_z75:NsA K f_z75 "_law_take" nJ)
 (l_z76:NsA K f_z76 "_law_new" pQ)
 (l_z77:NsA K f_z77 "_law_deed" nP)
 (l_z78:NsA K f_z78 "_law_part" ni)
 (l_z79:NsA K f_z79 "_law_word" n8)
 (l_z80:NsA K f_z80 "_law_done" nC)
 (l_z81:NsA K f_z81 "_law_said" o3)
 (l_z82:NsA K f_z82 "_law_asked_right" eT)
 (l_z83:NsA K f_z83 "law" HF)
 (na_Ring:Ga K C_Ring ["shelf","side","word","laid","fetched","size","rounds","counter_first"])
 (na_Judge:Ga K C_Judge ["untaken","unhanded","going","doing"])
 (na_Hand:Ga K C_Hand ["asks","answers","names","going"])
 (na_Heart:Ga K C_Heart ["asks","answers","doing"])
 (na_Store:Ga K C_Store ["held","rows"])
 (na_Yard:Ga K C_Yard ["size","rounds","faults","shelf","hand","heart","bell_fences","lie_fences","look_sees","sleepers","quiet","happened"])
 (na_Desk:Ga K C_Desk ["yard"])
 (nn:M0 K ["all","bool","enumerate","int","isinstance","len","list","range","reversed","set","sorted","str","tuple","zip"])
 (aX_RingError:nsIn K NQ "RingError"=f' (f' (.ref C_RingError)))
 (aX_Full:nsIn K NQ "Full"=f' (f' (.ref C_Full)))
 (aX_NoName:nsIn K NQ "NoName"=f' (f' (.ref C_NoName)))
 (aX_NoTask:nsIn K NQ "NoTask"=f' (f' (.ref C_NoTask)))
 (aX_NoDeed:nsIn K NQ "NoDeed"=f' (f' (.ref C_NoDeed)))
 (aX_NoRow:nsIn K NQ "NoRow"=f' (f' (.ref C_NoRow)))
 (aT_ASKS:nsIn K NQ "ASKS"=f' (f' (.ref hZ)))
 (kT_ASKS:K.lookup hZ=f' ⟨.type "tuple",tod_ASKS,.seq #[.str "ask" tt0_ASKS,.str "asked" tt1_ASKS,.str "taken" tt2_ASKS] tn_ASKS,tsl_ASKS⟩)
 (aT_ANSWERS:nsIn K NQ "ANSWERS"=f' (f' (.ref bJ)))
 (kT_ANSWERS:K.lookup bJ=f' ⟨.type "tuple",tod_ANSWERS,.seq #[.str "answer" tt0_ANSWERS,.str "answered" tt1_ANSWERS,.str "handed" tt2_ANSWERS] tn_ANSWERS,tsl_ANSWERS⟩)
 (aT_SLEEP_CELLS:nsIn K NQ "SLEEP_CELLS"=f' (f' (.ref aO)))
 (kT_SLEEP_CELLS:K.lookup aO=f' ⟨.type "tuple",tod_SLEEP_CELLS,.seq #[.str "hand sleeps" tt0_SLEEP_CELLS,.str "heart sleeps" tt1_SLEEP_CELLS] tn_SLEEP_CELLS,tsl_SLEEP_CELLS⟩)
 (aT_FAULTS:nsIn K NQ "FAULTS"=f' (f' (.ref fY)))
 (kT_FAULTS:K.lookup fY=f' ⟨.type "tuple",tod_FAULTS,.seq #[.str "bell" tt0_FAULTS,.str "counter" tt1_FAULTS,.str "lie" tt2_FAULTS,.str "look" tt3_FAULTS,.str "round" tt4_FAULTS] tn_FAULTS,tsl_FAULTS⟩)
 (aI_MOST_WORTH:nsIn K NQ "MOST_WORTH"=f' (f' (.int 1000000000 ti_MOST_WORTH)))
 (aI_MOST_FIGURES:nsIn K NQ "MOST_FIGURES"=f' (f' (.int 12 ti_MOST_FIGURES)))
 (aI_FIGURES:nsIn K NQ "FIGURES"=f' (f' (.str "0123456789" ti_FIGURES)))
 (aT_FORMS:nsIn K NQ "FORMS"=f' (f' (.ref lU)))
 (kT_FORMS:K.lookup lU=f' ⟨.type "dict",Nf,.dict #[⟨th0_FORMS,.str "ask" tk0_FORMS,.ref gC⟩,⟨th1_FORMS,.str "collect" tk1_FORMS,.ref gO⟩,⟨th2_FORMS,.str "take" tk2_FORMS,.ref gH⟩,⟨th3_FORMS,.str "answer" tk3_FORMS,.ref gq⟩,⟨th4_FORMS,.str "bell" tk4_FORMS,.ref gD⟩,⟨th5_FORMS,.str "lie" tk5_FORMS,.ref gz⟩,⟨th6_FORMS,.str "look" tk6_FORMS,.ref gf⟩,⟨th7_FORMS,.str "drain" tk7_FORMS,.ref gG⟩] tep_FORMS,#[]⟩)
 (kN_FORMS:(lU == OD)=D')
 (kV0_FORMS:K.lookup gC=f' ⟨.type "tuple",vod0_FORMS,.seq #[.str "worth" vt0_0_FORMS] vn0_FORMS,vsl0_FORMS⟩)
 (kV1_FORMS:K.lookup gO=f' ⟨.type "tuple",vod1_FORMS,.seq #[] vn1_FORMS,vsl1_FORMS⟩)
 (kV2_FORMS:K.lookup gH=f' ⟨.type "tuple",vod2_FORMS,.seq #[] vn2_FORMS,vsl2_FORMS⟩)
 (kV3_FORMS:K.lookup gq=f' ⟨.type "tuple",vod3_FORMS,.seq #[.str "name" vt3_0_FORMS,.str "worth" vt3_1_FORMS] vn3_FORMS,vsl3_FORMS⟩)
 (kV4_FORMS:K.lookup gD=f' ⟨.type "tuple",vod4_FORMS,.seq #[.str "side" vt4_0_FORMS] vn4_FORMS,vsl4_FORMS⟩)
 (kV5_FORMS:K.lookup gz=f' ⟨.type "tuple",vod5_FORMS,.seq #[.str "side" vt5_0_FORMS] vn5_FORMS,vsl5_FORMS⟩)
 (kV6_FORMS:K.lookup gf=f' ⟨.type "tuple",vod6_FORMS,.seq #[.str "side" vt6_0_FORMS] vn6_FORMS,vsl6_FORMS⟩)
 (kV7_FORMS:K.lookup gG=f' ⟨.type "tuple",vod7_FORMS,.seq #[.str "side" vt7_0_FORMS] vn7_FORMS,vsl7_FORMS⟩)
 (aT_BOUNDS:nsIn K NQ "BOUNDS"=f' (f' (.ref jc)))
 (kT_BOUNDS:K.lookup jc=f' ⟨.type "dict",Nf,.dict #[⟨th0_BOUNDS,.str "size" tk0_BOUNDS,.ref dW⟩,⟨th1_BOUNDS,.str "rounds" tk1_BOUNDS,.ref dO⟩,⟨th2_BOUNDS,.str "names" tk2_BOUNDS,.ref dR⟩,⟨th3_BOUNDS,.str "name" tk3_BOUNDS,.ref dQ⟩,⟨th4_BOUNDS,.str "side" tk4_BOUNDS,.ref dS⟩] tep_BOUNDS,#[]⟩)
 (kN_BOUNDS:(jc == OD)=D')
 (kV0_BOUNDS:K.lookup dW=f' ⟨.type "tuple",vod0_BOUNDS,.seq #[.int 1 vt0_0_BOUNDS,.int 8 vt0_1_BOUNDS] vn0_BOUNDS,vsl0_BOUNDS⟩)
 (kV1_BOUNDS:K.lookup dO=f' ⟨.type "tuple",vod1_BOUNDS,.seq #[.int 2 vt1_0_BOUNDS,.int 4 vt1_1_BOUNDS] vn1_BOUNDS,vsl1_BOUNDS⟩)
 (kV2_BOUNDS:K.lookup dR=f' ⟨.type "tuple",vod2_BOUNDS,.seq #[.int 1 vt2_0_BOUNDS,.int 9 vt2_1_BOUNDS] vn2_BOUNDS,vsl2_BOUNDS⟩)
 (kV3_BOUNDS:K.lookup dQ=f' ⟨.type "tuple",vod3_BOUNDS,.seq #[.int 0 vt3_0_BOUNDS,.int 1000000000 vt3_1_BOUNDS] vn3_BOUNDS,vsl3_BOUNDS⟩)
 (kV4_BOUNDS:K.lookup dS=f' ⟨.type "tuple",vod4_BOUNDS,.seq #[.int 0 vt4_0_BOUNDS,.int 1 vt4_1_BOUNDS] vn4_BOUNDS,vsl4_BOUNDS⟩)
 (xc_Full:excIn K C_Full veB "ValueError.__new__"=G')
 (xc_NoName:excIn K C_NoName veB "ValueError.__new__"=G')
 (xc_NoTask:excIn K C_NoTask veB "ValueError.__new__"=G')
 (xc_NoDeed:excIn K C_NoDeed veB "ValueError.__new__"=G')
 (xc_NoRow:excIn K C_NoRow veB "ValueError.__new__"=G')
 (mo_em_f:Og K (.ref C_Full) (.ref C_RingError)=f' G')
 (mo_em_n:Og K (.ref C_NoName) (.ref C_RingError)=f' G')
 (mo_em_t:Og K (.ref C_NoTask) (.ref C_RingError)=f' G')
 (mo_em_d:Og K (.ref C_NoDeed) (.ref C_RingError)=f' G')
 (mo_em_dd:Og K (.ref C_NoDeed) (.ref C_NoDeed)=f' G')
 (mo_em_df:Og K (.ref C_NoDeed) (.ref C_Full)=f' D')
 (mo_em_dn:Og K (.ref C_NoDeed) (.ref C_NoName)=f' D')
 (mo_em_dt:Og K (.ref C_NoDeed) (.ref C_NoTask)=f' D')
 (mo_em_fd:Og K (.ref C_Full) (.ref C_NoDeed)=f' D')
 (mo_em_ff:Og K (.ref C_Full) (.ref C_Full)=f' G')
 (mo_em_fn:Og K (.ref C_Full) (.ref C_NoName)=f' D')
 (mo_em_ft:Og K (.ref C_Full) (.ref C_NoTask)=f' D')
 (mo_em_nd:Og K (.ref C_NoName) (.ref C_NoDeed)=f' D')
 (mo_em_nf:Og K (.ref C_NoName) (.ref C_Full)=f' D')
 (mo_em_nn:Og K (.ref C_NoName) (.ref C_NoName)=f' G')
 (mo_em_nt:Og K (.ref C_NoName) (.ref C_NoTask)=f' D')
 (mo_em_td:Og K (.ref C_NoTask) (.ref C_NoDeed)=f' D')
 (mo_em_tf:Og K (.ref C_NoTask) (.ref C_Full)=f' D')
 (mo_em_tn:Og K (.ref C_NoTask) (.ref C_NoName)=f' D')
 (mo_em_tt:Og K (.ref C_NoTask) (.ref C_NoTask)=f' G')
 (mo_yq_e:Ol K (.ref C_Yard) "__eq__"=f' (f' (.builtin "object.__eq__")))
 (mo_yq_o:PySem.W.mroIn K C_Yard (.type "object")=f' G') :
 ∃ fd:Np,(∀ (s:Ng) (v:Na),BindsTo s fd ⟨[v],[]⟩ [("script",v)])/\∀ base:NI,K.In base->base.Ns NQ mg->FnOk l.prog w K mg base CX0 17 fa fd ["script"] (zv K):=by
 have e:=hfa.symm.trans (mg_of X G l_z83.1);cases e;obtain⟨p_Ring,q_Ring,r_Ring⟩:=qh X G aC_Ring l_z4;obtain⟨p_Judge,q_Judge,r_Judge⟩:=qh X G aC_Judge l_z11;obtain⟨p_Hand,q_Hand,r_Hand⟩:=qh X G aC_Hand l_z16;obtain⟨p_Heart,q_Heart,r_Heart⟩:=qh X G aC_Heart l_z22;obtain⟨p_Store,q_Store,r_Store⟩:=qh X G aC_Store l_z28;obtain⟨p_Yard,q_Yard,r_Yard⟩:=qh X G aC_Yard l_z39;obtain⟨p_Desk,q_Desk,r_Desk⟩:=qh X G aC_Desk l_z68;obtain⟨m_z0,d_z0,Rz⟩:=bA X G l_z0;have P4:=bn3 Rz "counter" "size" "rounds" λ_ _ _ _ _ _ _ _ _=>rfl
 obtain⟨m_z1,d_z1,RB⟩:=bA X G l_z1;have P5:=bn2 RB "counter" "size" λ_ _ _ _ _ _ _ _=>rfl
 obtain⟨m_z2,d_z2,RO⟩:=bA X G l_z2;have Qg:=bn4 RO "one" "other" "size" "rounds" λ_ _ _ _ _ _ _ _ _ _=>rfl
 obtain⟨m_z3,d_z3,R0⟩:=bA X G l_z3;have Qr:=bn2 R0 "rounds" "faults" λ_ _ _ _ _ _ _ _=>rfl
 obtain⟨m_z4,d_z4,Sf⟩:=aK l_z4;have QC:=bn7 Sf "self" "store" "side" "words" "size" "rounds" "faults" λ_ _ _ _ _ _ _ _ _ _ _ _ _=>rfl
 obtain⟨m_z5,d_z5,Ss⟩:=aK l_z5;have QN:=bn1 Ss "self" λ_ _ _ _ _ _ _=>rfl
 obtain⟨m_z6,d_z6,SH⟩:=aK l_z6;have QZ:=bn1 SH "self" λ_ _ _ _ _ _ _=>rfl
 obtain⟨m_z7,d_z7,SW⟩:=aK l_z7;have Ra:=bn2 SW "self" "counter" λ_ _ _ _ _ _ _ _=>rfl
 obtain⟨m_z8,d_z8,Tj⟩:=aK l_z8;have Rq:=bn3 Tj "self" "cell" "counter" λ_ _ _ _ _ _ _ _ _=>rfl
 obtain⟨m_z9,d_z9,Ts⟩:=aK l_z9;have Ry:=bn3 Ts "self" "name" "worth" λ_ _ _ _ _ _ _ _ _=>rfl
 obtain⟨m_z10,d_z10,RC⟩:=aK l_z10;have P6:=bn1 RC "self" λ_ _ _ _ _ _ _=>rfl
 obtain⟨m_z11,d_z11,RE⟩:=aK l_z11;have P8:=bn1 RE "self" λ_ _ _ _ _ _ _=>rfl
 obtain⟨m_z12,d_z12,RF⟩:=aK l_z12;have P9:=bn4 RF "self" "word" "name" "worth" λ_ _ _ _ _ _ _ _ _ _=>rfl
 obtain⟨m_z13,d_z13,RG⟩:=aK l_z13;have P':=bn4 RG "self" "word" "name" "worth" λ_ _ _ _ _ _ _ _ _ _=>rfl
 obtain⟨m_z14,d_z14,RH⟩:=bA X G l_z14;have Qa:=bn1 RH "story" λ_ _ _ _ _ _ _=>rfl
 obtain⟨m_z15,d_z15,RI⟩:=bA X G l_z15;have Qb:=bn3 RI "story" "laid" "fetched" λ_ _ _ _ _ _ _ _ _=>rfl
 obtain⟨m_z16,d_z16,RJ⟩:=aK l_z16;have Qc:=bn6 RJ "self" "store" "size" "rounds" "names" "faults" λ_ _ _ _ _ _ _ _ _ _ _ _=>rfl
 obtain⟨m_z17,d_z17,RK⟩:=aK l_z17;have Qd:=bn1 RK "self" λ_ _ _ _ _ _ _=>rfl
 obtain⟨m_z18,d_z18,RL⟩:=aK l_z18;have Qe:=bn1 RL "self" λ_ _ _ _ _ _ _=>rfl
 obtain⟨m_z19,d_z19,RM⟩:=aK l_z19;have Qf:=bn2 RM "self" "worth" λ_ _ _ _ _ _ _ _=>rfl
 obtain⟨m_z20,d_z20,RQ⟩:=aK l_z20;have Qh:=bn1 RQ "self" λ_ _ _ _ _ _ _=>rfl
 obtain⟨m_z21,d_z21,RR⟩:=aK l_z21;have Qi:=bn1 RR "self" λ_ _ _ _ _ _ _=>rfl
 obtain⟨m_z22,d_z22,RS⟩:=aK l_z22;have Qj:=bn5 RS "self" "store" "size" "rounds" "faults" λ_ _ _ _ _ _ _ _ _ _ _=>rfl
 obtain⟨m_z23,d_z23,RT⟩:=aK l_z23;have Qk:=bn1 RT "self" λ_ _ _ _ _ _ _=>rfl
 obtain⟨m_z24,d_z24,RU⟩:=aK l_z24;have Ql:=bn2 RU "self" "name" λ_ _ _ _ _ _ _ _=>rfl
 obtain⟨m_z25,d_z25,RV⟩:=aK l_z25;have Qm:=bn3 RV "self" "name" "worth" λ_ _ _ _ _ _ _ _ _=>rfl
 obtain⟨m_z26,d_z26,RW⟩:=aK l_z26;have Qn:=bn1 RW "self" λ_ _ _ _ _ _ _=>rfl
 obtain⟨m_z27,d_z27,RX⟩:=aK l_z27;have Qo:=bn1 RX "self" λ_ _ _ _ _ _ _=>rfl
 obtain⟨m_z28,d_z28,RY⟩:=aK l_z28;have Qp:=bn1 RY "self" λ_ _ _ _ _ _ _=>rfl
 obtain⟨m_z29,d_z29,RZ⟩:=aK l_z29;have Qq:=bn4 RZ "self" "side" "cell" "worth" λ_ _ _ _ _ _ _ _ _ _=>rfl
 obtain⟨m_z30,d_z30,R3⟩:=aK l_z30;have Qs:=bn2 R3 "self" "side" λ_ _ _ _ _ _ _ _=>rfl
 obtain⟨m_z31,d_z31,R5⟩:=aK l_z31;have Qt:=bn2 R5 "self" "side" λ_ _ _ _ _ _ _ _=>rfl
 obtain⟨m_z32,d_z32,R6⟩:=aK l_z32;have Qu:=bn3 R6 "self" "side" "cell" λ_ _ _ _ _ _ _ _ _=>rfl
 obtain⟨m_z33,d_z33,R8⟩:=aK l_z33;have Qv:=bn2 R8 "self" "cell" λ_ _ _ _ _ _ _ _=>rfl
 obtain⟨m_z34,d_z34,R9⟩:=aK l_z34;have Qw:=bn2 R9 "self" "side" λ_ _ _ _ _ _ _ _=>rfl
 obtain⟨m_z35,d_z35,R'⟩:=bA X G l_z35;have Qx:=bn1 R' "value" λ_ _ _ _ _ _ _=>rfl
 obtain⟨m_z36,d_z36,Sa⟩:=bA X G l_z36;have Qy:=bn2 Sa "value" "kind" λ_ _ _ _ _ _ _ _=>rfl
 obtain⟨m_z37,d_z37,Sb⟩:=bA X G l_z37;have Qz:=bn1 Sb "some" λ_ _ _ _ _ _ _=>rfl
 obtain⟨m_z38,d_z38,Sd⟩:=bA X G l_z38;have QA:=bn1 Sd "some" λ_ _ _ _ _ _ _=>rfl
 obtain⟨m_z39,d_z39,Se⟩:=aK l_z39;have QB:=bn5 Se "self" "size" "rounds" "names" "faults" λ_ _ _ _ _ _ _ _ _ _ _=>rfl
 obtain⟨m_z40,d_z40,Sg⟩:=aK l_z40;have QD:=bn2 Sg "self" "some" λ_ _ _ _ _ _ _ _=>rfl
 obtain⟨m_z41,d_z41,Sh⟩:=aK l_z41;have QE:=bn2 Sh "self" "worths" λ_ _ _ _ _ _ _ _=>rfl
 obtain⟨m_z42,d_z42,Si⟩:=aK l_z42;have QF:=bn1 Si "self" λ_ _ _ _ _ _ _=>rfl
 obtain⟨m_z43,d_z43,Sj⟩:=aK l_z43;have QG:=bn2 Sj "self" "side" λ_ _ _ _ _ _ _ _=>rfl
 obtain⟨m_z44,d_z44,Sk⟩:=aK l_z44;have QH:=bn2 Sk "self" "side" λ_ _ _ _ _ _ _ _=>rfl
 obtain⟨m_z45,d_z45,Sl⟩:=aK l_z45;have QI:=bn1 Sl "self" λ_ _ _ _ _ _ _=>rfl
 obtain⟨m_z46,d_z46,Sm⟩:=aK l_z46;have QJ:=bn1 Sm "self" λ_ _ _ _ _ _ _=>rfl
 obtain⟨m_z47,d_z47,Sn⟩:=aK l_z47;have QK:=bn2 Sn "self" "some" λ_ _ _ _ _ _ _ _=>rfl
 obtain⟨m_z48,d_z48,So⟩:=aK l_z48;have QL:=bn2 So "self" "some" λ_ _ _ _ _ _ _ _=>rfl
 obtain⟨m_z49,d_z49,Sr⟩:=aK l_z49;have QM:=bn2 Sr "self" "worths" λ_ _ _ _ _ _ _ _=>rfl
 obtain⟨m_z50,d_z50,Su⟩:=aK l_z50;have QO:=bn2 Su "self" "worth" λ_ _ _ _ _ _ _ _=>rfl
 obtain⟨m_z51,d_z51,Sv⟩:=aK l_z51;have QP:=bn3 Sv "self" "name" "worth" λ_ _ _ _ _ _ _ _ _=>rfl
 obtain⟨m_z52,d_z52,Sw⟩:=aK l_z52;have QR:=bn3 Sw "self" "word" "told" λ_ _ _ _ _ _ _ _ _=>rfl
 obtain⟨m_z53,d_z53,Sx⟩:=aK l_z53;have QS:=bn2 Sx "self" "side" λ_ _ _ _ _ _ _ _=>rfl
 obtain⟨m_z54,d_z54,Sy⟩:=aK l_z54;have QT:=bn2 Sy "self" "side" λ_ _ _ _ _ _ _ _=>rfl
 obtain⟨m_z55,d_z55,Sz⟩:=aK l_z55;have QU:=bn2 Sz "self" "side" λ_ _ _ _ _ _ _ _=>rfl
 obtain⟨m_z56,d_z56,SD⟩:=aK l_z56;have QV:=bn2 SD "self" "side" λ_ _ _ _ _ _ _ _=>rfl
 obtain⟨m_z57,d_z57,SE⟩:=bA X G l_z57;have QW:=bn1 SE "yard" λ_ _ _ _ _ _ _=>rfl
 obtain⟨m_z58,d_z58,SF⟩:=bA X G l_z58;have QX:=bn2 SF "yard" "words" λ_ _ _ _ _ _ _ _=>rfl
 obtain⟨m_z59,d_z59,SG⟩:=bA X G l_z59;have QY:=bn3 SG "yard" "story" "words" λ_ _ _ _ _ _ _ _ _=>rfl
 obtain⟨m_z60,d_z60,SI⟩:=bA X G l_z60;have Q0:=bn2 SI "yard" "side" λ_ _ _ _ _ _ _ _=>rfl
 obtain⟨m_z61,d_z61,SJ⟩:=bA X G l_z61;have Q1:=bn1 SJ "word" λ_ _ _ _ _ _ _=>rfl
 obtain⟨m_z62,d_z62,SK⟩:=bA X G l_z62;have Q2:=bn2 SK "word" "kind" λ_ _ _ _ _ _ _ _=>rfl
 obtain⟨m_z63,d_z63,SM⟩:=bA X G l_z63;have Q3:=bn2 SM "words" "kinds" λ_ _ _ _ _ _ _ _=>rfl
 obtain⟨m_z64,d_z64,SN⟩:=bA X G l_z64;have Q4:=bn1 SN "faults" λ_ _ _ _ _ _ _=>rfl
 obtain⟨m_z65,d_z65,SO⟩:=bA X G l_z65;have Q5:=bn1 SO "truth" λ_ _ _ _ _ _ _=>rfl
 obtain⟨m_z66,d_z66,SQ⟩:=bA X G l_z66;have Q6:=bn1 SQ "part" λ_ _ _ _ _ _ _=>rfl
 obtain⟨m_z67,d_z67,SR⟩:=bA X G l_z67;have Q7:=bn2 SR "word" "told" λ_ _ _ _ _ _ _ _=>rfl
 obtain⟨m_z68,d_z68,SS⟩:=aK l_z68;have Q8:=bn1 SS "self" λ_ _ _ _ _ _ _=>rfl
 obtain⟨m_z69,d_z69,SU⟩:=aK l_z69;have Q9:=bn2 SU "self" "row" λ_ _ _ _ _ _ _ _=>rfl
 obtain⟨m_z70,d_z70,SY⟩:=aK l_z70;have Rb:=bn2 SY "self" "words" λ_ _ _ _ _ _ _ _=>rfl
 obtain⟨m_z71,d_z71,Ta⟩:=aK l_z71;have Rc:=bn2 Ta "self" "words" λ_ _ _ _ _ _ _ _=>rfl
 obtain⟨m_z72,d_z72,Tb⟩:=aK l_z72;have Rg:=bn2 Tb "self" "words" λ_ _ _ _ _ _ _ _=>rfl
 obtain⟨m_z73,d_z73,Tc⟩:=bA X G l_z73;have Rh:=bn2 Tc "script" "k" λ_ _ _ _ _ _ _ _=>rfl
 obtain⟨m_z74,d_z74,Td⟩:=bA X G l_z74;have Ri:=bn1 Td "cell" λ_ _ _ _ _ _ _=>rfl
 obtain⟨m_z75,d_z75,Te⟩:=bA X G l_z75;have Rj:=bn2 Te "row" "many" λ_ _ _ _ _ _ _ _=>rfl
 obtain⟨m_z76,d_z76,Tf⟩:=bA X G l_z76;have Rk:=bn2 Tf "desk" "row" λ_ _ _ _ _ _ _ _=>rfl
 obtain⟨m_z77,d_z77,Tg⟩:=bA X G l_z77;have Rm:=bn2 Tg "row" "yard" λ_ _ _ _ _ _ _ _=>rfl
 obtain⟨m_z78,d_z78,Th⟩:=bA X G l_z78;have Ro:=bn1 Th "part" λ_ _ _ _ _ _ _=>rfl
 obtain⟨m_z79,d_z79,Ti⟩:=bA X G l_z79;have Rp:=bn2 Ti "deed" "told" λ_ _ _ _ _ _ _ _=>rfl
 obtain⟨m_z80,d_z80,To⟩:=bA X G l_z80;have Rr:=bn2 To "yard" "deed" λ_ _ _ _ _ _ _ _=>rfl
 obtain⟨m_z81,d_z81,Tp⟩:=bA X G l_z81;have Rt:=bn2 Tp "desk" "row" λ_ _ _ _ _ _ _ _=>rfl
 obtain⟨m_z82,d_z82,Tq⟩:=bA X G l_z82;have Ru:=bn3 Tq "desk" "yard" "side" λ_ _ _ _ _ _ _ _ _=>rfl
 obtain⟨m_z83,d_z83,Tr⟩:=bA X G l_z83;have Rx:=bn1 Tr "script" λ_ _ _ _ _ _ _=>rfl
 let ad:Ad:=⟨f_z0,f_z1,f_z2,f_z3,f_z4,f_z5,f_z6,f_z7,f_z8,f_z9,f_z10,f_z11,f_z12,f_z13,f_z14,f_z15,f_z16,f_z17,f_z18,f_z19,f_z20,f_z21,f_z22,f_z23,f_z24,f_z25,f_z26,f_z27,f_z28,f_z29,f_z30,f_z31,f_z32,f_z33,f_z34,f_z35,f_z36,f_z37,f_z38,f_z39,f_z40,f_z41,f_z42,f_z43,f_z44,f_z45,f_z46,f_z47,f_z48,f_z49,f_z50,f_z51,f_z52,f_z53,f_z54,f_z55,f_z56,f_z57,f_z58,f_z59,f_z60,f_z61,f_z62,f_z63,f_z64,f_z65,f_z66,f_z67,f_z68,f_z69,f_z70,f_z71,f_z72,f_z73,f_z74,f_z75,f_z76,f_z77,f_z78,f_z79,f_z80,f_z81,f_z82,fa,C_Ring,C_Judge,C_Hand,C_Heart,C_Store,C_Yard,C_Desk,C_RingError,C_Full,C_NoName,C_NoTask,C_NoDeed,C_NoRow,hZ,bJ,aO,fY,lU,jc,gC,gO,gH,gq,gD,gz,gf,gG,dW,dO,dR,dQ,dS⟩
 let dd:Fd:=⟨d_z0,d_z1,d_z2,d_z3,d_z4,d_z5,d_z6,d_z7,d_z8,d_z9,d_z10,d_z11,d_z12,d_z13,d_z14,d_z15,d_z16,d_z17,d_z18,d_z19,d_z20,d_z21,d_z22,d_z23,d_z24,d_z25,d_z26,d_z27,d_z28,d_z29,d_z30,d_z31,d_z32,d_z33,d_z34,d_z35,d_z36,d_z37,d_z38,d_z39,d_z40,d_z41,d_z42,d_z43,d_z44,d_z45,d_z46,d_z47,d_z48,d_z49,d_z50,d_z51,d_z52,d_z53,d_z54,d_z55,d_z56,d_z57,d_z58,d_z59,d_z60,d_z61,d_z62,d_z63,d_z64,d_z65,d_z66,d_z67,d_z68,d_z69,d_z70,d_z71,d_z72,d_z73,d_z74,d_z75,d_z76,d_z77,d_z78,d_z79,d_z80,d_z81,d_z82,d_z83⟩
 have GG:Gs K mg ad dd:=⟨Rz,P4,m_z0,RB,P5,m_z1,RO,Qg,m_z2,R0,Qr,m_z3,Sf,QC,Ss,QN,m_z5,SH,QZ,m_z6,SW,Ra,m_z7,Tj,Rq,m_z8,Ts,Ry,m_z9,RC,P6,m_z10,RE,P8,RF,P9,m_z12,RG,P',m_z13,RH,Qa,m_z14,RI,Qb,m_z15,RJ,Qc,RK,Qd,m_z17,RL,Qe,m_z18,RM,Qf,m_z19,RQ,Qh,m_z20,RR,Qi,m_z21,RS,Qj,RT,Qk,m_z23,RU,Ql,m_z24,RV,Qm,m_z25,RW,Qn,m_z26,RX,Qo,m_z27,RY,Qp,RZ,Qq,m_z29,R3,Qs,m_z30,R5,Qt,m_z31,R6,Qu,m_z32,R8,Qv,m_z33,R9,Qw,m_z34,R',Qx,m_z35,Sa,Qy,m_z36,Sb,Qz,m_z37,Sd,QA,m_z38,Se,QB,Sg,QD,m_z40,Sh,QE,m_z41,Si,QF,m_z42,Sj,QG,m_z43,Sk,QH,m_z44,Sl,QI,m_z45,Sm,QJ,m_z46,Sn,QK,m_z47,So,QL,m_z48,Sr,QM,m_z49,Su,QO,m_z50,Sv,QP,m_z51,Sw,QR,m_z52,Sx,QS,m_z53,Sy,QT,m_z54,Sz,QU,m_z55,SD,QV,m_z56,SE,QW,m_z57,SF,QX,m_z58,SG,QY,m_z59,SI,Q0,m_z60,SJ,Q1,m_z61,SK,Q2,m_z62,SM,Q3,m_z63,SN,Q4,m_z64,SO,Q5,m_z65,SQ,Q6,m_z66,SR,Q7,m_z67,SS,Q8,SU,Q9,m_z69,SY,Rb,m_z70,Ta,Rc,m_z71,Tb,Rg,m_z72,Tc,Rh,m_z73,Td,Ri,m_z74,Te,Rj,m_z75,Tf,Rk,m_z76,Tg,Rm,m_z77,Th,Ro,m_z78,Ti,Rp,m_z79,To,Rr,m_z80,Tp,Rt,m_z81,Tq,Ru,m_z82,Tr,Rx,m_z83,q_Ring,p_Ring,r_Ring,na_Ring.1,na_Ring.2.1,na_Ring.2.2.1,na_Ring.2.2.2.1,na_Ring.2.2.2.2.1,na_Ring.2.2.2.2.2.1,na_Ring.2.2.2.2.2.2.1,na_Ring.2.2.2.2.2.2.2.1,q_Judge,p_Judge,r_Judge,na_Judge.1,na_Judge.2.1,na_Judge.2.2.1,na_Judge.2.2.2.1,q_Hand,p_Hand,r_Hand,na_Hand.1,na_Hand.2.1,na_Hand.2.2.1,na_Hand.2.2.2.1,q_Heart,p_Heart,r_Heart,na_Heart.1,na_Heart.2.1,na_Heart.2.2.1,q_Store,p_Store,r_Store,na_Store.1,na_Store.2.1,q_Yard,p_Yard,r_Yard,na_Yard.1,na_Yard.2.1,na_Yard.2.2.1,na_Yard.2.2.2.1,na_Yard.2.2.2.2.1,na_Yard.2.2.2.2.2.1,na_Yard.2.2.2.2.2.2.1,na_Yard.2.2.2.2.2.2.2.1,na_Yard.2.2.2.2.2.2.2.2.1,na_Yard.2.2.2.2.2.2.2.2.2.1,na_Yard.2.2.2.2.2.2.2.2.2.2.1,na_Yard.2.2.2.2.2.2.2.2.2.2.2.1,q_Desk,p_Desk,r_Desk,na_Desk.1,OZ X G nn.1,OZ X G nn.2.1,OZ X G nn.2.2.1,OZ X G nn.2.2.2.1,OZ X G nn.2.2.2.2.1,OZ X G nn.2.2.2.2.2.1,OZ X G nn.2.2.2.2.2.2.1,OZ X G nn.2.2.2.2.2.2.2.1,OZ X G nn.2.2.2.2.2.2.2.2.1,OZ X G nn.2.2.2.2.2.2.2.2.2.1,OZ X G nn.2.2.2.2.2.2.2.2.2.2.1,OZ X G nn.2.2.2.2.2.2.2.2.2.2.2.1,OZ X G nn.2.2.2.2.2.2.2.2.2.2.2.2.1,OZ X G nn.2.2.2.2.2.2.2.2.2.2.2.2.2.1,mg_of X G aX_RingError,mg_of X G aX_Full,mg_of X G aX_NoName,mg_of X G aX_NoTask,mg_of X G aX_NoDeed,mg_of X G aX_NoRow,mg_of X G aT_ASKS,λ_=>.inr ⟨_,_,_,kT_ASKS,rfl,rfl,by show 3 <= Nl;decide,(.cons ⟨_,rfl⟩ (.cons ⟨_,rfl⟩ (.cons ⟨_,rfl⟩ .nil)))⟩,mg_of X G aT_ANSWERS,λ_=>.inr ⟨_,_,_,kT_ANSWERS,rfl,rfl,by show 3 <= Nl;decide,(.cons ⟨_,rfl⟩ (.cons ⟨_,rfl⟩ (.cons ⟨_,rfl⟩ .nil)))⟩,mg_of X G aT_SLEEP_CELLS,λ_=>.inr ⟨_,_,_,kT_SLEEP_CELLS,rfl,rfl,by show 2 <= Nl;decide,(.cons ⟨_,rfl⟩ (.cons ⟨_,rfl⟩ .nil))⟩,mg_of X G aT_FAULTS,λ_=>.inr ⟨_,_,_,kT_FAULTS,rfl,rfl,by show 5 <= Nl;decide,(.cons ⟨_,rfl⟩ (.cons ⟨_,rfl⟩ (.cons ⟨_,rfl⟩ (.cons ⟨_,rfl⟩ (.cons ⟨_,rfl⟩ .nil)))))⟩,⟨_,mg_of X G aI_MOST_WORTH⟩,⟨_,mg_of X G aI_MOST_FIGURES⟩,⟨_,mg_of X G aI_FIGURES⟩,mg_of X G aT_FORMS,⟨kN_FORMS,_,_,_,kT_FORMS,⟨rfl,rfl,rfl⟩,rfl,(.cons rfl rfl (.cons rfl rfl (.cons rfl rfl (.cons rfl rfl (.cons rfl rfl (.cons rfl rfl (.cons rfl rfl (.cons rfl rfl .nil))))))))⟩,λ_=>.inr ⟨_,_,_,kV0_FORMS,rfl,rfl,by show 1 <= Nl;decide,(.cons ⟨_,rfl⟩ .nil)⟩,λ_=>.inr ⟨_,_,_,kV1_FORMS,rfl,rfl,by show 0 <= Nl;decide,.nil⟩,λ_=>.inr ⟨_,_,_,kV2_FORMS,rfl,rfl,by show 0 <= Nl;decide,.nil⟩,λ_=>.inr ⟨_,_,_,kV3_FORMS,rfl,rfl,by show 2 <= Nl;decide,(.cons ⟨_,rfl⟩ (.cons ⟨_,rfl⟩ .nil))⟩,λ_=>.inr ⟨_,_,_,kV4_FORMS,rfl,rfl,by show 1 <= Nl;decide,(.cons ⟨_,rfl⟩ .nil)⟩,λ_=>.inr ⟨_,_,_,kV5_FORMS,rfl,rfl,by show 1 <= Nl;decide,(.cons ⟨_,rfl⟩ .nil)⟩,λ_=>.inr ⟨_,_,_,kV6_FORMS,rfl,rfl,by show 1 <= Nl;decide,(.cons ⟨_,rfl⟩ .nil)⟩,λ_=>.inr ⟨_,_,_,kV7_FORMS,rfl,rfl,by show 1 <= Nl;decide,(.cons ⟨_,rfl⟩ .nil)⟩,mg_of X G aT_BOUNDS,⟨kN_BOUNDS,_,_,_,kT_BOUNDS,⟨rfl,rfl,rfl⟩,rfl,(.cons rfl rfl (.cons rfl rfl (.cons rfl rfl (.cons rfl rfl (.cons rfl rfl .nil)))))⟩,λ_=>.inr ⟨_,_,_,kV0_BOUNDS,rfl,rfl,by show 2 <= Nl;decide,(.cons ⟨_,rfl⟩ (.cons ⟨_,rfl⟩ .nil))⟩,λ_=>.inr ⟨_,_,_,kV1_BOUNDS,rfl,rfl,by show 2 <= Nl;decide,(.cons ⟨_,rfl⟩ (.cons ⟨_,rfl⟩ .nil))⟩,λ_=>.inr ⟨_,_,_,kV2_BOUNDS,rfl,rfl,by show 2 <= Nl;decide,(.cons ⟨_,rfl⟩ (.cons ⟨_,rfl⟩ .nil))⟩,λ_=>.inr ⟨_,_,_,kV3_BOUNDS,rfl,rfl,by show 2 <= Nl;decide,(.cons ⟨_,rfl⟩ (.cons ⟨_,rfl⟩ .nil))⟩,λ_=>.inr ⟨_,_,_,kV4_BOUNDS,rfl,rfl,by show 2 <= Nl;decide,(.cons ⟨_,rfl⟩ (.cons ⟨_,rfl⟩ .nil))⟩,xc_Full,xc_NoName,xc_NoTask,xc_NoDeed,xc_NoRow,mo_em_f,mo_em_n,mo_em_t,mo_em_d,mo_em_dd,mo_em_df,mo_em_dn,mo_em_dt,mo_em_fd,mo_em_ff,mo_em_fn,mo_em_ft,mo_em_nd,mo_em_nf,mo_em_nn,mo_em_nt,mo_em_td,mo_em_tf,mo_em_tn,mo_em_tt,mo_yq_e,mo_yq_o⟩
 refine⟨dd.law,?_,λbase _ _=>K1 GG⟩;obtain⟨_,_,_,_,_,_,_,_,_,e,_⟩:=Tr.ex;intro s v;show BindsTo s d_z83 _ _;rw[e];exact .of_eq rfl
def walk {l:PySem.W.OpenLaw}{q:ND}{loose:List Str}{XP:(Str->Option Na)->NI->Prop}{YP:Nt->NI->Prop}{d:DefRec}{K:Params->Nh}(hn:l.most=f' 63) (hdf:d.params.defaults=[])
 (hY:∀ (w:Nt) (h:NI),YP w h->(K w.params).In h)
 (F:∀ (w:Nt) (mg:Str->Option Na) (fa:K') (h:NI),(K w.params).In h->h.Ns NQ mg->mg d.name=f' (.ref fa) ->
  ∃ fd:Np,(∀ (s:Ng) (u:Na),BindsTo s fd ⟨[u],[]⟩ [("script",u)])/\∀ base:NI,(K w.params).In base->base.Ns NQ mg->FnOk l.prog w (K w.params) mg base CX0 17 fa fd ["script"] (zv (K w.params))) :
 PySem.W.WalkO q loose XP YP l.row.toRowW d [] (λf vs=>PySem.call f vs) :=
 L2.walk_of (n:=63) (k:=17) (x:="script") (CX:=λ_=>CX0) (sp:=λw=>zv (K w.params)) hn (by decide) hdf ⟨rfl,by decide,by decide⟩ hY F (λ_ _ a ns hl _ hS=>⟨a,ns,rfl,hS,hl,λ_=>rfl⟩) λ_ _ _ _ _ z=>z
end
end My
open PySem PySem.W PyProof.Rows
set_option maxRecDepth 100000 in
set_option maxHeartbeats 0 in
theorem PySem.Challenge.cw_askring_k37_desk_answers_holds : PySem.Challenge.rw_askring_k37_desk_answers.Holds := by
  w_on; o_law; k_head; (case hw => w_witness2)
  k_fill
  refine My.walk (l := PySem.Challenge.rw_askring_k37_desk_answers) rfl rfl (fun w h Y => PySem.W.kIn_of Y) ?F
  case F =>
    intro w mg fa h KX G hmg;refine' My.all_mk KX G hmg ?aC_Ring ?aC_Judge ?aC_Hand ?aC_Heart ?aC_Store ?aC_Yard ?aC_Desk ?l_z0 ?l_z1 ?l_z2 ?l_z3 ?l_z4 ?l_z5 ?l_z6 ?l_z7 ?l_z8 ?l_z9 ?l_z10 ?l_z11 ?l_z12 ?l_z13 ?l_z14 ?l_z15 ?l_z16 ?l_z17 ?l_z18 ?l_z19 ?l_z20 ?l_z21 ?l_z22 ?l_z23 ?l_z24 ?l_z25 ?l_z26 ?l_z27 ?l_z28 ?l_z29 ?l_z30 ?l_z31 ?l_z32 ?l_z33 ?l_z34 ?l_z35 ?l_z36 ?l_z37 ?l_z38 ?l_z39 ?l_z40 ?l_z41 ?l_z42 ?l_z43 ?l_z44 ?l_z45 ?l_z46 ?l_z47 ?l_z48 ?l_z49 ?l_z50 ?l_z51 ?l_z52 ?l_z53 ?l_z54 ?l_z55 ?l_z56 ?l_z57 ?l_z58 ?l_z59 ?l_z60 ?l_z61 ?l_z62 ?l_z63 ?l_z64 ?l_z65 ?l_z66 ?l_z67 ?l_z68 ?l_z69 ?l_z70 ?l_z71 ?l_z72 ?l_z73 ?l_z74 ?l_z75 ?l_z76 ?l_z77 ?l_z78 ?l_z79 ?l_z80 ?l_z81 ?l_z82 ?l_z83 ?na_Ring ?na_Judge ?na_Hand ?na_Heart ?na_Store ?na_Yard ?na_Desk ?nn ?aX_RingError ?aX_Full ?aX_NoName ?aX_NoTask ?aX_NoDeed ?aX_NoRow ?aT_ASKS ?kT_ASKS ?aT_ANSWERS ?kT_ANSWERS ?aT_SLEEP_CELLS ?kT_SLEEP_CELLS ?aT_FAULTS ?kT_FAULTS ?aI_MOST_WORTH ?aI_MOST_FIGURES ?aI_FIGURES ?aT_FORMS ?kT_FORMS ?kN_FORMS ?kV0_FORMS ?kV1_FORMS ?kV2_FORMS ?kV3_FORMS ?kV4_FORMS ?kV5_FORMS ?kV6_FORMS ?kV7_FORMS ?aT_BOUNDS ?kT_BOUNDS ?kN_BOUNDS ?kV0_BOUNDS ?kV1_BOUNDS ?kV2_BOUNDS ?kV3_BOUNDS ?kV4_BOUNDS ?xc_Full ?xc_NoName ?xc_NoTask ?xc_NoDeed ?xc_NoRow ?mo_em_f ?mo_em_n ?mo_em_t ?mo_em_d ?mo_em_dd ?mo_em_df ?mo_em_dn ?mo_em_dt ?mo_em_fd ?mo_em_ff ?mo_em_fn ?mo_em_ft ?mo_em_nd ?mo_em_nf ?mo_em_nn ?mo_em_nt ?mo_em_td ?mo_em_tf ?mo_em_tn ?mo_em_tt ?mo_yq_e ?mo_yq_o
    (case aC_Ring | aC_Judge | aC_Hand | aC_Heart | aC_Store | aC_Yard | aC_Desk => refine' ⟨?ka, ⟨?kb, ?kc, ?kd, ?ke⟩, ?kg, ?kh⟩; (case ka => k_is); (case kb => k_is); (case kc => k_is); (case kd => k_is); (case ke => k_is); (case kg => k_is); (case kh => k_is))
    (case l_z0 | l_z1 | l_z2 | l_z3 => refine' ⟨?ka, _, L2.fun_mk ?kb ?kc ?kd⟩; (case ka => k_is); (case kb => k_is); (case kc => k_is); (case kd => k_is))
    (case l_z4 | l_z5 | l_z6 | l_z7 | l_z8 | l_z9 | l_z10 | l_z11 | l_z12 | l_z13 => refine' ⟨?ka, ?ke, _, L2.fun_mk ?kb ?kc ?kd⟩; (case ka => k_is); (case ke => k_is); (case kb => k_is); (case kc => k_is); (case kd => k_is))
    (case l_z14 | l_z15 => refine' ⟨?ka, _, L2.fun_mk ?kb ?kc ?kd⟩; (case ka => k_is); (case kb => k_is); (case kc => k_is); (case kd => k_is))
    (case l_z16 | l_z17 | l_z18 | l_z19 | l_z20 | l_z21 | l_z22 | l_z23 | l_z24 | l_z25 | l_z26 | l_z27 | l_z28 | l_z29 | l_z30 | l_z31 | l_z32 | l_z33 | l_z34 => refine' ⟨?ka, ?ke, _, L2.fun_mk ?kb ?kc ?kd⟩; (case ka => k_is); (case ke => k_is); (case kb => k_is); (case kc => k_is); (case kd => k_is))
    (case l_z35 | l_z36 | l_z37 | l_z38 => refine' ⟨?ka, _, L2.fun_mk ?kb ?kc ?kd⟩; (case ka => k_is); (case kb => k_is); (case kc => k_is); (case kd => k_is))
    (case l_z39 | l_z40 | l_z41 | l_z42 | l_z43 | l_z44 | l_z45 | l_z46 | l_z47 | l_z48 | l_z49 | l_z50 | l_z51 | l_z52 | l_z53 | l_z54 | l_z55 | l_z56 => refine' ⟨?ka, ?ke, _, L2.fun_mk ?kb ?kc ?kd⟩; (case ka => k_is); (case ke => k_is); (case kb => k_is); (case kc => k_is); (case kd => k_is))
    (case l_z57 | l_z58 | l_z59 | l_z60 | l_z61 | l_z62 | l_z63 | l_z64 | l_z65 | l_z66 | l_z67 => refine' ⟨?ka, _, L2.fun_mk ?kb ?kc ?kd⟩; (case ka => k_is); (case kb => k_is); (case kc => k_is); (case kd => k_is))
    (case l_z68 | l_z69 | l_z70 | l_z71 | l_z72 => refine' ⟨?ka, ?ke, _, L2.fun_mk ?kb ?kc ?kd⟩; (case ka => k_is); (case ke => k_is); (case kb => k_is); (case kc => k_is); (case kd => k_is))
    (case l_z73 | l_z74 | l_z75 | l_z76 | l_z77 | l_z78 | l_z79 | l_z80 | l_z81 | l_z82 | l_z83 => refine' ⟨?ka, _, L2.fun_mk ?kb ?kc ?kd⟩; (case ka => k_is); (case kb => k_is); (case kc => k_is); (case kd => k_is))
    (case na_Ring | na_Judge | na_Hand | na_Heart | na_Store | na_Yard | na_Desk => repeat (first | exact trivial | (refine' And.intro ?ka ?_; (case ka => (show PySem.W.findIn _ _ _ = _); k_is))))
    (case nn => repeat (first | exact trivial | (refine' And.intro ?ka ?_; (case ka => k_is))))
    (case aX_RingError | aX_Full | aX_NoName | aX_NoTask | aX_NoDeed | aX_NoRow | aT_ASKS | kT_ASKS | aT_ANSWERS | kT_ANSWERS | aT_SLEEP_CELLS | kT_SLEEP_CELLS | aT_FAULTS | kT_FAULTS | aI_MOST_WORTH | aI_MOST_FIGURES | aI_FIGURES | aT_FORMS | kT_FORMS => k_is)
    (case kN_FORMS => first | rfl | decide)
    (case kV0_FORMS | kV1_FORMS | kV2_FORMS | kV3_FORMS | kV4_FORMS | kV5_FORMS | kV6_FORMS | kV7_FORMS | aT_BOUNDS | kT_BOUNDS => k_is)
    (case kN_BOUNDS => first | rfl | decide)
    (case kV0_BOUNDS | kV1_BOUNDS | kV2_BOUNDS | kV3_BOUNDS | kV4_BOUNDS => k_is)
    (case xc_Full | xc_NoName | xc_NoTask | xc_NoDeed | xc_NoRow => k_exc)
    (case mo_em_f | mo_em_n | mo_em_t | mo_em_d | mo_em_dd | mo_em_df | mo_em_dn | mo_em_dt | mo_em_fd | mo_em_ff | mo_em_fn | mo_em_ft | mo_em_nd | mo_em_nf | mo_em_nn | mo_em_nt | mo_em_td | mo_em_tf | mo_em_tn | mo_em_tt => kts_exm)
    (case mo_yq_e | mo_yq_o => k_is)
#print axioms PySem.Challenge.cw_askring_k37_desk_answers_holds

