import PyProof.Rows.All
import Wide.All
import OpenK.AllK
import Wide.FinOn
import Lean
import PyProof.EqAt
import PyProof.EqKinds
import PyProof.TupleCall
import PyProof.NeData
import PyProof.DictRoadsH
import Wide.Seal
import PyProof.CompMap
import PyProof.DictIter
import PyProof.DictWalks
import PyProof.CompUse
import PyProof.P3In
import OpenK.KOwn
import KE.KTryMore
import PyProof.RulesAs
import PyProof.ExcArgs
import PyProof.NsDelKeeps
import KE.KIsAll
import OpenK.KDescr
import PyProof.ZipIter
import PyProof.TupleIter
import KE.KRevSl
import PyProof.Rows.SortWalk
import PyProof.MeetsSeq
import KE.KDictSum
import PyProof.EnumMake
import PyProof.EnumFor
import PyProof.EnumStmt
import PyProof.ListRange
import KE.KSortKey
import PyProof.Rows.SortStr
import PyProof.Rows.CallKwBuiltin
import KE.KTab
import PyProof.ConsumeWalk
import PyProof.Comp
import PyProof.ForAny
import PyProof.Rows.StrJoin2
import PyProof.CallStr
import KE.KSortTup
import PySem.Challenge.RW_askring_k31_whole_all_is_handed_at_last
namespace PySem.W.Fast
def tw10000310881866797225:=True
def tw1010228059356068537:=True
def tw1012089892620370815:=True
def tw10126586556958665464:=True
def tw10155716242115264069:=True
def tw10230679138218508449:=True
def tw1029769177572320130:=True
def tw10310996018689236722:=True
def tw10430662413672985087:=True
def tw1045946719699028578:=True
def tw10469318455199445578:=True
def tw10479340983698107317:=True
def tw10480356711723807022:=True
def tw1050179966442833002:=True
def tw10538599720651016923:=True
def tw10561567457975396018:=True
def tw10563492974841336883:=True
def tw10581363279592874573:=True
def tw10586000829507157657:=True
def tw10592351596337593643:=True
def tw10601367624547538675:=True
def tw10610943355834231616:=True
def tw1061343522216841608:=True
def tw10673553644220538218:=True
def tw10689507960650812397:=True
def tw10804559743333480850:=True
def tw10824051752140572184:=True
def tw10826184016441387424:=True
def tw10878946189234324764:=True
def tw10899380154646303861:=True
def tw10996766811240103078:=True
def tw11049671261690172508:=True
def tw11161891164173115905:=True
def tw11166019529619560602:=True
def tw11218011301848655937:=True
def tw1122875092570336367:=True
def tw11235412490798614171:=True
def tw11303190902718603991:=True
def tw11350227814601655723:=True
def tw11494412727578307539:=True
def tw11532468290090220331:=True
def tw11603324328283836216:=True
def tw11622335214831785962:=True
def tw11651827641092855455:=True
def tw11680157911370022218:=True
def tw11748649943293893336:=True
def tw11788173978242585382:=True
def tw11789544877442176047:=True
def tw11843662382776569897:=True
def tw11858089810599933422:=True
def tw11878741138784815811:=True
def tw11941252138549539111:=True
def tw11965803617443724407:=True
def tw1197433772572371593:=True
def tw11978463424351635120:=True
def tw12013035046261894018:=True
def tw12057834208209695530:=True
def tw12069993093079601482:=True
def tw12087094934313625331:=True
def tw12128926450001130757:=True
def tw12183067133928823762:=True
def tw12196999168727265893:=True
def tw12198079886220559002:=True
def tw12218905991066609306:=True
def tw122271035704540230:=True
def tw12256052723346769323:=True
def tw12303747696353436650:=True
def tw12346686615302915733:=True
def tw12363461922440342709:=True
def tw12399840871190950340:=True
def tw12434918316142988895:=True
def tw12444902222973571062:=True
def tw12478909094251639361:=True
def tw12559803620389450738:=True
def tw12680060260929895927:=True
def tw12682996631335014381:=True
def tw12717995742550704940:=True
def tw12736984657849154755:=True
def tw12887225698811454443:=True
def tw12933698459373891440:=True
def tw13171534002180516446:=True
def tw13179218270841953030:=True
def tw13205619677908184347:=True
def tw13236796255128599967:=True
def tw13239811066880168458:=True
def tw13269486784836190874:=True
def tw13323027931020221923:=True
def tw13381716728450403867:=True
def tw13396629583686528567:=True
def tw13469812021880231707:=True
def tw13530656637072343190:=True
def tw13570033603446134041:=True
def tw13607739090455707951:=True
def tw13633425636302889622:=True
def tw13670741217487616397:=True
def tw13671457713375821124:=True
def tw13721951482525292102:=True
def tw13862305475944903110:=True
def tw1386828300205017190:=True
def tw13917574160153803031:=True
def tw13927032065860413702:=True
def tw13953310987283889400:=True
def tw14019993744906896617:=True
def tw1405730000689367691:=True
def tw14065357453965265653:=True
def tw14094002200888477443:=True
def tw14120801330930184137:=True
def tw1412151668880418242:=True
def tw14125815115309185924:=True
def tw14127126817223632033:=True
def tw14131813446928951168:=True
def tw14153481884885582503:=True
def tw14157945724570004714:=True
def tw14168368009873426396:=True
def tw14246926291688707609:=True
def tw14266798428604787316:=True
def tw14277637015764859496:=True
def tw14341935305429998237:=True
def tw14359789164138859203:=True
def tw14408472263478689021:=True
def tw14425543586734745650:=True
def tw14443413193007196989:=True
def tw14491407330710967416:=True
def tw14524981415582776324:=True
def tw14561063978518113606:=True
def tw14567271903423557590:=True
def tw14570581033597800734:=True
def tw14582044125821744461:=True
def tw14583279836563557652:=True
def tw14584458467574321744:=True
def tw14608587904689176165:=True
def tw14636272925199887759:=True
def tw14647576886568337173:=True
def tw14673800547670946491:=True
def tw14722225271341473676:=True
def tw14751967033071250610:=True
def tw14757162404936262460:=True
def tw14782352126704963813:=True
def tw14787014434149397977:=True
def tw14822825682882813949:=True
def tw14878202955262782251:=True
def tw14886172366041155476:=True
def tw14890052367832390246:=True
def tw14949545136944450573:=True
def tw14964759530203755302:=True
def tw14967017672963456749:=True
def tw14989881749559508060:=True
def tw15031607607396763666:=True
def tw15034637233349839112:=True
def tw15071973606017729855:=True
def tw15130477082204651814:=True
def tw15175429590254758059:=True
def tw15200134584156153761:=True
def tw15201448399533771789:=True
def tw15262993361349312308:=True
def tw15288302710433597779:=True
def tw15297504948797389403:=True
def tw15301910313925762323:=True
def tw1533267945702576713:=True
def tw15343348843439976464:=True
def tw15454643817847911238:=True
def tw15526924193617296718:=True
def tw15543235336359337677:=True
def tw15559022832577418357:=True
def tw15580985390648118268:=True
def tw15601143941179073627:=True
def tw1565644779438058323:=True
def tw15665217156121577828:=True
def tw15678925989941715153:=True
def tw15696257460133388008:=True
def tw15738185183379580018:=True
def tw15738991267727416613:=True
def tw15740720547251640833:=True
def tw15758210166103371084:=True
def tw15762216021702183572:=True
def tw15784005178391095831:=True
def tw15798397609197208480:=True
def tw15803288927256685302:=True
def tw15872357830473750779:=True
def tw15874524245611673176:=True
def tw15885391922019118652:=True
def tw15886204054210343904:=True
def tw15914024834592129277:=True
def tw15917776686976000926:=True
def tw16010888058683438120:=True
def tw16043596189396222489:=True
def tw16056258338127528961:=True
def tw16067057208787883479:=True
def tw16083969064540908:=True
def tw16194588291621449685:=True
def tw16214550133191812485:=True
def tw16235329489805620057:=True
def tw16247866154379162712:=True
def tw16281741011376490847:=True
def tw16294718915297122692:=True
def tw16302824752040835828:=True
def tw16372629448875113912:=True
def tw1642965791733558783:=True
def tw16432062578193945906:=True
def tw16453912746830282559:=True
def tw16458912380790060663:=True
def tw16521736753523454320:=True
def tw16528287987319760865:=True
def tw16556802635943283268:=True
def tw16568391567173716220:=True
def tw16572390919454448655:=True
def tw16657248988984868300:=True
def tw16676421929801007496:=True
def tw16698533648560673991:=True
def tw16716464586417416341:=True
def tw1676534195089280931:=True
def tw16845720995211174066:=True
def tw16868869020752616301:=True
def tw16896604459410772728:=True
def tw16912129400929986058:=True
def tw16964910293803480124:=True
def tw16973659296588919854:=True
def tw17040105513653276816:=True
def tw17109800146237074045:=True
def tw17111985028097202227:=True
def tw17128804699796984304:=True
def tw17129053124571692168:=True
def tw17152426676171588370:=True
def tw17158429431739779421:=True
def tw1717872449197664816:=True
def tw17192641241214225243:=True
def tw17224353482471462001:=True
def tw17307195567713863820:=True
def tw17387760265979059797:=True
def tw17419082387037703299:=True
def tw17420124828655078157:=True
def tw17433098998493828903:=True
def tw17437424962092138437:=True
def tw17460686471221821171:=True
def tw17479839699354129373:=True
def tw17509358541459239922:=True
def tw17513531425980527423:=True
def tw17513806370927745332:=True
def tw17518555146556639993:=True
def tw17541656451982130920:=True
def tw17595256155910975528:=True
def tw17638253276023029377:=True
def tw1768295239990874179:=True
def tw17704837096939767725:=True
def tw17802802451091314154:=True
def tw17806676329475587222:=True
def tw17837528499702163025:=True
def tw17842689536782513643:=True
def tw17846026755594970068:=True
def tw17938081865650118919:=True
def tw17986683955585653295:=True
def tw17988938474176133092:=True
def tw1799708567697004255:=True
def tw18024172223792283209:=True
def tw18047174233851104383:=True
def tw18049163015175744218:=True
def tw18059549087843141343:=True
def tw18091943629761161210:=True
def tw1818780223381239884:=True
def tw18246371123505701449:=True
def tw18266273205961071206:=True
def tw18269995565637568690:=True
def tw18272485885659301379:=True
def tw18275091641098819067:=True
def tw18278334809765325043:=True
def tw18297228328975743729:=True
def tw18301797838698024689:=True
def tw18329357800059243129:=True
def tw18338051574350055904:=True
def tw1837791700283084279:=True
def tw1837890637453618927:=True
def tw18444092999776550051:=True
def tw1856714918464088236:=True
def tw1866598114136823884:=True
def tw1955900009202874606:=True
def tw1956172406228713868:=True
def tw1977123843208244171:=True
def tw1995436601833032168:=True
def tw2018768204600192881:=True
def tw208483649570548595:=True
def tw2098372727743422194:=True
def tw21211062026496959:=True
def tw2191436717284096501:=True
def tw2203634006712895912:=True
def tw2227952184156544822:=True
def tw2240015720060171651:=True
def tw2250879329264356263:=True
def tw2280238718753081214:=True
def tw2303257345198905004:=True
def tw2312526547305508062:=True
def tw2313095382459832162:=True
def tw2322616948791719455:=True
def tw2326484361808328592:=True
def tw2361760380834601940:=True
def tw2383504719463933677:=True
def tw2393037460035210500:=True
def tw2443950943318456562:=True
def tw2469024801434089167:=True
def tw2501751879979463859:=True
def tw2644997247567458215:=True
def tw2671435740399010545:=True
def tw2712739928875603807:=True
def tw2738683775839585994:=True
def tw2744050760731191924:=True
def tw2764134534743407634:=True
def tw2782770106478317155:=True
def tw2839529852964455642:=True
def tw2865433497758853191:=True
def tw2872865395712646805:=True
def tw2879851422997919520:=True
def tw2889605287633444364:=True
def tw2897280493556408120:=True
def tw2908741601725263971:=True
def tw2919809392756469998:=True
def tw2955761466836627801:=True
def tw2991301806063000082:=True
def tw3038958010823814542:=True
def tw3080122499104313244:=True
def tw3123271568141736339:=True
def tw321183160407670037:=True
def tw3226487664881769697:=True
def tw3251365900031771670:=True
def tw3264076182021276139:=True
def tw327906125372736488:=True
def tw334173180234240675:=True
def tw3498463596023247262:=True
def tw3532650494080894330:=True
def tw3545070817923026942:=True
def tw358560059315452634:=True
def tw3592315679163407752:=True
def tw3645559078869947243:=True
def tw3660862954299980246:=True
def tw3668837984276481055:=True
def tw3692581926354308067:=True
def tw3722241407100236954:=True
def tw3812806162090694518:=True
def tw3838040244452815361:=True
def tw3872205702334366104:=True
def tw3881598229534907803:=True
def tw3931578941453608774:=True
def tw3980627527003317830:=True
def tw3994801635787603681:=True
def tw4011730210380887439:=True
def tw4038905971341006650:=True
def tw4070112820823081213:=True
def tw4100238276881082215:=True
def tw4163852652632896588:=True
def tw4217421429322386120:=True
def tw4254035198994561264:=True
def tw4270853728592187254:=True
def tw4280174369541420046:=True
def tw428538916273612171:=True
def tw4292150194615134894:=True
def tw4342209232056599358:=True
def tw4368749662366872594:=True
def tw4375969408909750566:=True
def tw4427352898676974397:=True
def tw4457329020470787981:=True
def tw4470598704834881389:=True
def tw4538576905516002063:=True
def tw4584722638613648937:=True
def tw4622246665165104261:=True
def tw4681112090726884906:=True
def tw4771538141637423325:=True
def tw4772881877232067688:=True
def tw4832187079070219621:=True
def tw4912605658871017692:=True
def tw491929010955792899:=True
def tw4959897171274801018:=True
def tw4968141585764568423:=True
def tw4985328536407944402:=True
def tw4993602083036643396:=True
def tw5039921427622329665:=True
def tw515339649080577844:=True
def tw5170561922006804310:=True
def tw5189042363736695005:=True
def tw5220066195033653227:=True
def tw5295117425150865034:=True
def tw5316594213281282548:=True
def tw5383852229427176555:=True
def tw5404129675029951538:=True
def tw5465181463939970151:=True
def tw5484880240097808104:=True
def tw5500746556574832585:=True
def tw5542660296398716425:=True
def tw555508669911075611:=True
def tw5559022220881111720:=True
def tw557568224864379792:=True
def tw5578393179225106569:=True
def tw5723481438334757054:=True
def tw5757437555354498063:=True
def tw5869495436729825393:=True
def tw5898246624346096183:=True
def tw591553755916261267:=True
def tw5941764564700347968:=True
def tw5958616957026444414:=True
def tw5985589506868288689:=True
def tw6001703817989968284:=True
def tw607905860250837235:=True
def tw6158139455688918335:=True
def tw616549179411616932:=True
def tw6232171935997092638:=True
def tw6249651498935019487:=True
def tw6262306821965448087:=True
def tw6289992547118879725:=True
def tw6352527559039346102:=True
def tw6376805707918505352:=True
def tw6484826735409506713:=True
def tw6509549593223430719:=True
def tw6528558291995528779:=True
def tw6551051222753547597:=True
def tw6634959785286378490:=True
def tw6736994941721412158:=True
def tw6743464681526567774:=True
def tw67752409742090601:=True
def tw6800258007695345137:=True
def tw6849467899386609954:=True
def tw6878452125296684375:=True
def tw6944517066284855171:=True
def tw7036838456590634717:=True
def tw7118685547651721856:=True
def tw7134448775317901784:=True
def tw7142636143951856821:=True
def tw7146498249917106120:=True
def tw7150383419430741064:=True
def tw7167078108288614698:=True
def tw7255338858219747140:=True
def tw726361673641737302:=True
def tw7278949580277165712:=True
def tw7392203754079528383:=True
def tw7477552085224711558:=True
def tw7497088460142934252:=True
def tw7540851654034858043:=True
def tw7586024712335420064:=True
def tw7691343371265187949:=True
def tw770228179205300004:=True
def tw7737302025217314277:=True
def tw7804182247196363637:=True
def tw7814542737502524429:=True
def tw7815707214958002891:=True
def tw7862688372571008172:=True
def tw7888762341661238949:=True
def tw8005554073547582470:=True
def tw8007972542693513889:=True
def tw8013651942344401018:=True
def tw8020884071506897371:=True
def tw8146993286539592033:=True
def tw819659686381470878:=True
def tw8235998065983072493:=True
def tw8274965852362560800:=True
def tw8284887366425404665:=True
def tw8290439930574684926:=True
def tw83016546767498434:=True
def tw8320603816663464835:=True
def tw8400399167894403803:=True
def tw8416691832339694177:=True
def tw8441063608509278651:=True
def tw8454010284098862458:=True
def tw8492276104323634264:=True
def tw8562800306011097312:=True
def tw8601150491797380938:=True
def tw8615220206510570538:=True
def tw863694946658078221:=True
def tw8685555212921208028:=True
def tw8710940175742567352:=True
def tw8721619794990184689:=True
def tw8766982512887315482:=True
def tw8806930218447490747:=True
def tw8847697400973157528:=True
def tw8848668983131031104:=True
def tw8907431906354267412:=True
def tw8929556782758410798:=True
def tw8949187780721184220:=True
def tw8995031748861959541:=True
def tw902011632211965061:=True
def tw9047577252139595454:=True
def tw9124545719479488404:=True
def tw9145172330837561257:=True
def tw9145906359494573388:=True
def tw9306884011265478924:=True
def tw9335873611127042114:=True
def tw9336409826695404545:=True
def tw9374393080143341796:=True
def tw9376429052987905143:=True
def tw9435226062927369373:=True
def tw9489676185182548021:=True
def tw9533386822759889097:=True
def tw9625755068294262370:=True
def tw9665151047861312853:=True
def tw968097069807021325:=True
def tw9688519028221669825:=True
def tw9857545900618001768:=True
def tw9879626616923346387:=True
def tw9890228792320137613:=True
def tw9939402306730307460:=True
def tw995010354436980059:=True
def tw9951360688638823144:=True
def tw9968936934866412120:=True
end PySem.W.Fast
open PySem.W (InitBack InstAt Looks any_some bind_fn callWith_K callWith_K0 cellsFrom_some codeIn codeRec_of emptyDict eq_bytes excIn exmOne exm_one findIn findObj_own fnOf funFrames_hide get_value handedIn hasDictIn hideAll hideAll_get hideAll_none hideAll_size instObj isFn isNs_of_in kdl_dict kdu_collect keepIn ki_setAt ki_setBack kia_one kitOne kitx_bool kitx_dict kitx_float kitx_int kitx_list kitx_none kitx_own kitx_str kitx_tuple lookIn looks_clsIn looks_findIn make_core makesIn makes_of methodCall_KW methodObj method_fn mg_none_of mg_of mroIn ne_bytes nsIn nsMap_none_of_in of_hideAll osa_open plainGet plainGet_of plainOver set_plain specialIn tail_of_in takerIn takesIn truthy_bytes typeIn)
open Nat (le_of_eq le_succ lt_of_le_of_lt lt_succ_self ne_of_gt ne_of_lt zero_le)
open List (Nodup Pairwise all_cons all_eq_true any_cons any_eq_true append_nil contains_cons contains_eq_mem contains_iff_mem drop_append_of_le_length drop_eq_getElem_cons filterMap_cons filter_append filter_congr filter_cons filter_nil find?_cons find?_eq_none findSome?_cons forIn_cons forIn_nil getD_eq_getElem?_getD getElem?_append_left getElem?_append_right getElem?_eq_getElem getElem?_map getElem?_take getElem_mem getElem_of_mem head? length_cons length_drop length_eq_zero_iff length_filter_le length_map length_replicate length_take map_append map_cons map_map map_nil mem_append mem_append_right mem_cons mem_cons_of_mem mem_cons_self mem_filter mem_filterMap mem_map mem_of_getElem? mem_range mem_reverse mem_singleton nodup_append nodup_cons nodup_nil not_lt not_mem_nil of_mem_zip pairwise_map prefix_append prefix_refl replicate reverse_append size_toArray take_add_one take_append_drop take_append_of_le_length take_length take_nil take_of_length_le take_succ)
open Int (dvd_mul_right emod_lt_of_pos emod_nonneg toNat_natCast)
open Bool (and_eq_true false_eq_true not_eq_true')
open Option (getD_none isSome_map isSome_none isSome_some map_eq_some_iff)
set_option Elab.async false
set_option linter.all false
set_option compiler.extract_closed false
set_option maxRecDepth 100000
open Option renaming some→dk,none→IX,map_eq_some_iff→KY
open Bool renaming false→f',true→l',false_ne_true→Jo,false_eq_true→JP,and_eq_true→Kn,eq_iff_iff→KQ,not_eq_true'→Lb
open PySem renaming wpAny_bind→D',Addr→G',Value→IU,PyData→IV,wpAny_pure→IY,Shared→IZ,sizeLine→Je,FuncData→Ji,World→Jj,wpAny→Jl,Paired→Jv,Program→Jy,DictEntry→Jz,Heap→JD,starEach→JG,Around→JN,mainGlobals→JO,Stmt→JY,wpAny_callSpecial?_slot→J2,wpAny_dictEpoch→Ka,wpAny_call_entry→Kb,bootBuiltins→Kh,placesWithHash→Kk,wpAny_holding→Kl,wpAny_truthy_bool→Km,sysModules→Ku,wpAny_newObj_type→Kw,compareOp→Ky,wpAny_field→KI,Obj→KP,sizeLine_eq→KW,wpAny_typeNameOfWhole_keyiter→K4,wpAny_rule→K6,wpAny_seqItems→Li,wpAny_Call_Name_kw→Lk,wpAny_passesOwn→Lq,wpAny_dictEntries→Ls,wpAny_mono→Lu,backTo→Lw,cLine→Lx
open List renaming length_append→IT,mem_singleton→IW,getElem?_eq_getElem→Jb,mem_cons_self→Jg,mem_cons_of_mem→Jh,length_map→Jk,take_append_of_le_length→Jn,getElem?_eq_some_iff→Jp,size_toArray→Js,mem_of_getElem?→Ju,append_nil→Jw,mem_cons→Jx,append_assoc→JA,mem_append→JB,length_cons→JH,length_take→JK,perm_append_left_iff→JQ,getElem?_append_right→JR,filter_append→JU,drop_append_of_le_length→JV,not_mem_nil→JW,getElem?_map→JX,filter_cons→J0,map_cons→J1,map_append→J3,mem_map→Kr,take_of_length_le→Kx,length→Kz,getElem?_append_left→KA,mem_append_right→KC,nodup_cons→KG,drop_eq_getElem_cons→KS,find?_cons→KU,range→K8,length_replicate→Le,length_filter_le→Lf,mem_filter→Lh,findSome?_cons→Lj,getD_eq_getElem?_getD→Ll,contains_eq_mem→Lr,Perm→Ly
open PySem.W renaming Frag→Ja,exmOne→Ki,mg_none_of→Lg,kitOne→Lp
open PySem.Heap renaming get?_push_of_some→Jc,get?_push_size→Jq,lt_size→Jr,SameBut→KN,get?_update_self→Lo
open Nat renaming le_refl→Jd,lt_of_lt_of_le→Jf,le_trans→JT,ne_of_lt→Kc,zero_le→Kq,lt_irrefl→Lv
open PySem.PyData renaming eqv→Jm,depthAll→JI,strOk→JL,canLayAll0→JM
open Option.some renaming inj→Jt
open PySem.Value renaming ref→JC,none→Ke
open Array renaming getElem?_eq_getElem→JE,getElem?_toList→Kv,length_toList→La
open PySem.F renaming plainAttrs_list→JF,slot_list_append→Kg,slot_dict_keyiterator_next→KR,slot_dict_pop→Lm
open Or renaming inl→JJ
open PySem.PassesOwn renaming never→JS
open PySem.SeqAt renaming EqAt→JZ
open Int renaming emod_lt_of_pos→Kd,emod_nonneg→KJ
open PySem.Obj renaming mapSeq→Kf
open False renaming elim→Kj
open PySem.Builtin.SmallTypes renaming nextOf→Ko,ownedTupleIsFree→KL
open PyProof.Rows renaming seqObj→Ks,strKind→K2,callWith_type1→Ld
open List.Perm renaming append_right→KD,append_left→Ln
open PySem.Heap.SameBut renaming update→KH
open Sum renaming inl→KZ
open PySem.Calls renaming spliced_cons→K0,evalArgs_plain→K3,callWith_builtin→Lc
open PySem.Str renaming ofString→K1
open Ne renaming symm→K5
open True renaming intro→K7
theorem Pa{c:Prop}[h:Decidable c](hc:c){α:Sort _}{t e:α}:ite c t e=t:=if_pos hc
theorem Pb{c:Prop}[h:Decidable c](hc:¬c){α:Sort _}{t e:α}:ite c t e=e:=if_neg hc
theorem Pc{p:Prop}[Decidable p]:(decide p=true)=p:=decide_eq_true_eq
theorem Pd{p:Prop}[h:Decidable p](x:p):decide p=true:=decide_eq_true x
local macro_rules|`(tactic|omega)=>`(tactic|lia)
namespace L2
open PySem PySem.Spec PyProof.Rows
abbrev Key:=Sum Int Str
def nk:Key->IU->Bool
|.inl k,v=>IU.isInt k v
|.inr x,v=>IU.isStrOf x v
def HU (w:Jj):Key->Int
|.inl k=>hashInt k
|.inr x=>hashStr w x
def bg:∀ {k:Key}{v:IU},nk k v=l'->(∃ i t,k=KZ i/\v=IU.int i t)\/(∃ x t,k=Sum.inr x/\v=IU.str x t)
|.inl i,v,h=>by
  obtain⟨t,e⟩:=IU.isInt_shape (k:=i) (v:=v) h;exact .inl ⟨i,t,rfl,e⟩
|.inr x,v,h=>by
  obtain⟨t,e⟩:=IU.isStrOf_shape (x:=x) (v:=v) h;exact .inr ⟨x,t,rfl,e⟩
def zq (i:Int) (t:Tok):nk (.inl i) (.int i t)=l':=by simp[nk,IU.isInt]
def yJ (x:Str) (t:Tok):nk (.inr x) (.str x t)=l':=by simp[nk,IU.isStrOf]
def EW (a b:Int):decide ((KZ a:Key)=KZ b)=(a == b):=by
 by_cases e:a=b
 . subst e;simp
 . have h:¬ (KZ a:Key)=KZ b:=λq=>e (KZ.inj q)
   rw[decide_eq_false h];exact(beq_eq_false_iff_ne.mpr e).symm
def EX (a b:Str):decide ((Sum.inr a:Key)=Sum.inr b)=decide (a=b):=by
 by_cases e:a=b
 . subst e;simp
 . have h:¬ (Sum.inr a:Key)=Sum.inr b:=λq=>e (Sum.inr.inj q)
   rw[decide_eq_false h,decide_eq_false e]
def Gc (a:Int) (b:Str):decide ((KZ a:Key)=Sum.inr b)=f':=decide_eq_false (λq=>nomatch q)
def FW (a:Str) (b:Int):decide ((Sum.inr a:Key)=KZ b)=f':=decide_eq_false (λq=>nomatch q)
def br (prog:Jy) (w:Jj):PySem.KeyKind prog w Key where
 is:=nk
 hash:=HU w
 inj:=λv a b ha hb=>by
  rcases bg ha with⟨i,t,rfl,rfl⟩|⟨x,t,rfl,rfl⟩
  . rcases bg hb with⟨j,u,rfl,e⟩|⟨y,u,rfl,e⟩
    . injection e with e1 _;rw[e1]
    . exact nomatch e
  . rcases bg hb with⟨j,u,rfl,e⟩|⟨y,u,rfl,e⟩
    . exact nomatch e
    . injection e with e1 _;rw[e1]
 byValue:=λk v h=>by
  rcases bg h with⟨i,t,rfl,rfl⟩|⟨x,t,rfl,rfl⟩<;>rfl
 pyHash:=λhv h=>by
  rcases bg hv with⟨i,t,rfl,rfl⟩|⟨x,t,rfl,rfl⟩
  . exact wpAny_pyHash_int h
  . exact wpAny_pyHash_str h
 eqBool:=λhu hv h=>by
  rcases bg hu with⟨i,t,rfl,rfl⟩|⟨x,t,rfl,rfl⟩
  . rcases bg hv with⟨j,u,rfl,rfl⟩|⟨y,u,rfl,rfl⟩
    . rw[EW]at h;exact wpAny_eqBool_int h
    . rw[Gc]at h;exact JZ.int_str i t y u _ _ _ _ h
  . rcases bg hv with⟨j,u,rfl,rfl⟩|⟨y,u,rfl,rfl⟩
    . rw[FW]at h;exact JZ.str_int x t j u _ _ _ _ h
    . rw[EX]at h;exact wpAny_eqBool_str h
 «strs»:=λk x t v h=>by
  rcases bg h with⟨i,u,rfl,e⟩|⟨y,u,rfl,e⟩
  . exact nomatch e
  . injection e with e1 _
    subst e1;cases v<;>rfl
def vA (prog:Jy) (w:Jj) (i:Int) (t:Tok):(br prog w).is (.inl i) (.int i t)=l':=zq i t
def vp (prog:Jy) (w:Jj) (x:Str) (t:Tok):(br prog w).is (.inr x) (.str x t)=l':=yJ x t
inductive V where
|non|bl (b:Bool)|int (i:Int)|str (x:Str)|byt (b:Array UInt8)|flt (b:UInt64)|ref (a:G')|ty (n:String)
 deriving DecidableEq
def bT:V->IU->Prop
|.non,u=>u=Ke
|.bl b,u=>u=IU.bool b
|.int i,u=>∃ t,u=IU.int i t
|.str x,u=>∃ t,u=IU.str x t
|.byt b,u=>∃ t,u=IU.bytes b t
|.flt b,u=>∃ t,u=IU.float b t
|.ref a,u=>u=JC a
|.ty n,u=>u=IU.type n
abbrev bE:List V->List IU->Prop:=Jv bT
theorem bE.length {xs:List V}{us:List IU}(r:bE xs us):xs.length=us.length:=Jv.length r
theorem bE.get:∀ {xs:List V}{us:List IU}{i:Nat}{x:V},bE xs us->xs[i]?=dk x->∃ u,us[i]?=dk u/\bT x u
|_,_,_,_,.nil,e=>by simp at e
|_,_,0,_,.cons r _,e=>by simp at e;subst e;exact⟨_,rfl,r⟩
|_,_,i+1,x,.cons _ t,e=>by
  obtain⟨u,h1,h2⟩:=bE.get (i:=i) (x:=x) t (by simpa using e);exact⟨u,by simpa using h1,h2⟩
theorem bE.set {x:V}{u:IU}(r:bT x u):∀ {xs:List V}{us:List IU}(i:Nat),bE xs us->bE (xs.set i x) (us.set i u)
|_,_,_,.nil=>.nil
|_,_,0,.cons _ t=>.cons r t
|_,_,i+1,.cons q t=>.cons q (bE.set r i t)
theorem bE.append:∀ {xs ys:List V}{us ws:List IU},bE xs us->bE ys ws->bE (xs++ys) (us++ws)
|_,_,_,_,.nil,s=>s
|_,_,_,_,.cons r t,s=>.cons r (bE.append t s)
theorem bE.take:∀ {xs:List V}{us:List IU}(n:Nat),bE xs us->bE (xs.take n) (us.take n)
|_,_,0,_=>.nil
|_,_,_+1,.nil=>.nil
|_,_,n+1,.cons r t=>.cons r (bE.take n t)
theorem bE.drop:∀ {xs:List V}{us:List IU}(n:Nat),bE xs us->bE (xs.drop n) (us.drop n)
|_,_,0,r=>r
|_,_,_+1,.nil=>.nil
|_,_,n+1,.cons _ t=>bE.drop n t
def uS:Option V->Option IU->Prop
|some v,dk u=>bT v u
|none,IX=>True
|_,_=>False
def KV {κ:Type}:List (κ × V)->List (κ × IU)->Prop:=Jv λ(p:κ × V) (q:κ × IU)=>p.1=q.1/\bT p.2 q.2
def kV:Key->V
|.inl i=>.int i
|.inr x=>.str x
inductive HO where
 /-- a list -/
|lst (xs:List V)
 /-- a tuple (never changes) -/
|tup (xs:List V)
 /-- a dict whose keys are ints and texts;one whose keys are tuples of ints and texts (the empty one is both) -/
|dK (kvs:List (Key × V))|dT (kvs:List (List Key × V))
 /-- a set of ints: its members,its size -/
|set (S:Int->Bool) (n:Nat)
 /-- an instance of the class at C,its dict at dx,its attributes -/
|ins (C dx:G') (fs:List (Str × V))
 /-- the dict of the instance at x -/
|own (x:G')
 /-- the dict of an exception -/
|xd (fs:List (Str × V))
 /-- a bound method,f of x -/
|met (f x:G')
 /-- a range object lo,lo+1,.. below hi -/
|rng (lo hi:Int)
 /-- a thing that is known to the object (the script;a dict while a loop walks it): read,never written while it is so -/
|frz (o:KP) (u:HO)
 /-- a code object's table -/
|tbl (ps:Array IU)
 /-- any other thing,by what is l' of its one object (a def of one's own: SetO a S n:=HO.ext λh=>..) -/
|ext (φ:JD->Prop)
abbrev Hp:=G'->Option HO
def upd (H:Hp) (a:G') (o:HO):Hp:=λb=>if b=a then dk o else H b
def a8 {H:Hp}{a:G'}{o:HO}:upd H a o a=dk o:=by unfold upd;rw[Pa rfl]
def ac {H:Hp}{a b:G'}{o:HO}(h:b≠a):upd H a o b=H b:=by unfold upd;rw[Pb h]
def cU {H:Hp}{a:G'}{o u:HO}:upd (upd H a o) a u=upd H a u:=by
 funext b;unfold upd;split<;>rfl
def iq {H:Hp}{a b:G'}{o u:HO}(h:H a=dk o) (h':H b=dk u) (d:o≠u):a≠b:=by
 intro e;subst e;rw[h]at h';exact d (Jt h')
def ag {H:Hp}{a b:G'}{o:HO}(h:H a=dk o) (h':H b=IX):a≠b:=by
 intro e;subst e;rw[h]at h';cases h'
section
variable (P:Jy) (w:Jj)
def cS (H:Hp) (h:JD) (a:G'):HO->Prop
|.lst xs=>xs.length <= Je/\∃ (its:List IU) (n:Nat),bE xs its/\h.get? a=dk { cls:=.type "list",data:=.seq its.toArray n }
|.tup xs=>xs.length <= Je/\∃ its:List IU,bE xs its/\IsTup h a its.toArray
|.dK kvs=>kvs.length <= Je/\(a == Ku)=f'/\∃ vs,KV kvs vs/\h.DictOf (br P w) a vs
|.dT kvs=>kvs.length <= Je/\(a == Ku)=f'/\∃ xs:List (List Key × G' × IU),
  Jv (λ(p:List Key × V) (q:List Key × G' × IU)=>p.1=q.1/\H q.2.1=dk (.tup (p.1.map kV))/\bT p.2 q.2.2) kvs xs /\
  ∃ o es ep,h.get? a=dk o/\o.ExactDict/\o.data=.dict es ep/\es.toList=xs.map (entryOfKey (tupleKind (br P w)))/\(xs.map (·.1)).Nodup
|.set S n=>h.SetOf (intKind P w) a S n
|.ins C dx fs=>H dx=dk (.own a)/\fs.length <= 1000/\dx≠a/\h.get? a=dk (instObj C dx) /\
  ∃ mA,h.Ns1 dx mA/\(∀ f,uS (fs.lookup f) (mA f))/\PySem.Within mA (fs.map (·.1))
|.own _=>∃ o,h.get? a=dk o
|.xd fs=>∃ mA,h.Ns1 a mA/\∀ f,uS (fs.lookup f) (mA f)
|.rng lo hi=>∃ t u v,h.get? a=dk { cls:=.type "range",data:=.fields #[.int lo t,.int hi u,.int 1 v] }
|.frz o u=>h.get? a=dk o/\cS H h a u
|.tbl ps=>h.get? a=dk { cls:=.none,data:=.fields ps }
|.met f x=>h.get? a=dk (methodObj (.ref f) (.ref x))
|.ext φ=>φ h/\(∃ o,h.get? a=dk o)/\∀ h1 h2:JD,φ h1->(∀ o,h1.get? a=dk o->h2.get? a=dk o)->φ h2
def HOk (H:Hp) (h:JD):Prop:=∀ a o,H a=dk o->cS P w H h a o
end
section
variable {P:Jy}{w:Jj}{H H':Hp}{h h':JD}{a:G'}{o:HO}
theorem cS.lt (x:cS P w H h a o):a < h.objs.size:=by
 cases o with
|lst xs=>obtain⟨_,_,_,_,e⟩:=x;exact Jr e
|tup xs=>obtain⟨_,_,_,p⟩:=x;exact p.lt
|dK kvs=>obtain⟨_,_,_,_,o,_,_,e,_⟩:=x;exact Jr e
|dT kvs=>obtain⟨_,_,_,_,o,_,_,e,_⟩:=x;exact Jr e
|set S n=>obtain⟨o,_,_,_,e,_⟩:=x;exact Jr e
|ins C dx fs=>obtain⟨_,_,_,e,_⟩:=x;exact Jr e
|own y=>obtain⟨_,e⟩:=x;exact Jr e
|xd fs=>obtain⟨_,⟨_,_,_,e,_⟩,_⟩:=x;exact Jr e
|rng lo hi=>obtain⟨_,_,_,e⟩:=x;exact Jr e
|frz ob u=>obtain⟨e,_⟩:=x;exact Jr e
|tbl ps=>exact Jr (show h.get? a=dk _ from x)
|met f y=>exact Jr (show h.get? a=dk _ from x)
|ext φ=>obtain⟨_,⟨_,e⟩,_⟩:=x;exact Jr e
theorem Paired.mapP {α β:Type}{F G:α->β->Prop}:∀ {l₁:List α}{l₂:List β},Jv F l₁ l₂->(∀ a b,F a b->G a b)->Jv G l₁ l₂
|_,_,.nil,_=>.nil
|_,_,.cons r t,f=>.cons (f _ _ r) (Paired.mapP t f)
def cS.stay (x:cS P w H h a o) (k:∀ b u,(b=a\/H b=dk (.own a))->h.get? b=dk u->h'.get? b=dk u)
 (ho:∀ b,H b=dk (.own a)->H' b=dk (.own a)) (ht:∀ b xs,H b=dk (.tup xs)->H' b=dk (.tup xs)):cS P w H' h' a o:=by
 induction o with
|lst xs=>obtain⟨z,its,n,r,e⟩:=x;exact⟨z,its,n,r,k _ _ (.inl rfl) e⟩
|tup xs=>obtain⟨z,its,r,ob,e,c⟩:=x;exact⟨z,its,r,ob,k _ _ (.inl rfl) e,c⟩
|dK kvs=>obtain⟨z,y,vs,r,ob,es,ep,e,c⟩:=x;exact⟨z,y,vs,r,ob,es,ep,k _ _ (.inl rfl) e,c⟩
|dT kvs =>
  obtain⟨z,y,xs,r,ob,es,ep,e,c⟩:=x;exact⟨z,y,xs,Paired.mapP r λp q z=>⟨z.1,ht _ _ z.2.1,z.2.2⟩,ob,es,ep,k _ _ (.inl rfl) e,c⟩
|set S n=>obtain⟨ob,es,ep,t,e,c⟩:=x;exact⟨ob,es,ep,t,k _ _ (.inl rfl) e,c⟩
|ins C dx fs =>
  obtain⟨d,z,ne,e,mA,⟨od,es,ep,e2,c⟩,r⟩:=x;exact⟨ho _ d,z,ne,k _ _ (.inl rfl) e,mA,⟨od,es,ep,k _ _ (.inr d) e2,c⟩,r⟩
|own y=>obtain⟨ob,e⟩:=x;exact⟨ob,k _ _ (.inl rfl) e⟩
|xd fs=>obtain⟨mA,⟨od,es,ep,e,c⟩,r⟩:=x;exact⟨mA,⟨od,es,ep,k _ _ (.inl rfl) e,c⟩,r⟩
|rng lo hi=>obtain⟨t,u,v,e⟩:=x;exact⟨t,u,v,k _ _ (.inl rfl) e⟩
|frz ob u ih=>obtain⟨e,q⟩:=x;exact⟨k _ _ (.inl rfl) e,ih q⟩
|tbl ps =>
  have e:h.get? a=dk { cls:=.none,data:=.fields ps }:=x;show h'.get? a=dk { cls:=.none,data:=.fields ps };exact k a _ (.inl rfl) e
|met f y =>
  have e:h.get? a=dk (methodObj (.ref f) (.ref y)):=x;show h'.get? a=dk (methodObj (.ref f) (.ref y));exact k a _ (.inl rfl) e
|ext φ=>obtain⟨p,⟨o,e⟩,st⟩:=x;exact⟨st _ _ p λo q=>k _ _ (.inl rfl) q,⟨o,k _ _ (.inl rfl) e⟩,st⟩
theorem HOk.lt (x:HOk P w H h) (e:H a=dk o):a < h.objs.size:=(x a o e).lt
def HOk.fresh (x:HOk P w H h) (e:h.objs.size <= a):H a=IX:=by
 cases q:H a with
|none=>rfl
|some u=>exact absurd (Jf (x.lt q) e) (Lv _)
def HOk.kept (x:HOk P w H h) (k:∀ b u,h.get? b=dk u->h'.get? b=dk u):HOk P w H h':=λa o e =>
 (x a o e).stay (λb u _ q=>k b u q) (λ_ q=>q) λ_ _ q=>q
def HOk.laid (x:HOk P w H h) (k:∀ b u,h.get? b=dk u->h'.get? b=dk u) (hp:h.objs.size <= a) (new:cS P w (upd H a o) h' a o):HOk P w (upd H a o) h':=λb u e=>by
 have hn:=x.fresh hp;by_cases hb:b=a
 . subst hb;rw[a8]at e;cases e;exact new
 . rw[ac hb]at e;exact(x b u e).stay (λc v _ q=>k c v q) (λc q=>by rw[ac (ag q hn)];exact q) λc xs q=>by rw[ac (ag q hn)];exact q
end
def Rd (H:Hp) (a:G') (u:HO):Prop:=H a=dk u\/∃ o,H a=dk (.frz o u)
def Rd.ok {P:Jy}{w:Jj}{H:Hp}{h:JD}{a:G'}{u:HO}(r:Rd H a u) (x:HOk P w H h):cS P w H h a u:=by
 rcases r with r|⟨o,r⟩
 . exact x a u r
 . obtain⟨_,q⟩:=x a _ r;exact q
def Mut:Option HO->Prop
|some (.lst _)=>True
|some (.dK _)=>True
|some (.dT _)=>True
|some (.set _ _)=>True
|some (.ins _ _ _)=>True
|some (.ext _)=>True
|_=>False
section
variable {P:Jy}{w:Jj}{H:Hp}{h h':JD}{x e:G'}{o':HO}
def HOk.write (ok:HOk P w H h) (mu:Mut (H x)) (he:e=x\/H e=dk (.own x)) (k:∀ b u,b≠e->h.get? b=dk u->h'.get? b=dk u) (heo:∃ u,h'.get? e=dk u)
 (new:cS P w (upd H x o') h' x o'):HOk P w (upd H x o') h':=λb u q=>by
 have nown:∀ c y,H c=dk (.own y)->c≠x:=λc y r z=>by subst z;rw[r]at mu;exact mu
 have ntup:∀ c xs,H c=dk (.tup xs)->c≠x:=λc xs r z=>by subst z;rw[r]at mu;exact mu
 by_cases hb:b=x
 . subst hb;rw[a8]at q;cases q;exact new
 . rw[ac hb]at q;by_cases hbe:b=e
   . have q':H b=dk (.own x):=by
      rcases he with z|z
      . exact absurd (hbe.trans z) hb
      . rw[hbe];exact z
     rw[q]at q';cases q';obtain⟨v,hv⟩:=heo;exact⟨v,by rw[hbe];exact hv⟩
   . refine(ok b u q).stay (λc v hc r=>k c v ?_ r) (λc r=>by rw[ac (nown c b r)];exact r) λc xs r=>by rw[ac (ntup c xs r)];exact r
     rcases hc with rfl|hc
     . exact hbe
     . rintro rfl;rcases he with z|z
       . exact nown c b hc z
       . rw[hc]at z;cases z;exact hb rfl
end
structure Un (fs ex:List G') (H H':Hp) (h h':JD):Prop where
 keep:∀ b o,h.get? b=dk o->H b=IX->b ∉ fs->b ∉ ex->h'.get? b=dk o
 slot:∀ b o,h.get? b=dk o->H b=IX->b∈fs->b ∉ ex->∃ sl,h'.get? b=dk { o with slots:=sl }
 free:∀ b o,h.get? b=dk o->H b=IX->b ∉ ex->H' b=IX
 there:∀ b o,h.get? b=dk o->b ∉ ex->∃ o',h'.get? b=dk o'
 tups:∀ b xs,H b=dk (.tup xs)->H' b=dk (.tup xs)
 frzs:∀ b o u,H b=dk (.frz o u)->H' b=dk (.frz o u)
 tbls:∀ b ps,H b=dk (.tbl ps)->∃ more,H' b=dk (.tbl (ps++more))
section
variable {fs fs' ex ex':List G'}{H H1 H2:Hp}{h h1 h2 h':JD}{a x e:G'}{o:HO}
def Un.any (u:Un fs ex H H1 h h1) {b:G'}{ob:KP}(q:h.get? b=dk ob) (n:H b=IX) (hx:b ∉ ex):∃ sl,h1.get? b=dk { ob with slots:=sl }:=by
 by_cases hb:b∈fs
 . exact u.slot b ob q n hb hx
 . exact⟨ob.slots,u.keep b ob q n hb hx⟩
def Un.kept (k:∀ b u,h.get? b=dk u->h'.get? b=dk u):Un fs ex H H h h' :=
 ⟨λb ob q _ _ _=>k b ob q,λb ob q _ _ _=>⟨ob.slots,k b ob q⟩,λ_ _ _ n _=>n,λb ob q _=>⟨ob,k b ob q⟩,λ_ _ q=>q,λ_ _ _ q=>q,λ_ ps q=>⟨#[],by rw[q];simp⟩⟩
def Un.refl:Un fs ex H H h h:=Un.kept λ_ _ q=>q
def Un.laid (k:∀ b u,h.get? b=dk u->h'.get? b=dk u) (hp:h.objs.size <= a) (hn:H a=IX):Un fs ex H (upd H a o) h h' where
 keep:=λb u q _ _ _=>k b u q
 slot:=λb u q _ _ _=>⟨u.slots,k b u q⟩
 free:=λb u q n _=>by rw[ac (Kc (Jf (Jr q) hp))];exact n
 there:=λb u q _=>⟨u,k b u q⟩
 tups:=λb xs q=>by rw[ac (ag q hn)];exact q
 frzs:=λb u xs q=>by rw[ac (ag q hn)];exact q
 tbls:=λb ps q=>⟨#[],by rw[ac (ag q hn),q];simp⟩
def Un.write (mu:Mut (H x)) (he:e=x\/H e=dk (.own x)) (k:∀ b u,b≠e->h.get? b=dk u->h'.get? b=dk u) (heo:∃ u,h'.get? e=dk u):Un fs ex H (upd H x o) h h':=by
 have hx:∀ b,H b=IX->b≠x:=λb n z=>by subst z;rw[n]at mu;exact mu
 have hb:∀ b,H b=IX->b≠e:=λb n z=>by
  subst z;rcases he with r|r
  . exact hx b n r
  . rw[n]at r;cases r
 have hm:∀ b u,H b=dk u->¬ Mut (dk u)->b≠x:=λb u q nm z=>by subst z;rw[q]at mu;exact nm mu
 refine⟨λb u q n _ _=>k b u (hb b n) q,λb u q n _ _=>⟨u.slots,k b u (hb b n) q⟩,λb u q n _=>by rw[ac (hx b n)];exact n,λb u q _=>?_,
  λb xs q=>by rw[ac (hm b _ q λz=>z)];exact q,λb u xs q=>by rw[ac (hm b _ q λz=>z)];exact q,λb ps q=>⟨#[],by rw[ac (hm b _ q λz=>z),q];simp⟩⟩
 by_cases hbe:b=e
 . subst hbe;exact heo
 . exact⟨u,k b u hbe q⟩
end
def trk (h:JD) (H:Hp):List G':=(K8 h.objs.size).filter λa=>(H a).isSome
def BZ (h:JD) (H:Hp):JD:=hideAll h (trk h H)
def yw (h:JD) (H:Hp):(BZ h H).objs.size=h.objs.size:=hideAll_size _ _
def B6 {h:JD}{H:Hp}{b:G'}{o:KP}(e:h.get? b=dk o) (n:H b=IX):(BZ h H).get? b=dk o :=
 hideAll_get _ e λhm=>by
  have q:(H b).isSome=l':=(Lh.mp hm).2;rw[n]at q;simp at q
def Dt {h:JD}{H:Hp}{b:G'}{o:KP}(e:(BZ h H).get? b=dk o):h.get? b=dk o/\H b=IX:=by
 have e':h.get? b=dk o:=of_hideAll (trk h H) e;refine⟨e',?_⟩;cases q:H b with
|none=>rfl
|some x =>
  have hm:b∈trk h H:=Lh.mpr ⟨mem_range.mpr (Jr e'),by simp[q]⟩;have z:(BZ h H).get? b=IX:=hideAll_none (trk h H) hm;rw[z]at e;cases e
def DJ (g h:JD) (L:G'):List (G' × KP):=(K8 h.objs.size).filterMap λa=>if a=L\/(g.get? a).isSome=l' then IX else (h.get? a).map λo=>(a,o)
def rest (g h:JD) (L d:G'):List (G' × KP):=(DJ g h L).filter λp=>decide (p.1≠d)
structure Mod (K:Ja) (mg:Str->Option IU) (base:JD):Prop where
 kin:K.In base
 glob:base.Ns JO mg
 blt:∃ mb,base.Ns builtinsNs mb/\∀ x:Str,x≠"__name__"->mb x=Kh x
 nolimit:base.NoLimit
structure Cx where
 prog:Jy
 w:Jj
 K:Ja
 mg:Str->Option IU
 base:JD
 A:JN
 N:List Str
 s₀:IZ
 H₀:Hp
 env:Env
 outer:List Env
 stack:List Env
 ex:List G'
 fn:Str->Bool
 calm:Bool
 pn:List (G' × KP)
 xe:IU->IZ->Prop
def frs (l:List Env):List G':=l.filterMap (·.frame)
abbrev Cx.fs (X:Cx):List G':=frs X.outer
def Vis (sc:Scope) (x:Str):Prop:=sc.names.lookup x=dk .local\/sc.names.lookup x=dk .cell\/sc.names.lookup x=dk .free
def Loc (sc:Scope) (x:Str):Prop:=sc.names.lookup x=dk .local\/sc.names.lookup x=dk .cell
def Im (env:Env) (h:JD) (m:Str->Option IU) (x:Str) (u:IU):Prop :=
 (env.kindOf x=dk .local/\m x=dk u)\/((env.kindOf x=dk .cell\/env.kindOf x=dk .free)/\∃ c,env.cells.lookup x=dk c/\h.IsCell c (dk u))
structure Cx.Ok (X:Cx):Prop where
 mod:Mod X.K X.mg X.base
 kind:X.env.scope.kind=.function
 glob:X.env.globals=JO
 blt:X.env.builtins=builtinsNs
 above:X.s₀.heap.objs.size <= X.env.locals
 inj:∀ x y c,X.env.cells.lookup x=dk c->X.env.cells.lookup y=dk c->x=y
 has:∀ x,(X.env.kindOf x=dk .cell\/X.env.kindOf x=dk .free)->∃ c,X.env.cells.lookup x=dk c
 cab:∀ x c,X.fn x=l'->X.env.cells.lookup x=dk c->X.s₀.heap.objs.size <= c
 hd:X.calm=l'->X.A.handled=IX
 frames:X.A.frames=dk X.stack
 stk:X.stack=X.outer\/(X.stack=X.env :: X.outer/\X.env.frame=dk X.env.locals)
 exf:∀ b∈X.ex,b≠X.env.locals/\∀ x c,X.env.cells.lookup x=dk c->c≠b
 bs:∀ b o,X.base.get? b=dk o->X.s₀.heap.get? b=dk o/\X.H₀ b=IX
 bsz:X.base.objs.size <= X.s₀.heap.objs.size
 noex:∀ b o,X.base.get? b=dk o->b ∉ X.ex
 exfs:∀ b∈X.ex,b ∉ X.fs
 funs:X.s₀.heap.FunFrames X.base X.outer
 frf:∀ b∈X.fs,X.H₀ b=IX
structure Inv (X:Cx) (Lz:List (G' × KP)) (σ:List (Option V)) (H:Hp) (s:IZ):Prop where
 ok:X.Ok
 os:s.os=X.s₀.os
 bare:AllBare s.gens
 base:Un X.fs X.ex X.H₀ H X.s₀.heap s.heap
 loc:∃ m,s.heap.Ns X.env.locals m/\∀ (i:Nat) (x:Str) (v:V),X.N[i]?=dk x->σ[i]?=dk (dk v)->Vis X.env.scope x->∃ u,bT v u/\Im X.env s.heap m x u
 cell:∀ x c,X.env.cells.lookup x=dk c->∃ v,s.heap.IsCell c v
 free:H X.env.locals=IX
 freeC:∀ x c,X.env.cells.lookup x=dk c->H c=IX
 pin:∀ p∈X.pn++Lz,s.heap.get? p.1=dk p.2/\H p.1=IX/\p.1≠X.env.locals/\p.1 ∉ X.fs/\∀ v,p.2.data≠.cell v
 hok:HOk X.prog X.w H s.heap
 len:σ.length=X.N.length
section
variable {X:Cx}{Lz:List (G' × KP)}{σ:List (Option V)}{H H':Hp}{s:IZ}{h':JD}
def Cx.Ok.nofr (ok:X.Ok) {b:G'}{o:KP}(e:X.base.get? b=dk o):b ∉ X.fs:=λhb=>by
 have:=(ok.funs.mem hb).1;rw[e]at this;cases this
theorem Inv.bs (I:Inv X Lz σ H s):∀ b o,X.base.get? b=dk o->s.heap.get? b=dk o/\H b=IX:=λb o e =>
 ⟨I.base.keep b o (I.ok.bs b o e).1 (I.ok.bs b o e).2 (I.ok.nofr e) (I.ok.noex b o e),I.base.free b o (I.ok.bs b o e).1 (I.ok.bs b o e).2 (I.ok.noex b o e)⟩
def Inv.bk (I:Inv X Lz σ H s):∀ b o,X.base.get? b=dk o->s.heap.get? b=dk o:=λb o e=>(I.bs b o e).1
theorem Inv.mod (I:Inv X Lz σ H s):Mod X.K X.mg X.base:=I.ok.mod
def Inv.kIn (I:Inv X Lz σ H s):X.K.In s.heap:=I.ok.mod.kin.keeps I.bk
theorem Inv.lt (I:Inv X Lz σ H s):X.env.locals < s.heap.objs.size:=let ⟨_,hn,_⟩:=I.loc;hn.lt
def Inv.sz (I:Inv X Lz σ H s):X.s₀.heap.objs.size <= s.heap.objs.size:=JT I.ok.above (Nat.le_of_lt I.lt)
def Inv.nofs (I:Inv X Lz σ H s) {a:G'}(h:s.heap.objs.size <= a):a ∉ X.fs:=λhb=>by
 obtain⟨_,o,ho,_⟩:=I.ok.funs.mem hb;exact absurd (Jf (Jr ho) (JT I.sz h)) (Lv _)
def Inv.cne (I:Inv X Lz σ H s):∀ x c,X.env.cells.lookup x=dk c->c≠X.env.locals:=λx c e z=>by
 obtain⟨v,o,ho,hd⟩:=I.cell x c e;obtain⟨m,⟨o',es,ep,ho',hd',_⟩,_⟩:=I.loc;rw[z,ho']at ho;cases ho;rw[hd']at hd;cases hd
theorem Inv.funs (I:Inv X Lz σ H s):s.heap.FunFrames X.base X.outer:=by
 have all:∀ (l:List Env),(∀ b∈frs l,b∈X.fs)->X.s₀.heap.FunFrames X.base l->s.heap.FunFrames X.base l:=by
  intro l
  induction l with
 |nil=>intro _ _;trivial
 |cons env r ih =>
   intro hs hl;obtain⟨hk,⟨L,o,hf,hn,ho,hd⟩,hr⟩:=hl;have hL:L∈X.fs:=hs L (by unfold frs;rw[filterMap_cons,hf];exact Jg);obtain⟨sl,e⟩:=I.base.slot L o ho (I.ok.frf L hL) hL λz=>I.ok.exfs L z hL
   exact⟨hk,⟨L,_,hf,hn,e,hd⟩,ih (λb hb=>hs b (by unfold frs;rw[filterMap_cons,hf];exact Jh _ hb)) hr⟩
 exact all X.outer (λ_ hb=>hb) I.ok.funs
theorem Inv.stack (I:Inv X Lz σ H s):s.heap.FunFrames X.base X.stack:=by
 rcases I.ok.stk with e|⟨e,hf⟩
 . rw[e];exact I.funs
 . rw[e];obtain⟨m,hn,_⟩:=I.loc;refine .cons (by rw[I.ok.kind];decide) hf hn ?_ I.funs;exact JD.get?_none_of_le (JT I.ok.bsz I.ok.above)
def Inv.stkSub (I:Inv X Lz σ H s):∀ b∈frs X.stack,b∈X.env.locals :: X.fs:=λb hb=>by
 rcases I.ok.stk with e|⟨e,hf⟩
 . rw[e]at hb;exact Jh _ hb
 . rw[e]at hb;unfold frs at hb;rw[filterMap_cons,hf]at hb;exact hb
def Inv.stkFree (I:Inv X Lz σ H s):∀ b∈frs X.stack,H b=IX:=λb hb=>by
 rcases Jx.mp (I.stkSub b hb) with e|hb
 . rw[e];exact I.free
 . obtain⟨_,o,ho,_⟩:=I.ok.funs.mem hb;exact I.base.free b o ho (I.ok.frf b hb) λz=>I.ok.exfs b z hb
def Inv.step {g':Array GenState}{t':Nat}{d':Drawn}{ch:List G'}(I:Inv X Lz σ H s)
 (hch:∀ b∈ch,(b∈X.ex\/X.s₀.heap.objs.size <= b)/\b≠X.env.locals/\(∀ x c,X.env.cells.lookup x=dk c->c≠b)/\∀ p∈X.pn++Lz,p.1≠b)
 (keep:∀ b o,b≠X.env.locals->b ∉ X.fs->b ∉ ch->s.heap.get? b=dk o->H b=IX->h'.get? b=dk o)
 (slot:∀ b o,b≠X.env.locals->b∈X.fs->b ∉ ch->s.heap.get? b=dk o->H b=IX->∃ sl,h'.get? b=dk { o with slots:=sl }) (free:∀ b o,b ∉ ch->s.heap.get? b=dk o->H b=IX->H' b=IX)
 (there:∀ b o,b ∉ ch->s.heap.get? b=dk o->∃ o',h'.get? b=dk o')
 (tups:∀ b xs,H b=dk (.tup xs)->H' b=dk (.tup xs)) (frzs:∀ b o u,H b=dk (.frz o u)->H' b=dk (.frz o u)) (tbls:∀ b ps,H b=dk (.tbl ps)->∃ more,H' b=dk (.tbl (ps++more)))
 (ns:∀ m,s.heap.Ns X.env.locals m->h'.Ns X.env.locals m) (hok:HOk X.prog X.w H' h') (hg:AllBare g') :
 Inv X Lz σ H' { s with heap:=h',gens:=g',drawn:=d',toks:=t' }:=by
 have neL:∀ b o,X.s₀.heap.get? b=dk o->b≠X.env.locals:=λb o e=>Kc (Jf (Jr e) I.ok.above)
 have neC:∀ b o,X.s₀.heap.get? b=dk o->b ∉ X.ex->b ∉ ch:=λb o e hx hb=>by
  rcases(hch b hb).1 with z|z
  . exact hx z
  . exact absurd (Jf (Jr e) z) (Lv _)
 have cellK:∀ x c,X.env.cells.lookup x=dk c->∀ v,s.heap.IsCell c v->h'.IsCell c v:=λx c e v ⟨o,ho,hd⟩=>by
  have nch:c ∉ ch:=λz=>(hch c z).2.2.1 x c e rfl
  by_cases hc:c∈X.fs
  . obtain⟨sl,q⟩:=slot c o (I.cne x c e) hc nch ho (I.freeC x c e);exact⟨_,q,hd⟩
  . exact⟨o,keep c o (I.cne x c e) hc nch ho (I.freeC x c e),hd⟩
 refine⟨I.ok,I.os,hg,⟨λb o e n hb hx=>?_,λb o e n hb hx=>?_,λb o e n hx=>?_,λb o e hx=>?_,λb xs e=>tups b xs (I.base.tups b xs e),λb o xs e=>frzs b o xs (I.base.frzs b o xs e),λb ps e=>?_⟩,?_,λx c e=>?_,?_,λx c e=>?_,λp hp=>?_,hok,I.len⟩
 . exact keep b o (neL b o e) hb (neC b o e hx) (I.base.keep b o e n hb hx) (I.base.free b o e n hx)
 . obtain⟨sl,e1⟩:=I.base.slot b o e n hb hx;obtain⟨sl',e2⟩:=slot b _ (neL b o e) hb (neC b o e hx) e1 (I.base.free b o e n hx);exact⟨sl',e2⟩
 . obtain⟨o',e1⟩:=I.base.there b o e hx;exact free b o' (neC b o e hx) e1 (I.base.free b o e n hx)
 . obtain⟨o',e1⟩:=I.base.there b o e hx;exact there b o' (neC b o e hx) e1
 . obtain⟨m1,e1⟩:=I.base.tbls b ps e;obtain⟨m2,e2⟩:=tbls b _ e1;exact⟨m1++m2,by rw[e2,Array.append_assoc]⟩
 . obtain⟨m,hn,hl⟩:=I.loc;refine⟨m,ns m hn,λi x v e1 e2 e3=>?_⟩;obtain⟨u,r,l⟩:=hl i x v e1 e2 e3;refine⟨u,r,?_⟩;rcases l with l|⟨k,c,e,z⟩
   . exact .inl l
   . exact .inr ⟨k,c,e,cellK x c e _ z⟩
 . obtain⟨v,z⟩:=I.cell x c e;exact⟨v,cellK x c e v z⟩
 . obtain⟨m,⟨o,_,_,ho,_⟩,_⟩:=I.loc;exact free _ o (λz=>(hch _ z).2.1 rfl) ho I.free
 . obtain⟨v,o,ho,hd⟩:=I.cell x c e;exact free c o (λz=>(hch c z).2.2.1 x c e rfl) ho (I.freeC x c e)
 . obtain⟨e,n,ne,nf,d⟩:=I.pin p hp;have nch:p.1 ∉ ch:=λz=>(hch p.1 z).2.2.2 p hp rfl
   exact⟨keep p.1 p.2 ne nf nch e n,free p.1 p.2 nch e n,ne,nf,d⟩
def Inv.un {t':Nat}(I:Inv X Lz σ H s) (u:Un X.fs [] H H' s.heap h') (hok:HOk X.prog X.w H' h'):Inv X Lz σ H' { s with heap:=h',toks:=t' }:=by
 obtain⟨m,⟨o,es,ep,ho,r⟩,_⟩:=id I.loc;obtain⟨sl,hL⟩:=u.any ho I.free (by simp);exact I.step (g':=s.gens) (d':=s.drawn) (ch:=[]) (λ_ z=>nomatch z) (λb o _ hb _ e n=>u.keep b o e n hb (by simp)) (λb o _ hb _ e n=>u.slot b o e n hb (by simp)) (λb o _ e n=>u.free b o e n (by simp)) (λb o _ e=>u.there b o e (by simp)) u.tups u.frzs u.tbls (λm' hm=>by
  obtain⟨o',es',ep',ho',r'⟩:=hm;rw[ho]at ho';cases ho';exact⟨_,es',ep',hL,r'⟩) hok I.bare
def Inv.call {g':Array GenState}{t':Nat}{d':Drawn}{ch:List G'}(I:Inv X Lz σ H s) (u:Un (frs X.stack) ch H H' s.heap h') (hok:HOk X.prog X.w H' h') (hg:AllBare g')
 (hch:∀ b∈ch,(b∈X.ex\/X.s₀.heap.objs.size <= b)/\b≠X.env.locals/\(∀ x c,X.env.cells.lookup x=dk c->c≠b)/\∀ p∈X.pn++Lz,p.1≠b) :
 Inv X Lz σ H' { s with heap:=h',gens:=g',drawn:=d',toks:=t' }:=by
 obtain⟨m,⟨o,es,ep,ho,r⟩,_⟩:=id I.loc;obtain⟨sl,hL⟩:=u.any ho I.free λz=>(hch _ z).2.1 rfl
 exact I.step (ch:=ch) hch (λb o hL hb hc e n=>u.keep b o e n (λz=>(Jx.mp (I.stkSub b z)).elim hL hb) hc) (λb o _ _ hc e n=>u.any e n hc) (λb o hc e n=>u.free b o e n hc) (λb o hc e=>u.there b o e hc) u.tups u.frzs u.tbls (λm' hm=>by
  obtain⟨o',es',ep',ho',r'⟩:=hm;rw[ho]at ho';cases ho';exact⟨_,es',ep',hL,r'⟩) hok hg
def Inv.turned {t':Nat}{it:G'}(I:Inv X Lz σ H s) (k:∀ b o,b≠it->s.heap.get? b=dk o->h'.get? b=dk o) (hn:H it=IX) (hL:it≠X.env.locals)
 (h1:it∈X.ex\/X.s₀.heap.objs.size <= it) (h2:∀ x c,X.env.cells.lookup x=dk c->c≠it) (h3:∀ p∈X.pn++Lz,p.1≠it):Inv X Lz σ H { s with heap:=h',toks:=t' }:=by
 have nit:∀ b u,H b=dk u->b≠it:=λb u e z=>by rw[z,hn]at e;cases e
 refine I.step (g':=s.gens) (d':=s.drawn) (ch:=[it]) (λb hb=>?_) (λb o _ _ hc e _=>k b o (λz=>hc (by simp[z])) e) (λb o _ _ hc e _=>⟨o.slots,k b o (λz=>hc (by simp[z])) e⟩) (λ_ _ _ _ n=>n)
  (λb o hc e=>⟨o,k b o (λz=>hc (by simp[z])) e⟩) (λ_ _ e=>e) (λ_ _ _ e=>e) (λb ps e=>⟨#[],by rw[e];simp⟩) (λm hm=>?_) (λb u e=>?_) I.bare
 . have e:b=it:=by simpa using hb
   subst e;exact⟨h1,hL,h2,h3⟩
 . obtain⟨o,es,ep,ho,r⟩:=hm;exact⟨o,es,ep,k _ o (K5 hL) ho,r⟩
 . refine(I.hok b u e).stay (λc v hc q=>k c v ?_ q) (λ_ q=>q) λ_ _ q=>q
   rcases hc with z|z
   . rw[z];exact nit b u e
   . exact nit c _ z
def Inv.tok (I:Inv X Lz σ H s) (t:Nat):Inv X Lz σ H { s with toks:=t }:=I.un (h':=s.heap) (t':=t) Un.refl I.hok
theorem Inv.kept {t':Nat}(I:Inv X Lz σ H s) (k:∀ b u,s.heap.get? b=dk u->h'.get? b=dk u):Inv X Lz σ H { s with heap:=h',toks:=t' }:=I.un (Un.kept k) (I.hok.kept k)
theorem Inv.laid {a:G'}{o:HO}{t':Nat}(I:Inv X Lz σ H s) (k:∀ b u,s.heap.get? b=dk u->h'.get? b=dk u) (hp:s.heap.objs.size <= a) (new:cS X.prog X.w (upd H a o) h' a o) :
 Inv X Lz σ (upd H a o) { s with heap:=h',toks:=t' }:=I.un (Un.laid k hp (I.hok.fresh hp)) (I.hok.laid k hp new)
theorem Inv.write {x e:G'}{o:HO}{t':Nat}(I:Inv X Lz σ H s) (mu:Mut (H x)) (he:e=x\/H e=dk (.own x)) (k:∀ b u,b≠e->s.heap.get? b=dk u->h'.get? b=dk u) (heo:∃ u,h'.get? e=dk u)
 (new:cS X.prog X.w (upd H x o) h' x o):Inv X Lz σ (upd H x o) { s with heap:=h',toks:=t' }:=I.un (Un.write mu he k heo) (I.hok.write mu he k heo new)
def Inv.pins_of {pins':List (G' × KP)}(I:Inv X Lz σ H s) (h:∀ p∈pins',s.heap.get? p.1=dk p.2/\H p.1=IX/\p.1≠X.env.locals/\p.1 ∉ X.fs/\∀ v,p.2.data≠.cell v):Inv X pins' σ H s :=
 ⟨I.ok,I.os,I.bare,I.base,I.loc,I.cell,I.free,I.freeC,λp hp=>(JB.mp hp).elim (λz=>I.pin p (List.mem_append_left _ z)) (h p),I.hok,I.len⟩
def vL {N:List Str}(hN:N.Nodup) {i j:Nat}{x:Str}(a:N[i]?=dk x) (b:N[j]?=dk x):i=j:=by
 obtain⟨h1,e1⟩:=Jp.mp a;obtain⟨h2,e2⟩:=Jp.mp b;exact(List.getElem_inj hN).mp (e1.trans e2.symm)
def uI {M:Model}{A:JN}{E:IU->IZ->Prop}{i:Nat}{x:Str}{v:V}{u:IU}{Q:Unit->IZ->Prop}(I:Inv X Lz σ H s) (hN:X.N.Nodup) (hi:X.N[i]?=dk x) (hx:Loc X.env.scope x) (r:bT v u)
 (h:∀ s',Inv X Lz (σ.set i (dk v)) H s'->(∃ a,KN a s.heap s'.heap/\(a=X.env.locals\/X.env.cells.lookup x=dk a))->Q () s') (hf:X.fn x=l'\/X.env.scope.names.lookup x=dk .local:=by first|exact .inl rfl|exact .inr rfl|assumption):Jl M A (storeName X.env x u) Q E s:=by
 obtain⟨m,hn,hl⟩:=id I.loc;have hcls:(X.env.scope.kind == .class || (X.env.scope.kind == .module && X.env.locals != X.env.globals))=f':=by rw[I.ok.kind];rfl
 have hiσ:i < σ.length:=by rw[I.len];exact(Jp.mp hi).1
 have cne:=I.cne;have tracked:∀ {a:G'} {h':JD},(∃ o,s.heap.get? a=dk o/\H a=IX)->KN a s.heap h'->HOk X.prog X.w H h':=λ{a h'} ha hs b ob e=>by
  obtain⟨_,_,hfree⟩:=ha;refine(I.hok b ob e).stay (λc w' hc q=>(hs.2 c ?_).trans q) (λ_ q=>q) λ_ _ q=>q
  rintro rfl;rcases hc with rfl|hc
  . rw[hfree]at e;cases e
  . rw[hfree]at hc;cases hc
 rcases hx with hk|hk
 . refine wpAny_storeName_local hk hn (λh' hn' hs=>?_) hcls;obtain⟨oL,_,_,hoL,_⟩:=id hn;refine h _ ⟨I.ok,I.os,I.bare,⟨λb o e n hb hx=>?_,λb o e n hb hx=>?_,I.base.free,λb o e hx=>?_,I.base.tups,I.base.frzs,I.base.tbls⟩,⟨_,hn',λj y v' e1 e2 e3=>?_⟩,λy c e=>?_,I.free,I.freeC,λp hp=>?_,tracked ⟨oL,hoL,I.free⟩ hs,by simpa using I.len⟩ ⟨_,hs,.inl rfl⟩
   . exact(hs.2 b (Kc (Jf (Jr e) I.ok.above))).trans (I.base.keep b o e n hb hx)
   . obtain⟨sl,e1⟩:=I.base.slot b o e n hb hx;exact⟨sl,(hs.2 b (Kc (Jf (Jr e) I.ok.above))).trans e1⟩
   . obtain⟨o',e1⟩:=I.base.there b o e hx;exact⟨o',(hs.2 b (Kc (Jf (Jr e) I.ok.above))).trans e1⟩
   . by_cases hj:j=i
     . subst hj;rw[hi]at e1;cases e1;rw[List.getElem?_set_self hiσ]at e2;cases e2;exact⟨u,r,.inl ⟨hk,by simp⟩⟩
     . rw[List.getElem?_set_ne (K5 hj)]at e2;obtain⟨u',r',q⟩:=hl j y v' e1 e2 e3;refine⟨u',r',?_⟩;rcases q with⟨k,e⟩|⟨k,c,e,z⟩
       . refine .inl ⟨k,?_⟩;have:y≠x:=λe=>hj (vL hN e1 (e ▸ hi))
         simp[this,e]
       . exact .inr ⟨k,c,e,z.sameBut hs (cne y c e)⟩
   . obtain⟨w',z⟩:=I.cell y c e;exact⟨w',z.sameBut hs (cne y c e)⟩
   . obtain⟨e,n,ne,nf,d⟩:=I.pin p hp;exact⟨(hs.2 p.1 ne).trans e,n,ne,nf,d⟩
 . have hfn:X.fn x=l':=by
    rcases hf with z|z
    . exact z
    . rw[z]at hk;cases hk
   obtain⟨c,hc⟩:=I.ok.has x (.inl hk);obtain⟨w',z⟩:=I.cell x c hc;refine wpAny_storeName_cell I.ok.kind hk hc z (λh' hc' hs=>?_);obtain⟨oc,hoc,hocd⟩:=id z;refine h { s with heap:=h' } ⟨I.ok,I.os,I.bare,⟨λb o e n hb hx=>?_,λb o e n hb hx=>?_,I.base.free,λb o e hx=>?_,I.base.tups,I.base.frzs,I.base.tbls⟩,⟨m,hn.sameBut hs (K5 (cne x c hc)),λj y v' e1 e2 e3=>?_⟩,λy c' e=>?_,I.free,I.freeC,λp hp=>?_,tracked ⟨oc,hoc,I.freeC x c hc⟩ hs,by simpa using I.len⟩ ⟨c,hs,.inr hc⟩
   . exact(hs.2 b (Kc (Jf (Jr e) (I.ok.cab x c hfn hc)))).trans (I.base.keep b o e n hb hx)
   . obtain⟨sl,e1⟩:=I.base.slot b o e n hb hx;exact⟨sl,(hs.2 b (Kc (Jf (Jr e) (I.ok.cab x c hfn hc)))).trans e1⟩
   . obtain⟨o',e1⟩:=I.base.there b o e hx;exact⟨o',(hs.2 b (Kc (Jf (Jr e) (I.ok.cab x c hfn hc)))).trans e1⟩
   . by_cases hj:j=i
     . subst hj;rw[hi]at e1;cases e1;rw[List.getElem?_set_self hiσ]at e2;cases e2;exact⟨u,r,.inr ⟨.inl hk,c,hc,hc'⟩⟩
     . rw[List.getElem?_set_ne (K5 hj)]at e2;obtain⟨u',r',q⟩:=hl j y v' e1 e2 e3;refine⟨u',r',?_⟩;rcases q with q|⟨k,c',e,z'⟩
       . exact .inl q
       . refine .inr ⟨k,c',e,z'.sameBut hs ?_⟩;rintro rfl;exact hj (vL hN e1 (I.ok.inj _ _ _ e hc ▸ hi))
   . by_cases hcc:c'=c
     . subst hcc;exact⟨_,hc'⟩
     . obtain⟨w2,z2⟩:=I.cell y c' e;exact⟨w2,z2.sameBut hs hcc⟩
   . obtain⟨e,n,ne,nf,d⟩:=I.pin p hp;refine⟨(hs.2 p.1 ?_).trans e,n,ne,nf,d⟩;intro q;rw[q,hoc]at e;have q':oc=p.2:=Jt e;exact d w' (by rw[<-q'];exact hocd)
def wD {M:Model}{A:JN}{E:IU->IZ->Prop}{i:Nat}{x:Str}{v:V}{u:IU}{Q:Unit->IZ->Prop}(I:Inv X Lz σ H s) (hN:X.N.Nodup) (hi:X.N[i]?=dk x) (hx:Loc X.env.scope x) (r:bT v u)
 (h:∀ s',Inv X Lz (σ.set i (dk v)) H s'->Q () s') (hf:X.fn x=l'\/X.env.scope.names.lookup x=dk .local:=by first|exact .inl rfl|exact .inr rfl|assumption):Jl M A (storeName X.env x u) Q E s :=
 uI I hN hi hx r (λs' I' _=>h s' I') hf
def Inv.call' {s':IZ}{ch:List G'}(I:Inv X Lz σ H s) (ho:s'.os=s.os) (u:Un (frs X.stack) ch H H' s.heap s'.heap) (hok:HOk X.prog X.w H' s'.heap) (hg:AllBare s'.gens)
 (hch:∀ b∈ch,(b∈X.ex\/X.s₀.heap.objs.size <= b)/\b≠X.env.locals/\(∀ x c,X.env.cells.lookup x=dk c->c≠b)/\∀ p∈X.pn++Lz,p.1≠b):Inv X Lz σ H' s':=by
 obtain⟨h',g',d',t',o'⟩:=s';have e:o'=s.os:=ho;subst e;exact I.call (g':=g') (t':=t') (d':=d') u hok hg hch
end
abbrev XK:=IU->Option G'->Hp->Prop
abbrev St:=List (Option V)
abbrev VK:=V->Hp->Prop
abbrev TE:=St->Hp->VK->Prop
abbrev TT:=St->Hp->(Bool->Hp->Prop)->Prop
abbrev TA:=St->Hp->(List V->Hp->Prop)->Prop
structure Ends where
 nx:St->Hp->Prop
 rt:VK
 bk:St->Hp->Prop:=λ_ _=>False
 ct:St->Hp->Prop:=λ_ _=>False
abbrev TS:=Ends->St->Hp->Prop
def EP (X:Cx) (Lz:List (G' × KP)) (σ:St) (Q:VK) (u:IU) (s':IZ):Prop:=∃ v H',Inv X Lz σ H' s'/\bT v u/\Q v H'
def TP (X:Cx) (Lz:List (G' × KP)) (σ:St) (Q:Bool->Hp->Prop) (b:Bool) (s':IZ):Prop:=∃ H',Inv X Lz σ H' s'/\Q b H'
def AP (X:Cx) (Lz:List (G' × KP)) (σ:St) (Q:List V->Hp->Prop) (us:List IU) (s':IZ):Prop:=∃ vs H',Inv X Lz σ H' s'/\bE vs us/\Q vs H'
def SP (X:Cx) (Lz:List (G' × KP)) (D:Ends) (f:Flow) (s':IZ):Prop :=
 match f with
|.next=>∃ σ' H',Inv X Lz σ' H' s'/\D.nx σ' H'
|.brk=>∃ σ' H',Inv X Lz σ' H' s'/\D.bk σ' H'
|.cont=>∃ σ' H',Inv X Lz σ' H' s'/\D.ct σ' H'
|.ret u=>∃ v σ' H',Inv X Lz σ' H' s'/\bT v u/\D.rt v H'
def PE (X:Cx) (e:Expr) (t:TE):Prop :=
 ∀ (Lz:List (G' × KP)) (s:IZ) (σ:St) (H:Hp) (Q:VK),Inv X Lz σ H s->t σ H Q->Jl (model X.prog X.w) X.A (eval e X.env) (EP X Lz σ Q) X.xe s
def PT (X:Cx) (e:Expr) (t:TT):Prop :=
 ∀ (Lz:List (G' × KP)) (s:IZ) (σ:St) (H:Hp) (Q:Bool->Hp->Prop),Inv X Lz σ H s->t σ H Q->Jl (model X.prog X.w) X.A (isTrue e X.env (eval e X.env)) (TP X Lz σ Q) X.xe s
def PW (X:Cx) (e:Expr) (t:TT):Prop :=
 ∀ (whole:Sem IU) (Lz:List (G' × KP)) (s:IZ) (σ:St) (H:Hp) (Q:Bool->Hp->Prop),Inv X Lz σ H s->t σ H Q->Jl (model X.prog X.w) X.A (isTrue e X.env whole) (TP X Lz σ Q) X.xe s
def PW.pt {X:Cx}{e:Expr}{t:TT}(h:PW X e t):PT X e t:=h _
def PA (X:Cx) (es:List Expr) (t:TA):Prop :=
 ∀ (pos:Pos) (Lz:List (G' × KP)) (s:IZ) (σ:St) (H:Hp) (Q:List V->Hp->Prop),Inv X Lz σ H s->t σ H Q->Jl (model X.prog X.w) X.A (spliced (Lw pos (JG es X.env))) (AP X Lz σ Q) X.xe s
def PS (X:Cx) (st:JY) (t:TS):Prop :=
 ∀ (Lz:List (G' × KP)) (s:IZ) (σ:St) (H:Hp) (D:Ends),Inv X Lz σ H s->t D σ H->Jl (model X.prog X.w) X.A (exec st X.env) (SP X Lz D) X.xe s
def PSs (X:Cx) (st:List JY) (t:TS):Prop :=
 ∀ (Lz:List (G' × KP)) (s:IZ) (σ:St) (H:Hp) (D:Ends),Inv X Lz σ H s->t D σ H->Jl (model X.prog X.w) X.A (execs st X.env) (SP X Lz D) X.xe s
def thn {α:Type}{t:Sem α}{Q Q':α->IZ->Prop}{M:Model}{A:JN}{E:IU->IZ->Prop}{s:IZ}(h:Jl M A t Q E s) (hQ:∀ a s,Q a s->Q' a s):Jl M A t Q' E s:=Lu h hQ λ_ _ x=>x
section
variable {X:Cx}
def qU (i:Nat):TE:=λσ H Q=>∃ v,σ[i]?=dk (dk v)/\Q v H
def tC (v:V):TE:=λ_ H Q=>Q v H
def FZ {i:Nat}{x:Str}{pos:Pos}(hN:X.N[i]?=dk x) (hv:Vis X.env.scope x) (hd:(x == ("__debug__":Str))=f':=by decide) (hcd:(x == ("__classdict__":Str))=f':=by decide):PE X (.Name x pos) (qU i):=by
 intro Lz s σ H Q I h;obtain⟨v,e,h⟩:=h;obtain⟨m,hn,hl⟩:=I.loc;obtain⟨u,r,l⟩:=hl i x v hN e hv;have fin:EP X Lz σ Q u s:=⟨v,H,I,r,h⟩
 rcases l with⟨hk,hm⟩|⟨hk,c,hc,hcell⟩
 . exact wpAny_Name (wpAny_loadName_local I.ok.kind hk hn hm fin) hd
 . rcases hk with hk|hk
   . exact wpAny_Name (wpAny_loadName_cell I.ok.kind hk hc hcell fin) hd
   . exact wpAny_Name (wpAny_loadName_free I.ok.kind hk hc hcell fin hcd) hd
def ae {i j pos}:PE X (.Constant (.int i) j pos) (tC (.int i)):=λ_ _ _ H _ I h=>wpAny_Constant_int ⟨.int i,H,I.tok _,⟨_,rfl⟩,h⟩
def dZ {b j pos}:PE X (.Constant (.bool b) j pos) (tC (.bl b)):=λ_ _ _ H _ I h=>Constant_bool ⟨.bl b,H,I,rfl,h⟩
def eh {j pos}:PE X (.Constant .none j pos) (tC .non):=λ_ _ _ H _ I h=>Constant_none ⟨.non,H,I,rfl,h⟩
def am {x j pos}:PE X (.Constant (.str x) j pos) (tC (.str x)):=λ_ _ _ H _ I h=>Calls.Constant_str ⟨.str x,H,I.tok _,⟨_,rfl⟩,h⟩
def Gl (X:Cx) (x:Str):Prop:=X.env.kindOf x=dk .globalImplicit
def ir {E:IU->IZ->Prop}{Lz:List (G' × KP)}{s:IZ}{σ:St}{H:Hp}{x:Str}{u:IU}{pos:Pos}{Q:IU->IZ->Prop}(I:Inv X Lz σ H s) (hg:Gl X x) (hm:X.mg x=dk u) (h:Q u s)
 (hd:(x == ("__debug__":Str))=f':=by decide):Jl (model X.prog X.w) X.A (eval (.Name x pos) X.env) Q E s :=
 Calls.Name_function_global I.ok.kind hg (Calls.loadGlobal_global (by rw[I.ok.glob];exact I.mod.glob.keeps I.bk) hm h) hd
def oY {E:IU->IZ->Prop}{Lz:List (G' × KP)}{s:IZ}{σ:St}{H:Hp}{x:Str}{u:IU}{pos:Pos}{Q:IU->IZ->Prop}(I:Inv X Lz σ H s) (hg:Gl X x) (hm:X.mg x=IX) (hv:Kh x=dk u) (h:Q u s)
 (hn:x≠"__name__":=by decide) (hd:(x == ("__debug__":Str))=f':=by decide):Jl (model X.prog X.w) X.A (eval (.Name x pos) X.env) Q E s:=by
 obtain⟨mb,h1,h2⟩:=I.mod.blt;exact Calls.Name_function_global I.ok.kind hg (Calls.loadGlobal_builtin (by rw[I.ok.glob];exact I.mod.glob.keeps I.bk) hm (by rw[I.ok.blt];exact h1.keeps I.bk) ((h2 x hn).trans hv) h) hd
def jp {x:Str}{v:V}{u:IU}{pos:Pos}(hg:Gl X x) (hm:X.mg x=dk u) (r:bT v u) (hd:(x == ("__debug__":Str))=f':=by decide):PE X (.Name x pos) (tC v) :=
 λ_ _ _ H _ I h=>ir I hg hm ⟨v,H,I,r,h⟩ hd
def cV {x:Str}{v:V}{u:IU}{pos:Pos}(hg:Gl X x) (hm:X.mg x=IX) (hv:Kh x=dk u) (r:bT v u) (hn:x≠"__name__":=by decide) (hd:(x == ("__debug__":Str))=f':=by decide):PE X (.Name x pos) (tC v) :=
 λ_ _ _ H _ I h=>oY I hg hm hv ⟨v,H,I,r,h⟩ hn hd
variable {a b:Expr}{ta tb:TE}{pos:Pos}
def PC (X:Cx) (op:CmpOp) (a b:Expr) (t:TE):Prop :=
 ∀ (Lz:List (G' × KP)) (s:IZ) (σ:St) (H:Hp) (Q:VK),Inv X Lz σ H s->t σ H Q ->
  Jl (model X.prog X.w) X.A (eval a X.env) (λv s₁=>Jl (model X.prog X.w) X.A (eval b X.env) (λu s₂=>Jl (model X.prog X.w) X.A (Ky op v u) (EP X Lz σ Q) X.xe s₂) X.xe s₁) X.xe s
def BN (b:Expr) {op:CmpOp}(h:op≠.In) (h2:op≠.NotIn):behindInMarks op b=f':=by
 have e1:(op == CmpOp.In)=f':=by cases op<;>first|rfl|exact absurd rfl h
 have e2:(op == CmpOp.NotIn)=f':=by cases op<;>first|rfl|exact absurd rfl h2
 cases b<;>simp[behindInMarks,e1,e2]
def tB (t:TE):TT:=λσ H Q=>t σ H λx H1=>∃ c,x=.bl c/\Q c H1
def D1 {op:CmpOp}{t:TE}(h:PC X op a b t) (h1:behindInMarks op b=f':=by first|exact BN _ (by decide) (by decide)|rfl):PT X (.Compare a [op] [b] pos) (tB t):=by
 intro Lz s σ H Q I hw;refine wpAny_isTrue_Compare1 (thn (h Lz s σ H _ I hw) λv s1 h1=>thn h1 λu s2 h2=>thn h2 λc s3 ur1=>?_) h1;obtain⟨x,H1,I1,r1,q1⟩:=ur1;obtain⟨d,rfl,q⟩:=q1;cases r1;exact Km ⟨H1,I1,q⟩
def ck {e:Expr}{t:TE}(h:PE X e t) (he:∀ whole,isTrue e X.env whole=(do let v <-whole;standAt e.pos;holding [v] (truthy v)):=by intro _;rfl):PT X e (tB t):=by
 intro Lz s σ H Q I hw;refine isTrue_plain (thn (h Lz s σ H _ I hw) λv s1 ur2=>?_) (he _);obtain⟨x,H1,I1,r1,q1⟩:=ur2;obtain⟨d,rfl,q⟩:=q1;cases r1;exact Km ⟨H1,I1,q⟩
variable {tA tB':TT}{rest:List Expr}
def Ib (t u:TT):TT:=λσ H Q=>t σ H λc H1=>if c=l' then u σ H1 Q else Q f' H1
def tOr (t u:TT):TT:=λσ H Q=>t σ H λc H1=>if c=l' then Q l' H1 else u σ H1 Q
def IE (t:TT):TT:=λσ H Q=>t σ H λc H1=>Q (!c) H1
def lY (ha:PT X a tA):PW X (.BoolOp .And [a] pos) tA:=by
 intro wh Lz s σ H Q I h;refine isTrue_and (thn (ha Lz s σ H Q I h) λc s1 e=>?_);cases c with
|true=>exact isTrue_and_nil e
|false=>exact e
def uN (ha:PT X a tA):PW X (.BoolOp .Or [a] pos) tA:=by
 intro wh Lz s σ H Q I h;refine isTrue_or (thn (ha Lz s σ H Q I h) λc s1 e=>?_);cases c with
|false=>exact isTrue_or_nil e
|true=>exact e
def mS (ha:PT X a tA) (hb:PW X (.BoolOp .And (b :: rest) pos) tB'):PW X (.BoolOp .And (a :: b :: rest) pos) (Ib tA tB'):=by
 intro wh Lz s σ H Q I h;refine isTrue_and (thn (ha Lz s σ H _ I h) λc s1 ur3=>?_);obtain⟨H1,I1,q1⟩:=ur3;cases c with
|true=>exact hb wh Lz s1 σ H1 Q I1 q1
|false=>exact⟨H1,I1,q1⟩
def yh (ha:PT X a tA) (hb:PW X (.BoolOp .Or (b :: rest) pos) tB'):PW X (.BoolOp .Or (a :: b :: rest) pos) (tOr tA tB'):=by
 intro wh Lz s σ H Q I h;refine isTrue_or (thn (ha Lz s σ H _ I h) λc s1 ur4=>?_);obtain⟨H1,I1,q1⟩:=ur4;cases c with
|true=>exact⟨H1,I1,q1⟩
|false=>exact hb wh Lz s1 σ H1 Q I1 q1
def eW (ha:PT X a tA):PT X (.UnaryOp .Not a pos) (IE tA):=by
 intro Lz s σ H Q I h;exact isTrue_not (ha Lz s σ H (λc H1=>Q (!c) H1) I h)
def Hh (ta tb:TE):TE:=λσ H Q=>ta σ H λx H1=>∃ c,x=.bl c/\if c=l' then tb σ H1 Q else Q (.bl f') H1
def Ha (ta:TE):TE:=λσ H Q=>ta σ H λx H1=>∃ c,x=.bl c/\Q (.bl (!c)) H1
def tE {op}{t:TE}(h:PE X a t):PE X (.BoolOp op [a] pos) t:=λLz s σ H Q I hw=>BoolOp_one (h Lz s σ H Q I hw)
def qF (ha:PE X a ta) (hb:PE X (.BoolOp .And (b :: rest) pos) tb):PE X (.BoolOp .And (a :: b :: rest) pos) (Hh ta tb):=by
 intro Lz s σ H Q I h;refine BoolOp_and (thn (ha Lz s σ H _ I h) λv s1 ur5=>?_);obtain⟨x,H1,I1,r1,q1⟩:=ur5;obtain⟨c,rfl,q1⟩:=q1;cases r1;refine Km ?_;cases c with
|true=>exact hb Lz s1 σ H1 Q I1 q1
|false=>exact⟨.bl f',H1,I1,rfl,q1⟩
def D3 (ha:PE X a ta):PE X (.UnaryOp .Not a pos) (Ha ta):=by
 intro Lz s σ H Q I h;refine UnaryOp_ (thn (ha Lz s σ H _ I h) λv s1 ur6=>?_);obtain⟨x,H1,I1,r1,q1⟩:=ur6;obtain⟨c,rfl,q1⟩:=q1;cases r1;exact not_of (Km ⟨.bl (!c),H1,I1,rfl,q1⟩)
def tIf (t:TT) (ta tb:TE):TE:=λσ H Q=>t σ H λc H1=>if c=l' then ta σ H1 Q else tb σ H1 Q
def o8 {c:Expr}(hc:PT X c tA) (ha:PE X a ta) (hb:PE X b tb):PE X (.IfExp c a b pos) (tIf tA ta tb):=by
 intro Lz s σ H Q I h;refine wpAny_IfExp (thn (hc Lz s σ H _ I h) λd s1 ur7=>?_);obtain⟨H1,I1,q1⟩:=ur7;cases d with
|true=>exact ha Lz s1 σ H1 Q I1 q1
|false=>exact hb Lz s1 σ H1 Q I1 q1
end
def SqL (K:Ja) (H:Hp) (a:G') (xs:List V):Prop :=
 Rd H a (.lst xs) \/
  ∃ (o:KP) (its:Array IU) (n:Nat),K.lookup a=dk o/\o.cls=.type "list"/\o.dict=IX/\o.data=.seq its n/\its.size <= Je/\bE xs its.toList
def SqT (K:Ja) (H:Hp) (a:G') (xs:List V):Prop :=
 Rd H a (.tup xs) \/
  ∃ (o:KP) (its:Array IU) (n:Nat),K.lookup a=dk o/\o.cls=.type "tuple"/\o.data=.seq its n/\its.size <= Je/\bE xs its.toList
def ID:IU->Option V
|.none=>dk .non
|.bool b=>dk (.bl b)
|.int i _=>dk (.int i)
|.str x _=>dk (.str x)
|.bytes b _=>dk (.byt b)
|.float b _=>dk (.flt b)
|.ref a=>dk (.ref a)
|.type n=>dk (.ty n)
|_=>IX
def bT.abs {x:V}{u:IU}(r:bT x u):ID u=dk x:=by
 cases x with
|non=>cases r;rfl
|bl _=>cases r;rfl
|int _=>obtain⟨t,rfl⟩:=r;rfl
|str _=>obtain⟨t,rfl⟩:=r;rfl
|byt _=>obtain⟨t,rfl⟩:=r;rfl
|flt _=>obtain⟨t,rfl⟩:=r;rfl
|ref _=>cases r;rfl
|ty _=>cases r;rfl
theorem bT.inj {x y:V}{u:IU}(r:bT x u) (q:bT y u):x=y:=Jt (r.abs.symm.trans q.abs)
theorem bE.inj:∀ {xs ys:List V}{us:List IU},bE xs us->bE ys us->xs=ys
|_,_,_,.nil,.nil=>rfl
|_,_,_,.cons r t,.cons r' t'=>by rw[r.inj r',bE.inj t t']
section
variable {X:Cx}{Lz:List (G' × KP)}{σ:St}{H:Hp}{s:IZ}{a:G'}{xs ys:List V}
def SqL.of {K:Ja}(h:H a=dk (.lst xs)):SqL K H a xs:=.inl (.inl h)
def SqT.of {K:Ja}(h:H a=dk (.tup xs)):SqT K H a xs:=.inl (.inl h)
def Inv.list (I:Inv X Lz σ H s) (h:SqL X.K H a xs):∃ its:List IU,bE xs its/\PlainL s.heap a its.toArray/\xs.length <= Je:=by
 rcases h with h|⟨o,its,n,hk,hc,hd,hs,hz,r⟩
 . obtain⟨z,its,n,r,e⟩:=h.ok I.hok;exact⟨its,r,⟨_,n,e,rfl,rfl,rfl⟩,z⟩
 . refine⟨its.toList,r,⟨o,n,I.kIn a o hk,hc,hd,by simpa using hs⟩,?_⟩;have e:=r.length;simp only[La]at e;omega
def Inv.tuple (I:Inv X Lz σ H s) (h:SqT X.K H a xs):∃ its:List IU,bE xs its/\IsTup s.heap a its.toArray/\xs.length <= Je:=by
 rcases h with h|⟨o,its,n,hk,hc,hs,hz,r⟩
 . obtain⟨z,its,r,p⟩:=h.ok I.hok;exact⟨its,r,p,z⟩
 . refine⟨its.toList,r,⟨o,I.kIn a o hk,hc,n,by simpa using hs⟩,?_⟩;have e:=r.length;simp only[La]at e;omega
def Inv.list_inj (I:Inv X Lz σ H s) (h:SqL X.K H a xs) (h':SqL X.K H a ys):xs=ys:=by
 obtain⟨its,r,⟨o,n,e,_,_,d⟩,_⟩:=I.list h;obtain⟨its',r',⟨o',n',e',_,_,d'⟩,_⟩:=I.list h';rw[e]at e';cases e';rw[d]at d';injection d' with d1 _
 have:its=its':=by simpa using congrArg Array.toList d1
 subst this;exact r.inj r'
def Inv.tuple_inj (I:Inv X Lz σ H s) (h:SqT X.K H a xs) (h':SqT X.K H a ys):xs=ys:=by
 obtain⟨its,r,⟨o,e,_,n,d⟩,_⟩:=I.tuple h;obtain⟨its',r',⟨o',e',_,n',d'⟩,_⟩:=I.tuple h';rw[e]at e';cases e';rw[d]at d';injection d' with d1 _
 have:its=its':=by simpa using congrArg Array.toList d1
 subst this;exact r.inj r'
end
abbrev Cx.wish (X:Cx) (E:IU->IZ->Prop):Cx:={ X with xe:=E }
abbrev Cx.nox (X:Cx):Cx:=X.wish λ_ _=>False
theorem Cx.Ok.wish {X:Cx}(ok:X.Ok) (E:IU->IZ->Prop):(X.wish E).Ok :=
 ⟨ok.mod,ok.kind,ok.glob,ok.blt,ok.above,ok.inj,ok.has,ok.cab,ok.hd,ok.frames,ok.stk,ok.exf,ok.bs,ok.bsz,ok.noex,ok.exfs,ok.funs,ok.frf⟩
def Cx.Ok.unwish {X:Cx}{E:IU->IZ->Prop}(ok:(X.wish E).Ok):X.Ok :=
 ⟨ok.mod,ok.kind,ok.glob,ok.blt,ok.above,ok.inj,ok.has,ok.cab,ok.hd,ok.frames,ok.stk,ok.exf,ok.bs,ok.bsz,ok.noex,ok.exfs,ok.funs,ok.frf⟩
section
variable {X:Cx}{Lz:List (G' × KP)}{σ:St}{H:Hp}{s:IZ}{E:IU->IZ->Prop}
theorem Inv.wish (I:Inv X Lz σ H s) (E:IU->IZ->Prop):Inv (X.wish E) Lz σ H s:=⟨I.ok.wish E,I.os,I.bare,I.base,I.loc,I.cell,I.free,I.freeC,I.pin,I.hok,I.len⟩
theorem Inv.unwish (I:Inv (X.wish E) Lz σ H s):Inv X Lz σ H s:=⟨I.ok.unwish,I.os,I.bare,I.base,I.loc,I.cell,I.free,I.freeC,I.pin,I.hok,I.len⟩
theorem SP.unwish {D:Ends}{f:Flow}{s':IZ}(h:SP (X.wish E) Lz D f s'):SP X Lz D f s':=by
 cases f with
|next=>obtain⟨σ',H',I,q⟩:=h;exact⟨σ',H',I.unwish,q⟩
|brk=>obtain⟨σ',H',I,q⟩:=h;exact⟨σ',H',I.unwish,q⟩
|cont=>obtain⟨σ',H',I,q⟩:=h;exact⟨σ',H',I.unwish,q⟩
|ret u=>obtain⟨v,σ',H',I,r,q⟩:=h;exact⟨v,σ',H',I.unwish,r,q⟩
theorem PSs.nox {st:List JY}{t:TS}(h:PSs X.nox st t):PSs X st t:=λLz s σ H D I hw =>
 Lu (h Lz s σ H D (I.wish _) hw) (λ_ _ q=>q.unwish) λ_ _ z=>Kj z
end
section
variable {X:Cx}{st:JY}{rest:List JY}{t u:TS}{e:Expr}{te:TE}{pos:Pos}
def Fj:TS:=λD σ H=>D.nx σ H
def Iv (t u:TS):TS:=λD σ H=>t { D with nx:=u D } σ H
def aq:PSs X [] Fj:=λ_ _ σ H _ I h=>wpAny_execs_nil ⟨σ,H,I,h⟩
def BU (h1:PS X st t) (h2:PSs X rest u):PSs X (st :: rest) (Iv t u):=by
 intro Lz s σ H D I h;refine wpAny_execs_cons (thn (h1 Lz s σ H { D with nx:=u D } I h) λf s1 q=>?_);cases f with
|next =>
  obtain⟨σ',H',I',q⟩:=q;exact h2 Lz s1 σ' H' D I' q
|ret v=>exact q
|brk=>exact q
|cont=>exact q
def ao (h1:PS X st t):PSs X [st] t:=by
 intro Lz s σ H D I h;refine wpAny_execs_cons (thn (h1 Lz s σ H D I h) λf s1 q=>?_);cases f with
|next=>exact wpAny_execs_nil q
|ret v=>exact q
|brk=>exact q
|cont=>exact q
def yV:PS X (.Pass pos) Fj:=λ_ _ σ H _ I h=>wpAny_Pass ⟨σ,H,I,h⟩
def Inv.quiet {Lz:List (G' × KP)}{σ:St}{H:Hp}{s:IZ}(I:Inv X Lz σ H s):interactive X.env=f':=by simp[interactive,I.ok.kind]
def GE (te:TE):TS:=λD σ H=>te σ H λ_ H1=>D.nx σ H1
def aB (he:PE X e te) (hs:swapsWith e IX pos.line X.env=pure f':=by rfl):PS X (.Expr e pos) (GE te):=by
 intro Lz s σ H D I h;exact wpAny_Expr_any (thn (he Lz s σ H _ I h) λv s1 uq1=>by(obtain⟨x,H1,I1,r1,q1⟩:=uq1;exact ⟨σ,H1,I1,q1⟩)) I.quiet hs
def Ih (te:TE):TS:=λD σ H=>te σ H D.rt
def Fu (he:PE X e te):PS X (.Return (dk e) pos) (Ih te):=by
 intro Lz s σ H D I h;exact wpAny_Return_some (thn (he Lz s σ H _ I h) λv s1 uq2=>by(obtain⟨x,H1,I1,r1,q1⟩:=uq2;exact ⟨x,σ,H1,I1,r1,q1⟩))
def HE:TS:=λD _ H=>D.rt .non H
def sM:PS X (.Return IX pos) HE:=λ_ _ σ H _ I h=>wpAny_Return_none ⟨.non,σ,H,I,rfl,h⟩
def Iq (c:TT) (t u:TS):TS:=λD σ H=>c σ H λb H1=>if b=l' then t D σ H1 else u D σ H1
def aS {c:Expr}{a b:List JY}{tc:TT}(hc:PT X c tc) (ha:PSs X a t) (hb:PSs X b u):PS X (.If c a b pos) (Iq tc t u):=by
 intro Lz s σ H D I h;refine wpAny_If (thn (hc Lz s σ H _ I h) λd s1 ur8=>?_);obtain⟨H1,I1,q1⟩:=ur8;cases d with
|true=>exact ha Lz s1 σ H1 D I1 q1
|false=>exact hb Lz s1 σ H1 D I1 q1
def FB:TS:=λ_ _ _=>False
def BE:PS X st FB:=λ_ _ _ _ _ _ h=>h.elim
end
abbrev TG:=V->St->Hp->(St->Hp->Prop)->Prop
abbrev TGs:=List V->St->Hp->(St->Hp->Prop)->Prop
def PG (X:Cx) (target:Expr) (t:TG):Prop :=
 ∀ (Lz:List (G' × KP)) (s:IZ) (σ:St) (H:Hp) (v:V) (u:IU) (Q:St->Hp->Prop),Inv X Lz σ H s->bT v u->t v σ H Q ->
  Jl (model X.prog X.w) X.A (assign target X.env u) (λ_ s'=>∃ σ' H',Inv X Lz σ' H' s'/\Q σ' H') X.xe s
def PGs (X:Cx) (ts:List Expr) (t:TGs):Prop :=
 ∀ (Lz:List (G' × KP)) (s:IZ) (σ:St) (H:Hp) (vs:List V) (us:List IU) (Q:St->Hp->Prop),Inv X Lz σ H s->bE vs us->t vs σ H Q ->
  Jl (model X.prog X.w) X.A (assignInOrder ((assignEach ts X.env).map (·.2)) us) (λ_ s'=>∃ σ' H',Inv X Lz σ' H' s'/\Q σ' H') X.xe s
abbrev Hs:=V->V->V->Hp->(Hp->Prop)->Prop
def Ia (X:Cx) (t:Hs):Prop :=
 ∀ (Lz:List (G' × KP)) (s:IZ) (σ:St) (H:Hp) (o i v:V) (ov iv u:IU) (Q:Hp->Prop),Inv X Lz σ H s->bT o ov->bT i iv->bT v u->t o i v H Q ->
  Jl (model X.prog X.w) X.A (setItem ov iv u) (λ_ s'=>∃ H',Inv X Lz σ H' s'/\Q H') X.xe s
section
variable {X:Cx}{pos:Pos}
def kF (i:Nat):TG:=λv σ H Q=>Q (σ.set i (dk v)) H
def bU {i:Nat}{x:Str}(hN:X.N.Nodup) (hi:X.N[i]?=dk x) (hx:Loc X.env.scope x) (hf:X.fn x=l'\/X.env.scope.names.lookup x=dk .local:=by first|exact .inl rfl|exact .inr rfl|assumption):PG X (.Name x pos) (kF i):=by
 intro Lz s σ H v u Q I r h;exact wpAny_assign_Name (wD I hN hi hx r (λs' I'=>⟨_,H,I',h⟩) hf)
def GP:TGs:=λvs σ H Q=>vs=[]/\Q σ H
def yK (t:TG) (u:TGs):TGs:=λvs σ H Q=>∃ v r,vs=v :: r/\t v σ H λσ' H'=>u r σ' H' Q
def Am:PGs X [] GP:=by
 intro Lz s σ H vs us Q I r h;obtain⟨e,h⟩:=h;subst e;cases r;exact assignInOrder_nil ⟨σ,H,I,h⟩
def jR {e:Expr}{es:List Expr}{t:TG}{u:TGs}(h1:PG X e t) (h2:PGs X es u)
 (hs:(assignEach (e :: es) X.env).map (·.2)=assign e X.env :: (assignEach es X.env).map (·.2):=by rfl):PGs X (e :: es) (yK t u):=by
 intro Lz s σ H vs us Q I r h;obtain⟨v,vr,e1,h⟩:=h;subst e1;cases r with
|cons r rr =>
  rw[hs];refine assignInOrder_cons (thn (h1 Lz s σ H _ _ _ I r h) λ_ s1 ur9=>?_);obtain⟨σ1,H1,I1,q1⟩:=ur9;exact h2 Lz s1 σ1 H1 _ _ Q I1 rr q1
def Hm (K:Ja) (n:Nat) (t:TGs):TG:=λv σ H Q=>∃ a xs,v=.ref a/\SqT K H a xs/\xs.length=n/\t xs σ H Q
def Dg {es:List Expr}{k:Nat}{t:TGs}{n:Nat}(hc:X.calm=l') (h:PGs X es t)
 (hn:(assignEach es X.env).length=n:=by rfl) (hst:(assignEach es X.env).findIdx? (·.1)=IX:=by rfl):PG X (.Tuple es k pos) (Hm X.K n t):=by
 intro Lz s σ H v u Q I r hw;obtain⟨a,xs,e1,hq,hl,hw⟩:=hw;subst e1;cases r;obtain⟨its,rv,ht,hz⟩:=I.tuple hq;refine assign_Tuple_tuple (I.ok.hd hc) ht (by simp[hn,<-hl,rv.length]) hst λh' hx=>?_
 have I1:Inv X Lz σ H { s with heap:=h' }:=I.kept (t':=s.toks) λb o e=>hx b o (Kc (Jr e)) e
 exact h Lz _ σ H xs _ Q I1 (by simpa using rv) hw
def IF (to ti:TE) (t:Hs):TG:=λv σ H Q=>to σ H λo H1=>ti σ H1 λi H2=>t o i v H2 λH3=>Q σ H3
def oQ {o i:Expr}{to ti:TE}{t:Hs}(ho:PE X o to) (hi:PE X i ti) (hs:Ia X t)
 (ha:∀ v,assign (.Subscript o i pos) X.env v=(do
  let ov <-holding [v] (eval o X.env);let iv <-holding [v,ov] (eval i X.env)
  standAt pos
  holding [v,ov,iv] (setItem ov iv v)
  release [v,ov,iv] []):=by intro _;rfl):PG X (.Subscript o i pos) (IF to ti t):=by
 intro Lz s σ H v u Q I r h;rw[ha];refine D' (Kl (thn (ho Lz s σ H _ I h) λov s1 ur10=>?_));obtain⟨x,H1,I1,r1,q1⟩:=ur10;refine D' (Kl (thn (hi Lz s1 σ H1 _ I1 q1) λiv s2 ⟨y,H2,I2,r2,q2⟩=>?_));refine D' (wpAny_standAt (D' (Kl (thn (hs Lz s2 σ H2 x y v ov iv u _ I2 r1 r2 r q2) λ_ s3 ur11=>?_))));obtain⟨H3,I3,q3⟩:=ur11;exact wpAny_release ⟨σ,H3,I3,q3⟩
def GT (te:TE) (g:TG):TS:=λD σ H=>te σ H λx H1=>g x σ H1 D.nx
def mU {tg e:Expr}{te:TE}{g:TG}(he:PE X e te) (hg:PG X tg g) (hs:swapsWithSole [tg] e pos.line X.env=pure f':=by rfl) (hw:swappedStores [tg] e X.env=pure IX:=by rfl)
 (h1:(assignEach [tg] X.env).map (·.2)=[assign tg X.env]:=by rfl):PS X (.Assign [tg] e pos) (GT te g):=by
 intro Lz s σ H D I h;refine wpAny_Assign_stores (thn (he Lz s σ H _ I h) λv s1 ur12=>?_) hs hw;obtain⟨x,H1,I1,r1,q1⟩:=ur12;rw[h1];exact thn (hg Lz s1 σ H1 x v _ I1 r1 q1) λ_ s2 q=>q
def b9 {i:Nat}{x:Str}{e:Expr}{te:TE}{pos':Pos}(hN:X.N.Nodup) (hi:X.N[i]?=dk x) (hx:Loc X.env.scope x) (he:PE X e te) (hs:swapsWith e (dk (.Name x pos')) pos.line X.env=pure f':=by rfl) (hf:X.fn x=l'\/X.env.scope.names.lookup x=dk .local:=by first|exact .inl rfl|exact .inr rfl|assumption) :
 PS X (.Assign [.Name x pos'] e pos) (GT te (kF i)):=by
 intro Lz s σ H D I h;refine wpAny_Assign_Name (thn (he Lz s σ H _ I h) λv s1 ur13=>?_) hs;obtain⟨y,H1,I1,r1,q1⟩:=ur13;exact wD I1 hN hi hx r1 (λs2 I2=>⟨_,H1,I2,q1⟩) hf
end
section
variable {X:Cx}{pos:Pos}
def FI (c:TT) (tb:TS):TS:=λD σ H=>∃ W:Nat->St->Hp->Prop,(∃ m,W m σ H)/\∀ m σ H,W m σ H ->
 c σ H λb H1=>if b=l' then ∃ N:St->Hp->Prop,(∀ σ' H',N σ' H'->∃ m',m' < m/\W m' σ' H')/\tb { D with nx:=N,ct:=N,bk:=D.nx } σ H1 else D.nx σ H1
def nO {c:Expr}{body:List JY}{tc:TT}{tb:TS}(hp:PassesOwn (model X.prog X.w) X.A X.env X.xe) (hc:PT X c tc) (hb:PSs X body tb):PS X (.While c body [] pos) (FI tc tb):=by
 intro Lz s σ H D I h;obtain⟨W,⟨m0,w0⟩,turn⟩:=h;refine wpAny_While (codeAny_whileLoop (λn s'=>∃ σ' H',Inv X Lz σ' H' s'/\W n σ' H') ?_ m0 ⟨σ,H,I,w0⟩);rintro n s1 ⟨σ1,H1,I1,w1⟩;refine Lq hp (thn (hc Lz s1 σ1 H1 _ I1 (turn n σ1 H1 w1)) λb s2 ur14=>?_);obtain⟨H2,I2,q2⟩:=ur14;cases b with
|true =>
  obtain⟨N,hN,q2⟩:=q2;rw[Pa rfl];refine Lq hp (thn (hb Lz s2 σ1 H2 _ I2 q2) λf s3 q3=>?_);cases f with
 |next =>
   obtain⟨σ3,H3,I3,n3⟩:=q3;obtain⟨m',hm,w3⟩:=hN σ3 H3 n3;exact⟨m',hm,σ3,H3,I3,w3⟩
 |cont =>
   obtain⟨σ3,H3,I3,n3⟩:=q3;obtain⟨m',hm,w3⟩:=hN σ3 H3 n3;exact⟨m',hm,σ3,H3,I3,w3⟩
 |brk=>exact q3
 |ret v=>exact q3
|false =>
  rw[Pb Jo];exact wpAny_execs_nil ⟨σ1,H2,I2,q2⟩
end
structure It where
 go:Nat->Hp->Prop
 yld:Nat->Hp->V->Hp->Prop
 stop:Nat->Hp->Prop
def xB (X:Cx) (Lz:List (G' × KP)) (H:Hp) (b:G'):Prop :=
 H b=IX/\b≠X.env.locals/\b ∉ X.fs/\(b∈X.ex\/X.s₀.heap.objs.size <= b)/\(∀ x c,X.env.cells.lookup x=dk c->c≠b)/\∀ p∈X.pn++Lz,p.1≠b
def Inv.fpOk {X:Cx}{Lz:List (G' × KP)}{σ:St}{H H':Hp}{s:IZ}{b:G'}(I:Inv X Lz σ H s) (hb:s.heap.objs.size <= b) (hn:H' b=IX):xB X Lz H' b:=by
 refine⟨hn,ne_of_gt (Jf I.lt hb),I.nofs hb,.inr (JT I.sz hb),λx c e z=>?_,λp hp z=>?_⟩
 . obtain⟨v,q⟩:=I.cell x c e;exact absurd (Jf q.lt (by rw[z];exact hb)) (Lv _)
 . exact absurd (Jf (Jr (I.pin p hp).1) (by rw[z];exact hb)) (Lv _)
structure Turn (P:Jy) (w:Jj) (K:Ja) (tg:Expr) (J:It) (fp:List G') (it:G') (tn:Nat->JD->Prop):Prop where
 mem:it∈fp
 obj:∀ i h,tn i h->∀ b∈fp,∃ o,h.get? b=dk o/\∀ v,o.data≠.cell v
 keep:∀ i h h',tn i h->(∀ b∈fp,∀ o,h.get? b=dk o->h'.get? b=dk o)->tn i h'
 item:∀ (X:Cx),X.prog=P->X.w=w->X.K=K->X.calm=l'->∀ (i:Nat) (Lz:List (G' × KP)) (s:IZ) (σ:St) (H:Hp) (E:IU->IZ->Prop),Inv X Lz σ H s->(∀ b∈fp,xB X Lz H b)->tn i s.heap->J.go i H ->
  Jl (model P w) X.A (pyNext (.ref it)) (λr s1=>∃ u,r=dk u /\
   Jl (model P w) X.A (letOwnedTupleGo tg (.ref it) u) (λ_ s2=>∃ x H',Inv X Lz σ H' s2/\bT x u/\J.yld i H x H'/\tn (i+1) s2.heap/\∀ b∈fp,H' b=IX) E s1) E s
 done:∀ (X:Cx),X.prog=P->X.w=w->X.K=K->X.calm=l'->∀ (i:Nat) (Lz:List (G' × KP)) (s:IZ) (σ:St) (H:Hp) (E:IU->IZ->Prop),Inv X Lz σ H s->(∀ b∈fp,xB X Lz H b)->tn i s.heap->J.stop i H ->
  Jl (model P w) X.A (pyNext (.ref it)) (λr s1=>r=IX/\Inv X Lz σ H s1) E s
 self:∀ (A:JN) (i:Nat) (s:IZ) (Q:IU->IZ->Prop) (E:IU->IZ->Prop),tn i s.heap->Q (.ref it) s->Jl (model P w) A (pyIter (.ref it)) Q E s
abbrev TI:=St->Hp->(It->Hp->Prop)->Prop
def PIE (X:Cx) (Lz:List (G' × KP)) (σ:St) (tg:Expr) (R:It->Hp->Prop) (itv:IU) (s2:IZ):Prop :=
 ∃ (it:G') (fp:List G') (tn:Nat->JD->Prop) (J:It) (H':Hp),itv=.ref it/\Inv X Lz σ H' s2/\Turn X.prog X.w X.K tg J fp it tn/\tn 0 s2.heap/\(∀ b∈fp,xB X Lz H' b)/\R J H'
def PI (X:Cx) (tg iter:Expr) (wi:TI):Prop :=
 ∀ (Lz:List (G' × KP)) (s:IZ) (σ:St) (H:Hp) (R:It->Hp->Prop),Inv X Lz σ H s->wi σ H R ->
  Jl (model X.prog X.w) X.A (eval iter X.env) (λv s1=>Jl (model X.prog X.w) X.A (pyIter v) (PIE X Lz σ tg R) X.xe s1) X.xe s
def zg {M:Model}{A:JN}{E:IU->IZ->Prop}{s:IZ}{tg:Expr}{it:G'}{u:IU}{o:KP}{n:String}{vs:Array IU}{Q:Unit->IZ->Prop}(ho:s.heap.get? it=dk o) (hc:o.cls=.type n) (hd:o.data=.fields vs)
 (hn:["enumerate","zip","dict_itemiterator","dict_reverseitemiterator","odict_iterator","itertools.zip_longest","itertools.pairwise"].contains n=f') (hQ:Q () s):Jl M A (letOwnedTupleGo tg (.ref it) u) Q E s:=by
 unfold letOwnedTupleGo;cases tg<;>first
 |exact IY hQ
 |(cases u<;>first
  |exact IY hQ
  |(refine D' (wpAny_load ho ?_)
    rw[hc,hd];show Jl M A (if (["enumerate","zip","dict_itemiterator","dict_reverseitemiterator","odict_iterator","itertools.zip_longest","itertools.pairwise"].contains n && vs[0]? == dk (rawInt _))=l' then _ else _) Q E s;rw[Pb (by intro h;rw[hn,Bool.false_and]at h;cases h)];exact IY hQ))
def Itl (K:Ja) (a:G'):It :=
 ⟨λi H=>∃ xs x,SqL K H a xs/\xs[i]?=dk x,λi H x H'=>H'=H/\∀ xs,SqL K H a xs->xs[i]?=dk x,λi H=>∃ xs,SqL K H a xs/\xs.length <= i⟩
def Itt (K:Ja) (a:G'):It :=
 ⟨λi H=>∃ xs x,SqT K H a xs/\xs[i]?=dk x,λi H x H'=>H'=H/\∀ xs,SqT K H a xs->xs[i]?=dk x,λi H=>∃ xs,SqT K H a xs/\xs.length <= i⟩
def Itr (lo:Int) (n:Nat):It:=⟨λi _=>i < n,λi H x H'=>H'=H/\x=.int (lo+i),λi _=>n <= i⟩
def yZ {P:Jy}{w:Jj}{K:Ja}{tg:Expr}(a it:G'):Turn P w K tg (Itl K a) [it] it (λi h=>h.IsListIter it a i) where
 mem:=by simp
 obj:=λi h st b hb=>by
  have e:b=it:=by simpa using hb
  subst e;obtain⟨o,e,c,d⟩:=st;exact⟨o,e,λv z=>by rw[d]at z;cases z⟩
 keep:=λi h h' st k=>st.at λo e=>k it (by simp) o e
 item:=by
  intro X hP hw hK hc i Lz s σ H E I hf st hg;subst hP hw hK;obtain⟨xs,x,hq,hx⟩:=hg;obtain⟨its,rv,p,hz⟩:=I.list hq;obtain⟨u,hu,ru⟩:=rv.get hx;obtain⟨f0,f1,f2,f3,f4,f5⟩:=hf it (by simp);refine wpAny_pyNext_list_item st p.isList (x:=u) (by simpa using hu) λh' st' sb=>?_
  have I1:Inv X Lz σ H { s with heap:=h' }:=I.turned (t':=s.toks) (λb o hb e=>(sb.2 b hb).trans e) f0 f1 f3 f4 f5;obtain⟨o,e,c,d⟩:=id st';exact⟨u,rfl,zg (s:={ s with heap:=h' }) e c d (by decide) ⟨x,H,I1,ru,⟨rfl,λys hy=>by rw[I.list_inj hy hq];exact hx⟩,st',λb hb=>(hf b hb).1⟩⟩
 done:=by
  intro X hP hw hK hc i Lz s σ H E I hf st hg;subst hP hw hK;obtain⟨xs,hq,hx⟩:=hg;obtain⟨its,rv,p,hz⟩:=I.list hq;obtain⟨f0,f1,f2,f3,f4,f5⟩:=hf it (by simp);have hl:=rv.length;exact wpAny_pyNext_list_end (I.ok.hd hc) st p.isList (by simp;omega) λh' eb=>⟨rfl,I.turned (t':=s.toks) (λb o hb e=>eb b o hb e) f0 f1 f3 f4 f5⟩
 self:=λ_ _ _ _ _ st h=>wpAny_pyIter_listiter st h
def xw {P:Jy}{w:Jj}{K:Ja}{tg:Expr}(a it:G'):Turn P w K tg (Itt K a) [it] it (λi h=>h.IsTupleIter it a i) where
 mem:=by simp
 obj:=λi h st b hb=>by
  have e:b=it:=by simpa using hb
  subst e;obtain⟨o,e,c,d⟩:=st;exact⟨o,e,λv z=>by rw[d]at z;cases z⟩
 keep:=λi h h' st k=>st.at λo e=>k it (by simp) o e
 item:=by
  intro X hP hw hK hc i Lz s σ H E I hf st hg;subst hP hw hK;obtain⟨xs,x,hq,hx⟩:=hg;obtain⟨its,rv,p,hz⟩:=I.tuple hq;obtain⟨u,hu,ru⟩:=rv.get hx;obtain⟨f0,f1,f2,f3,f4,f5⟩:=hf it (by simp);refine wpAny_pyNext_tuple_item st (show s.heap.IsTuple a its.toArray from p) (x:=u) (by simpa using hu) λh' st' sb=>?_
  have I1:Inv X Lz σ H { s with heap:=h' }:=I.turned (t':=s.toks) (λb o hb e=>(sb.2 b hb).trans e) f0 f1 f3 f4 f5;obtain⟨o,e,c,d⟩:=id st';exact⟨u,rfl,zg (s:={ s with heap:=h' }) e c d (by decide) ⟨x,H,I1,ru,⟨rfl,λys hy=>by rw[I.tuple_inj hy hq];exact hx⟩,st',λb hb=>(hf b hb).1⟩⟩
 done:=by
  intro X hP hw hK hc i Lz s σ H E I hf st hg;subst hP hw hK;obtain⟨xs,hq,hx⟩:=hg;obtain⟨its,rv,p,hz⟩:=I.tuple hq;obtain⟨f0,f1,f2,f3,f4,f5⟩:=hf it (by simp);have hl:=rv.length;exact wpAny_pyNext_tuple_end (I.ok.hd hc) st (show s.heap.IsTuple a its.toArray from p) (by simp;omega) λh' eb=>⟨rfl,I.turned (t':=s.toks) (λb o hb e=>eb b o hb e) f0 f1 f3 f4 f5⟩
 self:=λ_ _ _ _ _ st h=>wpAny_pyIter_tupleiter st h
def xx {P:Jy}{w:Jj}{K:Ja}{tg:Expr}(it:G') (lo:Int) (n:Nat):Turn P w K tg (Itr lo n) [it] it (λi h=>IsRangeIter h it (lo+(i:Nat) * 1) ((n:Int) - (i:Nat)) 1) where
 mem:=by simp
 obj:=λi h st b hb=>by
  have e:b=it:=by simpa using hb
  subst e;exact⟨_,st,λv z=>by
   have z':Data.fields _=Data.cell v:=z;cases z'⟩
 keep:=λi h h' st k=>k it (by simp) _ st
 item:=by
  intro X hP hw hK hc i Lz s σ H E I hf st hg;subst hP hw hK;obtain⟨f0,f1,f2,f3,f4,f5⟩:=hf it (by simp);have W:=Walks.range (prog:=X.prog) (w:=X.w) (I.ok.hd hc) it lo 1 n;refine W.item i s _ _ hg st λv h' tk hv st' kk=>?_
  obtain⟨t,rfl⟩:=hv;have I1:Inv X Lz σ H { s with heap:=h',toks:=tk }:=I.turned (λb o hb e=>kk b o (by simpa using hb) e) f0 f1 f3 f4 f5;refine⟨_,rfl,zg (s:={ s with heap:=h',toks:=tk }) (n:="range_iterator") st' rfl rfl (by decide) ⟨.int (lo+i),H,I1,⟨t,?_⟩,⟨rfl,rfl⟩,st',λb hb=>(hf b hb).1⟩⟩;rw[Int.mul_one]
 done:=by
  intro X hP hw hK hc i Lz s σ H E I hf st hg;subst hP hw hK;obtain⟨f0,f1,f2,f3,f4,f5⟩:=hf it (by simp);exact wpAny_pyNext_range_end (I.ok.hd hc) st (by have:n <= i:=hg;omega) λh' eb=>⟨rfl,I.turned (t':=s.toks) (λb o hb e=>eb b o hb e) f0 f1 f3 f4 f5⟩
 self:=λ_ _ _ _ _ st h=>wpAny_pyIter_rangeiter st h
section
variable {X:Cx}{tg:Expr}
def He (K:Ja) (tl:TE):TI:=λσ H R=>tl σ H λx H1=>∃ a,x=.ref a/\(∃ xs,SqL K H1 a xs)/\R (Itl K a) H1
def II (K:Ja) (tl:TE):TI:=λσ H R=>tl σ H λx H1=>∃ a,x=.ref a/\(∃ xs,SqT K H1 a xs)/\R (Itt K a) H1
def jD {l:Expr}{tl:TE}(hl:PE X l tl):PI X tg l (He X.K tl):=by
 intro Lz s σ H R I h;refine thn (hl Lz s σ H _ I h) λv s1 ur15=>?_
 obtain⟨x,H1,I1,r1,q1⟩:=ur15;obtain⟨a,e,⟨xs,hq⟩,q⟩:=q1;subst e;cases r1;obtain⟨its,rv,p,hz⟩:=I1.list hq;refine wpAny_pyIter_list p.isList ?_;refine⟨s1.heap.objs.size,[s1.heap.objs.size],_,_,H1,rfl,I1.kept (t':=s1.toks) λb o e=>Jc _ e,yZ a _,⟨_,Jq _ rfl,rfl,rfl⟩,λb hb=>?_,q⟩;have e:b=s1.heap.objs.size:=by simpa using hb
 subst e;exact I1.fpOk (Jd _) (I1.hok.fresh (Jd _))
def t9 {l:Expr}{tl:TE}(hl:PE X l tl):PI X tg l (II X.K tl):=by
 intro Lz s σ H R I h;refine thn (hl Lz s σ H _ I h) λv s1 ur16=>?_
 obtain⟨x,H1,I1,r1,q1⟩:=ur16;obtain⟨a,e,⟨xs,hq⟩,q⟩:=q1;subst e;cases r1;obtain⟨its,rv,p,hz⟩:=I1.tuple hq;refine wpAny_pyIter_tuple (show s1.heap.IsTuple a its.toArray from p) ?_;refine⟨s1.heap.objs.size,[s1.heap.objs.size],_,_,H1,rfl,I1.kept (t':=s1.toks) λb o e=>Jc _ e,xw a _,⟨_,Jq _ rfl,rfl,rfl⟩,λb hb=>?_,q⟩;have e:b=s1.heap.objs.size:=by simpa using hb
 subst e;exact I1.fpOk (Jd _) (I1.hok.fresh (Jd _))
def AW {Lz:List (G' × KP)}{σ:St}{H:Hp}{s:IZ}{R:It->Hp->Prop}{E:IU->IZ->Prop}{lo hi:Int}{t u v:Tok}{tk:Nat}(I:Inv X Lz σ H s) (h1:-(2 ^ 62) <= lo) (h2:lo < 2 ^ 62) (h3:-(2 ^ 62) <= hi) (h4:hi < 2 ^ 62)
 (q:R (Itr lo (hi - lo).toNat) H):Jl (model X.prog X.w) X.A (pyIter (.ref s.heap.objs.size)) (PIE X Lz σ tg R) E { s with heap:=s.heap.push { cls:=.type "range",data:=.fields #[.int lo t,.int hi u,.int 1 v] },toks:=tk }:=by
 refine wpAny_pyIter_range (IsRange.new ..) (small_one h1 h2 h3 h4) ?_;have I1:Inv X Lz σ H { s with heap:=s.heap.push { cls:=.type "range",data:=.fields #[.int lo t,.int hi u,.int 1 v] },toks:=tk }:=I.kept λb o e=>Jc _ e
 refine⟨(s.heap.push { cls:=.type "range",data:=.fields #[.int lo t,.int hi u,.int 1 v] }).objs.size,[(s.heap.push { cls:=.type "range",data:=.fields #[.int lo t,.int hi u,.int 1 v] }).objs.size],_,_,H,rfl,
  I1.kept (t':=tk) λb o e=>Jc _ e,xx _ lo (hi - lo).toNat,?_,λb hb=>?_,q⟩
 . have e1:lo+((0:Nat):Int) * 1=lo:=by simp
   have e2:(((hi - lo).toNat:Nat):Int) - ((0:Nat):Int)=Builtin.Range.rangeSize lo hi 1:=by rw[rangeSize_one];split<;>omega
   show IsRangeIter _ _ (lo+((0:Nat):Int) * 1) ((((hi - lo).toNat:Nat):Int) - ((0:Nat):Int)) 1;rw[e1,e2];exact Jq _ rfl
 . have e:b=(s.heap.push { cls:=.type "range",data:=.fields #[.int lo t,.int hi u,.int 1 v] }).objs.size:=by simpa using hb
   subst e;exact I1.fpOk (Jd _) (I1.hok.fresh (Jd _))
def Hq (ta:TA):TI:=λσ H R=>ta σ H λvs H1=>∃ j:Int,vs=[.int j]/\-(2 ^ 62) <= j/\j < 2 ^ 62/\R (Itr 0 j.toNat) H1
def hU {a:Expr}{ta:TA}{p pos:Pos}(hg:Gl X "range") (hm:X.mg "range"=IX) (ha:PA X [a] ta) (hs:JG [a] X.env=[(f',eval a X.env)]:=by rfl):PI X tg (.Call (.Name "range" p) [a] [] pos) (Hq ta):=by
 intro Lz s σ H R I h;refine Call_ (oY I hg hm boot_range (Ld (thn (ha pos Lz s σ H _ I h) λus s1 ur17=>?_) hs rfl));obtain⟨vs,H1,I1,r1,q1⟩:=ur17;obtain⟨j,e,q1,q2,q⟩:=q1;subst e;cases r1 with
|cons r rr =>
  cases rr;obtain⟨t,rfl⟩:=r;exact call_range_1 (AW I1 (by omega) (by omega) q1 q2 (by simpa using q))
def Ix (wi:TI) (g:TG) (tb:TS):TS:=λD σ H=>wi σ H λJ H1=>∃ W:Nat->Nat->St->Hp->Prop,(∃ m,W 0 m σ H1)/\∀ i m σ H,W i m σ H ->
 (J.stop i H/\D.nx σ H)\/(J.go i H/\∃ N:St->Hp->Prop,(∀ σ' H',N σ' H'->∃ m',m' < m/\W (i+1) m' σ' H')/\∀ x H',J.yld i H x H'->g x σ H' λσ2 H2=>tb { D with nx:=N,ct:=N,bk:=D.nx } σ2 H2)
def tG (fp:List G') (h:JD):List (G' × KP):=fp.filterMap λb=>(h.get? b).map λo=>(b,o)
def jT {fp:List G'}{h:JD}{b:G'}{o:KP}(hb:b∈fp) (e:h.get? b=dk o):(b,o)∈tG fp h:=mem_filterMap.mpr ⟨b,hb,by rw[e];rfl⟩
def yk {fp:List G'}{h:JD}{p:G' × KP}(hp:p∈tG fp h):p.1∈fp/\h.get? p.1=dk p.2:=by
 obtain⟨b,hb,e⟩:=mem_filterMap.mp hp;cases q:h.get? b with
|none=>rw[q]at e;cases e
|some o =>
  rw[q]at e;have e':(b,o)=p:=Jt e;subst e';exact⟨hb,q⟩
def Inv.pinned {Lz:List (G' × KP)}{σ:St}{H:Hp}{s:IZ}{fp:List G'}(I:Inv X Lz σ H s) (hf:∀ b∈fp,xB X Lz H b) (ho:∀ b∈fp,∃ o,s.heap.get? b=dk o/\∀ v,o.data≠.cell v):Inv X (Lz++tG fp s.heap) σ H s :=
 I.pins_of λp hp=>(JB.mp hp).elim (λz=>I.pin p (KC _ z)) λz=>by
  obtain⟨hb,e⟩:=yk z;obtain⟨f0,f1,f2,_⟩:=hf p.1 hb;obtain⟨o,e',d⟩:=ho p.1 hb;rw[e]at e';cases e';exact⟨e,f0,f1,f2,d⟩
def Inv.unpinned {Lz pl:List (G' × KP)}{σ:St}{H:Hp}{s:IZ}(I:Inv X (Lz++pl) σ H s):Inv X Lz σ H s:=I.pins_of λp hp=>I.pin p (KC _ (List.mem_append_left _ hp))
def hZ {iter:Expr}{body:List JY}{wi:TI}{g:TG}{tb:TS}{pos:Pos}(hp:PassesOwn (model X.prog X.w) X.A X.env X.xe) (hc:X.calm=l') (hi:PI X tg iter wi) (hg:PG X tg g) (hb:PSs X body tb)
 (hs:∀ x,foldedSetIterable iter X.env x=pure x:=by intro _;rfl):PS X (.For tg iter body [] pos) (Ix wi g tb):=by
 intro Lz s σ H D I h;refine wpAny_For (thn (hi Lz s σ H _ I h) λv s1 h1=>thn h1 λitv s2 h2=>?_) hs;obtain⟨it,fp,tn,J,H2,e,I2,T,st2,f2,W,⟨m0,w0⟩,turn⟩:=h2;subst e;have stat:∀ {H':Hp},(∀ b∈fp,H' b=IX)->∀ b∈fp,xB X Lz H' b:=λhn b hb=>⟨hn b hb,(f2 b hb).2⟩
 refine codeAny_forLoop_any (λn s'=>∃ i σ' H',Inv X Lz σ' H' s'/\tn i s'.heap/\(∀ b∈fp,H' b=IX)/\W i n σ' H') ?_ m0 ⟨0,σ,H2,I2,st2,λb hb=>(f2 b hb).1,w0⟩;rintro n s3 ⟨i,σ3,H3,I3,st3,fr3,w3⟩;rcases turn i n σ3 H3 w3 with⟨stop,qn⟩|⟨go,N,hN,step⟩
 . refine Lq hp (thn (T.done X rfl rfl rfl hc i Lz s3 σ3 H3 X.xe I3 (stat fr3) st3 stop) λr s4 ur18=>?_);obtain⟨hr,I4⟩:=ur18;subst hr;exact wpAny_execs_nil ⟨σ3,H3,I4,qn⟩
 . refine Lq hp (thn (T.item X rfl rfl rfl hc i Lz s3 σ3 H3 X.xe I3 (stat fr3) st3 go) λr s4 ur19=>?_);obtain⟨u,hr,h4⟩:=ur19;subst hr;refine Lq hp (thn h4 λ_ s5 ur20=>?_);obtain⟨x,H5,I5,r5,y5,st5,fr5⟩:=ur20;have I5':=I5.pinned (stat fr5) (T.obj _ _ st5);refine Lq hp (thn (hg _ s5 σ3 H5 x u _ I5' r5 (step x H5 y5)) λ_ s6 ur21=>?_);obtain⟨σ6,H6,I6,q6⟩:=ur21;refine Lq hp (thn (hb _ s6 σ6 H6 _ I6 q6) λf s7 q7=>?_);have again:∀ {σ7:St} {H7:Hp},Inv X (Lz++tG fp s5.heap) σ7 H7 s7->N σ7 H7->∃ m,m < n/\∃ i σ' H',Inv X Lz σ' H' s7/\tn i s7.heap/\(∀ b∈fp,H' b=IX)/\W i m σ' H':=λ{σ7 H7} I7 n7=>by
    obtain⟨m',hm,w7⟩:=hN σ7 H7 n7;refine⟨m',hm,i+1,σ7,H7,I7.unpinned,T.keep _ _ _ st5 λb hb o e=>(I7.pin (b,o) (KC _ (KC _ (jT hb e)))).1,λb hb=>?_,w7⟩;obtain⟨o,e,d⟩:=T.obj _ _ st5 b hb;exact(I7.pin (b,o) (KC _ (KC _ (jT hb e)))).2.1
   cases f with
  |next=>obtain⟨σ7,H7,I7,n7⟩:=q7;exact again I7 n7
  |cont=>obtain⟨σ7,H7,I7,n7⟩:=q7;exact again I7 n7
  |brk=>obtain⟨σ7,H7,I7,q7⟩:=q7;exact⟨σ7,H7,I7.unpinned,q7⟩
  |ret v=>obtain⟨x7,σ7,H7,I7,r7,q7⟩:=q7;exact⟨x7,σ7,H7,I7.unpinned,r7,q7⟩
end
def nS {K:Ja}{a:G'}{xs:List V}{g:TG}{tb:TS}{D:Ends}{σ:St}{H:Hp}(Pv:Nat->St->Hp->Prop) (h0:Pv 0 σ H) (hl:∀ i σ H,i <= xs.length->Pv i σ H->SqL K H a xs)
 (hs:∀ i x σ H,xs[i]?=dk x->Pv i σ H->g x σ H λσ2 H2=>tb { D with nx:=Pv (i+1),ct:=Pv (i+1),bk:=D.nx } σ2 H2) (hd:∀ σ H,Pv xs.length σ H->D.nx σ H) :
 ∃ W:Nat->Nat->St->Hp->Prop,(∃ m,W 0 m σ H)/\∀ i m σ H,W i m σ H ->
  ((Itl K a).stop i H/\D.nx σ H)\/((Itl K a).go i H/\∃ N:St->Hp->Prop,(∀ σ' H',N σ' H'->∃ m',m' < m/\W (i+1) m' σ' H')/\∀ x H',(Itl K a).yld i H x H'->g x σ H' λσ2 H2=>tb { D with nx:=N,ct:=N,bk:=D.nx } σ2 H2):=by
 refine⟨λi m σ H=>m=xs.length - i/\i <= xs.length/\Pv i σ H,⟨xs.length,by simp,Kq _,h0⟩,?_⟩;rintro i m σ H ⟨rfl,hi,p⟩;have q:=hl i σ H hi p;by_cases hlt:i < xs.length
 . refine .inr ⟨⟨xs,xs[i],q,by simp[hlt]⟩,Pv (i+1),λσ' H' p'=>⟨xs.length - (i+1),by omega,rfl,hlt,p'⟩,λx H' y=>?_⟩;obtain⟨e,y⟩:=y;subst e;exact hs i x σ _ (y xs q) p
 . have e:i=xs.length:=by omega
   subst e;exact .inl ⟨⟨xs,q,Jd _⟩,hd σ H p⟩
def uV {K:Ja}{a:G'}{xs:List V}{g:TG}{tb:TS}{D:Ends}{σ:St}{H:Hp}(Pv:Nat->St->Hp->Prop) (h0:Pv 0 σ H) (hl:∀ i σ H,i <= xs.length->Pv i σ H->SqT K H a xs)
 (hs:∀ i x σ H,xs[i]?=dk x->Pv i σ H->g x σ H λσ2 H2=>tb { D with nx:=Pv (i+1),ct:=Pv (i+1),bk:=D.nx } σ2 H2) (hd:∀ σ H,Pv xs.length σ H->D.nx σ H) :
 ∃ W:Nat->Nat->St->Hp->Prop,(∃ m,W 0 m σ H)/\∀ i m σ H,W i m σ H ->
  ((Itt K a).stop i H/\D.nx σ H)\/((Itt K a).go i H/\∃ N:St->Hp->Prop,(∀ σ' H',N σ' H'->∃ m',m' < m/\W (i+1) m' σ' H')/\∀ x H',(Itt K a).yld i H x H'->g x σ H' λσ2 H2=>tb { D with nx:=N,ct:=N,bk:=D.nx } σ2 H2):=by
 refine⟨λi m σ H=>m=xs.length - i/\i <= xs.length/\Pv i σ H,⟨xs.length,by simp,Kq _,h0⟩,?_⟩;rintro i m σ H ⟨rfl,hi,p⟩;have q:=hl i σ H hi p;by_cases hlt:i < xs.length
 . refine .inr ⟨⟨xs,xs[i],q,by simp[hlt]⟩,Pv (i+1),λσ' H' p'=>⟨xs.length - (i+1),by omega,rfl,hlt,p'⟩,λx H' y=>?_⟩;obtain⟨e,y⟩:=y;subst e;exact hs i x σ _ (y xs q) p
 . have e:i=xs.length:=by omega
   subst e;exact .inl ⟨⟨xs,q,Jd _⟩,hd σ H p⟩
def hX {lo:Int}{n:Nat}{g:TG}{tb:TS}{D:Ends}{σ:St}{H:Hp}(Pv:Nat->St->Hp->Prop) (h0:Pv 0 σ H)
 (hs:∀ i σ H,i < n->Pv i σ H->g (.int (lo+i)) σ H λσ2 H2=>tb { D with nx:=Pv (i+1),ct:=Pv (i+1),bk:=D.nx } σ2 H2) (hd:∀ σ H,Pv n σ H->D.nx σ H) :
 ∃ W:Nat->Nat->St->Hp->Prop,(∃ m,W 0 m σ H)/\∀ i m σ H,W i m σ H ->
  ((Itr lo n).stop i H/\D.nx σ H)\/((Itr lo n).go i H/\∃ N:St->Hp->Prop,(∀ σ' H',N σ' H'->∃ m',m' < m/\W (i+1) m' σ' H')/\∀ x H',(Itr lo n).yld i H x H'->g x σ H' λσ2 H2=>tb { D with nx:=N,ct:=N,bk:=D.nx } σ2 H2):=by
 refine⟨λi m σ H=>m=n - i/\i <= n/\Pv i σ H,⟨n,by simp,Kq _,h0⟩,?_⟩;rintro i m σ H ⟨rfl,hi,p⟩;by_cases hlt:i < n
 . refine .inr ⟨hlt,Pv (i+1),λσ' H' p'=>⟨n - (i+1),by omega,rfl,hlt,p'⟩,λx H' y=>?_⟩;obtain⟨e,y⟩:=y;subst e y;exact hs i σ _ hlt p
 . have e:i=n:=by omega
   subst e;exact .inl ⟨Jd _,hd σ H p⟩
abbrev R2:=V->V->Hp->VK->Prop
def OpR (X:Cx) (f:IU->IU->Sem IU) (r:R2):Prop :=
 ∀ (Lz:List (G' × KP)) (s:IZ) (σ:St) (H:Hp) (x y:V) (v u:IU) (Q:VK),Inv X Lz σ H s->bT x v->bT y u->r x y H Q ->
  Jl (model X.prog X.w) X.A (f v u) (EP X Lz σ Q) X.xe s
def UnR (X:Cx) (f:IU->Sem IU) (r:V->Hp->VK->Prop):Prop :=
 ∀ (Lz:List (G' × KP)) (s:IZ) (σ:St) (H:Hp) (x:V) (v:IU) (Q:VK),Inv X Lz σ H s->bT x v->r x H Q ->
  Jl (model X.prog X.w) X.A (f v) (EP X Lz σ Q) X.xe s
def q9 (X:Cx) (f:IU) (r:List V->Hp->VK->Prop):Prop :=
 ∀ (Lz:List (G' × KP)) (s:IZ) (σ:St) (H:Hp) (xs:List V) (us:List IU) (Q:VK),Inv X Lz σ H s->bE xs us->r xs H Q ->
  Jl (model X.prog X.w) X.A (call f us) (EP X Lz σ Q) X.xe s
def IK (X:Cx) (r:V->Hp->(Bool->Hp->Prop)->Prop):Prop :=
 ∀ (Lz:List (G' × KP)) (s:IZ) (σ:St) (H:Hp) (x:V) (v:IU) (Q:Bool->Hp->Prop),Inv X Lz σ H s->bT x v->r x H Q ->
  Jl (model X.prog X.w) X.A (truthy v) (TP X Lz σ Q) X.xe s
def tOp (r:R2) (ta tb:TE):TE:=λσ H Q=>ta σ H λx H1=>tb σ H1 λy H2=>r x y H2 Q
def tUn (r:V->Hp->VK->Prop) (ta:TE):TE:=λσ H Q=>ta σ H λx H1=>r x H1 Q
def rI (C:Int->Int->Prop) (g:Int->Int->V):R2:=λx y H Q=>∃ i j,x=.int i/\y=.int j/\C i j/\Q (g i j) H
def rI0 (g:Int->Int->V):R2:=λx y H Q=>∃ i j,x=.int i/\y=.int j/\Q (g i j) H
def rU (g:Int->V):V->Hp->VK->Prop:=λx H Q=>∃ i,x=.int i/\Q (g i) H
section
variable {X:Cx}{a b c:Expr}{ta tb tc:TE}{pos:Pos}
def Hf (ha:PE X a ta) (hb:PE X b tb) {Lz:List (G' × KP)}{s:IZ}{σ:St}{H:Hp}{R:V->V->Hp->Prop}(I:Inv X Lz σ H s)
 (h:ta σ H λx H1=>tb σ H1 λy H2=>R x y H2) {Q:IU->IZ->Prop} {f:IU->IU->Sem IU}
 (hf:∀ v u s2 x y H2,Inv X Lz σ H2 s2->bT x v->bT y u->R x y H2->Jl (model X.prog X.w) X.A (f v u) Q X.xe s2) :
 Jl (model X.prog X.w) X.A (eval a X.env) (λv s₁=>Jl (model X.prog X.w) X.A (eval b X.env) (λu s₂=>Jl (model X.prog X.w) X.A (f v u) Q X.xe s₂) X.xe s₁) X.xe s:=by
 refine thn (ha Lz s σ H _ I h) λv s1 ur22=>?_
 obtain⟨x,H1,I1,r1,q1⟩:=ur22;refine thn (hb Lz s1 σ H1 _ I1 q1) λu s2 ur23=>?_
 obtain⟨y,H2,I2,r2,q2⟩:=ur23;exact hf v u s2 x y H2 I2 r1 r2 q2
def aU {op:Operator}{r:R2}(ho:OpR X (binaryOp op) r) (ha:PE X a ta) (hb:PE X b tb):PE X (.BinOp a op b pos) (tOp r ta tb):=by
 intro Lz s σ H Q I h;exact wpAny_BinOp (Hf ha hb I h λv u s2 x y H2 I2 rx ry q=>ho Lz s2 σ H2 x y v u Q I2 rx ry q)
def Go {op:UnaryOp}{r:V->Hp->VK->Prop}(ho:UnR X (unaryOp op) r) (ha:PE X a ta):PE X (.UnaryOp op a pos) (tUn r ta):=by
 intro Lz s σ H Q I h;exact UnaryOp_ (thn (ha Lz s σ H _ I h) λv s1 uq3=>by(obtain⟨x,H1,I1,r1,q1⟩:=uq3;exact ho Lz s1 σ H1 x v Q I1 r1 q1))
def opI {f:IU->IU->Sem IU}{C:Int->Int->Prop}{g:Int->Int->Int}
 (rule:∀ (i j:Int) (t u:Tok) (s:IZ) (Q:IU->IZ->Prop) (E:IU->IZ->Prop),C i j->Q (.int (g i j) s.toks) { s with toks:=s.toks+1 }->Jl (model X.prog X.w) X.A (f (.int i t) (.int j u)) Q E s) :
 OpR X f (rI C λi j=>.int (g i j)):=by
 intro Lz s σ H x y v u Q I rx ry h;obtain⟨i,j,rfl,rfl,hc,q⟩:=h;obtain⟨t,rfl⟩:=rx;obtain⟨t',rfl⟩:=ry;exact rule i j t t' s _ _ hc ⟨.int (g i j),H,I.tok _,⟨_,rfl⟩,q⟩
def HP {f:IU->IU->Sem IU}{g:Int->Int->Int}
 (rule:∀ (i j:Int) (t u:Tok) (s:IZ) (Q:IU->IZ->Prop) (E:IU->IZ->Prop),Q (.int (g i j) s.toks) { s with toks:=s.toks+1 }->Jl (model X.prog X.w) X.A (f (.int i t) (.int j u)) Q E s) :
 OpR X f (rI0 λi j=>.int (g i j)):=by
 intro Lz s σ H x y v u Q I rx ry h;obtain⟨i,j,rfl,rfl,q⟩:=h;obtain⟨t,rfl⟩:=rx;obtain⟨t',rfl⟩:=ry;exact rule i j t t' s _ _ ⟨.int (g i j),H,I.tok _,⟨_,rfl⟩,q⟩
def Hl {f:IU->IU->Sem IU}{g:Int->Int->Bool}
 (rule:∀ (i j:Int) (t u:Tok) (s:IZ) (Q:IU->IZ->Prop) (E:IU->IZ->Prop),Q (.bool (g i j)) s->Jl (model X.prog X.w) X.A (f (.int i t) (.int j u)) Q E s) :
 OpR X f (rI0 λi j=>.bl (g i j)):=by
 intro Lz s σ H x y v u Q I rx ry h;obtain⟨i,j,rfl,rfl,q⟩:=h;obtain⟨t,rfl⟩:=rx;obtain⟨t',rfl⟩:=ry;exact rule i j t t' s _ _ ⟨.bl (g i j),H,I,rfl,q⟩
def IR (i j:Int):Prop:=0 <= j/\j <= 1000000/\i.natAbs < 2 ^ 64
def Gq (i j:Int):Prop:=(-(2 ^ 64) < i/\i < 2 ^ 64)\/(-(2 ^ 64) < j/\j < 2 ^ 64)
def Gq.ok {i j:Int}(h:Gq i j):IntMulOk i j:=by
 rcases h with⟨h1,h2⟩|⟨h1,h2⟩
 . exact .of_left (intBits_le_64 h1 h2)
 . exact .of_right (intBits_le_64 h1 h2)
def p8:OpR X (binaryOp .Add) (rI0 λi j=>.int (i+j)):=HP λ_ _ _ _ _ _ _ q=>add_int q
def oz:OpR X (binaryOp .Sub) (rI0 λi j=>.int (i - j)):=HP λ_ _ _ _ _ _ _ q=>sub_int q
def sY:OpR X (binaryOp .Mult) (rI Gq λi j=>.int (i * j)):=opI λ_ _ _ _ _ _ _ hc q=>mul_int q hc.ok
def bV:OpR X (binaryOp .Mod) (rI (λ_ j=>0 < j) λi j=>.int (i % j)):=opI λi j _ _ _ _ _ hc q=>by
 have h1:(0:Int) < j:=hc;exact mod_int' (by omega) (by rw[Int.fmod_eq_emod_of_nonneg i (by omega)];exact q)
def kq:OpR X (binaryOp .Pow) (rI IR λi j=>.int (i ^ j.toNat)):=opI λ_ _ _ _ _ _ _ hc q=>pow_int_small hc.1 hc.2.1 hc.2.2 q
def unI {f:IU->Sem IU}{g:Int->Int}
 (rule:∀ (i:Int) (t:Tok) (s:IZ) (Q:IU->IZ->Prop) (E:IU->IZ->Prop),Q (.int (g i) s.toks) { s with toks:=s.toks+1 }->Jl (model X.prog X.w) X.A (f (.int i t)) Q E s) :
 UnR X f (rU λi=>.int (g i)):=by
 intro Lz s σ H x v Q I rx h;obtain⟨i,rfl,q⟩:=h;obtain⟨t,rfl⟩:=rx;exact rule i t s _ _ ⟨.int (g i),H,I.tok _,⟨_,rfl⟩,q⟩
def Dh:UnR X (unaryOp .USub) (rU λi=>.int (-i)):=unI λ_ _ _ _ _ q=>neg_int q
end
def Ie:V->V->Bool
|.non,.non=>l'|.non,.int _=>l'|.int _,.non=>l'|.non,.bl _=>l'|.bl _,.non=>l'|.non,.str _=>l'|.str _,.non=>l'
|.int _,.int _=>l'|.bl _,.bl _=>l'|.str _,.str _=>l'|.byt _,.byt _=>l'
|.int _,.str _=>l'|.str _,.int _=>l'|.bl _,.str _=>l'|.str _,.bl _=>l'
|_,_=>f'
def rEq:R2:=λx y H Q=>Ie x y=l'/\Q (.bl (decide (x=y))) H
def rNe:R2:=λx y H Q=>Ie x y=l'/\Q (.bl (!decide (x=y))) H
def yt {i j:Int}:decide (V.int i=V.int j)=(i == j):=by
 rw[KQ];simp
def CK {i j:Bool}:decide (V.bl i=V.bl j)=(i == j):=by
 rw[KQ];simp
def AG {i j:Str}:decide (V.str i=V.str j)=(i == j):=by
 rw[KQ];simp
def zv {i j:Array UInt8}:decide (V.byt i=V.byt j)=(i.toList == j.toList):=by
 rw[KQ];cases i;cases j;simp
section
variable {X:Cx}{a b c:Expr}{ta tb tc:TE}{pos:Pos}
def bw {Lz:List (G' × KP)}{σ:St}{H:Hp}{s:IZ}{Q:VK}{k k':Bool}(I:Inv X Lz σ H s) (q:Q (.bl k) H) (e:k=k'):EP X Lz σ Q (.bool k') s:=by
 subst e;exact⟨.bl k,H,I,rfl,q⟩
def cG:OpR X (Ky .Eq) rEq:=by
 intro Lz s σ H x y v u Q I rx ry h;obtain⟨hs,q⟩:=h;cases x with
|non =>
  cases rx;cases y with
 |non=>cases ry;exact PySem.EqNone.eq_none_none (bw I q (by simp))
 |bl j=>cases ry;exact PySem.EqNone.eq_none_bool (bw I q (by simp))
 |int j=>obtain⟨t',rfl⟩:=ry;exact PySem.EqNone.eq_none_int (bw I q (by simp))
 |str j=>obtain⟨t',rfl⟩:=ry;exact PySem.EqNone.eq_none_str (bw I q (by simp))
 |_=>exact absurd (show f'=l' from hs) Jo
|bl i =>
  cases rx;cases y with
 |non=>cases ry;exact PySem.EqNone.eq_bool_none (bw I q (by simp))
 |bl j=>cases ry;exact eq_bool (bw I q CK)
 |str j=>obtain⟨t',rfl⟩:=ry;exact PySem.EqMixed.eq_bool_str (bw I q (by simp))
 |_=>exact absurd (show f'=l' from hs) Jo
|int i =>
  obtain⟨t,rfl⟩:=rx;cases y with
 |non=>cases ry;exact PySem.EqNone.eq_int_none (bw I q (by simp))
 |int j=>obtain⟨t',rfl⟩:=ry;exact eq_int (bw I q yt)
 |str j=>obtain⟨t',rfl⟩:=ry;exact PySem.EqMixed.eq_int_str (bw I q (by simp))
 |_=>exact absurd (show f'=l' from hs) Jo
|str i =>
  obtain⟨t,rfl⟩:=rx;cases y with
 |non=>cases ry;exact PySem.EqNone.eq_str_none (bw I q (by simp))
 |bl j=>cases ry;exact PySem.EqMixed.eq_str_bool (bw I q (by simp))
 |int j=>obtain⟨t',rfl⟩:=ry;exact PySem.EqMixed.eq_str_int (bw I q (by simp))
 |str j=>obtain⟨t',rfl⟩:=ry;exact eq_str (bw I q AG)
 |_=>exact absurd (show f'=l' from hs) Jo
|byt i =>
  obtain⟨t,rfl⟩:=rx;cases y with
 |byt j=>obtain⟨t',rfl⟩:=ry;exact eq_bytes (bw I q zv)
 |_=>exact absurd (show f'=l' from hs) Jo
|_=>cases y<;>exact absurd (show f'=l' from hs) Jo
def oO:OpR X (Ky .NotEq) rNe:=by
 intro Lz s σ H x y v u Q I rx ry h;obtain⟨hs,q⟩:=h;cases x with
|non =>
  cases rx;cases y with
 |non=>cases ry;exact PySem.EqNone.ne_none_none (bw I q (by simp))
 |bl j=>cases ry;exact PySem.EqNone.ne_none_bool (bw I q (by simp))
 |int j=>obtain⟨t',rfl⟩:=ry;exact PySem.EqNone.ne_none_int (bw I q (by simp))
 |str j=>obtain⟨t',rfl⟩:=ry;exact PySem.EqNone.ne_none_str (bw I q (by simp))
 |_=>exact absurd (show f'=l' from hs) Jo
|bl i =>
  cases rx;cases y with
 |non=>cases ry;exact PySem.EqNone.ne_bool_none (bw I q (by simp))
 |bl j=>cases ry;exact ne_bool (bw I q (congrArg not CK))
 |str j=>obtain⟨t',rfl⟩:=ry;exact PySem.EqMixed.ne_bool_str (bw I q (by simp))
 |_=>exact absurd (show f'=l' from hs) Jo
|int i =>
  obtain⟨t,rfl⟩:=rx;cases y with
 |non=>cases ry;exact PySem.EqNone.ne_int_none (bw I q (by simp))
 |int j=>obtain⟨t',rfl⟩:=ry;exact ne_int (bw I q (congrArg not yt))
 |str j=>obtain⟨t',rfl⟩:=ry;exact PySem.EqMixed.ne_int_str (bw I q (by simp))
 |_=>exact absurd (show f'=l' from hs) Jo
|str i =>
  obtain⟨t,rfl⟩:=rx;cases y with
 |non=>cases ry;exact PySem.EqNone.ne_str_none (bw I q (by simp))
 |bl j=>cases ry;exact PySem.EqMixed.ne_str_bool (bw I q (by simp))
 |int j=>obtain⟨t',rfl⟩:=ry;exact PySem.EqMixed.ne_str_int (bw I q (by simp))
 |str j=>obtain⟨t',rfl⟩:=ry;exact ne_str (bw I q (congrArg not AG))
 |_=>exact absurd (show f'=l' from hs) Jo
|byt i =>
  obtain⟨t,rfl⟩:=rx;cases y with
 |byt j=>obtain⟨t',rfl⟩:=ry;exact ne_bytes (bw I q (congrArg not zv))
 |_=>exact absurd (show f'=l' from hs) Jo
|_=>cases y<;>exact absurd (show f'=l' from hs) Jo
def zA:OpR X (Ky .Lt) (rI0 λi j=>.bl (decide (i < j))):=Hl λ_ _ _ _ _ _ _ q=>lt_int q
def Fz:OpR X (Ky .LtE) (rI0 λi j=>.bl (decide (i <= j))):=Hl λ_ _ _ _ _ _ _ q=>le_int q
def Ej:OpR X (Ky .Gt) (rI0 λi j=>.bl (decide (j < i))):=Hl λ_ _ _ _ _ _ _ q=>gt_int q
def wF:OpR X (Ky .Is) (λx y H Q=>y=.non/\Q (.bl (decide (x=.non))) H):=by
 intro Lz s σ H x y v u Q I rx ry h;obtain⟨rfl,q⟩:=h;cases ry;refine is_none_gen (bw I q ?_);cases x<;>first
 |(cases rx;rfl)
 |(obtain⟨t,rfl⟩:=rx;rfl)
def jz:OpR X (Ky .IsNot) (λx y H Q=>y=.non/\Q (.bl (!decide (x=.non))) H):=by
 intro Lz s σ H x y v u Q I rx ry h;obtain⟨rfl,q⟩:=h;cases ry;refine isnot_none_gen (bw I q ?_);cases x<;>first
 |(cases rx;rfl)
 |(obtain⟨t,rfl⟩:=rx;rfl)
def az (b:Expr) {op:CmpOp}(h:op≠.In:=by decide) (h2:op≠.NotIn:=by decide):behindInMarks op b=f':=by
 have e1:(op == CmpOp.In)=f':=by cases op<;>first|rfl|exact absurd rfl h
 have e2:(op == CmpOp.NotIn)=f':=by cases op<;>first|rfl|exact absurd rfl h2
 cases b<;>simp[behindInMarks,e1,e2]
def eo {op:CmpOp}{r:R2}(ho:OpR X (Ky op) r) (ha:PE X a ta) (hb:PE X b tb) (hm:behindInMarks op b=f'):PE X (.Compare a [op] [b] pos) (tOp r ta tb):=by
 intro Lz s σ H Q I h;exact wpAny_Compare1 (Hf ha hb I h λv u s2 x y H2 I2 rx ry q=>ho Lz s2 σ H2 x y v u Q I2 rx ry q) hm
def xO (t:TE):TT:=λσ H Q=>t σ H λx H'=>∃ k,x=.bl k/\Q k H'
def ar {op:CmpOp}{r:R2}(ho:OpR X (Ky op) r) (ha:PE X a ta) (hb:PE X b tb) (hm:behindInMarks op b=f'):PT X (.Compare a [op] [b] pos) (xO (tOp r ta tb)):=by
 intro Lz s σ H Q I h;refine wpAny_isTrue_Compare1 (thn (ha Lz s σ H _ I h) λv s1 ⟨x,H1,I1,r1,q1⟩=>thn (hb Lz s1 σ H1 _ I1 q1) λu s2 ⟨y,H2,I2,r2,q2⟩ =>
  thn (ho Lz s2 σ H2 x y v u _ I2 r1 r2 q2) λc s3 ⟨z,H3,I3,r3,k,e,q3⟩=>?_) hm
 subst e;cases r3;exact Km ⟨H3,I3,q3⟩
def F1 (r r':R2) (ta tb tc:TE):TE:=λσ H Q=>ta σ H λx H1=>tb σ H1 λy H2=>r x y H2 λz H3=>∃ k,z=.bl k /\
 (if k=l' then tc σ H3 λw' H4=>r' y w' H4 Q else Q (.bl f') H3)
def Bf {op op':CmpOp}{r r':R2}(ho:OpR X (Ky op) r) (ho':OpR X (Ky op') r') (ha:PE X a ta) (hb:PE X b tb) (hc:PE X c tc)
 (hm:lastMarks [op,op'] [b,c]=f':=by with_unfolding_all rfl):PE X (.Compare a [op,op'] [b,c] pos) (F1 r r' ta tb tc):=by
 intro Lz s σ H Q I h;refine Compare_chain (thn (ha Lz s σ H _ I h) λv s1 ⟨x,H1,I1,r1,q1⟩=>chain_link (thn (hb Lz s1 σ H1 _ I1 q1) λu s2 ⟨y,H2,I2,r2,q2⟩ =>
  thn (ho Lz s2 σ H2 x y v u _ I2 r1 r2 q2) λd s3 ⟨z,H3,I3,r3,k,e,q3⟩=>?_)) hm
 subst e;cases r3;refine Km ?_;cases k with
|false=>exact ite_ff ⟨.bl f',H3,I3,rfl,q3⟩
|true=>exact ite_tt (chain_last (thn (hc Lz s3 σ H3 _ I3 q3) λw' s4 uq4=>by(obtain⟨z',H4,I4,r4,q4⟩:=uq4;exact ho' Lz s4 σ H4 y z' u w' Q I4 r2 r4 q4)))
def HS (K:Ja) (x:V) (H:Hp) (k:Bool):Prop :=
 match x with
|.non=>k=f'
|.bl b=>k=b
|.int i=>k=(i != 0)
|.str y=>y.length <= Je/\k=((y.length:Int) != 0)
|.byt y=>y.size <= Je/\k=((y.size:Int) != 0)
|.ref p=>(∃ xs,SqL K H p xs/\k=!xs.isEmpty)\/(∃ xs,SqT K H p xs/\k=!xs.isEmpty)\/∃ kvs,H p=dk (.dK kvs)/\k=!kvs.isEmpty
|_=>False
def y9 {κ:Type}{kvs:List (κ × V)}{vs:List (κ × IU)}(r:KV kvs vs):(!vs.isEmpty)=!kvs.isEmpty:=by
 cases r<;>rfl
def qE {xs:List V}{its:List IU}(r:bE xs its):(!its.toArray.isEmpty)=!xs.isEmpty:=by
 cases r<;>simp
def ub:(Je:Nat) < 2 ^ 63:=by rw[KW];decide
def G6:IK X (λx H Q=>∃ k,HS X.K x H k/\Q k H):=by
 intro Lz s σ H x v Q I rx h;obtain⟨k,e,q⟩:=h;have hl:=ub;have hs:Je=16777216:=KW;cases x with
|non =>
  cases rx;have e':k=f':=e;subst e';exact truthy_none ⟨H,I,q⟩
|bl b =>
  cases rx;have e':k=b:=e;subst e';exact Km ⟨H,I,q⟩
|int i =>
  obtain⟨t,rfl⟩:=rx;have e':k=(i != 0):=e;subst e';exact PySem.P.truthy_int ⟨H,I,q⟩
|str y =>
  obtain⟨t,rfl⟩:=rx;obtain⟨hy,e'⟩:y.length <= Je/\k=((y.length:Int) != 0):=e;subst e';exact PySem.P.truthy_str (by omega) ⟨H,I.tok _,q⟩
|byt y =>
  obtain⟨t,rfl⟩:=rx;obtain⟨hy,e'⟩:y.size <= Je/\k=((y.size:Int) != 0):=e;subst e';exact truthy_bytes (by omega) ⟨H,I.tok _,q⟩
|ref p =>
  cases rx;have e':(∃ xs,SqL X.K H p xs/\k=!xs.isEmpty)\/(∃ xs,SqT X.K H p xs/\k=!xs.isEmpty)\/∃ kvs,H p=dk (.dK kvs)/\k=!kvs.isEmpty:=e;rcases e' with⟨xs,hx,e'⟩|⟨xs,hx,e'⟩|⟨kvs,hx,e'⟩
  . subst e';obtain⟨its,r,pl,hz⟩:=I.list hx;have hlen:=r.length;exact wpAny_truthy_list pl.isList (by simp only[Js];omega) ⟨H,I.tok _,by rw[qE r];exact q⟩
  . subst e';obtain⟨its,r,pl,hz⟩:=I.tuple hx;have hlen:=r.length;exact truthy_tuple pl (by simp only[Js];omega) ⟨H,I.tok _,by rw[qE r];exact q⟩
  . subst e';obtain⟨hz,hS,vs,r,m⟩:kvs.length <= Je/\(p == Ku)=f'/\∃ vs,KV kvs vs/\s.heap.DictOf (br X.prog X.w) p vs:=I.hok p _ hx;have hlen:kvs.length=vs.length:=Jv.length r;exact wpAny_truthy_dict hS m (by omega) ⟨H,I.tok _,by rw[y9 r];exact q⟩
|_=>exact(show False from e).elim
def rK (ha:PE X a ta) (he:∀ whole,isTrue a X.env whole=(do let v <-whole;standAt a.pos;holding [v] (truthy v))) :
 PT X a (λσ H Q=>ta σ H λx H'=>∃ k,HS X.K x H' k/\Q k H'):=by
 intro Lz s σ H Q I h;exact isTrue_plain (thn (ha Lz s σ H _ I h) λv s1 uq5=>by(obtain⟨x,H1,I1,r1,q1⟩:=uq5;exact G6 Lz s1 σ H1 x v Q I1 r1 q1)) (he _)
def sh {x:V}{us:List IU}(r:bE [x] us):∃ u,us=[u]/\bT x u:=by
 cases r with
|cons r1 r2=>cases r2;exact⟨_,rfl,r1⟩
def F5 {x y:V}{us:List IU}(r:bE [x,y] us):∃ u w',us=[u,w']/\bT x u/\bT y w':=by
 cases r with
|cons r1 r2 =>
  cases r2 with
 |cons r3 r4=>cases r4;exact⟨_,_,rfl,r1,r3⟩
end
structure ObjM (h:JD) (x dx C:G') (mA:Str->Option IU):Prop where
 obj:h.get? x=dk (instObj C dx)
 ns:h.Ns1 dx mA
 ne:dx≠x
def AO {h:JD}{dx:G'}{mA:Str->Option IU}(n:h.Ns1 dx mA):∃ od,h.get? dx=dk od/\∀ name,lookIn name od=dk (mA name):=by
 obtain⟨o,es,ep,ho,hd,hk,_,hm⟩:=n;refine⟨o,ho,λname=>?_⟩;have e:=hm name;unfold nsFind findBy at e;rw[<-Array.find?_toList]at e;unfold lookIn;rw[hd];dsimp only;split
 . rename_i y q;rw[q]at e;exact congrArg dk e
 . rename_i q;rw[q]at e;have a:es.toList.any (·.refKey)=f':=by
    rw[List.any_eq_false];intro y hy;obtain⟨z,t,hkey⟩:=hk y (Array.mem_toList_iff.mp hy);simp[Jz.refKey,hkey]
   have a':¬ es.toList.any (·.refKey)=l':=by rw[a];exact Jo
   rw[Pb a'];exact congrArg dk e
def ObjM.look {h:JD}{x dx C:G'}{mA:Str->Option IU}(I:ObjM h x dx C mA):∃ od,InstAt h x (instObj C dx) C (dk od)/\∀ name,lookIn name od=dk (mA name) :=
 let ⟨od,ho,hl⟩:=AO I.ns
 ⟨od,⟨I.obj,rfl,rfl,ho⟩,hl⟩
section
variable {prog:Jy}{w:Jj}{A:JN}{E:IU->IZ->Prop}{s:IZ}{K:Ja}{x dx C f:G'}{mA:Str->Option IU}{name:Str}{v:IU}
def EB {expr:Bool}{Q:IU->IZ->Prop}(X:K.In s.heap) (I:ObjM s.heap x dx C mA) (hg:plainGet K C name=l') (hh:hasDictIn K C=l')
 (ha:findIn K (.ref C) name=dk IX) (hv:mA name=dk v) (hv':handedIn v=l') (h:Q v { s with toks:=s.toks+1 }) :
 Jl (model prog w) A (getAttr (.ref x) name expr) Q E s:=by
 obtain⟨od,J,hl⟩:=I.look;exact get_value X J (plainGet_of hg).1 (findObj_own hh ha rfl (by rw[hl,hv])) hv' h
def B3 {pl:Sem Bool}{Q:IU × List IU->IZ->Prop}(X:K.In s.heap) (I:ObjM s.heap x dx C mA) (hg:plainGet K C name=l')
 (hf:findIn K (.ref C) name=dk (dk (.ref f))) (ht:isFn K (.ref f)=l') (hv:mA name=IX) (h:Q (.ref f,[.ref x]) s) :
 Jl (model prog w) A (getMethod (.ref x) name pl) Q E s:=by
 obtain⟨od,J,hl⟩:=I.look;exact method_fn X J (plainGet_of hg).1 (plainGet_of hg).2 hf (beq_iff_eq.mp ht) (by show (lookIn name od).map (·.isSome)=dk f';rw[hl,hv];rfl) h
def Eu {ns:List Str}{Q:Unit->IZ->Prop}(X:K.In s.heap) (I:ObjM s.heap x dx C mA)
 (hs:findIn K (.ref C) "__setattr__"=dk (dk (.builtin "object.__setattr__"))) (hp:plainOver K C=l') (ht:takerIn K C name=dk IX) (hh:hasDictIn K C=l')
 (hw:PySem.Within mA ns) (hsz:ns.length <= Je)
 (h:∀ h',ObjM h' x dx C (λy=>if y=name then dk v else mA y)->KN dx s.heap h'->Q () { s with heap:=h',toks:=s.toks+2 }) :
 Jl (model prog w) A (setAttr (.ref x) name v) Q E s:=by
 obtain⟨od,J,hl⟩:=I.look;refine set_plain X J hs (osa_open (s:={ s with toks:=s.toks+1 }) (r:=IX) X J hp ht λb=>?_);obtain⟨cd,hc,hd'⟩:=any_some hh;have hx:s.heap.get? x=dk ⟨.ref C,dk dx,.plain,#[]⟩:=I.obj;refine D' (IY (D' (D' (wpAny_loadPart hx (D' (Looks.here (s:={ s with toks:=s.toks+1 }) (looks_clsIn X hc) ?_))))));rw[hd'];refine IY (a:=dk dx) (D' (IY (D' ?_)));refine wpAny_nsSet1 (s:={ s with toks:=s.toks+1 }) I.ns λh' hn2 hs2=>?_
 obtain⟨oD,esD,epD,hoD,hdD,hcD⟩:=hn2.count (PySem.Within.cons name v hw);refine D' (wpAny_lookBehind hoD (by rw[hdD];exact pastItsLine_dict (JT hcD (by rw[JH];omega))) ?_);exact IY (h _ ⟨(hs2.2 _ (K5 I.ne)).trans I.obj,hn2,I.ne⟩ hs2)
def AZ {R:Result->IZ->Prop}{vs:List IU}{kw:List (Str × IU)}(X:K.In s.heap) (hm:makesIn K C=l')
 (hi:findIn K (.ref C) "__init__"=dk (dk (.ref f))) (hf:typeIn K (.ref f)=dk (.type "function"))
 (h:codeAny (model prog w) (A.under (.builtin "type.__call__" ⟨.ref C :: vs,kw⟩)) (.call (.ref f) ⟨.ref (s.heap.objs.size+1) :: vs,kw⟩) (InitBack (s.heap.objs.size+1) R)
  { s with heap:=(s.heap.push emptyDict).push (instObj C s.heap.objs.size) }) :
 codeAny (model prog w) A (.call (.ref C) ⟨vs,kw⟩) R s:=by
 obtain⟨hh,g,d,t,os⟩:=s;exact make_core (makes_of X hm) (looks_findIn X hi) (λself=>bind_fn X self hf) (.inl rfl) h
end
def bR (f:Str) (v:V):List (Str × V)->List (Str × V)
|[]=>[(f,v)]
|(g,x) :: r=>if g=f then (g,v) :: r else (g,x) :: bR f v r
theorem a9 (f g:Str) (v:V):∀ fs:List (Str × V),(bR f v fs).lookup g=if g=f then dk v else fs.lookup g
|[]=>by
  show List.lookup g [(f,v)]=_;by_cases h:g=f
  . have hb:(g == f)=l':=beq_iff_eq.mpr h;simp only[List.lookup,hb,Pa h]
  . have hb:(g == f)=f':=beq_eq_false_iff_ne.mpr h;simp only[List.lookup,hb,Pb h]
|(k,x) :: r=>by
  have ih:=a9 f g v r;rw[show bR f v ((k,x) :: r)=(if k=f then (k,v) :: r else (k,x) :: bR f v r) from rfl];by_cases hk:k=f
  . rw[Pa hk];by_cases h:g=k
    . have hb:(g == k)=l':=beq_iff_eq.mpr h;simp only[List.lookup,hb,Pa (h.trans hk)]
    . have hb:(g == k)=f':=beq_eq_false_iff_ne.mpr h;simp only[List.lookup,hb,Pb (λe:g=f=>h (e.trans hk.symm))]
  . rw[Pb hk];by_cases h:g=k
    . have hb:(g == k)=l':=beq_iff_eq.mpr h;simp only[List.lookup,hb,Pb (λe:g=f=>hk (h.symm.trans e))]
    . have hb:(g == k)=f':=beq_eq_false_iff_ne.mpr h;simp only[List.lookup,hb];exact ih
theorem oo (f:Str) (v:V):∀ fs:List (Str × V),f∈(bR f v fs).map (·.1)/\∀ g,g∈fs.map (·.1)->g∈(bR f v fs).map (·.1)
|[]=>⟨by simp[bR],λg h=>by simp at h⟩
|(k,x) :: r=>by
  obtain⟨i1,i2⟩:=oo f v r;rw[show bR f v ((k,x) :: r)=(if k=f then (k,v) :: r else (k,x) :: bR f v r) from rfl];by_cases hk:k=f
  . rw[Pa hk];subst hk;exact⟨by simp,λg h=>by simpa using h⟩
  . rw[Pb hk];refine⟨?_,λg h=>?_⟩
    . rw[J1];exact Jh _ i1
    . rw[J1]at h |-;rcases Jx.mp h with e|e
      . exact Jx.mpr (.inl e)
      . exact Jh _ (i2 g e)
theorem oS (f:Str) (v:V):∀ fs:List (Str × V),(bR f v fs).length <= fs.length+1
|[]=>by simp[bR]
|(k,x) :: r=>by
  have ih:=oS f v r;rw[show bR f v ((k,x) :: r)=(if k=f then (k,v) :: r else (k,x) :: bR f v r) from rfl];by_cases hk:k=f
  . rw[Pa hk,JH,JH];omega
  . rw[Pb hk,JH,JH];omega
def uS.some_of {v:V}{o:Option IU}(r:uS (dk v) o):∃ u,o=dk u/\bT v u:=by
 cases o with
|none=>exact(show False from r).elim
|some u=>exact⟨u,rfl,r⟩
def uS.none_of {o:Option IU}(r:uS IX o):o=IX:=by
 cases o with
|none=>rfl
|some u=>exact(show False from r).elim
def yr {v:V}{u:IU}(r:bT v u):handedIn u=l':=by
 cases v with
|non=>cases (show u=Ke from r);rfl
|bl b=>cases (show u=IU.bool b from r);rfl
|int i=>obtain⟨t,e⟩:=(show ∃ t,u=IU.int i t from r);cases e;rfl
|str x=>obtain⟨t,e⟩:=(show ∃ t,u=IU.str x t from r);cases e;rfl
|byt b=>obtain⟨t,e⟩:=(show ∃ t,u=IU.bytes b t from r);cases e;rfl
|flt b=>obtain⟨t,e⟩:=(show ∃ t,u=IU.float b t from r);cases e;rfl
|ref a=>cases (show u=JC a from r);rfl
|ty n=>cases (show u=IU.type n from r);rfl
section
variable {P:Jy}{w:Jj}{H H':Hp}{h h':JD}{a C dx:G'}{fs fs':List (Str × V)}
def qY (hok:HOk P w H h) (e:H a=dk (.ins C dx fs)):∃ mA,ObjM h a dx C mA/\(∀ f,uS (fs.lookup f) (mA f))/\PySem.Within mA (fs.map (·.1))/\fs.length <= 1000/\H dx=dk (.own a):=by
 obtain⟨d,z,ne,ob,mA,n,r,q⟩:=(show cS P w H h a (.ins C dx fs) from hok a _ e)
 exact⟨mA,⟨ob,n,ne⟩,r,q,z,d⟩
end
structure Cls (K:Ja) (C:G'):Prop where
 pg:plainGet K C Str.empty=l'
 hd:hasDictIn K C=l'
 po:plainOver K C=l'
 sa:findIn K (.ref C) "__setattr__"=dk (dk (.builtin "object.__setattr__"))
def Cls.get {K:Ja}{C:G'}(c:Cls K C) (f:Str):plainGet K C f=l':=c.pg
def bb (K:Ja) (C:G') (f:Str):Prop:=findIn K (.ref C) f=dk IX
def bb.taker {K:Ja}{C:G'}{f:Str}(n:bb K C f):takerIn K C f=dk IX:=by
 unfold takerIn;rw[show findIn K (.ref C) f=dk IX from n];rfl
structure Meth (K:Ja) (C:G') (m:Str) (f:G'):Prop where
 at_:findIn K (.ref C) m=dk (dk (.ref f))
 fn:isFn K (.ref f)=l'
 kp:keepIn K (.ref f)=l'
section
variable {X:Cx}{Lz:List (G' × KP)}{σ:St}{H:Hp}{s:IZ}{a C dx:G'}{fs:List (Str × V)}{f:Str}{v:V}{A:JN}{E:IU->IZ->Prop}
def xH {b:Bool}{Q:IU->IZ->Prop}(I:Inv X Lz σ H s) (e:H a=dk (.ins C dx fs)) (c:Cls X.K C) (n:bb X.K C f) (l:fs.lookup f=dk v)
 (h:∀ u s',Inv X Lz σ H s'->bT v u->Q u s'):Jl (model X.prog X.w) A (getAttr (.ref a) f b) Q E s:=by
 obtain⟨mA,O,r,_,_,_⟩:=qY I.hok e;obtain⟨u,hu,ru⟩:=uS.some_of (v:=v) (o:=mA f) (by rw[<-l];exact r f);exact EB I.kIn O (c.get f) c.hd n hu (yr ru) (h u _ (I.tok _) ru)
def m5 {m:Str}{g:G'}{pl:Sem Bool}{Q:IU × List IU->IZ->Prop}(I:Inv X Lz σ H s) (e:H a=dk (.ins C dx fs)) (c:Cls X.K C) (k:Meth X.K C m g) (l:fs.lookup m=IX)
 (h:Q (.ref g,[.ref a]) s):Jl (model X.prog X.w) A (getMethod (.ref a) m pl) Q E s:=by
 obtain⟨mA,O,r,_,_,_⟩:=qY I.hok e;have hn:mA m=IX:=uS.none_of (by rw[<-l];exact r m);exact B3 I.kIn O (c.get m) k.at_ k.fn hn h
def xD {y:V}{u:IU}{Q:Unit->IZ->Prop}(I:Inv X Lz σ H s) (e:H a=dk (.ins C dx fs)) (c:Cls X.K C) (n:bb X.K C f) (hl:fs.length < 1000) (ry:bT y u)
 (h:∀ s',Inv X Lz σ (upd H a (.ins C dx (bR f y fs))) s'->Q () s'):Jl (model X.prog X.w) A (setAttr (.ref a) f u) Q E s:=by
 obtain⟨mA,O,r,wi,_,ho⟩:=qY I.hok e;have hz:(fs.map (·.1)).length <= Je:=by rw[Jk,KW];omega
 refine Eu I.kIn O c.sa c.po n.taker c.hd wi hz λh' O' sb=>h _ ?_
 have hd:∃ o,h'.get? dx=dk o:=let ⟨o,_,_,e',_⟩:=O'.ns;⟨o,e'⟩;refine I.write (x:=a) (e:=dx) (by rw[e];exact K7) (.inr ho) (λb q hb z=>(sb.2 b hb).trans z) hd ?_;refine⟨by rw[ac O.ne];exact ho,?_,O.ne,O'.obj,_,O'.ns,λg=>?_,λg hg=>?_⟩
 . have:=oS f y fs;omega
 . show uS ((bR f y fs).lookup g) (if g=f then dk u else mA g);rw[a9];by_cases q:g=f
   . rw[Pa q,Pa q];exact ry
   . rw[Pb q,Pb q];exact r g
 . by_cases q:g=f
   . rw[q];exact(oo f y fs).1
   . refine(oo f y fs).2 g (wi g λz=>hg ?_);show (if g=f then dk u else mA g)=IX;rw[Pb q];exact z
def Inv.made (I:Inv X Lz σ H s):Inv X Lz σ (upd (upd H s.heap.objs.size (.own (s.heap.objs.size+1))) (s.heap.objs.size+1) (.ins C s.heap.objs.size []))
 { s with heap:=(s.heap.push emptyDict).push (instObj C s.heap.objs.size) }:=by
 have e1:(s.heap.push emptyDict).get? s.heap.objs.size=dk emptyDict:=Jq s.heap rfl;have e2:((s.heap.push emptyDict).push (instObj C s.heap.objs.size)).get? (s.heap.objs.size+1)=dk (instObj C s.heap.objs.size):=by
  have:=Jq (s.heap.push emptyDict) (o:=instObj C s.heap.objs.size) rfl;rwa [JD.size_push]at this
 have e3:(s.heap.push emptyDict).Ns s.heap.objs.size (λ_=>IX):=⟨emptyDict,#[],_,e1,rfl,(λe he=>absurd he (by simp)),λ_=>rfl⟩
 have I1:=I.laid (a:=s.heap.objs.size) (o:=.own (s.heap.objs.size+1)) (h':=s.heap.push emptyDict) (t':=s.toks) (λb u q=>Jc _ q) (Jd _) ⟨_,e1⟩;refine I1.laid (a:=s.heap.objs.size+1) (o:=.ins C s.heap.objs.size []) (t':=s.toks) (λb u q=>Jc _ q) (le_of_eq (JD.size_push _ _)) ?_;have ne:s.heap.objs.size≠s.heap.objs.size+1:=Kc (lt_succ_self _);refine⟨by rw[ac ne,a8],Kq _,ne,e2,λ_=>IX,(JD.Ns1.of_empty e3).at λo q=>Jc _ q,λ_=>K7,λy hy=>absurd rfl hy⟩
def Dm {prog:Jy}{w:Jj}{env:Env}{e:Expr}{f:Str}{pos:Pos}{s:IZ}{Q:IU->IZ->Prop}(hb:attributeBase e f env (eval e env)=eval e env)
 (h:Jl (model prog w) A (eval e env) (λo s₁=>Jl (model prog w) A (getAttr o f l') Q E s₁) E s):Jl (model prog w) A (eval (.Attribute e f pos) env) Q E s :=
 Attribute_any_ h (by rw[arm_eval_Attribute,hb])
end
def HB (K:Ja) (ta:TE) (f:Str):TE:=λσ H Q=>ta σ H λx H1=>∃ a C dx fs v,x=.ref a/\H1 a=dk (.ins C dx fs)/\Cls K C/\bb K C f/\fs.lookup f=dk v/\Q v H1
def IN (K:Ja) (ta tv:TE) (f:Str):TS:=λD σ H=>tv σ H λy H1=>ta σ H1 λx H2=>∃ a C dx fs,x=.ref a/\H2 a=dk (.ins C dx fs)/\Cls K C/\bb K C f/\fs.length < 1000 /\
 D.nx σ (upd H2 a (.ins C dx (bR f y fs)))
section
variable {X:Cx}{o e value:Expr}{f:Str}{pos pos' tpos:Pos}{ta tv:TE}
def ak (he:PE X e ta) (hb:attributeBase e f X.env (eval e X.env)=eval e X.env):PE X (.Attribute e f pos) (HB X.K ta f):=by
 intro Lz s σ H Q I h;refine Dm hb (thn (he Lz s σ H _ I h) λu s1 ur24=>?_);obtain⟨x,H1,I1,rx,a,C,dx,fs,v,ex,ea,c,n,l,q⟩:=ur24;subst ex;obtain rfl:u=JC a:=rx;exact xH I1 ea c n l λu' s2 I2 ru=>⟨v,H1,I2,ru,q⟩
def bJ (ha:PE X o ta) (hv:PE X value tv) (hs:swapsWith value (dk (.Attribute o f pos')) pos.line X.env=pure f'):PS X (.Assign [.Attribute o f pos'] value pos) (IN X.K ta tv f):=by
 intro Lz s σ H D I h;refine plainObj_wpAny_Assign_Attribute (thn (hv Lz s σ H _ I h) λu s1 ⟨y,H1,I1,ry,q⟩=>thn (ha Lz s1 σ H1 _ I1 q) λov s2 ur25=>?_) hs;obtain⟨x,H2,I2,rx,a,C,dx,fs,ex,ea,c,n,l,q2⟩:=ur25;subst ex;obtain rfl:ov=JC a:=rx;exact xD I2 ea c n l ry λs3 I3=>⟨σ,_,I3,q2⟩
end
section
variable {X:Cx}{Lz:List (G' × KP)}{σ:St}{H:Hp}{s:IZ}{A:JN}{E:IU->IZ->Prop}{Q:IU->IZ->Prop}{c:IU}{b:Bool}
inductive TyOf (K:Ja) (H:Hp):V->IU->Prop where
|non:TyOf K H .non (.type "NoneType")
|bl (x:Bool):TyOf K H (.bl x) (.type "bool")
|int (i:Int):TyOf K H (.int i) (.type "int")
|str (x:Str):TyOf K H (.str x) (.type "str")
|flt (x:UInt64):TyOf K H (.flt x) (.type "float")
|lst {a:G'} {xs:List V} (e:H a=dk (.lst xs)):TyOf K H (.ref a) (.type "list")
|frz {a:G'} {o:KP} {xs:List V} (e:H a=dk (.frz o (.lst xs))):TyOf K H (.ref a) (.type "list")
|tup {a:G'} {xs:List V} (e:H a=dk (.tup xs)):TyOf K H (.ref a) (.type "tuple")
|dK {a:G'} {kvs:List (Key × V)} (e:H a=dk (.dK kvs)):TyOf K H (.ref a) (.type "dict")
|dT {a:G'} {kvs:List (List Key × V)} (e:H a=dk (.dT kvs)):TyOf K H (.ref a) (.type "dict")
|ins {a C dx:G'} {fs:List (Str × V)} (e:H a=dk (.ins C dx fs)) (cl:Cls K C) (ha:findIn K (.ref C) "__class__"=dk (dk (.builtin "object.__class__")))
  (hn:specialIn K (.builtin "object.__class__") "__get__"=dk (dk (.builtin "getset_descriptor.__get__"))) (htk:takesIn K (.builtin "object.__class__")=dk l')
  (hm:mroIn K C (.type "object")=dk l'):TyOf K H (.ref a) (.ref C)
def zi {x:V}{u t:IU}(I:Inv X Lz σ H s) (rx:bT x u) (ty:TyOf X.K H x t) (e:Lp X.K t c=dk b) (h:∀ tk,Q (.bool b) { s with toks:=tk }) :
 Jl (model X.prog X.w) A (call (.builtin "isinstance") [u,c]) Q E s:=by
 cases ty with
|non=>cases (show u=Ke from rx);exact kia_one kitx_none I.kIn K7 e (λz=>nomatch z) h
|bl y=>cases (show u=IU.bool y from rx);exact kia_one kitx_bool I.kIn K7 e (λz=>nomatch z) h
|int i=>obtain⟨t,q⟩:=(show ∃ t,u=IU.int i t from rx);cases q;exact kia_one kitx_int I.kIn K7 e (λz=>nomatch z) h
|str y=>obtain⟨t,q⟩:=(show ∃ t,u=IU.str y t from rx);cases q;exact kia_one kitx_str I.kIn K7 e (λz=>nomatch z) h
|flt y=>obtain⟨t,q⟩:=(show ∃ t,u=IU.float y t from rx);cases q;exact kia_one kitx_float I.kIn K7 e (λz=>nomatch z) h
|@lst a xs ea =>
  cases (show u=JC a from rx);obtain⟨_,_,n,_,h1⟩:=(show cS X.prog X.w H s.heap a (.lst xs) from I.hok a _ ea)
  exact kia_one kitx_list I.kIn ⟨_,h1,rfl⟩ e (λz=>nomatch z) h
|@frz a ob xs ea =>
  cases (show u=JC a from rx);obtain⟨_,_,_,n,_,h1⟩:=(show cS X.prog X.w H s.heap a (.frz ob (.lst xs)) from I.hok a _ ea)
  exact kia_one kitx_list I.kIn ⟨_,h1,rfl⟩ e (λz=>nomatch z) h
|@tup a xs ea =>
  cases (show u=JC a from rx);obtain⟨_,_,_,p⟩:=(show cS X.prog X.w H s.heap a (.tup xs) from I.hok a _ ea)
  obtain⟨o,h1,h2,_⟩:=p;exact kia_one kitx_tuple I.kIn ⟨o,h1,h2⟩ e (λz=>nomatch z) h
|@dK a kvs ea =>
  cases (show u=JC a from rx);obtain⟨_,_,vs,_,p⟩:=(show cS X.prog X.w H s.heap a (.dK kvs) from I.hok a _ ea)
  obtain⟨o,es,ep,h1,h2,_⟩:=p;exact kia_one kitx_dict I.kIn ⟨o,h1,h2.1⟩ e (λz=>nomatch z) h
|@dT a kvs ea =>
  cases (show u=JC a from rx);obtain⟨_,_,xs,_,o,es,ep,h1,h2,_⟩:=(show cS X.prog X.w H s.heap a (.dT kvs) from I.hok a _ ea)
  exact kia_one kitx_dict I.kIn ⟨o,h1,h2.1⟩ e (λz=>nomatch z) h
|@ins a C dx fs ea cl ha hn htk hm =>
  cases (show u=JC a from rx);obtain⟨mA,O,_⟩:=qY I.hok ea;obtain⟨od,J,_⟩:=O.look;exact kia_one (kitx_own (cl.get _) cl.hd ha hn htk hm) I.kIn J e (λz=>nomatch z) h
end
structure Room (k:Nat) (A:JN):Prop where
 hd:A.handled=IX
 dp:A.depth+3 * k+5 < recursionLimit
 un:A.units+16 * k+200 < Lx
def Room.mono {j k:Nat}{A:JN}(r:Room k A) (h:j <= k):Room j A:=⟨r.hd,by have:=r.dp;omega,by have:=r.un;omega⟩
theorem Room.deeper {k:Nat}{A:JN}(r:Room (k+1) A) (env:Env):Room k (A.deeper env) :=
 ⟨r.hd,by have:=r.dp;show A.depth+1+3 * k+5 < _;omega,by have:=r.un;show A.units+3+16 * k+200 < _;omega⟩
def yd {A:JN}{C:G'}{us:List IU}{kw:List (Str × IU)}:(A.under (.builtin "type.__call__" ⟨.ref C :: us,kw⟩)).depth=A.depth+1:=by
 first|rfl|simp[JN.under,Code.weight,Code.isCreation,Code.isGuard,Code.isCaller,Code.frames,Code.isFrame,guardIds]
def xI {A:JN}{C:G'}{us:List IU}{kw:List (Str × IU)}:(A.under (.builtin "type.__call__" ⟨.ref C :: us,kw⟩)).units=A.units+1:=by
 first|rfl|simp[JN.under,Code.cUnits,Code.frames,Code.isFrame]
def Room.make {k:Nat}{A:JN}(r:Room (k+1) A) (C:G') (us:List IU) (kw:List (Str × IU)):Room k (A.under (.builtin "type.__call__" ⟨.ref C :: us,kw⟩)) :=
 ⟨r.hd,by have:=r.dp;rw[yd];omega,by have:=r.un;rw[xI];omega⟩
theorem Room.depth {k:Nat}{A:JN}(r:Room k A):A.depth < recursionLimit:=by have:=r.dp;omega
theorem Room.units {k:Nat}{A:JN}(r:Room k A):A.units+64 < Lx:=by have:=r.un;omega
def AT:TA:=λ_ H Q=>Q [] H
def sN (ta:TE) (tr:TA):TA:=λσ H Q=>ta σ H λx H1=>tr σ H1 λxs H2=>Q (x :: xs) H2
section
variable {X:Cx}{e:Expr}{es:List Expr}{te:TE}{t:TA}{pos:Pos}
def aa:PA X [] AT:=λ_ _ _ _ H Q I h=>Calls.spliced_nil ⟨[],H,I,.nil,h⟩
def zO (ha:PE X e te) (hr:PA X es t) (hs:JG (e :: es) X.env=(f',eval e X.env) :: JG es X.env:=by rfl):PA X (e :: es) (sN te t):=by
 intro pos Lz s σ H Q I h;rw[hs];show Jl _ _ (spliced ((f',eval e X.env) :: Lw pos (JG es X.env))) _ _ s;refine K0 (thn (ha Lz s σ H _ I h) λu s1 ur26=>?_);obtain⟨x,H1,I1,r1,q1⟩:=ur26;exact thn (hr pos Lz s1 σ H1 _ I1 q1) λus s2 uq6=>by(obtain⟨xs,H2,I2,r2,q2⟩:=uq6;exact ⟨x :: xs,H2,I2,.cons r1 r2,q2⟩)
def H0 (t:TA):TE:=λσ H Q=>t σ H λxs H1=>xs.length <= Je/\∀ p,H1 p=IX->Q (.ref p) (upd H1 p (.tup xs))
def HK (t:TA):TE:=λσ H Q=>t σ H λxs H1=>xs.length <= Je/\∀ p,H1 p=IX->Q (.ref p) (upd H1 p (.lst xs))
def b8 {x1}(h:PA X es t):PE X (.Tuple es x1 pos) (H0 t):=by
 intro Lz s σ H Q I hq;refine wpAny_Tuple_spliced (thn (h pos Lz s σ H _ I hq) λus s1 ⟨xs,H1,I1,r,z,q⟩=>⟨by rw[<-r.length];exact z,?_⟩);have hf:H1 s1.heap.objs.size=IX:=I1.hok.fresh (Jd _);refine⟨.ref s1.heap.objs.size,upd H1 s1.heap.objs.size (.tup xs),I1.laid (t':=s1.toks) (λb u e=>Jc _ e) (Jd _) ?_,rfl,q _ hf⟩;exact⟨z,us,r,⟨_,Jq _ rfl,rfl,_,rfl⟩⟩
def eg (h:PA X es t):PE X (.List es pos) (HK t):=by
 intro Lz s σ H Q I hq;refine wpAny_List_spliced (thn (h pos Lz s σ H _ I hq) λus s1 ⟨xs,H1,I1,r,z,q⟩=>⟨by rw[<-r.length];exact z,?_⟩);have hf:H1 s1.heap.objs.size=IX:=I1.hok.fresh (Jd _);refine⟨.ref s1.heap.objs.size,upd H1 s1.heap.objs.size (.lst xs),I1.laid (t':=s1.toks) (λb u e=>Jc _ e) (Jd _) ?_,rfl,q _ hf⟩;exact⟨z,us,0,r,Jq _ rfl⟩
end
abbrev Sp:=List V->Hp->VK->XK->Prop
abbrev CXT:=List Env->Hp->IZ->XK->IU->IZ->Prop
structure Env0 (P:Jy) (w:Jj) (K:Ja) (mg:Str->Option IU) (base:JD) (A:JN) (outer:List Env) (s:IZ) (H:Hp):Prop where
 frames:A.frames=dk outer
 mod:Mod K mg base
 bs:∀ b o,base.get? b=dk o->s.heap.get? b=dk o/\H b=IX
 bsz:base.objs.size <= s.heap.objs.size
 funs:s.heap.FunFrames base outer
 frf:∀ b∈frs outer,H b=IX
 hok:HOk P w H s.heap
 bare:AllBare s.gens
def CE (outer:List Env) (P:Jy) (w:Jj) (H:Hp) (s:IZ) (Q:VK) (u:IU) (s':IZ):Prop :=
 ∃ v H',s'.os=s.os/\AllBare s'.gens/\Un (frs outer) [] H H' s.heap s'.heap/\HOk P w H' s'.heap/\bT v u/\Q v H'
def CR (CX:CXT) (outer:List Env) (P:Jy) (w:Jj) (H:Hp) (s:IZ) (Q:VK) (E:XK) (r:Result) (s':IZ):Prop :=
 match r with
|.ok (.ret u)=>CE outer P w H s Q u s'
|.ok _=>False
|.error e=>CX outer H s E e s'
structure FnOk (P:Jy) (w:Jj) (K:Ja) (mg:Str->Option IU) (base:JD) (CX:CXT) (k:Nat) (f:G') (fd:Ji) (ps:List Str) (sp:Sp):Prop where
 len:∀ vs H Q E,sp vs H Q E->vs.length=ps.length
 run:∀ (A:JN) (outer:List Env) (s:IZ) (H:Hp) (args:Args) (us:List IU) (vs:List V) (Q:VK) (E:XK),Room k A->Env0 P w K mg base A outer s H->BindsTo s fd args (ps.zip us)->bE vs us->sp vs H Q E ->
  codeAny (model P w) A (.call (.ref f) args) (CR CX outer P w H s Q E) s
def FnOk.imp {P:Jy}{w:Jj}{K:Ja}{mg:Str->Option IU}{base:JD}{CX:CXT}{k:Nat}{f:G'}{fd:Ji}{ps:List Str}{sp sp':Sp}(F:FnOk P w K mg base CX k f fd ps sp)
 (h:∀ vs H Q E,sp' vs H Q E->sp vs H Q E):FnOk P w K mg base CX k f fd ps sp' :=
 ⟨λvs H Q E q=>F.len vs H Q E (h _ _ _ _ q),λA outer s H args us vs Q E hr he hb hv hs=>F.run A outer s H args us vs Q E hr he hb hv (h _ _ _ _ hs)⟩
def Env0.make {P:Jy}{w:Jj}{K:Ja}{mg:Str->Option IU}{base:JD}{A:JN}{outer:List Env}{s:IZ}{H:Hp}(e:Env0 P w K mg base A outer s H) (C:G') (us:List IU) (kw:List (Str × IU)) :
 Env0 P w K mg base (A.under (.builtin "type.__call__" ⟨.ref C :: us,kw⟩)) outer s H:=⟨by first|exact e.frames|(simpa [JN.under,Code.envs,Code.isFrame,pushEnvs] using e.frames),e.mod,e.bs,e.bsz,e.funs,e.frf,e.hok,e.bare⟩
theorem Env0.in1 {P:Jy}{w:Jj}{K:Ja}{mg:Str->Option IU}{base:JD}{A:JN}{outer:List Env}{s:IZ}{H:Hp}(e:Env0 P w K mg base A outer s H) :
 Env0 P w K mg base A.in1 outer s H:=⟨e.frames,e.mod,e.bs,e.bsz,e.funs,e.frf,e.hok,e.bare⟩
section
variable {X:Cx}{Lz:List (G' × KP)}{σ:St}{H:Hp}{s s':IZ}
def Inv.env0 (I:Inv X Lz σ H s):Env0 X.prog X.w X.K X.mg X.base X.A X.stack s H :=
 ⟨I.ok.frames,I.ok.mod,I.bs,JT I.ok.bsz I.sz,I.stack,I.stkFree,I.hok,I.bare⟩
def Inv.after {Q:VK}{u:IU}(I:Inv X Lz σ H s) (h:CE X.stack X.prog X.w H s Q u s'):EP X Lz σ Q u s':=by
 obtain⟨v,H',os,bare,un,hok,r,q⟩:=h;obtain⟨hh,g,d,t,os'⟩:=s';obtain rfl:os'=s.os:=os;exact⟨v,H',I.call (h':=hh) (g':=g) (d':=d) (t':=t) (ch:=[]) un hok bare (λb z=>absurd z (by simp)),r,q⟩
end
def F2 (sp:Sp) (dvs:List V) (E:XK) (t:TA):TE:=λσ H Q=>t σ H λvs H1=>sp (vs++dvs) H1 Q E
def zB (C:G') (m:Str) (sp:Sp) (dvs:List V) (E:XK) (ta:TE) (t:TA):TE:=λσ H Q=>ta σ H λx H1=>∃ a dx fs,x=.ref a/\H1 a=dk (.ins C dx fs)/\fs.lookup m=IX /\
 t σ H1 λvs H2=>sp (x :: (vs++dvs)) H2 Q E
def FK (C:G') (sp:Sp) (dvs:List V) (E:XK) (t:TA):TE:=λσ H Q=>t σ H λvs H1=>∀ x dx,H1 x=IX->H1 dx=IX->dx≠x ->
 sp (.ref x :: (vs++dvs)) (upd (upd H1 dx (.own x)) x (.ins C dx [])) (λv H2=>v=.non/\Q (.ref x) H2) E
def aD (K:Ja) (fd:Ji) (ps:List Str) (ds:List IU):Prop :=
 ∀ (s:IZ) (us:List IU),K.In s.heap->(us++ds).length=ps.length->BindsTo s fd ⟨us,[]⟩ (ps.zip (us++ds))
def aD.all {K:Ja}{fd:Ji}{ps:List Str}(h:∀ us:List IU,us.length=ps.length->bindArgs fd ⟨us,[]⟩=pure (ps.zip us)):aD K fd ps []:=λs us _ hl=>by
 rw[Jw]at hl |-;exact .of_eq (h us hl)
def ky (CX:CXT) (X:Cx) (E:XK):Prop:=∀ (Lz:List (G' × KP)) (σ:St) (H:Hp) (s:IZ) (e:IU) (s':IZ),Inv X Lz σ H s->CX X.stack H s E e s'->X.xe e s'
section
variable {X:Cx}{CX:CXT}{k:Nat}{f C:G'}{fd:Ji}{ps:List Str}{sp:Sp}{dvs:List V}{ds:List IU}{E:XK}{x m:Str}{p pos apos:Pos}{e o:Expr}{es:List Expr}{ta:TE}{t:TA}
def zC {Lz:List (G' × KP)}{σ:St}{H:Hp}{s:IZ}{Q:VK}{us:List IU}{vs:List V}(F:FnOk X.prog X.w X.K X.mg X.base CX k f fd ps sp) (hr:Room k X.A) (hb:aD X.K fd ps ds) (hd:bE dvs ds) (hx:ky CX X E)
 (I:Inv X Lz σ H s) (r:bE vs us) (h:sp (vs++dvs) H Q E):Jl (model X.prog X.w) X.A (call (.ref f) us) (EP X Lz σ Q) X.xe s:=by
 have r2:bE (vs++dvs) (us++ds):=r.append hd;have hl:(us++ds).length=ps.length:=by rw[<-r2.length];exact F.len _ _ _ _ h
 refine wpAny_call (codeAny_mono (F.run X.A X.stack s H ⟨us,[]⟩ (us++ds) (vs++dvs) Q E hr I.env0 (hb s us I.kIn hl) r2 h) λr s' hq=>?_);cases r with
|error e=>exact hx Lz σ H s e s' I hq
|ok fl =>
  cases fl with
 |ret u=>exact I.after hq
 |next=>exact Kj hq
 |brk=>exact Kj hq
 |cont=>exact Kj hq
def aR (F:FnOk X.prog X.w X.K X.mg X.base CX k f fd ps sp) (hr:Room k X.A) (hg:Gl X x) (hm:X.mg x=dk (.ref f)) (hk:keepIn X.K (.ref f)=l') (hb:aD X.K fd ps ds) (hd:bE dvs ds) (hx:ky CX X E)
 (ha:PA X (e :: es) t) (hdb:(x == ("__debug__":Str))=f':=by decide) (he:JG (e :: es) X.env=(f',eval e X.env) :: JG es X.env:=by rfl) (hpl:(Lw pos (JG es X.env)).any (·.1)=f':=by rfl) :
 PE X (.Call (.Name x p) (e :: es) [] pos) (F2 sp dvs E t):=by
 intro Lz s σ H Q I h;refine Lk (ir I hg hm ?_ hdb);refine callWith_K (h₀:=X.base) I.ok.mod.kin hk (thn (ha pos Lz s σ H _ I h) λus s1 ⟨vs,H1,I1,r,q⟩=>⟨I1.kIn,?_⟩) he hpl;exact zC F hr hb hd hx I1 r q
def ax {pl:Sem Bool}(he:PE X o ta) (c:Cls X.K C) (hm:Meth X.K C m f) (F:FnOk X.prog X.w X.K X.mg X.base CX k f fd ps sp) (hr:Room k X.A) (hb:aD X.K fd ps ds) (hd:bE dvs ds) (hx:ky CX X E) (ha:PA X (e :: es) t)
 (hst:JG (e :: es) X.env=(f',eval e X.env) :: JG es X.env:=by rfl) (hpl:(Lw pos (JG es X.env)).any (·.1)=f':=by rfl)
 (ht:eval (.Call (.Attribute o m apos) (e :: es) [] pos) X.env=(do
  let ov <-eval o X.env
  standAt apos.atName
  let (f,first) <-holding [ov] (getMethod ov m pl)
  callWith pos f first (Lw pos (JG (e :: es) X.env)) (backToKw pos (keywordEach [] X.env))):=by rfl) :
 PE X (.Call (.Attribute o m apos) (e :: es) [] pos) (zB C m sp dvs E ta t):=by
 intro Lz s σ H Q I h;refine methodCall_KW (pl:=pl) (thn (he Lz s σ H _ I h) λu s1 ur27=>?_) ht;obtain⟨x,H1,I1,rx,a,dx,fs,ex,ea,l,q⟩:=ur27;subst ex;obtain rfl:u=JC a:=rx;refine m5 I1 ea c hm l ?_;refine callWith_K (first:=[.ref a]) (h₀:=X.base) I.ok.mod.kin hm.kp (thn (ha pos Lz s1 σ H1 _ I1 q) λus s2 ⟨vs,H2,I2,r,q2⟩=>⟨I2.kIn,?_⟩) hst hpl;exact zC (us:=.ref a :: us) (vs:=.ref a :: vs) F hr hb hd hx I2 (.cons rfl r) q2
def b7 {pl:Sem Bool}(he:PE X o ta) (c:Cls X.K C) (hm:Meth X.K C m f) (F:FnOk X.prog X.w X.K X.mg X.base CX k f fd ps sp) (hr:Room k X.A) (hb:aD X.K fd ps ds) (hd:bE dvs ds) (hx:ky CX X E)
 (ht:eval (.Call (.Attribute o m apos) [] [] pos) X.env=(do
  let ov <-eval o X.env
  standAt apos.atName
  let (f,first) <-holding [ov] (getMethod ov m pl)
  callWith pos f first (Lw pos (JG [] X.env)) (backToKw pos (keywordEach [] X.env))):=by rfl) :
 PE X (.Call (.Attribute o m apos) [] [] pos) (zB C m sp dvs E ta AT):=by
 intro Lz s σ H Q I h;refine methodCall_KW (pl:=pl) (thn (he Lz s σ H _ I h) λu s1 ur28=>?_) ht;obtain⟨x,H1,I1,rx,a,dx,fs,ex,ea,l,q⟩:=ur28;subst ex;obtain rfl:u=JC a:=rx;refine m5 I1 ea c hm l ?_;exact callWith_K0 (first:=[.ref a]) I1.kIn hm.kp (zC (us:=[.ref a]) (vs:=[.ref a]) F hr hb hd hx I1 (.cons rfl .nil) q)
structure Mk (K:Ja) (C f:G'):Prop where
 makes:makesIn K C=l'
 init:findIn K (.ref C) "__init__"=dk (dk (.ref f))
 fn:isFn K (.ref f)=l'
 kp:keepIn K (.ref C)=l'
def wE {Lz:List (G' × KP)}{σ:St}{H:Hp}{s:IZ}{Q:VK}{us:List IU}{vs:List V}(M:Mk X.K C f) (F:FnOk X.prog X.w X.K X.mg X.base CX k f fd ps sp) (hr:Room (k+1) X.A) (hb:aD X.K fd ps ds) (hd:bE dvs ds)
 (hx:ky CX X E) (I:Inv X Lz σ H s) (r:bE vs us)
 (h:∀ x dx,H x=IX->H dx=IX->dx≠x->sp (.ref x :: (vs++dvs)) (upd (upd H dx (.own x)) x (.ins C dx [])) (λv H2=>v=.non/\Q (.ref x) H2) E) :
 Jl (model X.prog X.w) X.A (call (.ref C) us) (EP X Lz σ Q) X.xe s:=by
 have hq:=h (s.heap.objs.size+1) s.heap.objs.size (I.hok.fresh (le_succ _)) (I.hok.fresh (Jd _)) (Kc (lt_succ_self _));have I2:=Inv.made (C:=C) I;have r2:bE (V.ref (s.heap.objs.size+1) :: (vs++dvs)) (JC (s.heap.objs.size+1) :: (us++ds)):=.cons rfl (r.append hd);have hl:(JC (s.heap.objs.size+1) :: us++ds).length=ps.length:=by
  have e:=r2.length;rw[F.len _ _ _ _ hq]at e;exact e.symm
 refine wpAny_call (AZ (f:=f) I.kIn M.makes M.init (beq_iff_eq.mp M.fn) (codeAny_mono (F.run _ X.stack _ _ ⟨JC (s.heap.objs.size+1) :: us,[]⟩ (JC (s.heap.objs.size+1) :: (us++ds)) _ _ E (hr.make C us [])
  (I2.env0.make C us []) (hb _ (JC (s.heap.objs.size+1) :: us) I2.kIn hl) r2 hq) λr s' hq'=>?_))
 cases r with
|error e=>exact hx Lz σ _ _ e s' I2 hq'
|ok fl =>
  cases fl with
 |ret u =>
   obtain⟨v,H',I3,rv,ev,q3⟩:=I2.after hq';subst ev;exact⟨rv,⟨V.ref (s.heap.objs.size+1),H',I3,rfl,q3⟩⟩
 |next=>exact Kj hq'
 |brk=>exact Kj hq'
 |cont=>exact Kj hq'
def kK (M:Mk X.K C f) (F:FnOk X.prog X.w X.K X.mg X.base CX k f fd ps sp) (hr:Room (k+1) X.A) (hg:Gl X x) (hm:X.mg x=dk (.ref C)) (hb:aD X.K fd ps ds) (hd:bE dvs ds) (hx:ky CX X E)
 (ha:PA X (e :: es) t) (hdb:(x == ("__debug__":Str))=f':=by decide) (he:JG (e :: es) X.env=(f',eval e X.env) :: JG es X.env:=by rfl) (hpl:(Lw pos (JG es X.env)).any (·.1)=f':=by rfl) :
 PE X (.Call (.Name x p) (e :: es) [] pos) (FK C sp dvs E t):=by
 intro Lz s σ H Q I h;refine Lk (ir I hg hm ?_ hdb);refine callWith_K (h₀:=X.base) I.ok.mod.kin M.kp (thn (ha pos Lz s σ H _ I h) λus s1 ⟨vs,H1,I1,r,q⟩=>⟨I1.kIn,?_⟩) he hpl;exact wE M F hr hb hd hx I1 r q
def B0 (M:Mk X.K C f) (F:FnOk X.prog X.w X.K X.mg X.base CX k f fd ps sp) (hr:Room (k+1) X.A) (hg:Gl X x) (hm:X.mg x=dk (.ref C)) (hb:aD X.K fd ps ds) (hd:bE dvs ds) (hx:ky CX X E)
 (hdb:(x == ("__debug__":Str))=f':=by decide):PE X (.Call (.Name x p) [] [] pos) (FK C sp dvs E AT):=by
 intro Lz s σ H Q I h;refine Lk (ir I hg hm ?_ hdb);exact callWith_K0 I.kIn M.kp (wE (us:=[]) M F hr hb hd hx I .nil h)
end
section
variable {X:Cx}{CX:CXT}{k:Nat}{f C:G'}{fd:Ji}{ps ks:List Str}{sp:Sp}{E:XK}{x m:Str}{p pos apos kpos:Pos}{e o:Expr}{es:List Expr}{kws:List Keyword}{te ta:TE}{t tk:TA}{nm:Option Str}
variable {g:List IU->List IU->List IU}{gV:List V->List V->List V}
end
structure FnScope (N P:List Str) (sc:Scope):Prop where
 kind:sc.kind=.function
 co:sc.isCoroutine=f'
 gen:sc.isGenerator=f'
 nd:N.Nodup
 pre:N.take P.length=P
 par:∀ x∈P,sc.names.lookup x=dk .local\/sc.names.lookup x=dk .cell
 nofree:∀ y∈sc.names,y.2≠.free
theorem sZ {kindOf:Str->Option NameKind}{x:Str}:∀ {binds:List (Str × IU)}{m:Str->Option IU},(∀ v,(x,v) ∉ binds)->bindL kindOf binds m x=m x
|[],_,_=>rfl
|(n,v) :: r,m,h=>by
  unfold bindL;rw[sZ λw hw=>h w (Jh _ hw)];split
  . have:x≠n:=by rintro rfl;exact h v Jg
    simp[this]
  . rfl
theorem sX {kindOf:Str->Option NameKind}{x:Str}:∀ {binds:List (Str × IU)}{m:Str->Option IU},(∀ v,(x,v) ∉ binds)->bindC kindOf binds m x=m x
|[],_,_=>rfl
|(n,v) :: r,m,h=>by
  unfold bindC;rw[sX λw hw=>h w (Jh _ hw)];split
  . rfl
  . have:x≠n:=by rintro rfl;exact h v Jg
    simp[this]
theorem sV {kindOf:Str->Option NameKind}{x:Str}{v:IU}:∀ {P:List Str}{vs:List IU}{i:Nat}{m:Str->Option IU},P.Nodup->P[i]?=dk x->vs[i]?=dk v->kindOf x=dk .local ->
 bindL kindOf (P.zip vs) m x=dk v
|[],_,_,_,_,h,_,_=>by simp at h
|_ :: _,[],_,_,_,_,h,_=>by simp at h
|p :: P,w :: vs,0,m,nd,h1,h2,hk=>by
  simp at h1 h2;subst h1;subst h2;show bindL kindOf ((p,w) :: P.zip vs) m p=_;unfold bindL;rw[sZ λv hv=>(KG.mp nd).1 (of_mem_zip hv).1,Pa hk];simp
|p :: P,w :: vs,i+1,m,nd,h1,h2,hk=>by
  show bindL kindOf ((p,w) :: P.zip vs) m x=_;unfold bindL;exact sV (i:=i) (KG.mp nd).2 (by simpa using h1) (by simpa using h2) hk
theorem ug {kindOf:Str->Option NameKind}{x:Str}{v:IU}:∀ {P:List Str}{vs:List IU}{i:Nat}{m:Str->Option IU},P.Nodup->P[i]?=dk x->vs[i]?=dk v->kindOf x≠dk .local ->
 bindC kindOf (P.zip vs) m x=dk v
|[],_,_,_,_,h,_,_=>by simp at h
|_ :: _,[],_,_,_,_,h,_=>by simp at h
|p :: P,w :: vs,0,m,nd,h1,h2,hk=>by
  simp at h1 h2;subst h1;subst h2;show bindC kindOf ((p,w) :: P.zip vs) m p=_;unfold bindC;rw[sX λv hv=>(KG.mp nd).1 (of_mem_zip hv).1,Pb hk];simp
|p :: P,w :: vs,i+1,m,nd,h1,h2,hk=>by
  show bindC kindOf ((p,w) :: P.zip vs) m x=_;unfold bindC;exact ug (i:=i) (KG.mp nd).2 (by simpa using h1) (by simpa using h2) hk
def sL (N:List Str) (vs:List V):St:=vs.map dk++replicate (N.length - vs.length) IX
def CV (CX:CXT) (P:Jy) (w:Jj) (K:Ja) (mg:Str->Option IU) (base:JD) (N:List Str) (qual:Str) (scope:Scope) (f:G') (cd:IU) (A:JN) (outer:List Env) (s:IZ) (H:Hp) (E:XK):Cx where
 prog:=P
 w:=w
 K:=K
 mg:=mg
 base:=base
 A:=A.deeper (envOfC qual scope s.heap.objs.size f cd)
 N:=N
 s₀:=s
 H₀:=H
 env:=envOfC qual scope s.heap.objs.size f cd
 outer:=outer
 stack:=envOfC qual scope s.heap.objs.size f cd :: outer
 ex:=[]
 calm:=l'
 fn:=λ_=>l'
 pn:=[]
 xe:=λe s'=>Jl (model P w) (A.deeper (envOfC qual scope s.heap.objs.size f cd)) (leaving (envOfC qual scope s.heap.objs.size f cd) e) (λ_ s''=>CX outer H s E e s'') (λe' s''=>CX outer H s E e' s'') s'
def wT {sc:Scope}{n:Nat}{x:Str}(h:sc.names.lookup x=dk .cell):∃ c,(cellsFrom n sc.names []).lookup x=dk c:=by
 have q:=cellsFrom_some sc.names n [] (.inl h);exact Option.isSome_iff_exists.mp q
def zu {CX:CXT}{P:Jy}{w:Jj}{K:Ja}{mg:Str->Option IU}{base:JD}{N ps:List Str}{qual:Str}{scope:Scope}{f:G'}{cd:IU}{A:JN}{outer:List Env}{s s1:IZ}{H:Hp}{E:XK}{us:List IU}{vs:List V}
 (S:FnScope N ps scope) (hd:A.handled=IX) (e0:Env0 P w K mg base A outer s H) (hl:vs.length=ps.length) (r:bE vs us)
 (x:InCallC s s.heap.objs.size (bindL (envOfC qual scope s.heap.objs.size f cd).kindOf (ps.zip us) λ_=>IX) (cellsFrom (s.heap.objs.size+1) scope.names []) (bindC (envOfC qual scope s.heap.objs.size f cd).kindOf (ps.zip us) λ_=>IX) s1) :
 Inv (CV CX P w K mg base N qual scope f cd A outer s H E) [] (sL N vs) H s1:=by
 have hpl:ps.length <= N.length:=by have:=congrArg Kz S.pre;rw[JK]at this;omega
 obtain⟨h1,tk,rfl,hk⟩:=x.done;have noA:∀ b:G',b ∉ (CV CX P w K mg base N qual scope f cd A outer s H E).ex:=λb z=>absurd (show b∈([]:List G') from z) (by simp)
 refine⟨⟨e0.mod,S.kind,rfl,rfl,Jd _,λy z c h1 h2=>?_,λy hy=>?_,λy c _ h=>?_,λ_=>hd,JN.frames_deeper e0.frames,.inr ⟨rfl,rfl⟩,λb z=>absurd z (noA b),e0.bs,e0.bsz,λb _ _=>noA b,λb z=>absurd z (noA b),e0.funs,e0.frf⟩,
  rfl,e0.bare,Un.kept hk,⟨_,x.toInCall.ns,λi y v h1 h2 h3=>?_⟩,λy c h=>⟨_,x.cell y c h⟩,e0.hok.fresh (Jd _),λy c h=>?_,λp hp=>absurd (show p∈([]:List (G' × KP)) from hp) (by simp),e0.hok.kept hk,?_⟩
 . exact name_of_addr x.apart (PySem.mem_of_lookup h1) (PySem.mem_of_lookup h2)
 . have hy:scope.names.lookup y=dk .cell\/scope.names.lookup y=dk .free:=hy;rcases hy with hy|hy
   . exact wT hy
   . exact absurd rfl (S.nofree _ (PySem.mem_of_lookup hy))
 . exact Nat.le_of_lt (x.above y c (PySem.mem_of_lookup h))
 . have hi:i < vs.length:=by
    unfold sL at h2;by_cases hi:i < vs.length
    . exact hi
    . rw[JR (by simpa using hi)]at h2;rw[List.getElem?_replicate]at h2;split at h2<;>cases h2
   have ha:vs[i]?=dk v:=by
    unfold sL at h2;rw[KA (by simpa using hi),JX]at h2;cases e:vs[i]? with
   |none=>rw[e]at h2;cases h2
   |some a=>rw[e]at h2;cases h2;rfl
   obtain⟨u,hu,rv⟩:=r.get ha;have hp:ps[i]?=dk y:=by
    rw[<-S.pre,List.getElem?_take_of_lt (by omega)];exact h1
   have ndP:ps.Nodup:=by rw[<-S.pre];exact S.nd.sublist (List.take_sublist _ _)
   refine⟨u,rv,?_⟩;rcases S.par y (Ju hp) with k|k
   . exact .inl ⟨k,sV ndP hp hu k⟩
   . obtain⟨c,e⟩:=wT (n:=s.heap.objs.size+1) k;refine .inr ⟨.inl k,c,e,?_⟩;have q:=x.cell y c e;rw[ug ndP hp hu (by show scope.names.lookup y≠_;rw[k];decide)]at q;exact q
 . exact e0.hok.fresh (Nat.le_of_lt (x.above y c (PySem.mem_of_lookup h)))
 . unfold sL;show _=N.length;rw[IT,Jk,Le];omega
def FP {CX:CXT}{P:Jy}{w:Jj}{K:Ja}{mg:Str->Option IU}{base:JD}{k:Nat}{f:G'}{name qual:Str}{params:Arguments}{body:List JY}{scope:Scope}{dV kV doc pm cdv ct oc:IU}{an od:Option G'}
 {osl:Array (Option IU)} {N ps:List Str} {sp:Sp} (lk:K.lookup f=dk ⟨oc,od,.func (fnOf name qual params body scope dV kV doc pm an cdv ct),osl⟩) (hcd:codeIn K cdv qual=l') (S:FnScope N ps scope)
 (len:∀ vs H Q E,sp vs H Q E->vs.length=ps.length)
 (hbody:∀ (A:JN) (outer:List Env) (s:IZ) (H:Hp) (vs:List V) (Q:VK) (E:XK),Room k (A.deeper (envOfC qual scope s.heap.objs.size f cdv))->sp vs H Q E ->
  ∃ t,PSs (CV CX P w K mg base N qual scope f cdv A outer s H E) body t/\t { nx:=λ_ H'=>Q .non H',rt:=Q } (sL N vs) H) :
 FnOk P w K mg base CX (k+1) f (fnOf name qual params body scope dV kV doc pm an cdv ct) ps sp:=by
 refine⟨len,λA outer s H args us vs Q E hr e0 hb r hsp=>?_⟩;have hl:=len _ _ _ _ hsp;have KX:K.In s.heap:=e0.mod.kin.keeps λb o e=>(e0.bs b o e).1
 have lim:s.heap.NoLimit:=e0.mod.nolimit.keeps λb o e=>(e0.bs b o e).1
 have hkind:∀ y∈ps.zip us,scope.names.lookup y.1=dk .local\/(scope.names.lookup y.1=dk .cell/\((cellsFrom (s.heap.objs.size+1) scope.names []).lookup y.1).isSome=l'):=λ⟨n,v⟩ hy=>by
  rcases S.par n (of_mem_zip hy).1 with q|q
  . exact .inl q
  . exact .inr ⟨q,cellsFrom_some _ _ _ (.inl q)⟩
 refine codeAny_call_function hr.depth (KX _ _ lk) rfl S.co S.gen rfl (codeRec_of KX hcd) (hb _ _ _ _ ?_);refine wpAny_newFunctionEnv_cells S.kind hkind λenv he s1 x=>?_
 subst he;refine⟨lim.keeps x.toInCall.keep,codeAny_func ?_⟩;obtain⟨t,ht,hq⟩:=hbody A outer s H vs Q E (hr.deeper _) hsp;have I:Inv (CV CX P w K mg base N qual scope f cdv A outer s H E) [] (sL N vs) H s1:=zu S hr.hd e0 hl r x;refine Lu (ht [] s1 (sL N vs) H _ I hq) (λfl s' hs=>?_) λe s' hs=>hs
 have fin:∀ {σ':St} {H':Hp} {v:V} {u:IU},Inv (CV CX P w K mg base N qual scope f cdv A outer s H E) [] σ' H' s'->bT v u->Q v H'->CE outer P w H s Q u s' :=
  λ{σ' H' v u} J rv q=>⟨v,H',J.os,J.bare,J.base,J.hok,rv,q⟩
 cases fl with
|ret u =>
  obtain⟨v,σ',H',J,rv,q⟩:=hs;exact fin J rv q
|next =>
  obtain⟨σ',H',J,q⟩:=hs;exact fin (v:=V.non) (u:=Ke) J rfl q
|brk =>
  obtain⟨_,_,_,q⟩:=hs;exact Kj q
|cont =>
  obtain⟨_,_,_,q⟩:=hs;exact Kj q
section
variable {X:Cx}{x:Str}{p pos:Pos}{e:Expr}{es:List Expr}{t:TA}{id T:String}{r:List V->Hp->VK->Prop}
def tCB (r:List V->Hp->VK->Prop) (t:TA):TE:=λσ H Q=>t σ H λvs H1=>r vs H1 Q
def aK (hc:q9 X (.builtin id) r) (hg:Gl X x) (hm:X.mg x=IX) (hv:Kh x=dk (.builtin id)) (ha:PA X (e :: es) t) (hn:x≠"__name__":=by decide) (hdb:(x == ("__debug__":Str))=f':=by decide)
 (he:JG (e :: es) X.env=(f',eval e X.env) :: JG es X.env:=by rfl) (hpl:(Lw pos (JG es X.env)).any (·.1)=f':=by rfl):PE X (.Call (.Name x p) (e :: es) [] pos) (tCB r t):=by
 intro Lz s σ H Q I h;refine Lk (oY I hg hm hv ?_ hn hdb);exact PyProof.Rows.callWith_builtin1 (thn (ha pos Lz s σ H _ I h) λus s1 uq7=>by(obtain⟨vs,H1,I1,r1,q1⟩:=uq7;exact hc Lz s1 σ H1 vs us Q I1 r1 q1)) he hpl
def cY (hc:q9 X (.type T) r) (hg:Gl X x) (hm:X.mg x=IX) (hv:Kh x=dk (.type T)) (ha:PA X (e :: es) t) (hn:x≠"__name__":=by decide) (hdb:(x == ("__debug__":Str))=f':=by decide)
 (he:JG (e :: es) X.env=(f',eval e X.env) :: JG es X.env:=by rfl) (hpl:(Lw pos (JG es X.env)).any (·.1)=f':=by rfl):PE X (.Call (.Name x p) (e :: es) [] pos) (tCB r t):=by
 intro Lz s σ H Q I h;refine Lk (oY I hg hm hv ?_ hn hdb);exact Ld (thn (ha pos Lz s σ H _ I h) λus s1 uq8=>by(obtain⟨vs,H1,I1,r1,q1⟩:=uq8;exact hc Lz s1 σ H1 vs us Q I1 r1 q1)) he hpl
end
end L2
namespace HT
open PySem PyProof.Rows
section
open PySem.SeqAt
open PySem.AutoSeq1 (wpAny_loadPart')
open PySem.MeetsSeq PySem.MeetsSeq2 PySem.MeetsSeq3
end
section
variable {prog:Jy}{w:Jj}{A:JN}{E:IU->IZ->Prop}{s:IZ}
def sIx (n d:Nat):Option Int->Nat
|none=>d
|some v=>if v < 0 then (v+(n:Int)).toNat else min v.toNat n
def sIx_nat (n d k:Nat):sIx n d (dk (k:Int))=min k n:=by
 show (if (k:Int) < 0 then ((k:Int)+(n:Int)).toNat else min (k:Int).toNat n)=min k n;rw[Pb (by omega),toNat_natCast]
def Fs (n d:Nat) (hd:d <= n) (o:Option Int):sIx n d o <= n:=by
 cases o with
|none=>exact hd
|some v =>
  show (if v < 0 then (v+(n:Int)).toNat else min v.toNat n) <= n;by_cases hv:v < 0
  . rw[Pa hv];omega
  . rw[Pb hv];exact Nat.min_le_right _ _
def Aj (v:Int) (n d:Nat):(if v < 0 then max (v+(n:Int)) 0 else min v (n:Int))=((sIx n d (dk v):Nat):Int):=by
 show (if v < 0 then max (v+(n:Int)) 0 else min v (n:Int))=(((if v < 0 then (v+(n:Int)).toNat else min v.toNat n):Nat):Int)
 by_cases hv:v < 0
 . simp only[Pa hv];omega
 . simp only[Pb hv];omega
def xn (lo hi:Option Int) (n:Nat):Builtin.Slice.sliceAdjust lo hi 1 (n:Int)=(((sIx n 0 lo:Nat):Int),((sIx n n hi:Nat):Int)):=by
 have h1:¬ ((1:Int) < 0):=by omega
 unfold Builtin.Slice.sliceAdjust;simp only[h1,if_false];refine Prod.ext ?_ ?_
 . cases lo with
  |none=>rfl
  |some v=>exact Aj v n 0
 . cases hi with
  |none=>rfl
  |some v=>exact Aj v n n
def xL (i j:Nat):Builtin.Slice.slicePlaces (i:Int) (j:Int) 1=j - i:=by
 unfold Builtin.Slice.slicePlaces;have h1:(1:Int) > 0:=by omega
 simp only[h1,if_true,Int.ediv_one];split<;>omega
def qN {v:IU}{o:Option Int}{Q:Option Int->IZ->Prop}(p:IsPart v o) (h:Q o s):Jl (model prog w) A (Builtin.Slice.slicePartIndex v) Q E s:=by
 cases p with
|none=>exact slicePart_none h
|int i t=>exact slicePart_int h
def ni {sl:G'}{vl vu:IU}{lo hi:Option Int}{n:Nat}{Q:Int × Int × Nat->IZ->Prop}(hs:s.heap.IsSliceOf sl vl vu .none) (pl:IsPart vl lo) (pu:IsPart vu hi)
 (h:Q (((sIx n 0 lo:Nat):Int),1,sIx n n hi - sIx n 0 lo) s):Jl (model prog w) A (Builtin.Slice.sliceApplied (.ref sl) (pure (n:Int))) Q E s:=by
 obtain⟨os,hos,hcs,hds⟩:=id hs;unfold Builtin.Slice.sliceApplied Builtin.Slice.sliceFields;refine D' (D' (KI hos hds (x:=vl) rfl (D' (KI hos hds (x:=vu) rfl (D' (KI hos hds (x:=.none) rfl (IY ?_)))))));refine D' (slicePart_none ?_);show Jl _ _ (if ((1:Int) == 0)=l' then _ else _) _ _ s;rw[Pb (by decide)];refine D' (qN pl (D' (qN pu (D' (IY ?_)))));show Jl _ _ (match Builtin.Slice.sliceAdjust lo hi 1 (n:Int) with|(lo,hi)=>pure (lo,(1:Int),Builtin.Slice.slicePlaces lo hi 1)) _ _ s;rw[xn lo hi n];show Jl _ _ (pure (((sIx n 0 lo:Nat):Int),(1:Int),Builtin.Slice.slicePlaces ((sIx n 0 lo:Nat):Int) ((sIx n n hi:Nat):Int) 1)) _ _ s;rw[xL];exact IY h
def Cd (xs:Array IU) (i k:Nat):((K8 k).filterMap λ(m:Nat)=>xs[((i:Int)+(m:Int) * 1).toNat]?).toArray=((xs.toList.drop i).take k).toArray:=by
 have e:(λ(m:Nat)=>xs[((i:Int)+(m:Int) * 1).toNat]?)=λm=>xs[i+m]?:=by
  funext m;have:((i:Int)+(m:Int) * 1).toNat=i+m:=by omega
  rw[this]
 rw[e];have:=pick_run xs i k;rw[List.filterMap_map]at this;have e2:((λx=>xs[x]?) ∘ λx=>i+x)=λm=>xs[i+m]?:=rfl
 rw[e2]at this;rw[this]
def getItem_tuple_cut {t sl:G'}{items:Array IU}{vl vu:IU}{lo hi:Option Int}{Q:IU->IZ->Prop}(ht:IsTup s.heap t items) (hs:s.heap.IsSliceOf sl vl vu .none) (pl:IsPart vl lo) (pu:IsPart vu hi)
 (hw:¬ (sIx items.size 0 lo=0/\sIx items.size items.size hi=items.size))
 (h:Q (.ref s.heap.objs.size) { s with heap:=s.heap.push { cls:=.type "tuple",data:=.seq ((items.toList.drop (sIx items.size 0 lo)).take (sIx items.size items.size hi - sIx items.size 0 lo)).toArray } })
 (hsz:items.size <= Je):Jl (model prog w) A (getItem (.ref t) (.ref sl)) Q E s:=by
 have htake:sizeOk (.seq ((items.toList.drop (sIx items.size 0 lo)).take (sIx items.size items.size hi - sIx items.size 0 lo)).toArray):=by
  show ((items.toList.drop (sIx items.size 0 lo)).take (sIx items.size items.size hi - sIx items.size 0 lo)).toArray.size <= Je;rw[Js,JK,length_drop,La];omega
 have hj:sIx items.size items.size hi <= items.size:=Fs _ _ (Jd _) hi;obtain⟨os,hos,hcs,hds⟩:=id hs;have hTs:s.TypeIs (.ref sl) "slice":=⟨os,hos,hcs⟩
 unfold getItem
 try with_reducible refine Kl ?_
 first|refine D' (IY ?_)|skip
 refine D' (wpAny_sequenceKey ht.typeIs (by decide) ?_);refine D' (J2 (name:=K1 "__getitem__") ht.typeIs PyProof.Rows.slot_tuple_getitem
  (Kb PyProof.Rows.slot_tuple_getitem ht.typeIs entry_tuple_getitem ?_ (args_tuple_getitem _ _)))
 show Jl _ _ (Builtin.Tuple.tupleItemsOf (.ref t) >>= _) _ _ s;refine D' (tupleItemsOf_ ht ?_);refine D' (wpAny_typeOf hTs ?_);rw[Pa (by decide)];refine D' (ni hs pl pu ?_);have hno:¬ ((((sIx items.size 0 lo:Nat):Int) == 0 && (1:Int) == 1 && (sIx items.size items.size hi - sIx items.size 0 lo) == items.size)=l'):=by
  intro q;rw[Kn,Kn]at q;have q1:((sIx items.size 0 lo:Nat):Int)=0:=eq_of_beq q.1.1;have q2:sIx items.size items.size hi - sIx items.size 0 lo=items.size:=eq_of_beq q.2;exact hw ⟨by omega,by omega⟩
 show Jl _ _ (if (((sIx items.size 0 lo:Nat):Int) == 0 && (1:Int) == 1 && (sIx items.size items.size hi - sIx items.size 0 lo) == items.size)=l' then _ else _) _ _ s;rw[Pb hno,Cd]
 first
 |exact D' (m:=Builtin.Tuple.tupleExact _) (Kw (IY ⟨_,rfl,IY h⟩) htake)
 |exact D' (m:=Builtin.Tuple.tupleExact _) (Kw (D' (IY (IY ⟨_,rfl,IY h⟩))) htake)
 |exact D' (D' (m:=Builtin.Tuple.tupleExact _) (Kw (IY (IY ⟨_,rfl,IY h⟩)) htake))
 |exact D' (D' (m:=Builtin.Tuple.tupleExact _) (Kw (IY ⟨_,rfl,IY h⟩) htake))
end
end HT
namespace L2
open PySem PySem.Spec PyProof.Rows
abbrev TO:=St->Hp->(Option Int->Hp->Prop)->Prop
def PO (X:Cx) (e:Option Expr) (t:TO):Prop :=
 ∀ (Lz:List (G' × KP)) (s:IZ) (σ:St) (H:Hp) (Q:Option Int->Hp->Prop),Inv X Lz σ H s->t σ H Q ->
  Jl (model X.prog X.w) X.A (evalPart e X.env) (λu s'=>∃ o H',Inv X Lz σ H' s'/\IsPart u o/\Q o H') X.xe s
def Dx:TO:=λ_ H Q=>Q IX H
def GZ (t:TE):TO:=λσ H Q=>t σ H λx H1=>∃ i,x=.int i/\Q (dk i) H1
def xi {ns:List Int}:∀ {us:List IU},bE (ns.map V.int) us->IntsAre us ns:=by
 induction ns with
|nil=>intro us r;rw[map_nil]at r;cases r;exact .nil
|cons n ns ih =>
  intro us r;rw[J1]at r;cases r with
 |cons r1 r2 =>
   obtain⟨t,e⟩:=r1;subst e;exact .cons n t (ih r2)
section
variable {X:Cx}{e:Expr}{te:TE}{lo hi:Option Expr}{tl th:TO}{pos p2:Pos}
def rW:PO X IX Dx:=by
 intro Lz s σ H Q I h;rw[evalPart_none];exact IY ⟨IX,H,I,.none,h⟩
def rO (h:PE X e te):PO X (dk e) (GZ te):=by
 intro Lz s σ H Q I hw;rw[evalPart_some];refine thn (h Lz s σ H _ I hw) λu s1 ur29=>?_
 obtain⟨x,H1,I1,r1,q1⟩:=ur29;obtain⟨i,rfl,q⟩:=q1;obtain⟨t,rfl⟩:=r1;exact⟨dk i,H1,I1,.int i t,q⟩
def SlR (X:Cx) (r:V->Option Int->Option Int->Hp->VK->Prop):Prop :=
 ∀ (Lz:List (G' × KP)) (s:IZ) (σ:St) (H:Hp) (x:V) (v vl vu:IU) (lo hi:Option Int) (sl:G') (Q:VK),Inv X Lz σ H s->bT x v->s.heap.IsSliceOf sl vl vu .none->IsPart vl lo->IsPart vu hi->r x lo hi H Q ->
  ∃ T id,typeLookup (.type T) "__getitem__"=pure (dk (.builtin id))/\s.TypeIs v T/\Jl (model X.prog X.w) X.A (getItem v (.ref sl)) (EP X Lz σ Q) X.xe s
def tSl (r:V->Option Int->Option Int->Hp->VK->Prop) (te:TE) (tl th:TO):TE:=λσ H Q=>te σ H λx H1=>tl σ H1 λl H2=>th σ H2 λu H3=>r x l u H3 Q
def nY {r:V->Option Int->Option Int->Hp->VK->Prop}(hr:SlR X r) (he:PE X e te) (hl:PO X lo tl) (hu:PO X hi th):PE X (.Subscript e (.Slice lo hi IX p2) pos) (tSl r te tl th):=by
 intro Lz s σ H Q I h;refine Subscript_ (thn (he Lz s σ H _ I h) λv s1 ur30=>?_);obtain⟨x,H1,I1,r1,q1⟩:=ur30;refine wpAny_Slice (thn (hl Lz s1 σ H1 _ I1 q1) λvl s2 ⟨l,H2,I2,pl,q2⟩=>thn (hu Lz s2 σ H2 _ I2 q2) λvu s3 ⟨u,H3,I3,pu,q3⟩=>?_);rw[evalPart_none];refine IY ?_;have I4:Inv X Lz σ H3 { s3 with heap:=s3.heap.push { cls:=.type "slice",data:=.fields #[vl,vu,.none] } }:=I3.kept (t':=s3.toks) λb ob q=>Jc _ q
 obtain⟨T,id,hT,ht,hg⟩:=hr Lz { s3 with heap:=s3.heap.push { cls:=.type "slice",data:=.fields #[vl,vu,.none] } } σ H3 x v vl vu l u s3.heap.objs.size Q I4 r1 (JD.IsSliceOf.new ..) pl pu q3;show Jl (model X.prog X.w) X.A (subscriptTail e (.Slice lo hi IX p2) v (.ref s3.heap.objs.size)) (EP X Lz σ Q) X.xe { s3 with heap:=s3.heap.push { cls:=.type "slice",data:=.fields #[vl,vu,.none] } };exact tail_any (ops:=[.ref s3.heap.objs.size,v]) ht hT hg (by with_unfolding_all rfl)
def uK (xs:List V) (lo hi:Option Int):List V:=(xs.drop (HT.sIx xs.length 0 lo)).take (HT.sIx xs.length xs.length hi - HT.sIx xs.length 0 lo)
def pc (xs:List V) (lo hi:Option Int):(uK xs lo hi).length <= xs.length:=by
 unfold uK;rw[JK,length_drop];omega
def IA (K:Ja):V->Option Int->Option Int->Hp->VK->Prop:=λx lo hi H Q=>∃ a xs,x=.ref a/\SqT K H a xs /\
 ¬ (HT.sIx xs.length 0 lo=0/\HT.sIx xs.length xs.length hi=xs.length)/\∀ p,H p=IX->Q (.ref p) (upd H p (.tup (uK xs lo hi)))
def D9:SlR X (IA X.K):=by
 intro Lz s σ H x v vl vu lo hi sl Q I rx hs pl pu h;obtain⟨a,xs,rfl,hx,hw,q⟩:=h;cases rx;obtain⟨its,r,ht,hz⟩:=I.tuple hx;have hlen:its.toArray.size=xs.length:=by rw[Js];exact r.length.symm
 refine⟨"tuple",_,PyProof.Rows.slot_tuple_getitem.lookup,ht.typeIs,?_⟩;refine HT.getItem_tuple_cut ht hs pl pu (by rw[hlen];exact hw) ?_ (by rw[hlen];exact hz);rw[hlen];refine⟨.ref s.heap.objs.size,_,I.laid (t':=s.toks) (o:=.tup (uK xs lo hi)) (λb ob q=>Jc _ q) (Jd _) ?_,rfl,q _ (I.hok.fresh (Jd _))⟩;exact⟨JT (pc xs lo hi) hz,_,(r.drop (HT.sIx xs.length 0 lo)).take (HT.sIx xs.length xs.length hi - HT.sIx xs.length 0 lo),IsTup.new _ _⟩
end
def ixN (n:Nat) (i:Int):Option Nat:=if 0 <= i then (if i < n then dk i.toNat else IX) else if -(n:Int) <= i then dk (i+n).toNat else IX
def atI {α:Type}(xs:List α) (i:Int):Option α:=(ixN xs.length i).bind λj=>xs[j]?
def A1 {n:Nat}{i:Int}{j:Nat}(h:ixN n i=dk j):seqIndex? i n=dk j/\j < n/\-(n:Int) <= i/\i < n:=by
 unfold ixN at h;by_cases h0:0 <= i
 . rw[Pa h0]at h;by_cases h1:i < n
   . rw[Pa h1]at h;have e:i.toNat=j:=Jt h;exact⟨by rw[seqIndex_of h0 h1,e],by omega,by omega,h1⟩
   . rw[Pb h1]at h;cases h
 . rw[Pb h0]at h;by_cases h1:-(n:Int) <= i
   . rw[Pa h1]at h;have e:(i+n).toNat=j:=Jt h;exact⟨by rw[seqIndex_neg (by omega) h1,e],by omega,h1,by omega⟩
   . rw[Pb h1]at h;cases h
def zQ {α:Type}{xs:List α}{i:Int}{v:α}(h:atI xs i=dk v):∃ j,seqIndex? i xs.length=dk j/\xs[j]?=dk v/\j < xs.length/\-(xs.length:Int) <= i/\i < xs.length:=by
 unfold atI at h;cases e:ixN xs.length i with
|none=>rw[e]at h;cases h
|some j =>
  rw[e]at h;obtain⟨h1,h2,h3,h4⟩:=A1 e;exact⟨j,h1,h,h2,h3,h4⟩
def Dw {α:Type}{xs:List α}{j:Nat}{v:α}(h:xs[j]?=dk v):atI xs (j:Int)=dk v:=by
 have hj:j < xs.length:=(Jp.mp h).1;have e:ixN xs.length (j:Int)=dk j:=by
  unfold ixN;rw[Pa (by omega),Pa (by omega)];simp
 unfold atI;rw[e];exact h
def DE (b:Expr):Prop:=∀ o i,subscripted b f' o i=operate [o,i] (getItem o i)
def IxR (X:Cx) (r:R2):Prop :=
 ∀ (value slice:Expr) (Lz:List (G' × KP)) (s:IZ) (σ:St) (H:Hp) (x y:V) (v u:IU) (Q:VK),Inv X Lz σ H s->bT x v->bT y u->r x y H Q ->
  subscripted slice f' v u=operate [v,u] (getItem v u)->Jl (model X.prog X.w) X.A (subscriptTail value slice v u) (EP X Lz σ Q) X.xe s
def MtR (X:Cx) (id:String) (r:V->List V->Hp->VK->Prop):Prop :=
 ∀ (Lz:List (G' × KP)) (s:IZ) (σ:St) (H:Hp) (x:V) (xs:List V) (v:IU) (us:List IU) (Q:VK),Inv X Lz σ H s->bT x v->bE xs us->r x xs H Q ->
  Jl (model X.prog X.w) X.A (call (.builtin id) (v :: us)) (EP X Lz σ Q) X.xe s
section
variable {X:Cx}{a b:Expr}{ta tb:TE}{pos:Pos}
def IxR.or {r r':R2}(h:IxR X r) (h':IxR X r'):IxR X (λx y H Q=>r x y H Q\/r' x y H Q):=by
 intro value slice Lz s σ H x y v u Q I rx ry q hs;rcases q with q|q
 . exact h value slice Lz s σ H x y v u Q I rx ry q hs
 . exact h' value slice Lz s σ H x y v u Q I rx ry q hs
def aA {r:R2}(hr:IxR X r) (ha:PE X a ta) (hb:PE X b tb) (hs:DE b):PE X (.Subscript a b pos) (tOp r ta tb):=by
 intro Lz s σ H Q I h;exact Subscript_ (Hf ha hb I h λv u s2 x y H2 I2 rx ry q=>hr a b Lz s2 σ H2 x y v u Q I2 rx ry q (hs _ _))
def Gv (K:Ja):R2:=λx y H Q=>∃ p xs i v,x=.ref p/\y=.int i/\SqL K H p xs/\atI xs i=dk v/\Q v H
def Gu (K:Ja):R2:=λx y H Q=>∃ p xs i v,x=.ref p/\y=.int i/\SqT K H p xs/\atI xs i=dk v/\Q v H
def aV:IxR X (Gv X.K):=by
 intro value slice Lz s σ H x y v u Q I rx ry h hs;obtain⟨p,xs,i,z,rfl,rfl,hq,he,q⟩:=h;cases rx;obtain⟨t,rfl⟩:=ry;obtain⟨its,r,pl,hz⟩:=I.list hq;obtain⟨j,h1,h2,h3,h4,h5⟩:=zQ he;obtain⟨w,ew,rw'⟩:=r.get h2;have hl:=r.length;have hn:=ub;have fin:EP X Lz σ Q w s:=⟨z,H,I,rw',q⟩
 by_cases h0:0 <= i
 . have hj:i.toNat=j:=by
    rw[seqIndex_of h0 h5]at h1;exact Jt h1
   exact item_listR pl.isList h0 (by omega) (by rw[hj];simpa using ew) fin hs
 . have hj:(i+(its.toArray.size:Int)).toNat=j:=by
    rw[seqIndex_neg (by omega) h4]at h1;rw[Js,<-hl];exact Jt h1
   exact subscriptTail_builtinR (x:=w) pl.isList.typeIs slot_list_getitem.lookup
    (wpAny_getItem_list_neg (Q:=λr s'=>r=w/\EP X Lz σ Q r s') pl.isList (by omega) (by rw[Js]<;>omega) (by omega) (by rw[hj];simpa using ew) ⟨rfl,fin⟩) hs
def aI:IxR X (Gu X.K):=by
 intro value slice Lz s σ H x y v u Q I rx ry h hs;obtain⟨p,xs,i,z,rfl,rfl,hq,he,q⟩:=h;cases rx;obtain⟨t,rfl⟩:=ry;obtain⟨its,r,pl,hz⟩:=I.tuple hq;obtain⟨j,h1,h2,h3,h4,h5⟩:=zQ he;obtain⟨w,ew,rw'⟩:=r.get h2;have hl:=r.length;have hn:=ub;have fin:EP X Lz σ Q w s:=⟨z,H,I,rw',q⟩
 exact subscriptTail_builtinR (x:=w) pl.typeIs slot_tuple_getitem.lookup
  (getItem_tuple (j:=j) (Q:=λr s'=>r=w/\EP X Lz σ Q r s') pl (by omega) (by omega) (by rw[Js,<-hl];exact h1) (by simpa using ew) ⟨rfl,fin⟩) hs
def xS (its:List IU) (n j:Nat) (u:IU):Kf (·.setIfInBounds j u) { cls:=.type "list",data:=.seq its.toArray n }={ cls:=.type "list",data:=.seq (its.set j u).toArray n }:=by
 simp[Kf]
theorem Inv.lst {Lz:List (G' × KP)}{σ:St}{H:Hp}{s:IZ}{p:G'}{xs:List V}(I:Inv X Lz σ H s) (h:H p=dk (.lst xs)) :
 ∃ (its:List IU) (n:Nat),bE xs its/\s.heap.get? p=dk { cls:=.type "list",data:=.seq its.toArray n }/\xs.length <= Je:=by
 obtain⟨z,its,n,r,e⟩:=I.hok p _ h;exact⟨its,n,r,e,z⟩
def Inv.lstUpd {Lz:List (G' × KP)}{σ:St}{H:Hp}{s:IZ}{p:G'}{xs ys:List V}{its its':List IU}{n n':Nat}{f:KP->KP}(I:Inv X Lz σ H s) (h:H p=dk (.lst xs))
 (ho:s.heap.get? p=dk { cls:=.type "list",data:=.seq its.toArray n }) (hf:f { cls:=.type "list",data:=.seq its.toArray n }={ cls:=.type "list",data:=.seq its'.toArray n' }) (r:bE ys its') (hz:ys.length <= Je) (t:Nat) :
 Inv X Lz σ (upd H p (.lst ys)) { s with heap:=s.heap.update p f,toks:=t }:=by
 have e:(s.heap.update p f).get? p=dk { cls:=.type "list",data:=.seq its'.toArray n' }:=by
  rw[Lo f ho (by rw[hf]<;>rfl),hf]
 refine I.write (x:=p) (e:=p) (by rw[h];trivial) (.inl rfl) (λb u hb q=>(JD.get?_update_other _ _ (K5 hb)).trans q) ⟨_,e⟩ ?_;exact⟨hz,its',n',r,e⟩
def GO:V->V->V->Hp->(Hp->Prop)->Prop:=λo i v H Q=>∃ p xs k j,o=.ref p/\i=.int k/\H p=dk (.lst xs)/\ixN xs.length k=dk j/\Q (upd H p (.lst (xs.set j v)))
def ii:Ia X GO:=by
 intro Lz s σ H o i v ov iv u Q I ro ri rv h;obtain⟨p,xs,k,j,rfl,rfl,hp,hj,q⟩:=h;cases ro;obtain⟨t,rfl⟩:=ri;obtain⟨its,n,r,ho,hz⟩:=I.lst hp;obtain⟨h1,h2,h3,h4⟩:=A1 hj;have hl:=r.length;have hn:=ub;have I':Inv X Lz σ (upd H p (.lst (xs.set j v))) { s with heap:=s.heap.update p (Kf (·.setIfInBounds j u)) } :=
  I.lstUpd hp ho (xS its n j u) (r.set rv j) (by rw[List.length_set];exact hz) s.toks
 by_cases h0:0 <= k
 . have hk:k.toNat=j:=by
    rw[seqIndex_of h0 h4]at h1;exact Jt h1
   exact ki_setAt ho h0 (by omega) (by rw[Js,<-hl];exact h4) (by rw[hk];exact⟨_,I',q⟩)
 . have hk:(k+(its.toArray.size:Int)).toNat=j:=by
    rw[seqIndex_neg (by omega) h3]at h1;rw[Js,<-hl];exact Jt h1
   exact ki_setBack ho (by omega) (by rw[Js,<-hl];exact h3) (by omega) (by rw[hk];exact⟨_,I',q⟩)
def tY (lo hi:Option Int) (n:Nat):(sliceBounds lo hi IX n).1=((HT.sIx n 0 lo:Nat):Int)/\(sliceBounds lo hi IX n).2.1=((HT.sIx n n hi:Nat):Int)/\(sliceBounds lo hi IX n).2.2=1:=by
 refine⟨?_,?_,rfl⟩
 . cases lo with
  |none=>simp[sliceBounds,HT.sIx]
  |some i =>
    simp only[sliceBounds,HT.sIx,getD_none,show (1:Int) > 0 by decide,if_true];by_cases h:i < 0
    . simp only[h,if_true]<;>omega
    . simp only[h,if_false]<;>omega
 . cases hi with
  |none=>simp[sliceBounds,HT.sIx]
  |some i =>
    simp only[sliceBounds,HT.sIx,getD_none,show (1:Int) > 0 by decide,if_true];by_cases h:i < 0
    . simp only[h,if_true]<;>omega
    . simp only[h,if_false]<;>omega
def rA (its:List IU) (lo hi:Option Int):slicePick its.toArray lo hi IX=((its.drop (HT.sIx its.length 0 lo)).take (HT.sIx its.length its.length hi - HT.sIx its.length 0 lo)).toArray:=by
 obtain⟨h1,h2,h3⟩:=tY lo hi its.toArray.size;unfold slicePick;rw[h1,h2,h3];simp only[sliceRange_one,pick_run,Js]<;>rfl
def Ik (K:Ja):V->Option Int->Option Int->Hp->VK->Prop:=λx lo hi H Q=>∃ a xs,x=.ref a/\SqL K H a xs/\∀ p,H p=IX->Q (.ref p) (upd H p (.lst (uK xs lo hi)))
def AR:SlR X (Ik X.K):=by
 intro Lz s σ H x v vl vu lo hi sl Q I rx hs pl pu h;obtain⟨a,xs,rfl,hx,q⟩:=h;cases rx;obtain⟨its,r,ht,hz⟩:=I.list hx;have hlen:=r.length;refine⟨"list",_,slot_list_getitem.lookup,ht.isList.typeIs,?_⟩;refine wpAny_getItem_list_slice ht.isList hs pl pu .none (by simp) ?_ (by rw[Js]<;>omega);rw[rA,<-hlen];refine⟨.ref s.heap.objs.size,_,I.laid (t':=s.toks) (o:=.lst (uK xs lo hi)) (λb ob q=>Jc _ q) (Jd _) ?_,rfl,q _ (I.hok.fresh (Jd _))⟩;exact⟨JT (pc xs lo hi) hz,_,0,(r.drop (HT.sIx xs.length 0 lo)).take (HT.sIx xs.length xs.length hi - HT.sIx xs.length 0 lo),Jq _ rfl⟩
def pM:V->Bool
|.non=>l'
|.bl _=>l'
|.int _=>l'
|.str _=>l'
|_=>f'
def eqV:V->V->Bool
|.non,.non=>l'
|.bl a,.bl b=>a == b
|.bl a,.int b=>(if a then 1 else 0) == b
|.int a,.bl b=>a == (if b then 1 else 0)
|.int a,.int b=>a == b
|.str a,.str b=>a == b
|_,_=>f'
def FE {A:JN}{s:IZ}{y x:V}{u v:IU}(ry:bT y u) (rx:bT x v) (fy:pM y=l') (fx:pM x=l'):JZ A s u v (eqV y x):=by
 cases y with
|non =>
  cases ry;cases x with
 |non=>cases rx;exact JZ.same _
 |bl b=>cases rx;exact JZ.none_bool b
 |int b=>obtain⟨t,rfl⟩:=rx;exact JZ.none_int b t
 |str b=>obtain⟨t,rfl⟩:=rx;exact JZ.none_str b t
 |_=>exact absurd (show f'=l' from fx) Jo
|bl a =>
  cases ry;cases x with
 |non=>cases rx;exact JZ.bool_none a
 |bl b=>cases rx;exact JZ.bool_bool a b
 |int b=>obtain⟨t,rfl⟩:=rx;exact JZ.bool_int a b t
 |str b=>obtain⟨t,rfl⟩:=rx;exact JZ.bool_str a b t
 |_=>exact absurd (show f'=l' from fx) Jo
|int a =>
  obtain⟨t',rfl⟩:=ry;cases x with
 |non=>cases rx;exact JZ.int_none a t'
 |bl b=>cases rx;exact JZ.int_bool a t' b
 |int b=>obtain⟨t,rfl⟩:=rx;exact JZ.int_int a t' b t
 |str b=>obtain⟨t,rfl⟩:=rx;exact JZ.int_str a t' b t
 |_=>exact absurd (show f'=l' from fx) Jo
|str a =>
  obtain⟨t',rfl⟩:=ry;cases x with
 |non=>cases rx;exact JZ.str_none a t'
 |bl b=>cases rx;exact JZ.str_bool a t' b
 |int b=>obtain⟨t,rfl⟩:=rx;exact JZ.str_int a t' b t
 |str b=>obtain⟨t,rfl⟩:=rx;exact JZ.str_str a t' b t
 |_=>exact absurd (show f'=l' from fx) Jo
|_=>exact absurd (show f'=l' from fy) Jo
def eqU (x:V) (u:IU):Bool:=match u with
|.none=>eqV .non x
|.bool b=>eqV (.bl b) x
|.int i _=>eqV (.int i) x
|.str z _=>eqV (.str z) x
|_=>f'
def CZ {x y:V}{u:IU}(r:bT y u) (f:pM y=l'):eqU x u=eqV y x:=by
 cases y with
|non=>cases r;rfl
|bl b=>cases r;rfl
|int i=>obtain⟨t,rfl⟩:=r;rfl
|str z=>obtain⟨t,rfl⟩:=r;rfl
|_=>exact absurd (show f'=l' from f) Jo
theorem pe {x:V}:∀ {xs:List V}{us:List IU},bE xs us->xs.all pM=l'->us.any (eqU x)=xs.any λy=>eqV y x
|_,_,.nil,_=>rfl
|y :: xs,u :: us,.cons r t,f=>by
  rw[all_cons,Kn]at f;rw[any_cons,any_cons,CZ r f.1,pe t f.2]
theorem lP {A:JN}{s:IZ}{x:V}{v:IU}(rx:bT x v) (fx:pM x=l'):∀ {xs:List V}{us:List IU},bE xs us->xs.all pM=l'->∀ u∈us,JZ A s u v (eqU x u)
|_,_,.nil,_=>λu hu=>by cases hu
|y :: xs,u :: us,.cons r t,f=>λu' hu=>by
  rw[all_cons,Kn]at f;rcases Jx.mp hu with rfl|hu
  . rw[CZ r f.1];exact FE r rx f.1 fx
  . exact lP rx fx t f.2 u' hu
def inV (x:V) (xs:List V):Bool:=xs.any λy=>eqV y x
def rIn (K:Ja) (neg:Bool):R2:=λx y H Q=>∃ p xs,y=.ref p/\(SqL K H p xs\/SqT K H p xs)/\pM x=l'/\xs.all pM=l'/\Q (.bl (if neg then !inV x xs else inV x xs)) H
def gX:OpR X (Ky .In) (rIn X.K f'):=by
 intro Lz s σ H x y v u Q I rx ry h;obtain⟨p,xs,rfl,hq,fx,fs,q⟩:=h;cases ry;rcases hq with hq|hq
 . obtain⟨its,r,pl,hz⟩:=I.list hq;refine SeqAt.in_listAt (eqU x) pl.isList (λw hw=>lP rx fx r fs w (by simpa using hw)) ⟨.bl _,H,I,rfl,?_⟩;rw[show its.toArray.any (eqU x)=its.any (eqU x) by simp,pe r fs];exact q
 . obtain⟨its,r,pl,hz⟩:=I.tuple hq;refine SeqAt.in_tupleAt (eqU x) pl (λw hw=>lP rx fx r fs w (by simpa using hw)) ⟨.bl _,H,I,rfl,?_⟩;rw[show its.toArray.any (eqU x)=its.any (eqU x) by simp,pe r fs];exact q
def gp:OpR X (Ky .NotIn) (rIn X.K l'):=by
 intro Lz s σ H x y v u Q I rx ry h;obtain⟨p,xs,rfl,hq,fx,fs,q⟩:=h;cases ry;rcases hq with hq|hq
 . obtain⟨its,r,pl,hz⟩:=I.list hq;refine SeqAt.notIn_listAt (eqU x) pl.isList (λw hw=>lP rx fx r fs w (by simpa using hw)) ⟨.bl _,H,I,rfl,?_⟩;rw[show its.toArray.any (eqU x)=its.any (eqU x) by simp,pe r fs];exact q
 . obtain⟨its,r,pl,hz⟩:=I.tuple hq;refine SeqAt.notIn_tupleAt (eqU x) pl (λw hw=>lP rx fx r fs w (by simpa using hw)) ⟨.bl _,H,I,rfl,?_⟩;rw[show its.toArray.any (eqU x)=its.any (eqU x) by simp,pe r fs];exact q
def bh:q9 X (.builtin "len") (λxs H Q=>∃ p ys,xs=[.ref p]/\(SqL X.K H p ys\/SqT X.K H p ys)/\Q (.int ys.length) H):=by
 intro Lz s σ H xs us Q I r h;obtain⟨p,ys,rfl,hq,q⟩:=h;obtain⟨u,rfl,rx⟩:=sh r;cases rx;have hn:=ub;rcases hq with hq|hq
 . obtain⟨its,r',pl,hz⟩:=I.list hq;have hlen:=r'.length;exact Calls.call_len_list pl.isList (by simp only[Js]<;>omega) ⟨.int ys.length,H,I.tok _,⟨s.toks+1,by rw[Js,hlen]⟩,q⟩
 . obtain⟨its,r',pl,hz⟩:=I.tuple hq;have hlen:=r'.length;exact len_tuple pl (by simp only[Js]<;>omega) ⟨.int ys.length,H,I.tok _,⟨s.toks+1,by rw[Js,hlen]⟩,q⟩
def mX:q9 X (.type "list") (λxs H Q=>∃ p ys,xs=[.ref p]/\(SqL X.K H p ys\/SqT X.K H p ys)/\∀ l,H l=IX->Q (.ref l) (upd H l (.lst ys))):=by
 intro Lz s σ H xs us Q I r h;obtain⟨p,ys,rfl,hq,q⟩:=h;obtain⟨u,rfl,rx⟩:=sh r;cases rx;have fin:∀ (its:List IU),bE ys its->ys.length <= Je->∀ (h':JD) (c':Nat),(∀ b o',s.heap.get? b=dk o'->h'.get? b=dk o') ->
  h'.get? s.heap.objs.size=dk { cls:=.type "list",dict:=IX,data:=.seq its.toArray c',slots:=#[] }->EP X Lz σ Q (.ref s.heap.objs.size) { s with heap:=h' }:=λits r' hz h' c' kp e =>
  ⟨.ref s.heap.objs.size,_,I.laid (t':=s.toks) kp (Jd _) (show cS X.prog X.w _ h' _ (.lst ys) from ⟨hz,its,c',r',e⟩),rfl,q _ (I.hok.fresh (Jd _))⟩
 rcases hq with hq|hq
 . obtain⟨its,r',pl,hz⟩:=I.list hq;have hlen:=r'.length;obtain⟨o,ho,hc,n,hd⟩:=pl.isList;exact call_list_seq p (.inl rfl) ho hc hd (λh' c' kp e=>fin its r' hz h' c' kp e) (by simp only[Js]<;>omega)
 . obtain⟨its,r',pl,hz⟩:=I.tuple hq;have hlen:=r'.length;obtain⟨o,ho,hc,n,hd⟩:=pl;exact call_list_seq p (.inr rfl) ho hc hd (λh' c' kp e=>fin its r' hz h' c' kp e) (by simp only[Js]<;>omega)
def bY:q9 X (.type "tuple") (λxs H Q=>∃ p ys,xs=[.ref p]/\((SqL X.K H p ys/\∀ l,H l=IX->Q (.ref l) (upd H l (.tup ys)))\/(SqT X.K H p ys/\Q (.ref p) H))):=by
 intro Lz s σ H xs us Q I r h;obtain⟨p,ys,rfl,h⟩:=h;obtain⟨u,rfl,rx⟩:=sh r;cases rx;rcases h with⟨hq,q⟩|⟨hq,q⟩
 . obtain⟨its,r',pl,hz⟩:=I.list hq;have hlen:=r'.length;refine call_tuple_list pl.isList (λh' kp=>?_) (by simp only[Js]<;>omega);have I1:Inv X Lz σ H { s with heap:=h' }:=I.kept (t':=s.toks) kp;have I2:Inv X Lz σ (upd H h'.objs.size (.tup ys)) { s with heap:=h'.push { cls:=.type "tuple",data:=.seq its.toArray } } :=
    I1.laid (t':=s.toks) (λb o e=>Jc _ e) (Jd _) (show cS X.prog X.w _ _ _ (.tup ys) from ⟨hz,its,r',IsTup.new _ _⟩)
   exact⟨.ref h'.objs.size,_,I2,rfl,q _ (I1.hok.fresh (Jd _))⟩
 . obtain⟨its,r',pl,hz⟩:=I.tuple hq;exact call_tuple_same pl ⟨.ref p,H,I,rfl,q⟩
def tyV (K:Ja) (T:String) (x:V) (H:Hp):Prop:=match x with
|.str _=>T="str"
|.int _=>T="int"
|.ref p=>(T="list"/\∃ xs,SqL K H p xs)\/(T="tuple"/\∃ o,K.lookup p=dk o/\o.cls=.type "tuple"/\o.dict=IX) \/
  (T="dict"/\((∃ kvs,H p=dk (.dK kvs))\/∃ kvs,H p=dk (.dT kvs)))\/(T="set"/\∃ S n,H p=dk (.set S n))
|_=>False
def Gj {Lz:List (G' × KP)}{σ:St}{H:Hp}{s:IZ}{T:String}{x:V}{v:IU}(I:Inv X Lz σ H s) (r:bT x v) (ty:tyV X.K T x H) :
 s.TypeIs v T/\∀ a,v=.ref a->∃ ob,s.heap.get? a=dk ob/\ob.dict=IX:=by
 cases x with
|str z =>
  obtain⟨t,rfl⟩:=r;cases (show T="str" from ty);exact⟨typeIs_str s z t,λ_ e=>nomatch e⟩
|int i =>
  obtain⟨t,rfl⟩:=r;cases (show T="int" from ty);exact⟨typeIs_int s i t,λ_ e=>nomatch e⟩
|ref p =>
  cases r;rcases ty with⟨rfl,xs,hq⟩|⟨rfl,o,hk,hc,hd⟩|⟨rfl,hk⟩|⟨rfl,S,n,hk⟩
  . obtain⟨its,_,pl,_⟩:=I.list hq;refine⟨pl.isList.typeIs,λa e=>?_⟩;cases e;obtain⟨o,n,e,c,hd,_⟩:=pl;exact⟨o,e,hd⟩
  . refine⟨⟨o,I.kIn p o hk,hc⟩,λa e=>?_⟩;cases e;exact⟨o,I.kIn _ o hk,hd⟩
  . have z:∃ o,s.heap.get? p=dk o/\o.ExactDict:=by
     rcases hk with⟨kvs,hk⟩|⟨kvs,hk⟩
     . obtain⟨_,_,_,_,o,_,_,e,ex,_⟩:=I.hok p _ hk;exact⟨o,e,ex⟩
     . obtain⟨_,_,_,_,o,_,_,e,ex,_⟩:=I.hok p _ hk;exact⟨o,e,ex⟩
    obtain⟨o,e,ex⟩:=z;refine⟨⟨o,e,ex.1⟩,λa e2=>?_⟩;cases e2;exact⟨o,e,ex.2.1⟩
  . obtain⟨o,_,_,_,e,ex,_⟩:=I.hok p _ hk;refine⟨⟨o,e,ex.1⟩,λa e2=>?_⟩;cases e2;exact⟨o,e,ex.2.1⟩
|_=>exact Kj ty
def tBM (K:Ja) (T:String) (r:V->List V->Hp->VK->Prop) (to:TE) (t:TA):TE:=λσ H Q=>to σ H λx H1=>tyV K T x H1/\t σ H1 λxs H2=>r x xs H2 Q
variable {o e:Expr}{es:List Expr}{to:TE}{t:TA}{name:Str}{apos cpos:Pos}{T id:String}{r:V->List V->Hp->VK->Prop}
def l8 (pa:PlainAttrs T) (slot:Slot T name id) (hty:typeOf (.builtin id)=pure (.type "method_descriptor")) (hm:MtR X id r) (ho:PE X o to) (ha:PA X (e :: es) t)
 (hbase:attributeBase o name X.env (eval o X.env)=eval o X.env:=by rfl)
 (hfew:((Lw cpos (JG (e :: es) X.env)).all (λx=>!x.1) && (backToKw cpos (keywordEach [] X.env)).all (λx=>x.1.isSome)
  && decide ((e :: es).length+([]:List Keyword).length+(if ([]:List Keyword).isEmpty then 0 else 1) < 30))=l':=by rfl)
 (hline:(apos.endLine == cpos.line)=l':=by rfl) (hs:JG (e :: es) X.env=(f',eval e X.env) :: JG es X.env:=by rfl) (hplain:(Lw cpos (JG es X.env)).any (·.1)=f':=by rfl) :
 PE X (.Call (.Attribute o name apos) (e :: es) [] cpos) (tBM X.K T r to t):=by
 intro Lz s σ H Q I h;refine wpAny_Call_method_late hbase hfew hline rfl (thn (ho Lz s σ H _ I h) λv s1 ur31=>?_);obtain⟨x,H1,I1,r1,ty,q1⟩:=ur31;obtain⟨h1,h2⟩:=Gj I1 r1 ty;refine⟨T,id,pa,slot,hty,h1,h2,?_⟩;have hA:=ha cpos Lz s1 σ H1 _ I1 q1;rw[hs]at hA |-;refine Lc (by show (f' || (Lw cpos (JG es X.env)).any (·.1))=f';rw[hplain]<;>rfl) (K3 ?_);exact thn hA λus s2 uq9=>by(obtain⟨vs,H2,I2,r2,q2⟩:=uq9;exact hm Lz s2 σ H2 x vs v us Q I2 r1 r2 q2)
end
def MtM (X:Cx) (id:String) (r:V->List V->Hp->VK->Prop):Prop :=
 ∀ (Lz:List (G' × KP)) (s:IZ) (σ:St) (H:Hp) (x:V) (xs:List V) (v:IU) (us:List IU) (Q:VK),Inv X Lz σ H s->bT x v->bE xs us->r x xs H Q ->
  Jl (model X.prog X.w) X.A (call (.builtin id) (v :: us)) (EP X Lz σ Q) X.xe s
def bE.one:∀ {x:V}{us:List IU},bE [x] us->∃ u,us=[u]/\bT x u
|_,_,.cons r .nil=>⟨_,rfl,r⟩
def bE.zero:∀ {us:List IU},bE [] us->us=[]
|_,.nil=>rfl
theorem bE.eraseIdx:∀ {xs:List V}{us:List IU}(i:Nat),bE xs us->bE (xs.eraseIdx i) (us.eraseIdx i)
|_,_,_,.nil=>.nil
|_,_,0,.cons _ t=>t
|_,_,i+1,.cons r t=>.cons r (bE.eraseIdx i t)
theorem tV {α:Type}:∀ (l:List α) (i:Nat),(l.eraseIdx i).length <= l.length
|[],_=>Jd _
|_ :: _,0=>le_succ _
|_ :: r,i+1=>Nat.succ_le_succ (tV r i)
section
variable {X:Cx}{Lz:List (G' × KP)}{σ:St}{H:Hp}{s:IZ}{l b:G'}{xs ys zs:List V}
def Inv.lset {its its':List IU}{n:Nat}{f:Array IU->Array IU}{t':Nat}(I:Inv X Lz σ H s) (hH:H l=dk (.lst xs))
 (e:s.heap.get? l=dk { cls:=.type "list",data:=.seq its.toArray n }) (hf:f its.toArray=its'.toArray) (hv:bE ys its') (hz:ys.length <= Je) :
 Inv X Lz σ (upd H l (.lst ys)) { s with heap:=s.heap.update l (Kf f),toks:=t' }:=by
 have q:=PySem.IsL.update e f;rw[hf]at q;refine I.write (x:=l) (e:=l) (by rw[hH];exact trivial) (.inl rfl) (λb' u hb hu=>(JD.get?_update_other s.heap (Kf f) (K5 hb)).trans hu) ⟨_,q⟩ ?_;exact⟨hz,its',_,hv,q⟩
def Inv.lnew {its:List IU}{t':Nat}(I:Inv X Lz σ H s) (hv:bE ys its) (hz:ys.length <= Je) :
 Inv X Lz σ (upd H s.heap.objs.size (.lst ys)) { s with heap:=s.heap.push { cls:=.type "list",data:=.seq its.toArray },toks:=t' } :=
 I.laid (λ_ _ q=>Jc _ q) (Jd _) ⟨hz,its,0,hv,Jq _ rfl⟩
def Inv.lstM (I:Inv X Lz σ H s) (hH:H l=dk (.lst xs)):xs.length <= Je/\∃ (its:List IU) (n:Nat),bE xs its/\xs.length=its.length/\s.heap.get? l=dk { cls:=.type "list",data:=.seq its.toArray n }:=by
 obtain⟨z,its,n,r,e⟩:=I.hok l _ hH;exact⟨z,its,n,r,r.length,e⟩
def BK {n:Nat}(h:n <= Je):Builtin.List.listTooLong n=f':=by
 unfold Builtin.List.listTooLong;exact decide_eq_false (by omega)
end
section
variable {X:Cx}
def Eh:V->List V->Hp->VK->Prop:=λx vs H Q=>∃ l xs y,x=.ref l/\vs=[y]/\H l=dk (.lst xs)/\xs.length < Je/\Q .non (upd H l (.lst (xs++[y])))
def dR:MtM X "list.append" Eh:=by
 intro Lz s σ H x vs v us Q I rx rv h;obtain⟨l,xs,y,rfl,rfl,hH,hz,q⟩:=h;cases rx;obtain⟨u,rfl,ru⟩:=rv.one;obtain⟨z,its,n,r,hl,e⟩:=I.lstM hH;refine call_meets F.slot_list_append ⟨_,e,rfl⟩ F.entry_list_append (F.args_list_append_2 _ _) (PySem.list_append l its.toArray n u (by rw[Js];omega)) ⟨e,?_⟩;refine⟨.non,_,I.lset (its':=its++[u]) hH e (by simp) (r.append (.cons ru .nil)) ?_,rfl,q⟩;rw[IT,List.length_singleton];omega
def DO:V->List V->Hp->VK->Prop:=λx vs H Q=>∃ l b xs zs,x=.ref l/\vs=[.ref b]/\H l=dk (.lst xs)/\H b=dk (.lst zs)/\xs.length+zs.length <= Je/\Q .non (upd H l (.lst (xs++zs)))
def pG:MtM X "list.extend" DO:=by
 intro Lz s σ H x vs v us Q I rx rv h;obtain⟨l,b,xs,zs,rfl,rfl,hH,hB,hz,q⟩:=h;cases rx;obtain⟨u,rfl,ru⟩:=rv.one;cases ru;obtain⟨z,its,n,r,hl,e⟩:=I.lstM hH;obtain⟨z2,its2,n2,r2,hl2,e2⟩:=I.lstM hB;have hsz:its.toArray.size+its2.toArray.size <= Je:=by rw[Js,Js];omega
 have hlong:¬ (!its.toArray.isEmpty && Builtin.List.listTooLong (its.toArray.size+its2.toArray.size))=l':=by
  rw[BK hsz,Bool.and_false];exact Jo
 refine call_meets F.slot_list_extend ⟨_,e,rfl⟩ F.entry_list_extend (F.args_list_extend_2 _ _)
  (AutoSeq1.list_extend_list_list_0 l its.toArray n b its2.toArray n2 hlong (by rw[Js];omega) (by omega)) ⟨e,e2,?_⟩
 refine⟨.non,_,I.lset (its':=its++its2) hH e (by simp) (r.append r2) ?_,rfl,q⟩;rw[IT];omega
def Ff:V->List V->Hp->VK->Prop:=λx vs H Q=>∃ l xs i k y,x=.ref l/\vs=[.int i]/\H l=dk (.lst xs)/\-(2 ^ 63) <= i/\i < 2 ^ 63/\seqIndex? i xs.length=dk k/\xs[k]?=dk y/\Q y (upd H l (.lst (xs.eraseIdx k)))
def Bx:MtM X "list.pop" Ff:=by
 intro Lz s σ H x vs v us Q I rx rv h;obtain⟨l,xs,i,k,y,rfl,rfl,hH,h1,h2,hk,hy,q⟩:=h;cases rx;obtain⟨u,rfl,ru⟩:=rv.one;obtain⟨t,rfl⟩:=ru;obtain⟨z,its,n,r,hl,e⟩:=I.lstM hH;obtain⟨w,hw,rw'⟩:=r.get hy;refine call_meets F.slot_list_pop ⟨_,e,rfl⟩ F.entry_list_pop (F.args_list_pop_2 _ _)
  (MeetsSeq.list_pop_at l its.toArray n i t k w (fitsIndex_both h1 h2) (by rw[Js,<-hl];exact hk) (by rw[<-Kv];exact hw) (by rw[Js];omega)) ⟨e,?_⟩
 refine⟨y,_,I.lset (its':=its.eraseIdx k) hH e ?_ (r.eraseIdx k) ?_,rw',q⟩
 . show its.toArray.eraseIdxIfInBounds k=(its.eraseIdx k).toArray;rw[List.eraseIdxIfInBounds_toArray]
 . have:=tV xs k;omega
end
section
variable {prog:Jy}{w:Jj}{A:JN}{E:IU->IZ->Prop}{s:IZ}
set_option maxRecDepth 100000 in
end
section
variable {X:Cx}
end
section
variable {κ:Type} [DecidableEq κ]
def qd (kvs:List (κ × V)) (k:κ):Option V:=(kvs.find? λkv=>decide (kv.1=k)).map (·.2)
def uQ (kvs:List (κ × V)) (k:κ) (v:V):List (κ × V) :=
 if (kvs.any λkv=>decide (kv.1=k))=l' then kvs.map (λkv=>if kv.1=k then (kv.1,v) else kv) else kvs++[(k,v)]
def uB (kvs:List (κ × V)) (k:κ):List (κ × V):=kvs.filter λkv=>decide (kv.1≠k)
def nX {p:κ × V}{r:List (κ × V)}{k:κ}(e:p.1=k):qd (p :: r) k=dk p.2:=by simp[qd,KU,e]
def nR {p:κ × V}{r:List (κ × V)}{k:κ}(e:¬ p.1=k):qd (p :: r) k=qd r k:=by simp[qd,KU,e]
theorem nQ (k:κ):∀ kvs:List (κ × V),(kvs.any λkv=>decide (kv.1=k))=(qd kvs k).isSome
|[]=>rfl
|p :: r=>by
  rw[any_cons];by_cases e:p.1=k
  . simp only[nX e,Pd e,Bool.true_or,isSome_some]
  . rw[nR e,decide_eq_false e,Bool.false_or];exact nQ k r
def oq (kvs:List (κ × V)) (k:κ) (v:V):(uQ kvs k v).length <= kvs.length+1:=by
 unfold uQ;split
 . rw[Jk];omega
 . rw[IT,JH,List.length_nil];omega
def uS.isSome_eq {o:Option V}{u:Option IU}(r:uS o u):o.isSome=u.isSome:=by
 cases o with
|none=>cases u with
 |none=>rfl
 |some _=>exact(show False from r).elim
|some _=>cases u with
 |none=>exact(show False from r).elim
 |some _=>rfl
def KV.val {kvs:List (κ × V)}{vs:List (κ × IU)}(r:KV kvs vs) (k:κ):uS (qd kvs k) (valueAt vs k):=by
 unfold KV at r
 induction r with
|nil=>exact K7
|@cons p q ps qs h t ih =>
  obtain⟨h1,h2⟩:=h;by_cases e:p.1=k
  . have e':q.1=k:=h1.symm.trans e;have b:valueAt (q :: qs) k=dk q.2:=by simp[valueAt,KU,e']
    rw[nX e,b];exact h2
  . have e':¬ q.1=k:=λz=>e (h1.trans z)
    have b:valueAt (q :: qs) k=valueAt qs k:=by simp[valueAt,KU,e']
    rw[nR e,b];exact ih
theorem KV.any {kvs:List (κ × V)}{vs:List (κ × IU)}(r:KV kvs vs) (k:κ):(kvs.any λkv=>decide (kv.1=k))=vs.any λkv=>decide (kv.1=k):=by
 unfold KV at r
 induction r with
|nil=>rfl
|cons h t ih=>rw[any_cons,any_cons,ih,h.1]
def KV.repl {kvs:List (κ × V)}{vs:List (κ × IU)}(r:KV kvs vs) (k:κ) {y:V}{u:IU}(ry:bT y u) :
 KV (kvs.map λkv=>if kv.1=k then (kv.1,y) else kv) (vs.map λkv=>if kv.1=k then (kv.1,u) else kv):=by
 unfold KV at r |-
 induction r with
|nil=>exact .nil
|@cons p q ps qs h t ih =>
  rw[J1,J1];refine .cons ?_ ih;obtain⟨h1,h2⟩:=h;by_cases e:p.1=k
  . rw[Pa e,Pa (h1.symm.trans e)];exact⟨h1,ry⟩
  . rw[Pb e,Pb (λz=>e (h1.trans z))];exact⟨h1,h2⟩
def KV.put {kvs:List (κ × V)}{vs:List (κ × IU)}(r:KV kvs vs) (k:κ) {y:V}{u:IU}(ry:bT y u):KV (uQ kvs k y) (stored vs k u):=by
 unfold uQ stored;rw[r.any k];by_cases e:(vs.any λkv=>decide (kv.1=k))=l'
 . rw[Pa e,Pa e];exact r.repl k ry
 . rw[Pb e,Pb e];exact Jv.snoc r ⟨rfl,ry⟩
def KV.drop {kvs:List (κ × V)}{vs:List (κ × IU)}(r:KV kvs vs) (k:κ):KV (uB kvs k) (without vs k):=by
 unfold KV at r |-;unfold uB without
 induction r with
|nil=>exact .nil
|@cons p q ps qs h t ih =>
  obtain⟨h1,h2⟩:=h;rw[J0,J0];by_cases e:p.1=k
  . have a:¬ decide (p.1≠k)=l':=by simp[e]
    have b:¬ decide (q.1≠k)=l':=by simp[h1.symm.trans e]
    rw[Pb a,Pb b];exact ih
  . have e':¬ q.1=k:=λz=>e (h1.trans z)
    have a:decide (p.1≠k)=l':=by simp[e]
    have b:decide (q.1≠k)=l':=by simp[e']
    rw[Pa a,Pa b];exact .cons ⟨h1,h2⟩ ih
def KV.keys {kvs:List (κ × V)}{vs:List (κ × IU)}(r:KV kvs vs):kvs.map (·.1)=vs.map (·.1):=by
 unfold KV at r
 induction r with
|nil=>rfl
|cons h t ih=>rw[J1,J1,ih,h.1]
theorem KV.length {kvs:List (κ × V)}{vs:List (κ × IU)}(r:KV kvs vs):kvs.length=vs.length:=Jv.length r
def Br (kvs:List (κ × V)) (k:κ):(uB kvs k).length <= kvs.length:=Lf _ _
end
def A4 {P:Jy}{w:Jj}{k:Key}{u:IU}(r:bT (kV k) u):(br P w).is k u=l':=by
 cases k with
|inl i=>obtain⟨t,e⟩:=(show ∃ t,u=IU.int i t from r);subst e;exact vA P w i t
|inr x=>obtain⟨t,e⟩:=(show ∃ t,u=IU.str x t from r);subst e;exact vp P w x t
theorem tN {P:Jy}{w:Jj}:∀ {ks:List Key}{us:List IU},bE (ks.map kV) us->ItemsAre (br P w) ks us
|[],_,r=>by rw[map_nil]at r;cases r;exact .nil
|k :: ks,_,r=>by
  rw[J1]at r;cases r with
 |cons h t=>exact .cons (A4 h) (tN t)
abbrev KT (H:Hp):List (List Key × V)->List (List Key × G' × IU)->Prop:=Jv λp q=>p.1=q.1/\H q.2.1=dk (.tup (p.1.map kV))/\bT p.2 q.2.2
def KT.val {H:Hp}{kvs:List (List Key × V)}{xs:List (List Key × G' × IU)}(r:KT H kvs xs) (k:List Key):uS (qd kvs k) ((atKey xs k).map (·.2)):=by
 induction r with
|nil=>exact K7
|@cons p q ps qs h t ih =>
  obtain⟨h1,_,h2⟩:=h;by_cases e:p.1=k
  . have e':q.1=k:=h1.symm.trans e;have b:atKey (q :: qs) k=dk q.2:=by simp[atKey,KU,e']
    rw[nX e,b];exact h2
  . have e':¬ q.1=k:=λz=>e (h1.trans z)
    have b:atKey (q :: qs) k=atKey qs k:=by simp[atKey,KU,e']
    rw[nR e,b];exact ih
def KT.repl {H:Hp}{kvs:List (List Key × V)}{xs:List (List Key × G' × IU)}(r:KT H kvs xs) (k:List Key) {y:V}{u:IU}(ry:bT y u) :
 KT H (kvs.map λkv=>if kv.1=k then (kv.1,y) else kv) (xs.map (putAt k u)):=by
 induction r with
|nil=>exact .nil
|@cons p q ps qs h t ih =>
  rw[J1,J1];refine .cons ?_ ih;obtain⟨h1,h2,h3⟩:=h;unfold putAt;by_cases e:p.1=k
  . rw[Pa e,Pa (h1.symm.trans e)];exact⟨h1,h2,ry⟩
  . rw[Pb e,Pb (λz=>e (h1.trans z))];exact⟨h1,h2,h3⟩
def KT.put {H:Hp}{kvs:List (List Key × V)}{xs:List (List Key × G' × IU)}(r:KT H kvs xs) (k:List Key) {b:G'}{y:V}{u:IU}(hb:H b=dk (.tup (k.map kV))) (ry:bT y u) :
 KT H (uQ kvs k y) (storedH xs k b u):=by
 have e:(kvs.any λkv=>decide (kv.1=k))=(atKey xs k).isSome:=by
  rw[nQ,(r.val k).isSome_eq,isSome_map]
 unfold uQ storedH;rw[e];by_cases q:(atKey xs k).isSome=l'
 . rw[Pa q,Pa q];exact r.repl k ry
 . rw[Pb q,Pb q];exact Jv.snoc r ⟨rfl,hb,ry⟩
def KT.keeps {H H':Hp}{kvs:List (List Key × V)}{xs:List (List Key × G' × IU)}(r:KT H kvs xs) (ht:∀ b ys,H b=dk (.tup ys)->H' b=dk (.tup ys)):KT H' kvs xs :=
 Paired.mapP r λ_ _ z=>⟨z.1,ht _ _ z.2.1,z.2.2⟩
section
variable {P:Jy}{w:Jj}{H:Hp}{h:JD}{a:G'}
def Fe {u:HO}(ok:HOk P w H h) (e:Rd H a u):cS P w H h a u:=e.ok ok
def Dq {kvs:List (Key × V)}(ok:HOk P w H h) (e:Rd H a (.dK kvs)):kvs.length <= Je/\(a == Ku)=f'/\∃ vs,KV kvs vs/\h.DictOf (br P w) a vs :=
 show cS P w H h a (.dK kvs) from Fe ok e
def ze {kvs:List (Key × V)}(ok:HOk P w H h) (e:H a=dk (.dK kvs)):kvs.length <= Je/\(a == Ku)=f'/\∃ vs,KV kvs vs/\h.DictOf (br P w) a vs:=Dq ok (.inl e)
def mR {ks:List Key}(ok:HOk P w H h) (e:H a=dk (.tup (ks.map kV))):(tupleKind (br P w)).is h ks a:=by
 obtain⟨_,its,r,o,h1,h2,n,h3⟩:=(show cS P w H h a (.tup (ks.map kV)) from ok a _ e)
 exact⟨o,its.toArray,n,h1,h2,h3,by simpa using tN r⟩
def Eb {kvs:List (List Key × V)}(ok:HOk P w H h) (e:Rd H a (.dT kvs)):kvs.length <= Je/\(a == Ku)=f' /\
 ∃ xs,KT H kvs xs/\h.DictOfH (tupleKind (br P w)) a xs:=by
 obtain⟨z,y,xs,r,o,es,ep,h1,h2,h3,h4,h5⟩:=(show cS P w H h a (.dT kvs) from Fe ok e)
 refine⟨z,y,xs,r,o,es,ep,h1,h2,h3,h4,λx hx=>?_,h5⟩;have all:∀ {l:List (List Key × V)} {m:List (List Key × G' × IU)},KT H l m->∀ x∈m,(tupleKind (br P w)).is h x.1 x.2.1:=by
  intro l m q
  induction q with
 |nil=>intro x hx;exact nomatch hx
 |@cons p q ps qs hq t ih =>
   intro x hx;rcases Jx.mp hx with e|hx
   . subst e;exact mR ok (by rw[<-hq.1];exact hq.2.1)
   . exact ih x hx
 exact all r x hx
def Hx {kvs:List (List Key × V)}(ok:HOk P w H h) (e:H a=dk (.dT kvs)):kvs.length <= Je/\(a == Ku)=f' /\
 ∃ xs,KT H kvs xs/\h.DictOfH (tupleKind (br P w)) a xs:=Eb ok (.inl e)
end
def EV (H:Hp) (a:G') (y:V) (r:Option V):Prop :=
 (∃ kvs k,Rd H a (.dK kvs)/\y=kV k/\r=qd kvs k)\/∃ kvs k b,Rd H a (.dT kvs)/\y=.ref b/\H b=dk (.tup (k.map kV))/\r=qd kvs k
def ES (H:Hp) (a:G') (y v:V) (H':Hp):Prop :=
 (∃ kvs k,H a=dk (.dK kvs)/\y=kV k/\kvs.length < Je/\H'=upd H a (.dK (uQ kvs k v))) \/
 ∃ kvs k b,H a=dk (.dT kvs)/\y=.ref b/\H b=dk (.tup (k.map kV))/\kvs.length < Je/\H'=upd H a (.dT (uQ kvs k v))
def EV.k {H:Hp}{a:G'}{kvs:List (Key × V)}{k:Key}(e:H a=dk (.dK kvs)):EV H a (kV k) (qd kvs k):=.inl ⟨kvs,k,.inl e,rfl,rfl⟩
def ES.k {H:Hp}{a:G'}{kvs:List (Key × V)}{k:Key}{v:V}(e:H a=dk (.dK kvs)) (hl:kvs.length < Je):ES H a (kV k) v (upd H a (.dK (uQ kvs k v))):=.inl ⟨kvs,k,e,rfl,hl,rfl⟩
section
variable {X:Cx}{Lz:List (G' × KP)}{σ:St}{H:Hp}{s:IZ}{a:G'}{y v:V}{u r:IU}{o:Option V}{A:JN}{E:IU->IZ->Prop}
def Inv.big (I:Inv X Lz σ H s):Ku < s.heap.objs.size:=by
 have h:JO < s.heap.objs.size:=(I.mod.glob.keeps I.bk).lt;exact Nat.lt_trans (by decide) h
def EF {Q:IU->IZ->Prop}(hu:A.units+1 < Lx) (I:Inv X Lz σ H s) (g:EV H a y o) (ry:bT y u) (h:∀ s',Inv X Lz σ H s'->Q (.bool (!o.isSome)) s') :
 Jl (model X.prog X.w) A (Ky .NotIn u (.ref a)) Q E s:=by
 rcases g with⟨kvs,k,e,ey,l⟩|⟨kvs,k,b,e,ey,eb,l⟩
 . subst ey;obtain⟨z,hd,vs,rel,dd⟩:=Dq I.hok e;refine wpAny_notIn_of (A4 ry) hd dd.mapOf ?_;rw[<-(rel.val k).isSome_eq,<-l];exact h _ (I.tok _)
 . subst ey;cases (show u=JC b from ry);obtain⟨z,hd,xs,rel,dd⟩:=Eb I.hok e;refine wpAny_notIn_heap (tupleKind_room_in1 hu) (mR I.hok eb) hd dd ?_;have q:=(rel.val k).isSome_eq;rw[isSome_map]at q;rw[<-q,<-l];exact h _ (I.tok _)
def sv {h':JD}{t':Nat}{ob:HO}(I:Inv X Lz σ H s) (mu:Mut (H a)) (hs:KN a s.heap h') (he:∃ q,h'.get? a=dk q) (new:cS X.prog X.w (upd H a ob) h' a ob) :
 Inv X Lz σ (upd H a ob) { s with heap:=h',toks:=t' } :=
 I.write (x:=a) (e:=a) mu (.inl rfl) (λb q hb z=>(hs.2 b hb).trans z) he new
def D5 {P:Jy}{w:Jj}{H':Hp}{h':JD}{kvs:List (Key × V)}{vs:List (Key × IU)}(z:kvs.length <= Je) (hd:(a == Ku)=f') (rel:KV kvs vs) (dd:h'.DictOf (br P w) a vs) :
 cS P w H' h' a (.dK kvs):=⟨z,hd,vs,rel,dd⟩
def AF {H':Hp}{Q:Unit->IZ->Prop}(hu:A.units+1 < Lx) (I:Inv X Lz σ H s) (g:ES H a y v H') (ry:bT y u) (rv:bT v r) (h:∀ s',Inv X Lz σ H' s'->Q () s') :
 Jl (model X.prog X.w) A (setItem (.ref a) u r) Q E s:=by
 rcases g with⟨kvs,k,e,ey,l,eH⟩|⟨kvs,k,b,e,ey,eb,l,eH⟩
 . subst ey eH;obtain⟨z,hd,vs,rel,dd⟩:=ze I.hok e;have hz:vs.length <= Je:=by rw[<-rel.length];exact z
   have hl:(uQ kvs k v).length <= Je:=by have:=oq kvs k v;omega
   refine wpAny_setItem_pairs (hsz:=hz) (A4 ry) dd λh' dd' hs=>h _ ?_
   have he:∃ q,h'.get? a=dk q:=let ⟨q,_,_,hq,_⟩:=dd';⟨q,hq⟩;exact sv I (by rw[e];exact K7) hs he (D5 hl hd (rel.put k rv) dd')
 . subst ey eH;cases (show u=JC b from ry);obtain⟨z,hd,xs,rel,dd⟩:=Hx I.hok e;have hz:xs.length <= Je:=by rw[<-Jv.length rel];exact z
   have hl:(uQ kvs k v).length <= Je:=by have:=oq kvs k v;omega
   refine wpAny_setItem_heap (hsz:=hz) (tupleKind_room_in1 hu) (mR I.hok eb) dd λh' dd' hs=>h _ ?_
   obtain⟨q,es,ep,hq,h2,h3,h4,_,h5⟩:=dd';refine sv I (by rw[e];exact K7) hs ⟨q,hq⟩ ⟨hl,hd,_,(rel.put k eb rv).keeps λc ys ec=>?_,q,es,ep,hq,h2,h3,h4,h5⟩;rw[ac (iq ec e (λz=>nomatch z))];exact ec
end
section
variable {X:Cx}{Lz:List (G' × KP)}{σ:St}{H:Hp}{s:IZ}{a:G'}{kvs:List (Key × V)}{k:Key}{u:IU}{A:JN}{E:IU->IZ->Prop}
def FA {v:V}{more:List IU}{Q:IU->IZ->Prop}(I:Inv X Lz σ H s) (e:H a=dk (.dK kvs)) (ry:bT (kV k) u) (l:qd kvs k=dk v) (hm:more=[]\/∃ x,more=[x])
 (h:∀ w' s',Inv X Lz σ (upd H a (.dK (uB kvs k))) s'->bT v w'->Q w' s'):Jl (model X.prog X.w) A (call (.builtin "dict.pop") (.ref a :: u :: more)) Q E s:=by
 obtain⟨z,hd,vs,rel,dd⟩:=ze I.hok e;obtain⟨w',hw,rw'⟩:=uS.some_of (v:=v) (o:=valueAt vs k) (by rw[<-l];exact rel.val k);have hp:(keyPart u).isSome=l':=by
  cases k with
 |inl i=>obtain⟨t,q⟩:=(show ∃ t,u=IU.int i t from ry);subst q;rfl
 |inr x=>obtain⟨t,q⟩:=(show ∃ t,u=IU.str x t from ry);subst q;rfl
 have ha:argsOk "dict.pop" ⟨.ref a :: u :: more,[]⟩:=by
  rcases hm with q|⟨x,q⟩
  . subst q;exact PySem.F.args_dict_pop_2 _ _
  . subst q;exact PySem.F.args_dict_pop_3 _ _ _
 refine call_meetsIn Lm dd.typeIs PySem.F.entry_dict_pop ha (meets_dict_pop_there (br X.prog X.w) a (A4 ry) more hm hp)
  ⟨vs,w',dd,by rw[<-rel.length];exact z,hw,λh' dd' hs=>h w' _ ?_ rw'⟩
 have he:∃ q,h'.get? a=dk q:=let ⟨q,_,_,hq,_⟩:=dd';⟨q,hq⟩;exact sv I (by rw[e];exact K7) hs he (D5 (JT (Br kvs k) z) hd (rel.drop k) dd')
def F8 {r:IU}{Q:IU->IZ->Prop}(I:Inv X Lz σ H s) (e:H a=dk (.dK kvs)) (ry:bT (kV k) u) (l:qd kvs k=IX) (h:∀ s',Inv X Lz σ H s'->Q r s') :
 Jl (model X.prog X.w) A (call (.builtin "dict.pop") [.ref a,u,r]) Q E s:=by
 obtain⟨z,hd,vs,rel,dd⟩:=ze I.hok e;have hn:valueAt vs k=IX:=uS.none_of (by rw[<-l];exact rel.val k);have hp:(keyPart u).isSome=l':=by
  cases k with
 |inl i=>obtain⟨t,q⟩:=(show ∃ t,u=IU.int i t from ry);subst q;rfl
 |inr x=>obtain⟨t,q⟩:=(show ∃ t,u=IU.str x t from ry);subst q;rfl
 exact call_meetsIn Lm dd.typeIs PySem.F.entry_dict_pop (PySem.F.args_dict_pop_3 _ _ _) (meets_dict_pop_default (br X.prog X.w) a (A4 ry) hd hp r) ⟨vs,dd,hn,h _ (I.tok _)⟩
end
def Ic (i:Expr):Prop:=∀ ov iv,subscripted i f' ov iv=operate [ov,iv] (getItem ov iv)
def Dn {prog:Jy}{w:Jj}{A:JN}{E:IU->IZ->Prop}{s:IZ}{env:Env}{value slice:Expr}{pos:Pos}{T id:String}{Q:IU->IZ->Prop}
 (hl:typeLookup (.type T) "__getitem__"=pure (dk (.builtin id))) (hs:Ic slice)
 (h:Jl (model prog w) A (eval value env) (λo s₁=>Jl (model prog w) A (eval slice env) (λi s₂=>s₂.TypeIs o T/\Jl (model prog w) A (getItem o i) Q E s₂) E s₁) E s) :
 Jl (model prog w) A (eval (.Subscript value slice pos) env) Q E s:=by
 refine Subscript_ (Lu h (λo s₁ h₁=>Lu h₁ (λi s₂ h₂=>?_) λ_ _ x=>x) λ_ _ x=>x);obtain⟨hT,h₂⟩:=h₂;unfold subscriptTail;refine D' ?_;rw[getitemInPython_of_ne hT.not_modules];refine D' (wpAny_specialOf hT hl ?_);have fin:Jl (model prog w) A (subscripted slice f' o i) (λr s₃=>Jl (model prog w) A (letTemporaryGo value o r >>= λ_=>pure r) Q E s₃) E s₂:=by
  rw[hs o i];exact wpAny_operating (Lu h₂ (λr s₃ h₃=>D' (wpAny_letTemporaryGo (IY h₃))) λ_ _ x=>x)
 first
 |exact IY (D' fin)
 |exact D' (IY (D' fin))
 |exact D' fin
def DY (ty td:TE):TE:=λσ H Q=>ty σ H λy H1=>td σ H1 λx H2=>∃ a o,x=.ref a/\EV H2 a y o/\Q (.bl (!o.isSome)) H2
def GF (td ty tv:TE):TS:=λD σ H=>tv σ H λv H1=>td σ H1 λx H2=>ty σ H2 λy H3=>∃ a H4,x=.ref a/\ES H3 a y v H4/\D.nx σ H4
section
variable {X:Cx}{o i e value:Expr}{pos pos' tpos:Pos}{td ty tv:TE}
def tX (hu:X.A.units+1 < Lx) (hi:PE X i ty) (ho:PE X o td):PC X .NotIn i o (DY ty td):=by
 intro Lz s σ H Q I h;refine thn (hi Lz s σ H _ I h) λiv s1 ⟨y,H1,I1,ry,q1⟩=>thn (ho Lz s1 σ H1 _ I1 q1) λu s2 ur32=>?_
 obtain⟨x,H2,I2,rx,a,ov,ex,g,q2⟩:=ur32;subst ex;obtain rfl:u=JC a:=rx;exact EF hu I2 g ry λs3 I3=>⟨.bl (!ov.isSome),H2,I3,rfl,q2⟩
def Au (hu:X.A.units+1 < Lx) (ho:PE X o td) (hi:PE X i ty) (hv:PE X value tv) (hs:swapsWith value (dk (.Subscript o i pos')) pos.line X.env=pure f') :
 PS X (.Assign [.Subscript o i pos'] value pos) (GF td ty tv):=by
 intro Lz s σ H D I h;refine wpAny_Assign_Subscript (thn (hv Lz s σ H _ I h) λr s1 ⟨v,H1,I1,rv,q1⟩=>thn (ho Lz s1 σ H1 _ I1 q1) λu s2 ⟨x,H2,I2,rx,q2⟩=>thn (hi Lz s2 σ H2 _ I2 q2) λiv s3 ur33=>?_) hs;obtain⟨y,H3,I3,ry,a,H4,ex,g,q3⟩:=ur33;subst ex;obtain rfl:u=JC a:=rx;exact AF hu I3 g ry rv λs4 I4=>⟨σ,H4,I4,q3⟩
end
def BL {P:Jy}{w:Jj}{H:Hp}(h:JD) (hb:Ku < h.objs.size):cS P w H (h.push { cls:=.type "dict",data:=.dict #[] }) h.objs.size (.dK []) :=
 ⟨Kq _,beq_eq_false_iff_ne.mpr (K5 (Kc hb)),[],.nil,JD.DictOf.new h⟩
def FY:TE:=λ_ H Q=>∀ p,H p=IX->Q (.ref p) (upd H p (.dK []))
section
variable {X:Cx}{pos:Pos}
def vN:PE X (.Dict [] [] pos) FY:=λLz s σ H Q I h =>
 wpAny_Dict_empty ⟨.ref s.heap.objs.size,_,I.laid (a:=s.heap.objs.size) (o:=.dK []) (t':=s.toks) (λ_ _ q=>Jc _ q) (Jd _) (BL s.heap I.big),rfl,h _ (I.hok.fresh (Jd _))⟩
end
structure M1 (X:Cx) (o:Expr) (m:Str) (apos:Pos) (e:Expr) (cpos:Pos):Prop where
 base:attributeBase o m X.env (eval o X.env)=eval o X.env
 few:((Lw cpos (JG [e] X.env)).all (λx=>!x.1) && (backToKw cpos (keywordEach [] X.env)).all (λx=>x.1.isSome)
  && decide (([e]:List Expr).length+([]:List Keyword).length+(if ([]:List Keyword).isEmpty then 0 else 1) < 30))=l'
 line:(apos.endLine == cpos.line)=l'
 trees:Lw cpos (JG [e] X.env)=[(f',eval e X.env)]
structure M2 (X:Cx) (o:Expr) (m:Str) (apos:Pos) (e f:Expr) (cpos:Pos):Prop where
 base:attributeBase o m X.env (eval o X.env)=eval o X.env
 few:((Lw cpos (JG [e,f] X.env)).all (λx=>!x.1) && (backToKw cpos (keywordEach [] X.env)).all (λx=>x.1.isSome)
  && decide (([e,f]:List Expr).length+([]:List Keyword).length+(if ([]:List Keyword).isEmpty then 0 else 1) < 30))=l'
 line:(apos.endLine == cpos.line)=l'
 trees:Lw cpos (JG [e,f] X.env)=[(f',eval e X.env),(f',eval f X.env)]
def IsD (H:Hp) (a:G'):Prop:=(∃ kvs,Rd H a (.dK kvs))\/∃ kvs,Rd H a (.dT kvs)
def CA {X:Cx}{Lz:List (G' × KP)}{σ:St}{H:Hp}{s:IZ}{a:G'}(I:Inv X Lz σ H s) (d:IsD H a) :
 s.TypeIs (.ref a) "dict"/\(∀ b,JC a=.ref b->∃ ob,s.heap.get? b=dk ob/\ob.dict=IX)/\(a == Ku)=f':=by
 rcases d with⟨kvs,e⟩|⟨kvs,e⟩
 . obtain⟨_,hd,vs,_,dd⟩:=Dq I.hok e;refine⟨dd.typeIs,λb q=>?_,hd⟩;cases q;obtain⟨ob,_,_,h1,h2,_⟩:=dd;exact⟨ob,h1,h2.2.1⟩
 . obtain⟨_,hd,xs,_,dd⟩:=Eb I.hok e;refine⟨dd.typeIs,λb q=>?_,hd⟩;cases q;obtain⟨ob,_,_,h1,h2,_⟩:=dd;exact⟨ob,h1,h2.2.1⟩
section
variable {X:Cx}{Lz:List (G' × KP)}{σ:St}{H:Hp}{s:IZ}{a:G'}{y d:V}{u r:IU}{o:Option V}{A:JN}{E:IU->IZ->Prop}
end
def Fv (td ty:TE):TE:=λσ H Q=>td σ H λx H1=>∃ a,x=.ref a/\IsD H1 a/\ty σ H1 λy H2=>∃ kvs k v,H2 a=dk (.dK kvs)/\y=kV k/\qd kvs k=dk v/\Q v (upd H2 a (.dK (uB kvs k)))
section
variable {X:Cx}{o e f:Expr}{apos cpos:Pos}{td ty tx:TE}
def Bp (ho:PE X o td) (he:PE X e ty) (m:M1 X o "pop" apos e cpos):PE X (.Call (.Attribute o "pop" apos) [e] [] cpos) (Fv td ty):=by
 intro Lz s σ H Q I h;refine wpAny_Call_method m.base m.few m.line PySem.F.plainAttrs_dict Lm PySem.F.type_dict_pop (thn (ho Lz s σ H _ I h) λu s1 ur34=>?_);obtain⟨x,H1,I1,rx,a,ex,d,q1⟩:=ur34;subst ex;obtain rfl:u=JC a:=rx;obtain⟨t1,t2,_⟩:=CA I1 d;refine⟨t1,t2,?_⟩;rw[m.trees];refine Lc rfl (K3 (K0 (thn (he Lz s1 σ H1 _ I1 q1) λiv s2 ⟨y,H2,I2,ry,kvs,k,v,ea,ey,l,q2⟩=>Calls.spliced_nil ?_)));subst ey;exact FA I2 ea ry l (.inl rfl) λw' s3 I3 rw'=>⟨v,_,I3,rw',q2⟩
end
section
variable {X:Cx}{Lz:List (G' × KP)}{σ:St}{H:Hp}{s:IZ}{a:G'}{kvs:List (Key × V)}{A:JN}{E:IU->IZ->Prop}
end
section
variable {X:Cx}{Lz:List (G' × KP)}{σ:St}{H:Hp}{s:IZ}{a:G'}{y:V}{u:IU}{A:JN}{E:IU->IZ->Prop}
end
end L2
namespace Att
open PySem PySem.W PySem.Calls PyProof.Rows
def oP {P:Params}{h:JD}:∀ (ns:List Int) (vs:List IU),WellAll P h vs (ns.map WData.int)->IntsAre vs ns:=by
 intro ns
 induction ns with
|nil =>
  intro vs w;rw[map_nil]at w;cases w;exact .nil
|cons n ns ih =>
  intro vs w;rw[J1]at w;cases w with
 |cons a b =>
   cases a;exact .cons _ _ (ih _ b)
def Aq {l:OpenLaw}{n:Nat}(hn:l.most=dk n) {P:Params}{h:JD}{args:List WData}{vals:List IU}
 (hpre:l.row.toRowW.claim.pre args=l') (hwl:WellAll P h vals args) :
 ∃ a vs ns,vals=[JC a]/\args=[WData.list (ns.map WData.int)]/\h.get? a=dk { cls:=.type "list",data:=.seq vs.toArray }/\IntsAre vs ns/\ns.length <= n:=by
 have hsh:WShape.hasAll [] args [.list .int]=l':=(pre_splitW hpre).1;have hc:l.pre.holds [] { args:=args }=l':=(pre_splitW hpre).2;obtain⟨d,r,rfl,h1,h2⟩:=hasAllW_cons hsh;obtain rfl:=hasAllW_nil h2;obtain⟨xs,rfl,h3⟩:=hasW_list h1;obtain⟨ns,rfl⟩:=items_int h3;have hlen:ns.length <= n:=by
  unfold OpenLaw.pre at hc;have h4:(WTm.not (.lt (.lit (.int (n:Int))) (.len (.arg 0)))).holds [] { args:=[.list (ns.map .int)] }=l':=by
   have h4:=(holds_andW hc).1;rw[hn]at h4;exact h4
  have h5:=condW_of h4 (w_not (w_lt w_lit (w_len_list (w_arg rfl))));rw[Jk]at h5;refine Nat.le_of_not_lt λq=>?_
  have q':(n:Int) < ((ns.length:Nat):Int):=by omega
  first
  |(rw[Pd q']at h5;exact absurd h5 (by decide))
  |(simp at h5;omega)
 cases hwl with
|cons w1 w2 =>
  cases w2;cases w1 with
 |list ho hall=>exact⟨_,_,ns,rfl,rfl,ho,oP ns _ hall,hlen⟩
def A0 (l:OpenLaw) (args:List WData):l.row.toRowW.claim.post args (.bool l') args=l' :=
 postW_of (r:=l.row.toRowW) (X:=(l' == l'))
  (show WShape.has [] (.bool l') .bool=l' by first|rfl|decide|simp[WShape.has,WShape.arms,WShape.armsAll])
  (show (WTm.eq .res (.lit (.bool l'))).value [] { args:=args,res:=dk (.bool l'),after:=args }=dk (.bool (l' == l')) from w_eq_bool (w_res rfl) w_lit) rfl
def attach_call {l:OpenLaw}{n:Nat}{q:Jy}{loose:List Str}{XP:(Str->Option IU)->JD->Prop}{YP:Jj->JD->Prop}{d:DefRec}
 (hn:l.most=dk n) (hdf:d.params.defaults=[])
 (call:∀ (w:Jj) (s₀ s₁:IZ) (mg mb:Str->Option IU) (fa:G') (o:KP) (pm cd doc:IU) (a:G') (vs:List IU) (ns:List Int),
  Ground q loose [] XP w s₀ mg mb s₁.heap->YP w s₁.heap ->
  s₁.heap.get? fa=dk o->o.data=.func (docDef d.name d.params d.body d.scope pm cd doc)->s₁.heap.CodeRec cd d.name->mg d.name=dk (.ref fa) ->
  s₁.heap.get? a=dk { cls:=.type "list",data:=.seq vs.toArray }->IntsAre vs ns->ns.length <= n->s₁.gens=#[] ->
  codeAny (model l.prog w) callerA (.call (.ref fa) ⟨[.ref a],[]⟩) (λr s'=>r=.ok (.ret (.bool l'))/\OldK s₁.heap s'.heap/\s'.os=s₁.os/\AllBare s'.gens) s₁) :
 WalkO q loose XP YP l.row.toRowW d [] (λf vs=>PySem.call f vs):=by
 intro w s₀ s₁ mg mb G Y fa o pm cd doc dV kV ho hd hcd hD hmg hg args vals as hpre hlay hrd hwl hlo;obtain rfl:dV=.none:=Dflts.none hD hdf;obtain rfl:kV=.none:=Dflts.noKw hD;obtain⟨a,vs,ns,rfl,rfl,hobj,hints,hlen⟩:=Aq hn hpre hwl;refine enter_call (codeAny_mono (call w s₀ s₁ mg mb fa o pm cd doc a vs ns G Y ho (fd_plain hd) hcd hmg hobj hints hlen hg) λr s' hq=>?_);obtain⟨rfl,h2,h3,h4⟩:=hq;exact⟨.inl ⟨.bool l',.bool l',[],rfl,λ_=>rfl,.bool l',A0 l _,λ_=>⟨Pairwise.nil,λ_ hm=>(nomatch hm)⟩⟩,h2,h3,h4⟩
section
variable {prog:Jy}{w:Jj}{A:JN}{E:IU->IZ->Prop}{s:IZ}{K:Frag}
def HR (h:JD) (L d:G'):List (G' × KP):=(K8 h.objs.size).filterMap λa=>if a=L\/a=d then IX else (h.get? a).map λo=>(a,o)
end
end Att
namespace L2
open PySem PySem.Spec PyProof.Rows
theorem uL:∀ {vs:List IU}{ns:List Int},IntsAre vs ns->bE (ns.map V.int) vs
|_,_,.nil=>.nil
|_,_,.cons n t h=>.cons ⟨t,rfl⟩ (uL h)
def GS (H:Hp):Prop:=∀ b,H b=IX\/∃ o xs,H b=dk (.frz o (.lst xs))
def Be {P:Jy}{w:Jj}{K:Ja}{mg mb:Str->Option IU}{CX:CXT}{k:Nat}{fa a:G'}{fd:Ji}{x:Str}{sp:Sp}{s₁:IZ}{vs:List IU}{ns:List Int}
 (KX:K.In s₁.heap) (hns:s₁.heap.Ns JO mg) (hb:s₁.heap.Ns builtinsNs mb) (hbb:∀ x:Str,x≠"__name__"->mb x=Kh x) (hlim:s₁.heap.NoLimit) (hg:s₁.gens=#[])
 (ha:s₁.heap.get? a=dk { cls:=.type "list",data:=.seq vs.toArray }) (hi:IntsAre vs ns) (hl:ns.length <= Je) (hr:Room k callerA)
 (F:∀ base:JD,K.In base->base.Ns JO mg->FnOk P w K mg base CX k fa fd [x] sp) (hbind:∀ (s:IZ) (u:IU),BindsTo s fd ⟨[u],[]⟩ [(x,u)])
 (hsp:∀ H:Hp,GS H->SqL K H a (ns.map V.int)->sp [.ref a] H (λv _=>v=.bl l') λ_ _ _=>False)
 (hCX:∀ H e s',CX [] H s₁ (λ_ _ _=>False) e s'->False) :
 codeAny (model P w) callerA (.call (.ref fa) ⟨[.ref a],[]⟩) (λr s'=>r=.ok (.ret (.bool l'))/\OldK s₁.heap s'.heap/\s'.os=s₁.os/\AllBare s'.gens) s₁:=by
 have rv:=uL hi;have lenV:=hi.length;have core:∀ H:Hp,GS H->SqL K H a (ns.map V.int)->HOk P w H s₁.heap->(∀ b,H b≠IX->b=a)->(H a≠IX->K.lookup a=IX) ->
  codeAny (model P w) callerA (.call (.ref fa) ⟨[.ref a],[]⟩) (λr s'=>r=.ok (.ret (.bool l'))/\OldK s₁.heap s'.heap/\s'.os=s₁.os/\AllBare s'.gens) s₁:=by
  intro H hO hS hok hA hK;have base_of:∀ {b:G'} {o:KP},s₁.heap.get? b=dk o->H b=IX->(BZ s₁.heap H).get? b=dk o:=λe n=>B6 e n
  have noA:∀ {b:G'} {o:KP} {es:Array Jz} {ep:Nat},s₁.heap.get? b=dk o->o.data=.dict es ep->H b=IX:=λ{b o es ep} e d=>by
   cases q:H b with
  |none=>rfl
  |some u =>
    have e':b=a:=hA b (by rw[q];simp);subst e';rw[ha]at e;cases e;have d':Data.seq vs.toArray _=Data.dict es ep:=d;cases d'
  have nsK:∀ {b:G'} {m:Str->Option IU},s₁.heap.Ns b m->(BZ s₁.heap H).Ns b m:=λ{b m} ⟨o,es,ep,e,d,r⟩=>⟨o,es,ep,base_of e (noA e d),d,r⟩
  have hKb:K.In (BZ s₁.heap H):=λb o e=>base_of (KX b o e) (by
   cases q:H b with
  |none=>rfl
  |some u =>
    have e':b=a:=hA b (by rw[q];simp);subst e';rw[hK (by rw[q];simp)]at e;cases e)
  have hM:Mod K mg (BZ s₁.heap H):=⟨hKb,nsK hns,⟨mb,nsK hb,hbb⟩,let ⟨mc,h1,h2⟩:=hlim;⟨mc,nsK h1,h2⟩⟩
  have e0:Env0 P w K mg (BZ s₁.heap H) callerA [] s₁ H:=⟨rfl,hM,λb o e=>Dt e,le_of_eq (yw _ _),trivial,λb hb=>absurd (show b∈([]:List G') from hb) (by simp),hok,.of_eq hg⟩
  refine codeAny_mono ((F _ hKb (nsK hns)).run callerA [] s₁ H ⟨[.ref a],[]⟩ [.ref a] [.ref a] _ _ hr e0 (hbind s₁ (.ref a)) (.cons rfl .nil) (hsp H hO hS)) λr s' h=>?_
  cases r with
 |error e=>exact(hCX H e s' h).elim
 |ok fl =>
   cases fl with
  |next=>exact Kj h
  |brk=>exact Kj h
  |cont=>exact Kj h
  |ret u =>
    obtain⟨v,H',os,bare,un,hok',r',q⟩:=h;have q':v=.bl l':=q;subst q';obtain rfl:u=IU.bool l':=r';refine⟨rfl,OldK.of_keep λb o e=>?_,os,bare⟩;cases q:H b with
   |none=>exact un.keep b o e q (by intro z;exact absurd (show b∈([]:List G') from z) (by simp)) (by simp)
   |some u =>
     rcases hO b with z|⟨ob,xs,z⟩
     . rw[q]at z;cases z
     . have z2:=un.frzs b ob _ z;obtain⟨e1,_⟩:=hok b _ z;obtain⟨e2,_⟩:=hok' b _ z2;rw[e]at e1;cases e1;exact e2
 cases hk:K.lookup a with
|some o =>
  have e:=KX a o hk;rw[ha]at e;cases e;refine core (λ_=>IX) (λ_=>.inl rfl) (.inr ⟨_,vs.toArray,_,hk,rfl,rfl,rfl,by rw[Js,lenV];exact hl,by simpa using rv⟩) (λb u z=>by have z':(IX:Option HO)=dk u:=z;cases z') (λb z=>absurd rfl z) λz=>absurd rfl z
|none =>
  refine core (λb=>if b=a then dk (.frz { cls:=.type "list",data:=.seq vs.toArray } (.lst (ns.map V.int))) else IX) (λb=>?_) (.inl (.inr ⟨{ cls:=.type "list",data:=.seq vs.toArray },Pa rfl⟩)) (λb u z=>?_) (λb z=>?_) λ_=>hk
  . by_cases hb:b=a
    . exact .inr ⟨_,_,Pa hb⟩
    . exact .inl (Pb hb)
  . by_cases hb:b=a
    . have z':=(Pa hb).symm.trans z;cases z';subst hb;exact⟨ha,by rw[Jk];exact hl,vs,_,rv,ha⟩
    . have z':=(Pb hb).symm.trans z;cases z'
  . by_cases hb:b=a
    . exact hb
    . exact absurd (Pb hb) z
def walk_of {l:PySem.W.OpenLaw}{n k:Nat}{q:Jy}{loose:List Str}{XP:(Str->Option IU)->JD->Prop}{YP:Jj->JD->Prop}{d:DefRec}{K:Params->Ja}{CX:Jj->CXT}{sp:Jj->Sp}{x:Str}
 (hn:l.most=dk n) (hn2:n <= Je) (hdf:d.params.defaults=[]) (hr:Room k callerA)
 (hY:∀ (w:Jj) (h:JD),YP w h->(K w.params).In h)
 (F:∀ (w:Jj) (mg:Str->Option IU) (fa:G') (h:JD),(K w.params).In h->h.Ns JO mg->mg d.name=dk (.ref fa) ->
  ∃ fd:Ji,(∀ (s:IZ) (u:IU),BindsTo s fd ⟨[u],[]⟩ [(x,u)]) /\
   ∀ base:JD,(K w.params).In base->base.Ns JO mg->FnOk l.prog w (K w.params) mg base (CX w) k fa fd [x] (sp w))
 (hsp:∀ (w:Jj) (H:Hp) (a:G') (ns:List Int),ns.length <= n->GS H->SqL (K w.params) H a (ns.map V.int)->sp w [.ref a] H (λv _=>v=.bl l') λ_ _ _=>False)
 (hCX:∀ (w:Jj) (H:Hp) (s:IZ) (e:IU) (s':IZ),CX w [] H s (λ_ _ _=>False) e s'->False) :
 PySem.W.WalkO q loose XP YP l.row.toRowW d [] (λf vs=>PySem.call f vs):=by
 refine Att.attach_call hn hdf λw s₀ s₁ mg mb fa o pm cd doc a vs ns G Y ho hd hcd hmg hobj hints hlen hg=>?_
 have KX:=hY w _ Y;obtain⟨fd,hb,hF⟩:=F w mg fa _ KX G.T.g hmg;exact Be KX G.T.g G.T.b G.T.builtins G.T.nolimit hg hobj hints (JT hlen hn2) hr hF hb (λH hO hS=>hsp w H a ns hlen hO hS) λH e s'=>hCX w H s₁ e s'
def aC (s:JY) (j:Nat):JY:=match s with
|.ClassDef _ _ _ body _ _ _ _ _ _ _=>body.getD j (.Pass ⟨0,0,0,0⟩)
|_=>.Pass ⟨0,0,0,0⟩
def fX (s:JY):Arguments:=match s with
|.FunctionDef _ a _ _ _ _ _ _ _ _=>a
|_=>{ posonlyargs:=[],args:=[],vararg:=IX,kwonlyargs:=[],kw_defaults:=[],kwarg:=IX,defaults:=[] }
def eC (s:JY):List JY:=match s with
|.FunctionDef _ _ b _ _ _ _ _ _ _=>b
|_=>[]
def ai (s:JY):Scope:=match s with
|.FunctionDef _ _ _ _ _ _ sc _ _ _=>sc
|_=>{ kind:=.function,names:=[],isGenerator:=f',isCoroutine:=f' }
abbrev CX0:CXT:=λ_ _ _ _ _ _=>False
abbrev E0:XK:=λ_ _ _=>False
def ay {X:Cx}:ky CX0 X E0:=λ_ _ _ _ _ _ _ h=>h.elim
structure Fun (K:Ja) (x qual:Str) (st:JY) (f:G') (fd:Ji):Prop where
 ex:∃ (oc:IU) (od:Option G') (kV doc pm:IU) (an:Option G') (cdv ct:IU) (osl:Array (Option IU)),
  fd=fnOf x qual (fX st) (eC st) (ai st) .none kV doc pm an cdv ct/\K.lookup f=dk ⟨oc,od,.func fd,osl⟩/\codeIn K cdv qual=l'
 kp:keepIn K (.ref f)=l'
section
variable {P:Jy}{w:Jj}{K:Ja}{mg:Str->Option IU}{base:JD}
def Fun.ok {x qual:Str}{st:JY}{f:G'}{fd:Ji}{N ps:List Str}{k:Nat}{sp:Sp}(F:Fun K x qual st f fd) (S:FnScope N ps (ai st)) (len:∀ vs H Q E,sp vs H Q E->vs.length=ps.length)
 (hbody:∀ (cdv:IU) (A:JN) (outer:List Env) (s:IZ) (H:Hp) (vs:List V) (Q:VK) (E:XK),Room k (A.deeper (envOfC qual (ai st) s.heap.objs.size f cdv))->sp vs H Q E ->
  ∃ t,PSs (CV CX0 P w K mg base N qual (ai st) f cdv A outer s H E).nox (eC st) t/\t { nx:=λ_ H'=>Q .non H',rt:=Q } (sL N vs) H):FnOk P w K mg base CX0 (k+1) f fd ps sp:=by
 obtain⟨oc,od,kV,doc,pm,an,cdv,ct,osl,rfl,lk,hcd⟩:=F.ex;refine FP lk hcd S len λA outer s H vs Q E hr hsp=>?_
 obtain⟨t,h,q⟩:=hbody cdv A outer s H vs Q E hr hsp;exact⟨t,h.nox,q⟩
def Fun.binds {x qual:Str}{st:JY}{f:G'}{fd:Ji}{ps:List Str}(F:Fun K x qual st f fd)
 (h:∀ (kV doc pm:IU) (an:Option G') (cdv ct:IU) (us:List IU),us.length=ps.length->bindArgs (fnOf x qual (fX st) (eC st) (ai st) .none kV doc pm an cdv ct) ⟨us,[]⟩=pure (ps.zip us)):aD K fd ps []:=by
 obtain⟨oc,od,kV,doc,pm,an,cdv,ct,osl,rfl,lk,hcd⟩:=F.ex;exact .all (h kV doc pm an cdv ct)
def fun_mk {x qual:Str}{st:JY}{f:G'}{oc:IU}{od an:Option G'}{osl:Array (Option IU)}{kV doc pm cdv ct:IU}(l:K.lookup f=dk ⟨oc,od,.func (fnOf x qual (fX st) (eC st) (ai st) .none kV doc pm an cdv ct),osl⟩)
 (c:codeIn K cdv qual=l') (k:keepIn K (.ref f)=l'):Fun K x qual st f (fnOf x qual (fX st) (eC st) (ai st) .none kV doc pm an cdv ct):=⟨⟨oc,od,kV,doc,pm,an,cdv,ct,osl,rfl,l,c⟩,k⟩
end
def fA {A:JN}{k:Nat}(hr:Room k A):A.units+1 < Lx:=lt_of_le_of_lt (Nat.add_le_add_left (by decide:1 <= 64) _) hr.units
section
variable {X:Cx}
def pv (i:Nat) {x:Str}{pos:Pos}(hN:X.N[i]?=dk x:=by rfl) (hv:Vis X.env.scope x:=by first|exact JJ rfl|exact Or.inr (JJ rfl)|exact Or.inr (Or.inr rfl)) (hd:(x == ("__debug__":Str))=f':=by decide)
 (hcd:(x == ("__classdict__":Str))=f':=by decide):PE X (.Name x pos) (qU i):=FZ hN hv hd hcd
end
def dY {A B:Prop}(h:B):if f'=l' then A else B:=by
 rw[Pb Jo];exact h
def gJ {A B:Prop}(h:A):if l'=l' then A else B:=by
 rw[Pa rfl];exact h
def yj {c A B:Prop} [Decidable c] (h1:c->A) (h2:¬ c->B):if c then A else B:=by
 by_cases h:c
 . rw[Pa h];exact h1 h
 . rw[Pb h];exact h2 h
def F0 {c A B:Prop} [Decidable c] (hc:c) (h:B):if (!decide c)=l' then A else B:=by
 rw[Pd hc];exact dY h
def c9 (H H':Hp):Prop:=∀ b o,H b=dk o->H' b=dk o
def c9.refl (H:Hp):c9 H H:=λ_ _ h=>h
def c9.trans {H H1 H2:Hp}(a:c9 H H1) (b:c9 H1 H2):c9 H H2:=λc o h=>b c o (a c o h)
def c9.seq {K:Ja}{H H':Hp}{a:G'}{xs:List V}(e:c9 H H') (h:SqL K H a xs):SqL K H' a xs:=by
 rcases h with (h|⟨o,h⟩)|h
 . exact .inl (.inl (e _ _ h))
 . exact .inl (.inr ⟨o,e _ _ h⟩)
 . exact .inr h
section
variable {X:Cx}
end
section
variable {κ:Type} [DecidableEq κ]
end
def yR:Kh "int"=dk (.type "int"):=by decide +kernel
def sH:Kh "bool"=dk (.type "bool"):=by decide +kernel
def vx:Kh "list"=dk (.type "list"):=by decide +kernel
def de:Kh "tuple"=dk (.type "tuple"):=by decide +kernel
def vW:Kh "str"=dk (.type "str"):=by decide +kernel
def vq:Kh "reversed"=dk (.type "reversed"):=by decide +kernel
def aL:Kh "isinstance"=dk (.builtin "isinstance"):=by decide +kernel
def gv:Kh "len"=dk (.builtin "len"):=by decide +kernel
section
variable {X:Cx}
def b6:q9 X (.builtin "isinstance") (λxs H Q=>∃ x c t b,xs=[x,V.ty c]/\TyOf X.K H x t/\Lp X.K t (.type c)=dk b/\Q (.bl b) H):=by
 intro Lz s σ H xs us Q I r h;obtain⟨x,c,t,b,rfl,ty,e,q⟩:=h;obtain⟨u,w',rfl,ru,rw⟩:=F5 r;cases rw;exact zi I ru ty e λtk=>⟨.bl b,H,I.tok _,rfl,q⟩
def HC (_i j:Int):Prop:=0 < j/\j < 2 ^ 40
def cj:OpR X (binaryOp .FloorDiv) (rI HC λi j=>.int (i / j)):=opI λi j _ _ _ _ _ hc q=>by
 have h1:(0:Int) < j:=hc.1;have h2:j < 2 ^ 40:=hc.2;refine floordiv_int (by omega) (by rw[Int.fdiv_eq_ediv_of_nonneg i (by omega)];exact q) (.inl (PyProof.noPylong_of_log2 ?_));have h3:j.natAbs≠0:=by omega
 have h4:j.natAbs.log2 < 40:=(Nat.log2_lt h3).mpr (by omega);omega
end
def iI {c A B:Prop} [Decidable c] (hc:c) (h:A):if c then A else B:=by
 rw[Pa hc];exact h
def cT {c A B:Prop} [Decidable c] (hc:¬ c) (h:B):if c then A else B:=by
 rw[Pb hc];exact h
def oa {i j:Int}(h0:0 <= i) (h1:i < 4294967296):Gq i j:=.inl ⟨Int.lt_of_lt_of_le (by decide) h0,Int.lt_trans h1 (by decide)⟩
def Ho {xs:List V}{i:Int}(h0:0 <= i) (h1:i < xs.length):∃ v,atI xs i=dk v/\v∈xs:=by
 obtain⟨n,rfl⟩:=Int.eq_ofNat_of_zero_le h0;have hn:n < xs.length:=by omega
 exact⟨xs[n],Dw (Jb hn),getElem_mem hn⟩
def ah {H:Hp}{p:G'}{o:HO}(h:H p=IX):c9 H (upd H p o):=λb u e=>by
 rw[ac (ag e h)];exact e
section
variable {X:Cx}
end
end L2
set_option Elab.async false
set_option maxRecDepth 100000
set_option maxHeartbeats 4000000
namespace MX
open PySem PySem.W
mutual
def kd:IV->Bool
|.int _=>l'
|.str x=>JL x
|.tuple xs=>kds xs
|.none=>f'
|.bool _=>f'
|.list _=>f'
|.dict _=>f'
def kds:List IV->Bool
|[]=>l'
|x :: xs=>kd x && kds xs
end
mutual
def hashD (w:Jj):IV->Int
|.int i=>hashInt i
|.str x=>hashStr w x
|.tuple xs=>reduceHash (Builtin.Tuple.tupleHashOf (tJ w xs))
|.none=>0
|.bool _=>0
|.list _=>0
|.dict _=>0
def tJ (w:Jj):List IV->List Int
|[]=>[]
|x :: xs=>hashD w x :: tJ w xs
end
mutual
theorem kd_lay:∀ d:IV,kd d=l'->d.canLay0=l'
|.int _,_=>rfl
|.str _,h=>h
|.tuple xs,h=>zW xs h
|.none,h=>by cases h
|.bool _,h=>by cases h
|.list _,h=>by cases h
|.dict _,h=>by cases h
theorem zW:∀ xs:List IV,kds xs=l'->JM xs=l'
|[],_=>rfl
|x :: xs,h=>by
  have h':(kd x && kds xs)=l':=h;rw[Kn]at h';show (x.canLay0 && JM xs)=l';rw[kd_lay x h'.1,zW xs h'.2];rfl
end
def Df {p q:Prop}(h1:¬ p) (h2:¬ q):p ↔ q:=⟨λz=>(h1 z).elim,λz=>(h2 z).elim⟩
mutual
theorem eqv_iff:∀ d e:IV,kd d=l'->kd e=l'->(Jm d e=l' ↔ d=e)
|.int a,.int b,_,_=>by
  show (a == b)=l' ↔ _;rw[beq_iff_eq];exact⟨λz=>by rw[z],λz=>by injection z⟩
|.str a,.str b,_,_=>by
  show (a == b)=l' ↔ _;rw[beq_iff_eq];exact⟨λz=>by rw[z],λz=>by injection z⟩
|.tuple xs,.tuple ys,h1,h2=>by
  have q:=vU xs ys h1 h2;show IV.eqvAll xs ys=l' ↔ _;rw[q];exact⟨λz=>by rw[z],λz=>by injection z⟩
|.int _,.str _,_,_=>Df (λz=>by cases z) (λz=>by cases z)
|.int _,.tuple _,_,_=>Df (λz=>by cases z) (λz=>by cases z)
|.str _,.int _,_,_=>Df (λz=>by cases z) (λz=>by cases z)
|.str _,.tuple _,_,_=>Df (λz=>by cases z) (λz=>by cases z)
|.tuple _,.int _,_,_=>Df (λz=>by cases z) (λz=>by cases z)
|.tuple _,.str _,_,_=>Df (λz=>by cases z) (λz=>by cases z)
theorem vU:∀ xs ys:List IV,kds xs=l'->kds ys=l'->(IV.eqvAll xs ys=l' ↔ xs=ys)
|[],[],_,_=>⟨λ_=>rfl,λ_=>rfl⟩
|[],_ :: _,_,_=>Df (λz=>by cases z) (λz=>by cases z)
|_ :: _,[],_,_=>Df (λz=>by cases z) (λz=>by cases z)
|x :: xs,y :: ys,h1,h2=>by
  have h1':(kd x && kds xs)=l':=h1;have h2':(kd y && kds ys)=l':=h2;rw[Kn]at h1' h2';show (Jm x y && IV.eqvAll xs ys)=l' ↔ _;rw[Kn,eqv_iff x y h1'.1 h2'.1,vU xs ys h1'.2 h2'.2];exact⟨λz=>by rw[z.1,z.2],λz=>by injection z with a b;exact⟨a,b⟩⟩
end
section
variable {prog:Jy}{w:Jj}{E:IU->IZ->Prop}
mutual
theorem vB:∀ (k:IV) (v:IU) (as:List G') (A:JN) (s:IZ) (Q:Int->IZ->Prop),kd k=l'->Reads s.heap v k as->A.units+k.depth < Lx ->
 (∀ tk,Q (hashD w k) { s with toks:=tk })->Jl (model prog w) A (pyHash v) Q E s
|.int i,_,_,A,s,Q,_,x,_,h=>by cases x;exact wpAny_pyHash_int (h _)
|.str y,_,_,A,s,Q,_,x,_,h=>by cases x;exact wpAny_pyHash_str (h _)
|.tuple xs,_,_,A,s,Q,hk,x,hu,h=>by
  cases x with
 |@tuple a o vs n _ _ hg hc hdt hw =>
   refine pyHash_slot (T:="tuple") ⟨_,hg,hc⟩ F.slot_tuple_hash F.entry_tuple_hash (F.args_tuple_hash_1 _) (beq_builtin_none _) (.inr (lt_of_le_of_lt (Nat.le_add_right _ _) hu)) ?_;show Jl _ _ (Builtin.Tuple.tupleItemsOf (.ref a) >>= _) _ _ s;refine D' (wpAny_tupleItemsOf hg hdt (D' ?_));rw[<-Array.forIn_toList];refine vY xs _ _ A.in1 s #[] _ hk hw (by simp only[IV.depth,JN.in1_units]at hu |-;omega) λtk b hb=>?_
   show Jl _ _ (retInt (Builtin.Tuple.tupleHashOf b.toList)) _ _ _;rw[hb];exact D' (wpAny_mkInt (IY ⟨_,_,rfl,h _⟩))
|.none,_,_,_,_,_,h,_,_,_=>by cases h
|.bool _,_,_,_,_,_,h,_,_,_=>by cases h
|.list _,_,_,_,_,_,h,_,_,_=>by cases h
|.dict _,_,_,_,_,_,h,_,_,_=>by cases h
theorem vY:∀ (xs:List IV) (vs:List IU) (as:List G') (A:JN) (s:IZ) (b:Array Int) (Q:Array Int->IZ->Prop),kds xs=l'->ReadsAll s.heap vs xs as->A.units+JI xs < Lx ->
 (∀ tk b',b'.toList=b.toList++tJ w xs->Q b' { s with toks:=tk }) ->
 Jl (model prog w) A (forIn vs b λx r=>do let h <-pyHash x;pure PUnit.unit;pure (ForInStep.yield (r.push h))) Q E s
|[],_,_,A,s,b,Q,_,x,_,h=>by cases x;exact IY (h s.toks b (by simp[tJ]))
|k :: xs,_,_,A,s,b,Q,hk,x,hu,h=>by
  cases x with
 |cons x1 x2 =>
   have hk':(kd k && kds xs)=l':=hk;rw[Kn]at hk';simp only[JI]at hu;rw[forIn_cons];refine D' (D' (vB k _ _ A s _ hk'.1 x1 (by omega) λtk=>D' (IY (IY ?_))));exact vY xs _ _ A _ _ Q hk'.2 x2 (by omega) λtk' b' hb=>h tk' b' (by simp[hb,tJ])
end
def wI:∀ (n:Nat) (k:IV) (v:IU) (as:List G') (A:JN) (s:IZ) (Q:Bool->IZ->Prop),kd k=l'->Reads s.heap v k as->k.depth <= n ->
 Q l' s->Jl (model prog w) A (eqIsQuiet n v) Q E s:=by
 intro n
 induction n with
|zero =>
  intro k v as A s Q hk x hu h;cases x with
 |int i t=>rw[eqIsQuiet_byValue 0 rfl];exact IY h
 |str i t=>rw[eqIsQuiet_byValue 0 rfl];exact IY h
 |tuple=>simp only[IV.depth]at hu;omega
 |none=>cases hk
 |bool=>cases hk
 |list=>cases hk
 |dict=>cases hk
|succ n ih =>
  intro k v as A s Q hk x hu h;cases x with
 |int i t=>rw[eqIsQuiet_byValue _ rfl];exact IY h
 |str i t=>rw[eqIsQuiet_byValue _ rfl];exact IY h
 |none=>cases hk
 |bool=>cases hk
 |list=>cases hk
 |dict=>cases hk
 |@tuple a o vs m xs _ hg hc hdt hw =>
   have hT:s.TypeIs (.ref a) "tuple":=⟨_,hg,hc⟩
   unfold eqIsQuiet;refine D' (wpAny_specialOf hT F.slot_tuple_eq.lookup ?_);show Jl _ _ (isInstance (.ref a) (.type "tuple") >>= _) _ _ s;refine D' (wpAny_isInstance hT isSubtype_tuple_tuple ?_);simp only[Bool.not_true,JP,if_false];refine D' (Li hg hdt (D' ?_));show Jl _ _ (forIn vs _ _) _ _ s;rw[<-Array.forIn_toList];refine wpAny_forIn_list _ (λrest r s'=>r.1=IX/\s'=s/\∃ ys bs,ReadsAll s.heap rest ys bs/\kds ys=l'/\JI ys <= n) _ ?_ ?_ _ _
    ⟨rfl,rfl,xs,_,hw,hk,by simp only[IV.depth]at hu;omega⟩
   . rintro y rest r s' ⟨hr,rfl,ys,bs,rd,hks,hdp⟩;cases rd with
    |@cons _ _ d ds _ _ r1 r2 =>
      have hks':(kd d && kds ds)=l':=hks;rw[Kn]at hks';simp only[JI]at hdp;refine D' (ih d _ _ A _ _ hks'.1 r1 (by omega) ?_);simp only[Bool.not_true,JP,if_false];exact IY ⟨rfl,rfl,ds,_,r2,hks'.2,by omega⟩
   . rintro⟨r1,r2⟩ s' ⟨hr,rfl,_⟩;simp only at hr;subst hr;exact IY h
def Ent (w:Jj) (h:JD) (k:IV) (e:Jz):Prop:=kd k=l'/\k.depth <= 8/\(∃ as,Reads h e.key k as)/\e.hash=hashD w k
def Ask (h:JD) (k:IV) (v:IU):Prop:=kd k=l'/\k.depth <= 8/\(∃ as,Reads h v k as)/\((∃ x t,v=.str x t)\/∃ a,v=.ref a)
abbrev Ents (w:Jj) (h:JD) (ks:List IV) (es:List Jz):Prop:=Jv (Ent w h) ks es
theorem f2_get {α β:Type}{R:α->β->Prop}:∀ {xs:List α}{ys:List β},Jv R xs ys->∀ (j:Nat) (y:β),ys[j]?=dk y->∃ x,xs[j]?=dk x/\R x y
|_,_,.nil,j,y,h=>by simp at h
|_,_,.cons r t,0,y,h=>by simp at h;subst h;exact⟨_,rfl,r⟩
|_,_,.cons r t,j+1,y,h=>by
  obtain⟨x,e,q⟩:=f2_get t j y (by simpa using h);exact⟨x,by simpa using e,q⟩
theorem f2_get' {α β:Type}{R:α->β->Prop}:∀ {xs:List α}{ys:List β},Jv R xs ys->∀ (j:Nat) (x:α),xs[j]?=dk x->∃ y,ys[j]?=dk y/\R x y
|_,_,.nil,j,y,h=>by simp at h
|_,_,.cons r t,0,y,h=>by simp at h;subst h;exact⟨_,rfl,r⟩
|_,_,.cons r t,j+1,y,h=>by
  obtain⟨x,e,q⟩:=f2_get' t j y (by simpa using h);exact⟨x,by simpa using e,q⟩
def xA {n:Nat}{f:Nat->Option Int}{h:Int}{j:Nat}(hj:j < n) (e:f j=dk h):j∈Kk n f h:=by
 unfold Kk;exact Lh.mpr ⟨mem_range.mpr hj,by rw[e];simp⟩
def oK {n:Nat}{f:Nat->Option Int}{h:Int}{j:Nat}(hj:j∈Kk n f h):j < n:=by
 unfold Kk at hj;exact mem_range.mp (Lh.mp hj).1
def u7 {n:Nat}{f:Nat->Option Int}{h:Int}:(Kk n f h).Nodup:=by
 unfold Kk;exact Nodup.sublist List.filter_sublist List.nodup_range
def Fy {α:Type}{xs:List α}(hn:xs.Nodup) {i j:Nat}{k:α}(hi:xs[i]?=dk k) (hj:xs[j]?=dk k):i=j :=
 (List.getElem?_inj (Jp.mp hi).1 hn).mp (hi.trans hj.symm)
variable {A:JN}{s:IZ}
def CI {d:G'}{o:KP}{es:Array Jz}{ep:Nat}{ks:List IV}{k:IV}{key:IU}{Q:Option Nat->IZ->Prop}(hu:A.units+8 < Lx) (hk:Ask s.heap k key)
 (ho:s.heap.get? d=dk o) (hd:o.data=.dict es ep) (hes:Ents w s.heap ks es.toList) (hn:ks.Nodup) (hnone:k ∉ ks->Q IX s) (hsome:∀ j:Nat,ks[j]?=dk k->Q (dk j) s) :
 Jl (model prog w) A (dictFind d key (hashD w k)) Q E s:=by
 obtain⟨kk,kdp,⟨as,kr⟩,ksh⟩:=hk;have hget:∀ (j:Nat) (e:Jz),es[j]?=dk e->∃ k',ks[j]?=dk k'/\Ent w s.heap k' e:=λj e h=>f2_get hes j e (by rw[Kv];exact h)
 have hget':∀ (j:Nat) (k':IV),ks[j]?=dk k'->∃ e,es[j]?=dk e/\Ent w s.heap k' e:=λj k' h=>by
  obtain⟨e,h1,h2⟩:=f2_get' hes j k' h;exact⟨e,by rw[<-Kv];exact h1,h2⟩
 have hplace:∀ j:Nat,ks[j]?=dk k->j∈Kk es.size (λi=>es[i]?.map (·.hash)) (hashD w k):=λj h=>by
  obtain⟨e,h1,_,_,_,h2⟩:=hget' j k h;exact xA (Array.getElem?_eq_some_iff.mp h1).1 (by rw[h1,<-h2];rfl)
 have heq:∀ (k':IV) (e:Jz) (R:Bool->IZ->Prop),Ent w s.heap k' e->(k'=k->R l' s)->(k'≠k->R f' s)->Jl (model prog w) A (eqBool e.key key) R E s:=λk' e R h h1 h2=>by
  obtain⟨ek,ed,⟨bs,er⟩,_⟩:=h;refine SeqAt.eqAt_reads k' k A s _ _ _ _ er kr (kd_lay _ ek) (kd_lay _ kk) (by omega) prog w E R ?_;by_cases z:k'=k
  . rw[(eqv_iff k' k ek kk).mpr z];exact h1 z
  . have:Jm k' k=f':=by
     cases q:Jm k' k with
    |false=>rfl
    |true=>exact absurd ((eqv_iff k' k ek kk).mp q) z
    rw[this];exact h2 z
 have none_of:(∀ j:Nat,ks[j]?=dk k->j∈([]:List Nat))->Q IX s:=λh=>hnone λm=>by
  obtain⟨j,hj⟩:=List.mem_iff_getElem?.mp m;exact absurd (h j hj) (by simp)
 have plain:Jl (model prog w) A (dictWalkPlain d key (hashD w k) es (Kk es.size (λi=>es[i]?.map (·.hash)) (hashD w k))) Q E s:=by
  refine D' ?_;refine wpAny_forIn_list _ (λrest b s'=>s'=s/\b=(IX,())/\(∀ j:Nat,ks[j]?=dk k->j∈rest)/\∀ j∈rest,j < es.size) _ ?_ ?_ _ _ ⟨rfl,rfl,hplace,λj=>oK⟩
  . rintro x rest b s' ⟨rfl,rfl,hin,hlt⟩;have hx:=hlt x Jg;have hlt':∀ j∈rest,j < es.size:=λj hj=>hlt j (Jh _ hj)
    obtain⟨k',hk',he⟩:=hget x es[x] (JE hx);have next:k'≠k->∀ j:Nat,ks[j]?=dk k->j∈rest:=λz j hj=>by
     rcases Jx.mp (hin j hj) with q|q
     . subst q;rw[hk']at hj;exact absurd (Jt hj) z
     . exact q
    simp only[JE hx];by_cases hh:(es[x].hash == hashD w k)=l'
    . rw[Pa hh];refine D' (Ka ho hd (D' (heq k' es[x] _ he (λz=>D' (Ka ho hd ?_)) (λz=>D' (Ka ho hd ?_)))))
      . show Jl _ _ (if (ep != ep)=l' then _ else _) _ E _;rw[Pb (by simp)];exact D' (K6 (IY (IY (hsome x (z ▸ hk')))))
      . show Jl _ _ (if (ep != ep)=l' then _ else _) _ E _;rw[Pb (by simp)];exact D' (K6 (IY ⟨rfl,rfl,next z,hlt'⟩))
    . rw[Pb hh];refine IY ⟨rfl,rfl,next λz=>hh ?_,hlt'⟩;rw[he.2.2.2,z];simp
  . rintro b s' ⟨rfl,rfl,hin,_⟩;exact IY (none_of hin)
 have hstored:∀ v∈(Kk es.size (λi=>es[i]?.map (·.hash)) (hashD w k)).filterMap (λi=>es[i]?.map (·.key)),∃ k' bs,kd k'=l'/\k'.depth <= 8/\Reads s.heap v k' bs:=λv hv=>by
  obtain⟨i,_,hi⟩:=mem_filterMap.mp hv;cases q:es[i]? with
 |none=>rw[q]at hi;cases hi
 |some e =>
   rw[q]at hi;have z:e.key=v:=by simpa using hi
   obtain⟨k',_,h1,h2,⟨bs,h3⟩,_⟩:=hget i e q;exact⟨k',bs,h1,h2,z ▸ h3⟩
 have htell:∀ (R:Bool->IZ->Prop),R f' s->Jl (model prog w) A (tableMayTell key ((Kk es.size (λi=>es[i]?.map (·.hash)) (hashD w k)).filterMap (λi=>es[i]?.map (·.key)))) R E s:=λR h=>by
  unfold tableMayTell;split
  . exact IY h
  . refine D' (wI 8 k key _ A s _ kk kr kdp ?_);simp only[Bool.not_true,JP,if_false];refine D' ?_;refine wpAny_forIn_list _ (λrest r s'=>s'=s/\r=(IX,())/\∀ v∈rest,∃ k' bs,kd k'=l'/\k'.depth <= 8/\Reads s.heap v k' bs) _ ?_ ?_ _ _ ⟨rfl,rfl,hstored⟩
    . rintro x rest r s' ⟨rfl,rfl,hr⟩;obtain⟨k',bs,h1,h2,h3⟩:=hr x Jg;refine D' (wI 8 k' x _ A _ _ h1 h3 h2 ?_);simp only[Bool.not_true,JP,if_false];exact IY ⟨rfl,rfl,λv hv=>hr v (Jh _ hv)⟩
    . rintro r s' ⟨rfl,rfl,_⟩;exact IY h
 have hany:∀ a:G',key=.ref a->¬ (es.any λe=>e.key == JC a && e.hash != hashD w k)=l':=by
  rintro a rfl h;rw[<-Array.any_toList,any_eq_true]at h;obtain⟨e,hin,hc⟩:=h;obtain⟨j,hj⟩:=List.mem_iff_getElem?.mp hin;obtain⟨k',hk',h1,h2,⟨bs,h3⟩,h4⟩:=hget j e (by rw[<-Kv];exact hj);rw[Kn]at hc;have z1:e.key=.ref a:=beq_iff_eq.mp hc.1;rw[z1]at h3;have z2:=SeqAt.Reads.unique k' k _ _ _ (kd_lay _ h1) h3 kr;rw[h4,z2]at hc;simp at hc
 unfold dictFind;refine Kl ?_;refine D' (Ls ho hd ?_);dsimp only;rcases ksh with⟨x,t,rfl⟩|⟨a,rfl⟩
 . dsimp only;by_cases hstr:(es.all λe=>isExactStrKey e.key)=l'
   . rw[Pa hstr];unfold foundByValue;have kx:k=.str x:=by cases kr;rfl
     have hkey:∀ (j:Nat) (e:Jz),es[j]?=dk e->∃ k',ks[j]?=dk k'/\Ent w s.heap k' e/\(e.key.isStr x=l' ↔ k'=k):=λj e h=>by
      obtain⟨k',h1,h2⟩:=hget j e h;refine⟨k',h1,h2,?_⟩;have hs:isExactStrKey e.key=l':=by
       have q:=Array.all_eq_true.mp hstr;obtain⟨hl,he⟩:=Array.getElem?_eq_some_iff.mp h;have:=q j hl;rw[he]at this;exact this
      obtain⟨_,_,⟨bs,h3⟩,_⟩:=h2;cases hv:e.key with
     |str y u =>
       rw[hv]at h3;cases h3;show (y == x)=l' ↔ _;rw[kx,beq_iff_eq];exact⟨λz=>by rw[z],λz=>by injection z⟩
     |_=>rw[hv]at hs;cases hs
     cases hf:es.findIdx? (λe=>e.key.isStr x) with
    |none =>
      refine IY (hnone λm=>?_);obtain⟨j,hj⟩:=List.mem_iff_getElem?.mp m;obtain⟨e,he,_⟩:=hget' j k hj;obtain⟨k',h1,_,h2⟩:=hkey j e he;rw[hj]at h1;have h3:=Array.findIdx?_eq_none_iff.mp hf e (Array.mem_of_getElem? he);rw[h2.mpr (Jt h1).symm]at h3;cases h3
    |some i =>
      obtain⟨hlt,hi,_⟩:=Array.findIdx?_eq_some_iff_getElem.mp hf;obtain⟨k',h1,h2,h3⟩:=hkey i es[i] (JE hlt);have z:k'=k:=h3.mp hi;simp only[JE hlt];refine D' (Ka ho hd (D' (heq k' es[i] _ h2 (λ_=>D' (Ka ho hd ?_)) (λq=>absurd z q))));rw[Pb (by simp)];simp only[if_true];exact D' (K6 (IY (hsome i (z ▸ h1))))
   . rw[Pb hstr];by_cases hall:((IU.str x t :: (Kk es.size (λi=>es[i]?.map (·.hash)) (hashD w k)).filterMap (λi=>es[i]?.map (·.key))).all carriedByValue)=l'
     . rw[Pa hall];exact plain
     . rw[Pb hall];by_cases hone:(((Kk es.size (λi=>es[i]?.map (·.hash)) (hashD w k)).filterMap (λi=>es[i]?.map (·.key))) == [IU.str x t])=l'
       all_goals
        first
        |(rw[Pa hone];refine D' (IY ?_))
        |(rw[Pb hone];refine D' (htell _ ?_))
        rw[Pb (by simp)];refine D' (wpAny_forIn_list _ (λrest b s'=>s'=s/\∃ hit,b=(IX,hit)/\((hit=IX/\∀ j:Nat,ks[j]?=dk k->j∈rest)\/∃ j,hit=dk j/\ks[j]?=dk k/\j ∉ rest)/\(∀ j∈rest,j < es.size)/\rest.Nodup) _ ?_ ?_ _ _
         ⟨rfl,IX,rfl,.inl ⟨rfl,hplace⟩,λj=>oK,u7⟩)
        . rintro x rest b s' ⟨rfl,hit,rfl,hin,hlt,hnd⟩;have hx:=hlt x Jg;have hlt':∀ j∈rest,j < es.size:=λj hj=>hlt j (Jh _ hj)
          obtain⟨hxr,hnd'⟩:=KG.mp hnd;obtain⟨k',hk',he⟩:=hget x es[x] (JE hx);have next:k'≠k->((hit=IX/\∀ j:Nat,ks[j]?=dk k->j∈rest)\/∃ j,hit=dk j/\ks[j]?=dk k/\j ∉ rest):=λz=>by
           rcases hin with⟨h0,hin⟩|⟨j,h0,hj,hjr⟩
           . refine .inl ⟨h0,λj hj=>?_⟩;rcases Jx.mp (hin j hj) with q|q
             . subst q;rw[hk']at hj;exact absurd (Jt hj) z
             . exact q
           . exact .inr ⟨j,h0,hj,λq=>hjr (Jh _ q)⟩
          simp only[JE hx];by_cases hh:(es[x].hash == hashD w k)=l'
          . rw[Pa hh];refine D' (Ka ho hd (D' (heq k' es[x] _ he (λz=>D' (Ka ho hd ?_)) (λz=>D' (Ka ho hd ?_)))))
            . rw[Pb (by simp)];have hkx:ks[x]?=dk k:=z ▸ hk';rcases hin with⟨rfl,hin⟩|⟨j,_,hj,hjr⟩
              . simp only[isSome_none,JP,if_false,if_true];refine D' (K6 ?_);split
                . exact IY (IY (hsome x hkx))
                . exact IY ⟨rfl,dk x,rfl,.inr ⟨x,rfl,hkx,hxr⟩,hlt',hnd'⟩
              . exact absurd (Fy hn hj hkx ▸ Jg) hjr
            . rw[Pb (by simp)];simp only[JP,if_false];refine D' (K6 ?_)
              try rw[Pb (by simp)]
              exact IY ⟨rfl,hit,rfl,next z,hlt',hnd'⟩
          . rw[Pb hh];refine IY ⟨rfl,hit,rfl,next λz=>hh ?_,hlt',hnd'⟩;rw[he.2.2.2,z];simp
        . rintro b s' ⟨rfl,hit,rfl,hin,_⟩;rcases hin with⟨rfl,hin⟩|⟨j,rfl,hj,_⟩
          . exact IY (none_of hin)
          . exact IY (hsome j hj)
 . dsimp only;rw[Pb (show ¬ ((JC a :: (Kk es.size (λi=>es[i]?.map (·.hash)) (hashD w k)).filterMap (λi=>es[i]?.map (·.key))).all carriedByValue)=l' from by simp[carriedByValue]),Pb (hany a rfl)];by_cases hone:(((Kk es.size (λi=>es[i]?.map (·.hash)) (hashD w k)).filterMap (λi=>es[i]?.map (·.key))) == [JC a])=l'
   all_goals
    first
    |(rw[Pa hone];refine D' (IY ?_))
    |(rw[Pb hone];refine D' (htell _ ?_))
    rw[Pb (by simp)];refine D' (wpAny_forIn_list _ (λrest b s'=>s'=s/\∃ hit,b=(IX,hit)/\((hit=IX/\∀ j:Nat,ks[j]?=dk k->j∈rest)\/∃ j,hit=dk j/\ks[j]?=dk k/\j ∉ rest)/\(∀ j∈rest,j < es.size)/\rest.Nodup) _ ?_ ?_ _ _
     ⟨rfl,IX,rfl,.inl ⟨rfl,hplace⟩,λj=>oK,u7⟩)
    . rintro x rest b s' ⟨rfl,hit,rfl,hin,hlt,hnd⟩;have hx:=hlt x Jg;have hlt':∀ j∈rest,j < es.size:=λj hj=>hlt j (Jh _ hj)
      obtain⟨hxr,hnd'⟩:=KG.mp hnd;obtain⟨k',hk',he⟩:=hget x es[x] (JE hx);have next:k'≠k->((hit=IX/\∀ j:Nat,ks[j]?=dk k->j∈rest)\/∃ j,hit=dk j/\ks[j]?=dk k/\j ∉ rest):=λz=>by
       rcases hin with⟨h0,hin⟩|⟨j,h0,hj,hjr⟩
       . refine .inl ⟨h0,λj hj=>?_⟩;rcases Jx.mp (hin j hj) with q|q
         . subst q;rw[hk']at hj;exact absurd (Jt hj) z
         . exact q
       . exact .inr ⟨j,h0,hj,λq=>hjr (Jh _ q)⟩
      simp only[JE hx];by_cases hh:(es[x].hash == hashD w k)=l'
      . rw[Pa hh];refine D' (Ka ho hd (D' (heq k' es[x] _ he (λz=>D' (Ka ho hd ?_)) (λz=>D' (Ka ho hd ?_)))))
        . rw[Pb (by simp)];have hkx:ks[x]?=dk k:=z ▸ hk';rcases hin with⟨rfl,hin⟩|⟨j,_,hj,hjr⟩
          . simp only[isSome_none,JP,if_false,if_true];refine D' (K6 ?_);split
            . exact IY (IY (hsome x hkx))
            . exact IY ⟨rfl,dk x,rfl,.inr ⟨x,rfl,hkx,hxr⟩,hlt',hnd'⟩
          . exact absurd (Fy hn hj hkx ▸ Jg) hjr
        . rw[Pb (by simp)];simp only[JP,if_false];refine D' (K6 ?_)
          try rw[Pb (by simp)]
          exact IY ⟨rfl,hit,rfl,next z,hlt',hnd'⟩
      . rw[Pb hh];refine IY ⟨rfl,hit,rfl,next λz=>hh ?_,hlt',hnd'⟩;rw[he.2.2.2,z];simp
    . rintro b s' ⟨rfl,hit,rfl,hin,_⟩;rcases hin with⟨rfl,hin⟩|⟨j,rfl,hj,_⟩
      . exact IY (none_of hin)
      . exact IY (hsome j hj)
def DictE (h:JD) (d:G') (es:List Jz) (ep:Nat):Prop:=∃ o,h.get? d=dk o/\o.ExactDict/\o.data=.dict es.toArray ep
def ja (h:JD) (d:G') (es:List Jz):Prop:=∃ o ep,h.get? d=dk o/\o.ExactDict/\o.data=.dict es.toArray ep
def ja.ep {h:JD}{d:G'}{es:List Jz}(x:ja h d es):∃ ep,DictE h d es ep:=let ⟨o,ep,e⟩:=x;⟨ep,o,e⟩
def DictE.es {h:JD}{d:G'}{es:List Jz}{ep:Nat}(x:DictE h d es ep):ja h d es:=let ⟨o,e⟩:=x;⟨o,ep,e⟩
def DictE.typeIs {s:IZ}{d:G'}{es:List Jz}{ep:Nat}(x:DictE s.heap d es ep):s.TypeIs (.ref d) "dict":=let ⟨o,ho,hc,_⟩:=x;⟨o,ho,hc.1⟩
def ja.typeIs {s:IZ}{d:G'}{es:List Jz}(x:ja s.heap d es):s.TypeIs (.ref d) "dict":=let ⟨o,_,ho,hc,_⟩:=x;⟨o,ho,hc.1⟩
def Ga {d:G'}{es:List Jz}{ks:List IV}{k:IV}{key:IU}{Q:Option IU->IZ->Prop}(hu:A.units+8 < Lx) (hk:Ask s.heap k key)
 (hm:ja s.heap d es) (hes:Ents w s.heap ks es) (hn:ks.Nodup) (hnone:k ∉ ks->∀ tk,Q IX { s with toks:=tk })
 (hsome:∀ (j:Nat) (e:Jz),ks[j]?=dk k->es[j]?=dk e->∀ tk,Q (dk e.val) { s with toks:=tk }):Jl (model prog w) A (dictGet d key) Q E s:=by
 obtain⟨o,ep,ho,hc,hd⟩:=hm;obtain⟨kk,kdp,⟨as,kr⟩,ksh⟩:=id hk;unfold dictGet;refine Kl (D' (vB k key as A s _ kk kr (by omega) λtk=>D' (CI (s:={ s with toks:=tk }) hu hk ho hd hes hn ?_ ?_)))
 . exact λh=>IY (hnone h tk)
 . intro j hj;refine D' (Ls (s:={ s with toks:=tk }) ho hd ?_);obtain⟨e,he,_⟩:=f2_get' hes j k hj;have q:es.toArray[j]?=dk e:=by rw[List.getElem?_toArray];exact he
   rw[q];exact IY (hsome j e hj he tk)
def GM {d:G'}{es:List Jz}{ks:List IV}{k:IV}{key v:IU}{Q:Unit->IZ->Prop}(hu:A.units+8 < Lx) (hk:Ask s.heap k key)
 (hm:ja s.heap d es) (hes:Ents w s.heap ks es) (hn:ks.Nodup) (hsz:es.length <= Je)
 (hQ:∀ (h':JD) (tk:Nat) (es':List Jz),ja h' d es'->KN d s.heap h'->((k ∉ ks/\es'=es++[⟨hashD w k,key,v⟩])\/∃ j:Nat,ks[j]?=dk k/\es'=es.modify j λe=>{ e with val:=v }) ->
  Q () { s with heap:=h',toks:=tk }):Jl (model prog w) A (dictSet d key v) Q E s:=by
 obtain⟨o,ep,ho,hc,hd⟩:=hm;obtain⟨kk,kdp,⟨as,kr⟩,ksh⟩:=id hk;unfold dictSet;refine Kl (D' (vB k key as A s _ kk kr (by omega) λtk=>?_));unfold dictSetHashed;refine Kl (D' (CI (s:={ s with toks:=tk }) hu hk ho hd hes hn ?_ ?_))
 . intro h;refine D' (K6 (wpAny_updateDictKeys (hz:=by simpa using hsz) (s:={ s with toks:=tk }) ho hd (hQ _ tk (es++[⟨hashD w k,key,v⟩]) ⟨_,ep+1,Lo _ ho (KP.isFreed_of_dict (KP.data_mapDictKeys hd _)),hc.mapDictKeys _,?_⟩ (KH ..) (.inl ⟨h,rfl⟩))));rw[KP.data_mapDictKeys hd _];simp
 . intro j hj;refine D' (K6 (D' (wpAny_updateDict (s:={ s with toks:=tk }) ho hd (wpAny_point (hQ _ tk (es.modify j λe=>{ e with val:=v }) ⟨_,ep,Lo _ ho (KP.isFreed_of_dict (KP.data_mapDict hd _)),hc.mapDict _,?_⟩ (KH ..) (.inr ⟨j,hj,rfl⟩))))));rw[KP.data_mapDict hd _];simp
def meets_D (d:G') (key dflt:IU) (hd:(d == Ku)=f') :
 MeetsIn prog w (Builtin.«dict.get» ⟨[.ref d,key,dflt],[]⟩) (λA R s=>A.in1.units+8 < Lx/\∃ k ks es,Ask s.heap k key/\ja s.heap d es/\Ents w s.heap ks es/\ks.Nodup /\
  (k ∉ ks->∀ tk,R (.ok (.ret dflt)) { s with toks:=tk })/\∀ (j:Nat) (e:Jz),ks[j]?=dk k->es[j]?=dk e->∀ tk,R (.ok (.ret e.val)) { s with toks:=tk }) :=
 .of_wp λA R s ⟨hu,k,ks,es,hk,hm,hes,hn,h1,h2⟩=>by
  show Jl _ _ (dictGet d key >>= _) _ _ s;refine D' (Ga hu hk hm hes hn (λh tk=>?_) λj e hj he tk=>IY ⟨_,rfl,h2 j e hj he tk⟩);show Jl _ _ (Builtin.Dict.missed d key >>= _) _ _ _;exact D' (wpAny_missed_other hd (IY ⟨dflt,rfl,h1 h tk⟩))
def item_D {d:G'}{es:List Jz}{ks:List IV}{k:IV}{key:IU}{Q:IU->IZ->Prop}(hu:A.in1.units+8 < Lx) (hk:Ask s.heap k key)
 (hm:ja s.heap d es) (hes:Ents w s.heap ks es) (hn:ks.Nodup) (hin:k∈ks)
 (hsome:∀ (j:Nat) (e:Jz),ks[j]?=dk k->es[j]?=dk e->∀ tk,Q e.val { s with toks:=tk }):Jl (model prog w) A (getItem (.ref d) key) Q E s:=by
 unfold getItem;refine Kl (D' (wpAny_sequenceKey hm.typeIs (by decide) (D' (J2 (name:=K1 "__getitem__") hm.typeIs slot_dict_getitem
  (Kb slot_dict_getitem hm.typeIs entry_dict_getitem ?_ (args_dict_getitem _ _))))))
 show Jl _ _ (dictGet d key >>= _) _ _ s;exact D' (Ga hu hk hm hes hn (λh _=>absurd hin h) λj e hj he tk=>IY ⟨_,rfl,IY (hsome j e hj he tk)⟩)
def put_D {d:G'}{es:List Jz}{ks:List IV}{k:IV}{key v:IU}{Q:Unit->IZ->Prop}(hu:A.in1.units+8 < Lx) (hk:Ask s.heap k key)
 (hm:ja s.heap d es) (hes:Ents w s.heap ks es) (hn:ks.Nodup) (hsz:es.length <= Je)
 (hQ:∀ (h':JD) (tk:Nat) (es':List Jz),ja h' d es'->KN d s.heap h'->((k ∉ ks/\es'=es++[⟨hashD w k,key,v⟩])\/∃ j:Nat,ks[j]?=dk k/\es'=es.modify j λe=>{ e with val:=v }) ->
  Q () { s with heap:=h',toks:=tk }):Jl (model prog w) A (setItem (.ref d) key v) Q E s:=by
 unfold setItem;refine Kl (D' (wpAny_sequenceKey hm.typeIs (by decide) (D' (J2 (name:=K1 "__setitem__") hm.typeIs slot_dict_setitem
  (Kb slot_dict_setitem hm.typeIs entry_dict_setitem ?_ (args_dict_setitem _ _ _))))))
 show Jl _ _ (Builtin.Dict.notOrdered "__setitem__" ⟨[.ref d,key,v],[]⟩ >>= _) _ _ s;refine D' (wpAny_notOrdered_dict hm.typeIs ?_);show Jl _ _ (dictSet d key v >>= _) _ _ s;exact D' (GM hu hk hm hes hn hsz λh' tk es' a b c=>IY ⟨.none,rfl,IY (hQ h' tk es' a b c)⟩)
def keys_iter {d:G'}{es:List Jz}{ep:Nat}{Q:IU->IZ->Prop}(hd:(d == Ku)=f') (hm:DictE s.heap d es ep)
 (hQ:∀ h',h'.IsKeyIter s.heap.objs.size d 0 es.length ep->(∀ b o,s.heap.get? b=dk o->h'.get? b=dk o)->Q (.ref s.heap.objs.size) { s with heap:=h' }):Jl (model prog w) A (pyIter (.ref d)) Q E s:=by
 obtain⟨o,ho,hc,hdat⟩:=id hm;refine wpAny_pyIter_slot hm.typeIs F.slot_dict_iter (Kb F.slot_dict_iter hm.typeIs F.entry_dict_iter ?_ (F.args_dict_iter_1 _));unfold Builtin.«dict.__iter__» Builtin.Dict.dictSlotNone;refine D' (D' (wpAny_notOrdered_dict hm.typeIs (IY ?_)));have hne:¬ (d == Ku)=l':=by rw[hd];decide
 unfold Builtin.Dict.showsAll;refine D' (wpAny_of_eq (a:=d) rfl (D' ?_));rw[Pb hne];refine IY (D' (Ls ho hdat (D' (Ka ho hdat ?_))));refine D' (Kw (IY ⟨_,rfl,"dict_keyiterator",_,⟨_,Jq _ rfl,rfl⟩,KR.lookup,?_⟩));exact hQ _ ⟨_,Jq _ rfl,rfl,by simp[rawInt]⟩ λb o' e=>Jc _ e
def keys_next {it d:G'}{i ep:Nat}{es:List Jz}{e:Jz}{Q:Option IU->IZ->Prop}(hit:s.heap.IsKeyIter it d i es.length ep) (hm:DictE s.heap d es ep) (hx:es[i]?=dk e)
 (hQ:∀ h',h'.IsKeyIter it d (i+1) es.length ep->KN it s.heap h'->Q (dk e.key) { s with heap:=h' }):Jl (model prog w) A (pyNext (.ref it)) Q E s:=by
 obtain⟨o,ho,hc,hd⟩:=id hit;obtain⟨od,hod,hcd,hdd⟩:=id hm;obtain⟨hlt,he⟩:=Jp.mp hx;have hown:Builtin.Dict_items.ownsTuple "dict_keyiterator"=f':=by decide
 have hga:es.toArray[i]?=dk e:=by rw[List.getElem?_toArray];exact hx
 unfold pyNext;refine D' (wpAny_attempt (J2 (name:=K1 "__next__") hit.typeIs KR (Kb KR hit.typeIs F.entry_dict_keyiterator_next ?_ (F.args_dict_keyiterator_next_1 _))));refine D' (IY (D' (D' ?_)))
 first|refine D' (K4 hit.typeIs (IY (D' (wpAny_fieldsOf ho hd ?_))))|refine D' (wpAny_typeNameOf_keyiter hit.typeIs (IY (D' (wpAny_fieldsOf ho hd ?_))))
 simp only[hown,JP,if_false];show Jl _ _ (if (JC d == Ke)=l' then _ else _) _ _ s;rw[Pb (show ¬ ((JC d == Ke)=l') from Jo)];refine D' (IY (D' (Ls hod hdd ?_)));rw[Pb (by simp)];refine D' (IY (D' (Ka hod hdd ?_)));rw[Pb (by simp)];refine IY ?_;simp only[show ¬ ((i:Int) < 0) from by omega,if_false,toNat_natCast,hga];refine D' ?_
 first|refine D' (K4 hit.typeIs (IY (D' (wpAny_isOneOf_keyiter hit.typeIs ?_))))|refine D' (wpAny_typeNameOf_keyiter hit.typeIs (IY (D' (wpAny_isOneOf_keyiter hit.typeIs ?_))))
 show Jl _ _ (setField (.ref it) 1 (rawInt ((i:Int)+1)) >>= _) _ _ s;have hit2:(s.heap.update it (KP.mapFields (·.setIfInBounds 1 (rawInt ((i:Int)+1))))).IsKeyIter it d (i+1) es.length ep:=by
  refine⟨_,Lo _ ho (KP.isFreed_of_fields (KP.data_mapFields hd _)),(KP.cls_mapFields ..).trans hc,?_⟩;rw[KP.data_mapFields hd];simp[rawInt]
 refine D' (wpAny_setField ho hd (by simp) (D' (Kl ?_)));refine D' (wpAny_isOneOf_keyiter (s:={ s with heap:=s.heap.update it (KP.mapFields (·.setIfInBounds 1 (rawInt ((i:Int)+1)))) }) hit2.typeIs ?_);show Jl _ _ (pure e.key) _ _ _;exact IY (IY ⟨_,rfl,IY (hQ _ hit2 (KH ..))⟩)
def keys_end {it d:G'}{i ep:Nat}{es:List Jz}{Q:Option IU->IZ->Prop}(hh:A.handled=IX) (hit:s.heap.IsKeyIter it d i es.length ep) (hm:DictE s.heap d es ep) (hx:es.length <= i)
 (hQ:∀ h',JD.ExtBut it s.heap h'->Q IX { s with heap:=h' }):Jl (model prog w) A (pyNext (.ref it)) Q E s:=by
 obtain⟨o,ho,hc,hd⟩:=id hit;obtain⟨od,hod,hcd,hdd⟩:=id hm;have hown:Builtin.Dict_items.ownsTuple "dict_keyiterator"=f':=by decide
 have hga:es.toArray[i]?=IX:=by rw[List.getElem?_toArray];exact List.getElem?_eq_none hx
 unfold pyNext;refine D' (wpAny_attempt (J2 (name:=K1 "__next__") hit.typeIs KR (Kb KR hit.typeIs F.entry_dict_keyiterator_next ?_ (F.args_dict_keyiterator_next_1 _))));refine D' (IY (D' (D' ?_)))
 first|refine D' (K4 hit.typeIs (IY (D' (wpAny_fieldsOf ho hd ?_))))|refine D' (wpAny_typeNameOf_keyiter hit.typeIs (IY (D' (wpAny_fieldsOf ho hd ?_))))
 simp only[hown,JP,if_false];show Jl _ _ (if (JC d == Ke)=l' then _ else _) _ _ s;rw[Pb (show ¬ ((JC d == Ke)=l') from Jo)];refine D' (IY (D' (Ls hod hdd ?_)));rw[Pb (by simp)];refine D' (IY (D' (Ka hod hdd ?_)));rw[Pb (by simp)];refine IY ?_;simp only[show ¬ ((i:Int) < 0) from by omega,if_false,toNat_natCast,hga];refine D' ?_
 first|refine D' (K4 hit.typeIs (IY ?_))|refine D' (wpAny_typeNameOf_keyiter hit.typeIs (IY ?_))
 show Jl _ _ (setField (.ref it) 0 .none >>= _) _ _ s;refine D' (wpAny_setField ho hd (by simp) ?_);show Jl _ _ (newExc (.type "StopIteration") [] >>= _) _ _ _;refine D' ?_;simp only[newExc,newTuple];refine D' (Kw (D' (m:=firstArgMember _ _) (wpAny_of_eq (a:=Ke) (by first|rfl|(simp only[firstArgMember];rfl)) (Kw ?_ (by size_fits)))) (by size_fits));simp only[raiseNew];refine D' (wpAny_handled ?_);rw[show A.in1.handled=IX from hh];refine D' (IY (wpAny_throw ?_));refine D' (wpAny_isInstance (T:="StopIteration") (b:=l') ⟨_,Jq _ rfl,rfl⟩ isSubtype_stop (IY (hQ _ (((KH ..).extBut.push _).push _))))
end
end MX
namespace L2
open PySem PySem.Spec PyProof.Rows
mutual
def DV (H:Hp):IV->V->Prop
|.none,x=>x=.non
|.bool b,x=>x=.bl b
|.int i,x=>x=.int i
|.str t,x=>x=.str t
|.list ds,x=>∃ (a:G') (vs:List V),x=.ref a/\H a=dk (.lst vs)/\DVs H ds vs
|.tuple ds,x=>∃ (a:G') (vs:List V),x=.ref a/\H a=dk (.tup vs)/\DVs H ds vs
|.dict _,_=>False
def DVs (H:Hp):List IV->List V->Prop
|[],vs=>vs=[]
|d :: ds,vs=>∃ (v:V) (r:List V),vs=v :: r/\DV H d v/\DVs H ds r
end
section
variable {P:Jy}{w:Jj}{H H':Hp}{h:JD}
mutual
theorem DV.reads (ok:HOk P w H h):∀ (d:IV) (x:V) (u:IU),DV H d x->bT x u->∃ as,Reads h u d as
|.none,_,_,e,r=>by cases e;cases r;exact⟨_,.none⟩
|.bool b,_,_,e,r=>by cases e;cases r;exact⟨_,.bool b⟩
|.int i,_,_,e,r=>by cases e;obtain⟨t,rfl⟩:=r;exact⟨_,.int i t⟩
|.str y,_,_,e,r=>by cases e;obtain⟨t,rfl⟩:=r;exact⟨_,.str y t⟩
|.list ds,_,_,e,r=>by
  obtain⟨a,vs,rfl,ha,hv⟩:=e;cases r;obtain⟨_,its,n,rv,hg⟩:=ok a _ ha;obtain⟨as,q⟩:=DVs.reads ok ds vs its hv rv;exact⟨_,.list hg rfl rfl (by simpa using q)⟩
|.tuple ds,_,_,e,r=>by
  obtain⟨a,vs,rfl,ha,hv⟩:=e;cases r;obtain⟨_,its,rv,o,hg,hc,n,hd⟩:=ok a _ ha;obtain⟨as,q⟩:=DVs.reads ok ds vs its hv rv;exact⟨_,.tuple hg hc hd (by simpa using q)⟩
|.dict _,_,_,e,_=>Kj e
theorem DVs.reads (ok:HOk P w H h):∀ (ds:List IV) (vs:List V) (us:List IU),DVs H ds vs->bE vs us->∃ as,ReadsAll h us ds as
|[],_,_,e,r=>by cases e;cases r;exact⟨_,.nil⟩
|d :: ds,_,_,e,r=>by
  obtain⟨v,vs,rfl,h1,h2⟩:=e;cases r with
 |cons r1 r2 =>
   obtain⟨as,q1⟩:=DV.reads ok d _ _ h1 r1;obtain⟨bs,q2⟩:=DVs.reads ok ds _ _ h2 r2;exact⟨_,.cons q1 q2⟩
end
mutual
theorem DV.mono (hs:∀ b vs,H b=dk (.lst vs)->H' b=dk (.lst vs)) (ht:∀ b vs,H b=dk (.tup vs)->H' b=dk (.tup vs)):∀ (d:IV) (x:V),DV H d x->DV H' d x
|.none,_,e=>e
|.bool _,_,e=>e
|.int _,_,e=>e
|.str _,_,e=>e
|.list ds,_,⟨a,vs,e,ha,hv⟩=>⟨a,vs,e,hs _ _ ha,DVs.mono hs ht ds vs hv⟩
|.tuple ds,_,⟨a,vs,e,ha,hv⟩=>⟨a,vs,e,ht _ _ ha,DVs.mono hs ht ds vs hv⟩
|.dict _,_,e=>e
theorem DVs.mono (hs:∀ b vs,H b=dk (.lst vs)->H' b=dk (.lst vs)) (ht:∀ b vs,H b=dk (.tup vs)->H' b=dk (.tup vs)):∀ (ds:List IV) (vs:List V),DVs H ds vs->DVs H' ds vs
|[],_,e=>e
|d :: ds,_,⟨v,r,e,h1,h2⟩=>⟨v,r,e,DV.mono hs ht d v h1,DVs.mono hs ht ds r h2⟩
end
mutual
theorem DV.keep (ht:∀ b vs,H b=dk (.tup vs)->H' b=dk (.tup vs)):∀ (d:IV) (x:V),MX.kd d=l'->DV H d x->DV H' d x
|.int _,_,_,e=>e
|.str _,_,_,e=>e
|.tuple ds,_,k,⟨a,vs,e,ha,hv⟩=>⟨a,vs,e,ht _ _ ha,DVs.keep ht ds vs k hv⟩
|.none,_,k,_=>by cases k
|.bool _,_,k,_=>by cases k
|.list _,_,k,_=>by cases k
|.dict _,_,k,_=>by cases k
theorem DVs.keep (ht:∀ b vs,H b=dk (.tup vs)->H' b=dk (.tup vs)):∀ (ds:List IV) (vs:List V),MX.kds ds=l'->DVs H ds vs->DVs H' ds vs
|[],_,_,e=>e
|d :: ds,_,k,⟨v,r,e,h1,h2⟩=>by
  have k':(MX.kd d && MX.kds ds)=l':=k;rw[Kn]at k';exact⟨v,r,e,DV.keep ht d v k'.1 h1,DVs.keep ht ds r k'.2 h2⟩
end
theorem DVs.length:∀ {ds:List IV}{vs:List V},DVs H ds vs->vs.length=ds.length
|[],_,e=>by cases e;rfl
|d :: ds,_,⟨v,r,e,_,h2⟩=>by subst e;rw[JH,JH,DVs.length h2]
theorem DVs.get:∀ {ds:List IV}{vs:List V}{j:Nat}{v:V},DVs H ds vs->vs[j]?=dk v->∃ d,ds[j]?=dk d/\DV H d v
|[],_,j,v,e,g=>by cases e;simp at g
|d :: ds,_,0,v,⟨v',r,e,h1,h2⟩,g=>by subst e;simp at g;subst g;exact⟨d,rfl,h1⟩
|d :: ds,_,j+1,v,⟨v',r,e,h1,h2⟩,g=>by
  subst e;obtain⟨d',a,b⟩:=DVs.get (j:=j) (v:=v) h2 (by simpa using g);exact⟨d',by simpa using a,b⟩
theorem DVs.snoc:∀ {ds:List IV}{vs:List V}{d:IV}{v:V},DVs H ds vs->DV H d v->DVs H (ds++[d]) (vs++[v])
|[],_,d,v,e,h=>by cases e;exact⟨v,[],rfl,h,rfl⟩
|c :: ds,_,d,v,⟨v',r,e,h1,h2⟩,h=>by subst e;exact⟨v',r++[v],rfl,h1,DVs.snoc h2 h⟩
end
def rc (d:IV):Prop:=d.canLay0=l'/\d.depth <= 16
def rc.key {d:IV}(h:MX.kd d=l') (h2:d.depth <= 8):rc d:=⟨MX.kd_lay d h,by omega⟩
theorem rc.int (i:Int):rc (.int i):=⟨rfl,by show 0 <= 16;decide⟩
def Hv (neg:Bool):R2:=λx y H Q=>∃ d e,DV H d x/\DV H e y/\rc d/\rc e/\Q (.bl (if neg then !PyData.eqv d e else Jm d e)) H
section
variable {X:Cx}
def tf (hu:X.A.units+64 < Lx):OpR X (Ky .Eq) (Hv f'):=by
 intro Lz s σ H x y v u Q I rx ry h;obtain⟨d,e,h1,h2,l1,l2,q⟩:=h;obtain⟨as,r1⟩:=DV.reads I.hok d x v h1 rx;obtain⟨bs,r2⟩:=DV.reads I.hok e y u h2 ry;exact SeqAt.compareEq_reads r1 r2 l1.1 l2.1 (by have:=l1.2;omega) ⟨.bl _,H,I,rfl,q⟩
def Ct (hu:X.A.units+64 < Lx):OpR X (Ky .NotEq) (Hv l'):=by
 intro Lz s σ H x y v u Q I rx ry h;obtain⟨d,e,h1,h2,l1,l2,q⟩:=h;obtain⟨as,r1⟩:=DV.reads I.hok d x v h1 rx;obtain⟨bs,r2⟩:=DV.reads I.hok e y u h2 ry;exact SeqAt.neOverData X.prog X.w X.A X.xe s v u d e as bs _ r1 r2 l1.1 l2.1 (by have:=l1.2;omega) ⟨.bl _,H,I,rfl,q⟩
end
def l7 (a:G') (es:List Jz) (ep:Nat):HO:=.ext λh=>(a == Ku)=f'/\MX.DictE h a es ep
def AA (w:Jj) (H:Hp) (p:IV × V) (e:Jz):Prop:=MX.kd p.1=l'/\p.1.depth <= 8/\e.hash=MX.hashD w p.1/\(∃ x,bT x e.key/\DV H p.1 x)/\bT p.2 e.val
def MD (w:Jj) (H:Hp) (a:G') (kvs:List (IV × V)):Prop:=∃ es ep,H a=dk (l7 a es ep)/\Jv (AA w H) kvs es/\(kvs.map (·.1)).Nodup/\kvs.length <= Je
def nL (H:Hp) (k:IV) (y:V):Prop:=MX.kd k=l'/\k.depth <= 8/\DV H k y/\((∃ t,y=.str t)\/∃ b,y=.ref b)
def cK (kvs:List (IV × V)) (k:IV):Option V:=(kvs.find? λp=>Jm p.1 k).map (·.2)
def uP (kvs:List (IV × V)) (k:IV) (v:V):List (IV × V) :=
 if (kvs.any λp=>Jm p.1 k)=l' then kvs.map (λp=>if Jm p.1 k=l' then (p.1,v) else p) else kvs++[(k,v)]
def l7.ok {P:Jy}{w:Jj}{H:Hp}{h:JD}{a:G'}{es:List Jz}{ep:Nat}(hs:(a == Ku)=f') (hm:MX.DictE h a es ep):cS P w H h a (l7 a es ep):=by
 refine⟨⟨hs,hm⟩,?_,λh1 h2 uq10 k=>by(obtain⟨z,o,e,r⟩:=uq10;exact ⟨z,o,k o e,r⟩)⟩;obtain⟨o,e,_⟩:=hm;exact⟨o,e⟩
def l7.of {P:Jy}{w:Jj}{H:Hp}{h:JD}{a:G'}{es:List Jz}{ep:Nat}(ok:HOk P w H h) (e:H a=dk (l7 a es ep)):(a == Ku)=f'/\MX.DictE h a es ep:=by
 obtain⟨q,_⟩:=ok a _ e;exact q
theorem Paired.keys {w:Jj}{H:Hp}:∀ {kvs:List (IV × V)}{es:List Jz},Jv (AA w H) kvs es->kvs.length=es.length
|_,_,.nil=>rfl
|_,_,.cons _ t=>by rw[JH,JH,Paired.keys t]
theorem se {P:Jy}{w:Jj}{H:Hp}{h:JD}(ok:HOk P w H h):∀ {kvs:List (IV × V)}{es:List Jz},Jv (AA w H) kvs es->MX.Ents w h (kvs.map (·.1)) es
|_,_,.nil=>.nil
|_,_,.cons ⟨k1,k2,k3,⟨x,rx,dx⟩,_⟩ t=>.cons ⟨k1,k2,DV.reads ok _ _ _ dx rx,k3⟩ (se ok t)
def zo {P:Jy}{w:Jj}{H:Hp}{h:JD}{k:IV}{y:V}{u:IU}(ok:HOk P w H h) (hk:nL H k y) (r:bT y u):MX.Ask h k u:=by
 obtain⟨k1,k2,k3,k4⟩:=hk;refine⟨k1,k2,DV.reads ok _ _ _ k3 r,?_⟩;rcases k4 with⟨t,rfl⟩|⟨b,rfl⟩
 . obtain⟨tk,rfl⟩:=r;exact .inl ⟨_,_,rfl⟩
 . cases r;exact .inr ⟨_,rfl⟩
section
variable {w:Jj}{H:Hp}
def eZ {d e:IV}(h1:MX.kd d=l') (h2:MX.kd e=l') (n:d≠e):Jm d e=f':=by
 cases q:Jm d e with
|false=>rfl
|true=>exact absurd ((MX.eqv_iff d e h1 h2).mp q) n
def cM {d:IV}(h1:MX.kd d=l'):Jm d d=l':=(MX.eqv_iff d d h1 h1).mpr rfl
def KK (kvs:List (IV × V)):Prop:=∀ p∈kvs,MX.kd p.1=l'
def KK.of {kvs:List (IV × V)}{es:List Jz}:Jv (AA w H) kvs es->KK kvs:=by
 intro r
 induction r with
|nil=>intro p h;cases h
|cons a _ ih =>
  intro p h;rcases Jx.mp h with rfl|h
  . exact a.1
  . exact ih p h
theorem nU {k:IV}(hk:MX.kd k=l'):∀ {kvs:List (IV × V)}{j:Nat},KK kvs->(kvs.map (·.1)).Nodup->(kvs.map (·.1))[j]?=dk k->∃ v,kvs[j]?=dk (k,v)/\cK kvs k=dk v
|[],j,_,_,e=>by simp at e
|(a,v) :: r,0,kk,_,e=>by
  simp at e;subst e;refine⟨v,rfl,?_⟩;unfold cK;rw[KU,cM hk];rfl
|(a,v) :: r,j+1,kk,nd,e=>by
  have nd':(a :: r.map (·.1)).Nodup:=nd;obtain⟨n1,n2⟩:=KG.mp nd';have e':(r.map (·.1))[j]?=dk k:=by simpa using e
  obtain⟨v',h1,h2⟩:=nU hk (λp h=>kk p (Jh _ h)) n2 e';refine⟨v',by simpa using h1,?_⟩;have ne:a≠k:=λz=>n1 (by rw[z];exact Ju e')
  unfold cK at h2 |-;rw[KU,eZ (kk _ Jg) hk ne];exact h2
def sA {k:IV}(hk:MX.kd k=l') {kvs:List (IV × V)}(kk:KK kvs) (n:k ∉ kvs.map (·.1)):cK kvs k=IX:=by
 unfold cK;rw[find?_eq_none.mpr λp hp=>?_]
 . rfl
 . rw[eZ (kk p hp) hk λz=>n (Kr.mpr ⟨p,hp,z⟩)];decide
def zb {k:IV}(hk:MX.kd k=l') {kvs:List (IV × V)}(kk:KK kvs) (n:k ∉ kvs.map (·.1)) (v:V):uP kvs k v=kvs++[(k,v)]:=by
 unfold uP;rw[Pb];intro h;obtain⟨p,hp,e⟩:=any_eq_true.mp h;exact n (Kr.mpr ⟨p,hp,(MX.eqv_iff _ _ (kk p hp) hk).mp e⟩)
def xj {k:IV}(hk:MX.kd k=l') {kvs:List (IV × V)}(kk:KK kvs) (n:k ∉ kvs.map (·.1)) (v:V):kvs.map (λp=>if Jm p.1 k=l' then (p.1,v) else p)=kvs:=by
 induction kvs with
|nil=>rfl
|cons p r ih =>
  have hp:p.1≠k:=λz=>n (Kr.mpr ⟨p,Jg,z⟩)
  rw[J1,eZ (kk p Jg) hk hp,ih (λq h=>kk q (Jh _ h)) λh=>n (by rw[J1];exact Jh _ h)];simp
theorem CJ {k:IV}(hk:MX.kd k=l') {v:V}{u:IU}(rv:bT v u):∀ {kvs:List (IV × V)}{es:List Jz}{j:Nat},Jv (AA w H) kvs es->(kvs.map (·.1)).Nodup->(kvs.map (·.1))[j]?=dk k ->
 Jv (AA w H) (kvs.map (λp=>if Jm p.1 k=l' then (p.1,v) else p)) (es.modify j λe=>{ e with val:=u })
|_,_,j,.nil,_,e=>by simp at e
|(a,v') :: r,e0 :: es,0,.cons q t,nd,e=>by
  simp at e;subst e;have nd':(a :: r.map (·.1)).Nodup:=nd;rw[J1,cM hk,xj hk (KK.of t) (KG.mp nd').1];exact .cons ⟨q.1,q.2.1,q.2.2.1,q.2.2.2.1,rv⟩ t
|(a,v') :: r,e0 :: es,j+1,.cons q t,nd,e=>by
  have nd':(a :: r.map (·.1)).Nodup:=nd;obtain⟨n1,n2⟩:=KG.mp nd';have e':(r.map (·.1))[j]?=dk k:=by simpa using e
  have ne:a≠k:=λz=>n1 (by rw[z];exact Ju e')
  rw[J1,eZ q.1 hk ne];exact .cons q (CJ hk rv t n2 e')
def FU {k:IV}(hk:MX.kd k=l') {kvs:List (IV × V)}{j:Nat}(e:(kvs.map (·.1))[j]?=dk k):(kvs.any λp=>Jm p.1 k)=l':=by
 obtain⟨p,hp,z⟩:=Kr.mp (Ju e);exact any_eq_true.mpr ⟨p,hp,by rw[z];exact cM hk⟩
def A9 {k:IV}{v:V}{kvs:List (IV × V)}:(kvs.map (λp=>if Jm p.1 k=l' then (p.1,v) else p)).map (·.1)=kvs.map (·.1):=by
 rw[map_map];congr 1;funext p;show (if Jm p.1 k=l' then (p.1,v) else p).1=p.1;split<;>rfl
def BW (kvs:List (IV × V)) (k:IV) (v:V):(uP kvs k v).length <= kvs.length+1:=by
 unfold uP;split
 . rw[Jk];omega
 . rw[IT];exact Jd _
end
section
variable {w:Jj}{H H':Hp}{a:G'}{kvs:List (IV × V)}
theorem AA.keep (ht:∀ b vs,H b=dk (.tup vs)->H' b=dk (.tup vs)) {p:IV × V}{e:Jz}(q:AA w H p e):AA w H' p e:=by
 obtain⟨k1,k2,k3,⟨x,rx,dx⟩,k5⟩:=q;exact⟨k1,k2,k3,⟨x,rx,DV.keep ht _ _ k1 dx⟩,k5⟩
theorem MD.keep (m:MD w H a kvs) (ha:H' a=H a) (ht:∀ b vs,H b=dk (.tup vs)->H' b=dk (.tup vs)):MD w H' a kvs:=by
 obtain⟨es,ep,h1,h2,h3⟩:=m;exact⟨es,ep,by rw[ha];exact h1,Paired.mapP h2 λ_ _ q=>q.keep ht,h3⟩
end
section
variable {X:Cx}{Lz:List (G' × KP)}{σ:St}{H:Hp}{s:IZ}{a:G'}{kvs:List (IV × V)}{k:IV}{y v d:V}{u r:IU}{A:JN}{E:IU->IZ->Prop}
def Gz {A:JN}(hu:A.units+64 < Lx):A.in1.units+8 < Lx:=by
 rw[JN.in1_units];omega
def E6 {Q:IU->IZ->Prop}(hu:A.units+64 < Lx) (I:Inv X Lz σ H s) (m:MD X.w H a kvs) (hk:nL H k y) (ry:bT y u) (rd:bT d r) (h:∀ w' s',Inv X Lz σ H s'->bT ((cK kvs k).getD d) w'->Q w' s') :
 Jl (model X.prog X.w) A (call (.builtin "dict.get") [.ref a,u,r]) Q E s:=by
 obtain⟨es,ep,h1,h2,h3,h4⟩:=m;obtain⟨hs,hme⟩:=l7.of I.hok h1;have hm:=hme.es;refine call_meetsIn PySem.F.slot_dict_get hm.typeIs PySem.F.entry_dict_get (PySem.F.args_dict_get_3 _ _ _) (MX.meets_D a u r hs) ⟨Gz hu,k,_,es,zo I.hok hk ry,hm,se I.hok h2,h3,λn tk=>h _ _ (I.tok _) ?_,λj e hj he tk=>h _ _ (I.tok _) ?_⟩
 . rw[sA hk.1 (KK.of h2) n];exact rd
 . obtain⟨v',g1,g2⟩:=nU hk.1 (KK.of h2) h3 hj;rw[g2];obtain⟨p,e1,e2⟩:=MX.f2_get h2 j e he;rw[g1]at e1;cases e1;exact e2.2.2.2.2
def Du {Q:IU->IZ->Prop}(hu:A.units+64 < Lx) (I:Inv X Lz σ H s) (m:MD X.w H a kvs) (hk:nL H k y) (ry:bT y u) (hl:cK kvs k=dk v) (h:∀ w' s',Inv X Lz σ H s'->bT v w'->Q w' s') :
 Jl (model X.prog X.w) A (getItem (.ref a) u) Q E s:=by
 obtain⟨es,ep,h1,h2,h3,h4⟩:=m;obtain⟨hs,hme⟩:=l7.of I.hok h1;have hm:=hme.es;have hin:k∈kvs.map (·.1):=Classical.byContradiction λn=>by rw[sA hk.1 (KK.of h2) n]at hl;cases hl
 refine MX.item_D (Gz hu) (zo I.hok hk ry) hm (se I.hok h2) h3 hin λj e hj he tk=>h _ _ (I.tok _) ?_
 obtain⟨v',g1,g2⟩:=nU hk.1 (KK.of h2) h3 hj;rw[g2]at hl;cases hl;obtain⟨p,e1,e2⟩:=MX.f2_get h2 j e he;rw[g1]at e1;cases e1;exact e2.2.2.2.2
def EY {Q:Unit->IZ->Prop}(hu:A.units+64 < Lx) (I:Inv X Lz σ H s) (m:MD X.w H a kvs) (hl:kvs.length < Je) (hk:nL H k y) (ry:bT y u) (rv:bT v r)
 (h:∀ H' s',Inv X Lz σ H' s'->(∀ b,b≠a->H' b=H b)->MD X.w H' a (uP kvs k v)->Q () s'):Jl (model X.prog X.w) A (setItem (.ref a) u r) Q E s:=by
 obtain⟨es,ep,h1,h2,h3,h4⟩:=m;obtain⟨hs,hme⟩:=l7.of I.hok h1;have hm:=hme.es;have kk:=KK.of h2;have hz:es.length <= Je:=by rw[<-Paired.keys h2];omega
 refine MX.put_D (Gz hu) (zo I.hok hk ry) hm (se I.hok h2) h3 hz λh' tk es' hm' hsb hor=>?_
 obtain⟨ep',hm2⟩:=hm'.ep;have I':Inv X Lz σ (upd H a (l7 a es' ep')) { s with heap:=h',toks:=tk }:=sv I (by rw[h1];exact K7) hsb (let ⟨o,e,_⟩:=hm2;⟨o,e⟩) (l7.ok hs hm2);refine h _ _ I' (λb hb=>ac hb) ⟨es',ep',a8,?_⟩;have ht:∀ b vs,H b=dk (.tup vs)->upd H a (l7 a es' ep') b=dk (.tup vs):=λb vs e=>by
  rw[ac (iq e h1 (by intro z;cases z))];exact e
 rcases hor with⟨n,rfl⟩|⟨j,hj,rfl⟩
 . rw[zb hk.1 kk n];refine⟨?_,?_,by rw[IT];show kvs.length+1 <= Je;omega⟩
   . refine Jv.snoc (Paired.mapP h2 λ_ _ q=>q.keep ht) ⟨hk.1,hk.2.1,rfl,⟨y,ry,DV.keep ht _ _ hk.1 hk.2.2.1⟩,rv⟩
   . rw[J3];exact nd_snocP h3 n
 . have e:uP kvs k v=kvs.map (λp=>if Jm p.1 k=l' then (p.1,v) else p):=by
    unfold uP;rw[Pa (FU hk.1 hj)]
   rw[e];exact⟨Paired.mapP (CJ hk.1 rv h2 h3 hj) λ_ _ q=>q.keep ht,by rw[A9];exact h3,by rw[Jk];exact h4⟩
where
 nd_snocP {l:List IV} {k:IV} (hn:l.Nodup) (hk:k ∉ l):(l++[k]).Nodup:=by
  rw[nodup_append];exact⟨hn,by simp,λx hx y hy=>by
   rw[IW.mp hy];exact λz=>hk (z ▸ hx)⟩
end
def HJ:TE:=λ_ H Q=>∀ p,H p=IX->Q (.ref p) (upd H p (l7 p [] 0))
def GN (w:Jj) (td ty tv:TE):TS:=λD σ H=>tv σ H λv H1=>td σ H1 λx H2=>ty σ H2 λy H3=>∃ a kvs k,x=.ref a/\MD w H3 a kvs/\kvs.length < Je/\nL H3 k y /\
 ∀ H4,(∀ b,b≠a->H4 b=H3 b)->MD w H4 a (uP kvs k v)->D.nx σ H4
def Ge (w:Jj) (td ty tx:TE):TE:=λσ H Q=>td σ H λx H1=>∃ a,x=.ref a/\(∃ kvs,MD w H1 a kvs)/\ty σ H1 λy H2=>tx σ H2 λz H3=>∃ kvs k,MD w H3 a kvs/\nL H3 k y/\Q ((cK kvs k).getD z) H3
def CC (w:Jj) (td ty:TE):TE:=λσ H Q=>td σ H λx H1=>ty σ H1 λy H2=>∃ a kvs k v,x=.ref a/\MD w H2 a kvs/\nL H2 k y/\cK kvs k=dk v/\Q v H2
section
variable {X:Cx}{o i e f value:Expr}{pos pos' apos cpos:Pos}{td ty tv tx:TE}
def Ef:PE X (.Dict [] [] pos) HJ:=λLz s σ H Q I h =>
 wpAny_Dict_empty ⟨.ref s.heap.objs.size,_,I.laid (a:=s.heap.objs.size) (o:=l7 s.heap.objs.size [] 0) (t':=s.toks) (λ_ _ q=>Jc _ q) (Jd _)
  (l7.ok (beq_eq_false_iff_ne.mpr (K5 (Kc I.big))) ⟨_,Jq _ rfl,⟨rfl,rfl,rfl⟩,rfl⟩),rfl,h _ (I.hok.fresh (Jd _))⟩
def EM (hu:X.A.units+64 < Lx) (ho:PE X o td) (hi:PE X i ty) (hv:PE X value tv) (hs:swapsWith value (dk (.Subscript o i pos')) pos.line X.env=pure f') :
 PS X (.Assign [.Subscript o i pos'] value pos) (GN X.w td ty tv):=by
 intro Lz s σ H D I h;refine wpAny_Assign_Subscript (thn (hv Lz s σ H _ I h) λr s1 ⟨v,H1,I1,rv,q1⟩=>thn (ho Lz s1 σ H1 _ I1 q1) λu s2 ⟨x,H2,I2,rx,q2⟩=>thn (hi Lz s2 σ H2 _ I2 q2) λiv s3 ur35=>?_) hs;obtain⟨y,H3,I3,ry,a,kvs,k,ex,m,hl,hk,q3⟩:=ur35;subst ex;obtain rfl:u=JC a:=rx;exact EY hu I3 m hl hk ry rv λH4 s4 I4 g1 g2=>⟨σ,H4,I4,q3 H4 g1 g2⟩
def Cg (hu:X.A.units+64 < Lx) (ho:PE X o td) (he:PE X e ty) (hf:PE X f tx) (m:M2 X o "get" apos e f cpos):PE X (.Call (.Attribute o "get" apos) [e,f] [] cpos) (Ge X.w td ty tx):=by
 intro Lz s σ H Q I h;refine wpAny_Call_method m.base m.few m.line PySem.F.plainAttrs_dict PySem.F.slot_dict_get PySem.F.type_dict_get (thn (ho Lz s σ H _ I h) λu s1 ur36=>?_);obtain⟨x,H1,I1,rx,a,ex,⟨kv0,es,ep,e1,_⟩,q1⟩:=ur36;subst ex;obtain rfl:u=JC a:=rx;obtain⟨_,ob,g1,g2,g3⟩:=l7.of I1.hok e1;refine⟨⟨ob,g1,g2.1⟩,λb eb=>by injection eb with eb;subst eb;exact⟨ob,g1,g2.2.1⟩,?_⟩;rw[m.trees];refine Lc rfl (K3 (K0 (thn (he Lz s1 σ H1 _ I1 q1) λiv s2 ⟨y,H2,I2,ry,q2⟩ =>
  K0 (thn (hf Lz s2 σ H2 _ I2 q2) λfv s3 ⟨z,H3,I3,rz,kvs,k,md,hk,q3⟩=>Calls.spliced_nil ?_))))
 exact E6 hu I3 md hk ry rz λw' s4 I4 rw'=>⟨_,H3,I4,rw',q3⟩
def Bl (hu:X.A.units+64 < Lx) (ho:PE X o td) (hi:PE X i ty) (hs:Ic i):PE X (.Subscript o i pos) (CC X.w td ty):=by
 intro Lz s σ H Q I h;refine Dn (T:="dict") (id:="dict.__getitem__") slot_dict_getitem.lookup hs (thn (ho Lz s σ H _ I h) λu s1 ⟨x,H1,I1,rx,q1⟩=>thn (hi Lz s1 σ H1 _ I1 q1) λiv s2 ur37=>?_);obtain⟨y,H2,I2,ry,a,kvs,k,v,ex,md,hk,hl,q⟩:=ur37;subst ex;obtain rfl:u=JC a:=rx;obtain⟨es,ep,e1,_⟩:=id md;obtain⟨_,ob,g1,g2,g3⟩:=l7.of I2.hok e1;exact⟨⟨ob,g1,g2.1⟩,Du hu I2 md hk ry hl λw' s4 I4 rw'=>⟨v,H2,I4,rw',q⟩⟩
end
def Itv (K:Ja) (a:G') (n:Nat):It :=
 ⟨λi H=>i < n/\∃ xs,SqL K H a xs/\xs.length=n,λi H x H'=>H'=H/\∀ xs,SqL K H a xs->xs[n - 1 - i]?=dk x,λi _=>i=n⟩
def Ce {P:Jy}{w:Jj}{K:Ja}{tg:Expr}(a it:G') (n:Nat):Turn P w K tg (Itv K a n) [it] it (λi h=>h.IsRevIter it a ((n:Int) - 1 - i)) where
 mem:=IW.mpr rfl
 obj:=λi h st b hb=>by
  obtain rfl:b=it:=IW.mp hb;obtain⟨o,e,c,d⟩:=st;exact⟨o,e,λv z=>by rw[d]at z;cases z⟩
 keep:=λi h h' st k=>st.at λo e=>k it (IW.mpr rfl) o e
 item:=by
  intro X hP hw hK hc i Lz s σ H E I hf st hg;subst hP hw hK;obtain⟨hi,xs,hq,hn⟩:=hg;obtain⟨its,rv,p,hz⟩:=I.list hq;have hlt:n - 1 - i < xs.length:=by omega
  obtain⟨u,hu,ru⟩:=rv.get (Jb hlt);obtain⟨f0,f1,f2,f3,f4,f5⟩:=hf it (IW.mpr rfl);have ei:(n:Int) - 1 - i=((n - 1 - i:Nat):Int):=by omega
  rw[ei]at st;refine wpAny_pyNext_rev_item st p.isList (x:=u) (by simpa using hu) λh' st' sb=>?_
  have I1:Inv X Lz σ H { s with heap:=h' }:=I.turned (t':=s.toks) (λb o hb e=>(sb.2 b hb).trans e) f0 f1 f3 f4 f5;have ej:((n - 1 - i:Nat):Int) - 1=(n:Int) - 1 - ((i+1:Nat):Int):=by omega
  rw[ej]at st';obtain⟨o,e,c,d⟩:=id st';exact⟨u,rfl,zg (s:={ s with heap:=h' }) e c d (by decide) ⟨_,H,I1,ru,⟨rfl,λys hy=>by rw[I.list_inj hy hq];exact Jb hlt⟩,st',λb hb=>(hf b hb).1⟩⟩
 done:=by
  intro X hP hw hK hc i Lz s σ H E I hf st hg;subst hP hw hK;obtain⟨f0,f1,f2,f3,f4,f5⟩:=hf it (IW.mpr rfl);have hg':i=n:=hg;have ei:(n:Int) - 1 - i=-1:=by omega
  rw[ei]at st;exact wpAny_pyNext_rev_end (I.ok.hd hc) st λh' eb=>⟨rfl,I.turned (t':=s.toks) (λb o hb e=>eb b o hb e) f0 f1 f3 f4 f5⟩
 self:=λ_ _ _ _ _ st h=>wpAny_pyIter_revIter st h
def IQ (K:Ja) (ta:TA):TI:=λσ H R=>ta σ H λvs H1=>∃ a xs,vs=[.ref a]/\SqL K H1 a xs/\R (Itv K a xs.length) H1
section
variable {X:Cx}{tg:Expr}
def Gb {l:Expr}{ta:TA}{p pos:Pos}(hg:Gl X "reversed") (hm:X.mg "reversed"=IX) (ha:PA X [l] ta) (hs:JG [l] X.env=[(f',eval l X.env)]:=by rfl):PI X tg (.Call (.Name "reversed" p) [l] [] pos) (IQ X.K ta):=by
 intro Lz s σ H R I h;refine Call_ (oY I hg hm vq (Ld (thn (ha pos Lz s σ H _ I h) λus s1 ur38=>?_) hs rfl));obtain⟨vs,H1,I1,r1,a,xs,ev,hq,q⟩:=ur38;subst ev;obtain⟨u,rfl,ru⟩:=sh r1;cases ru;obtain⟨its,rv,pl,hz⟩:=I1.list hq;have hlen:=rv.length;refine call_reversed_list pl.isList ?_;have sz:((its.toArray.size:Nat):Int) - 1=(xs.length:Int) - 1 - ((0:Nat):Int):=by simp;omega
 rw[sz];have st0:(s1.heap.push (revObj a ((xs.length:Int) - 1 - ((0:Nat):Int)))).IsRevIter s1.heap.objs.size a ((xs.length:Int) - 1 - ((0:Nat):Int)):=⟨_,Jq _ rfl,rfl,rfl⟩
 refine wpAny_pyIter_revIter (s:={ s1 with heap:=s1.heap.push (revObj a ((xs.length:Int) - 1 - ((0:Nat):Int))) }) st0 ?_;refine⟨s1.heap.objs.size,[s1.heap.objs.size],_,_,H1,rfl,I1.kept (t':=s1.toks) λb o e=>Jc _ e,Ce a _ xs.length,st0,λb hb=>?_,q⟩;obtain rfl:b=s1.heap.objs.size:=IW.mp hb;exact I1.fpOk (Jd _) (I1.hok.fresh (Jd _))
def DT {K:Ja}{a:G'}{xs:List V}{g:TG}{tb:TS}{D:Ends}{σ:St}{H:Hp}(Pv:Nat->St->Hp->Prop) (h0:Pv 0 σ H) (hl:∀ i σ H,i <= xs.length->Pv i σ H->SqL K H a xs)
 (hs:∀ i x σ H,i < xs.length->xs[xs.length - 1 - i]?=dk x->Pv i σ H->g x σ H λσ2 H2=>tb { D with nx:=Pv (i+1),ct:=Pv (i+1),bk:=D.nx } σ2 H2) (hd:∀ σ H,Pv xs.length σ H->D.nx σ H) :
 ∃ W:Nat->Nat->St->Hp->Prop,(∃ m,W 0 m σ H)/\∀ i m σ H,W i m σ H->((Itv K a xs.length).stop i H/\D.nx σ H)\/((Itv K a xs.length).go i H/\∃ N:St->Hp->Prop,(∀ σ' H',N σ' H'->∃ m',m' < m/\W (i+1) m' σ' H') /\
  ∀ x H',(Itv K a xs.length).yld i H x H'->g x σ H' λσ2 H2=>tb { D with nx:=N,ct:=N,bk:=D.nx } σ2 H2):=by
 refine⟨λi m σ H=>Pv i σ H/\i <= xs.length/\m=xs.length - i,⟨_,h0,Kq _,rfl⟩,?_⟩;rintro i m σ H ⟨hp,hi,rfl⟩;by_cases z:i=xs.length
 . subst z;exact .inl ⟨rfl,hd σ H hp⟩
 . have hlt:i < xs.length:=by omega
   refine .inr ⟨⟨hlt,xs,hl i σ H hi hp,rfl⟩,Pv (i+1),λσ' H' q=>⟨xs.length - (i+1),by omega,q,hlt,rfl⟩,?_⟩;rintro x H' ⟨rfl,hx⟩;exact hs i x σ H' hlt (hx xs (hl i σ H' hi hp)) hp
end
def I8 (K:Ja) (neg:Bool):R2:=λx y H Q=>∃ a b xs,x=.ref a/\y=.ref b/\SqL K H a xs/\SqL K H b []/\Q (.bl (if neg then !xs.isEmpty else xs.isEmpty)) H
section
variable {X:Cx}
def wS (hu:X.A.units+64 < Lx):OpR X (Ky .NotEq) (I8 X.K l'):=by
 intro Lz s σ H x y v u Q I rx ry h;obtain⟨a,b,xs,rfl,rfl,h1,h2,q⟩:=h;cases rx;cases ry;obtain⟨its,r1,p1,_⟩:=I.list h1;obtain⟨it2,r2,p2,_⟩:=I.list h2;have e2:it2=[]:=bE.zero r2;subst e2;have hl:=r1.length;cases xs with
|nil =>
  have e1:its=[]:=bE.zero r1;subst e1;exact SeqAt.RcNeAt.lists (e:=λ_=>l') p1.isList p2.isList rfl (by omega) (λj h1 _=>absurd h1 (Nat.not_lt_zero _)) X.prog X.w X.xe _ ⟨.bl f',H,I,rfl,q⟩
|cons z zs =>
  have hne:(its.toArray.size != ([]:List IU).toArray.size)=l':=by
   rw[JH]at hl;rw[bne_iff_ne,Js,Js,List.length_nil];omega
  exact SeqAt.RcNeAt.lists_lengths p1.isList p2.isList hne (by omega) X.prog X.w X.xe _ ⟨.bl l',H,I,rfl,q⟩
end
def Itm (w:Jj) (a:G') (es:List Jz) (ep:Nat) (kvs:List (IV × V)):It :=
 ⟨λi H=>H a=dk (l7 a es ep)/\Jv (AA w H) kvs es/\i < kvs.length,λi H x H'=>H'=H/\∃ k v,kvs[i]?=dk (k,v)/\nL H k x,λi H=>H a=dk (l7 a es ep)/\kvs.length=es.length/\kvs.length <= i⟩
def Gp (kvs:List (IV × V)):Prop:=∀ p∈kvs,(∃ t,p.1=.str t)\/∃ ds,p.1=.tuple ds
def AE {P:Jy}{w:Jj}{K:Ja}{tg:Expr}(a it:G') (es:List Jz) (ep:Nat) (kvs:List (IV × V)) (top:Gp kvs) (hlen:kvs.length=es.length):Turn P w K tg (Itm w a es ep kvs) [it] it (λi h=>h.IsKeyIter it a i es.length ep) where
 mem:=IW.mpr rfl
 obj:=λi h st b hb=>by
  obtain rfl:b=it:=IW.mp hb;obtain⟨o,e,c,d⟩:=st;exact⟨o,e,λv z=>by rw[d]at z;cases z⟩
 keep:=λi h h' st k=>st.at λo e=>k it (IW.mpr rfl) o e
 item:=by
  intro X hP hw hK hc i Lz s σ H E I hf st hg;subst hP hw hK;obtain⟨h1,h2,hi⟩:=hg;obtain⟨hs,hm⟩:=l7.of I.hok h1;have hx:=Jb hi;obtain⟨e,he,k1,k2,k3,⟨x,rx,dx⟩,k5⟩:=MX.f2_get' h2 i _ hx;obtain⟨f0,f1,f2,f3,f4,f5⟩:=hf it (IW.mpr rfl);refine MX.keys_next st hm he λh' st' sb=>?_
  have I1:Inv X Lz σ H { s with heap:=h' }:=I.turned (t':=s.toks) (λb o hb e=>(sb.2 b hb).trans e) f0 f1 f3 f4 f5;obtain⟨o,e',c,d⟩:=id st';refine⟨e.key,rfl,zg (s:={ s with heap:=h' }) e' c d (by decide) ⟨x,H,I1,rx,⟨rfl,_,_,hx,k1,k2,dx,?_⟩,st',λb hb=>(hf b hb).1⟩⟩;rcases top _ (Ju hx) with⟨t,z⟩|⟨ds,z⟩
  . rw[z]at dx;exact .inl ⟨t,dx⟩
  . rw[z]at dx;obtain⟨b,_,e2,_⟩:=dx;exact .inr ⟨b,e2⟩
 done:=by
  intro X hP hw hK hc i Lz s σ H E I hf st hg;subst hP hw hK;obtain⟨h1,h2,hi⟩:=hg;obtain⟨hs,hm⟩:=l7.of I.hok h1;obtain⟨f0,f1,f2,f3,f4,f5⟩:=hf it (IW.mpr rfl);exact MX.keys_end (I.ok.hd hc) st hm (by omega) λh' eb=>⟨rfl,I.turned (t':=s.toks) (λb o hb e=>eb b o hb e) f0 f1 f3 f4 f5⟩
 self:=λ_ _ _ _ _ st h=>wpAny_pyIter_keyiter st h
def GR (w:Jj) (tl:TE):TI:=λσ H R=>tl σ H λx H1=>∃ a es ep kvs,x=.ref a/\H1 a=dk (l7 a es ep)/\Jv (AA w H1) kvs es/\Gp kvs/\R (Itm w a es ep kvs) H1
def DG {X:Cx}{tg l:Expr}{tl:TE}(hl:PE X l tl):PI X tg l (GR X.w tl):=by
 intro Lz s σ H R I h;refine thn (hl Lz s σ H _ I h) λv s1 ur39=>?_
 obtain⟨x,H1,I1,r1,a,es,ep,kvs,ex,h1,h2,top,q⟩:=ur39;subst ex;cases r1;obtain⟨hs,hm⟩:=l7.of I1.hok h1;refine MX.keys_iter hs hm λh' st hk=>?_
 refine⟨s1.heap.objs.size,[s1.heap.objs.size],_,_,H1,rfl,I1.kept (t':=s1.toks) hk,AE a _ es ep kvs top (Paired.keys h2),st,λb hb=>?_,q⟩;obtain rfl:b=s1.heap.objs.size:=IW.mp hb;exact I1.fpOk (Jd _) (I1.hok.fresh (Jd _))
def nhr:¬ (("held":Str)="rows"):=by decide +kernel
def stF (hd rl:G'):List (Str × V):=bR "rows" (.ref rl) (bR "held" (.ref hd) [])
def o7 {hd rl:G'}:(stF hd rl).lookup ("held":Str)=dk (.ref hd):=by
 unfold stF;rw[a9,Pb nhr,a9,Pa rfl]
def jS {hd rl:G'}:(stF hd rl).lookup ("rows":Str)=dk (.ref rl):=by
 unfold stF;rw[a9,Pa rfl]
def cq {hd rl:G'}{m:Str}(h1:¬ m="rows") (h2:¬ m="held"):(stF hd rl).lookup m=IX:=by
 unfold stF;rw[a9,Pb h1,a9,Pb h2]
 all_goals rfl
def sdI:Bool->Int
|false=>0
|true=>1
def qz {l:Bool->G'}(b:Bool):atI [V.ref (l f'),V.ref (l l')] (sdI b)=dk (.ref (l b)):=by
 cases b<;>rfl
theorem nL.keep {H H':Hp}{k:IV}{y:V}(h:nL H k y) (ht:∀ b vs,H b=dk (.tup vs)->H' b=dk (.tup vs)):nL H' k y :=
 ⟨h.1,h.2.1,DV.keep ht _ _ h.1 h.2.2.1,h.2.2.2⟩
def Wt (H:Hp) (p:IV × V) (tv:V):Prop:=∃ t cv,tv=.ref t/\H t=dk (.tup [cv,p.2])/\nL H p.1 cv
theorem Wt.keep {H H':Hp}{p:IV × V}{tv:V}(h:Wt H p tv) (ht:∀ b vs,H b=dk (.tup vs)->H' b=dk (.tup vs)):Wt H' p tv:=by
 obtain⟨t,cv,e,h1,h2⟩:=h;exact⟨t,cv,e,ht _ _ h1,h2.keep ht⟩
def Ac (H:Hp) (l:G') (es:List (IV × V)):Prop:=∃ ts:List V,H l=dk (.lst ts)/\Jv (Wt H) es ts
theorem Ac.keep {H H':Hp}{l:G'}{es:List (IV × V)}(h:Ac H l es) (hl:∀ o,H l=dk o->H' l=dk o) (ht:∀ b vs,H b=dk (.tup vs)->H' b=dk (.tup vs)):Ac H' l es:=by
 obtain⟨ts,h1,h2⟩:=h;exact⟨ts,hl _ h1,Paired.mapP h2 λ_ _ q=>q.keep ht⟩
theorem be {α β:Type}{F:α->β->Prop}:∀ {xs:List α}{ys:List β},Jv F xs ys->xs.length=ys.length
|_,_,.nil=>rfl
|_,_,.cons _ t=>by rw[JH,JH,be t]
def aF {α:Type}(r:Bool->α) (b:Bool) (v:α):Bool->α:=λc=>if c=b then v else r c
def ap {α:Type}{r:Bool->α}{b:Bool}{v:α}:aF r b v b=v:=Pa rfl
def aG {α:Type}{r:Bool->α}{b c:Bool}{v:α}(h:c≠b):aF r b v c=r c:=Pb h
structure Sto (w:Jj) (C:G') (H:Hp) (x hd rl:G') (l:Bool->G') (M:List (IV × V)) (r:Bool->List (IV × V)):Prop where
 ob:∃ dx,H x=dk (.ins C dx (stF hd rl))
 me:MD w H hd M
 ro:H rl=dk (.lst [.ref (l f'),.ref (l l')])
 rw:∀ b,Ac H (l b) (r b)
 nl:l f'≠l l'
 nr:∀ b,l b≠rl
def Kp (xs:List G') (H H':Hp):Prop:=∀ c o,c ∉ xs->H c=dk o->H' c=dk o
def Kp.refl (xs:List G') (H:Hp):Kp xs H H:=λ_ _ _ e=>e
def Kp.trans {xs:List G'}{H H1 H2:Hp}(a:Kp xs H H1) (b:Kp xs H1 H2):Kp xs H H2:=λc o n e=>b c o n (a c o n e)
def Kp.mono {xs ys:List G'}{H H':Hp}(a:Kp xs H H') (h:∀ c,c∈xs->c∈ys):Kp ys H H':=λc o n e=>a c o (λz=>n (h c z)) e
section
variable {w:Jj}{C:G'}{H H':Hp}{x hd rl:G'}{l:Bool->G'}{M:List (IV × V)}{r:Bool->List (IV × V)}
def MD.there (m:MD w H hd M):∃ ee:List Jz × Nat,H hd=dk (l7 hd ee.1 ee.2):=let ⟨es,ep,h,_⟩:=m;⟨(es,ep),h⟩
def MD.keepS (m:MD w H hd M) (ha:∀ o,H hd=dk o->H' hd=dk o) (ht:∀ b vs,H b=dk (.tup vs)->H' b=dk (.tup vs)):MD w H' hd M:=by
 obtain⟨es,ep,h1,h2⟩:=id m;exact m.keep ((ha _ h1).trans h1.symm) ht
theorem Sto.keep (S:Sto w C H x hd rl l M r) (h:∀ c o,(c=x\/c=hd\/c=rl\/∃ b,c=l b)->H c=dk o->H' c=dk o) (ht:∀ b vs,H b=dk (.tup vs)->H' b=dk (.tup vs)):Sto w C H' x hd rl l M r:=by
 obtain⟨dx,e⟩:=S.ob;exact⟨⟨dx,h _ _ (.inl rfl) e⟩,S.me.keepS (λo=>h _ o (.inr (.inl rfl))) ht,h _ _ (.inr (.inr (.inl rfl))) S.ro,λb=>(S.rw b).keep (λo=>h _ o (.inr (.inr (.inr ⟨b,rfl⟩)))) ht,S.nl,S.nr⟩
def Sto.same (S:Sto w C H x hd rl l M r) (h:c9 H H'):Sto w C H' x hd rl l M r:=S.keep (λc o _ e=>h c o e) λb vs e=>h b _ e
def Sto.own (x hd rl:G') (l:Bool->G') (c:G'):Prop:=c=x\/c=hd\/c=rl\/c=l f'\/c=l l'
theorem Sto.there (S:Sto w C H x hd rl l M r) {c:G'}(h:Sto.own x hd rl l c):∃ o,H c=dk o/\(∀ xs,o≠.tup xs):=by
 rcases h with rfl|rfl|rfl|rfl|rfl
 . obtain⟨dx,e⟩:=S.ob;exact⟨_,e,λ_ z=>by cases z⟩
 . obtain⟨es,e⟩:=S.me.there;exact⟨_,e,λ_ z=>by cases z⟩
 . exact⟨_,S.ro,λ_ z=>by cases z⟩
 . obtain⟨ts,e,_⟩:=S.rw f';exact⟨_,e,λ_ z=>by cases z⟩
 . obtain⟨ts,e,_⟩:=S.rw l';exact⟨_,e,λ_ z=>by cases z⟩
end
def lE (M:List (IV × V)) (es:List (IV × V)):List (IV × V):=es.foldl (λM p=>uP M p.1 p.2) M
def cr (M es:List (IV × V)) (k:IV):V:=match es.reverse.find? (λp=>Jm p.1 k) with
|some p=>p.2
|none=>(cK M k).getD (.int 0)
def C1 (es:List (IV × V)) (k:IV):Option V:=(es.reverse.find? λp=>Jm p.1 k).map (·.2)
def vP (M es:List (IV × V)) (k:IV):cr M es k=((C1 es k).or (cK M k)).getD (.int 0):=by
 unfold cr C1;cases es.reverse.find? (λp=>Jm p.1 k)<;>rfl
theorem wb {k k':IV}(h:MX.kd k=l') (h':MX.kd k'=l') (v:V):∀ {M:List (IV × V)},KK M->cK (M.map λp=>if Jm p.1 k'=l' then (p.1,v) else p) k=(cK M k).map λx=>if Jm k' k=l' then v else x
|[],_=>rfl
|p :: r,kk=>by
  have ih:=wb h h' v (M:=r) λq hq=>kk q (Jh _ hq)
  have kp:=kk p Jg;unfold cK at ih |-;rw[J1,KU,KU];have e1:(if Jm p.1 k'=l' then (p.1,v) else p).1=p.1:=by split<;>rfl
  rw[e1];cases z:Jm p.1 k with
 |false=>exact ih
 |true =>
   have pk:=(MX.eqv_iff _ _ kp h).mp z;show dk (if Jm p.1 k'=l' then (p.1,v) else p).2=dk (if Jm k' k=l' then v else p.2);by_cases y:k'=k
   . subst y;rw[cM h',z];rfl
   . rw[eZ h' h y,pk,eZ h h' λq=>y q.symm];rfl
def wY {M:List (IV × V)}{k k':IV}(kk:KK M) (h':MX.kd k'=l') (h:MX.kd k=l') (v:V):cK (uP M k' v) k=if Jm k' k=l' then dk v else cK M k:=by
 by_cases n:k'∈M.map (·.1)
 . obtain⟨p,hp,e⟩:=Kr.mp n;have ha:(M.any λp=>Jm p.1 k')=l':=any_eq_true.mpr ⟨p,hp,by rw[e];exact cM h'⟩;unfold uP;rw[Pa ha,wb h h' v kk];by_cases y:k'=k
   . subst y;rw[cM h'];have:(cK M k').isSome=l':=by
      unfold cK;rw[isSome_map,List.find?_isSome];exact⟨p,hp,by rw[e];exact cM h'⟩
     cases z:cK M k' with
    |none=>rw[z]at this;cases this
    |some x=>rfl
   . rw[eZ h' h y];cases cK M k<;>rfl
 . rw[zb h' kk n];unfold cK;rw[List.find?_append,KU];by_cases y:k'=k
   . subst y;have z:=sA h' kk n;unfold cK at z;rw[Option.map_eq_none_iff]at z;rw[z,cM h'];rfl
   . rw[eZ h' h y];cases M.find? (λp=>Jm p.1 k)<;>rfl
mutual
theorem yx {H:Hp}{D:G'}{o:HO}(hD:H D=IX) (ho:∀ xs,o≠.tup xs):∀ {k:IV}{y:V},MX.kd k=l'->DV (upd H D o) k y->DV H k y
|.int _,_,_,e=>e
|.str _,_,_,e=>e
|.tuple ds,_,h,⟨a,vs,e,ha,hv⟩=>by
  have ne:a≠D:=λz=>by
   rw[z,a8]at ha;exact ho vs (Jt ha)
  exact⟨a,vs,e,by rw[ac ne]at ha;exact ha,wU hD ho h hv⟩
|.none,_,h,_=>by cases h
|.bool _,_,h,_=>by cases h
|.list _,_,h,_=>by cases h
|.dict _,_,h,_=>by cases h
theorem wU {H:Hp}{D:G'}{o:HO}(hD:H D=IX) (ho:∀ xs,o≠.tup xs):∀ {ds:List IV}{vs:List V},MX.kds ds=l'->DVs (upd H D o) ds vs->DVs H ds vs
|[],_,_,e=>e
|d :: ds,_,h,⟨v,r,e,h1,h2⟩=>by
  have h':(MX.kd d && MX.kds ds)=l':=h;rw[Kn]at h';exact⟨v,r,e,yx hD ho h'.1 h1,wU hD ho h'.2 h2⟩
end
theorem mem_of_lookup {β:Type}{y:Str}{c:β}:∀ {l:List (Str × β)},l.lookup y=dk c->(y,c)∈l
|[],h=>by cases h
|(k,v) :: r,h=>by
  rw[List.lookup_cons]at h;cases e:y == k with
 |true =>
   rw[e]at h;cases h;rw[beq_iff_eq.mp e];exact Jg
 |false =>
   rw[e]at h;exact Jh _ (mem_of_lookup h)
def cw (X:Cx) (scope:Scope) (cl:List (Str × G')) (C:G') (xs N':List Str) (s₃:IZ) (H₃:Hp) (Lz:List (G' × KP)) (ex:List G') (E':IU->IZ->Prop):Cx :=
 { X with N:=N',s₀:=s₃,H₀:=H₃,env:=compEnvC scope cl C X.env,outer:=X.stack,stack:=X.stack,ex:=ex,fn:=λy=>xs.contains y,pn:=X.pn++Lz,xe:=E' }
abbrev cxR (X:Cx) (scope:Scope) (cl:List (Str × G')) (xs caps:List Str) (s₃:IZ) (H₃:Hp) (Lz:List (G' × KP)) (fp:List G') (R:Result->IZ->Prop):Cx:=cw X scope cl s₃.heap.objs.size xs (xs++caps) s₃ H₃ Lz fp (notedBy (model X.prog X.w) X.A (compEnvC scope cl s₃.heap.objs.size X.env) λe s'=>R (.error e) s')
structure CompOk (X:Cx) (scope:Scope) (cl:List (Str × G')) (xs:List Str):Prop where
 kind:scope.kind=.function
 clos:closureFor scope X.env=pure cl
 nocell:∀ y∈scope.names,y.2≠.cell
 names:∀ y∈scope.names,y.2=.local->scope.names.lookup y.1=dk .local
 xloc:∀ x∈xs,scope.names.lookup x=dk .local
 sub:∀ p∈cl,X.env.cells.lookup p.1=dk p.2
 has:∀ p∈scope.names,p.2=.free->∃ c,cl.lookup p.1=dk c
 nox:∀ x∈xs,cl.lookup x=IX
def AS (X:Cx) (scope:Scope) (cl:List (Str × G')):List Str->List Nat->Prop
|[],[]=>True
|y :: ys,j :: js=>((∃ c,cl.lookup y=dk c)/\X.N[j]?=dk y/\(X.env.scope.names.lookup y=dk .cell\/X.env.scope.names.lookup y=dk .free)/\((relabel scope X.env).names.lookup y=dk .cell\/(relabel scope X.env).names.lookup y=dk .free))/\AS X scope cl ys js
|_,_=>False
theorem AS.len {X:Cx}{scope:Scope}{cl:List (Str × G')}:∀ {caps:List Str}{js:List Nat},AS X scope cl caps js->caps.length=js.length
|[],[],_=>rfl
|_ :: _,_ :: _,⟨_,h⟩=>by rw[JH,JH,h.len]
theorem AS.at' {X:Cx}{scope:Scope}{cl:List (Str × G')}{y:Str}:∀ {caps:List Str}{js:List Nat}{i:Nat},AS X scope cl caps js->caps[i]?=dk y->∃ j,js[i]?=dk j/\(∃ c,cl.lookup y=dk c)/\X.N[j]?=dk y/\(X.env.scope.names.lookup y=dk .cell\/X.env.scope.names.lookup y=dk .free)/\((relabel scope X.env).names.lookup y=dk .cell\/(relabel scope X.env).names.lookup y=dk .free)
|[],[],_,_,e=>by simp at e
|_ :: _,j :: _,0,⟨h,_⟩,e=>by cases e;exact⟨j,rfl,h⟩
|_ :: _,_ :: _,i+1,⟨_,h⟩,e=>h.at' (i:=i) e
def PTs (X:Cx) (ifs:List Expr) (t:TT):Prop :=
 ∀ (Lz:List (G' × KP)) (s:IZ) (σ:St) (H:Hp) (Q:Bool->Hp->Prop),Inv X Lz σ H s->t σ H Q ->
  Jl (model X.prog X.w) X.A (forIn ifs l' λc r=>if r=l' then do let ok <-isTrue c X.env (eval c X.env);pure (ForInStep.yield ok) else pure (ForInStep.yield r)) (TP X Lz σ Q) X.xe s
def lG {X:Cx}:PTs X [] (λ_ H Q=>Q l' H):=λLz s σ H Q I h=>by
 rw[forIn_nil];exact IY ⟨H,I,h⟩
def rP {X:Cx}{c:Expr}{t:TT}(h:PT X c t):PTs X [c] t:=λLz s σ H Q I q=>wpAny_tests_one (h Lz s σ H Q I q)
def tD (σ:St) (js:List Nat):St:=js.map λj=>(σ[j]?).getD IX
def Fm (wi:TI) (js:List Nat) (tc:TT) (te:TE):TE:=λσ H Q=>wi σ H λJ H1=>∀ D,H1 D=IX->∃ W:Nat->Nat->List V->Hp->Prop,(∃ m,W 0 m [] (upd H1 D (.lst []))) /\
 ∀ i m ys H2,W i m ys H2->H2 D=dk (.lst ys)/\ys.length < Je/\((J.stop i H2/\Q (.ref D) H2)\/(J.go i H2/\∀ x H3,J.yld i H2 x H3 ->
  tc (dk x :: tD σ js) H3 λb H4=>if b=l' then te (dk x :: tD σ js) H4 λy H5=>H5 D=dk (.lst ys)/\∃ m',m' < m/\W (i+1) m' (ys++[y]) (upd H5 D (.lst (ys++[y])))
   else ∃ m',m' < m/\W (i+1) m' ys H4))
def FS (wi:TI) (g:TG) (js:List Nat) (tc:TT) (te:TE):TE:=λσ H Q=>wi σ H λJ H1=>∀ D,H1 D=IX->∃ W:Nat->Nat->List V->Hp->Prop,(∃ m,W 0 m [] (upd H1 D (.lst []))) /\
 ∀ i m ys H2,W i m ys H2->H2 D=dk (.lst ys)/\ys.length < Je/\((J.stop i H2/\Q (.ref D) H2)\/(J.go i H2/\∀ x H3,J.yld i H2 x H3->∀ v0 v1:Option V,
  g x (v0 :: v1 :: tD σ js) H3 λσ' H'=>∃ v0' v1',σ'=v0' :: v1' :: tD σ js/\tc σ' H' λb H4=>if b=l' then te σ' H4 λy H5=>H5 D=dk (.lst ys)/\∃ m',m' < m/\W (i+1) m' (ys++[y]) (upd H5 D (.lst (ys++[y])))
   else ∃ m',m' < m/\W (i+1) m' ys H4))
def RN (n:Nat) (g:TG) (js:List Nat) (tc:TT) (te:TE) (σ:St) (Q:VK) (J:It) (H1:Hp):Prop:=∀ D,H1 D=IX->∃ W:Nat->Nat->List V->Hp->Prop,(∃ m,W 0 m [] (upd H1 D (.lst []))) /\
 ∀ i m ys H2,W i m ys H2->H2 D=dk (.lst ys)/\ys.length < Je/\((J.stop i H2/\Q (.ref D) H2)\/(J.go i H2/\∀ x H3,J.yld i H2 x H3->∀ vs:St,vs.length=n->∃ Pk:St->Hp->Prop,g x (vs++tD σ js) H3 Pk/\∀ σ' H',Pk σ' H'->∃ vs':St,vs'.length=n/\σ'=vs'++tD σ js /\
  tc σ' H' λb H4=>if b=l' then te σ' H4 λy H5=>H5 D=dk (.lst ys)/\∃ m',m' < m/\W (i+1) m' (ys++[y]) (upd H5 D (.lst (ys++[y])))
   else ∃ m',m' < m/\W (i+1) m' ys H4))
def FX {X:Cx}{x1 x2:Str}{p1 p2 pos:Pos}{k:Nat}(hc:X.calm=l') (hN:X.N.Nodup) (h0:X.N[0]?=dk x1) (h1:X.N[1]?=dk x2) (l1:Loc X.env.scope x1) (l2:Loc X.env.scope x2) (f1:X.fn x1=l') (f2:X.fn x2=l') :
 PG X (.Tuple [.Name x1 p1,.Name x2 p2] k pos) (Hm X.K 2 (yK (kF 0) (yK (kF 1) GP))) :=
 Dg hc (jR (bU hN h0 l1 (.inl f1)) (jR (bU hN h1 l2 (.inl f2)) Am))
abbrev DM (ifs:List Expr) (env:Env):Sem Bool:=forIn ifs l' λc r=>if r=l' then do
 let ok <-isTrue c env (eval c env)
 pure (ForInStep.yield ok) else pure (ForInStep.yield r)
def Bs {P:Jy}{w:Jj}{A:JN}{R:Result->IZ->Prop}{s:IZ}{elt tg iter:Expr}{ifs:List Expr}{sc:Scope}{ps:Pos}{it acc:IU}{env:Env}(J:Nat->IZ->Prop)
 (turn:∀ k t,J k t->Jl (model P w) A (pyNext it) (λo t1=>match o with
 |none=>R (.ok .next) t1
 |some y=>Jl (model P w) A (letOwnedTupleGo tg it y) (λ_ t2=>Jl (model P w) A (assign tg env y) (λ_ t3=>Jl (model P w) A (DM ifs env) (λok t4 =>
   if ok=l' then Jl (model P w) A (eval elt env) (λx t5=>Jl (model P w) A (call (.builtin "list.append") [acc,x]) (λ_ t6=>∃ j,j < k/\J j t6) (notedBy (model P w) A env λe t'=>R (.error e) t') t5) (notedBy (model P w) A env λe t'=>R (.error e) t') t4
   else ∃ j,j < k/\J j t4) (notedBy (model P w) A env λe t'=>R (.error e) t') t3) (notedBy (model P w) A env λe t'=>R (.error e) t') t2) (notedBy (model P w) A env λe t'=>R (.error e) t') t1) (notedBy (model P w) A env λe t'=>R (.error e) t') t)
 (k:Nat) (h:J k s):codeAny (model P w) A (.compLoop (.ListComp elt [⟨tg,iter,ifs,0⟩] sc ps) 0 it acc env) R s:=by
 refine codeAny_loop rfl J (λk t hJ=>?_) k h;show Jl _ A (Sem.onRaise (compTurn (.ListComp elt [⟨tg,iter,ifs,0⟩] sc ps) 0 it acc env) (λy=>do noteFrame y env;theTreesLotGoes y)) _ _ t;refine wpAny_noted ?_;rw[compTurn_list];refine D' (wpAny_standAt (D' (thn (turn k t hJ) λo t1 h1=>?_)));cases o with
|none=>exact IY h1
|some y =>
  refine D' (thn h1 λ_ t2 h2=>D' (thn h2 λ_ t3 h3=>D' (thn h3 λok t4 h4=>?_)));cases ok with
 |false=>exact IY ⟨rfl,h4⟩
 |true =>
   rw[Pa rfl]at h4;refine D' (D' (thn h4 λx t5 h5=>D' (thn h5 λ_ t6 h6=>?_)));exact IY (IY ⟨rfl,h6⟩)
section
variable {X:Cx}{scope:Scope}{cl:List (Str × G')}{xs N':List Str}
def vh {names:List (Str × NameKind)}{env:Env}{y:Str}{k:NameKind}(h:(names.map λ(n,k)=>if (k == NameKind.free && env.scope.kind == .function && env.kindOf n == dk .cell) then (n,NameKind.cell) else (n,k)).lookup y=dk k) (hk:k=.cell\/k=.free) (hn:∀ p∈names,p.2≠.cell):∃ p∈names,p.1=y/\p.2=.free:=by
 obtain⟨⟨n,k0⟩,hp,e⟩:=Kr.mp (mem_of_lookup h);dsimp only at e;split at e
 . rename_i hc;injection e with e1 e2
   refine⟨_,hp,e1,?_⟩;rw[Kn,Kn]at hc;exact beq_iff_eq.mp hc.1.1
 . injection e with e1 e2
   refine⟨_,hp,e1,?_⟩;rcases hk with rfl|rfl
   . exact absurd e2 (hn _ hp)
   . exact e2
def xh {Lz:List (G' × KP)}{σ:St}{H₃:Hp}{s₃:IZ}{ex:List G'}{E':IU->IZ->Prop}(O:CompOk X scope cl xs) (I:Inv X Lz σ H₃ s₃) (hf:∀ b∈ex,xB X Lz H₃ b/\b < s₃.heap.objs.size) :
 (cw X scope cl s₃.heap.objs.size xs N' s₃ H₃ Lz ex E').Ok where
 mod:=I.ok.mod
 kind:=O.kind
 glob:=I.ok.glob
 blt:=I.ok.blt
 above:=Jd _
 inj:=λy z c h1 h2=>I.ok.inj y z c (O.sub _ (mem_of_lookup h1)) (O.sub _ (mem_of_lookup h2))
 has:=λy h=>by
  have h':∃ k,(relabel scope X.env).names.lookup y=dk k/\(k=.cell\/k=.free):=by
   rcases h with h|h
   . exact⟨_,h,.inl rfl⟩
   . exact⟨_,h,.inr rfl⟩
  obtain⟨k,e,hk⟩:=h';obtain⟨p,hp,rfl,e2⟩:=vh e hk O.nocell;exact O.has p hp e2
 cab:=λy c h1 h2=>by
  have h2':cl.lookup y=dk c:=h2;rw[O.nox y (contains_iff_mem.mp h1)]at h2';cases h2'
 hd:=I.ok.hd
 frames:=I.ok.frames
 stk:=.inl rfl
 exf:=λb hb=>⟨Kc (hf b hb).2,λy c e=>(hf b hb).1.2.2.2.2.1 y c (O.sub _ (mem_of_lookup e))⟩
 bs:=I.bs
 bsz:=JT I.ok.bsz I.sz
 noex:=λb o e hb=>by
  obtain⟨_,_,_,h4,_⟩:=(hf b hb).1;rcases h4 with z|z
  . exact I.ok.noex b o e z
  . have g1:b < X.base.objs.size:=Jr e;exact absurd (Jf g1 (JT I.ok.bsz z)) (Lv _)
 exfs:=λb hb z=>by
  obtain⟨_,h2,h3,_⟩:=(hf b hb).1;rcases Jx.mp (I.stkSub b z) with q|q
  . exact h2 q
  . exact h3 q
 funs:=I.stack
 frf:=I.stkFree
def Inv.block {Lz:List (G' × KP)}{σ σ':St}{H₃ H':Hp}{s₃ s':IZ}{ex:List G'}{E':IU->IZ->Prop}{h':JD}(I:Inv X Lz σ H₃ s₃) (hf:∀ b∈ex,xB X Lz H₃ b)
 (I':Inv (cw X scope cl s₃.heap.objs.size xs N' s₃ H₃ Lz ex E') [] σ' H' s') (hs:KN s₃.heap.objs.size s'.heap h'):Inv X Lz σ H' { s' with heap:=h' }:=by
 have ne:∀ b o,s₃.heap.get? b=dk o->b≠s₃.heap.objs.size:=λb o e=>Kc (Jr e)
 have fr:H' s₃.heap.objs.size=IX:=I'.free;have hok:HOk X.prog X.w H' h':=λa o e=>by
  refine(I'.hok a o e).stay (λb u hb q=>(hs.2 b ?_).trans q) (λ_ q=>q) λ_ _ q=>q
  rintro rfl;rcases hb with z|z
  . rw[<-z,fr]at e;cases e
  . rw[fr]at z;cases z
 have u:Un (frs X.stack) ex H₃ H' s₃.heap h':=by
  obtain⟨k1,k2,k3,k4,k5,k6,k7⟩:=I'.base;refine⟨λb o q n hb hx=>(hs.2 b (ne b o q)).trans (k1 b o q n hb hx),λb o q n hb hx=>?_,k3,λb o q hx=>?_,k5,k6,k7⟩
  . obtain⟨sl,e⟩:=k2 b o q n hb hx;exact⟨sl,(hs.2 b (ne b o q)).trans e⟩
  . obtain⟨o',e⟩:=k4 b o q hx;exact⟨o',(hs.2 b (ne b o q)).trans e⟩
 exact I.call' (s':={ s' with heap:=h' }) I'.os u hok I'.bare λb hb=>⟨(hf b hb).2.2.2.1,(hf b hb).2.1,(hf b hb).2.2.2.2.1,(hf b hb).2.2.2.2.2⟩
def Inv.enter {Lz:List (G' × KP)}{σ:St}{H₃:Hp}{s₃:IZ}{ex:List G'}{E':IU->IZ->Prop}{caps:List Str}{js:List Nat}{h₁:JD}{tk:Nat}(O:CompOk X scope cl xs) (I:Inv X Lz σ H₃ s₃)
 (hf:∀ b∈ex,xB X Lz H₃ b/\b < s₃.heap.objs.size) (hcp:AS X scope cl caps js)
 (hn:h₁.Ns s₃.heap.objs.size λ_=>IX) (hk:∀ b o,s₃.heap.get? b=dk o->h₁.get? b=dk o) :
 Inv (cw X scope cl s₃.heap.objs.size xs (xs++caps) s₃ H₃ Lz ex E') [] (replicate xs.length IX++tD σ js) H₃ { s₃ with heap:=h₁,toks:=tk }:=by
 have hlen:=hcp.len;obtain⟨m0,hm0,hl0⟩:=I.loc;refine⟨xh O I hf,rfl,I.bare,Un.kept hk,⟨_,hn,λi y v e1 e2 e3=>?_⟩,λy c e=>?_,I.hok.fresh (Jd _),λy c e=>I.freeC y c (O.sub _ (mem_of_lookup e)),λp hp=>?_,I.hok.kept hk,?_⟩
 . have e1':(xs++caps)[i]?=dk y:=e1;have e2':(replicate xs.length (IX:Option V)++tD σ js)[i]?=dk (dk v):=e2;by_cases hi:i < xs.length
   . rw[KA (by rw[Le];exact hi),List.getElem?_replicate,Pa hi]at e2';cases e2'
   . rw[JR (by omega)]at e1';rw[JR (by rw[Le];omega),Le]at e2';obtain⟨j,ej,⟨c,hc⟩,hN,hk1,hk2⟩:=hcp.at' e1';unfold tD at e2';rw[JX,ej]at e2';have e3':(σ[j]?).getD IX=dk v:=by simpa using e2'
     have e4:σ[j]?=dk (dk v):=by
      cases q:σ[j]? with
     |none=>rw[q]at e3';cases e3'
     |some z=>rw[q]at e3';rw[show z=dk v from e3']
     obtain⟨u,r,l⟩:=hl0 j y v hN e4 (by rcases hk1 with z|z;exact .inr (.inl z);exact .inr (.inr z));refine⟨u,r,.inr ⟨hk2,c,hc,?_⟩⟩;rcases l with⟨z,_⟩|⟨_,c',z1,o,z2,z3⟩
     . have z':X.env.scope.names.lookup y=dk .local:=z;rcases hk1 with q|q<;>(rw[q]at z';cases z')
     . rw[O.sub _ (mem_of_lookup hc)]at z1;cases z1;exact⟨o,hk _ _ z2,z3⟩
 . obtain⟨v,o,z2,z3⟩:=I.cell y c (O.sub _ (mem_of_lookup e));exact⟨v,o,hk _ _ z2,z3⟩
 . have hp':p∈X.pn++Lz:=by simpa [cw] using hp
   obtain⟨g1,g2,g3,g4,g5⟩:=I.pin p hp';refine⟨hk _ _ g1,g2,Kc (Jr g1),λz=>?_,g5⟩;rcases Jx.mp (I.stkSub p.1 z) with q|q
   . exact g3 q
   . exact g4 q
 . show (replicate xs.length IX++tD σ js).length=(xs++caps).length;unfold tD;rw[IT,IT,Le,Jk,hlen]
def oC {tg:Expr}{g:TG}{pos np:Pos}{iter elt:Expr}{ifs:List Expr}{caps:List Str}{js:List Nat}{wi:TI}{tc:TT}{te:TE}{use:Option (IU->Sem Unit)}{QQ:IU->IZ->Prop}{Q:VK}{Rd:It->Hp->Prop}{Lz:List (G' × KP)}{s:IZ}{σ:St}{H:Hp}
 (hc:X.calm=l') (O:CompOk X scope cl xs) (hg:∀ C s₃ H₃ Lz ex E',PG (cw X scope cl C xs (xs++caps) s₃ H₃ Lz ex E') tg g)
 (hcp:AS X scope cl caps js)
 (hi:PI X tg iter wi) (ht:∀ C s₃ H₃ Lz ex E',PTs (cw X scope cl C xs (xs++caps) s₃ H₃ Lz ex E') ifs tc) (he:∀ C s₃ H₃ Lz ex E',PE (cw X scope cl C xs (xs++caps) s₃ H₃ Lz ex E') elt te)
 (hs:∀ x,foldedSetIterable iter X.env x=pure x) (I:Inv X Lz σ H s) (h:wi σ H Rd) (hR:∀ J H1,Rd J H1->RN xs.length g js tc te σ Q J H1)
 (fl:∀ (s₃:IZ) (H₃ H':Hp) (s':IZ) (D:G') (f:Flow) (mm:Str->Option IU),Inv X Lz σ H₃ s₃->s'.heap.Ns s₃.heap.objs.size mm->H' s₃.heap.objs.size=IX->(∀ h',KN s₃.heap.objs.size s'.heap h'->Inv X Lz σ H' { s' with heap:=h' })->Q (.ref D) H'->compPost (model X.prog X.w) X.A X.xe use QQ (.ref D) s₃.heap.objs.size (.ok f) s') :
 Jl (model X.prog X.w) X.A (comprehension (.ListComp elt [⟨tg,iter,ifs,0⟩] scope pos) scope X.env np (newList []) f' (eval iter X.env) use) QQ X.xe s:=by
 refine wpAny_comprehension_free rfl hs O.clos O.kind O.names (thn (hi Lz s σ H _ I h) λv s1 h1=>thn h1 λitv s2 ur40=>?_);obtain⟨it,fp,tn,J,H1,e,I2,T,t0,hf,q0⟩:=ur40;subst e;have q:=hR _ _ q0;refine Kw (wpAny_newFunctionEnv O.nocell (by intro y hy;cases hy) (λh₁ hns₁ hsb₁=>?_) O.kind);obtain⟨W,⟨m0,w0⟩,step⟩:=q s2.heap.objs.size (I2.hok.fresh (Jd _));have I3:Inv X Lz σ (upd H1 s2.heap.objs.size (.lst [])) { s2 with heap:=s2.heap.push { cls:=.type "list",data:=.seq ([]:List IU).toArray } }:=I2.lnew (t':=s2.toks) (its:=[]) .nil (Kq _);have fpl:∀ b∈fp,b < s2.heap.objs.size:=λb hb=>by
  obtain⟨o,e,_⟩:=T.obj _ _ t0 b hb;exact Jr e
 have hf3:∀ b∈fp,xB X Lz (upd H1 s2.heap.objs.size (.lst [])) b:=λb hb=>by
  obtain⟨f0,f⟩:=hf b hb;exact⟨by rw[ac (Kc (fpl b hb))];exact f0,f⟩
 generalize hs3:({ s2 with heap:=s2.heap.push { cls:=.type "list",data:=.seq ([]:List IU).toArray } }:IZ)=s₃ at *;generalize hH3:upd H1 s2.heap.objs.size (.lst [])=H₃ at *;have hsz:s2.heap.objs.size < s₃.heap.objs.size:=by rw[<-hs3];show _ < (s2.heap.push _).objs.size;rw[JD.size_push];exact lt_succ_self _
 have hk2:∀ b o,s2.heap.get? b=dk o->s₃.heap.get? b=dk o:=λb o e=>by rw[<-hs3];exact Jc _ e
 have hk3:∀ b o,s₃.heap.get? b=dk o->h₁.get? b=dk o:=λb o e=>hsb₁.extBut b o (Kc (Jr e)) (Jc _ e)
 have t3:tn 0 h₁:=T.keep _ _ _ t0 λb _ o e=>hk3 b o (hk2 b o e)
 have loop:∀ (R:Result->IZ->Prop),(∀ f s',(∃ σ' H',Inv (cxR X scope cl xs caps s₃ H₃ Lz fp R) [] σ' H' s'/\Q (.ref s2.heap.objs.size) H')->R (.ok f) s') ->
  ∀ tk,codeAny (model X.prog X.w) X.A (.compLoop (.ListComp elt [⟨tg,iter,ifs,0⟩] scope pos) 0 (.ref it) (.ref s2.heap.objs.size) (compEnvC scope cl s₃.heap.objs.size X.env)) R { s₃ with heap:=h₁,toks:=tk }:=by
  intro R hR tk;have I4:=Inv.enter (E':=notedBy (model X.prog X.w) X.A (compEnvC scope cl s₃.heap.objs.size X.env) λe s'=>R (.error e) s') (tk:=tk) O I3 (λb hb=>⟨hf3 b hb,Nat.lt_trans (fpl b hb) hsz⟩) hcp (by simpa using hns₁) hk3;have stat:∀ {H':Hp},(∀ b∈fp,H' b=IX)->∀ b∈fp,xB (cxR X scope cl xs caps s₃ H₃ Lz fp R) [] H' b:=λhn b hb=>by
   obtain⟨f0,f1,f2,f3,f4,f5⟩:=hf3 b hb;refine⟨hn b hb,Kc (Nat.lt_trans (fpl b hb) hsz),λz=>?_,.inl hb,λy c e=>f4 y c (O.sub _ (mem_of_lookup e)),λp hp=>f5 p (by simpa [cxR,cw] using hp)⟩;rcases Jx.mp (I3.stkSub b z) with q|q
   . exact f1 q
   . exact f2 q
  refine Bs (λn s'=>∃ (i:Nat) (vs:St) (ys:List V) (H':Hp),vs.length=xs.length/\Inv (cxR X scope cl xs caps s₃ H₃ Lz fp R) [] (vs++tD σ js) H' s'/\tn i s'.heap/\(∀ b∈fp,H' b=IX)/\W i n ys H') ?_ m0
   ⟨0,_,[],H₃,Le,I4,t3,λb hb=>(hf3 b hb).1,w0⟩
  rintro n s4 ⟨i,vs,ys,H4,vl,J4,t4,fr4,w4⟩;obtain⟨hD,hlen,hor⟩:=step i n ys H4 w4;rcases hor with⟨stop,qn⟩|⟨go,hy⟩
  . refine thn (T.done (cxR X scope cl xs caps s₃ H₃ Lz fp R) rfl rfl rfl hc i [] s4 _ H4 _ J4 (stat fr4) t4 stop) λr s5 ur41=>?_
    obtain⟨hr,J5⟩:=ur41;subst hr;exact hR _ _ ⟨_,H4,J5,qn⟩
  . refine thn (T.item (cxR X scope cl xs caps s₃ H₃ Lz fp R) rfl rfl rfl hc i [] s4 _ H4 _ J4 (stat fr4) t4 go) λr s5 ur42=>?_
    obtain⟨u,hr,h5⟩:=ur42;subst hr;refine thn h5 λ_ s6 ur43=>?_
    obtain⟨y,H6,J6,ry,yl,t6,fr6⟩:=ur43;have J6':=J6.pinned (stat fr6) (T.obj _ _ t6);obtain⟨Pk,hy6,hPk⟩:=hy y H6 yl vs vl;refine thn (hg _ _ _ _ _ _ _ s6 _ H6 y u _ J6' ry hy6) λ_ s7 ur44=>?_
    obtain⟨σ7,H7,J7,q7⟩:=ur44;obtain⟨vs',vl',e7,hy7⟩:=hPk _ _ q7;subst e7;refine thn (ht _ _ _ _ _ _ _ s7 _ H7 _ J7 hy7) λok s8 ur45=>?_
    obtain⟨H8,J8,q8⟩:=ur45;have back:∀ {σ9:St} {H9:Hp} {s9:IZ},Inv (cxR X scope cl xs caps s₃ H₃ Lz fp R) ([]++tG fp s6.heap) σ9 H9 s9->tn (i+1) s9.heap/\∀ b∈fp,H9 b=IX:=λJ9=>by
     refine⟨T.keep _ _ _ t6 λb hb o e=>(J9.pin (b,o) (KC _ (KC _ (jT hb e)))).1,λb hb=>?_⟩;obtain⟨o,e,d⟩:=T.obj _ _ t6 b hb;exact(J9.pin (b,o) (KC _ (KC _ (jT hb e)))).2.1
    cases ok with
   |false =>
     rw[Pb (by decide)];rw[Pb (by decide)]at q8;obtain⟨m',hm,w8⟩:=q8;obtain⟨b1,b2⟩:=back J8;exact⟨m',hm,i+1,vs',ys,H8,vl',J8.unpinned,b1,b2,w8⟩
   |true =>
     rw[Pa rfl];rw[Pa rfl]at q8;refine thn (he _ _ _ _ _ _ _ s8 _ H8 _ J8 q8) λz s9 ur46=>?_
     obtain⟨vz,H9,J9,rz,hD9,m',hm,w9⟩:=ur46;refine thn (dR (X:=(cxR X scope cl xs caps s₃ H₃ Lz fp R)) _ s9 _ H9 (.ref s2.heap.objs.size) [vz] (.ref s2.heap.objs.size) [z] (λ_ H10=>H10=upd H9 s2.heap.objs.size (.lst (ys++[vz]))) J9 rfl (.cons rz .nil) ⟨_,ys,vz,rfl,rfl,hD9,hlen,rfl⟩) λ_ s10 ur47=>?_
     obtain⟨v10,H10,J10,r10,e10⟩:=ur47;subst e10;obtain⟨b1,b2⟩:=back J10;exact⟨m',hm,i+1,vs',ys++[vz],_,vl',J10.unpinned,b1,b2,w9⟩
 have fin:∀ tk,codeAny (model X.prog X.w) X.A (.compLoop (.ListComp elt [⟨tg,iter,ifs,0⟩] scope pos) 0 (.ref it) (.ref s2.heap.objs.size) (compEnvC scope cl s₃.heap.objs.size X.env)) (compPost (model X.prog X.w) X.A X.xe use QQ (.ref s2.heap.objs.size) s₃.heap.objs.size) { s₃ with heap:=h₁,toks:=tk }:=λtk=>by
  refine loop _ (λf s' ur48=>?_) tk;obtain⟨σ',H',J',qn⟩:=ur48;obtain⟨mm,hmm,_⟩:=J'.loc;exact fl s₃ H₃ H' s' _ f mm I3 hmm J'.free (λh' hs'=>Inv.block I3 hf3 J' hs') qn
 exact codeAny_compStart_list (fin _) (T.self _ _ _ _ _ t3 (fin _))
end
section
variable {X:Cx}{scope:Scope}{cl:List (Str × G')}{x x2 x3:Str}{js:List Nat}{tc:TT}{te:TE}{σ:St}{Q:VK}{J:It}{H1:Hp}{g:TG}{caps:List Str}{pos:Pos}{tg iter elt:Expr}{ifs:List Expr}{wi:TI}
def HM (h:∀ D,H1 D=IX->∃ W:Nat->Nat->List V->Hp->Prop,(∃ m,W 0 m [] (upd H1 D (.lst []))) /\
 ∀ i m ys H2,W i m ys H2->H2 D=dk (.lst ys)/\ys.length < Je/\((J.stop i H2/\Q (.ref D) H2)\/(J.go i H2/\∀ x H3,J.yld i H2 x H3 ->
  tc (dk x :: tD σ js) H3 λb H4=>if b=l' then te (dk x :: tD σ js) H4 λy H5=>H5 D=dk (.lst ys)/\∃ m',m' < m/\W (i+1) m' (ys++[y]) (upd H5 D (.lst (ys++[y])))
   else ∃ m',m' < m/\W (i+1) m' ys H4))):RN 1 (kF 0) js tc te σ Q J H1:=λD hD=>by
 obtain⟨W,w0,step⟩:=h D hD;refine⟨W,w0,λi m ys H2 hw=>?_⟩;obtain⟨a,b,c⟩:=step i m ys H2 hw;refine⟨a,b,c.imp_right λ⟨g1,g2⟩=>⟨g1,λx H3 yl vs hl=>?_⟩⟩
 match vs,hl with
|[v0],_=>exact⟨λσ' H'=>σ'=dk x :: tD σ js/\H'=H3,⟨rfl,rfl⟩,λσ' H' uq11=>by(obtain⟨e1,e2⟩:=uq11;exact ⟨[dk x],rfl,e1,by rw[e1,e2];exact g2 x H3 yl⟩)⟩
def IL (h:∀ D,H1 D=IX->∃ W:Nat->Nat->List V->Hp->Prop,(∃ m,W 0 m [] (upd H1 D (.lst []))) /\
 ∀ i m ys H2,W i m ys H2->H2 D=dk (.lst ys)/\ys.length < Je/\((J.stop i H2/\Q (.ref D) H2)\/(J.go i H2/\∀ x H3,J.yld i H2 x H3->∀ v0 v1:Option V,
  g x (v0 :: v1 :: tD σ js) H3 λσ' H'=>∃ v0' v1',σ'=v0' :: v1' :: tD σ js/\tc σ' H' λb H4=>if b=l' then te σ' H4 λy H5=>H5 D=dk (.lst ys)/\∃ m',m' < m/\W (i+1) m' (ys++[y]) (upd H5 D (.lst (ys++[y])))
   else ∃ m',m' < m/\W (i+1) m' ys H4))):RN 2 g js tc te σ Q J H1:=λD hD=>by
 obtain⟨W,w0,step⟩:=h D hD;refine⟨W,w0,λi m ys H2 hw=>?_⟩;obtain⟨a,b,c⟩:=step i m ys H2 hw;refine⟨a,b,c.imp_right λ⟨g1,g2⟩=>⟨g1,λx H3 yl vs hl=>?_⟩⟩
 match vs,hl with
|[v0,v1],_=>exact⟨_,g2 x H3 yl v0 v1,λσ' H' uq12=>by(obtain⟨a1,a2,e1,e2⟩:=uq12;exact ⟨[a1,a2],rfl,e1,e2⟩)⟩
def HX {px:Pos}{C:G'}{s₃:IZ}{H₃:Hp}{Lz:List (G' × KP)}{ex:List G'}{E':IU->IZ->Prop}(O:CompOk X scope cl [x]) (hnd:(x :: caps).Nodup):PG (cw X scope cl C [x] ([x]++caps) s₃ H₃ Lz ex E') (.Name x px) (kF 0) :=
 bU (i:=0) hnd rfl (.inl (lookup_relabel_local (O.xloc x Jg))) (.inl (show [x].contains x=l' from contains_iff_mem.mpr Jg))
def zY {Lz:List (G' × KP)}(s₃:IZ) (H₃ H':Hp) (s':IZ) (D:G') (f:Flow) (mm:Str->Option IU) (_:Inv X Lz σ H₃ s₃) (hm:s'.heap.Ns s₃.heap.objs.size mm) (_:H' s₃.heap.objs.size=IX) (hb:∀ h',KN s₃.heap.objs.size s'.heap h'->Inv X Lz σ H' { s' with heap:=h' }) (qn:Q (.ref D) H'):compPost (model X.prog X.w) X.A X.xe IX (EP X Lz σ Q) (.ref D) s₃.heap.objs.size (.ok f) s' :=
 ⟨mm,hm,λh' hs'=>⟨.ref D,H',hb h' hs',rfl,qn⟩⟩
def mn {px:Pos}(hc:X.calm=l') (O:CompOk X scope cl [x]) (hnd:(x :: caps).Nodup)
 (hcp:AS X scope cl caps js)
 (hi:PI X (.Name x px) iter wi) (ht:∀ C s₃ H₃ Lz ex E',PTs (cw X scope cl C [x] (x :: caps) s₃ H₃ Lz ex E') ifs tc) (he:∀ C s₃ H₃ Lz ex E',PE (cw X scope cl C [x] (x :: caps) s₃ H₃ Lz ex E') elt te)
 (hs:∀ x,foldedSetIterable iter X.env x=pure x:=by intro _;rfl):PE X (.ListComp elt [⟨.Name x px,iter,ifs,0⟩] scope pos) (Fm wi js tc te):=by
 intro Lz s σ H Q I h;rw[eval_ListComp];exact oC hc O (λ_ _ _ _ _ _=>HX O hnd) hcp hi ht he hs I h (λ_ _=>HM) zY
def Bc (hc:X.calm=l') (O:CompOk X scope cl [x,x2]) (hg:∀ C s₃ H₃ Lz ex E',PG (cw X scope cl C [x,x2] (x :: x2 :: caps) s₃ H₃ Lz ex E') tg g)
 (hcp:AS X scope cl caps js)
 (hi:PI X tg iter wi) (ht:∀ C s₃ H₃ Lz ex E',PTs (cw X scope cl C [x,x2] (x :: x2 :: caps) s₃ H₃ Lz ex E') ifs tc) (he:∀ C s₃ H₃ Lz ex E',PE (cw X scope cl C [x,x2] (x :: x2 :: caps) s₃ H₃ Lz ex E') elt te)
 (hs:∀ x,foldedSetIterable iter X.env x=pure x:=by intro _;rfl):PE X (.ListComp elt [⟨tg,iter,ifs,0⟩] scope pos) (FS wi g js tc te):=by
 intro Lz s σ H Q I h;rw[eval_ListComp];exact oC hc O hg hcp hi ht he hs I h (λ_ _=>IL) zY
def FQ {Lz:List (G' × KP)}{D:Ends}{yT:Str}{iN:Nat}{py:Pos}(hN:X.N.Nodup) (hiN:X.N[iN]?=dk yT) (hyL:Loc X.env.scope yT) (hfN:X.fn yT=l'\/X.env.scope.names.lookup yT=dk .local) (s₃:IZ) (H₃ H':Hp) (s':IZ) (Da:G') (f:Flow) (mm:Str->Option IU) (I3:Inv X Lz σ H₃ s₃) (hmm:s'.heap.Ns s₃.heap.objs.size mm) (fr:H' s₃.heap.objs.size=IX) (hb:∀ h',KN s₃.heap.objs.size s'.heap h'->Inv X Lz σ H' { s' with heap:=h' }) (qn:kF iN (.ref Da) σ H' D.nx) :
 compPost (model X.prog X.w) X.A X.xe (dk (assign (.Name yT py) X.env)) (λ_ s'=>SP X Lz D .next s') (.ref Da) s₃.heap.objs.size (.ok f) s':=by
 have I5:Inv X Lz σ H' s':=hb _ (KN.refl _ _);show Jl _ _ (assign (.Name yT py) X.env _) _ _ _;refine wpAny_assign_Name (uI I5 hN hiN hyL (v:=.ref Da) rfl (λs6 I6 ur49=>?_) hfN);obtain⟨a6,hs6,ha6⟩:=ur49;have neL:s₃.heap.objs.size≠X.env.locals:=(Kc I3.lt).symm;have neCl:∀ y c,X.env.cells.lookup y=dk c->c≠s₃.heap.objs.size:=λy c z=>by
  obtain⟨v,q⟩:=I3.cell _ _ z;exact Kc q.lt
 have neC:s₃.heap.objs.size≠a6:=by
  rcases ha6 with z|z
  . rw[z];exact neL
  . exact(neCl _ _ z).symm
 refine⟨mm,JD.Ns.sameBut hmm hs6 neC,λh' hs'=>⟨_,H',I6.turned (t':=s6.toks) (it:=s₃.heap.objs.size) (λb o hb e=>(hs'.2 b hb).trans e) fr neL (.inr I3.sz) neCl (λp hp=>Kc (Jr (I3.pin p hp).1)),qn⟩⟩
def C4 {Lz:List (G' × KP)}{s:IZ}{H:Hp}{D:Ends}{yT:Str}{py spos:Pos}(hsw:swapsWith (.ListComp elt [⟨tg,iter,ifs,0⟩] scope pos) (dk (.Name yT py)) spos.line X.env=pure l')
 (h:∀ (np:Pos) (s:IZ),Inv X Lz σ H s->Jl (model X.prog X.w) X.A (comprehension (.ListComp elt [⟨tg,iter,ifs,0⟩] scope pos) scope X.env np (newList []) f' (eval iter X.env) (dk (assign (.Name yT py) X.env))) (λ_ s'=>SP X Lz D .next s') X.xe s) (I:Inv X Lz σ H s) :
 Jl (model X.prog X.w) X.A (exec (.Assign [.Name yT py] (.ListComp elt [⟨tg,iter,ifs,0⟩] scope pos) spos) X.env) (SP X Lz D) X.xe s:=by
 rw[exec_Assign_Name_used _ _ _ _ hsw];refine D' (wpAny_standAt (D' ?_));exact D' (Lu (h _ _ (by first|exact I|exact I.stood _)) (λ_ s' hq=>IY (IY hq)) λ_ _ e=>e)
def qR {px py spos:Pos}{yT:Str}{iN:Nat}(hN:X.N.Nodup) (hiN:X.N[iN]?=dk yT) (hyL:Loc X.env.scope yT) (hsw:swapsWith (.ListComp elt [⟨.Name x px,iter,ifs,0⟩] scope pos) (dk (.Name yT py)) spos.line X.env=pure l') (hc:X.calm=l') (O:CompOk X scope cl [x]) (hnd:(x :: caps).Nodup)
 (hcp:AS X scope cl caps js)
 (hi:PI X (.Name x px) iter wi) (ht:∀ C s₃ H₃ Lz ex E',PTs (cw X scope cl C [x] (x :: caps) s₃ H₃ Lz ex E') ifs tc) (he:∀ C s₃ H₃ Lz ex E',PE (cw X scope cl C [x] (x :: caps) s₃ H₃ Lz ex E') elt te)
 (hs:∀ x,foldedSetIterable iter X.env x=pure x:=by intro _;rfl) (hfN:X.fn yT=l'\/X.env.scope.names.lookup yT=dk .local:=by first|exact .inl rfl|exact .inr rfl|assumption) :
 PS X (.Assign [.Name yT py] (.ListComp elt [⟨.Name x px,iter,ifs,0⟩] scope pos) spos) (GT (Fm wi js tc te) (kF iN)):=λ_ _ σ _ D I h =>
 C4 hsw (λ_ _ I=>oC (Q:=λv H1=>kF iN v σ H1 D.nx) hc O (λ_ _ _ _ _ _=>HX O hnd) hcp hi ht he hs I h (λ_ _=>HM (Q:=λv H1=>kF iN v σ H1 D.nx)) (FQ hN hiN hyL hfN)) I
end
def Af (env:Env):List (Str × G')->Prop
|[]=>True
|p :: r=>env.cells.lookup p.1=dk p.2/\Af env r
theorem Af.all {env:Env}:∀ {cl:List (Str × G')},Af env cl->∀ p∈cl,env.cells.lookup p.1=dk p.2
|[],_,p,h=>by cases h
|q :: r,⟨a,b⟩,p,h=>by
  rcases Jx.mp h with rfl|h
  . exact a
  . exact Af.all b p h
theorem vn {α β:Type}{f:α->β}{b:β}:∀ {xs:List α},xs.map f=xs.map (λ_=>b)->∀ x∈xs,f x=b
|[],_,_,h=>by cases h
|y :: ys,e,x,h=>by
  rw[J1,J1]at e;injection e with e1 e2
  rcases Jx.mp h with z|z
  . rw[z];exact e1
  . exact vn e2 x z
def lT {X:Cx}{scope:Scope}{cl:List (Str × G')}{xs:List Str}(kind:scope.kind=.function) (clos:closureFor scope X.env=pure cl) (nocell:∀ y∈scope.names,y.2≠.cell) (names:∀ y∈scope.names,y.2=.local->scope.names.lookup y.1=dk .local)
 (xloc:xs.map (λx=>scope.names.lookup x)=xs.map λ_=>dk .local) (sub:Af X.env cl) (has:(scope.names.all λp=>p.2 != .free || (cl.lookup p.1).isSome)=l') (nox:xs.map (λx=>cl.lookup x)=xs.map λ_=>IX):CompOk X scope cl xs :=
 ⟨kind,clos,nocell,names,vn xloc,sub.all,λp hp hf=>by
  have h:=all_eq_true.mp has p hp;rw[hf]at h;have h':(cl.lookup p.1).isSome=l':=by simpa using h
  exact Option.isSome_iff_exists.mp h',vn nox⟩
section
variable {X:Cx}
end
def Iw (t u:TS):TS:=λD σ H=>∃ B:St->Hp->Prop,t { D with nx:=B } σ H/\∀ σ' H',B σ' H'->u D σ' H'
def iR {X:Cx}{st:JY}{rest:List JY}{t u:TS}(h1:PS X st t) (h2:PSs X rest u):PSs X (st :: rest) (Iw t u):=by
 intro Lz s σ H D I h;obtain⟨B,h,k⟩:=h;refine wpAny_execs_cons (thn (h1 Lz s σ H { D with nx:=B } I h) λf s1 q=>?_);cases f with
|next =>
  obtain⟨σ',H',I',q⟩:=q;exact h2 Lz s1 σ' H' D I' (k σ' H' q)
|ret v=>exact q
|brk=>exact q
|cont=>exact q
def HG (t:TT):TT:=λσ H Q=>∃ B:Bool->Hp->Prop,t σ H B/\∀ b H',B b H'->Q b H'
def ww {X:Cx}{e:Expr}{t:TT}(h:PT X e t):PT X e (HG t):=by
 intro Lz s σ H Q I q;obtain⟨B,q,k⟩:=q;exact thn (h Lz s σ H B I q) λb s1 uq13=>by(obtain⟨H1,I1,z⟩:=uq13;exact ⟨H1,I1,k b H1 z⟩)
mutual
theorem eqv_refl:∀ d:IV,d.canLay0=l'->Jm d d=l'
|.none,_=>rfl
|.bool b,_=>by simp[Jm]
|.int i,_=>by simp[Jm]
|.str t,_=>by simp[Jm]
|.list xs,h=>by
  have h':JM xs=l':=by simpa [IV.canLay0] using h
  simpa [Jm] using l5 xs h'
|.tuple xs,h=>by
  have h':JM xs=l':=by simpa [IV.canLay0] using h
  simpa [Jm] using l5 xs h'
|.dict _,h=>by simp[IV.canLay0]at h
theorem l5:∀ xs:List IV,JM xs=l'->IV.eqvAll xs xs=l'
|[],_=>rfl
|x :: xs,h=>by
  have h':x.canLay0=l'/\JM xs=l':=by simpa [JM] using h
  simp[IV.eqvAll,eqv_refl x h'.1,l5 xs h'.2]
end
section
variable {X:Cx}{pos:Pos}
def HY (K:Ja):R2:=λx y H Q=>Gv K x y H Q\/Gu K x y H Q
def CF:IxR X (HY X.K):=IxR.or aV aI
end
def mK {X:Cx}:q9 X (.builtin "len") (λxs H Q=>∃ p ys,xs=[.ref p]/\(SqL X.K H p ys\/SqT X.K H p ys)/\(ys.length <= Je->Q (.int ys.length) H)):=by
 intro Lz s σ H xs us Q I r h;obtain⟨p,ys,e,hq,q⟩:=h;have hb:ys.length <= Je:=by
  rcases hq with z|z
  . obtain⟨its,r',_,hz⟩:=I.list z;have:=r'.length;omega
  . obtain⟨its,r',_,hz⟩:=I.tuple z;have:=r'.length;omega
 exact bh Lz s σ H xs us Q I r ⟨p,ys,e,hq,q hb⟩
def lj {K:Ja}{H:Hp}{p:G'}{xs:List V}{i:Int}{v:V}{Q:VK}(h:SqL K H p xs\/SqT K H p xs) (e:atI xs i=dk v) (q:Q v H):HY K (.ref p) (.int i) H Q:=by
 rcases h with h|h
 . exact .inl ⟨p,xs,i,v,rfl,rfl,h,e,q⟩
 . exact .inr ⟨p,xs,i,v,rfl,rfl,h,e,q⟩
def cS.here {P:Jy}{w:Jj}{H:Hp}{h:JD}{a:G'}{o:HO}(x:cS P w H h a o):∃ ob,h.get? a=dk ob:=by
 cases o with
|lst xs=>obtain⟨_,_,_,_,e⟩:=x;exact⟨_,e⟩
|tup xs=>obtain⟨_,_,_,_,e,_⟩:=x;exact⟨_,e⟩
|dK kvs=>obtain⟨_,_,_,_,o,_,_,e,_⟩:=x;exact⟨_,e⟩
|dT kvs=>obtain⟨_,_,_,_,o,_,_,e,_⟩:=x;exact⟨_,e⟩
|set S n=>obtain⟨o,_,_,_,e,_⟩:=x;exact⟨_,e⟩
|ins C dx fs=>obtain⟨_,_,_,e,_⟩:=x;exact⟨_,e⟩
|own y=>exact x
|xd fs=>obtain⟨_,⟨_,_,_,e,_⟩,_⟩:=x;exact⟨_,e⟩
|rng lo hi=>obtain⟨_,_,_,e⟩:=x;exact⟨_,e⟩
|frz ob u=>exact⟨_,x.1⟩
|tbl ps=>exact⟨_,show h.get? a=dk _ from x⟩
|met f y=>exact⟨_,show h.get? a=dk _ from x⟩
|ext φ=>exact x.2.1
def HOk.nothing {P:Jy}{w:Jj}{H:Hp}{h:JD}{a:G'}(ok:HOk P w H h) (e:h.get? a=IX):H a=IX:=by
 cases q:H a with
|none=>rfl
|some o =>
  obtain⟨ob,e'⟩:=(ok a o q).here;rw[e']at e;cases e
def Trc (h:JD) (e T:G') (cls fl:IU):Prop :=
 ∃ oe vs oT ts a0,h.get? e=dk oe/\(oe.cls=cls/\vs[0]?=dk a0)/\oe.data=.fields vs/\vs[1]?=dk (.ref T)/\T≠e/\h.get? T=dk oT/\oT.data=.fields ts/\ts[3]?=dk fl
def Trc.on {h B:JD}{e T:G'}{cls fl:IU}(x:Trc h e T cls fl) (hB:B.get? T=IX):∃ a0,h.TracedAtW B e cls a0 fl:=by
 obtain⟨oe,vs,oT,ts,a0,h1,h2,h3,h4,h5,h6,h7,h8⟩:=x;exact⟨a0,oe,vs,T,oT,ts,h1,h2,h3,h4,hB,h5,h6,h7,h8⟩
def Apt (X:Cx) (Lz:List (G' × KP)) (H:Hp) (b:G'):Prop :=
 X.s₀.heap.get? b=IX/\H b=IX/\b≠X.env.locals/\(∀ x c,X.env.cells.lookup x=dk c->c≠b)/\∀ p∈X.pn++Lz,p.1≠b
section
variable {X:Cx}{Lz:List (G' × KP)}{σ:St}{H H':Hp}{s:IZ}{h':JD}
def Inv.apt (I:Inv X Lz σ H s) (hx:X.ex=[]) {b:G'}(e:s.heap.get? b=IX) (n:H' b=IX):Apt X Lz H' b:=by
 refine⟨?_,n,?_,λx c hc z=>?_,λp hp z=>?_⟩
 . cases q:X.s₀.heap.get? b with
  |none=>rfl
  |some o =>
    obtain⟨o',e'⟩:=I.base.there b o q (by rw[hx];simp);rw[e]at e';cases e'
 . rintro rfl;obtain⟨m,⟨o,_,_,ho,_⟩,_⟩:=I.loc;rw[e]at ho;cases ho
 . obtain⟨v,o,ho,_⟩:=I.cell x c hc;rw[z,e]at ho;cases ho
 . have ho:=(I.pin p hp).1;rw[z,e]at ho;cases ho
def Inv.fsIn (I:Inv X Lz σ H s):∀ b∈X.fs,b∈frs X.stack:=λb hb=>by
 rcases I.ok.stk with e|⟨e,f⟩
 . rw[e];exact hb
 . rw[e];show b∈List.filterMap (·.frame) (X.env :: X.outer);rw[filterMap_cons,f];exact Jh _ hb
def Inv.moved (I:Inv X Lz σ H s) (ch:List G') (hch:∀ b∈ch,Apt X Lz H b) (keep:∀ b o,b ∉ ch->b ∉ frs X.stack->s.heap.get? b=dk o->h'.get? b=dk o)
 (slot:∀ b o,b∈frs X.stack->s.heap.get? b=dk o->∃ sl,h'.get? b=dk { o with slots:=sl }):Inv X Lz σ H { s with heap:=h' }:=by
 have up:∀ b o,b ∉ ch->s.heap.get? b=dk o->∃ sl,h'.get? b=dk { o with slots:=sl }:=λb o n e=>by
  by_cases z:b∈frs X.stack
  . exact slot b o z e
  . exact⟨o.slots,keep b o n z e⟩
 have neL:∀ b o,X.s₀.heap.get? b=dk o->b≠X.env.locals:=λb o e=>Kc (Jf (Jr e) I.ok.above)
 have neC:∀ b o,X.s₀.heap.get? b=dk o->b ∉ ch:=λb o e z=>by
  rw[(hch b z).1]at e;cases e
 have nst:∀ b,b≠X.env.locals->b ∉ X.fs->b ∉ frs X.stack:=λb n1 n2 z=>(Jx.mp (I.stkSub b z)).elim n1 n2
 have cellU:∀ x c,X.env.cells.lookup x=dk c->∀ v,s.heap.IsCell c v->h'.IsCell c v:=λx c hc v ⟨o,ho,hd⟩=>by
  obtain⟨sl,q⟩:=up c o (λz=>(hch c z).2.2.2.1 x c hc rfl) ho;exact⟨_,q,hd⟩
 refine⟨I.ok,I.os,I.bare,⟨λb o e n hb hx=>?_,λb o e n hb hx=>?_,I.base.free,λb o e hx=>?_,I.base.tups,I.base.frzs,I.base.tbls⟩,?_,λx c e=>?_,I.free,I.freeC,λp hp=>?_,λa o e=>?_,I.len⟩
 . exact keep b o (neC b o e) (nst b (neL b o e) hb) (I.base.keep b o e n hb hx)
 . obtain⟨sl,e1⟩:=I.base.slot b o e n hb hx;obtain⟨sl',e2⟩:=slot b _ (I.fsIn b hb) e1;exact⟨sl',e2⟩
 . obtain⟨o',e1⟩:=I.base.there b o e hx;obtain⟨sl,e2⟩:=up b o' (neC b o e) e1;exact⟨_,e2⟩
 . obtain⟨m,⟨o,es,ep,ho,r⟩,hl⟩:=I.loc;obtain⟨sl,q⟩:=up _ o (λz=>(hch _ z).2.2.1 rfl) ho;refine⟨m,⟨_,es,ep,q,r⟩,λi x v e1 e2 e3=>?_⟩;obtain⟨u,r',l⟩:=hl i x v e1 e2 e3;refine⟨u,r',?_⟩;rcases l with l|⟨k,c,e,z⟩
   . exact .inl l
   . exact .inr ⟨k,c,e,cellU x c e _ z⟩
 . obtain⟨v,z⟩:=I.cell x c e;exact⟨v,cellU x c e v z⟩
 . obtain⟨e,n,ne,nf,d⟩:=I.pin p hp;exact⟨keep p.1 p.2 (λz=>(hch p.1 z).2.2.2.2 p hp rfl) (nst p.1 ne nf) e,n,ne,nf,d⟩
 . refine(I.hok a o e).stay (λb u hb q=>keep b u (λz=>?_) (λz=>?_) q) (λ_ q=>q) λ_ _ q=>q
   . have n:=(hch b z).2.1;rcases hb with rfl|hb
     . rw[n]at e;cases e
     . rw[n]at hb;cases hb
   . have n:=I.stkFree b z;rcases hb with rfl|hb
     . rw[n]at e;cases e
     . rw[n]at hb;cases hb
abbrev hid (X:Cx) (h:JD) (e T:G'):JD:=hideAll h (e :: T :: frs X.stack)
def li {h:JD}{e T:G'}:(hid X h e T).StaysIn h:=λ_ _ q=>of_hideAll _ q
def jU {h:JD}{e T:G'}(F:h.FunFrames X.base X.stack):h.FunFrames (hid X h e T) X.stack :=
 funFrames_hide F λenv he a ha=>Jh _ (Jh _ (mem_filterMap.mpr ⟨env,he,ha⟩))
def DS {h:JD}{e T:G'}:(hid X h e T).get? e=IX:=hideAll_none _ Jg
def DF {h:JD}{e T:G'}:(hid X h e T).get? T=IX:=hideAll_none _ (Jh _ Jg)
def Inv.flown (hx:X.ex=[]) (I:Inv X Lz σ H s) {e T:G'}{cls a0 fl:IU}(aE:Apt X Lz H e) (aT:Apt X Lz H T) (k1:(hid X s.heap e T).StaysIn h') (k2:h'.FunFrames (hid X s.heap e T) X.stack)
 (k3:h'.TracedAtW (hid X s.heap e T) e cls a0 fl) (k4:s.heap.UpToSlots h'):Inv X Lz σ H { s with heap:=h' }/\∃ T',Trc h' e T' cls fl/\Apt X Lz H T':=by
 refine⟨I.moved [e,T] (λb hb=>?_) (λb o n1 n2 q=>?_) (λb o hb q=>?_),?_⟩
 . rcases Jx.mp hb with rfl|hb
   . exact aE
   . rw[IW.mp hb];exact aT
 . refine k1 b o (hideAll_get _ q λz=>?_);rcases Jx.mp z with z|z
   . exact n1 (by rw[z];exact Jg)
   . rcases Jx.mp z with z|z
     . exact n1 (by rw[z];simp)
     . exact n2 z
 . obtain⟨_,o',e',hd⟩:=I.stack.mem hb;rw[q]at e';cases e';exact k4 b o q hd
 . obtain⟨oe,vs,T',oT,ts,h1,h2,h3,h4,h5,h6,h7,h8,h9⟩:=k3;refine⟨T',⟨oe,vs,oT,ts,a0,h1,h2,h3,h4,h6,h7,h8,h9⟩,?_⟩;by_cases z:T'=T
   . rw[z];exact aT
   . have nf:T' ∉ frs X.stack:=λy=>by
      obtain⟨_,o',e',hd⟩:=k2.mem y;rw[h7]at e';cases e';exact hd _ h8
     have hn:s.heap.get? T'=IX:=by
      cases q:s.heap.get? T' with
     |none=>rfl
     |some o =>
       have:=hideAll_get (e :: T :: frs X.stack) q λy=>by
        rcases Jx.mp y with y|y
        . exact h6 y
        . rcases Jx.mp y with y|y
          . exact z y
          . exact nf y
       rw[h5]at this;cases this
     exact I.apt hx hn (I.hok.nothing hn)
end
def CXv (P:Jy) (w:Jj):CXT:=λouter H s E e s'=>∃ (ex T:G') (cls:IU) (H':Hp),e=.ref ex/\s'.os=s.os/\AllBare s'.gens/\Un (frs outer) [] H H' s.heap s'.heap/\HOk P w H' s'.heap/\Trc s'.heap ex T cls .none /\
 s.heap.get? ex=IX/\s.heap.get? T=IX/\H' ex=IX/\H' T=IX/\E cls IX H'
structure Raisy (X:Cx) (E:XK):Prop where
 ex:X.ex=[]
 stk:X.stack=X.env :: X.outer
 frm:X.env.frame=dk X.env.locals
 xe:X.xe=λe s'=>Jl (model X.prog X.w) X.A («leaving» X.env e) (λ_ s''=>CXv X.prog X.w X.outer X.H₀ X.s₀ E e s'') (λe' s''=>CXv X.prog X.w X.outer X.H₀ X.s₀ E e' s'') s'
section
variable {X:Cx}{Lz:List (G' × KP)}{σ:St}{H H':Hp}{s:IZ}{E:XK}
def Inv.out (hx:X.ex=[]) (I:Inv X Lz σ H s) {e T:G'}{cls:IU}(t:Trc s.heap e T cls .none) (aE:Apt X Lz H e) (aT:Apt X Lz H T) (q:E cls IX H):CXv X.prog X.w X.outer X.H₀ X.s₀ E (.ref e) s:=by
 refine⟨e,T,cls,H,rfl,I.os,I.bare,?_,I.hok,t,aE.1,aT.1,aE.2.1,aT.2.1,q⟩;have u:=I.base;rw[hx]at u;exact u
def xm (R:Raisy X E) (I:Inv X Lz σ H s) {e:G'}{cls:IU}{args:List IU}{h2:JD}(M:JD.MadeExcOf s.heap h2 e cls args) (q:E cls IX H):X.xe (.ref e) { s with heap:=h2 }:=by
 rw[R.xe];have aE:Apt X Lz H e:=I.apt R.ex M.new (I.hok.nothing M.new);have I2:Inv X Lz σ H { s with heap:=h2 }:=I.kept (t':=s.toks) M.keeps;obtain⟨t,he,_,_⟩:=M.there;have hA:X.A.frames=dk (X.env :: X.outer):=by rw[<-R.stk];exact I.ok.frames
 have FF:=jU (e:=e) (T:=e) I2.stack;rw[R.stk]at FF;refine wpAny_leaving_firstW (base:=hid X h2 e e) (a0:=.ref t) hA FF R.frm he li DS rfl rfl rfl λh' hL=>?_
 obtain⟨k1,k2,k3,k4⟩:=hL;rw[<-R.stk]at k2;obtain⟨I3,T',t3,aT⟩:=I2.flown R.ex aE aE k1 k2 k3 k4;exact I3.out R.ex t3 aE aT q
def Raisy.passes (R:Raisy X E):ky (CXv X.prog X.w) X E:=by
 intro Lz σ H s e s' I h;obtain⟨ex,T,cls,H',rfl,os,bare,un,hok,t,n1,n2,n3,n4,q⟩:=h;have I2:Inv X Lz σ H' s':=I.call' (ch:=[]) os un hok bare (λb z=>absurd z (by simp));have aE:Apt X Lz H' ex:=I.apt R.ex n1 n3;have aT:Apt X Lz H' T:=I.apt R.ex n2 n4;rw[R.xe];have hA:X.A.frames=dk (X.env :: X.outer):=by rw[<-R.stk];exact I.ok.frames
 have FF:=jU (e:=ex) (T:=T) I2.stack;rw[R.stk]at FF;obtain⟨a0,tw⟩:=t.on (DF (X:=X) (h:=s'.heap) (e:=ex) (T:=T));refine wpAny_leaving_nextW (base:=hid X s'.heap ex T) (a0:=a0) hA FF R.frm tw li DS λh' hL=>?_
 obtain⟨k1,k2,k3,k4⟩:=hL;rw[<-R.stk]at k2;obtain⟨I3,T',t3,aT'⟩:=I2.flown R.ex aE aT k1 k2 k3 k4;exact I3.out R.ex t3 aE aT' q
end
def veB:List IU:=[.type "ValueError",.type "Exception",.type "BaseException",.type "object"]
def E8 {K:Ja}{h:JD}{C:G'}(X:K.In h) (q:excIn K C veB "ValueError.__new__"=l') :
 ∃ bm N nm qn bs hd sn sub ab col dd k0 k1 k2 k3 k5 mN,h.get? C=dk (excClassObj nm qn C N bs bm hd sn sub ab col dd k0 k1 k2 k3 k5 "ValueError.__new__")/\h.Ns N mN/\mN "__init__"=IX/\OwnTail h veB bm:=by
 unfold excIn at q;split at q
 . rename_i dd cd sl ho;split at q
   . rename_i C' bm k0 k1 k2 k3 n k5 hm hs;obtain⟨nm,bs,mro,ns,qn,hd,sn,sub,ab,col,del⟩:=cd;simp only[Kn,beq_iff_eq,Lb]at q hm;have q1:=q.1.1.1.1.1;have q2:=q.1.1.1.1.2;have q3:=q.1.1.1.2;have es:sl=#[k0,k1,k2,k3,dk (.builtin n),k5]:=Array.ext' hs;rw[hm,q3,es,q1,q2]at ho;have hok:=q.1.2;refine⟨bm,ns,nm,qn,bs,hd,sn,sub,ab,col,dd,k0,k1,k2,k3,k5,h.nsMap ns,X _ _ ho,?_,nsMap_none_of_in X hok q.2,tail_of_in X q.1.1.2⟩;exact JD.Ns.of_isNs (isNs_of_in X hok)
   . cases q
 . cases q
def Ft (E:XK) (C:G') (t:TA):TS:=λ_ σ H=>t σ H λvs H1=>vs.length <= Je/\E (.ref C) IX H1
def iJ {X:Cx}{E:XK}{x:Str}{C:G'}{e:Expr}{es:List Expr}{t:TA}{np cpos pos:Pos}(R:Raisy X E) (hh:X.A.handled=IX) (hg:Gl X x) (hm:X.mg x=dk (.ref C)) (hc:excIn X.K C veB "ValueError.__new__"=l')
 (ha:PA X (e :: es) t) (hdb:(x == ("__debug__":Str))=f':=by decide) (he:JG (e :: es) X.env=(f',eval e X.env) :: JG es X.env:=by rfl) (hpl:(Lw cpos (JG (e :: es) X.env)).any (·.1)=f':=by rfl) :
 PS X (.Raise (dk (.Call (.Name x np) (e :: es) [] cpos)) IX pos) (Ft E C t):=by
 intro Lz s σ H D I h;obtain⟨bm,N,nm,qn,bs,hd,sn,sub,ab,col,dd,k0,k1,k2,k3,k5,mN,hC,hN,hni,TL⟩:=E8 I.ok.mod.kin hc;refine wpAny_Raise_call_subT (C:=C) (nm:=nm) (q:=qn) (N:=N) (bs:=bs) (bm:=bm) (hdct:=hd) (sn:=sn) (sub:=sub) (ab:=ab) (col:=col) (dd:=dd) (k0:=k0) (k1:=k1) (k2:=k2) (k3:=k3) (k5:=k5) PySem.F.excBase_ValueError (mN:=mN)
  (TL.hasType PySem.F.excBase_ValueError.hasBase) hh hpl hni (ir I hg hm ⟨rfl,?_⟩ hdb)
 have hq:=ha cpos Lz s σ H _ I h;have e2:Lw cpos (JG (e :: es) X.env)=Lw cpos ((f',eval e X.env) :: JG es X.env):=by rw[he]
 rw[e2]at hq |-;refine K3 (thn hq λus s2 ur50=>?_);obtain⟨vs,H2,I2,r,z,q⟩:=ur50;exact⟨rfl,by rw[<-r.length];exact z,I2.bk _ _ hC,hN.keeps I2.bk,TL.keeps I2.bk,λh' ex M=>xm R I2 M q⟩
def Fun.okX {P:Jy}{w:Jj}{K:Ja}{mg:Str->Option IU}{base:JD}{x qual:Str}{st:JY}{f:G'}{fd:Ji}{N ps:List Str}{k:Nat}{sp:Sp}(F:Fun K x qual st f fd) (S:FnScope N ps (ai st)) (len:∀ vs H Q E,sp vs H Q E->vs.length=ps.length)
 (hbody:∀ (cdv:IU) (A:JN) (outer:List Env) (s:IZ) (H:Hp) (vs:List V) (Q:VK) (E:XK),Room k (A.deeper (envOfC qual (ai st) s.heap.objs.size f cdv))->Raisy (CV (CXv P w) P w K mg base N qual (ai st) f cdv A outer s H E) E->sp vs H Q E ->
  ∃ t,PSs (CV (CXv P w) P w K mg base N qual (ai st) f cdv A outer s H E) (eC st) t/\t { nx:=λ_ H'=>Q .non H',rt:=Q } (sL N vs) H):FnOk P w K mg base (CXv P w) (k+1) f fd ps sp:=by
 obtain⟨oc,od,kV,doc,pm,an,cdv,ct,osl,rfl,lk,hcd⟩:=F.ex;exact FP lk hcd S len λA outer s H vs Q E hr hsp=>hbody cdv A outer s H vs Q E hr ⟨rfl,rfl,rfl,rfl⟩ hsp
abbrev Cx.tryX (X:Cx) (Lz:List (G' × KP)) (R:St->IU->Hp->Prop):Cx :=
 { X with pn:=X.pn++Lz,xe:=λe s'=>∃ (ex T:G') (cls:IU) (σ':St) (H':Hp),e=.ref ex/\Inv X Lz σ' H' s'/\Trc s'.heap ex T cls .none/\Apt X Lz H' ex/\Apt X Lz H' T/\R σ' cls H' }
abbrev Cx.inH (X:Cx) (e:IU):Cx:={ X with A:=X.A.mark (dk e),calm:=f',xe:=λ_ _=>False }
section
variable {X:Cx}{Lz pins':List (G' × KP)}{σ:St}{H H':Hp}{s:IZ}{R:St->IU->Hp->Prop}{e:IU}
def Cx.Ok.try_ (ok:X.Ok):(X.tryX Lz R).Ok:=⟨ok.mod,ok.kind,ok.glob,ok.blt,ok.above,ok.inj,ok.has,ok.cab,ok.hd,ok.frames,ok.stk,ok.exf,ok.bs,ok.bsz,ok.noex,ok.exfs,ok.funs,ok.frf⟩
def Cx.Ok.untry (ok:(X.tryX Lz R).Ok):X.Ok:=⟨ok.mod,ok.kind,ok.glob,ok.blt,ok.above,ok.inj,ok.has,ok.cab,ok.hd,ok.frames,ok.stk,ok.exf,ok.bs,ok.bsz,ok.noex,ok.exfs,ok.funs,ok.frf⟩
theorem Inv.try_ (I:Inv X Lz σ H s):Inv (X.tryX Lz R) [] σ H s:=⟨I.ok.try_,I.os,I.bare,I.base,I.loc,I.cell,I.free,I.freeC,λp hp=>I.pin p (by simpa [Cx.tryX] using hp),I.hok,I.len⟩
theorem Inv.untry (I:Inv (X.tryX Lz R) pins' σ H s):Inv X Lz σ H s:=⟨I.ok.untry,I.os,I.bare,I.base,I.loc,I.cell,I.free,I.freeC,λp hp=>I.pin p (List.mem_append_left _ hp),I.hok,I.len⟩
theorem Cx.Ok.inH (ok:X.Ok):(X.inH e).Ok:=⟨ok.mod,ok.kind,ok.glob,ok.blt,ok.above,ok.inj,ok.has,ok.cab,λz=>(by cases z),ok.frames,ok.stk,ok.exf,ok.bs,ok.bsz,ok.noex,ok.exfs,ok.funs,ok.frf⟩
theorem Inv.inH (I:Inv X Lz σ H s):Inv (X.inH e) Lz σ H s:=⟨I.ok.inH,I.os,I.bare,I.base,I.loc,I.cell,I.free,I.freeC,I.pin,I.hok,I.len⟩
def Inv.outH (ok:X.Ok) (I:Inv (X.inH e) Lz σ H s):Inv X Lz σ H s:=⟨ok,I.os,I.bare,I.base,I.loc,I.cell,I.free,I.freeC,I.pin,I.hok,I.len⟩
theorem SP.outH {D:Ends}{f:Flow}{s':IZ}(ok:X.Ok) (h:SP (X.inH e) Lz D f s'):SP X Lz D f s':=by
 cases f with
|next=>obtain⟨σ',H',I,q⟩:=h;exact⟨σ',H',I.outH ok,q⟩
|brk=>obtain⟨σ',H',I,q⟩:=h;exact⟨σ',H',I.outH ok,q⟩
|cont=>obtain⟨σ',H',I,q⟩:=h;exact⟨σ',H',I.outH ok,q⟩
|ret u=>obtain⟨v,σ',H',I,r,q⟩:=h;exact⟨v,σ',H',I.outH ok,r,q⟩
theorem SP.untry {D:Ends}{f:Flow}{s':IZ}(h:SP (X.tryX Lz R) pins' D f s'):SP X Lz D f s':=by
 cases f with
|next=>obtain⟨σ',H',I,q⟩:=h;exact⟨σ',H',I.untry,q⟩
|brk=>obtain⟨σ',H',I,q⟩:=h;exact⟨σ',H',I.untry,q⟩
|cont=>obtain⟨σ',H',I,q⟩:=h;exact⟨σ',H',I.untry,q⟩
|ret u=>obtain⟨v,σ',H',I,r,q⟩:=h;exact⟨v,σ',H',I.untry,r,q⟩
end
structure Framed (X:Cx):Prop where
 ex:X.ex=[]
 stk:X.stack=X.env :: X.outer
 frm:X.env.frame=dk X.env.locals
abbrev TH:=Ends->St->IU->Hp->Prop
def PH (X:Cx) (hs:List ExceptHandler) (t:TH):Prop :=
 ∀ (Lz:List (G' × KP)) (s:IZ) (σ:St) (H:Hp) (D:Ends) (ex T:G') (cls:IU),Inv X Lz σ H s->Trc s.heap ex T cls .none->Apt X Lz H ex->Apt X Lz H T->t D σ cls H ->
  Jl (model X.prog X.w) X.A (handleBy (.ref ex) X.env hs) (SP X Lz D) X.xe s
def Hg:TH:=λ_ _ _ _=>False
def D4 {X:Cx}:PH X [] Hg:=λ_ _ _ _ _ _ _ _ _ _ _ _ h=>h.elim
def Gm (K:Ja) (C:IU) (tb:TS) (tr:TH):TH:=λD σ cls H=>∃ b,Ki K cls C=dk b/\if b=l' then tb D σ H else tr D σ cls H
section
variable {X:Cx}
def Trc.ty {M:Model}{h:JD}{e T:G'}{cls fl:IU}(t:Trc h e T cls fl):Looks M h (typeOf (.ref e)) cls:=by
 obtain⟨oe,vs,oT,ts,a0,h1,⟨rfl,_⟩,_⟩:=t;exact(Looks.ld h1).andThen .now
def HL {Lz:List (G' × KP)}{σ:St}{H:Hp}{s:IZ}{ex T:G'}{cls fl:IU}{A:JN}{Q:Unit->IZ->Prop}{E:IU->IZ->Prop}(hx:X.ex=[]) (I:Inv X Lz σ H s) (t:Trc s.heap ex T cls fl) (aE:Apt X Lz H ex) (aT:Apt X Lz H T)
 (h:∀ s' T',Inv X Lz σ H s'->Trc s'.heap ex T' cls .none->Apt X Lz H T'->Q () s'):Jl (model X.prog X.w) A (setFlight (.ref ex) IX) Q E s:=by
 obtain⟨a0,tw⟩:=t.on (DF (X:=X) (h:=s.heap) (e:=ex) (T:=T));refine wpAny_setFlight_noneW (base:=hid X s.heap ex T) (l:=X.stack) li (jU I.stack) tw λh' k1 k2 k3 k4=>?_
 obtain⟨I3,T',t3,aT'⟩:=I.flown hx aE aT k1 k2 k3.at λb o q n=>⟨o.slots,k4 b o q n⟩
 exact h _ T' I3 t3 aT'
def oy {x:Str}{C:G'}{b₀:JY}{suite:List JY}{np pos:Pos}{rest:List ExceptHandler}{tb:TS}{tr:TH}(F:Framed X) (hg:Gl X x) (hm:X.mg x=dk (.ref C)) (hb:∀ e,PSs (X.inH e) (b₀ :: suite) tb) (hr:PH X rest tr)
 (hdb:(x == ("__debug__":Str))=f':=by decide):PH X (.ExceptHandler (dk (.Name x np)) IX (b₀ :: suite) pos :: rest) (Gm X.K (.ref C) tb tr):=by
 intro Lz s σ H D ex T cls I t aE aT h;obtain⟨b,hx,h⟩:=h;refine wpAny_handleBy_cons (codeAny_handlers_test (ir (X:=X.inH (.ref ex)) I.inH hg hm ?_ hdb)) (by intro q;cases q);refine(exm_one (M:=model X.prog X.w) I.kIn t.ty hx).at ?_;cases b with
|false=>exact hr Lz s σ H D ex T cls I t aE aT h
|true =>
  refine codeAny_handlers_suite (HL F.ex I t aE aT λs' T' I' t' aT'=>?_);exact Lu (hb (.ref ex) Lz s' σ H D I'.inH h) (λf s2 q=>q.outH I.ok) λ_ _ z=>Kj z
def Io (tb:(St->IU->Hp->Prop)->TS) (th:TH):TS:=λD σ H=>∃ R:St->IU->Hp->Prop,tb R D σ H/\∀ σ' cls H',R σ' cls H'->th D σ' cls H'
def De {body:List JY}{h₀:ExceptHandler}{hs:List ExceptHandler}{pos:Pos}{tb:(St->IU->Hp->Prop)->TS}{th:TH}(F:Framed X) (hb:∀ Lz R,PSs (X.tryX Lz R) body (tb R)) (hh:PH X (h₀ :: hs) th):PS X (.Try body (h₀ :: hs) [] [] pos) (Io tb th):=by
 intro Lz s σ H D I h;obtain⟨R,h,k⟩:=h;refine wpAny_Try_except (Lu (hb Lz R [] s σ H D I.try_ h) (λf s1 q=>?_) λe s1 q=>?_)
 . have q':=q.untry;cases f with
  |next=>exact wpAny_execs_nil q'
  |brk=>exact q'
  |cont=>exact q'
  |ret u=>exact q'
 . obtain⟨ex,T,cls,σ',H',rfl,I1,t,aE,aT,r⟩:=q;have hA:X.A.frames=dk (X.env :: X.outer):=by rw[<-F.stk];exact I.ok.frames
   have FF:=jU (e:=ex) (T:=T) I1.stack;rw[F.stk]at FF;obtain⟨a0,tw⟩:=t.on (DF (X:=X) (h:=s1.heap) (e:=ex) (T:=T));refine wpAny_noteFrame_onW (base:=hid X s1.heap ex T) (a0:=a0) hA FF F.frm tw li DS λh' hL=>?_
   obtain⟨k1,k2,k3,k4⟩:=hL;rw[<-F.stk]at k2;obtain⟨I2,T2,t2,aT2⟩:=I1.flown F.ex aE aT k1 k2 k3 k4;exact HL F.ex I2 t2 aE aT2 λs3 T3 I3 t3 aT3=>hh Lz s3 σ' H' D ex T3 cls I3 t3 aE aT3 (k σ' cls H' r)
end
def Fw (C:G') (m:Str) (sp:Sp) (dvs:List V) (R:St->IU->Hp->Prop) (ta:TE) (t:TA):TE:=λσ H Q=>ta σ H λx H1=>∃ a dx fs,x=.ref a/\H1 a=dk (.ins C dx fs)/\fs.lookup m=IX /\
 t σ H1 λvs H2=>sp (x :: (vs++dvs)) H2 Q λcls _ H'=>R σ cls H'
section
variable {X:Cx}{k:Nat}{f C:G'}{fd:Ji}{ps:List Str}{sp:Sp}{dvs:List V}{ds:List IU}{x m:Str}{p pos apos:Pos}{e o:Expr}{es:List Expr}{ta:TE}{t:TA}{Lz:List (G' × KP)}{R:St->IU->Hp->Prop}
def Es {pins':List (G' × KP)}{σ:St}{H:Hp}{s:IZ}{Q:VK}{us:List IU}{vs:List V}(hx:X.ex=[]) (F:FnOk X.prog X.w X.K X.mg X.base (CXv X.prog X.w) k f fd ps sp) (hr:Room k X.A) (hb:aD X.K fd ps ds) (hd:bE dvs ds)
 (I:Inv (X.tryX Lz R) pins' σ H s) (r:bE vs us) (h:sp (vs++dvs) H Q λcls _ H'=>R σ cls H'):Jl (model X.prog X.w) X.A (call (.ref f) us) (EP (X.tryX Lz R) pins' σ Q) (X.tryX Lz R).xe s:=by
 have r2:bE (vs++dvs) (us++ds):=r.append hd;have hl:(us++ds).length=ps.length:=r2.length.symm.trans (F.len _ _ _ _ h);refine wpAny_call (codeAny_mono (F.run X.A X.stack s H ⟨us,[]⟩ _ _ Q _ hr I.env0 (hb s us I.kIn hl) r2 h) λr s' hq=>?_);cases r with
|error e =>
  obtain⟨ex,T,cls,H',rfl,os,bare,un,hok,t,n1,n2,n3,n4,q⟩:=hq;exact⟨ex,T,cls,σ,H',rfl,(I.call' (ch:=[]) os un hok bare (λb z=>absurd z (by simp))).untry,t,I.untry.apt hx n1 n3,I.untry.apt hx n2 n4,q⟩
|ok fl =>
  cases fl with
 |ret u=>exact I.after hq
 |next=>exact Kj hq
 |brk=>exact Kj hq
 |cont=>exact Kj hq
def vM {pl:Sem Bool}(hx:X.ex=[]) (he:PE (X.tryX Lz R) o ta) (c:Cls X.K C) (hm:Meth X.K C m f) (F:FnOk X.prog X.w X.K X.mg X.base (CXv X.prog X.w) k f fd ps sp) (hr:Room k X.A) (hb:aD X.K fd ps ds) (hd:bE dvs ds) (ha:PA (X.tryX Lz R) (e :: es) t)
 (hst:JG (e :: es) X.env=(f',eval e X.env) :: JG es X.env:=by rfl) (hpl:(Lw pos (JG es X.env)).any (·.1)=f':=by rfl)
 (ht:eval (.Call (.Attribute o m apos) (e :: es) [] pos) X.env=(do
  let ov <-eval o X.env
  standAt apos.atName
  let (f,first) <-holding [ov] (getMethod ov m pl)
  callWith pos f first (Lw pos (JG (e :: es) X.env)) (backToKw pos (keywordEach [] X.env))):=by rfl) :
 PE (X.tryX Lz R) (.Call (.Attribute o m apos) (e :: es) [] pos) (Fw C m sp dvs R ta t):=by
 intro pins' s σ H Q I h;refine methodCall_KW (pl:=pl) (thn (he pins' s σ H _ I h) λu s1 z=>?_) ht;obtain⟨x,H1,I1,rx,a,dx,fs,ex,ea,l,q⟩:=z;subst ex;cases (show u=JC a from rx);refine m5 I1 ea c hm l (callWith_K (first:=[.ref a]) (h₀:=X.base) I.ok.mod.kin hm.kp (thn (ha pos pins' s1 σ H1 _ I1 q) λus s2 z=>?_) hst hpl);obtain⟨vs,H2,I2,r,q2⟩:=z;exact⟨I2.kIn,Es (us:=.ref a :: us) (vs:=.ref a :: vs) hx F hr hb hd I2 (.cons rfl r) q2⟩
end
end L2
namespace PySem.W
open PySem PySem.Calls PyProof.Rows Builtin Builtin.ObjectAttr Builtin.Getset_descriptor
section
variable {prog:Jy}{w:Jj}{A:JN}{E:IU->IZ->Prop}{h:JD}{g:Array GenState}{d:Drawn}{t:Nat}{os:OsState}{K:Frag}{x C:G'}{ox:KP}
end
end PySem.W
namespace L2
open PySem PySem.Spec PyProof.Rows
section
variable {X:Cx}{Lz:List (G' × KP)}{σ:St}{H:Hp}{s:IZ}
def Inv.seen {x:G'}{o:HO}(I:Inv X Lz σ H s) (a:Apt X Lz H x) (new:cS X.prog X.w (upd H x o) s.heap x o):Inv X Lz σ (upd H x o) s:=by
 obtain⟨a1,a2,a3,a4,a5⟩:=a;have ne:∀ b u,H b=dk u->b≠x:=λb u e z=>by rw[z,a2]at e;cases e
 refine⟨I.ok,I.os,I.bare,⟨I.base.keep,I.base.slot,λb u e n hx=>?_,I.base.there,λb xs e=>?_,λb u v e=>?_,λb ps e=>?_⟩,I.loc,I.cell,?_,λy c e=>?_,λp hp=>?_,λb u e=>?_,I.len⟩
 . rw[ac (λz=>by rw[z,a1]at e;cases e)];exact I.base.free b u e n hx
 . have q:=I.base.tups b xs e;rw[ac (ne _ _ q)];exact q
 . have q:=I.base.frzs b u v e;rw[ac (ne _ _ q)];exact q
 . obtain⟨more,q⟩:=I.base.tbls b ps e;exact⟨more,by rw[ac (ne _ _ q)];exact q⟩
 . rw[ac (K5 a3)];exact I.free
 . rw[ac (a4 y c e)];exact I.freeC y c e
 . obtain⟨e,n,r⟩:=I.pin p hp;exact⟨e,by rw[ac (a5 p hp)];exact n,r⟩
 . by_cases hb:b=x
   . subst hb;rw[a8]at e;cases e;exact new
   . rw[ac hb]at e;refine(I.hok b u e).stay (λ_ _ _ q=>q) (λc q=>?_) λc xs q=>?_
     . rw[ac (ne _ _ q)];exact q
     . rw[ac (ne _ _ q)];exact q
end
end L2
namespace PySem
open Sem (wp)
def SqI (b:Bool) (h:JD) (i l:G') (k:Nat):Prop:=match b with
|false=>h.IsListIter i l k
|true=>h.IsTupleIter i l k
def SqA (b:Bool) (h:JD) (l:G') (xs:Array IU):Prop:=match b with
|false=>h.IsList l xs
|true=>h.IsTuple l xs
def SqI.at {b:Bool}{h h':JD}{i l:G'}{k:Nat}(x:SqI b h i l k) (e:∀ o,h.get? i=dk o->h'.get? i=dk o):SqI b h' i l k:=by
 cases b<;>(obtain⟨o,h1,r⟩:=x;exact⟨o,e o h1,r⟩)
def SqA.at {b:Bool}{h h':JD}{l:G'}{xs:Array IU}(x:SqA b h l xs) (e:∀ o,h.get? l=dk o->h'.get? l=dk o):SqA b h' l xs:=by
 cases b<;>(obtain⟨o,h1,r⟩:=x;exact⟨o,e o h1,r⟩)
def SqI.obj {b:Bool}{h:JD}{i l:G'}{k:Nat}(x:SqI b h i l k):∃ o,h.get? i=dk o/\∀ v,o.data≠.cell v:=by
 cases b<;>(obtain⟨o,h1,_,h3⟩:=x;exact⟨o,h1,λv z=>by rw[h3]at z;cases z⟩)
def SqA.lt {b:Bool}{h:JD}{l:G'}{xs:Array IU}(x:SqA b h l xs):l < h.objs.size:=by
 cases b<;>(obtain⟨o,h1,_⟩:=x;exact Jr h1)
section
variable {prog:Jy}{w:Jj}{A:JN}{E:IU->IZ->Prop}{s:IZ}
def yH {b:Bool}{it l:G'}{i:Nat}{items:Array IU}{x:IU}{Q:IU->IZ->Prop}(hit:SqI b s.heap it l i) (hl:SqA b s.heap l items) (hx:items[i]?=dk x)
 (hQ:∀ h',SqI b h' it l (i+1)->KN it s.heap h'->Q x { s with heap:=h' }):Jl (model prog w) A (Ko (.ref it)) Q E s:=by
 cases b with
|false=>exact wpAny_nextOf_list_item hit hl hx hQ
|true =>
  have hty:s.TypeIs (.ref it) "tuple_iterator":=JD.IsTupleIter.typeIs hit;obtain⟨o,ho,hc,hd⟩:=id hit;obtain⟨ol,hol,_,nl,hdl⟩:=hl;unfold Ko;refine D' (J2 (name:=K1 "__next__") hty F.slot_tuple_iterator_next (Kb F.slot_tuple_iterator_next hty F.entry_tuple_iterator_next ?_ (F.args_tuple_iterator_next_1 _)));show Jl _ _ (field (.ref it) 0 >>= _) _ _ s;refine D' (KI ho hd (x:=.ref l) rfl ?_);show Jl _ _ (if (JC l == Ke)=l' then _ else _) _ _ s;rw[Pb (show ¬ ((JC l == Ke)=l') from Jo)];show Jl _ _ (field (.ref it) 1 >>= _) _ _ s;refine D' (KI ho hd (x:=.int i 0) rfl ?_);show Jl _ _ (seqItems? (.ref l) >>= _) _ _ s;refine D' (Li hol hdl ?_);simp only[toNat_natCast,hx];refine D' (wpAny_setField ho hd (by simp) (IY ⟨x,rfl,IY (hQ _ ?_ (KH ..))⟩));exact⟨_,Lo _ ho (KP.isFreed_of_fields (KP.data_mapFields hd _)),(KP.cls_mapFields ..).trans hc,by rw[KP.data_mapFields hd];simp[rawInt]⟩
def vg {b:Bool}{it l:G'}{i:Nat}{items:Array IU}{Q:IU->IZ->Prop}(hh:A.handled=IX) (hit:SqI b s.heap it l i) (hl:SqA b s.heap l items) (hx:items[i]?=IX)
 (hE:∀ h' e,JD.ExtBut it s.heap h'->(∃ o,h'.get? e=dk o/\o.cls=.type "StopIteration")->E (.ref e) { s with heap:=h' }):Jl (model prog w) A (Ko (.ref it)) Q E s:=by
 cases b with
|false=>exact wpAny_nextOf_list_end hh hit hl hx hE
|true =>
  have hty:s.TypeIs (.ref it) "tuple_iterator":=JD.IsTupleIter.typeIs hit;obtain⟨o,ho,hc,hd⟩:=id hit;obtain⟨ol,hol,_,nl,hdl⟩:=hl;unfold Ko;refine D' (J2 (name:=K1 "__next__") hty F.slot_tuple_iterator_next (Kb F.slot_tuple_iterator_next hty F.entry_tuple_iterator_next ?_ (F.args_tuple_iterator_next_1 _)));show Jl _ _ (field (.ref it) 0 >>= _) _ _ s;refine D' (KI ho hd (x:=.ref l) rfl ?_);show Jl _ _ (if (JC l == Ke)=l' then _ else _) _ _ s;rw[Pb (show ¬ ((JC l == Ke)=l') from Jo)];show Jl _ _ (field (.ref it) 1 >>= _) _ _ s;refine D' (KI ho hd (x:=.int i 0) rfl ?_);show Jl _ _ (seqItems? (.ref l) >>= _) _ _ s;refine D' (Li hol hdl ?_);simp only[toNat_natCast,hx];refine D' (K6 (D' (wpAny_setField ho hd (by simp) ?_)));show Jl _ _ (newExc (.type "StopIteration") [] >>= _) _ _ _;refine D' ?_;simp only[newExc,newTuple];refine D' (Kw ?_ (by size_fits));refine D' (m:=firstArgMember _ _) (wpAny_of_eq (a:=Ke) (by first|rfl|(simp only[firstArgMember];rfl)) ?_);refine Kw ?_ (by size_fits);simp only[raiseNew];refine D' (wpAny_handled ?_)
  first|rw[show A.in1.handled=IX from hh]|rw[hh]
  refine D' (IY (wpAny_throw ?_));exact hE _ _ (((KH ..).extBut.push _).push _) ⟨_,Jq _ rfl,rfl⟩
def va {b:Bool}{z TI TO i1 i2 l1 l2:G'}{k1 k2:Nat}{xs ys:Array IU}{x y a c:IU}{Q:Option IU->IZ->Prop}(D:ZipApart z TI TO i1 i2 l1 l2)
 (hz:IsZip s.heap z TI TO .none) (hTI:IsPair s.heap TI (.ref i1) (.ref i2)) (hTO:IsPair s.heap TO a c)
 (h1:SqI b s.heap i1 l1 k1) (h2:SqI b s.heap i2 l2 k2) (hl1:SqA b s.heap l1 xs) (hl2:SqA b s.heap l2 ys) (hx:xs[k1]?=dk x) (hy:ys[k2]?=dk y)
 (hQ:∀ h',IsZip h' z TI TO (rawInt s.heap.objs.size)->IsPair h' TO x y->SqI b h' i1 l1 (k1+1)->SqI b h' i2 l2 (k2+1)->IsPair h' s.heap.objs.size x y ->
  (∀ c o,c≠z->c≠TO->c≠i1->c≠i2->s.heap.get? c=dk o->h'.get? c=dk o)->Q (dk (.ref s.heap.objs.size)) { s with heap:=h' }):Jl (model prog w) A (pyNext (.ref z)) Q E s:=by
 have hT:s.TypeIs (.ref z) "zip":=⟨_,hz,rfl⟩
 unfold pyNext;refine D' (wpAny_attempt (J2 (name:=K1 "__next__") hT F.slot_zip_next (Kb F.slot_zip_next hT F.entry_zip_next ?_ (F.args_zip_next_1 _))));show Jl _ _ (field (.ref z) 2 >>= _) _ _ _;refine D' (KI hz rfl (x:=.bool f') rfl ?_);show Jl _ _ (field (.ref z) 3 >>= _) _ _ _;refine D' (KI hz rfl (x:=.ref TI) rfl (D' (Li hTI rfl ?_)));show Jl _ _ (KL (.ref z) >>= _) _ _ _;refine D' ?_;unfold KL;refine D' (KI hz rfl (x:=.none) rfl (IY ?_));simp only[if_true];refine D' (K6 (D' (KI hz rfl (x:=.ref TO) rfl (D' (wpAny_setField_rec hz (by simp) λg1 z1 e1=>?_)))))
 replace z1:IsZip g1 z TI TO .ellipsis:=z1
 refine D' ?_;simp only[List.zipIdx_cons,List.zipIdx_nil,forIn_cons,forIn_nil];refine D' (D' (wpAny_onRaise ?_));show Jl _ _ (Ko (.ref i1) >>= _) _ _ _;refine D' (yH (h1.at λo e=>e1.extBut _ _ D.i1z e) (hl1.at λo e=>e1.extBut _ _ D.l1z e) hx λg2 h1' e2=>IY ?_);have t2:IsPair g2 TO a c:=e2.extBut _ _ D.TOi1 (e1.extBut _ _ D.TOz hTO);refine D' (Li t2 rfl (D' (wpAny_updateSeq_pair t2 λg3 t3 e3=>?_)))
 replace t3:IsPair g3 TO x c:=t3
 refine D' (wpAny_letGo (IY ?_));refine D' (D' (wpAny_onRaise ?_));show Jl _ _ (Ko (.ref i2) >>= _) _ _ _;refine D' (yH (h2.at λo e=>e3.extBut _ _ D.TOi2.symm (e2.extBut _ _ D.i12.symm (e1.extBut _ _ D.i2z e))) (hl2.at λo e=>e3.extBut _ _ D.l2TO (e2.extBut _ _ D.l2i1 (e1.extBut _ _ D.l2z e))) hy λg4 h2' e4=>IY ?_);have t4:IsPair g4 TO x c:=e4.extBut _ _ D.TOi2 t3;refine D' (Li t4 rfl (D' (wpAny_updateSeq_pair t4 λg5 t5 e5=>?_)))
 replace t5:IsPair g5 TO x y:=t5
 refine D' (wpAny_letGo (IY (IY ?_)));refine D' (Li t5 rfl (D' (wpAny_newTuple ?_)));have hsz:g5.objs.size=s.heap.objs.size:=by rw[e5.1,e4.1,e3.1,e2.1,e1.1]
 have z5:IsZip g5 z TI TO .ellipsis:=e5.extBut _ _ D.TOz.symm (e4.extBut _ _ D.i2z.symm (e3.extBut _ _ D.TOz.symm (e2.extBut _ _ D.i1z.symm z1)));have k5:∀ c o,c≠z->c≠TO->c≠i1->c≠i2->s.heap.get? c=dk o->g5.get? c=dk o:=λc o c1 c2 c3 c4 e =>
  e5.extBut _ _ c2 (e4.extBut _ _ c4 (e3.extBut _ _ c2 (e2.extBut _ _ c3 (e1.extBut _ _ c1 e))))
 have w1:SqI b g5 i1 l1 (k1+1):=h1'.at λo e=>e5.extBut _ _ D.TOi1.symm (e4.extBut _ _ D.i12 (e3.extBut _ _ D.TOi1.symm e))
 have w2:SqI b g5 i2 l2 (k2+1):=h2'.at λo e=>e5.extBut _ _ D.TOi2.symm e
 have zlt:z < g5.objs.size:=Jr z5;show Jl _ _ (Builtin.SmallTypes.ownedTupleHandOut (.ref z) (.ref g5.objs.size) >>= _) _ _ _;refine D' ?_;unfold Builtin.SmallTypes.ownedTupleHandOut;have z6:IsZip (g5.push { cls:=.type "tuple",data:=.seq #[x,y] }) z TI TO .ellipsis:=Jc _ z5;refine D' (wpAny_setField_rec z6 (by simp) λg7 z7 e7=>?_)
 replace z7:IsZip g7 z TI TO (rawInt g5.objs.size):=z7
 refine wpAny_setField_rec z7 (by simp) λg8 z8 e8=>?_
 replace z8:IsZip g8 z TI TO (rawInt g5.objs.size):=z8
 have up:∀ c o,c≠z->g5.get? c=dk o->g8.get? c=dk o:=λc o c1 e=>e8.extBut _ _ c1 (e7.extBut _ _ c1 (Jc _ e))
 have t8:IsPair g8 g5.objs.size x y:=e8.extBut _ _ (ne_of_gt zlt) (e7.extBut _ _ (ne_of_gt zlt) (Jq _ rfl));rw[hsz]at z8 t8;refine IY ⟨_,rfl,IY ?_⟩;show Q (dk (.ref g5.objs.size)) _;rw[hsz];exact hQ g8 z8 (up _ _ D.TOz t5) (w1.at λo e=>up _ o D.i1z e) (w2.at λo e=>up _ o D.i2z e) t8 λc o c1 c2 c3 c4 e=>up c o c1 (k5 c o c1 c2 c3 c4 e)
def xy {b:Bool}{z TI TO i1 i2 l1 l2:G'}{k1:Nat}{xs:Array IU}{Q:Option IU->IZ->Prop}(hh:A.handled=IX) (D:ZipApart z TI TO i1 i2 l1 l2)
 (hz:IsZip s.heap z TI TO .none) (hTI:IsPair s.heap TI (.ref i1) (.ref i2)) (h1:SqI b s.heap i1 l1 k1) (hl1:SqA b s.heap l1 xs) (hx:xs[k1]?=IX)
 (hQ:∀ h',(∀ c o,c≠z->c≠i1->s.heap.get? c=dk o->h'.get? c=dk o)->Q IX { s with heap:=h' }):Jl (model prog w) A (pyNext (.ref z)) Q E s:=by
 have hT:s.TypeIs (.ref z) "zip":=⟨_,hz,rfl⟩
 unfold pyNext;refine D' (wpAny_attempt (J2 (name:=K1 "__next__") hT F.slot_zip_next (Kb F.slot_zip_next hT F.entry_zip_next ?_ (F.args_zip_next_1 _))));show Jl _ _ (field (.ref z) 2 >>= _) _ _ _;refine D' (KI hz rfl (x:=.bool f') rfl ?_);show Jl _ _ (field (.ref z) 3 >>= _) _ _ _;refine D' (KI hz rfl (x:=.ref TI) rfl (D' (Li hTI rfl ?_)));show Jl _ _ (KL (.ref z) >>= _) _ _ _;refine D' ?_;unfold KL;refine D' (KI hz rfl (x:=.none) rfl (IY ?_));simp only[if_true];refine D' (K6 (D' (KI hz rfl (x:=.ref TO) rfl (D' (wpAny_setField_rec hz (by simp) λg1 z1 e1=>?_)))))
 replace z1:IsZip g1 z TI TO .ellipsis:=z1
 refine D' ?_;simp only[List.zipIdx_cons,List.zipIdx_nil,forIn_cons,forIn_nil];refine D' (D' (wpAny_onRaise ?_));show Jl _ _ (Ko (.ref i1) >>= _) _ _ _;refine D' (vg hh (h1.at λo e=>e1.extBut _ _ D.i1z e) (hl1.at λo e=>e1.extBut _ _ D.l1z e) hx λg2 e e2 he=>?_);obtain⟨oe,hoe,hce⟩:=he;have z2:IsZip g2 z TI TO .ellipsis:=e2 _ _ D.i1z.symm z1;have hez:e≠z:=λq=>by subst q;rw[z2]at hoe;cases hoe;simp at hce
 refine wpAny_setField_rec z2 (by simp) λg3 _ e3=>?_
 refine D' (wpAny_isInstance (T:="StopIteration") (b:=l') ⟨oe,e3.extBut _ _ hez hoe,hce⟩ isSubtype_stop ?_);exact IY (hQ g3 λc o c1 c2 q=>e3.extBut _ _ c1 (e2 _ _ c2 (e1.extBut _ _ c1 q)))
abbrev Cb (h:JD) (l1:G'):JD:=h.push { cls:=.type "tuple_iterator",data:=.fields #[.ref l1,.int 0 0] }
abbrev B1 (h:JD) (l1 l2:G'):JD:=(Cb h l1).push { cls:=.type "tuple_iterator",data:=.fields #[.ref l2,.int 0 0] }
abbrev Bi (h:JD) (l1 l2:G'):JD:=(B1 h l1 l2).push { cls:=.type "tuple",data:=.seq #[.ref h.objs.size,.ref (Cb h l1).objs.size] }
abbrev BT (h:JD) (l1 l2:G'):JD:=(Bi h l1 l2).push { cls:=.type "tuple",data:=.seq #[.none,.none] }
abbrev xp (h:JD) (l1 l2:G'):JD:=(BT h l1 l2).push { cls:=.type "zip",data:=.fields #[.none,.bool f',.bool f',.ref (B1 h l1 l2).objs.size,.ref (Bi h l1 l2).objs.size] }
def yf (l1 l2:G') (xs ys:Array IU) :
 Meets (Builtin.«zip.__new__» ⟨[.type "zip",.ref l1,.ref l2],[]⟩) (λ_ R s=>s.heap.IsTuple l1 xs/\s.heap.IsTuple l2 ys/\R (.ok (.ret (.ref (BT s.heap l1 l2).objs.size))) { s with heap:=xp s.heap l1 l2 }) :=
 .of_wp λprog w A R s h=>by
  obtain⟨hp,g,d,tk,os⟩:=s;obtain⟨hl1,hl2,h⟩:=h;have hsub:=sub_zip;have hL1:JD.IsTuple (IZ.heap ⟨hp,g,d,tk,os⟩) l1 xs:=hl1;have hL2:JD.IsTuple (IZ.heap ⟨hp.push { cls:=.type "tuple_iterator",data:=.fields #[.ref l1,.int 0 0] },g,d,tk,os⟩) l2 ys:=JD.IsTuple.push hl2 _
  wp_walk using wpAny_pyIter_tuple hL1,wpAny_pyIter_tuple hL2
  exact⟨_,rfl,h⟩
def vC {b:Bool}{l1 l2:G'}{xs ys:Array IU}{Q:IU->IZ->Prop}(hl1:SqA b s.heap l1 xs) (hl2:SqA b s.heap l2 ys)
 (h:∀ h',IsZip h' (s.heap.objs.size+4) (s.heap.objs.size+2) (s.heap.objs.size+3) .none->IsPair h' (s.heap.objs.size+2) (.ref s.heap.objs.size) (.ref (s.heap.objs.size+1)) ->
  IsPair h' (s.heap.objs.size+3) .none .none->SqI b h' s.heap.objs.size l1 0->SqI b h' (s.heap.objs.size+1) l2 0->(∀ c o,s.heap.get? c=dk o->h'.get? c=dk o)->Q (.ref (s.heap.objs.size+4)) { s with heap:=h' }) :
 Jl (model prog w) A (call (.type "zip") [.ref l1,.ref l2]) Q E s:=by
 cases b with
|false=>exact call_zip_2 hl1 hl2 λh' a1 a2 a3 a4 a5 _ a7=>h h' a1 a2 a3 a4 a5 a7
|true =>
  refine callType_new F.called_zip (by decide) (F.typeCall_zip_2 _ _) (F.newCall_zip_2 _ _) (λobj=>F.args_object_init_3 obj _ _) F.entry_zip_new (yf l1 l2 xs ys) ⟨hl1,hl2,?_⟩;have z1:(Cb s.heap l1).objs.size=s.heap.objs.size+1:=JD.size_push ..;have z2:(B1 s.heap l1 l2).objs.size=s.heap.objs.size+2:=by rw[JD.size_push,z1]
  have z3:(Bi s.heap l1 l2).objs.size=s.heap.objs.size+3:=by rw[JD.size_push,z2]
  have z4:(BT s.heap l1 l2).objs.size=s.heap.objs.size+4:=by rw[JD.size_push,z3]
  have g5:(xp s.heap l1 l2).get? (BT s.heap l1 l2).objs.size=dk _:=Jq _ rfl;have g4:(xp s.heap l1 l2).get? (Bi s.heap l1 l2).objs.size=dk _:=Jc _ (Jq _ rfl);have g3:(xp s.heap l1 l2).get? (B1 s.heap l1 l2).objs.size=dk _:=Jc _ (Jc _ (Jq _ rfl));have g2:(xp s.heap l1 l2).get? (Cb s.heap l1).objs.size=dk _:=Jc _ (Jc _ (Jc _ (Jq _ rfl)));have g1:(xp s.heap l1 l2).get? s.heap.objs.size=dk _:=Jc _ (Jc _ (Jc _ (Jc _ (Jq _ rfl))));show _/\_;rw[z2,z3,z4]at g5;rw[z1,z2]at g3;rw[z3]at g4;rw[z1]at g2;rw[z4];exact⟨⟨_,g5,rfl⟩,h _ g5 g3 g4 ⟨_,g1,rfl,rfl⟩ ⟨_,g2,rfl,rfl⟩ λc o x=>Jc _ (Jc _ (Jc _ (Jc _ (Jc _ x))))⟩
end
end PySem
namespace L2
open PySem PySem.Spec PyProof.Rows
def Sq (b:Bool) (K:Ja) (H:Hp) (a:G') (xs:List V):Prop:=match b with
|false=>SqL K H a xs
|true=>SqT K H a xs
section
variable {X:Cx}
def Inv.sq {Lz:List (G' × KP)}{σ:St}{H:Hp}{s:IZ}{b:Bool}{a:G'}{xs:List V}(I:Inv X Lz σ H s) (h:Sq b X.K H a xs):∃ its:List IU,bE xs its/\SqA b s.heap a its.toArray:=by
 cases b with
|false=>obtain⟨its,r,p,_⟩:=I.list h;exact⟨its,r,p.isList⟩
|true=>obtain⟨its,r,p,_⟩:=I.tuple h;exact⟨its,r,p⟩
def Inv.sq_inj {Lz:List (G' × KP)}{σ:St}{H:Hp}{s:IZ}{b:Bool}{a:G'}{xs ys:List V}(I:Inv X Lz σ H s) (h:Sq b X.K H a xs) (h':Sq b X.K H a ys):xs=ys:=by
 cases b
 . exact I.list_inj h h'
 . exact I.tuple_inj h h'
def Inv.turnedL {Lz:List (G' × KP)}{σ:St}{H:Hp}{s:IZ}{h':JD}{t':Nat}{ch:List G'}(I:Inv X Lz σ H s) (hf:∀ b∈ch,xB X Lz H b) (k:∀ b o,b ∉ ch->s.heap.get? b=dk o->h'.get? b=dk o):Inv X Lz σ H { s with heap:=h',toks:=t' }:=by
 refine I.step (g':=s.gens) (d':=s.drawn) (ch:=ch) (λb hb=>?_) (λb o _ _ n e _=>k b o n e) (λb o _ _ n e _=>⟨o.slots,k b o n e⟩) (λ_ _ _ _ n=>n) (λb o n e=>⟨o,k b o n e⟩) (λ_ _ q=>q) (λ_ _ _ q=>q) (λ_ ps q=>⟨#[],by rw[Array.append_empty];exact q⟩) (λm hm=>?_) (λa o e=>?_) I.bare
 . obtain⟨_,f1,_,f3,f4,f5⟩:=hf b hb;exact⟨f3,f1,f4,f5⟩
 . obtain⟨o,es,ep,ho,r⟩:=hm;exact⟨o,es,ep,k _ o (λz=>(hf _ z).2.1 rfl) ho,r⟩
 . refine(I.hok a o e).stay (λb u hb q=>k b u (λz=>?_) q) (λ_ q=>q) λ_ _ q=>q
   have n:=(hf b z).1;rcases hb with rfl|hb
   . rw[n]at e;cases e
   . rw[n]at hb;cases hb
def Inv.aptSz {Lz:List (G' × KP)}{σ:St}{H:Hp}{s:IZ}{b:G'}(I:Inv X Lz σ H s) (hb:s.heap.objs.size <= b) (hn:H b=IX):Apt X Lz H b:=by
 obtain⟨_,f1,_,_,f4,f5⟩:=I.fpOk hb hn;refine⟨?_,hn,f1,f4,f5⟩;cases q:X.s₀.heap.get? b with
|none=>rfl
|some o=>exact absurd (Jf (Jr q) (JT I.sz hb)) (Lv _)
def Itz (b:Bool) (K:Ja) (a1 a2:G'):It :=
 ⟨λi H=>∃ xs ys x y,Sq b K H a1 xs/\Sq b K H a2 ys/\xs[i]?=dk x/\ys[i]?=dk y,
  λi H v H'=>∃ T x y,H T=IX/\v=.ref T/\H'=upd H T (.tup [x,y])/\(∀ xs,Sq b K H a1 xs->xs[i]?=dk x)/\∀ ys,Sq b K H a2 ys->ys[i]?=dk y,
  λi H=>∃ xs,Sq b K H a1 xs/\xs.length <= i⟩
def Cp {P:Jy}{w:Jj}{K:Ja}{elts:List Expr}{kt:Nat}{pt:Pos}{b:Bool}{z TI TO i1 i2 a1 a2:G'}(D:ZipApart z TI TO i1 i2 a1 a2) :
 Turn P w K (.Tuple elts kt pt) (Itz b K a1 a2) [z,TI,TO,i1,i2] z (λi h=>IsZip h z TI TO .none/\IsPair h TI (.ref i1) (.ref i2)/\(∃ a c,IsPair h TO a c)/\SqI b h i1 a1 i/\SqI b h i2 a2 i) where
 mem:=Jg
 obj:=λi h st c hc=>by
  obtain⟨s1,s2,⟨_,_,s3⟩,s4,s5⟩:=st;simp only[Jx,JW,or_false]at hc;rcases hc with rfl|rfl|rfl|rfl|rfl
  . exact⟨_,s1,λv q=>by cases q⟩
  . exact⟨_,s2,λv q=>by cases q⟩
  . exact⟨_,s3,λv q=>by cases q⟩
  . exact s4.obj
  . exact s5.obj
 keep:=λi h h' st k=>by
  obtain⟨s1,s2,⟨u,v,s3⟩,s4,s5⟩:=st;exact⟨k z (by simp) _ s1,k TI (by simp) _ s2,⟨u,v,k TO (by simp) _ s3⟩,s4.at λo e=>k i1 (by simp) o e,s5.at λo e=>k i2 (by simp) o e⟩
 item:=by
  intro X hP hw hK hc i Lz s σ H E I hf st hg;subst hP hw hK;obtain⟨s1,s2,⟨u,v,s3⟩,s4,s5⟩:=st;obtain⟨xs,ys,x,y,q1,q2,hx,hy⟩:=hg;obtain⟨us,r1,p1⟩:=I.sq q1;obtain⟨ws,r2,p2⟩:=I.sq q2;obtain⟨ux,hux,rx⟩:=r1.get hx;obtain⟨uy,huy,ry⟩:=r2.get hy;refine va D s1 s2 s3 s4 s5 p1 p2 (x:=ux) (y:=uy) (by simpa using hux) (by simpa using huy) λh' t1 t2 t3 t4 t5 kk=>?_
  have hfresh:H s.heap.objs.size=IX:=I.hok.fresh (Jd _);have lt:∀ {c o},s.heap.get? c=dk o->c≠s.heap.objs.size:=λe=>Kc (Jr e)
  refine⟨_,rfl,wpAny_letOwnedTupleGo_zip t1 λh'' u1 e2=>?_⟩;have ch:∀ c o,c ∉ [z,TO,i1,i2]->s.heap.get? c=dk o->h''.get? c=dk o:=λc o n e=>by
   have n1:c≠z:=λq=>n (by simp[q])
   exact e2.extBut _ _ n1 (kk c o n1 (λq=>n (by simp[q])) (λq=>n (by simp[q])) (λq=>n (by simp[q])) e)
  have sub:∀ c∈[z,TO,i1,i2],c∈[z,TI,TO,i1,i2]:=λc hc=>by
   simp only[Jx,JW,or_false]at hc |-;rcases hc with h|h|h|h<;>simp[h]
  have I1:Inv X Lz σ H { s with heap:=h'' }:=I.turnedL (t':=s.toks) (λb hb=>hf b (sub b hb)) ch;have T5:IsPair h'' s.heap.objs.size ux uy:=e2.extBut _ _ (lt s1).symm t5;have apt:=I.aptSz (Jd s.heap.objs.size) hfresh;have I2:=I1.seen (o:=.tup [x,y]) apt ⟨by show 2 <= Je;decide,[ux,uy],.cons rx (.cons ry .nil),⟨_,T5,rfl,_,rfl⟩⟩;refine⟨.ref s.heap.objs.size,_,I2,rfl,⟨_,x,y,hfresh,rfl,rfl,λzs hz=>by rw[I.sq_inj hz q1];exact hx,λzs hz=>by rw[I.sq_inj hz q2];exact hy⟩,⟨u1,e2.extBut _ _ D.TIz (kk _ _ D.TIz D.TITO D.TIi1 D.TIi2 s2),⟨_,_,e2.extBut _ _ D.TOz t2⟩,t3.at λo e=>e2.extBut _ _ D.i1z e,t4.at λo e=>e2.extBut _ _ D.i2z e⟩,λb hb=>?_⟩;obtain⟨o,ho,_⟩:∃ o,s.heap.get? b=dk o/\True:=by
   simp only[Jx,JW,or_false]at hb;rcases hb with rfl|rfl|rfl|rfl|rfl
   . exact⟨_,s1,trivial⟩
   . exact⟨_,s2,trivial⟩
   . exact⟨_,s3,trivial⟩
   . obtain⟨o,e,_⟩:=s4.obj;exact⟨o,e,trivial⟩
   . obtain⟨o,e,_⟩:=s5.obj;exact⟨o,e,trivial⟩
  rw[ac (lt ho)];exact(hf b hb).1
 done:=by
  intro X hP hw hK hc i Lz s σ H E I hf st hg;subst hP hw hK;obtain⟨s1,s2,_,s4,s5⟩:=st;obtain⟨xs,q1,hx⟩:=hg;obtain⟨us,r1,p1⟩:=I.sq q1;have hl:=r1.length;exact xy (I.ok.hd hc) D s1 s2 s4 p1 (by simp;omega) λh' kk=>⟨rfl,I.turnedL (t':=s.toks) (ch:=[z,i1]) (λb hb=>hf b (by
   simp only[Jx,JW,or_false]at hb |-;rcases hb with q|q<;>simp[q])) λb o n e=>kk b o (λq=>n (by simp[q])) (λq=>n (by simp[q])) e⟩
 self:=λA i s Q E st hQ=>wpAny_pyIter_zip st.1 hQ
def GK (K:Ja) (ta:TA):TI:=λσ H R=>ta σ H λvs H1=>∃ b a1 a2 xs ys,vs=[.ref a1,.ref a2]/\Sq b K H1 a1 xs/\Sq b K H1 a2 ys/\R (Itz b K a1 a2) H1
def Cc:Kh "zip"=dk (.type "zip"):=by decide +kernel
def yU {n l1 l2:Nat}(h1:l1 < n) (h2:l2 < n):ZipApart (n+4) (n+2) (n+3) n (n+1) l1 l2:=by
 constructor<;>(show (_:Nat)≠_;omega)
def Fc {a c:Expr}{ta:TA}{p pos pt:Pos}{elts:List Expr}{kt:Nat}(hg:Gl X "zip") (hm:X.mg "zip"=IX) (ha:PA X [a,c] ta) (hs:JG [a,c] X.env=[(f',eval a X.env),(f',eval c X.env)]:=by rfl) (hs2:JG [c] X.env=[(f',eval c X.env)]:=by rfl) :
 PI X (.Tuple elts kt pt) (.Call (.Name "zip" p) [a,c] [] pos) (GK X.K ta):=by
 intro Lz s σ H R I h;refine Call_ (oY I hg hm Cc (Ld (thn (ha pos Lz s σ H _ I h) λus s1 ur51=>?_) (by rw[hs,hs2]) (by rw[hs2];rfl)));obtain⟨vs,H1,I1,r1,q1⟩:=ur51;obtain⟨b,a1,a2,xs,ys,e,h1,h2,q⟩:=q1;subst e;obtain⟨u,w',rfl,ru,rw⟩:=F5 r1;cases ru;cases rw;obtain⟨us,_,p1⟩:=I1.sq h1;obtain⟨ws,_,p2⟩:=I1.sq h2;refine vC p1 p2 λh' z1 z2 z3 z4 z5 kk=>wpAny_pyIter_zip z1 ?_
 have fr:∀ b,s1.heap.objs.size <= b->xB X Lz H1 b:=λb hb=>I1.fpOk hb (I1.hok.fresh hb)
 refine⟨_,[s1.heap.objs.size+4,s1.heap.objs.size+2,s1.heap.objs.size+3,s1.heap.objs.size,s1.heap.objs.size+1],_,_,H1,rfl,I1.kept (t':=s1.toks) kk,Cp (yU p1.lt p2.lt),⟨z1,z2,⟨_,_,z3⟩,z4,z5⟩,λb hb=>fr b ?_,q⟩;simp only[Jx,JW,or_false]at hb;rcases hb with rfl|rfl|rfl|rfl|rfl<;>omega
end
section
variable {X:Cx}
def DI:V->List V->Hp->VK->Prop:=λx vs H Q=>∃ (l:G') (ns:List Int) (i:Int),x=.ref l/\vs=[.int i]/\H l=dk (.lst (ns.map V.int))/\i∈ns/\Q .non (upd H l (.lst ((ns.erase i).map V.int)))
theorem wX:∀ {us:List IU}{ns:List Int}{m:Nat}{n:Int},IntsAre us ns->ns[m]?=dk n->∃ t,us[m]?=dk (.int n t)
|_,_,_,_,.nil,h=>by simp at h
|_,_,0,_,.cons n t _,h=>by simp at h;subst h;exact⟨t,rfl⟩
|_,_,m+1,_,.cons _ _ r,h=>by
  obtain⟨t,e⟩:=wX (m:=m) r (by simpa using h);exact⟨t,by simpa using e⟩
theorem bE.erase:∀ {xs:List V}{us:List IU}(j:Nat),bE xs us->bE (xs.eraseIdx j) (us.eraseIdx j)
|_,_,_,.nil=>.nil
|_,_,0,.cons _ t=>t
|_,_,j+1,.cons r t=>.cons r (bE.erase j t)
theorem tK {α β:Type}(f:α->β):∀ (xs:List α) (j:Nat),(xs.map f).eraseIdx j=(xs.eraseIdx j).map f
|[],_=>rfl
|_ :: _,0=>rfl
|x :: xs,j+1=>by
  show f x :: (xs.map f).eraseIdx j=f x :: (xs.eraseIdx j).map f;rw[tK f xs j]
def zy:MtM X "list.remove" DI:=by
 intro Lz s σ H x vs v us Q I rx rv h;obtain⟨l,ns,i,rfl,rfl,hH,hi,q⟩:=h;cases rx;obtain⟨u,rfl,ru⟩:=rv.one;obtain⟨t,rfl⟩:=ru;obtain⟨z,its,n,r,hl,e⟩:=I.lstM hH;have ia:=xi r;rw[Jk]at hl z;have hj:ns.idxOf i < ns.length:=List.idxOf_lt_length_of_mem hi;obtain⟨tj,hitj⟩:=wX ia (Jb hj);rw[List.getElem_idxOf hj]at hitj;have hjs:ns.idxOf i < its.toArray.size:=by rw[Js,<-hl];exact hj
 let f:IU->Bool:=λy=>match y with
 |.int a _=>a == i
 |_=>f'
 have eit:its.toArray[ns.idxOf i]=.int i tj:=by
  have h2:its.toArray[ns.idxOf i]?=dk (.int i tj):=by rw[<-Kv];exact hitj
  rw[JE hjs]at h2;exact Jt h2
 refine call_meets F.slot_list_remove ⟨_,e,rfl⟩ F.entry_list_remove (F.args_list_remove_2 _ _)
  (MeetsSeq.list_remove l its.toArray n (.int i t) f (λy hy=>?_) (ns.idxOf i) hjs (by rw[eit];simp[f]) (λm hm hlt=>?_) (by rw[Js];omega)) ⟨e,?_⟩
 . obtain⟨m,hm,rfl⟩:=getElem_of_mem (Array.mem_toList_iff.mpr hy);have hmn:m < ns.length:=by
    have:m < its.length:=hm;omega
   obtain⟨t',ht'⟩:=wX ia (Jb hmn);have:its.toArray.toList[m]=.int ns[m] t':=by
    have h2:=Jb (l:=its) (show m < its.length from hm);rw[ht']at h2;exact(Jt h2).symm
   rw[this];exact MeetsSeq.EqGives.int _ _ _ _
 . have hmn:m < ns.length:=by omega
   obtain⟨t',ht'⟩:=wX ia (Jb hmn);have em:its.toArray[m]=.int ns[m] t':=by
    have h2:its.toArray[m]?=dk (.int ns[m] t'):=by rw[<-Kv];exact ht'
    rw[JE hm]at h2;exact Jt h2
   rw[em];show (ns[m] == i)=f';have:=List.not_of_lt_findIdx (p:=(· == i)) (xs:=ns) (i:=m) hlt;simpa using this
 . have ee:(ns.erase i).map V.int=(ns.map V.int).eraseIdx (ns.idxOf i):=by
    rw[List.erase_eq_eraseIdx_of_idxOf rfl,tK]
   rw[ee]at q;refine⟨.non,_,I.lset (its':=its.eraseIdx (ns.idxOf i)) hH e ?_ (bE.erase _ r) ?_,rfl,q⟩
   . show its.toArray.eraseIdxIfInBounds (ns.idxOf i)=(its.eraseIdx (ns.idxOf i)).toArray;rw[List.eraseIdxIfInBounds_toArray]
   . have:=List.length_eraseIdx_le (ns.map V.int) (ns.idxOf i);rw[Jk]at this;omega
theorem AC:∀ {us:List IU}{ns:List Int},IntsAre us ns->bE (ns.map V.int) us
|_,_,.nil=>.nil
|_,_,.cons n t r=>.cons ⟨t,rfl⟩ (AC r)
def o9:Kh "sorted"=dk (.builtin "sorted"):=by decide +kernel
end
section
variable {X:Cx}
theorem qJ {P:Jy}{w:Jj}:∀ {vs:List (Key × IU)}{ns:List Int}{us:List IU},vs.map (·.1)=ns.map KZ->us.length=vs.length ->
 (∀ (j:Nat) (u:IU),us[j]?=dk u->∃ k x,vs[j]?=dk (k,x)/\(br P w).is k u=l')->IntsAre us ns
|[],[],[],_,_,_=>.nil
|[],[],_ :: _,_,h,_=>by cases h
|[],_ :: _,_,h,_,_=>by cases h
|_ :: _,[],_,h,_,_=>by cases h
|_ :: _,_ :: _,[],_,h,_=>by cases h
|(k,x) :: vs,n :: ns,u :: us,e,h,g=>by
  have e1:k=KZ n:=by simpa using (List.cons.inj e).1
  subst e1;have r:=qJ (P:=P) (w:=w) (us:=us) (List.cons.inj e).2 (by simpa using h) λj u' hu=>by
   obtain⟨k',x',q,q2⟩:=g (j+1) u' (by simpa using hu);exact⟨k',x',by simpa using q,q2⟩
  obtain⟨k',x',q,q2⟩:=g 0 u rfl;cases q;rcases bg (show nk (KZ n) u=l' from q2) with⟨i,t,e1,e2⟩|⟨y,t,e1,e2⟩
  . cases e1;subst e2;exact .cons _ t r
  . cases e1
def mV (hc:X.calm=l'):q9 X (.builtin "sorted") (λxs H Q=>∃ (p:G') (kvs:List (Key × V)) (ns:List Int),xs=[.ref p]/\H p=dk (.dK kvs)/\kvs.map (·.1)=ns.map KZ/\ns.length < 64 /\
 ∀ (l:G') (ns':List Int),H l=IX->ns'.Perm ns->ns'.Pairwise (· <= ·)->Q (.ref l) (upd H l (.lst (ns'.map V.int)))):=by
 intro Lz s σ H xs us Q I r h;obtain⟨p,kvs,ns,rfl,hH,hk,h64,q⟩:=h;obtain⟨u,rfl,rx⟩:=sh r;cases rx;obtain⟨z,hd,vs,rel,dd⟩:=ze I.hok hH;have hl:=rel.length;have hkv:vs.map (·.1)=ns.map KZ:=by rw[<-hk];exact rel.keys.symm
 have hln:ns.length=vs.length:=by
  have:=congrArg Kz hkv;simpa using this.symm
 obtain⟨ep,hat⟩:=dd.dictAt;refine Calls.call_function_entry kind_sorted plain_sorted entry_sorted (args_sorted1 _) ?_;unfold Builtin.«sorted»;refine D' (m:=checkCount "sorted" 1 1 _) (IY ?_);refine D' (kdu_collect (A:=X.A.in1) (kdl_dict (knd:=br X.prog X.w) (kvs:=vs) (ep:=ep) hd) (I.ok.hd hc) hat (by omega) λh' tk acc hkp hacc=>?_);have I1:Inv X Lz σ H { s with heap:=h',toks:=tk }:=I.kept (t':=tk) hkp;have hal:acc.toList.length=vs.length:=by rw[La];exact hacc.1
 have hI:IntsAre acc.toList ns:=qJ (P:=X.prog) (w:=X.w) hkv hal λj u hu=>by
  obtain⟨k,x,e,g⟩:=hacc.2 j u (by rw[<-Kv];exact hu);exact⟨k,x,e,g⟩
 refine D' (wpAny_newList ?_ (by rw[hal];omega));have hoL:(h'.push (Ks "list" acc.toList.toArray 0)).get? h'.objs.size=dk (Ks "list" acc.toList.toArray 0):=Jq _ rfl;show Jl _ _ _ _ _ { s with heap:=h'.push (Ks "list" acc.toList.toArray 0),toks:=tk };refine D' (Kl (Kb slot_list_sort ⟨_,hoL,rfl⟩ entry_list_sort (list_sort_tree hoL hI (by omega) λout ns' a1 a2 a3=>⟨_,rfl,?_⟩) (args_list_sort _)));obtain⟨e,he⟩:=sortedHeap_at (out:=out) hoL;refine IY ⟨_,rfl,.ref h'.objs.size,_,I1.laid (t':=tk) (o:=.lst (ns'.map V.int)) (λb o' q=>?_) (Jd _) ?_,rfl,q _ _ (I1.hok.fresh (Jd _)) a2 a3⟩
 . rw[sortedHeap_old (Kc (Jr q)) (by rw[size_push'];exact Nat.lt_succ_of_lt (Jr q))];exact Jc _ q
 . exact⟨by rw[Jk,a2.length_eq];omega,out.toList,e,AC a1,he⟩
end
def vb {prog:Jy}{w:Jj}{A:JN}{E:IU->IZ->Prop}{s:IZ}{Q:Int->IZ->Prop}(h:Q 4238894112 { s with toks:=s.toks+1 }):Jl (model prog w) A (pyHash .none) Q E s:=by
 have hT:s.TypeIs Ke "NoneType":=rfl;unfold pyHash;have hv:[Ke].any IU.onHeap=f':=rfl;refine D' ?_;rw[cRoomFor,Pb (by rw[hv];exact Jo)];refine IY ?_;refine D' (wpAny_specialOf hT PySem.F.slot_NoneType_hash.lookup ?_);show Jl _ _ (if (dk (IU.builtin "NoneType.__hash__") == dk Ke)=l' then _ else _) Q E s;rw[Pb (by rw[beq_builtin_none];exact Jo)];refine D' (wpAny_specialOf hT PySem.F.slot_NoneType_hash.lookup ?_);show Jl _ _ (callSpecialIfBoundUnlessNone? Ke "__hash__" _ >>= _) Q E s;refine D' (wpAny_callSpecialIfBoundUnlessNone?_slot hT PySem.F.slot_NoneType_hash
  (Kb PySem.F.slot_NoneType_hash hT PySem.F.entry_NoneType_hash
   (show Jl _ _ (do ret (<-mkInt 4238894112)) _ _ s from wpAny_ret_mkInt ?_) (PySem.F.args_NoneType_hash_1 _)))
 show Jl _ _ (if (decide (-(2:Int) ^ 63 <= 4238894112) && decide ((4238894112:Int) < 2 ^ 63))=l' then _ else _) Q E _;rw[Pa (by decide)];exact IY h
def Fk:Option Key->IU->Bool
|none,.none=>l'
|none,_=>f'
|some k,v=>nk k v
def eN {v:IU}(h:Fk IX v=l'):v=.none:=by
 cases v<;>first|rfl|cases h
def uT (prog:Jy) (w:Jj):PySem.KeyKind prog w (Option Key) where
 is:=Fk
 hash:=λk=>match k with
 |none=>4238894112
 |some k=>HU w k
 inj:=λv a b ha hb=>by
  cases a with
 |none =>
   cases eN ha;cases b with
  |none=>rfl
  |some k=>rcases bg (show nk k Ke=l' from hb) with⟨i,t,_,e⟩|⟨x,t,_,e⟩<;>cases e
 |some k =>
   cases b with
  |none =>
    cases eN hb;rcases bg (show nk k Ke=l' from ha) with⟨i,t,_,e⟩|⟨x,t,_,e⟩<;>cases e
  |some k'=>rw[(br prog w).inj v k k' ha hb]
 byValue:=λk v h=>by
  cases k with
 |none=>cases eN h;rfl
 |some k=>exact(br prog w).byValue k v h
 pyHash:=λ{A E s k v Q} hv h=>by
  cases k with
 |none=>cases eN hv;exact vb h
 |some k=>exact(br prog w).pyHash (k:=k) hv h
 eqBool:=λ{A E s a b u v Q} hu hv h=>by
  cases a with
 |none =>
   cases eN hu;cases b with
  |none=>cases eN hv;exact JZ.same Ke _ _ _ _ h
  |some k =>
    rcases bg (show nk k v=l' from hv) with⟨i,t,rfl,rfl⟩|⟨x,t,rfl,rfl⟩
    . exact JZ.none_int i t _ _ _ _ h
    . exact JZ.none_str x t _ _ _ _ h
 |some k =>
   cases b with
  |none =>
    cases eN hv;rcases bg (show nk k u=l' from hu) with⟨i,t,rfl,rfl⟩|⟨x,t,rfl,rfl⟩
    . exact JZ.int_none i t _ _ _ _ h
    . exact JZ.str_none x t _ _ _ _ h
  |some k' =>
    refine(br prog w).eqBool (a:=k) (b:=k') hu hv ?_;have e:decide (dk k=dk k')=decide (k=k'):=by
     rw[decide_eq_decide];exact⟨λz=>Jt z,λz=>by rw[z]⟩
    rw[<-e];exact h
 «strs»:=λk x t v h=>by
  cases k with
 |none=>cases h
 |some k=>exact(br prog w).strs k x t v h
theorem tW {P:Jy}{w:Jj}:∀ {es:List Jz}{vs:List (Key × IU)},Pairs (br P w) es vs->Pairs (uT P w) es (vs.map λq=>(dk q.1,q.2))
|_,_,.nil=>.nil
|_,_,.cons a b t=>.cons a b (tW t)
def Co {P:Jy}{w:Jj}{h:JD}{a:G'}{vs:List (Key × IU)}(d:h.DictOf (br P w) a vs):h.DictOf (uT P w) a (vs.map λq=>(dk q.1,q.2)):=by
 obtain⟨o,es,ep,h1,h2,h3,h4,h5,h6⟩:=d;refine⟨o,es,ep,h1,h2,h3,λe he=>?_,tW h5,?_⟩
 . obtain⟨k,a,b⟩:=h4 e he;exact⟨dk k,a,b⟩
 . rw[map_map];have:((λq:Option Key × IU=>q.1) ∘ λq:Key × IU=>(dk q.1,q.2))=dk ∘ (λq:Key × IU=>q.1):=rfl;rw[this,<-map_map];exact Pairwise.map _ (λa b n z=>n (Jt z)) h6
theorem Cu:∀ (vs:List (Key × IU)),valueAt (vs.map λq=>(dk q.1,q.2)) (IX:Option Key)=IX
|[]=>rfl
|q :: vs=>by
  have:=Cu vs;unfold valueAt at this |-;rw[J1,KU];have e:decide (((dk q.1,q.2):Option Key × IU).1=IX)=f':=rfl;rw[e];exact this
def E9 (td ty tx:TE):TE:=λσ H Q=>td σ H λx H1=>∃ a,x=.ref a/\IsD H1 a/\ty σ H1 λy H2=>tx σ H2 λz H3=>∃ kvs,H3 a=dk (.dK kvs) /\
 ((∃ k,y=kV k/\(∀ v,qd kvs k=dk v->Q v (upd H3 a (.dK (uB kvs k))))/\(qd kvs k=IX->Q z H3))\/(y=.non/\Q z H3))
def yC {X:Cx}{o e f:Expr}{apos cpos:Pos}{td ty tx:TE}(ho:PE X o td) (he:PE X e ty) (hf:PE X f tx) (m:M2 X o "pop" apos e f cpos):PE X (.Call (.Attribute o "pop" apos) [e,f] [] cpos) (E9 td ty tx):=by
 intro Lz s σ H Q I h;refine wpAny_Call_method m.base m.few m.line PySem.F.plainAttrs_dict Lm PySem.F.type_dict_pop (thn (ho Lz s σ H _ I h) λu s1 ur52=>?_);obtain⟨x,H1,I1,rx,a,ex,d,q1⟩:=ur52;subst ex;obtain rfl:u=JC a:=rx;obtain⟨t1,t2,_⟩:=CA I1 d;refine⟨t1,t2,?_⟩;rw[m.trees];refine Lc rfl (K3 (K0 (thn (he Lz s1 σ H1 _ I1 q1) λiv s2 ⟨y,H2,I2,ry,q2⟩ =>
  K0 (thn (hf Lz s2 σ H2 _ I2 q2) λfv s3 ⟨z,H3,I3,rz,kvs,ea,q3⟩=>Calls.spliced_nil ?_))))
 rcases q3 with⟨k,ey,q3,q4⟩|⟨ey,q4⟩
 . subst ey;cases l:qd kvs k with
  |some v=>exact FA I3 ea ry l (.inr ⟨fv,rfl⟩) λw' s4 I4 rw'=>⟨v,_,I4,rw',q3 v l⟩
  |none=>exact F8 I3 ea ry l λs4 I4=>⟨z,H3,I4,rz,q4 l⟩
 . subst ey;cases ry;obtain⟨zz,hd,vs,rel,dd⟩:=ze I3.hok ea;exact call_meetsIn Lm dd.typeIs PySem.F.entry_dict_pop (PySem.F.args_dict_pop_3 _ _ _) (meets_dict_pop_default (uT X.prog X.w) a (k:=IX) (key:=Ke) rfl hd rfl fv) ⟨_,Co dd,Cu vs,⟨z,H3,I3.tok _,rz,q4⟩⟩
def yS {x hd rl:G'}{l:Bool->G'}{c:G'}(hc:c=x\/c=hd\/c=rl\/∃ b,c=l b):Sto.own x hd rl l c:=by
 rcases hc with h|h|h|⟨b',h⟩
 . exact .inl h
 . exact .inr (.inl h)
 . exact .inr (.inr (.inl h))
 . cases b'
   . exact .inr (.inr (.inr (.inl h)))
   . exact .inr (.inr (.inr (.inr h)))
def Do {x hd rl:G'}{l:Bool->G'}(b:Bool):Sto.own x hd rl l (l b):=yS (.inr (.inr (.inr ⟨b,rfl⟩)))
def FR {x hd rl:G'}{l:Bool->G'}:Sto.own x hd rl l hd:=.inr (.inl rfl)
def Sto.kp {w:Jj}{C:G'}{H H':Hp}{x hd rl:G'}{l:Bool->G'}{M:List (IV × V)}{r:Bool->List (IV × V)}{xs:List G'}(S:Sto w C H x hd rl l M r) (k:Kp xs H H') (h:∀ c∈xs,¬ Sto.own x hd rl l c) (ht:∀ c∈xs,∀ vs,H c≠dk (.tup vs)):Sto w C H' x hd rl l M r :=
 S.keep (λc o hc e=>k c o (λz=>h c z (yS hc)) e) λc vs e=>k c _ (λz=>ht c z vs e) e
def Kp.one {H:Hp}{c:G'}{o:HO}:Kp [c] H (upd H c o):=λb u n e=>by rw[ac λz=>n (IW.mpr z)];exact e
def fld {K:Ja}{H:Hp}{a C dx:G'}{fs:List (Str × V)}{v:V}{f:Str}{Q:V->Prop}(hx:H a=dk (.ins C dx fs)) (c:Cls K C) (na:bb K C f) (l:fs.lookup f=dk v) (q:Q v) :
 ∃ a' C' dx' fs' v',V.ref a=.ref a'/\H a'=dk (.ins C' dx' fs')/\Cls K C'/\bb K C' f/\fs'.lookup f=dk v'/\Q v':=⟨a,C,dx,fs,v,rfl,hx,c,na,l,q⟩
structure RP where
 s:Int
 R:Int
 e:Bool
structure RP.Ok (p:RP):Prop where
 s0:0 < p.s
 s8:p.s <= 8
 sR:0 < p.s * p.R
structure SA where
 x:G'
 hd:G'
 rl:G'
 l:Bool->G'
abbrev SA.At (w:Jj) (C:G') (H:Hp) (z:SA) (M:List (IV × V)) (r:Bool->List (IV × V)):Prop:=Sto w C H z.x z.hd z.rl z.l M r
def SA.own (z:SA) (c:G'):Prop:=Sto.own z.x z.hd z.rl z.l c
def rF (st:G') (b:Bool) (w0 w1 w2:Str) (p:RP):List (Str × V) :=
 bR "counter_first" (.bl p.e) (bR "rounds" (.int p.R) (bR "size" (.int p.s) (bR "fetched" (.str w2) (bR "laid" (.str w1) (bR "word" (.str w0) (bR "side" (.int (sdI b)) (bR "shelf" (.ref st) [])))))))
section
variable {st:G'}{b:Bool}{w0 w1 w2:Str}{p:RP}
def gs:(rF st b w0 w1 w2 p).lookup ("shelf":Str)=dk (.ref st):=by unfold rF;repeat (first|rw[a9,Pa rfl]|rw[a9,Pb (by decide +kernel)]);try rfl
def jA:(rF st b w0 w1 w2 p).lookup ("side":Str)=dk (.int (sdI b)):=by unfold rF;repeat (first|rw[a9,Pa rfl]|rw[a9,Pb (by decide +kernel)]);try rfl
def Ee:(rF st b w0 w1 w2 p).lookup ("word":Str)=dk (.str w0):=by unfold rF;repeat (first|rw[a9,Pa rfl]|rw[a9,Pb (by decide +kernel)]);try rfl
def rm:(rF st b w0 w1 w2 p).lookup ("laid":Str)=dk (.str w1):=by unfold rF;repeat (first|rw[a9,Pa rfl]|rw[a9,Pb (by decide +kernel)]);try rfl
def mj:(rF st b w0 w1 w2 p).lookup ("fetched":Str)=dk (.str w2):=by unfold rF;repeat (first|rw[a9,Pa rfl]|rw[a9,Pb (by decide +kernel)]);try rfl
def sg:(rF st b w0 w1 w2 p).lookup ("size":Str)=dk (.int p.s):=by unfold rF;repeat (first|rw[a9,Pa rfl]|rw[a9,Pb (by decide +kernel)]);try rfl
def uG:(rF st b w0 w1 w2 p).lookup ("rounds":Str)=dk (.int p.R):=by unfold rF;repeat (first|rw[a9,Pa rfl]|rw[a9,Pb (by decide +kernel)]);try rfl
def sK:(rF st b w0 w1 w2 p).lookup ("counter_first":Str)=dk (.bl p.e):=by unfold rF;repeat (first|rw[a9,Pa rfl]|rw[a9,Pb (by decide +kernel)]);try rfl
def lI:(rF st b w0 w1 w2 p).lookup ("filled":Str)=IX:=by unfold rF;repeat (first|rw[a9,Pa rfl]|rw[a9,Pb (by decide +kernel)]);try rfl
def yu:(rF st b w0 w1 w2 p).lookup ("is_full":Str)=IX:=by unfold rF;repeat (first|rw[a9,Pa rfl]|rw[a9,Pb (by decide +kernel)]);try rfl
def qZ:(rF st b w0 w1 w2 p).lookup ("place_at":Str)=IX:=by unfold rF;repeat (first|rw[a9,Pa rfl]|rw[a9,Pb (by decide +kernel)]);try rfl
def lZ:(rF st b w0 w1 w2 p).lookup ("write_further":Str)=IX:=by unfold rF;repeat (first|rw[a9,Pa rfl]|rw[a9,Pb (by decide +kernel)]);try rfl
def Dc:(rF st b w0 w1 w2 p).lookup ("lay":Str)=IX:=by unfold rF;repeat (first|rw[a9,Pa rfl]|rw[a9,Pb (by decide +kernel)]);try rfl
def wO:(rF st b w0 w1 w2 p).lookup ("fetch":Str)=IX:=by unfold rF;repeat (first|rw[a9,Pa rfl]|rw[a9,Pb (by decide +kernel)]);try rfl
end
def Rn (CR:G') (H:Hp) (q st:G') (b:Bool) (w0 w1 w2:Str) (p:RP):Prop:=∃ dx,H q=dk (.ins CR dx (rF st b w0 w1 w2 p))
def gK (ns:List Int):List (Key × V):=ns.map λi=>(.inl i,.bl l')
theorem pd (i:Int):∀ ns:List Int,qd (gK ns) (.inl i)=if ns.contains i then dk (.bl l') else IX
|[]=>rfl
|n :: ns=>by
  by_cases h:n=i
  . subst h;show qd ((KZ n,V.bl l') :: gK ns) _=_;rw[nX rfl,contains_cons];simp
  . show qd ((KZ n,V.bl l') :: gK ns) _=_;rw[nR (λz=>h (KZ.inj z)),pd i ns,contains_cons];have:(i == n)=f':=by simpa using λz=>h z.symm
    rw[this];rfl
def CW (i:Int) (ns:List Int) (h:ns.contains i=f'):uQ (gK ns) (.inl i) (.bl l')=gK (ns++[i]):=by
 unfold uQ;rw[nQ,pd,h];simp[gK]
def Eg (i:Int) (ns:List Int) (h:ns.contains i=l'):uQ (gK ns) (.inl i) (.bl l')=gK ns:=by
 unfold uQ;rw[nQ,pd,h];simp only[if_true,isSome_some];unfold gK;rw[map_map];refine List.map_congr_left λx _=>?_
 show (if KZ x=KZ i then _ else _)=_;split<;>rfl
theorem ve (i:Int):∀ ns:List Int,uB (gK ns) (.inl i)=gK (ns.filter (λn=>decide (n≠i)))
|[]=>rfl
|n :: ns=>by
  have ih:=ve i ns;unfold uB gK at ih |-;rw[J1,J0,J0,ih];have e:decide (((KZ n,V.bl l'):Key × V).1≠KZ i)=decide (n≠i):=by
   by_cases h:n=i
   . subst h;simp
   . have:(KZ n:Key)≠KZ i:=λz=>h (KZ.inj z)
     simp[h,this]
  rw[e];split<;>rfl
def D0 (ns:List Int):(gK ns).length=ns.length:=by unfold gK;rw[Jk]
def i6 (ns:List Int) (i:Int):List Int:=if ns.contains i then ns else ns++[i]
def Ei (i:Int) (ns:List Int):uQ (gK ns) (.inl i) (.bl l')=gK (i6 ns i):=by
 unfold i6;cases h:ns.contains i with
|true=>rw[Eg i ns h];rfl
|false=>rw[CW i ns h];rfl
structure HA where
 h:G'
 ra:G'
 rb:G'
 gd:G'
def hF (z:HA) (n:Int):List (Str × V):=bR "going" (.ref z.gd) (bR "names" (.int n) (bR "answers" (.ref z.rb) (bR "asks" (.ref z.ra) [])))
section
variable {z:HA}{n:Int}
def Ap:(hF z n).lookup ("asks":Str)=dk (.ref z.ra):=by unfold hF;repeat (first|rw[a9,Pa rfl]|rw[a9,Pb (by decide +kernel)]);try rfl
def qT:(hF z n).lookup ("answers":Str)=dk (.ref z.rb):=by unfold hF;repeat (first|rw[a9,Pa rfl]|rw[a9,Pb (by decide +kernel)]);try rfl
def Cl:(hF z n).lookup ("names":Str)=dk (.int n):=by unfold hF;repeat (first|rw[a9,Pa rfl]|rw[a9,Pb (by decide +kernel)]);try rfl
def lH:(hF z n).lookup ("going":Str)=dk (.ref z.gd):=by unfold hF;repeat (first|rw[a9,Pa rfl]|rw[a9,Pb (by decide +kernel)]);try rfl
def vI:(hF z n).lookup ("least_free":Str)=IX:=by unfold hF;repeat (first|rw[a9,Pa rfl]|rw[a9,Pb (by decide +kernel)]);try rfl
def wz:(hF z n).lookup ("check_ask":Str)=IX:=by unfold hF;repeat (first|rw[a9,Pa rfl]|rw[a9,Pb (by decide +kernel)]);try rfl
def G8:(hF z n).lookup ("ask":Str)=IX:=by unfold hF;repeat (first|rw[a9,Pa rfl]|rw[a9,Pb (by decide +kernel)]);try rfl
def xM:(hF z n).lookup ("collect":Str)=IX:=by unfold hF;repeat (first|rw[a9,Pa rfl]|rw[a9,Pb (by decide +kernel)]);try rfl
def BH:(hF z n).lookup ("under_way":Str)=IX:=by unfold hF;repeat (first|rw[a9,Pa rfl]|rw[a9,Pb (by decide +kernel)]);try rfl
def B4:(hF z n).lookup ("something_waits":Str)=IX:=by unfold hF;repeat (first|rw[a9,Pa rfl]|rw[a9,Pb (by decide +kernel)]);try rfl
end
structure Hn (CH CR:G') (H:Hp) (z:HA) (st:G') (p:RP) (n:Int) (aw:List Int):Prop where
 ob:∃ dx,H z.h=dk (.ins CH dx (hF z n))
 ra:Rn CR H z.ra st f' "ask" "asked" "taken" p
 rb:Rn CR H z.rb st f' "answer" "answered" "handed" p
 go:H z.gd=dk (.dK (gK aw))
def HA.own (z:HA) (c:G'):Prop:=c=z.h\/c=z.ra\/c=z.rb\/c=z.gd
structure TA' where
 h:G'
 ra:G'
 rb:G'
 gd:G'
def tF (z:TA'):List (Str × V):=bR "doing" (.ref z.gd) (bR "answers" (.ref z.rb) (bR "asks" (.ref z.ra) []))
section
variable {z:TA'}
def AN:(tF z).lookup ("asks":Str)=dk (.ref z.ra):=by unfold tF;repeat (first|rw[a9,Pa rfl]|rw[a9,Pb (by decide +kernel)]);try rfl
def qH:(tF z).lookup ("answers":Str)=dk (.ref z.rb):=by unfold tF;repeat (first|rw[a9,Pa rfl]|rw[a9,Pb (by decide +kernel)]);try rfl
def o6:(tF z).lookup ("doing":Str)=dk (.ref z.gd):=by unfold tF;repeat (first|rw[a9,Pa rfl]|rw[a9,Pb (by decide +kernel)]);try rfl
def DU:(tF z).lookup ("take":Str)=IX:=by unfold tF;repeat (first|rw[a9,Pa rfl]|rw[a9,Pb (by decide +kernel)]);try rfl
def wR:(tF z).lookup ("check_answer":Str)=IX:=by unfold tF;repeat (first|rw[a9,Pa rfl]|rw[a9,Pb (by decide +kernel)]);try rfl
def Aa:(tF z).lookup ("answer":Str)=IX:=by unfold tF;repeat (first|rw[a9,Pa rfl]|rw[a9,Pb (by decide +kernel)]);try rfl
def vR:(tF z).lookup ("tasks":Str)=IX:=by unfold tF;repeat (first|rw[a9,Pa rfl]|rw[a9,Pb (by decide +kernel)]);try rfl
def Bk:(tF z).lookup ("something_waits":Str)=IX:=by unfold tF;repeat (first|rw[a9,Pa rfl]|rw[a9,Pb (by decide +kernel)]);try rfl
end
structure Tn (CT CR:G') (H:Hp) (z:TA') (st:G') (p:RP) (ts:List Int):Prop where
 ob:∃ dx,H z.h=dk (.ins CT dx (tF z))
 ra:Rn CR H z.ra st l' "ask" "asked" "taken" p
 rb:Rn CR H z.rb st l' "answer" "answered" "handed" p
 go:H z.gd=dk (.dK (gK ts))
def TA'.own (z:TA') (c:G'):Prop:=c=z.h\/c=z.ra\/c=z.rb\/c=z.gd
section
variable {CH CT CR:G'}{H H':Hp}{st:G'}{p:RP}{n:Int}{aw:List Int}
def Rn.keep {q:G'}{b:Bool}{w0 w1 w2:Str}(r:Rn CR H q st b w0 w1 w2 p) (k:∀ o,H q=dk o->H' q=dk o):Rn CR H' q st b w0 w1 w2 p:=by
 obtain⟨dx,hx⟩:=r;exact⟨dx,k _ hx⟩
theorem Hn.keep {z:HA}(B:Hn CH CR H z st p n aw) (k:∀ c o,z.own c->H c=dk o->H' c=dk o):Hn CH CR H' z st p n aw:=by
 obtain⟨dx,hx⟩:=B.ob;exact⟨⟨dx,k _ _ (.inl rfl) hx⟩,B.ra.keep λo=>k _ o (.inr (.inl rfl)),B.rb.keep λo=>k _ o (.inr (.inr (.inl rfl))),k _ _ (.inr (.inr (.inr rfl))) B.go⟩
def Hn.same {z:HA}(B:Hn CH CR H z st p n aw) (q:c9 H H'):Hn CH CR H' z st p n aw:=B.keep λc o _=>q c o
def Hn.there {z:HA}(B:Hn CH CR H z st p n aw) {c:G'}(hc:z.own c):∃ o,H c=dk o/\((∃ C dx fs,o=.ins C dx fs)\/∃ kvs,o=.dK kvs):=by
 rcases hc with rfl|rfl|rfl|rfl
 . obtain⟨dx,hx⟩:=B.ob;exact⟨_,hx,.inl ⟨_,_,_,rfl⟩⟩
 . obtain⟨dx,hx⟩:=B.ra;exact⟨_,hx,.inl ⟨_,_,_,rfl⟩⟩
 . obtain⟨dx,hx⟩:=B.rb;exact⟨_,hx,.inl ⟨_,_,_,rfl⟩⟩
 . exact⟨_,B.go,.inr ⟨_,rfl⟩⟩
def Hn.lists {z:HA}{xs:List G'}(B:Hn CH CR H z st p n aw) (k:Kp xs H H') (hx:∀ c∈xs,(∃ ys,H c=dk (.lst ys))\/∃ ee:List Jz × Nat,H c=dk (l7 c ee.1 ee.2)):Hn CH CR H' z st p n aw :=
 B.keep λc o hc q=>k c o (λm=>by
  obtain⟨o',e,s⟩:=B.there hc;rcases hx c m with⟨ys,e'⟩|⟨ee,e'⟩
  . rw[e]at e';cases e';rcases s with⟨_,_,_,s⟩|⟨_,s⟩<;>cases s
  . rw[e]at e';cases e';rcases s with⟨_,_,_,s⟩|⟨_,s⟩<;>cases s) q
theorem Tn.keep {z:TA'}(B:Tn CT CR H z st p aw) (k:∀ c o,z.own c->H c=dk o->H' c=dk o):Tn CT CR H' z st p aw:=by
 obtain⟨dx,hx⟩:=B.ob;exact⟨⟨dx,k _ _ (.inl rfl) hx⟩,B.ra.keep λo=>k _ o (.inr (.inl rfl)),B.rb.keep λo=>k _ o (.inr (.inr (.inl rfl))),k _ _ (.inr (.inr (.inr rfl))) B.go⟩
def Tn.there {z:TA'}(B:Tn CT CR H z st p aw) {c:G'}(hc:z.own c):∃ o,H c=dk o/\((∃ C dx fs,o=.ins C dx fs)\/∃ kvs,o=.dK kvs):=by
 rcases hc with rfl|rfl|rfl|rfl
 . obtain⟨dx,hx⟩:=B.ob;exact⟨_,hx,.inl ⟨_,_,_,rfl⟩⟩
 . obtain⟨dx,hx⟩:=B.ra;exact⟨_,hx,.inl ⟨_,_,_,rfl⟩⟩
 . obtain⟨dx,hx⟩:=B.rb;exact⟨_,hx,.inl ⟨_,_,_,rfl⟩⟩
 . exact⟨_,B.go,.inr ⟨_,rfl⟩⟩
def Tn.lists {z:TA'}{xs:List G'}(B:Tn CT CR H z st p aw) (k:Kp xs H H') (hx:∀ c∈xs,(∃ ys,H c=dk (.lst ys))\/∃ ee:List Jz × Nat,H c=dk (l7 c ee.1 ee.2)):Tn CT CR H' z st p aw :=
 B.keep λc o hc q=>k c o (λm=>by
  obtain⟨o',e,s⟩:=B.there hc;rcases hx c m with⟨ys,e'⟩|⟨ee,e'⟩
  . rw[e]at e';cases e';rcases s with⟨_,_,_,s⟩|⟨_,s⟩<;>cases s
  . rw[e]at e';cases e';rcases s with⟨_,_,_,s⟩|⟨_,s⟩<;>cases s) q
end
def bF (n:Nat) (aw:List Int):Option Int:=(K8 n).map (λ(k:Nat)=>(k:Int)) |>.find? λk=>!aw.contains k
def qA {n i:Nat}{aw:List Int}(hi:i < n) (h:aw.contains (i:Int)=f') (hno:∀ j < i,aw.contains (j:Int)=l'):bF n aw=dk (i:Int):=by
 unfold bF;rw[List.find?_eq_some_iff_getElem];refine⟨by rw[h];rfl,i,by simpa using hi,by simp,λj hj=>?_⟩;simp only[List.getElem_map,List.getElem_range];rw[hno j hj];rfl
def y6 {n:Nat}{aw:List Int}(hno:∀ j < n,aw.contains (j:Int)=l'):bF n aw=IX:=by
 unfold bF;rw[find?_eq_none];intro x hx;obtain⟨j,hj,rfl⟩:=Kr.mp hx;rw[hno j (mem_range.mp hj)];decide
def mJ {n:Nat}{aw:List Int}{k:Int}(h:bF n aw=dk k):aw.contains k=f':=by
 unfold bF at h;have:=List.find?_some h;simpa using this
def sS {n:Nat}{aw:List Int}{k:Int}(h:bF n aw=dk k):0 <= k/\k < n:=by
 unfold bF at h;have:=List.mem_of_find?_eq_some h;obtain⟨j,hj,rfl⟩:=Kr.mp this;have:=mem_range.mp hj;omega
theorem sr (i:Str):∀ ns:List Str,inV (.str i) (ns.map V.str)=ns.contains i
|[]=>rfl
|n :: ns=>by
  have ih:=sr i ns;unfold inV at ih |-;rw[J1,any_cons,ih,contains_cons];congr 1;show eqV (.str n) (.str i)=(i == n)
  simp only[eqV];rw[KQ,beq_iff_eq,beq_iff_eq];exact eq_comm
theorem gW:∀ ns:List Str,(ns.map V.str).all pM=l'
|[]=>rfl
|n :: ns=>by rw[J1,all_cons,gW ns];rfl
def qP {α:Type}{r:Bool->α}{b:Bool}{u v:α}:aF (aF r b u) b v=aF r b v:=by
 funext c;unfold aF;split<;>rfl
def kS {H:Hp}{t:Str}(h:JL t=l'):nL H (.str t) (.str t):=⟨h,by show 0 <= 8;decide,rfl,.inl ⟨_,rfl⟩⟩
def kT {H:Hp}{a:G'}{t:Str}{i:Int}(h:JL t=l') (ha:H a=dk (.tup [.str t,.int i])):nL H (.tuple [.str t,.int i]) (.ref a):=⟨by
 show (JL _ && (l' && l'))=l';rw[h];rfl,by show 1 <= 8;decide,⟨a,_,rfl,ha,⟨_,_,rfl,rfl,_,_,rfl,rfl,rfl⟩⟩,.inr ⟨_,rfl⟩⟩
def up1 {H:Hp}{a b:G'}{o:HO}(h:upd H a o b=IX):b≠a/\H b=IX:=by
 have n:b≠a:=λz=>by rw[z,a8]at h;cases h
 exact⟨n,by rw[ac n]at h;exact h⟩
def bz {H H':Hp}{c:G'}(e:c9 H H') (h:H' c=IX):H c=IX:=by
 cases z:H c with
|none=>rfl
|some o=>rw[e c o z]at h;cases h
def fP {H H':Hp}{xs:List G'}{c:G'}(e:Kp xs H H') (h:H' c=IX) (n:∀ x∈xs,H' x≠IX):H c=IX:=by
 cases z:H c with
|none=>rfl
|some o=>rw[e c o (λm=>n c m h) z]at h;cases h
def og (p:RP) (w0 w1:Str) (A:Int) (t:V):List (IV × V) :=
 if p.e then [(.str w1,.int ((A+1) % (p.s * p.R))),(.tuple [.str w0,.int (A % p.s)],t)] else [(.tuple [.str w0,.int (A % p.s)],t),(.str w1,.int ((A+1) % (p.s * p.R)))]
def Sto.noT {w:Jj}{C:G'}{H:Hp}{x hd rl:G'}{l:Bool->G'}{M:List (IV × V)}{r:Bool->List (IV × V)}(S:Sto w C H x hd rl l M r) {b:Bool}{c:G'}{vs:List V}(h:H c=dk (.tup vs)):c ∉ [l b]:=λz=>by
 obtain⟨ts,e,_⟩:=S.rw b;rw[IW.mp z,e]at h;cases h
def Sto.noI {w:Jj}{C:G'}{H:Hp}{x hd rl:G'}{l:Bool->G'}{M:List (IV × V)}{r:Bool->List (IV × V)}(S:Sto w C H x hd rl l M r) {b:Bool}{c C' dx:G'}{fs:List (Str × V)}(h:H c=dk (.ins C' dx fs)):c ∉ [l b]:=λz=>by
 obtain⟨ts,e,_⟩:=S.rw b;rw[IW.mp z,e]at h;cases h
def Sto.noD {w:Jj}{C:G'}{H:Hp}{x hd rl:G'}{l:Bool->G'}{M:List (IV × V)}{r:Bool->List (IV × V)}(S:Sto w C H x hd rl l M r) {c:G'}{kvs:List (Key × V)}(h:H c=dk (.dK kvs)):¬ Sto.own x hd rl l c:=λz=>by
 rcases z with rfl|rfl|rfl|rfl|rfl
 . obtain⟨dx,e⟩:=S.ob;rw[e]at h;cases h
 . obtain⟨es,e⟩:=S.me.there;rw[e]at h;cases h
 . rw[S.ro]at h;cases h
 . obtain⟨ts,e,_⟩:=S.rw f';rw[e]at h;cases h
 . obtain⟨ts,e,_⟩:=S.rw l';rw[e]at h;cases h
def uk {X:Cx}:ky (CXv X.prog X.w) X E0:=λ_ _ _ _ _ _ _ h=>by
 obtain⟨_,_,_,_,_,_,_,_,_,_,_,_,_,_,q⟩:=h;exact q.elim
def gl {K:Ja}{H:Hp}{a C:G'}{fs:List (Str × V)}{v:V}{f:Str}{Q:V->Prop}(hx:∃ dx,H a=dk (.ins C dx fs)) (c:Cls K C) (na:bb K C f) (l:fs.lookup f=dk v) (q:Q v) :
 ∃ a' C' dx' fs' v',V.ref a=.ref a'/\H a'=dk (.ins C' dx' fs')/\Cls K C'/\bb K C' f/\fs'.lookup f=dk v'/\Q v':=let ⟨dx,hx⟩:=hx;⟨a,C,dx,fs,v,rfl,hx,c,na,l,q⟩
def eS {H:Hp}{a C:G'}{fs:List (Str × V)}{m:Str}{q:Prop}(hx:∃ dx,H a=dk (.ins C dx fs)) (l:fs.lookup m=IX) (h:q) :
 ∃ a' dx' fs',V.ref a=.ref a'/\H a'=dk (.ins C dx' fs')/\fs'.lookup m=IX/\q:=let ⟨dx,hx⟩:=hx;⟨a,dx,fs,rfl,hx,l,h⟩
section
variable {w:Jj}{CH CR CS:G'}{H H':Hp}{z:HA}{sa:SA}{p:RP}{n:Int}{aw:List Int}{M:List (IV × V)}{r:Bool->List (IV × V)}
end
section
variable {w:Jj}{CT CR CS:G'}{H H':Hp}{z:TA'}{sa:SA}{p:RP}{aw:List Int}{M:List (IV × V)}{r:Bool->List (IV × V)}
end
def RD (H:Hp) (p:IV × V) (d:IV):Prop:=∃ x,d=.tuple [p.1,x]/\DV H x p.2
theorem wJ {H:Hp}:∀ {es:List (IV × V)}{ts:List V}{ds:List IV},Jv (Wt H) es ts->Jv (RD H) es ds->DVs H ds ts
|_,_,_,.nil,.nil=>rfl
|_,_,_,.cons ⟨t,cv,e,ht,hk⟩ r,.cons ⟨x,e',dx⟩ r'=>by
  subst e e';exact⟨_,_,rfl,⟨t,_,rfl,ht,_,_,rfl,hk.2.2.1,_,_,rfl,dx,rfl⟩,wJ r r'⟩
def nN {H H':Hp}{h dh:G'}{C:G'}(nh:H h=IX) (ndh:H dh=IX) (kp:Kp [h] (upd (upd H dh (.own h)) h (.ins C dh [])) H'):c9 H H':=λc o e=>by
 have y1:=ag e ndh;have y2:=ag e nh;exact kp c o (λz=>y2 (IW.mp z)) (by rw[ac y2,ac y1];exact e)
def FC {x:V}:[x].length <= Je:=by show 1 <= Je;decide
def p9:([]:List V).length <= Je:=by show 0 <= Je;decide
def Eo {K:Ja}:Lp K (.type "tuple") (.type "tuple")=dk l':=by rfl
def Gx {K:Ja}:Lp K (.type "int") (.type "tuple")=dk f':=by rfl
inductive Cn where
|asked|taken|answered|handed|hs|ts
instance:DecidableEq Cn:=λa b=>by
 cases a<;>cases b<;>first|exact isTrue rfl|exact isFalse (λh=>by cases h)
def Cn.key:Cn->Str
|.asked=>"asked"
|.taken=>"taken"
|.answered=>"answered"
|.handed=>"handed"
|.hs=>"hand sleeps"
|.ts=>"heart sleeps"
def nB:Bool->Str
|false=>"ask"
|true=>"answer"
def pk (g:Bool) (i:Int):IV:=.tuple [.str (nB g),.int i]
inductive Wr where
|c (k:Cn) (i:Int)
|p (g:Bool) (i nm wt:Int)
def Wr.key:Wr->IV
|.c k _=>.str k.key
|.p g i _ _=>pk g i
def Wr.dat:Wr->IV
|.c _ i=>.int i
|.p _ _ nm wt=>.tuple [.int nm,.int wt]
def Wr.Ok:Wr->Prop
|.c _ _=>True
|.p _ i nm _=>(0 <= i/\i < 8)/\0 <= nm/\nm < 9
def Wr.cnt (k:Cn):Wr->Option Int
|.c k' i=>if k'=k then dk i else IX
|.p _ _ _ _=>IX
def Wr.plc (g:Bool) (i:Int):Wr->Option (Int × Int)
|.c _ _=>IX
|.p g' i' nm wt=>if g'=g/\i'=i then dk (nm,wt) else IX
structure Mem where
 c:Cn->Int
 p:Bool->Int->Option (Int × Int)
def Mem.zero:Mem:=⟨λ_=>0,λ_ _=>IX⟩
def Mem.put (m:Mem) (x:Wr):Mem:=⟨λk=>(x.cnt k).getD (m.c k),λg i=>(x.plc g i).or (m.p g i)⟩
def rdC (m:Mem) (row:List Wr) (k:Cn):Int:=(row.reverse.findSome? (Wr.cnt k)).getD (m.c k)
def rdP (m:Mem) (row:List Wr) (g:Bool) (i:Int):Option (Int × Int):=(row.reverse.findSome? (Wr.plc g i)).or (m.p g i)
def EK (m:Mem) (k:Cn):rdC m [] k=m.c k:=rfl
def eT (m:Mem) (row:List Wr) (x:Wr) (k:Cn):rdC m (row++[x]) k=(x.cnt k).getD (rdC m row k):=by
 unfold rdC;rw[reverse_append];show (List.findSome? (Wr.cnt k) (x :: row.reverse)).getD (m.c k)=_;rw[Lj];cases Wr.cnt k x<;>rfl
def lD (m:Mem) (row:List Wr) (x:Wr) (g:Bool) (i:Int):rdP m (row++[x]) g i=(x.plc g i).or (rdP m row g i):=by
 unfold rdP;rw[reverse_append];show (List.findSome? (Wr.plc g i) (x :: row.reverse)).or (m.p g i)=_;rw[Lj];cases Wr.plc g i x<;>rfl
def zR (k:Cn):JL k.key=l':=by cases k<;>decide +kernel
def GB (g:Bool):JL (nB g)=l':=by cases g<;>decide +kernel
def zZ {k k':Cn}(h:k.key=k'.key):k=k':=by
 cases k<;>cases k'<;>first|rfl|exact absurd h (by decide +kernel)
def Fl {g g':Bool}(h:nB g=nB g'):g=g':=by
 cases g<;>cases g'<;>first|rfl|exact absurd h (by decide +kernel)
def sf (g:Bool) (i:Int):MX.kd (pk g i)=l':=by
 show (JL (nB g) && (l' && l'))=l';rw[GB];rfl
def rQ (k:Cn):MX.kd (.str k.key)=l':=zR k
def Wr.key_kd (x:Wr):MX.kd x.key=l':=by
 cases x with
|c k i=>exact rQ k
|p g i nm wt=>exact sf g i
def Wr.dat_kd (x:Wr):MX.kd x.dat=l':=by cases x<;>rfl
def Fr {g g':Bool}{i i':Int}(h:pk g i=pk g' i'):g=g'/\i=i':=by
 injection h with h
 injection h with h1 h2
 injection h1 with h1
 injection h2 with h2 _
 injection h2 with h2
 exact⟨Fl h1,h2⟩
def rG {x:Wr}{d:IV}(hd:MX.kd d=l'):Jm x.key d=l' ↔ x.key=d:=MX.eqv_iff _ _ x.key_kd hd
def Wr.cnt_some {x:Wr}{k:Cn}{i:Int}(h:x.cnt k=dk i):x=.c k i:=by
 cases x with
|c k' j =>
  unfold Wr.cnt at h;dsimp only at h;split at h
  . rename_i e;cases e;cases h;rfl
  . cases h
|p=>cases h
def Wr.plc_some {x:Wr}{g:Bool}{i nm wt:Int}(h:x.plc g i=dk (nm,wt)):x=.p g i nm wt:=by
 cases x with
|c=>cases h
|p g' j a b =>
  unfold Wr.plc at h;dsimp only at h;split at h
  . rename_i e;obtain⟨e1,e2⟩:=e;cases e1;cases e2;cases h;rfl
  . cases h
def Wr.cnt_none {x:Wr}{k:Cn}(h:x.cnt k=IX):x.key≠.str k.key:=by
 intro e;cases x with
|c k' j =>
  have:=zZ (IV.str.inj e);unfold Wr.cnt at h;dsimp only at h;rw[Pa this]at h;cases h
|p=>cases e
def Wr.plc_none {x:Wr}{g:Bool}{i:Int}(h:x.plc g i=IX):x.key≠pk g i:=by
 intro e;cases x with
|c=>cases e
|p g' j a b =>
  have:=Fr e;unfold Wr.plc at h;dsimp only at h;rw[Pa this]at h;cases h
def WrR (H:Hp) (x:Wr) (q:IV × V):Prop:=x.Ok/\q.1=x.key/\DV H x.dat q.2
theorem WrR.keep {H H':Hp}{x:Wr}{q:IV × V}(h:WrR H x q) (ht:∀ b vs,H b=dk (.tup vs)->H' b=dk (.tup vs)):WrR H' x q:=⟨h.1,h.2.1,DV.keep ht _ _ x.dat_kd h.2.2⟩
def iw:List IV:=[.str (Cn.key .asked),.str (Cn.key .taken),.str (Cn.key .answered),.str (Cn.key .handed),.str (Cn.key .hs),.str (Cn.key .ts),
 pk f' 0,pk f' 1,pk f' 2,pk f' 3,pk f' 4,pk f' 5,pk f' 6,pk f' 7,pk l' 0,pk l' 1,pk l' 2,pk l' 3,pk l' 4,pk l' 5,pk l' 6,pk l' 7]
def Wr.key_all {x:Wr}(h:x.Ok):x.key∈iw:=by
 cases x with
|c k i=>cases k<;>first|exact Ju (i:=0) rfl|exact Ju (i:=1) rfl|exact Ju (i:=2) rfl|exact Ju (i:=3) rfl|exact Ju (i:=4) rfl|exact Ju (i:=5) rfl
|p g i a b =>
  obtain⟨m,rfl⟩:=Int.eq_ofNat_of_zero_le h.1.1;have h':m < 8:=Int.ofNat_lt.mp h.1.2;have e:∀ m:Nat,m < 8->iw[6+m]?=dk (pk f' m)/\iw[14+m]?=dk (pk l' m):=by intro m hm;match m,hm with|0,_|1,_|2,_|3,_|4,_|5,_|6,_|7,_=>exact⟨rfl,rfl⟩
  cases g
  . exact Ju (e m h').1
  . exact Ju (e m h').2
theorem rq {α:Type} [DecidableEq α]:∀ {l ks:List α},l.Nodup->(∀ a∈l,a∈ks)->l.length <= ks.length
|[],_,_,_=>Kq _
|a :: l,ks,h,hs=>by
  have ha:=hs a Jg;have hn:=KG.mp h;have:=rq (l:=l) (ks:=ks.erase a) hn.2 λb hb=>(List.mem_erase_of_ne (λe=>hn.1 (by rw[<-e];exact hb))).mpr (hs b (Jh _ hb))
  rw[List.length_erase_of_mem ha]at this;have h0:0 < ks.length:=List.length_pos_of_mem ha;rw[JH];omega
structure MemR (H:Hp) (M:List (IV × V)) (m:Mem):Prop where
 c:∀ k:Cn,(cK M (.str k.key)).getD (.int 0)=.int (m.c k)
 p:∀ g i,(m.p g i=IX/\cK M (pk g i)=IX)\/∃ nm wt v,m.p g i=dk (nm,wt)/\cK M (pk g i)=dk v/\DV H (.tuple [.int nm,.int wt]) v
 ks:∀ q∈M,q.1∈iw
 ok:∀ g i nm wt,m.p g i=dk (nm,wt)->0 <= nm/\nm < 9
def xN:∀ d∈iw,MX.kd d=l':=by
 intro d hd;simp only[iw,Jx,JW,or_false]at hd;rcases hd with rfl|rfl|rfl|rfl|rfl|rfl|rfl|rfl|rfl|rfl|rfl|rfl|rfl|rfl|rfl|rfl|rfl|rfl|rfl|rfl|rfl|rfl<;>first|exact rQ _|exact sf _ _
def MemR.kk {H:Hp}{M:List (IV × V)}{m:Mem}(h:MemR H M m):KK M:=λq hq=>xN _ (h.ks q hq)
theorem MemR.zero {H:Hp}:MemR H [] Mem.zero:=⟨λ_=>rfl,λ_ _=>.inl ⟨rfl,rfl⟩,λ_ h=>(by cases h),λ_ _ _ _ h=>(by cases h)⟩
theorem MemR.keep {H H':Hp}{M:List (IV × V)}{m:Mem}(h:MemR H M m) (ht:∀ b vs,H b=dk (.tup vs)->H' b=dk (.tup vs)):MemR H' M m :=
 ⟨h.c,λg i=>(h.p g i).imp id λuq14=>by(obtain⟨nm,wt,v,a,b,c⟩:=uq14;exact ⟨nm,wt,v,a,b,DV.keep ht _ _ rfl c⟩),h.ks,h.ok⟩
def G3 {M:List (IV × V)}{k:IV}{v:V}{K:List IV}(h:∀ q∈M,q.1∈K) (hk:k∈K):∀ q∈uP M k v,q.1∈K:=by
 intro q hq;unfold uP at hq;split at hq
 . obtain⟨p,hp,e⟩:=Kr.mp hq;have:=h p hp;rw[<-e];split<;>exact this
 . rcases JB.mp hq with z|z
   . exact h q z
   . rw[IW.mp z];exact hk
theorem MemR.put {H:Hp}{M:List (IV × V)}{m:Mem}{x:Wr}{q:IV × V}(h:MemR H M m) (hx:WrR H x q):MemR H (uP M q.1 q.2) (m.put x):=by
 obtain⟨ho,hk,hd⟩:=hx;refine⟨λk=>?_,λg i=>?_,G3 h.ks (by rw[hk];exact Wr.key_all ho),λg i nm wt e=>?_⟩
 . rw[hk,wY h.kk x.key_kd (rQ k)];unfold Mem.put;dsimp only;cases e:x.cnt k with
  |some i =>
    have ex:=Wr.cnt_some e;subst ex;rw[Pa (show Jm (Wr.key (.c k i)) (.str k.key)=l' from cM (rQ k))];exact hd
  |none =>
    rw[Pb λz=>Wr.cnt_none e ((rG (rQ k)).mp z)];exact h.c k
 . rw[hk,wY h.kk x.key_kd (sf g i)];unfold Mem.put;dsimp only;cases e:x.plc g i with
  |some nw =>
    have ex:=Wr.plc_some (nm:=nw.1) (wt:=nw.2) e;subst ex;rw[Pa (show Jm (Wr.key (.p g i nw.1 nw.2)) (pk g i)=l' from cM (sf g i))];exact .inr ⟨nw.1,nw.2,q.2,rfl,rfl,hd⟩
  |none =>
    rw[Pb λz=>Wr.plc_none e ((rG (sf g i)).mp z)];exact h.p g i
 . have e':(x.plc g i).or (m.p g i)=dk (nm,wt):=e;cases q:x.plc g i with
  |none=>rw[q]at e';exact h.ok g i nm wt e'
  |some nw =>
    rw[q]at e';cases e';have ex:=Wr.plc_some q;subst ex;exact ho.2
theorem Paired.rev {α β:Type}{F:α->β->Prop}:∀ {xs:List α}{ys:List β},Jv F xs ys->Jv F xs.reverse ys.reverse
|_,_,.nil=>.nil
|_,_,.cons r t=>by
  rw[List.reverse_cons,List.reverse_cons];exact Jv.snoc (Paired.rev t) r
theorem CO {H:Hp}{k:Cn}:∀ {row:List Wr}{es:List (IV × V)},Jv (WrR H) row es ->
 (es.find? λp=>Jm p.1 (.str k.key)).map (·.2)=(row.findSome? (Wr.cnt k)).map V.int
|_,_,.nil=>rfl
|x :: row,q :: es,.cons ⟨_,hk,hd⟩ t=>by
  rw[KU,Lj];cases e:x.cnt k with
 |some i =>
   have ex:=Wr.cnt_some e;subst ex;have:Jm q.1 (.str k.key)=l':=by rw[hk];exact cM (rQ k)
   rw[this];show dk q.2=dk (V.int i);exact congrArg dk hd
 |none =>
   have:Jm q.1 (.str k.key)=f':=by
    rw[hk];cases z:Jm x.key (.str k.key) with
   |false=>rfl
   |true=>exact absurd ((rG (rQ k)).mp z) (Wr.cnt_none e)
   rw[this];exact CO t
theorem D6 {H:Hp}{g:Bool}{i:Int}:∀ {row:List Wr}{es:List (IV × V)},Jv (WrR H) row es ->
 (row.findSome? (Wr.plc g i)=IX/\(es.find? λp=>Jm p.1 (pk g i))=IX)\/∃ nm wt q,row.findSome? (Wr.plc g i)=dk (nm,wt)/\(es.find? λp=>Jm p.1 (pk g i))=dk q/\DV H (.tuple [.int nm,.int wt]) q.2
|_,_,.nil=>.inl ⟨rfl,rfl⟩
|x :: row,q :: es,.cons ⟨_,hk,hd⟩ t=>by
  rw[KU,Lj];cases e:x.plc g i with
 |some nw =>
   have ex:=Wr.plc_some (nm:=nw.1) (wt:=nw.2) e;subst ex;have:Jm q.1 (pk g i)=l':=by rw[hk];exact cM (sf g i)
   rw[this];exact .inr ⟨nw.1,nw.2,q,rfl,rfl,hd⟩
 |none =>
   have:Jm q.1 (pk g i)=f':=by
    rw[hk];cases z:Jm x.key (pk g i) with
   |false=>rfl
   |true=>exact absurd ((rG (sf g i)).mp z) (Wr.plc_none e)
   rw[this];exact D6 t
def cJ {H:Hp}{M es:List (IV × V)}{m:Mem}{row:List Wr}(h:MemR H M m) (r:Jv (WrR H) row es) (k:Cn):cr M es (.str k.key)=.int (rdC m row k):=by
 rw[vP];unfold C1 rdC;rw[CO (Paired.rev r)];cases row.reverse.findSome? (Wr.cnt k) with
|some i=>rfl
|none=>exact h.c k
def Ag {H:Hp}{M es:List (IV × V)}{m:Mem}{row:List Wr}(h:MemR H M m) (r:Jv (WrR H) row es) (g:Bool) (i:Int) :
 (rdP m row g i=IX/\cr M es (pk g i)=.int 0)\/∃ nm wt c,rdP m row g i=dk (nm,wt)/\cr M es (pk g i)=.ref c/\H c=dk (.tup [.int nm,.int wt]):=by
 rw[vP];unfold C1 rdP;have tup:∀ {nm wt:Int} {v:V},DV H (.tuple [.int nm,.int wt]) v->∃ c,v=.ref c/\H c=dk (.tup [.int nm,.int wt]):=λ{nm wt v} h=>by
  obtain⟨c,vs,e,hc,v1,r1,e1,d1,v2,r2,e2,d2,e3⟩:=h;cases d1;cases d2;cases e3;subst e2 e1;exact⟨c,e,hc⟩
 rcases D6 (g:=g) (i:=i) (Paired.rev r) with⟨e1,e2⟩|⟨nm,wt,q,e1,e2,d⟩
 . rw[e1,e2];rcases h.p g i with⟨a,b⟩|⟨nm,wt,v,a,b,c⟩
   . rw[a,b];exact .inl ⟨rfl,rfl⟩
   . rw[a,b];obtain⟨c',rfl,hc⟩:=tup c;exact .inr ⟨nm,wt,c',rfl,rfl,hc⟩
 . rw[e1,e2];obtain⟨c',e,hc⟩:=tup d;exact .inr ⟨nm,wt,c',rfl,by show q.2=_;exact e,hc⟩
theorem Al {H:Hp}{g:Bool}{i nm wt:Int}:∀ {row:List Wr}{es:List (IV × V)},Jv (WrR H) row es->row.findSome? (Wr.plc g i)=dk (nm,wt)->0 <= nm/\nm < 9
|_,_,.nil,h=>by cases h
|x :: row,_,.cons hx t,h=>by
  rw[Lj]at h;cases q:x.plc g i with
 |none=>rw[q]at h;exact Al t h
 |some nw =>
   rw[q]at h;cases h;have ex:=Wr.plc_some q;subst ex;exact hx.1.2
def EZ {H:Hp}{M es:List (IV × V)}{m:Mem}{row:List Wr}(h:MemR H M m) (r:Jv (WrR H) row es) {g:Bool}{i nm wt:Int}(e:rdP m row g i=dk (nm,wt)):0 <= nm/\nm < 9:=by
 unfold rdP at e;cases q:row.reverse.findSome? (Wr.plc g i) with
|none=>rw[q]at e;exact h.ok g i nm wt e
|some nw =>
  rw[q]at e;cases e;exact Al (Paired.rev r) q
def StT (w:Jj) (C:G') (H:Hp) (sa:SA) (m:Mem) (rs:Bool->List Wr):Prop:=∃ M r,sa.At w C H M r/\MemR H M m/\∀ b,Jv (WrR H) (rs b) (r b)
section
variable {w:Jj}{C:G'}{H H':Hp}{sa:SA}{m:Mem}{rs:Bool->List Wr}
theorem StT.keep (S:StT w C H sa m rs) (h:∀ c o,sa.own c->H c=dk o->H' c=dk o) (ht:∀ b vs,H b=dk (.tup vs)->H' b=dk (.tup vs)):StT w C H' sa m rs:=by
 obtain⟨M,r,S,R,P⟩:=S;exact⟨M,r,S.keep (λc o hc=>h c o (yS hc)) ht,R.keep ht,λb=>Paired.mapP (P b) λ_ _ q=>q.keep ht⟩
def StT.same (S:StT w C H sa m rs) (h:c9 H H'):StT w C H' sa m rs:=S.keep (λc o _=>h c o) λb vs=>h b _
theorem StT.there (S:StT w C H sa m rs) {c:G'}(h:sa.own c):∃ o,H c=dk o/\(∀ xs,o≠.tup xs):=by
 obtain⟨M,r,S,_⟩:=S;exact S.there h
theorem StT.ob (S:StT w C H sa m rs):∃ dx,H sa.x=dk (.ins C dx (stF sa.hd sa.rl)):=by
 obtain⟨M,r,S,_⟩:=S;exact S.ob
def StT.names (S:StT w C H sa m rs) {b g:Bool}{i nm wt:Int}(e:rdP m (rs b) g i=dk (nm,wt)):0 <= nm/\nm < 9:=by
 obtain⟨M,r,S,R,P⟩:=S;exact EZ R (P b) e
def StT.small {M:List (IV × V)}{r:Bool->List (IV × V)}(S:sa.At w C H M r) (R:MemR H M m):M.length <= 22:=by
 obtain⟨es,ep,_,_,nd,_⟩:=S.me;have:=@rq IV (λa b=>Classical.propDecidable (a=b)) _ iw nd λd hd=>by
  obtain⟨q,hq,rfl⟩:=Kr.mp hd;exact R.ks q hq
 rw[Jk]at this;exact this
end
theorem fG {α β:Type}{F:α->β->Prop}:∀ {xs:List α}{ys:List β}{xs':List α}{ys':List β},Jv F xs ys->Jv F xs' ys'->Jv F (xs++xs') (ys++ys')
|_,_,_,_,.nil,t=>t
|_,_,_,_,.cons r t,t'=>.cons r (fG t t')
def StT.grow {w:Jj}{C:G'}{H H':Hp}{sa:SA}{m:Mem}{rs:Bool->List Wr}{M:List (IV × V)}{r:Bool->List (IV × V)}{b:Bool}{ws:List Wr}{es:List (IV × V)}(R:MemR H M m) (P:∀ b,Jv (WrR H) (rs b) (r b)) (S2:sa.At w C H' M (aF r b (r b++es))) (ht:∀ c vs,H c=dk (.tup vs)->H' c=dk (.tup vs)) (hn:Jv (WrR H') ws es):StT w C H' sa m (aF rs b (rs b++ws)):=by
 refine⟨M,_,S2,R.keep ht,λc=>?_⟩;by_cases e:c=b
 . subst e;rw[ap,ap];exact fG (Paired.mapP (P c) λ_ _ q=>q.keep ht) hn
 . rw[aG e,aG e];exact Paired.mapP (P c) λ_ _ q=>q.keep ht
def au (p:RP) (m:Mem) (row:List Wr) (a b:Cn):Int:=(rdC m row a - rdC m row b) % (p.s * p.R)
def d7 (p:RP) (m:Mem) (row:List Wr) (a:Cn):Wr:=.c a ((rdC m row a+1) % (p.s * p.R))
def kR (p:RP) (m:Mem) (row:List Wr) (g:Bool) (a:Cn) (nm wt:Int):List Wr :=
 if p.e then [d7 p m row a,.p g (rdC m row a % p.s) nm wt] else [.p g (rdC m row a % p.s) nm wt,d7 p m row a]
def x6 {H:Hp}{p:RP}{m:Mem}{row:List Wr}{g:Bool}{a:Cn}{nm wt:Int}{t:G'}(hp:p.Ok) (hn:0 <= nm/\nm < 9) (ht:H t=dk (.tup [.int nm,.int wt])):Jv (WrR H) (kR p m row g a nm wt) (og p (nB g) a.key (rdC m row a) (.ref t)):=by
 have h1:WrR H (.p g (rdC m row a % p.s) nm wt) (.tuple [.str (nB g),.int (rdC m row a % p.s)],.ref t):=by
  have a1:=KJ (rdC m row a) (show p.s≠0 by have:=hp.s0;omega);have a2:=Kd (rdC m row a) hp.s0;have:=hp.s8;exact⟨⟨⟨a1,by omega⟩,hn⟩,rfl,⟨t,_,rfl,ht,_,_,rfl,rfl,_,_,rfl,rfl,rfl⟩⟩
 have h2:WrR H (d7 p m row a) (.str a.key,.int ((rdC m row a+1) % (p.s * p.R))):=⟨trivial,rfl,rfl⟩
 unfold kR og;cases p.e with
|true=>exact .cons h2 (.cons h1 .nil)
|false=>exact .cons h1 (.cons h2 .nil)
structure LA where
 sd:G'
 md:G'
 rw:G'
 l:Bool->G'
 ud:G'
 tk:G'
section
variable {H:Hp}{la:LA}{p:RP}{n:Int}
end
section
variable {w:Jj}{H H':Hp}{la:LA}{p:RP}{n:Int}{m:Mem}{rs:Bool->List Wr}{un tk:List Int}
end
theorem sP (i:Int):∀ ns:List Int,inV (.int i) (ns.map V.int)=ns.contains i
|[]=>rfl
|n :: ns=>by
  have ih:=sP i ns;unfold inV at ih |-;rw[J1,any_cons,ih,contains_cons];congr 1;show eqV (.int n) (.int i)=(i == n)
  simp only[eqV];rw[KQ,beq_iff_eq,beq_iff_eq];exact eq_comm
def bC {α:Type}{x:α}{xs:List α}:atI (x :: xs) 0=dk x:=by
 unfold atI ixN;simp
theorem lO {α β:Type}{F:α->β->Prop}:∀ {xs:List α}{ys:List β}{j:Nat}{y:β},Jv F xs ys->ys[j]?=dk y->∃ x,xs[j]?=dk x/\F x y
|_,_,_,_,.nil,e=>by simp at e
|_,_,0,_,.cons r _,e=>by simp at e;subst e;exact⟨_,rfl,r⟩
|_,_,j+1,_,.cons _ t,e=>by
  obtain⟨x,a,b⟩:=lO (j:=j) t (by simpa using e);exact⟨x,by simpa using a,b⟩
def KO (own:G'->Prop) (H H':Hp):Prop:=∀ c o,¬ own c->H c=dk o->H' c=dk o
def KO.refl (own:G'->Prop) (H:Hp):KO own H H:=λ_ _ _ e=>e
def KO.of_kp {own:G'->Prop}{xs:List G'}{H H':Hp}(k:Kp xs H H') (h:∀ c∈xs,own c):KO own H H':=λc o n e=>k c o (λm=>n (h c m)) e
def KO.of_same {own:G'->Prop}{H H':Hp}(s:c9 H H'):KO own H H':=λc o _ e=>s c o e
def KO.trans {own own':G'->Prop}{H H1 H2:Hp}(a:KO own H H1) (b:KO own' H1 H2) (h:∀ c,own' c->own c\/H c=IX):KO own H H2:=λc o n e=>b c o (λz=>by
 rcases h c z with y|y
 . exact n y
 . rw[y]at e;cases e) (a c o n e)
section
variable {w:Jj}{CH CT CR CS:G'}{H H':Hp}{z:HA}{zt:TA'}{sa:SA}{la:LA}{p:RP}{n:Int}{m:Mem}{rs:Bool->List Wr}{un tk aw:List Int}{nn:Int}{st:G'}
end
def scD:IV->Bool
|.none=>l'
|.bool _=>l'
|.int _=>l'
|.str _=>l'
|_=>f'
def flD:IV->Bool
|.tuple ds=>ds.all scD
|d=>scD d
def DV.sc {H H':Hp}:∀ {d:IV}{v:V},scD d=l'->DV H d v->DV H' d v
|.none,_,_,h=>h
|.bool _,_,_,h=>h
|.int _,_,_,h=>h
|.str _,_,_,h=>h
|.list _,_,h,_=>by cases h
|.tuple _,_,h,_=>by cases h
|.dict _,_,h,_=>by cases h
theorem DVs.sc {H H':Hp}:∀ {ds:List IV}{vs:List V},ds.all scD=l'->DVs H ds vs->DVs H' ds vs
|[],_,_,h=>h
|d :: ds,_,h,⟨v,r,e,h1,h2⟩=>by
  rw[all_cons,Kn]at h;exact⟨v,r,e,DV.sc h.1 h1,DVs.sc h.2 h2⟩
def DV.fl {H H':Hp}(ht:∀ b vs,H b=dk (.tup vs)->H' b=dk (.tup vs)):∀ {d:IV}{v:V},flD d=l'->DV H d v->DV H' d v
|.none,_,_,h=>h
|.bool _,_,_,h=>h
|.int _,_,_,h=>h
|.str _,_,_,h=>h
|.list _,_,h,_=>by cases h
|.tuple ds,_,h,⟨a,vs,e,ha,hv⟩=>⟨a,vs,e,ht _ _ ha,DVs.sc h hv⟩
|.dict _,_,h,_=>by cases h
def Nms (k:Int) (ns:List Int):Prop:=ns.Nodup/\∀ x∈ns,0 <= x/\x < k
def Nms.nil (k:Int):Nms k []:=⟨nodup_nil,λ_ h=>by cases h⟩
def Nms.len {k:Int}{ns:List Int}(h:Nms k ns) (hk:k <= 9):ns.length <= 9:=by
 have:=rq (l:=ns) (ks:=[0,1,2,3,4,5,6,7,8]) h.1 λx hx=>by
  have:=h.2 x hx;have:x=0\/x=1\/x=2\/x=3\/x=4\/x=5\/x=6\/x=7\/x=8:=by omega
  simp only[Jx,JW,or_false];exact this
 exact this
def Nms.snoc {k x:Int}{ns:List Int}(h:Nms k ns) (hx:ns.contains x=f') (hb:0 <= x/\x < k):Nms k (ns++[x]):=by
 refine⟨?_,λy hy=>?_⟩
 . rw[nodup_append];refine⟨h.1,KG.mpr ⟨by simp,nodup_nil⟩,λa ha b hb' e=>?_⟩;rw[IW.mp hb']at e;rw[Lr,decide_eq_false_iff_not]at hx;exact hx (e ▸ ha)
 . rcases JB.mp hy with z|z
   . exact h.2 y z
   . rw[IW.mp z];exact hb
theorem Nms.filter {k x:Int}{ns:List Int}(h:Nms k ns):Nms k (ns.filter λy=>decide (y≠x)) :=
 ⟨Pairwise.filter _ h.1,λy hy=>h.2 y (Lh.mp hy).1⟩
def Nms.next {k x:Int}{ns:List Int}(h:Nms k ns) (hb:0 <= x/\x < k):Nms k (i6 ns x):=by
 unfold i6;cases e:ns.contains x with
|true=>exact h
|false=>exact h.snoc e hb
theorem Nms.erase {k x:Int}{ns:List Int}(h:Nms k ns):Nms k (ns.erase x) :=
 ⟨Nodup.erase x h.1,λy hy=>h.2 y (List.mem_of_mem_erase hy)⟩
def Nms.erase_eq {k x:Int}{ns:List Int}(h:Nms k ns):ns.erase x=ns.filter λy=>decide (y≠x):=by
 rw[h.1.erase_eq_filter];refine filter_congr λy _=>?_
 by_cases e:y=x
 . subst e;simp
 . simp[e]
inductive Hist (g:Bool) (a f:Cn) (s N:Int):List Wr->List (Int × Int)->Nat->Nat->Prop where
|nil:Hist g a f s N [] [] 0 0
|place {W A na nf} (nm wt:Int) (h:Hist g a f s N W A na nf) (e:na=A.length):Hist g a f s N (W++[.p g ((A.length:Int) % s) nm wt]) (A++[(nm,wt)]) na nf
|laid {W A na nf} (h:Hist g a f s N W A na nf) (e:na+1=A.length):Hist g a f s N (W++[.c a (((na+1:Nat):Int) % N)]) A (na+1) nf
|fetched {W A na nf} (h:Hist g a f s N W A na nf):Hist g a f s N (W++[.c f (((nf+1:Nat):Int) % N)]) A na (nf+1)
section
variable {g:Bool}{a f:Cn}{s N:Int}{W:List Wr}{A:List (Int × Int)}{na nf:Nat}
def Hist.le (h:Hist g a f s N W A na nf):na <= A.length/\A.length <= na+1:=by
 induction h with
|nil=>exact⟨Jd _,by show 0 <= 1;decide⟩
|place nm wt h e ih=>rw[IT];show _ <= _+1/\_+1 <= _;omega
|laid h e ih=>omega
|fetched h ih=>exact ih
def Hist.cA (h:Hist g a f s N W A na nf) (haf:a≠f):rdC Mem.zero W a=(na:Int) % N:=by
 induction h with
|nil=>show (0:Int)=0 % N;simp
|place nm wt h e ih=>rw[eT];exact ih
|laid h e ih=>rw[eT];show (if a=a then dk _ else IX).getD _=_;rw[Pa rfl];rfl
|fetched h ih=>rw[eT];show (if f=a then dk _ else IX).getD _=_;rw[Pb λy=>haf y.symm];exact ih
def Hist.cF (h:Hist g a f s N W A na nf) (haf:a≠f):rdC Mem.zero W f=(nf:Int) % N:=by
 induction h with
|nil=>show (0:Int)=0 % N;simp
|place nm wt h e ih=>rw[eT];exact ih
|laid h e ih=>rw[eT];show (if a=f then dk _ else IX).getD _=_;rw[Pb haf];exact ih
|fetched h ih=>rw[eT];show (if f=f then dk _ else IX).getD _=_;rw[Pa rfl];rfl
def Hist.pl (h:Hist g a f s N W A na nf) (hs:0 < s):∀ k:Nat,k < A.length->(A.length:Int) <= k+s->rdP Mem.zero W g ((k:Int) % s)=A[k]?:=by
 induction h with
|nil=>intro k hk;cases hk
|place nm wt h e ih =>
  rename_i W A na nf;intro k hk hl;rw[lD];rw[IT]at hk hl;have hl':((A.length:Int)+1) <= k+s:=hl;have hk':k < A.length+1:=hk;show (if g=g/\(A.length:Int) % s=(k:Int) % s then dk (nm,wt) else IX).or _=_;by_cases y:k=A.length
  . rw[Pa ⟨rfl,by rw[y]⟩,y];show dk (nm,wt)=_;simp
  . have hlt:k < A.length:=by omega
    rw[Pb ?_]
    . show Option.or IX _=_;rw[Option.none_or,ih k hlt (by omega),KA hlt]
    . rintro⟨_,q⟩;have d:((A.length:Int) - k) % s=0:=Int.emod_eq_emod_iff_emod_sub_eq_zero.mp q;have d1:((A.length:Int) - k) < s:=by omega
      rw[Int.emod_eq_of_lt (by omega) d1]at d;omega
|laid h e ih=>intro k hk hl;rw[lD];exact ih k hk hl
|fetched h ih=>intro k hk hl;rw[lD];exact ih k hk hl
def Hist.pre (h:Hist g a f s N W A na nf):∀ d:Nat,∃ A' na' nf',Hist g a f s N (W.take d) A' na' nf'/\A' <+: A/\na' <= na/\nf' <= nf:=by
 induction h with
|nil=>intro d;exact⟨[],0,0,by rw[take_nil];exact .nil,prefix_refl _,Jd _,Jd _⟩
|place nm wt h e ih =>
  rename_i W A na nf;intro d;by_cases hd:d <= W.length
  . obtain⟨A',na',nf',q,q1,q2,q3⟩:=ih d;exact⟨A',na',nf',by rw[Jn hd];exact q,q1.trans (prefix_append _ _),q2,q3⟩
  . exact⟨_,_,_,by rw[Kx (by rw[IT];show _+1 <= d;omega)];exact .place nm wt h e,prefix_refl _,Jd _,Jd _⟩
|laid h e ih =>
  rename_i W A na nf;intro d;by_cases hd:d <= W.length
  . obtain⟨A',na',nf',q,q1,q2,q3⟩:=ih d;exact⟨A',na',nf',by rw[Jn hd];exact q,q1,by omega,q3⟩
  . exact⟨_,_,_,by rw[Kx (by rw[IT];show _+1 <= d;omega)];exact .laid h e,prefix_refl _,Jd _,Jd _⟩
|fetched h ih =>
  rename_i W A na nf;intro d;by_cases hd:d <= W.length
  . obtain⟨A',na',nf',q,q1,q2,q3⟩:=ih d;exact⟨A',na',nf',by rw[Jn hd];exact q,q1,q2,by omega⟩
  . exact⟨_,_,_,by rw[Kx (by rw[IT];show _+1 <= d;omega)];exact .fetched h,prefix_refl _,Jd _,Jd _⟩
end
def DP (m:Mem) (X Y:List Wr) (k:Cn):rdC m (X++Y) k=(Y.reverse.findSome? (Wr.cnt k)).getD (rdC m X k):=by
 unfold rdC;rw[reverse_append,List.findSome?_append];cases Y.reverse.findSome? (Wr.cnt k)<;>rfl
def EO (m:Mem) (X Y:List Wr) (g:Bool) (i:Int):rdP m (X++Y) g i=(Y.reverse.findSome? (Wr.plc g i)).or (rdP m X g i):=by
 unfold rdP;rw[reverse_append,List.findSome?_append];cases Y.reverse.findSome? (Wr.plc g i)<;>rfl
def sF {m:Mem}{W:List Wr}{d:Nat}{k:Cn}(h:m.c k=rdC Mem.zero (W.take d) k):rdC m (W.drop d) k=rdC Mem.zero W k:=by
 have e:rdC Mem.zero W k=rdC Mem.zero (W.take d++W.drop d) k:=by rw[take_append_drop]
 rw[e,DP,<-h];rfl
def nW {m:Mem}{k:Cn}:∀ {row:List Wr},(∀ x∈row,x.cnt k=IX)->rdC m row k=m.c k:=λ{row} h=>by
 unfold rdC;rw[List.findSome?_eq_none_iff.mpr λx hx=>h x (mem_reverse.mp hx)];rfl
def wC {m:Mem}{g:Bool}{i:Int}:∀ {row:List Wr},(∀ x∈row,x.plc g i=IX)->rdP m row g i=m.p g i:=λ{row} h=>by
 unfold rdP;rw[List.findSome?_eq_none_iff.mpr λx hx=>h x (mem_reverse.mp hx)];simp
def isC (k:Cn) (x:Wr):Bool:=(x.cnt k).isSome
section
variable {g:Bool}{a f:Cn}{s N:Int}{W:List Wr}{A:List (Int × Int)}{na nf:Nat}
def Hist.nA (h:Hist g a f s N W A na nf) (haf:a≠f):(W.filter (isC a)).length=na:=by
 induction h with
|nil=>rfl
|place nm wt h e ih=>rw[JU,IT,ih];rfl
|laid h e ih =>
  rw[JU,IT,ih];show _+(List.filter (isC a) [.c a _]).length=_;rw[J0,Pa (by show (if a=a then dk _ else IX).isSome=l';rw[Pa rfl];rfl)];rfl
|fetched h ih =>
  rw[JU,IT,ih];show _+(List.filter (isC a) [.c f _]).length=_;rw[J0,Pb (by show ¬ (if f=a then dk _ else IX).isSome=l';rw[Pb λy=>haf y.symm];decide)];rfl
def Hist.nF (h:Hist g a f s N W A na nf) (haf:a≠f):(W.filter (isC f)).length=nf:=by
 induction h with
|nil=>rfl
|place nm wt h e ih=>rw[JU,IT,ih];rfl
|laid h e ih =>
  rw[JU,IT,ih];show _+(List.filter (isC f) [.c a _]).length=_;rw[J0,Pb (by show ¬ (if a=f then dk _ else IX).isSome=l';rw[Pb haf];decide)];rfl
|fetched h ih =>
  rw[JU,IT,ih];show _+(List.filter (isC f) [.c f _]).length=_;rw[J0,Pa (by show (if f=f then dk _ else IX).isSome=l';rw[Pa rfl];rfl)];rfl
def Hist.only (h:Hist g a f s N W A na nf):∀ x∈W,(∃ i nm wt,x=.p g i nm wt)\/(∃ i,x=.c a i)\/∃ i,x=.c f i:=by
 induction h with
|nil=>intro x hx;cases hx
|place nm wt h e ih =>
  intro x hx;rcases JB.mp hx with y|y
  . exact ih x y
  . exact .inl ⟨_,_,_,IW.mp y⟩
|laid h e ih =>
  intro x hx;rcases JB.mp hx with y|y
  . exact ih x y
  . exact .inr (.inl ⟨_,IW.mp y⟩)
|fetched h ih =>
  intro x hx;rcases JB.mp hx with y|y
  . exact ih x y
  . exact .inr (.inr ⟨_,IW.mp y⟩)
end
structure Two (s R:Int) (m:Mem) (rs:Bool->List Wr) (A B:List (Int × Int)) (T Hd:Nat) (Wf Wt:List Wr) (df dt:Nat) (A' B':List (Int × Int)) (a' h' b' t':Nat):Prop where
 hf:Hist f' .asked .handed s (s * R) Wf A A.length Hd
 ht:Hist l' .answered .taken s (s * R) Wt B B.length T
 pf:Hist f' .asked .handed s (s * R) (Wf.take df) A' a' h'
 pt:Hist l' .answered .taken s (s * R) (Wt.take dt) B' b' t'
 af:A' <+: A
 bt:B' <+: B
 rf:rs f'=Wf.drop df
 rt:rs l'=Wt.drop dt
 ma:m.c .asked=rdC Mem.zero (Wf.take df) .asked
 mh:m.c .handed=rdC Mem.zero (Wf.take df) .handed
 mp:∀ i,m.p f' i=rdP Mem.zero (Wf.take df) f' i
 mb:m.c .answered=rdC Mem.zero (Wt.take dt) .answered
 mt:m.c .taken=rdC Mem.zero (Wt.take dt) .taken
 mq:∀ i,m.p l' i=rdP Mem.zero (Wt.take dt) l' i
 la:a' <= A.length
 lh:h' <= Hd
 lb:b' <= B.length
 lt:t' <= T
 ta:T <= a'
 hb:Hd <= b'
 sa:(A.length:Int) <= t'+s
 sb:(B.length:Int) <= h'+s
 xf:df <= Wf.length
 xt:dt <= Wt.length
def nV {s R:Int}{x y:Nat}(hs:0 < s) (hR:2 <= R) (h1:y <= x) (h2:(x:Int) <= y+s):((x:Int) % (s * R) - (y:Int) % (s * R)) % (s * R)=(x:Int) - y:=by
 have hN:s < s * R:=by
  have:=Int.mul_le_mul_of_nonneg_left hR (Int.le_of_lt hs);omega
 rw[<-Int.sub_emod];exact Int.emod_eq_of_lt (by omega) (by omega)
section
variable {s R:Int}{m:Mem}{rs:Bool->List Wr}{A B:List (Int × Int)}{T Hd:Nat}{Wf Wt:List Wr}{df dt:Nat}{A' B':List (Int × Int)}{a' h' b' t':Nat}
def Two.noT (t:Two s R m rs A B T Hd Wf Wt df dt A' B' a' h' b' t'):∀ x∈rs l',x.cnt .asked=IX/\x.cnt .handed=IX/\∀ i,x.plc f' i=IX:=λx hx=>by
 rw[t.rt]at hx;rcases t.ht.only x (List.mem_of_mem_drop hx) with⟨i,nm,wt,rfl⟩|⟨i,rfl⟩|⟨i,rfl⟩
 . exact⟨rfl,rfl,λj=>by unfold Wr.plc;dsimp only;rw[Pb (by rintro⟨q,_⟩;cases q)]⟩
 . exact⟨rfl,rfl,λj=>rfl⟩
 . exact⟨rfl,rfl,λj=>rfl⟩
def Two.noF (t:Two s R m rs A B T Hd Wf Wt df dt A' B' a' h' b' t'):∀ x∈rs f',x.cnt .answered=IX/\x.cnt .taken=IX/\∀ i,x.plc l' i=IX:=λx hx=>by
 rw[t.rf]at hx;rcases t.hf.only x (List.mem_of_mem_drop hx) with⟨i,nm,wt,rfl⟩|⟨i,rfl⟩|⟨i,rfl⟩
 . exact⟨rfl,rfl,λj=>by unfold Wr.plc;dsimp only;rw[Pb (by rintro⟨q,_⟩;cases q)]⟩
 . exact⟨rfl,rfl,λj=>rfl⟩
 . exact⟨rfl,rfl,λj=>rfl⟩
def Two.reads (t:Two s R m rs A B T Hd Wf Wt df dt A' B' a' h' b' t') :
 (rdC m (rs f') .asked=(A.length:Int) % (s * R)/\rdC m (rs f') .handed=(Hd:Int) % (s * R)/\rdC m (rs f') .taken=(t':Int) % (s * R)/\rdC m (rs f') .answered=(b':Int) % (s * R)) /\
 (rdC m (rs l') .asked=(a':Int) % (s * R)/\rdC m (rs l') .handed=(h':Int) % (s * R)/\rdC m (rs l') .taken=(T:Int) % (s * R)/\rdC m (rs l') .answered=(B.length:Int) % (s * R)):=by
 refine⟨⟨?_,?_,?_,?_⟩,?_,?_,?_,?_⟩
 . rw[t.rf,sF t.ma];exact t.hf.cA (by decide)
 . rw[t.rf,sF t.mh];exact t.hf.cF (by decide)
 . rw[nW λx hx=>(t.noF x hx).2.1,t.mt];exact t.pt.cF (by decide)
 . rw[nW λx hx=>(t.noF x hx).1,t.mb];exact t.pt.cA (by decide)
 . rw[nW λx hx=>(t.noT x hx).1,t.ma];exact t.pf.cA (by decide)
 . rw[nW λx hx=>(t.noT x hx).2.1,t.mh];exact t.pf.cF (by decide)
 . rw[t.rt,sF t.mt];exact t.ht.cF (by decide)
 . rw[t.rt,sF t.mb];exact t.ht.cA (by decide)
def Two.ask (t:Two s R m rs A B T Hd Wf Wt df dt A' B' a' h' b' t') (hs:0 < s) (h:T < a'):rdP m (rs l') f' ((T:Int) % (s * R) % s)=A[T]?:=by
 rw[Int.emod_emod_of_dvd _ (dvd_mul_right s R),wC λx hx=>(t.noT x hx).2.2 _,t.mp];have l1:=t.pf.le.1;have l2:=t.af.length_le;have l3:=t.sa;have l4:=t.lt;rw[t.pf.pl hs T (by omega) (by omega)];obtain⟨X,e⟩:=t.af;rw[<-e,KA (by omega)]
def Two.answer (t:Two s R m rs A B T Hd Wf Wt df dt A' B' a' h' b' t') (hs:0 < s) (h:Hd < b'):rdP m (rs f') l' ((Hd:Int) % (s * R) % s)=B[Hd]?:=by
 rw[Int.emod_emod_of_dvd _ (dvd_mul_right s R),wC λx hx=>(t.noF x hx).2.2 _,t.mq];have l1:=t.pt.le.1;have l2:=t.bt.length_le;have l3:=t.sb;have l4:=t.lh;rw[t.pt.pl hs Hd (by omega) (by omega)];obtain⟨X,e⟩:=t.bt;rw[<-e,KA (by omega)]
def sD (x:Nat) (N:Int):((x:Int) % N+1) % N=((x+1:Nat):Int) % N:=by
 rw[Int.emod_add_emod];rfl
theorem Two.asked (t:Two s R m rs A B T Hd Wf Wt df dt A' B' a' h' b' t') (hl:(A.length:Int) < t'+s) (nm wt:Int):∃ W,Two s R m (aF rs f' (rs f'++kR ⟨s,R,f'⟩ m (rs f') f' .asked nm wt)) (A++[(nm,wt)]) B T Hd W Wt df dt A' B' a' h' b' t':=by
 have e1:=t.reads.1.1;have el:kR ⟨s,R,f'⟩ m (rs f') f' .asked nm wt=[.p f' ((A.length:Int) % s) nm wt,.c .asked (((A.length+1:Nat):Int) % (s * R))]:=by
  unfold kR d7;rw[e1];show [Wr.p f' ((A.length:Int) % (s * R) % s) nm wt,.c .asked (((A.length:Int) % (s * R)+1) % (s * R))]=_;rw[Int.emod_emod_of_dvd _ (dvd_mul_right s R),sD]
 rw[el];have h1:=(t.hf.place nm wt rfl).laid (by rw[IT];rfl);rw[JA]at h1;have hlen:(A++[(nm,wt)]).length=A.length+1:=by rw[IT];rfl
 refine⟨_,⟨by rw[hlen];exact h1,t.ht,by rw[Jn t.xf];exact t.pf,t.pt,t.af.trans (prefix_append _ _),t.bt,?_,by rw[aG (by decide)];exact t.rt,by rw[Jn t.xf];exact t.ma,by rw[Jn t.xf];exact t.mh,λi=>by rw[Jn t.xf];exact t.mp i,t.mb,t.mt,t.mq,by rw[hlen];have:=t.la;omega,t.lh,t.lb,t.lt,t.ta,t.hb,by rw[hlen];omega,t.sb,by rw[IT];have:=t.xf;omega,t.xt⟩⟩;rw[ap,t.rf,JV t.xf];rfl
def Two.drainF (t:Two s R m rs A B T Hd Wf Wt df dt A' B' a' h' b' t') {x:Wr}{rest:List Wr}(e:rs f'=x :: rest):∃ A2 a2 h2,a' <= a2/\h' <= h2/\Two s R (m.put x) (aF rs f' rest) A B T Hd Wf Wt (df+1) dt A2 B' a2 h2 b' t':=by
 have hx:=t.rf.symm.trans e;have hlt:df < Wf.length:=by
  have:=congrArg Kz hx;rw[length_drop,JH]at this;omega
 have ht:Wf.take (df+1)=Wf.take df++[x]:=by
  have g:Wf[df]?=dk x:=by
   have:=congrArg head? hx;rw[List.head?_drop]at this;exact this
  rw[take_succ,g];rfl
 have hr:Wf.drop (df+1)=rest:=by
  rw[<-List.drop_drop,hx];rfl
 obtain⟨A2,a2,h2,q,q1,q2,q3⟩:=t.hf.pre (df+1);have n1:=t.pf.nA (by decide);have n2:=t.pf.nF (by decide);have n3:=q.nA (by decide);have n4:=q.nF (by decide);rw[ht,JU,IT]at n3 n4;have ga:a' <= a2:=by omega
 have gh:h' <= h2:=by omega
 have ox:(∃ i nm wt,x=.p f' i nm wt)\/(∃ i,x=.c .asked i)\/∃ i,x=.c .handed i:=t.hf.only x (List.mem_of_mem_drop (by rw[hx];exact Jg));have oth:x.cnt .answered=IX/\x.cnt .taken=IX/\∀ i,x.plc l' i=IX:=t.noF x (by rw[e];exact Jg);refine⟨A2,a2,h2,ga,gh,⟨t.hf,t.ht,q,t.pt,q1,t.bt,by rw[ap];exact hr.symm,by rw[aG (by decide)];exact t.rt,?_,?_,λi=>?_,?_,?_,λi=>?_,by have:=q2;omega,q3,t.lb,t.lt,by have:=t.ta;omega,t.hb,t.sa,by have:=t.sb;omega,hlt,t.xt⟩⟩
 . rw[ht,eT,<-t.ma];rfl
 . rw[ht,eT,<-t.mh];rfl
 . rw[ht,lD,<-t.mp];rfl
 . rw[<-t.mb];show (x.cnt .answered).getD _=_;rw[oth.1];rfl
 . rw[<-t.mt];show (x.cnt .taken).getD _=_;rw[oth.2.1];rfl
 . rw[<-t.mq i];show (x.plc l' i).or _=_;rw[oth.2.2 i];rfl
def Two.collected (t:Two s R m rs A B T Hd Wf Wt df dt A' B' a' h' b' t') (hl:Hd < b'):∃ W,Two s R m (aF rs f' (rs f'++[d7 ⟨s,R,f'⟩ m (rs f') .handed])) A B T (Hd+1) W Wt df dt A' B' a' h' b' t':=by
 have e1:=t.reads.1.2.1;have el:d7 ⟨s,R,f'⟩ m (rs f') .handed=.c .handed (((Hd+1:Nat):Int) % (s * R)):=by
  unfold d7;rw[e1];show Wr.c .handed (((Hd:Int) % (s * R)+1) % (s * R))=_;rw[sD]
 rw[el];refine⟨_,⟨t.hf.fetched,t.ht,by rw[Jn t.xf];exact t.pf,t.pt,t.af,t.bt,?_,by rw[aG (by decide)];exact t.rt,by rw[Jn t.xf];exact t.ma,by rw[Jn t.xf];exact t.mh,λi=>by rw[Jn t.xf];exact t.mp i,t.mb,t.mt,t.mq,t.la,by have:=t.lh;omega,t.lb,t.lt,t.ta,hl,t.sa,t.sb,by rw[IT];have:=t.xf;omega,t.xt⟩⟩;rw[ap,t.rf,JV t.xf]
def Two.took (t:Two s R m rs A B T Hd Wf Wt df dt A' B' a' h' b' t') (hl:T < a'):∃ W,Two s R m (aF rs l' (rs l'++[d7 ⟨s,R,f'⟩ m (rs l') .taken])) A B (T+1) Hd Wf W df dt A' B' a' h' b' t':=by
 have e1:=t.reads.2.2.2.1;have el:d7 ⟨s,R,f'⟩ m (rs l') .taken=.c .taken (((T+1:Nat):Int) % (s * R)):=by
  unfold d7;rw[e1];show Wr.c .taken (((T:Int) % (s * R)+1) % (s * R))=_;rw[sD]
 rw[el];refine⟨_,⟨t.hf,t.ht.fetched,t.pf,by rw[Jn t.xt];exact t.pt,t.af,t.bt,by rw[aG (by decide)];exact t.rf,?_,t.ma,t.mh,t.mp,by rw[Jn t.xt];exact t.mb,by rw[Jn t.xt];exact t.mt,λi=>by rw[Jn t.xt];exact t.mq i,t.la,t.lh,t.lb,by have:=t.lt;omega,hl,t.hb,t.sa,t.sb,t.xf,by rw[IT];have:=t.xt;omega⟩⟩;rw[ap,t.rt,JV t.xt]
theorem Two.answered (t:Two s R m rs A B T Hd Wf Wt df dt A' B' a' h' b' t') (hl:(B.length:Int) < h'+s) (nm wt:Int):∃ W,Two s R m (aF rs l' (rs l'++kR ⟨s,R,f'⟩ m (rs l') l' .answered nm wt)) A (B++[(nm,wt)]) T Hd Wf W df dt A' B' a' h' b' t':=by
 have e1:=t.reads.2.2.2.2;have el:kR ⟨s,R,f'⟩ m (rs l') l' .answered nm wt=[.p l' ((B.length:Int) % s) nm wt,.c .answered (((B.length+1:Nat):Int) % (s * R))]:=by
  unfold kR d7;rw[e1];show [Wr.p l' ((B.length:Int) % (s * R) % s) nm wt,.c .answered (((B.length:Int) % (s * R)+1) % (s * R))]=_;rw[Int.emod_emod_of_dvd _ (dvd_mul_right s R),sD]
 rw[el];have h1:=(t.ht.place nm wt rfl).laid (by rw[IT];rfl);rw[JA]at h1;have hlen:(B++[(nm,wt)]).length=B.length+1:=by rw[IT];rfl
 refine⟨_,⟨t.hf,by rw[hlen];exact h1,t.pf,by rw[Jn t.xt];exact t.pt,t.af,t.bt.trans (prefix_append _ _),by rw[aG (by decide)];exact t.rf,?_,t.ma,t.mh,t.mp,by rw[Jn t.xt];exact t.mb,by rw[Jn t.xt];exact t.mt,λi=>by rw[Jn t.xt];exact t.mq i,t.la,t.lh,by rw[hlen];have:=t.lb;omega,t.lt,t.ta,t.hb,t.sa,by rw[hlen];omega,t.xf,by rw[IT];have:=t.xt;omega⟩⟩;rw[ap,t.rt,JV t.xt];rfl
def Two.drainT (t:Two s R m rs A B T Hd Wf Wt df dt A' B' a' h' b' t') {x:Wr}{rest:List Wr}(e:rs l'=x :: rest):∃ B2 b2 t2,b' <= b2/\t' <= t2/\Two s R (m.put x) (aF rs l' rest) A B T Hd Wf Wt df (dt+1) A' B2 a' h' b2 t2:=by
 have hx:=t.rt.symm.trans e;have hlt:dt < Wt.length:=by
  have:=congrArg Kz hx;rw[length_drop,JH]at this;omega
 have ht:Wt.take (dt+1)=Wt.take dt++[x]:=by
  have g:Wt[dt]?=dk x:=by
   have:=congrArg head? hx;rw[List.head?_drop]at this;exact this
  rw[take_succ,g];rfl
 have hr:Wt.drop (dt+1)=rest:=by
  rw[<-List.drop_drop,hx];rfl
 obtain⟨B2,b2,t2,q,q1,q2,q3⟩:=t.ht.pre (dt+1);have n1:=t.pt.nA (by decide);have n2:=t.pt.nF (by decide);have n3:=q.nA (by decide);have n4:=q.nF (by decide);rw[ht,JU,IT]at n3 n4;have gb:b' <= b2:=by omega
 have gt:t' <= t2:=by omega
 have oth:x.cnt .asked=IX/\x.cnt .handed=IX/\∀ i,x.plc f' i=IX:=t.noT x (by rw[e];exact Jg);refine⟨B2,b2,t2,gb,gt,⟨t.hf,t.ht,t.pf,q,t.af,q1,by rw[aG (by decide)];exact t.rf,by rw[ap];exact hr.symm,?_,?_,λi=>?_,?_,?_,λi=>?_,t.la,t.lh,by have:=q2;omega,q3,t.ta,by have:=t.hb;omega,by have:=t.sa;omega,t.sb,t.xf,hlt⟩⟩
 . rw[<-t.ma];show (x.cnt .asked).getD _=_;rw[oth.1];rfl
 . rw[<-t.mh];show (x.cnt .handed).getD _=_;rw[oth.2.1];rfl
 . rw[<-t.mp i];show (x.plc f' i).or _=_;rw[oth.2.2 i];rfl
 . rw[ht,eT,<-t.mb];rfl
 . rw[ht,eT,<-t.mt];rfl
 . rw[ht,lD,<-t.mq];rfl
def Two.waits (t:Two s R m rs A B T Hd Wf Wt df dt A' B' a' h' b' t'):(((rs f').filter (isC .asked)).length=A.length - a'/\((rs f').filter (isC .handed)).length=Hd - h')/\((rs l').filter (isC .answered)).length=B.length - b'/\((rs l').filter (isC .taken)).length=T - t':=by
 have spl:∀ (W:List Wr) (d:Nat) (k:Cn),(W.filter (isC k)).length=((W.take d).filter (isC k)).length+((W.drop d).filter (isC k)).length:=λW d k=>by
  rw[<-IT,<-JU,take_append_drop]
 have x1:=spl Wf df .asked;have x2:=spl Wf df .handed;have x3:=spl Wt dt .answered;have x4:=spl Wt dt .taken;rw[t.hf.nA (by decide),t.pf.nA (by decide),<-t.rf]at x1;rw[t.hf.nF (by decide),t.pf.nF (by decide),<-t.rf]at x2;rw[t.ht.nA (by decide),t.pt.nA (by decide),<-t.rt]at x3;rw[t.ht.nF (by decide),t.pt.nF (by decide),<-t.rt]at x4;omega
theorem Two.zero {s R:Int}(hs:0 < s):Two s R Mem.zero (λ_=>[]) [] [] 0 0 [] [] 0 0 [] [] 0 0 0 0 :=
 ⟨.nil,.nil,.nil,.nil,prefix_refl _,prefix_refl _,rfl,rfl,rfl,rfl,λ_=>rfl,rfl,rfl,λ_=>rfl,Jd _,Jd _,Jd _,Jd _,Jd _,Jd _,by show (0:Int) <= 0+s;omega,by show (0:Int) <= 0+s;omega,Jd _,Jd _⟩
end
structure M8 (s R:Int) (n:Nat) (m:Mem) (rs:Bool->List Wr) (un tk:List Int) (A B:List (Int × Int)) (T Hd:Nat):Prop where
 two:∃ Wf Wt df dt A' B' a' h' b' t',Two s R m rs A B T Hd Wf Wt df dt A' B' a' h' b' t'
 pm:un.Perm ((A.drop T).map (·.1)++(tk++(B.drop Hd).map (·.1)))
 bt:B.length+tk.length=T
 und:Nms n un
 tkd:Nms 9 tk
 n9:n <= 9
 s0:0 < s
 s8:s <= 8
 R2:2 <= R
def nC (k:Cn) (row:List Wr):Nat:=(row.filter (isC k)).length
section
variable {s R:Int}{n:Nat}{m:Mem}{rs:Bool->List Wr}{un tk:List Int}{A B:List (Int × Int)}{T Hd:Nat}
def M8.TA (M:M8 s R n m rs un tk A B T Hd):T <= A.length/\Hd <= B.length:=by
 obtain⟨Wf,Wt,df,dt,A',B',a',h',b',t',t⟩:=M.two;have:=t.ta;have:=t.la;have:=t.hb;have:=t.lb;omega
def M8.full (M:M8 s R n m rs un tk A B T Hd):au ⟨s,R,f'⟩ m (rs f') .asked .taken=s ↔ (A.length:Int) - ((T:Int) - (nC .taken (rs l'):Nat))=s:=by
 obtain⟨Wf,Wt,df,dt,A',B',a',h',b',t',t⟩:=M.two;unfold au;rw[t.reads.1.1,t.reads.1.2.2.1];have h1:=t.lt;have h2:=t.ta;have h3:=t.la;have h4:=t.sa;show ((A.length:Int) % (s * R) - (t':Int) % (s * R)) % (s * R)=s ↔ _;rw[nV M.s0 M.R2 (by omega) h4];have:=t.waits.2.2;unfold nC;rw[this];omega
def M8.full2 (M:M8 s R n m rs un tk A B T Hd):au ⟨s,R,f'⟩ m (rs l') .answered .handed=s ↔ (B.length:Int) - ((Hd:Int) - (nC .handed (rs f'):Nat))=s:=by
 obtain⟨Wf,Wt,df,dt,A',B',a',h',b',t',t⟩:=M.two;unfold au;rw[t.reads.2.2.2.2,t.reads.2.2.1];have h1:=t.lh;have h2:=t.hb;have h3:=t.lb;have h4:=t.sb;show ((B.length:Int) % (s * R) - (h':Int) % (s * R)) % (s * R)=s ↔ _;rw[nV M.s0 M.R2 (by omega) h4];have:=t.waits.1.2;unfold nC;rw[this];omega
def M8.none1 (M:M8 s R n m rs un tk A B T Hd):au ⟨s,R,f'⟩ m (rs l') .asked .taken=0 ↔ (A.length:Int) - (nC .asked (rs f'):Nat)=T:=by
 obtain⟨Wf,Wt,df,dt,A',B',a',h',b',t',t⟩:=M.two;unfold au;rw[t.reads.2.1,t.reads.2.2.2.1];have h1:=t.lt;have h2:=t.ta;have h3:=t.la;have h4:=t.sa;show ((a':Int) % (s * R) - (T:Int) % (s * R)) % (s * R)=0 ↔ _;rw[nV M.s0 M.R2 h2 (by omega)];have:=t.waits.1.1;unfold nC;rw[this];omega
def M8.none2 (M:M8 s R n m rs un tk A B T Hd):au ⟨s,R,f'⟩ m (rs f') .answered .handed=0 ↔ (B.length:Int) - (nC .answered (rs l'):Nat)=Hd:=by
 obtain⟨Wf,Wt,df,dt,A',B',a',h',b',t',t⟩:=M.two;unfold au;rw[t.reads.1.2.2.2,t.reads.1.2.1];have h1:=t.lh;have h2:=t.hb;have h3:=t.lb;have h4:=t.sb;show ((b':Int) % (s * R) - (Hd:Int) % (s * R)) % (s * R)=0 ↔ _;rw[nV M.s0 M.R2 h2 (by omega)];have:=t.waits.2.1;unfold nC;rw[this];omega
def M8.ask (M:M8 s R n m rs un tk A B T Hd) (h:au ⟨s,R,f'⟩ m (rs f') .asked .taken≠s) {nm:Int}(hl:bF n un=dk nm) (wt:Int) :
 M8 s R n m (aF rs f' (rs f'++kR ⟨s,R,f'⟩ m (rs f') f' .asked nm wt)) (un++[nm]) tk (A++[(nm,wt)]) B T Hd:=by
 obtain⟨Wf,Wt,df,dt,A',B',a',h',b',t',t⟩:=M.two;have hlt:(A.length:Int) < t'+s:=by
  rw[Ne,M.full]at h;have h1:=t.waits.2.2;unfold nC at h;rw[h1]at h;have h1:=t.lt;have h2:=t.ta;have h3:=t.la;have h4:=t.sa;omega
 obtain⟨W,t2⟩:=t.asked hlt nm wt;have hT:=M.TA.1;refine⟨⟨_,_,_,_,_,_,_,_,_,_,t2⟩,?_,M.bt,M.und.snoc (mJ hl) (sS hl),M.tkd,M.n9,M.s0,M.s8,M.R2⟩;rw[JV hT,J3];refine(KD [nm] M.pm).trans ?_;rw[JA (List.map _ (List.drop T A)),JA (List.map _ (List.drop T A))];refine Ln _ ?_;show (tk++(B.drop Hd).map (·.1)++[nm]).Perm ([nm]++_);exact List.perm_append_comm
def M8.takeR (M:M8 s R n m rs un tk A B T Hd) (h:au ⟨s,R,f'⟩ m (rs l') .asked .taken≠0):∃ nw,A[T]?=dk nw/\rdP m (rs l') f' (rdC m (rs l') .taken % s)=dk nw/\T < A.length/\tk.contains nw.1=f'/\(0 <= nw.1/\nw.1 < 9) /\
 M8 s R n m (aF rs l' (rs l'++[d7 ⟨s,R,f'⟩ m (rs l') .taken])) un (tk++[nw.1]) A B (T+1) Hd:=by
 obtain⟨Wf,Wt,df,dt,A',B',a',h',b',t',t⟩:=M.two;have hlt:T < a':=by
  rw[Ne,M.none1]at h;have h1:=t.waits.1.1;unfold nC at h;rw[h1]at h;have h2:=t.ta;have h3:=t.la;omega
 have hTA:T < A.length:=by have:=t.la;omega
 have hd:A.drop T=A[T] :: A.drop (T+1):=KS hTA;have pm:=M.pm;rw[hd,J1,List.cons_append]at pm;have nd:=(pm.nodup_iff).mp M.und.1;have nin:=(KG.mp nd).1;have hin:A[T].1∈un:=pm.mem_iff.mpr Jg;have hb:=M.und.2 _ hin;have n9:=M.n9;have hb9:0 <= A[T].1/\A[T].1 < 9:=⟨hb.1,by have:=hb.2;omega⟩
 have hc:tk.contains A[T].1=f':=by
  rw[Lr,decide_eq_false_iff_not];exact λy=>nin (JB.mpr (.inr (JB.mpr (.inl y))))
 obtain⟨W,t2⟩:=t.took hlt;refine⟨A[T],Jb hTA,?_,hTA,hc,hb9,⟨⟨_,_,_,_,_,_,_,_,_,_,t2⟩,?_,by rw[IT];have:=M.bt;show _+(_+1)=_;omega,M.und,M.tkd.snoc hc hb9,M.n9,M.s0,M.s8,M.R2⟩⟩
 . rw[t.reads.2.2.2.1];rw[t.ask M.s0 hlt,Jb hTA]
 . refine pm.trans ?_;rw[JA];show (A[T].1 :: ((A.drop (T+1)).map (·.1)++(tk++(B.drop Hd).map (·.1)))).Perm _;refine Ly.trans ?_ (Ln _ (List.perm_append_comm_assoc tk [A[T].1] _).symm);exact(List.perm_middle (a:=A[T].1)).symm
def M8.answer (M:M8 s R n m rs un tk A B T Hd) {nm:Int}(hm:nm∈tk) (h:au ⟨s,R,f'⟩ m (rs l') .answered .handed≠s) (wt:Int) :
 M8 s R n m (aF rs l' (rs l'++kR ⟨s,R,f'⟩ m (rs l') l' .answered nm wt)) un (tk.erase nm) A (B++[(nm,wt)]) T Hd:=by
 obtain⟨Wf,Wt,df,dt,A',B',a',h',b',t',t⟩:=M.two;have hlt:(B.length:Int) < h'+s:=by
  rw[Ne,M.full2]at h;have h1:=t.waits.1.2;unfold nC at h;rw[h1]at h;have h1:=t.lh;have h2:=t.hb;have h3:=t.lb;have h4:=t.sb;omega
 obtain⟨W,t2⟩:=t.answered hlt nm wt;have hH:=M.TA.2;have hpos:=List.length_pos_of_mem hm;refine⟨⟨_,_,_,_,_,_,_,_,_,_,t2⟩,?_,by rw[IT,List.length_erase_of_mem hm];have:=M.bt;show _+1+_=_;omega,M.und,M.tkd.erase,M.n9,M.s0,M.s8,M.R2⟩;rw[JV hH,J3];refine M.pm.trans (Ln _ ?_);show (tk++_).Perm (tk.erase nm++((B.drop Hd).map (·.1)++[nm]));refine(KD _ (List.perm_cons_erase hm)).trans ?_;rw[List.cons_append,<-JA];exact(List.perm_append_singleton nm _).symm
def M8.collectR (M:M8 s R n m rs un tk A B T Hd) (h:au ⟨s,R,f'⟩ m (rs f') .answered .handed≠0):∃ nw,B[Hd]?=dk nw/\rdP m (rs f') l' (rdC m (rs f') .handed % s)=dk nw/\Hd < B.length/\nw.1∈un /\
 M8 s R n m (aF rs f' (rs f'++[d7 ⟨s,R,f'⟩ m (rs f') .handed])) (un.erase nw.1) tk A B T (Hd+1):=by
 obtain⟨Wf,Wt,df,dt,A',B',a',h',b',t',t⟩:=M.two;have hlt:Hd < b':=by
  rw[Ne,M.none2]at h;have h1:=t.waits.2.1;unfold nC at h;rw[h1]at h;have h2:=t.hb;have h3:=t.lb;omega
 have hHB:Hd < B.length:=by have:=t.lb;omega
 have hd:B.drop Hd=B[Hd] :: B.drop (Hd+1):=KS hHB;have pm:=M.pm;rw[hd,J1]at pm;have hin:B[Hd].1∈un:=pm.mem_iff.mpr (JB.mpr (.inr (JB.mpr (.inr Jg))));obtain⟨W,t2⟩:=t.collected hlt;refine⟨B[Hd],Jb hHB,?_,hHB,hin,⟨⟨_,_,_,_,_,_,_,_,_,_,t2⟩,?_,M.bt,M.und.erase,M.tkd,M.n9,M.s0,M.s8,M.R2⟩⟩
 . rw[t.reads.1.2.1];rw[t.answer M.s0 hlt,Jb hHB]
 . have p2:un.Perm (B[Hd].1 :: ((A.drop T).map (·.1)++(tk++(B.drop (Hd+1)).map (·.1)))):=by
    refine pm.trans ?_;rw[<-JA,<-JA];exact List.perm_middle
   have p3:=p2.erase B[Hd].1;rw[List.erase_cons_head]at p3;exact p3
def M8.drain (M:M8 s R n m rs un tk A B T Hd) (b:Bool) {x:Wr}{rest:List Wr}(e:rs b=x :: rest):M8 s R n (m.put x) (aF rs b rest) un tk A B T Hd:=by
 obtain⟨Wf,Wt,df,dt,A',B',a',h',b',t',t⟩:=M.two;cases b with
|false =>
  obtain⟨A2,a2,h2,_,_,t2⟩:=t.drainF e;exact⟨⟨_,_,_,_,_,_,_,_,_,_,t2⟩,M.pm,M.bt,M.und,M.tkd,M.n9,M.s0,M.s8,M.R2⟩
|true =>
  obtain⟨A2,a2,h2,_,_,t2⟩:=t.drainT e;exact⟨⟨_,_,_,_,_,_,_,_,_,_,t2⟩,M.pm,M.bt,M.und,M.tkd,M.n9,M.s0,M.s8,M.R2⟩
def vo (rs:Bool->List Wr) (b:Bool):aF rs b (rs b)=rs:=by
 funext c;unfold aF;split
 . rename_i y;rw[y]
 . rfl
theorem M8.zero {n:Nat}(hs:0 < s) (hs8:s <= 8) (hR:2 <= R) (n9:n <= 9):M8 s R n Mem.zero (λ_=>[]) [] [] [] [] 0 0 :=
 ⟨⟨_,_,_,_,_,_,_,_,_,_,Two.zero hs⟩,Ly.refl _,rfl,Nms.nil _,Nms.nil _,n9,hs,hs8,hR⟩
end
section
variable {X:Cx}
end
section
variable {X:Cx}
end
section
variable {X:Cx}
end
def ltS (a b:Str):Prop:=a.cps.toList < b.cps.toList
def leS (a b:Str):Prop:=¬ ltS b a
def oB {α β:Type}{R:α->β->Prop}:∀ {bs cs:List β},cs.Perm bs->∀ {as:List α},Jv R as bs->∃ ds,ds.Perm as/\Jv R ds cs:=by
 intro bs cs p
 induction p with
|nil=>intro as h;exact⟨as,.refl _,h⟩
|cons x _ ih =>
  intro as h;cases h with
 |cons r t =>
   obtain⟨ds,p1,p2⟩:=ih t;exact⟨_ :: ds,p1.cons _,.cons r p2⟩
|swap x y l =>
  intro as h;cases h with
 |cons r t =>
   cases t with
  |cons r' t'=>exact⟨_ :: _ :: _,Ly.swap _ _ _,.cons r' (.cons r t')⟩
|trans _ _ ih1 ih2 =>
  intro as h;obtain⟨ds,p1,p2⟩:=ih2 h;obtain⟨es,p3,p4⟩:=ih1 p2;exact⟨es,p3.trans p1,p4⟩
def y7 {xs:List V}{its:List IU}:∀ {ks:List Str}{kv:List IU},Jv (λk u=>bT (.str k) u) ks kv->bE xs its->ks.length=xs.length->Jv (λ(p:Str × V) (q:IU × IU)=>bT (.str p.1) q.1/\bT p.2 q.2) (ks.zip xs) (kv.zip its):=by
 intro ks kv h
 induction h generalizing xs its with
|nil=>intro _ _;rw[List.zip_nil_left,List.zip_nil_left];exact .nil
|cons r t ih =>
  intro hv hl;cases hv with
 |nil=>cases hl
 |cons r' t'=>exact .cons ⟨r,r'⟩ (ih t' (by simpa using hl))
def vF {ps:List (Str × V)}{qs:List (IU × IU)}(h:Jv (λ(p:Str × V) (q:IU × IU)=>bT (.str p.1) q.1/\bT p.2 q.2) ps qs):bE (ps.map (·.2)) (qs.map (·.2)):=by
 induction h with
|nil=>exact .nil
|cons r _ ih=>exact .cons r.2 ih
def Paired.at' {α β:Type}{R:α->β->Prop}{as:List α}{bs:List β}(h:Jv R as bs):∀ {i:Nat}{a:α},as[i]?=dk a->∃ b,bs[i]?=dk b/\R a b:=by
 induction h with
|nil=>intro i a e;cases e
|cons r _ ih =>
  intro i a e;cases i with
 |zero=>cases e;exact⟨_,rfl,r⟩
 |succ i=>exact ih (i:=i) e
def yb {ks:List Str}{kv:List IU}(h:Jv (λk u=>bT (.str k) u) ks kv):StrsAre kv ks:=by
 induction h with
|nil=>exact .nil
|cons r _ ih =>
  obtain⟨t,e⟩:=r;rw[e];exact .cons _ _ ih
section
variable {X:Cx}{Lz:List (G' × KP)}{σ:St}{H:Hp}{s:IZ}
def epO (D:G') (o:KP):HO:=.ext λh=>h.get? D=dk o
def F6 {P:Jy}{w:Jj}{H':Hp}{h:JD}{D:G'}{o:KP}(e:h.get? D=dk o):cS P w H' h D (epO D o):=⟨e,⟨o,e⟩,λ_ _ e' k=>k _ e'⟩
def Inv.epAt {D:G'}{o:KP}(I:Inv X Lz σ H s) (e:H D=dk (epO D o)):s.heap.get? D=dk o:=by
 have h:=(show cS X.prog X.w H s.heap D (epO D o) from I.hok D _ e)
 exact h.1
def Room.in2 {k:Nat}{A:JN}(r:Room (k+1) A):Room k A.in1.in1:=⟨r.hd,by have:=r.dp;show A.depth+3 * k+5 < _;omega,by have:=r.un;show A.units+1+1+16 * k+200 < _;omega⟩
def EQ {k:Nat}{f:G'}{fd:Ji}{pn:Str}{sp:Sp}{Q:VK}{x:V}{u:IU}(F:FnOk X.prog X.w X.K X.mg X.base CX0 k f fd [pn] sp) (hr:Room (k+1) X.A) (hb:aD X.K fd [pn] [])
 (I:Inv X Lz σ H s) (r:bT x u) (h:sp [x] H Q E0):Jl (model X.prog X.w) X.A.in1.in1 (call (.ref f) [u]) (EP X Lz σ Q) (λ_ _=>False) s:=by
 refine wpAny_call (codeAny_mono (F.run X.A.in1.in1 X.stack s H ⟨[u],[]⟩ [u] [x] Q E0 hr.in2 I.env0.in1.in1 (hb s [u] I.kIn rfl) (.cons r .nil) h) λr s' hq=>?_);cases r with
|error e=>exact hq.elim
|ok fl =>
  cases fl with
 |ret u=>exact I.after hq
 |next=>exact Kj hq
 |brk=>exact Kj hq
 |cont=>exact Kj hq
def AH {k:Nat}{f:G'}{fd:Ji}{pn:Str}{sp:Sp}{Q:VK}{l:G'}{xs:List V}{ks:List Str}(F:FnOk X.prog X.w X.K X.mg X.base CX0 k f fd [pn] sp) (hr:Room (k+1) X.A) (hb:aD X.K fd [pn] [])
 (I:Inv X Lz σ H s) (hq:SqL X.K H l xs) (hlen:ks.length=xs.length) (h64:xs.length < 64)
 (turn:∀ (i:Nat) (x:V) (key:Str),xs[i]?=dk x->ks[i]?=dk key->∀ H',c9 H H'->sp [x] H' (λv H''=>v=.str key/\c9 H' H'') E0)
 (q:∀ D H' (ps:List (Str × V)),H D=IX->c9 H H'->H' D=dk (.lst (ps.map (·.2)))->ps.Perm (ks.zip xs)->ps.Pairwise (λp q=>leS p.1 q.1)->Q (.ref D) H') :
 Jl (model X.prog X.w) X.A (call (.builtin "sorted") [.ref l] [(K1 "key",.ref f)]) (EP X Lz σ Q) X.xe s:=by
 obtain⟨its,r',pl,hz⟩:=I.list hq;have hil:=r'.length;refine call_function_entry_kw kind_sorted plain_sorted entry_sorted (ksk_s1 _ _) ?_;unfold Builtin.«sorted»;refine D' (m:=checkCount "sorted" 1 1 _) (IY ?_);refine D' (collect_list pl.isList ?_ (by rw[KW];omega));refine D' (wpAny_newList ?_ (by rw[KW];omega));have hsz:((s.heap.push (Ks "list" #[] 0)).update s.heap.objs.size (Kf (·++its.toArray))).objs.size=s.heap.objs.size+1:=by
  rw[JD.size_update,size_push']
 have hoL:(((s.heap.push (Ks "list" #[] 0)).update s.heap.objs.size (Kf (·++its.toArray))).push (Ks "list" its.toArray 0)).get? (s.heap.objs.size+1)=dk (Ks "list" its.toArray 0):=by
  rw[<-hsz];exact Jq _ rfl
 have keep:∀ b o,s.heap.get? b=dk o->(((s.heap.push (Ks "list" #[] 0)).update s.heap.objs.size (Kf (·++its.toArray))).push (Ks "list" its.toArray 0)).get? b=dk o:=λb o q=>by
  have hlt:b < s.heap.objs.size:=Jr q;rw[JD.get?_push_ne _ _ _ (by rw[hsz];exact Kc (Nat.lt_succ_of_lt hlt)),JD.get?_update_ne _ _ _ _ (Kc hlt),JD.get?_push_ne _ _ _ (Kc hlt)];exact q
 show Jl _ _ _ _ _ { s with heap:=((s.heap.push (Ks "list" #[] 0)).update s.heap.objs.size (Kf (·++its.toArray))).push (Ks "list" its.toArray 0) };rw[hsz];have hsz2:(((s.heap.push (Ks "list" #[] 0)).update s.heap.objs.size (Kf (·++its.toArray))).push (Ks "list" its.toArray 0)).objs.size=s.heap.objs.size+2:=by
  rw[size_push',hsz]
 generalize ((s.heap.push (Ks "list" #[] 0)).update s.heap.objs.size (Kf (·++its.toArray))).push (Ks "list" its.toArray 0)=h2 at hoL keep hsz2;obtain⟨D,hD⟩:∃ D,D=s.heap.objs.size+1:=⟨_,rfl⟩
 rw[<-hD]at hoL |-;refine D' (Kl (wpAny_call_entry_kw slot_list_sort ⟨_,hoL,rfl⟩ entry_list_sort ?body (ksk_l1 _ _)))
 case body =>
  show Jl (model X.prog X.w) X.A.in1.in1 (Builtin.«list.sort» ⟨[.ref D],[(K1 "key",.ref f)]⟩) _ _ _;rw[ksk_t1];obtain⟨e1,ho1⟩:∃ e1,(h2.update D (Kf λ_=>(#[]:Array IU))).get? D=dk (Ks "list" #[] e1):=⟨_,get?_update_seq hoL λ_=>#[]⟩
  unfold ksk_tree;refine D' (listItems_at hoL rfl ?_);refine D' (listUpdate_at hoL rfl ?_ (by rw[Js,KW];omega) (Kq _));refine D' (seqEpoch_at ho1 rfl ?_);refine D' (wpAny_newTuple ?_ (by show its.length <= _;rw[KW];omega));refine D' (wpAny_newList ?_ (Kq _));refine Kl ?_;have s1:=KH h2 D (Kf λ_=>(#[]:Array IU));have keep4:∀ b o,s.heap.get? b=dk o->((h2.update D (Kf λ_=>(#[]:Array IU))).push (Ks "tuple" its.toArray 0)).get? b=dk o:=λb o q=>by
   have hlt:b < s.heap.objs.size:=Jr q;exact Jc _ ((s1.2 b (by rw[hD];exact Kc (Nat.lt_succ_of_lt hlt))).trans (keep b o q))
  have ho4:((h2.update D (Kf λ_=>(#[]:Array IU))).push (Ks "tuple" its.toArray 0)).get? D=dk (Ks "list" #[] e1):=Jc _ ho1;have hk4:((h2.update D (Kf λ_=>(#[]:Array IU))).push (Ks "tuple" its.toArray 0)).objs.size=s.heap.objs.size+3:=by rw[size_push',JD.size_update,hsz2]
  have fD:H D=IX:=I.hok.fresh (by rw[hD];omega);have I4:Inv X Lz σ (upd H D (epO D (Ks "list" #[] e1))) { s with heap:=(h2.update D (Kf λ_=>(#[]:Array IU))).push (Ks "tuple" its.toArray 0) }:=I.laid (t':=s.toks) keep4 (by rw[hD];omega) (F6 ho4);generalize (h2.update D (Kf λ_=>(#[]:Array IU))).push (Ks "tuple" its.toArray 0)=h4 at I4 hk4 ho4 keep4 |-;obtain⟨kS,hkS⟩:∃ kS,kS=h4.objs.size:=⟨_,rfl⟩
  have fK:upd H D (epO D (Ks "list" #[] e1)) kS=IX:=I4.hok.fresh (by rw[hkS];exact Jd _);have hkD:kS≠D:=by rw[hkS,hk4,hD];omega
  have fKS:H kS=IX:=by rw[ac hkD]at fK;exact fK
  have I5:Inv X Lz σ (upd (upd H D (epO D (Ks "list" #[] e1))) kS (.lst [])) { s with heap:=h4.push (Ks "list" #[] 0) }:=I4.laid (t':=s.toks) (λb o q=>Jc _ q) (by rw[hkS];exact Jd _) ⟨Kq _,[],0,.nil,by rw[hkS];exact Jq _ rfl⟩;show Jl (model X.prog X.w) X.A.in1.in1 (ksk_rest D (.ref f) f' its.toArray e1 (.ref h4.objs.size)) _ _ { s with heap:=h4.push (Ks "list" #[] 0) };rw[<-hkS];have c5:c9 H (upd (upd H D (epO D (Ks "list" #[] e1))) kS (.lst [])):=(ah fD).trans (ah fK);have d5:upd (upd H D (epO D (Ks "list" #[] e1))) kS (.lst []) D=dk (epO D (Ks "list" #[] e1)):=by rw[ac (K5 hkD)];exact a8
  have k5:upd (upd H D (epO D (Ks "list" #[] e1))) kS (.lst []) kS=dk (.lst ((ks.take 0).map V.str)):=a8;generalize upd (upd H D (epO D (Ks "list" #[] e1))) kS (.lst [])=H5 at I5 c5 d5 k5;generalize ({ s with heap:=h4.push (Ks "list" #[] 0) }:IZ)=s5 at I5 |-;clear I4 keep4 ho4 hk4 fK hkS keep hoL ho1 s1 hsz hsz2;unfold ksk_rest;refine D' (K6 ?_)
  first
  |rw[List.forIn_toArray]
  |(rw[<-Array.forIn_toList];simp only[List.toList_toArray])
  |rw[<-Array.forIn_toList]
  refine D' (ksk_fold (λi s'=>∃ H',Inv X Lz σ H' s'/\c9 H H'/\H' D=dk (epO D (Ks "list" #[] e1))/\H' kS=dk (.lst ((ks.take i).map V.str))) its 0 s5 ⟨H5,I5,c5,d5,k5⟩ ?step ?done)
  case step =>
   rintro j u s' hx ⟨H',I',c',d',k'⟩;simp only[Nat.zero_add]at k' |-;have hj:j < its.length:=(Jp.mp hx).1;obtain⟨x,hxx,rx⟩:∃ x,xs[j]?=dk x/\bT x u:=by
    obtain⟨u',hu',ru⟩:=bE.get r' (Jb (show j < xs.length by omega));rw[hx]at hu';cases hu';exact⟨_,Jb (by omega),ru⟩
   obtain⟨key,hkj⟩:∃ key,ks[j]?=dk key:=⟨_,Jb (by omega)⟩
   refine D' (wpAny_attempt (Lu (EQ F hr hb I' rx (turn j x key hxx hkj H' c')) (λv s'' he=>?_) λ_ _ hF=>hF.elim));obtain⟨v',H'',I'',rv,rfl,c''⟩:=he;obtain⟨t2,rfl⟩:=rv
   try dsimp only
   have k'':=c'' _ _ k';have d'':=c'' _ _ d';obtain⟨zz,kits,nn,rk,hkl,ek⟩:=I''.lstM k'';have ek':s''.heap.get? kS=dk (Ks "list" kits.toArray nn):=ek;have hks:kits.length <= 64:=by rw[<-hkl,Jk,JK];omega
   refine D' (listUpdate_at ek' rfl ?_ (by rw[Js,KW];omega) (JT (le_of_eq (Array.size_push ..)) (by rw[Js,KW];omega)));refine IY ⟨rfl,upd H'' kS (.lst ((ks.take (j+1)).map V.str)),?_,?_,?_,a8⟩
   . refine I''.lset (its':=kits++[IU.str key t2]) k'' ek (by simp) ?_ ?_
     . rw[take_add_one,hkj,J3];exact bE.append rk (.cons ⟨t2,rfl⟩ .nil)
     . rw[Jk,JK,KW];omega
   . intro b o e;rw[ac (λy=>by rw[y,fKS]at e;cases e)];exact c'' _ _ (c' _ _ e)
   . rw[ac (K5 hkD)];exact d''
  case done =>
   rintro s' ⟨H',I',c',d',k'⟩;rw[Nat.zero_add,Kx (by omega)]at k';obtain⟨zz,kits,nn,rk,hkl,ek⟩:=I'.lstM k';have ek':s'.heap.get? kS=dk (Ks "list" kits.toArray nn):=ek;rw[Jk]at hkl;have eD:=I'.epAt d'
   try dsimp only
   refine D' (listItems_at ek' rfl ?_);have pk:Jv (λk u=>bT (.str k) u) ks kits:=by
    have:∀ {ks:List Str} {kits:List IU},bE (ks.map V.str) kits->Jv (λk u=>bT (.str k) u) ks kits:=by
     intro ks
     induction ks with
    |nil=>intro kits h;cases h;exact .nil
    |cons k ks ih=>intro kits h;cases h with|cons r t=>exact .cons r (ih t)
    exact this rk
   have hS:=yb pk;have hzs:(kits.toArray.zip its.toArray).size=xs.length:=by rw[Array.size_zip,Js,Js];omega
   have hzl:(kits.toArray.zip its.toArray).toList=kits.zip its:=by rw[ksk_zip]
   have fin:∀ st:SortSt,(arrOf st).Perm (kits.toArray.zip its.toArray)->SortedToK K2 (arrOf st) (arrOf st).size->failedOf st=IX ->
    Jl (model X.prog X.w) X.A.in1.in1 (ksk_tail D f' e1 (.ref kS) st) (λfin s'=>∃ v,fin=.done (.ret v)/\Jl (model X.prog X.w) X.A.in1 (ret (JC D)) (λfin s'=>∃ v,fin=.done (.ret v)/\EP X Lz σ Q v s') X.xe s') X.xe s':=by
    intro st hp hs hf;have hpl:(arrOf st).toList.Perm (kits.zip its):=by rw[<-hzl];exact Array.perm_iff_toList_perm.mp hp
    obtain⟨ps,pp1,pp2⟩:=oB hpl (y7 pk r' hlen);have hout:((arrOf st).map (·.2)).size=xs.length:=by rw[Array.size_map,hp.size_eq,hzs]
    unfold ksk_tail
    try dsimp only
    refine D' (listUpdate_at ek' rfl ?_ (by rw[Js,KW];omega) (Kq _));have I6:=I'.lset (t':=s'.toks) (f:=λ_=>(#[]:Array IU)) (its':=[]) (ys:=[]) k' ek rfl .nil (Kq _);have eD6:(s'.heap.update kS (Kf λ_=>(#[]:Array IU))).get? D=dk (Ks "list" #[] e1):=((KH s'.heap kS (Kf λ_=>(#[]:Array IU))).2 D (K5 hkD)).trans eD;have d6:upd H' kS (.lst []) D=dk (epO D (Ks "list" #[] e1)):=by rw[ac (K5 hkD)];exact d'
    refine D' (wpAny_letGo ?_);refine D' (seqEpoch_at eD6 rfl ?_);refine D' (listUpdate_at eD6 rfl ?_ (Kq _) (JT (le_of_eq hout) (by rw[KW];omega)));rw[hf];simp only[bne_self_eq_false,JP,if_false];refine IY ⟨_,rfl,IY ⟨_,rfl,.ref D,upd (upd H' kS (.lst [])) D (.lst (ps.map (·.2))),?_,rfl,q D _ ps fD ?_ a8 pp1 ?_⟩⟩
    . obtain⟨c2,hc2⟩:∃ c2,((s'.heap.update kS (Kf λ_=>(#[]:Array IU))).update D (Kf λ_=>(arrOf st).map (·.2))).get? D=dk (Ks "list" ((arrOf st).map (·.2)) c2):=⟨_,get?_update_seq eD6 λ_=>(arrOf st).map (·.2)⟩
      refine I6.write (x:=D) (e:=D) (by rw[d6];exact trivial) (.inl rfl) (λb' u hb hu=>(JD.get?_update_other _ _ (K5 hb)).trans hu) ⟨_,hc2⟩ ?_;have vv:=vF pp2;refine⟨by rw[vv.length,Jk,La];rw[Array.size_map]at hout;rw[hout,KW];omega,((arrOf st).toList.map (·.2)),c2,vv,?_⟩;rw[hc2];congr 3;rw[<-Array.toList_map]
    . intro b o e;rw[ac (λy=>by rw[y,fD]at e;cases e),ac (λy=>by rw[y,fKS]at e;cases e)];exact c' _ _ e
    . rw[List.pairwise_iff_getElem];intro i j hi hj hij;have ei:=Jb hi;have ej:=Jb hj;obtain⟨bi,hbi,ri,_⟩:=Paired.at' pp2 ei;obtain⟨bj,hbj,rj,_⟩:=Paired.at' pp2 ej;have hjs:j < (arrOf st).size:=by
       have:=(Jp.mp hbj).1;rw[La]at this;exact this
      have qq:=hs i j (Nat.le_of_lt hij) hjs;have kki:∀ {m:Nat} {b:IU × IU} {p:Str × V},(arrOf st).toList[m]?=dk b->bT (.str p.1) b.1->PyProof.Rows.KK K2 (arrOf st) m=p.1.cps.toList:=λ{m b p} hb r=>by
       obtain⟨t,e⟩:=r;unfold PyProof.Rows.KK;rw[<-Kv,hb];show (K2.keyOf b.1).getD K2.dflt=_;rw[e];rfl
      rw[kki hbi ri,kki hbj rj]at qq;intro hlt;have:decide (ps[j].1.cps.toList < ps[i].1.cps.toList)=f':=qq;rw[decide_eq_false_iff_not]at this;exact this hlt
   unfold ksk_end
   try dsimp only
   simp only[JP,if_false];by_cases h2:its.toArray.size < 2
   . rw[Pa h2,Pa h2];refine D' (IY ?_);rw[StateT.run_pure];refine D' (IY ?_)
     try dsimp only
     refine fin (SortSt.mk' general' (kits.toArray.zip its.toArray) #[] 7 IX) (Array.Perm.refl _) ?_ rfl;intro i j hij hj;have hj2:j < (kits.toArray.zip its.toArray).size:=hj;rw[hzs]at hj2;rw[Js]at h2;have:i=j:=by omega
     subst this;exact KeyOrd.kle_refl _
   . rw[Pb h2,Pb h2];rw[Js]at h2;have hkk:keyKind' kits.toArray=pure oneType':=by
      obtain⟨v₁,v₂,rest,e⟩:∃ v₁ v₂ rest,kits=v₁ :: v₂ :: rest:=by
       have hk2:2 <= kits.length:=by omega
       match kits,hk2 with
      |[],h=>exact absurd h (by simp)
      |[_],h=>exact absurd h (by simp)
      |v₁ :: v₂ :: rest,_=>exact⟨v₁,v₂,rest,rfl⟩
      rw[e]at hS |-;exact keyKind_strs hS
     rw[hkk];refine D' (IY ?_);refine D' (Lu (wpS_sortRunsK (κ:=K2) strKind_oneLt (a₀:=kits.toArray.zip its.toArray) (st:=SortSt.mk' oneType' (kits.toArray.zip its.toArray) #[] 7 IX)
      (Q:=λ_ st'=>(arrOf st').Perm (kits.toArray.zip its.toArray)/\failedOf st'=IX/\SortedToK K2 (arrOf st') (kits.toArray.zip its.toArray).size)
      ?_ ⟨Array.Perm.refl _,rfl,rfl,rfl⟩ (by rw[hzs];omega) (by rw[hzs];exact h64) λst' a1 a2 a3=>⟨a1,a2,a3⟩) ?_ λ_ _ e=>e)
     . intro p hp;rw[hzl]at hp;obtain⟨x,t,e⟩:=hS.all _ (of_mem_zip hp).1;exact⟨x.cps.toList,by rw[e]⟩
     . rintro⟨⟨⟩,st'⟩ s'' ⟨rfl,hp,hf,hs⟩
       try dsimp only
       exact fin st' hp (by rw[hp.size_eq];exact hs) hf
def Fo (K:Ja) (sp:Sp) (ta:TE):TE:=λσ H Q=>ta σ H λx H1=>∃ (l:G') (xs:List V) (ks:List Str),x=.ref l/\SqL K H1 l xs/\ks.length=xs.length/\xs.length < 64 /\
 (∀ (i:Nat) (x:V) (key:Str),xs[i]?=dk x->ks[i]?=dk key->∀ H',c9 H1 H'->sp [x] H' (λv H''=>v=.str key/\c9 H' H'') E0) /\
 ∀ D H' (ps:List (Str × V)),H1 D=IX->c9 H1 H'->H' D=dk (.lst (ps.map (·.2)))->ps.Perm (ks.zip xs)->ps.Pairwise (λp q=>leS p.1 q.1)->Q (.ref D) H'
def Cs {k:Nat}{f:G'}{fd:Ji}{pn fnm:Str}{sp:Sp}{e:Expr}{ta:TE}{p fp kp pos:Pos}(F:FnOk X.prog X.w X.K X.mg X.base CX0 k f fd [pn] sp) (hr:Room (k+1) X.A) (hb:aD X.K fd [pn] [])
 (hg:Gl X "sorted") (hm:X.mg "sorted"=IX) (hgf:Gl X fnm) (hmf:X.mg fnm=dk (.ref f)) (he:PE X e ta) (hdb:(fnm == ("__debug__":Str))=f':=by decide)
 (hst:JG [e] X.env=[(f',eval e X.env)]:=by rfl) :
 PE X (.Call (.Name "sorted" p) [e] [⟨dk "key",.Name fnm fp,kp⟩] pos) (Fo X.K sp ta):=by
 intro Lz s σ H Q I h;refine Lk (oY I hg hm o9 ?_ (by decide) (by decide));refine callWith_kw ?_ (by rw[hst];rfl) (by rw[hst];rfl);refine thn ((zO he aa hst) pos Lz s σ H (λvs H1=>match vs with
 |[x]=>∃ (l:G') (xs:List V) (ks:List Str),x=.ref l/\SqL X.K H1 l xs/\ks.length=xs.length/\xs.length < 64 /\
   (∀ (i:Nat) (x:V) (key:Str),xs[i]?=dk x->ks[i]?=dk key->∀ H',c9 H1 H'->sp [x] H' (λv H''=>v=.str key/\c9 H' H'') E0) /\
   ∀ D H' (ps:List (Str × V)),H1 D=IX->c9 H1 H'->H' D=dk (.lst (ps.map (·.2)))->ps.Perm (ks.zip xs)->ps.Pairwise (λp q=>leS p.1 q.1)->Q (.ref D) H'
 |_=>False) I h) λus s1 ⟨vs,H1,I1,r1,q1⟩=>?_
 match vs,q1,r1 with
|[x],q1,r1 =>
  obtain⟨l,xs,ks,rfl,hq,hlen,h64,turn,q⟩:=q1;obtain⟨u,rfl,rx⟩:=sh r1;cases rx;refine kws_cons (ir I1 hgf hmf (kws_nil ?_) hdb);exact AH F hr hb I1 hq hlen h64 turn q
|[],q1,_=>exact q1.elim
|_ :: _ :: _,q1,_=>exact q1.elim
end
def HQ (K:Ja) (a:G') (D:List (Str × G')):Prop:=(a == Ku)=f'/\∃ o es ep,K.lookup a=dk o/\o.ExactDict/\o.data=.dict es ep/\KTD.Rows (λ(b:G') (v:IU)=>v=.ref b) es.toList D
section
variable {X:Cx}{Lz:List (G' × KP)}{σ:St}{H:Hp}{s:IZ}
def vi {A:JN}{E:IU->IZ->Prop}{a:G'}{D:List (Str × G')}{k:Str}{tk:Tok}{o:KP}{es:Array Jz}{ep:Nat}{prog:Jy}{w:Jj}{s:IZ}{Q:Option IU->IZ->Prop}(ho:s.heap.get? a=dk o) (hd:o.data=.dict es ep) (hr:KTD.Rows (λ(b:G') (v:IU)=>v=.ref b) es.toList D)
 (h1:Q ((KTD.datumAt k D).map JC) { s with toks:=s.toks+1 }):Jl (model prog w) A (dictGet a (.str k tk)) Q E s:=by
 unfold dictGet
 try with_reducible refine Kl ?_
 refine D' (wpAny_pyHash_str (D' (KTD.kt_dictFind_strs (s:={ s with toks:=s.toks+1 }) ho hd (by obtain⟨l⟩:=es;simpa using hr.exact) ?_)));have hq:Q (findBy (λk v=>v.isStr k) es k) { s with toks:=s.toks+1 }:=by
  have hf:findBy (λk v=>v.isStr k) es k=(es.toList.find? λe=>e.key.isStr k).map (·.val):=by
   obtain⟨l⟩:=es;simp[findBy]
  rw[hf];cases hat:KTD.datumAt k D with
 |some d =>
   obtain⟨v,hv,hfl⟩:=hr.find_some hat;rw[hv,hfl];rw[hat]at h1;exact h1
 |none =>
   rw[hr.find_none hat];rw[hat]at h1;exact h1
 rw[findBy_of_findIdx?]at hq;cases hi:es.findIdx? λe=>e.key.isStr k with
|none=>rw[hi]at hq;exact IY hq
|some i=>rw[hi]at hq;exact D' (Ls (s:={ s with toks:=s.toks+1 }) ho hd (IY hq))
def Ir:Option G'->V
|some b=>.ref b
|none=>.non
def DH (D:List (Str × G')) (ty:TE):TE:=λσ H Q=>ty σ H λy H1=>∃ k,y=.str k/\Q (Ir (KTD.datumAt k D)) H1
def AJ {T:Str}{a:G'}{D:List (Str × G')}{e:Expr}{ty:TE}{p apos cpos:Pos}(hg:Gl X T) (hm:X.mg T=dk (.ref a)) (ht:HQ X.K a D) (he:PE X e ty) (m:M1 X (.Name T p) "get" apos e cpos) (hdb:(T == ("__debug__":Str))=f':=by decide):PE X (.Call (.Attribute (.Name T p) "get" apos) [e] [] cpos) (DH D ty):=by
 intro Lz s σ H Q I h;obtain⟨hs,o,es,ep,hl,hx,hd,hr⟩:=ht;have ho:∀ {s':IZ} {H':Hp},Inv X Lz σ H' s'->s'.heap.get? a=dk o:=λI'=>I'.kIn a o hl
 refine wpAny_Call_method m.base m.few m.line PySem.F.plainAttrs_dict PySem.F.slot_dict_get PySem.F.type_dict_get (ir I hg hm ?_ hdb);refine⟨⟨o,ho I,hx.1⟩,?_,?_⟩
 . intro b q;cases q;exact⟨o,ho I,hx.2.1⟩
 . rw[m.trees];refine Lc rfl (K3 (K0 (thn (he Lz s σ H _ I h) λiv s2 ⟨y,H2,I2,ry,k,ey,q2⟩=>Calls.spliced_nil ?_)));subst ey;obtain⟨t,rfl⟩:=ry;refine Kb PySem.F.slot_dict_get ⟨o,ho I2,hx.1⟩ PySem.F.entry_dict_get ?_ (PySem.F.args_dict_get_2 _ _);show Jl _ _ (dictGet a (.str k t) >>= _) _ _ s2;refine D' (vi (ho I2) hd hr ?_);cases hat:KTD.datumAt k D with
  |some b =>
    rw[hat]at q2;exact IY ⟨_,rfl,.ref b,H2,I2.tok _,rfl,q2⟩
  |none =>
    rw[hat]at q2;show Jl _ _ (Builtin.Dict.missed a (.str k t) >>= _) _ _ _;exact D' (wpAny_missed_other hs (IY ⟨.none,rfl,.non,H2,I2.tok _,rfl,q2⟩))
end
section
variable {X:Cx}
def xV {prog:Jy}{w:Jj}{A:JN}{I l:G'}{items:Array IU}(hh:A.handled=IX) (hIl:I≠l) :
 Walks prog w A I [I,l] [I] items.size (λi v=>items[i]?=dk v) (λi h=>h.IsListIter I l i/\h.IsList l items) where
 sub b hb:=by rw[IW.mp hb];exact Jg
 frame i h h' st k:=by
  obtain⟨⟨o,ho,r⟩,⟨ol,hol,rl⟩⟩:=st;exact⟨⟨o,k I Jg _ ho,r⟩,⟨ol,k l (Jh _ Jg) _ hol,rl⟩⟩
 item i s Q E hi st k:=by
  refine wpAny_pyNext_list_item st.1 st.2 (JE hi) λh' it' sb=>k _ h' s.toks (JE hi) ⟨it',?_⟩ λb o hb e=>(sb.2 b (λy=>hb (by rw[y];exact IW.mpr rfl))).trans e
  obtain⟨ol,hol,rl⟩:=st.2;exact⟨ol,(sb.2 l (K5 hIl)).trans hol,rl⟩
 done s Q E st k:=by
  refine wpAny_pyNext_list_end hh st.1 st.2 (by rw[Array.getElem?_eq_none_iff];exact Jd _) λh' eb=>k h' s.toks λb o hb e=>?_
  exact eb b o (λy=>hb (by rw[y];exact IW.mpr rfl)) e
 self i s Q E st k:=wpAny_pyIter_listiter st.1 k
theorem uA:∀ {bs:List Bool}{us:List IU},bE (bs.map V.bl) us->us=bs.map IU.bool
|[],_,.nil=>rfl
|b :: bs,_,.cons r t=>by
  have r':_=IU.bool b:=r;rw[r',uA t];rfl
def FL:Kh "all"=dk (.builtin "all"):=by decide +kernel
def Bu (hc:X.calm=l'):q9 X (.builtin "all") (λxs H Q=>∃ (p:G') (bs:List Bool),xs=[.ref p]/\SqL X.K H p (bs.map V.bl)/\Q (.bl (bs.all id)) H):=by
 intro Lz s σ H xs us Q I r h;obtain⟨p,bs,rfl,hq,q⟩:=h;obtain⟨u,rfl,rx⟩:=sh r;cases rx;obtain⟨its,r',pl,hz⟩:=I.list hq;have hb:=uA r';have il:=pl.isList;refine call_all_walk (wpAny_pyIter_list il ⟨s.heap.objs.size,_,_,_,_,_,λi=>bs.getD i l',rfl,xV (I:=s.heap.objs.size) (l:=p) (items:=its.toArray) (I.ok.hd hc) ?_,⟨⟨_,Jq _ rfl,rfl,rfl⟩,?_⟩,?_,?_⟩)
 . obtain⟨o,ho,_⟩:=il;exact K5 (Kc (Jr ho))
 . obtain⟨o,ho,rr⟩:=il;exact⟨o,Jc _ ho,rr⟩
 . intro i v s' Q' E' hv hq';have hv':its[i]?=dk v:=by rw[<-hv];simp
   rw[hb,JX]at hv';obtain⟨b,hbi,rfl⟩:=KY.mp hv';have:bs.getD i l'=b:=by rw[Ll,hbi];rfl
   have hq2:Q' (bs.getD i l') s':=hq';rw[this]at hq2;exact Km hq2
 . intro h' tk k;have e:((K8 its.toArray.size).all λi=>bs.getD i l')=bs.all id:=by
    have hl:its.toArray.size=bs.length:=by rw[Js,hb,Jk]
    rw[hl,KQ,all_eq_true,all_eq_true];constructor
    . intro h x hx;obtain⟨i,hi,rfl⟩:=getElem_of_mem hx;have:=h i (mem_range.mpr hi);rw[Ll,Jb hi]at this;exact this
    . intro h i hi;have hi':=mem_range.mp hi;rw[Ll,Jb hi'];exact h _ (getElem_mem hi')
   rw[e];refine⟨.bl (bs.all id),H,I.kept λb o hb=>k b o (λy=>?_) (Jc _ hb),rfl,q⟩;rw[IW]at y;have:=Jr hb;rw[y]at this;exact Lv _ this
end
section
variable {X:Cx}
def HH (K:Ja):V->List V->Hp->VK->Prop:=λx vs H Q=>∃ (sep:Str) (p:G') (ys:List Str),x=.str sep/\vs=[.ref p]/\SqL K H p (ys.map V.str)/\(ys.map (·.length)).sum+ys.length * sep.length <= 16777216/\Q (.str (Txt.join sep ys)) H
theorem vX:∀ {ys:List Str}{us:List IU},bE (ys.map V.str) us->StrsAre us ys
|[],_,.nil=>.nil
|y :: ys,_,.cons r t=>by
  obtain⟨tk,e⟩:=r;rw[e];exact .cons _ _ (vX t)
def Ec:MtR X "str.join" (HH X.K):=by
 intro Lz s σ H x vs v us Q I rx rv h;obtain⟨sep,p,ys,rfl,rfl,hq,hl,q⟩:=h;obtain⟨t,rfl⟩:=rx;obtain⟨u,rfl,ru⟩:=rv.one;cases ru;obtain⟨its,r',pl,hz⟩:=I.list hq;exact join_list pl.isList (vX r') hl λt' k=>⟨.str (Txt.join sep ys),H,I.tok k,⟨t',rfl⟩,q⟩
def Cm:q9 X (.type "str") (λxs H Q=>(∃ i:Int,xs=[.int i]/\i.natAbs.log2 < 1920/\Q (.str (toString i)) H)\/∃ t,xs=[.str t]/\Q (.str t) H):=by
 intro Lz s σ H xs us Q I r h;rcases h with⟨i,rfl,hz,q⟩|⟨x,rfl,q⟩
 . obtain⟨u,rfl,t,rfl⟩:=sh r;exact PySem.P.str_of_int hz ⟨.str _,H,I.tok _,⟨_,rfl⟩,q⟩
 . obtain⟨u,rfl,t,rfl⟩:=sh r;exact PySem.P.str_of_str ⟨.str x,H,I,⟨t,rfl⟩,q⟩
end
def vQ {X:Cx}{x:Str}{i:Int}{p:Pos}(hg:Gl X x) (hm:∃ t,X.mg x=dk (.int i t)) (hdb:(x == ("__debug__":Str))=f':=by decide):PE X (.Name x p) (tC (.int i)):=by
 obtain⟨t,hm⟩:=hm;intro Lz s σ H Q I h;exact ir I hg hm ⟨.int i,H,I,⟨t,rfl⟩,h⟩ hdb
def xl (z:HA) (zt:TA') (sa:SA) (c:G'):Prop:=z.own c\/zt.own c\/sa.own c
structure X5 (w:Jj) (CH CT CR CS:G') (H:Hp) (z:HA) (zt:TA') (sa:SA) (p:RP) (n:Nat) (m:Mem) (rs:Bool->List Wr) (un tk:List Int):Prop where
 hn:Hn CH CR H z sa.x p n un
 tn:Tn CT CR H zt sa.x p tk
 st:StT w CS H sa m rs
 dz:∀ c,z.own c->¬ zt.own c
section
variable {w:Jj}{CH CT CR CS:G'}{H H':Hp}{z:HA}{zt:TA'}{sa:SA}{p:RP}{n:Nat}{m m':Mem}{rs rs':Bool->List Wr}{un tk un' tk':List Int}
theorem X5.keep (W:X5 w CH CT CR CS H z zt sa p n m rs un tk) (k:∀ c o,xl z zt sa c->H c=dk o->H' c=dk o) (ht:∀ b vs,H b=dk (.tup vs)->H' b=dk (.tup vs)):X5 w CH CT CR CS H' z zt sa p n m rs un tk :=
 ⟨W.hn.keep λc o h=>k c o (.inl h),W.tn.keep λc o h=>k c o (.inr (.inl h)),W.st.keep (λc o h=>k c o (.inr (.inr h))) ht,W.dz⟩
theorem X5.there (W:X5 w CH CT CR CS H z zt sa p n m rs un tk) {c:G'}(h:xl z zt sa c):∃ o,H c=dk o/\∀ vs,o≠.tup vs:=by
 rcases h with h|h|h
 . obtain⟨o,e,⟨_,_,_,s⟩|⟨_,s⟩⟩:=W.hn.there h
   . exact⟨o,e,λvs y=>by rw[y]at s;cases s⟩
   . exact⟨o,e,λvs y=>by rw[y]at s;cases s⟩
 . obtain⟨o,e,⟨_,_,_,s⟩|⟨_,s⟩⟩:=W.tn.there h
   . exact⟨o,e,λvs y=>by rw[y]at s;cases s⟩
   . exact⟨o,e,λvs y=>by rw[y]at s;cases s⟩
 . exact W.st.there h
def Hr {p:RP}{st:G'}{nn:Int}{aw:List Int}(B:Hn CH CR H z st p nn aw) (S:StT w CS H sa m rs) (b:Bool):¬ z.own (sa.l b):=λhc=>by
 obtain⟨o1,q1,s1⟩:=B.there hc;obtain⟨M,r,S',_⟩:=S;obtain⟨ts,e,_⟩:=S'.rw b;rw[e]at q1;cases q1;rcases s1 with⟨_,_,_,s⟩|⟨_,s⟩<;>cases s
def GQ {p:RP}{st:G'}{aw:List Int}(B:Tn CT CR H zt st p aw) (S:StT w CS H sa m rs) (b:Bool):¬ zt.own (sa.l b):=λhc=>by
 obtain⟨o1,q1,s1⟩:=B.there hc;obtain⟨M,r,S',_⟩:=S;obtain⟨ts,e,_⟩:=S'.rw b;rw[e]at q1;cases q1;rcases s1 with⟨_,_,_,s⟩|⟨_,s⟩<;>cases s
def qC:∀ c∈[z.gd,sa.l f'],xl z zt sa c:=λc hc=>by
 rcases Jx.mp hc with y|y
 . rw[y];exact .inl (.inr (.inr (.inr rfl)))
 . rw[IW.mp y];exact .inr (.inr (Do f'))
def qW:∀ c∈[zt.gd,sa.l l'],xl z zt sa c:=λc hc=>by
 rcases Jx.mp hc with y|y
 . rw[y];exact .inr (.inl (.inr (.inr (.inr rfl))))
 . rw[IW.mp y];exact .inr (.inr (Do l'))
def uw {b:Bool}:∀ c∈[sa.l b,sa.hd],xl z zt sa c:=λc hc=>by
 rcases Jx.mp hc with y|y
 . rw[y];exact .inr (.inr (Do b))
 . rw[IW.mp y];exact .inr (.inr FR)
def X5.hand (W:X5 w CH CT CR CS H z zt sa p n m rs un tk) (hn':Hn CH CR H' z sa.x p n un') (st':StT w CS H' sa m' rs') (kp:Kp [z.gd,sa.l f'] H H'):X5 w CH CT CR CS H' z zt sa p n m' rs' un' tk:=by
 refine⟨hn',W.tn.keep λc o hc e=>kp c o (λmm=>?_) e,st',W.dz⟩;rcases Jx.mp mm with y|y
 . exact W.dz c (by rw[y];exact .inr (.inr (.inr rfl))) hc
 . exact GQ W.tn W.st f' (by rw[<-IW.mp y];exact hc)
def X5.heart (W:X5 w CH CT CR CS H z zt sa p n m rs un tk) (tn':Tn CT CR H' zt sa.x p tk') (st':StT w CS H' sa m' rs') (kp:Kp [zt.gd,sa.l l'] H H'):X5 w CH CT CR CS H' z zt sa p n m' rs' un tk':=by
 refine⟨W.hn.keep λc o hc e=>kp c o (λmm=>?_) e,tn',st',W.dz⟩;rcases Jx.mp mm with y|y
 . exact W.dz c hc (by rw[y];exact .inr (.inr (.inr rfl)))
 . exact Hr W.hn W.st l' (by rw[<-IW.mp y];exact hc)
def X5.store (W:X5 w CH CT CR CS H z zt sa p n m rs un tk) {b:Bool}(st':StT w CS H' sa m' rs') (kp:Kp [sa.l b,sa.hd] H H'):X5 w CH CT CR CS H' z zt sa p n m' rs' un tk:=by
 have hx:∀ c∈[sa.l b,sa.hd],(∃ ys,H c=dk (.lst ys))\/∃ ee:List Jz × Nat,H c=dk (l7 c ee.1 ee.2):=λc hc=>by
  obtain⟨M,r,S,_⟩:=W.st;rcases Jx.mp hc with y|y
  . obtain⟨ts,e,_⟩:=S.rw b;exact .inl ⟨ts,by rw[y];exact e⟩
  . obtain⟨ee,e⟩:=S.me.there;exact .inr ⟨ee,by rw[IW.mp y];exact e⟩
 exact⟨W.hn.lists kp hx,W.tn.lists kp hx,st',W.dz⟩
end
def DV2 {H:Hp}{c:G'}{x y:Int}(h:H c=dk (.tup [.int x,.int y])):DV H (.tuple [.int x,.int y]) (.ref c):=⟨c,_,rfl,h,_,_,rfl,rfl,_,_,rfl,rfl,rfl⟩
theorem mf {H:Hp}:∀ {ds:List IV}{ts:List V},DVs H ds ts->ts.length=ds.length
|[],_,h=>by cases h;rfl
|d :: ds,_,⟨v,r,h,h1,h2⟩=>by subst h;rw[JH,JH,mf h2]
def jr {xs:List V}{j:Nat}{v:V}(h:xs[j]?=dk v):atI xs (j:Int)=dk v:=by
 unfold atI ixN;have hl:=(Jp.mp h).1;rw[Pa (by omega),Pa (by omega)];exact h
inductive Bd where
|up|lies|asleep
instance:DecidableEq Bd:=λa b=>by
 cases a<;>cases b<;>first|exact isTrue rfl|exact isFalse (λh=>by cases h)
def Bd.key:Bd->Str
|.up=>"up"
|.lies=>"lies"
|.asleep=>"asleep"
def uH {a b:Bd}(h:a.key=b.key):a=b:=by
 cases a<;>cases b<;>first|rfl|exact absurd h (by decide +kernel)
structure YP where
 p:RP
 n:Nat
 fb:Bool
 fl:Bool
 fk:Bool
structure YP.Ok (q:YP):Prop where
 ok:q.p.Ok
 n9:q.n <= 9
structure YA where
 y:G'
 ft:G'
 sa:SA
 z:HA
 zt:TA'
 sl:G'
 qu:G'
 hp:G'
structure YS where
 m:Mem
 rs:Bool->List Wr
 un:List Int
 tk:List Int
 bd:Bool->Bd
 qt:Bool->Bool
 hs:List IV
def YS.zero:YS:=⟨Mem.zero,λ_=>[],[],[],λ_=>.up,λ_=>l',[]⟩
def yF (a:YA) (q:YP):List (Str × V):=bR "happened" (.ref a.hp) (bR "quiet" (.ref a.qu) (bR "sleepers" (.ref a.sl) (bR "look_sees" (.bl q.fk) (bR "lie_fences" (.bl q.fl) (bR "bell_fences" (.bl q.fb) (bR "heart" (.ref a.zt.h) (bR "hand" (.ref a.z.h) (bR "shelf" (.ref a.sa.x) (bR "faults" (.ref a.ft) (bR "rounds" (.int q.p.R) (bR "size" (.int q.p.s) [])))))))))))
section
variable {a:YA}{q:YP}
def cN:(yF a q).lookup ("shelf":Str)=dk (.ref a.sa.x):=by unfold yF;repeat (first|rw[a9,Pa rfl]|rw[a9,Pb (by decide +kernel)]);try rfl
def oA:(yF a q).lookup ("hand":Str)=dk (.ref a.z.h):=by unfold yF;repeat (first|rw[a9,Pa rfl]|rw[a9,Pb (by decide +kernel)]);try rfl
def jQ:(yF a q).lookup ("heart":Str)=dk (.ref a.zt.h):=by unfold yF;repeat (first|rw[a9,Pa rfl]|rw[a9,Pb (by decide +kernel)]);try rfl
def EI:(yF a q).lookup ("bell_fences":Str)=dk (.bl q.fb):=by unfold yF;repeat (first|rw[a9,Pa rfl]|rw[a9,Pb (by decide +kernel)]);try rfl
def FH:(yF a q).lookup ("lie_fences":Str)=dk (.bl q.fl):=by unfold yF;repeat (first|rw[a9,Pa rfl]|rw[a9,Pb (by decide +kernel)]);try rfl
def Dk:(yF a q).lookup ("look_sees":Str)=dk (.bl q.fk):=by unfold yF;repeat (first|rw[a9,Pa rfl]|rw[a9,Pb (by decide +kernel)]);try rfl
def bO:(yF a q).lookup ("sleepers":Str)=dk (.ref a.sl):=by unfold yF;repeat (first|rw[a9,Pa rfl]|rw[a9,Pb (by decide +kernel)]);try rfl
def sx:(yF a q).lookup ("quiet":Str)=dk (.ref a.qu):=by unfold yF;repeat (first|rw[a9,Pa rfl]|rw[a9,Pb (by decide +kernel)]);try rfl
def iV:(yF a q).lookup ("happened":Str)=dk (.ref a.hp):=by unfold yF;repeat (first|rw[a9,Pa rfl]|rw[a9,Pb (by decide +kernel)]);try rfl
def dO {f:Str}(h:f ∉ (["size","rounds","faults","shelf","hand","heart","bell_fences","lie_fences","look_sees","sleepers","quiet","happened"]:List Str)):(yF a q).lookup f=IX:=by
 simp only[Jx,JW,or_false,not_or]at h;obtain⟨h1,h2,h3,h4,h5,h6,h7,h8,h9,h10,h11,h12⟩:=h;unfold yF;rw[a9,Pb h12,a9,Pb h11,a9,Pb h10,a9,Pb h9,a9,Pb h8,a9,Pb h7,a9,Pb h6,a9,Pb h5,a9,Pb h4,a9,Pb h3,a9,Pb h2,a9,Pb h1];rfl
end
def YA.lists (a:YA) (c:G'):Prop:=c=a.sl\/c=a.qu\/c=a.hp
def YA.own (a:YA) (c:G'):Prop:=c=a.y\/xl a.z a.zt a.sa c\/a.lists c
structure Yn (w:Jj) (CY CH CT CR CS:G') (H:Hp) (a:YA) (q:YP) (S:YS):Prop where
 ob:∃ dx,H a.y=dk (.ins CY dx (yF a q))
 x:X5 w CH CT CR CS H a.z a.zt a.sa q.p q.n S.m S.rs S.un S.tk
 sl:H a.sl=dk (.lst [.str (S.bd f').key,.str (S.bd l').key])
 qu:H a.qu=dk (.lst [.bl (S.qt f'),.bl (S.qt l')])
 hp:∃ ts,H a.hp=dk (.lst ts)/\DVs H S.hs ts
 fl:∀ d∈S.hs,flD d=l'
 d1:∀ c,a.lists c->¬ xl a.z a.zt a.sa c
 d2:a.sl≠a.qu/\a.sl≠a.hp/\a.qu≠a.hp
 d3:¬ xl a.z a.zt a.sa a.y
theorem DVs.fl {H H':Hp}(ht:∀ b vs,H b=dk (.tup vs)->H' b=dk (.tup vs)):∀ {ds:List IV}{vs:List V},(∀ d∈ds,flD d=l')->DVs H ds vs->DVs H' ds vs
|[],_,_,h=>h
|d :: ds,_,hf,⟨v,r,e,h1,h2⟩=>⟨v,r,e,DV.fl ht (hf d Jg) h1,DVs.fl ht (λx hx=>hf x (Jh _ hx)) h2⟩
section
variable {w:Jj}{CY CH CT CR CS:G'}{H H':Hp}{a:YA}{q:YP}{S:YS}
theorem Yn.keep (Y:Yn w CY CH CT CR CS H a q S) (k:∀ c o,a.own c->H c=dk o->H' c=dk o) (ht:∀ b vs,H b=dk (.tup vs)->H' b=dk (.tup vs)):Yn w CY CH CT CR CS H' a q S:=by
 obtain⟨dx,hx⟩:=Y.ob;obtain⟨ts,h1,h2⟩:=Y.hp;exact⟨⟨dx,k _ _ (.inl rfl) hx⟩,Y.x.keep (λc o h=>k c o (.inr (.inl h))) ht,k _ _ (.inr (.inr (.inl rfl))) Y.sl,k _ _ (.inr (.inr (.inr (.inl rfl)))) Y.qu,⟨ts,k _ _ (.inr (.inr (.inr (.inr rfl)))) h1,DVs.fl ht Y.fl h2⟩,Y.fl,Y.d1,Y.d2,Y.d3⟩
def Yn.same (Y:Yn w CY CH CT CR CS H a q S) (s:c9 H H'):Yn w CY CH CT CR CS H' a q S:=Y.keep (λc o _=>s c o) λb vs=>s b _
def Yn.list (Y:Yn w CY CH CT CR CS H a q S) {c:G'}(h:a.lists c):∃ ys,H c=dk (.lst ys):=by
 rcases h with rfl|rfl|rfl
 . exact⟨_,Y.sl⟩
 . exact⟨_,Y.qu⟩
 . obtain⟨ts,e,_⟩:=Y.hp;exact⟨_,e⟩
theorem Yn.there (Y:Yn w CY CH CT CR CS H a q S) {c:G'}(h:a.own c):∃ o,H c=dk o/\∀ vs,o≠.tup vs:=by
 rcases h with rfl|h|h
 . obtain⟨dx,e⟩:=Y.ob;exact⟨_,e,λ_ z=>by cases z⟩
 . exact Y.x.there h
 . obtain⟨ys,e⟩:=Y.list h;exact⟨_,e,λ_ z=>by cases z⟩
def Yn.tups (Y:Yn w CY CH CT CR CS H a q S) {xs:List G'}(kp:Kp xs H H') (h:∀ c∈xs,a.own c):∀ b vs,H b=dk (.tup vs)->H' b=dk (.tup vs):=λb vs e=>kp b _ (λmm=>by
 obtain⟨o,e',nn⟩:=Y.there (h b mm);rw[e']at e;exact nn vs (Jt e)) e
def Yn.parts (Y:Yn w CY CH CT CR CS H a q S) {xs:List G'}{m:Mem}{rs:Bool->List Wr}{un tk:List Int}(X':X5 w CH CT CR CS H' a.z a.zt a.sa q.p q.n m rs un tk) (kp:Kp xs H H') (h:∀ c∈xs,xl a.z a.zt a.sa c):Yn w CY CH CT CR CS H' a q { S with m:=m,rs:=rs,un:=un,tk:=tk }:=by
 have ht:=Y.tups kp λc hc=>.inr (.inl (h c hc))
 obtain⟨dx,hx⟩:=Y.ob;obtain⟨ts,h1,h2⟩:=Y.hp;have ls:∀ c o,a.lists c->H c=dk o->H' c=dk o:=λc o hc e=>kp c o (λmm=>Y.d1 c hc (h c mm)) e
 exact⟨⟨dx,kp _ _ (λmm=>Y.d3 (h _ mm)) hx⟩,X',ls _ _ (.inl rfl) Y.sl,ls _ _ (.inr (.inl rfl)) Y.qu,⟨ts,ls _ _ (.inr (.inr rfl)) h1,DVs.fl ht Y.fl h2⟩,Y.fl,Y.d1,Y.d2,Y.d3⟩
def Yn.lst_tups (Y:Yn w CY CH CT CR CS H a q S) {c:G'}(hc:a.lists c) (o:HO):∀ b vs,H b=dk (.tup vs)->upd H c o b=dk (.tup vs):=λb vs e=>by
 obtain⟨ys,e'⟩:=Y.list hc;rw[ac (λy=>by rw[y,e']at e;cases e)];exact e
def Yn.lst_own (Y:Yn w CY CH CT CR CS H a q S) {c:G'}(hc:a.lists c) (o:HO):∀ b u,xl a.z a.zt a.sa b->H b=dk u->upd H c o b=dk u:=λb u hb e=>by
 rw[ac (λy=>Y.d1 c hc (by rw[<-y];exact hb))];exact e
def Yn.lst_y (Y:Yn w CY CH CT CR CS H a q S) {c:G'}(hc:a.lists c) (o:HO):∃ dx,upd H c o a.y=dk (.ins CY dx (yF a q)):=by
 obtain⟨dx,hx⟩:=Y.ob;obtain⟨ys,e'⟩:=Y.list hc;exact⟨dx,by rw[ac (λy=>by rw[y,e']at hx;cases hx)];exact hx⟩
def Yn.setSl (Y:Yn w CY CH CT CR CS H a q S) (b:Bool) (x:Bd) {ys:List V}(h:ys=[.str (aF S.bd b x f').key,.str (aF S.bd b x l').key]):Yn w CY CH CT CR CS (upd H a.sl (.lst ys)) a q { S with bd:=aF S.bd b x }:=by
 have hc:a.lists a.sl:=.inl rfl;obtain⟨ts,h1,h2⟩:=Y.hp;have ht:=Y.lst_tups hc (.lst ys);exact⟨Y.lst_y hc _,Y.x.keep (Y.lst_own hc _) ht,by rw[a8,h],by rw[ac (K5 Y.d2.1)];exact Y.qu,⟨ts,by rw[ac (K5 Y.d2.2.1)];exact h1,DVs.fl ht Y.fl h2⟩,Y.fl,Y.d1,Y.d2,Y.d3⟩
def Yn.setQu (Y:Yn w CY CH CT CR CS H a q S) (b x:Bool) {ys:List V}(h:ys=[.bl (aF S.qt b x f'),.bl (aF S.qt b x l')]):Yn w CY CH CT CR CS (upd H a.qu (.lst ys)) a q { S with qt:=aF S.qt b x }:=by
 have hc:a.lists a.qu:=.inr (.inl rfl);obtain⟨ts,h1,h2⟩:=Y.hp;have ht:=Y.lst_tups hc (.lst ys);exact⟨Y.lst_y hc _,Y.x.keep (Y.lst_own hc _) ht,by rw[ac Y.d2.1];exact Y.sl,by rw[a8,h],⟨ts,by rw[ac (K5 Y.d2.2.2)];exact h1,DVs.fl ht Y.fl h2⟩,Y.fl,Y.d1,Y.d2,Y.d3⟩
def Yn.setHp (Y:Yn w CY CH CT CR CS H a q S) {x:IV}{v:V}{ts:List V}(hts:H a.hp=dk (.lst ts)) (hv:DV H x v) (hx:flD x=l'):Yn w CY CH CT CR CS (upd H a.hp (.lst (ts++[v]))) a q { S with hs:=S.hs++[x] }:=by
 have hc:a.lists a.hp:=.inr (.inr rfl);obtain⟨ts',h1,h2⟩:=Y.hp;rw[hts]at h1;cases h1;have ht:=Y.lst_tups hc (.lst (ts++[v]));have hf:∀ d∈S.hs++[x],flD d=l':=λd hd=>by
  rcases JB.mp hd with h|h
  . exact Y.fl d h
  . rw[IW.mp h];exact hx
 exact⟨Y.lst_y hc _,Y.x.keep (Y.lst_own hc _) ht,by rw[ac Y.d2.2.1];exact Y.sl,by rw[ac Y.d2.2.2];exact Y.qu,⟨_,a8,DVs.fl ht hf (DVs.snoc h2 hv)⟩,hf,Y.d1,Y.d2,Y.d3⟩
end
inductive Dd where
|ask (wt:Int)|collect|take|answer (nm wt:Int)|bell (b:Bool)|lie (b:Bool)|look (b:Bool)|drain (b:Bool)
def Dd.vs:Dd->List V
|.ask wt=>[.str "ask",.int wt]
|.collect=>[.str "collect"]
|.take=>[.str "take"]
|.answer nm wt=>[.str "answer",.int nm,.int wt]
|.bell b=>[.str "bell",.int (sdI b)]
|.lie b=>[.str "lie",.int (sdI b)]
|.look b=>[.str "look",.int (sdI b)]
|.drain b=>[.str "drain",.int (sdI b)]
def Dd.dat:Dd->IV
|.ask wt=>.tuple [.str "ask",.int wt]
|.collect=>.tuple [.str "collect"]
|.take=>.tuple [.str "take"]
|.answer nm wt=>.tuple [.str "answer",.int nm,.int wt]
|.bell b=>.tuple [.str "bell",.int (sdI b)]
|.lie b=>.tuple [.str "lie",.int (sdI b)]
|.look b=>.tuple [.str "look",.int (sdI b)]
|.drain b=>.tuple [.str "drain",.int (sdI b)]
def Dd.Ok:Dd->Prop
|.ask wt=>-1000000000 <= wt/\wt <= 1000000000
|.answer _ wt=>-1000000000 <= wt/\wt <= 1000000000
|_=>True
inductive Rf where
|deed|full|name|task
def Dd.chk (q:YP) (S:YS):Dd->Option Rf
|.drain b=>if S.rs b=[] then dk .deed else IX
|.look b=>if S.bd b=.lies then IX else dk .deed
|.bell b=>if S.bd b=.up then IX else dk .deed
|.lie b=>if S.bd b=.up then IX else dk .deed
|.collect=>if S.bd f'=.up then IX else dk .deed
|.take=>if S.bd l'=.up then IX else dk .deed
|.ask _=>if S.bd f'=.up then (if au q.p S.m (S.rs f') .asked .taken=q.p.s then dk .full else match bF q.n S.un with|none=>dk .name|some _=>IX) else dk .deed
|.answer nm _=>if S.bd l'=.up then (if S.tk.contains nm=f' then dk .task else if au q.p S.m (S.rs l') .answered .handed=q.p.s then dk .full else IX) else dk .deed
def Dd.dv {H:Hp}{t:G'}(d:Dd) (h:H t=dk (.tup d.vs)):DV H d.dat (.ref t):=by
 cases d<;>first
 |exact⟨t,_,rfl,h,_,_,rfl,rfl,rfl⟩
 |exact⟨t,_,rfl,h,_,_,rfl,rfl,_,_,rfl,rfl,rfl⟩
 |exact⟨t,_,rfl,h,_,_,rfl,rfl,_,_,rfl,rfl,_,_,rfl,rfl,rfl⟩
section
variable {K:Ja}
def GL:Lp K (.type "int") (.type "int")=dk l':=by rfl
def Hw:Lp K (.type "int") (.type "bool")=dk f':=by rfl
def Hb:Lp K (.type "str") (.type "str")=dk l':=by rfl
def GV:Lp K (.type "str") (.type "tuple")=dk f':=by rfl
end
def gr (x:Int) (k:Str):Bool:=if k="worth" then decide (-1000000000 <= x) && decide (x <= 1000000000) else if k="side" then decide (x=0) || decide (x=1) else l'
def Dd.word:Dd->Str
|.ask _=>"ask"
|.collect=>"collect"
|.take=>"take"
|.answer _ _=>"answer"
|.bell _=>"bell"
|.lie _=>"lie"
|.look _=>"look"
|.drain _=>"drain"
def Dd.args:Dd->List Int
|.ask wt=>[wt]
|.collect=>[]
|.take=>[]
|.answer nm wt=>[nm,wt]
|.bell b=>[sdI b]
|.lie b=>[sdI b]
|.look b=>[sdI b]
|.drain b=>[sdI b]
def Dd.ks:Dd->List Str
|.ask _=>["worth"]
|.collect=>[]
|.take=>[]
|.answer _ _=>["name","worth"]
|_=>["side"]
def Dd.side:Dd->Bool
|.ask _=>f'
|.collect=>f'
|.take=>l'
|.answer _ _=>l'
|.bell b=>b
|.lie b=>b
|.look b=>b
|.drain b=>b
def Dd.vs_eq (x:Dd):x.vs=.str x.word :: x.args.map V.int:=by cases x<;>rfl
def Dd.len (x:Dd):x.args.length=x.ks.length/\x.args.length <= 2:=by cases x<;>exact⟨rfl,by simp[Dd.args]⟩
def nZ (b:Bool):gr (sdI b) "side"=l':=by cases b<;>decide +kernel
def Dd.part {x:Dd}(h:x.Ok):∀ (i:Nat) (y:Int) (k:Str),x.args[i]?=dk y->x.ks[i]?=dk k->gr y k=l':=by
 intro i y k hy hk;have wk:∀ {wt:Int},(-1000000000 <= wt/\wt <= 1000000000)->gr wt "worth"=l':=λ{wt} h=>by
  unfold gr;rw[Pa rfl,Pd h.1,Pd h.2];rfl
 have nmk:∀ {nm:Int},gr nm "name"=l':=λ{nm}=>by
  unfold gr;rw[Pb (by decide +kernel),Pb (by decide +kernel)]
 cases x with
|ask wt =>
  match i,hy,hk with
 |0,hy,hk=>cases hy;cases hk;exact wk h
 |_+1,hy,_=>cases hy
|collect=>cases hy
|take=>cases hy
|answer nm wt =>
  match i,hy,hk with
 |0,hy,hk=>cases hy;cases hk;exact nmk
 |1,hy,hk=>cases hy;cases hk;exact wk h
 |_+2,hy,_=>cases hy
|bell b =>
  match i,hy,hk with
 |0,hy,hk=>cases hy;cases hk;exact nZ b
 |_+1,hy,_=>cases hy
|lie b =>
  match i,hy,hk with
 |0,hy,hk=>cases hy;cases hk;exact nZ b
 |_+1,hy,_=>cases hy
|look b =>
  match i,hy,hk with
 |0,hy,hk=>cases hy;cases hk;exact nZ b
 |_+1,hy,_=>cases hy
|drain b =>
  match i,hy,hk with
 |0,hy,hk=>cases hy;cases hk;exact nZ b
 |_+1,hy,_=>cases hy
def Cr (xs:List V) (k:Nat):uK xs IX (dk (k:Int))=xs.take k:=by
 unfold uK;rw[HT.sIx_nat,show HT.sIx xs.length 0 IX=0 from rfl,List.drop_zero,Nat.sub_zero];by_cases h:k <= xs.length
 . rw[Nat.min_eq_left h]
 . rw[Nat.min_eq_right (by omega),Kx (Jd _),Kx (by omega)]
def qI (xs:List V) (k:Nat):uK xs (dk (k:Int)) IX=xs.drop k:=by
 unfold uK;rw[HT.sIx_nat,show HT.sIx xs.length xs.length IX=xs.length from rfl];by_cases h:k <= xs.length
 . rw[Nat.min_eq_left h,Kx (by rw[length_drop];exact Jd _)]
 . rw[Nat.min_eq_right (by omega),List.drop_of_length_le (Jd _),List.drop_of_length_le (by omega),take_nil]
end L2
namespace L2
def Dd.grp (x:Dd):((x.word="ask"\/x.word="collect")/\x.side=f')\/((x.word="take"\/x.word="answer")/\x.side=l')\/((x.word="bell"\/x.word="lie"\/x.word="look"\/x.word="drain")/\x.args=[sdI x.side]):=by
 cases x
 . exact .inl ⟨.inl rfl,rfl⟩
 . exact .inl ⟨.inr rfl,rfl⟩
 . exact .inr (.inl ⟨.inl rfl,rfl⟩)
 . exact .inr (.inl ⟨.inr rfl,rfl⟩)
 . exact .inr (.inr ⟨.inl rfl,rfl⟩)
 . exact .inr (.inr ⟨.inr (.inl rfl),rfl⟩)
 . exact .inr (.inr ⟨.inr (.inr (.inl rfl)),rfl⟩)
 . exact .inr (.inr ⟨.inr (.inr (.inr rfl)),rfl⟩)
end L2
namespace L2
open PySem
def Dd.need:Dd->Bd
|.look _=>.lies
|_=>.up
def Dd.chk_bed {q:YP}{S:YS}{x:Dd}(hd:∀ b,x≠.drain b) (h:S.bd x.side≠x.need):x.chk q S=dk .deed:=by
 cases x
 . exact Pb h
 . exact Pb h
 . exact Pb h
 . exact Pb h
 . exact Pb h
 . exact Pb h
 . exact Pb h
 . exact absurd rfl (hd _)
def Dd.word_drain (x:Dd):x.word="drain" ↔ ∃ b,x=.drain b:=by
 constructor
 . intro h;cases x with
  |drain b=>exact⟨b,rfl⟩
  |ask wt=>exact absurd (show ("ask":Str)="drain" from h) (by decide +kernel)
  |collect=>exact absurd (show ("collect":Str)="drain" from h) (by decide +kernel)
  |take=>exact absurd (show ("take":Str)="drain" from h) (by decide +kernel)
  |answer nm wt=>exact absurd (show ("answer":Str)="drain" from h) (by decide +kernel)
  |bell b=>exact absurd (show ("bell":Str)="drain" from h) (by decide +kernel)
  |lie b=>exact absurd (show ("lie":Str)="drain" from h) (by decide +kernel)
  |look b=>exact absurd (show ("look":Str)="drain" from h) (by decide +kernel)
 . rintro⟨b,rfl⟩;rfl
def Dd.word_look (x:Dd):(x.word="look"/\x.need=.lies/\∃ b,x=.look b)\/(x.word≠"look"/\x.need=.up):=by
 cases x with
|look b=>exact .inl ⟨rfl,rfl,b,rfl⟩
|ask wt=>exact .inr ⟨show ¬ ("ask":Str)="look" by decide +kernel,rfl⟩
|collect=>exact .inr ⟨show ¬ ("collect":Str)="look" by decide +kernel,rfl⟩
|take=>exact .inr ⟨show ¬ ("take":Str)="look" by decide +kernel,rfl⟩
|answer nm wt=>exact .inr ⟨show ¬ ("answer":Str)="look" by decide +kernel,rfl⟩
|bell b=>exact .inr ⟨show ¬ ("bell":Str)="look" by decide +kernel,rfl⟩
|lie b=>exact .inr ⟨show ¬ ("lie":Str)="look" by decide +kernel,rfl⟩
|drain b=>exact .inr ⟨show ¬ ("drain":Str)="look" by decide +kernel,rfl⟩
def Dd.word_aa (x:Dd):(∃ wt,x=.ask wt)\/(∃ nm wt,x=.answer nm wt)\/(x.word≠"ask"/\x.word≠"answer"/\∀ (q:YP) (S:YS),(∀ b,x≠.drain b)->S.bd x.side=x.need->x.chk q S=IX):=by
 cases x with
|ask wt=>exact .inl ⟨_,rfl⟩
|answer nm wt=>exact .inr (.inl ⟨_,_,rfl⟩)
|collect=>exact .inr (.inr ⟨show ¬ ("collect":Str)="ask" by decide +kernel,show ¬ ("collect":Str)="answer" by decide +kernel,λq S _ h=>Pa h⟩)
|take=>exact .inr (.inr ⟨show ¬ ("take":Str)="ask" by decide +kernel,show ¬ ("take":Str)="answer" by decide +kernel,λq S _ h=>Pa h⟩)
|bell b=>exact .inr (.inr ⟨show ¬ ("bell":Str)="ask" by decide +kernel,show ¬ ("bell":Str)="answer" by decide +kernel,λq S _ h=>Pa h⟩)
|lie b=>exact .inr (.inr ⟨show ¬ ("lie":Str)="ask" by decide +kernel,show ¬ ("lie":Str)="answer" by decide +kernel,λq S _ h=>Pa h⟩)
|look b=>exact .inr (.inr ⟨show ¬ ("look":Str)="ask" by decide +kernel,show ¬ ("look":Str)="answer" by decide +kernel,λq S _ h=>Pa h⟩)
|drain b=>exact .inr (.inr ⟨show ¬ ("drain":Str)="ask" by decide +kernel,show ¬ ("drain":Str)="answer" by decide +kernel,λq S h _=>absurd rfl (h b)⟩)
def EC {a b:Bd}(h:a≠b):V.str a.key≠V.str b.key:=λy=>h (uH (by injection y))
def mY:IV->Str
|.str t=>t
|.tuple [.str t,.int i]=>Txt.join " " [t,toString i]
|_=>""
inductive Ck where
|c (k:Cn)
|p (g:Bool) (i:Int)
def Ck.key:Ck->IV
|.c k=>.str k.key
|.p g i=>pk g i
def vt:List Ck:=[.p l' 0,.p l' 1,.p l' 2,.p l' 3,.p l' 4,.p l' 5,.p l' 6,.p l' 7,.c .answered,.p f' 0,.p f' 1,.p f' 2,.p f' 3,.p f' 4,.p f' 5,.p f' 6,.p f' 7,.c .asked,.c .hs,.c .handed,.c .ts,.c .taken]
instance (a b:Str):Decidable (ltS a b):=inferInstanceAs (Decidable (a.cps.toList < b.cps.toList))
def zw:(vt.map λc=>mY c.key).Pairwise ltS:=by decide +kernel
def wV:∀ k∈iw,∃ c∈vt,c.key=k:=by
 intro k hk;rw[show iw=(([17,21,8,19,18,20,9,10,11,12,13,14,15,16,0,1,2,3,4,5,6,7]:List Nat).filterMap λi=>vt[i]?).map Ck.key from rfl]at hk;obtain⟨c,hc,rfl⟩:=Kr.mp hk;obtain⟨i,_,hi⟩:=mem_filterMap.mp hc;exact⟨c,Ju hi,rfl⟩
def Mem.wd (m:Mem):Ck->Option IV
|.c k=>if m.c k=0 then IX else dk (.int (m.c k))
|.p g i=>(m.p g i).map λnw=>.tuple [.int nw.1,.int nw.2]
def gU (m:Mem):List (IV × IV):=vt.filterMap λc=>(m.wd c).map λd=>(c.key,d)
def nzY (p:IV × V):Bool:=decide (p.2≠.int 0)
def za (a:Str):¬ ltS a a:=λh=>List.lt_irrefl _ h
def x8 (m:Mem):(gU m).Pairwise λa b=>ltS (mY a.1) (mY b.1):=by
 unfold gU;have h:=zw;rw[pairwise_map]at h;rw[List.pairwise_filterMap];refine Pairwise.imp ?_ h;intro a b hab x hx y hy;obtain⟨d1,_,rfl⟩:=KY.mp hx;obtain⟨d2,_,rfl⟩:=KY.mp hy;exact hab
def kW {M:List (IV × V)}(hn:(M.map (·.1)).Nodup) (hk:∀ q∈M,MX.kd q.1=l') {k:IV}{v:V}(h:(k,v)∈M):cK M k=dk v:=by
 induction M with
|nil=>cases h
|cons q M ih =>
  unfold cK;rw[KU];rw[J1,KG]at hn;rcases Jx.mp h with e|e
  . rw[<-e];rw[show Jm k k=l' from cM (by have:=hk q Jg;rw[<-e]at this;exact this)];rfl
  . have hne:Jm q.1 k=f':=by
     cases z:Jm q.1 k with
    |false=>rfl
    |true =>
      have:=(MX.eqv_iff _ _ (hk q Jg) (hk (k,v) (Jh _ e))).mp z;exact absurd (by rw[this];exact Kr.mpr ⟨(k,v),e,rfl⟩) hn.1
    rw[hne];exact ih hn.2 (λq hq=>hk q (Jh _ hq)) e
def oJ {M:List (IV × V)}(hk:∀ q∈M,MX.kd q.1=l') {k:IV}(hkk:MX.kd k=l') {v:V}(h:cK M k=dk v):(k,v)∈M:=by
 unfold cK at h;obtain⟨q,hq,rfl⟩:=KY.mp h;have h1:=List.find?_some hq;have h2:=List.mem_of_find?_eq_some hq;have:=(MX.eqv_iff _ _ (hk q h2) hkk).mp h1;rw[<-this];exact h2
def DZ {H:Hp}{M:List (IV × V)}{m:Mem}(R:MemR H M m) (hn:(M.map (·.1)).Nodup) (c:Ck):(m.wd c=IX/\∀ v,(c.key,v)∈M->v=.int 0)\/∃ d v,m.wd c=dk d/\(c.key,v)∈M/\v≠.int 0/\DV H d v:=by
 have hk:∀ q∈M,MX.kd q.1=l':=R.kk;cases c with
|c k =>
  have hc:=R.c k;by_cases h0:m.c k=0
  . refine .inl ⟨Pa h0,λv hv=>?_⟩;rw[show cK M (.str k.key)=dk v from kW hn hk hv]at hc;rw[h0]at hc;exact hc
  . refine .inr ⟨.int (m.c k),.int (m.c k),Pb h0,?_,λy=>h0 (by injection y),rfl⟩;cases hl:cK M (.str k.key) with
   |none =>
     rw[hl]at hc;have:V.int 0=V.int (m.c k):=hc;exact absurd (by injection this with this;exact this.symm) h0
   |some v =>
     rw[hl]at hc;have:v=.int (m.c k):=hc;rw[<-this];exact oJ hk (rQ k) hl
|p g i =>
  rcases R.p g i with⟨a,b⟩|⟨nm,wt,v,a,b,d⟩
  . refine .inl ⟨by show (m.p g i).map _=IX;rw[a];rfl,λv hv=>?_⟩;rw[show cK M (pk g i)=dk v from kW hn hk hv]at b;cases b
  . refine .inr ⟨.tuple [.int nm,.int wt],v,by show (m.p g i).map _=_;rw[a];rfl,oJ hk (sf g i) b,λy=>?_,d⟩;rw[y]at d;obtain⟨_,_,e,_⟩:=d;cases e
def ut {H:Hp}{M:List (IV × V)}{m:Mem}(R:MemR H M m) (hn:(M.map (·.1)).Nodup):∀ p∈gU m,∃ v,(p.1,v)∈M.filter nzY/\DV H p.2 v:=λp hp'=>by
 obtain⟨c,hc,e⟩:=mem_filterMap.mp hp';obtain⟨d,hd,rfl⟩:=KY.mp e;rcases DZ R hn c with⟨z,_⟩|⟨d',v,e',hv,nv,dv⟩
 . rw[z]at hd;cases hd
 . rw[hd]at e';cases e';exact⟨v,Lh.mpr ⟨hv,Pd nv⟩,dv⟩
def xU {H:Hp}{M:List (IV × V)}{m:Mem}(R:MemR H M m) (hn:(M.map (·.1)).Nodup):((M.filter nzY).map (·.1)).Perm ((gU m).map (·.1)):=by
 have hcn:((gU m).map (·.1)).Nodup:=by
  unfold Nodup;rw[pairwise_map];exact Pairwise.imp (λ{a b} (h:ltS (mY a.1) (mY b.1)) (e:a.1=b.1)=>za (mY b.1) (by rw[e]at h;exact h)) (x8 m)
 have hqn:((M.filter nzY).map (·.1)).Nodup:=hn.sublist ((List.filter_sublist).map _);rw[List.perm_ext_iff_of_nodup hqn hcn];intro k;refine⟨λhk=>?_,λhk=>?_⟩
 . obtain⟨⟨k',v⟩,hq,rfl⟩:=Kr.mp hk;have hm:=Lh.mp hq;obtain⟨c,hc,ek⟩:=wV _ (R.ks _ hm.1);rcases DZ R hn c with⟨_,z⟩|⟨d,v',e,_,_,_⟩
   . rw[ek]at z;have:=z v hm.1;rw[this]at hm;exact absurd hm.2 (by unfold nzY;simp)
   . exact Kr.mpr ⟨(c.key,d),mem_filterMap.mpr ⟨c,hc,by rw[e];rfl⟩,ek⟩
 . obtain⟨p,hp',rfl⟩:=Kr.mp hk;obtain⟨v,hv,_⟩:=ut R hn p hp';exact Kr.mpr ⟨(p.1,v),hv,rfl⟩
def Ah {H:Hp}{M qs:List (IV × V)}{m:Mem}(R:MemR H M m) (hn:(M.map (·.1)).Nodup) (hp:qs.Perm (M.filter nzY)) (hs:qs.Pairwise λa b=>leS (mY a.1) (mY b.1)) :
 Jv (λ(kv:IV × V) (p:IV × IV)=>kv.1=p.1/\DV H p.2 kv.2) qs (gU m):=by
 have hcl:=x8 m;have mem2:=ut R hn;have pm:(qs.map (·.1)).Perm ((gU m).map (·.1)):=(hp.map _).trans (xU R hn);have s1:(qs.map (·.1)).Pairwise λa b=>leS (mY a) (mY b):=by rw[pairwise_map];exact hs
 have s2:((gU m).map (·.1)).Pairwise λa b=>ltS (mY a) (mY b):=by rw[pairwise_map];exact hcl
 have inj:∀ a∈(gU m).map (·.1),∀ b∈(gU m).map (·.1),mY a=mY b->a=b:=by
  intro a ha b hb e;obtain⟨i,hi,rfl⟩:=getElem_of_mem ha;obtain⟨j,hj,rfl⟩:=getElem_of_mem hb;rw[List.pairwise_iff_getElem]at s2;rcases Nat.lt_trichotomy i j with h|h|h
  . exact absurd (s2 i j hi hj h) (by rw[e];exact za _)
  . subst h;rfl
  . exact absurd (s2 j i hj hi h) (by rw[e];exact za _)
 have eqk:qs.map (·.1)=(gU m).map (·.1):=by
  refine Ly.eq_of_pairwise (le:=λa b=>leS (mY a) (mY b)) ?_ s1 (Pairwise.imp (λh h'=>List.lt_asymm h h') s2) pm;intro a b ha hb h1 h2;exact inj a (pm.mem_iff.mp ha) b hb (by
   have:(mY a).cps.toList=(mY b).cps.toList:=List.le_antisymm (not_lt.mp h1) (not_lt.mp h2);cases ha':mY a;cases hb':mY b;rw[ha',hb']at this;congr 1;exact Array.toList_inj.mp this)
 have go:∀ {qs:List (IV × V)} {cs:List (IV × IV)},qs.map (·.1)=cs.map (·.1)->(∀ kv∈qs,kv∈M)->(∀ p∈cs,∃ v,(p.1,v)∈M.filter nzY/\DV H p.2 v)->Jv (λ(kv:IV × V) (p:IV × IV)=>kv.1=p.1/\DV H p.2 kv.2) qs cs:=by
  intro qs
  induction qs with
 |nil =>
   intro cs e _ _;cases cs with
  |nil=>exact .nil
  |cons=>cases e
 |cons kv qs ih =>
   intro cs e h1 h2;cases cs with
  |nil=>cases e
  |cons p cs =>
    rw[J1,J1]at e;injection e with e1 e2
    refine .cons ⟨e1,?_⟩ (ih e2 (λx hx=>h1 x (Jh _ hx)) λx hx=>h2 x (Jh _ hx));obtain⟨v,hv,dv⟩:=h2 p Jg;have hv':=(Lh.mp hv).1;have a1:=kW hn R.kk hv';have a2:=kW hn R.kk (show (p.1,kv.2)∈M by rw[<-e1];exact h1 kv Jg);rw[a1]at a2;cases a2;exact dv
 exact go eqk (λkv hkv=>(Lh.mp (hp.mem_iff.mp hkv)).1) mem2
def bM:Bool->Cn
|false=>.hs
|true=>.ts
def Mem.putAllY (m:Mem) (row:List Wr):Mem:=row.foldl Mem.put m
def YS.fence (S:YS) (b:Bool):YS:={ S with m:=S.m.putAllY (S.rs b),rs:=aF S.rs b [] }
def YS.wr (S:YS) (b:Bool) (x:Wr):YS:={ S with rs:=aF S.rs b (S.rs b++[x]) }
def lU (wd:Str) (x y:IV):IV:=.tuple [.str wd,x,y]
def swT (q:YP) (S:YS):Bool->Bool
|false=>decide (au q.p S.m (S.rs f') .answered .handed≠0)
|true=>decide (au q.p S.m (S.rs l') .asked .taken≠0)
def Dd.run (q:YP) (S:YS):Dd->IV × YS
|.ask wt=>match bF q.n S.un with
 |some nm=>(.int nm,{ S with rs:=aF S.rs f' (S.rs f'++kR q.p S.m (S.rs f') f' .asked nm wt),un:=S.un++[nm],qt:=aF S.qt f' f',hs:=S.hs++[lU "asked" (.int nm) (.int wt)] })
 |none=>(.none,S)
|.collect=>if au q.p S.m (S.rs f') .answered .handed=0 then (.none,S) else match rdP S.m (S.rs f') l' (rdC S.m (S.rs f') .handed % q.p.s) with
 |some nw=>(.tuple [.int nw.1,.int nw.2],{ S with rs:=aF S.rs f' (S.rs f'++[d7 q.p S.m (S.rs f') .handed]),un:=S.un.filter (λk=>decide (k≠nw.1)),hs:=S.hs++[lU "handed" (.int nw.1) (.int nw.2)] })
 |none=>(.tuple [.none,.none],{ S with rs:=aF S.rs f' (S.rs f'++[d7 q.p S.m (S.rs f') .handed]),hs:=S.hs++[lU "handed" .none .none] })
|.take=>if au q.p S.m (S.rs l') .asked .taken=0 then (.none,S) else match rdP S.m (S.rs l') f' (rdC S.m (S.rs l') .taken % q.p.s) with
 |some nw=>(.tuple [.int nw.1,.int nw.2],{ S with rs:=aF S.rs l' (S.rs l'++[d7 q.p S.m (S.rs l') .taken]),tk:=i6 S.tk nw.1,hs:=S.hs++[lU "taken" (.int nw.1) (.int nw.2)] })
 |none=>(.tuple [.none,.none],{ S with rs:=aF S.rs l' (S.rs l'++[d7 q.p S.m (S.rs l') .taken]),hs:=S.hs++[lU "taken" .none .none] })
|.answer nm wt=>(.none,{ S with rs:=aF S.rs l' (S.rs l'++kR q.p S.m (S.rs l') l' .answered nm wt),tk:=S.tk.filter (λk=>decide (k≠nm)),qt:=aF S.qt l' f',hs:=S.hs++[lU "answered" (.int nm) (.int wt)] })
|.bell b =>
  let S1:=if q.fb then S.fence b else S
  let S2:={ S1 with qt:=aF S1.qt b l' }
  if rdC S2.m (S2.rs b) (bM (!b))≠1 then (.bool f',S2) else if S2.bd (!b)=.asleep then (.bool l',({ S2 with bd:=aF S2.bd (!b) .up }:YS).wr (!b) (.c (bM (!b)) 0)) else (.bool l',S2)
|.lie b =>
  let S1:=S.wr b (.c (bM b) 1);let S2:=if q.fl then S1.fence b else S1
  (.none,{ S2 with bd:=aF S2.bd b .lies })
|.look b=>if q.fk=l'/\swT q S b=l' then (.bool l',{ (S.wr b (.c (bM b) 0)) with bd:=aF S.bd b .up }) else (.bool f',{ S with bd:=aF S.bd b .asleep })
|.drain b=>match S.rs b with
 |x :: rest=>(.none,{ S with m:=S.m.put x,rs:=aF S.rs b rest })
 |[]=>(.none,S)
structure YI (q:YP) (S:YS) (L:Nat):Prop where
 und:Nms q.n S.un
 tkd:Nms 9 S.tk
 len:∀ b,(S.rs b).length <= L
 hl:S.hs.length <= L
theorem YI.zero (q:YP):YI q YS.zero 0:=⟨Nms.nil _,Nms.nil _,λ_=>Jd _,Jd _⟩
def YI.mono {q:YP}{S:YS}{L L':Nat}(h:YI q S L) (hl:L <= L'):YI q S L':=⟨h.und,h.tkd,λb=>JT (h.len b) hl,JT h.hl hl⟩
def Rf.key:Rf->Str
|.deed=>"deed"
|.full=>"full"
|.name=>"name"
|.task=>"task"
def Rf.key_ne (r:Rf):r.key≠"none":=by cases r<;>decide +kernel
def Dd.out (q:YP) (S:YS) (x:Dd):Str × IV × YS:=match x.chk q S with
|none=>("none",(x.run q S).1,(x.run q S).2)
|some r=>(r.key,.none,S)
def Dd.out_none {q:YP}{S:YS}{x:Dd}(h:x.chk q S=IX):x.out q S=(("none":Str),(x.run q S).1,(x.run q S).2):=by unfold Dd.out;rw[h]
def Dd.out_some {q:YP}{S:YS}{x:Dd}{r:Rf}(h:x.chk q S=dk r):x.out q S=(r.key,.none,S):=by unfold Dd.out;rw[h]
def Fch (d:IV):Prop:=d=.none\/d=.tuple [.none,.none]\/∃ a b:Int,d=.tuple [.int a,.int b]
def vV (q:YP) (S:YS):Fch (Dd.take.run q S).1:=by
 unfold Dd.run;by_cases h:au q.p S.m (S.rs l') .asked .taken=0
 . rw[Pa h];exact .inl rfl
 . rw[Pb h];cases rdP S.m (S.rs l') f' (rdC S.m (S.rs l') .taken % q.p.s) with
  |none=>exact .inr (.inl rfl)
  |some nw=>exact .inr (.inr ⟨_,_,rfl⟩)
def ou (q:YP) (S:YS):Fch (Dd.collect.run q S).1:=by
 unfold Dd.run;by_cases h:au q.p S.m (S.rs f') .answered .handed=0
 . rw[Pa h];exact .inl rfl
 . rw[Pb h];cases rdP S.m (S.rs f') l' (rdC S.m (S.rs f') .handed % q.p.s) with
  |none=>exact .inr (.inl rfl)
  |some nw=>exact .inr (.inr ⟨_,_,rfl⟩)
def Dd.ftc:Dd->Prop
|.take=>True
|.collect=>True
|_=>False
def Ep {q:YP}{S:YS}{x:Dd}(h:x.ftc):Fch (x.out q S).2.1:=by
 cases hc:x.chk q S with
|some r=>rw[Dd.out_some hc];exact .inl rfl
|none =>
  rw[Dd.out_none hc];cases x with
 |take=>exact vV q S
 |collect=>exact ou q S
 |ask wt=>exact h.elim
 |answer nm wt=>exact h.elim
 |bell b=>exact h.elim
 |lie b=>exact h.elim
 |look b=>exact h.elim
 |drain b=>exact h.elim
def Fch.fl {d:IV}(h:Fch d):flD d=l':=by
 rcases h with rfl|rfl|⟨a,b,rfl⟩<;>rfl
def G0 {q:YP}{S:YS}(x:Dd):flD (x.out q S).2.1=l':=by
 cases hc:x.chk q S with
|some r=>rw[Dd.out_some hc];rfl
|none =>
  rw[Dd.out_none hc];cases x with
 |take=>exact(vV q S).fl
 |collect=>exact(ou q S).fl
 |ask wt =>
   show flD (match bF q.n S.un with|some nm=>_|none=>_:IV × YS).1=l';cases bF q.n S.un<;>rfl
 |answer nm wt=>rfl
 |bell b =>
   have aux:∀ S2:YS,flD (if rdC S2.m (S2.rs b) (bM (!b))≠1 then (IV.bool f',S2) else if S2.bd (!b)=.asleep then (.bool l',({ S2 with bd:=aF S2.bd (!b) .up }:YS).wr (!b) (.c (bM (!b)) 0)) else (.bool l',S2)).1=l':=λS2=>by
    split
    . rfl
    . split<;>rfl
   exact aux { (if q.fb then S.fence b else S) with qt:=aF (if q.fb then S.fence b else S).qt b l' }
 |lie b=>rfl
 |look b =>
   show flD (if _ then _ else _:IV × YS).1=l';split<;>rfl
 |drain b =>
   show flD (match S.rs b with|x :: rest=>_|[]=>_:IV × YS).1=l';cases S.rs b<;>rfl
def Dd.aft (ts:List Int) (x:Dd) (key:Str) (d:IV):List Int:=if key="none" then (match x,d with
|.take,.tuple [.int a,.int _]=>i6 ts a
|.answer nm _,_=>ts.erase nm
|_,_=>ts) else ts
def I9:IV->IV
|.tuple (a :: _)=>a
|d=>d
def HN:IV->IV
|.tuple (_ :: b :: _)=>b
|d=>d
def Dd.hap (x:Dd) (key:Str) (d:IV):List IV:=if key="none" then (match x with
|.ask wt=>[lU "asked" d (.int wt)]
|.answer nm wt=>[lU "answered" (.int nm) (.int wt)]
|.take=>(match d with|.none=>[]|_=>[lU "taken" (I9 d) (HN d)])
|.collect=>(match d with|.none=>[]|_=>[lU "handed" (I9 d) (HN d)])
|_=>[]) else []
def Dd.cls2 (x:Dd):x=.take\/(∃ nm wt,x=.answer nm wt)\/(x.word≠"take"/\x.word≠"answer"/\∀ ts key d,x.aft ts key d=ts):=by
 cases x with
|take=>exact .inl rfl
|answer nm wt=>exact .inr (.inl ⟨_,_,rfl⟩)
|ask wt=>exact .inr (.inr ⟨show ¬ ("ask":Str)="take" by decide +kernel,show ¬ ("ask":Str)="answer" by decide +kernel,λts key d=>by unfold Dd.aft;split<;>rfl⟩)
|collect=>exact .inr (.inr ⟨show ¬ ("collect":Str)="take" by decide +kernel,show ¬ ("collect":Str)="answer" by decide +kernel,λts key d=>by unfold Dd.aft;split<;>rfl⟩)
|bell b=>exact .inr (.inr ⟨show ¬ ("bell":Str)="take" by decide +kernel,show ¬ ("bell":Str)="answer" by decide +kernel,λts key d=>by unfold Dd.aft;split<;>rfl⟩)
|lie b=>exact .inr (.inr ⟨show ¬ ("lie":Str)="take" by decide +kernel,show ¬ ("lie":Str)="answer" by decide +kernel,λts key d=>by unfold Dd.aft;split<;>rfl⟩)
|look b=>exact .inr (.inr ⟨show ¬ ("look":Str)="take" by decide +kernel,show ¬ ("look":Str)="answer" by decide +kernel,λts key d=>by unfold Dd.aft;split<;>rfl⟩)
|drain b=>exact .inr (.inr ⟨show ¬ ("drain":Str)="take" by decide +kernel,show ¬ ("drain":Str)="answer" by decide +kernel,λts key d=>by unfold Dd.aft;split<;>rfl⟩)
def Dd.at0 (x:Dd):atI x.vs 0=dk (.str x.word):=by cases x<;>rfl
def Fch.dv {H:Hp}{d:IV}{v:V}(h:Fch d) (dv:DV H d v):(d=.none/\v=.non)\/∃ (c:G') (v1 v2:V),v=.ref c/\H c=dk (.tup [v1,v2])/\((d=.tuple [.none,.none]/\v1=.non/\v2=.non)\/∃ i j:Int,d=.tuple [.int i,.int j]/\v1=.int i/\v2=.int j):=by
 rcases h with rfl|rfl|⟨i,j,rfl⟩
 . exact .inl ⟨rfl,dv⟩
 . obtain⟨c,vs,rfl,hc,v1,r1,rfl,d1,v2,r2,rfl,d2,rfl⟩:=dv;exact .inr ⟨c,v1,v2,rfl,hc,.inl ⟨rfl,d1,d2⟩⟩
 . obtain⟨c,vs,rfl,hc,v1,r1,rfl,d1,v2,r2,rfl,d2,rfl⟩:=dv;exact .inr ⟨c,v1,v2,rfl,hc,.inr ⟨i,j,rfl,d1,d2⟩⟩
def Ae {ts:List Int}{a:Int}:(i6 ts a).length <= ts.length+1:=by
 unfold i6;cases ts.contains a with
|true=>exact le_succ _
|false=>rw[Pb (by decide),IT];exact Jd _
def El {ts:List Int}{x:Dd}{key:Str}{d:IV}:(x.aft ts key d).length <= ts.length+1:=by
 unfold Dd.aft;split
 . split
   . exact Ae
   . exact Nat.le_succ_of_le (List.length_erase_le)
   . exact le_succ _
 . exact le_succ _
def Az {own:G'->Prop}{H H':Hp}(ko:KO own H H') (h:∀ c,own c->∀ vs,H c≠dk (.tup vs)):∀ b vs,H b=dk (.tup vs)->H' b=dk (.tup vs):=λb vs e=>ko b _ (λz=>h b z vs e) e
section
variable {w:Jj}{CY CH CT CR CS:G'}{H H':Hp}{a:YA}{q:YP}{S:YS}
def Yn.noT (Y:Yn w CY CH CT CR CS H a q S):∀ c,a.own c->∀ vs,H c≠dk (.tup vs):=λc hc vs e=>by
 obtain⟨o,e',n⟩:=Y.there hc;rw[e']at e;exact n vs (Jt e)
def Yn.ko (Y:Yn w CY CH CT CR CS H a q S) {own:G'->Prop}(ko:KO own H H') (hd:∀ c,own c->¬ a.own c) (hn:∀ c,own c->∀ vs,H c≠dk (.tup vs)):Yn w CY CH CT CR CS H' a q S :=
 Y.keep (λc o hc e=>ko c o (λz=>hd c z hc) e) (Az ko hn)
def Yn.fresh (Y:Yn w CY CH CT CR CS H a q S) {c:G'}(h:H c=IX):¬ a.own c:=λhc=>by
 obtain⟨o,e,_⟩:=Y.there hc;rw[e]at h;cases h
end
def ED {d:IV}(h:rc d):Jm d d=l':=PySem.SeqAt.eqv_refl d h.1
def Dd.prt:Dd->Prop
|.bell _=>False
|.lie _=>False
|.look _=>False
|_=>True
def IS (d:IV):Prop:=IV.canLay0 d=l'/\d.depth <= 1
def Fa {q:YP}{S:YS}{x:Dd}(h:x.prt):(x.out q S).2.2.bd=S.bd:=by
 cases hc:x.chk q S with
|some r=>rw[Dd.out_some hc]
|none =>
  rw[Dd.out_none hc];cases x with
 |ask wt =>
   show (match bF q.n S.un with|some nm=>_|none=>_:IV × YS).2.bd=_;cases bF q.n S.un<;>rfl
 |answer nm wt=>rfl
 |take =>
   unfold Dd.run;by_cases h:au q.p S.m (S.rs l') .asked .taken=0
   . rw[Pa h]
   . rw[Pb h];cases rdP S.m (S.rs l') f' (rdC S.m (S.rs l') .taken % q.p.s)<;>rfl
 |collect =>
   unfold Dd.run;by_cases h:au q.p S.m (S.rs f') .answered .handed=0
   . rw[Pa h]
   . rw[Pb h];cases rdP S.m (S.rs f') l' (rdC S.m (S.rs f') .handed % q.p.s)<;>rfl
 |drain b =>
   show (match S.rs b with|x :: rest=>_|[]=>_:IV × YS).2.bd=_;cases S.rs b<;>rfl
 |bell b=>exact h.elim
 |lie b=>exact h.elim
 |look b=>exact h.elim
def Dd.lays:Dd->Option Bool
|.ask _=>dk f'
|.answer _ _=>dk l'
|_=>IX
def inC (N:Int) (k:Cn) (i:Int):Prop:=k=.hs\/k=.ts\/(0 <= i/\i < N)
def Wr.In (N:Int):Wr->Prop
|.c k i=>inC N k i
|.p _ _ _ _=>True
structure Rng (N:Int) (m:Mem) (rs:Bool->List Wr):Prop where
 mm:∀ k,inC N k (m.c k)
 rr:∀ b,∀ x∈rs b,x.In N
theorem Rng.zero {N:Int}(h:0 < N):Rng N Mem.zero (λ_=>[]):=⟨λ_=>.inr (.inr ⟨Int.le_refl _,h⟩),λ_ _ hx=>absurd hx JW⟩
section
variable {N:Int}{m:Mem}{rs:Bool->List Wr}{b:Bool}{x:Wr}{rest:List Wr}
def G4 {row:List Wr}{k:Cn}(h1:∀ k,inC N k (m.c k)) (h2:∀ x∈row,x.In N):inC N k (rdC m row k):=by
 unfold rdC;cases h:row.reverse.findSome? (Wr.cnt k) with
|none=>exact h1 k
|some i =>
  obtain⟨y,hy,e⟩:=List.exists_of_findSome?_eq_some h;have:=Wr.cnt_some e;subst this;exact h2 _ (mem_reverse.mp hy)
def Rng.rd (h:Rng N m rs) (b:Bool) (k:Cn):inC N k (rdC m (rs b) k):=G4 h.mm (h.rr b)
def Rng.row (h:Rng N m rs) {row:List Wr}(hr:∀ x∈row,x.In N):Rng N m (aF rs b row):=⟨h.mm,λc x hx=>by
 by_cases e:c=b
 . subst e;rw[ap]at hx;exact hr x hx
 . rw[aG e]at hx;exact h.rr c x hx⟩
def Rng.app (h:Rng N m rs) {xs:List Wr}(hx:∀ x∈xs,x.In N):Rng N m (aF rs b (rs b++xs)):=h.row λx hm=>by
 rcases JB.mp hm with y|y
 . exact h.rr b x y
 . exact hx x y
def CU (h:∀ k,inC N k (m.c k)) (hx:x.In N):∀ k,inC N k ((m.put x).c k):=λk=>by
 show inC N k ((x.cnt k).getD (m.c k));cases e:x.cnt k with
|none=>exact h k
|some i =>
  have:=Wr.cnt_some e;subst this;exact hx
def Rng.drain (h:Rng N m rs) (hb:rs b=x :: rest):Rng N (m.put x) (aF rs b rest):=by
 have h2:=h.rr b;rw[hb]at h2;have:=h.row (b:=b) (row:=rest) λy hy=>h2 y (Jh _ hy)
 exact⟨CU h.mm (h2 x Jg),this.rr⟩
theorem uh:∀ {row:List Wr}{m:Mem},(∀ k,inC N k (m.c k))->(∀ x∈row,x.In N)->∀ k,inC N k ((m.putAllY row).c k)
|[],_,h,_=>h
|x :: row,m,h,hr=>uh (row:=row) (m:=m.put x) (CU h (hr x Jg)) λy hy=>hr y (Jh _ hy)
def Rng.fence (h:Rng N m rs):Rng N (m.putAllY (rs b)) (aF rs b []):=⟨uh h.mm (h.rr b),(h.row (b:=b) (row:=[]) λ_ hx=>absurd hx JW).rr⟩
end
def mH {p:RP}(hp:p.Ok) {m:Mem}{row:List Wr}{a:Cn}:(d7 p m row a).In (p.s * p.R):=.inr (.inr ⟨KJ _ (by have:=hp.sR;omega),Kd _ hp.sR⟩)
def CM {p:RP}(hp:p.Ok) {m:Mem}{row:List Wr}{g:Bool}{a:Cn}{nm wt:Int}:∀ x∈kR p m row g a nm wt,x.In (p.s * p.R):=λx hx=>by
 unfold kR at hx;split at hx
 . simp only[Jx,JW,or_false]at hx;rcases hx with rfl|rfl
   . exact mH hp
   . exact trivial
 . simp only[Jx,JW,or_false]at hx;rcases hx with rfl|rfl
   . exact trivial
   . exact mH hp
def YS.Rg (S:YS) (q:YP):Prop:=Rng (q.p.s * q.p.R) S.m S.rs
def oU {N:Int}{x:Wr}(h:x.In N):∀ y∈[x],y.In N:=λy hy=>by rw[IW.mp hy];exact h
def zI {N i:Int}{b:Bool}:(Wr.c (bM b) i).In N:=by cases b;exact .inl rfl;exact .inr (.inl rfl)
def Dy {q:YP}{S:YS}(hq:q.Ok) (h:S.Rg q) (x:Dd):(x.out q S).2.2.Rg q:=by
 cases hc:x.chk q S with
|some r=>rw[Dd.out_some hc];exact h
|none =>
  rw[Dd.out_none hc];cases x with
 |ask wt =>
   show YS.Rg (match bF q.n S.un with|some nm=>_|none=>_:IV × YS).2 q;cases bF q.n S.un with
  |none=>exact h
  |some nm=>exact Rng.app h (CM hq.ok)
 |answer nm wt=>exact Rng.app h (CM hq.ok)
 |take =>
   unfold Dd.run;by_cases h0:au q.p S.m (S.rs l') .asked .taken=0
   . rw[Pa h0];exact h
   . rw[Pb h0];cases rdP S.m (S.rs l') f' (rdC S.m (S.rs l') .taken % q.p.s) with
    |none=>exact Rng.app h (oU (mH hq.ok))
    |some nw=>exact Rng.app h (oU (mH hq.ok))
 |collect =>
   unfold Dd.run;by_cases h0:au q.p S.m (S.rs f') .answered .handed=0
   . rw[Pa h0];exact h
   . rw[Pb h0];cases rdP S.m (S.rs f') l' (rdC S.m (S.rs f') .handed % q.p.s) with
    |none=>exact Rng.app h (oU (mH hq.ok))
    |some nw=>exact Rng.app h (oU (mH hq.ok))
 |bell b =>
   have aux:∀ S2:YS,S2.Rg q->YS.Rg (if rdC S2.m (S2.rs b) (bM (!b))≠1 then (IV.bool f',S2) else if S2.bd (!b)=.asleep then (.bool l',({ S2 with bd:=aF S2.bd (!b) .up }:YS).wr (!b) (.c (bM (!b)) 0)) else (.bool l',S2)).2 q:=λS2 h2=>by
    split
    . exact h2
    . split
      . exact Rng.app h2 (oU zI)
      . exact h2
   refine aux { (if q.fb then S.fence b else S) with qt:=aF (if q.fb then S.fence b else S).qt b l' } ?_;show YS.Rg (if q.fb then S.fence b else S) q;split
   . exact Rng.fence h
   . exact h
 |lie b =>
   show YS.Rg (if q.fl then (S.wr b (.c (bM b) 1)).fence b else S.wr b (.c (bM b) 1)) q;have h2:(S.wr b (.c (bM b) 1)).Rg q:=Rng.app h (oU zI);split
   . exact Rng.fence h2
   . exact h2
 |look b =>
   show YS.Rg (if _ then _ else _:IV × YS).2 q;split
   . exact Rng.app h (oU zI)
   . exact h
 |drain b =>
   show YS.Rg (match S.rs b with|x :: rest=>_|[]=>_:IV × YS).2 q;cases hb:S.rs b with
  |nil=>exact h
  |cons x rest=>exact Rng.drain h hb
def Cv {a b N:Int}(ha:0 <= a/\a < N) (hb:0 <= b/\b < N):(a - b) % N=0 ↔ a=b:=by
 constructor
 . intro h;obtain⟨c,hc⟩:=Int.dvd_of_emod_eq_zero h;have h0:c=0:=by
    by_cases h1:c <= -1
    . have:N * c <= N * (-1):=Int.mul_le_mul_of_nonneg_left h1 (by omega);omega
    . by_cases h2:1 <= c
      . have:N * 1 <= N * c:=Int.mul_le_mul_of_nonneg_left h2 (by omega);omega
      . omega
   rw[h0,Int.mul_zero]at hc;omega
 . intro h;subst h;rw[Int.sub_self,Int.zero_emod]
def lkA:Bool->Cn
|false=>.answered
|true=>.asked
def lkB:Bool->Cn
|false=>.handed
|true=>.taken
def HI {q:YP}{S:YS}(h:S.Rg q) (b:Bool):swT q S b=decide (rdC S.m (S.rs b) (lkA b)≠rdC S.m (S.rs b) (lkB b)):=by
 have g:∀ k,k≠.hs->k≠.ts->0 <= rdC S.m (S.rs b) k/\rdC S.m (S.rs b) k < q.p.s * q.p.R:=λk h1 h2=>by
  rcases Rng.rd h b k with z|z|z
  . exact absurd z h1
  . exact absurd z h2
  . exact z
 cases b with
|false =>
  show decide (au q.p S.m (S.rs f') .answered .handed≠0)=_;exact decide_eq_decide.mpr (not_congr (Cv (g .answered (λz=>by cases z) λz=>by cases z) (g .handed (λz=>by cases z) λz=>by cases z)))
|true =>
  show decide (au q.p S.m (S.rs l') .asked .taken≠0)=_;exact decide_eq_decide.mpr (not_congr (Cv (g .asked (λz=>by cases z) λz=>by cases z) (g .taken (λz=>by cases z) λz=>by cases z)))
def YS.wh (S:YS) (h:List IV):YS:={ S with hs:=h }
def EqS (S T:YS):Prop:=∃ h,T=S.wh h
def ui {q:YP}{S:YS}{b:Bool}{x:Wr}{rest:List Wr}(h:S.rs b=x :: rest):(Dd.drain b).chk q S=IX/\(Dd.drain b).run q S=(.none,{ S with m:=S.m.put x,rs:=aF S.rs b rest }):=by
 refine⟨Pb (by rw[h];exact λy=>by cases y),?_⟩;show (match S.rs b with|x :: rest=>_|[]=>_)=_;rw[h]
def noS (b:Bool) (x:Wr):Prop:=∀ i,x≠.c (bM (!b)) i
def oh (rs:Bool->List Wr):Prop:=∀ b,∀ x∈rs b,noS b x
def oh.zero:oh (λ_=>[]):=λ_ _ h=>absurd h JW
section
variable {rs:Bool->List Wr}{b:Bool}
def oh.row (h:oh rs) {row:List Wr}(hr:∀ x∈row,noS b x):oh (aF rs b row):=λc x hx=>by
 by_cases e:c=b
 . subst e;rw[ap]at hx;exact hr x hx
 . rw[aG e]at hx;exact h c x hx
def oh.app (h:oh rs) {xs:List Wr}(hx:∀ x∈xs,noS b x):oh (aF rs b (rs b++xs)):=h.row λx hm=>by
 rcases JB.mp hm with y|y
 . exact h b x y
 . exact hx x y
end
def pY {b:Bool}{k:Cn}{i:Int}(h:k≠bM (!b)):noS b (.c k i):=λj e=>by cases e;exact h rfl
def Fx {b g:Bool}{i nm wt:Int}:noS b (.p g i nm wt):=λj e=>by cases e
def jm {b:Bool}{x:Wr}(h:noS b x):∀ y∈[x],noS b y:=λy hy=>by rw[IW.mp hy];exact h
def uq (b:Bool):bM b≠bM (!b):=by cases b<;>exact λh=>by cases h
def zk {p:RP}{m:Mem}{row:List Wr}{b g:Bool}{a:Cn}{nm wt:Int}(ha:a≠bM (!b)):∀ x∈kR p m row g a nm wt,noS b x:=λx hx=>by
 unfold kR at hx;split at hx
 . simp only[Jx,JW,or_false]at hx;rcases hx with rfl|rfl
   . exact pY ha
   . exact Fx
 . simp only[Jx,JW,or_false]at hx;rcases hx with rfl|rfl
   . exact Fx
   . exact pY ha
def En {q:YP}{S:YS}(h:oh S.rs) (x:Dd):oh (x.out q S).2.2.rs:=by
 cases hc:x.chk q S with
|some r=>rw[Dd.out_some hc];exact h
|none =>
  rw[Dd.out_none hc];cases x with
 |ask wt =>
   show oh (match bF q.n S.un with|some nm=>_|none=>_:IV × YS).2.rs;cases bF q.n S.un with
  |none=>exact h
  |some nm=>exact h.app (zk λe=>by cases e)
 |answer nm wt=>exact h.app (zk λe=>by cases e)
 |take =>
   unfold Dd.run;by_cases h0:au q.p S.m (S.rs l') .asked .taken=0
   . rw[Pa h0];exact h
   . rw[Pb h0];cases rdP S.m (S.rs l') f' (rdC S.m (S.rs l') .taken % q.p.s) with
    |none=>exact h.app (jm (pY λe=>by cases e))
    |some nw=>exact h.app (jm (pY λe=>by cases e))
 |collect =>
   unfold Dd.run;by_cases h0:au q.p S.m (S.rs f') .answered .handed=0
   . rw[Pa h0];exact h
   . rw[Pb h0];cases rdP S.m (S.rs f') l' (rdC S.m (S.rs f') .handed % q.p.s) with
    |none=>exact h.app (jm (pY λe=>by cases e))
    |some nw=>exact h.app (jm (pY λe=>by cases e))
 |bell b =>
   have aux:∀ S2:YS,oh S2.rs->oh (if rdC S2.m (S2.rs b) (bM (!b))≠1 then (IV.bool f',S2) else if S2.bd (!b)=.asleep then (.bool l',({ S2 with bd:=aF S2.bd (!b) .up }:YS).wr (!b) (.c (bM (!b)) 0)) else (.bool l',S2)).2.rs:=λS2 h2=>by
    split
    . exact h2
    . split
      . exact oh.app h2 (jm (pY (uq _)))
      . exact h2
   refine aux { (if q.fb then S.fence b else S) with qt:=aF (if q.fb then S.fence b else S).qt b l' } ?_;show oh (if q.fb then S.fence b else S).rs;split
   . exact h.row λ_ hx=>absurd hx JW
   . exact h
 |lie b =>
   show oh (if q.fl then (S.wr b (.c (bM b) 1)).fence b else S.wr b (.c (bM b) 1)).rs;have h2:oh (S.wr b (.c (bM b) 1)).rs:=h.app (jm (pY (uq b)));split
   . exact h2.row λ_ hx=>absurd hx JW
   . exact h2
 |look b =>
   show oh (if _ then _ else _:IV × YS).2.rs;split
   . exact h.app (jm (pY (uq b)))
   . exact h
 |drain b =>
   show oh (match S.rs b with|x :: rest=>_|[]=>_:IV × YS).2.rs;cases hb:S.rs b with
  |nil=>exact h
  |cons x rest=>exact h.row λy hy=>h b y (by rw[hb];exact Jh _ hy)
theorem nM {k:Cn}:∀ {row:List Wr}{m:Mem},(∀ x∈row,∀ i,x≠.c k i)->(m.putAllY row).c k=m.c k
|[],_,_=>rfl
|x :: row,m,h=>by
  have e:(m.put x).c k=m.c k:=by
   show (x.cnt k).getD (m.c k)=_;cases hx:x.cnt k with
  |none=>rfl
  |some i=>exact absurd (Wr.cnt_some hx) (h x Jg i)
  exact(nM (row:=row) (m:=m.put x) λy hy=>h y (Jh _ hy)).trans e
def pz {k:Cn}{i:Int}{row:List Wr}{m:Mem}:(m.putAllY (row++[.c k i])).c k=i:=by
 unfold Mem.putAllY;rw[List.foldl_append];show (((Wr.c k i).cnt k).getD _)=i;unfold Wr.cnt;dsimp only;rw[Pa rfl];rfl
def apT (S:YS) (b:Bool):Bool:=decide (rdC S.m (S.rs b) (lkA b)≠rdC S.m (S.rs b) (lkB b))
def Iu (x:Dd) (d:IV) (S T:YS):Prop:=match x with
|.lie b=>d=.none/\T.bd b=.lies/\T.rs b=[]/\T.m.c (bM b)=1/\T.bd (!b)=S.bd (!b)/\T.rs (!b)=S.rs (!b)
|.look b=>d=.bool (apT S b)/\T.rs (!b)=S.rs (!b)/\T.bd (!b)=S.bd (!b)/\T.m=S.m/\(if apT S b=l' then T.bd b=.up/\T.rs b=S.rs b++[.c (bM b) 0] else T.bd b=.asleep/\T.rs b=S.rs b)
|.bell b=>d=.bool (decide (S.m.c (bM (!b))=1))/\T.rs b=[]/\T.bd b=.up/\(if S.m.c (bM (!b))=1/\S.bd (!b)=.asleep then T.bd (!b)=.up/\T.rs (!b)=S.rs (!b)++[.c (bM (!b)) 0] else T.bd (!b)=S.bd (!b)/\T.rs (!b)=S.rs (!b))
|_=>T.bd=S.bd
def lJ (b:Bool):(!b)≠b:=by cases b<;>decide
def vZ {q:YP}{S:YS}{x:Dd}(hb:q.fb=l') (hl:q.fl=l') (hk:q.fk=l') (rg:S.Rg q) (ow:oh S.rs) (hc:x.chk q S=IX):Iu x (x.run q S).1 S (x.run q S).2:=by
 have pr:∀ {x:Dd},x.prt->x.chk q S=IX->(x.run q S).2.bd=S.bd:=λhp hc=>by
  have:=Fa (q:=q) (S:=S) hp;rw[Dd.out_none hc]at this;exact this
 cases x with
|ask wt=>exact pr (x:=.ask wt) trivial hc
|collect=>exact pr (x:=.collect) trivial hc
|take=>exact pr (x:=.take) trivial hc
|answer nm wt=>exact pr (x:=.answer nm wt) trivial hc
|drain b=>exact pr (x:=.drain b) trivial hc
|lie b =>
  have e:(Dd.lie b).run q S=(.none,{ (S.wr b (.c (bM b) 1)).fence b with bd:=aF S.bd b .lies }):=by
   unfold Dd.run;dsimp only;rw[hl];rfl
  rw[e];refine⟨rfl,ap,ap,?_,aG (lJ b),?_⟩
  . show (S.m.putAllY (aF S.rs b (S.rs b++[.c (bM b) 1]) b)).c (bM b)=1;rw[ap];exact pz
  . show aF (aF S.rs b _) b [] (!b)=_;rw[aG (lJ b),aG (lJ b)]
|look b =>
  have ha:apT S b=swT q S b:=(HI rg b).symm;by_cases h:swT q S b=l'
  . rw[show (Dd.look b).run q S=_ from Pa ⟨hk,h⟩];refine⟨by rw[ha,h],aG (lJ b),aG (lJ b),rfl,?_⟩;rw[ha,Pa h];exact⟨ap,ap⟩
  . rw[show (Dd.look b).run q S=_ from Pb λz=>h z.2];refine⟨by rw[ha,Bool.eq_false_iff.mpr h],rfl,aG (lJ b),rfl,?_⟩;rw[ha,Pb h];exact⟨ap,rfl⟩
|bell b =>
  have hup:S.bd b=.up:=by
   by_cases h:S.bd b=.up
   . exact h
   . have:(Dd.bell b).chk q S=dk .deed:=Pb h;rw[this]at hc;cases hc
  have hm:rdC (S.fence b).m ((S.fence b).rs b) (bM (!b))=S.m.c (bM (!b)):=by
   show rdC (S.m.putAllY (S.rs b)) (aF S.rs b [] b) (bM (!b))=_;rw[ap,EK];exact nM λx hx i=>ow b x hx i
  have e:(Dd.bell b).run q S=(λS2:YS=>if rdC S2.m (S2.rs b) (bM (!b))≠1 then (IV.bool f',S2) else if S2.bd (!b)=.asleep then (.bool l',({ S2 with bd:=aF S2.bd (!b) .up }:YS).wr (!b) (.c (bM (!b)) 0)) else (.bool l',S2)) { S.fence b with qt:=aF S.qt b l' }:=by
   unfold Dd.run;dsimp only;rw[hb];rfl
  rw[e];dsimp only;have nr:∀ {row:List Wr},aF S.rs b row (!b)=S.rs (!b):=aG (lJ b);by_cases h1:S.m.c (bM (!b))=1
  . rw[Pb (by show ¬ rdC (S.fence b).m ((S.fence b).rs b) (bM (!b))≠1;rw[hm];exact λz=>z h1)];by_cases h2:S.bd (!b)=.asleep
    . rw[Pa (show (S.fence b).bd (!b)=.asleep from h2)];refine⟨by rw[Pd h1],?_,?_,?_⟩
      . show aF (aF S.rs b []) (!b) _ b=[]
        rw[aG (λz=>lJ b z.symm),ap]
      . show aF S.bd (!b) .up b=_;rw[aG (λz=>lJ b z.symm)];exact hup
      . rw[Pa ⟨h1,h2⟩];refine⟨ap,?_⟩;show aF (aF S.rs b []) (!b) (aF S.rs b [] (!b)++_) (!b)=_;rw[ap,nr]
    . rw[Pb (show ¬ (S.fence b).bd (!b)=.asleep from h2)];refine⟨by rw[Pd h1],ap,hup,?_⟩;rw[Pb λz=>h2 z.2];exact⟨rfl,nr⟩
  . rw[Pa (by show rdC (S.fence b).m ((S.fence b).rs b) (bM (!b))≠1;rw[hm];exact h1)];refine⟨by rw[decide_eq_false h1],ap,hup,?_⟩;rw[Pb λz=>h1 z.1];exact⟨rfl,nr⟩
structure Ord where
 lt:Nat->Nat->Bool
 n:Nat
 tr:∀ a b c,lt a b=l'->lt b c=l'->lt a c=l'
 tot:∀ a b,a < n->b < n->a≠b->lt a b=f'->lt b a=l'
section
variable {O:Ord}
end
section
variable {prog:Jy}{w:Jj}{A:JN}{E:IU->IZ->Prop}{s:IZ}
end
section
variable {X:Cx}
end
def Dd.nam (un:List Int) (x:Dd) (key:Str) (d:IV):List Int:=if key="none" then (match x,d with
|.ask _,.int a=>un++[a]
|.collect,.tuple [.int a,.int _]=>un.erase a
|_,_=>un) else un
def mT {xs:List Int}(h:xs.Nodup) (a:Int):xs.erase a=xs.filter λk=>decide (k≠a):=by
 induction xs with
|nil=>rfl
|cons x xs ih =>
  rw[KG]at h;rw[List.erase_cons,J0];by_cases e:x=a
  . rw[Pa (by rw[e];exact beq_self_eq_true _),Pb (by rw[Pc];exact λz=>z e)];refine(List.filter_eq_self.mpr λy hy=>?_).symm;rw[Pc];exact λz=>h.1 (by rw[<-z]at e;rw[e];exact hy)
  . rw[Pb (by rw[beq_iff_eq];exact e),Pa (Pd e),ih h.2]
def Fg {q:YP}{S:YS}{n:Int}(hn:Nms n S.un) (x:Dd):(x.out q S).2.2.un=x.nam S.un (x.out q S).1 (x.out q S).2.1:=by
 cases hc:x.chk q S with
|some r=>rw[Dd.out_some hc];unfold Dd.nam;rw[Pb r.key_ne]
|none =>
  rw[Dd.out_none hc];unfold Dd.nam;rw[Pa rfl];cases x with
 |ask wt =>
   show (match bF q.n S.un with|some nm=>_|none=>_:IV × YS).2.un=_;unfold Dd.run;cases hl:bF q.n S.un with
  |some nm=>rfl
  |none=>rfl
 |answer nm wt=>rfl
 |take =>
   unfold Dd.run;by_cases h:au q.p S.m (S.rs l') .asked .taken=0
   . rw[Pa h]
   . rw[Pb h];cases rdP S.m (S.rs l') f' (rdC S.m (S.rs l') .taken % q.p.s)<;>rfl
 |collect =>
   unfold Dd.run;by_cases h:au q.p S.m (S.rs f') .answered .handed=0
   . rw[Pa h]
   . rw[Pb h];cases rdP S.m (S.rs f') l' (rdC S.m (S.rs f') .handed % q.p.s) with
    |none=>rfl
    |some nw=>exact(mT hn.1 nw.1).symm
 |drain b =>
   show (match S.rs b with|x :: rest=>_|[]=>_:IV × YS).2.un=_;cases S.rs b<;>rfl
 |look b =>
   show (if _ then _ else _:IV × YS).2.un=_;split<;>rfl
 |lie b =>
   show (if q.fl then (S.wr b (.c (bM b) 1)).fence b else S.wr b (.c (bM b) 1)).un=S.un;split<;>rfl
 |bell b =>
   have aux:∀ S2:YS,(if rdC S2.m (S2.rs b) (bM (!b))≠1 then (IV.bool f',S2) else if S2.bd (!b)=.asleep then (.bool l',({ S2 with bd:=aF S2.bd (!b) .up }:YS).wr (!b) (.c (bM (!b)) 0)) else (.bool l',S2)).2.un=S2.un:=λS2=>by
    split
    . rfl
    . split<;>rfl
   refine(aux { (if q.fb then S.fence b else S) with qt:=aF (if q.fb then S.fence b else S).qt b l' }).trans ?_;show (if q.fb then S.fence b else S).un=S.un;split<;>rfl
def yo {q:YP}{S:YS}{n:Int}(hn:Nms n S.tk) (x:Dd):(x.out q S).2.2.tk=x.aft S.tk (x.out q S).1 (x.out q S).2.1:=by
 cases hc:x.chk q S with
|some r=>rw[Dd.out_some hc];unfold Dd.aft;rw[Pb r.key_ne]
|none =>
  rw[Dd.out_none hc];unfold Dd.aft;rw[Pa rfl];cases x with
 |ask wt =>
   show (match bF q.n S.un with|some nm=>_|none=>_:IV × YS).2.tk=_;cases hl:bF q.n S.un<;>rfl
 |answer nm wt=>exact(mT hn.1 nm).symm
 |take =>
   unfold Dd.run;by_cases h:au q.p S.m (S.rs l') .asked .taken=0
   . rw[Pa h]
   . rw[Pb h];cases rdP S.m (S.rs l') f' (rdC S.m (S.rs l') .taken % q.p.s)<;>rfl
 |collect =>
   unfold Dd.run;by_cases h:au q.p S.m (S.rs f') .answered .handed=0
   . rw[Pa h]
   . rw[Pb h];cases rdP S.m (S.rs f') l' (rdC S.m (S.rs f') .handed % q.p.s)<;>rfl
 |drain b =>
   show (match S.rs b with|x :: rest=>_|[]=>_:IV × YS).2.tk=_;cases S.rs b<;>rfl
 |look b =>
   show (if _ then _ else _:IV × YS).2.tk=_;split<;>rfl
 |lie b =>
   show (if q.fl then (S.wr b (.c (bM b) 1)).fence b else S.wr b (.c (bM b) 1)).tk=S.tk;split<;>rfl
 |bell b =>
   have aux:∀ S2:YS,(if rdC S2.m (S2.rs b) (bM (!b))≠1 then (IV.bool f',S2) else if S2.bd (!b)=.asleep then (.bool l',({ S2 with bd:=aF S2.bd (!b) .up }:YS).wr (!b) (.c (bM (!b)) 0)) else (.bool l',S2)).2.tk=S2.tk:=λS2=>by
    split
    . rfl
    . split<;>rfl
   refine(aux { (if q.fb then S.fence b else S) with qt:=aF (if q.fb then S.fence b else S).qt b l' }).trans ?_;show (if q.fb then S.fence b else S).tk=S.tk;split<;>rfl
section
variable {K:Ja}
end
def Wr.slp:Wr->Bool
|.c .hs _=>l'
|.c .ts _=>l'
|_=>f'
def bS (row:List Wr):List Wr:=row.filter λx=>!x.slp
def Mem.ns (m:Mem):Mem:=⟨λk=>match k with|.hs=>0|.ts=>0|.asked=>m.c .asked|.taken=>m.c .taken|.answered=>m.c .answered|.handed=>m.c .handed,m.p⟩
def Cn.wk:Cn->Bool
|.hs=>f'
|.ts=>f'
|_=>l'
def Fh {m:Mem}{k:Cn}(h:k.wk=l'):m.ns.c k=m.c k:=by cases k<;>first|rfl|cases h
def uX {x:Wr}{k:Cn}(h:k.wk=l') (hx:x.slp=l'):x.cnt k=IX:=by
 cases x with
|p=>rfl
|c k' i =>
  have:k'≠k:=λe=>by subst e;cases k'<;>cases h<;>cases hx
  exact Pb this
def DR {x:Wr}{g:Bool}{i:Int}(hx:x.slp=l'):x.plc g i=IX:=by
 cases x with
|p=>cases hx
|c k' i=>rfl
def jE (xs ys:List Wr):bS (xs++ys)=bS xs++bS ys:=JU ..
def qX {β:Type}(f:Wr->Option β) (h:∀ x,x.slp=l'->f x=IX) (row:List Wr):(bS row).reverse.findSome? f=row.reverse.findSome? f:=by
 unfold bS;rw[<-List.filter_reverse];generalize row.reverse=r
 induction r with
|nil=>rfl
|cons x r ih =>
  rw[J0];cases hx:x.slp with
 |true =>
   rw[Pb (by decide),ih,Lj,h x hx]
 |false =>
   rw[Pa (by decide),Lj,Lj,ih]
def gi {m:Mem}{row:List Wr}{k:Cn}(h:k.wk=l'):rdC m.ns (bS row) k=rdC m row k:=by
 unfold rdC;rw[qX (Wr.cnt k) (λx hx=>uX h hx),Fh h]
def lA {m:Mem}{row:List Wr}{g:Bool}{i:Int}:rdP m.ns (bS row) g i=rdP m row g i:=by
 unfold rdP;rw[qX (Wr.plc g i) (λx hx=>DR hx)];rfl
def eB {p:RP}{m:Mem}{row:List Wr}{a b:Cn}(ha:a.wk=l') (hb:b.wk=l'):au p m.ns (bS row) a b=au p m row a b:=by
 unfold au;rw[gi ha,gi hb]
def mv {p:RP}{m:Mem}{row:List Wr}{a:Cn}(ha:a.wk=l'):d7 p m.ns (bS row) a=d7 p m row a:=by
 unfold d7;rw[gi ha]
def uC {p:RP}{m:Mem}{row:List Wr}{g:Bool}{a:Cn}{nm wt:Int}(ha:a.wk=l'):kR p m.ns (bS row) g a nm wt=kR p m row g a nm wt:=by
 unfold kR;rw[gi ha,mv ha]
def rE {p:RP}{m:Mem}{row:List Wr}{a:Cn}(ha:a.wk=l'):(d7 p m row a).slp=f':=by
 cases a<;>first|rfl|cases ha
def zT {p:RP}{m:Mem}{row:List Wr}{g:Bool}{a:Cn}{nm wt:Int}(ha:a.wk=l'):bS (kR p m row g a nm wt)=kR p m row g a nm wt:=by
 unfold bS kR;have h:=rE (p:=p) (m:=m) (row:=row) ha;split<;>(refine List.filter_eq_self.mpr λx hx=>?_;simp only[Jx,JW,or_false]at hx;rcases hx with rfl|rfl<;>first|(rw[h];rfl)|rfl)
def EL {m:Mem}{x:Wr}(h:x.slp=l'):(m.put x).ns=m.ns:=by
 cases x with
|p=>cases h
|c k i =>
  unfold Mem.put Mem.ns;congr 1;funext j;cases j<;>first|rfl|(show ((Wr.c k i).cnt _).getD _=_;rw[uX rfl h];rfl)
def FD {m:Mem}{x:Wr}(h:x.slp=f'):(m.put x).ns=m.ns.put x:=by
 unfold Mem.put Mem.ns;congr 1;funext j;cases j<;>first|rfl|(cases x with|p=>rfl|c k i=>cases k<;>first|rfl|cases h)
def wy {k:Cn}{row:List Wr}(h:k.wk=l'):nC k (bS row)=nC k row:=by
 unfold nC bS;rw[List.filter_filter];congr 1;refine filter_congr λx _=>?_
 cases hx:x.slp with
|true =>
  have:isC k x=f':=by unfold isC;rw[uX h hx];rfl
  rw[this];rfl
|false=>cases isC k x<;>rfl
def jV {x:Wr}{row:List Wr}:bS (x :: row)=if x.slp then bS row else x :: bS row:=by
 unfold bS;rw[J0];cases x.slp<;>rfl
def fH {rs:Bool->List Wr}{b:Bool}{row:List Wr}:(λc=>bS (aF rs b row c))=aF (λc=>bS (rs c)) b (bS row):=by
 funext c;by_cases h:c=b
 . subst h;rw[ap,ap]
 . rw[aG h,aG h]
def M30 (s R:Int) (n:Nat) (S:YS) (A B:List (Int × Int)) (T Hd:Nat):Prop:=M8 s R n S.m.ns (λb=>bS (S.rs b)) S.un S.tk A B T Hd
section
variable {s R:Int}{n:Nat}{S:YS}{A B:List (Int × Int)}{T Hd:Nat}
theorem M30.drain (M:M30 s R n S A B T Hd) {b:Bool}{x:Wr}{rest:List Wr}(e:S.rs b=x :: rest):M30 s R n { S with m:=S.m.put x,rs:=aF S.rs b rest } A B T Hd:=by
 unfold M30 at M |-;show M8 s R n (S.m.put x).ns (λc=>bS (aF S.rs b rest c)) S.un S.tk A B T Hd;rw[fH];have hb:(λc=>bS (S.rs c)) b=if x.slp then bS rest else x :: bS rest:=by
  show bS (S.rs b)=_;rw[e,jV]
 cases hx:x.slp with
|true =>
  rw[EL hx];rw[hx,Pa rfl]at hb;rw[<-hb,vo];exact M
|false =>
  rw[FD hx];rw[hx,Pb (by decide)]at hb;exact M.drain b hb
theorem M30.fence (b:Bool):∀ (row:List Wr) {S:YS},M30 s R n S A B T Hd->S.rs b=row->M30 s R n { S with m:=S.m.putAllY row,rs:=aF S.rs b [] } A B T Hd
|[],S,M,e=>by
  show M30 s R n { S with m:=S.m,rs:=aF S.rs b [] } A B T Hd;rw[<-e,vo];exact M
|x :: row,S,M,e=>by
  have M1:=M.drain e;have:=M30.fence b row M1 (ap);have h2:aF (aF S.rs b row) b []=aF S.rs b []:=by
   funext c;by_cases h:c=b
   . subst h;rw[ap,ap]
   . rw[aG h,aG h,aG h]
  show M30 s R n { S with m:=(S.m.put x).putAllY row,rs:=aF S.rs b [] } A B T Hd;rw[<-h2];exact this
def M30.slept (M:M30 s R n S A B T Hd) {b:Bool}{x:Wr}(h:x.slp=l'):M30 s R n (S.wr b x) A B T Hd:=by
 unfold M30 at M |-;show M8 s R n S.m.ns (λc=>bS (aF S.rs b (S.rs b++[x]) c)) S.un S.tk A B T Hd;rw[fH,jE];have:bS [x]=[]:=by rw[jV,h];rfl
 rw[this,Jw];have h2:=vo (λc=>bS (S.rs c)) b;rw[show aF (λc=>bS (S.rs c)) b (bS (S.rs b))=_ from h2];exact M
def rR (b:Bool) (i:Int):(Wr.c (bM b) i).slp=l':=by cases b<;>rfl
end
abbrev Ev:=Cn × Int × Int
def evD (e:Ev):IV:=lU e.1.key (.int e.2.1) (.int e.2.2)
def th (k:Cn) (es:List Ev):List (Int × Int):=(es.filter λe=>decide (e.1=k)).map (·.2)
def ba (k:Cn) (es fs:List Ev):th k (es++fs)=th k es++th k fs:=by unfold th;rw[JU,J3]
def fZ (k:Cn) (a b:Int):th k [(k,a,b)]=[(a,b)]:=by unfold th;rw[J0,Pa (Pd rfl)];rfl
def dC {k j:Cn}(h:k≠j) (a b:Int):th j [(k,a,b)]=[]:=by unfold th;rw[J0,Pb (by rw[Pc];exact h)];rfl
def yp0 (s R:Int) (n:Nat):YP:=⟨⟨s,R,f'⟩,n,l',l',l'⟩
structure Q30 (s R:Int) (n:Nat) (S:YS) (es:List Ev):Prop where
 m:M30 s R n S (th .asked es) (th .answered es) (th .taken es).length (th .handed es).length
 tk:th .taken es=(th .asked es).take (th .taken es).length
 hd:th .handed es=(th .answered es).take (th .handed es).length
 hs:S.hs=es.map evD
section
variable {s R:Int}{n:Nat}{S:YS}{es:List Ev}
theorem Q30.zero (hs:0 < s) (hs8:s <= 8) (hR:2 <= R) (n9:n <= 9):Q30 s R n YS.zero []:=by
 refine⟨?_,rfl,rfl,rfl⟩;have:=M8.zero (n:=n) hs hs8 hR n9;have e:Mem.zero.ns=Mem.zero:=by
  unfold Mem.ns Mem.zero;congr 1;funext k;cases k<;>rfl
 show M8 s R n Mem.zero.ns (λ_=>[]) [] [] [] [] 0 0;rw[e];exact this
def Q30.quiet {S':YS}(Q:Q30 s R n S es) (h:∀ {A B T Hd},M30 s R n S A B T Hd->M30 s R n S' A B T Hd) (hh:S'.hs=S.hs):Q30 s R n S' es:=⟨h Q.m,Q.tk,Q.hd,hh.trans Q.hs⟩
theorem Q30.ask (Q:Q30 s R n S es) {wt nm:Int}(h:au ⟨s,R,f'⟩ S.m (S.rs f') .asked .taken≠s) (hl:bF n S.un=dk nm):Q30 s R n ((Dd.ask wt).run (yp0 s R n) S).2 (es++[(.asked,nm,wt)]):=by
 have hr:(Dd.ask wt).run (yp0 s R n) S=(.int nm,{ S with rs:=aF S.rs f' (S.rs f'++kR ⟨s,R,f'⟩ S.m (S.rs f') f' .asked nm wt),un:=S.un++[nm],qt:=aF S.qt f' f',hs:=S.hs++[lU "asked" (.int nm) (.int wt)] }):=by
  show (match bF n S.un with|some nm=>_|none=>_:IV × YS)=_;rw[hl];rfl
 rw[hr];have M:=Q.m;unfold M30 at M;have M1:=M8.ask M (by rw[eB rfl rfl];exact h) hl wt;refine⟨?_,?_,?_,?_⟩
 . rw[ba,ba,ba,ba,fZ,dC (by decide),dC (by decide),dC (by decide),Jw,Jw,Jw];unfold M30;show M8 s R n S.m.ns (λc=>bS (aF S.rs f' (S.rs f'++kR ⟨s,R,f'⟩ S.m (S.rs f') f' .asked nm wt) c)) (S.un++[nm]) S.tk _ _ _ _;rw[fH,jE,zT rfl];have e:=uC (p:=⟨s,R,f'⟩) (m:=S.m) (row:=S.rs f') (g:=f') (a:=.asked) (nm:=nm) (wt:=wt) rfl;rw[<-e];exact M1
 . rw[ba,ba,fZ,dC (by decide),Jw];have h1:=Q.tk;have h2:(th .taken es).length <= (th .asked es).length:=by
    have:=congrArg Kz h1;rw[JK]at this;omega
   rw[Jn h2];exact h1
 . rw[ba,ba,dC (by decide),dC (by decide),Jw,Jw];exact Q.hd
 . show S.hs++[lU "asked" (.int nm) (.int wt)]=_;rw[Q.hs,J3];rfl
theorem Q30.answer (Q:Q30 s R n S es) {wt nm:Int}(hm:S.tk.contains nm≠f') (h:au ⟨s,R,f'⟩ S.m (S.rs l') .answered .handed≠s):Q30 s R n ((Dd.answer nm wt).run (yp0 s R n) S).2 (es++[(.answered,nm,wt)]):=by
 have M:=Q.m;unfold M30 at M;have hm':nm∈S.tk:=contains_iff_mem.mp (by cases hh:S.tk.contains nm with|true=>rfl|false=>exact absurd hh hm);have M1:=M8.answer M hm' (by rw[eB rfl rfl];exact h) wt;refine⟨?_,?_,?_,?_⟩
 . rw[ba,ba,ba,ba,fZ,dC (by decide),dC (by decide),dC (by decide),Jw,Jw,Jw];unfold M30;show M8 s R n S.m.ns (λc=>bS (aF S.rs l' (S.rs l'++kR ⟨s,R,f'⟩ S.m (S.rs l') l' .answered nm wt) c)) S.un (S.tk.filter (λk=>decide (k≠nm))) _ _ _ _;rw[fH,jE,zT rfl,<-M.tkd.erase_eq];have e:=uC (p:=⟨s,R,f'⟩) (m:=S.m) (row:=S.rs l') (g:=l') (a:=.answered) (nm:=nm) (wt:=wt) rfl;rw[<-e];exact M1
 . rw[ba,ba,dC (by decide),dC (by decide),Jw,Jw];exact Q.tk
 . rw[ba,ba,fZ,dC (by decide),Jw];have h1:=Q.hd;have h2:(th .handed es).length <= (th .answered es).length:=by
    have:=congrArg Kz h1;rw[JK]at this;omega
   rw[Jn h2];exact h1
 . show S.hs++[lU "answered" (.int nm) (.int wt)]=_;rw[Q.hs,J3];rfl
theorem Q30.take (Q:Q30 s R n S es) (h:au ⟨s,R,f'⟩ S.m (S.rs l') .asked .taken≠0):∃ nw:Int × Int,(th .asked es)[(th .taken es).length]?=dk nw/\(Dd.take.run (yp0 s R n) S).1=.tuple [.int nw.1,.int nw.2]/\Q30 s R n (Dd.take.run (yp0 s R n) S).2 (es++[(.taken,nw.1,nw.2)]):=by
 have M:=Q.m;unfold M30 at M;obtain⟨nw,h1,h2,h3,h4,h5,M1⟩:=M8.takeR M (by rw[eB rfl rfl];exact h);rw[gi rfl,lA]at h2;have hr:Dd.take.run (yp0 s R n) S=(.tuple [.int nw.1,.int nw.2],{ S with rs:=aF S.rs l' (S.rs l'++[d7 ⟨s,R,f'⟩ S.m (S.rs l') .taken]),tk:=i6 S.tk nw.1,hs:=S.hs++[lU "taken" (.int nw.1) (.int nw.2)] }):=by
  show (if au ⟨s,R,f'⟩ S.m (S.rs l') .asked .taken=0 then _ else match rdP S.m (S.rs l') f' (rdC S.m (S.rs l') .taken % s) with|some nw=>_|none=>_:IV × YS)=_;rw[Pb h,h2];rfl
 rw[hr];refine⟨nw,h1,rfl,?_,?_,?_,?_⟩
 . rw[ba,ba,ba,ba,fZ,dC (by decide),dC (by decide),dC (by decide),Jw,Jw,Jw,IT];unfold M30;show M8 s R n S.m.ns (λc=>bS (aF S.rs l' (S.rs l'++[d7 ⟨s,R,f'⟩ S.m (S.rs l') .taken]) c)) S.un (i6 S.tk nw.1) _ _ (_+1) _;have g:i6 S.tk nw.1=S.tk++[nw.1]:=by unfold i6;rw[h4];rfl
   have e:=mv (p:=⟨s,R,f'⟩) (m:=S.m) (row:=S.rs l') (a:=.taken) rfl;rw[fH,jE,g,jV,rE rfl,Pb (by decide),<-e];exact M1
 . rw[ba,ba,fZ,dC (by decide),Jw,IT];show _=List.take (_+1) _;rw[take_add_one,h1,<-Q.tk];rfl
 . rw[ba,ba,dC (by decide),dC (by decide),Jw,Jw];exact Q.hd
 . show S.hs++[lU "taken" (.int nw.1) (.int nw.2)]=_;rw[Q.hs,J3];rfl
theorem Q30.collect (Q:Q30 s R n S es) (h:au ⟨s,R,f'⟩ S.m (S.rs f') .answered .handed≠0):∃ nw:Int × Int,(th .answered es)[(th .handed es).length]?=dk nw/\(Dd.collect.run (yp0 s R n) S).1=.tuple [.int nw.1,.int nw.2]/\Q30 s R n (Dd.collect.run (yp0 s R n) S).2 (es++[(.handed,nw.1,nw.2)]):=by
 have M:=Q.m;unfold M30 at M;obtain⟨nw,h1,h2,h3,h4,M1⟩:=M8.collectR M (by rw[eB rfl rfl];exact h);rw[gi rfl,lA]at h2;have hr:Dd.collect.run (yp0 s R n) S=(.tuple [.int nw.1,.int nw.2],{ S with rs:=aF S.rs f' (S.rs f'++[d7 ⟨s,R,f'⟩ S.m (S.rs f') .handed]),un:=S.un.filter (λk=>decide (k≠nw.1)),hs:=S.hs++[lU "handed" (.int nw.1) (.int nw.2)] }):=by
  show (if au ⟨s,R,f'⟩ S.m (S.rs f') .answered .handed=0 then _ else match rdP S.m (S.rs f') l' (rdC S.m (S.rs f') .handed % s) with|some nw=>_|none=>_:IV × YS)=_;rw[Pb h,h2];rfl
 rw[hr];refine⟨nw,h1,rfl,?_,?_,?_,?_⟩
 . rw[ba,ba,ba,ba,fZ,dC (by decide),dC (by decide),dC (by decide),Jw,Jw,Jw,IT];unfold M30;show M8 s R n S.m.ns (λc=>bS (aF S.rs f' (S.rs f'++[d7 ⟨s,R,f'⟩ S.m (S.rs f') .handed]) c)) (S.un.filter (λk=>decide (k≠nw.1))) S.tk _ _ _ (_+1);have e:=mv (p:=⟨s,R,f'⟩) (m:=S.m) (row:=S.rs f') (a:=.handed) rfl;rw[fH,jE,<-M.und.erase_eq,jV,rE rfl,Pb (by decide),<-e];exact M1
 . rw[ba,ba,dC (by decide),dC (by decide),Jw,Jw];exact Q.tk
 . rw[ba,ba,fZ,dC (by decide),Jw,IT];show _=List.take (_+1) _;rw[take_add_one,h1,<-Q.hd];rfl
 . show S.hs++[lU "handed" (.int nw.1) (.int nw.2)]=_;rw[Q.hs,J3];rfl
def Q30.rest (Q:Q30 s R n S es) {x:Dd}(h:match x with|.bell _=>True|.lie _=>True|.look _=>True|.drain _=>True|_=>False):Q30 s R n (x.run (yp0 s R n) S).2 es:=by
 cases x with
|ask=>exact h.elim
|collect=>exact h.elim
|take=>exact h.elim
|answer=>exact h.elim
|drain b =>
  cases e:S.rs b with
 |nil =>
   have:(Dd.drain b).run (yp0 s R n) S=(.none,S):=by
    show (match S.rs b with|x :: rest=>_|[]=>_:IV × YS)=_;rw[e]
   rw[this];exact Q
 |cons x rest =>
   rw[(ui (q:=yp0 s R n) e).2];exact Q.quiet (λM=>M.drain e) rfl
|look b =>
  by_cases hh:(yp0 s R n).fk=l'/\swT (yp0 s R n) S b=l'
  . rw[show (Dd.look b).run (yp0 s R n) S=_ from Pa hh];exact Q.quiet (λM=>M.slept (b:=b) (rR b 0)) rfl
  . rw[show (Dd.look b).run (yp0 s R n) S=_ from Pb hh];exact Q.quiet (λM=>M) rfl
|lie b=>exact Q.quiet (λM=>M30.fence b _ (M.slept (b:=b) (rR b 1)) rfl) rfl
|bell b =>
  have Q1:Q30 s R n (S.fence b) es:=Q.quiet (λM=>M30.fence b _ M rfl) rfl;show Q30 s R n (if rdC (S.fence b).m ((S.fence b).rs b) (bM (!b))≠1 then _ else if (S.fence b).bd (!b)=.asleep then _ else _:IV × YS).2 es;split
  . exact Q1.quiet (λM=>M) rfl
  . split
    . exact Q1.quiet (λM=>M30.slept (S:={ S.fence b with qt:=aF (S.fence b).qt b l',bd:=aF (S.fence b).bd (!b) .up }) M (b:=!b) (rR (!b) 0)) rfl
    . exact Q1.quiet (λM=>M) rfl
end
def zD {m:Mem}{W:List Wr}{d:Nat}{g:Bool}{i:Int}(h:m.p g i=rdP Mem.zero (W.take d) g i):rdP m (W.drop d) g i=rdP Mem.zero W g i:=by
 have e:=EO Mem.zero (W.take d) (W.drop d) g i;rw[take_append_drop]at e;rw[e,<-h];rfl
structure Cts (s R:Int) (S:YS) (A B:List (Int × Int)) (T Hd:Nat):Prop where
 ra:rdC S.m (S.rs f') .asked=(A.length:Int) % (s * R)
 rt:rdC S.m (S.rs l') .taken=(T:Int) % (s * R)
 rb:rdC S.m (S.rs l') .answered=(B.length:Int) % (s * R)
 rh:rdC S.m (S.rs f') .handed=(Hd:Int) % (s * R)
 ma:S.m.c .asked=((A.length:Int) - (nC .asked (S.rs f'):Nat)) % (s * R)
 mt:S.m.c .taken=((T:Int) - (nC .taken (S.rs l'):Nat)) % (s * R)
 mb:S.m.c .answered=((B.length:Int) - (nC .answered (S.rs l'):Nat)) % (s * R)
 mh:S.m.c .handed=((Hd:Int) - (nC .handed (S.rs f'):Nat)) % (s * R)
 la:(A.length:Int) - T <= s
 lb:(B.length:Int) - Hd <= s
 ta:(T:Int) <= (A.length:Int) - (nC .asked (S.rs f'):Nat)
 hb:(Hd:Int) <= (B.length:Int) - (nC .answered (S.rs l'):Nat)
 pa:∀ k:Nat,T <= k->k < A.length->rdP S.m (S.rs f') f' ((k:Int) % s)=A[k]?
 pb:∀ k:Nat,Hd <= k->k < B.length->rdP S.m (S.rs l') l' ((k:Int) % s)=B[k]?
 ca:au ⟨s,R,f'⟩ S.m (S.rs f') .asked .taken=s ↔ (A.length:Int) - ((T:Int) - (nC .taken (S.rs l'):Nat))=s
 cb:au ⟨s,R,f'⟩ S.m (S.rs l') .answered .handed=s ↔ (B.length:Int) - ((Hd:Int) - (nC .handed (S.rs f'):Nat))=s
 na:au ⟨s,R,f'⟩ S.m (S.rs l') .asked .taken=0 ↔ (A.length:Int) - (nC .asked (S.rs f'):Nat)=T
 nb:au ⟨s,R,f'⟩ S.m (S.rs f') .answered .handed=0 ↔ (B.length:Int) - (nC .answered (S.rs l'):Nat)=Hd
def M30.cts {s R:Int}{n:Nat}{S:YS}{A B:List (Int × Int)}{T Hd:Nat}(M:M30 s R n S A B T Hd):Cts s R S A B T Hd:=by
 unfold M30 at M;have hs:=M.s0;have f1:=M.full;have f2:=M.full2;have f3:=M.none1;have f4:=M.none2;obtain⟨Wf,Wt,df,dt,A',B',a',h',b',t',t⟩:=M.two;obtain⟨⟨r1,r2,_,_⟩,_,_,r3,r4⟩:=t.reads;obtain⟨⟨w1,w2⟩,w3,w4⟩:=t.waits;rw[gi rfl]at r1 r2 r3 r4;rw[eB rfl rfl,wy rfl]at f1 f2 f3 f4;change nC .asked (bS (S.rs f'))=_ at w1;change nC .handed (bS (S.rs f'))=_ at w2;have la:=t.la;have lh:=t.lh;have lb:=t.lb;have lt:=t.lt;have ta:=t.ta;have hb:=t.hb;have sa:=t.sa;have sb:=t.sb;have w3':nC .taken (bS (S.rs l'))=T - t':=by first|exact w3|exact w4
 have w4':nC .answered (bS (S.rs l'))=B.length - b':=by first|exact w4|exact w3
 rw[wy rfl]at w1 w2 w3' w4';have m1:S.m.c .asked=(a':Int) % (s * R):=by
  have:=t.ma;rw[Fh rfl]at this;rw[this];exact t.pf.cA (by decide)
 have m2:S.m.c .handed=(h':Int) % (s * R):=by
  have:=t.mh;rw[Fh rfl]at this;rw[this];exact t.pf.cF (by decide)
 have m3:S.m.c .answered=(b':Int) % (s * R):=by
  have:=t.mb;rw[Fh rfl]at this;rw[this];exact t.pt.cA (by decide)
 have m4:S.m.c .taken=(t':Int) % (s * R):=by
  have:=t.mt;rw[Fh rfl]at this;rw[this];exact t.pt.cF (by decide)
 refine⟨r1,r3,r4,r2,?_,?_,?_,?_,by omega,by omega,by omega,by omega,λk k1 k2=>?_,λk k1 k2=>?_,f1,f2,f3,f4⟩
 . rw[m1,w1];congr 1;omega
 . rw[m4,w3'];congr 1;omega
 . rw[m3,w4'];congr 1;omega
 . rw[m2,w2];congr 1;omega
 . rw[<-lA];have:=t.rf;change bS (S.rs f')=_ at this;rw[this,zD (t.mp _)];exact t.hf.pl hs k k2 (by omega)
 . rw[<-lA];have:=t.rt;change bS (S.rs l')=_ at this;rw[this,zD (t.mq _)];exact t.ht.pl hs k k2 (by omega)
def EvR (H:Hp) (e:Ev) (v:V):Prop:=∃ t:G',v=.ref t/\H t=dk (.tup [.str e.1.key,.int e.2.1,.int e.2.2])
def EvR.keep {H H':Hp}(ht:∀ b vs,H b=dk (.tup vs)->H' b=dk (.tup vs)) {e:Ev}{v:V}:EvR H e v->EvR H' e v
|⟨t,e1,e2⟩=>⟨t,e1,ht _ _ e2⟩
structure Q31 (s R:Int) (n:Nat) (S:YS) (es:List Ev):Prop where
 q:Q30 s R n S es
 tp:((th .taken es).map (·.1)).Perm ((th .answered es).map (·.1)++S.tk)
section
variable {s R:Int}{n:Nat}{S:YS}{es:List Ev}
theorem Q31.zero (hs:0 < s) (hs8:s <= 8) (hR:2 <= R) (n9:n <= 9):Q31 s R n YS.zero []:=⟨Q30.zero hs hs8 hR n9,Ly.refl _⟩
def Q31.pu (Q:Q31 s R n S es):((th .asked es).map (·.1)).Perm ((th .handed es).map (·.1)++S.un):=by
 have M:=Q.q.m;unfold M30 at M;have pm:=M.pm;have e1:(th .asked es).map (·.1)=(th .taken es).map (·.1)++((th .asked es).drop (th .taken es).length).map (·.1):=by
  have h:=Q.q.tk;have h2:th .taken es++(th .asked es).drop (th .taken es).length=th .asked es:=by
   have h3:=take_append_drop (th .taken es).length (th .asked es);rw[<-h]at h3;exact h3
  rw[<-J3,h2]
 have e2:(th .answered es).map (·.1)=(th .handed es).map (·.1)++((th .answered es).drop (th .handed es).length).map (·.1):=by
  have h:=Q.q.hd;have h2:th .handed es++(th .answered es).drop (th .handed es).length=th .answered es:=by
   have h3:=take_append_drop (th .handed es).length (th .answered es);rw[<-h]at h3;exact h3
  rw[<-J3,h2]
 rw[e1];refine(KD _ Q.tp).trans ?_;rw[e2,JA,JA];refine Ln _ ?_;refine Ly.trans ?_ pm.symm;generalize ((th .answered es).drop (th .handed es).length).map (·.1)=b;generalize ((th .asked es).drop (th .taken es).length).map (·.1)=c;generalize S.tk=t;refine List.perm_append_comm.trans ?_;rw[<-JA c];exact KD _ List.perm_append_comm
theorem Q31.und (Q:Q31 s R n S es):Nms n S.un:=by have M:=Q.q.m;unfold M30 at M;exact M.und
theorem Q31.tkd (Q:Q31 s R n S es):Nms 9 S.tk:=by have M:=Q.q.m;unfold M30 at M;exact M.tkd
def C0 {ts:List Int}{a b:Int}:Dd.take.aft ts "none" (.tuple [.int a,.int b])=i6 ts a:=Pa rfl
def zf {ts:List Int}{nm wt:Int}{d:IV}:(Dd.answer nm wt).aft ts "none" d=ts.erase nm:=Pa rfl
theorem Q31.out (Q:Q31 s R n S es) (x:Dd):∃ fs:List Ev,fs.length <= 1/\x.hap (x.out (yp0 s R n) S).1 (x.out (yp0 s R n) S).2.1=fs.map evD/\Q31 s R n (x.out (yp0 s R n) S).2.2 (es++fs):=by
 have ht:=yo (q:=yp0 s R n) Q.tkd x;have tp:=Q.tp;have stay:(x.out (yp0 s R n) S).2.2.tk=S.tk->Q30 s R n (x.out (yp0 s R n) S).2.2 es->x.hap (x.out (yp0 s R n) S).1 (x.out (yp0 s R n) S).2.1=[]->∃ fs:List Ev,fs.length <= 1/\x.hap (x.out (yp0 s R n) S).1 (x.out (yp0 s R n) S).2.1=fs.map evD/\Q31 s R n (x.out (yp0 s R n) S).2.2 (es++fs):=λh1 h2 h3 =>
  ⟨[],Kq _,h3,by rw[Jw];exact⟨h2,by rw[h1];exact tp⟩⟩
 cases hc:x.chk (yp0 s R n) S with
|some r =>
  rw[Dd.out_some hc]at stay |-;exact stay rfl Q.q (by unfold Dd.hap;rw[Pb r.key_ne])
|none =>
  rw[Dd.out_none hc]at stay ht |-;cases x with
 |ask wt =>
   have h':(if S.bd f'=.up then (if au ⟨s,R,f'⟩ S.m (S.rs f') .asked .taken=s then dk Rf.full else match bF n S.un with|none=>dk Rf.name|some _=>IX) else dk Rf.deed)=IX:=hc;split at h'
   . split at h'
     . cases h'
     . rename_i hf;cases hl:bF n S.un with
      |none=>rw[hl]at h';cases h'
      |some nm =>
        have e1:((Dd.ask wt).run (yp0 s R n) S).1=.int nm:=by
         show (match bF n S.un with|some nm=>_|none=>_:IV × YS).1=_;rw[hl]
        refine⟨[(.asked,nm,wt)],Jd _,?_,Q.q.ask hf hl,?_⟩
        . rw[e1];unfold Dd.hap;rw[Pa rfl];rfl
        . rw[ba,ba,dC (by decide),dC (by decide),Jw,Jw,ht.trans (Pa rfl)];exact tp
   . cases h'
 |collect =>
   by_cases h:au ⟨s,R,f'⟩ S.m (S.rs f') .answered .handed=0
   . have e1:Dd.collect.run (yp0 s R n) S=(.none,S):=Pa h;rw[e1]at stay |-;exact stay rfl Q.q (by unfold Dd.hap;rw[Pa rfl])
   . obtain⟨nw,_,e1,Q'⟩:=Q.q.collect h;refine⟨[(.handed,nw.1,nw.2)],Jd _,?_,Q',?_⟩
     . rw[e1];unfold Dd.hap;rw[Pa rfl];rfl
     . rw[ba,ba,dC (by decide),dC (by decide),Jw,Jw,ht.trans (Pa rfl)];exact tp
 |take =>
   by_cases h:au ⟨s,R,f'⟩ S.m (S.rs l') .asked .taken=0
   . have e1:Dd.take.run (yp0 s R n) S=(.none,S):=Pa h;rw[e1]at stay |-;exact stay rfl Q.q (by unfold Dd.hap;rw[Pa rfl])
   . obtain⟨nw,h1,e1,Q'⟩:=Q.q.take h;have M:=Q.q.m;unfold M30 at M;obtain⟨nw2,h2,_,_,h4,_,_⟩:=M8.takeR M (by rw[eB rfl rfl];exact h);rw[h1]at h2;cases h2;refine⟨[(.taken,nw.1,nw.2)],Jd _,?_,Q',?_⟩
     . rw[e1];unfold Dd.hap;rw[Pa rfl];rfl
     . rw[ba,ba,fZ,dC (by decide),Jw,ht,e1,C0];have g:i6 S.tk nw.1=S.tk++[nw.1]:=by unfold i6;rw[h4];rfl
       rw[g,J3,<-JA];exact KD _ tp
 |answer nm wt =>
   have h':(if S.bd l'=.up then (if S.tk.contains nm=f' then dk Rf.task else if au ⟨s,R,f'⟩ S.m (S.rs l') .answered .handed=s then dk Rf.full else IX) else dk Rf.deed)=IX:=hc;split at h'
   . split at h'
     . cases h'
     . rename_i hm;split at h'
       . cases h'
       . rename_i hf;refine⟨[(.answered,nm,wt)],Jd _,?_,Q.q.answer hm hf,?_⟩
         . unfold Dd.hap;rw[Pa rfl];rfl
         . rw[ba,ba,fZ,dC (by decide),Jw,ht,zf];show ((th .taken es).map (·.1)).Perm ((th .answered es++[(nm,wt)]).map (·.1)++S.tk.erase nm);have hm':nm∈S.tk:=contains_iff_mem.mp (by cases hh:S.tk.contains nm with|true=>rfl|false=>exact absurd hh hm);rw[J3,JA];exact tp.trans (Ln _ (List.perm_cons_erase hm'))
   . cases h'
 |bell b=>exact stay (ht.trans (Pa rfl)) (Q.q.rest (x:=.bell b) trivial) (by unfold Dd.hap;rw[Pa rfl])
 |lie b=>exact stay (ht.trans (Pa rfl)) (Q.q.rest (x:=.lie b) trivial) (by unfold Dd.hap;rw[Pa rfl])
 |look b=>exact stay (ht.trans (Pa rfl)) (Q.q.rest (x:=.look b) trivial) (by unfold Dd.hap;rw[Pa rfl])
 |drain b=>exact stay (ht.trans (Pa rfl)) (Q.q.rest (x:=.drain b) trivial) (by unfold Dd.hap;rw[Pa rfl])
end
def pl (c:Cn) (k:Int) (es:List Ev):List Nat:=(K8 es.length).filter λi=>match es[i]? with|some e=>decide (e.1=c) && decide (e.2.1=k)|none=>f'
def wo (es:List Ev) (i:Nat):Option Int:=(es[i]?).map (·.2.2)
def zP {c:Cn}{k:Int}{es:List Ev}{i:Nat}(h:i∈pl c k es):i < es.length:=mem_range.mp (Lh.mp h).1
def Ay (c:Cn) (k:Int) (es:List Ev) (e:Ev):pl c k (es++[e])=pl c k es++(if e.1=c/\e.2.1=k then [es.length] else []):=by
 unfold pl;rw[IT,List.length_singleton,List.range_succ,JU];congr 1
 . refine filter_congr λi hi=>?_
   rw[KA (mem_range.mp hi)]
 . rw[J0,JR (Jd _),Nat.sub_self];show (if (decide (e.1=c) && decide (e.2.1=k))=l' then _ else _)=_;by_cases h:e.1=c/\e.2.1=k
   . rw[Pa h,Pd h.1,Pd h.2];rfl
   . rw[Pb h,Pb]
     . rfl
     . rw[Kn,Pc,Pc];exact h
def n6 {es:List Ev}{e:Ev}{i:Nat}(h:i < es.length):wo (es++[e]) i=wo es i:=by unfold wo;rw[KA h]
def wq {es:List Ev}{e:Ev}:wo (es++[e]) es.length=dk e.2.2:=by unfold wo;rw[JR (Jd _),Nat.sub_self];rfl
def jl {p:List Nat}{N j y:Nat}(h:(p++[N])[j]?=dk y):p[j]?=dk y\/(j=p.length/\y=N):=by
 by_cases hj:j < p.length
 . rw[KA hj]at h;exact .inl h
 . rw[JR (by omega)]at h;have:j - p.length=0:=by
    have:=(Jp.mp h).1;rw[List.length_singleton]at this;omega
   rw[this]at h;cases h;exact .inr ⟨by omega,rfl⟩
def wG {p:List Nat}{j y:Nat}(h:p[j]?=dk y):j < p.length:=(Jp.mp h).1
structure Ord4 (pa pt pb ph:List Nat) (wo:Nat->Option Int):Prop where
 l1:pt.length <= pa.length
 l2:pb.length <= pt.length
 l3:ph.length <= pb.length
 l4:pa.length <= ph.length+1
 o1:∀ (j:Nat) x y,pa[j]?=dk x->pt[j]?=dk y->x < y/\wo x=wo y
 o2:∀ (j:Nat) x y,pt[j]?=dk x->pb[j]?=dk y->x < y
 o3:∀ (j:Nat) x y,pb[j]?=dk x->ph[j]?=dk y->x < y/\wo x=wo y
 o4:∀ (j:Nat) x y,ph[j]?=dk x->pa[j+1]?=dk y->x < y
section
variable {pa pt pb ph:List Nat}{wo wo':Nat->Option Int}{N:Nat}
def Ord4.nil:Ord4 [] [] [] [] wo:=⟨Jd _,Jd _,Jd _,Kq _,λj _ _ h=>by simp at h,λj _ _ h=>by simp at h,λj _ _ h=>by simp at h,λj _ _ h=>by simp at h⟩
def Blw (p:List Nat) (N:Nat):Prop:=∀ i∈p,i < N
def Blw.at' {p:List Nat}{j x:Nat}(h:Blw p N) (e:p[j]?=dk x):x < N:=h x (Ju e)
def Ord4.wos (O:Ord4 pa pt pb ph wo) (a:Blw pa N) (t:Blw pt N) (b:Blw pb N) (h:Blw ph N) (hw:∀ i < N,wo' i=wo i):Ord4 pa pt pb ph wo' :=
 ⟨O.l1,O.l2,O.l3,O.l4,λj x y e1 e2=>⟨(O.o1 j x y e1 e2).1,by rw[hw _ (a.at' e1),hw _ (t.at' e2)];exact(O.o1 j x y e1 e2).2⟩,O.o2,λj x y e1 e2=>⟨(O.o3 j x y e1 e2).1,by rw[hw _ (b.at' e1),hw _ (h.at' e2)];exact(O.o3 j x y e1 e2).2⟩,O.o4⟩
def Ord4.asked (O:Ord4 pa pt pb ph wo) (h:Blw ph N) (hl:pa.length <= ph.length):Ord4 (pa++[N]) pt pb ph wo:=by
 refine⟨by rw[IT];have:=O.l1;omega,O.l2,O.l3,by rw[IT];show _+1 <= _;omega,λj x y e1 e2=>?_,O.o2,O.o3,λj x y e1 e2=>?_⟩
 . rcases jl e1 with z|⟨z,_⟩
   . exact O.o1 j x y z e2
   . have:=wG e2;have:=O.l1;omega
 . rcases jl e2 with z|⟨_,z⟩
   . exact O.o4 j x y e1 z
   . rw[z];exact h.at' e1
def Ord4.taken (O:Ord4 pa pt pb ph wo) (a:Blw pa N) (hl:pt.length < pa.length) (hw:∀ x,pa[pt.length]?=dk x->wo x=wo N):Ord4 pa (pt++[N]) pb ph wo:=by
 refine⟨by rw[IT];show _+1 <= _;omega,by rw[IT];have:=O.l2;omega,O.l3,O.l4,λj x y e1 e2=>?_,λj x y e1 e2=>?_,O.o3,O.o4⟩
 . rcases jl e2 with z|⟨z1,z2⟩
   . exact O.o1 j x y e1 z
   . subst z1 z2;exact⟨a.at' e1,hw x e1⟩
 . rcases jl e1 with z|⟨z,_⟩
   . exact O.o2 j x y z e2
   . have:=wG e2;have:=O.l2;omega
def Ord4.answered (O:Ord4 pa pt pb ph wo) (t:Blw pt N) (hl:pb.length < pt.length):Ord4 pa pt (pb++[N]) ph wo:=by
 refine⟨O.l1,by rw[IT];show _+1 <= _;omega,by rw[IT];have:=O.l3;omega,O.l4,O.o1,λj x y e1 e2=>?_,λj x y e1 e2=>?_,O.o4⟩
 . rcases jl e2 with z|⟨z1,z2⟩
   . exact O.o2 j x y e1 z
   . rw[z2];exact t.at' e1
 . rcases jl e1 with z|⟨z,_⟩
   . exact O.o3 j x y z e2
   . have:=wG e2;have:=O.l3;omega
def Ord4.handed (O:Ord4 pa pt pb ph wo) (b:Blw pb N) (hl:ph.length < pb.length) (hw:∀ x,pb[ph.length]?=dk x->wo x=wo N):Ord4 pa pt pb (ph++[N]) wo:=by
 refine⟨O.l1,O.l2,by rw[IT];show _+1 <= _;omega,by rw[IT];have:=O.l4;omega,O.o1,O.o2,λj x y e1 e2=>?_,λj x y e1 e2=>?_⟩
 . rcases jl e2 with z|⟨z1,z2⟩
   . exact O.o3 j x y e1 z
   . subst z1 z2;exact⟨b.at' e1,hw x e1⟩
 . rcases jl e1 with z|⟨z,_⟩
   . exact O.o4 j x y z e2
   . have:=wG e2;have:=O.l4;omega
end
structure Lcn (k:Int) (es:List Ev) (S:YS):Prop where
 od:Ord4 (pl .asked k es) (pl .taken k es) (pl .answered k es) (pl .handed k es) (wo es)
 c0:k∈S.un->(pl .handed k es).length < (pl .asked k es).length
 c1:(pl .taken k es).length < (pl .asked k es).length->∃ w,(k,w)∈(th .asked es).drop (th .taken es).length/\∀ x,(pl .asked k es)[(pl .taken k es).length]?=dk x->wo es x=dk w
 c2:(pl .answered k es).length < (pl .taken k es).length->k∈S.tk
 c3:(pl .handed k es).length < (pl .answered k es).length->∃ w,(k,w)∈(th .answered es).drop (th .handed es).length/\∀ x,(pl .answered k es)[(pl .handed k es).length]?=dk x->wo es x=dk w
def cc (c:Cn) (k:Int) (es:List Ev):Blw (pl c k es) es.length:=λ_ h=>zP h
section
variable {s R:Int}{n:Nat}{S S':YS}{es:List Ev}
def Q31.ups (Q:Q31 s R n S es):S.un.Perm (((th .asked es).drop (th .taken es).length).map (·.1)++(S.tk++((th .answered es).drop (th .handed es).length).map (·.1))):=by
 have M:=Q.q.m;unfold M30 at M;exact M.pm
def mF {c:Cn}{k:Int}{e:Ev}(h:¬ (e.1=c/\e.2.1=k)):pl c k (es++[e])=pl c k es:=by rw[Ay,Pb h,Jw]
def Cj {c:Cn}{k:Int}{e:Ev}(h:e.1=c/\e.2.1=k):pl c k (es++[e])=pl c k es++[es.length]:=by rw[Ay,Pa h]
def dQ {k c:Cn}{a b:Int}(h:c≠k):th k (es++[(c,a,b)])=th k es:=by rw[ba,dC h,Jw]
def kj {k:Cn}{a b:Int}:th k (es++[(k,a,b)])=th k es++[(a,b)]:=by rw[ba,fZ]
def Lcn.mem (Q:Q31 s R n S es) {k:Int}(L:Lcn k es S) (h:(pl .handed k es).length < (pl .asked k es).length):k∈S.un:=by
 rw[Q.ups.mem_iff];by_cases h1:(pl .taken k es).length < (pl .asked k es).length
 . obtain⟨w,hw,_⟩:=L.c1 h1;exact JB.mpr (.inl (Kr.mpr ⟨_,hw,rfl⟩))
 . by_cases h2:(pl .answered k es).length < (pl .taken k es).length
   . exact JB.mpr (.inr (JB.mpr (.inl (L.c2 h2))))
   . obtain⟨w,hw,_⟩:=L.c3 (by omega);exact JB.mpr (.inr (JB.mpr (.inr (Kr.mpr ⟨_,hw,rfl⟩))))
theorem Lcn.nil (k:Int):Lcn k [] YS.zero:=⟨Ord4.nil,λh=>(by cases h),λh=>(by cases h),λh=>(by cases h),λh=>(by cases h)⟩
def Lcn.other (Q:Q31 s R n S es) {e:Ev}(Q':Q31 s R n S' (es++[e])) {k:Int}(L:Lcn k es S) (hk:e.2.1≠k) (hu:k∈S'.un->k∈S.un) (ht:k∈S.tk->k∈S'.tk):Lcn k (es++[e]) S':=by
 have ne:∀ c,pl c k (es++[e])=pl c k es:=λc=>mF λh=>hk h.2
 have wok:∀ {c:Cn} {j x:Nat} {w:Option Int},(pl c k es)[j]?=dk x->wo es x=w->wo (es++[e]) x=w:=λ{c j x w} h1 h2=>by rw[n6 (zP (Ju h1))];exact h2
 refine⟨?_,?_,?_,?_,?_⟩
 . rw[ne,ne,ne,ne];exact L.od.wos (cc _ _ _) (cc _ _ _) (cc _ _ _) (cc _ _ _) λi hi=>n6 hi
 . rw[ne,ne];exact λh=>L.c0 (hu h)
 . rw[ne,ne];intro h;obtain⟨w,hw,hx⟩:=L.c1 h;refine⟨w,?_,λx hx'=>wok hx' (hx x hx')⟩;obtain⟨c,a,b⟩:=e;by_cases e1:c=.asked
   . subst e1;have hT:(th .taken es).length <= (th .asked es).length:=by have:=congrArg Kz Q.q.tk;rw[JK]at this;omega
     rw[kj,dQ (by decide),JV hT];exact JB.mpr (.inl hw)
   . by_cases e2:c=.taken
     . subst e2;have hq:=Q'.q.tk;rw[kj,dQ (by decide),IT]at hq |-;have hlt:(th .taken es).length < (th .asked es).length:=by
        have:=congrArg Kz hq;rw[IT,JK]at this;have h1:[(a,b)].length=1:=rfl;omega
       rw[KS hlt]at hw;rcases Jx.mp hw with z|z
       . have h2:(th .taken es++[(a,b)])[(th .taken es).length]?=dk (a,b):=by rw[JR (Jd _),Nat.sub_self];rfl
         rw[hq,getElem?_take,Pa (by show _ < _+1;omega),Jb hlt]at h2;rw[Jt h2]at z;exact absurd (congrArg Prod.fst z).symm hk
       . exact z
     . rw[dQ e1,dQ e2];exact hw
 . rw[ne,ne];exact λh=>ht (L.c2 h)
 . rw[ne,ne];intro h;obtain⟨w,hw,hx⟩:=L.c3 h;refine⟨w,?_,λx hx'=>wok hx' (hx x hx')⟩;obtain⟨c,a,b⟩:=e;by_cases e1:c=.answered
   . subst e1;have hT:(th .handed es).length <= (th .answered es).length:=by have:=congrArg Kz Q.q.hd;rw[JK]at this;omega
     rw[kj,dQ (by decide),JV hT];exact JB.mpr (.inl hw)
   . by_cases e2:c=.handed
     . subst e2;have hq:=Q'.q.hd;rw[kj,dQ (by decide),IT]at hq |-;have hlt:(th .handed es).length < (th .answered es).length:=by
        have:=congrArg Kz hq;rw[IT,JK]at this;have h1:[(a,b)].length=1:=rfl;omega
       rw[KS hlt]at hw;rcases Jx.mp hw with z|z
       . have h2:(th .handed es++[(a,b)])[(th .handed es).length]?=dk (a,b):=by rw[JR (Jd _),Nat.sub_self];rfl
         rw[hq,getElem?_take,Pa (by show _ < _+1;omega),Jb hlt]at h2;rw[Jt h2]at z;exact absurd (congrArg Prod.fst z).symm hk
       . exact z
     . rw[dQ e1,dQ e2];exact hw
structure Q32 (s R:Int) (n:Nat) (S:YS) (es:List Ev):Prop where
 q:Q31 s R n S es
 l:∀ k,Lcn k es S
theorem Q32.zero (hs:0 < s) (hs8:s <= 8) (hR:2 <= R) (n9:n <= 9):Q32 s R n YS.zero []:=⟨Q31.zero hs hs8 hR n9,Lcn.nil⟩
def Q31.nd (Q:Q31 s R n S es):(((th .asked es).drop (th .taken es).length).map (·.1)++(S.tk++((th .answered es).drop (th .handed es).length).map (·.1))).Nodup:=Q.ups.nodup_iff.mp Q.und.1
def Q32.quiet (Q:Q32 s R n S es) (Q':Q31 s R n S' es):Q32 s R n S' es:=by
 have pk:S'.tk.Perm S.tk:=(JQ _).mp (Q'.tp.symm.trans Q.q.tp);have pu:S'.un.Perm S.un:=(JQ _).mp (Q'.pu.symm.trans Q.q.pu);exact⟨Q',λk=>⟨(Q.l k).od,λh=>(Q.l k).c0 (pu.mem_iff.mp h),(Q.l k).c1,λh=>pk.mem_iff.mpr ((Q.l k).c2 h),(Q.l k).c3⟩⟩
def iG {α:Type}{a b:List α}{x:α}(h:(a++b).Nodup) (ha:x∈a) (hb:x∈b):False:=(nodup_append.mp h).2.2 x ha x hb rfl
theorem Q32.asked (Q:Q32 s R n S es) {nm wt:Int}(Q':Q31 s R n S' (es++[(.asked,nm,wt)])):Q32 s R n S' (es++[(.asked,nm,wt)]):=by
 have e1:th .taken (es++[(.asked,nm,wt)])=th .taken es:=dQ (by decide);have e2:th .answered (es++[(.asked,nm,wt)])=th .answered es:=dQ (by decide);have e3:th .handed (es++[(.asked,nm,wt)])=th .handed es:=dQ (by decide);have e4:th .asked (es++[(.asked,nm,wt)])=th .asked es++[(nm,wt)]:=kj;have hT:(th .taken es).length <= (th .asked es).length:=by have:=congrArg Kz Q.q.q.tk;rw[JK]at this;omega
 have pk:S'.tk.Perm S.tk:=by have h:=Q'.tp;rw[e1,e2]at h;exact(JQ _).mp (h.symm.trans Q.q.tp)
 have pu:S'.un.Perm (S.un++[nm]):=by
  have h:=Q'.pu;rw[e3,e4,J3]at h;have h2:((th .asked es).map (·.1)++[nm]).Perm ((th .handed es).map (·.1)++(S.un++[nm])):=by rw[<-JA];exact KD _ Q.q.pu
  exact(JQ _).mp (h.symm.trans h2)
 have nin:nm ∉ S.un:=λz=>by
  have nd:=pu.nodup_iff.mp Q'.und.1;exact iG nd z (IW.mpr rfl)
 refine⟨Q',λk=>?_⟩;by_cases hk:nm=k
 . subst hk;have L:=Q.l nm;have hl:(pl .asked nm es).length <= (pl .handed nm es).length:=by
    rcases Nat.lt_or_ge (pl .handed nm es).length (pl .asked nm es).length with z|z
    . exact absurd (L.mem Q.q z) nin
    . exact z
   have o:=L.od;have ll1:=o.l1;have ll2:=o.l2;have ll3:=o.l3;have p1:pl .asked nm (es++[(.asked,nm,wt)])=pl .asked nm es++[es.length]:=Cj ⟨rfl,rfl⟩;have p2:pl .taken nm (es++[(.asked,nm,wt)])=pl .taken nm es:=mF λh=>by cases h.1
   have p3:pl .answered nm (es++[(.asked,nm,wt)])=pl .answered nm es:=mF λh=>by cases h.1
   have p4:pl .handed nm (es++[(.asked,nm,wt)])=pl .handed nm es:=mF λh=>by cases h.1
   refine⟨?_,?_,?_,?_,?_⟩
   . rw[p1,p2,p3,p4];exact(o.wos (cc _ _ _) (cc _ _ _) (cc _ _ _) (cc _ _ _) λi hi=>n6 hi).asked (cc _ _ _) hl
   . rw[p1,p4,IT];intro _;show _ < _+1;omega
   . rw[p1,p2,e4,e1,JV hT];intro _;refine⟨wt,JB.mpr (.inr (IW.mpr rfl)),λx hx=>?_⟩;have:(pl .taken nm es).length=(pl .asked nm es).length:=by omega
     rw[this,JR (Jd _),Nat.sub_self]at hx;cases hx;exact wq
   . rw[p2,p3];intro h;omega
   . rw[p3,p4];intro h;omega
 . exact(Q.l k).other Q.q Q' hk (λh=>by
    rcases JB.mp (pu.mem_iff.mp h) with z|z
    . exact z
    . exact absurd (IW.mp z).symm hk) (λh=>pk.mem_iff.mpr h)
theorem Q32.taken (Q:Q32 s R n S es) {nm wt:Int}(Q':Q31 s R n S' (es++[(.taken,nm,wt)])):Q32 s R n S' (es++[(.taken,nm,wt)]):=by
 have e1:th .taken (es++[(.taken,nm,wt)])=th .taken es++[(nm,wt)]:=kj;have e2:th .answered (es++[(.taken,nm,wt)])=th .answered es:=dQ (by decide);have e3:th .handed (es++[(.taken,nm,wt)])=th .handed es:=dQ (by decide);have e4:th .asked (es++[(.taken,nm,wt)])=th .asked es:=dQ (by decide);have hq:=Q'.q.tk;rw[e1,e4,IT]at hq;have hlt:(th .taken es).length < (th .asked es).length:=by
  have:=congrArg Kz hq;rw[IT,JK]at this;have h1:[(nm,wt)].length=1:=rfl;omega
 have hA:(th .asked es)[(th .taken es).length]=(nm,wt):=by
  have h2:(th .taken es++[(nm,wt)])[(th .taken es).length]?=dk (nm,wt):=by rw[JR (Jd _),Nat.sub_self];rfl
  rw[hq,getElem?_take,Pa (by show _ < _+1;omega),Jb hlt]at h2;exact Jt h2
 have hd:(th .asked es).drop (th .taken es).length=(nm,wt) :: (th .asked es).drop ((th .taken es).length+1):=by rw[KS hlt,hA]
 have pk:S'.tk.Perm (S.tk++[nm]):=by
  have h:=Q'.tp;rw[e1,e2,J3]at h;have h2:((th .taken es).map (·.1)++[nm]).Perm ((th .answered es).map (·.1)++(S.tk++[nm])):=by rw[<-JA];exact KD _ Q.q.tp
  exact(JQ _).mp (h.symm.trans h2)
 have pu:S'.un.Perm S.un:=by have h:=Q'.pu;rw[e3,e4]at h;exact(JQ _).mp (h.symm.trans Q.q.pu)
 have nd:=Q.q.nd;have inA:nm∈((th .asked es).drop (th .taken es).length).map (·.1):=by rw[hd];exact Jg
 refine⟨Q',λk=>?_⟩;by_cases hk:nm=k
 . subst hk;have L:=Q.l nm;have o:=L.od;have inU:nm∈S.un:=Q.q.ups.mem_iff.mpr (JB.mpr (.inl inA));have h0:=L.c0 inU;have ll1:=o.l1;have ll2:=o.l2;have ll3:=o.l3;have ll4:=o.l4;have b1:¬ (pl .answered nm es).length < (pl .taken nm es).length:=λz=>iG nd inA (JB.mpr (.inl (L.c2 z)))
   have b2:¬ (pl .handed nm es).length < (pl .answered nm es).length:=λz=>by
    obtain⟨w,hw,_⟩:=L.c3 z;exact iG nd inA (JB.mpr (.inr (Kr.mpr ⟨_,hw,rfl⟩)))
   have hta:(pl .taken nm es).length < (pl .asked nm es).length:=by omega
   obtain⟨w,hw,hx⟩:=L.c1 hta;have hwt:w=wt:=by
    rw[hd]at hw;rcases Jx.mp hw with z|z
    . exact congrArg Prod.snd z
    . have nd1:=(nodup_append.mp nd).1;rw[hd,J1]at nd1;exact absurd (Kr.mpr ⟨_,z,rfl⟩) (KG.mp nd1).1
   subst hwt;have p1:pl .asked nm (es++[(.taken,nm,w)])=pl .asked nm es:=mF λh=>by cases h.1
   have p2:pl .taken nm (es++[(.taken,nm,w)])=pl .taken nm es++[es.length]:=Cj ⟨rfl,rfl⟩;have p3:pl .answered nm (es++[(.taken,nm,w)])=pl .answered nm es:=mF λh=>by cases h.1
   have p4:pl .handed nm (es++[(.taken,nm,w)])=pl .handed nm es:=mF λh=>by cases h.1
   refine⟨?_,?_,?_,?_,?_⟩
   . rw[p1,p2,p3,p4];refine(o.wos (cc _ _ _) (cc _ _ _) (cc _ _ _) (cc _ _ _) λi hi=>n6 hi).taken (cc _ _ _) hta λx hx'=>?_
     rw[n6 (zP (Ju hx')),wq];exact hx x hx'
   . rw[p1,p4];exact λ_=>h0
   . rw[p1,p2,IT];intro h;have:[es.length].length=1:=rfl;omega
   . intro _;exact pk.mem_iff.mpr (JB.mpr (.inr (IW.mpr rfl)))
   . rw[p3,p4];intro h;exact absurd h b2
 . exact(Q.l k).other Q.q Q' hk (λh=>pu.mem_iff.mp h) (λh=>pk.mem_iff.mpr (JB.mpr (.inl h)))
theorem Q32.answered (Q:Q32 s R n S es) {nm wt:Int}(Q':Q31 s R n S' (es++[(.answered,nm,wt)])):Q32 s R n S' (es++[(.answered,nm,wt)]):=by
 have e1:th .taken (es++[(.answered,nm,wt)])=th .taken es:=dQ (by decide);have e2:th .answered (es++[(.answered,nm,wt)])=th .answered es++[(nm,wt)]:=kj;have e3:th .handed (es++[(.answered,nm,wt)])=th .handed es:=dQ (by decide);have e4:th .asked (es++[(.answered,nm,wt)])=th .asked es:=dQ (by decide);have hT:(th .handed es).length <= (th .answered es).length:=by have:=congrArg Kz Q.q.q.hd;rw[JK]at this;omega
 have pk:S.tk.Perm (nm :: S'.tk):=by
  have h:=Q'.tp;rw[e1,e2,J3,JA]at h;exact(JQ _).mp (Q.q.tp.symm.trans h)
 have pu:S'.un.Perm S.un:=by have h:=Q'.pu;rw[e3,e4]at h;exact(JQ _).mp (h.symm.trans Q.q.pu)
 have nd:=Q.q.nd;have inT:nm∈S.tk:=pk.mem_iff.mpr Jg;refine⟨Q',λk=>?_⟩;by_cases hk:nm=k
 . subst hk;have L:=Q.l nm;have o:=L.od;have inU:nm∈S.un:=Q.q.ups.mem_iff.mpr (JB.mpr (.inr (JB.mpr (.inl inT))));have h0:=L.c0 inU;have ll1:=o.l1;have ll2:=o.l2;have ll3:=o.l3;have ll4:=o.l4;have b1:¬ (pl .taken nm es).length < (pl .asked nm es).length:=λz=>by
    obtain⟨w,hw,_⟩:=L.c1 z;exact iG nd (Kr.mpr ⟨_,hw,rfl⟩) (JB.mpr (.inl inT))
   have b2:¬ (pl .handed nm es).length < (pl .answered nm es).length:=λz=>by
    obtain⟨w,hw,_⟩:=L.c3 z;exact iG (nodup_append.mp nd).2.1 inT (Kr.mpr ⟨_,hw,rfl⟩)
   have hta:(pl .answered nm es).length < (pl .taken nm es).length:=by omega
   have p1:pl .asked nm (es++[(.answered,nm,wt)])=pl .asked nm es:=mF λh=>by cases h.1
   have p2:pl .taken nm (es++[(.answered,nm,wt)])=pl .taken nm es:=mF λh=>by cases h.1
   have p3:pl .answered nm (es++[(.answered,nm,wt)])=pl .answered nm es++[es.length]:=Cj ⟨rfl,rfl⟩;have p4:pl .handed nm (es++[(.answered,nm,wt)])=pl .handed nm es:=mF λh=>by cases h.1
   refine⟨?_,?_,?_,?_,?_⟩
   . rw[p1,p2,p3,p4];exact(o.wos (cc _ _ _) (cc _ _ _) (cc _ _ _) (cc _ _ _) λi hi=>n6 hi).answered (cc _ _ _) hta
   . rw[p1,p4];exact λ_=>h0
   . rw[p1,p2];intro h;exact absurd h b1
   . rw[p2,p3,IT];intro h;have:[es.length].length=1:=rfl;omega
   . rw[p3,p4,e2,e3,JV hT];intro _;refine⟨wt,JB.mpr (.inr (IW.mpr rfl)),λx hx=>?_⟩;have:(pl .handed nm es).length=(pl .answered nm es).length:=by omega
     rw[this,JR (Jd _),Nat.sub_self]at hx;cases hx;exact wq
 . exact(Q.l k).other Q.q Q' hk (λh=>pu.mem_iff.mp h) (λh=>by
    rcases Jx.mp (pk.mem_iff.mp h) with z|z
    . exact absurd z.symm hk
    . exact z)
theorem Q32.handed (Q:Q32 s R n S es) {nm wt:Int}(Q':Q31 s R n S' (es++[(.handed,nm,wt)])):Q32 s R n S' (es++[(.handed,nm,wt)]):=by
 have e1:th .taken (es++[(.handed,nm,wt)])=th .taken es:=dQ (by decide);have e2:th .answered (es++[(.handed,nm,wt)])=th .answered es:=dQ (by decide);have e3:th .handed (es++[(.handed,nm,wt)])=th .handed es++[(nm,wt)]:=kj;have e4:th .asked (es++[(.handed,nm,wt)])=th .asked es:=dQ (by decide);have hq:=Q'.q.hd;rw[e3,e2,IT]at hq;have hlt:(th .handed es).length < (th .answered es).length:=by
  have:=congrArg Kz hq;rw[IT,JK]at this;have h1:[(nm,wt)].length=1:=rfl;omega
 have hA:(th .answered es)[(th .handed es).length]=(nm,wt):=by
  have h2:(th .handed es++[(nm,wt)])[(th .handed es).length]?=dk (nm,wt):=by rw[JR (Jd _),Nat.sub_self];rfl
  rw[hq,getElem?_take,Pa (by show _ < _+1;omega),Jb hlt]at h2;exact Jt h2
 have hd:(th .answered es).drop (th .handed es).length=(nm,wt) :: (th .answered es).drop ((th .handed es).length+1):=by rw[KS hlt,hA]
 have pk:S'.tk.Perm S.tk:=by have h:=Q'.tp;rw[e1,e2]at h;exact(JQ _).mp (h.symm.trans Q.q.tp)
 have pu:S.un.Perm (nm :: S'.un):=by
  have h:=Q'.pu;rw[e3,e4,J3,JA]at h;exact(JQ _).mp (Q.q.pu.symm.trans h)
 have nd:=Q.q.nd;have inB:nm∈((th .answered es).drop (th .handed es).length).map (·.1):=by rw[hd];exact Jg
 refine⟨Q',λk=>?_⟩;by_cases hk:nm=k
 . subst hk;have L:=Q.l nm;have o:=L.od;have inU:nm∈S.un:=pu.mem_iff.mpr Jg;have h0:=L.c0 inU;have ll1:=o.l1;have ll2:=o.l2;have ll3:=o.l3;have ll4:=o.l4;have b1:¬ (pl .taken nm es).length < (pl .asked nm es).length:=λz=>by
    obtain⟨w,hw,_⟩:=L.c1 z;exact iG nd (Kr.mpr ⟨_,hw,rfl⟩) (JB.mpr (.inr inB))
   have b2:¬ (pl .answered nm es).length < (pl .taken nm es).length:=λz=>iG (nodup_append.mp nd).2.1 (L.c2 z) inB
   have hta:(pl .handed nm es).length < (pl .answered nm es).length:=by omega
   obtain⟨w,hw,hx⟩:=L.c3 hta;have hwt:w=wt:=by
    rw[hd]at hw;rcases Jx.mp hw with z|z
    . exact congrArg Prod.snd z
    . have nd1:=(nodup_append.mp (nodup_append.mp nd).2.1).2.1;rw[hd,J1]at nd1;exact absurd (Kr.mpr ⟨_,z,rfl⟩) (KG.mp nd1).1
   subst hwt;have p1:pl .asked nm (es++[(.handed,nm,w)])=pl .asked nm es:=mF λh=>by cases h.1
   have p2:pl .taken nm (es++[(.handed,nm,w)])=pl .taken nm es:=mF λh=>by cases h.1
   have p3:pl .answered nm (es++[(.handed,nm,w)])=pl .answered nm es:=mF λh=>by cases h.1
   have p4:pl .handed nm (es++[(.handed,nm,w)])=pl .handed nm es++[es.length]:=Cj ⟨rfl,rfl⟩;refine⟨?_,?_,?_,?_,?_⟩
   . rw[p1,p2,p3,p4];refine(o.wos (cc _ _ _) (cc _ _ _) (cc _ _ _) (cc _ _ _) λi hi=>n6 hi).handed (cc _ _ _) hta λx hx'=>?_
     rw[n6 (zP (Ju hx')),wq];exact hx x hx'
   . intro h;have nd2:=pu.nodup_iff.mp Q.q.und.1;exact absurd h (KG.mp nd2).1
   . rw[p1,p2];intro h;exact absurd h b1
   . rw[p2,p3];intro h;exact absurd h b2
   . rw[p3,p4,IT];intro h;have:[es.length].length=1:=rfl;omega
 . exact(Q.l k).other Q.q Q' hk (λh=>pu.mem_iff.mpr (Jh _ h)) (λh=>pk.mem_iff.mpr h)
def Gh {x:Dd}{key:Str}{d:IV}{e:Ev}(h:x.hap key d=[evD e]):e.1=.asked\/e.1=.taken\/e.1=.answered\/e.1=.handed:=by
 have mR:∀ {wd:Str} {d1 d2:IV},[lU wd d1 d2]=[evD e]->wd=e.1.key:=λh=>by
  injection h with h
  unfold evD lU at h;injection h with h
  injection h with h
  injection h
 have go:∀ {wd:Str},wd=e.1.key->(wd="asked"\/wd="taken"\/wd="answered"\/wd="handed")->e.1=.asked\/e.1=.taken\/e.1=.answered\/e.1=.handed:=λ{wd} h1 h2=>by
  rw[h1]at h2;revert h2;cases e.1 with
 |asked=>exact λ_=>.inl rfl
 |taken=>exact λ_=>.inr (.inl rfl)
 |answered=>exact λ_=>.inr (.inr (.inl rfl))
 |handed=>exact λ_=>.inr (.inr (.inr rfl))
 |hs=>exact λh2=>absurd h2 (by decide +kernel)
 |ts=>exact λh2=>absurd h2 (by decide +kernel)
 unfold Dd.hap at h;split at h
 . split at h
   . exact go (mR h) (.inl rfl)
   . exact go (mR h) (.inr (.inr (.inl rfl)))
   . split at h
     . cases h
     . exact go (mR h) (.inr (.inl rfl))
   . split at h
     . cases h
     . exact go (mR h) (.inr (.inr (.inr rfl)))
   . cases h
 . cases h
theorem Q32.out (Q:Q32 s R n S es) (x:Dd):∃ fs:List Ev,fs.length <= 1/\x.hap (x.out (yp0 s R n) S).1 (x.out (yp0 s R n) S).2.1=fs.map evD/\Q32 s R n (x.out (yp0 s R n) S).2.2 (es++fs):=by
 obtain⟨fs,h1,h2,Q'⟩:=Q.q.out x;refine⟨fs,h1,h2,?_⟩;cases fs with
|nil=>rw[Jw]at Q' |-;exact Q.quiet Q'
|cons e r =>
  obtain⟨c,nm,wt⟩:=e;cases r with
 |nil =>
   rcases Gh h2 with z|z|z|z
   . cases z;exact Q.asked Q'
   . cases z;exact Q.taken Q'
   . cases z;exact Q.answered Q'
   . cases z;exact Q.handed Q'
 |cons e' r'=>exact absurd (Nat.le_of_succ_le_succ h1) (Nat.not_succ_le_zero _)
def Q32.done (Q:Q32 s R n S es) (h:S.un=[]) (k:Int):(pl .taken k es).length=(pl .asked k es).length/\(pl .answered k es).length=(pl .asked k es).length/\(pl .handed k es).length=(pl .asked k es).length:=by
 have L:=Q.l k;have o:=L.od;have ll1:=o.l1;have ll2:=o.l2;have ll3:=o.l3;have:¬ (pl .handed k es).length < (pl .asked k es).length:=λz=>by have:=L.mem Q.q z;rw[h]at this;cases this
 omega
end
structure Zz (S:YS):Prop where
 ow:oh S.rs
 sl:∀ b,S.bd b≠.up->S.m.c (bM b)=1/\∀ x∈S.rs b,∀ i,x≠.c (bM b) i
theorem Zz.zero:Zz YS.zero:=⟨oh.zero,λb h=>absurd rfl h⟩
section
variable {s R:Int}{n:Nat}{S T:YS}{es:List Ev}
def Zz.work (Z:Zz S) (sd:Bool) (h1:T.bd=S.bd) (h2:T.m=S.m) (h3:T.rs (!sd)=S.rs (!sd)) (h4:S.bd sd=.up) (ow:oh T.rs):Zz T:=⟨ow,λb hb=>by
 rw[h1]at hb;have:b=!sd:=by cases b<;>cases sd<;>first|rfl|exact absurd h4 hb
 subst this;rw[h2,h3];exact Z.sl _ hb⟩
def Cz {m:Mem}{x:Wr}{k:Cn}(h:∀ i,x≠.c k i):(m.put x).c k=m.c k:=by
 show (x.cnt k).getD (m.c k)=_;cases hx:x.cnt k with
|none=>rfl
|some i=>exact absurd (Wr.cnt_some hx) (h i)
def BO {q:YP}(x:Dd) (h:x.lays≠IX\/x.ftc):(x.out q S).2.2.m=S.m/\(x.out q S).2.2.bd=S.bd/\(x.out q S).2.2.rs (!x.side)=S.rs (!x.side):=by
 cases hc:x.chk q S with
|some r=>rw[Dd.out_some hc];exact⟨rfl,rfl,rfl⟩
|none =>
  rw[Dd.out_none hc];cases x with
 |ask wt =>
   unfold Dd.run;cases bF q.n S.un with
  |none=>exact⟨rfl,rfl,rfl⟩
  |some nm=>exact⟨rfl,rfl,rfl⟩
 |collect =>
   unfold Dd.run;by_cases h:au q.p S.m (S.rs f') .answered .handed=0
   . rw[Pa h];exact⟨rfl,rfl,rfl⟩
   . rw[Pb h];cases rdP S.m (S.rs f') l' (rdC S.m (S.rs f') .handed % q.p.s) with
    |none=>exact⟨rfl,rfl,rfl⟩
    |some nw=>exact⟨rfl,rfl,rfl⟩
 |take =>
   unfold Dd.run;by_cases h:au q.p S.m (S.rs l') .asked .taken=0
   . rw[Pa h];exact⟨rfl,rfl,rfl⟩
   . rw[Pb h];cases rdP S.m (S.rs l') f' (rdC S.m (S.rs l') .taken % q.p.s) with
    |none=>exact⟨rfl,rfl,rfl⟩
    |some nw=>exact⟨rfl,rfl,rfl⟩
 |answer nm wt=>exact⟨rfl,rfl,rfl⟩
 |bell b=>exact(h.elim (λz=>absurd rfl z) id).elim
 |lie b=>exact(h.elim (λz=>absurd rfl z) id).elim
 |look b=>exact(h.elim (λz=>absurd rfl z) id).elim
 |drain b=>exact(h.elim (λz=>absurd rfl z) id).elim
theorem Zz.out (Z:Zz S) (x:Dd):Zz (x.out (yp0 s R n) S).2.2:=by
 have ow:=En (q:=yp0 s R n) Z.ow x;have nb:∀ b:Bool,(!b)≠b:=λb=>by cases b<;>decide
 cases hc:x.chk (yp0 s R n) S with
|some r=>rw[Dd.out_some hc];exact Z
|none =>
  have wk:(x.lays≠IX\/x.ftc)->S.bd x.side=.up->Zz (x.out (yp0 s R n) S).2.2:=λh1 h2=>by
   obtain⟨a,b,c⟩:=BO (q:=yp0 s R n) (S:=S) x h1;exact Z.work x.side b a c h2 ow
  cases x with
 |ask wt =>
   refine wk (.inl (by intro z;cases z)) ?_;by_cases h:S.bd f'=.up
   . exact h
   . rw[show (Dd.ask wt).chk (yp0 s R n) S=dk .deed from Pb h]at hc;cases hc
 |collect =>
   refine wk (.inr trivial) ?_;by_cases h:S.bd f'=.up
   . exact h
   . rw[show Dd.collect.chk (yp0 s R n) S=dk .deed from Pb h]at hc;cases hc
 |take =>
   refine wk (.inr trivial) ?_;by_cases h:S.bd l'=.up
   . exact h
   . rw[show Dd.take.chk (yp0 s R n) S=dk .deed from Pb h]at hc;cases hc
 |answer nm wt =>
   refine wk (.inl (by intro z;cases z)) ?_;by_cases h:S.bd l'=.up
   . exact h
   . rw[show (Dd.answer nm wt).chk (yp0 s R n) S=dk .deed from Pb h]at hc;cases hc
 |drain b =>
   rw[Dd.out_none hc]at ow |-;cases e:S.rs b with
  |nil=>rw[show (Dd.drain b).chk (yp0 s R n) S=dk .deed from Pa e]at hc;cases hc
  |cons x rest =>
    rw[(ui (q:=yp0 s R n) e).2]at ow |-;refine⟨ow,λc h=>?_⟩;obtain⟨h1,h2⟩:=Z.sl c h;have hx:x∈S.rs b:=by rw[e];exact Jg
    by_cases hcb:c=b
    . subst hcb;refine⟨?_,λy hy=>h2 y ?_⟩
      . show (S.m.put x).c (bM c)=1;rw[Cz (h2 x hx)];exact h1
      . have hy':y∈aF S.rs c rest c:=hy;rw[ap]at hy';rw[e];exact Jh _ hy'
    . have:c=!b:=by cases b<;>cases c<;>first|rfl|exact absurd rfl hcb
      subst this;refine⟨?_,λy hy=>h2 y ?_⟩
      . show (S.m.put x).c (bM (!b))=1;rw[Cz (Z.ow b x hx)];exact h1
      . have hy':y∈aF S.rs b rest (!b):=hy;rw[aG (nb b)]at hy';exact hy'
 |lie b =>
   rw[Dd.out_none hc]at ow |-;refine⟨ow,λc h=>?_⟩;have e:(Dd.lie b).run (yp0 s R n) S=(.none,{ (S.wr b (.c (bM b) 1)).fence b with bd:=aF S.bd b .lies }):=rfl;rw[e]at h |-;have em:((S.wr b (.c (bM b) 1)).fence b).m=S.m.putAllY (S.rs b++[.c (bM b) 1]):=by show S.m.putAllY (aF S.rs b _ b)=_;rw[ap]
   by_cases hcb:c=b
   . subst hcb;refine⟨?_,λy hy=>?_⟩
     . show ((S.wr c (.c (bM c) 1)).fence c).m.c (bM c)=1;rw[em];exact pz
     . have hy':y∈aF (aF S.rs c (S.rs c++[.c (bM c) 1])) c [] c:=hy;rw[ap]at hy';cases hy'
   . have:c=!b:=by cases b<;>cases c<;>first|rfl|exact absurd rfl hcb
     subst this;have hb:S.bd (!b)≠.up:=by
      have h':aF S.bd b .lies (!b)≠.up:=h;rw[aG (nb b)]at h';exact h'
     obtain⟨h1,h2⟩:=Z.sl _ hb;refine⟨?_,λy hy=>h2 y ?_⟩
     . show ((S.wr b (.c (bM b) 1)).fence b).m.c (bM (!b))=1;rw[em,nM]
       . exact h1
       . intro y hy i z;rcases JB.mp hy with w|w
         . exact Z.ow b y w i z
         . rw[IW.mp w]at z;injection z with z
           exact uq b z
     . have hy':y∈aF (aF S.rs b (S.rs b++[.c (bM b) 1])) b [] (!b):=hy;rw[aG (nb b),aG (nb b)]at hy';exact hy'
 |look b =>
   rw[Dd.out_none hc]at ow |-;refine⟨ow,λc h=>?_⟩;by_cases hh:(yp0 s R n).fk=l'/\swT (yp0 s R n) S b=l'
   . have e:(Dd.look b).run (yp0 s R n) S=(.bool l',{ (S.wr b (.c (bM b) 0)) with bd:=aF S.bd b .up }):=Pa hh;rw[e]at h |-;have hcb:c≠b:=λz=>by subst z;exact h (show aF S.bd c .up c=.up from ap)
     have:c=!b:=by cases b<;>cases c<;>first|rfl|exact absurd rfl hcb
     subst this;have hb:S.bd (!b)≠.up:=by
      have h':aF S.bd b .up (!b)≠.up:=h;rw[aG (nb b)]at h';exact h'
     obtain⟨h1,h2⟩:=Z.sl _ hb;refine⟨h1,λy hy=>h2 y ?_⟩;have hy':y∈aF S.rs b (S.rs b++[.c (bM b) 0]) (!b):=hy;rw[aG (nb b)]at hy';exact hy'
   . have e:(Dd.look b).run (yp0 s R n) S=(.bool f',{ S with bd:=aF S.bd b .asleep }):=Pb hh;rw[e]at h |-;have hl:S.bd b=.lies:=by
      by_cases hl:S.bd b=.lies
      . exact hl
      . rw[show (Dd.look b).chk (yp0 s R n) S=dk .deed from Pb hl]at hc;cases hc
     refine Z.sl c ?_;by_cases hcb:c=b
     . rw[hcb,hl];intro z;cases z
     . have h':aF S.bd b .asleep c≠.up:=h;rw[aG hcb]at h';exact h'
 |bell b =>
   rw[Dd.out_none hc]at ow |-;have hup:S.bd b=.up:=by
    by_cases h:S.bd b=.up
    . exact h
    . rw[show (Dd.bell b).chk (yp0 s R n) S=dk .deed from Pb h]at hc;cases hc
   have Z1:Zz { S.fence b with qt:=aF (S.fence b).qt b l' }:=by
    refine⟨Z.ow.row λ_ hx=>absurd hx JW,λc h=>?_⟩;have h':S.bd c≠.up:=h;have:c=!b:=by cases b<;>cases c<;>first|rfl|exact absurd hup h'
    subst this;obtain⟨h1,h2⟩:=Z.sl _ h';refine⟨?_,λy hy=>h2 y ?_⟩
    . show (S.m.putAllY (S.rs b)).c (bM (!b))=1;rw[nM λy hy i=>Z.ow b y hy i];exact h1
    . have hy':y∈aF S.rs b [] (!b):=hy;rw[aG (nb b)]at hy';exact hy'
   have e:(Dd.bell b).run (yp0 s R n) S=(λS2:YS=>if rdC S2.m (S2.rs b) (bM (!b))≠1 then (IV.bool f',S2) else if S2.bd (!b)=.asleep then (.bool l',({ S2 with bd:=aF S2.bd (!b) .up }:YS).wr (!b) (.c (bM (!b)) 0)) else (.bool l',S2)) { S.fence b with qt:=aF (S.fence b).qt b l' }:=rfl;rw[e]at ow |-;generalize ({ S.fence b with qt:=aF (S.fence b).qt b l' }:YS)=S2 at Z1 ow |-;dsimp only at ow |-;split
   . exact Z1
   . split
     . refine⟨Z1.ow.app (jm (pY (uq _))),λc h=>?_⟩;have h':aF S2.bd (!b) .up c≠.up:=h;have hcb:c≠!b:=λz=>by subst z;exact h' ap
       rw[aG hcb]at h';obtain⟨h1,h2⟩:=Z1.sl c h';refine⟨h1,λy hy=>h2 y ?_⟩;have hy':y∈aF S2.rs (!b) (S2.rs (!b)++[.c (bM (!b)) 0]) c:=hy;rw[aG hcb]at hy';exact hy'
     . exact Z1
structure K31 (s R:Int) (n:Nat) (S:YS) (es:List Ev):Prop where
 q:Q32 s R n S es
 z:Zz S
 g:S.Rg (yp0 s R n)
def Q31.ok (Q:Q31 s R n S es):(yp0 s R n).Ok:=by
 have M:=Q.q.m;unfold M30 at M;exact⟨⟨M.s0,M.s8,show 0 < s * R from Int.mul_pos M.s0 (by have:=M.R2;omega)⟩,M.n9⟩
theorem K31.out (K:K31 s R n S es) (x:Dd):∃ fs:List Ev,fs.length <= 1/\x.hap (x.out (yp0 s R n) S).1 (x.out (yp0 s R n) S).2.1=fs.map evD/\K31 s R n (x.out (yp0 s R n) S).2.2 (es++fs):=by
 obtain⟨fs,h1,h2,Q'⟩:=K.q.out x;exact⟨fs,h1,h2,Q',K.z.out x,Dy K.q.q.ok K.g x⟩
theorem K31.zero (hs:0 < s) (hs8:s <= 8) (hR:2 <= R) (n9:n <= 9):K31 s R n YS.zero []:=⟨Q32.zero hs hs8 hR n9,Zz.zero,Rng.zero (show 0 < s * R from Int.mul_pos hs (by omega))⟩
def K31.lens (K:K31 s R n S es):S.un.length+(th .taken es).length+(th .handed es).length=(th .asked es).length+S.tk.length+(th .answered es).length/\(th .taken es).length <= (th .asked es).length/\(th .handed es).length <= (th .answered es).length/\(th .answered es).length+S.tk.length=(th .taken es).length:=by
 have h:=K.q.q.ups.length_eq;rw[IT,IT,Jk,Jk,length_drop,length_drop]at h;have h1:(th .taken es).length <= (th .asked es).length:=by have:=congrArg Kz K.q.q.q.tk;rw[JK]at this;omega
 have h2:(th .handed es).length <= (th .answered es).length:=by have:=congrArg Kz K.q.q.q.hd;rw[JK]at this;omega
 have h3:=K.q.q.tp.length_eq;rw[IT,Jk,Jk]at h3;omega
theorem K31.bell (K:K31 s R n S es) {b:Bool}(h:S.bd b=.up) (h2:S.bd (!b)≠.lies):∃ T,((Dd.bell b).out (yp0 s R n) S).1="none"/\((Dd.bell b).out (yp0 s R n) S).2.2=T/\K31 s R n T es/\T.rs b=[]/\(∀ c,T.bd c=.up)/\(S.bd (!b)=.up->T.rs (!b)=S.rs (!b))/\T.un=S.un/\T.tk=S.tk:=by
 have hc:(Dd.bell b).chk (yp0 s R n) S=IX:=Pa h;obtain⟨fs,_,hf,K'⟩:=K.out (.bell b);have hu:=Fg (q:=yp0 s R n) K.q.q.und (.bell b);have ht:=yo (q:=yp0 s R n) K.q.q.tkd (.bell b);have F:=vZ (q:=yp0 s R n) (x:=.bell b) rfl rfl rfl K.g K.z.ow hc;rw[Dd.out_none hc]at K' hf hu ht |-;have f0:fs=[]:=by
  cases fs with
 |nil=>rfl
 |cons e r =>
   rw[show (Dd.bell b).hap ("none":Str) _=[] from Pa rfl]at hf;cases hf
 subst f0;rw[Jw]at K';obtain⟨_,f1,f2,f3⟩:=F;have nb:(!b)≠b:=by cases b<;>decide
 refine⟨_,rfl,rfl,K',f1,λc=>?_,λhu2=>?_,hu.trans (Pa rfl),ht.trans (Pa rfl)⟩
 . by_cases hcb:c=b
   . rw[hcb];exact f2
   . have:c=!b:=by cases b<;>cases c<;>first|rfl|exact absurd rfl hcb
     subst this;by_cases ha:S.bd (!b)=.up
     . rw[Pb (λz=>by rw[ha]at z;cases z.2)]at f3;rw[f3.1];exact ha
     . have hm:=(K.z.sl (!b) ha).1;have has:S.bd (!b)=.asleep:=by
        cases hbd:S.bd (!b) with
       |up=>exact absurd hbd ha
       |lies=>exact absurd hbd h2
       |asleep=>rfl
       rw[Pa ⟨hm,has⟩]at f3;exact f3.1
 . rw[Pb (λz=>by rw[hu2]at z;cases z.2)]at f3;exact f3.2
end
section
variable {s R:Int}{n:Nat}{S S':YS}{es es':List Ev}
def A7 {fs:List Ev}(h:([]:List IV)=fs.map evD):fs=[]:=by
 cases fs with
|nil=>rfl
|cons e r=>cases h
def qQ {a b:Cn}(h:a.key=b.key):a=b:=by cases a<;>cases b<;>first|rfl|exact absurd h (by decide +kernel)
def vd {fs:List Ev}{k:Cn}{i j:Int}(h:[lU k.key (.int i) (.int j)]=fs.map evD):fs=[(k,i,j)]:=by
 cases fs with
|nil=>cases h
|cons e r =>
  rw[J1]at h;injection h with h1 h2
  rw[A7 h2];obtain⟨k',i',j'⟩:=e;unfold evD lU at h1;injection h1 with h1
  injection h1 with a1 h1
  injection h1 with a2 h1
  injection h1 with a3 h1
  injection a1 with a1
  injection a2 with a2
  injection a3 with a3
  rw[qQ a1,a2,a3]
theorem K31.take (K:K31 s R n S es) (h:S.bd l'=.up):(Dd.take.out (yp0 s R n) S).1="none"/\((Dd.take.out (yp0 s R n) S).2.1=.none/\(Dd.take.out (yp0 s R n) S).2.2=S/\((th .asked es).length:Int) - (nC .asked (S.rs f'):Nat)=(th .taken es).length \/
 ∃ nm wt,(Dd.take.out (yp0 s R n) S).2.1=.tuple [.int nm,.int wt]/\K31 s R n (Dd.take.out (yp0 s R n) S).2.2 (es++[(.taken,nm,wt)])/\(Dd.take.out (yp0 s R n) S).2.2.bd=S.bd/\(Dd.take.out (yp0 s R n) S).2.2.rs f'=S.rs f'):=by
 have hc:Dd.take.chk (yp0 s R n) S=IX:=Pa h;obtain⟨fs,_,hf,K'⟩:=K.out .take;obtain⟨_,x2,x3⟩:=BO (q:=yp0 s R n) (S:=S) .take (.inr trivial);rw[Dd.out_none hc]at K' hf x2 x3 |-;refine⟨rfl,?_⟩;by_cases h0:au ⟨s,R,f'⟩ S.m (S.rs l') .asked .taken=0
 . have e:Dd.take.run (yp0 s R n) S=(.none,S):=Pa h0;rw[e];exact .inl ⟨rfl,rfl,K.q.q.q.m.cts.na.mp h0⟩
 . obtain⟨nw,_,e1,_⟩:=K.q.q.q.take h0;refine .inr ⟨nw.1,nw.2,e1,?_,x2,x3⟩;rw[show (Dd.take.run (yp0 s R n) S).1=_ from e1]at hf;have e2:fs=[(.taken,nw.1,nw.2)]:=vd (k:=.taken) (Eq.trans (Eq.symm (Pa rfl)) hf);rw[e2]at K';exact K'
theorem K31.collect (K:K31 s R n S es) (h:S.bd f'=.up):(Dd.collect.out (yp0 s R n) S).1="none"/\((Dd.collect.out (yp0 s R n) S).2.1=.none/\(Dd.collect.out (yp0 s R n) S).2.2=S/\((th .answered es).length:Int) - (nC .answered (S.rs l'):Nat)=(th .handed es).length \/
 ∃ nm wt,(Dd.collect.out (yp0 s R n) S).2.1=.tuple [.int nm,.int wt]/\K31 s R n (Dd.collect.out (yp0 s R n) S).2.2 (es++[(.handed,nm,wt)])/\(Dd.collect.out (yp0 s R n) S).2.2.bd=S.bd/\(Dd.collect.out (yp0 s R n) S).2.2.rs l'=S.rs l'):=by
 have hc:Dd.collect.chk (yp0 s R n) S=IX:=Pa h;obtain⟨fs,_,hf,K'⟩:=K.out .collect;obtain⟨_,x2,x3⟩:=BO (q:=yp0 s R n) (S:=S) .collect (.inr trivial);rw[Dd.out_none hc]at K' hf x2 x3 |-;refine⟨rfl,?_⟩;by_cases h0:au ⟨s,R,f'⟩ S.m (S.rs f') .answered .handed=0
 . have e:Dd.collect.run (yp0 s R n) S=(.none,S):=Pa h0;rw[e];exact .inl ⟨rfl,rfl,K.q.q.q.m.cts.nb.mp h0⟩
 . obtain⟨nw,_,e1,_⟩:=K.q.q.q.collect h0;refine .inr ⟨nw.1,nw.2,e1,?_,x2,x3⟩;rw[show (Dd.collect.run (yp0 s R n) S).1=_ from e1]at hf;have e2:fs=[(.handed,nw.1,nw.2)]:=vd (k:=.handed) (Eq.trans (Eq.symm (Pa rfl)) hf);rw[e2]at K';exact K'
def Ful (s:Int) (S:YS) (es:List Ev):Prop:=((th .answered es).length:Int) - (((th .handed es).length:Int) - (nC .handed (S.rs f'):Nat))=s
theorem K31.answer (K:K31 s R n S es) (h:S.bd l'=.up) (nm wt:Int):((Dd.answer nm wt).out (yp0 s R n) S).2.2=S/\(nm ∉ S.tk\/Ful s S es) \/
 K31 s R n ((Dd.answer nm wt).out (yp0 s R n) S).2.2 (es++[(.answered,nm,wt)])/\((Dd.answer nm wt).out (yp0 s R n) S).2.2.bd=S.bd/\((Dd.answer nm wt).out (yp0 s R n) S).2.2.rs f'=S.rs f'/\((Dd.answer nm wt).out (yp0 s R n) S).2.2.tk=S.tk.erase nm/\¬ Ful s S es:=by
 obtain⟨fs,_,hf,K'⟩:=K.out (.answer nm wt);obtain⟨_,x2,x3⟩:=BO (q:=yp0 s R n) (S:=S) (.answer nm wt) (.inl (by intro z;cases z));have ht:=yo (q:=yp0 s R n) K.q.q.tkd (.answer nm wt);have hch:(Dd.answer nm wt).chk (yp0 s R n) S=(if S.tk.contains nm=f' then dk Rf.task else if au ⟨s,R,f'⟩ S.m (S.rs l') .answered .handed=s then dk Rf.full else IX):=Pa h;by_cases h1:S.tk.contains nm=f'
 . rw[Pa h1]at hch;rw[Dd.out_some hch];exact .inl ⟨rfl,.inl λz=>by rw[contains_iff_mem.mpr z]at h1;cases h1⟩
 . rw[Pb h1]at hch;by_cases h2:au ⟨s,R,f'⟩ S.m (S.rs l') .answered .handed=s
   . rw[Pa h2]at hch;rw[Dd.out_some hch];exact .inl ⟨rfl,.inr (K.q.q.q.m.cts.cb.mp h2)⟩
   . rw[Pb h2]at hch;rw[Dd.out_none hch]at K' hf x2 x3 ht |-;have e2:fs=[(.answered,nm,wt)]:=vd (k:=.answered) (Eq.trans (Eq.symm (Pa rfl)) hf);rw[e2]at K';exact .inr ⟨K',x2,x3,ht.trans zf,λz=>h2 (K.q.q.q.m.cts.cb.mpr z)⟩
structure HW (s R:Int) (n:Nat) (S:YS) (es:List Ev) (S':YS) (es':List Ev):Prop where
 k:K31 s R n S' es'
 a:th .asked es'=th .asked es
 t:th .taken es'=th .taken es
 b:th .answered es'=th .answered es
 up:∀ c,S'.bd c=.up
 r0:S'.rs f'=[]
 r1:S.bd l'=.up->S'.rs l'=S.rs l'
 hd:S.rs l'=[]->(th .handed es').length=(th .answered es').length
structure TW (s R:Int) (n:Nat) (S:YS) (es:List Ev) (S':YS) (es':List Ev):Prop where
 k:K31 s R n S' es'
 a:th .asked es'=th .asked es
 h:th .handed es'=th .handed es
 up:∀ c,S'.bd c=.up
 r0:S'.rs l'=[]
 r1:S.bd f'=.up->S'.rs f'=S.rs f'
 tk:S.rs f'=[]->(th .taken es').length=(th .asked es').length/\(S'.tk≠[]->((th .answered es').length:Int)=(th .handed es').length+s)
structure Gd (s R:Int) (n:Nat) (m:Nat) (S:YS) (es:List Ev):Prop where
 k:K31 s R n S es
 up:∀ c,S.bd c=.up
 r:∀ b,S.rs b=[]
 hb:(th .handed es).length=(th .answered es).length
 ul:S.un.length <= m
structure Gt (s R:Int) (n:Nat) (m:Nat) (S:YS) (es:List Ev):Prop where
 k:K31 s R n S es
 up:∀ c,S.bd c=.up
 r:∀ b,S.rs b=[]
 ta:(th .taken es).length=(th .asked es).length
 kl:S.tk.length <= m
theorem K31.s0 (K:K31 s R n S es):0 < s:=by have M:=K.q.q.q.m;unfold M30 at M;exact M.s0
def Gd.t {m:Nat}(G:Gd s R n m S es) (W:TW s R n S es S' es'):Gt s R n (m - 1) S' es':=by
 have r0:=W.r1 (G.up f');rw[G.r f']at r0;obtain⟨t1,t2⟩:=W.tk (G.r f');have l1:=G.k.lens;have l2:=W.k.lens;have s0:=G.k.s0;rw[W.a,W.h]at l2;rw[W.a]at t1;rw[W.h]at t2;have ul:=G.ul;have hb:=G.hb;refine⟨W.k,W.up,λb=>by cases b;exact r0;exact W.r0,by rw[W.a];exact t1,?_⟩;by_cases h:S'.tk=[]
 . rw[h];exact Kq _
 . have h1:=t2 h;have h2:0 < S'.tk.length:=List.length_pos_iff.mpr h;omega
def Gt.h {m:Nat}(G:Gt s R n m S es) (W:HW s R n S es S' es'):Gd s R n m S' es':=by
 have r1:=W.r1 (G.up l');rw[G.r l']at r1;have h1:=W.hd (G.r l');have l1:=G.k.lens;have l2:=W.k.lens;have ta:=G.ta;have kl:=G.kl;rw[W.a,W.t,W.b]at l2;rw[W.b]at h1;exact⟨W.k,W.up,λb=>by cases b;exact W.r0;exact r1,by rw[W.b];exact h1,by omega⟩
def Gd.h {m:Nat}(G:Gd s R n m S es) (W:HW s R n S es S' es'):Gd s R n m S' es':=by
 have r1:=W.r1 (G.up l');rw[G.r l']at r1;have h1:=W.hd (G.r l');have l1:=G.k.lens;have l2:=W.k.lens;have ul:=G.ul;have hb:=G.hb;rw[W.a,W.t,W.b]at l2;rw[W.b]at h1;exact⟨W.k,W.up,λb=>by cases b;exact W.r0;exact r1,by rw[W.b];exact h1,by omega⟩
def K31.un9 (K:K31 s R n S es):S.un.length <= 9:=K.q.q.und.len (by have:=K.q.q.ok.n9;show (n:Int) <= 9;have h:n <= 9:=this;omega)
def HW.first (W:HW s R n S es S' es') (h:S.bd l'=.up) (hr:S.rs l'=[]):Gd s R n 9 S' es':=by
 have r1:=W.r1 h;rw[hr]at r1;exact⟨W.k,W.up,λb=>by cases b;exact W.r0;exact r1,W.hd hr,W.k.un9⟩
def LpI (s R:Int) (n:Nat) (first:Bool) (j:Nat) (S:YS) (es:List Ev):Prop:=match j with
|0=>K31 s R n S es/\(∀ c,S.bd c≠.lies)/\∃ c,S.bd c=.up
|1=>K31 s R n S es/\(∀ c,S.bd c=.up)/\(first=l'->S.rs l'=[])
|j+2=>if first=l' then Gt s R n (8 - j) S es else Gd s R n (9 - j) S es
theorem K31.look (K:K31 s R n S es) {b:Bool}(h:S.bd b=.lies):((Dd.look b).out (yp0 s R n) S).1="none"/\K31 s R n ((Dd.look b).out (yp0 s R n) S).2.2 es/\((Dd.look b).out (yp0 s R n) S).2.2.bd b≠.lies/\((Dd.look b).out (yp0 s R n) S).2.2.bd (!b)=S.bd (!b):=by
 have hc:(Dd.look b).chk (yp0 s R n) S=IX:=Pa h;obtain⟨fs,_,hf,K'⟩:=K.out (.look b);have F:=vZ (q:=yp0 s R n) (x:=.look b) rfl rfl rfl K.g K.z.ow hc;rw[Dd.out_none hc]at K' hf |-;have f0:fs=[]:=A7 (Eq.trans (Eq.symm (Pa rfl)) hf);subst f0;rw[Jw]at K';obtain⟨_,_,f2,_,f3⟩:=F;refine⟨rfl,K',?_,f2⟩;split at f3
 . intro z;rw[show ((Dd.look b).run (yp0 s R n) S).2.bd b=.lies from z]at f3;cases f3.1
 . intro z;rw[show ((Dd.look b).run (yp0 s R n) S).2.bd b=.lies from z]at f3;cases f3.1
def HWo (s R:Int) (n:Nat) (S:YS) (es:List Ev) (S':YS) (es':List Ev):Prop:=(S.bd f'=.up->HW s R n S es S' es')/\(S.bd f'≠.up->S'=S/\es'=es)
def TWo (s R:Int) (n:Nat) (S:YS) (es:List Ev) (S':YS) (es':List Ev):Prop:=(S.bd l'=.up->TW s R n S es S' es')/\(S.bd l'≠.up->S'=S/\es'=es)
def LpI.nl {f:Bool}{j:Nat}(h:LpI s R n f j S es):∀ c,S.bd c≠.lies:=by
 match j,h with
|0,h=>exact h.2.1
|1,h=>intro c z;rw[h.2.1 c]at z;cases z
|j+2,h =>
  intro c z;have h':if f=l' then Gt s R n (8 - j) S es else Gd s R n (9 - j) S es:=h
  split at h'
  . rw[h'.up c]at z;cases z
  . rw[h'.up c]at z;cases z
def HWo.nl {S1:YS}{es1:List Ev}(W:HWo s R n S es S1 es1) (h:∀ c,S.bd c≠.lies):∀ c,S1.bd c≠.lies:=λc z=>by
 by_cases hb:S.bd f'=.up
 . rw[(W.1 hb).up c]at z;cases z
 . rw[(W.2 hb).1]at z;exact h c z
def TWo.nl {S1:YS}{es1:List Ev}(W:TWo s R n S es S1 es1) (h:∀ c,S.bd c≠.lies):∀ c,S1.bd c≠.lies:=λc z=>by
 by_cases hb:S.bd l'=.up
 . rw[(W.1 hb).up c]at z;cases z
 . rw[(W.2 hb).1]at z;exact h c z
def CN (h:∃ c,S.bd c=.up) {b:Bool}(hb:S.bd b≠.up):S.bd (!b)=.up:=by
 obtain⟨c,hc⟩:=h;cases b<;>cases c<;>first|exact hc|exact absurd hc hb
def DB {S1 S2:YS}{es1 es2:List Ev}{j:Nat}(h:LpI s R n l' j S es) (W1:HWo s R n S es S1 es1) (W2:TWo s R n S1 es1 S2 es2):LpI s R n l' (j+1) S2 es2:=by
 match j,h with
|0,h =>
  have up1:S1.bd l'=.up:=by
   by_cases hb:S.bd f'=.up
   . exact(W1.1 hb).up l'
   . rw[(W1.2 hb).1];exact CN h.2.2 hb
  have W:=W2.1 up1;exact⟨W.k,W.up,λ_=>W.r0⟩
|1,h =>
  have G:=(W1.1 (h.2.1 f')).first (h.2.1 l') (h.2.2 rfl);exact G.t (W2.1 (G.up l'))
|j+2,h =>
  have h':Gt s R n (8 - j) S es:=h;have G:=h'.h (W1.1 (h'.up f'));have G2:=G.t (W2.1 (G.up l'));have e:8 - j - 1=8 - (j+1):=by omega
  rw[e]at G2;exact G2
def G5 {S1 S2:YS}{es1 es2:List Ev}{j:Nat}(h:LpI s R n f' j S es) (W1:TWo s R n S es S1 es1) (W2:HWo s R n S1 es1 S2 es2):LpI s R n f' (j+1) S2 es2:=by
 match j,h with
|0,h =>
  have up1:S1.bd f'=.up:=by
   by_cases hb:S.bd l'=.up
   . exact(W1.1 hb).up f'
   . rw[(W1.2 hb).1];exact CN h.2.2 hb
  have W:=W2.1 up1;exact⟨W.k,W.up,λz=>by cases z⟩
|1,h =>
  have W:=W1.1 (h.2.1 l');exact(W2.1 (W.up f')).first (W.up l') W.r0
|j+2,h =>
  have h':Gd s R n (9 - j) S es:=h;have G:=h'.t (W1.1 (h'.up l'));have G2:=G.h (W2.1 (G.up f'));have e:9 - j - 1=9 - (j+1):=by omega
  rw[e]at G2;exact G2
def Gk {f:Bool}{S1 S2 S3:YS}{es1 es2 es3:List Ev}(h:LpI s R n f 14 S es) (W1:HWo s R n S es S1 es1) (W2:TWo s R n S1 es1 S2 es2) (W3:HWo s R n S2 es2 S3 es3):Gd s R n 0 S3 es3:=by
 have G1:Gd s R n 0 S1 es1:=by
  cases f with
 |true=>have h':Gt s R n 0 S es:=h;exact h'.h (W1.1 (h'.up f'))
 |false=>have h':Gd s R n 0 S es:=h;exact h'.h (W1.1 (h'.up f'))
 have G2:=G1.t (W2.1 (G1.up l'));exact G2.h (W3.1 (G2.up f'))
def Gd.fin (G:Gd s R n 0 S es):S.un=[]/\S.tk=[]:=by
 have l:=G.k.lens;have ul:=G.ul;have hb:=G.hb;exact⟨length_eq_zero_iff.mp (by omega),length_eq_zero_iff.mp (by omega)⟩
theorem Gd.ask (G:Gd s R n 0 S es) (hn:1 <= n) (wt:Int):(Dd.ask wt).chk (yp0 s R n) S=IX/\((Dd.ask wt).run (yp0 s R n) S).1=.int 0/\((Dd.ask wt).run (yp0 s R n) S).2.un=[0]/\((Dd.ask wt).run (yp0 s R n) S).2.tk=[]:=by
 obtain⟨hu,ht⟩:=G.fin;have hl:bF n S.un=dk 0:=by rw[hu];exact qA (i:=0) (by omega) rfl λj hj=>by omega
 have hf:¬ au ⟨s,R,f'⟩ S.m (S.rs f') .asked .taken=s:=λz=>by
  have h:=G.k.q.q.q.m.cts.ca.mp z;rw[G.r l']at h;have z0:nC .taken ([]:List Wr)=0:=rfl;rw[z0]at h;have l:=G.k.lens;have ul:=G.ul;have hb:=G.hb;have s0:=G.k.s0;omega
 have hc:(Dd.ask wt).chk (yp0 s R n) S=IX:=by
  show (if S.bd f'=.up then (if au ⟨s,R,f'⟩ S.m (S.rs f') .asked .taken=s then dk Rf.full else match bF n S.un with|none=>dk Rf.name|some _=>IX) else dk Rf.deed)=IX;rw[Pa (G.up f'),Pb hf,hl]
 have hr:(Dd.ask wt).run (yp0 s R n) S=(.int 0,{ S with rs:=aF S.rs f' (S.rs f'++kR ⟨s,R,f'⟩ S.m (S.rs f') f' .asked 0 wt),un:=S.un++[0],qt:=aF S.qt f' f',hs:=S.hs++[lU "asked" (.int 0) (.int wt)] }):=by
  show (match bF n S.un with|some nm=>_|none=>_:IV × YS)=_;rw[hl];rfl
 rw[hr];exact⟨hc,rfl,by show S.un++[0]=[0];rw[hu];rfl,ht⟩
end
section
open PyProof.Rows
variable {X:Cx}{a b c d:Expr}{ta tb tc td:TE}{pos:Pos}
def DA (r r' r'':R2) (ta tb tc td:TE):TE:=λσ H Q=>ta σ H λx H1=>tb σ H1 λy H2=>r x y H2 λz H3=>∃ k,z=.bl k /\
 (if k=l' then tc σ H3 λu H4=>r' y u H4 λz' H5=>∃ k',z'=.bl k'/\(if k'=l' then td σ H5 λu' H6=>r'' u u' H6 Q else Q (.bl f') H5) else Q (.bl f') H3)
def uM {op op' op'':CmpOp}{r r' r'':R2}(ho:OpR X (Ky op) r) (ho':OpR X (Ky op') r') (ho'':OpR X (Ky op'') r'') (ha:PE X a ta) (hb:PE X b tb) (hc:PE X c tc) (hd:PE X d td)
 (hm:lastMarks [op,op',op''] [b,c,d]=f':=by with_unfolding_all rfl):PT X (.Compare a [op,op',op''] [b,c,d] pos) (xO (DA r r' r'' ta tb tc td)):=by
 intro Lz s σ H Q I h;refine isTrue_chain (thn (ha Lz s σ H _ I h) λv s1 ⟨x,H1,I1,r1,q1⟩=>test_link (thn (hb Lz s1 σ H1 _ I1 q1) λu s2 ⟨y,H2,I2,r2,q2⟩ =>
  thn (ho Lz s2 σ H2 x y v u _ I2 r1 r2 q2) λd s3 ⟨z,H3,I3,r3,k,e,q3⟩=>?_)) hm
 subst e;cases r3;refine Km ?_;cases k with
|false =>
  obtain⟨k',e',q'⟩:=q3;cases e';exact ite_ff ⟨H3,I3,q'⟩
|true =>
  refine ite_tt (test_link (thn (hc Lz s3 σ H3 _ I3 q3) λw' s4 ⟨z',H4,I4,r4,q4⟩=>thn (ho' Lz s4 σ H4 y z' u w' _ I4 r2 r4 q4) λd' s5 ur53=>?_));obtain⟨z2,H5,I5,r5,k2,e2,q5⟩:=ur53;subst e2;cases r5;refine Km ?_;cases k2 with
 |false =>
   obtain⟨k',e',q'⟩:=q5;cases e';exact ite_ff ⟨H5,I5,q'⟩
 |true =>
   refine ite_tt (test_last (thn (hd Lz s5 σ H5 _ I5 q5) λw3 s6 ⟨z3,H6,I6,r6,q6⟩=>thn (ho'' Lz s6 σ H6 z' z3 w' w3 _ I6 r4 r6 q6) λd3 s7 ur54=>?_));obtain⟨z4,H7,I7,r7,k3,e3,q7⟩:=ur54;subst e3;cases r7;exact Km ⟨H7,I7,q7⟩
end
end L2
set_option maxHeartbeats 4000000
namespace My
open PySem L2
local macro_rules
 |`($x∣$y)=>`(@zO _ _ _ _ _ $x $y (by rfl))
 |`($x∪$y)=>`(@BU _ _ _ _ _ $x $y)
 |`($x∩$y)=>`(@aA _ _ _ _ _ _ _ aI $x $y (fun _ _ => rfl))
 |`($x⊆$y)=>`(@aA _ _ _ _ _ _ _ aV $x $y (fun _ _ => rfl))
 |`($x⁻¹)=>`(@ao _ _ _ (@Fu _ _ _ _ $x))
def top (i:Nat):JY:=PySem.Challenge.pw_askring_k31_whole_all_is_handed_at_last.main.body.getD i (.Pass ⟨0,0,0,0⟩)
abbrev gP:JY:=top 8
abbrev m7:JY:=top 9
abbrev mG:JY:=top 10
abbrev iy:JY:=top 14
abbrev jk:JY:=aC (top 15) 0
abbrev iu:JY:=aC (top 15) 1
abbrev gI:JY:=aC (top 15) 2
abbrev fN:JY:=aC (top 15) 3
abbrev cW:JY:=aC (top 15) 4
abbrev mC:JY:=aC (top 15) 5
abbrev jn:JY:=aC (top 15) 6
abbrev jO:JY:=aC (top 17) 0
abbrev eJ:JY:=aC (top 17) 2
abbrev fi:JY:=aC (top 17) 3
abbrev mi:JY:=aC (top 17) 4
abbrev gM:JY:=aC (top 17) 5
abbrev fh:JY:=aC (top 17) 6
abbrev cg:JY:=aC (top 17) 7
abbrev iZ:JY:=aC (top 19) 0
abbrev jH:JY:=aC (top 19) 2
abbrev cX:JY:=aC (top 19) 3
abbrev gG:JY:=aC (top 19) 4
abbrev iQ:JY:=aC (top 19) 5
abbrev bZ:JY:=aC (top 19) 6
abbrev j8:JY:=aC (top 21) 0
abbrev iS:JY:=aC (top 21) 2
abbrev j9:JY:=aC (top 21) 3
abbrev iF:JY:=aC (top 21) 4
abbrev jP:JY:=aC (top 21) 5
abbrev gL:JY:=aC (top 21) 6
abbrev iB:JY:=aC (top 21) 7
abbrev iO:JY:=aC (top 21) 8
abbrev mo:JY:=top 26
abbrev pF:JY:=top 27
abbrev oH:JY:=top 28
abbrev pH:JY:=top 29
abbrev pj:JY:=top 30
abbrev jM:JY:=aC (top 31) 0
abbrev kI:JY:=aC (top 31) 1
abbrev dU:JY:=aC (top 31) 2
abbrev jv:JY:=aC (top 31) 3
abbrev jy:JY:=aC (top 31) 4
abbrev gQ:JY:=aC (top 31) 5
abbrev jJ:JY:=aC (top 31) 8
abbrev jo:JY:=aC (top 31) 11
abbrev eu:JY:=aC (top 31) 12
abbrev fm:JY:=aC (top 31) 13
abbrev ip:JY:=aC (top 31) 14
abbrev ff:JY:=aC (top 31) 15
abbrev dI:JY:=aC (top 31) 16
abbrev gF:JY:=aC (top 31) 17
abbrev iP:JY:=aC (top 31) 18
abbrev gH:JY:=aC (top 31) 19
abbrev ci:JY:=aC (top 31) 20
abbrev io:JY:=top 33
abbrev kM:JY:=top 34
abbrev lW:JY:=top 35
abbrev mE:JY:=top 36
abbrev kZ:JY:=top 37
abbrev mO:JY:=top 38
abbrev kP:JY:=top 39
abbrev kJ:JY:=top 40
abbrev eQ:JY:=top 41
abbrev fg:JY:=top 42
abbrev jt:JY:=top 43
abbrev gk:JY:=top 44
abbrev Dv:JY:=top 45
def aY {N P:List Str}{sc:Scope}(a:sc.kind=.function) (b:sc.isCoroutine=f') (c:sc.isGenerator=f') (h:N.Nodup/\N.take P.length=P/\(∀ x∈P,sc.names.lookup x=dk .local\/sc.names.lookup x=dk .cell)/\∀ y∈sc.names,y.2≠.free):FnScope N P sc:=⟨a,b,c,h.1,h.2.1,h.2.2.1,h.2.2.2⟩
def oi:FnScope ["counter","size","rounds"] ["counter","size","rounds"] (ai gP):=aY rfl rfl rfl (by decide +kernel)
def vm:FnScope ["counter","size"] ["counter","size"] (ai m7):=aY rfl rfl rfl (by decide +kernel)
def vj:FnScope ["one","other","size","rounds"] ["one","other","size","rounds"] (ai mG):=aY rfl rfl rfl (by decide +kernel)
def pX:FnScope ["rounds","faults"] ["rounds","faults"] (ai iy):=aY rfl rfl rfl (by decide +kernel)
def sC:FnScope ["self","store","side","words","size","rounds","faults"] ["self","store","side","words","size","rounds","faults"] (ai jk):=aY rfl rfl rfl (by decide +kernel)
def gN:FnScope ["self","laid","fetched"] ["self"] (ai iu):=aY rfl rfl rfl (by decide +kernel)
def oI:FnScope ["self"] ["self"] (ai gI):=aY rfl rfl rfl (by decide +kernel)
def no:FnScope ["self","counter"] ["self","counter"] (ai fN):=aY rfl rfl rfl (by decide +kernel)
def jx:FnScope ["self","cell","counter"] ["self","cell","counter"] (ai cW):=aY rfl rfl rfl (by decide +kernel)
def pJ:FnScope ["self","name","worth","counter"] ["self","name","worth"] (ai mC):=aY rfl rfl rfl (by decide +kernel)
def iX:FnScope ["self","counter","found"] ["self"] (ai jn):=aY rfl rfl rfl (by decide +kernel)
def re:FnScope ["self","store","size","rounds","names","faults"] ["self","store","size","rounds","names","faults"] (ai jO):=aY rfl rfl rfl (by decide +kernel)
def gC:FnScope ["self","name"] ["self"] (ai eJ):=aY rfl rfl rfl (by decide +kernel)
def mr:FnScope ["self"] ["self"] (ai fi):=aY rfl rfl rfl (by decide +kernel)
def oM:FnScope ["self","worth","name"] ["self","worth"] (ai mi):=aY rfl rfl rfl (by decide +kernel)
def jI:FnScope ["self","told"] ["self"] (ai gM):=aY rfl rfl rfl (by decide +kernel)
def lX:FnScope ["self"] ["self"] (ai fh):=aY rfl rfl rfl (by decide +kernel)
def ig:FnScope ["self"] ["self"] (ai cg):=aY rfl rfl rfl (by decide +kernel)
def qf:FnScope ["self","store","size","rounds","faults"] ["self","store","size","rounds","faults"] (ai iZ):=aY rfl rfl rfl (by decide +kernel)
def lM:FnScope ["self","told"] ["self"] (ai jH):=aY rfl rfl rfl (by decide +kernel)
def jw:FnScope ["self","name"] ["self","name"] (ai cX):=aY rfl rfl rfl (by decide +kernel)
def p7:FnScope ["self","name","worth"] ["self","name","worth"] (ai gG):=aY rfl rfl rfl (by decide +kernel)
def qk:FnScope ["self"] ["self"] (ai iQ):=aY rfl rfl rfl (by decide +kernel)
def gS:FnScope ["self"] ["self"] (ai bZ):=aY rfl rfl rfl (by decide +kernel)
def qr:FnScope ["self"] ["self"] (ai j8):=aY rfl rfl rfl (by decide +kernel)
def pL:FnScope ["self","side","cell","worth"] ["self","side","cell","worth"] (ai iS):=aY rfl rfl rfl (by decide +kernel)
def kB:FnScope ["self","side","first"] ["self","side"] (ai j9):=aY rfl rfl rfl (by decide +kernel)
def pV:FnScope ["self","side"] ["self","side"] (ai iF):=aY rfl rfl rfl (by decide +kernel)
def lS:FnScope ["self","side","cell","waiting"] ["self","side","cell"] (ai jP):=aY rfl rfl rfl (by decide +kernel)
def pq:FnScope ["self","cell"] ["self","cell"] (ai gL):=aY rfl rfl rfl (by decide +kernel)
def pW:FnScope ["self","side"] ["self","side"] (ai iB):=aY rfl rfl rfl (by decide +kernel)
def pR:FnScope ["self"] ["self"] (ai iO):=aY rfl rfl rfl (by decide +kernel)
def vy:FnScope ["value"] ["value"] (ai mo):=aY rfl rfl rfl (by decide +kernel)
def xg:FnScope ["value","kind"] ["value","kind"] (ai pF):=aY rfl rfl rfl (by decide +kernel)
def qB:FnScope ["some","kinds"] ["some"] (ai oH):=aY rfl rfl rfl (by decide +kernel)
def xP:FnScope ["some"] ["some"] (ai pH):=aY rfl rfl rfl (by decide +kernel)
def xW:FnScope ["cell"] ["cell"] (ai pj):=aY rfl rfl rfl (by decide +kernel)
def si:FnScope ["self","size","rounds","names","faults"] ["self","size","rounds","names","faults"] (ai jM):=aY rfl rfl rfl (by decide +kernel)
def n5:FnScope ["self","some","word"] ["self","some"] (ai kI):=aY rfl rfl rfl (by decide +kernel)
def kU:FnScope ["self","worths"] ["self","worths"] (ai dU):=aY rfl rfl rfl (by decide +kernel)
def sw:FnScope ["self"] ["self"] (ai jv):=aY rfl rfl rfl (by decide +kernel)
def lV:FnScope ["self","cells"] ["self"] (ai jy):=aY rfl rfl rfl (by decide +kernel)
def pi:FnScope ["self","side"] ["self","side"] (ai gQ):=aY rfl rfl rfl (by decide +kernel)
def rV:FnScope ["self"] ["self"] (ai jJ):=aY rfl rfl rfl (by decide +kernel)
def sQ:FnScope ["self","some"] ["self","some"] (ai jo):=aY rfl rfl rfl (by decide +kernel)
def lK:FnScope ["self","some"] ["self","some"] (ai eu):=aY rfl rfl rfl (by decide +kernel)
def cP:FnScope ["self","worths","deeds","name","word"] ["self","worths"] (ai fm):=aY rfl rfl rfl (by decide +kernel)
def ku:FnScope ["self","worth","name"] ["self","worth"] (ai ip):=aY rfl rfl rfl (by decide +kernel)
def mB:FnScope ["self","name","worth"] ["self","name","worth"] (ai ff):=aY rfl rfl rfl (by decide +kernel)
def k8:FnScope ["self","word","told"] ["self","word","told"] (ai dI):=aY rfl rfl rfl (by decide +kernel)
def jL:FnScope ["self","side","other"] ["self","side"] (ai gF):=aY rfl rfl rfl (by decide +kernel)
def qw:FnScope ["self","side"] ["self","side"] (ai iP):=aY rfl rfl rfl (by decide +kernel)
def oF:FnScope ["self","side"] ["self","side"] (ai gH):=aY rfl rfl rfl (by decide +kernel)
def iW:FnScope ["self","side"] ["self","side"] (ai ci):=aY rfl rfl rfl (by decide +kernel)
def qg:FnScope ["script","k"] ["script","k"] (ai io):=aY rfl rfl rfl (by decide +kernel)
def dM:FnScope ["cells","most","codes","cell","rest"] ["cells","most"] (ai kM):=aY rfl rfl rfl (by decide +kernel)
def cH:FnScope ["cell","drawn","size","faults","bits","word"] ["cell"] (ai lW):=aY rfl rfl rfl (by decide +kernel)
def om:FnScope ["found","due","k"] ["found","due"] (ai mE):=aY rfl rfl rfl (by decide +kernel)
def uo:FnScope ["code"] ["code"] (ai kZ):=aY rfl rfl rfl (by decide +kernel)
def gg:FnScope ["code","tasks","word","side","name"] ["code","tasks"] (ai mO):=aY rfl rfl rfl (by decide +kernel)
def bW:FnScope ["yard","deed","told","refused"] ["yard","deed"] (ai kP):=aY rfl rfl rfl (by decide +kernel)
def t7:FnScope ["tasks","deed","told"] ["tasks","deed","told"] (ai kJ):=aY rfl rfl rfl (by decide +kernel)
def gu:FnScope ["yard","name"] ["yard"] (ai eQ):=aY rfl rfl rfl (by decide +kernel)
def mw:FnScope ["yard"] ["yard"] (ai fg):=aY rfl rfl rfl (by decide +kernel)
def r8:FnScope ["story","word","name"] ["story","word","name"] (ai jt):=aY rfl rfl rfl (by decide +kernel)
def bu:FnScope ["story","name","asked","taken","answered","handed","k"] ["story"] (ai gk):=aY rfl rfl rfl (by decide +kernel)
def jd:FnScope ["script","size","rounds","many","faults","yard","tasks","code","deed","side","waiting","step"] ["script"] (ai Dv):=aY rfl rfl rfl (by decide +kernel)
set_option genInjectivity false
set_option genSizeOfSpec false
structure Ad where
 cx:G'
 iC:G'
 iT:G'
 dG:G'
 eF:G'
 dw:G'
 cp:G'
 bX:G'
 bc:G'
 iH:G'
 eI:G'
 eP:G'
 bB:G'
 bL:G'
 im:G'
 cD:G'
 bK:G'
 aX:G'
 dE:G'
 eM:G'
 bf:G'
 cn:G'
 dD:G'
 aQ:G'
 dJ:G'
 dH:G'
 dq:G'
 du:G'
 en:G'
 cC:G'
 dj:G'
 dF:G'
 iY:G'
 kG:G'
 kO:G'
 kH:G'
 kN:G'
 eL:G'
 fI:G'
 bq:G'
 ez:G'
 eK:G'
 cz:G'
 eA:G'
 eE:G'
 bx:G'
 bP:G'
 dm:G'
 bN:G'
 bn:G'
 cu:G'
 dn:G'
 cB:G'
 aZ:G'
 dB:G'
 fL:G'
 iK:G'
 j7:G'
 fO:G'
 iA:G'
 fQ:G'
 gf:G'
 bA:G'
 bQ:G'
 eG:G'
 c6:G'
 law:G'
 cm:G'
 dX:G'
 bp:G'
 aM:G'
 bo:G'
 hV:G'
 uR:G'
 gq:G'
 gD:G'
 gT:G'
 ki:G'
 dc:G'
 aP:G'
 kY:G'
 fR:G'
 fV:G'
 gc:G'
 fY:G'
 fJ:G'
 ge:G'
 fT:G'
 fW:G'
structure Fd where
 cx:Ji
 iC:Ji
 iT:Ji
 dG:Ji
 eF:Ji
 dw:Ji
 cp:Ji
 bX:Ji
 bc:Ji
 iH:Ji
 eI:Ji
 eP:Ji
 bB:Ji
 bL:Ji
 im:Ji
 cD:Ji
 bK:Ji
 aX:Ji
 dE:Ji
 eM:Ji
 bf:Ji
 cn:Ji
 dD:Ji
 aQ:Ji
 dJ:Ji
 dH:Ji
 dq:Ji
 du:Ji
 en:Ji
 cC:Ji
 dj:Ji
 dF:Ji
 iY:Ji
 kG:Ji
 kO:Ji
 kH:Ji
 kN:Ji
 eL:Ji
 fI:Ji
 bq:Ji
 ez:Ji
 eK:Ji
 cz:Ji
 eA:Ji
 eE:Ji
 bx:Ji
 bP:Ji
 dm:Ji
 bN:Ji
 bn:Ji
 cu:Ji
 dn:Ji
 cB:Ji
 aZ:Ji
 dB:Ji
 fL:Ji
 iK:Ji
 j7:Ji
 fO:Ji
 iA:Ji
 fQ:Ji
 gf:Ji
 bA:Ji
 bQ:Ji
 eG:Ji
 c6:Ji
 law:Ji
structure Gs (K:Ja) (mg:Str->Option IU) (a:Ad) (d:Fd):Prop where
 kD:Fun K "next_counter" "next_counter" gP a.cx d.cx
 qp:aD K d.cx ["counter","size","rounds"] []
 qe:mg "next_counter"=dk (.ref a.cx)
 qM:Fun K "place_of" "place_of" m7 a.iC d.iC
 xb:aD K d.iC ["counter","size"] []
 xQ:mg "place_of"=dk (.ref a.iC)
 qK:Fun K "ahead_by" "ahead_by" mG a.iT d.iT
 xk:aD K d.iT ["one","other","size","rounds"] []
 yc:mg "ahead_by"=dk (.ref a.iT)
 iE:Fun K "rounds_with" "rounds_with" iy a.dG d.dG
 lR:aD K d.dG ["rounds","faults"] []
 l9:mg "rounds_with"=dk (.ref a.dG)
 tO:Fun K "__init__" "Ring.__init__" jk a.eF d.eF
 gm:aD K d.eF ["self","store","side","words","size","rounds","faults"] []
 ss:Fun K "filled" "Ring.filled" iu a.dw d.dw
 fC:aD K d.dw ["self"] []
 eR:Meth K a.cm "filled" a.dw
 qc:Fun K "is_full" "Ring.is_full" gI a.cp d.cp
 km:aD K d.cp ["self"] []
 jG:Meth K a.cm "is_full" a.cp
 pD:Fun K "place_at" "Ring.place_at" fN a.bX d.bX
 jq:aD K d.bX ["self","counter"] []
 je:Meth K a.cm "place_at" a.bX
 jY:Fun K "write_further" "Ring.write_further" cW a.bc d.bc
 cR:aD K d.bc ["self","cell","counter"] []
 cy:Meth K a.cm "write_further" a.bc
 xu:Fun K "lay" "Ring.lay" mC a.iH d.iH
 qV:aD K d.iH ["self","name","worth"] []
 ot:Meth K a.cm "lay" a.iH
 tI:Fun K "fetch" "Ring.fetch" jn a.eI d.eI
 mZ:aD K d.eI ["self"] []
 lp:Meth K a.cm "fetch" a.eI
 tU:Fun K "__init__" "Hand.__init__" jO a.eP d.eP
 tS:aD K d.eP ["self","store","size","rounds","names","faults"] []
 mI:Fun K "least_free" "Hand.least_free" eJ a.bB d.bB
 ic:aD K d.bB ["self"] []
 gn:Meth K a.dX "least_free" a.bB
 nJ:Fun K "check_ask" "Hand.check_ask" fi a.bL d.bL
 jc:aD K d.bL ["self"] []
 gR:Meth K a.dX "check_ask" a.bL
 xJ:Fun K "ask" "Hand.ask" mi a.im d.im
 xT:aD K d.im ["self","worth"] []
 uZ:Meth K a.dX "ask" a.im
 pT:Fun K "collect" "Hand.collect" gM a.cD d.cD
 qi:aD K d.cD ["self"] []
 pE:Meth K a.dX "collect" a.cD
 nj:Fun K "under_way" "Hand.under_way" fh a.bK d.bK
 nu:aD K d.bK ["self"] []
 my:Meth K a.dX "under_way" a.bK
 ji:Fun K "something_waits" "Hand.something_waits" cg a.aX d.aX
 jf:aD K d.aX ["self"] []
 iL:Meth K a.dX "something_waits" a.aX
 sG:Fun K "__init__" "Heart.__init__" iZ a.dE d.dE
 rL:aD K d.dE ["self","store","size","rounds","faults"] []
 u8:Fun K "take" "Heart.take" jH a.eM d.eM
 uJ:aD K d.eM ["self"] []
 rN:Meth K a.bp "take" a.eM
 jZ:Fun K "check_answer" "Heart.check_answer" cX a.bf d.bf
 fo:aD K d.bf ["self","name"] []
 f9:Meth K a.bp "check_answer" a.bf
 qj:Fun K "answer" "Heart.answer" gG a.cn d.cn
 pO:aD K d.cn ["self","name","worth"] []
 oR:Meth K a.bp "answer" a.cn
 r9:Fun K "tasks" "Heart.tasks" iQ a.dD d.dD
 lB:aD K d.dD ["self"] []
 kA:Meth K a.bp "tasks" a.dD
 iz:Fun K "something_waits" "Heart.something_waits" bZ a.aQ d.aQ
 iM:aD K d.aQ ["self"] []
 i8:Meth K a.bp "something_waits" a.aQ
 sy:Fun K "__init__" "Store.__init__" j8 a.dJ d.dJ
 rX:aD K d.dJ ["self"] []
 rB:Fun K "write" "Store.write" iS a.dH d.dH
 dP:aD K d.dH ["self","side","cell","worth"] []
 d8:Meth K a.aM "write" a.dH
 rT:Fun K "drain" "Store.drain" j9 a.dq d.dq
 lv:aD K d.dq ["self","side"] []
 kE:Meth K a.aM "drain" a.dq
 rS:Fun K "fence" "Store.fence" iF a.du d.du
 lu:aD K d.du ["self","side"] []
 kz:Meth K a.aM "fence" a.du
 tT:Fun K "read" "Store.read" jP a.en d.en
 dL:aD K d.en ["self","side","cell"] []
 cL:Meth K a.aM "read" a.en
 pZ:Fun K "memory" "Store.memory" gL a.cC d.cC
 kC:aD K d.cC ["self","cell"] []
 ju:Meth K a.aM "memory" a.cC
 sj:Fun K "waits" "Store.waits" iB a.dj d.dj
 fB:aD K d.dj ["self","side"] []
 eU:Meth K a.aM "waits" a.dj
 rZ:Fun K "cells" "Store.cells" iO a.dF d.dF
 rM:aD K d.dF ["self"] []
 qm:Meth K a.aM "cells" a.dF
 qO:Fun K "is_whole" "is_whole" mo a.iY d.iY
 yg:aD K d.iY ["value"] []
 xE:mg "is_whole"=dk (.ref a.iY)
 tZ:Fun K "is_part" "is_part" pF a.kG d.kG
 yN:aD K d.kG ["value","kind"] []
 yX:mg "is_part"=dk (.ref a.kG)
 uc:Fun K "is_deed" "is_deed" oH a.kO d.kO
 Ax:aD K d.kO ["some"] []
 A3:mg "is_deed"=dk (.ref a.kO)
 sW:Fun K "side_of" "side_of" pH a.kH d.kH
 AM:aD K d.kH ["some"] []
 zL:mg "side_of"=dk (.ref a.kH)
 yz:Fun K "text_of" "text_of" pj a.kN d.kN
 zH:aD K d.kN ["cell"] []
 A5:mg "text_of"=dk (.ref a.kN)
 uj:Fun K "__init__" "Yard.__init__" jM a.eL d.eL
 uE:aD K d.eL ["self","size","rounds","names","faults"] []
 uY:Fun K "deed" "Yard.deed" kI a.fI d.fI
 dA:aD K d.fI ["self","some"] []
 cI:Meth K a.bo "deed" a.fI
 lg:Fun K "can_be_done" "Yard.can_be_done" dU a.bq d.bq
 lQ:aD K d.bq ["self","worths"] []
 kL:Meth K a.bo "can_be_done" a.bq
 tR:Fun K "story" "Yard.story" jv a.ez d.ez
 tM:aD K d.ez ["self"] []
 rD:Meth K a.bo "story" a.ez
 tm:Fun K "state" "Yard.state" jy a.eK d.eK
 jj:aD K d.eK ["self"] []
 ix:Meth K a.bo "state" a.eK
 pS:Fun K "sleeper" "Yard.sleeper" gQ a.cz d.cz
 d9:aD K d.cz ["self","side"] []
 cE:Meth K a.bo "sleeper" a.cz
 ua:Fun K "store" "Yard.store" jJ a.eA d.eA
 uu:aD K d.eA ["self"] []
 rp:Meth K a.bo "store" a.eA
 uF:Fun K "check" "Yard.check" jo a.eE d.eE
 mW:aD K d.eE ["self","some"] []
 lN:Meth K a.bo "check" a.eE
 m6:Fun K "is_allowed" "Yard.is_allowed" eu a.bx d.bx
 m9:aD K d.bx ["self","some"] []
 ln:Meth K a.bo "is_allowed" a.bx
 nK:Fun K "thinkable" "Yard.thinkable" fm a.bP d.bP
 nE:aD K d.bP ["self","worths"] []
 mD:Meth K a.bo "thinkable" a.bP
 sJ:Fun K "do_ask" "Yard.do_ask" ip a.dm d.dm
 sE:aD K d.dm ["self","worth"] []
 qh:Meth K a.bo "do_ask" a.dm
 nG:Fun K "do_answer" "Yard.do_answer" ff a.bN d.bN
 nI:aD K d.bN ["self","name","worth"] []
 mL:Meth K a.bo "do_answer" a.bN
 l6:Fun K "tell_fetched" "Yard.tell_fetched" dI a.bn d.bn
 gj:aD K d.bn ["self","word","told"] []
 fq:Meth K a.bo "tell_fetched" a.bn
 pK:Fun K "do_bell" "Yard.do_bell" gF a.cu d.cu
 pP:aD K d.cu ["self","side"] []
 pB:Meth K a.bo "do_bell" a.cu
 rC:Fun K "do_lie" "Yard.do_lie" iP a.dn d.dn
 sB:aD K d.dn ["self","side"] []
 pU:Meth K a.bo "do_lie" a.dn
 qv:Fun K "do_look" "Yard.do_look" gH a.cB d.cB
 qa:aD K d.cB ["self","side"] []
 oj:Meth K a.bo "do_look" a.cB
 jh:Fun K "something_waits" "Yard.something_waits" ci a.aZ d.aZ
 jg:aD K d.aZ ["self","side"] []
 ij:Meth K a.bo "something_waits" a.aZ
 fu:Fun K "_law_cell_at" "_law_cell_at" io a.dB d.dB
 iU:aD K d.dB ["script","k"] []
 ie:mg "_law_cell_at"=dk (.ref a.dB)
 oZ:Fun K "_law_codes" "_law_codes" kM a.fL d.fL
 uU:aD K d.fL ["cells","most"] []
 uW:mg "_law_codes"=dk (.ref a.fL)
 qy:Fun K "_law_make" "_law_make" lW a.iK d.iK
 xX:aD K d.iK ["cell"] []
 xC:mg "_law_make"=dk (.ref a.iK)
 gY:Fun K "_law_same" "_law_same" mE a.j7 d.j7
 jX:aD K d.j7 ["found","due"] []
 jW:mg "_law_same"=dk (.ref a.j7)
 kQ:Fun K "_law_worth" "_law_worth" kZ a.fO d.fO
 oG:aD K d.fO ["code"] []
 pI:mg "_law_worth"=dk (.ref a.fO)
 qG:Fun K "_law_deed" "_law_deed" mO a.iA d.iA
 xz:aD K d.iA ["code","tasks"] []
 xK:mg "_law_deed"=dk (.ref a.iA)
 kX:Fun K "_law_tried" "_law_tried" kP a.fQ d.fQ
 pA:aD K d.fQ ["yard","deed"] []
 pC:mg "_law_tried"=dk (.ref a.fQ)
 oE:Fun K "_law_after" "_law_after" kJ a.gf d.gf
 vE:aD K d.gf ["tasks","deed","told"] []
 vf:mg "_law_after"=dk (.ref a.gf)
 eO:Fun K "_law_heart_works" "_law_heart_works" eQ a.bA d.bA
 hG:aD K d.bA ["yard"] []
 gZ:mg "_law_heart_works"=dk (.ref a.bA)
 ce:Fun K "_law_hand_works" "_law_hand_works" fg a.bQ d.bQ
 di:aD K d.bQ ["yard"] []
 dg:mg "_law_hand_works"=dk (.ref a.bQ)
 eX:Fun K "_law_places" "_law_places" jt a.eG d.eG
 gz:aD K d.eG ["story","word","name"] []
 gE:mg "_law_places"=dk (.ref a.eG)
 jC:Fun K "_law_each_once" "_law_each_once" gk a.c6 d.c6
 oW:aD K d.c6 ["story"] []
 oN:mg "_law_each_once"=dk (.ref a.c6)
 GY:Fun K "law" "law" Dv a.law d.law
 IJ:aD K d.law ["script"] []
 Iy:mg "law"=dk (.ref a.law)
 av:Cls K a.cm
 vK:mg "Ring"=dk (.ref a.cm)
 wf:Mk K a.cm a.eF
 bv:bb K a.cm "shelf"
 bI:bb K a.cm "side"
 mP:bb K a.cm "word"
 eV:bb K a.cm "laid"
 dS:bb K a.cm "fetched"
 eY:bb K a.cm "size"
 gO:bb K a.cm "rounds"
 bH:bb K a.cm "counter_first"
 bG:Cls K a.dX
 FJ:mg "Hand"=dk (.ref a.dX)
 Fp:Mk K a.dX a.eP
 jK:bb K a.dX "asks"
 fM:bb K a.dX "answers"
 lr:bb K a.dX "names"
 cO:bb K a.dX "going"
 bD:Cls K a.bp
 DC:mg "Heart"=dk (.ref a.bp)
 DK:Mk K a.bp a.dE
 ik:bb K a.bp "asks"
 fe:bb K a.bp "answers"
 cZ:bb K a.bp "doing"
 aH:Cls K a.aM
 Et:mg "Store"=dk (.ref a.aM)
 Er:Mk K a.aM a.dJ
 dW:bb K a.aM "held"
 c8:bb K a.aM "rows"
 aj:Cls K a.bo
 FG:mg "Yard"=dk (.ref a.bo)
 G7:Mk K a.bo a.eL
 um:bb K a.bo "size"
 qx:bb K a.bo "rounds"
 pQ:bb K a.bo "faults"
 aJ:bb K a.bo "shelf"
 dN:bb K a.bo "hand"
 c7:bb K a.bo "heart"
 fU:bb K a.bo "bell_fences"
 gw:bb K a.bo "lie_fences"
 i4:bb K a.bo "look_sees"
 aN:bb K a.bo "sleepers"
 fE:bb K a.bo "quiet"
 cf:bb K a.bo "happened"
 Hc:mg "all"=IX
 wN:mg "bool"=IX
 Ed:mg "int"=IX
 aO:mg "isinstance"=IX
 lm:mg "len"=IX
 yM:mg "list"=IX
 mM:mg "range"=IX
 ye:mg "reversed"=IX
 rJ:mg "sorted"=IX
 AV:mg "str"=IX
 fj:mg "tuple"=IX
 GU:mg "zip"=IX
 vc:mg "RingError"=dk (.ref a.hV)
 yy:mg "Full"=dk (.ref a.uR)
 wc:mg "NoName"=dk (.ref a.gq)
 vS:mg "NoTask"=dk (.ref a.gD)
 nT:mg "NoDeed"=dk (.ref a.gT)
 Cy:mg "ASKS"=dk (.ref a.ki)
 CG:∀ H,SqT K H a.ki [.str "ask",.str "asked",.str "taken"]
 ue:mg "ANSWERS"=dk (.ref a.dc)
 uD:∀ H,SqT K H a.dc [.str "answer",.str "answered",.str "handed"]
 fw:mg "SLEEP_CELLS"=dk (.ref a.aP)
 fF:∀ H,SqT K H a.aP [.str "hand sleeps",.str "heart sleeps"]
 mQ:∃ t,mg "MOST_WORTH"=dk (.int 1000000000 t)
 DD:mg "FORMS"=dk (.ref a.kY)
 Dl:HQ K a.kY [("ask",a.fR),("collect",a.fV),("take",a.gc),("answer",a.fY),("bell",a.fJ),("lie",a.ge),("look",a.fT),("drain",a.fW)]
 As:∀ H,SqT K H a.fR [.str "worth"]
 Av:∀ H,SqT K H a.fV []
 zS:∀ H,SqT K H a.gc []
 zE:∀ H,SqT K H a.fY [.str "name",.str "worth"]
 Ak:∀ H,SqT K H a.fJ [.str "side"]
 yB:∀ H,SqT K H a.ge [.str "side"]
 yn:∀ H,SqT K H a.fT [.str "side"]
 zV:∀ H,SqT K H a.fW [.str "side"]
 xc_Full:excIn K a.uR veB "ValueError.__new__"=l'
 xc_NoName:excIn K a.gq veB "ValueError.__new__"=l'
 xc_NoTask:excIn K a.gD veB "ValueError.__new__"=l'
 xc_NoDeed:excIn K a.gT veB "ValueError.__new__"=l'
 IP:Ki K (.ref a.uR) (.ref a.hV)=dk l'
 IC:Ki K (.ref a.gq) (.ref a.hV)=dk l'
 Ip:Ki K (.ref a.gD) (.ref a.hV)=dk l'
 Il:Ki K (.ref a.gT) (.ref a.hV)=dk l'
 HF:Ki K (.ref a.gT) (.ref a.gT)=dk l'
 IH:Ki K (.ref a.gT) (.ref a.uR)=dk f'
 Ii:Ki K (.ref a.gT) (.ref a.gq)=dk f'
 Iz:Ki K (.ref a.gT) (.ref a.gD)=dk f'
 HD:Ki K (.ref a.uR) (.ref a.gT)=dk f'
 Hy:Ki K (.ref a.uR) (.ref a.uR)=dk l'
 Ig:Ki K (.ref a.uR) (.ref a.gq)=dk f'
 Ij:Ki K (.ref a.uR) (.ref a.gD)=dk f'
 Gy:Ki K (.ref a.gq) (.ref a.gT)=dk f'
 Ht:Ki K (.ref a.gq) (.ref a.uR)=dk f'
 GI:Ki K (.ref a.gq) (.ref a.gq)=dk l'
 IG:Ki K (.ref a.gq) (.ref a.gD)=dk f'
 Hu:Ki K (.ref a.gD) (.ref a.gT)=dk f'
 GD:Ki K (.ref a.gD) (.ref a.uR)=dk f'
 GA:Ki K (.ref a.gD) (.ref a.gq)=dk f'
 GW:Ki K (.ref a.gD) (.ref a.gD)=dk l'
set_option genInjectivity true
set_option genSizeOfSpec true
def rY {c A B:Prop} [Decidable c] (hc:¬ c) (h:B):if decide c=l' then A else B:=by
 rw[decide_eq_false hc];exact dY h
def zU {c A B:Prop} [Decidable c] (hc:c) (h:A):if decide c=l' then A else B:=by
 rw[Pd hc];exact gJ h
def iD {i j:Int}(h:V.int i=V.int j):i=j:=by injection h
def sne {a b:Str}(h:a≠b):¬ V.str a=V.str b:=λy=>h (by injection y)
def l3 {x y z:V}:[x,y,z].length <= Je:=by show 3 <= Je;decide
def yP (w:Jj) (C:G'):Sp:=λvs H Q _=>∃ x dx,vs=[.ref x]/\H x=dk (.ins C dx []) /\
 ∀ (hd rl:G') (l:Bool->G') (H':Hp),H hd=IX->H rl=IX->(∀ b,H (l b)=IX)->Sto w C H' x hd rl l [] (λ_=>[])->Kp [x] H H'->Q .non H'
def wj (w:Jj) (C:G'):Sp:=λvs H Q _=>∃ (x hd rl:G') (l:Bool->G') (M:List (IV × V)) (r:Bool->List (IV × V)) (b:Bool) (cv wv:V) (k:IV),vs=[.ref x,.int (sdI b),cv,wv]/\Sto w C H x hd rl l M r/\(r b).length < 100000/\nL H k cv /\
 ∀ H',Sto w C H' x hd rl l M (aF r b (r b++[(k,wv)]))->Kp [l b] H H'->Q .non H'
def vJ (w:Jj) (C:G'):Sp:=λvs H Q _=>∃ (x hd rl:G') (l:Bool->G') (M:List (IV × V)) (r:Bool->List (IV × V)) (b:Bool) (k:IV) (v:V) (rest:List (IV × V)),vs=[.ref x,.int (sdI b)]/\Sto w C H x hd rl l M r/\r b=(k,v) :: rest/\M.length < 100000 /\
 ∀ H',Sto w C H' x hd rl l (uP M k v) (aF r b rest)->Kp [l b,hd] H H'->Q .non H'
def wg (w:Jj) (C:G'):Sp:=λvs H Q _=>∃ (x hd rl:G') (l:Bool->G') (M:List (IV × V)) (r:Bool->List (IV × V)) (b:Bool),vs=[.ref x,.int (sdI b)]/\Sto w C H x hd rl l M r/\M.length+(r b).length < 100000 /\
 ∀ H',Sto w C H' x hd rl l (lE M (r b)) (aF r b [])->Kp [l b,hd] H H'->Q .non H'
def AL (w:Jj) (C:G'):Sp:=λvs H Q _=>∃ (x hd rl:G') (l:Bool->G') (M:List (IV × V)) (r:Bool->List (IV × V)) (b:Bool) (cv:V) (k:IV),vs=[.ref x,.int (sdI b),cv]/\Sto w C H x hd rl l M r/\nL H k cv/\Q (cr M (r b) k) H
def tP (w:Jj) (C:G'):Sp:=λvs H Q _=>∃ (x hd rl:G') (l:Bool->G') (M:List (IV × V)) (r:Bool->List (IV × V)) (cv:V) (k:IV),vs=[.ref x,cv]/\Sto w C H x hd rl l M r/\nL H k cv/\Q ((cK M k).getD (.int 0)) H
def wM (w:Jj) (C:G'):Sp:=λvs H Q _=>∃ (x hd rl:G') (l:Bool->G') (M:List (IV × V)) (r:Bool->List (IV × V)) (b:Bool),vs=[.ref x,.int (sdI b)]/\Sto w C H x hd rl l M r /\
 ∀ (p:G') (ts:List V),H p=IX->Jv (Wt H) (r b) ts->Q (.ref p) (upd H p (.lst ts))
def GX:100000 <= Je:=by decide
def l2 {x y:V}:[x,y].length <= Je:=by show 2 <= Je;decide
section
variable {P:Jy}{w:Jj}{K:Ja}{mg:Str->Option IU}{base:JD}{a:Ad}{d:Fd}
def Ds (G:Gs K mg a d):FnOk P w K mg base CX0 1 a.dJ d.dJ ["self"] (yP w a.aM):=by
 refine G.sy.ok qr (λvs H Q E h=>?_) (λcdv A outer s H vs Q E hr h=>?_)
 . obtain⟨x,dx,rfl,_⟩:=h;rfl
 . obtain⟨x,dx,rfl,hx,k⟩:=h;refine⟨_,((bJ (pv 0) Ef rfl)∪(@ao _ _ _ (bJ (pv 0) (@eg _ _ _ _ ((@eg _ _ _ _ aa)∣((@eg _ _ _ _ aa)∣aa))) rfl))),?_⟩;intro hd hhd;have n0:x≠hd:=ag hx hhd;refine⟨_,rfl,x,a.aM,dx,[],rfl,(by rw[ac n0];exact hx),G.aH,G.dW,(by show 0 < 1000;decide),?_⟩;refine⟨by show 0 <= Je;decide,λl0 h0=>⟨by show 0 <= Je;decide,λl1 h1=>⟨l2,λrl hrl=>⟨_,rfl,x,a.aM,dx,bR "held" (.ref hd) [],rfl,?_,G.aH,G.c8,by show 1 < 1000;decide,?_⟩⟩⟩⟩
   all_goals
    have m0:x≠l0:=ag a8 h0;have m1:x≠l1:=ag (o:=.ins a.aM dx (bR "held" (.ref hd) [])) (by rw[ac m0];exact a8) h1;have m2:x≠rl:=ag (o:=.ins a.aM dx (bR "held" (.ref hd) [])) (by rw[ac m1,ac m0];exact a8) hrl
   . rw[ac m2,ac m1,ac m0];exact a8
   . have q0:hd≠l0:=ag (o:=l7 hd [] 0) (by rw[ac n0.symm];exact a8) h0;have q1:hd≠l1:=ag (o:=l7 hd [] 0) (by rw[ac q0,ac n0.symm];exact a8) h1;have q2:hd≠rl:=ag (o:=l7 hd [] 0) (by rw[ac q1,ac q0,ac n0.symm];exact a8) hrl;have r1:l0≠l1:=ag a8 h1;have r2:l0≠rl:=ag (o:=.lst []) (by rw[ac r1];exact a8) hrl;have r3:l1≠rl:=ag a8 hrl;have e0:∀ c o,H c=dk o->c≠hd:=λc o e=>ag e hhd
     have f0:H l0=IX:=by
      cases z:H l0 with
     |none=>rfl
     |some o=>rw[ac m0.symm,ac q0.symm,z]at h0;cases h0
     have f1:H l1=IX:=by
      cases z:H l1 with
     |none=>rfl
     |some o=>rw[ac r1.symm,ac m1.symm,ac q1.symm,z]at h1;cases h1
     have f2:H rl=IX:=by
      cases z:H rl with
     |none=>rfl
     |some o=>rw[ac r3.symm,ac r2.symm,ac m2.symm,ac q2.symm,z]at hrl;cases hrl
     refine k hd rl (λb=>if b then l1 else l0) _ hhd f2 (λb=>by cases b;exact f0;exact f1) ⟨⟨dx,a8⟩,⟨[],0,by rw[ac n0.symm,ac q2,ac q1,ac q0,ac n0.symm,a8],.nil,nodup_nil,Kq _⟩,by rw[ac m2.symm,a8];rfl,λb=>⟨[],?_,.nil⟩,r1,λb=>by cases b;exact r2;exact r3⟩ λc o n e=>?_
     . cases b
       . show upd _ x _ l0=_;rw[ac m0.symm,ac r2,ac r1,a8]
       . show upd _ x _ l1=_;rw[ac m1.symm,ac r3,a8]
     . have c0:c≠x:=λz=>n (IW.mpr z)
       rw[ac c0,ac (ag e f2),ac (ag e f1),ac (ag e f0),ac c0,ac (e0 c o e)];exact e
def lz (G:Gs K mg a d):FnOk P w K mg base CX0 1 a.dH d.dH ["self","side","cell","worth"] (wj w a.aM):=by
 refine G.rB.ok pL (λvs H Q E h=>?_) (λcdv A outer s H vs Q E hr h=>?_)
 . obtain⟨x,hd,rl,l,M,r,b,cv,wv,k,rfl,_⟩:=h;rfl
 . obtain⟨x,hd,rl,l,M,r,b,cv,wv,k,rfl,S,hlen,hk,q⟩:=h;refine⟨_,(@ao _ _ _ (@aB _ _ _ _ (@l8 _ _ _ _ _ _ _ _ _ _ _ _ JF Kg PySem.F.type_list_append dR (@aA _ _ _ _ _ _ _ aV (ak (pv 0) rfl) (pv 1) (λ_ _=>rfl)) ((@b8 _ _ _ _ _ ((pv 2)∣((pv 3)∣aa)))∣aa) (by rfl) (by rfl) (by rfl) (by rfl) (by rfl)) (by rfl))),?_⟩;obtain⟨dx,hx⟩:=S.ob;obtain⟨ts,hl,hp⟩:=S.rw b;have hn:=be hp;refine⟨_,rfl,x,a.aM,dx,_,_,rfl,hx,G.aH,G.c8,jS,_,rfl,rl,_,_,_,rfl,rfl,SqL.of S.ro,qz b,.inl ⟨rfl,_,SqL.of hl⟩,_,rfl,_,rfl,l2,λt ht=>⟨l b,ts,.ref t,rfl,rfl,by rw[ac (ag hl ht)];exact hl,Jf (by omega) GX,?_⟩⟩;have tne:∀ c o,H c=dk o->c≠t:=λc o e=>ag e ht
   have tl:t≠l b:=(tne _ _ hl).symm;have kp:Kp [l b] H (upd (upd H t (.tup [cv,wv])) (l b) (.lst (ts++[.ref t]))):=λc o n e=>by
    rw[ac λz=>n (IW.mpr z),ac (tne c o e)];exact e
   have kt:∀ c vs,H c=dk (.tup vs)->upd (upd H t (.tup [cv,wv])) (l b) (.lst (ts++[.ref t])) c=dk (.tup vs):=λc vs e=>kp c _ (λz=>by
    rw[IW.mp z,hl]at e;cases e) e
   refine q _ ⟨⟨dx,kp _ _ (λz=>by rw[IW.mp z,hl]at hx;cases hx) hx⟩,S.me.keepS (λo e=>kp _ _ (λz=>by
    obtain⟨es,e'⟩:=S.me.there;rw[IW.mp z,hl]at e';cases e') e) kt,kp _ _ (λz=>S.nr b (IW.mp z).symm) S.ro,λc=>?_,S.nl,S.nr⟩ kp
   by_cases z:c=b
   . subst z;rw[ap];exact⟨_,a8,Jv.snoc (Paired.mapP hp λ_ _ q=>q.keep kt) ⟨t,cv,rfl,by rw[ac tl];exact a8,hk.keep kt⟩⟩
   . rw[aG z];exact(S.rw c).keep (λo e=>kp _ _ (λy=>by
      have y':=IW.mp y;cases c<;>cases b
      . exact z rfl
      . exact S.nl y'
      . exact S.nl y'.symm
      . exact z rfl) e) kt
def wK (G:Gs K mg a d):FnOk P w K mg base CX0 1 a.dq d.dq ["self","side"] (vJ w a.aM):=by
 refine G.rT.ok kB (λvs H Q E h=>?_) (λcdv A outer s H vs Q E hr h=>?_)
 . obtain⟨x,hd,rl,l,M,r,b,k,v,rest,rfl,_⟩:=h;rfl
 . obtain⟨x,hd,rl,l,M,r,b,k,v,rest,rfl,S,hrow,hlen,q⟩:=h;refine⟨_,((aS (eW (rK (@aA _ _ _ _ _ _ _ aV (ak (pv 0) rfl) (pv 1) (λ_ _=>rfl)) (λ_=>rfl))) (@ao _ _ _ BE) aq)∪((@b9 _ _ 2 _ _ _ _ kB.nd rfl (JJ rfl) (@l8 _ _ _ _ _ _ _ _ _ _ _ _ JF PySem.F.slot_list_pop PySem.F.type_list_pop Bx (@aA _ _ _ _ _ _ _ aV (ak (pv 0) rfl) (pv 1) (λ_ _=>rfl)) (ae∣aa) (by rfl) (by rfl) (by rfl) (by rfl) (by rfl)) (by rfl) (by first|exact .inl rfl|exact .inr rfl|assumption))∪(@ao _ _ _ (EM hr.units (ak (pv 0) rfl) (@aA _ _ _ _ _ _ _ aI (pv 2) ae (λ_ _=>rfl)) (@aA _ _ _ _ _ _ _ aI (pv 2) ae (λ_ _=>rfl)) rfl)))),?_⟩;obtain⟨dx,hx⟩:=S.ob;obtain⟨ts0,hl,hp0⟩:=S.rw b;rw[hrow]at hp0;cases hp0 with
  |@cons _ tv _ ts hw hp =>
    obtain⟨t,cv,rfl,ht,hk⟩:=hw;refine⟨_,rfl,x,a.aM,dx,_,_,rfl,hx,G.aH,G.c8,jS,_,rfl,rl,_,_,_,rfl,rfl,SqL.of S.ro,qz b,l',.inl ⟨_,SqL.of hl,rfl⟩,dY ?_⟩;refine⟨_,rfl,x,a.aM,dx,_,_,rfl,hx,G.aH,G.c8,jS,_,rfl,rl,_,_,_,rfl,rfl,SqL.of S.ro,qz b,.inl ⟨rfl,_,SqL.of hl⟩,l b,_,0,0,.ref t,rfl,rfl,hl,by decide,by decide,by simp[seqIndex?],rfl,?_⟩;have tl:t≠l b:=iq ht hl (by intro z;cases z);have kp:Kp [l b] H (upd H (l b) (.lst (List.eraseIdx (.ref t :: ts) 0))):=λc o n e=>by
     rw[ac λz=>n (IW.mpr z)];exact e
    have kt:∀ c vs,H c=dk (.tup vs)->upd H (l b) (.lst (List.eraseIdx (.ref t :: ts) 0)) c=dk (.tup vs):=λc vs e=>kp c _ (λz=>by
     rw[IW.mp z,hl]at e;cases e) e
    have hx':=kp x _ (λz=>by rw[IW.mp z,hl]at hx;cases hx) hx;have me':=S.me.keepS (λo e=>kp _ _ (λz=>by
     obtain⟨es,e'⟩:=S.me.there;rw[IW.mp z,hl]at e';cases e') e) kt
    have ro':=kp rl _ (λz=>S.nr b (IW.mp z).symm) S.ro;have ht':=kt t _ ht;have rw':∀ c,Ac (upd H (l b) (.lst (List.eraseIdx (.ref t :: ts) 0))) (l c) (aF r b rest c):=λc=>by
     by_cases z:c=b
     . subst z;rw[ap];exact⟨ts,a8,Paired.mapP hp λ_ _ q=>q.keep kt⟩
     . rw[aG z];exact(S.rw c).keep (λo e=>kp _ _ (λy=>by
        have y':=IW.mp y;cases c<;>cases b
        . exact z rfl
        . exact S.nl y'
        . exact S.nl y'.symm
        . exact z rfl) e) kt
    have hk':=hk.keep kt;refine⟨_,rfl,t,_,_,_,rfl,rfl,SqT.of ht',rfl,_,rfl,x,a.aM,dx,_,_,rfl,hx',G.aH,G.dW,o7,_,rfl,t,_,_,_,rfl,rfl,SqT.of ht',rfl,hd,M,k,rfl,me',Jf hlen GX,hk',λH4 g1 g2=>?_⟩;generalize upd H (l b) (.lst (List.eraseIdx (.ref t :: ts) 0))=H1 at kp kt hx' me' ro' ht' rw' hk' g1 |-;have hdn:∀ c o,H1 c=dk o->(∀ ee:List Jz × Nat,o≠l7 hd ee.1 ee.2)->c≠hd:=λc o e n z=>by
     obtain⟨es,e'⟩:=me'.there;rw[z,e']at e;exact n es (Jt e).symm
    have k4:∀ c o,c≠hd->H1 c=dk o->H4 c=dk o:=λc o n e=>by rw[g1 c n];exact e
    have kt4:∀ c vs,H1 c=dk (.tup vs)->H4 c=dk (.tup vs):=λc vs e=>k4 c _ (hdn c _ e λes z=>by cases z) e
    refine q H4 ⟨⟨dx,k4 _ _ (hdn _ _ hx' λes z=>by cases z) hx'⟩,g2,k4 _ _ (hdn _ _ ro' λes z=>by cases z) ro',λc=>(rw' c).keep (λo e=>k4 _ _ (by
     obtain⟨ts',e',_⟩:=rw' c;exact hdn _ _ e' λes z=>by cases z) e) kt4,S.nl,S.nr⟩ λc o n e=>?_
    exact k4 c o (λz=>n (by rw[z];simp)) (kp c o (λz=>n (by rw[IW.mp z];simp)) e)
def sT (G:Gs K mg a d):FnOk P w K mg base CX0 1 a.cC d.cC ["self","cell"] (tP w a.aM):=by
 refine G.pZ.ok pq (λvs H Q E h=>?_) (λcdv A outer s H vs Q E hr h=>?_)
 . obtain⟨x,hd,rl,l,M,r,cv,k,rfl,_⟩:=h;rfl
 . obtain⟨x,hd,rl,l,M,r,cv,k,rfl,S,hk,q⟩:=h;refine⟨_,((Cg hr.units (ak (pv 0) rfl) (pv 1) ae ⟨rfl,rfl,rfl,rfl⟩)⁻¹),?_⟩;obtain⟨dx,hx⟩:=S.ob;exact⟨_,rfl,x,a.aM,dx,_,_,rfl,hx,G.aH,G.dW,o7,hd,rfl,⟨_,S.me⟩,_,rfl,M,k,S.me,hk,q⟩
def rH (G:Gs K mg a d):FnOk P w K mg base CX0 1 a.dj d.dj ["self","side"] (wM w a.aM):=by
 refine G.sj.ok pW (λvs H Q E h=>?_) (λcdv A outer s H vs Q E hr h=>?_)
 . obtain⟨x,hd,rl,l,M,r,b,rfl,_⟩:=h;rfl
 . obtain⟨x,hd,rl,l,M,r,b,rfl,S,q⟩:=h;refine⟨_,((cY mX (by rfl) G.yM vx ((@aA _ _ _ _ _ _ _ aV (ak (pv 0) rfl) (pv 1) (λ_ _=>rfl))∣aa))⁻¹),?_⟩;obtain⟨dx,hx⟩:=S.ob;obtain⟨ts,hl,hp⟩:=S.rw b;exact⟨_,rfl,x,a.aM,dx,_,_,rfl,hx,G.aH,G.c8,jS,_,rfl,rl,_,_,_,rfl,rfl,SqL.of S.ro,qz b,l b,ts,rfl,.inl (SqL.of hl),λp hp'=>q p ts hp' hp⟩
def wx (G:Gs K mg a d):FnOk P w K mg base CX0 2 a.du d.du ["self","side"] (wg w a.aM):=by
 have Oj:FnOk P w K mg base CX0 1 _ _ _ _:=wK G;refine G.rS.ok pV (λvs H Q E h=>?_) (λcdv A outer s H vs Q E hr h=>?_)
 . obtain⟨x,hd,rl,l,M,r,b,rfl,_⟩:=h;rfl
 . obtain⟨x,hd,rl,l,M,r,b,rfl,S,hlen,q⟩:=h;refine⟨_,(@ao _ _ _ (nO JS (rK (@aA _ _ _ _ _ _ _ aV (ak (pv 0) rfl) (pv 1) (λ_ _=>rfl)) (λ_=>rfl)) (@ao _ _ _ (@aB _ _ _ _ (ax (pv 0) G.aH G.kE Oj (hr.mono (by decide)) G.lv .nil ay ((pv 1)∣aa)) (by rfl))))),?_⟩;refine⟨λm σ H'=>σ=[dk (.ref x),dk (.int (sdI b))]/\∃ (M' es:List (IV × V)),Sto w a.aM H' x hd rl l M' (aF r b es)/\m=es.length/\lE M' es=lE M (r b)/\M'.length+es.length < 100000/\Kp [l b,hd] H H',
    ⟨_,rfl,M,r b,by rw[show aF r b (r b)=r from funext λc=>by unfold aF;split;(rename_i z;rw[z]);rfl];exact S,rfl,rfl,hlen,Kp.refl _ _⟩,?_⟩
   rintro m σ H' ⟨rfl,M',es,S',rfl,hd',hl',kp⟩;obtain⟨dx,hx⟩:=S'.ob;obtain⟨ts,hl,hp⟩:=S'.rw b;rw[ap]at hp;have hn:=be hp;refine⟨_,rfl,x,a.aM,dx,_,_,rfl,hx,G.aH,G.c8,jS,_,rfl,rl,_,_,_,rfl,rfl,SqL.of S'.ro,qz b,!ts.isEmpty,.inl ⟨_,SqL.of hl,rfl⟩,?_⟩;refine yj (λht=>?_) (λht=>?_)
   . cases es with
    |nil =>
      cases hp;cases ht
    |cons p es =>
      refine⟨_,λσ' H2 z=>z,?_⟩;refine⟨_,rfl,x,dx,_,rfl,hx,cq (by decide +kernel) (by decide +kernel),_,rfl,x,hd,rl,l,M',_,b,p.1,p.2,es,rfl,S',ap,by rw[JH]at hl';omega,λH2 S2 kp2=>?_⟩;refine⟨es.length,by rw[JH];omega,rfl,uP M' p.1 p.2,es,?_,rfl,hd',by have:=BW M' p.1 p.2;rw[JH]at hl';omega,kp.trans kp2⟩;rw[show aF (aF r b (p :: es)) b es=aF r b es from funext λc=>by unfold aF;split<;>rfl]at S2;exact S2
   . cases es with
    |nil =>
      have e:lE M' []=M':=rfl;rw[e]at hd';rw[hd']at S';exact q H' S' kp
    |cons p es =>
      cases hp with
     |cons _ _=>exact absurd rfl ht
def sI (G:Gs K mg a d):FnOk P w K mg base CX0 2 a.en d.en ["self","side","cell"] (AL w a.aM):=by
 have Om:FnOk P w K mg base CX0 1 _ _ _ _:=sT G;refine G.tT.ok lS (λvs H Q E h=>?_) (λcdv A outer s H vs Q E hr h=>?_)
 . obtain⟨x,hd,rl,l,M,r,b,cv,k,rfl,_⟩:=h;rfl
 . obtain⟨x,hd,rl,l,M,r,b,cv,k,rfl,S,hk,q⟩:=h;refine⟨_,((hZ JS rfl (Gb (by rfl) G.ye ((@aA _ _ _ _ _ _ _ aV (ak (pv 0) rfl) (pv 1) (λ_ _=>rfl))∣aa)) (bU (i:=3) lS.nd rfl (JJ rfl)) (@ao _ _ _ (aS (ar (tf hr.units) (@aA _ _ _ _ _ _ _ aI (pv 3) ae (λ_ _=>rfl)) (pv 2) (az _)) ((@aA _ _ _ _ _ _ _ aI (pv 3) ae (λ_ _=>rfl))⁻¹) aq)))∪((ax (pv 0) G.aH G.ju Om (hr.mono (by decide)) G.kC .nil ay ((pv 2)∣aa))⁻¹)),?_⟩;obtain⟨dx,hx⟩:=S.ob;obtain⟨ts,hl,hp⟩:=S.rw b;have hn:=be hp;refine⟨_,rfl,x,a.aM,dx,_,_,rfl,hx,G.aH,G.c8,jS,_,rfl,rl,_,_,_,rfl,rfl,SqL.of S.ro,qz b,l b,ts,rfl,SqL.of hl,?_⟩;refine DT (K:=K) (a:=l b) (xs:=ts) (λi σ H'=>(∃ v,σ=[dk (.ref x),dk (.int (sdI b)),dk cv,v])/\H'=H/\∀ p∈((r b).reverse.take i),Jm p.1 k=f')
    ⟨⟨_,rfl⟩,rfl,λp hp=>by cases hp⟩ (λ_ _ _ _ z=>by rw[z.2.1];exact SqL.of hl) ?_ ?_
   . rintro i y σ H' hi hy ⟨⟨v,rfl⟩,rfl,hno⟩;obtain⟨p,e1,t,tc,rfl,ht,hc⟩:=MX.f2_get hp _ _ hy;have hrev:(r b).reverse[i]?=dk p:=by
      rw[List.getElem?_reverse (by omega)];rw[hn];exact e1
     refine⟨_,rfl,t,_,_,_,rfl,rfl,SqT.of ht,rfl,_,rfl,p.1,k,hc.2.2.1,hk.2.2.1,rc.key hc.1 hc.2.1,rc.key hk.1 hk.2.1,_,rfl,?_⟩;simp only[JP,if_false];refine yj (λhe=>?_) (λhe=>?_)
     . refine⟨_,rfl,t,_,_,_,rfl,rfl,SqT.of ht,rfl,?_⟩;have e:cr M (r b) k=p.2:=by
        unfold cr;have hfind:(r b).reverse.find? (λp=>Jm p.1 k)=dk p:=by
         rw[List.find?_eq_some_iff_getElem];refine⟨he,i,(Jp.mp hrev).1,(Jp.mp hrev).2,λj hj=>?_⟩;rw[hno _ (Ju (by rw[getElem?_take,Pa hj];exact Jb _))];rfl
        rw[hfind]
       rw[e]at q;exact q
     . refine⟨⟨_,rfl⟩,rfl,λp' hp'=>?_⟩;rw[take_succ,hrev]at hp';rcases JB.mp hp' with z|z
       . exact hno p' z
       . rw[show p'=p by simpa using z];cases w':Jm p.1 k with
        |false=>rfl
        |true=>exact absurd w' he
   . rintro σ H' ⟨⟨v,rfl⟩,rfl,hno⟩;refine⟨_,rfl,x,dx,_,rfl,hx,cq (by decide +kernel) (by decide +kernel),_,rfl,x,hd,rl,l,M,r,cv,k,rfl,S,hk,?_⟩;have e:cr M (r b) k=(cK M k).getD (.int 0):=by
      unfold cr;have hfind:(r b).reverse.find? (λp=>Jm p.1 k)=IX:=by
       rw[find?_eq_none];intro p hp';rw[hno p (by rw[Kx (by rw[List.length_reverse];omega)];exact hp')];decide
      rw[hfind]
     rw[e]at q;exact q
def WV (H:Hp) (v:V):Prop:=∃ d,MX.kd d=l'/\d.depth <= 8/\DV H d v
def WV.zero {H:Hp}{v:V}{d:IV}(h:MX.kd d=l') (hv:DV H d v):(Jm d (.int 0)=l' ↔ v=.int 0):=by
 rw[MX.eqv_iff d _ h rfl];constructor
 . rintro rfl;exact hv
 . rintro rfl;cases d with
  |int i =>
    have:V.int 0=V.int i:=hv;rw[iD this]
  |str t=>cases (show V.int 0=V.str t from hv)
  |tuple ds=>obtain⟨_,_,e,_⟩:=hv;cases e
  |none=>cases h
  |bool=>cases h
  |list=>cases h
  |dict=>cases h
def nz (p:IV × V):Bool:=decide (p.2≠.int 0)
def Bq (w:Jj) (C:G'):Sp:=λvs H Q _=>∃ (x hd rl:G') (l:Bool->G') (M:List (IV × V)) (r:Bool->List (IV × V)),vs=[.ref x]/\Sto w C H x hd rl l M r/\Gp M/\M.length < 100000/\(∀ p∈M,WV H p.2) /\
 ∀ (p:G') (ts:List V),H p=IX->Jv (λ(kv:IV × V) t=>nL H kv.1 t) (M.filter nz) ts->Q (.ref p) (upd H p (.lst ts))
def BJ (G:Gs K mg a d):FnOk P w K mg base CX0 1 a.dF d.dF ["self"] (Bq w a.aM):=by
 refine G.rZ.ok pR (λvs H Q E h=>?_) (λcdv A outer s H vs Q E hr h=>?_)
 . obtain⟨x,hd,rl,l,M,r,rfl,_⟩:=h;rfl
 . obtain⟨x,hd,rl,l,M,r,rfl,S,top,hlen,hW,q⟩:=h;refine⟨_,((by exact mn (tc:=xO (tOp (Hv l') (CC w (HB K (qU 1) "held") (qU 0)) (tC (.int 0)))) (te:=qU 0) (caps:=["self"]) (js:=[0]) rfl (lT rfl rfl (by decide +kernel) (by decide +kernel) rfl ⟨rfl,trivial⟩ rfl rfl) (by decide +kernel) ⟨⟨⟨_,rfl⟩,rfl,.inl rfl,.inl rfl⟩,trivial⟩ (DG (ak (pv 0) rfl)) (λC s₃ H₃ Lz ex E'=>by exact rP (ar (Ct hr.units) (by exact Bl hr.units (ak (pv 1) rfl) (pv 0) (λ_ _=>rfl)) ae (az _))) (λC s₃ H₃ Lz ex E'=>by exact(pv 0)))⁻¹),?_⟩;obtain⟨dx,hx⟩:=S.ob;obtain⟨es,ep,h1,h2,h3,h4⟩:=id S.me;refine⟨_,rfl,x,a.aM,dx,_,_,rfl,hx,G.aH,G.dW,o7,hd,es,ep,M,rfl,h1,h2,top,λD hD=>?_⟩;have e0:∀ ys,c9 H (upd H D (.lst ys)):=λys=>ah hD
   refine⟨λi m ys H2=>i <= M.length/\m=M.length - i/\H2=upd H D (.lst ys)/\Jv (λ(kv:IV × V) t=>nL H kv.1 t) ((M.take i).filter nz) ys,⟨_,Kq _,rfl,rfl,.nil⟩,?_⟩;rintro i m ys H2 ⟨hi,rfl,rfl,hp⟩;have hyl:ys.length <= M.length:=by
    rw[<-be hp];refine JT (Lf _ _) ?_;rw[JK];omega
   refine⟨a8,Jf (lt_of_le_of_lt hyl hlen) GX,?_⟩;by_cases z:i=M.length
   . refine .inl ⟨⟨e0 ys _ _ h1,Paired.keys h2,by omega⟩,?_⟩;rw[z,take_length]at hp;exact q D ys hD hp
   . have hlt:i < M.length:=by omega
     refine .inr ⟨⟨e0 ys _ _ h1,Paired.mapP h2 λ_ _ q=>q.keep λb vs e=>e0 ys _ _ e,hlt⟩,?_⟩;rintro y H3 ⟨rfl,k,v,hkv,hk⟩;obtain⟨dv,w1,w2,w3⟩:=hW _ (Ju hkv);have hl:cK M k=dk v:=by
      have kk:=KK.of h2;obtain⟨v',g1,g2⟩:=nU (kk _ (Ju hkv)) kk h3 (j:=i) (by rw[JX,hkv];rfl);rw[hkv]at g1;cases g1;exact g2
     have S':=S.same (e0 ys);have hkH:nL H k y:=by
      obtain⟨e,he,k1,k2,k3,⟨x',rx,dx'⟩,k5⟩:=MX.f2_get' h2 i _ hkv;obtain⟨c1,c2,c3,c4⟩:=hk;refine⟨c1,c2,?_,c4⟩;exact yx hD (by
       intro xs z;cases z) c1 c3
     refine⟨_,rfl,x,a.aM,dx,_,_,rfl,e0 ys _ _ hx,G.aH,G.dW,o7,_,rfl,hd,M,k,v,rfl,S'.me,hk,hl,dv,.int 0,DV.keep (λb vs e=>e0 ys _ _ e) _ _ w1 w3,rfl,rc.key w1 w2,rc.int 0,_,rfl,?_⟩;have zz:=WV.zero w1 w3;have et:M.take (i+1)=M.take i++[(k,v)]:=by rw[take_succ,hkv];rfl
     simp only[if_true];refine yj (λhne=>?_) (λhne=>?_)
     . have hv:v≠.int 0:=λy=>by rw[zz.mpr y]at hne;cases hne
       refine⟨_,rfl,a8,M.length - (i+1),by omega,hlt,rfl,by rw[cU],?_⟩;rw[et,JU];have ef:[(k,v)].filter nz=[(k,v)]:=by
        rw[J0,Pa (show nz (k,v)=l' from Pd hv)];rfl
       rw[ef];exact Jv.snoc hp hkH
     . have hv:v=.int 0:=zz.mp (by
        cases y:Jm dv (.int 0) with
       |true=>rfl
       |false=>exact absurd (by rw[y];rfl) hne)
       refine⟨M.length - (i+1),by omega,hlt,rfl,trivial,?_⟩;rw[et,JU];have ef:[(k,v)].filter nz=[]:=by
        rw[J0,Pb (show ¬ nz (k,v)=l' from λy=>(of_decide_eq_true y) hv)];rfl
       rw[ef,Jw];exact hp
def Dp:Sp:=λvs H Q _=>∃ c s r:Int,vs=[.int c,.int s,.int r]/\0 < s/\s <= 8/\0 < s * r/\Q (.int ((c+1) % (s * r))) H
def BC:Sp:=λvs H Q _=>∃ c s:Int,vs=[.int c,.int s]/\0 < s/\Q (.int (c % s)) H
def Bb:Sp:=λvs H Q _=>∃ o b s r:Int,vs=[.int o,.int b,.int s,.int r]/\0 < s/\s <= 8/\0 < s * r/\Q (.int ((o - b) % (s * r))) H
def ER (G:Gs K mg a d):FnOk P w K mg base CX0 1 a.cx d.cx ["counter","size","rounds"] Dp:=by
 refine G.kD.ok oi (λvs H Q E h=>?_) (λcdv A outer st H vs Q E hr h=>?_)
 . obtain⟨c,s,r,rfl,_⟩:=h;rfl
 . obtain⟨c,s,r,rfl,h0,h1,h2,k⟩:=h;refine⟨_,((@aU _ _ _ _ _ _ _ _ bV (@aU _ _ _ _ _ _ _ _ p8 (pv 0) ae) (@aU _ _ _ _ _ _ _ _ sY (pv 1) (pv 2)))⁻¹),?_⟩;exact⟨_,rfl,_,_,rfl,rfl,_,rfl,_,rfl,_,_,rfl,rfl,oa (by omega) (by omega),_,_,rfl,rfl,h2,k⟩
def Bn (G:Gs K mg a d):FnOk P w K mg base CX0 1 a.iC d.iC ["counter","size"] BC:=by
 refine G.qM.ok vm (λvs H Q E h=>?_) (λcdv A outer st H vs Q E hr h=>?_)
 . obtain⟨c,s,rfl,_⟩:=h;rfl
 . obtain⟨c,s,rfl,h0,k⟩:=h;refine⟨_,((@aU _ _ _ _ _ _ _ _ bV (pv 0) (pv 1))⁻¹),?_⟩;exact⟨_,rfl,_,rfl,_,_,rfl,rfl,h0,k⟩
def BD (G:Gs K mg a d):FnOk P w K mg base CX0 1 a.iT d.iT ["one","other","size","rounds"] Bb:=by
 refine G.qK.ok vj (λvs H Q E h=>?_) (λcdv A outer st H vs Q E hr h=>?_)
 . obtain⟨o,b,s,r,rfl,_⟩:=h;rfl
 . obtain⟨o,b,s,r,rfl,h0,h1,h2,k⟩:=h;refine⟨_,((@aU _ _ _ _ _ _ _ _ bV (@aU _ _ _ _ _ _ _ _ oz (pv 0) (pv 1)) (@aU _ _ _ _ _ _ _ _ sY (pv 2) (pv 3)))⁻¹),?_⟩;exact⟨_,rfl,_,rfl,_,_,rfl,rfl,_,rfl,_,rfl,_,_,rfl,rfl,oa (by omega) (by omega),_,_,rfl,rfl,h2,k⟩
def Bz:Sp:=λvs H Q _=>∃ (R:Int) (ft:G') (fs:List Str),vs=[.int R,.ref ft]/\H ft=dk (.tup (fs.map V.str))/\Q (.int (if fs.contains "round" then 1 else R)) H
def Bm (K:Ja) (CR:G'):Sp:=λvs H Q _=>∃ (q dx st wa ft:G') (b:Bool) (w0 w1 w2:Str) (s R:Int) (fs:List Str),vs=[.ref q,.ref st,.int (sdI b),.ref wa,.int s,.int R,.ref ft]/\H q=dk (.ins CR dx [])/\(∀ H,SqT K H wa [.str w0,.str w1,.str w2])/\H ft=dk (.tup (fs.map V.str)) /\
 ∀ H',Rn CR H' q st b w0 w1 w2 ⟨s,if fs.contains "round" then 1 else R,fs.contains "counter"⟩->Kp [q] H H'->Q .non H'
def zJ (w:Jj) (CR CS:G'):Sp:=λvs H Q _=>∃ (q:G') (z:SA) (b:Bool) (w0 w1 w2:Str) (p:RP) (M:List (IV × V)) (r:Bool->List (IV × V)) (A T:Int),vs=[.ref q]/\Rn CR H q z.x b w0 w1 w2 p/\z.At w CS H M r/\p.Ok/\JL w1=l'/\JL w2=l' /\
 cr M (r b) (.str w1)=.int A/\cr M (r b) (.str w2)=.int T/\Q (.int ((A - T) % (p.s * p.R))) H
def Ex (w:Jj) (CR CS:G'):Sp:=λvs H Q _=>∃ (q:G') (z:SA) (b:Bool) (w0 w1 w2:Str) (p:RP) (M:List (IV × V)) (r:Bool->List (IV × V)) (A T:Int),vs=[.ref q]/\Rn CR H q z.x b w0 w1 w2 p/\z.At w CS H M r/\p.Ok/\JL w1=l'/\JL w2=l' /\
 cr M (r b) (.str w1)=.int A/\cr M (r b) (.str w2)=.int T/\Q (.bl (decide ((A - T) % (p.s * p.R)=p.s))) H
def xR (CR:G'):Sp:=λvs H Q _=>∃ (q st:G') (b:Bool) (w0 w1 w2:Str) (p:RP) (A:Int),vs=[.ref q,.int A]/\Rn CR H q st b w0 w1 w2 p/\p.Ok/\∀ t,H t=IX->Q (.ref t) (upd H t (.tup [.str w0,.int (A % p.s)]))
def x9 (w:Jj) (CR CS:G'):Sp:=λvs H Q _=>∃ (q:G') (z:SA) (b:Bool) (w0 w1 w2:Str) (p:RP) (M:List (IV × V)) (r:Bool->List (IV × V)) (A:Int) (cv:V) (k:IV),vs=[.ref q,cv,.int A]/\Rn CR H q z.x b w0 w1 w2 p/\z.At w CS H M r/\p.Ok/\(r b).length < 100000/\nL H k cv /\
 ∀ H',z.At w CS H' M (aF r b (r b++[(k,.int ((A+1) % (p.s * p.R)))]))->Kp [z.l b] H H'->Q .non H'
def F4 (w:Jj) (CR CS:G'):Sp:=λvs H Q _=>∃ (q:G') (z:SA) (b:Bool) (w0 w1 w2:Str) (p:RP) (M:List (IV × V)) (r:Bool->List (IV × V)) (A:Int) (nm wv:V),vs=[.ref q,nm,wv]/\Rn CR H q z.x b w0 w1 w2 p/\z.At w CS H M r/\p.Ok/\JL w0=l'/\JL w1=l'/\(r b).length < 99999 /\
 cr M (r b) (.str w1)=.int A/\∀ t H',H t=IX->H' t=dk (.tup [nm,wv])->z.At w CS H' M (aF r b (r b++og p w0 w1 A (.ref t)))->Kp [z.l b] H H'->Q .non H'
def BM (w:Jj) (CR CS:G'):Sp:=λvs H Q _=>∃ (q:G') (z:SA) (b:Bool) (w0 w1 w2:Str) (p:RP) (M:List (IV × V)) (r:Bool->List (IV × V)) (A T:Int),vs=[.ref q]/\Rn CR H q z.x b w0 w1 w2 p/\z.At w CS H M r/\p.Ok/\JL w0=l'/\JL w1=l'/\JL w2=l'/\(r b).length < 100000 /\
 cr M (r b) (.str w1)=.int A/\cr M (r b) (.str w2)=.int T/\(if (A - T) % (p.s * p.R)=0 then Q .non H else
  (∃ c vs,cr M (r b) (.tuple [.str w0,.int (T % p.s)])=.ref c/\H c=dk (.tup vs)/\∀ H',z.At w CS H' M (aF r b (r b++[(.str w2,.int ((T+1) % (p.s * p.R)))]))->Kp [z.l b] H H'->Q (.ref c) H') \/
  ∃ i,cr M (r b) (.tuple [.str w0,.int (T % p.s)])=.int i/\∀ t H',H t=IX->H' t=dk (.tup [.non,.non])->z.At w CS H' M (aF r b (r b++[(.str w2,.int ((T+1) % (p.s * p.R)))]))->Kp [z.l b] H H'->Q (.ref t) H')
def wP (G:Gs K mg a d):FnOk P w K mg base CX0 1 a.dG d.dG ["rounds","faults"] Bz:=by
 refine G.iE.ok pX (λvs H Q E h=>?_) (λcdv A outer s H vs Q E hr h=>?_)
 . obtain⟨R,ft,fs,rfl,_⟩:=h;rfl
 . obtain⟨R,ft,fs,rfl,hf,k⟩:=h;refine⟨_,((o8 (ar gX am (pv 1) (by with_unfolding_all rfl)) ae (pv 0))⁻¹),?_⟩;refine⟨_,rfl,ft,_,rfl,.inr (SqT.of hf),rfl,gW fs,_,rfl,?_⟩;simp only[JP,if_false];rw[sr];by_cases hb:fs.contains "round"=l'
   . rw[Pa hb]at k |-;exact k
   . rw[Pb hb]at k |-;exact⟨_,rfl,k⟩
def wL (G:Gs K mg a d):FnOk P w K mg base CX0 2 a.eF d.eF ["self","store","side","words","size","rounds","faults"] (Bm K a.cm):=by
 have O1:FnOk P w K mg base CX0 1 _ _ _ _:=wP G;refine G.tO.ok sC (λvs H Q E h=>?_) (λcdv A outer s H vs Q E hr h=>?_)
 . obtain⟨q,dx,st,wa,ft,b,w0,w1,w2,s,R,fs,rfl,_⟩:=h;rfl
 . obtain⟨q,dx,st,wa,ft,b,w0,w1,w2,s,R,fs,rfl,hx,hw,hf,k⟩:=h;refine⟨_,((bJ (pv 0) (pv 1) rfl)∪((bJ (pv 0) (pv 2) rfl)∪((bJ (pv 0) (@aA _ _ _ _ _ _ _ aI (pv 3) ae (λ_ _=>rfl)) rfl)∪((bJ (pv 0) (@aA _ _ _ _ _ _ _ aI (pv 3) ae (λ_ _=>rfl)) rfl)∪((bJ (pv 0) (@aA _ _ _ _ _ _ _ aI (pv 3) ae (λ_ _=>rfl)) rfl)∪((bJ (pv 0) (pv 4) rfl)∪((bJ (pv 0) (aR O1 (hr.mono (by decide)) (by rfl) G.l9 G.iE.kp G.lR .nil ay ((pv 5)∣((pv 6)∣aa))) rfl)∪(@ao _ _ _ (bJ (pv 0) (eo gX am (pv 6) (by with_unfolding_all rfl)) rfl))))))))),?_⟩;have nf:ft≠q:=iq hf hx (by intro z;cases z);have ft':∀ o,upd H q o ft=dk (.tup (fs.map V.str)):=λo=>by rw[ac nf];exact hf
   refine⟨_,rfl,_,rfl,q,a.cm,dx,[],rfl,hx,G.av,G.bv,by decide,?_⟩;refine⟨_,rfl,_,rfl,q,a.cm,dx,_,rfl,a8,G.av,G.bI,by show 1 < 1000;decide,?_⟩;rw[cU];refine⟨_,rfl,wa,_,_,_,rfl,rfl,hw _,rfl,_,rfl,q,a.cm,dx,_,rfl,a8,G.av,G.mP,by show 2 < 1000;decide,?_⟩;rw[cU];refine⟨_,rfl,wa,_,_,_,rfl,rfl,hw _,rfl,_,rfl,q,a.cm,dx,_,rfl,a8,G.av,G.eV,by show 3 < 1000;decide,?_⟩;rw[cU];refine⟨_,rfl,wa,_,_,_,rfl,rfl,hw _,rfl,_,rfl,q,a.cm,dx,_,rfl,a8,G.av,G.dS,by show 4 < 1000;decide,?_⟩;rw[cU];refine⟨_,rfl,_,rfl,q,a.cm,dx,_,rfl,a8,G.av,G.eY,by show 5 < 1000;decide,?_⟩;rw[cU];refine⟨_,rfl,_,rfl,R,ft,fs,rfl,ft' _,_,rfl,q,a.cm,dx,_,rfl,a8,G.av,G.gO,by show 6 < 1000;decide,?_⟩;rw[cU];refine⟨_,rfl,ft,_,rfl,.inr (SqT.of (ft' _)),rfl,gW fs,_,rfl,q,a.cm,dx,_,rfl,a8,G.av,G.bH,by show 7 < 1000;decide,?_⟩;rw[cU];simp only[JP,if_false];rw[sr];refine k _ ⟨dx,a8⟩ λc o nc ec=>?_
   rw[ac λz=>nc (IW.mpr z)];exact ec
def lC (G:Gs K mg a d):FnOk P w K mg base CX0 3 a.dw d.dw ["self"] (zJ w a.cm a.aM):=by
 have Oo:FnOk P w K mg base CX0 2 _ _ _ _:=sI G;have OJ:FnOk P w K mg base CX0 1 _ _ _ _:=BD G;refine G.ss.ok gN (λvs H Q E h=>?_) (λcdv A' outer s H vs Q E hr h=>?_)
 . obtain⟨q,z,b,w0,w1,w2,p,M,r,A,T,rfl,_⟩:=h;rfl
 . obtain⟨q,z,b,w0,w1,w2,p,M,r,A,T,rfl,⟨dx,hx⟩,S,hp,o1,o2,hA,hT,k⟩:=h;refine⟨_,((@b9 _ _ 1 _ _ _ _ gN.nd rfl (JJ rfl) (ax (ak (pv 0) rfl) G.aH G.cL Oo (hr.mono (by decide)) G.dL .nil ay ((ak (pv 0) rfl)∣((ak (pv 0) rfl)∣aa))) (by rfl) (by first|exact .inl rfl|exact .inr rfl|assumption))∪((@b9 _ _ 2 _ _ _ _ gN.nd rfl (JJ rfl) (ax (ak (pv 0) rfl) G.aH G.cL Oo (hr.mono (by decide)) G.dL .nil ay ((ak (pv 0) rfl)∣((ak (pv 0) rfl)∣aa))) (by rfl) (by first|exact .inl rfl|exact .inr rfl|assumption))∪((aR OJ (hr.mono (by decide)) (by rfl) G.yc G.qK.kp G.xk .nil ay ((pv 1)∣((pv 2)∣((ak (pv 0) rfl)∣((ak (pv 0) rfl)∣aa)))))⁻¹))),?_⟩;obtain⟨dxs,hxs⟩:=S.ob;refine⟨_,rfl,fld hx G.av G.bv gs ⟨z.x,dxs,_,rfl,hxs,cq (by decide +kernel) (by decide +kernel),_,rfl,fld hx G.av G.bI jA ⟨_,rfl,fld hx G.av G.eV rm ⟨z.x,z.hd,z.rl,z.l,M,r,b,.str w1,.str w1,rfl,S,kS o1,?_⟩⟩⟩⟩;rw[hA];refine⟨_,rfl,fld hx G.av G.bv gs ⟨z.x,dxs,_,rfl,hxs,cq (by decide +kernel) (by decide +kernel),_,rfl,fld hx G.av G.bI jA ⟨_,rfl,fld hx G.av G.dS mj ⟨z.x,z.hd,z.rl,z.l,M,r,b,.str w2,.str w2,rfl,S,kS o2,?_⟩⟩⟩⟩;rw[hT];exact⟨_,rfl,_,rfl,_,rfl,fld hx G.av G.eY sg ⟨_,rfl,fld hx G.av G.gO uG ⟨A,T,p.s,p.R,rfl,hp.s0,hp.s8,hp.sR,k⟩⟩⟩
def yA (G:Gs K mg a d):FnOk P w K mg base CX0 4 a.cp d.cp ["self"] (Ex w a.cm a.aM):=by
 have Oc:FnOk P w K mg base CX0 3 _ _ _ _:=lC G;refine G.qc.ok oI (λvs H Q E h=>?_) (λcdv A' outer s H vs Q E hr h=>?_)
 . obtain⟨q,z,b,w0,w1,w2,p,M,r,A,T,rfl,_⟩:=h;rfl
 . obtain⟨q,z,b,w0,w1,w2,p,M,r,A,T,rfl,⟨dx,hx⟩,S,hp,o1,o2,hA,hT,k⟩:=h;refine⟨_,((eo cG (b7 (pv 0) G.av G.eR Oc (hr.mono (by decide)) G.fC .nil ay) (ak (pv 0) rfl) (az _))⁻¹),?_⟩;refine⟨_,rfl,q,dx,_,rfl,hx,lI,q,z,b,w0,w1,w2,p,M,r,A,T,rfl,⟨dx,hx⟩,S,hp,o1,o2,hA,hT,_,rfl,fld hx G.av G.eY sg ⟨rfl,?_⟩⟩;have e:decide (V.int ((A - T) % (p.s * p.R))=V.int p.s)=decide ((A - T) % (p.s * p.R)=p.s):=by
    rw[decide_eq_decide];exact⟨iD,λz=>by rw[z]⟩
   rw[e];exact k
def qL (G:Gs K mg a d):FnOk P w K mg base CX0 2 a.bX d.bX ["self","counter"] (xR a.cm):=by
 have O0:FnOk P w K mg base CX0 1 _ _ _ _:=Bn G;refine G.pD.ok no (λvs H Q E h=>?_) (λcdv A' outer s H vs Q E hr h=>?_)
 . obtain⟨q,st,b,w0,w1,w2,p,A,rfl,_⟩:=h;rfl
 . obtain⟨q,st,b,w0,w1,w2,p,A,rfl,⟨dx,hx⟩,hp,k⟩:=h;refine⟨_,((@b8 _ _ _ _ _ ((ak (pv 0) rfl)∣((aR O0 (hr.mono (by decide)) (by rfl) G.xQ G.qM.kp G.xb .nil ay ((pv 1)∣((ak (pv 0) rfl)∣aa)))∣aa)))⁻¹),?_⟩;exact⟨_,rfl,fld hx G.av G.mP Ee ⟨_,rfl,_,rfl,fld hx G.av G.eY sg ⟨A,p.s,rfl,hp.s0,l2,λt ht=>k t ht⟩⟩⟩
def qD (G:Gs K mg a d):FnOk P w K mg base CX0 2 a.bc d.bc ["self","cell","counter"] (x9 w a.cm a.aM):=by
 have Ot:FnOk P w K mg base CX0 1 _ _ _ _:=lz G;have OZ:FnOk P w K mg base CX0 1 _ _ _ _:=ER G;refine G.jY.ok jx (λvs H Q E h=>?_) (λcdv A' outer s H vs Q E hr h=>?_)
 . obtain⟨q,z,b,w0,w1,w2,p,M,r,A,cv,ke,rfl,_⟩:=h;rfl
 . obtain⟨q,z,b,w0,w1,w2,p,M,r,A,cv,ke,rfl,⟨dx,hx⟩,S,hp,hl,hk,k⟩:=h;refine⟨_,(@ao _ _ _ (@aB _ _ _ _ (ax (ak (pv 0) rfl) G.aH G.d8 Ot (hr.mono (by decide)) G.dP .nil ay ((ak (pv 0) rfl)∣((pv 1)∣((aR OZ (hr.mono (by decide)) (by rfl) G.qe G.kD.kp G.qp .nil ay ((pv 2)∣((ak (pv 0) rfl)∣((ak (pv 0) rfl)∣aa))))∣aa)))) (by rfl))),?_⟩;obtain⟨dxs,hxs⟩:=S.ob;exact⟨_,rfl,fld hx G.av G.bv gs ⟨z.x,dxs,_,rfl,hxs,cq (by decide +kernel) (by decide +kernel),_,rfl,fld hx G.av G.bI jA ⟨_,rfl,_,rfl,_,rfl,fld hx G.av G.eY sg ⟨_,rfl,fld hx G.av G.gO uG
    ⟨A,p.s,p.R,rfl,hp.s0,hp.s8,hp.sR,z.x,z.hd,z.rl,z.l,M,r,b,cv,_,ke,rfl,S,hl,hk,λH' S' kp'=>k H' S' kp'⟩⟩⟩⟩⟩
def CP (G:Gs K mg a d):FnOk P w K mg base CX0 4 a.iH d.iH ["self","name","worth"] (F4 w a.cm a.aM):=by
 have Oo:FnOk P w K mg base CX0 2 _ _ _ _:=sI G;have Ot:FnOk P w K mg base CX0 1 _ _ _ _:=lz G;have Og:FnOk P w K mg base CX0 2 _ _ _ _:=qD G;have Of:FnOk P w K mg base CX0 2 _ _ _ _:=qL G;refine G.xu.ok pJ (λvs H Q E h=>?_) (λcdv A' outer s H vs Q E hr h=>?_)
 . obtain⟨q,z,b,w0,w1,w2,p,M,r,A,nm,wv,rfl,_⟩:=h;rfl
 . obtain⟨q,z,b,w0,w1,w2,p,M,r,A,nm,wv,rfl,⟨dx,hx⟩,S,hp,o0,o1,hl,hA,k⟩:=h;refine⟨_,((@b9 _ _ 3 _ _ _ _ pJ.nd rfl (JJ rfl) (ax (ak (pv 0) rfl) G.aH G.cL Oo (hr.mono (by decide)) G.dL .nil ay ((ak (pv 0) rfl)∣((ak (pv 0) rfl)∣aa))) (by rfl) (by first|exact .inl rfl|exact .inr rfl|assumption))∪((aS (ck (ak (pv 0) rfl)) (@ao _ _ _ (@aB _ _ _ _ (ax (pv 0) G.av G.cy Og (hr.mono (by decide)) G.cR .nil ay ((ak (pv 0) rfl)∣((pv 3)∣aa))) (by rfl))) aq)∪((@aB _ _ _ _ (ax (ak (pv 0) rfl) G.aH G.d8 Ot (hr.mono (by decide)) G.dP .nil ay ((ak (pv 0) rfl)∣((ax (pv 0) G.av G.je Of (hr.mono (by decide)) G.jq .nil ay ((pv 3)∣aa))∣((@b8 _ _ _ _ _ ((pv 1)∣((pv 2)∣aa)))∣aa)))) (by rfl))∪(@ao _ _ _ (aS (eW (ck (ak (pv 0) rfl))) (@ao _ _ _ (@aB _ _ _ _ (ax (pv 0) G.av G.cy Og (hr.mono (by decide)) G.cR .nil ay ((ak (pv 0) rfl)∣((pv 3)∣aa))) (by rfl))) aq))))),?_⟩;obtain⟨dxs,hxs⟩:=S.ob;refine⟨_,rfl,fld hx G.av G.bv gs ⟨z.x,dxs,_,rfl,hxs,cq (by decide +kernel) (by decide +kernel),_,rfl,fld hx G.av G.bI jA ⟨_,rfl,fld hx G.av G.eV rm ⟨z.x,z.hd,z.rl,z.l,M,r,b,.str w1,.str w1,rfl,S,kS o1,?_⟩⟩⟩⟩;rw[hA];refine⟨_,rfl,fld hx G.av G.bH sK ⟨_,rfl,?_⟩⟩;cases he:p.e with
  |true =>
    refine gJ ?_;refine⟨_,rfl,q,dx,_,rfl,hx,lZ,_,rfl,fld hx G.av G.eV rm ⟨_,rfl,q,z,b,w0,w1,w2,p,M,r,A,.str w1,.str w1,rfl,⟨dx,hx⟩,S,hp,by omega,kS o1,λH1 S1 kp1=>?_⟩⟩;have hx1:=kp1 _ _ (S.noI hx) hx;obtain⟨dx1,hs1⟩:=S1.ob;refine⟨_,rfl,fld hx1 G.av G.bv gs ⟨z.x,dx1,_,rfl,hs1,cq (by decide +kernel) (by decide +kernel),_,rfl,fld hx1 G.av G.bI jA ⟨_,rfl,q,dx,_,rfl,hx1,qZ,_,rfl,q,z.x,b,w0,w1,w2,p,A,rfl,⟨dx,hx1⟩,hp,λt1 ht1=>⟨_,rfl,_,rfl,l2,λt2 ht2=>?_⟩⟩⟩⟩;have e1:=ah (o:=.tup [V.str w0,V.int (A % p.s)]) ht1;have e2:=ah (o:=.tup [nm,wv]) ht2;have e12:=e1.trans e2;have S2:=S1.same e12;have v1:=e2 _ _ (a8 (H:=H1) (a:=t1) (o:=.tup [V.str w0,V.int (A % p.s)]));have v2:=a8 (H:=upd H1 t1 (.tup [V.str w0,V.int (A % p.s)])) (a:=t2) (o:=.tup [nm,wv]);have n2:H t2=IX:=fP kp1 (bz e1 ht2) λx hx=>by
     obtain⟨ts,e,_⟩:=S1.rw b;rw[IW.mp hx,e];intro z;cases z
    have hx2:=e12 _ _ hx1;generalize upd (upd H1 t1 (.tup [V.str w0,V.int (A % p.s)])) t2 (.tup [nm,wv])=H2 at e2 e12 S2 v1 v2 hx2 |-;refine⟨z.x,z.hd,z.rl,z.l,M,_,b,.ref t1,.ref t2,.tuple [.str w0,.int (A % p.s)],rfl,S2,by rw[ap,IT];show _+1 < _;omega,kT o0 v1,λH3 S3 kp3=>?_⟩;have hx3:=kp3 _ _ (S2.noI hx2) hx2;refine⟨_,rfl,fld hx3 G.av G.bH sK ⟨_,rfl,?_⟩⟩;rw[he];refine dY ?_;refine k t2 H3 n2 (kp3 _ _ (S2.noT v2) v2) ?_ λc o n e=>kp3 c o n (e12 _ _ (kp1 c o n e))
    rw[ap,qP,JA]at S3;unfold og;rw[he];exact S3
  |false =>
    refine dY ?_;refine⟨_,rfl,fld hx G.av G.bv gs ⟨z.x,dxs,_,rfl,hxs,cq (by decide +kernel) (by decide +kernel),_,rfl,fld hx G.av G.bI jA ⟨_,rfl,q,dx,_,rfl,hx,qZ,_,rfl,q,z.x,b,w0,w1,w2,p,A,rfl,⟨dx,hx⟩,hp,λt1 ht1=>⟨_,rfl,_,rfl,l2,λt2 ht2=>?_⟩⟩⟩⟩;have e1:=ah (o:=.tup [V.str w0,V.int (A % p.s)]) ht1;have e2:=ah (o:=.tup [nm,wv]) ht2;have e12:=e1.trans e2;have S2:=S.same e12;have v1:=e2 _ _ (a8 (H:=H) (a:=t1) (o:=.tup [V.str w0,V.int (A % p.s)]));have v2:=a8 (H:=upd H t1 (.tup [V.str w0,V.int (A % p.s)])) (a:=t2) (o:=.tup [nm,wv]);have n2:H t2=IX:=bz e1 ht2;have hx2:=e12 _ _ hx;generalize upd (upd H t1 (.tup [V.str w0,V.int (A % p.s)])) t2 (.tup [nm,wv])=H2 at e2 e12 S2 v1 v2 hx2 |-;refine⟨z.x,z.hd,z.rl,z.l,M,r,b,.ref t1,.ref t2,.tuple [.str w0,.int (A % p.s)],rfl,S2,by omega,kT o0 v1,λH3 S3 kp3=>?_⟩;have hx3:=kp3 _ _ (S2.noI hx2) hx2;refine⟨_,rfl,fld hx3 G.av G.bH sK ⟨_,rfl,?_⟩⟩;rw[he];refine gJ ?_;refine⟨_,rfl,q,dx,_,rfl,hx3,lZ,_,rfl,fld hx3 G.av G.eV rm ⟨_,rfl,q,z,b,w0,w1,w2,p,M,_,A,.str w1,.str w1,rfl,⟨dx,hx3⟩,S3,hp,by rw[ap,IT];show _+1 < _;omega,kS o1,λH4 S4 kp4=>?_⟩⟩;have v3:=kp3 _ _ (S2.noT v2) v2;refine k t2 H4 n2 (kp4 _ _ (S3.noT v3) v3) ?_ λc o n e=>kp4 c o n (kp3 c o n (e12 _ _ e))
    rw[ap,qP,JA]at S4;unfold og;rw[he];exact S4
def wm (G:Gs K mg a d):FnOk P w K mg base CX0 5 a.eI d.eI ["self"] (BM w a.cm a.aM):=by
 have Oo:FnOk P w K mg base CX0 2 _ _ _ _:=sI G;have Oc:FnOk P w K mg base CX0 3 _ _ _ _:=lC G;have Og:FnOk P w K mg base CX0 2 _ _ _ _:=qD G;have Of:FnOk P w K mg base CX0 2 _ _ _ _:=qL G;refine G.tI.ok iX (λvs H Q E h=>?_) (λcdv A' outer s H vs Q E hr h=>?_)
 . obtain⟨q,z,b,w0,w1,w2,p,M,r,A,T,rfl,_⟩:=h;rfl
 . obtain⟨q,z,b,w0,w1,w2,p,M,r,A,T,rfl,⟨dx,hx⟩,S,hp,o0,o1,o2,hl,hA,hT,k⟩:=h;refine⟨_,((aS (ar cG (b7 (pv 0) G.av G.eR Oc (hr.mono (by decide)) G.fC .nil ay) ae (az _)) (eh⁻¹) aq)∪((@b9 _ _ 1 _ _ _ _ iX.nd rfl (JJ rfl) (ax (ak (pv 0) rfl) G.aH G.cL Oo (hr.mono (by decide)) G.dL .nil ay ((ak (pv 0) rfl)∣((ak (pv 0) rfl)∣aa))) (by rfl) (by first|exact .inl rfl|exact .inr rfl|assumption))∪((@b9 _ _ 2 _ _ _ _ iX.nd rfl (JJ rfl) (ax (ak (pv 0) rfl) G.aH G.cL Oo (hr.mono (by decide)) G.dL .nil ay ((ak (pv 0) rfl)∣((ax (pv 0) G.av G.je Of (hr.mono (by decide)) G.jq .nil ay ((pv 1)∣aa))∣aa))) (by rfl) (by first|exact .inl rfl|exact .inr rfl|assumption))∪((@aB _ _ _ _ (ax (pv 0) G.av G.cy Og (hr.mono (by decide)) G.cR .nil ay ((ak (pv 0) rfl)∣((pv 1)∣aa))) (by rfl))∪((o8 (ck (aK b6 (by rfl) G.aO aL ((pv 2)∣((cV (v:=.ty "tuple") (by rfl) G.fj de rfl)∣aa)))) (pv 2) (@b8 _ _ _ _ _ (eh∣(eh∣aa))))⁻¹))))),?_⟩;obtain⟨dxs,hxs⟩:=S.ob;refine⟨_,rfl,q,dx,_,rfl,hx,lI,q,z,b,w0,w1,w2,p,M,r,A,T,rfl,⟨dx,hx⟩,S,hp,o1,o2,hA,hT,rfl,_,rfl,?_⟩;by_cases h0:(A - T) % (p.s * p.R)=0
   . rw[Pa h0]at k;rw[h0];exact zU rfl k
   rw[Pb h0]at k;refine rY (λz=>h0 (iD z)) ?_;refine⟨_,rfl,fld hx G.av G.bv gs ⟨z.x,dxs,_,rfl,hxs,cq (by decide +kernel) (by decide +kernel),_,rfl,fld hx G.av G.bI jA ⟨_,rfl,fld hx G.av G.dS mj ⟨z.x,z.hd,z.rl,z.l,M,r,b,.str w2,.str w2,rfl,S,kS o2,?_⟩⟩⟩⟩;rw[hT];refine⟨_,rfl,fld hx G.av G.bv gs ⟨z.x,dxs,_,rfl,hxs,cq (by decide +kernel) (by decide +kernel),_,rfl,fld hx G.av G.bI jA ⟨_,rfl,q,dx,_,rfl,hx,qZ,_,rfl,q,z.x,b,w0,w1,w2,p,T,rfl,⟨dx,hx⟩,hp,λt1 ht1=>?_⟩⟩⟩;have e1:=ah (o:=.tup [V.str w0,V.int (T % p.s)]) ht1;have S1:=S.same e1;have v1:=a8 (H:=H) (a:=t1) (o:=.tup [V.str w0,V.int (T % p.s)]);have hx1:=e1 _ _ hx;generalize upd H t1 (.tup [V.str w0,V.int (T % p.s)])=H1 at e1 S1 v1 hx1 |-;refine⟨z.x,z.hd,z.rl,z.l,M,r,b,.ref t1,.tuple [.str w0,.int (T % p.s)],rfl,S1,kT o0 v1,?_⟩;refine⟨_,rfl,q,dx,_,rfl,hx1,lZ,_,rfl,fld hx1 G.av G.dS mj ⟨_,rfl,q,z,b,w0,w1,w2,p,M,r,T,.str w2,.str w2,rfl,⟨dx,hx1⟩,S1,hp,hl,kS o2,λH2 S2 kp2=>?_⟩⟩;rcases k with⟨c,vs,e,hc,k⟩|⟨i,e,k⟩
   . rw[e];have hc2:=kp2 _ _ (S1.noT (e1 _ _ hc)) (e1 _ _ hc);exact⟨_,rfl,_,_,_,l',rfl,TyOf.tup hc2,Eo,_,rfl,gJ ⟨_,rfl,k H2 S2 λc o n q=>kp2 c o n (e1 _ _ q)⟩⟩
   . rw[e];refine⟨_,rfl,_,_,_,f',rfl,TyOf.int i,Gx,_,rfl,dY ⟨l2,λt ht=>?_⟩⟩;have e3:=ah (o:=.tup [V.non,V.non]) ht;have n3:H t=IX:=bz e1 (fP kp2 ht λx hx=>by
      obtain⟨ts,e,_⟩:=S2.rw b;rw[IW.mp hx,e];intro z;cases z)
     exact k t _ n3 a8 (S2.same e3) λc o n q=>e3 _ _ (kp2 c o n (e1 _ _ q))
def BV (CH CR:G'):Sp:=λvs H Q _=>∃ (h dx st ft:G') (s R n:Int) (fs:List Str),vs=[.ref h,.ref st,.int s,.int R,.int n,.ref ft]/\H h=dk (.ins CH dx [])/\H ft=dk (.tup (fs.map V.str)) /\
 ∀ (z:HA) (H':Hp),z.h=h->H z.ra=IX->H z.rb=IX->H z.gd=IX->Hn CH CR H' z st ⟨s,if fs.contains "round" then 1 else R,fs.contains "counter"⟩ n []->Kp [h] H H'->Q .non H'
def Bt (CH CR:G'):Sp:=λvs H Q _=>∃ (z:HA) (st:G') (p:RP) (n:Nat) (aw:List Int),vs=[.ref z.h]/\Hn CH CR H z st p n aw/\n <= 9/\Q (match bF n aw with|some k=>.int k|none=>.non) H
def vH (w:Jj) (CH CR CS F N:G'):Sp:=λvs H Q E=>∃ (z:HA) (sa:SA) (p:RP) (n:Nat) (aw:List Int) (M:List (IV × V)) (r:Bool->List (IV × V)) (A T:Int),vs=[.ref z.h]/\Hn CH CR H z sa.x p n aw/\sa.At w CS H M r/\p.Ok/\n <= 9 /\
 cr M (r f') (.str "asked")=.int A/\cr M (r f') (.str "taken")=.int T/\if (A - T) % (p.s * p.R)=p.s then E (.ref F) IX H else match bF n aw with|none=>E (.ref N) IX H|some _=>Q .non H
def CB (w:Jj) (CH CR CS F N:G'):Sp:=λvs H Q E=>∃ (z:HA) (sa:SA) (p:RP) (n:Nat) (aw:List Int) (M:List (IV × V)) (r:Bool->List (IV × V)) (wv:V) (A T:Int),vs=[.ref z.h,wv]/\Hn CH CR H z sa.x p n aw/\sa.At w CS H M r/\p.Ok/\n <= 9/\aw.length < 1000/\(r f').length < 99999 /\
 cr M (r f') (.str "asked")=.int A/\cr M (r f') (.str "taken")=.int T/\if (A - T) % (p.s * p.R)=p.s then E (.ref F) IX H else match bF n aw with
 |none=>E (.ref N) IX H
 |some nm=>∀ t H',H t=IX->H' t=dk (.tup [.int nm,wv])->Hn CH CR H' z sa.x p n (aw++[nm])->sa.At w CS H' M (aF r f' (r f'++og p "ask" "asked" A (.ref t)))->Kp [z.gd,sa.l f'] H H'->Q (.int nm) H'
def Bv (CH CR:G'):Sp:=λvs H Q _=>∃ (z:HA) (st:G') (p:RP) (n:Int) (aw:List Int),vs=[.ref z.h]/\Hn CH CR H z st p n aw/\aw.length < 64/\∀ (l:G') (ns:List Int),H l=IX->ns.Perm aw->ns.Pairwise (· <= ·)->Q (.ref l) (upd H l (.lst (ns.map V.int)))
def qS (w:Jj) (CH CR CS:G'):Sp:=λvs H Q _=>∃ (z:HA) (sa:SA) (p:RP) (n:Int) (aw:List Int) (M:List (IV × V)) (r:Bool->List (IV × V)) (A T:Int),vs=[.ref z.h]/\Hn CH CR H z sa.x p n aw/\sa.At w CS H M r/\p.Ok/\(r f').length < 100000 /\
 cr M (r f') (.str "answered")=.int A/\cr M (r f') (.str "handed")=.int T/\(if (A - T) % (p.s * p.R)=0 then Q .non H else
  (∃ c nm wv,cr M (r f') (.tuple [.str "answer",.int (T % p.s)])=.ref c/\H c=dk (.tup [.int nm,wv])/\∀ H',Hn CH CR H' z sa.x p n (aw.filter λk=>decide (k≠nm))->sa.At w CS H' M (aF r f' (r f'++[(.str "handed",.int ((T+1) % (p.s * p.R)))]))->Kp [z.gd,sa.l f'] H H'->Q (.ref c) H') \/
  ∃ i,cr M (r f') (.tuple [.str "answer",.int (T % p.s)])=.int i/\∀ t H',H t=IX->H' t=dk (.tup [.non,.non])->Hn CH CR H' z sa.x p n aw->sa.At w CS H' M (aF r f' (r f'++[(.str "handed",.int ((T+1) % (p.s * p.R)))]))->Kp [sa.l f'] H H'->Q (.ref t) H')
def BB (G:Gs K mg a d):FnOk P w K mg base CX0 4 a.eP d.eP ["self","store","size","rounds","names","faults"] (BV a.dX a.cm):=by
 have Oa:FnOk P w K mg base CX0 2 _ _ _ _:=wL G;refine G.tU.ok re (λvs H Q E h=>?_) (λcdv A outer s H vs Q E hr h=>?_)
 . obtain⟨h,dx,st,ft,s,R,n,fs,rfl,_⟩:=h;rfl
 . obtain⟨h,dx,st,ft,s,R,n,fs,rfl,hx,hf,k⟩:=h;refine⟨_,((bJ (pv 0) (kK G.wf Oa (hr.mono (by decide)) (by rfl) G.vK G.gm .nil ay ((pv 1)∣(ae∣((jp (v:=.ref a.ki) (by rfl) G.Cy rfl)∣((pv 2)∣((pv 3)∣((pv 5)∣aa))))))) rfl)∪((bJ (pv 0) (kK G.wf Oa (hr.mono (by decide)) (by rfl) G.vK G.gm .nil ay ((pv 1)∣(ae∣((jp (v:=.ref a.dc) (by rfl) G.ue rfl)∣((pv 2)∣((pv 3)∣((pv 5)∣aa))))))) rfl)∪((bJ (pv 0) (pv 4) rfl)∪(@ao _ _ _ (bJ (pv 0) vN rfl))))),?_⟩;refine⟨_,rfl,_,rfl,_,rfl,_,rfl,λra da na nda nea=>?_⟩;refine⟨ra,da,st,a.ki,ft,f',"ask","asked","taken",s,R,fs,rfl,a8,G.CG,?_,λH1 r1 kp1=>?_⟩
   . rw[ac (ag hf na),ac (ag hf nda)];exact hf
   have e1:c9 H H1:=λc o e=>kp1 c o (λz=>ag e na (IW.mp z)) (by rw[ac (ag e na),ac (ag e nda)];exact e)
   clear kp1;refine⟨rfl,_,rfl,h,a.dX,dx,[],rfl,e1 _ _ hx,G.bG,G.jK,by decide,?_⟩;have n1:ra≠h:=λz=>by rw[z,hx]at na;cases na
   have hx1:=e1 _ _ hx;have kp2:Kp [h] H (upd H1 h (.ins a.dX dx (bR "asks" (.ref ra) []))):=λc o n e=>by rw[ac λz=>n (IW.mpr z)];exact e1 _ _ e
   have hx2:upd H1 h (.ins a.dX dx (bR "asks" (.ref ra) [])) h=dk (.ins a.dX dx (bR "asks" (.ref ra) [])):=a8;have r2:=r1.keep (H':=upd H1 h (.ins a.dX dx (bR "asks" (.ref ra) []))) λo e=>by rw[ac n1];exact e
   have hf2:upd H1 h (.ins a.dX dx (bR "asks" (.ref ra) [])) ft=dk (.tup (fs.map V.str)):=by
    rw[ac (iq (e1 _ _ hf) hx1 (by intro z;cases z))];exact e1 _ _ hf
   generalize upd H1 h (.ins a.dX dx (bR "asks" (.ref ra) []))=H2 at kp2 hx2 r2 hf2 |-;refine⟨_,rfl,_,rfl,_,rfl,_,rfl,λrb db nb ndb neb=>?_⟩;refine⟨rb,db,st,a.dc,ft,f',"answer","answered","handed",s,R,fs,rfl,a8,G.uD,?_,λH3 r3 kp3=>?_⟩
   . rw[ac (ag hf2 nb),ac (ag hf2 ndb)];exact hf2
   have e3:c9 H2 H3:=λc o e=>kp3 c o (λz=>ag e nb (IW.mp z)) (by rw[ac (ag e nb),ac (ag e ndb)];exact e)
   clear kp3;have nbH:H rb=IX:=fP kp2 nb λx m=>by rw[IW.mp m,hx2];intro z;cases z
   have n3:rb≠h:=λz=>by rw[z,hx2]at nb;cases nb
   refine⟨rfl,_,rfl,h,a.dX,dx,_,rfl,e3 _ _ hx2,G.bG,G.fM,by show 1 < 1000;decide,?_⟩;refine⟨_,rfl,_,rfl,h,a.dX,dx,_,rfl,a8,G.bG,G.lr,by show 2 < 1000;decide,?_⟩;rw[cU];refine λgd hg=>⟨_,rfl,h,a.dX,dx,_,rfl,(by rw[ac (ag a8 hg)];exact a8),G.bG,G.cO,by show 3 < 1000;decide,?_⟩
   obtain⟨ng,hg3⟩:=up1 hg;have gdH:H gd=IX:=fP kp2 (bz e3 hg3) λx m=>by rw[IW.mp m,hx2];intro z;cases z
   refine k ⟨h,ra,rb,gd⟩ _ rfl na nbH gdH ⟨⟨dx,a8⟩,(r2.keep λo e=>e3 _ _ e).keep λo e=>?_,r3.keep λo e=>?_,?_⟩ λc o nc ec=>?_
   . rw[ac n1,ac (ag e hg3),ac n1];exact e
   . rw[ac n3,ac (ag e hg3),ac n3];exact e
   . rw[ac ng,a8];rfl
   . have c1:c≠h:=λz=>nc (IW.mpr z)
     have e4:=e3 _ _ (kp2 c o nc ec);rw[ac c1,ac (ag e4 hg3),ac c1];exact e4
def wQ (G:Gs K mg a d):FnOk P w K mg base CX0 1 a.bB d.bB ["self"] (Bt a.dX a.cm):=by
 refine G.mI.ok gC (λvs H Q E h=>?_) (λcdv A outer s H vs Q E hr h=>?_)
 . obtain⟨z,st,p,n,aw,rfl,_⟩:=h;rfl
 . obtain⟨z,st,p,n,aw,rfl,hn,hn9,k⟩:=h;have hu:=fA hr;refine⟨_,((hZ JS rfl (hU (by rfl) G.mM ((ak (pv 0) rfl)∣aa)) (bU (i:=1) gC.nd rfl (JJ rfl)) (@ao _ _ _ (aS (D1 (tX hu (pv 1) (ak (pv 0) rfl))) ((pv 1)⁻¹) aq)))∪(eh⁻¹)),?_⟩;obtain⟨dx,hx⟩:=hn.ob;refine⟨_,rfl,fld hx G.bG G.lr Cl ⟨n,rfl,by omega,by omega,?_⟩⟩;refine hX (n:=((n:Nat):Int).toNat) (λi σ H'=>(∃ v,σ=[dk (.ref z.h),v])/\H'=H/\∀ j < i,aw.contains (j:Int)=l') ⟨⟨_,rfl⟩,rfl,λj hj=>absurd hj (by omega)⟩ ?_ ?_
   . rintro i σ H' hi ⟨⟨v,rfl⟩,rfl,hno⟩;rw[Int.zero_add];refine⟨_,rfl,_,rfl,fld hx G.bG G.cO lH ⟨z.gd,_,rfl,EV.k (k:=.inl (i:Int)) hn.go,_,rfl,?_⟩⟩;rw[pd];cases hc:aw.contains (i:Int) with
    |false =>
      rw[qA (by omega) hc hno]at k;exact gJ ⟨_,rfl,k⟩
    |true =>
      refine dY ⟨⟨_,rfl⟩,rfl,λj hj=>?_⟩;by_cases hji:j < i
      . exact hno j hji
      . have e:j=i:=by omega
        rw[e];exact hc
   . rintro σ H' ⟨⟨v,rfl⟩,rfl,hno⟩;rw[y6 λj hj=>hno j (by omega)]at k;exact k
def wZ (G:Gs K mg a d):FnOk P w K mg base (CXv P w) 6 a.bL d.bL ["self"] (vH w a.dX a.cm a.aM a.uR a.gq):=by
 have Od:FnOk P w K mg base CX0 4 _ _ _ _:=yA G;have N3:FnOk P w K mg base CX0 1 _ _ _ _:=wQ G;refine G.nJ.okX (k:=5) mr (λvs H Q E h=>?_) (λcdv A' outer s' H vs Q E hr hR h=>?_)
 . obtain⟨z,sa,p,n,aw,M,r,A,T,rfl,_⟩:=h;rfl
 . obtain⟨z,sa,p,n,aw,M,r,A,T,rfl,hn,S,hp,n9,hA,hT,k⟩:=h;refine⟨_,((aS (ck (b7 (ak (pv 0) rfl) G.av G.jG Od (hr.mono (by decide)) G.km .nil ay)) (@ao _ _ _ (iJ hR hr.hd (by rfl) G.yy G.xc_Full (am∣aa))) aq)∪(@ao _ _ _ (aS (ar wF (b7 (pv 0) G.bG G.gn N3 (hr.mono (by decide)) G.ic .nil ay) eh (az _)) (@ao _ _ _ (iJ hR hr.hd (by rfl) G.wc G.xc_NoName (am∣aa))) aq))),?_⟩;obtain⟨dx,hx⟩:=hn.ob;obtain⟨dr,hra⟩:=hn.ra;refine⟨_,rfl,fld hx G.bG G.jK Ap ⟨z.ra,dr,_,rfl,hra,yu,z.ra,sa,f',"ask","asked","taken",p,M,r,A,T,rfl,⟨dr,hra⟩,S,hp,by decide +kernel,by decide +kernel,hA,hT,_,rfl,?_⟩⟩;by_cases hc:(A - T) % (p.s * p.R)=p.s
   . rw[Pa hc]at k;exact zU hc ⟨by show 1 <= Je;decide,k⟩
   rw[Pb hc]at k;refine rY hc ?_;refine⟨_,rfl,z.h,dx,_,rfl,hx,vI,z,sa.x,p,n,aw,rfl,hn,n9,rfl,_,rfl,?_⟩;cases hle:bF n aw with
  |none =>
    rw[hle]at k;exact zU rfl ⟨by show 1 <= Je;decide,k⟩
  |some nm =>
    rw[hle]at k;exact rY (by intro z;cases z) k
def FV (G:Gs K mg a d):FnOk P w K mg base (CXv P w) 8 a.im d.im ["self","worth"] (CB w a.dX a.cm a.aM a.uR a.gq):=by
 have O5:FnOk P w K mg base (CXv P w) 6 _ _ _ _:=wZ G;have N3:FnOk P w K mg base CX0 1 _ _ _ _:=wQ G;have Oe:FnOk P w K mg base CX0 4 _ _ _ _:=CP G;refine G.xJ.okX (k:=7) oM (λvs H Q E h=>?_) (λcdv A' outer s' H vs Q E hr hR h=>?_)
 . obtain⟨z,sa,p,n,aw,M,r,wv,A,T,rfl,_⟩:=h;rfl
 . obtain⟨z,sa,p,n,aw,M,r,wv,A,T,rfl,hn,S,hp,n9,hal,hrl,hA,hT,k⟩:=h;have hu:=fA hr;refine⟨_,((@aB _ _ _ _ (b7 (pv 0) G.bG G.gR O5 (hr.mono (by decide)) G.jc .nil hR.passes) (by rfl))∪((@b9 _ _ 2 _ _ _ _ oM.nd rfl (JJ rfl) (b7 (pv 0) G.bG G.gn N3 (hr.mono (by decide)) G.ic .nil ay) (by rfl) (by first|exact .inl rfl|exact .inr rfl|assumption))∪((Au hu (ak (pv 0) rfl) (pv 2) dZ rfl)∪((@aB _ _ _ _ (ax (ak (pv 0) rfl) G.av G.ot Oe (hr.mono (by decide)) G.qV .nil ay ((pv 2)∣((pv 1)∣aa))) (by rfl))∪((pv 2)⁻¹))))),?_⟩;obtain⟨dx,hx⟩:=hn.ob;refine⟨_,rfl,z.h,dx,_,rfl,hx,wz,z,sa,p,n,aw,M,r,A,T,rfl,hn,S,hp,n9,hA,hT,?_⟩;by_cases hc:(A - T) % (p.s * p.R)=p.s
   . rw[Pa hc]at k |-;exact k
   rw[Pb hc]at k |-;cases hle:bF n aw with
  |none=>rw[hle]at k;exact k
  |some nm =>
    rw[hle]at k;refine⟨_,rfl,z.h,dx,_,rfl,hx,vI,z,sa.x,p,n,aw,rfl,hn,n9,?_⟩;rw[hle];refine⟨_,rfl,fld hx G.bG G.cO lH ⟨_,rfl,z.gd,_,rfl,ES.k (k:=.inl nm) hn.go (Jf (by rw[D0];exact hal) (by decide)),?_⟩⟩;rw[CW nm aw (mJ hle)];have n1:z.h≠z.gd:=iq hx hn.go (by intro z;cases z);have kp1:Kp [z.gd] H (upd H z.gd (.dK (gK (aw++[nm])))):=Kp.one;have S1:=Sto.kp S kp1 (λc hc=>by rw[IW.mp hc];exact S.noD hn.go) (λc hc vs e=>by rw[IW.mp hc,hn.go]at e;cases e);have hn1:Hn a.dX a.cm (upd H z.gd (.dK (gK (aw++[nm])))) z sa.x p n (aw++[nm]):=by
     obtain⟨d1,x1⟩:=hn.ra;obtain⟨d2,x2⟩:=hn.rb;exact⟨⟨dx,by rw[ac n1];exact hx⟩,⟨d1,by rw[ac (iq x1 hn.go (by intro z;cases z))];exact x1⟩,⟨d2,by rw[ac (iq x2 hn.go (by intro z;cases z))];exact x2⟩,a8⟩
    generalize upd H z.gd (.dK (gK (aw++[nm])))=H1 at kp1 S1 hn1 |-;obtain⟨dx1,hx1⟩:=hn1.ob;obtain⟨dr,hra⟩:=hn1.ra;refine⟨_,rfl,fld hx1 G.bG G.jK Ap ⟨z.ra,dr,_,rfl,hra,Dc,_,rfl,_,rfl,z.ra,sa,f',"ask","asked","taken",p,M,r,A,.int nm,wv,rfl,⟨dr,hra⟩,S1,hp,by decide +kernel,by decide +kernel,hrl,hA,λt H2 n2 v2 S2 kp2=>⟨_,rfl,?_⟩⟩⟩;refine k t H2 (fP kp1 n2 λx m=>by rw[IW.mp m,hn1.go];intro z;cases z) v2 (hn1.lists kp2 λc m=>.inl ?_) S2 λc o nc e=>?_
    . obtain⟨ts,e,_⟩:=S1.rw f';exact⟨ts,by rw[IW.mp m];exact e⟩
    . exact kp2 c o (λm=>nc (Jh _ m)) (kp1 c o (λm=>nc (by rw[IW.mp m];exact Jg)) e)
def C6 (G:Gs K mg a d):FnOk P w K mg base CX0 1 a.bK d.bK ["self"] (Bv a.dX a.cm):=by
 refine G.nj.ok lX (λvs H Q E h=>?_) (λcdv A outer s H vs Q E hr h=>?_)
 . obtain⟨z,st,p,n,aw,rfl,_⟩:=h;rfl
 . obtain⟨z,st,p,n,aw,rfl,hn,hl,k⟩:=h;refine⟨_,((aK (mV rfl) (by rfl) G.rJ o9 ((ak (pv 0) rfl)∣aa))⁻¹),?_⟩;obtain⟨dx,hx⟩:=hn.ob;exact⟨_,rfl,fld hx G.bG G.cO lH ⟨z.gd,_,aw,rfl,hn.go,by unfold gK;rw[map_map];rfl,hl,λp ns hp h1 h2=>k p ns hp h1 h2⟩⟩
def xG (G:Gs K mg a d):FnOk P w K mg base CX0 7 a.cD d.cD ["self"] (qS w a.dX a.cm a.aM):=by
 have Ob:FnOk P w K mg base CX0 5 _ _ _ _:=wm G;refine G.pT.ok jI (λvs H Q E h=>?_) (λcdv A' outer s' H vs Q E hr h=>?_)
 . obtain⟨z,sa,p,n,aw,M,r,A,T,rfl,_⟩:=h;rfl
 . obtain⟨z,sa,p,n,aw,M,r,A,T,rfl,hn,S,hp,hrl,hA,hT,k⟩:=h;refine⟨_,((@b9 _ _ 1 _ _ _ _ jI.nd rfl (JJ rfl) (b7 (ak (pv 0) rfl) G.av G.lp Ob (hr.mono (by decide)) G.mZ .nil ay) (by rfl) (by first|exact .inl rfl|exact .inr rfl|assumption))∪((aS (ar jz (pv 1) eh (az _)) (@ao _ _ _ (@aB _ _ _ _ (yC (ak (pv 0) rfl) (@aA _ _ _ _ _ _ _ aI (pv 1) ae (λ_ _=>rfl)) eh ⟨rfl,rfl,rfl,rfl⟩) (by rfl))) aq)∪((pv 1)⁻¹))),?_⟩;obtain⟨dx,hx⟩:=hn.ob;obtain⟨dr,hrb⟩:=hn.rb;refine⟨_,rfl,fld hx G.bG G.fM qT ⟨z.rb,dr,_,rfl,hrb,wO,z.rb,sa,f',"answer","answered","handed",p,M,r,A,T,rfl,⟨dr,hrb⟩,S,hp,by decide +kernel,by decide +kernel,by decide +kernel,hrl,hA,hT,?_⟩⟩;by_cases h0:(A - T) % (p.s * p.R)=0
   . rw[Pa h0]at k |-;exact⟨_,rfl,rfl,_,rfl,dY ⟨_,rfl,k⟩⟩
   rw[Pb h0]at k |-;rcases k with⟨c,nm,wv,hrd,hc,k⟩|⟨i,hrd,k⟩
   rotate_left
   . refine .inr ⟨i,hrd,λt H1 n1 v1 S1 kp1=>?_⟩;have hn1:=hn.lists kp1 λc m=>.inl (by
      obtain⟨ts,e,_⟩:=S.rw f';exact⟨ts,by rw[IW.mp m];exact e⟩)
     obtain⟨dx1,hx1⟩:=hn1.ob;exact⟨_,rfl,rfl,_,rfl,gJ ⟨_,rfl,fld hx1 G.bG G.cO lH ⟨z.gd,rfl,.inl ⟨_,.inl hn1.go⟩,_,rfl,t,_,_,_,rfl,rfl,SqT.of v1,rfl,_,hn1.go,.inr ⟨rfl,_,rfl,k t H1 n1 v1 hn1 S1 kp1⟩⟩⟩⟩
   refine .inl ⟨c,_,hrd,hc,λH1 S1 kp1=>?_⟩;have hn1:=hn.lists kp1 λc m=>.inl (by
    obtain⟨ts,e,_⟩:=S.rw f';exact⟨ts,by rw[IW.mp m];exact e⟩)
   have hc1:=kp1 _ _ (S.noT hc) hc;obtain⟨dx1,hx1⟩:=hn1.ob;refine⟨_,rfl,rfl,_,rfl,gJ ?_⟩;refine⟨_,rfl,fld hx1 G.bG G.cO lH ⟨z.gd,rfl,.inl ⟨_,.inl hn1.go⟩,_,rfl,c,_,_,_,rfl,rfl,SqT.of hc1,rfl,_,hn1.go,.inl ⟨.inl nm,rfl,λv hv=>⟨_,rfl,?_⟩,λhv=>⟨_,rfl,?_⟩⟩⟩⟩
   . rw[ve];refine k _ ?_ (S1.kp Kp.one (λc hc=>by rw[IW.mp hc];exact S1.noD hn1.go) λc hc vs e=>by rw[IW.mp hc,hn1.go]at e;cases e) λc o nc e=>?_
     . obtain⟨d1,x1⟩:=hn1.ra;obtain⟨d2,x2⟩:=hn1.rb;exact⟨⟨dx1,by rw[ac (iq hx1 hn1.go (by intro z;cases z))];exact hx1⟩,⟨d1,by rw[ac (iq x1 hn1.go (by intro z;cases z))];exact x1⟩,⟨d2,by rw[ac (iq x2 hn1.go (by intro z;cases z))];exact x2⟩,a8⟩
     . rw[ac λz=>nc (by rw[z];exact Jg)];exact kp1 c o (λm=>nc (Jh _ m)) e
   . rw[pd]at hv;have hno:aw.contains nm=f':=by
      cases z:aw.contains nm with
     |false=>rfl
     |true=>rw[z]at hv;cases hv
     have ef:aw.filter (λk=>decide (k≠nm))=aw:=by
      rw[List.filter_eq_self];intro x hx;refine Pd λz=>?_
      rw[z]at hx;rw[Lr,decide_eq_false_iff_not]at hno;exact hno hx
     rw[ef]at k;exact k H1 hn1 S1 λc o nc e=>kp1 c o (λm=>nc (Jh _ m)) e
def AY (CT CR:G'):Sp:=λvs H Q _=>∃ (h dx st ft:G') (s R:Int) (fs:List Str),vs=[.ref h,.ref st,.int s,.int R,.ref ft]/\H h=dk (.ins CT dx [])/\H ft=dk (.tup (fs.map V.str)) /\
 ∀ (z:TA') (H':Hp),z.h=h->H z.ra=IX->H z.rb=IX->H z.gd=IX->Tn CT CR H' z st ⟨s,if fs.contains "round" then 1 else R,fs.contains "counter"⟩ []->Kp [h] H H'->Q .non H'
def wu (w:Jj) (CT CR CS:G'):Sp:=λvs H Q _=>∃ (z:TA') (sa:SA) (p:RP) (ts:List Int) (M:List (IV × V)) (r:Bool->List (IV × V)) (A T:Int),vs=[.ref z.h]/\Tn CT CR H z sa.x p ts/\sa.At w CS H M r/\p.Ok/\ts.length < 1000/\(r l').length < 100000 /\
 cr M (r l') (.str "asked")=.int A/\cr M (r l') (.str "taken")=.int T/\(if (A - T) % (p.s * p.R)=0 then Q .non H else
  (∃ c nm wv,cr M (r l') (.tuple [.str "ask",.int (T % p.s)])=.ref c/\H c=dk (.tup [.int nm,wv])/\∀ H',Tn CT CR H' z sa.x p (i6 ts nm)->sa.At w CS H' M (aF r l' (r l'++[(.str "taken",.int ((T+1) % (p.s * p.R)))]))->Kp [z.gd,sa.l l'] H H'->Q (.ref c) H') \/
  ∃ i,cr M (r l') (.tuple [.str "ask",.int (T % p.s)])=.int i/\∀ t H',H t=IX->H' t=dk (.tup [.non,.non])->Tn CT CR H' z sa.x p ts->sa.At w CS H' M (aF r l' (r l'++[(.str "taken",.int ((T+1) % (p.s * p.R)))]))->Kp [sa.l l'] H H'->Q (.ref t) H')
def tL (w:Jj) (CT CR CS F N:G'):Sp:=λvs H Q E=>∃ (z:TA') (sa:SA) (p:RP) (ts:List Int) (M:List (IV × V)) (r:Bool->List (IV × V)) (A T nm:Int),vs=[.ref z.h,.int nm]/\Tn CT CR H z sa.x p ts/\sa.At w CS H M r/\p.Ok /\
 cr M (r l') (.str "answered")=.int A/\cr M (r l') (.str "handed")=.int T/\if ts.contains nm=f' then E (.ref N) IX H else if (A - T) % (p.s * p.R)=p.s then E (.ref F) IX H else Q .non H
def uf (w:Jj) (CT CR CS F N:G'):Sp:=λvs H Q E=>∃ (z:TA') (sa:SA) (p:RP) (ts:List Int) (M:List (IV × V)) (r:Bool->List (IV × V)) (A T nm:Int) (wv:V),vs=[.ref z.h,.int nm,wv]/\Tn CT CR H z sa.x p ts/\sa.At w CS H M r/\p.Ok/\(r l').length < 99999 /\
 cr M (r l') (.str "answered")=.int A/\cr M (r l') (.str "handed")=.int T/\if ts.contains nm=f' then E (.ref N) IX H else if (A - T) % (p.s * p.R)=p.s then E (.ref F) IX H else
  ∀ t H',H t=IX->H' t=dk (.tup [.int nm,wv])->Tn CT CR H' z sa.x p (ts.filter λk=>decide (k≠nm))->sa.At w CS H' M (aF r l' (r l'++og p "answer" "answered" A (.ref t)))->Kp [z.gd,sa.l l'] H H'->Q .non H'
def Ca (CT CR:G'):Sp:=λvs H Q _=>∃ (z:TA') (st:G') (p:RP) (ts:List Int),vs=[.ref z.h]/\Tn CT CR H z st p ts/\ts.length < 64/\∀ (l:G') (ns:List Int),H l=IX->ns.Perm ts->ns.Pairwise (· <= ·)->Q (.ref l) (upd H l (.lst (ns.map V.int)))
def Ch (G:Gs K mg a d):FnOk P w K mg base CX0 4 a.dE d.dE ["self","store","size","rounds","faults"] (AY a.bp a.cm):=by
 have Oa:FnOk P w K mg base CX0 2 _ _ _ _:=wL G;refine G.sG.ok qf (λvs H Q E h=>?_) (λcdv A outer s H vs Q E hr h=>?_)
 . obtain⟨h,dx,st,ft,s,R,fs,rfl,_⟩:=h;rfl
 . obtain⟨h,dx,st,ft,s,R,fs,rfl,hx,hf,k⟩:=h;refine⟨_,((bJ (pv 0) (kK G.wf Oa (hr.mono (by decide)) (by rfl) G.vK G.gm .nil ay ((pv 1)∣(ae∣((jp (v:=.ref a.ki) (by rfl) G.Cy rfl)∣((pv 2)∣((pv 3)∣((pv 4)∣aa))))))) rfl)∪((bJ (pv 0) (kK G.wf Oa (hr.mono (by decide)) (by rfl) G.vK G.gm .nil ay ((pv 1)∣(ae∣((jp (v:=.ref a.dc) (by rfl) G.ue rfl)∣((pv 2)∣((pv 3)∣((pv 4)∣aa))))))) rfl)∪(@ao _ _ _ (bJ (pv 0) vN rfl)))),?_⟩;refine⟨_,rfl,_,rfl,_,rfl,_,rfl,λra da na nda nea=>?_⟩;refine⟨ra,da,st,a.ki,ft,l',"ask","asked","taken",s,R,fs,rfl,a8,G.CG,?_,λH1 r1 kp1=>?_⟩
   . rw[ac (ag hf na),ac (ag hf nda)];exact hf
   have e1:c9 H H1:=λc o e=>kp1 c o (λz=>ag e na (IW.mp z)) (by rw[ac (ag e na),ac (ag e nda)];exact e)
   clear kp1;refine⟨rfl,_,rfl,h,a.bp,dx,[],rfl,e1 _ _ hx,G.bD,G.ik,by decide,?_⟩;have n1:ra≠h:=λz=>by rw[z,hx]at na;cases na
   have hx1:=e1 _ _ hx;have kp2:Kp [h] H (upd H1 h (.ins a.bp dx (bR "asks" (.ref ra) []))):=λc o n e=>by rw[ac λz=>n (IW.mpr z)];exact e1 _ _ e
   have hx2:upd H1 h (.ins a.bp dx (bR "asks" (.ref ra) [])) h=dk (.ins a.bp dx (bR "asks" (.ref ra) [])):=a8;have r2:=r1.keep (H':=upd H1 h (.ins a.bp dx (bR "asks" (.ref ra) []))) λo e=>by rw[ac n1];exact e
   have hf2:upd H1 h (.ins a.bp dx (bR "asks" (.ref ra) [])) ft=dk (.tup (fs.map V.str)):=by
    rw[ac (iq (e1 _ _ hf) hx1 (by intro z;cases z))];exact e1 _ _ hf
   generalize upd H1 h (.ins a.bp dx (bR "asks" (.ref ra) []))=H2 at kp2 hx2 r2 hf2 |-;refine⟨_,rfl,_,rfl,_,rfl,_,rfl,λrb db nb ndb neb=>?_⟩;refine⟨rb,db,st,a.dc,ft,l',"answer","answered","handed",s,R,fs,rfl,a8,G.uD,?_,λH3 r3 kp3=>?_⟩
   . rw[ac (ag hf2 nb),ac (ag hf2 ndb)];exact hf2
   have e3:c9 H2 H3:=λc o e=>kp3 c o (λz=>ag e nb (IW.mp z)) (by rw[ac (ag e nb),ac (ag e ndb)];exact e)
   clear kp3;have nbH:H rb=IX:=fP kp2 nb λx m=>by rw[IW.mp m,hx2];intro z;cases z
   have n3:rb≠h:=λz=>by rw[z,hx2]at nb;cases nb
   refine⟨rfl,_,rfl,h,a.bp,dx,_,rfl,e3 _ _ hx2,G.bD,G.fe,by show 1 < 1000;decide,?_⟩;refine λgd hg=>⟨_,rfl,h,a.bp,dx,_,rfl,(by rw[ac (ag a8 hg)];exact a8),G.bD,G.cZ,by show 2 < 1000;decide,?_⟩
   obtain⟨ng,hg3⟩:=up1 hg;have gdH:H gd=IX:=fP kp2 (bz e3 hg3) λx m=>by rw[IW.mp m,hx2];intro z;cases z
   refine k ⟨h,ra,rb,gd⟩ _ rfl na nbH gdH ⟨⟨dx,a8⟩,(r2.keep λo e=>e3 _ _ e).keep λo e=>?_,r3.keep λo e=>?_,?_⟩ λc o nc ec=>?_
   . rw[ac n1,ac (ag e hg3),ac n1];exact e
   . rw[ac n3,ac (ag e hg3),ac n3];exact e
   . rw[ac ng,a8];rfl
   . have c1:c≠h:=λz=>nc (IW.mpr z)
     have e4:=e3 _ _ (kp2 c o nc ec);rw[ac c1,ac (ag e4 hg3),ac c1];exact e4
def Bg (G:Gs K mg a d):FnOk P w K mg base CX0 7 a.eM d.eM ["self"] (wu w a.bp a.cm a.aM):=by
 have Ob:FnOk P w K mg base CX0 5 _ _ _ _:=wm G;refine G.u8.ok lM (λvs H Q E h=>?_) (λcdv A' outer s' H vs Q E hr h=>?_)
 . obtain⟨z,sa,p,ts,M,r,A,T,rfl,_⟩:=h;rfl
 . obtain⟨z,sa,p,ts,M,r,A,T,rfl,hn,S,hp,htl,hrl,hA,hT,k⟩:=h;have hu:=fA hr;refine⟨_,((@b9 _ _ 1 _ _ _ _ lM.nd rfl (JJ rfl) (b7 (ak (pv 0) rfl) G.av G.lp Ob (hr.mono (by decide)) G.mZ .nil ay) (by rfl) (by first|exact .inl rfl|exact .inr rfl|assumption))∪((aS ((mS (ar jz (pv 1) eh (az _)) (lY (ar jz (@aA _ _ _ _ _ _ _ aI (pv 1) ae (λ_ _=>rfl)) eh (az _))))).pt (@ao _ _ _ (Au hu (ak (pv 0) rfl) (@aA _ _ _ _ _ _ _ aI (pv 1) ae (λ_ _=>rfl)) dZ rfl)) aq)∪((pv 1)⁻¹))),?_⟩;obtain⟨dx,hx⟩:=hn.ob;obtain⟨dr,hra⟩:=hn.ra;refine⟨_,rfl,fld hx G.bD G.ik AN ⟨z.ra,dr,_,rfl,hra,wO,z.ra,sa,l',"ask","asked","taken",p,M,r,A,T,rfl,⟨dr,hra⟩,S,hp,by decide +kernel,by decide +kernel,by decide +kernel,hrl,hA,hT,?_⟩⟩;by_cases h0:(A - T) % (p.s * p.R)=0
   . rw[Pa h0]at k |-;exact⟨_,rfl,rfl,_,rfl,dY ⟨_,rfl,k⟩⟩
   rw[Pb h0]at k |-;rcases k with⟨c,nm,wv,hrd,hc,k⟩|⟨i,hrd,k⟩
   . refine .inl ⟨c,_,hrd,hc,λH1 S1 kp1=>?_⟩;have hn1:=hn.lists kp1 λc m=>.inl (by
      obtain⟨ts,e,_⟩:=S.rw l';exact⟨ts,by rw[IW.mp m];exact e⟩)
     have hc1:=kp1 _ _ (S.noT hc) hc;obtain⟨dx1,hx1⟩:=hn1.ob;refine⟨_,rfl,rfl,_,rfl,gJ ⟨_,rfl,c,_,_,_,rfl,rfl,SqT.of hc1,rfl,rfl,_,rfl,gJ ?_⟩⟩;refine⟨_,rfl,fld hx1 G.bD G.cZ o6 ⟨_,rfl,c,_,_,_,rfl,rfl,SqT.of hc1,rfl,z.gd,_,rfl,ES.k (k:=.inl nm) hn1.go (Jf (by rw[D0];exact htl) (by decide)),_,rfl,?_⟩⟩;rw[Ei];refine k _ ?_ (S1.kp Kp.one (λc hc=>by rw[IW.mp hc];exact S1.noD hn1.go) λc hc vs e=>by rw[IW.mp hc,hn1.go]at e;cases e) λc o nc e=>?_
     . obtain⟨d1,x1⟩:=hn1.ra;obtain⟨d2,x2⟩:=hn1.rb;exact⟨⟨dx1,by rw[ac (iq hx1 hn1.go (by intro z;cases z))];exact hx1⟩,⟨d1,by rw[ac (iq x1 hn1.go (by intro z;cases z))];exact x1⟩,⟨d2,by rw[ac (iq x2 hn1.go (by intro z;cases z))];exact x2⟩,a8⟩
     . rw[ac λz=>nc (by rw[z];exact Jg)];exact kp1 c o (λm=>nc (Jh _ m)) e
   . refine .inr ⟨i,hrd,λt H1 n1 v1 S1 kp1=>?_⟩;have hn1:=hn.lists kp1 λc m=>.inl (by
      obtain⟨ts,e,_⟩:=S.rw l';exact⟨ts,by rw[IW.mp m];exact e⟩)
     exact⟨_,rfl,rfl,_,rfl,gJ ⟨_,rfl,t,_,_,_,rfl,rfl,SqT.of v1,rfl,rfl,_,rfl,dY ⟨_,rfl,k t H1 n1 v1 hn1 S1 kp1⟩⟩⟩
def sU (G:Gs K mg a d):FnOk P w K mg base (CXv P w) 6 a.bf d.bf ["self","name"] (tL w a.bp a.cm a.aM a.uR a.gD):=by
 have Od:FnOk P w K mg base CX0 4 _ _ _ _:=yA G;refine G.jZ.okX (k:=5) jw (λvs H Q E h=>?_) (λcdv A' outer s' H vs Q E hr hR h=>?_)
 . obtain⟨z,sa,p,ts,M,r,A,T,nm,rfl,_⟩:=h;rfl
 . obtain⟨z,sa,p,ts,M,r,A,T,nm,rfl,hn,S,hp,hA,hT,k⟩:=h;have hu:=fA hr;refine⟨_,((aS (D1 (tX hu (pv 1) (ak (pv 0) rfl))) (@ao _ _ _ (iJ hR hr.hd (by rfl) G.vS G.xc_NoTask (am∣aa))) aq)∪(@ao _ _ _ (aS (ck (b7 (ak (pv 0) rfl) G.av G.jG Od (hr.mono (by decide)) G.km .nil ay)) (@ao _ _ _ (iJ hR hr.hd (by rfl) G.yy G.xc_Full (am∣aa))) aq))),?_⟩;obtain⟨dx,hx⟩:=hn.ob;obtain⟨dr,hrb⟩:=hn.rb;refine⟨_,rfl,_,rfl,fld hx G.bD G.cZ o6 ⟨z.gd,_,rfl,EV.k (k:=.inl nm) hn.go,_,rfl,?_⟩⟩;rw[pd];cases hc:ts.contains nm with
  |false =>
    rw[Pa hc]at k;exact gJ ⟨by show 1 <= Je;decide,k⟩
  |true =>
    rw[Pb (by rw[hc];decide)]at k;refine dY ?_;refine⟨_,rfl,fld hx G.bD G.fe qH ⟨z.rb,dr,_,rfl,hrb,yu,z.rb,sa,l',"answer","answered","handed",p,M,r,A,T,rfl,⟨dr,hrb⟩,S,hp,by decide +kernel,by decide +kernel,hA,hT,_,rfl,?_⟩⟩;by_cases hf:(A - T) % (p.s * p.R)=p.s
    . rw[Pa hf]at k;exact zU hf ⟨by show 1 <= Je;decide,k⟩
    . rw[Pb hf]at k;exact rY hf k
def zc (G:Gs K mg a d):FnOk P w K mg base (CXv P w) 8 a.cn d.cn ["self","name","worth"] (uf w a.bp a.cm a.aM a.uR a.gD):=by
 have O7:FnOk P w K mg base (CXv P w) 6 _ _ _ _:=sU G;have Oe:FnOk P w K mg base CX0 4 _ _ _ _:=CP G;refine G.qj.okX (k:=7) p7 (λvs H Q E h=>?_) (λcdv A' outer s' H vs Q E hr hR h=>?_)
 . obtain⟨z,sa,p,ts,M,r,A,T,nm,wv,rfl,_⟩:=h;rfl
 . obtain⟨z,sa,p,ts,M,r,A,T,nm,wv,rfl,hn,S,hp,hrl,hA,hT,k⟩:=h;refine⟨_,((@aB _ _ _ _ (ax (pv 0) G.bD G.f9 O7 (hr.mono (by decide)) G.fo .nil hR.passes ((pv 1)∣aa)) (by rfl))∪((@aB _ _ _ _ (ax (ak (pv 0) rfl) G.av G.ot Oe (hr.mono (by decide)) G.qV .nil ay ((pv 1)∣((pv 2)∣aa))) (by rfl))∪(@ao _ _ _ (@aB _ _ _ _ (Bp (ak (pv 0) rfl) (pv 1) ⟨rfl,rfl,rfl,rfl⟩) (by rfl))))),?_⟩;obtain⟨dx,hx⟩:=hn.ob;obtain⟨dr,hrb⟩:=hn.rb;refine⟨_,rfl,z.h,dx,_,rfl,hx,wR,_,rfl,z,sa,p,ts,M,r,A,T,nm,rfl,hn,S,hp,hA,hT,?_⟩;by_cases hc:ts.contains nm=f'
   . rw[Pa hc]at k |-;exact k
   rw[Pb hc]at k |-;by_cases hf:(A - T) % (p.s * p.R)=p.s
   . rw[Pa hf]at k |-;exact k
   rw[Pb hf]at k |-;refine⟨_,rfl,fld hx G.bD G.fe qH ⟨z.rb,dr,_,rfl,hrb,Dc,_,rfl,_,rfl,z.rb,sa,l',"answer","answered","handed",p,M,r,A,.int nm,wv,rfl,⟨dr,hrb⟩,S,hp,by decide +kernel,by decide +kernel,hrl,hA,λt H1 n1 v1 S1 kp1=>?_⟩⟩;have hn1:=hn.lists kp1 λc m=>.inl (by
    obtain⟨ts,e,_⟩:=S.rw l';exact⟨ts,by rw[IW.mp m];exact e⟩)
   obtain⟨dx1,hx1⟩:=hn1.ob;have hv:qd (gK ts) (.inl nm)=dk (.bl l'):=by
    rw[pd];cases y:ts.contains nm with
   |true=>rfl
   |false=>exact absurd y hc
   refine⟨_,rfl,fld hx1 G.bD G.cZ o6 ⟨z.gd,rfl,.inl ⟨_,.inl hn1.go⟩,_,rfl,_,.inl nm,_,hn1.go,rfl,hv,?_⟩⟩;rw[ve];refine k t _ n1 ?_ ?_ (S1.kp Kp.one (λc hc=>by rw[IW.mp hc];exact S1.noD hn1.go) λc hc vs e=>by rw[IW.mp hc,hn1.go]at e;cases e) λc o nc e=>?_
   . rw[ac (iq v1 hn1.go (by intro z;cases z))];exact v1
   . obtain⟨d1,x1⟩:=hn1.ra;obtain⟨d2,x2⟩:=hn1.rb;exact⟨⟨dx1,by rw[ac (iq hx1 hn1.go (by intro z;cases z))];exact hx1⟩,⟨d1,by rw[ac (iq x1 hn1.go (by intro z;cases z))];exact x1⟩,⟨d2,by rw[ac (iq x2 hn1.go (by intro z;cases z))];exact x2⟩,a8⟩
   . rw[ac λz=>nc (by rw[z];exact Jg)];exact kp1 c o (λm=>nc (Jh _ m)) e
def wB (G:Gs K mg a d):FnOk P w K mg base CX0 1 a.dD d.dD ["self"] (Ca a.bp a.cm):=by
 refine G.r9.ok qk (λvs H Q E h=>?_) (λcdv A outer s H vs Q E hr h=>?_)
 . obtain⟨z,st,p,ts,rfl,_⟩:=h;rfl
 . obtain⟨z,st,p,ts,rfl,hn,hl,k⟩:=h;refine⟨_,((aK (mV rfl) (by rfl) G.rJ o9 ((ak (pv 0) rfl)∣aa))⁻¹),?_⟩;obtain⟨dx,hx⟩:=hn.ob;exact⟨_,rfl,fld hx G.bD G.cZ o6 ⟨z.gd,_,ts,rfl,hn.go,by unfold gK;rw[map_map];rfl,hl,λp ns hp h1 h2=>k p ns hp h1 h2⟩⟩
def C7 (w:Jj) (C:G'):Sp:=λvs H Q _=>∃ x dx,vs=[.ref x]/\H x=dk (.ins C dx []) /\
 ∀ (sa:SA) (H':Hp),sa.x=x->(∀ c,sa.own c->c≠x->H c=IX)->StT w C H' sa Mem.zero (λ_=>[])->Kp [x] H H'->Q .non H'
def Ao (w:Jj) (C:G'):Sp:=λvs H Q _=>∃ (sa:SA) (m:Mem) (rs:Bool->List Wr) (b:Bool) (cv wv:V) (x:Wr),vs=[.ref sa.x,.int (sdI b),cv,wv]/\StT w C H sa m rs/\(rs b).length < 99990/\nL H x.key cv/\DV H x.dat wv/\x.Ok /\
 ∀ H',StT w C H' sa m (aF rs b (rs b++[x]))->Kp [sa.l b] H H'->Q .non H'
def zK (w:Jj) (C:G'):Sp:=λvs H Q _=>∃ (sa:SA) (m:Mem) (rs:Bool->List Wr) (b:Bool) (x:Wr) (rest:List Wr),vs=[.ref sa.x,.int (sdI b)]/\StT w C H sa m rs/\rs b=x :: rest /\
 ∀ H',StT w C H' sa (m.put x) (aF rs b rest)->Kp [sa.l b,sa.hd] H H'->Q .non H'
def wrD (x:Wr):IV:=.tuple [x.key,x.dat]
def uz (w:Jj) (C:G'):Sp:=λvs H Q _=>∃ (sa:SA) (m:Mem) (rs:Bool->List Wr) (b:Bool),vs=[.ref sa.x,.int (sdI b)]/\StT w C H sa m rs /\
 ∀ (p:G') (ts:List V),H p=IX->DVs H ((rs b).map wrD) ts->Q (.ref p) (upd H p (.lst ts))
theorem we {H:Hp}:∀ {row:List Wr}{es:List (IV × V)},Jv (WrR H) row es->Jv (RD H) es (row.map wrD)
|_,_,.nil=>.nil
|x :: _,_,.cons ⟨_,hk,hd⟩ t=>.cons ⟨x.dat,by rw[hk];rfl,hd⟩ (we t)
def Hz {w:Jj}{C:G'}{vs:List V}{H:Hp}{Q:VK}{E:XK}(h:C7 w C vs H Q E):yP w C vs H Q E:=by
 obtain⟨x,dx,rfl,hx,k⟩:=h;refine⟨x,dx,rfl,hx,λhd rl l H' f1 f2 f3 S kp=>k ⟨x,hd,rl,l⟩ H' rfl (λc hc n=>?_) ⟨[],_,S,MemR.zero,λ_=>.nil⟩ kp⟩;rcases hc with y|y|y|y|y
 . exact absurd y n
 . rw[y];exact f1
 . rw[y];exact f2
 . rw[y];exact f3 _
 . rw[y];exact f3 _
def zj {w:Jj}{C:G'}{vs:List V}{H:Hp}{Q:VK}{E:XK}(h:Ao w C vs H Q E):wj w C vs H Q E:=by
 obtain⟨sa,m,rs,b,cv,wv,x,rfl,⟨M,r,S,R,P⟩,hl,hk,hd,ho,k⟩:=h;have hl':=be (P b);refine⟨sa.x,sa.hd,sa.rl,sa.l,M,r,b,cv,wv,x.key,rfl,S,by omega,hk,λH' S' kp=>k H' ?_ kp⟩;have ht:∀ c vs,H c=dk (.tup vs)->H' c=dk (.tup vs):=λc vs e=>kp c _ (S.noT e) e
 exact StT.grow R P S' ht (.cons ⟨ho,rfl,DV.keep ht _ _ x.dat_kd hd⟩ .nil)
def drainT {w:Jj}{C:G'}{vs:List V}{H:Hp}{Q:VK}{E:XK}(h:zK w C vs H Q E):vJ w C vs H Q E:=by
 obtain⟨sa,m,rs,b,x,rest,rfl,⟨M,r,S,R,P⟩,hb,k⟩:=h;have pb:=P b;rw[hb]at pb;cases hr:r b with
|nil=>rw[hr]at pb;cases pb
|cons q es =>
  rw[hr]at pb;cases pb with
 |cons hx pt =>
   refine⟨sa.x,sa.hd,sa.rl,sa.l,M,r,b,q.1,q.2,es,rfl,S,hr,lt_of_le_of_lt (StT.small S R) (by decide),λH' S' kp=>k H' ⟨_,_,S',?_,λc=>?_⟩ kp⟩
   all_goals
    have ht:∀ c vs,H c=dk (.tup vs)->H' c=dk (.tup vs):=λc vs e=>kp c _ (λmm=>by
     rcases Jx.mp mm with y|y
     . exact S.noT (b:=b) e (IW.mpr y)
     . obtain⟨ee,e'⟩:=S.me.there;rw[IW.mp y,e']at e;cases e) e
   . exact(R.put hx).keep ht
   . by_cases e:c=b
     . subst e;rw[ap,ap];exact Paired.mapP pt λ_ _ q=>q.keep ht
     . rw[aG e,aG e];exact Paired.mapP (P c) λ_ _ q=>q.keep ht
def yE {w:Jj}{C:G'}{vs:List V}{H:Hp}{Q:VK}{E:XK}(h:uz w C vs H Q E):wM w C vs H Q E:=by
 obtain⟨sa,m,rs,b,rfl,⟨M,r,S,R,P⟩,k⟩:=h;exact⟨sa.x,sa.hd,sa.rl,sa.l,M,r,b,rfl,S,λp ts hp pr=>k p ts hp (wJ pr (we (P b)))⟩
def Dj (w:Jj) (CH CR CS F N:G'):Sp:=λvs H Q E=>∃ (z:HA) (sa:SA) (p:RP) (n:Nat) (aw:List Int) (m:Mem) (rs:Bool->List Wr) (wt:Int),vs=[.ref z.h,.int wt]/\Hn CH CR H z sa.x p n aw/\StT w CS H sa m rs/\p.Ok/\n <= 9/\aw.length < 1000/\(rs f').length < 99990 /\
 if au p m (rs f') .asked .taken=p.s then E (.ref F) IX H else match bF n aw with
 |none=>E (.ref N) IX H
 |some nm=>∀ H',Hn CH CR H' z sa.x p n (aw++[nm])->StT w CS H' sa m (aF rs f' (rs f'++kR p m (rs f') f' .asked nm wt))->Kp [z.gd,sa.l f'] H H'->Q (.int nm) H'
def vD (w:Jj) (CH CR CS:G'):Sp:=λvs H Q _=>∃ (z:HA) (sa:SA) (p:RP) (n:Int) (aw:List Int) (m:Mem) (rs:Bool->List Wr),vs=[.ref z.h]/\Hn CH CR H z sa.x p n aw/\StT w CS H sa m rs/\p.Ok/\(rs f').length < 99990 /\
 (if au p m (rs f') .answered .handed=0 then Q .non H else match rdP m (rs f') l' (rdC m (rs f') .handed % p.s) with
 |some nw=>∀ c H',H' c=dk (.tup [.int nw.1,.int nw.2])->Hn CH CR H' z sa.x p n (aw.filter λk=>decide (k≠nw.1))->StT w CS H' sa m (aF rs f' (rs f'++[d7 p m (rs f') .handed]))->Kp [z.gd,sa.l f'] H H'->Q (.ref c) H'
 |none=>∀ c H',H' c=dk (.tup [.non,.non])->Hn CH CR H' z sa.x p n aw->StT w CS H' sa m (aF rs f' (rs f'++[d7 p m (rs f') .handed]))->Kp [z.gd,sa.l f'] H H'->Q (.ref c) H')
def IM {w:Jj}{CH CR CS F N:G'}{vs:List V}{H:Hp}{Q:VK}{E:XK}(h:Dj w CH CR CS F N vs H Q E):CB w CH CR CS F N vs H Q E:=by
 obtain⟨z,sa,p,n,aw,m,rs,wt,rfl,hn,⟨M,r,S,R,P⟩,hp,n9,hal,hrl,k⟩:=h;have hl:=be (P f');refine⟨z,sa,p,n,aw,M,r,.int wt,rdC m (rs f') .asked,rdC m (rs f') .taken,rfl,hn,S,hp,n9,hal,by omega,cJ R (P f') .asked,cJ R (P f') .taken,?_⟩;unfold au at k;by_cases hc:(rdC m (rs f') .asked - rdC m (rs f') .taken) % (p.s * p.R)=p.s
 . rw[Pa hc]at k |-;exact k
 . rw[Pb hc]at k |-;cases hle:bF n aw with
  |none=>rw[hle]at k;exact k
  |some nm =>
    rw[hle]at k;intro t H' n2 v2 hn2 S2 kp2;have ht:∀ c vs,H c=dk (.tup vs)->H' c=dk (.tup vs):=λc vs e=>kp2 c _ (λmm=>by
     rcases Jx.mp mm with y|y
     . rw[y,hn.go]at e;cases e
     . exact S.noT e y) e
    exact k H' hn2 (StT.grow R P S2 ht (x6 hp (by have:=sS hle;omega) v2)) kp2
def Cf {w:Jj}{CH CR CS:G'}{vs:List V}{H:Hp}{Q:VK}{E:XK}(h:vD w CH CR CS vs H Q E):qS w CH CR CS vs H Q E:=by
 obtain⟨z,sa,p,n,aw,m,rs,rfl,hn,⟨M,r,S,R,P⟩,hp,hrl,k⟩:=h;have hl:=be (P f');refine⟨z,sa,p,n,aw,M,r,rdC m (rs f') .answered,rdC m (rs f') .handed,rfl,hn,S,hp,by omega,cJ R (P f') .answered,cJ R (P f') .handed,?_⟩;unfold au at k;by_cases hc:(rdC m (rs f') .answered - rdC m (rs f') .handed) % (p.s * p.R)=0
 . rw[Pa hc]at k |-;exact k
 . rw[Pb hc]at k |-;have ht:∀ {H':Hp} {xs:List G'},(∀ x∈xs,x=z.gd\/x=sa.l f')->Kp xs H H'->∀ c vs,H c=dk (.tup vs)->H' c=dk (.tup vs):=λhx kp c vs e=>kp c _ (λmm=>by
    rcases hx c mm with y|y
    . rw[y,hn.go]at e;cases e
    . exact S.noT (b:=f') e (IW.mpr y)) e
   rcases Ag R (P f') l' (rdC m (rs f') .handed % p.s) with⟨e1,e2⟩|⟨nm,wt,c,e1,e2,hc'⟩
   . rw[e1]at k;refine .inr ⟨0,e2,λt H' n1 v1 hn1 S1 kp1=>k t H' v1 hn1 (StT.grow R P S1 (ht (λx mx=>.inr (IW.mp mx)) kp1) (.cons ⟨trivial,rfl,rfl⟩ .nil)) (kp1.mono λc mc=>Jh _ mc)⟩
   . rw[e1]at k;refine .inl ⟨c,nm,.int wt,e2,hc',λH' hn1 S1 kp1=>?_⟩;have ht':=ht (λx mx=>by
      rcases Jx.mp mx with y|y
      . exact .inl y
      . exact .inr (IW.mp y)) kp1
     exact k c H' (ht' _ _ hc') hn1 (StT.grow R P S1 ht' (.cons ⟨trivial,rfl,rfl⟩ .nil)) kp1
def Ba (w:Jj) (CT CR CS:G'):Sp:=λvs H Q _=>∃ (z:TA') (sa:SA) (p:RP) (ts:List Int) (m:Mem) (rs:Bool->List Wr),vs=[.ref z.h]/\Tn CT CR H z sa.x p ts/\StT w CS H sa m rs/\p.Ok/\ts.length < 1000/\(rs l').length < 99990 /\
 (if au p m (rs l') .asked .taken=0 then Q .non H else match rdP m (rs l') f' (rdC m (rs l') .taken % p.s) with
 |some nw=>∀ c H',H' c=dk (.tup [.int nw.1,.int nw.2])->Tn CT CR H' z sa.x p (i6 ts nw.1)->StT w CS H' sa m (aF rs l' (rs l'++[d7 p m (rs l') .taken]))->Kp [z.gd,sa.l l'] H H'->Q (.ref c) H'
 |none=>∀ c H',H' c=dk (.tup [.non,.non])->Tn CT CR H' z sa.x p ts->StT w CS H' sa m (aF rs l' (rs l'++[d7 p m (rs l') .taken]))->Kp [z.gd,sa.l l'] H H'->Q (.ref c) H')
def xZ (w:Jj) (CT CR CS F N:G'):Sp:=λvs H Q E=>∃ (z:TA') (sa:SA) (p:RP) (ts:List Int) (m:Mem) (rs:Bool->List Wr) (nm wt:Int),vs=[.ref z.h,.int nm,.int wt]/\Tn CT CR H z sa.x p ts/\StT w CS H sa m rs/\p.Ok/\(rs l').length < 99990/\(∀ x∈ts,0 <= x/\x < 9) /\
 if ts.contains nm=f' then E (.ref N) IX H else if au p m (rs l') .answered .handed=p.s then E (.ref F) IX H else
  ∀ H',Tn CT CR H' z sa.x p (ts.filter λk=>decide (k≠nm))->StT w CS H' sa m (aF rs l' (rs l'++kR p m (rs l') l' .answered nm wt))->Kp [z.gd,sa.l l'] H H'->Q .non H'
def Hk {w:Jj}{CT CR CS:G'}{vs:List V}{H:Hp}{Q:VK}{E:XK}(h:Ba w CT CR CS vs H Q E):wu w CT CR CS vs H Q E:=by
 obtain⟨z,sa,p,ts,m,rs,rfl,hn,⟨M,r,S,R,P⟩,hp,htl,hrl,k⟩:=h;have hl:=be (P l');refine⟨z,sa,p,ts,M,r,rdC m (rs l') .asked,rdC m (rs l') .taken,rfl,hn,S,hp,htl,by omega,cJ R (P l') .asked,cJ R (P l') .taken,?_⟩;unfold au at k;by_cases hc:(rdC m (rs l') .asked - rdC m (rs l') .taken) % (p.s * p.R)=0
 . rw[Pa hc]at k |-;exact k
 . rw[Pb hc]at k |-;have ht:∀ {H':Hp} {xs:List G'},(∀ x∈xs,x=z.gd\/x=sa.l l')->Kp xs H H'->∀ c vs,H c=dk (.tup vs)->H' c=dk (.tup vs):=λhx kp c vs e=>kp c _ (λmm=>by
    rcases hx c mm with y|y
    . rw[y,hn.go]at e;cases e
    . exact S.noT (b:=l') e (IW.mpr y)) e
   rcases Ag R (P l') f' (rdC m (rs l') .taken % p.s) with⟨e1,e2⟩|⟨nm,wt,c,e1,e2,hc'⟩
   . rw[e1]at k;refine .inr ⟨0,e2,λt H' n1 v1 hn1 S1 kp1=>k t H' v1 hn1 (StT.grow R P S1 (ht (λx mx=>.inr (IW.mp mx)) kp1) (.cons ⟨trivial,rfl,rfl⟩ .nil)) (kp1.mono λc mc=>Jh _ mc)⟩
   . rw[e1]at k;refine .inl ⟨c,nm,.int wt,e2,hc',λH' hn1 S1 kp1=>?_⟩;have ht':=ht (λx mx=>by
      rcases Jx.mp mx with y|y
      . exact .inl y
      . exact .inr (IW.mp y)) kp1
     exact k c H' (ht' _ _ hc') hn1 (StT.grow R P S1 ht' (.cons ⟨trivial,rfl,rfl⟩ .nil)) kp1
def EH {w:Jj}{CT CR CS F N:G'}{vs:List V}{H:Hp}{Q:VK}{E:XK}(h:xZ w CT CR CS F N vs H Q E):uf w CT CR CS F N vs H Q E:=by
 obtain⟨z,sa,p,ts,m,rs,nm,wt,rfl,hn,⟨M,r,S,R,P⟩,hp,hrl,hts,k⟩:=h;have hl:=be (P l');refine⟨z,sa,p,ts,M,r,rdC m (rs l') .answered,rdC m (rs l') .handed,nm,.int wt,rfl,hn,S,hp,by omega,cJ R (P l') .answered,cJ R (P l') .handed,?_⟩;unfold au at k;by_cases h0:ts.contains nm=f'
 . rw[Pa h0]at k |-;exact k
 rw[Pb h0]at k |-;by_cases hc:(rdC m (rs l') .answered - rdC m (rs l') .handed) % (p.s * p.R)=p.s
 . rw[Pa hc]at k |-;exact k
 . rw[Pb hc]at k |-;intro t H' n2 v2 hn2 S2 kp2;have ht:∀ c vs,H c=dk (.tup vs)->H' c=dk (.tup vs):=λc vs e=>kp2 c _ (λmm=>by
    rcases Jx.mp mm with y|y
    . rw[y,hn.go]at e;cases e
    . exact S.noT e y) e
   exact k H' hn2 (StT.grow R P S2 ht (x6 hp (hts nm (by
    cases y:ts.contains nm with
   |false=>exact absurd y h0
   |true=>rw[Lr]at y;exact of_decide_eq_true y)) v2)) kp2
def B5:Sp:=λvs H Q _=>∃ i:Int,vs=[.int i]/\Q (.bl l') H
def zd:Sp:=λvs H Q _=>∃ (i:Int) (k:Str),vs=[.int i,.str k]/\∀ H',c9 H H'->Q (.bl (gr i k)) H'
def zp:Sp:=λvs H Q _=>∃ (t:G') (x:Dd),vs=[.ref t]/\H t=dk (.tup x.vs)/\x.Ok/\∀ H',c9 H H'->Q (.bl l') H'
def EJ:Sp:=λvs H Q _=>∃ (t:G') (x:Dd),vs=[.ref t]/\H t=dk (.tup x.vs)/\∀ H',c9 H H'->Q (.int (sdI x.side)) H'
def BI (G:Gs K mg a d):FnOk P w K mg base CX0 1 a.iY d.iY ["value"] B5:=by
 refine G.qO.ok vy (λvs H Q E h=>?_) (λcdv A' outer s' H vs Q E hr h=>?_)
 . obtain⟨i,rfl,_⟩:=h;rfl
 . obtain⟨i,rfl,k⟩:=h;refine⟨_,((qF (aK b6 (by rfl) G.aO aL ((pv 0)∣((cV (v:=.ty "int") (by rfl) G.Ed yR rfl)∣aa))) (tE (D3 (aK b6 (by rfl) G.aO aL ((pv 0)∣((cV (v:=.ty "bool") (by rfl) G.wN sH rfl)∣aa))))))⁻¹),?_⟩;exact⟨_,rfl,_,_,.type "int",l',rfl,.int i,GL,_,rfl,gJ ⟨_,rfl,_,_,.type "int",f',rfl,.int i,Hw,_,rfl,k⟩⟩
def EA (G:Gs K mg a d):FnOk P w K mg base CX0 2 a.kG d.kG ["value","kind"] zd:=by
 have OM:FnOk P w K mg base CX0 1 _ _ _ _:=BI G;refine G.tZ.ok xg (λvs H Q E h=>?_) (λcdv A' outer s' H vs Q E hr h=>?_)
 . obtain⟨i,k,rfl,_⟩:=h;rfl
 . obtain⟨i,kd,rfl,k⟩:=h;refine⟨_,((aS (eW (ck (aR OM (hr.mono (by decide)) (by rfl) G.xE G.qO.kp G.yg .nil ay ((pv 0)∣aa)))) (dZ⁻¹) aq)∪((aS (ar cG (pv 1) am (az _)) ((Bf Fz Fz (Go Dh (vQ (by rfl) G.mQ)) (pv 0) (vQ (by rfl) G.mQ))⁻¹) aq)∪((aS (ar cG (pv 1) am (az _)) ((eo gX (pv 0) (@b8 _ _ _ _ _ (ae∣(ae∣aa))) (by with_unfolding_all rfl))⁻¹) aq)∪(dZ⁻¹)))),?_⟩;refine⟨_,rfl,i,rfl,_,rfl,dY ?_⟩;refine⟨_,rfl,rfl,_,rfl,?_⟩;by_cases h1:kd="worth"
   . refine iI (Pd (by rw[h1])) ?_;have e:gr i kd=(decide (-1000000000 <= i) && decide (i <= 1000000000)):=by unfold gr;rw[Pa h1]
     refine⟨_,rfl,_,rfl,_,_,rfl,rfl,_,rfl,?_⟩;by_cases hb:-1000000000 <= i
     . refine iI (Pd hb) ⟨_,_,rfl,rfl,?_⟩;rw[Pd hb,Bool.true_and]at e;show Q (.bl (decide (i <= 1000000000))) H;rw[<-e];exact k _ λ_ _ z=>z
     . refine cT (by rw[Pc];exact hb) ?_;rw[decide_eq_false hb,Bool.false_and]at e;show Q (.bl f') H;rw[<-e];exact k _ λ_ _ z=>z
   . refine cT (by rw[Pc];exact sne h1) ?_;refine⟨_,rfl,rfl,_,rfl,?_⟩;by_cases h2:kd="side"
     . refine iI (Pd (by rw[h2])) ?_;have e:gr i kd=(decide (i=0) || decide (i=1)):=by unfold gr;rw[Pb h1,Pa h2]
       refine⟨_,rfl,l2,λt ht=>⟨t,_,rfl,.inr (SqT.of a8),rfl,rfl,?_⟩⟩;simp only[JP,if_false];have e2:inV (.int i) [V.int 0,V.int 1]=gr i kd:=by
        have:=sP i [0,1];show inV (.int i) (([0,1]:List Int).map V.int)=_;rw[this,e,Lr,KQ,Pc,Bool.or_eq_true,Pc,Pc];simp
       rw[e2];exact k _ (ah ht)
     . refine cT (by rw[Pc];exact sne h2) ?_;have e:gr i kd=l':=by unfold gr;rw[Pb h1,Pb h2]
       show Q (.bl l') H;rw[<-e];exact k _ λ_ _ z=>z
def AX (x:Dd):∃ b,PyProof.Rows.KTD.datumAt x.word [("ask",a.fR),("collect",a.fV),("take",a.gc),("answer",a.fY),("bell",a.fJ),("lie",a.ge),("look",a.fT),("drain",a.fW)]=dk b/\(∀ (G:Gs K mg a d) (H:Hp),SqT K H b (x.ks.map V.str)):=by
 cases x
 . exact⟨_,rfl,λG=>G.As⟩
 . exact⟨_,rfl,λG=>G.Av⟩
 . exact⟨_,rfl,λG=>G.zS⟩
 . exact⟨_,rfl,λG=>G.zE⟩
 . exact⟨_,rfl,λG=>G.Ak⟩
 . exact⟨_,rfl,λG=>G.yB⟩
 . exact⟨_,rfl,λG=>G.yn⟩
 . exact⟨_,rfl,λG=>G.zV⟩
def yq (G:Gs K mg a d):FnOk P w K mg base CX0 3 a.kO d.kO ["some"] zp:=by
 have OL:FnOk P w K mg base CX0 2 _ _ _ _:=EA G;refine G.uc.ok qB (λvs H Q E h=>?_) (λcdv A' outer s' H vs Q E hr h=>?_)
 . obtain⟨t,x,rfl,_⟩:=h;rfl
 . obtain⟨t,x,rfl,ht,hx,k⟩:=h;have hu:=fA hr;refine⟨_,((aS ((yh (eW (ck (aK b6 (by rfl) G.aO aL ((pv 0)∣((cV (v:=.ty "tuple") (by rfl) G.fj de rfl)∣aa))))) (yh (ar cG (aK bh (by rfl) G.lm gv ((pv 0)∣aa)) ae (az _)) (uN (eW (ck (aK b6 (by rfl) G.aO aL ((@aA _ _ _ _ _ _ _ aI (pv 0) ae (λ_ _=>rfl))∣((cV (v:=.ty "str") (by rfl) G.AV vW rfl)∣aa))))))))).pt (dZ⁻¹) aq)∪((@b9 _ _ 1 _ _ _ _ qB.nd rfl (JJ rfl) (AJ (by rfl) G.DD G.Dl (@aA _ _ _ _ _ _ _ aI (pv 0) ae (λ_ _=>rfl)) ⟨rfl,rfl,rfl,rfl⟩) (by rfl) (by first|exact .inl rfl|exact .inr rfl|assumption))∪((aS ((yh (ar wF (pv 1) eh (az _)) (uN (ar oO (aK bh (by rfl) G.lm gv ((pv 0)∣aa)) (@aU _ _ _ _ _ _ _ _ p8 (aK bh (by rfl) G.lm gv ((pv 1)∣aa)) ae) (az _))))).pt (dZ⁻¹) aq)∪((aK (Bu rfl) (by rfl) G.Hc FL ((by exact Bc (x:="value") (x2:="kind") (g:=Hm K 2 (yK (kF 0) (yK (kF 1) GP))) (tc:=λ_ H Q=>Q l' H) (te:=F2 zd [] E0 (sN (qU 0) (sN (qU 1) AT))) (caps:=[]) (js:=[]) rfl (lT rfl rfl (by decide +kernel) (by decide +kernel) rfl trivial rfl rfl) (λC s₃ H₃ Lz ex E'=>by exact FX rfl (show (["value","kind"]:List Str).Nodup from by decide +kernel) rfl rfl (.inl (lookup_relabel_local rfl)) (.inl (lookup_relabel_local rfl)) rfl rfl) trivial (Fc (by rfl) G.GU ((nY D9 (pv 0) (rO ae) rW)∣((pv 1)∣aa))) (λC s₃ H₃ Lz ex E'=>by exact lG) (λC s₃ H₃ Lz ex E'=>by exact(aR OL (hr.mono (by decide)) (by rfl) G.yX G.tZ.kp G.yN .nil ay ((pv 0)∣((pv 1)∣aa)))))∣aa))⁻¹)))),?_⟩;obtain⟨b,hb,hs⟩:=AX (K:=K) (mg:=mg) (d:=d) (a:=a) x;have hs:=hs G;obtain⟨l1,l2'⟩:=x.len;have ht':H t=dk (.tup (.str x.word :: x.args.map V.int)):=by rw[<-x.vs_eq];exact ht
   refine⟨_,rfl,_,_,.type "tuple",l',rfl,.tup ht',Eo,_,rfl,dY ?_⟩;refine⟨_,rfl,t,_,rfl,.inr (SqT.of ht'),rfl,_,rfl,cT (by rw[Pc];exact λy=>by have:=iD y;rw[JH]at this;omega) ?_⟩;refine⟨_,rfl,t,_,_,_,rfl,rfl,SqT.of ht',bC,_,_,.type "str",l',rfl,.str _,Hb,_,rfl,dY ?_⟩;refine⟨_,rfl,t,_,_,_,rfl,rfl,SqT.of ht',bC,x.word,rfl,?_⟩;rw[hb];refine⟨_,rfl,rfl,_,rfl,dY ?_⟩;refine⟨_,rfl,t,_,rfl,.inr (SqT.of ht'),_,rfl,b,_,rfl,.inr (hs H),_,_,rfl,rfl,rfl,_,rfl,cT ?_ ?_⟩
   . rw[Lb,decide_eq_false_iff_not,Decidable.not_not];refine congrArg V.int ?_;rw[JH,Jk,Jk,l1];rfl
   refine⟨_,rfl,_,rfl,t,_,rfl,SqT.of ht',?_,λp1 hp1=>⟨_,rfl,l',p1,b,_,_,rfl,SqT.of a8,hs _,?_⟩⟩
   . rintro⟨y,_⟩;rw[show (dk (1:Int))=dk ((1:Nat):Int) from rfl,HT.sIx_nat,JH]at y;omega
   have e1:=ah (o:=.tup (uK (V.str x.word :: x.args.map V.int) (dk 1) IX)) hp1;rw[show (dk (1:Int))=dk ((1:Nat):Int) from rfl,qI,show List.drop 1 (V.str x.word :: x.args.map V.int)=x.args.map V.int from rfl]at e1 |-;have v1:upd H p1 (.tup (x.args.map V.int)) p1=dk (.tup (x.args.map V.int)):=a8;intro D hD;generalize upd H p1 (.tup (x.args.map V.int))=H1 at e1 v1 hD |-;refine⟨λi mm ys H'=>i <= x.args.length/\mm=x.args.length - i/\ys=(replicate i l').map V.bl/\H' D=dk (.lst ys)/\∀ c o,c≠D->H1 c=dk o->H' c=dk o,⟨_,Kq _,rfl,rfl,a8,λc o n e=>by rw[ac n];exact e⟩,?_⟩;rintro i mm ys H2 ⟨hi,rfl,rfl,hD2,k2⟩;have e2:c9 H1 H2:=λc o e=>k2 c o (λy=>by rw[y,hD]at e;cases e) e
   refine⟨hD2,Jf (show _ < 1000 by rw[Jk,Le];omega) (by decide),?_⟩;by_cases hii:i=x.args.length
   . refine .inl ⟨⟨_,SqT.of (e2 _ _ v1),by rw[Jk];omega⟩,D,replicate i l',rfl,SqL.of hD2,?_⟩;have:(replicate i l').all id=l':=by
      rw[all_eq_true];intro y hy;rw[(List.mem_replicate.mp hy).2];rfl
     rw[this];exact k _ (e1.trans e2)
   . have hlt:i < x.args.length:=by omega
     have hlt2:i < x.ks.length:=by omega
     refine .inr ⟨⟨_,_,_,_,SqT.of (e2 _ _ v1),hs _,by rw[JX,Jb hlt];rfl,by rw[JX,Jb hlt2];rfl⟩,?_⟩;rintro v H3 ⟨T,xv,yv,hT,rfl,rfl,hxv,hyv⟩ v0 v1';have hxv:=hxv _ (SqT.of (e2 _ _ v1));have hyv:=hyv _ (hs _);rw[JX,Jb hlt]at hxv;rw[JX,Jb hlt2]at hyv;cases hxv;cases hyv;refine⟨T,_,rfl,SqT.of a8,rfl,_,_,rfl,_,_,rfl,rfl,_,_,rfl,?_⟩;refine gJ ⟨_,rfl,_,rfl,_,_,rfl,λH4 e4=>?_⟩;have hp:=Dd.part hx i _ _ (Jb hlt) (Jb hlt2);rw[hp];have nD:D≠T:=λy=>by rw[<-y,hD2]at hT;cases hT
     refine⟨e4 _ _ (by rw[ac nD];exact hD2),x.args.length - (i+1),by omega,by omega,rfl,by rw[List.replicate_succ',J3];rfl,a8,λc o n e=>?_⟩;rw[ac n];exact e4 _ _ (ah hT _ _ (k2 c o n e))
def EN (G:Gs K mg a d):FnOk P w K mg base CX0 1 a.kH d.kH ["some"] EJ:=by
 refine G.sW.ok xP (λvs H Q E h=>?_) (λcdv A' outer s' H vs Q E hr h=>?_)
 . obtain⟨t,x,rfl,_⟩:=h;rfl
 . obtain⟨t,x,rfl,ht,k⟩:=h;have hu:=fA hr;refine⟨_,((aS (ar gX (@aA _ _ _ _ _ _ _ aI (pv 0) ae (λ_ _=>rfl)) (@b8 _ _ _ _ _ (am∣(am∣aa))) (by with_unfolding_all rfl)) (ae⁻¹) aq)∪((aS (ar gX (@aA _ _ _ _ _ _ _ aI (pv 0) ae (λ_ _=>rfl)) (@b8 _ _ _ _ _ (am∣(am∣aa))) (by with_unfolding_all rfl)) (ae⁻¹) aq)∪((@aA _ _ _ _ _ _ _ aI (pv 0) ae (λ_ _=>rfl))⁻¹))),?_⟩;have ht':H t=dk (.tup (.str x.word :: x.args.map V.int)):=by rw[<-x.vs_eq];exact ht
   refine⟨_,rfl,t,_,_,_,rfl,rfl,SqT.of ht',bC,l2,λt1 h1=>⟨t1,_,rfl,.inr (SqT.of a8),rfl,rfl,_,rfl,?_⟩⟩;have e1:=ah (o:=.tup [V.str "ask",V.str "collect"]) h1;generalize upd H t1 (.tup [V.str "ask",V.str "collect"])=H1 at e1 |-;rcases x.grp with⟨c1,hsd⟩|⟨c1,hsd⟩|⟨c1,hsd⟩
   . refine iI ?_ ?_
     . rcases c1 with y|y<;>(rw[y];decide +kernel)
     . rw[hsd]at k;exact k H1 e1
   . refine cT ?_ ?_
     . rcases c1 with y|y<;>(rw[y];decide +kernel)
     refine⟨_,rfl,t,_,_,_,rfl,rfl,SqT.of (e1 _ _ ht'),bC,l2,λt2 h2=>⟨t2,_,rfl,.inr (SqT.of a8),rfl,rfl,_,rfl,iI ?_ ?_⟩⟩
     . rcases c1 with y|y<;>(rw[y];decide +kernel)
     . rw[hsd]at k;exact k _ (e1.trans (ah h2))
   . refine cT ?_ ?_
     . rcases c1 with y|y|y|y<;>(rw[y];decide +kernel)
     refine⟨_,rfl,t,_,_,_,rfl,rfl,SqT.of (e1 _ _ ht'),bC,l2,λt2 h2=>⟨t2,_,rfl,.inr (SqT.of a8),rfl,rfl,_,rfl,cT ?_ ?_⟩⟩
     . rcases c1 with y|y|y|y<;>(rw[y];decide +kernel)
     rw[hsd]at ht';exact⟨_,rfl,t,_,_,_,rfl,rfl,SqT.of ((e1.trans (ah h2)) _ _ ht'),rfl,k _ (e1.trans (ah h2))⟩
def y0 (w:Jj) (CH CR CS F N:G'):Sp:=λvs H Q E=>∃ (z:HA) (sa:SA) (p:RP) (n:Nat) (aw:List Int) (m:Mem) (rs:Bool->List Wr),vs=[.ref z.h]/\Hn CH CR H z sa.x p n aw/\StT w CS H sa m rs/\p.Ok/\n <= 9 /\
 if au p m (rs f') .asked .taken=p.s then E (.ref F) IX H else match bF n aw with|none=>E (.ref N) IX H|some _=>Q .non H
def xr (w:Jj) (CT CR CS F N:G'):Sp:=λvs H Q E=>∃ (z:TA') (sa:SA) (p:RP) (ts:List Int) (m:Mem) (rs:Bool->List Wr) (nm:Int),vs=[.ref z.h,.int nm]/\Tn CT CR H z sa.x p ts/\StT w CS H sa m rs/\p.Ok /\
 if ts.contains nm=f' then E (.ref N) IX H else if au p m (rs l') .answered .handed=p.s then E (.ref F) IX H else Q .non H
def Ek {w:Jj}{CH CR CS F N:G'}{vs:List V}{H:Hp}{Q:VK}{E:XK}(h:y0 w CH CR CS F N vs H Q E):vH w CH CR CS F N vs H Q E:=by
 obtain⟨z,sa,p,n,aw,m,rs,rfl,hn,⟨M,r,S,R,P⟩,hp,n9,k⟩:=h;exact⟨z,sa,p,n,aw,M,r,rdC m (rs f') .asked,rdC m (rs f') .taken,rfl,hn,S,hp,n9,cJ R (P f') .asked,cJ R (P f') .taken,k⟩
def Em {w:Jj}{CT CR CS F N:G'}{vs:List V}{H:Hp}{Q:VK}{E:XK}(h:xr w CT CR CS F N vs H Q E):tL w CT CR CS F N vs H Q E:=by
 obtain⟨z,sa,p,ts,m,rs,nm,rfl,hn,⟨M,r,S,R,P⟩,hp,k⟩:=h;exact⟨z,sa,p,ts,M,r,rdC m (rs l') .answered,rdC m (rs l') .handed,nm,rfl,hn,S,hp,cJ R (P l') .answered,cJ R (P l') .handed,k⟩
def rfC (a:Ad):Rf->G'
|.deed=>a.gT
|.full=>a.uR
|.name=>a.gq
|.task=>a.gD
def zN (w:Jj) (ad:Ad):Sp:=λvs H Q E=>∃ (a:YA) (q:YP) (S:YS) (x:Dd) (t:G'),vs=[.ref a.y,.ref t]/\Yn w ad.bo ad.dX ad.bp ad.cm ad.aM H a q S/\q.Ok/\H t=dk (.tup x.vs)/\x.Ok /\
 ∀ H',c9 H H'->match x.chk q S with|none=>Q .non H'|some r=>E (.ref (rfC ad r)) IX H'
def A6 (w:Jj) (ad:Ad):Sp:=λvs H Q _=>∃ (a:YA) (q:YP) (S:YS) (x:Dd) (t:G'),vs=[.ref a.y,.ref t]/\Yn w ad.bo ad.dX ad.bp ad.cm ad.aM H a q S/\q.Ok/\H t=dk (.tup x.vs)/\x.Ok /\
 ∀ H',c9 H H'->Q (.bl (x.chk q S).isNone) H'
def Ab {f:Bool->Bd}(b:Bool):atI [V.str (f f').key,V.str (f l').key] (sdI b)=dk (.str (f b).key):=by cases b<;>rfl
def ur (G:Gs K mg a d):FnOk P w K mg base (CXv P w) 8 a.eE d.eE ["self","some"] (zN w a):=by
 have OK:FnOk P w K mg base CX0 3 _ _ _ _:=yq G;have O2:FnOk P w K mg base CX0 1 _ _ _ _:=EN G;have Oq:FnOk P w K mg base CX0 1 _ _ _ _:=(rH G).imp λvs H Q E=>yE
 have O5:FnOk P w K mg base (CXv P w) 6 _ _ _ _:=(wZ G).imp λvs H Q E=>Ek
 have O7:FnOk P w K mg base (CXv P w) 6 _ _ _ _:=(sU G).imp λvs H Q E=>Em
 refine G.uF.okX (k:=7) sQ (λvs H Q E h=>?_) (λcdv A' outer s' H vs Q E hr hR h=>?_)
 . obtain⟨y,q,S,x,t,rfl,_⟩:=h;rfl
 . obtain⟨y,q,S,x,t,rfl,Y,qo,ht,hx,k⟩:=h;have hu:=fA hr;refine⟨_,((aS (eW (ck (aR OK (hr.mono (by decide)) (by rfl) G.A3 G.uc.kp G.Ax .nil ay ((pv 1)∣aa)))) (@ao _ _ _ (iJ hR hr.hd (by rfl) G.nT G.xc_NoDeed (am∣aa))) aq)∪((aS (ar cG (@aA _ _ _ _ _ _ _ aI (pv 1) ae (λ_ _=>rfl)) am (az _)) ((aS (eW (rK (ax (ak (pv 0) rfl) G.aH G.eU Oq (hr.mono (by decide)) G.fB .nil ay ((@aA _ _ _ _ _ _ _ aI (pv 1) ae (λ_ _=>rfl))∣aa)) (λ_=>rfl))) (@ao _ _ _ (iJ hR hr.hd (by rfl) G.nT G.xc_NoDeed (am∣aa))) aq)∪(@ao _ _ _ sM)) aq)∪((aS (ar oO (@aA _ _ _ _ _ _ _ aV (ak (pv 0) rfl) (aR O2 (hr.mono (by decide)) (by rfl) G.zL G.sW.kp G.AM .nil ay ((pv 1)∣aa)) (λ_ _=>rfl)) (o8 (ar cG (@aA _ _ _ _ _ _ _ aI (pv 1) ae (λ_ _=>rfl)) am (az _)) am am) (az _)) (@ao _ _ _ (iJ hR hr.hd (by rfl) G.nT G.xc_NoDeed (am∣aa))) aq)∪((aS (ar cG (@aA _ _ _ _ _ _ _ aI (pv 1) ae (λ_ _=>rfl)) am (az _)) (@ao _ _ _ (@aB _ _ _ _ (b7 (ak (pv 0) rfl) G.bG G.gR O5 (hr.mono (by decide)) G.jc .nil hR.passes) (by rfl))) aq)∪(@ao _ _ _ (aS (ar cG (@aA _ _ _ _ _ _ _ aI (pv 1) ae (λ_ _=>rfl)) am (az _)) (@ao _ _ _ (@aB _ _ _ _ (ax (ak (pv 0) rfl) G.bD G.f9 O7 (hr.mono (by decide)) G.fo .nil hR.passes ((@aA _ _ _ _ _ _ _ aI (pv 1) ae (λ_ _=>rfl))∣aa)) (by rfl))) aq)))))),?_⟩;have ht':H t=dk (.tup (.str x.word :: x.args.map V.int)):=by rw[<-x.vs_eq];exact ht
   refine⟨_,rfl,t,x,rfl,ht,hx,λH1 e1=>⟨_,rfl,dY ?_⟩⟩;have Y1:=Y.same e1;have ht1:=e1 _ _ ht';refine⟨_,rfl,t,_,_,_,rfl,rfl,SqT.of ht1,bC,rfl,_,rfl,?_⟩;by_cases hd:∃ b,x=.drain b
   . obtain⟨b,rfl⟩:=hd;refine iI (Pd rfl) ?_;refine⟨_,rfl,gl Y1.ob G.aj G.aJ cN (eS Y1.x.st.ob (cq (by decide +kernel) (by decide +kernel)) ?_)⟩;refine⟨_,rfl,t,_,_,_,rfl,rfl,SqT.of ht1,rfl,y.sa,S.m,S.rs,b,rfl,Y1.x.st,λp2 ts hp2 dv=>?_⟩;have e2:=ah (o:=.lst ts) hp2;have hl:=mf dv;rw[Jk]at hl;refine⟨!ts.isEmpty,.inl ⟨_,SqL.of a8,rfl⟩,?_⟩;have k2:=k _ (e1.trans e2);cases hrs:S.rs b with
    |nil =>
      rw[hrs]at hl;have:ts=[]:=length_eq_zero_iff.mp hl;subst this;rw[show (Dd.drain b).chk q S=dk .deed from Pa hrs]at k2;exact gJ ⟨by show 1 <= Je;decide,k2⟩
    |cons r rest =>
      rw[hrs]at hl;have:ts.isEmpty=f':=by cases ts with|nil=>cases hl|cons=>rfl
      rw[this];rw[show (Dd.drain b).chk q S=IX from Pb (by rw[hrs];exact λy=>by cases y)]at k2;exact dY k2
   . have hnd:∀ b,x≠.drain b:=λb e=>hd ⟨b,e⟩
     refine cT (by rw[Pc];exact sne λy=>hd ((x.word_drain).mp y)) ?_;refine⟨_,rfl,gl Y1.ob G.aj G.aN bO ?_⟩;refine⟨_,rfl,t,x,rfl,e1 _ _ ht,λH2 e2=>?_⟩;have Y2:=Y1.same e2;have ht2:=e2 _ _ ht1;refine⟨y.sl,_,_,_,rfl,rfl,SqL.of Y2.sl,Ab x.side,?_⟩;refine⟨_,rfl,t,_,_,_,rfl,rfl,SqT.of ht2,bC,rfl,_,rfl,?_⟩;have e3:=e1.trans e2;have bad:∀ {X:Prop},S.bd x.side≠x.need->E (.ref a.gT) IX H2:=λ{X} hb=>by
      have k2:=k H2 e3;rw[Dd.chk_bed hnd hb]at k2;exact k2
     rcases x.word_look with⟨hw,hn,b,rfl⟩|⟨hw,hn⟩
     . refine iI (Pd (by rw[hw])) ⟨rfl,_,rfl,?_⟩;by_cases hb:S.bd (Dd.look b).side=(Dd.look b).need
       . refine cT (by rw[hb,hn];decide +kernel) ?_;refine⟨_,rfl,t,_,_,_,rfl,rfl,SqT.of ht2,bC,rfl,_,rfl,cT (by rw[Pc];exact sne (show ¬ (("look":Str)="ask") by decide +kernel)) ?_⟩;refine⟨_,rfl,t,_,_,_,rfl,rfl,SqT.of ht2,bC,rfl,_,rfl,cT (by rw[Pc];exact sne (show ¬ (("look":Str)="answer") by decide +kernel)) ?_⟩;have k2:=k H2 e3;rw[show (Dd.look b).chk q S=IX from Pa hb]at k2;exact k2
       . refine iI ?_ ⟨by show 1 <= Je;decide,bad (X:=True) hb⟩;have:=EC hb;rw[hn]at this;rw[Lb,decide_eq_false_iff_not];exact this
     . refine cT (by rw[Pc];exact sne hw) ⟨rfl,_,rfl,?_⟩;by_cases hb:S.bd x.side=x.need
       . refine cT (by rw[hb,hn];decide +kernel) ?_;rcases x.word_aa with⟨wt,rfl⟩|⟨nm,wt,rfl⟩|⟨h1,h2,h3⟩
         . refine⟨_,rfl,t,_,_,_,rfl,rfl,SqT.of ht2,bC,rfl,_,rfl,iI (Pd rfl) ?_⟩;refine⟨_,rfl,gl Y2.ob G.aj G.dN oA (eS Y2.x.hn.ob wz ⟨y.z,y.sa,q.p,q.n,S.un,S.m,S.rs,rfl,Y2.x.hn,Y2.x.st,qo.ok,qo.n9,?_⟩)⟩;have k2:=k H2 e3;rw[show (Dd.ask wt).chk q S=_ from Pa hb]at k2;by_cases hc:au q.p S.m (S.rs f') .asked .taken=q.p.s
           . rw[Pa hc]at k2 |-;exact k2
           . rw[Pb hc]at k2 |-;cases hl:bF q.n S.un with
            |none=>rw[hl]at k2;exact k2
            |some nm =>
              rw[hl]at k2;exact⟨_,rfl,t,_,_,_,rfl,rfl,SqT.of ht2,bC,rfl,_,rfl,cT (by rw[Pc];exact sne (show ¬ (("ask":Str)="answer") by decide +kernel)) k2⟩
         . refine⟨_,rfl,t,_,_,_,rfl,rfl,SqT.of ht2,bC,rfl,_,rfl,cT (by rw[Pc];exact sne (show ¬ (("answer":Str)="ask") by decide +kernel)) ?_⟩;refine⟨_,rfl,t,_,_,_,rfl,rfl,SqT.of ht2,bC,rfl,_,rfl,iI (Pd rfl) ?_⟩;refine⟨_,rfl,gl Y2.ob G.aj G.c7 jQ (eS Y2.x.tn.ob wR ⟨_,rfl,t,_,_,_,rfl,rfl,SqT.of ht2,rfl,y.zt,y.sa,q.p,S.tk,S.m,S.rs,nm,rfl,Y2.x.tn,Y2.x.st,qo.ok,?_⟩)⟩;have k2:=k H2 e3;rw[show (Dd.answer nm wt).chk q S=_ from Pa hb]at k2;by_cases h0:S.tk.contains nm=f'
           . rw[Pa h0]at k2 |-;exact k2
           . rw[Pb h0]at k2 |-;by_cases hc:au q.p S.m (S.rs l') .answered .handed=q.p.s
             . rw[Pa hc]at k2 |-;exact k2
             . rw[Pb hc]at k2 |-;exact k2
         . refine⟨_,rfl,t,_,_,_,rfl,rfl,SqT.of ht2,bC,rfl,_,rfl,cT (by rw[Pc];exact sne h1) ?_⟩;refine⟨_,rfl,t,_,_,_,rfl,rfl,SqT.of ht2,bC,rfl,_,rfl,cT (by rw[Pc];exact sne h2) ?_⟩;have k2:=k H2 e3;rw[h3 q S hnd hb]at k2;exact k2
       . refine iI ?_ ⟨by show 1 <= Je;decide,bad (X:=True) hb⟩;have:=EC hb;rw[hn]at this;rw[Lb,decide_eq_false_iff_not];exact this
def zM (G:Gs K mg a d):FnOk P w K mg base CX0 10 a.bx d.bx ["self","some"] (A6 w a):=by
 have O8:FnOk P w K mg base (CXv P w) 8 _ _ _ _:=ur G;refine G.m6.ok lK (λvs H Q E h=>?_) (λcdv A' outer s' H vs Q E hr h=>?_)
 . obtain⟨y,q,S,x,t,rfl,_⟩:=h;rfl
 . obtain⟨y,q,S,x,t,rfl,Y,qo,ht,hx,k⟩:=h;have hu:=fA hr;refine⟨_,((De ⟨rfl,rfl,rfl⟩ (λLz R=>by exact(@ao _ _ _ (@aB _ _ _ _ (vM rfl (pv 0) G.aj G.lN O8 (hr.mono (by decide)) G.mW .nil ((pv 1)∣aa)) (by rfl)))) (oy ⟨rfl,rfl,rfl⟩ (by rfl) G.vc (λe=>by exact(dZ⁻¹)) D4))∪(dZ⁻¹)),?_⟩;refine⟨λσ' cls H'=>c9 H H'/\x.chk q S≠IX/\Ki K cls (.ref a.hV)=dk l',?_,?_⟩
   . refine⟨_,rfl,eS Y.ob (dO (by decide +kernel)) ⟨_,rfl,y,q,S,x,t,rfl,Y,qo,ht,hx,λH1 e1=>?_⟩⟩;cases hc:x.chk q S with
    |none =>
      have k1:=k H1 e1;rw[hc]at k1;exact k1
    |some r =>
      refine⟨e1,(λy=>by cases y),?_⟩;cases r
      . exact G.Il
      . exact G.IP
      . exact G.IC
      . exact G.Ip
   . rintro σ' cls H' ⟨e1,hc,em⟩;have k1:=k H' e1;cases hc':x.chk q S with
    |none=>exact absurd hc' hc
    |some r =>
      rw[hc']at k1;exact⟨l',em,k1⟩
def HZ (s R:Int) (n:Nat) (fs:List Str):YP:=⟨⟨s,if fs.contains "round" then 1 else R,fs.contains "counter"⟩,n,!fs.contains "bell",!fs.contains "lie",!fs.contains "look"⟩
def C3 (w:Jj) (ad:Ad):Sp:=λvs H Q _=>∃ (y dx ft:G') (s R:Int) (n:Nat) (fs:List Str),vs=[.ref y,.int s,.int R,.int n,.ref ft]/\H y=dk (.ins ad.bo dx [])/\H ft=dk (.tup (fs.map V.str)) /\
 ∀ (a:YA) (H':Hp),a.y=y->(∀ c,a.own c->c≠y->H c=IX)->Yn w ad.bo ad.dX ad.bp ad.cm ad.aM H' a (HZ s R n fs) YS.zero->Kp [y] H H'->Q .non H'
def BX (w:Jj) (ad:Ad):Sp:=λvs H Q _=>∃ (a:YA) (q:YP) (S:YS),vs=[.ref a.y]/\Yn w ad.bo ad.dX ad.bp ad.cm ad.aM H a q S/\∀ l ts,H l=IX->DVs H S.hs ts->Q (.ref l) (upd H l (.lst ts))
def xF (w:Jj) (ad:Ad):Sp:=λvs H Q _=>∃ (a:YA) (q:YP) (S:YS) (b:Bool),vs=[.ref a.y,.int (sdI b)]/\Yn w ad.bo ad.dX ad.bp ad.cm ad.aM H a q S/\Q (.str (S.bd b).key) H
def uv (w:Jj) (ad:Ad):Sp:=λvs H Q _=>∃ (a:YA) (q:YP) (S:YS),vs=[.ref a.y]/\Yn w ad.bo ad.dX ad.bp ad.cm ad.aM H a q S/\Q (.ref a.sa.x) H
def BP (G:Gs K mg a d):FnOk P w K mg base CX0 1 a.ez d.ez ["self"] (BX w a):=by
 refine G.tR.ok sw (λvs H Q E h=>?_) (λcdv A' outer s' H vs Q E hr h=>?_)
 . obtain⟨y,q,S,rfl,_⟩:=h;rfl
 . obtain⟨y,q,S,rfl,Y,k⟩:=h;refine⟨_,((cY mX (by rfl) G.yM vx ((ak (pv 0) rfl)∣aa))⁻¹),?_⟩;obtain⟨ts,h1,h2⟩:=Y.hp;exact⟨_,rfl,gl Y.ob G.aj G.cf iV ⟨y.hp,ts,rfl,.inl (SqL.of h1),λl hl=>k l ts hl h2⟩⟩
def ms (G:Gs K mg a d):FnOk P w K mg base CX0 1 a.cz d.cz ["self","side"] (xF w a):=by
 refine G.pS.ok pi (λvs H Q E h=>?_) (λcdv A' outer s' H vs Q E hr h=>?_)
 . obtain⟨y,q,S,b,rfl,_⟩:=h;rfl
 . obtain⟨y,q,S,b,rfl,Y,k⟩:=h;refine⟨_,((@aA _ _ _ _ _ _ _ aV (ak (pv 0) rfl) (pv 1) (λ_ _=>rfl))⁻¹),?_⟩;exact⟨_,rfl,gl Y.ob G.aj G.aN bO ⟨_,rfl,y.sl,_,_,_,rfl,rfl,SqL.of Y.sl,Ab b,k⟩⟩
def yI (G:Gs K mg a d):FnOk P w K mg base CX0 1 a.eA d.eA ["self"] (uv w a):=by
 refine G.ua.ok rV (λvs H Q E h=>?_) (λcdv A' outer s' H vs Q E hr h=>?_)
 . obtain⟨y,q,S,rfl,_⟩:=h;rfl
 . obtain⟨y,q,S,rfl,Y,k⟩:=h;refine⟨_,((ak (pv 0) rfl)⁻¹),?_⟩;exact⟨_,rfl,gl Y.ob G.aj G.aJ cN k⟩
def C8 (G:Gs K mg a d):FnOk P w K mg base CX0 6 a.eL d.eL ["self","size","rounds","names","faults"] (C3 w a):=by
 have O1:FnOk P w K mg base CX0 1 _ _ _ _:=wP G;have Oh:FnOk P w K mg base CX0 1 _ _ _ _:=(Ds G).imp λvs H Q E=>Hz
 have N1:FnOk P w K mg base CX0 4 _ _ _ _:=BB G;have N6:FnOk P w K mg base CX0 4 _ _ _ _:=Ch G;refine G.uj.ok si (λvs H Q E h=>?_) (λcdv A' outer s' H vs Q E hr h=>?_)
 . obtain⟨y,dx,ft,s,R,n,fs,rfl,_⟩:=h;rfl
 . obtain⟨y,dx,ft,s,R,n,fs,rfl,hx,hf,k⟩:=h;have hu:=fA hr;refine⟨_,((bJ (pv 0) (pv 1) rfl)∪((bJ (pv 0) (aR O1 (hr.mono (by decide)) (by rfl) G.l9 G.iE.kp G.lR .nil ay ((pv 2)∣((pv 4)∣aa))) rfl)∪((bJ (pv 0) (cY bY (by rfl) G.fj de ((pv 4)∣aa)) rfl)∪((bJ (pv 0) (B0 G.Er Oh (hr.mono (by decide)) (by rfl) G.Et G.rX .nil ay) rfl)∪((bJ (pv 0) (kK G.Fp N1 (hr.mono (by decide)) (by rfl) G.FJ G.tS .nil ay ((ak (pv 0) rfl)∣((pv 1)∣((pv 2)∣((pv 3)∣((pv 4)∣aa)))))) rfl)∪((bJ (pv 0) (kK G.DK N6 (hr.mono (by decide)) (by rfl) G.DC G.rL .nil ay ((ak (pv 0) rfl)∣((pv 1)∣((pv 2)∣((pv 4)∣aa))))) rfl)∪((bJ (pv 0) (eo gp am (pv 4) (by with_unfolding_all rfl)) rfl)∪((bJ (pv 0) (eo gp am (pv 4) (by with_unfolding_all rfl)) rfl)∪((bJ (pv 0) (eo gp am (pv 4) (by with_unfolding_all rfl)) rfl)∪((bJ (pv 0) (@eg _ _ _ _ (am∣(am∣aa))) rfl)∪((bJ (pv 0) (@eg _ _ _ _ (dZ∣(dZ∣aa))) rfl)∪(@ao _ _ _ (bJ (pv 0) (@eg _ _ _ _ aa) rfl))))))))))))),?_⟩;refine⟨_,rfl,_,rfl,y,a.bo,dx,[],rfl,hx,G.aj,G.um,by decide,?_⟩;have fy:ft≠y:=λz=>by rw[z,hx]at hf;cases hf
   refine⟨_,rfl,_,rfl,R,ft,fs,rfl,by rw[ac fy];exact hf,_,rfl,y,a.bo,dx,_,rfl,a8,G.aj,G.qx,by show 1 < 1000;decide,?_⟩;rw[cU];refine⟨_,rfl,ft,_,rfl,.inr ⟨SqT.of (by rw[ac fy];exact hf),?_⟩⟩;refine⟨_,rfl,y,a.bo,dx,_,rfl,a8,G.aj,G.pQ,by show 2 < 1000;decide,?_⟩;rw[cU];generalize hF3:bR "faults" (.ref ft) (bR "rounds" (.int (if fs.contains "round" then 1 else R)) (bR "size" (.int s) []))=F3;have hl3:F3.length=3:=by rw[<-hF3];rfl
   have kp3:Kp [y] H (upd H y (.ins a.bo dx F3)):=Kp.one;have hx3:upd H y (.ins a.bo dx F3) y=dk (.ins a.bo dx F3):=a8;have hf3:upd H y (.ins a.bo dx F3) ft=dk (.tup (fs.map V.str)):=by rw[ac fy];exact hf
   generalize upd H y (.ins a.bo dx F3)=H3 at kp3 hx3 hf3 |-;have up:∀ {Hi:Hp} {F:List (Str × V)} {c:G'} {o:HO},c≠y->Hi c=dk o->upd Hi y (.ins a.bo dx F) c=dk o:=λn e=>by rw[ac n];exact e
   have nn:∀ {Hi:Hp} {F:List (Str × V)} {c:G'},Hi y=dk (.ins a.bo dx F)->Hi c=IX->c≠y:=λe h z=>by rw[z,e]at h;cases h
   intro x dxs nx ndx nex;refine⟨x,dxs,rfl,a8,λsa H4 hsx fsa S4 kp4=>⟨rfl,?_⟩⟩;have e4:=nN nx ndx kp4;have fs4:∀ c,sa.own c->H3 c=IX:=λc hc=>by
    by_cases z:c=x
    . rw[z];exact nx
    . exact(up1 (up1 (fsa c hc z)).2).2
   subst hsx;refine⟨_,rfl,y,a.bo,dx,F3,rfl,e4 _ _ hx3,G.aj,G.aJ,by rw[hl3];decide,?_⟩;clear kp4 nx ndx nex fsa;have S5:StT w a.aM (upd H4 y (.ins a.bo dx (bR "shelf" (.ref sa.x) F3))) sa Mem.zero λ_=>[]:=S4.keep (λc o hc e=>up (nn hx3 (fs4 c hc)) e) λb vs e=>up (λz=>by rw[z,e4 _ _ hx3]at e;cases e) e
   have kp5:Kp [y] H3 (upd H4 y (.ins a.bo dx (bR "shelf" (.ref sa.x) F3))):=λc o n e=>up (λz=>n (IW.mpr z)) (e4 _ _ e)
   have hx5:upd H4 y (.ins a.bo dx (bR "shelf" (.ref sa.x) F3)) y=dk (.ins a.bo dx (bR "shelf" (.ref sa.x) F3)):=a8;have hf5:upd H4 y (.ins a.bo dx (bR "shelf" (.ref sa.x) F3)) ft=dk (.tup (fs.map V.str)):=up fy (e4 _ _ hf3);generalize upd H4 y (.ins a.bo dx (bR "shelf" (.ref sa.x) F3))=H5 at S5 kp5 hx5 hf5 |-;clear S4 e4;refine⟨_,rfl,gl ⟨dx,hx5⟩ G.aj G.aJ (v:=.ref sa.x) (by rw[a9,Pa rfl]) ⟨_,rfl,_,rfl,_,rfl,_,rfl,?_⟩⟩;intro h dh nh ndh neh;refine⟨h,dh,sa.x,ft,s,R,n,fs,rfl,a8,?_,λz H6 hz g1 g2 g3 hn6 kp6=>⟨rfl,?_⟩⟩
   . rw[ac (ag hf5 nh),ac (ag hf5 ndh)];exact hf5
   have e6:=nN nh ndh kp6;have fz:∀ c,z.own c->H5 c=IX:=λc h2=>by
    rcases h2 with y|y|y|y
    . rw[y,hz];exact nh
    . rw[y];exact(up1 (up1 g1).2).2
    . rw[y];exact(up1 (up1 g2).2).2
    . rw[y];exact(up1 (up1 g3).2).2
   subst hz;refine⟨_,rfl,y,a.bo,dx,_,rfl,e6 _ _ hx5,G.aj,G.dN,?_,?_⟩
   . rw[<-hF3];show 4 < 1000;decide
   generalize hF7:bR "hand" (.ref z.h) (bR "shelf" (.ref sa.x) F3)=F7;have S7:StT w a.aM (upd H6 y (.ins a.bo dx F7)) sa Mem.zero λ_=>[]:=(S5.same e6).keep (λc o hc e=>up (nn hx3 (fs4 c hc)) e) λb vs e=>up (λz=>by rw[z,e6 _ _ hx5]at e;cases e) e
   have hn7:Hn a.dX a.cm (upd H6 y (.ins a.bo dx F7)) z sa.x ⟨s,if fs.contains "round" then 1 else R,fs.contains "counter"⟩ n []:=hn6.keep λc o hc e=>up (nn hx5 (fz c hc)) e
   have kp7:Kp [y] H5 (upd H6 y (.ins a.bo dx F7)):=λc o n e=>up (λz=>n (IW.mpr z)) (e6 _ _ e)
   have hx7:upd H6 y (.ins a.bo dx F7) y=dk (.ins a.bo dx F7):=a8;have hf7:upd H6 y (.ins a.bo dx F7) ft=dk (.tup (fs.map V.str)):=up fy (e6 _ _ hf5);generalize upd H6 y (.ins a.bo dx F7)=H7 at S7 hn7 kp7 hx7 hf7 |-;clear kp6 nh ndh neh g1 g2 g3 S5 hn6 e6;refine⟨_,rfl,gl ⟨dx,hx7⟩ G.aj G.aJ (v:=.ref sa.x) (by rw[<-hF7,a9,Pb (by decide +kernel),a9,Pa rfl]) ⟨_,rfl,_,rfl,_,rfl,?_⟩⟩;intro h dh nh ndh neh;refine⟨h,dh,sa.x,ft,s,R,fs,rfl,a8,?_,λzt H8 hz g1 g2 g3 tn8 kp8=>⟨rfl,?_⟩⟩
   . rw[ac (ag hf7 nh),ac (ag hf7 ndh)];exact hf7
   have e8:=nN nh ndh kp8;have fzt:∀ c,zt.own c->H7 c=IX:=λc h2=>by
    rcases h2 with y|y|y|y
    . rw[y,hz];exact nh
    . rw[y];exact(up1 (up1 g1).2).2
    . rw[y];exact(up1 (up1 g2).2).2
    . rw[y];exact(up1 (up1 g3).2).2
   subst hz;have dz:∀ c,z.own c->¬ zt.own c:=λc h1 h2=>by
    obtain⟨o,e,_⟩:=hn7.there h1;rw[fzt c h2]at e;cases e
   refine⟨_,rfl,y,a.bo,dx,_,rfl,e8 _ _ hx7,G.aj,G.c7,?_,?_⟩
   . rw[<-hF7,<-hF3];show 5 < 1000;decide
   have hf9:∀ F,upd H8 y (.ins a.bo dx F) ft=dk (.tup (fs.map V.str)):=λF=>up fy (e8 _ _ hf7)
   refine⟨_,rfl,ft,_,rfl,.inr (SqT.of (hf9 _)),rfl,gW fs,?_⟩;refine⟨_,rfl,y,a.bo,dx,_,rfl,a8,G.aj,G.fU,?_,?_⟩
   . rw[<-hF7,<-hF3];show 6 < 1000;decide
   rw[cU];refine⟨_,rfl,ft,_,rfl,.inr (SqT.of (hf9 _)),rfl,gW fs,?_⟩;refine⟨_,rfl,y,a.bo,dx,_,rfl,a8,G.aj,G.gw,?_,?_⟩
   . rw[<-hF7,<-hF3];show 7 < 1000;decide
   rw[cU];refine⟨_,rfl,ft,_,rfl,.inr (SqT.of (hf9 _)),rfl,gW fs,?_⟩;refine⟨_,rfl,y,a.bo,dx,_,rfl,a8,G.aj,G.i4,?_,?_⟩
   . rw[<-hF7,<-hF3];show 8 < 1000;decide
   rw[cU];simp only[if_true,sr];generalize hF9:bR "look_sees" (V.bl (!fs.contains "look")) (bR "lie_fences" (V.bl (!fs.contains "lie")) (bR "bell_fences" (V.bl (!fs.contains "bell")) (bR "heart" (V.ref zt.h) F7)))=F9;have hl9:F9.length=9:=by rw[<-hF9,<-hF7,<-hF3];rfl
   have S9:StT w a.aM (upd H8 y (.ins a.bo dx F9)) sa Mem.zero λ_=>[]:=(S7.same e8).keep (λc o hc e=>up (nn hx3 (fs4 c hc)) e) λb vs e=>up (λz=>by rw[z,e8 _ _ hx7]at e;cases e) e
   have hn9:=(hn7.same e8).keep (H':=upd H8 y (.ins a.bo dx F9)) λc o hc e=>up (nn hx5 (fz c hc)) e
   have tn9:=Tn.keep (H':=upd H8 y (.ins a.bo dx F9)) tn8 λc o hc e=>up (nn hx7 (fzt c hc)) e
   have kp9:Kp [y] H7 (upd H8 y (.ins a.bo dx F9)):=λc o n e=>up (λz=>n (IW.mpr z)) (e8 _ _ e)
   have hx9:upd H8 y (.ins a.bo dx F9) y=dk (.ins a.bo dx F9):=a8;generalize upd H8 y (.ins a.bo dx F9)=H9 at S9 hn9 tn9 kp9 hx9 |-;clear kp8 nh ndh neh g1 g2 g3 S7 hn7 e8 tn8 hf9;have X9:X5 w a.dX a.bp a.cm a.aM H9 z zt sa ⟨s,if fs.contains "round" then 1 else R,fs.contains "counter"⟩ n Mem.zero (λ_=>[]) [] []:=⟨hn9,tn9,S9,dz⟩
   clear S9 hn9 tn9;have kpA:Kp [y] H H9:=kp3.trans (kp5.trans (kp7.trans kp9));have ow:∀ c,xl z zt sa c->H3 c=IX:=λc hc=>by
    rcases hc with hc|hc|hc
    . exact fP kp5 (fz c hc) λx mx=>by rw[IW.mp mx,hx5];exact λz=>by cases z
    . exact fP (kp5.trans kp7) (fzt c hc) λx mx=>by rw[IW.mp mx,hx7];exact λz=>by cases z
    . exact fs4 c hc
   have owH:∀ c,xl z zt sa c->H c=IX:=λc hc=>fP kp3 (ow c hc) λx mx=>by rw[IW.mp mx,hx3];exact λz=>by cases z
   have owy:¬ xl z zt sa y:=λhc=>by have:=ow y hc;rw[hx3]at this;cases this
   clear kp3 kp5 kp7 kp9 fs4 fz fzt;have stp:∀ {Hi:Hp} {Fi F':List (Str × V)} {l:G'} {o:HO},Hi y=dk (.ins a.bo dx Fi)->Hi l=IX->(∀ c u,c≠y->Hi c=dk u->upd (upd Hi l o) y (.ins a.bo dx F') c=dk u)/\upd (upd Hi l o) y (.ins a.bo dx F') l=dk o/\upd (upd Hi l o) y (.ins a.bo dx F') y=dk (.ins a.bo dx F'):=λ{Hi Fi F' l o} hy hl =>
    ⟨λc u n e=>up n (by rw[ac (ag e hl)];exact e),up (nn hy hl) a8,a8⟩
   have kx:∀ {Hi Hj:Hp},(∀ c u,c≠y->Hi c=dk u->Hj c=dk u)->(∃ F,Hi y=dk (.ins a.bo dx F))->X5 w a.dX a.bp a.cm a.aM Hi z zt sa ⟨s,if fs.contains "round" then 1 else R,fs.contains "counter"⟩ n Mem.zero (λ_=>[]) [] []->X5 w a.dX a.bp a.cm a.aM Hj z zt sa ⟨s,if fs.contains "round" then 1 else R,fs.contains "counter"⟩ n Mem.zero (λ_=>[]) [] []:=λ{Hi Hj} kk ⟨F,hy⟩ X=>X.keep (λc o hc e=>kk c o (λy'=>owy (by rw[<-y'];exact hc)) e) λb vs e=>kk b _ (λy'=>by rw[y',hy]at e;cases e) e
   refine⟨l2,λsl hsl=>⟨_,rfl,y,a.bo,dx,F9,rfl,(by rw[ac (ag hx9 hsl)];exact hx9),G.aj,G.aN,by rw[hl9];decide,?_⟩⟩;obtain⟨a1,a2,a3⟩:=stp (F':=bR "sleepers" (.ref sl) F9) (o:=.lst [V.str "up",V.str "up"]) hx9 hsl;generalize upd (upd H9 sl (.lst [V.str "up",V.str "up"])) y (.ins a.bo dx (bR "sleepers" (.ref sl) F9))=H10 at a1 a2 a3 |-;have X10:=kx a1 ⟨_,hx9⟩ X9;refine⟨l2,λqu hqu=>⟨_,rfl,y,a.bo,dx,_,rfl,(by rw[ac (ag a3 hqu)];exact a3),G.aj,G.fE,?_,?_⟩⟩
   . rw[<-hF9,<-hF7,<-hF3];show 10 < 1000;decide
   obtain⟨b1,b2,b3⟩:=stp (F':=bR "quiet" (.ref qu) (bR "sleepers" (.ref sl) F9)) (o:=.lst [V.bl l',V.bl l']) a3 hqu;generalize upd (upd H10 qu (.lst [V.bl l',V.bl l'])) y (.ins a.bo dx (bR "quiet" (.ref qu) (bR "sleepers" (.ref sl) F9)))=H11 at b1 b2 b3 |-;have X11:=kx b1 ⟨_,a3⟩ X10;have b4:=b1 _ _ (nn hx9 hsl) a2;refine⟨p9,λhp hhp=>⟨_,rfl,y,a.bo,dx,_,rfl,(by rw[ac (ag b3 hhp)];exact b3),G.aj,G.cf,?_,?_⟩⟩
   . rw[<-hF9,<-hF7,<-hF3];show 11 < 1000;decide
   obtain⟨c1,c2,c3⟩:=stp (F':=bR "happened" (.ref hp) (bR "quiet" (.ref qu) (bR "sleepers" (.ref sl) F9))) (o:=.lst []) b3 hhp;generalize upd (upd H11 hp (.lst [])) y (.ins a.bo dx (bR "happened" (.ref hp) (bR "quiet" (.ref qu) (bR "sleepers" (.ref sl) F9))))=H12 at c1 c2 c3 |-;have X12:=kx c1 ⟨_,b3⟩ X11;have c4:=c1 _ _ (nn hx9 hsl) b4;have c5:=c1 _ _ (nn a3 hqu) b2;have n1:sl≠qu:=ag a2 hqu;have n2:sl≠hp:=ag b4 hhp;have n3:qu≠hp:=ag b2 hhp;have kpB:Kp [y] H H12:=λc o n e=>c1 c o (λz=>n (IW.mpr z)) (b1 c o (λz=>n (IW.mpr z)) (a1 c o (λz=>n (IW.mpr z)) (kpA c o n e)))
   have nH:∀ {Hi:Hp} {c:G'},Kp [y] H Hi->(∃ F,Hi y=dk (.ins a.bo dx F))->Hi c=IX->H c=IX:=λkk ⟨F,e⟩ h=>fP kk h λx mx=>by rw[IW.mp mx,e];exact λz=>by cases z
   have kp10:Kp [y] H H10:=λc o n e=>a1 c o (λz=>n (IW.mpr z)) (kpA c o n e)
   have kp11:Kp [y] H H11:=λc o n e=>b1 c o (λz=>n (IW.mpr z)) (kp10 c o n e)
   refine k ⟨y,ft,sa,z,zt,sl,qu,hp⟩ H12 rfl (λc hc ny=>?_) ⟨⟨dx,?_⟩,X12,c4,c5,⟨[],c2,rfl⟩,λ_ h=>(by cases h),λc hc h5=>?_,⟨n1,n2,n3⟩,owy⟩ kpB
   . rcases hc with y'|hc|y'|y'|y'
     . exact absurd y' ny
     . exact owH c hc
     . rw[y'];exact nH kpA ⟨_,hx9⟩ hsl
     . rw[y'];exact nH kp10 ⟨_,a3⟩ hqu
     . rw[y'];exact nH kp11 ⟨_,b3⟩ hhp
   . rw[c3,<-hF9,<-hF7,<-hF3];rfl
   . rcases hc with y'|y'|y'
     . obtain⟨o,e,_⟩:=X9.there h5;rw[y',hsl]at e;cases e
     . obtain⟨o,e,_⟩:=X10.there h5;rw[y',hqu]at e;cases e
     . obtain⟨o,e,_⟩:=X11.there h5;rw[y',hhp]at e;cases e
def TD (H:Hp) (x:Dd) (v:V):Prop:=∃ t,v=.ref t/\H t=dk (.tup x.vs)
def TD.keep {H H':Hp}(ht:∀ b vs,H b=dk (.tup vs)->H' b=dk (.tup vs)) {x:Dd}{v:V}(h:TD H x v):TD H' x v:=by
 obtain⟨t,e,h⟩:=h;exact⟨t,e,ht _ _ h⟩
def mz {H H':Hp}(ht:∀ b vs,H b=dk (.tup vs)->H' b=dk (.tup vs)) {xs:List Dd}{vs:List V}(h:Jv (TD H) xs vs):Jv (TD H') xs vs:=Paired.mapP h λ_ _ q=>q.keep ht
def n8 (ws:List Int):List Dd:=ws.map Dd.ask++[.collect,.take]
def ib (ws ks:List Int):List Dd:=n8 ws++ks.flatMap λnm=>ws.map (Dd.answer nm)
def ET:List Dd:=[.bell f',.bell l',.lie f',.lie l',.look f',.look l',.drain f',.drain l']
def jb (ws ks:List Int):List Dd:=ib ws ks++ET
def BA (w:Jj) (ad:Ad) (K:Ja):Sp:=λvs H Q _=>∃ (a:YA) (q:YP) (S:YS) (wl:G') (ws:List Int),vs=[.ref a.y,.ref wl]/\Yn w ad.bo ad.dX ad.bp ad.cm ad.aM H a q S/\H wl=dk (.lst (ws.map V.int))/\ws.length <= 60/\S.tk.length < 64 /\
 ∀ (l:G') (ks:List Int) (ts:List V) (H':Hp),ks.Perm S.tk->ks.Pairwise (· <= ·)->H l=IX->c9 H H'->H' l=dk (.lst ts)->Jv (TD H') (jb ws ks) ts->Q (.ref l) H'
theorem fG {α β:Type}{R:α->β->Prop}:∀ {a:List α}{b:List β}{c:List α}{d:List β},Jv R a b->Jv R c d->Jv R (a++c) (b++d)
|_,_,_,_,.nil,h=>h
|_,_,_,_,.cons r t,h=>.cons r (fG t h)
theorem nP (ws:List Int):∀ ks:List Int,(ks.flatMap λnm=>ws.map (Dd.answer nm)).length=ks.length * ws.length
|[]=>by simp
|k :: ks=>by
  rw[List.flatMap_cons,IT,nP ws ks,Jk,JH,Nat.succ_mul];omega
def CD:List V:=[.str "bell",.str "lie",.str "look",.str "drain"]
def Gi {j:Nat}{v:V}(h:CD[j]?=dk v):∃ x0 x1 wd,v=.str wd/\x0.vs=[.str wd,.int 0]/\x1.vs=[.str wd,.int 1]/\ET.take (2 * (j+1))=ET.take (2 * j)++[x0,x1]:=by
 match j,h with
|0,h=>cases h;exact⟨.bell f',.bell l',_,rfl,rfl,rfl,rfl⟩
|1,h=>cases h;exact⟨.lie f',.lie l',_,rfl,rfl,rfl,rfl⟩
|2,h=>cases h;exact⟨.look f',.look l',_,rfl,rfl,rfl,rfl⟩
|3,h=>cases h;exact⟨.drain f',.drain l',_,rfl,rfl,rfl,rfl⟩
|_+4,h=>cases h
structure Gr (H H':Hp) (D:G') (xs:List Dd) (ts:List V):Prop where
 kp:∀ c o,c≠D->H c=dk o->H' c=dk o
 at_:H' D=dk (.lst ts)
 td:Jv (TD H') xs ts
 new:H D=IX
section
variable {H H' H'':Hp}{D:G'}{xs es:List Dd}{ts zs:List V}
def Gr.same (g:Gr H H' D xs ts) (s:c9 H' H''):Gr H H'' D xs ts:=⟨λc o n e=>s _ _ (g.kp c o n e),s _ _ g.at_,mz (λb vs=>s b _) g.td,g.new⟩
def Gr.sm (g:Gr H H' D xs ts):c9 H H':=λc o e=>g.kp c o (λy=>by rw[y,g.new]at e;cases e) e
def Gr.len (g:Gr H H' D xs ts):ts.length=xs.length:=(be g.td).symm
def Gr.ext (g:Gr H H' D xs ts) (h:Jv (TD H') es zs):Gr H (upd H' D (.lst (ts++zs))) D (xs++es) (ts++zs):=by
 have tu:∀ b vs,H' b=dk (.tup vs)->upd H' D (.lst (ts++zs)) b=dk (.tup vs):=λb vs e=>by
  rw[ac (λz=>by rw[z,g.at_]at e;cases e)];exact e
 exact⟨λc o n e=>by rw[ac n];exact g.kp c o n e,a8,fG (mz tu g.td) (mz tu h),g.new⟩
end
def B7 (G:Gs K mg a d):FnOk P w K mg base CX0 2 a.bP d.bP ["self","worths"] (BA w a K):=by
 have N9:FnOk P w K mg base CX0 1 _ _ _ _:=wB G;refine G.nK.ok cP (λvs H Q E h=>?_) (λcdv A' outer s' H vs Q E hr h=>?_)
 . obtain⟨y,q,S,wl,ws,rfl,_⟩:=h;rfl
 . obtain⟨y,q,S,wl,ws,rfl,Y,hw,wlen,tlen,k⟩:=h;have hu:=fA hr;refine⟨_,((by exact qR (iN:=2) (caps:=[]) (js:=[]) cP.nd rfl (JJ rfl) (by rfl) rfl (lT rfl rfl (by decide +kernel) (by decide +kernel) rfl trivial rfl rfl) (by decide +kernel) trivial (jD (pv 1)) (λC s₃ H₃ Lz ex E'=>by exact lG) (λC s₃ H₃ Lz ex E'=>by exact(@b8 _ _ _ _ _ (am∣((pv 0)∣aa)))))∪((@aB _ _ _ _ (@l8 _ _ _ _ _ _ _ _ _ _ _ _ JF PySem.F.slot_list_extend PySem.F.type_list_extend pG (pv 2) ((@eg _ _ _ _ ((@b8 _ _ _ _ _ (am∣aa))∣((@b8 _ _ _ _ _ (am∣aa))∣aa)))∣aa) (by rfl) (by rfl) (by rfl) (by rfl) (by rfl)) (by rfl))∪((hZ JS rfl (jD (b7 (ak (pv 0) rfl) G.bD G.kA N9 (hr.mono (by decide)) G.lB .nil ay)) (bU (i:=3) cP.nd rfl (Or.inr rfl)) (@ao _ _ _ (@aB _ _ _ _ (@l8 _ _ _ _ _ _ _ _ _ _ _ _ JF PySem.F.slot_list_extend PySem.F.type_list_extend pG (pv 2) ((by exact mn (caps:=["name"]) (js:=[3]) rfl (lT rfl rfl (by decide +kernel) (by decide +kernel) rfl ⟨rfl,trivial⟩ rfl rfl) (by decide +kernel) ⟨⟨⟨_,rfl⟩,rfl,.inl rfl,.inl rfl⟩,trivial⟩ (jD (pv 1)) (λC s₃ H₃ Lz ex E'=>by exact lG) (λC s₃ H₃ Lz ex E'=>by exact(@b8 _ _ _ _ _ (am∣((pv 1)∣((pv 0)∣aa))))))∣aa) (by rfl) (by rfl) (by rfl) (by rfl) (by rfl)) (by rfl))))∪((hZ JS rfl (t9 (@b8 _ _ _ _ _ (am∣(am∣(am∣(am∣aa)))))) (bU (i:=4) cP.nd rfl (JJ rfl)) (@ao _ _ _ (@aB _ _ _ _ (@l8 _ _ _ _ _ _ _ _ _ _ _ _ JF PySem.F.slot_list_extend PySem.F.type_list_extend pG (pv 2) ((@eg _ _ _ _ ((@b8 _ _ _ _ _ ((pv 4)∣(ae∣aa)))∣((@b8 _ _ _ _ _ ((pv 4)∣(ae∣aa)))∣aa)))∣aa) (by rfl) (by rfl) (by rfl) (by rfl) (by rfl)) (by rfl))))∪((pv 2)⁻¹))))),?_⟩;refine⟨_,rfl,wl,rfl,⟨_,SqL.of hw⟩,λD hD=>?_⟩;refine⟨λi mm ys H'=>i <= ws.length/\mm=ws.length - i/\Gr H H' D ((ws.take i).map Dd.ask) ys,⟨_,Kq _,rfl,λc o n e=>(by rw[ac n];exact e),a8,.nil,hD⟩,?_⟩;rintro i mm ys H1 ⟨hi,rfl,g1⟩;have hyl:=g1.len;rw[Jk,JK]at hyl;refine⟨g1.at_,Jf (show _ < 1000 by omega) (by decide),?_⟩;by_cases hii:i=ws.length;rotate_left
   . have hlt:i < ws.length:=by omega
     refine .inr ⟨⟨_,_,SqL.of (g1.sm _ _ hw),by rw[JX,Jb hlt];rfl⟩,?_⟩;rintro v H2 ⟨rfl,hv⟩;have hv:=hv _ (SqL.of (g1.sm _ _ hw));rw[JX,Jb hlt]at hv;cases hv;refine gJ ⟨_,rfl,l2,λt ht=>?_⟩;have g2:=g1.same (ah (o:=.tup [V.str "ask",V.int ws[i]]) ht);refine⟨g2.at_,ws.length - (i+1),by omega,by omega,rfl,?_⟩;rw[take_add_one,Jb hlt,J3];exact g2.ext (.cons ⟨t,rfl,a8⟩ .nil)
   refine .inl ⟨⟨_,SqL.of (g1.sm _ _ hw),by rw[Jk];omega⟩,?_⟩;rw[hii,take_length]at g1;rw[hii,Nat.min_self]at hyl;refine⟨_,rfl,.inl ⟨rfl,_,SqL.of g1.at_⟩,FC,λt1 h1=>⟨FC,λt2 h2=>⟨l2,λlq h3=>?_⟩⟩⟩;have s1:=ah (o:=.tup [V.str "collect"]) h1;have s2:=ah (o:=.tup [V.str "take"]) h2;have s3:=ah (o:=.lst [V.ref t1,V.ref t2]) h3;have g3:=((g1.same s1).same s2).same s3;have p3:Jv (TD (upd (upd (upd H1 t1 (.tup [V.str "collect"])) t2 (.tup [V.str "take"])) lq (.lst [V.ref t1,V.ref t2]))) [Dd.collect,Dd.take] [V.ref t1,V.ref t2]:=.cons ⟨t1,rfl,s3 _ _ (s2 _ _ a8)⟩ (.cons ⟨t2,rfl,s3 _ _ a8⟩ .nil);refine⟨D,lq,ys,_,rfl,rfl,g3.at_,a8,JT (show _ <= 1000 by show _+2 <= 1000;omega) (by decide),?_⟩;have g4:=g3.ext p3;have gA:Gr H (upd (upd (upd (upd H1 t1 (.tup [V.str "collect"])) t2 (.tup [V.str "take"])) lq (.lst [V.ref t1,V.ref t2])) D (.lst (ys++[V.ref t1,V.ref t2]))) D (n8 ws) (ys++[V.ref t1,V.ref t2]):=g4;clear g3 g4 p3 s1 s2 s3 g1 hii;generalize upd (upd (upd (upd H1 t1 (.tup [V.str "collect"])) t2 (.tup [V.str "take"])) lq (.lst [V.ref t1,V.ref t2])) D (.lst (ys++[V.ref t1,V.ref t2]))=H4 at gA |-;have Y4:=Y.same gA.sm;refine⟨_,rfl,gl Y4.ob G.aj G.c7 jQ (eS Y4.x.tn.ob vR ⟨y.zt,y.sa.x,q.p,S.tk,rfl,Y4.x.tn,tlen,λlk ks hk pmk pwk=>⟨lk,rfl,⟨_,SqL.of a8⟩,?_⟩⟩)⟩;have gB:=gA.same (ah (o:=.lst (ks.map V.int)) hk);have vk:upd H4 lk (.lst (ks.map V.int)) lk=dk (.lst (ks.map V.int)):=a8;have nkD:lk≠D:=λz=>by rw[z,gA.at_]at hk;cases hk
   generalize upd H4 lk (.lst (ks.map V.int))=H5 at gB vk |-;clear gA Y4 hk;have hks:ks.length < 64:=by rw[pmk.length_eq];exact tlen
   refine nS (K:=K) (a:=lk) (xs:=ks.map V.int) (λj σ H'=>∃ ts,(∃ v3 v4,σ=[dk (.ref y.y),dk (.ref wl),dk (.ref D),v3,v4])/\Gr H H' D (ib ws (ks.take j)) ts/\H' lk=dk (.lst (ks.map V.int)))
    ⟨_,⟨_,_,rfl⟩,by rw[List.take_zero];show Gr H H5 D (n8 ws++[]) _;rw[Jw];exact gB,vk⟩ (λ_ _ _ _ uq15=>by(obtain⟨_,_,_,y⟩:=uq15;exact SqL.of y)) ?_ ?_
   . clear gB vk;rintro j v σ H6 hj ⟨ts,⟨v3,v4,rfl⟩,g6,vk⟩;rw[JX]at hj;obtain⟨nm,hnm,rfl⟩:=KY.mp hj;have hjl:=(Jp.mp hnm).1;refine⟨_,rfl,.inl ⟨rfl,_,SqL.of g6.at_⟩,?_⟩;refine⟨_,rfl,wl,rfl,⟨_,SqL.of (g6.sm _ _ hw)⟩,λD2 hD2=>?_⟩;refine⟨λi mm ys H'=>i <= ws.length/\mm=ws.length - i/\Gr H6 H' D2 ((ws.take i).map (Dd.answer nm)) ys,⟨_,Kq _,rfl,λc o n e=>(by rw[ac n];exact e),a8,.nil,hD2⟩,?_⟩;rintro i mm ys2 H7 ⟨hi,rfl,g7⟩;have hyl:=g7.len;rw[Jk,JK]at hyl;refine⟨g7.at_,Jf (show _ < 1000 by omega) (by decide),?_⟩;by_cases hii:i=ws.length;rotate_left
     . have hlt:i < ws.length:=by omega
       refine .inr ⟨⟨_,_,SqL.of (g7.sm _ _ (g6.sm _ _ hw)),by rw[JX,Jb hlt];rfl⟩,?_⟩;rintro v H8 ⟨rfl,hv⟩;have hv:=hv _ (SqL.of (g7.sm _ _ (g6.sm _ _ hw)));rw[JX,Jb hlt]at hv;cases hv;refine gJ ⟨_,rfl,_,rfl,l3,λt ht=>?_⟩;have g8:=g7.same (ah (o:=.tup [V.str "answer",V.int nm,V.int ws[i]]) ht);refine⟨g8.at_,ws.length - (i+1),by omega,by omega,rfl,?_⟩;rw[take_add_one,Jb hlt,J3];exact g8.ext (.cons ⟨t,rfl,a8⟩ .nil)
     refine .inl ⟨⟨_,SqL.of (g7.sm _ _ (g6.sm _ _ hw)),by rw[Jk];omega⟩,?_⟩;rw[hii,take_length]at g7;have g8:=g6.same g7.sm;have hl8:=g6.len;have hlb:(ib ws (ks.take j)).length <= 10000:=by
      unfold ib n8;rw[IT,IT,Jk,nP,JK];have h2:min j ks.length * ws.length <= 64 * 60:=Nat.mul_le_mul (by omega) wlen;show ws.length+2+_ <= _;omega
     refine⟨D,D2,ts,ys2,rfl,rfl,g8.at_,g7.at_,JT (show _ <= 20000 by omega) (by decide),?_⟩;have g9:=g8.ext g7.td;refine⟨ts++ys2,⟨_,_,rfl⟩,?_,by rw[ac nkD];exact g7.sm _ _ vk⟩;have:ib ws (ks.take (j+1))=ib ws (ks.take j)++ws.map (Dd.answer nm):=by
      unfold ib;rw[take_add_one,hnm,Option.toList_some,List.flatMap_append,<-JA];congr 1;simp
     rw[this];exact g9
   . clear gB vk;rintro σ H6 ⟨ts,⟨v3,v4,rfl⟩,g6,vk⟩;rw[Jk,take_length]at g6;have hlb:(ib ws ks).length <= 10000:=by
      unfold ib n8;rw[IT,IT,Jk,nP];have h2:ks.length * ws.length <= 64 * 60:=Nat.mul_le_mul (by omega) wlen;show ws.length+2+_ <= _;omega
     refine⟨by show 4 <= Je;decide,λtw htw=>⟨tw,rfl,⟨_,SqT.of a8⟩,?_⟩⟩;have g7:=g6.same (ah (o:=.tup CD) htw);have vw:upd H6 tw (.tup CD) tw=dk (.tup CD):=a8;change ∃ W:Nat->Nat->St->Hp->Prop,(∃ m,W 0 m [dk (V.ref y.y),dk (V.ref wl),dk (V.ref D),v3,v4] (upd H6 tw (.tup CD)))/\_;generalize upd H6 tw (.tup CD)=H7 at g7 vw |-;refine uV (K:=K) (a:=tw) (xs:=CD) (λj σ H'=>∃ ts,(∃ v3 v4,σ=[dk (.ref y.y),dk (.ref wl),dk (.ref D),v3,v4])/\Gr H H' D (ib ws ks++ET.take (2 * j)) ts/\H' tw=dk (.tup CD))
      ⟨_,⟨_,_,rfl⟩,by rw[Nat.mul_zero,List.take_zero,Jw];exact g7,vw⟩ (λ_ _ _ _ uq16=>by(obtain⟨_,_,_,y⟩:=uq16;exact SqT.of y)) ?_ ?_
     . clear g7 vw g6;rintro j v σ H8 hj ⟨ts,⟨v3,v4,rfl⟩,g8,vw⟩;obtain⟨x0,x1,wd,rfl,h0,h1,ht⟩:=Gi hj;have hj4:j < 4:=(Jp.mp hj).1;refine⟨_,rfl,.inl ⟨rfl,_,SqL.of g8.at_⟩,_,rfl,l2,λt1 h1'=>⟨_,rfl,l2,λt2 h2=>⟨l2,λlq h3=>?_⟩⟩⟩;have s1:=ah (o:=.tup [V.str wd,V.int 0]) h1';have s2:=ah (o:=.tup [V.str wd,V.int 1]) h2;have s3:=ah (o:=.lst [V.ref t1,V.ref t2]) h3;have g9:=((g8.same s1).same s2).same s3;have p3:Jv (TD (upd (upd (upd H8 t1 (.tup [V.str wd,V.int 0])) t2 (.tup [V.str wd,V.int 1])) lq (.lst [V.ref t1,V.ref t2]))) [x0,x1] [V.ref t1,V.ref t2]:=.cons ⟨t1,rfl,by rw[h0];exact s3 _ _ (s2 _ _ a8)⟩ (.cons ⟨t2,rfl,by rw[h1];exact s3 _ _ a8⟩ .nil);have hl8:=g8.len;rw[IT,JK]at hl8;refine⟨D,lq,ts,_,rfl,rfl,g9.at_,a8,JT (show _ <= 20000 by show _+2 <= _;omega) (by decide),?_⟩;have nwD:tw≠D:=λz=>by rw[z,g8.at_]at vw;cases vw
       refine⟨ts++[V.ref t1,V.ref t2],⟨_,_,rfl⟩,?_,by rw[ac nwD];exact s3 _ _ (s2 _ _ (s1 _ _ vw))⟩;rw[ht,<-JA];exact g9.ext p3
     . rintro σ H8 ⟨ts,⟨v3,v4,rfl⟩,g8,vw⟩;exact⟨_,rfl,k D ks ts H8 pmk pwk g8.new g8.sm g8.at_ g8.td⟩
def Fb (w:Jj) (ad:Ad) (K:Ja):Sp:=λvs H Q _=>∃ (a:YA) (q:YP) (S:YS) (wl:G') (ws:List Int),vs=[.ref a.y,.ref wl]/\Yn w ad.bo ad.dX ad.bp ad.cm ad.aM H a q S/\q.Ok/\H wl=dk (.lst (ws.map V.int))/\ws.length <= 60/\(∀ x∈ws,-1000000000 <= x/\x <= 1000000000)/\S.tk.length < 64 /\
 ∀ (l:G') (ks:List Int) (ts:List V) (H':Hp),ks.Perm S.tk->ks.Pairwise (· <= ·)->H l=IX->c9 H H'->H' l=dk (.lst ts)->Jv (TD H') ((jb ws ks).filter λx=>(x.chk q S).isNone) ts->Q (.ref l) H'
def BR {ws ks:List Int}(h:∀ x∈ws,-1000000000 <= x/\x <= 1000000000):∀ x∈jb ws ks,x.Ok:=by
 intro x hx;unfold jb ib n8 at hx;rcases JB.mp hx with hx|hx
 . rcases JB.mp hx with hx|hx
   . rcases JB.mp hx with hx|hx
     . obtain⟨wt,hw,rfl⟩:=Kr.mp hx;exact h wt hw
     . simp only[Jx,JW,or_false]at hx;rcases hx with rfl|rfl<;>exact trivial
   . obtain⟨nm,_,hx⟩:=List.mem_flatMap.mp hx;obtain⟨wt,hw,rfl⟩:=Kr.mp hx;exact h wt hw
 . simp only[ET,Jx,JW,or_false]at hx;rcases hx with rfl|rfl|rfl|rfl|rfl|rfl|rfl|rfl<;>exact trivial
def Gn (G:Gs K mg a d):FnOk P w K mg base CX0 12 a.bq d.bq ["self","worths"] (Fb w a K):=by
 have OI:FnOk P w K mg base CX0 2 _ _ _ _:=B7 G;have OB:FnOk P w K mg base CX0 10 _ _ _ _:=zM G;refine G.lg.ok kU (λvs H Q E h=>?_) (λcdv A' outer s' H vs Q E hr h=>?_)
 . obtain⟨y,q,S,wl,ws,rfl,_⟩:=h;rfl
 . obtain⟨y,q,S,wl,ws,rfl,Y,qo,hw,wlen,wok,tlen,k⟩:=h;have hu:=fA hr;refine⟨_,((by exact mn (caps:=["self"]) (js:=[0]) rfl (lT rfl rfl (by decide +kernel) (by decide +kernel) rfl ⟨rfl,trivial⟩ rfl rfl) (by decide +kernel) ⟨⟨⟨_,rfl⟩,rfl,.inl rfl,.inl rfl⟩,trivial⟩ (jD (ax (pv 0) G.aj G.mD OI (hr.mono (by decide)) G.nE .nil ay ((pv 1)∣aa))) (λC s₃ H₃ Lz ex E'=>by exact rP (ck (ax (pv 1) G.aj G.ln OB (hr.mono (by decide)) G.m9 .nil ay ((pv 0)∣aa)))) (λC s₃ H₃ Lz ex E'=>by exact(pv 0)))⁻¹),?_⟩;refine⟨_,rfl,eS Y.ob (dO (by decide +kernel)) ⟨_,rfl,y,q,S,wl,ws,rfl,Y,hw,wlen,tlen,λl ks ts H1 pmk pwk hl e1 h1 td=>⟨l,rfl,⟨_,SqL.of h1⟩,λD hD=>?_⟩⟩⟩;have Y1:=Y.same e1;have tl:=be td;have okx:=BR (ks:=ks) wok;have tlen2:(jb ws ks).length <= 20000:=by
    unfold jb ib n8;rw[IT,IT,IT,Jk,nP];have hk:=pmk.length_eq;have h2:ks.length * ws.length <= 64 * 60:=Nat.mul_le_mul (by omega) wlen;show ws.length+2+_+8 <= _;omega
   refine⟨λi mm ys H'=>i <= ts.length/\mm=ts.length - i/\Gr H1 H' D (((jb ws ks).take i).filter λx=>(x.chk q S).isNone) ys,⟨_,Kq _,rfl,λc o n e=>(by rw[ac n];exact e),a8,.nil,hD⟩,?_⟩;rintro i mm ys H2 ⟨hi,rfl,g2⟩;have hyl:=g2.len;have hfl:=Lf (λx:Dd=>(x.chk q S).isNone) ((jb ws ks).take i);rw[JK]at hfl;refine⟨g2.at_,Jf (show _ < 100000 by omega) (by decide),?_⟩;by_cases hii:i=ts.length;rotate_left
   . have hlt:i < ts.length:=by omega
     refine .inr ⟨⟨_,_,SqL.of (g2.sm _ _ h1),Jb hlt⟩,?_⟩;rintro v H3 ⟨rfl,hv⟩;have hv:=hv _ (SqL.of (g2.sm _ _ h1));obtain⟨x,hx,t,rfl,ht⟩:=lO td hv;refine⟨_,rfl,eS (Y1.same g2.sm).ob (dO (by decide +kernel)) ⟨_,rfl,y,q,S,x,t,rfl,Y1.same g2.sm,qo,g2.sm _ _ ht,okx x (Ju hx),λH4 e4=>⟨_,rfl,?_⟩⟩⟩;have g4:=g2.same e4;have et:(jb ws ks).take (i+1)=(jb ws ks).take i++[x]:=by rw[take_add_one,hx];rfl
     cases hc:(x.chk q S).isNone with
    |true =>
      refine gJ ⟨_,rfl,g4.at_,ts.length - (i+1),by omega,by omega,rfl,?_⟩;rw[et,JU,J0,hc];exact g4.ext (.cons ⟨t,rfl,e4 _ _ (g2.sm _ _ ht)⟩ .nil)
    |false =>
      refine dY ⟨ts.length - (i+1),by omega,by omega,rfl,?_⟩;rw[et,JU,J0,hc];simp only[JP,if_false,filter_nil,Jw];exact g4
   refine .inl ⟨⟨_,SqL.of (g2.sm _ _ h1),by omega⟩,?_⟩;rw[hii,Kx (by omega)]at g2;exact k D ks ys H2 pmk pwk (bz e1 hD) (e1.trans g2.sm) g2.at_ g2.td
section
variable {H:Hp}{M:List (IV × V)}{m:Mem}
def DQ (R:MemR H M m):Gp M:=λp hp=>by
 obtain⟨c,_,e⟩:=wV _ (R.ks p hp);cases c with
|c k=>exact .inl ⟨_,e.symm⟩
|p g i=>exact .inr ⟨_,e.symm⟩
def FM (R:MemR H M m) (nd:(M.map (·.1)).Nodup):∀ p∈M,WV H p.2:=λp hp=>by
 obtain⟨c,_,e⟩:=wV _ (R.ks p hp);have hp':(c.key,p.2)∈M:=by rw[e];exact hp
 rcases DZ R nd c with⟨_,z⟩|⟨dd,v,e1,hv,_,dv⟩
 . rw[z _ hp'];exact⟨.int 0,rfl,by show 0 <= 8;decide,rfl⟩
 . have a1:=kW nd R.kk hv;have a2:=kW nd R.kk hp';rw[a1]at a2;cases a2;cases c with
  |c k =>
    have e1':(if m.c k=0 then IX else dk (IV.int (m.c k)))=dk dd:=e1;split at e1'
    . cases e1'
    . cases e1';exact⟨_,rfl,by show 0 <= 8;decide,dv⟩
  |p g i =>
    obtain⟨nw,_,rfl⟩:=KY.mp e1;exact⟨_,rfl,by show 1 <= 8;decide,dv⟩
end
def Dz:Sp:=λvs H Q _=>∃ (v:V) (c:Ck),vs=[v]/\c∈vt/\DV H c.key v/\∀ H',c9 H H'->Q (.str (mY c.key)) H'
def GH {g:Bool}{i:Int}(h:Ck.p g i∈vt):0 <= i/\i < 8:=by
 simp only[vt,Jx,JW,or_false,Ck.p.injEq,reduceCtorEq,false_or]at h;omega
def Gg (g:Bool) (i:Int):Prop:=i.natAbs.log2 < 1920/\([nB g,(toString i:String)].map (λs:Str=>s.length)).sum+[nB g,(toString i:String)].length * (" ":Str).length <= 16777216
def FT {g:Bool}{i:Int}(h:0 <= i/\i < 8):Gg g i:=by
 have:i=0\/i=1\/i=2\/i=3\/i=4\/i=5\/i=6\/i=7:=by omega
 unfold Gg;rcases this with rfl|rfl|rfl|rfl|rfl|rfl|rfl|rfl<;>cases g<;>decide +kernel
def Ez (G:Gs K mg a d):FnOk P w K mg base CX0 1 a.kN d.kN ["cell"] Dz:=by
 refine G.yz.ok xW (λvs H Q E h=>?_) (λcdv A' outer s' H vs Q E hr h=>?_)
 . obtain⟨v,c,rfl,_⟩:=h;rfl
 . obtain⟨v,c,rfl,hc,dv,k⟩:=h;refine⟨_,((aS (ck (aK b6 (by rfl) G.aO aL ((pv 0)∣((cV (v:=.ty "tuple") (by rfl) G.fj de rfl)∣aa)))) ((@l8 _ _ _ _ _ _ _ _ _ _ _ _ PySem.F.plainAttrs_str PySem.F.slot_str_join PySem.F.type_str_join Ec am ((by exact mn (caps:=[]) (js:=[]) rfl (lT rfl rfl (by decide +kernel) (by decide +kernel) rfl trivial rfl rfl) (by decide +kernel) trivial (t9 (pv 0)) (λC s₃ H₃ Lz ex E'=>by exact lG) (λC s₃ H₃ Lz ex E'=>by exact(cY Cm (by rfl) G.AV vW ((pv 0)∣aa))))∣aa) (by rfl) (by rfl) (by rfl) (by rfl) (by rfl))⁻¹) aq)∪((pv 0)⁻¹)),?_⟩;cases c with
  |c kn =>
    have:v=.str kn.key:=dv;subst this;exact⟨_,rfl,_,_,.type "str",f',rfl,.str _,GV,_,rfl,dY ⟨_,rfl,k H λ_ _ e=>e⟩⟩
  |p g i =>
    obtain⟨t,vs,rfl,ht,u1,r1,rfl,e1,u2,r2,rfl,e2,rfl⟩:=dv;have e1':u1=.str (nB g):=e1;have e2':u2=.int i:=e2;subst e1' e2';obtain⟨b1,b2⟩:=FT (g:=g) (GH hc);refine⟨_,rfl,_,_,.type "tuple",l',rfl,.tup ht,Eo,_,rfl,gJ ?_⟩;refine⟨rfl,_,rfl,t,rfl,⟨_,SqT.of ht⟩,λD hD=>?_⟩;have e0:∀ ys,c9 H (upd H D (.lst ys)):=λys=>ah hD
    refine⟨λj mm ys H'=>j <= 2/\mm=2 - j/\ys=([V.str (nB g),V.str (toString i:String)]:List V).take j/\H'=upd H D (.lst ys),⟨_,Kq _,rfl,rfl,rfl⟩,?_⟩;rintro j mm ys H2 ⟨hj,rfl,rfl,rfl⟩;refine⟨a8,Jf (show _ < 1000 by rw[JK];show min j 2 < 1000;omega) (by decide),?_⟩
    match j,hj with
   |0,_ =>
     refine .inr ⟨⟨_,_,SqT.of (e0 _ _ _ ht),rfl⟩,?_⟩;rintro v H3 ⟨rfl,hv⟩;have hv:=hv _ (SqT.of (e0 _ _ _ ht));cases hv;exact gJ ⟨_,rfl,.inr ⟨_,rfl,a8,1,by decide,by decide,rfl,rfl,by rw[cU]⟩⟩
   |1,_ =>
     refine .inr ⟨⟨_,_,SqT.of (e0 _ _ _ ht),rfl⟩,?_⟩;rintro v H3 ⟨rfl,hv⟩;have hv:=hv _ (SqT.of (e0 _ _ _ ht));cases hv;exact gJ ⟨_,rfl,.inl ⟨i,rfl,b1,a8,0,by decide,by decide,rfl,rfl,by rw[cU]⟩⟩
   |2,_ =>
     exact .inl ⟨⟨_,SqT.of (e0 _ _ _ ht),Jd _⟩," ",D,[nB g,(toString i:String)],rfl,rfl,SqL.of a8,b2,k _ (e0 _)⟩
def yQ {α β:Type}{R:α->β->Prop}{L:α->α->Prop}{L':β->β->Prop}(h:∀ a a' b b',R a b->R a' b'->L' b b'->L a a'):∀ {as:List α}{bs:List β},Jv R as bs->bs.Pairwise L'->as.Pairwise L:=by
 intro as bs p
 induction p with
|nil=>intro _;exact .nil
|@cons a b as bs r t ih =>
  intro hb;rw[List.pairwise_cons]at hb |-;refine⟨λa' ha'=>?_,ih hb.2⟩;obtain⟨i,hi,rfl⟩:=getElem_of_mem ha';obtain⟨b',hb',r'⟩:=Paired.at' t (Jb hi);exact h a as[i] b b' r r' (hb.1 b' (Ju hb'))
def PT (H:Hp) (p:IV × IV) (v:V):Prop:=MX.kd (.tuple [p.1,p.2])=l'/\DV H (.tuple [p.1,p.2]) v
theorem PT.keep {H H':Hp}(ht:∀ b vs,H b=dk (.tup vs)->H' b=dk (.tup vs)) {ps:List (IV × IV)}{vs:List V}(h:Jv (PT H) ps vs):Jv (PT H') ps vs:=Paired.mapP h λ_ _ q=>⟨q.1,DV.keep ht _ _ q.1 q.2⟩
theorem Db {H:Hp}:∀ {ps:List (IV × IV)}{vs:List V},Jv (PT H) ps vs->DVs H (ps.map λp=>.tuple [p.1,p.2]) vs
|_,_,.nil=>rfl
|_,_,.cons r t=>⟨_,_,rfl,r.2,Db t⟩
theorem tQ:∀ row:List Wr,MX.kds (row.map wrD)=l'
|[]=>rfl
|x :: row=>by
  show ((MX.kd x.key && (MX.kd x.dat && l')) && MX.kds (row.map wrD))=l';rw[x.key_kd,x.dat_kd,tQ row];rfl
theorem oX {H:Hp}:∀ ns:List Int,DVs H (ns.map IV.int) (ns.map V.int)
|[]=>rfl
|n :: ns=>⟨_,_,rfl,rfl,oX ns⟩
theorem oV {H:Hp}:∀ {kvs:List (IV × V)}{ts:List V},Jv (λ(kv:IV × V) t=>nL H kv.1 t) kvs ts->Jv (λ(kv:IV × V) (p:Str × V)=>p.1=mY kv.1/\nL H kv.1 p.2) kvs ((kvs.map λkv=>mY kv.1).zip ts)
|_,_,.nil=>.nil
|_,_,.cons r t=>.cons ⟨rfl,r⟩ (oV t)
def Ea (row:List Wr):IV:=.tuple (row.map wrD)
def AU (ns:List Int):IV:=.tuple (ns.map IV.int)
def Fq (S:YS) (us ks:List Int):IV:=.tuple [.tuple ((gU S.m).map λp=>.tuple [p.1,p.2]),Ea (S.rs f'),Ea (S.rs l'),AU us,AU ks,.str (S.bd f').key,.str (S.bd l').key]
def C2 (w:Jj) (ad:Ad):Sp:=λvs H Q _=>∃ (a:YA) (q:YP) (S:YS),vs=[.ref a.y]/\Yn w ad.bo ad.dX ad.bp ad.cm ad.aM H a q S/\S.un.length < 64/\S.tk.length < 64 /\
 ∀ (t:G') (us ks:List Int) (vs:List V) (H':Hp),us.Perm S.un->us.Pairwise (· <= ·)->ks.Perm S.tk->ks.Pairwise (· <= ·)->H t=IX->c9 H H'->H' t=dk (.tup vs)->DV H' (Fq S us ks) (.ref t)->Q (.ref t) H'
def wH (G:Gs K mg a d):FnOk P w K mg base CX0 4 a.eK d.eK ["self"] (C2 w a):=by
 have Oi:FnOk P w K mg base CX0 1 _ _ _ _:=BJ G;have Om:FnOk P w K mg base CX0 1 _ _ _ _:=sT G;have Oq:FnOk P w K mg base CX0 1 _ _ _ _:=(rH G).imp λvs H Q E=>yE
 have N5:FnOk P w K mg base CX0 1 _ _ _ _:=C6 G;have N9:FnOk P w K mg base CX0 1 _ _ _ _:=wB G;have O3:FnOk P w K mg base CX0 1 _ _ _ _:=Ez G;refine G.tm.ok lV (λvs H Q E h=>?_) (λcdv A' outer s' H vs Q E hr h=>?_)
 . obtain⟨y,q,S,rfl,_⟩:=h;rfl
 . obtain⟨y,q,S,rfl,Y,ul,kl,k⟩:=h;have hu:=fA hr;refine⟨_,((@b9 _ _ 1 _ _ _ _ lV.nd rfl (JJ rfl) (Cs O3 (hr.mono (by decide)) G.zH (by rfl) G.rJ (by rfl) G.A5 (b7 (ak (pv 0) rfl) G.aH G.qm Oi (hr.mono (by decide)) G.rM .nil ay)) (by rfl) (by first|exact .inl rfl|exact .inr rfl|assumption))∪((@b8 _ _ _ _ _ ((cY bY (by rfl) G.fj de ((by exact mn (tc:=λ_ H Q=>Q l' H) (te:=H0 (sN (qU 0) (sN (zB a.aM "memory" (tP w a.aM) [] E0 (HB K (qU 1) "shelf") (sN (qU 0) AT)) AT))) (caps:=["self"]) (js:=[0]) rfl (lT rfl rfl (by decide +kernel) (by decide +kernel) rfl ⟨rfl,trivial⟩ rfl rfl) (by decide +kernel) ⟨⟨⟨_,rfl⟩,rfl,.inl rfl,.inl rfl⟩,trivial⟩ (jD (pv 1)) (λC s₃ H₃ Lz ex E'=>by exact lG) (λC s₃ H₃ Lz ex E'=>by exact(@b8 _ _ _ _ _ ((pv 0)∣((ax (ak (pv 1) rfl) G.aH G.ju Om (hr.mono (by decide)) G.kC .nil ay ((pv 0)∣aa))∣aa)))))∣aa))∣((cY bY (by rfl) G.fj de ((ax (ak (pv 0) rfl) G.aH G.eU Oq (hr.mono (by decide)) G.fB .nil ay (ae∣aa))∣aa))∣((cY bY (by rfl) G.fj de ((ax (ak (pv 0) rfl) G.aH G.eU Oq (hr.mono (by decide)) G.fB .nil ay (ae∣aa))∣aa))∣((cY bY (by rfl) G.fj de ((b7 (ak (pv 0) rfl) G.bG G.my N5 (hr.mono (by decide)) G.nu .nil ay)∣aa))∣((cY bY (by rfl) G.fj de ((b7 (ak (pv 0) rfl) G.bD G.kA N9 (hr.mono (by decide)) G.lB .nil ay)∣aa))∣((@aA _ _ _ _ _ _ _ aV (ak (pv 0) rfl) ae (λ_ _=>rfl))∣((@aA _ _ _ _ _ _ _ aV (ak (pv 0) rfl) ae (λ_ _=>rfl))∣aa))))))))⁻¹)),?_⟩;obtain⟨M,r,St,R,Pr⟩:=id Y.x.st;have nd:(M.map (·.1)).Nodup:=by obtain⟨_,_,_,_,nd,_⟩:=St.me;exact nd
   have ml:=StT.small St R;refine⟨_,rfl,gl Y.ob G.aj G.aJ cN (eS Y.x.st.ob (cq (by decide +kernel) (by decide +kernel)) ⟨y.sa.x,y.sa.hd,y.sa.rl,y.sa.l,M,r,rfl,St,DQ R,by omega,FM R nd,λp1 ts hp1 pr1=>?_⟩)⟩;have fl:=Lf nz M;have tl:=be pr1;refine⟨p1,ts,(M.filter nz).map λkv=>mY kv.1,rfl,SqL.of a8,by rw[Jk];exact tl,by omega,?_,λD H1 ps hD e1 hD1 pm pw=>?_⟩
   . intro i x key hx hkey H' e';obtain⟨kv,hkv,hK⟩:=lO pr1 hx;rw[JX,hkv]at hkey;cases hkey;have hm:=(Lh.mp (Ju hkv)).1;obtain⟨c,hc,ec⟩:=wV _ (R.ks kv hm);refine⟨x,c,rfl,hc,?_,λH'' e''=>⟨by rw[ec],e''⟩⟩;rw[ec];exact DV.keep (λb vs e=>e' _ _ (ah hp1 _ _ e)) _ _ hK.1 hK.2.2.1
   obtain⟨qs,pq1,pq2⟩:=oB pm (oV pr1);have pqs:qs.Pairwise λa b=>leS (mY a.1) (mY b.1):=yQ (λa a' b b' r r' h=>by rw[<-r.1,<-r'.1];exact h) pq2 pw
   have cd:=Ah R nd pq1 pqs;have E1:c9 H H1:=(ah hp1).trans e1;have cl:=be cd;have pl2:=be pq2;have ql:=pq1.length_eq;refine⟨_,rfl,D,rfl,⟨_,SqL.of hD1⟩,λD2 hD2=>?_⟩;refine⟨λi mm ys H'=>i <= ps.length/\mm=ps.length - i/\Jv (PT H') ((gU S.m).take i) ys/\H' D2=dk (.lst ys)/\∀ c o,c≠D2->H1 c=dk o->H' c=dk o,⟨_,Kq _,rfl,.nil,a8,λc o n e=>by rw[ac n];exact e⟩,?_⟩;rintro i mm ys H2 ⟨hi,rfl,py,hD22,k2⟩;have e2:c9 H1 H2:=λc o e=>k2 c o (λy=>by rw[y,hD2]at e;cases e) e
   have yl:=be py;rw[JK]at yl;refine⟨hD22,Jf (show _ < 1000 by omega) (by decide),?_⟩;by_cases hii:i=ps.length;rotate_left
   . have hlt:i < ps.length:=by omega
     refine .inr ⟨⟨_,_,SqL.of (e2 _ _ hD1),by rw[JX,Jb hlt];rfl⟩,?_⟩;rintro v H3 ⟨rfl,hv⟩;have hv:=hv _ (SqL.of (e2 _ _ hD1));rw[JX,Jb hlt]at hv;cases hv;obtain⟨kv,hkv,r1,r2⟩:=lO pq2 (Jb hlt);obtain⟨p,hp,c1,c2⟩:=Paired.at' cd hkv;have hm:=(Lh.mp (pq1.mem_iff.mp (Ju hkv))).1;have E2:c9 H H3:=E1.trans e2;have Y2:=Y.same E2;have tu:∀ b vs,H b=dk (.tup vs)->H3 b=dk (.tup vs):=λb vs=>E2 b _
     refine gJ ⟨_,rfl,_,rfl,gl Y2.ob G.aj G.aJ cN (eS Y2.x.st.ob (cq (by decide +kernel) (by decide +kernel)) ⟨_,rfl,y.sa.x,y.sa.hd,y.sa.rl,y.sa.l,M,r,_,kv.1,rfl,St.keep (λc o _=>E2 c o) tu,⟨r2.1,r2.2.1,DV.keep tu _ _ r2.1 r2.2.2.1,r2.2.2.2⟩,l2,λt ht=>?_⟩)⟩;rw[kW nd R.kk (show (kv.1,kv.2)∈M from hm)];have et:=ah (o:=.tup [ps[i].2,((dk kv.2).getD (V.int 0))]) ht;have nD:D2≠t:=ag hD22 ht;have tu2:∀ b vs,H3 b=dk (.tup vs)->upd (upd H3 t (.tup [ps[i].2,((dk kv.2).getD (V.int 0))])) D2 (.lst (ys++[.ref t])) b=dk (.tup vs):=λb vs e=>by
      rw[ac (λz=>by rw[z,hD22]at e;cases e)];exact et _ _ e
     have kdp:MX.kd p.2=l'/\MX.kd p.1=l':=by
      obtain⟨c,hc,e⟩:=mem_filterMap.mp (Ju hp);obtain⟨dd,hd,rfl⟩:=KY.mp e;cases c with
     |c kk =>
       have hd':(if S.m.c kk=0 then IX else dk (IV.int (S.m.c kk)))=dk dd:=hd;split at hd'
       . cases hd'
       . cases hd';exact⟨rfl,rQ kk⟩
     |p g j =>
       obtain⟨nw,_,rfl⟩:=KY.mp hd;exact⟨rfl,sf g j⟩
     refine⟨by rw[ac nD];exact hD22,ps.length - (i+1),by omega,by omega,rfl,?_,a8,λc o n e=>by rw[ac n];exact et _ _ (k2 c o n e)⟩;rw[take_add_one,hp];refine Jv.snoc (PT.keep tu2 py) ⟨?_,?_⟩
     . show (MX.kd p.1 && (MX.kd p.2 && l'))=l';rw[kdp.1,kdp.2];rfl
     . refine⟨t,_,rfl,(by rw[ac (K5 nD)];exact a8),_,_,rfl,?_,_,_,rfl,?_,rfl⟩
       . rw[<-c1];exact DV.keep (λb vs e=>tu2 _ _ (tu _ _ e)) _ _ r2.1 r2.2.2.1
       . exact DV.keep (λb vs e=>tu2 _ _ (tu _ _ e)) _ _ kdp.1 c2
   refine .inl ⟨⟨_,SqL.of (e2 _ _ hD1),by rw[Jk];omega⟩,?_⟩;rw[hii,Kx (by omega)]at py;refine⟨D2,ys,rfl,.inl ⟨SqL.of hD22,λt1 ht1=>?_⟩⟩;have E2:c9 H H2:=E1.trans e2;have s1:=ah (o:=.tup ys) ht1;have v1:upd H2 t1 (.tup ys) t1=dk (.tup ys):=a8;have p1':=PT.keep (λb vs=>s1 b _) py;have E3:c9 H (upd H2 t1 (.tup ys)):=E2.trans s1;generalize upd H2 t1 (.tup ys)=H3 at s1 v1 p1' E3 |-;clear py hD22 k2 e2 s1 E2 hD1 hD2 e1 hD pm pw pq1 pq2 cd E1;have Y3:=Y.same E3;refine⟨_,rfl,gl Y3.ob G.aj G.aJ cN (eS Y3.x.st.ob (cq (by decide +kernel) (by decide +kernel)) ⟨y.sa,S.m,S.rs,f',rfl,Y3.x.st,λq2 r2 hq2 d2=>⟨q2,r2,rfl,.inl ⟨SqL.of a8,λt2 ht2=>?_⟩⟩⟩)⟩;have s2:=(ah (o:=.lst r2) hq2).trans (ah (o:=.tup r2) ht2);have v2:upd (upd H3 q2 (.lst r2)) t2 (.tup r2) t2=dk (.tup r2):=a8;generalize upd (upd H3 q2 (.lst r2)) t2 (.tup r2)=H4 at s2 v2 |-;have d2':=DVs.keep (λb vs=>s2 b _) _ _ (tQ _) d2;have Y4:=Y3.same s2;refine⟨_,rfl,gl Y4.ob G.aj G.aJ cN (eS Y4.x.st.ob (cq (by decide +kernel) (by decide +kernel)) ⟨y.sa,S.m,S.rs,l',rfl,Y4.x.st,λq3 r3 hq3 d3=>⟨q3,r3,rfl,.inl ⟨SqL.of a8,λt3 ht3=>?_⟩⟩⟩)⟩;have s3:=(ah (o:=.lst r3) hq3).trans (ah (o:=.tup r3) ht3);have v3:upd (upd H4 q3 (.lst r3)) t3 (.tup r3) t3=dk (.tup r3):=a8;generalize upd (upd H4 q3 (.lst r3)) t3 (.tup r3)=H5 at s3 v3 |-;have d3':=DVs.keep (λb vs=>s3 b _) _ _ (tQ _) d3;have Y5:=Y4.same s3;refine⟨_,rfl,gl Y5.ob G.aj G.dN oA (eS Y5.x.hn.ob BH ⟨y.z,y.sa.x,q.p,_,S.un,rfl,Y5.x.hn,ul,λq4 us hq4 pmu pwu=>⟨q4,us.map V.int,rfl,.inl ⟨SqL.of a8,λt4 ht4=>?_⟩⟩⟩)⟩;have s4:=(ah (o:=.lst (us.map V.int)) hq4).trans (ah (o:=.tup (us.map V.int)) ht4);have v4:upd (upd H5 q4 (.lst (us.map V.int))) t4 (.tup (us.map V.int)) t4=dk (.tup (us.map V.int)):=a8;generalize upd (upd H5 q4 (.lst (us.map V.int))) t4 (.tup (us.map V.int))=H6 at s4 v4 |-;have Y6:=Y5.same s4;refine⟨_,rfl,gl Y6.ob G.aj G.c7 jQ (eS Y6.x.tn.ob vR ⟨y.zt,y.sa.x,q.p,S.tk,rfl,Y6.x.tn,kl,λq5 ks hq5 pmk pwk=>⟨q5,ks.map V.int,rfl,.inl ⟨SqL.of a8,λt5 ht5=>?_⟩⟩⟩)⟩;have s5:=(ah (o:=.lst (ks.map V.int)) hq5).trans (ah (o:=.tup (ks.map V.int)) ht5);have v5:upd (upd H6 q5 (.lst (ks.map V.int))) t5 (.tup (ks.map V.int)) t5=dk (.tup (ks.map V.int)):=a8;generalize upd (upd H6 q5 (.lst (ks.map V.int))) t5 (.tup (ks.map V.int))=H7 at s5 v5 |-;have Y7:=Y6.same s5;refine⟨_,rfl,gl Y7.ob G.aj G.aN bO ⟨y.sl,_,_,_,rfl,rfl,SqL.of Y7.sl,Ab (f:=S.bd) f',?_⟩⟩;refine⟨_,rfl,gl Y7.ob G.aj G.aN bO ⟨y.sl,_,_,_,rfl,rfl,SqL.of Y7.sl,Ab (f:=S.bd) l',?_⟩⟩;refine⟨by show 7 <= Je;decide,λt8 ht8=>?_⟩;have s8:=ah (o:=.tup [V.ref t1,V.ref t2,V.ref t3,V.ref t4,V.ref t5,V.str (S.bd f').key,V.str (S.bd l').key]) ht8;have v8:upd H7 t8 (.tup [V.ref t1,V.ref t2,V.ref t3,V.ref t4,V.ref t5,V.str (S.bd f').key,V.str (S.bd l').key]) t8=dk (.tup [V.ref t1,V.ref t2,V.ref t3,V.ref t4,V.ref t5,V.str (S.bd f').key,V.str (S.bd l').key]):=a8;have E7:c9 H H7:=E3.trans (s2.trans (s3.trans (s4.trans s5)));generalize upd H7 t8 (.tup [V.ref t1,V.ref t2,V.ref t3,V.ref t4,V.ref t5,V.str (S.bd f').key,V.str (S.bd l').key])=H8 at s8 v8 |-;have b5:=s5.trans s8;have b4:=s4.trans b5;have b3:=s3.trans b4;have b2:=s2.trans b3;refine k t8 us ks _ H8 pmu pwu pmk pwk (bz E7 ht8) (E7.trans s8) v8 ⟨t8,_,rfl,v8,_,_,rfl,⟨t1,ys,rfl,b2 _ _ v1,Db (PT.keep (λb vs=>b2 b _) p1')⟩,_,_,rfl,⟨t2,r2,rfl,b3 _ _ v2,DVs.keep (λb vs=>b3 b _) _ _ (tQ _) d2'⟩,_,_,rfl,⟨t3,r3,rfl,b4 _ _ v3,DVs.keep (λb vs=>b4 b _) _ _ (tQ _) d3'⟩,_,_,rfl,⟨t4,_,rfl,b5 _ _ v4,oX us⟩,_,_,rfl,⟨t5,_,rfl,s8 _ _ v5,oX ks⟩,_,_,rfl,rfl,_,_,rfl,rfl,rfl⟩
def Ey:Nat->Sp
|0=>λ_ _ _ _=>False
|n+1=>λvs H Q _=>∃ (x y:V) (dd:IV),vs=[x,y]/\DV H dd x/\DV H dd y/\rc dd/\dd.depth <= n/\∀ H',c9 H H'->Q (.bl l') H'
section
variable {K:Ja}
def kbb:Lp K (.type "bool") (.type "bool")=dk l':=by rfl
def kib:Lp K (.type "int") (.type "bool")=dk f':=by rfl
def kii:Lp K (.type "int") (.type "int")=dk l':=by rfl
def kis:Lp K (.type "int") (.type "str")=dk f':=by rfl
def ksb:Lp K (.type "str") (.type "bool")=dk f':=by rfl
def kss:Lp K (.type "str") (.type "str")=dk l':=by rfl
def ktb:Lp K (.type "tuple") (.type "bool")=dk f':=by rfl
def kti:Lp K (.type "tuple") (.type "int")=dk f':=by rfl
def kts:Lp K (.type "tuple") (.type "str")=dk f':=by rfl
def ktt:Lp K (.type "tuple") (.type "tuple")=dk l':=by rfl
def klb:Lp K (.type "list") (.type "bool")=dk f':=by rfl
def kli:Lp K (.type "list") (.type "int")=dk f':=by rfl
def kls:Lp K (.type "list") (.type "str")=dk f':=by rfl
def klt:Lp K (.type "list") (.type "tuple")=dk f':=by rfl
def kll:Lp K (.type "list") (.type "list")=dk l':=by rfl
end
theorem zm:∀ {ds:List IV}{i:Nat}{e:IV},JM ds=l'->ds[i]?=dk e->e.canLay0=l'/\e.depth <= JI ds
|[],_,_,_,h=>by simp at h
|d :: ds,0,e,hl,h=>by
  simp at h;subst h;have h':d.canLay0=l'/\JM ds=l':=by simpa [JM] using hl
  exact⟨h'.1,by show d.depth <= max d.depth _;omega⟩
|d :: ds,i+1,e,hl,h=>by
  have h':d.canLay0=l'/\JM ds=l':=by simpa [JM] using hl
  obtain⟨a,b⟩:=zm (i:=i) (e:=e) h'.2 (by simpa using h);exact⟨a,by show e.depth <= max d.depth (JI ds);omega⟩
theorem Aw (G:Gs K mg a d):∀ n,FnOk P w K mg base CX0 n a.j7 d.j7 ["found","due"] (Ey n)
|0=>⟨λ_ _ _ _ h=>h.elim,λ_ _ _ _ _ _ _ _ _ _ _ _ _ h=>h.elim⟩
|n+1=>by
  have OW:FnOk P w K mg base CX0 n _ _ _ _:=Aw G n;refine G.gY.ok om (λvs H Q E h=>?_) (λcdv A outer st H vs Q E hr h=>?_)
  . obtain⟨x,y,dd,rfl,_⟩:=h;rfl
  . obtain⟨x,y,dd,rfl,hx,hy,lay,hd,k⟩:=h;refine⟨_,((aS (ar wF (pv 1) eh (az _)) ((eo wF (pv 0) eh (az _))⁻¹) aq)∪((aS (ck (aK b6 (by rfl) G.aO aL ((pv 1)∣((cV (v:=.ty "bool") (by rfl) G.wN sH rfl)∣aa)))) ((qF (aK b6 (by rfl) G.aO aL ((pv 0)∣((cV (v:=.ty "bool") (by rfl) G.wN sH rfl)∣aa))) (tE (eo (tf hr.units) (pv 0) (pv 1) (az _))))⁻¹) aq)∪((aS (ck (aK b6 (by rfl) G.aO aL ((pv 1)∣((cV (v:=.ty "str") (by rfl) G.AV vW rfl)∣aa)))) ((qF (aK b6 (by rfl) G.aO aL ((pv 0)∣((cV (v:=.ty "str") (by rfl) G.AV vW rfl)∣aa))) (tE (eo (tf hr.units) (pv 0) (pv 1) (az _))))⁻¹) aq)∪((aS (ck (aK b6 (by rfl) G.aO aL ((pv 1)∣((cV (v:=.ty "int") (by rfl) G.Ed yR rfl)∣aa)))) ((qF (aK b6 (by rfl) G.aO aL ((pv 0)∣((cV (v:=.ty "int") (by rfl) G.Ed yR rfl)∣aa))) (qF (D3 (aK b6 (by rfl) G.aO aL ((pv 0)∣((cV (v:=.ty "bool") (by rfl) G.wN sH rfl)∣aa)))) (tE (eo (tf hr.units) (pv 0) (pv 1) (az _)))))⁻¹) aq)∪((aS (ck (aK b6 (by rfl) G.aO aL ((pv 1)∣((cV (v:=.ty "tuple") (by rfl) G.fj de rfl)∣aa)))) (@ao _ _ _ (aS (eW (ck (aK b6 (by rfl) G.aO aL ((pv 0)∣((cV (v:=.ty "tuple") (by rfl) G.fj de rfl)∣aa))))) (dZ⁻¹) aq)) (@ao _ _ _ (aS (eW (ck (aK b6 (by rfl) G.aO aL ((pv 0)∣((cV (v:=.ty "list") (by rfl) G.yM vx rfl)∣aa))))) (dZ⁻¹) aq)))∪((aS (ar oO (aK mK (by rfl) G.lm gv ((pv 0)∣aa)) (aK mK (by rfl) G.lm gv ((pv 1)∣aa)) (az _)) (dZ⁻¹) aq)∪((hZ JS rfl (hU (by rfl) G.mM ((aK mK (by rfl) G.lm gv ((pv 1)∣aa))∣aa)) (bU (i:=2) om.nd rfl (JJ rfl)) (@ao _ _ _ (aS (eW (ck (aR OW hr (by rfl) G.jW G.gY.kp G.jX .nil ay ((@aA _ _ _ _ _ _ _ CF (pv 0) (pv 2) (λ_ _=>rfl))∣((@aA _ _ _ _ _ _ _ CF (pv 1) (pv 2) (λ_ _=>rfl))∣aa))))) (dZ⁻¹) aq)))∪(dZ⁻¹)))))))),?_⟩;cases dd with
   |none =>
     cases (show x=.non from hx);cases (show y=.non from hy);exact⟨_,rfl,rfl,_,rfl,zU rfl ⟨_,rfl,rfl,k _ (c9.refl _)⟩⟩
   |bool b =>
     cases (show x=.bl b from hx);cases (show y=.bl b from hy);refine⟨_,rfl,rfl,_,rfl,rY (by intro z;cases z) ?_⟩;refine⟨_,rfl,_,_,_,_,rfl,.bl b,kbb,_,rfl,gJ ?_⟩;refine⟨_,rfl,_,_,_,_,rfl,.bl b,kbb,_,rfl,gJ ⟨_,rfl,_,rfl,.bool b,.bool b,rfl,rfl,lay,lay,?_⟩⟩;simp only[JP,if_false];rw[eqv_refl _ lay.1];exact k _ (c9.refl _)
   |str t =>
     cases (show x=.str t from hx);cases (show y=.str t from hy);refine⟨_,rfl,rfl,_,rfl,rY (by intro z;cases z) ?_⟩;refine⟨_,rfl,_,_,_,_,rfl,.str t,ksb,_,rfl,dY ?_⟩;refine⟨_,rfl,_,_,_,_,rfl,.str t,kss,_,rfl,gJ ?_⟩;refine⟨_,rfl,_,_,_,_,rfl,.str t,kss,_,rfl,gJ ⟨_,rfl,_,rfl,.str t,.str t,rfl,rfl,lay,lay,?_⟩⟩;simp only[JP,if_false];rw[eqv_refl _ lay.1];exact k _ (c9.refl _)
   |int i =>
     cases (show x=.int i from hx);cases (show y=.int i from hy);refine⟨_,rfl,rfl,_,rfl,rY (by intro z;cases z) ?_⟩;refine⟨_,rfl,_,_,_,_,rfl,.int i,kib,_,rfl,dY ?_⟩;refine⟨_,rfl,_,_,_,_,rfl,.int i,kis,_,rfl,dY ?_⟩;refine⟨_,rfl,_,_,_,_,rfl,.int i,kii,_,rfl,gJ ?_⟩;refine⟨_,rfl,_,_,_,_,rfl,.int i,kii,_,rfl,gJ ⟨_,rfl,_,_,_,_,rfl,.int i,kib,_,rfl,_,rfl,gJ ⟨_,rfl,_,rfl,.int i,.int i,rfl,rfl,lay,lay,?_⟩⟩⟩;simp only[JP,if_false];rw[eqv_refl _ lay.1];exact k _ (c9.refl _)
   |dict _=>exact hx.elim
   |list ds =>
     obtain⟨xa,xs,rfl,hxa,dxs⟩:=hx;obtain⟨ya,ys,rfl,hya,dys⟩:=hy;have lx:=DVs.length dxs;have ly:=DVs.length dys;have hd':JI ds+1 <= n:=hd;have hl':JM ds=l':=lay.1;have hl16:JI ds+1 <= 16:=lay.2;have hsl:(Je:Int) < 2 ^ 62:=by decide
     cases n with
    |zero=>exact absurd hd' (by omega)
    |succ m =>
      refine⟨_,rfl,rfl,_,rfl,rY (by intro z;cases z) ?_⟩;refine⟨_,rfl,_,_,_,_,rfl,.lst hya,klb,_,rfl,dY ?_⟩;refine⟨_,rfl,_,_,_,_,rfl,.lst hya,kls,_,rfl,dY ?_⟩;refine⟨_,rfl,_,_,_,_,rfl,.lst hya,kli,_,rfl,dY ?_⟩;refine⟨_,rfl,_,_,_,_,rfl,.lst hya,klt,_,rfl,dY ?_⟩;refine⟨_,rfl,_,_,_,_,rfl,.lst hxa,kll,_,rfl,dY ?_⟩;refine⟨_,rfl,xa,xs,rfl,.inl (SqL.of hxa),λ_=>⟨_,rfl,ya,ys,rfl,.inl (SqL.of hya),λhz=>⟨rfl,_,rfl,F0 (congrArg V.int (by rw[lx,ly])) ?_⟩⟩⟩;refine⟨_,rfl,ya,ys,rfl,.inl (SqL.of hya),λhz2=>⟨_,rfl,by omega,by omega,?_⟩⟩;rw[toNat_natCast];refine hX (n:=ys.length) (λi σ H'=>(∃ v2,σ=[dk (.ref xa),dk (.ref ya),v2])/\c9 H H') ⟨⟨_,rfl⟩,c9.refl _⟩ ?_ ?_
      . rintro i σ H2 hi ⟨⟨v2,rfl⟩,e2⟩;have gx:=Jb (show i < xs.length by omega);have gy:=Jb hi;obtain⟨d1,g1,q1⟩:=DVs.get dxs gx;obtain⟨d2,g2,q2⟩:=DVs.get dys gy;rw[g1]at g2;cases g2;obtain⟨la,lb⟩:=zm hl' g1;refine⟨_,rfl,_,rfl,lj (.inl (SqL.of (e2 _ _ hxa))) (by rw[Int.zero_add];exact jr gx) ?_⟩;refine⟨_,rfl,_,rfl,lj (.inl (SqL.of (e2 _ _ hya))) (by rw[Int.zero_add];exact jr gy) ?_⟩;exact⟨_,_,d1,rfl,DV.mono (λb vs e=>e2 b _ e) (λb vs e=>e2 b _ e) _ _ q1,DV.mono (λb vs e=>e2 b _ e) (λb vs e=>e2 b _ e) _ _ q2,⟨la,by omega⟩,by omega,λH4 e4=>⟨_,rfl,dY ⟨⟨_,rfl⟩,e2.trans e4⟩⟩⟩
      . rintro σ H2 ⟨⟨v2,rfl⟩,e2⟩;exact k _ e2
   |tuple ds =>
     obtain⟨xa,xs,rfl,hxa,dxs⟩:=hx;obtain⟨ya,ys,rfl,hya,dys⟩:=hy;have lx:=DVs.length dxs;have ly:=DVs.length dys;have hd':JI ds+1 <= n:=hd;have hl':JM ds=l':=lay.1;have hl16:JI ds+1 <= 16:=lay.2;have hsl:(Je:Int) < 2 ^ 62:=by decide
     cases n with
    |zero=>exact absurd hd' (by omega)
    |succ m =>
      refine⟨_,rfl,rfl,_,rfl,rY (by intro z;cases z) ?_⟩;refine⟨_,rfl,_,_,_,_,rfl,.tup hya,ktb,_,rfl,dY ?_⟩;refine⟨_,rfl,_,_,_,_,rfl,.tup hya,kts,_,rfl,dY ?_⟩;refine⟨_,rfl,_,_,_,_,rfl,.tup hya,kti,_,rfl,dY ?_⟩;refine⟨_,rfl,_,_,_,_,rfl,.tup hya,ktt,_,rfl,gJ ?_⟩;refine⟨_,rfl,_,_,_,_,rfl,.tup hxa,ktt,_,rfl,dY ?_⟩;refine⟨_,rfl,xa,xs,rfl,.inr (SqT.of hxa),λ_=>⟨_,rfl,ya,ys,rfl,.inr (SqT.of hya),λhz=>⟨rfl,_,rfl,F0 (congrArg V.int (by rw[lx,ly])) ?_⟩⟩⟩;refine⟨_,rfl,ya,ys,rfl,.inr (SqT.of hya),λhz2=>⟨_,rfl,by omega,by omega,?_⟩⟩;rw[toNat_natCast];refine hX (n:=ys.length) (λi σ H'=>(∃ v2,σ=[dk (.ref xa),dk (.ref ya),v2])/\c9 H H') ⟨⟨_,rfl⟩,c9.refl _⟩ ?_ ?_
      . rintro i σ H2 hi ⟨⟨v2,rfl⟩,e2⟩;have gx:=Jb (show i < xs.length by omega);have gy:=Jb hi;obtain⟨d1,g1,q1⟩:=DVs.get dxs gx;obtain⟨d2,g2,q2⟩:=DVs.get dys gy;rw[g1]at g2;cases g2;obtain⟨la,lb⟩:=zm hl' g1;refine⟨_,rfl,_,rfl,lj (.inr (SqT.of (e2 _ _ hxa))) (by rw[Int.zero_add];exact jr gx) ?_⟩;refine⟨_,rfl,_,rfl,lj (.inr (SqT.of (e2 _ _ hya))) (by rw[Int.zero_add];exact jr gy) ?_⟩;exact⟨_,_,d1,rfl,DV.mono (λb vs e=>e2 b _ e) (λb vs e=>e2 b _ e) _ _ q1,DV.mono (λb vs e=>e2 b _ e) (λb vs e=>e2 b _ e) _ _ q2,⟨la,by omega⟩,by omega,λH4 e4=>⟨_,rfl,dY ⟨⟨_,rfl⟩,e2.trans e4⟩⟩⟩
      . rintro σ H2 ⟨⟨v2,rfl⟩,e2⟩;exact k _ e2
def jF (ns:List Int) (k:Nat):Int:=ns.getD k 0
def AD (K:Ja):Sp:=λvs H Q _=>∃ (b:G') (ns:List Int) (k:Nat),vs=[.ref b,.int k]/\SqL K H b (ns.map V.int)/\Q (.int (jF ns k)) H
structure MkOk (s R n:Int) (fs:List Str):Prop where
 s1:1 <= s
 s8:s <= 8
 R2:2 <= R
 R4:R <= 4
 n1:1 <= n
 n9:n <= 9
 fl:fs.length <= 5
def EE:Sp:=λvs H Q _=>∃ c:Int,vs=[.int c]/\∀ (t ft:G') (s R n:Int) (fs:List Str) (H':Hp),MkOk s R n fs->c9 H H'->H t=IX->H' t=dk (.tup [.int s,.int R,.int n,.ref ft])->H' ft=dk (.tup (fs.map V.str))->Q (.ref t) H'
def zF (G:Gs K mg a d):FnOk P w K mg base CX0 1 a.dB d.dB ["script","k"] (AD K):=by
 refine G.fu.ok qg (λvs H Q E h=>?_) (λcdv A' outer s' H vs Q E hr h=>?_)
 . obtain⟨b,ns,k,rfl,_⟩:=h;rfl
 . obtain⟨b,ns,k,rfl,hS,q⟩:=h;refine⟨_,((aS (ar zA (pv 1) (aK bh (by rfl) G.lm gv ((pv 0)∣aa)) (az _)) ((@aA _ _ _ _ _ _ _ aV (pv 0) (pv 1) (λ_ _=>rfl))⁻¹) aq)∪(ae⁻¹)),?_⟩;refine⟨_,rfl,_,rfl,b,_,rfl,.inl hS,_,_,rfl,rfl,_,rfl,?_⟩;by_cases h:k < ns.length
   . refine iI (Pd (by rw[Jk];omega)) ?_;refine⟨_,rfl,_,rfl,b,_,_,_,rfl,rfl,hS,jr (j:=k) (v:=.int (jF ns k)) ?_,q⟩;unfold jF;rw[JX,Jb h,Ll,Jb h];rfl
   . refine cT (by rw[Pc,Jk];omega) ?_;have:jF ns k=0:=by unfold jF;rw[Ll,List.getElem?_eq_none (by omega)];rfl
     rw[this]at q;exact q
def DW (G:Gs K mg a d):FnOk P w K mg base CX0 1 a.iK d.iK ["cell"] EE:=by
 refine G.qy.ok cH (λvs H Q E h=>?_) (λcdv A' outer s' H vs Q E hr h=>?_)
 . obtain⟨c,rfl,_⟩:=h;rfl
 . obtain⟨c,rfl,k⟩:=h;refine⟨_,((@b9 _ _ 1 _ _ _ _ cH.nd rfl (JJ rfl) (@aU _ _ _ _ _ _ _ _ bV (pv 0) (@aU _ _ _ _ _ _ _ _ kq ae ae)) (by rfl) (by first|exact .inl rfl|exact .inr rfl|assumption))∪((@b9 _ _ 2 _ _ _ _ cH.nd rfl (JJ rfl) (@aU _ _ _ _ _ _ _ _ p8 ae (@aU _ _ _ _ _ _ _ _ bV (pv 1) ae)) (by rfl) (by first|exact .inl rfl|exact .inr rfl|assumption))∪(@iR _ _ _ _ _ (aS (ar cG (@aU _ _ _ _ _ _ _ _ bV (@aU _ _ _ _ _ _ _ _ cj (pv 1) ae) ae) ae (az _)) (@ao _ _ _ (@b9 _ _ 2 _ _ _ _ cH.nd rfl (JJ rfl) (@aU _ _ _ _ _ _ _ _ p8 ae (@aU _ _ _ _ _ _ _ _ bV (pv 1) ae)) (by rfl) (by first|exact .inl rfl|exact .inr rfl|assumption))) aq)
    ((@b9 _ _ 3 _ _ _ _ cH.nd rfl (JJ rfl) (@eg _ _ _ _ aa) (by rfl) (by first|exact .inl rfl|exact .inr rfl|assumption))∪((@b9 _ _ 4 _ _ _ _ cH.nd rfl (JJ rfl) (@aU _ _ _ _ _ _ _ _ cj (pv 1) ae) (by rfl) (by first|exact .inl rfl|exact .inr rfl|assumption))∪((hZ JS rfl (jD (@eg _ _ _ _ (am∣(am∣(am∣(am∣(am∣aa))))))) (bU (i:=5) cH.nd rfl (JJ rfl)) (@iR _ _ _ _ _ (aS (ar cG (@aU _ _ _ _ _ _ _ _ bV (pv 4) ae) ae (az _)) (@ao _ _ _ (@aB _ _ _ _ (@l8 _ _ _ _ _ _ _ _ _ _ _ _ JF Kg PySem.F.type_list_append dR (pv 3) ((pv 5)∣aa) (by rfl) (by rfl) (by rfl) (by rfl) (by rfl)) (by rfl))) aq)
    (@ao _ _ _ (@b9 _ _ 4 _ _ _ _ cH.nd rfl (JJ rfl) (@aU _ _ _ _ _ _ _ _ cj (pv 4) ae) (by rfl) (by first|exact .inl rfl|exact .inr rfl|assumption)))))∪((@b8 _ _ _ _ _ ((pv 2)∣((@aU _ _ _ _ _ _ _ _ p8 ae (@aU _ _ _ _ _ _ _ _ bV (@aU _ _ _ _ _ _ _ _ cj (pv 1) ae) ae))∣((@aU _ _ _ _ _ _ _ _ p8 ae (@aU _ _ _ _ _ _ _ _ bV (@aU _ _ _ _ _ _ _ _ cj (pv 1) ae) ae))∣((cY bY (by rfl) G.fj de ((pv 3)∣aa))∣aa)))))⁻¹))))))),?_⟩
   have e12:(10:Int) ^ (12:Int).toNat=1000000000000:=by decide
   refine⟨_,rfl,_,_,rfl,rfl,⟨by decide,by decide,by decide⟩,_,_,rfl,rfl,by show (0:Int) < 10 ^ (12:Int).toNat;decide,?_⟩;have d0:=KJ c (show (10 ^ (12:Int).toNat:Int)≠0 by decide);have d1:=Kd c (show (0:Int) < 10 ^ (12:Int).toNat by decide);rw[e12]at d0 d1;obtain⟨dr,hdr⟩:∃ dr,dr=c % 10 ^ (12:Int).toNat:=⟨_,rfl⟩
   have m8:=KJ dr (show (8:Int)≠0 by decide);have m8':=Kd dr (show (0:Int) < 8 by decide);have m3:=KJ dr (show (3:Int)≠0 by decide);have m3':=Kd dr (show (0:Int) < 3 by decide);refine⟨_,rfl,_,_,rfl,rfl,(show (0:Int) < 8 from by decide),_,_,rfl,rfl,?_⟩;refine⟨λσ' H'=>H'=H/\∃ s,σ'=[dk (.int c),dk (.int dr),dk (.int s),IX,IX,IX]/\1 <= s/\s <= 8,?_,?_⟩
   . refine⟨_,rfl,_,_,rfl,rfl,⟨by decide,by decide⟩,_,_,rfl,rfl,(show (0:Int) < 2 from by decide),rfl,_,rfl,?_⟩;refine yj (λ_=>?_) (λ_=>?_)
     . exact⟨_,rfl,_,_,rfl,rfl,(show (0:Int) < 3 from by decide),_,_,rfl,rfl,rfl,1+dr % 3,by rw[hdr];rfl,by omega,by omega⟩
     . exact⟨rfl,1+dr % 8,by rw[hdr];rfl,by omega,by omega⟩
   . rintro σ' H' ⟨rfl,s,rfl,s1,s8⟩;refine⟨p9,λfl hfl=>?_⟩;refine⟨_,rfl,_,_,rfl,rfl,⟨by decide,by decide⟩,?_⟩;refine⟨by show 5 <= Je;decide,λlw hlw=>⟨lw,rfl,⟨_,SqL.of a8⟩,?_⟩⟩;have e1:=(ah (o:=.lst []) hfl).trans (ah (o:=.lst [V.str "bell",V.str "counter",V.str "lie",V.str "look",V.str "round"]) hlw);have v1:upd (upd H' fl (.lst [])) lw (.lst [V.str "bell",V.str "counter",V.str "lie",V.str "look",V.str "round"]) fl=dk (.lst (([]:List Str).map V.str)):=by rw[ac (ag a8 hlw)];exact a8
     have vl:upd (upd H' fl (.lst [])) lw (.lst [V.str "bell",V.str "counter",V.str "lie",V.str "look",V.str "round"]) lw=dk (.lst [V.str "bell",V.str "counter",V.str "lie",V.str "look",V.str "round"]):=a8;generalize upd (upd H' fl (.lst [])) lw (.lst [V.str "bell",V.str "counter",V.str "lie",V.str "look",V.str "round"])=H1 at e1 v1 vl |-;have nfl:lw≠fl:=λz=>by rw[z,v1]at vl;cases vl
     refine nS (K:=K) (a:=lw) (xs:=[V.str "bell",V.str "counter",V.str "lie",V.str "look",V.str "round"]) (λi σ H2=>∃ (fs:List Str) (b:Int),(∃ v5,σ=[dk (.int c),dk (.int dr),dk (.int s),dk (.ref fl),dk (.int b),v5])/\fs.length <= i/\H2 fl=dk (.lst (fs.map V.str))/\(∀ c o,c≠fl->H1 c=dk o->H2 c=dk o))
      ⟨[],_,⟨_,rfl⟩,Jd _,v1,λ_ _ _ e=>e⟩ (λ_ _ _ _ uq17=>by(obtain⟨_,_,_,_,_,z⟩:=uq17;exact SqL.of (z _ _ nfl vl))) ?_ ?_
     . rintro i x σ H2 hi ⟨fs,b,⟨v5,rfl⟩,fll,v2,k2⟩;have hi5:i < 5:=(Jp.mp hi).1;obtain⟨wd,rfl⟩:∃ wd,x=.str wd:=by
        match i,hi with
       |0,hi=>cases hi;exact⟨_,rfl⟩
       |1,hi=>cases hi;exact⟨_,rfl⟩
       |2,hi=>cases hi;exact⟨_,rfl⟩
       |3,hi=>cases hi;exact⟨_,rfl⟩
       |4,hi=>cases hi;exact⟨_,rfl⟩
       |_+5,hi=>cases hi
       refine⟨λσ' H3=>∃ (fs:List Str),σ'=[dk (.int c),dk (.int dr),dk (.int s),dk (.ref fl),dk (.int b),dk (.str wd)]/\fs.length <= i+1/\H3 fl=dk (.lst (fs.map V.str))/\(∀ c o,c≠fl->H1 c=dk o->H3 c=dk o),?_,?_⟩
       . refine⟨_,rfl,_,_,rfl,rfl,(show (0:Int) < 2 from by decide),rfl,_,rfl,?_⟩;refine yj (λ_=>?_) (λ_=>?_)
         . refine⟨_,rfl,.inl ⟨rfl,_,SqL.of v2⟩,_,rfl,fl,_,_,rfl,rfl,v2,Jf (show _ < 1000 by rw[Jk];omega) (by decide),fs++[wd],rfl,by rw[IT];show _+1 <= _;omega,by rw[a8,J3];rfl,λc o n e=>by rw[ac n];exact k2 c o n e⟩
         . exact⟨fs,rfl,by omega,v2,k2⟩
       . rintro σ' H3 ⟨fs',rfl,fl3,v3,k3⟩;exact⟨_,rfl,_,_,rfl,rfl,⟨by decide,by decide⟩,fs',_,⟨_,rfl⟩,fl3,v3,k3⟩
     . rintro σ H2 ⟨fs,b,⟨v5,rfl⟩,fll,v2,k2⟩;have a0:=KJ (dr / 16) (show (3:Int)≠0 by decide);have a1:=Kd (dr / 16) (show (0:Int) < 3 by decide);have b0:=KJ (dr / 48) (show (9:Int)≠0 by decide);have b1:=Kd (dr / 48) (show (0:Int) < 9 by decide);refine⟨_,rfl,_,rfl,_,_,rfl,rfl,⟨by decide,by decide⟩,_,_,rfl,rfl,(show (0:Int) < 3 from by decide),_,_,rfl,rfl,_,rfl,_,_,rfl,rfl,⟨by decide,by decide⟩,_,_,rfl,rfl,(show (0:Int) < 9 from by decide),_,_,rfl,rfl,?_⟩;refine⟨_,rfl,fl,_,rfl,.inl ⟨SqL.of v2,λft hft=>⟨by show 4 <= Je;decide,λt ht=>?_⟩⟩⟩;have e2:c9 H' H2:=λc o e=>k2 c o (λz=>ag e hfl z) (e1 _ _ e)
       have e3:=(ah (o:=.tup (fs.map V.str)) hft)
       have e4:=ah (o:=.tup [V.int s,V.int (2+dr / 16 % 3),V.int (1+dr / 48 % 9),V.ref ft]) ht;exact k t ft s _ _ fs _ ⟨s1,s8,by omega,by omega,by omega,by omega,fll⟩ ((e2.trans e3).trans e4) (bz (e2.trans e3) ht) a8 (e4 _ _ a8)
def A8 (w:Jj) (CH CR CS:G'):Sp:=λvs H Q _=>∃ (z:HA) (sa:SA) (p:RP) (n:Int) (aw:List Int) (m:Mem) (rs:Bool->List Wr),vs=[.ref z.h]/\Hn CH CR H z sa.x p n aw/\StT w CS H sa m rs/\p.Ok/\Q (.bl (decide (au p m (rs f') .answered .handed≠0))) H
def yY (w:Jj) (CT CR CS:G'):Sp:=λvs H Q _=>∃ (z:TA') (sa:SA) (p:RP) (ts:List Int) (m:Mem) (rs:Bool->List Wr),vs=[.ref z.h]/\Tn CT CR H z sa.x p ts/\StT w CS H sa m rs/\p.Ok/\Q (.bl (decide (au p m (rs l') .asked .taken≠0))) H
def z9 (w:Jj) (ad:Ad):Sp:=λvs H Q _=>∃ (a:YA) (q:YP) (S:YS) (b:Bool),vs=[.ref a.y,.int (sdI b)]/\Yn w ad.bo ad.dX ad.bp ad.cm ad.aM H a q S/\q.Ok/\Q (.bl (swT q S b)) H
def Bh (w:Jj) (ad:Ad) (a:YA) (q:YP) (S':YS) (L:Nat) (dd:IV) (H:Hp) (Q:VK):Prop:=∀ (v:V) (H':Hp),Yn w ad.bo ad.dX ad.bp ad.cm ad.aM H' a q S'->YI q S' (L+2)->DV H' dd v->KO a.own H H'->Q v H'
structure Rdy (w:Jj) (ad:Ad) (H:Hp) (a:YA) (q:YP) (S:YS) (L:Nat):Prop where
 y:Yn w ad.bo ad.dX ad.bp ad.cm ad.aM H a q S
 ok:q.Ok
 i:YI q S L
 l:L < 90000
def C9 (w:Jj) (ad:Ad):Sp:=λvs H Q _=>∃ (a:YA) (q:YP) (S:YS) (L:Nat) (wt:Int),vs=[.ref a.y,.int wt]/\Rdy w ad H a q S L/\au q.p S.m (S.rs f') .asked .taken≠q.p.s/\bF q.n S.un≠IX/\Bh w ad a q ((Dd.ask wt).run q S).2 L ((Dd.ask wt).run q S).1 H Q
def BY (w:Jj) (ad:Ad):Sp:=λvs H Q _=>∃ (a:YA) (q:YP) (S:YS) (L:Nat) (nm wt:Int),vs=[.ref a.y,.int nm,.int wt]/\Rdy w ad H a q S L/\S.tk.contains nm≠f'/\au q.p S.m (S.rs l') .answered .handed≠q.p.s/\Bh w ad a q ((Dd.answer nm wt).run q S).2 L ((Dd.answer nm wt).run q S).1 H Q
def kf {own:G'->Prop}{H1 H2 H3:Hp}(h1:KO own H1 H2) (h2:KO own H2 H3):KO own H1 H3:=h1.trans h2 λ_ hc=>.inl hc
def qb {own:G'->Prop}{H:Hp}{c:G'}{o:HO}(h:own c):KO own H (upd H c o):=KO.of_kp Kp.one λx hx=>by rw[IW.mp hx];exact h
def wW {p:RP}{m:Mem}{row:List Wr}{g:Bool}{a:Cn}{nm wt:Int}:(kR p m row g a nm wt).length=2:=by
 unfold kR;cases p.e<;>rfl
def jB {rs:Bool->List Wr}{L n:Nat}(h:∀ b,(rs b).length <= L) (b:Bool) {row:List Wr}(hr:row.length <= L+n):∀ c,(aF rs b row c).length <= L+n:=λc=>by
 by_cases e:c=b
 . subst e;rw[ap];exact hr
 . rw[aG e];have:=h c;omega
def yO (G:Gs K mg a d):FnOk P w K mg base CX0 6 a.aX d.aX ["self"] (A8 w a.dX a.cm a.aM):=by
 have Oc:FnOk P w K mg base CX0 3 _ _ _ _:=lC G;refine G.ji.ok ig (λvs H Q E h=>?_) (λcdv A' outer s' H vs Q E hr h=>?_)
 . obtain⟨z,sa,p,n,aw,m,rs,rfl,_⟩:=h;rfl
 . obtain⟨z,sa,p,n,aw,m,rs,rfl,hn,⟨M,r,S,R,Pr⟩,hp,k⟩:=h;refine⟨_,((eo oO (b7 (ak (pv 0) rfl) G.av G.eR Oc (hr.mono (by decide)) G.fC .nil ay) ae (az _))⁻¹),?_⟩;obtain⟨dx,hx⟩:=hn.ob;obtain⟨dr,hrb⟩:=hn.rb;refine⟨_,rfl,fld hx G.bG G.fM qT ⟨z.rb,dr,_,rfl,hrb,lI,z.rb,sa,f',"answer","answered","handed",p,M,r,rdC m (rs f') .answered,rdC m (rs f') .handed,rfl,⟨dr,hrb⟩,S,hp,by decide +kernel,by decide +kernel,cJ R (Pr f') .answered,cJ R (Pr f') .handed,rfl,?_⟩⟩;have e:(!decide (V.int ((rdC m (rs f') .answered - rdC m (rs f') .handed) % (p.s * p.R))=V.int 0))=decide (au p m (rs f') .answered .handed≠0):=by
    rw[KQ,Lb,decide_eq_false_iff_not,Pc];exact not_congr ⟨λh=>by injection h,λh=>congrArg V.int h⟩
   rw[e];exact k
def Ar (G:Gs K mg a d):FnOk P w K mg base CX0 6 a.aQ d.aQ ["self"] (yY w a.bp a.cm a.aM):=by
 have Oc:FnOk P w K mg base CX0 3 _ _ _ _:=lC G;refine G.iz.ok gS (λvs H Q E h=>?_) (λcdv A' outer s' H vs Q E hr h=>?_)
 . obtain⟨z,sa,p,ts,m,rs,rfl,_⟩:=h;rfl
 . obtain⟨z,sa,p,ts,m,rs,rfl,hn,⟨M,r,S,R,Pr⟩,hp,k⟩:=h;refine⟨_,((eo oO (b7 (ak (pv 0) rfl) G.av G.eR Oc (hr.mono (by decide)) G.fC .nil ay) ae (az _))⁻¹),?_⟩;obtain⟨dx,hx⟩:=hn.ob;obtain⟨dr,hra⟩:=hn.ra;refine⟨_,rfl,fld hx G.bD G.ik AN ⟨z.ra,dr,_,rfl,hra,lI,z.ra,sa,l',"ask","asked","taken",p,M,r,rdC m (rs l') .asked,rdC m (rs l') .taken,rfl,⟨dr,hra⟩,S,hp,by decide +kernel,by decide +kernel,cJ R (Pr l') .asked,cJ R (Pr l') .taken,rfl,?_⟩⟩;have e:(!decide (V.int ((rdC m (rs l') .asked - rdC m (rs l') .taken) % (p.s * p.R))=V.int 0))=decide (au p m (rs l') .asked .taken≠0):=by
    rw[KQ,Lb,decide_eq_false_iff_not,Pc];exact not_congr ⟨λh=>by injection h,λh=>congrArg V.int h⟩
   rw[e];exact k
def zG (G:Gs K mg a d):FnOk P w K mg base CX0 7 a.aZ d.aZ ["self","side"] (z9 w a):=by
 have N4:FnOk P w K mg base CX0 6 _ _ _ _:=yO G;have N7:FnOk P w K mg base CX0 6 _ _ _ _:=Ar G;refine G.jh.ok iW (λvs H Q E h=>?_) (λcdv A' outer s' H vs Q E hr h=>?_)
 . obtain⟨y,q,S,b,rfl,_⟩:=h;rfl
 . obtain⟨y,q,S,b,rfl,Y,qo,k⟩:=h;refine⟨_,((o8 (ar cG (pv 1) ae (az _)) (b7 (ak (pv 0) rfl) G.bG G.iL N4 (hr.mono (by decide)) G.jf .nil ay) (b7 (ak (pv 0) rfl) G.bD G.i8 N7 (hr.mono (by decide)) G.iM .nil ay))⁻¹),?_⟩;refine⟨_,rfl,rfl,_,rfl,?_⟩;cases b with
  |false =>
    refine iI (by decide +kernel) ?_;exact⟨_,rfl,gl Y.ob G.aj G.dN oA (eS Y.x.hn.ob B4 ⟨y.z,y.sa,q.p,_,S.un,S.m,S.rs,rfl,Y.x.hn,Y.x.st,qo.ok,k⟩)⟩
  |true =>
    refine cT (by decide +kernel) ?_;exact⟨_,rfl,gl Y.ob G.aj G.c7 jQ (eS Y.x.tn.ob Bk ⟨y.zt,y.sa,q.p,S.tk,S.m,S.rs,rfl,Y.x.tn,Y.x.st,qo.ok,k⟩)⟩
def Ci (G:Gs K mg a d):FnOk P w K mg base CX0 9 a.dm d.dm ["self","worth"] (C9 w a):=by
 have O4:FnOk P w K mg base (CXv P w) 8 _ _ _ _:=(FV G).imp λvs H Q E=>IM
 refine G.sJ.ok ku (λvs H Q E h=>?_) (λcdv A' outer s' H vs Q E hr h=>?_)
 . obtain⟨y,q,S,L,wt,rfl,_⟩:=h;rfl
 . obtain⟨y,q,S,L,wt,rfl,Rd,hc,hl,k⟩:=h;have Y:=Rd.y;have ll:=Rd.l;have ul:=Rd.i.und.len (by have:=Rd.ok.n9;omega);have rl:=Rd.i.len;have hsl:=Rd.i.hl;refine⟨_,((@b9 _ _ 2 _ _ _ _ ku.nd rfl (JJ rfl) (ax (ak (pv 0) rfl) G.bG G.uZ O4 (hr.mono (by decide)) G.xT .nil uk ((pv 1)∣aa)) (by rfl) (by first|exact .inl rfl|exact .inr rfl|assumption))∪((@aB _ _ _ _ (@l8 _ _ _ _ _ _ _ _ _ _ _ _ JF Kg PySem.F.type_list_append dR (ak (pv 0) rfl) ((@b8 _ _ _ _ _ (am∣((pv 2)∣((pv 1)∣aa))))∣aa) (by rfl) (by rfl) (by rfl) (by rfl) (by rfl)) (by rfl))∪((@mU _ _ _ _ _ _ dZ (oQ (ak (pv 0) rfl) ae ii) (by rfl) (by rfl) (by rfl))∪((pv 2)⁻¹)))),?_⟩;cases hle:bF q.n S.un with
  |none=>exact absurd hle hl
  |some nm =>
    refine⟨_,rfl,gl Y.ob G.aj G.dN oA (eS Y.x.hn.ob G8 ⟨_,rfl,y.z,y.sa,q.p,q.n,S.un,S.m,S.rs,wt,rfl,Y.x.hn,Y.x.st,Rd.ok.ok,Rd.ok.n9,by omega,by have:=rl f';omega,?_⟩)⟩;rw[Pb hc,hle];intro H1 hn1 st1 kp1;have Y1:=Y.parts (Y.x.hand hn1 st1 kp1) kp1 qC;obtain⟨ts,h1,h2⟩:=Y1.hp;have tl:=mf h2;refine⟨_,rfl,gl Y1.ob G.aj G.cf iV ⟨.inl ⟨rfl,_,SqL.of h1⟩,_,rfl,_,rfl,l3,λt ht=>?_⟩⟩;have e2:=ah (o:=.tup [V.str "asked",V.int nm,V.int wt]) ht;have v2:upd H1 t (.tup [V.str "asked",V.int nm,V.int wt]) t=dk (.tup [V.str "asked",V.int nm,V.int wt]):=a8;generalize upd H1 t (.tup [V.str "asked",V.int nm,V.int wt])=H2 at e2 v2 |-;have Y2:=Y1.same e2;refine⟨y.hp,ts,_,rfl,rfl,e2 _ _ h1,Jf (show _ < 100000 by rw[tl];show S.hs.length < _;omega) (by decide),?_⟩;have Y3:=Y2.setHp (e2 _ _ h1) (x:=lU "asked" (.int nm) (.int wt)) (v:=.ref t) ⟨t,_,rfl,v2,_,_,rfl,rfl,_,_,rfl,rfl,_,_,rfl,rfl,rfl⟩ rfl;refine⟨_,rfl,gl Y3.ob G.aj G.fE sx ⟨y.qu,_,_,_,rfl,rfl,Y3.qu,rfl,?_⟩⟩;have Y4:=Y3.setQu f' f' (ys:=[.bl f',.bl (S.qt l')]) rfl;have hrun:(Dd.ask wt).run q S=(.int nm,{ S with rs:=aF S.rs f' (S.rs f'++kR q.p S.m (S.rs f') f' .asked nm wt),un:=S.un++[nm],qt:=aF S.qt f' f',hs:=S.hs++[lU "asked" (.int nm) (.int wt)] }):=by
     show (match bF q.n S.un with|some nm=>_|none=>_)=_;rw[hle]
    rw[hrun]at k;refine⟨_,rfl,k (.int nm) _ Y4 ⟨Rd.i.und.snoc (mJ hle) (sS hle),Rd.i.tkd,jB rl f' (by rw[IT,wW];have:=rl f';omega),by show (S.hs++[_]).length <= _;rw[IT];show _+1 <= _;omega⟩ rfl ?_⟩;exact kf (KO.of_kp kp1 λc hc=>.inr (.inl (qC c hc))) (kf (KO.of_same e2) (kf (qb (.inr (.inr (.inr (.inr rfl))))) (qb (.inr (.inr (.inr (.inl rfl)))))))
def Bo (G:Gs K mg a d):FnOk P w K mg base CX0 9 a.bN d.bN ["self","name","worth"] (BY w a):=by
 have O6:FnOk P w K mg base (CXv P w) 8 _ _ _ _:=(zc G).imp λvs H Q E=>EH
 refine G.nG.ok mB (λvs H Q E h=>?_) (λcdv A' outer s' H vs Q E hr h=>?_)
 . obtain⟨y,q,S,L,nm,wt,rfl,_⟩:=h;rfl
 . obtain⟨y,q,S,L,nm,wt,rfl,Rd,h0,hc,k⟩:=h;have Y:=Rd.y;have ll:=Rd.l;have rl:=Rd.i.len;have hsl:=Rd.i.hl;refine⟨_,((@aB _ _ _ _ (ax (ak (pv 0) rfl) G.bD G.oR O6 (hr.mono (by decide)) G.pO .nil uk ((pv 1)∣((pv 2)∣aa))) (by rfl))∪((@aB _ _ _ _ (@l8 _ _ _ _ _ _ _ _ _ _ _ _ JF Kg PySem.F.type_list_append dR (ak (pv 0) rfl) ((@b8 _ _ _ _ _ (am∣((pv 1)∣((pv 2)∣aa))))∣aa) (by rfl) (by rfl) (by rfl) (by rfl) (by rfl)) (by rfl))∪(@ao _ _ _ (@mU _ _ _ _ _ _ dZ (oQ (ak (pv 0) rfl) ae ii) (by rfl) (by rfl) (by rfl))))),?_⟩;refine⟨_,rfl,gl Y.ob G.aj G.c7 jQ (eS Y.x.tn.ob Aa ⟨_,rfl,_,rfl,y.zt,y.sa,q.p,S.tk,S.m,S.rs,nm,wt,rfl,Y.x.tn,Y.x.st,Rd.ok.ok,by have:=rl l';omega,λx hx=>Rd.i.tkd.2 x hx,?_⟩)⟩;rw[Pb h0,Pb hc];intro H1 tn1 st1 kp1;have Y1:=Y.parts (Y.x.heart tn1 st1 kp1) kp1 qW;obtain⟨ts,h1,h2⟩:=Y1.hp;have tl:=mf h2;refine⟨_,rfl,gl Y1.ob G.aj G.cf iV ⟨.inl ⟨rfl,_,SqL.of h1⟩,_,rfl,_,rfl,l3,λt ht=>?_⟩⟩;have e2:=ah (o:=.tup [V.str "answered",V.int nm,V.int wt]) ht;have v2:upd H1 t (.tup [V.str "answered",V.int nm,V.int wt]) t=dk (.tup [V.str "answered",V.int nm,V.int wt]):=a8;generalize upd H1 t (.tup [V.str "answered",V.int nm,V.int wt])=H2 at e2 v2 |-;have Y2:=Y1.same e2;refine⟨y.hp,ts,_,rfl,rfl,e2 _ _ h1,Jf (show _ < 100000 by rw[tl];show S.hs.length < _;omega) (by decide),?_⟩;have Y3:=Y2.setHp (e2 _ _ h1) (x:=lU "answered" (.int nm) (.int wt)) (v:=.ref t) ⟨t,_,rfl,v2,_,_,rfl,rfl,_,_,rfl,rfl,_,_,rfl,rfl,rfl⟩ rfl;refine⟨_,rfl,gl Y3.ob G.aj G.fE sx ⟨y.qu,_,_,_,rfl,rfl,Y3.qu,rfl,?_⟩⟩;have Y4:=Y3.setQu l' f' (ys:=[.bl (S.qt f'),.bl f']) rfl;refine k .non _ Y4 ⟨Rd.i.und,Rd.i.tkd.filter,jB rl l' (by rw[IT,wW];have:=rl l';omega),by show (S.hs++[_]).length <= _;rw[IT];show _+1 <= _;omega⟩ rfl ?_;exact kf (KO.of_kp kp1 λc hc=>.inr (.inl (qW c hc))) (kf (KO.of_same e2) (kf (qb (.inr (.inr (.inr (.inr rfl))))) (qb (.inr (.inr (.inr (.inl rfl)))))))
def EG (w:Jj) (ad:Ad):Sp:=λvs H Q _=>∃ (a:YA) (q:YP) (S:YS) (wd:Str) (tv:V),vs=[.ref a.y,.str wd,tv]/\Yn w ad.bo ad.dX ad.bp ad.cm ad.aM H a q S/\S.hs.length < 99000 /\
 ((tv=.non/\Q .non H)\/∃ (t:G') (v1 v2:V) (d1 d2:IV),tv=.ref t/\H t=dk (.tup [v1,v2])/\DV H d1 v1/\DV H d2 v2/\scD d1=l'/\scD d2=l'/\∀ H',Yn w ad.bo ad.dX ad.bp ad.cm ad.aM H' a q { S with hs:=S.hs++[lU wd d1 d2] }->KO a.own H H'->H' t=dk (.tup [v1,v2])->Q (.ref t) H')
def Ew (G:Gs K mg a d):FnOk P w K mg base CX0 1 a.bn d.bn ["self","word","told"] (EG w a):=by
 refine G.l6.ok k8 (λvs H Q E h=>?_) (λcdv A' outer s' H vs Q E hr h=>?_)
 . obtain⟨y,q,S,wd,tv,rfl,_⟩:=h;rfl
 . obtain⟨y,q,S,wd,tv,rfl,Y,hsl,k⟩:=h;refine⟨_,(@iR _ _ _ _ _ (aS (ar jz (pv 2) eh (az _)) (@ao _ _ _ (@aB _ _ _ _ (@l8 _ _ _ _ _ _ _ _ _ _ _ _ JF Kg PySem.F.type_list_append dR (ak (pv 0) rfl) ((@b8 _ _ _ _ _ ((pv 1)∣((@aA _ _ _ _ _ _ _ aI (pv 2) ae (λ_ _=>rfl))∣((@aA _ _ _ _ _ _ _ aI (pv 2) ae (λ_ _=>rfl))∣aa))))∣aa) (by rfl) (by rfl) (by rfl) (by rfl) (by rfl)) (by rfl))) aq)
    ((pv 2)⁻¹)),?_⟩
   rcases k with⟨rfl,k⟩|⟨t,v1,v2,d1,d2,rfl,ht,dv1,dv2,s1,s2,k⟩
   . refine⟨λσ' H'=>H'=H/\σ'=[dk (.ref y.y),dk (.str wd),dk .non],?_,?_⟩
     . exact⟨_,rfl,rfl,_,rfl,dY ⟨rfl,rfl⟩⟩
     . rintro σ' H' ⟨rfl,rfl⟩;exact⟨_,rfl,k⟩
   . refine⟨λσ' H'=>σ'=[dk (.ref y.y),dk (.str wd),dk (.ref t)]/\Yn w a.bo a.dX a.bp a.cm a.aM H' y q { S with hs:=S.hs++[lU wd d1 d2] }/\KO y.own H H'/\H' t=dk (.tup [v1,v2]),?_,?_⟩
     . refine⟨_,rfl,rfl,_,rfl,gJ ?_⟩;obtain⟨ts,h1,h2⟩:=Y.hp;have tl:=mf h2;refine⟨_,rfl,gl Y.ob G.aj G.cf iV ⟨.inl ⟨rfl,_,SqL.of h1⟩,_,rfl,_,rfl,t,_,_,_,rfl,rfl,SqT.of ht,rfl,_,rfl,t,_,_,_,rfl,rfl,SqT.of ht,rfl,l3,λt2 ht2=>?_⟩⟩;have e2:=ah (o:=.tup [V.str wd,v1,v2]) ht2;have w2:upd H t2 (.tup [V.str wd,v1,v2]) t2=dk (.tup [V.str wd,v1,v2]):=a8;generalize upd H t2 (.tup [V.str wd,v1,v2])=H2 at e2 w2 |-;have Y2:=Y.same e2;refine⟨y.hp,ts,_,rfl,rfl,e2 _ _ h1,Jf (show _ < 100000 by rw[tl];omega) (by decide),rfl,?_,?_,?_⟩
       . exact Y2.setHp (e2 _ _ h1) (x:=lU wd d1 d2) (v:=.ref t2) ⟨t2,_,rfl,w2,_,_,rfl,rfl,_,_,rfl,DV.sc s1 dv1,_,_,rfl,DV.sc s2 dv2,rfl⟩ (by show (l' && (scD d1 && (scD d2 && l')))=l';rw[s1,s2];rfl)
       . exact kf (KO.of_same e2) (qb (.inr (.inr (.inr (.inr rfl)))))
       . rw[ac (λz=>by rw[z,h1]at ht;cases ht)];exact e2 _ _ ht
     . rintro σ' H' ⟨rfl,Y',ko,ht'⟩;exact⟨_,rfl,k H' Y' ko ht'⟩
theorem MemR.putAllY {H:Hp}:∀ {row:List Wr}{es M:List (IV × V)}{m:Mem},MemR H M m->Jv (WrR H) row es->MemR H (lE M es) (m.putAllY row)
|_,_,_,_,R,.nil=>R
|_,_,_,_,R,.cons hx t=>by
  have h:=MemR.putAllY (R.put hx) t;exact h
def yD (w:Jj) (C:G'):Sp:=λvs H Q _=>∃ (sa:SA) (m:Mem) (rs:Bool->List Wr) (b:Bool),vs=[.ref sa.x,.int (sdI b)]/\StT w C H sa m rs/\(rs b).length < 99000 /\
 ∀ H',StT w C H' sa (m.putAllY (rs b)) (aF rs b [])->Kp [sa.l b,sa.hd] H H'->Q .non H'
def CQ {w:Jj}{C:G'}{vs:List V}{H:Hp}{Q:VK}{E:XK}(h:yD w C vs H Q E):wg w C vs H Q E:=by
 obtain⟨sa,m,rs,b,rfl,⟨M,r,S,R,P⟩,hl,k⟩:=h;have hl':=be (P b);have hM:=StT.small S R;refine⟨sa.x,sa.hd,sa.rl,sa.l,M,r,b,rfl,S,by omega,λH' S' kp=>k H' ?_ kp⟩;have ht:∀ c vs,H c=dk (.tup vs)->H' c=dk (.tup vs):=λc vs e=>kp c _ (λmm=>by
  rcases Jx.mp mm with y|y
  . exact S.noT (b:=b) e (IW.mpr y)
  . obtain⟨ee,e'⟩:=S.me.there;rw[IW.mp y,e']at e;cases e) e
 refine⟨_,_,S',(MemR.putAllY R (P b)).keep ht,λc=>?_⟩;by_cases e:c=b
 . subst e;rw[ap,ap];exact .nil
 . rw[aG e,aG e];exact Paired.mapP (P c) λ_ _ q=>q.keep ht
def BS (w:Jj) (C:G'):Sp:=λvs H Q _=>∃ (sa:SA) (m:Mem) (rs:Bool->List Wr) (b:Bool) (k:Cn),vs=[.ref sa.x,.int (sdI b),.str k.key]/\StT w C H sa m rs/\Q (.int (rdC m (rs b) k)) H
def GC {w:Jj}{C:G'}{vs:List V}{H:Hp}{Q:VK}{E:XK}(h:BS w C vs H Q E):AL w C vs H Q E:=by
 obtain⟨sa,m,rs,b,k,rfl,⟨M,r,S,R,P⟩,q⟩:=h;refine⟨sa.x,sa.hd,sa.rl,sa.l,M,r,b,.str k.key,.str k.key,rfl,S,kS (zR k),?_⟩;rw[cJ R (P b) k];exact q
def jN (b:Bool):Nat:=if b then 1 else 0
def xq {b:Bool}:ixN 2 (sdI b)=dk (jN b):=by cases b<;>rfl
def tz {f:Bool->Bd}{b:Bool}{x:Bd}:[V.str (f f').key,V.str (f l').key].set (jN b) (.str x.key)=[V.str (aF f b x f').key,V.str (aF f b x l').key]:=by cases b<;>rfl
def FN {f:Bool->Bool}{b x:Bool}:[V.bl (f f'),V.bl (f l')].set (jN b) (.bl x)=[V.bl (aF f b x f'),V.bl (aF f b x l')]:=by cases b<;>rfl
def wA {b:Bool}:atI [V.str "hand sleeps",V.str "heart sleeps"] (sdI b)=dk (.str (bM b).key):=by cases b<;>rfl
def vO (b:Bool):(1:Int) - sdI b=sdI (!b):=by cases b<;>rfl
def yL (w:Jj) (ad:Ad):Sp:=λvs H Q _=>∃ (a:YA) (q:YP) (S:YS) (L:Nat) (b:Bool),vs=[.ref a.y,.int (sdI b)]/\Rdy w ad H a q S L/\Bh w ad a q ((Dd.bell b).run q S).2 L ((Dd.bell b).run q S).1 H Q
def Bw (w:Jj) (ad:Ad):Sp:=λvs H Q _=>∃ (a:YA) (q:YP) (S:YS) (L:Nat) (b:Bool),vs=[.ref a.y,.int (sdI b)]/\Rdy w ad H a q S L/\Bh w ad a q ((Dd.lie b).run q S).2 L ((Dd.lie b).run q S).1 H Q
def Ai (w:Jj) (ad:Ad):Sp:=λvs H Q _=>∃ (a:YA) (q:YP) (S:YS) (L:Nat) (b:Bool),vs=[.ref a.y,.int (sdI b)]/\Rdy w ad H a q S L/\Bh w ad a q ((Dd.look b).run q S).2 L ((Dd.look b).run q S).1 H Q
def CL {ad:Ad}{H H':Hp}{y:YA}{q:YP}{S:YS}{b:Bool}(Y:Yn w ad.bo ad.dX ad.bp ad.cm ad.aM H y q S) (st:StT w ad.aM H' y.sa (S.m.putAllY (S.rs b)) (aF S.rs b [])) (kp:Kp [y.sa.l b,y.sa.hd] H H'):Yn w ad.bo ad.dX ad.bp ad.cm ad.aM H' y q (S.fence b):=Y.parts (Y.x.store st kp) kp uw
def ym {ad:Ad}{H H':Hp}{y:YA}{q:YP}{S:YS}{b:Bool}{x:Wr}(Y:Yn w ad.bo ad.dX ad.bp ad.cm ad.aM H y q S) (st:StT w ad.aM H' y.sa S.m (aF S.rs b (S.rs b++[x]))) (kp:Kp [y.sa.l b] H H'):Yn w ad.bo ad.dX ad.bp ad.cm ad.aM H' y q (S.wr b x):=Y.parts (Y.x.store (b:=b) st (kp.mono λc hc=>by rw[IW.mp hc];exact Jg)) kp λc hc=>uw (b:=b) c (by rw[IW.mp hc];exact Jg)
def GJ {y:YA}{H H':Hp}{b:Bool}(kp:Kp [y.sa.l b,y.sa.hd] H H'):KO y.own H H':=KO.of_kp kp λc hc=>.inr (.inl (uw c hc))
def Gw {y:YA}{H H':Hp}{b:Bool}(kp:Kp [y.sa.l b] H H'):KO y.own H H':=KO.of_kp kp λc hc=>.inr (.inl (uw (b:=b) c (by rw[IW.mp hc];exact Jg)))
def AQ (G:Gs K mg a d):FnOk P w K mg base CX0 8 a.cB d.cB ["self","side"] (Ai w a):=by
 have OD:FnOk P w K mg base CX0 7 _ _ _ _:=zG G;have Ot:FnOk P w K mg base CX0 1 _ _ _ _:=(lz G).imp λvs H Q E=>zj
 refine G.qv.ok oF (λvs H Q E h=>?_) (λcdv A' outer s' H vs Q E hr h=>?_)
 . obtain⟨y,q,S,L,b,rfl,_⟩:=h;rfl
 . obtain⟨y,q,S,L,b,rfl,Rd,k⟩:=h;have Y:=Rd.y;have ll:=Rd.l;have rl:=Rd.i.len;have hu:=fA hr;refine⟨_,((aS ((yh (eW (ck (ak (pv 0) rfl))) (uN (eW (ck (ax (pv 0) G.aj G.ij OD (hr.mono (by decide)) G.jg .nil ay ((pv 1)∣aa))))))).pt ((@mU _ _ _ _ _ _ am (oQ (ak (pv 0) rfl) (pv 1) ii) (by rfl) (by rfl) (by rfl))∪(dZ⁻¹)) aq)∪((@aB _ _ _ _ (ax (ak (pv 0) rfl) G.aH G.d8 Ot (hr.mono (by decide)) G.dP .nil ay ((pv 1)∣((@aA _ _ _ _ _ _ _ aI (jp (v:=.ref a.aP) (by rfl) G.fw rfl) (pv 1) (λ_ _=>rfl))∣(ae∣aa)))) (by rfl))∪((@mU _ _ _ _ _ _ am (oQ (ak (pv 0) rfl) (pv 1) ii) (by rfl) (by rfl) (by rfl))∪(dZ⁻¹)))),?_⟩;have bad:¬ (q.fk=l'/\swT q S b=l')->Q (.bl f') (upd H y.sl (.lst [.str (aF S.bd b .asleep f').key,.str (aF S.bd b .asleep l').key])):=λhn=>by
    have k2:=k;rw[show (Dd.look b).run q S=_ from Pb hn]at k2;exact k2 (.bl f') _ (Y.setSl b .asleep rfl) ⟨Rd.i.und,Rd.i.tkd,λc=>by have:=rl c;show (S.rs c).length <= _;omega,by have:=Rd.i.hl;show S.hs.length <= _;omega⟩ rfl (qb (.inr (.inr (.inl rfl))))
   refine⟨_,rfl,gl Y.ob G.aj G.i4 Dk ⟨_,rfl,?_⟩⟩;cases hfk:q.fk with
  |false =>
    refine gJ ?_;exact⟨_,rfl,gl Y.ob G.aj G.aN bO ⟨_,rfl,y.sl,_,_,_,rfl,rfl,Y.sl,xq,by rw[show (V.str "asleep":V)=.str (Bd.key .asleep) from rfl,tz];exact bad (by rw[hfk];exact λz=>by cases z.1)⟩⟩
  |true =>
    refine dY ?_;refine⟨_,rfl,eS Y.ob (dO (by decide +kernel)) ⟨_,rfl,y,q,S,b,rfl,Y,Rd.ok,_,rfl,?_⟩⟩;cases hw:swT q S b with
   |false =>
     refine gJ ?_;exact⟨_,rfl,gl Y.ob G.aj G.aN bO ⟨_,rfl,y.sl,_,_,_,rfl,rfl,Y.sl,xq,by rw[show (V.str "asleep":V)=.str (Bd.key .asleep) from rfl,tz];exact bad (by rw[hw];exact λz=>by cases z.2)⟩⟩
   |true =>
     refine dY ?_;refine⟨_,rfl,gl Y.ob G.aj G.aJ cN (eS Y.x.st.ob (cq (by decide +kernel) (by decide +kernel)) ⟨_,rfl,_,rfl,a.aP,_,sdI b,.str (bM b).key,rfl,rfl,G.fF _,wA,y.sa,S.m,S.rs,b,.str (bM b).key,.int 0,.c (bM b) 0,rfl,Y.x.st,by have:=rl b;omega,kS (zR _),rfl,trivial,λH1 st1 kp1=>?_⟩)⟩;have Y1:=ym Y st1 kp1;refine⟨_,rfl,gl Y1.ob G.aj G.aN bO ⟨_,rfl,y.sl,_,_,_,rfl,rfl,Y1.sl,xq,?_⟩⟩;rw[show (V.str "up":V)=.str (Bd.key .up) from rfl,tz];have Y2:=Y1.setSl b .up rfl;have k2:=k;rw[show (Dd.look b).run q S=_ from Pa ⟨hfk,hw⟩]at k2;exact k2 (.bl l') _ Y2 ⟨Rd.i.und,Rd.i.tkd,jB rl b (by rw[IT];have:=rl b;show _+1 <= _;omega),by have:=Rd.i.hl;show S.hs.length <= _;omega⟩ rfl (kf (Gw kp1) (qb (.inr (.inr (.inl rfl)))))
def C5 (G:Gs K mg a d):FnOk P w K mg base CX0 8 a.dn d.dn ["self","side"] (Bw w a):=by
 have Ot:FnOk P w K mg base CX0 1 _ _ _ _:=(lz G).imp λvs H Q E=>zj
 have Ol:FnOk P w K mg base CX0 2 _ _ _ _:=(wx G).imp λvs H Q E=>CQ
 refine G.rC.ok qw (λvs H Q E h=>?_) (λcdv A' outer s' H vs Q E hr h=>?_)
 . obtain⟨y,q,S,L,b,rfl,_⟩:=h;rfl
 . obtain⟨y,q,S,L,b,rfl,Rd,k⟩:=h;have Y:=Rd.y;have ll:=Rd.l;have rl:=Rd.i.len;have hu:=fA hr;refine⟨_,((@aB _ _ _ _ (ax (ak (pv 0) rfl) G.aH G.d8 Ot (hr.mono (by decide)) G.dP .nil ay ((pv 1)∣((@aA _ _ _ _ _ _ _ aI (jp (v:=.ref a.aP) (by rfl) G.fw rfl) (pv 1) (λ_ _=>rfl))∣(ae∣aa)))) (by rfl))∪(@iR _ _ _ _ _ (aS (ck (ak (pv 0) rfl)) (@ao _ _ _ (@aB _ _ _ _ (ax (ak (pv 0) rfl) G.aH G.kz Ol (hr.mono (by decide)) G.lu .nil ay ((pv 1)∣aa)) (by rfl))) aq)
    (@ao _ _ _ (@mU _ _ _ _ _ _ am (oQ (ak (pv 0) rfl) (pv 1) ii) (by rfl) (by rfl) (by rfl))))),?_⟩
   refine⟨_,rfl,gl Y.ob G.aj G.aJ cN (eS Y.x.st.ob (cq (by decide +kernel) (by decide +kernel)) ⟨_,rfl,_,rfl,a.aP,_,sdI b,.str (bM b).key,rfl,rfl,G.fF _,wA,y.sa,S.m,S.rs,b,.str (bM b).key,.int 1,.c (bM b) 1,rfl,Y.x.st,by have:=rl b;omega,kS (zR _),rfl,trivial,λH1 st1 kp1=>?_⟩)⟩;have Y1:=ym Y st1 kp1;have rl1:∀ c,((S.wr b (.c (bM b) 1)).rs c).length <= L+2:=jB rl b (by rw[IT];have:=rl b;show _+1 <= _;omega);refine⟨λσ' H'=>σ'=[dk (.ref y.y),dk (.int (sdI b))]/\KO y.own H H'/\∃ S2:YS,S2=(if q.fl then (S.wr b (.c (bM b) 1)).fence b else S.wr b (.c (bM b) 1))/\Yn w a.bo a.dX a.bp a.cm a.aM H' y q S2,?_,?_⟩
   . refine⟨_,rfl,gl Y1.ob G.aj G.gw FH ⟨_,rfl,?_⟩⟩;cases hfl:q.fl with
    |true =>
      refine gJ ?_;refine⟨_,rfl,gl Y1.ob G.aj G.aJ cN (eS Y1.x.st.ob (cq (by decide +kernel) (by decide +kernel)) ⟨_,rfl,y.sa,_,_,b,rfl,Y1.x.st,by have:=rl1 b;omega,λH2 st2 kp2=>⟨rfl,kf (Gw kp1) (GJ kp2),_,rfl,CL Y1 st2 kp2⟩⟩)⟩
    |false=>exact dY ⟨rfl,Gw kp1,_,rfl,Y1⟩
   . rintro σ' H2 ⟨rfl,ko,S2,hS2,Y2⟩;refine⟨_,rfl,gl Y2.ob G.aj G.aN bO ⟨_,rfl,y.sl,_,_,_,rfl,rfl,Y2.sl,xq,?_⟩⟩;rw[show (V.str "lies":V)=.str (Bd.key .lies) from rfl,tz];have Y3:=Y2.setSl b .lies rfl;have k2:Bh w a y q { S2 with bd:=aF S2.bd b .lies } L .none H Q:=by rw[hS2];exact k
     have hun:S2.un=S.un/\S2.tk=S.tk/\S2.hs=S.hs/\∀ c,(S2.rs c).length <= L+2:=by
      rw[hS2];cases q.fl with
     |true =>
       refine⟨rfl,rfl,rfl,λc=>?_⟩;show (aF _ b [] c).length <= _;by_cases e:c=b
       . subst e;rw[ap];exact Kq _
       . rw[aG e];exact rl1 c
     |false=>exact⟨rfl,rfl,rfl,rl1⟩
     exact k2 .non _ Y3 ⟨by show Nms _ S2.un;rw[hun.1];exact Rd.i.und,by show Nms _ S2.tk;rw[hun.2.1];exact Rd.i.tkd,hun.2.2.2,by have:=Rd.i.hl;show S2.hs.length <= _;rw[hun.2.2.1];omega⟩ rfl (kf ko (qb (.inr (.inr (.inl rfl)))))
def An (G:Gs K mg a d):FnOk P w K mg base CX0 8 a.cu d.cu ["self","side"] (yL w a):=by
 have Ot:FnOk P w K mg base CX0 1 _ _ _ _:=(lz G).imp λvs H Q E=>zj
 have Ol:FnOk P w K mg base CX0 2 _ _ _ _:=(wx G).imp λvs H Q E=>CQ
 have Oo:FnOk P w K mg base CX0 2 _ _ _ _:=(sI G).imp λvs H Q E=>GC
 refine G.pK.ok jL (λvs H Q E h=>?_) (λcdv A' outer s' H vs Q E hr h=>?_)
 . obtain⟨y,q,S,L,b,rfl,_⟩:=h;rfl
 . obtain⟨y,q,S,L,b,rfl,Rd,k⟩:=h;have Y:=Rd.y;have ll:=Rd.l;have rl:=Rd.i.len;have hu:=fA hr;refine⟨_,((@b9 _ _ 2 _ _ _ _ jL.nd rfl (JJ rfl) (@aU _ _ _ _ _ _ _ _ oz ae (pv 1)) (by rfl) (by first|exact .inl rfl|exact .inr rfl|assumption))∪(@iR _ _ _ _ _ (aS (ck (ak (pv 0) rfl)) (@ao _ _ _ (@aB _ _ _ _ (ax (ak (pv 0) rfl) G.aH G.kz Ol (hr.mono (by decide)) G.lu .nil ay ((pv 1)∣aa)) (by rfl))) aq)
    ((@mU _ _ _ _ _ _ dZ (oQ (ak (pv 0) rfl) (pv 1) ii) (by rfl) (by rfl) (by rfl))∪((aS (ar (Ct hr.units) (ax (ak (pv 0) rfl) G.aH G.cL Oo (hr.mono (by decide)) G.dL .nil ay ((pv 1)∣((@aA _ _ _ _ _ _ _ aI (jp (v:=.ref a.aP) (by rfl) G.fw rfl) (pv 2) (λ_ _=>rfl))∣aa))) ae (az _)) (dZ⁻¹) aq)∪(@iR _ _ _ _ _ (aS (ar cG (@aA _ _ _ _ _ _ _ aV (ak (pv 0) rfl) (pv 2) (λ_ _=>rfl)) am (az _)) ((@mU _ _ _ _ _ _ am (oQ (ak (pv 0) rfl) (pv 2) ii) (by rfl) (by rfl) (by rfl))∪(@ao _ _ _ (@aB _ _ _ _ (ax (ak (pv 0) rfl) G.aH G.d8 Ot (hr.mono (by decide)) G.dP .nil ay ((pv 2)∣((@aA _ _ _ _ _ _ _ aI (jp (v:=.ref a.aP) (by rfl) G.fw rfl) (pv 2) (λ_ _=>rfl))∣(ae∣aa)))) (by rfl)))) aq)
    (dZ⁻¹)))))),?_⟩
   refine⟨_,rfl,_,_,rfl,rfl,?_⟩;refine⟨λσ' H'=>σ'=[dk (.ref y.y),dk (.int (sdI b)),dk (.int (sdI (!b)))]/\KO y.own H H'/\∃ S1:YS,S1=(if q.fb then S.fence b else S)/\Yn w a.bo a.dX a.bp a.cm a.aM H' y q S1,?_,?_⟩
   . refine⟨_,rfl,gl Y.ob G.aj G.fU EI ⟨_,rfl,?_⟩⟩;cases hfb:q.fb with
    |true =>
      refine gJ ?_;refine⟨_,rfl,gl Y.ob G.aj G.aJ cN (eS Y.x.st.ob (cq (by decide +kernel) (by decide +kernel)) ⟨_,rfl,y.sa,_,_,b,rfl,Y.x.st,by have:=rl b;omega,λH2 st2 kp2=>⟨by rw[<-vO];rfl,GJ kp2,_,rfl,CL Y st2 kp2⟩⟩)⟩
    |false=>exact dY ⟨by rw[<-vO];rfl,KO.refl _ _,_,rfl,Y⟩
   . rintro σ' H1 ⟨rfl,ko1,S1,hS1,Y1⟩;refine⟨_,rfl,gl Y1.ob G.aj G.fE sx ⟨_,rfl,y.qu,_,_,jN b,rfl,rfl,Y1.qu,xq,?_⟩⟩;rw[FN];have Y2:=Y1.setQu b l' rfl;have ko2:KO y.own H (upd H1 y.qu (.lst [V.bl (aF S1.qt b l' f'),V.bl (aF S1.qt b l' l')])):=kf ko1 (qb (.inr (.inr (.inr (.inl rfl)))));generalize upd H1 y.qu (.lst [V.bl (aF S1.qt b l' f'),V.bl (aF S1.qt b l' l')])=H2 at Y2 ko2 |-;obtain⟨S2,hS2⟩:∃ S2:YS,S2={ S1 with qt:=aF S1.qt b l' }:=⟨_,rfl⟩
     rw[<-hS2]at Y2;have fS:S2.un=S.un/\S2.tk=S.tk/\S2.hs=S.hs/\(∀ c,(S2.rs c).length <= L):=by
      rw[hS2,hS1];cases q.fb with
     |true =>
       refine⟨rfl,rfl,rfl,λc=>?_⟩;show (aF S.rs b [] c).length <= _;by_cases e:c=b
       . subst e;rw[ap];exact Kq _
       . rw[aG e];exact rl c
     |false=>exact⟨rfl,rfl,rfl,rl⟩
     have yi:YI q S2 (L+2):=⟨by rw[fS.1];exact Rd.i.und,by rw[fS.2.1];exact Rd.i.tkd,λc=>by have:=fS.2.2.2 c;omega,by rw[fS.2.2.1];have:=Rd.i.hl;omega⟩
     have hrun:(Dd.bell b).run q S=(if rdC S2.m (S2.rs b) (bM (!b))≠1 then (.bool f',S2) else if S2.bd (!b)=.asleep then (.bool l',({ S2 with bd:=aF S2.bd (!b) .up }:YS).wr (!b) (.c (bM (!b)) 0)) else (.bool l',S2)):=by rw[hS2,hS1];rfl
     rw[hrun]at k;clear hrun hS2 hS1 Y1 ko1;refine⟨_,rfl,gl Y2.ob G.aj G.aJ cN (eS Y2.x.st.ob (cq (by decide +kernel) (by decide +kernel)) ⟨_,rfl,_,rfl,a.aP,_,sdI (!b),.str (bM (!b)).key,rfl,rfl,G.fF _,wA,y.sa,_,_,b,bM (!b),rfl,Y2.x.st,?_⟩)⟩;refine⟨.int (rdC S2.m (S2.rs b) (bM (!b))),.int 1,rfl,rfl,rc.int _,rc.int _,_,rfl,?_⟩;simp only[if_true];by_cases h1:rdC S2.m (S2.rs b) (bM (!b))=1
     . rw[Pb (by rw[h1];exact λz=>z rfl)]at k;refine cT ?_ ?_
       . rw[h1];decide +kernel
       refine⟨λσ' H'=>σ'=[dk (.ref y.y),dk (.int (sdI b)),dk (.int (sdI (!b)))]/\Q (.bl l') H',?_,?_⟩
       . refine⟨_,rfl,gl Y2.ob G.aj G.aN bO ⟨_,rfl,y.sl,_,_,_,rfl,rfl,SqL.of Y2.sl,Ab (!b),rfl,_,rfl,?_⟩⟩;by_cases h2:S2.bd (!b)=.asleep
         . rw[Pa h2]at k;refine iI (Pd (by rw[h2];rfl)) ?_;refine⟨_,rfl,gl Y2.ob G.aj G.aN bO ⟨_,rfl,y.sl,_,_,jN (!b),rfl,rfl,Y2.sl,xq,?_⟩⟩;rw[show (V.str "up":V)=.str (Bd.key .up) from rfl,tz];have Y3:=Y2.setSl (!b) .up rfl;have ko3:KO y.own H (upd H2 y.sl (.lst [V.str (aF S2.bd (!b) .up f').key,V.str (aF S2.bd (!b) .up l').key])):=kf ko2 (qb (.inr (.inr (.inl rfl))));generalize upd H2 y.sl (.lst [V.str (aF S2.bd (!b) .up f').key,V.str (aF S2.bd (!b) .up l').key])=H3 at Y3 ko3 |-;refine⟨_,rfl,gl Y3.ob G.aj G.aJ cN (eS Y3.x.st.ob (cq (by decide +kernel) (by decide +kernel)) ⟨_,rfl,_,rfl,a.aP,_,sdI (!b),.str (bM (!b)).key,rfl,rfl,G.fF _,wA,y.sa,_,_,!b,.str (bM (!b)).key,.int 0,.c (bM (!b)) 0,rfl,Y3.x.st,by have:=fS.2.2.2 (!b);show (S2.rs (!b)).length < _;omega,kS (zR _),rfl,trivial,λH4 st4 kp4=>⟨rfl,?_⟩⟩)⟩;have Y4:=ym Y3 st4 kp4;exact k (.bl l') H4 Y4 ⟨yi.und,yi.tkd,jB fS.2.2.2 (!b) (by show (S2.rs (!b)++[_]).length <= _;rw[IT];have:=fS.2.2.2 (!b);show _+1 <= _;omega),yi.hl⟩ rfl (kf ko3 (Gw kp4))
         . rw[Pb h2]at k;refine cT (by rw[Pc];exact EC h2) ⟨rfl,?_⟩;exact k (.bl l') H2 Y2 yi rfl ko2
       . rintro σ' H' ⟨rfl,k'⟩;exact k'
     . rw[Pa h1]at k;refine iI ?_ (k (.bl f') H2 Y2 yi rfl ko2);rw[Lb];cases z:Jm (.int (rdC S2.m (S2.rs b) (bM (!b)))) (.int 1) with
      |false=>rfl
      |true=>exact absurd (by have:=(MX.eqv_iff _ _ rfl rfl).mp z;injection this) h1
def Dr {q:YP}{S:YS}{wt:Int}(h:(Dd.ask wt).chk q S=IX):au q.p S.m (S.rs f') .asked .taken≠q.p.s/\bF q.n S.un≠IX:=by
 have h':(if S.bd f'=.up then (if au q.p S.m (S.rs f') .asked .taken=q.p.s then dk Rf.full else match bF q.n S.un with|none=>dk Rf.name|some _=>IX) else dk Rf.deed)=IX:=h;split at h'
 . split at h'
   . cases h'
   . rename_i z;refine⟨z,λy=>?_⟩;rw[y]at h';cases h'
 . cases h'
def DX {q:YP}{S:YS}{nm wt:Int}(h:(Dd.answer nm wt).chk q S=IX):S.tk.contains nm≠f'/\au q.p S.m (S.rs l') .answered .handed≠q.p.s:=by
 have h':(if S.bd l'=.up then (if S.tk.contains nm=f' then dk Rf.task else if au q.p S.m (S.rs l') .answered .handed=q.p.s then dk Rf.full else IX) else dk Rf.deed)=IX:=h;split at h'
 . split at h'
   . cases h'
   . split at h'
     . cases h'
     . rename_i z1 z2;exact⟨z1,z2⟩
 . cases h'
def yW {q:YP}{S:YS}{b:Bool}(h:(Dd.drain b).chk q S=IX):∃ x rest,S.rs b=x :: rest:=by
 cases e:S.rs b with
|cons x rest=>exact⟨x,rest,rfl⟩
|nil =>
  have h':(if S.rs b=[] then dk Rf.deed else IX)=IX:=h;rw[e]at h';cases h'
def DN (w:Jj) (ad:Ad):Sp:=λvs H Q E=>∃ (a:YA) (q:YP) (S:YS) (L:Nat) (x:Dd) (t:G'),vs=[.ref a.y,.ref t]/\Rdy w ad H a q S L/\H t=dk (.tup x.vs)/\x.Ok /\
 match x.chk q S with
|none=>Bh w ad a q (x.run q S).2 L (x.run q S).1 H Q
|some r=>∀ H',c9 H H'->E (.ref (rfC ad r)) IX H'
def sO (G:Gs K mg a d):FnOk P w K mg base (CXv P w) 10 a.fI d.fI ["self","some"] (DN w a):=by
 have O8:FnOk P w K mg base (CXv P w) 8 _ _ _ _:=ur G;have Ox:FnOk P w K mg base CX0 9 _ _ _ _:=Ci G;have Ow:FnOk P w K mg base CX0 9 _ _ _ _:=Bo G;have Oy:FnOk P w K mg base CX0 8 _ _ _ _:=An G;have Oz:FnOk P w K mg base CX0 8 _ _ _ _:=C5 G;have OA:FnOk P w K mg base CX0 8 _ _ _ _:=AQ G;have OH:FnOk P w K mg base CX0 1 _ _ _ _:=Ew G;have N2:FnOk P w K mg base CX0 7 _ _ _ _:=(xG G).imp λvs H Q E=>Cf
 have N8:FnOk P w K mg base CX0 7 _ _ _ _:=(Bg G).imp λvs H Q E=>Hk
 have Oj:FnOk P w K mg base CX0 1 _ _ _ _:=(wK G).imp λvs H Q E=>drainT
 refine G.uY.okX (k:=9) n5 (λvs H Q E h=>?_) (λcdv A' outer s' H vs Q E hr hR h=>?_)
 . obtain⟨y,q,S,L,x,t,rfl,_⟩:=h;rfl
 . obtain⟨y,q,S,L,x,t,rfl,Rd,ht,hx,k⟩:=h;have hu:=fA hr;refine⟨_,((@aB _ _ _ _ (ax (pv 0) G.aj G.lN O8 (hr.mono (by decide)) G.mW .nil hR.passes ((pv 1)∣aa)) (by rfl))∪((@b9 _ _ 2 _ _ _ _ n5.nd rfl (JJ rfl) (@aA _ _ _ _ _ _ _ aI (pv 1) ae (λ_ _=>rfl)) (by rfl) (by first|exact .inl rfl|exact .inr rfl|assumption))∪((aS (ar cG (pv 2) am (az _)) ((ax (pv 0) G.aj G.qh Ox (hr.mono (by decide)) G.sE .nil ay ((@aA _ _ _ _ _ _ _ aI (pv 1) ae (λ_ _=>rfl))∣aa))⁻¹) aq)∪((aS (ar cG (pv 2) am (az _)) ((ax (pv 0) G.aj G.fq OH (hr.mono (by decide)) G.gj .nil ay (am∣((b7 (ak (pv 0) rfl) G.bG G.pE N2 (hr.mono (by decide)) G.qi .nil ay)∣aa)))⁻¹) aq)∪((aS (ar cG (pv 2) am (az _)) ((ax (pv 0) G.aj G.fq OH (hr.mono (by decide)) G.gj .nil ay (am∣((b7 (ak (pv 0) rfl) G.bD G.rN N8 (hr.mono (by decide)) G.uJ .nil ay)∣aa)))⁻¹) aq)∪((aS (ar cG (pv 2) am (az _)) ((ax (pv 0) G.aj G.mL Ow (hr.mono (by decide)) G.nI .nil ay ((@aA _ _ _ _ _ _ _ aI (pv 1) ae (λ_ _=>rfl))∣((@aA _ _ _ _ _ _ _ aI (pv 1) ae (λ_ _=>rfl))∣aa)))⁻¹) aq)∪((aS (ar cG (pv 2) am (az _)) ((ax (pv 0) G.aj G.pB Oy (hr.mono (by decide)) G.pP .nil ay ((@aA _ _ _ _ _ _ _ aI (pv 1) ae (λ_ _=>rfl))∣aa))⁻¹) aq)∪((aS (ar cG (pv 2) am (az _)) ((ax (pv 0) G.aj G.pU Oz (hr.mono (by decide)) G.sB .nil ay ((@aA _ _ _ _ _ _ _ aI (pv 1) ae (λ_ _=>rfl))∣aa))⁻¹) aq)∪((aS (ar cG (pv 2) am (az _)) ((ax (pv 0) G.aj G.oj OA (hr.mono (by decide)) G.qa .nil ay ((@aA _ _ _ _ _ _ _ aI (pv 1) ae (λ_ _=>rfl))∣aa))⁻¹) aq)∪((ax (ak (pv 0) rfl) G.aH G.kE Oj (hr.mono (by decide)) G.lv .nil ay ((@aA _ _ _ _ _ _ _ aI (pv 1) ae (λ_ _=>rfl))∣aa))⁻¹)))))))))),?_⟩;refine⟨_,rfl,eS Rd.y.ob (dO (by decide +kernel)) ⟨_,rfl,y,q,S,x,t,rfl,Rd.y,Rd.ok,ht,hx,λH1 e1=>?_⟩⟩;cases hc:x.chk q S with
  |some r =>
    rw[hc]at k;exact k H1 e1
  |none =>
    rw[hc]at k;have Rd1:Rdy w a H1 y q S L:=⟨Rd.y.same e1,Rd.ok,Rd.i,Rd.l⟩
    have k1:Bh w a y q (x.run q S).2 L (x.run q S).1 H1 Q:=λv H' Y' i' dv ko=>k v H' Y' i' dv (kf (KO.of_same e1) ko)
    have ht1:=e1 _ _ ht;clear k ht Rd e1;refine⟨_,rfl,t,_,_,_,rfl,rfl,SqT.of ht1,by rw[x.vs_eq];exact bC,?_⟩;cases x with
   |ask wt =>
     refine⟨_,rfl,rfl,_,rfl,iI (Pd rfl) ?_⟩;obtain⟨c1,c2⟩:=Dr hc;exact⟨_,rfl,eS Rd1.y.ob (dO (by decide +kernel)) ⟨_,rfl,t,_,_,_,rfl,rfl,SqT.of ht1,rfl,y,q,S,L,wt,rfl,Rd1,c1,c2,k1⟩⟩
   |collect =>
     refine⟨_,rfl,rfl,_,rfl,cT (by rw[Pc];exact sne (show ¬ (("collect":Str)="ask") by decide +kernel)) ?_⟩;refine⟨_,rfl,rfl,_,rfl,iI (Pd rfl) ?_⟩;refine⟨_,rfl,eS Rd1.y.ob (dO (by decide +kernel)) ⟨_,rfl,gl Rd1.y.ob G.aj G.dN oA (eS Rd1.y.x.hn.ob xM ⟨y.z,y.sa,q.p,_,S.un,S.m,S.rs,rfl,Rd1.y.x.hn,Rd1.y.x.st,Rd1.ok.ok,by have:=Rd1.i.len f';have:=Rd1.l;omega,?_⟩)⟩⟩;have rl:=Rd1.i.len;have hsl:=Rd1.i.hl;have ll:=Rd1.l;unfold Dd.run at k1;by_cases h0:au q.p S.m (S.rs f') .answered .handed=0
     . rw[Pa h0]at k1 |-;exact⟨y,q,S,"handed",.non,rfl,Rd1.y,by omega,.inl ⟨rfl,k1 .non H1 Rd1.y (Rd1.i.mono (by omega)) rfl (KO.refl _ _)⟩⟩
     . rw[Pb h0]at k1 |-;have rl2:∀ c,(aF S.rs f' (S.rs f'++[d7 q.p S.m (S.rs f') .handed]) c).length <= L+2:=jB rl f' (by rw[IT];have:=rl f';show _+1 <= _;omega);cases hrd:rdP S.m (S.rs f') l' (rdC S.m (S.rs f') .handed % q.p.s) with
      |none =>
        rw[hrd]at k1;intro c H2 hc2 hn2 st2 kp2;have Y2:=Rd1.y.parts (Rd1.y.x.hand hn2 st2 kp2) kp2 qC;refine⟨y,q,_,"handed",.ref c,rfl,Y2,by show S.hs.length < _;omega,.inr ⟨c,.non,.non,.none,.none,rfl,hc2,rfl,rfl,rfl,rfl,λH3 Y3 ko3 hc3=>k1 (.ref c) H3 Y3 ⟨Rd1.i.und,Rd1.i.tkd,rl2,?_⟩ ⟨c,_,rfl,hc3,_,_,rfl,rfl,_,_,rfl,rfl,rfl⟩ (kf (KO.of_kp kp2 λc hc=>.inr (.inl (qC c hc))) ko3)⟩⟩;show (S.hs++[_]).length <= _;rw[IT];show _+1 <= _;omega
      |some nw =>
        rw[hrd]at k1;intro c H2 hc2 hn2 st2 kp2;have Y2:=Rd1.y.parts (Rd1.y.x.hand hn2 st2 kp2) kp2 qC;refine⟨y,q,_,"handed",.ref c,rfl,Y2,by show S.hs.length < _;omega,.inr ⟨c,.int nw.1,.int nw.2,.int nw.1,.int nw.2,rfl,hc2,rfl,rfl,rfl,rfl,λH3 Y3 ko3 hc3=>k1 (.ref c) H3 Y3 ⟨Rd1.i.und.filter,Rd1.i.tkd,rl2,?_⟩ (DV2 hc3) (kf (KO.of_kp kp2 λc hc=>.inr (.inl (qC c hc))) ko3)⟩⟩;show (S.hs++[_]).length <= _;rw[IT];show _+1 <= _;omega
   |take =>
     refine⟨_,rfl,rfl,_,rfl,cT (by rw[Pc];exact sne (show ¬ (("take":Str)="ask") by decide +kernel)) ?_⟩;refine⟨_,rfl,rfl,_,rfl,cT (by rw[Pc];exact sne (show ¬ (("take":Str)="collect") by decide +kernel)) ?_⟩;refine⟨_,rfl,rfl,_,rfl,iI (Pd rfl) ?_⟩;refine⟨_,rfl,eS Rd1.y.ob (dO (by decide +kernel)) ⟨_,rfl,gl Rd1.y.ob G.aj G.c7 jQ (eS Rd1.y.x.tn.ob DU ⟨y.zt,y.sa,q.p,S.tk,S.m,S.rs,rfl,Rd1.y.x.tn,Rd1.y.x.st,Rd1.ok.ok,by have:=Rd1.i.tkd.len (by omega);omega,by have:=Rd1.i.len l';have:=Rd1.l;omega,?_⟩)⟩⟩;have rl:=Rd1.i.len;have hsl:=Rd1.i.hl;have ll:=Rd1.l;unfold Dd.run at k1;by_cases h0:au q.p S.m (S.rs l') .asked .taken=0
     . rw[Pa h0]at k1 |-;exact⟨y,q,S,"taken",.non,rfl,Rd1.y,by omega,.inl ⟨rfl,k1 .non H1 Rd1.y (Rd1.i.mono (by omega)) rfl (KO.refl _ _)⟩⟩
     . rw[Pb h0]at k1 |-;have rl2:∀ c,(aF S.rs l' (S.rs l'++[d7 q.p S.m (S.rs l') .taken]) c).length <= L+2:=jB rl l' (by rw[IT];have:=rl l';show _+1 <= _;omega);cases hrd:rdP S.m (S.rs l') f' (rdC S.m (S.rs l') .taken % q.p.s) with
      |none =>
        rw[hrd]at k1;intro c H2 hc2 tn2 st2 kp2;have Y2:=Rd1.y.parts (Rd1.y.x.heart tn2 st2 kp2) kp2 qW;refine⟨y,q,_,"taken",.ref c,rfl,Y2,by show S.hs.length < _;omega,.inr ⟨c,.non,.non,.none,.none,rfl,hc2,rfl,rfl,rfl,rfl,λH3 Y3 ko3 hc3=>k1 (.ref c) H3 Y3 ⟨Rd1.i.und,Rd1.i.tkd,rl2,?_⟩ ⟨c,_,rfl,hc3,_,_,rfl,rfl,_,_,rfl,rfl,rfl⟩ (kf (KO.of_kp kp2 λc hc=>.inr (.inl (qW c hc))) ko3)⟩⟩;show (S.hs++[_]).length <= _;rw[IT];show _+1 <= _;omega
      |some nw =>
        rw[hrd]at k1;intro c H2 hc2 tn2 st2 kp2;have Y2:=Rd1.y.parts (Rd1.y.x.heart tn2 st2 kp2) kp2 qW;have nok:0 <= nw.1/\nw.1 < 9:=Rd1.y.x.st.names hrd;refine⟨y,q,_,"taken",.ref c,rfl,Y2,by show S.hs.length < _;omega,.inr ⟨c,.int nw.1,.int nw.2,.int nw.1,.int nw.2,rfl,hc2,rfl,rfl,rfl,rfl,λH3 Y3 ko3 hc3=>k1 (.ref c) H3 Y3 ⟨Rd1.i.und,Rd1.i.tkd.next nok,rl2,?_⟩ (DV2 hc3) (kf (KO.of_kp kp2 λc hc=>.inr (.inl (qW c hc))) ko3)⟩⟩;show (S.hs++[_]).length <= _;rw[IT];show _+1 <= _;omega
   |answer nm wt =>
     refine⟨_,rfl,rfl,_,rfl,cT (by rw[Pc];exact sne (show ¬ (("answer":Str)="ask") by decide +kernel)) ?_⟩;refine⟨_,rfl,rfl,_,rfl,cT (by rw[Pc];exact sne (show ¬ (("answer":Str)="collect") by decide +kernel)) ?_⟩;refine⟨_,rfl,rfl,_,rfl,cT (by rw[Pc];exact sne (show ¬ (("answer":Str)="take") by decide +kernel)) ?_⟩;refine⟨_,rfl,rfl,_,rfl,iI (Pd rfl) ?_⟩;obtain⟨c1,c2⟩:=DX hc;exact⟨_,rfl,eS Rd1.y.ob (dO (by decide +kernel)) ⟨_,rfl,t,_,_,_,rfl,rfl,SqT.of ht1,rfl,_,rfl,t,_,_,_,rfl,rfl,SqT.of ht1,rfl,y,q,S,L,nm,wt,rfl,Rd1,c1,c2,k1⟩⟩
   |bell b =>
     refine⟨_,rfl,rfl,_,rfl,cT (by rw[Pc];exact sne (show ¬ (("bell":Str)="ask") by decide +kernel)) ?_⟩;refine⟨_,rfl,rfl,_,rfl,cT (by rw[Pc];exact sne (show ¬ (("bell":Str)="collect") by decide +kernel)) ?_⟩;refine⟨_,rfl,rfl,_,rfl,cT (by rw[Pc];exact sne (show ¬ (("bell":Str)="take") by decide +kernel)) ?_⟩;refine⟨_,rfl,rfl,_,rfl,cT (by rw[Pc];exact sne (show ¬ (("bell":Str)="answer") by decide +kernel)) ?_⟩;refine⟨_,rfl,rfl,_,rfl,iI (Pd rfl) ?_⟩;exact⟨_,rfl,eS Rd1.y.ob (dO (by decide +kernel)) ⟨_,rfl,t,_,_,_,rfl,rfl,SqT.of ht1,rfl,y,q,S,L,b,rfl,Rd1,k1⟩⟩
   |lie b =>
     refine⟨_,rfl,rfl,_,rfl,cT (by rw[Pc];exact sne (show ¬ (("lie":Str)="ask") by decide +kernel)) ?_⟩;refine⟨_,rfl,rfl,_,rfl,cT (by rw[Pc];exact sne (show ¬ (("lie":Str)="collect") by decide +kernel)) ?_⟩;refine⟨_,rfl,rfl,_,rfl,cT (by rw[Pc];exact sne (show ¬ (("lie":Str)="take") by decide +kernel)) ?_⟩;refine⟨_,rfl,rfl,_,rfl,cT (by rw[Pc];exact sne (show ¬ (("lie":Str)="answer") by decide +kernel)) ?_⟩;refine⟨_,rfl,rfl,_,rfl,cT (by rw[Pc];exact sne (show ¬ (("lie":Str)="bell") by decide +kernel)) ?_⟩;refine⟨_,rfl,rfl,_,rfl,iI (Pd rfl) ?_⟩;exact⟨_,rfl,eS Rd1.y.ob (dO (by decide +kernel)) ⟨_,rfl,t,_,_,_,rfl,rfl,SqT.of ht1,rfl,y,q,S,L,b,rfl,Rd1,k1⟩⟩
   |look b =>
     refine⟨_,rfl,rfl,_,rfl,cT (by rw[Pc];exact sne (show ¬ (("look":Str)="ask") by decide +kernel)) ?_⟩;refine⟨_,rfl,rfl,_,rfl,cT (by rw[Pc];exact sne (show ¬ (("look":Str)="collect") by decide +kernel)) ?_⟩;refine⟨_,rfl,rfl,_,rfl,cT (by rw[Pc];exact sne (show ¬ (("look":Str)="take") by decide +kernel)) ?_⟩;refine⟨_,rfl,rfl,_,rfl,cT (by rw[Pc];exact sne (show ¬ (("look":Str)="answer") by decide +kernel)) ?_⟩;refine⟨_,rfl,rfl,_,rfl,cT (by rw[Pc];exact sne (show ¬ (("look":Str)="bell") by decide +kernel)) ?_⟩;refine⟨_,rfl,rfl,_,rfl,cT (by rw[Pc];exact sne (show ¬ (("look":Str)="lie") by decide +kernel)) ?_⟩;refine⟨_,rfl,rfl,_,rfl,iI (Pd rfl) ?_⟩;exact⟨_,rfl,eS Rd1.y.ob (dO (by decide +kernel)) ⟨_,rfl,t,_,_,_,rfl,rfl,SqT.of ht1,rfl,y,q,S,L,b,rfl,Rd1,k1⟩⟩
   |drain b =>
     refine⟨_,rfl,rfl,_,rfl,cT (by rw[Pc];exact sne (show ¬ (("drain":Str)="ask") by decide +kernel)) ?_⟩;refine⟨_,rfl,rfl,_,rfl,cT (by rw[Pc];exact sne (show ¬ (("drain":Str)="collect") by decide +kernel)) ?_⟩;refine⟨_,rfl,rfl,_,rfl,cT (by rw[Pc];exact sne (show ¬ (("drain":Str)="take") by decide +kernel)) ?_⟩;refine⟨_,rfl,rfl,_,rfl,cT (by rw[Pc];exact sne (show ¬ (("drain":Str)="answer") by decide +kernel)) ?_⟩;refine⟨_,rfl,rfl,_,rfl,cT (by rw[Pc];exact sne (show ¬ (("drain":Str)="bell") by decide +kernel)) ?_⟩;refine⟨_,rfl,rfl,_,rfl,cT (by rw[Pc];exact sne (show ¬ (("drain":Str)="lie") by decide +kernel)) ?_⟩;refine⟨_,rfl,rfl,_,rfl,cT (by rw[Pc];exact sne (show ¬ (("drain":Str)="look") by decide +kernel)) ?_⟩;obtain⟨x,rest,hb⟩:=yW hc;have rl:=Rd1.i.len;have k2:Bh w a y q { S with m:=S.m.put x,rs:=aF S.rs b rest } L .none H1 Q:=by
      have e:(Dd.drain b).run q S=(.none,{ S with m:=S.m.put x,rs:=aF S.rs b rest }):=by
       show (match S.rs b with|x :: rest=>_|[]=>_)=_;rw[hb]
      rw[e]at k1;exact k1
     refine⟨_,rfl,gl Rd1.y.ob G.aj G.aJ cN (eS Rd1.y.x.st.ob (cq (by decide +kernel) (by decide +kernel)) ⟨_,rfl,t,_,_,_,rfl,rfl,SqT.of ht1,rfl,y.sa,S.m,S.rs,b,x,rest,rfl,Rd1.y.x.st,hb,λH2 st2 kp2=>?_⟩)⟩;refine k2 .non H2 (Rd1.y.parts (Rd1.y.x.store st2 kp2) kp2 uw) ⟨Rd1.i.und,Rd1.i.tkd,jB rl b (by have:=rl b;rw[hb,JH]at this;omega),by have:=Rd1.i.hl;show S.hs.length <= _;omega⟩ rfl (GJ kp2)
def BF:Sp:=λvs H Q _=>∃ (b:G') (ns:List Int) (m:Nat),vs=[.ref b,.int m]/\H b=dk (.lst (ns.map V.int))/\ns.length <= 63/\∀ (p:G') (cs:List Int) (H':Hp),c9 H H'->H p=IX->H' p=dk (.lst (cs.map V.int))->cs.length <= m->(∀ c∈cs,0 <= c/\c < 1000000)->Q (.ref p) H'
def e6p:(10:Int) ^ (6:Int).toNat=1000000:=by decide
def IB {r:Int}{n:Nat}(h0:0 < r) (h1:r < 1000000 ^ n):∃ m,n=m+1/\0 <= r / 1000000/\r / 1000000 < 1000000 ^ m:=by
 cases n with
|zero=>rw[Int.pow_zero]at h1;omega
|succ m =>
  refine⟨m,rfl,by omega,?_⟩;rw[Int.pow_succ]at h1;exact Int.ediv_lt_of_lt_mul (by decide) h1
def DL {cs:List Int}{c:Int}:(cs.map V.int)++[V.int c]=(cs++[c]).map V.int:=by rw[J3];rfl
def D7 {cs:List Int}{r:Int}(h:∀ c∈cs,0 <= c/\c < 1000000):∀ c∈cs++[r % 1000000],0 <= c/\c < 1000000:=λc hc=>by
 rcases JB.mp hc with y|y
 . exact h c y
 . rw[IW.mp y];exact⟨KJ _ (by decide),Kd _ (by decide)⟩
def B8 (G:Gs K mg a d):FnOk P w K mg base CX0 1 a.fL d.fL ["cells","most"] BF:=by
 refine G.oZ.ok dM (λvs H Q E h=>?_) (λcdv A' outer s' H vs Q E hr h=>?_)
 . obtain⟨b,ns,m,rfl,_⟩:=h;rfl
 . obtain⟨b,ns,m,rfl,hb,hl,k⟩:=h;refine⟨_,((@b9 _ _ 2 _ _ _ _ dM.nd rfl (JJ rfl) (@eg _ _ _ _ aa) (by rfl) (by first|exact .inl rfl|exact .inr rfl|assumption))∪((hZ JS rfl (jD (pv 0)) (bU (i:=3) dM.nd rfl (JJ rfl)) ((@b9 _ _ 4 _ _ _ _ dM.nd rfl (JJ rfl) (@aU _ _ _ _ _ _ _ _ bV (pv 3) (@aU _ _ _ _ _ _ _ _ kq ae ae)) (by rfl) (by first|exact .inl rfl|exact .inr rfl|assumption))∪((@aB _ _ _ _ (@l8 _ _ _ _ _ _ _ _ _ _ _ _ JF Kg PySem.F.type_list_append dR (pv 2) ((@aU _ _ _ _ _ _ _ _ bV (pv 4) (@aU _ _ _ _ _ _ _ _ kq ae ae))∣aa) (by rfl) (by rfl) (by rfl) (by rfl) (by rfl)) (by rfl))∪((@b9 _ _ 4 _ _ _ _ dM.nd rfl (JJ rfl) (@aU _ _ _ _ _ _ _ _ cj (pv 4) (@aU _ _ _ _ _ _ _ _ kq ae ae)) (by rfl) (by first|exact .inl rfl|exact .inr rfl|assumption))∪(@ao _ _ _ (nO JS (ar Ej (pv 4) ae (az _)) ((@aB _ _ _ _ (@l8 _ _ _ _ _ _ _ _ _ _ _ _ JF Kg PySem.F.type_list_append dR (pv 2) ((@aU _ _ _ _ _ _ _ _ bV (pv 4) (@aU _ _ _ _ _ _ _ _ kq ae ae))∣aa) (by rfl) (by rfl) (by rfl) (by rfl) (by rfl)) (by rfl))∪(@ao _ _ _ (@b9 _ _ 4 _ _ _ _ dM.nd rfl (JJ rfl) (@aU _ _ _ _ _ _ _ _ cj (pv 4) (@aU _ _ _ _ _ _ _ _ kq ae ae)) (by rfl) (by first|exact .inl rfl|exact .inr rfl|assumption))))))))))∪((nY AR (pv 2) rW (rO (pv 1)))⁻¹))),?_⟩;refine⟨p9,λp hp=>?_⟩;have e1:=ah (o:=.lst []) hp;have v1:upd H p (.lst []) p=dk (.lst (([]:List Int).map V.int)):=a8;generalize upd H p (.lst [])=H1 at e1 v1 |-;have nb:b≠p:=λz=>by rw[z,hp]at hb;cases hb
   refine⟨_,rfl,b,rfl,⟨_,SqL.of (e1 _ _ hb)⟩,?_⟩;refine nS (K:=K) (a:=b) (xs:=ns.map V.int) (λi σ H2=>∃ (cs:List Int),(∃ v3 v4,σ=[dk (.ref b),dk (.int m),dk (.ref p),v3,v4])/\cs.length <= 10 * i/\(∀ c∈cs,0 <= c/\c < 1000000)/\H2 p=dk (.lst (cs.map V.int))/\(∀ c o,c≠p->H1 c=dk o->H2 c=dk o))
    ⟨[],⟨_,_,rfl⟩,Jd _,(λ_ z=>absurd z JW),v1,λ_ _ _ e=>e⟩ (λ_ _ _ _ uq18=>by(obtain⟨_,_,_,_,_,z⟩:=uq18;exact SqL.of (z _ _ nb (e1 _ _ hb)))) ?_ ?_
   . rintro i x σ H2 hi ⟨cs,⟨v3,v4,rfl⟩,cl,cok,v2,k2⟩;have hi6:i < 63:=by have:=(Jp.mp hi).1;rw[Jk]at this;omega
     obtain⟨c,rfl⟩:∃ c,x=.int c:=by
      rw[JX]at hi;cases e:ns[i]? with
     |none=>rw[e]at hi;cases hi
     |some c=>rw[e]at hi;cases hi;exact⟨c,rfl⟩
     refine⟨_,rfl,_,_,rfl,rfl,⟨by decide,by decide,by decide⟩,_,_,rfl,rfl,by show (0:Int) < 10 ^ (60:Int).toNat;decide,?_⟩;obtain⟨r0,hr0⟩:∃ r0,r0=c % 10 ^ (60:Int).toNat:=⟨_,rfl⟩
     have r0n:0 <= r0:=by rw[hr0];exact KJ _ (by decide)
     have r0l:r0 < 1000000 ^ 10:=by rw[hr0];exact Kd _ (by decide)
     show kF 4 (V.int (c % 10 ^ (60:Int).toNat)) _ _ _;rw[<-hr0];refine⟨_,rfl,.inl ⟨rfl,_,SqL.of v2⟩,_,rfl,_,_,rfl,rfl,⟨by decide,by decide,by decide⟩,_,_,rfl,rfl,by show (0:Int) < 10 ^ (6:Int).toNat;decide,p,_,_,rfl,rfl,v2,Jf (show _ < 1000 by rw[Jk];omega) (by decide),?_⟩;refine⟨_,rfl,_,_,rfl,rfl,⟨by decide,by decide,by decide⟩,_,_,rfl,rfl,by rw[e6p];exact⟨by decide,by decide⟩,?_⟩;refine⟨λn σ H3=>∃ (cs:List Int) (r:Int),σ=[dk (.ref b),dk (.int m),dk (.ref p),dk (.int c),dk (.int r)]/\0 <= r/\r < 1000000 ^ n/\cs.length+n <= 10 * (i+1)/\(∀ c∈cs,0 <= c/\c < 1000000)/\H3 p=dk (.lst (cs.map V.int))/\(∀ c o,c≠p->H1 c=dk o->H3 c=dk o),
      ⟨9,cs++[r0 % 1000000],r0 / 1000000,by rw[<-e6p];rfl,by omega,Int.ediv_lt_of_lt_mul (by decide) (Int.lt_of_lt_of_le r0l (by decide)),by rw[IT];show _+1+9 <= _;omega,D7 cok,by rw[a8,<-DL,<-e6p],λc o n e=>by rw[ac n];exact k2 c o n e⟩,?_⟩
     rintro n σ H3 ⟨cs3,r,rfl,rn,rl,cl3,cok3,v3,k3⟩;refine⟨_,rfl,_,_,rfl,rfl,_,rfl,?_⟩;refine yj (λhgo=>?_) (λhstop=>?_)
     . have hr:0 < r:=of_decide_eq_true hgo;obtain⟨n',rfl,q0,q1⟩:=IB hr rl;refine⟨_,λσ' H' z=>z,?_⟩;refine⟨_,rfl,.inl ⟨rfl,_,SqL.of v3⟩,_,rfl,_,_,rfl,rfl,⟨by decide,by decide,by decide⟩,_,_,rfl,rfl,by show (0:Int) < 10 ^ (6:Int).toNat;decide,p,_,_,rfl,rfl,v3,Jf (show _ < 1000 by rw[Jk];omega) (by decide),?_⟩;refine⟨_,rfl,_,_,rfl,rfl,⟨by decide,by decide,by decide⟩,_,_,rfl,rfl,by rw[e6p];exact⟨by decide,by decide⟩,?_⟩;exact⟨n',lt_succ_self _,cs3++[r % 1000000],r / 1000000,by rw[<-e6p];rfl,q0,q1,by rw[IT];show _+1+n' <= _;omega,D7 cok3,by rw[a8,<-DL,<-e6p],λc o n e=>by rw[ac n];exact k3 c o n e⟩
     . exact⟨cs3,⟨_,_,rfl⟩,by omega,cok3,v3,k3⟩
   . rintro σ H2 ⟨cs,⟨v3,v4,rfl⟩,cl,cok,v2,k2⟩;refine⟨_,rfl,_,rfl,(m:Int),rfl,p,_,rfl,SqL.of v2,λq hq=>?_⟩;have e2:c9 H H2:=λc o e=>k2 c o (ag e hp) (e1 _ _ e)
     rw[Cr,<-List.map_take];exact k q (cs.take m) _ (e2.trans (ah hq)) (bz e2 hq) a8 (by rw[JK];omega) λc hc=>cok c (List.mem_of_mem_take hc)
def zh:Sp:=λvs H Q _=>∃ c:Int,vs=[.int c]/\0 <= c/\c < 1000000/\∀ (g:Int) (H':Hp),-1000000000 <= g->g <= 1000000000->c9 H H'->Q (.int g) H'
def BQ:Sp:=λvs H Q _=>∃ (c:Int) (p:G') (ts:List Int),vs=[.int c,.ref p]/\0 <= c/\c < 1000000/\H p=dk (.lst (ts.map V.int))/\∀ (x:Dd) (t:G') (H':Hp),x.Ok->H t=IX->H' t=dk (.tup x.vs)->c9 H H'->Q (.ref t) H'
def AI (G:Gs K mg a d):FnOk P w K mg base CX0 1 a.fO d.fO ["code"] zh:=by
 refine G.kQ.ok uo (λvs H Q E h=>?_) (λcdv A' outer s' H vs Q E hr h=>?_)
 . obtain⟨c,rfl,_⟩:=h;rfl
 . obtain⟨c,rfl,c0,c1,k⟩:=h;refine⟨_,((aS (ar cG (@aU _ _ _ _ _ _ _ _ bV (pv 0) ae) ae (az _)) ((@aU _ _ _ _ _ _ _ _ oz (@aU _ _ _ _ _ _ _ _ bV (@aU _ _ _ _ _ _ _ _ cj (pv 0) ae) ae) ae)⁻¹) aq)∪((aS (ar cG (@aU _ _ _ _ _ _ _ _ bV (pv 0) ae) ae (az _)) ((@aU _ _ _ _ _ _ _ _ oz (@aU _ _ _ _ _ _ _ _ bV (@aU _ _ _ _ _ _ _ _ sY (pv 0) ae) (@aU _ _ _ _ _ _ _ _ p8 (@aU _ _ _ _ _ _ _ _ sY ae (@aU _ _ _ _ _ _ _ _ kq ae ae)) ae)) (@aU _ _ _ _ _ _ _ _ kq ae ae))⁻¹) aq)∪((@aA _ _ _ _ _ _ _ aV (@eg _ _ _ _ ((@aU _ _ _ _ _ _ _ _ kq ae ae)∣((Go Dh (@aU _ _ _ _ _ _ _ _ kq ae ae))∣(ae∣(ae∣aa))))) (@aU _ _ _ _ _ _ _ _ bV (@aU _ _ _ _ _ _ _ _ cj (pv 0) ae) ae) (λ_ _=>rfl))⁻¹))),?_⟩;have e9:(10:Int) ^ (9:Int).toNat=1000000000:=by decide
   refine⟨_,rfl,_,_,rfl,rfl,(show (0:Int) < 3 from by decide),rfl,_,rfl,?_⟩;refine yj (λ_=>?_) (λ_=>?_)
   . refine⟨_,rfl,_,_,rfl,rfl,⟨by decide,by decide⟩,_,_,rfl,rfl,(show (0:Int) < 9 from by decide),_,_,rfl,rfl,?_⟩;exact k _ _ (by show -1000000000 <= c / 3 % 9 - 4;omega) (by show c / 3 % 9 - 4 <= _;omega) λ_ _ e=>e
   . refine⟨_,rfl,_,_,rfl,rfl,(show (0:Int) < 3 from by decide),rfl,_,rfl,?_⟩;refine yj (λ_=>?_) (λ_=>?_)
     . refine⟨_,rfl,_,_,rfl,rfl,oa c0 (by omega),?_⟩;refine⟨_,_,rfl,rfl,⟨by decide,by decide,by decide⟩,_,_,rfl,rfl,oa (by decide) (by decide),_,_,rfl,rfl,_,_,rfl,rfl,by show (0:Int) < 2 * 10 ^ (9:Int).toNat+1;decide,_,_,rfl,rfl,⟨by decide,by decide,by decide⟩,_,_,rfl,rfl,?_⟩;have f0:=KJ (c * 2001) (show (2 * 10 ^ (9:Int).toNat+1:Int)≠0 by decide);have f1:=Kd (c * 2001) (show (0:Int) < 2 * 10 ^ (9:Int).toNat+1 by decide);rw[e9]at f0 f1;exact k _ _ (by show _ <= c * 2001 % (2 * 10 ^ (9:Int).toNat+1) - 10 ^ (9:Int).toNat;rw[e9];omega) (by show c * 2001 % (2 * 10 ^ (9:Int).toNat+1) - 10 ^ (9:Int).toNat <= _;rw[e9];omega) λ_ _ e=>e
     . refine⟨_,_,rfl,rfl,⟨by decide,by decide,by decide⟩,_,_,rfl,rfl,⟨by decide,by decide,by decide⟩,_,rfl,(by show 4 <= Je;decide),λp hp=>?_⟩;refine⟨_,rfl,_,_,rfl,rfl,⟨by decide,by decide⟩,_,_,rfl,rfl,(show (0:Int) < 4 from by decide),?_⟩;have g0:=KJ (c / 3) (show (4:Int)≠0 by decide);have g1:=Kd (c / 3) (show (0:Int) < 4 by decide);obtain⟨v,hv,v0,v1⟩:∃ v:Int,atI [V.int (10 ^ (9:Int).toNat),V.int (-(10 ^ (9:Int).toNat)),V.int 0,V.int 1] (c / 3 % 4)=dk (.int v)/\-1000000000 <= v/\v <= 1000000000:=by
        have:c / 3 % 4=0\/c / 3 % 4=1\/c / 3 % 4=2\/c / 3 % 4=3:=by omega
        rcases this with h|h|h|h<;>rw[h]
        . exact⟨_,rfl,by rw[e9];omega,by rw[e9];omega⟩
        . exact⟨_,rfl,by rw[e9];omega,by rw[e9];omega⟩
        . exact⟨_,rfl,by omega,by omega⟩
        . exact⟨_,rfl,by omega,by omega⟩
       exact⟨p,_,_,_,rfl,rfl,SqL.of a8,hv,k v _ v0 v1 (ah hp)⟩
def w9 {g:Int}(h0:0 <= g) (h1:g < 9):∃ wd:Str,atI [V.str "ask",V.str "ask",V.str "ask",V.str "collect",V.str "collect",V.str "take",V.str "take",V.str "answer",V.str "answer"] g=dk (.str wd)/\(wd="ask"\/wd="collect"\/wd="take"\/wd="answer"):=by
 have:g=0\/g=1\/g=2\/g=3\/g=4\/g=5\/g=6\/g=7\/g=8:=by omega
 rcases this with rfl|rfl|rfl|rfl|rfl|rfl|rfl|rfl|rfl
 . exact⟨_,rfl,.inl rfl⟩
 . exact⟨_,rfl,.inl rfl⟩
 . exact⟨_,rfl,.inl rfl⟩
 . exact⟨_,rfl,.inr (.inl rfl)⟩
 . exact⟨_,rfl,.inr (.inl rfl)⟩
 . exact⟨_,rfl,.inr (.inr (.inl rfl))⟩
 . exact⟨_,rfl,.inr (.inr (.inl rfl))⟩
 . exact⟨_,rfl,.inr (.inr (.inr rfl))⟩
 . exact⟨_,rfl,.inr (.inr (.inr rfl))⟩
def w7 {g:Int}(h0:0 <= g) (h1:g < 7) (b:Bool):∃ (wd:Str) (x:Dd),atI [V.str "bell",V.str "bell",V.str "lie",V.str "look",V.str "drain",V.str "drain",V.str "drain"] g=dk (.str wd)/\x.vs=[.str wd,.int (sdI b)]/\x.Ok:=by
 have:g=0\/g=1\/g=2\/g=3\/g=4\/g=5\/g=6:=by omega
 rcases this with rfl|rfl|rfl|rfl|rfl|rfl|rfl
 . exact⟨_,.bell b,rfl,rfl,trivial⟩
 . exact⟨_,.bell b,rfl,rfl,trivial⟩
 . exact⟨_,.lie b,rfl,rfl,trivial⟩
 . exact⟨_,.look b,rfl,rfl,trivial⟩
 . exact⟨_,.drain b,rfl,rfl,trivial⟩
 . exact⟨_,.drain b,rfl,rfl,trivial⟩
 . exact⟨_,.drain b,rfl,rfl,trivial⟩
def G9 {g:Int}:∃ b,g % 2=sdI b:=by
 have:=KJ g (show (2:Int)≠0 by decide);have:=Kd g (show (0:Int) < 2 by decide);by_cases h:g % 2=0
 . exact⟨f',h⟩
 . exact⟨l',by show g % 2=1;omega⟩
def Bj (G:Gs K mg a d):FnOk P w K mg base CX0 2 a.iA d.iA ["code","tasks"] BQ:=by
 have OY:FnOk P w K mg base CX0 1 _ _ _ _:=AI G;refine G.qG.ok gg (λvs H Q E h=>?_) (λcdv A' outer s' H vs Q E hr h=>?_)
 . obtain⟨c,p,ts,rfl,_⟩:=h;rfl
 . obtain⟨c,p,ts,rfl,c0,c1,hp,k⟩:=h;have hu:=fA hr;refine⟨_,((@b9 _ _ 2 _ _ _ _ gg.nd rfl (JJ rfl) (@aA _ _ _ _ _ _ _ aV (@eg _ _ _ _ (am∣(am∣(am∣(am∣(am∣(am∣(am∣(am∣(am∣aa)))))))))) (@aU _ _ _ _ _ _ _ _ bV (@aU _ _ _ _ _ _ _ _ bV (pv 0) ae) ae) (λ_ _=>rfl)) (by rfl) (by first|exact .inl rfl|exact .inr rfl|assumption))∪((@b9 _ _ 3 _ _ _ _ gg.nd rfl (JJ rfl) (@aU _ _ _ _ _ _ _ _ bV (@aU _ _ _ _ _ _ _ _ cj (pv 0) ae) ae) (by rfl) (by first|exact .inl rfl|exact .inr rfl|assumption))∪((aS (ar Ej (@aU _ _ _ _ _ _ _ _ bV (pv 0) ae) ae (az _)) ((@b8 _ _ _ _ _ ((@aA _ _ _ _ _ _ _ aV (@eg _ _ _ _ (am∣(am∣(am∣(am∣(am∣(am∣(am∣aa)))))))) (@aU _ _ _ _ _ _ _ _ oz (@aU _ _ _ _ _ _ _ _ bV (pv 0) ae) ae) (λ_ _=>rfl))∣((pv 3)∣aa)))⁻¹) aq)∪((aS (ar cG (pv 2) am (az _)) ((@b8 _ _ _ _ _ ((pv 2)∣((aR OY (hr.mono (by decide)) (by rfl) G.pI G.kQ.kp G.oG .nil ay ((@aU _ _ _ _ _ _ _ _ cj (pv 0) ae)∣aa))∣aa)))⁻¹) aq)∪((aS (ar oO (pv 2) am (az _)) ((@b8 _ _ _ _ _ ((pv 2)∣aa))⁻¹) aq)∪((@b9 _ _ 4 _ _ _ _ gg.nd rfl (JJ rfl) (@aU _ _ _ _ _ _ _ _ bV (@aU _ _ _ _ _ _ _ _ cj (pv 0) ae) ae) (by rfl) (by first|exact .inl rfl|exact .inr rfl|assumption))∪(@iR _ _ _ _ _ (aS (ar (wS hr.units) (pv 1) (@eg _ _ _ _ aa) (az _)) (@ao _ _ _ (@b9 _ _ 4 _ _ _ _ gg.nd rfl (JJ rfl) (@aA _ _ _ _ _ _ _ aV (pv 1) (@aU _ _ _ _ _ _ _ _ bV (@aU _ _ _ _ _ _ _ _ cj (pv 0) ae) (aK bh (by rfl) G.lm gv ((pv 1)∣aa))) (λ_ _=>rfl)) (by rfl) (by first|exact .inl rfl|exact .inr rfl|assumption))) aq)
    ((@b8 _ _ _ _ _ ((pv 2)∣((pv 4)∣((aR OY (hr.mono (by decide)) (by rfl) G.pI G.kQ.kp G.oG .nil ay ((@aU _ _ _ _ _ _ _ _ cj (pv 0) ae)∣aa))∣aa))))⁻¹)))))))),?_⟩
   have n0:=KJ c (show (16:Int)≠0 by decide);have n1:=Kd c (show (0:Int) < 16 by decide);refine⟨by show 9 <= Je;decide,λq hq=>⟨_,rfl,_,_,rfl,rfl,(show (0:Int) < 16 from by decide),_,_,rfl,rfl,(show (0:Int) < 9 from by decide),?_⟩⟩;obtain⟨wd,hwd,wdc⟩:=w9 (KJ (c % 16) (show (9:Int)≠0 by decide)) (Kd (c % 16) (show (0:Int) < 9 by decide));refine⟨q,_,_,_,rfl,rfl,SqL.of a8,hwd,?_⟩;have e1:=ah (o:=.lst [V.str "ask",V.str "ask",V.str "ask",V.str "collect",V.str "collect",V.str "take",V.str "take",V.str "answer",V.str "answer"]) hq;generalize upd H q (.lst [V.str "ask",V.str "ask",V.str "ask",V.str "collect",V.str "collect",V.str "take",V.str "take",V.str "answer",V.str "answer"])=H1 at e1 |-;refine⟨_,rfl,_,_,rfl,rfl,⟨by decide,by decide⟩,_,_,rfl,rfl,(show (0:Int) < 2 from by decide),?_⟩;obtain⟨b,hb⟩:=G9 (g:=c / 16);refine⟨_,rfl,_,_,rfl,rfl,(show (0:Int) < 16 from by decide),_,_,rfl,rfl,_,rfl,?_⟩;have c16:0 <= c / 16/\c / 16 < 1000000:=⟨by omega,by omega⟩
   refine yj (λhg=>?_) (λ_=>?_)
   . have hg:8 < c % 16:=of_decide_eq_true hg;refine⟨by show 7 <= Je;decide,λq2 hq2=>⟨_,rfl,_,_,rfl,rfl,(show (0:Int) < 16 from by decide),_,_,rfl,rfl,?_⟩⟩;obtain⟨wd2,x,hw2,xv,xo⟩:=w7 (g:=c % 16 - 9) (by omega) (by omega) b;refine⟨q2,_,_,_,rfl,rfl,SqL.of a8,hw2,_,rfl,l2,λt ht=>?_⟩;have e2:=ah (o:=.lst [V.str "bell",V.str "bell",V.str "lie",V.str "look",V.str "drain",V.str "drain",V.str "drain"]) hq2;exact k x t _ xo (bz (e1.trans e2) ht) (by rw[a8,xv,<-hb]) ((e1.trans e2).trans (ah ht))
   refine⟨_,rfl,rfl,_,rfl,?_⟩;refine yj (λhg=>?_) (λhn1=>?_)
   . have hg:wd="ask":=by have:=of_decide_eq_true hg;injection this
     refine⟨_,rfl,_,rfl,_,_,rfl,rfl,⟨by decide,by decide⟩,c / 16,rfl,c16.1,c16.2,λg H2 g0 g1 e2=>⟨l2,λt ht=>?_⟩⟩;exact k (.ask g) t _ ⟨g0,g1⟩ (bz (e1.trans e2) ht) (by rw[a8,hg];rfl) ((e1.trans e2).trans (ah ht))
   have hn1:wd≠"ask":=λz=>hn1 (Pd (by rw[z]))
   refine⟨_,rfl,rfl,_,rfl,?_⟩;refine yj (λhg=>?_) (λhn2=>?_)
   . have hg:wd≠"answer":=λz=>by rw[z]at hg;exact absurd hg (by decide +kernel)
     refine⟨_,rfl,by show 1 <= Je;decide,λt ht=>?_⟩;rcases wdc with z|z|z|z
     . exact absurd z hn1
     . exact k .collect t _ trivial (bz e1 ht) (by rw[a8,z];rfl) (e1.trans (ah ht))
     . exact k .take t _ trivial (bz e1 ht) (by rw[a8,z];rfl) (e1.trans (ah ht))
     . exact absurd z hg
   have hn2:wd="answer":=by
    have:=Bool.eq_false_iff.mpr hn2;rw[Bool.not_eq_false',Pc]at this;injection this
   subst hn2;refine⟨_,rfl,_,_,rfl,rfl,⟨by decide,by decide⟩,_,_,rfl,rfl,(show (0:Int) < 10 from by decide),?_⟩;refine⟨λσ' H'=>∃ nm:Int,σ'=[dk (.int c),dk (.ref p),dk (.str "answer"),dk (.int (c / 16 % 2)),dk (.int nm)]/\c9 H1 H',?_,?_⟩
   . refine⟨_,rfl,p9,λq3 hq3=>?_⟩;have e3:=ah (o:=.lst []) hq3;refine⟨p,q3,_,rfl,rfl,SqL.of (e3 _ _ (e1 _ _ hp)),SqL.of a8,_,rfl,?_⟩;refine yj (λhg=>?_) (λ_=>⟨_,rfl,e3⟩);have tl:0 < (ts.length:Int):=by
      cases ts with
     |nil=>exact absurd hg (by decide)
     |cons y ys=>rw[JH];omega
     refine⟨_,rfl,_,rfl,_,_,rfl,rfl,⟨by decide,by decide⟩,_,rfl,p,_,rfl,.inl (SqL.of (e3 _ _ (e1 _ _ hp))),_,_,rfl,rfl,by rw[Jk];exact tl,?_⟩;have i0:=KJ (c / 32) (show (ts.length:Int)≠0 by omega);have i1:=Kd (c / 32) tl;obtain⟨v,hv,hm⟩:=Ho (xs:=ts.map V.int) i0 (by rw[Jk];exact i1);obtain⟨nm,_,rfl⟩:=Kr.mp hm;exact⟨p,_,_,_,rfl,rfl,SqL.of (e3 _ _ (e1 _ _ hp)),by show atI _ (c / 32 % ((ts.map V.int).length:Int))=_;rw[Jk];exact hv,nm,rfl,e3⟩
   . rintro σ' H2 ⟨nm,rfl,e2⟩;refine⟨_,rfl,_,rfl,_,rfl,_,_,rfl,rfl,⟨by decide,by decide⟩,c / 16,rfl,c16.1,c16.2,λg H3 g0 g1 e3=>⟨l3,λt ht=>?_⟩⟩;have e4:=(e1.trans e2).trans e3;exact k (.answer nm g) t _ ⟨g0,g1⟩ (bz e4 ht) a8 (e4.trans (ah ht))
def yp (w:Jj) (ad:Ad):Sp:=λvs H Q _=>∃ (a:YA) (q:YP) (S:YS) (L:Nat) (x:Dd) (t:G'),vs=[.ref a.y,.ref t]/\Rdy w ad H a q S L/\H t=dk (.tup x.vs)/\x.Ok /\
 ∀ (v:V) (r:G') (H':Hp),Yn w ad.bo ad.dX ad.bp ad.cm ad.aM H' a q (x.out q S).2.2->YI q (x.out q S).2.2 (L+2)->DV H' (x.out q S).2.1 v->H r=IX->H' r=dk (.tup [.str (x.out q S).1,v])->KO a.own H H'->Q (.ref r) H'
def uO (G:Gs K mg a d):FnOk P w K mg base CX0 11 a.fQ d.fQ ["yard","deed"] (yp w a):=by
 have O9:FnOk P w K mg base (CXv P w) 10 _ _ _ _:=sO G;refine G.kX.ok bW (λvs H Q E h=>?_) (λcdv A' outer s' H vs Q E hr h=>?_)
 . obtain⟨y,q,S,L,x,t,rfl,_⟩:=h;rfl
 . obtain⟨y,q,S,L,x,t,rfl,Rd,ht,hx,k⟩:=h;have hu:=fA hr;refine⟨_,((@b9 _ _ 2 _ _ _ _ bW.nd rfl (JJ rfl) eh (by rfl) (by first|exact .inl rfl|exact .inr rfl|assumption))∪((@b9 _ _ 3 _ _ _ _ bW.nd rfl (JJ rfl) am (by rfl) (by first|exact .inl rfl|exact .inr rfl|assumption))∪((De ⟨rfl,rfl,rfl⟩ (λLz R=>by exact(@ao _ _ _ (@b9 _ _ 2 _ _ _ _ bW.nd rfl (JJ rfl) (vM rfl (pv 0) G.aj G.cI O9 (hr.mono (by decide)) G.dA .nil ((pv 1)∣aa)) (by rfl) (by first|exact .inl rfl|exact .inr rfl|assumption)))) (oy ⟨rfl,rfl,rfl⟩ (by rfl) G.nT (λe=>by exact(@ao _ _ _ (@b9 _ _ 3 _ _ _ _ bW.nd rfl (JJ rfl) am (by rfl) (by first|exact .inl rfl|exact .inr rfl|assumption)))) (oy ⟨rfl,rfl,rfl⟩ (by rfl) G.yy (λe=>by exact(@ao _ _ _ (@b9 _ _ 3 _ _ _ _ bW.nd rfl (JJ rfl) am (by rfl) (by first|exact .inl rfl|exact .inr rfl|assumption)))) (oy ⟨rfl,rfl,rfl⟩ (by rfl) G.wc (λe=>by exact(@ao _ _ _ (@b9 _ _ 3 _ _ _ _ bW.nd rfl (JJ rfl) am (by rfl) (by first|exact .inl rfl|exact .inr rfl|assumption)))) (oy ⟨rfl,rfl,rfl⟩ (by rfl) G.vS (λe=>by exact(@ao _ _ _ (@b9 _ _ 3 _ _ _ _ bW.nd rfl (JJ rfl) am (by rfl) (by first|exact .inl rfl|exact .inr rfl|assumption)))) D4)))))∪((@b8 _ _ _ _ _ ((pv 3)∣((pv 2)∣aa)))⁻¹)))),?_⟩;have fl0:=G0 (q:=q) (S:=S) x;refine⟨λσ' cls H'=>σ'=[dk (.ref y.y),dk (.ref t),dk .non,dk (.str "none")]/\c9 H H'/\∃ r,x.chk q S=dk r/\cls=.ref (rfC a r),?_,?_⟩
   . refine⟨_,rfl,eS Rd.y.ob (dO (by decide +kernel)) ⟨_,rfl,y,q,S,L,x,t,rfl,Rd,ht,hx,?_⟩⟩;cases hc:x.chk q S with
    |some r=>exact λH1 e1=>⟨rfl,e1,r,rfl,rfl⟩
    |none =>
      rw[Dd.out_none hc]at k fl0;intro v H1 Y1 i1 dv1 ko1;refine⟨_,rfl,_,rfl,l2,λr hr2=>?_⟩;have e2:=ah (o:=.tup [V.str "none",v]) hr2;refine k v r _ (Y1.same e2) i1 (DV.fl (λb vs e=>e2 b _ e) fl0 dv1) ?_ a8 (kf ko1 (KO.of_same e2));cases hr0:H r with
     |none=>rfl
     |some o =>
       by_cases ho:y.own r
       . obtain⟨o',e',_⟩:=Y1.there ho;rw[e']at hr2;cases hr2
       . rw[ko1 r o ho hr0]at hr2;cases hr2
   . rintro σ' cls H1 ⟨rfl,e1,r,hc,rfl⟩;rw[Dd.out_some hc]at k;have fin:∀ (r':G'),H1 r'=IX->Q (.ref r') (upd H1 r' (.tup [V.str r.key,.non])):=λr' hr'=>by
      have e2:=ah (o:=.tup [V.str r.key,.non]) hr';exact k .non r' _ (Rd.y.same (e1.trans e2)) (Rd.i.mono (by omega)) rfl (bz e1 hr') a8 (KO.of_same (e1.trans e2))
     cases r with
    |deed=>exact⟨l',G.HF,⟨_,rfl,_,rfl,l2,fin⟩⟩
    |full=>exact⟨f',G.HD,l',G.Hy,⟨_,rfl,_,rfl,l2,fin⟩⟩
    |name=>exact⟨f',G.Gy,f',G.Ht,l',G.GI,⟨_,rfl,_,rfl,l2,fin⟩⟩
    |task=>exact⟨f',G.Hu,f',G.GD,f',G.GA,l',G.GW,⟨_,rfl,_,rfl,l2,fin⟩⟩
def zx:Sp:=λvs H Q _=>∃ (p t r:G') (ts:List Int) (x:Dd) (key:Str) (d:IV) (v:V),vs=[.ref p,.ref t,.ref r]/\H p=dk (.lst (ts.map V.int))/\H t=dk (.tup x.vs)/\H r=dk (.tup [.str key,v])/\DV H d v/\(x.ftc->Fch d)/\ts.length < 1000 /\
 ∀ H',H' p=dk (.lst ((x.aft ts key d).map V.int))->Kp [p] H H'->Q .non H'
def vG {ts:List Int}:(ts.map V.int).all pM=l':=by rw[all_eq_true];intro v hv;obtain⟨i,_,rfl⟩:=Kr.mp hv;rfl
def AB (G:Gs K mg a d):FnOk P w K mg base CX0 1 a.gf d.gf ["tasks","deed","told"] zx:=by
 refine G.oE.ok t7 (λvs H Q E h=>?_) (λcdv A' outer s' H vs Q E hr h=>?_)
 . obtain⟨p,t,r,ts,x,key,dd,v,rfl,_⟩:=h;rfl
 . obtain⟨p,t,r,ts,x,key,dd,v,rfl,hp,ht,hr1,dv,fc,tl,k⟩:=h;have hu:=fA hr;refine⟨_,((aS (ar oO (@aA _ _ _ _ _ _ _ aI (pv 2) ae (λ_ _=>rfl)) am (az _)) (@ao _ _ _ sM) aq)∪(@iR _ _ _ _ _ (aS ((mS (ar cG (@aA _ _ _ _ _ _ _ aI (pv 1) ae (λ_ _=>rfl)) am (az _)) (mS (ar jz (@aA _ _ _ _ _ _ _ aI (pv 2) ae (λ_ _=>rfl)) eh (az _)) (mS (ar jz (@aA _ _ _ _ _ _ _ aI (@aA _ _ _ _ _ _ _ aI (pv 2) ae (λ_ _=>rfl)) ae (λ_ _=>rfl)) eh (az _)) (lY (ar gp (@aA _ _ _ _ _ _ _ aI (@aA _ _ _ _ _ _ _ aI (pv 2) ae (λ_ _=>rfl)) ae (λ_ _=>rfl)) (pv 0) (by with_unfolding_all rfl))))))).pt (@ao _ _ _ (@aB _ _ _ _ (@l8 _ _ _ _ _ _ _ _ _ _ _ _ JF Kg PySem.F.type_list_append dR (pv 0) ((@aA _ _ _ _ _ _ _ aI (@aA _ _ _ _ _ _ _ aI (pv 2) ae (λ_ _=>rfl)) ae (λ_ _=>rfl))∣aa) (by rfl) (by rfl) (by rfl) (by rfl) (by rfl)) (by rfl))) aq)
    (@ao _ _ _ (aS ((mS (ar cG (@aA _ _ _ _ _ _ _ aI (pv 1) ae (λ_ _=>rfl)) am (az _)) (lY (ar gX (@aA _ _ _ _ _ _ _ aI (pv 1) ae (λ_ _=>rfl)) (pv 0) (by with_unfolding_all rfl))))).pt (@ao _ _ _ (@aB _ _ _ _ (@l8 _ _ _ _ _ _ _ _ _ _ _ _ JF PySem.F.slot_list_remove PySem.F.type_list_remove zy (pv 0) ((@aA _ _ _ _ _ _ _ aI (pv 1) ae (λ_ _=>rfl))∣aa) (by rfl) (by rfl) (by rfl) (by rfl) (by rfl)) (by rfl))) aq)))),?_⟩
   refine⟨_,rfl,r,_,_,_,rfl,rfl,SqT.of hr1,bC,rfl,_,rfl,?_⟩;by_cases hk:key="none";rotate_left
   . refine iI (by rw[Lb,decide_eq_false_iff_not];exact sne hk) ?_;exact k H (by rw[hp];unfold Dd.aft;rw[Pb hk]) (Kp.refl _ _)
   subst hk;refine cT (by rw[Pd rfl];exact λz=>by cases z) ?_;have npr:p≠r:=λz=>by rw[z,hr1]at hp;cases hp
   have npt:p≠t:=λz=>by rw[z,ht]at hp;cases hp
   refine⟨λσ' H'=>σ'=[dk (.ref p),dk (.ref t),dk (.ref r)]/\Kp [p] H H'/\∃ l1:List Int,H' p=dk (.lst (l1.map V.int))/\((∃ nm wt,x=.answer nm wt)->l1=ts)/\((∀ nm wt,x≠.answer nm wt)->l1=x.aft ts "none" dd),?_,?_⟩
   . have stay:(∀ nm wt,x≠.answer nm wt)->x.aft ts "none" dd=ts->([dk (V.ref p),dk (.ref t),dk (.ref r)]=[dk (V.ref p),dk (.ref t),dk (.ref r)]/\Kp [p] H H/\∃ l1:List Int,H p=dk (.lst (l1.map V.int))/\((∃ nm wt,x=.answer nm wt)->l1=ts)/\((∀ nm wt,x≠.answer nm wt)->l1=x.aft ts "none" dd)):=λ_ h2=>⟨rfl,Kp.refl _ _,ts,hp,λ_=>rfl,λ_=>h2.symm⟩
     refine⟨_,rfl,t,_,_,_,rfl,rfl,SqT.of ht,x.at0,rfl,_,rfl,?_⟩;rcases x.cls2 with rfl|⟨nm,wt,rfl⟩|⟨w1,w2,w3⟩
     . refine iI (Pd rfl) ?_;have na:∀ nm wt,Dd.take≠.answer nm wt:=λ_ _ z=>by cases z
       rcases(fc trivial).dv dv with⟨rfl,rfl⟩|⟨c,v1,v2,rfl,hc,⟨rfl,rfl,rfl⟩|⟨i,j,rfl,rfl,rfl⟩⟩
       . refine⟨_,rfl,r,_,_,_,rfl,rfl,SqT.of hr1,rfl,rfl,_,rfl,dY (dY ?_)⟩;exact stay na rfl
       . refine⟨_,rfl,r,_,_,_,rfl,rfl,SqT.of hr1,rfl,rfl,_,rfl,gJ ?_⟩;refine⟨_,rfl,r,_,_,_,rfl,rfl,SqT.of hr1,rfl,c,_,_,_,rfl,rfl,SqT.of hc,rfl,rfl,_,rfl,dY (dY ?_)⟩;exact stay na rfl
       . refine⟨_,rfl,r,_,_,_,rfl,rfl,SqT.of hr1,rfl,rfl,_,rfl,gJ ?_⟩;refine⟨_,rfl,r,_,_,_,rfl,rfl,SqT.of hr1,rfl,c,_,_,_,rfl,rfl,SqT.of hc,rfl,rfl,_,rfl,gJ ?_⟩;refine⟨_,rfl,r,_,_,_,rfl,rfl,SqT.of hr1,rfl,c,_,_,_,rfl,rfl,SqT.of hc,rfl,_,rfl,p,_,rfl,.inl (SqL.of hp),rfl,vG,_,rfl,?_⟩;simp only[if_true];rw[sP];have ea:Dd.take.aft ts "none" (.tuple [.int i,.int j])=i6 ts i:=rfl;cases hin:ts.contains i with
        |true =>
          refine dY (stay na ?_);rw[ea];unfold i6;rw[hin];rfl
        |false =>
          refine gJ ?_;refine⟨_,rfl,.inl ⟨rfl,_,SqL.of hp⟩,_,rfl,r,_,_,_,rfl,rfl,SqT.of hr1,rfl,c,_,_,_,rfl,rfl,SqT.of hc,rfl,p,_,_,rfl,rfl,hp,Jf (show _ < 1000 by rw[Jk];exact tl) (by decide),?_⟩;refine⟨rfl,Kp.one,ts++[i],by rw[a8,DL],λuq19=>by(obtain⟨_,_,z⟩:=uq19;exact absurd z (na _ _)),λ_=>?_⟩;rw[ea];unfold i6;rw[hin];rfl
     . refine cT (by rw[Pc];exact sne (show ¬ (("answer":Str)="take") by decide +kernel)) (dY ?_);exact⟨rfl,Kp.refl _ _,ts,hp,λ_=>rfl,λz=>absurd rfl (z nm wt)⟩
     . refine cT (by rw[Pc];exact sne w1) (dY ?_);exact⟨rfl,Kp.refl _ _,ts,hp,λ_=>rfl,λ_=>(w3 _ _ _).symm⟩
   . rintro σ' H1 ⟨rfl,kp1,l1,h1,f1,f2⟩;have ht1:=kp1 _ _ (λz=>npt (IW.mp z).symm) ht;refine⟨_,rfl,t,_,_,_,rfl,rfl,SqT.of ht1,x.at0,rfl,_,rfl,?_⟩;rcases x.cls2 with rfl|⟨nm,wt,rfl⟩|⟨w1,w2,w3⟩
     . refine cT (by rw[Pc];exact sne (show ¬ (("take":Str)="answer") by decide +kernel)) (dY ?_);rw[f2 λ_ _ z=>by cases z]at h1;exact k H1 h1 kp1
     . refine iI (Pd rfl) ?_;have e1:=f1 ⟨_,_,rfl⟩;subst e1;refine⟨_,rfl,t,_,_,_,rfl,rfl,SqT.of ht1,rfl,_,rfl,p,_,rfl,.inl (SqL.of h1),rfl,vG,_,rfl,?_⟩;simp only[JP,if_false];rw[sP];have ea:(Dd.answer nm wt).aft l1 "none" dd=l1.erase nm:=rfl;rw[ea]at k;cases hin:l1.contains nm with
      |true =>
        refine gJ ?_;refine⟨_,rfl,.inl ⟨rfl,_,SqL.of h1⟩,_,rfl,t,_,_,_,rfl,rfl,SqT.of ht1,rfl,p,l1,nm,rfl,rfl,h1,by rw[Lr]at hin;exact of_decide_eq_true hin,?_⟩;exact k _ a8 (kp1.trans Kp.one)
      |false =>
        refine dY ?_;refine k H1 ?_ kp1;rw[List.erase_of_not_mem (by rw[Lr]at hin;exact of_decide_eq_false hin)];exact h1
     . refine cT (by rw[Pc];exact sne w2) (dY ?_);rw[f2 λnm wt z=>by rw[z]at w2;exact w2 rfl]at h1;exact k H1 h1 kp1
theorem Cw:∀ {ds:List IV},(∀ d∈ds,MX.kd d=l'/\d.depth <= 3)->MX.kds ds=l'/\JI ds <= 3
|[],_=>⟨rfl,Kq _⟩
|d :: ds,h=>by
  obtain⟨a,b⟩:=Cw (ds:=ds) λu hu=>h u (Jh _ hu)
  have hd:=h d Jg;refine⟨?_,?_⟩
  . show (MX.kd d && MX.kds ds)=l';rw[hd.1,a];rfl
  . show max d.depth (JI ds) <= 3;have:=hd.2;omega
def Kt (d:IV):Prop:=MX.kd d=l'/\d.depth <= 4
def Kt.tup {ds:List IV}(h:∀ d∈ds,MX.kd d=l'/\d.depth <= 3):Kt (.tuple ds):=by
 obtain⟨a,b⟩:=Cw h;exact⟨a,by show JI ds+1 <= 4;omega⟩
def Kt.row (row:List Wr):Kt (Ea row):=.tup λd hd=>by
 obtain⟨x,_,rfl⟩:=Kr.mp hd;refine⟨?_,?_⟩
 . show (MX.kd x.key && (MX.kd x.dat && l'))=l';rw[x.key_kd,x.dat_kd];rfl
 . cases x with
  |c k i=>show 1 <= 3;decide
  |p g i nm wt=>show 2 <= 3;decide
def Kt.ints (ns:List Int):Kt (AU ns):=.tup λd hd=>by
 obtain⟨x,_,rfl⟩:=Kr.mp hd;exact⟨rfl,by show 0 <= 3;decide⟩
def Kt.bed (b:Bd):Kt (.str b.key):=⟨by cases b<;>decide +kernel,by show 0 <= 4;decide⟩
theorem D8:∀ {ds:List IV},(∀ d∈ds,Kt d)->MX.kds ds=l'/\JI ds <= 4
|[],_=>⟨rfl,Kq _⟩
|d :: ds,h=>by
  obtain⟨a,b⟩:=D8 (ds:=ds) λu hu=>h u (Jh _ hu)
  have hd:=h d Jg;refine⟨?_,?_⟩
  . show (MX.kd d && MX.kds ds)=l';rw[hd.1,a];rfl
  . show max d.depth (JI ds) <= 4;have:=hd.2;omega
def Kt5 (d:IV):Prop:=MX.kd d=l'/\d.depth <= 5
def Kt5.tup {ds:List IV}(h:∀ d∈ds,Kt d):Kt5 (.tuple ds):=by
 obtain⟨a,b⟩:=D8 h;exact⟨a,by show JI ds+1 <= 5;omega⟩
def Kt5.lay {d:IV}(h:Kt5 d):rc d/\d.depth <= 10:=⟨⟨MX.kd_lay _ h.1,by have:=h.2;omega⟩,by have:=h.2;omega⟩
theorem zX {H:Hp}:∀ {xs:List Dd}{vs:List V},Jv (TD H) xs vs->DVs H (xs.map Dd.dat) vs
|_,_,.nil=>rfl
|x :: _,_,.cons ⟨t,e,h⟩ r=>⟨_,_,rfl,by rw[e];exact x.dv h,zX r⟩
def FO:∀ xs:List Dd,rc (.list (xs.map Dd.dat))/\(IV.list (xs.map Dd.dat)).depth <= 10:=by
 intro xs;have h:JM (xs.map Dd.dat)=l'/\JI (xs.map Dd.dat) <= 1:=by
  induction xs with
 |nil=>exact⟨rfl,Kq _⟩
 |cons x xs ih =>
   have hx:IV.canLay0 x.dat=l'/\x.dat.depth <= 1:=by
    cases x with
   |ask wt=>exact⟨show (JL ("ask":Str) && (l' && l'))=l' by decide +kernel,by show 1 <= 1;decide⟩
   |collect=>exact⟨show (JL ("collect":Str) && l')=l' by decide +kernel,by show 1 <= 1;decide⟩
   |take=>exact⟨show (JL ("take":Str) && l')=l' by decide +kernel,by show 1 <= 1;decide⟩
   |answer nm wt=>exact⟨show (JL ("answer":Str) && (l' && (l' && l')))=l' by decide +kernel,by show 1 <= 1;decide⟩
   |bell b=>exact⟨show (JL ("bell":Str) && (l' && l'))=l' by decide +kernel,by show 1 <= 1;decide⟩
   |lie b=>exact⟨show (JL ("lie":Str) && (l' && l'))=l' by decide +kernel,by show 1 <= 1;decide⟩
   |look b=>exact⟨show (JL ("look":Str) && (l' && l'))=l' by decide +kernel,by show 1 <= 1;decide⟩
   |drain b=>exact⟨show (JL ("drain":Str) && (l' && l'))=l' by decide +kernel,by show 1 <= 1;decide⟩
   refine⟨?_,?_⟩
   . show (IV.canLay0 x.dat && JM _)=l';rw[hx.1,ih.1];rfl
   . show max x.dat.depth (JI _) <= 1;have:=ih.2;have:=hx.2;omega
 exact⟨⟨h.1,by show JI _+1 <= 16;have:=h.2;omega⟩,by show JI _+1 <= 10;have:=h.2;omega⟩
structure Y31 (w:Jj) (ad:Ad) (H:Hp) (a:YA) (s R:Int) (n:Nat) (S:YS) (es:List Ev) (L:Nat):Prop where
 y:Yn w ad.bo ad.dX ad.bp ad.cm ad.aM H a (yp0 s R n) S
 i:YI (yp0 s R n) S L
 k:K31 s R n S es
def Y31.rdy {w:Jj}{ad:Ad}{H:Hp}{a:YA}{s R:Int}{n:Nat}{S:YS}{es:List Ev}{L:Nat}(Y:Y31 w ad H a s R n S es L) (h:L < 90000):Rdy w ad H a (yp0 s R n) S L:=⟨Y.y,Y.k.q.q.ok,Y.i,h⟩
theorem Y31.mono {w:Jj}{ad:Ad}{H:Hp}{a:YA}{s R:Int}{n:Nat}{S:YS}{es:List Ev}{L L':Nat}(Y:Y31 w ad H a s R n S es L) (h:L <= L'):Y31 w ad H a s R n S es L':=⟨Y.y,Y.i.mono h,Y.k⟩
theorem Y31.same {w:Jj}{ad:Ad}{H H':Hp}{a:YA}{s R:Int}{n:Nat}{S:YS}{es:List Ev}{L:Nat}(Y:Y31 w ad H a s R n S es L) (e:c9 H H'):Y31 w ad H' a s R n S es L:=⟨Y.y.same e,Y.i,Y.k⟩
def B9 (w:Jj) (ad:Ad):Sp:=λvs H Q _=>∃ (a:YA) (s R:Int) (n:Nat) (S:YS) (es:List Ev) (L:Nat),vs=[.ref a.y]/\Y31 w ad H a s R n S es L/\L < 60000/\S.bd l'≠.lies /\
 ∀ (S':YS) (es':List Ev) (H':Hp),Y31 w ad H' a s R n S' es' (L+100)->KO a.own H H'->(S.bd f'=.up->HW s R n S es S' es')->(S.bd f'≠.up->S'=S/\es'=es)->Q .non H'
def zn (w:Jj) (ad:Ad):Sp:=λvs H Q _=>∃ (a:YA) (s R:Int) (n:Nat) (S:YS) (es:List Ev) (L:Nat),vs=[.ref a.y]/\Y31 w ad H a s R n S es L/\L < 60000/\S.bd f'≠.lies /\
 ∀ (S':YS) (es':List Ev) (H':Hp),Y31 w ad H' a s R n S' es' (L+100)->KO a.own H H'->(S.bd l'=.up->TW s R n S es S' es')->(S.bd l'≠.up->S'=S/\es'=es)->Q .non H'
def Cq (G:Gs K mg a d):FnOk P w K mg base CX0 11 a.bQ d.bQ ["yard"] (B9 w a):=by
 have O9:FnOk P w K mg base (CXv P w) 10 _ _ _ _:=sO G;have OC:FnOk P w K mg base CX0 1 _ _ _ _:=ms G;refine G.ce.ok mw (λvs H Q E h=>?_) (λcdv A' outer s' H vs Q E hr h=>?_)
 . obtain⟨y,s,R,n,S,es,L,rfl,_⟩:=h;rfl
 . obtain⟨y,s,R,n,S,es,L,rfl,Y,lL,nl,k⟩:=h;have hu:=fA hr;refine⟨_,((@aS _ _ _ _ _ _ _ _ (ar oO (ax (pv 0) G.aj G.cE OC (hr.mono (by decide)) G.d9 .nil ay (ae∣aa)) am (az _)) (@ao _ _ _ sM) aq)∪((nO JS (ar jz (ax (pv 0) G.aj G.cI O9 (hr.mono (by decide)) G.dA .nil uk ((@b8 _ _ _ _ _ (am∣aa))∣aa)) eh (az _)) (@ao _ _ _ yV))∪(@ao _ _ _ (@aB _ _ _ _ (ax (pv 0) G.aj G.cI O9 (hr.mono (by decide)) G.dA .nil uk ((@b8 _ _ _ _ _ (am∣(ae∣aa)))∣aa)) (by rfl))))),?_⟩;refine⟨_,rfl,eS Y.y.ob (dO (by decide +kernel)) ⟨y,_,S,f',rfl,Y.y,rfl,_,rfl,?_⟩⟩;by_cases hb:S.bd f'=.up;rotate_left
   . refine iI (by rw[Lb,decide_eq_false_iff_not];exact sne (λz=>hb (uH z))) ?_;exact k S es H (Y.mono (by omega)) (KO.refl _ _) (λz=>absurd z hb) (λ_=>⟨rfl,rfl⟩)
   refine cT (by rw[Pd (show V.str (S.bd f').key=V.str "up" by rw[hb];rfl)];exact λz=>by cases z) ?_;have l0:=Y.k.lens;have u9:=Y.k.un9;refine⟨λm σ H1=>∃ (S1:YS) (es1:List Ev) (L1:Nat),σ=[dk (.ref y.y)]/\Y31 w a H1 y s R n S1 es1 L1/\KO y.own H H1/\S1.bd=S.bd/\S1.rs l'=S.rs l'/\th .asked es1=th .asked es/\th .taken es1=th .taken es/\th .answered es1=th .answered es/\m=(th .answered es).length - (th .handed es1).length/\L1+2 * m=L+2 * ((th .answered es).length - (th .handed es).length),⟨_,S,es,L,rfl,Y,KO.refl _ _,rfl,rfl,rfl,rfl,rfl,rfl,rfl⟩,?_⟩;rintro m σ H1 ⟨S1,es1,L1,rfl,Y1,ko1,b1,r1,t1,t2,t3,rfl,le⟩;have hb1:S1.bd f'=.up:=by rw[b1];exact hb
   have l1:=Y1.k.lens;rw[t1,t2,t3]at l1;refine⟨_,rfl,eS Y1.y.ob (dO (by decide +kernel)) ⟨by show 1 <= Je;decide,λt ht=>?_⟩⟩;have e2:=ah (o:=.tup [V.str "collect"]) ht;have v2:upd H1 t (.tup [V.str "collect"]) t=dk (.tup [V.str "collect"]):=a8;generalize upd H1 t (.tup [V.str "collect"])=H2 at e2 v2 |-;have Y2:=Y1.same e2;have hc:Dd.collect.chk (yp0 s R n) S1=IX:=Pa hb1;refine⟨y,_,S1,L1,.collect,t,rfl,Y2.rdy (by omega),v2,trivial,?_⟩;rw[hc];intro v H3 Y3 i3 dv3 ko3;have ko13:KO y.own H H3:=kf ko1 (kf (KO.of_same e2) ko3);obtain⟨_,ho⟩:=Y1.k.collect hb1;rw[Dd.out_none hc]at ho;refine⟨rfl,_,rfl,?_⟩;rcases ho with⟨o1,o2,o3⟩|⟨nm,wt,o1,o2,o3,o4⟩
   . dsimp only at o1 o2;rw[o1]at dv3;rw[o2]at Y3 i3;cases dv3;refine dY ?_;refine⟨_,rfl,eS Y3.ob (dO (by decide +kernel)) ⟨l2,λt4 ht4=>?_⟩⟩;have e4:=ah (o:=.tup [V.str "bell",V.int 0]) ht4;have v4:upd H3 t4 (.tup [V.str "bell",V.int 0]) t4=dk (.tup [V.str "bell",V.int 0]):=a8;generalize upd H3 t4 (.tup [V.str "bell",V.int 0])=H4 at e4 v4 |-;have nl1:S1.bd l'≠.lies:=by rw[b1];exact nl
     obtain⟨T,_,hT,KT,T1,T2,T3,T4,T5⟩:=Y1.k.bell (b:=f') hb1 nl1;have hc4:(Dd.bell f').chk (yp0 s R n) S1=IX:=Pa hb1;rw[Dd.out_none hc4]at hT;refine⟨y,_,S1,L1+2,.bell f',t4,rfl,⟨Y3.same e4,Y1.k.q.q.ok,i3,by omega⟩,v4,trivial,?_⟩;rw[hc4];intro v5 H5 Y5 i5 _ ko5;dsimp only at hT;rw[hT]at Y5 i5;refine k T es1 H5 ⟨Y5,i5.mono (by omega),KT⟩ (kf ko13 (kf (KO.of_same e4) ko5)) (λ_=>⟨KT,t1,t2,t3,T2,T1,λhu=>?_,λhr=>?_⟩) (λz=>absurd hb z)
     . exact(T3 (show S1.bd l'=.up by rw[b1];exact hu)).trans r1
     . rw[r1,hr,t3]at o3;rw[t3];have z:nC .answered ([]:List Wr)=0:=rfl;rw[z]at o3;omega
   . dsimp only at o1 o2 o3 o4;rw[o1]at dv3;obtain⟨c,vs,rfl,_⟩:=dv3;refine gJ ?_;have e1:th .asked (es1++[(.handed,nm,wt)])=th .asked es1:=dQ (by decide);have e2':th .taken (es1++[(.handed,nm,wt)])=th .taken es1:=dQ (by decide);have e3:th .answered (es1++[(.handed,nm,wt)])=th .answered es1:=dQ (by decide);have e4:th .handed (es1++[(.handed,nm,wt)])=th .handed es1++[(nm,wt)]:=kj;have l3:=o2.lens;rw[e1,e2',e3,e4,IT,t1,t2,t3]at l3;have h1:[(nm,wt)].length=1:=rfl;refine⟨_,λσ' H' z=>z,?_⟩;refine⟨_,?_,_,es1++[(.handed,nm,wt)],L1+2,rfl,⟨Y3,i3,o2⟩,ko13,by rw[o3];exact b1,by rw[o4];exact r1,by rw[e1];exact t1,by rw[e2'];exact t2,by rw[e3];exact t3,rfl,?_⟩
     . rw[e4,IT];omega
     . rw[e4,IT];omega
def Di {H:Hp}{ks:List Int}{v:V}(h:DV H (AU ks) v):∃ c,v=.ref c/\H c=dk (.tup (ks.map V.int)):=by
 have go:∀ {ks:List Int} {vs:List V},DVs H (ks.map IV.int) vs->vs=ks.map V.int:=by
  intro ks
  induction ks with
 |nil=>intro vs h;exact h
 |cons x ks ih =>
   intro vs h;obtain⟨v,r,rfl,h1,h2⟩:=h;rw[ih h2,J1];exact congrArg (· :: _) h1
 obtain⟨c,vs,rfl,hc,hv⟩:=h;exact⟨c,rfl,by rw[hc,go hv]⟩
def yG (G:Gs K mg a d):FnOk P w K mg base CX0 12 a.bA d.bA ["yard"] (zn w a):=by
 have O9:FnOk P w K mg base (CXv P w) 10 _ _ _ _:=sO G;have OC:FnOk P w K mg base CX0 1 _ _ _ _:=ms G;have OE:FnOk P w K mg base CX0 4 _ _ _ _:=wH G;have OX:FnOk P w K mg base CX0 11 _ _ _ _:=uO G;refine G.eO.ok gu (λvs H Q E h=>?_) (λcdv A' outer s' H vs Q E hr h=>?_)
 . obtain⟨y,s,R,n,S,es,L,rfl,_⟩:=h;rfl
 . obtain⟨y,s,R,n,S,es,L,rfl,Y,lL,nl,k⟩:=h;have hu:=fA hr;refine⟨_,((@aS _ _ _ _ _ _ _ _ (ar oO (ax (pv 0) G.aj G.cE OC (hr.mono (by decide)) G.d9 .nil ay (ae∣aa)) am (az _)) (@ao _ _ _ sM) aq)∪((nO JS (ar jz (ax (pv 0) G.aj G.cI O9 (hr.mono (by decide)) G.dA .nil uk ((@b8 _ _ _ _ _ (am∣aa))∣aa)) eh (az _)) (@ao _ _ _ yV))∪((@hZ _ _ _ _ _ _ _ _ JS rfl (t9 (@aA _ _ _ _ _ _ _ aI (b7 (pv 0) G.aj G.ix OE (hr.mono (by decide)) G.jj .nil ay) ae (λ_ _=>rfl))) (bU (i:=1) gu.nd rfl (JJ rfl)) (@ao _ _ _ (@aB _ _ _ _ (aR OX (hr.mono (by decide)) (by rfl) G.pC G.kX.kp G.pA .nil ay ((pv 0)∣((@b8 _ _ _ _ _ (am∣((pv 1)∣((@aU _ _ _ _ _ _ _ _ oz (@aU _ _ _ _ _ _ _ _ sY ae (pv 1)) ae)∣aa))))∣aa))) (by rfl))) (by intro _;rfl))∪(@ao _ _ _ (@aB _ _ _ _ (ax (pv 0) G.aj G.cI O9 (hr.mono (by decide)) G.dA .nil uk ((@b8 _ _ _ _ _ (am∣(ae∣aa)))∣aa)) (by rfl)))))),?_⟩;refine⟨_,rfl,eS Y.y.ob (dO (by decide +kernel)) ⟨y,_,S,l',rfl,Y.y,rfl,_,rfl,?_⟩⟩;by_cases hb:S.bd l'=.up;rotate_left
   . refine iI (by rw[Lb,decide_eq_false_iff_not];exact sne (λz=>hb (uH z))) ?_;exact k S es H (Y.mono (by omega)) (KO.refl _ _) (λz=>absurd z hb) (λ_=>⟨rfl,rfl⟩)
   refine cT (by rw[Pd (show V.str (S.bd l').key=V.str "up" by rw[hb];rfl)];exact λz=>by cases z) ?_;have l0:=Y.k.lens;have u9:=Y.k.un9;refine⟨λm σ H1=>∃ (S1:YS) (es1:List Ev) (L1:Nat),σ=[dk (.ref y.y),IX]/\Y31 w a H1 y s R n S1 es1 L1/\KO y.own H H1/\S1.bd=S.bd/\S1.rs f'=S.rs f'/\th .asked es1=th .asked es/\th .handed es1=th .handed es/\th .answered es1=th .answered es/\m=(th .asked es).length - (th .taken es1).length/\L1+2 * m=L+2 * ((th .asked es).length - (th .taken es).length),⟨_,S,es,L,rfl,Y,KO.refl _ _,rfl,rfl,rfl,rfl,rfl,rfl,rfl⟩,?_⟩;rintro m σ H1 ⟨S1,es1,L1,rfl,Y1,ko1,b1,r1,t1,t2,t3,rfl,le⟩;have hb1:S1.bd l'=.up:=by rw[b1];exact hb
   have l1:=Y1.k.lens;rw[t1,t2,t3]at l1;refine⟨_,rfl,eS Y1.y.ob (dO (by decide +kernel)) ⟨by show 1 <= Je;decide,λt ht=>?_⟩⟩;have e2:=ah (o:=.tup [V.str "take"]) ht;have v2:upd H1 t (.tup [V.str "take"]) t=dk (.tup [V.str "take"]):=a8;generalize upd H1 t (.tup [V.str "take"])=H2 at e2 v2 |-;have Y2:=Y1.same e2;have hc:Dd.take.chk (yp0 s R n) S1=IX:=Pa hb1;refine⟨y,_,S1,L1,.take,t,rfl,Y2.rdy (by omega),v2,trivial,?_⟩;rw[hc];intro v H3 Y3 i3 dv3 ko3;have ko13:KO y.own H H3:=kf ko1 (kf (KO.of_same e2) ko3);obtain⟨_,ho⟩:=Y1.k.take hb1;rw[Dd.out_none hc]at ho;refine⟨rfl,_,rfl,?_⟩;rcases ho with⟨o1,o2,o3⟩|⟨nm,wt,o1,o2,o3,o4⟩
   . dsimp only at o1 o2;rw[o1]at dv3;rw[o2]at Y3 i3;cases dv3;refine dY ?_;have Y3':Y31 w a H3 y s R n S1 es1 (L1+2):=⟨Y3,i3,Y1.k⟩
     clear Y1 Y2 Y3 i3 e2 v2 ko1 ko3;have tk9:=Y3'.k.q.q.tkd.len (by omega);have un9:=Y3'.k.un9;refine⟨_,rfl,eS Y3'.y.ob (dO (by decide +kernel)) ⟨y,_,S1,rfl,Y3'.y,by omega,by omega,λtq us ks vs H4 pu su pk sk _ e4 htq dvq=>?_⟩⟩;obtain⟨b0,vs0,eb,hb0,w0,r0',rfl,d0,w1,r1',rfl,d1,w2,r2',rfl,d2,w3,r3',rfl,d3,w4,r4',rfl,d4,w5,r5',rfl,d5,w6,r6',rfl,d6,rfl⟩:=dvq;cases eb;obtain⟨ct,rfl,hct⟩:=Di d4;refine⟨tq,_,_,_,rfl,rfl,SqT.of hb0,rfl,ct,rfl,⟨_,SqT.of hct⟩,?_⟩;have Y4:=Y3'.same e4;have ko4:KO y.own H H4:=kf ko13 (KO.of_same e4);have kl:=pk.length_eq;have nct:¬ y.own ct:=λz=>Y4.y.noT ct z _ hct
     refine uV (K:=K) (a:=ct) (xs:=ks.map V.int) (λi σ H5=>∃ (S2:YS) (es2:List Ev),(∃ v1,σ=[dk (.ref y.y),v1])/\Y31 w a H5 y s R n S2 es2 (L1+2+2 * i)/\KO y.own H H5/\H5 ct=dk (.tup (ks.map V.int))/\S2.bd=S.bd/\S2.rs f'=S.rs f'/\th .asked es2=th .asked es/\th .handed es2=th .handed es/\th .taken es2=th .taken es1/\∀ x∈S2.tk,x∈ks.drop i\/Ful s S2 es2)
      ⟨S1,es1,⟨_,rfl⟩,Y4,ko4,hct,b1,r1,t1,t2,rfl,λx hx=>.inl (pk.mem_iff.mpr hx)⟩ (λ_ _ _ _ uq20=>by(obtain⟨_,_,_,_,_,z,_⟩:=uq20;exact SqT.of z)) ?_ ?_
     . rintro i x σ H5 hi ⟨S2,es2,⟨v1,rfl⟩,Y5,ko5,h5,b2,r2,q1,q2,q3,q4⟩;have hlt:i < ks.length:=by have:=(Jp.mp hi).1;rw[Jk]at this;exact this
       rw[JX,Jb hlt]at hi;cases hi;have hkm:ks[i]∈S1.tk:=pk.mem_iff.mp (getElem_mem hlt);obtain⟨k0,k9⟩:=Y3'.k.q.q.tkd.2 _ hkm;refine⟨_,rfl,_,rfl,_,rfl,_,_,rfl,rfl,oa (by decide) (by decide),_,_,rfl,rfl,l3,λt6 ht6=>?_⟩;have e6:=ah (o:=.tup [V.str "answer",V.int ks[i],V.int (7 * ks[i] - 3)]) ht6;have v6:upd H5 t6 (.tup [V.str "answer",V.int ks[i],V.int (7 * ks[i] - 3)]) t6=dk (.tup [V.str "answer",V.int ks[i],V.int (7 * ks[i] - 3)]):=a8;generalize upd H5 t6 (.tup [V.str "answer",V.int ks[i],V.int (7 * ks[i] - 3)])=H6 at e6 v6 |-;have hb2:S2.bd l'=.up:=by rw[b2];exact hb
       refine⟨y,_,S2,L1+2+2 * i,.answer ks[i] (7 * ks[i] - 3),t6,rfl,(Y5.same e6).rdy (by omega),v6,⟨by omega,by omega⟩,λv r H7 Y7 i7 _ _ _ ko7=>?_⟩;have ko57:KO y.own H5 H7:=kf (KO.of_same e6) ko7;have h7:=ko57 _ _ nct h5;have dr:=KS hlt;rcases Y5.k.answer hb2 ks[i] (7 * ks[i] - 3) with⟨o1,o2⟩|⟨o1,o2,o3,o4,o5⟩
       . rw[o1]at Y7 i7;refine⟨S2,es2,⟨_,rfl⟩,⟨Y7,i7,Y5.k⟩,kf ko5 ko57,h7,b2,r2,q1,q2,q3,λx hx=>?_⟩;rcases o2 with o2|o2
         . rcases q4 x hx with z|z
           . rw[dr]at z;rcases Jx.mp z with z|z
             . rw[z]at hx;exact absurd hx o2
             . exact .inl z
           . exact .inr z
         . exact .inr o2
       . have f1:th .asked (es2++[(.answered,ks[i],7 * ks[i] - 3)])=th .asked es2:=dQ (by decide);have f2:th .handed (es2++[(.answered,ks[i],7 * ks[i] - 3)])=th .handed es2:=dQ (by decide);have f3:th .taken (es2++[(.answered,ks[i],7 * ks[i] - 3)])=th .taken es2:=dQ (by decide);refine⟨_,es2++[(.answered,ks[i],7 * ks[i] - 3)],⟨_,rfl⟩,⟨Y7,i7,o1⟩,kf ko5 ko57,h7,o2.trans b2,o3.trans r2,f1.trans q1,f2.trans q2,f3.trans q3,λx hx=>?_⟩;rw[o4]at hx;have hx2:=List.mem_of_mem_erase hx;have hne:x≠ks[i]:=λz=>by
          rw[z]at hx;exact absurd hx (Nodup.not_mem_erase Y5.k.q.q.tkd.1)
         rcases q4 x hx2 with z|z
         . rw[dr]at z;rcases Jx.mp z with z|z
           . exact absurd z hne
           . exact .inl z
         . exact absurd z o5
     . rintro σ H5 ⟨S2,es2,⟨v1,rfl⟩,Y5,ko5,h5,b2,r2,q1,q2,q3,q4⟩;rw[Jk]at Y5 q4;rw[List.drop_length]at q4;have hb2:S2.bd l'=.up:=by rw[b2];exact hb
       refine⟨_,rfl,eS Y5.y.ob (dO (by decide +kernel)) ⟨l2,λt6 ht6=>?_⟩⟩;have e6:=ah (o:=.tup [V.str "bell",V.int 1]) ht6;have v6:upd H5 t6 (.tup [V.str "bell",V.int 1]) t6=dk (.tup [V.str "bell",V.int 1]):=a8;generalize upd H5 t6 (.tup [V.str "bell",V.int 1])=H6 at e6 v6 |-;have nl2:S2.bd f'≠.lies:=by rw[b2];exact nl
       obtain⟨T,_,hT,KT,T1,T2,T3,T4,T5⟩:=Y5.k.bell (b:=l') hb2 nl2;have hc6:(Dd.bell l').chk (yp0 s R n) S2=IX:=Pa hb2;rw[Dd.out_none hc6]at hT;refine⟨y,_,S2,L1+2+2 * ks.length,.bell l',t6,rfl,(Y5.same e6).rdy (by omega),v6,trivial,?_⟩;rw[hc6];intro v7 H7 Y7 i7 _ ko7;dsimp only at hT;rw[hT]at Y7 i7;refine k T es2 H7 ⟨Y7,i7.mono (by omega),KT⟩ (kf ko5 (kf (KO.of_same e6) ko7)) (λ_=>⟨KT,q1,q2,T2,T1,λhu=>?_,λhr=>?_⟩) (λz=>absurd hb z)
       . exact(T3 (show S2.bd f'=.up by rw[b2];exact hu)).trans r2
       . rw[r1,hr,t1]at o3;have z:nC .asked ([]:List Wr)=0:=rfl;rw[z]at o3;refine⟨by rw[q3,q1];omega,λhne=>?_⟩;rw[T5]at hne;obtain⟨x,hx⟩:=List.exists_mem_of_ne_nil _ hne;rcases q4 x hx with z'|z'
         . cases z'
         . unfold Ful at z';rw[r2,hr]at z';have z2:nC .handed ([]:List Wr)=0:=rfl;rw[z2]at z';omega
   . dsimp only at o1 o2 o3 o4;rw[o1]at dv3;obtain⟨c,vs,rfl,_⟩:=dv3;refine gJ ?_;have e1:th .asked (es1++[(.taken,nm,wt)])=th .asked es1:=dQ (by decide);have e2':th .handed (es1++[(.taken,nm,wt)])=th .handed es1:=dQ (by decide);have e3:th .answered (es1++[(.taken,nm,wt)])=th .answered es1:=dQ (by decide);have e4:th .taken (es1++[(.taken,nm,wt)])=th .taken es1++[(nm,wt)]:=kj;have l3:=o2.lens;rw[e1,e2',e3,e4,IT,t1,t2,t3]at l3;have h1:[(nm,wt)].length=1:=rfl;refine⟨_,λσ' H' z=>z,?_⟩;refine⟨_,?_,_,es1++[(.taken,nm,wt)],L1+2,rfl,⟨Y3,i3,o2⟩,ko13,by rw[o3];exact b1,by rw[o4];exact r1,by rw[e1];exact t1,by rw[e2'];exact t2,by rw[e3];exact t3,rfl,?_⟩
     . rw[e4,IT];omega
     . rw[e4,IT];omega
def y8:Sp:=λvs H Q _=>∃ (st:G') (zs:List V) (es:List Ev) (c:Cn) (nm:Int),vs=[.ref st,.str c.key,.int nm]/\H st=dk (.lst zs)/\Jv (EvR H) es zs/\es.length < 90000 /\
 ∀ (p:G') (H':Hp),c9 H H'->H p=IX->H' p=dk (.lst ((pl c nm es).map λ(i:Nat)=>V.int i))->Q (.ref p) H'
def By:Sp:=λvs H Q _=>∃ (st:G') (zs:List V) (s R:Int) (n:Nat) (S:YS) (es:List Ev),vs=[.ref st]/\H st=dk (.lst zs)/\Jv (EvR H) es zs/\es.length < 90000/\Q32 s R n S es/\S.un=[]/\∀ H',c9 H H'->Q (.bl l') H'
def lF {H H':Hp}{es:List Ev}{zs:List V}(h:Jv (EvR H) es zs) (e:c9 H H'):Jv (EvR H') es zs:=Paired.mapP h λ_ _ q=>q.keep λb vs=>e b _
def zZ {a b:Cn}(h:V.str a.key=V.str b.key):a=b:=qQ (by injection h)
def xY (G:Gs K mg a d):FnOk P w K mg base CX0 1 a.eG d.eG ["story","word","name"] y8:=by
 refine G.eX.ok r8 (λvs H Q E h=>?_) (λcdv A' outer s' H vs Q E hr h=>?_)
 . obtain⟨st,zs,es,c,nm,rfl,_⟩:=h;rfl
 . obtain⟨st,zs,es,c,nm,rfl,hst,pr,hl,k⟩:=h;have hu:=fA hr;refine⟨_,((by exact mn (tc:=Ib (xO (tOp rEq (tOp (Gu K) (tOp (Gv K) (qU 1) (qU 0)) (tC (.int 0))) (qU 2))) (xO (tOp rEq (tOp (Gu K) (tOp (Gv K) (qU 1) (qU 0)) (tC (.int 1))) (qU 3)))) (te:=qU 0) (caps:=["story","word","name"]) (js:=[0,1,2]) rfl (lT rfl rfl (by decide +kernel) (by decide +kernel) rfl ⟨rfl,⟨rfl,⟨rfl,trivial⟩⟩⟩ rfl rfl) (by decide +kernel) ⟨⟨⟨_,rfl⟩,rfl,.inl rfl,.inl rfl⟩,⟨⟨⟨_,rfl⟩,rfl,.inl rfl,.inl rfl⟩,⟨⟨⟨_,rfl⟩,rfl,.inl rfl,.inl rfl⟩,trivial⟩⟩⟩ (hU (by rfl) G.mM ((aK bh (by rfl) G.lm gv ((pv 0)∣aa))∣aa)) (λC s₃ H₃ Lz ex E'=>by exact rP ((mS (ar cG (@aA _ _ _ _ _ _ _ aI (@aA _ _ _ _ _ _ _ aV (pv 1) (pv 0) (λ_ _=>rfl)) ae (λ_ _=>rfl)) (pv 2) (az _)) (lY (ar cG (@aA _ _ _ _ _ _ _ aI (@aA _ _ _ _ _ _ _ aV (pv 1) (pv 0) (λ_ _=>rfl)) ae (λ_ _=>rfl)) (pv 3) (az _))))).pt) (λC s₃ H₃ Lz ex E'=>by exact(pv 0)))⁻¹),?_⟩;have zl:zs.length=es.length:=by have:=be pr;omega
   refine⟨_,rfl,st,_,rfl,.inl (SqL.of hst),_,rfl,by omega,by omega,λD hD=>?_⟩;refine⟨λi mm ys H'=>i <= es.length/\mm=es.length - i/\ys=((K8 i).filter λi=>match es[i]? with|some e=>decide (e.1=c) && decide (e.2.1=nm)|none=>f').map (λ(i:Nat)=>V.int i)/\H' D=dk (.lst ys)/\∀ c o,c≠D->H c=dk o->H' c=dk o,⟨_,Kq _,rfl,rfl,a8,λc o n e=>by rw[ac n];exact e⟩,?_⟩;rintro i mm ys H2 ⟨hi,rfl,rfl,hD2,k2⟩;have e2:c9 H H2:=λc o e=>k2 c o (λy=>by rw[y,hD]at e;cases e) e
   have yl:((K8 i).filter λi=>match es[i]? with|some e=>decide (e.1=c) && decide (e.2.1=nm)|none=>f').length <= i:=by
    have h2:=Lf (λi=>match es[i]? with|some e=>decide (e.1=c) && decide (e.2.1=nm)|none=>f') (K8 i);rw[List.length_range]at h2;exact h2
   refine⟨hD2,Jf (show _ < 100000 by rw[Jk];omega) (by decide),?_⟩;by_cases hii:i=es.length
   . refine .inl ⟨by show ((zs.length:Int)).toNat <= i;omega,?_⟩;subst hii;exact k D H2 e2 hD hD2
   . have hlt:i < es.length:=by omega
     obtain⟨z,hz,t,rfl,ht⟩:=Paired.at' pr (Jb hlt);refine .inr ⟨by show i < ((zs.length:Int)).toNat;omega,?_⟩;rintro v H3 ⟨rfl,rfl⟩;have hat:atI zs (0+(i:Int))=dk (.ref t):=by rw[Int.zero_add];exact jr hz
     refine⟨_,rfl,_,rfl,st,_,_,_,rfl,rfl,SqL.of (e2 _ _ hst),hat,t,_,_,_,rfl,rfl,SqT.of (e2 _ _ ht),bC,_,rfl,rfl,_,rfl,?_⟩;have nx:∀ b,(decide (es[i].1=c) && decide (es[i].2.1=nm))=b->((K8 (i+1)).filter λi=>match es[i]? with|some e=>decide (e.1=c) && decide (e.2.1=nm)|none=>f')=((K8 i).filter λi=>match es[i]? with|some e=>decide (e.1=c) && decide (e.2.1=nm)|none=>f')++(if b=l' then [i] else []):=λb hb=>by
      rw[List.range_succ,JU,J0,Jb hlt];show _++(if (decide (es[i].1=c) && decide (es[i].2.1=nm))=l' then _ else _)=_;rw[hb];cases b<;>rfl
     by_cases h1:es[i].1=c
     . refine iI (Pd (by rw[h1])) ?_;refine⟨_,rfl,_,rfl,st,_,_,_,rfl,rfl,SqL.of (e2 _ _ hst),hat,t,_,_,_,rfl,rfl,SqT.of (e2 _ _ ht),rfl,_,rfl,rfl,_,rfl,?_⟩;by_cases h2:es[i].2.1=nm
       . refine iI (Pd (by rw[h2])) ?_;have nx:=nx l' (by rw[Pd h1,Pd h2];rfl);refine⟨_,rfl,hD2,_,?_,?_,rfl,?_,a8,λc o n e=>by rw[ac n];exact k2 c o n e⟩
         . omega
         . omega
         . rw[nx,Pa rfl,J3,Int.zero_add];rfl
       . refine cT (by rw[Pc];exact λz=>h2 (iD z)) ?_;have nx:=nx f' (by rw[Pd h1,decide_eq_false h2];rfl);rw[Pb (by decide),Jw]at nx;exact⟨_,by omega,by omega,rfl,by rw[nx],hD2,k2⟩
     . refine cT (by rw[Pc];exact λz=>h1 (zZ z)) (dY ?_);have nx:=nx f' (by rw[decide_eq_false h1];rfl);rw[Pb (by decide),Jw]at nx;exact⟨_,by omega,by omega,rfl,by rw[nx],hD2,k2⟩
def pN {p:List Nat}{j x:Nat}(h:p[j]?=dk x):atI (p.map λ(i:Nat)=>V.int i) (j:Int)=dk (.int x):=jr (by rw[JX,h];rfl)
def BG (G:Gs K mg a d):FnOk P w K mg base CX0 2 a.c6 d.c6 ["story"] By:=by
 have OV:FnOk P w K mg base CX0 1 _ _ _ _:=xY G;refine G.jC.ok bu (λvs H Q E h=>?_) (λcdv A' outer s' H vs Q E hr h=>?_)
 . obtain⟨st,zs,s,R,n,S,es,rfl,_⟩:=h;rfl
 . obtain⟨st,zs,s,R,n,S,es,rfl,hst,pr,hl,Q3,un,k⟩:=h;have hu:=fA hr;refine⟨_,((@hZ _ _ _ _ _ _ _ _ JS rfl (hU (by rfl) G.mM (ae∣aa)) (bU (i:=1) bu.nd rfl (JJ rfl)) ((@b9 _ _ 2 _ _ _ _ bu.nd rfl (JJ rfl) (aR OV (hr.mono (by decide)) (by rfl) G.gE G.eX.kp G.gz .nil ay ((pv 0)∣(am∣((pv 1)∣aa)))) (by rfl) (by first|exact .inl rfl|exact .inr rfl|assumption))∪((@b9 _ _ 3 _ _ _ _ bu.nd rfl (JJ rfl) (aR OV (hr.mono (by decide)) (by rfl) G.gE G.eX.kp G.gz .nil ay ((pv 0)∣(am∣((pv 1)∣aa)))) (by rfl) (by first|exact .inl rfl|exact .inr rfl|assumption))∪((@b9 _ _ 4 _ _ _ _ bu.nd rfl (JJ rfl) (aR OV (hr.mono (by decide)) (by rfl) G.gE G.eX.kp G.gz .nil ay ((pv 0)∣(am∣((pv 1)∣aa)))) (by rfl) (by first|exact .inl rfl|exact .inr rfl|assumption))∪((@b9 _ _ 5 _ _ _ _ bu.nd rfl (JJ rfl) (aR OV (hr.mono (by decide)) (by rfl) G.gE G.eX.kp G.gz .nil ay ((pv 0)∣(am∣((pv 1)∣aa)))) (by rfl) (by first|exact .inl rfl|exact .inr rfl|assumption))∪((@aS _ _ _ _ _ _ _ _ (eW (uM cG cG cG (aK bh (by rfl) G.lm gv ((pv 2)∣aa)) (aK bh (by rfl) G.lm gv ((pv 3)∣aa)) (aK bh (by rfl) G.lm gv ((pv 4)∣aa)) (aK bh (by rfl) G.lm gv ((pv 5)∣aa)))) (dZ⁻¹) aq)∪(@ao _ _ _ (@hZ _ _ _ _ _ _ _ _ JS rfl (hU (by rfl) G.mM ((aK bh (by rfl) G.lm gv ((pv 2)∣aa))∣aa)) (bU (i:=6) bu.nd rfl (JJ rfl)) ((@aS _ _ _ _ _ _ _ _ (eW (uM zA zA zA (@aA _ _ _ _ _ _ _ aV (pv 2) (pv 6) (λ_ _=>rfl)) (@aA _ _ _ _ _ _ _ aV (pv 3) (pv 6) (λ_ _=>rfl)) (@aA _ _ _ _ _ _ _ aV (pv 4) (pv 6) (λ_ _=>rfl)) (@aA _ _ _ _ _ _ _ aV (pv 5) (pv 6) (λ_ _=>rfl)))) (dZ⁻¹) aq)∪((@aS _ _ _ _ _ _ _ _ (ww ((mS (ar Ej (pv 6) ae (az _)) (lY (eW (ar zA (@aA _ _ _ _ _ _ _ aV (pv 5) (@aU _ _ _ _ _ _ _ _ oz (pv 6) ae) (λ_ _=>rfl)) (@aA _ _ _ _ _ _ _ aV (pv 2) (pv 6) (λ_ _=>rfl)) (az _)))))).pt) (dZ⁻¹) aq)∪(@ao _ _ _ (@aS _ _ _ _ _ _ _ _ (ww ((yh (ar oO (@aA _ _ _ _ _ _ _ aI (@aA _ _ _ _ _ _ _ aV (pv 0) (@aA _ _ _ _ _ _ _ aV (pv 2) (pv 6) (λ_ _=>rfl)) (λ_ _=>rfl)) ae (λ_ _=>rfl)) (@aA _ _ _ _ _ _ _ aI (@aA _ _ _ _ _ _ _ aV (pv 0) (@aA _ _ _ _ _ _ _ aV (pv 3) (pv 6) (λ_ _=>rfl)) (λ_ _=>rfl)) ae (λ_ _=>rfl)) (az _)) (uN (ar oO (@aA _ _ _ _ _ _ _ aI (@aA _ _ _ _ _ _ _ aV (pv 0) (@aA _ _ _ _ _ _ _ aV (pv 4) (pv 6) (λ_ _=>rfl)) (λ_ _=>rfl)) ae (λ_ _=>rfl)) (@aA _ _ _ _ _ _ _ aI (@aA _ _ _ _ _ _ _ aV (pv 0) (@aA _ _ _ _ _ _ _ aV (pv 5) (pv 6) (λ_ _=>rfl)) (λ_ _=>rfl)) ae (λ_ _=>rfl)) (az _))))).pt) (dZ⁻¹) aq)))) (by intro _;rfl)))))))) (by intro _;rfl))∪(dZ⁻¹)),?_⟩;refine⟨9,rfl,by decide,by decide,?_⟩;refine hX (λi σ H1=>(∃ v1 v2 v3 v4 v5 v6,σ=[dk (.ref st),v1,v2,v3,v4,v5,v6])/\c9 H H1) ⟨⟨_,_,_,_,_,_,rfl⟩,λ_ _ e=>e⟩ ?_ ?_
   . rintro i σ H1 hi ⟨⟨v1,v2,v3,v4,v5,v6,rfl⟩,e1⟩;obtain⟨nm,hnm⟩:∃ nm:Int,nm=0+(i:Int):=⟨_,rfl⟩
     show kF 1 (V.int (0+(i:Int))) _ _ _;rw[<-hnm];refine⟨_,rfl,_,rfl,st,zs,es,.asked,nm,rfl,e1 _ _ hst,lF pr e1,hl,λp1 H2 e2 _ h1=>?_⟩;have E2:=e1.trans e2;refine⟨_,rfl,_,rfl,st,zs,es,.taken,nm,rfl,E2 _ _ hst,lF pr E2,hl,λp2 H3 e3 _ h2=>?_⟩;have E3:=E2.trans e3;refine⟨_,rfl,_,rfl,st,zs,es,.answered,nm,rfl,E3 _ _ hst,lF pr E3,hl,λp3 H4 e4 _ h3=>?_⟩;have E4:=E3.trans e4;refine⟨_,rfl,_,rfl,st,zs,es,.handed,nm,rfl,E4 _ _ hst,lF pr E4,hl,λp4 H5 e5 _ h4=>?_⟩;have E5:=E4.trans e5;have h3:=e5 _ _ h3;have h2:=e5 _ _ (e4 _ _ h2);have h1:=e5 _ _ (e4 _ _ (e3 _ _ h1));have hst5:=E5 _ _ hst;have pr5:=lF pr E5;clear e2 e3 e4 e5 E2 E3 E4 hnm;obtain⟨L1,L2,L3⟩:=Q3.done un nm;have od:=(Q3.l nm).od;refine⟨_,rfl,p1,_,rfl,.inl (SqL.of h1),_,rfl,p2,_,rfl,.inl (SqL.of h2),rfl,_,rfl,iI (Pd (by rw[Jk,Jk,L1])) ?_⟩;refine⟨_,rfl,p3,_,rfl,.inl (SqL.of h3),rfl,_,rfl,iI (Pd (by rw[Jk,Jk,L1,L2])) ?_⟩;refine⟨_,rfl,p4,_,rfl,.inl (SqL.of h4),rfl,_,rfl,?_⟩;refine cT (by rw[Pd (show V.int _=V.int _ by rw[Jk,Jk,L2,L3])];exact λz=>by cases z) ?_;refine⟨_,rfl,p1,_,rfl,.inl (SqL.of h1),_,rfl,by omega,?_,?_⟩
     . have:=cc .asked nm es;have h9:(pl .asked nm es).length <= es.length:=by
        unfold pl;have:=Lf (λi=>match es[i]? with|some e=>decide (e.1=.asked) && decide (e.2.1=nm)|none=>f') (K8 es.length);rw[List.length_range]at this;exact this
       rw[Jk];omega
     refine hX (λj σ H6=>(∃ v6,σ=[dk (.ref st),dk (.int nm),dk (.ref p1),dk (.ref p2),dk (.ref p3),dk (.ref p4),v6])/\H6=H5) ⟨⟨_,rfl⟩,rfl⟩ ?_ ?_
     . rintro j σ H6 hj ⟨⟨v6,rfl⟩,rfl⟩;have hj1:j < (pl .asked nm es).length:=by
        have hj':j < (((List.map (λ(i:Nat)=>V.int i) (pl .asked nm es)).length:Int)).toNat:=hj;rw[Jk]at hj';omega
       show kF 6 (V.int (0+(j:Int))) _ _ _;rw[Int.zero_add];obtain⟨x1,x1h⟩:∃ x,(pl .asked nm es)[j]?=dk x:=⟨_,Jb hj1⟩
       obtain⟨x2,x2h⟩:∃ x,(pl .taken nm es)[j]?=dk x:=⟨_,Jb (by omega)⟩
       obtain⟨x3,x3h⟩:∃ x,(pl .answered nm es)[j]?=dk x:=⟨_,Jb (by omega)⟩
       obtain⟨x4,x4h⟩:∃ x,(pl .handed nm es)[j]?=dk x:=⟨_,Jb (by omega)⟩
       obtain⟨g1,g1'⟩:=od.o1 j x1 x2 x1h x2h;have g2:=od.o2 j x2 x3 x2h x3h;obtain⟨g3,g3'⟩:=od.o3 j x3 x4 x3h x4h;refine⟨_,rfl,_,rfl,p1,_,_,_,rfl,rfl,SqL.of h1,pN x1h,_,rfl,_,rfl,p2,_,_,_,rfl,rfl,SqL.of h2,pN x2h,_,_,rfl,rfl,_,rfl,iI (Pd (by omega)) ?_⟩;refine⟨_,rfl,_,rfl,p3,_,_,_,rfl,rfl,SqL.of h3,pN x3h,_,_,rfl,rfl,_,rfl,iI (Pd (by omega)) ?_⟩;refine⟨_,rfl,_,rfl,p4,_,_,_,rfl,rfl,SqL.of h4,pN x4h,_,_,rfl,rfl,_,rfl,?_⟩;refine cT (by rw[Pd (show (x3:Int) < x4 by omega)];exact λz=>by cases z) ?_;refine⟨λb H'=>b=f'/\H'=H6,?_,?_⟩
       . refine⟨_,rfl,_,_,rfl,rfl,_,rfl,?_⟩;cases j with
        |zero=>exact cT (by decide) ⟨rfl,rfl⟩
        |succ j =>
          refine iI (Pd (by omega)) ?_;obtain⟨x5,x5h⟩:∃ x,(pl .handed nm es)[j]?=dk x:=⟨_,Jb (by omega)⟩
          have g5:=od.o4 j x5 x1 x5h x1h;refine⟨_,rfl,_,rfl,_,_,rfl,rfl,p4,_,_,_,rfl,rfl,SqL.of h4,by rw[show ((j+1:Nat):Int) - 1=(j:Int) by omega];exact pN x5h,_,rfl,_,rfl,p1,_,_,_,rfl,rfl,SqL.of h1,pN x1h,_,_,rfl,rfl,_,rfl,?_⟩;rw[Pd (show (x5:Int) < x1 by omega)];exact⟨rfl,rfl⟩
       rintro b H' ⟨rfl,rfl⟩;refine dY ?_;have at_:∀ {c:Cn} {x:Nat},(pl c nm es)[j]?=dk x->∃ (t:G') (e:Ev),es[x]?=dk e/\zs[x]?=dk (.ref t)/\H' t=dk (.tup [.str e.1.key,.int e.2.1,.int e.2.2]):=λ{c x} h=>by
        have hx:=zP (Ju h);obtain⟨z,hz,t,rfl,ht⟩:=Paired.at' pr5 (Jb hx);exact⟨t,_,Jb hx,hz,ht⟩
       obtain⟨t1,f1,q1,z1,y1⟩:=at_ x1h;obtain⟨t2,f2,q2,z2,y2⟩:=at_ x2h;obtain⟨t3,f3,q3,z3,y3⟩:=at_ x3h;obtain⟨t4,f4,q4,z4,y4⟩:=at_ x4h;have w1:f1.2.2=f2.2.2:=by unfold wo at g1';rw[q1,q2]at g1';exact Jt g1'
       have w2:f3.2.2=f4.2.2:=by unfold wo at g3';rw[q3,q4]at g3';exact Jt g3'
       refine⟨λb H1=>b=f'/\H1=H',?_,?_⟩
       . refine⟨_,rfl,_,rfl,_,rfl,p1,_,_,_,rfl,rfl,SqL.of h1,pN x1h,st,_,_,_,rfl,rfl,SqL.of hst5,jr z1,t1,_,_,_,rfl,rfl,SqT.of y1,rfl,_,rfl,_,rfl,_,rfl,p2,_,_,_,rfl,rfl,SqL.of h2,pN x2h,st,_,_,_,rfl,rfl,SqL.of hst5,jr z2,t2,_,_,_,rfl,rfl,SqT.of y2,rfl,rfl,_,rfl,?_⟩;refine cT (by rw[Pd (show V.int f1.2.2=V.int f2.2.2 by rw[w1])];exact λz=>by cases z) ?_;refine⟨_,rfl,_,rfl,_,rfl,p3,_,_,_,rfl,rfl,SqL.of h3,pN x3h,st,_,_,_,rfl,rfl,SqL.of hst5,jr z3,t3,_,_,_,rfl,rfl,SqT.of y3,rfl,_,rfl,_,rfl,_,rfl,p4,_,_,_,rfl,rfl,SqL.of h4,pN x4h,st,_,_,_,rfl,rfl,SqL.of hst5,jr z4,t4,_,_,_,rfl,rfl,SqT.of y4,rfl,rfl,_,rfl,?_⟩;rw[Pd (show V.int f3.2.2=V.int f4.2.2 by rw[w2])];exact⟨rfl,rfl⟩
       rintro b H1 ⟨rfl,rfl⟩;exact dY ⟨⟨_,rfl⟩,rfl⟩
     . rintro σ H6 ⟨⟨v6,rfl⟩,rfl⟩;exact⟨⟨_,_,_,_,_,_,rfl⟩,E5⟩
   . rintro σ H1 ⟨⟨v1,v2,v3,v4,v5,v6,rfl⟩,e1⟩;exact k H1 e1
def wn (K:Ja):Sp:=λvs H Q _=>∃ (b:G') (ns:List Int),vs=[.ref b]/\SqL K H b (ns.map V.int)/\ns.length <= 63/\∀ H',Q (.bl l') H'
def vT (b:Bd):b=.up\/b=.lies\/b=.asleep:=by cases b;exact .inl rfl;exact .inr (.inl rfl);exact .inr (.inr rfl)
theorem AK {H:Hp}:∀ {es:List Ev}{zs:List V},DVs H (es.map evD) zs->Jv (EvR H) es zs
|[],zs,h=>by
  have:zs=[]:=h;rw[this];exact .nil
|(k,i,j) :: es,zs,h=>by
  obtain⟨v,r,rfl,h1,h2⟩:=h;obtain⟨t,vs,rfl,ht,v1,r1,rfl,d1,v2,r2,rfl,d2,v3,r3,rfl,d3,e3⟩:=h1;have e3':r3=[]:=e3;subst e3';cases d1;cases d2;cases d3;exact .cons ⟨t,rfl,ht⟩ (AK h2)
def drL (S:YS) (i:Nat):List Dd:=(([f',l'].take i).filter λb=>!(S.rs b).isEmpty).map Dd.drain
def xc {q:YP}{S:YS}(h:∀ c,S.bd c=.asleep) (ws ks:List Int):((jb ws ks).filter λx=>(x.chk q S).isNone)=drL S 2:=by
 have na:∀ c,¬ S.bd c=.up:=λc z=>by rw[h c]at z;cases z
 have nl:∀ c,¬ S.bd c=.lies:=λc z=>by rw[h c]at z;cases z
 have f1:∀ wt,((Dd.ask wt).chk q S).isNone=f':=λwt=>by rw[show (Dd.ask wt).chk q S=dk .deed from Pb (na _)];rfl
 have f2:∀ nm wt,((Dd.answer nm wt).chk q S).isNone=f':=λnm wt=>by rw[show (Dd.answer nm wt).chk q S=dk .deed from Pb (na _)];rfl
 have f3:(Dd.collect.chk q S).isNone=f':=by rw[show Dd.collect.chk q S=dk .deed from Pb (na _)];rfl
 have f4:(Dd.take.chk q S).isNone=f':=by rw[show Dd.take.chk q S=dk .deed from Pb (na _)];rfl
 have f5:∀ b,((Dd.bell b).chk q S).isNone=f':=λb=>by rw[show (Dd.bell b).chk q S=dk .deed from Pb (na _)];rfl
 have f6:∀ b,((Dd.lie b).chk q S).isNone=f':=λb=>by rw[show (Dd.lie b).chk q S=dk .deed from Pb (na _)];rfl
 have f7:∀ b,((Dd.look b).chk q S).isNone=f':=λb=>by rw[show (Dd.look b).chk q S=dk .deed from Pb (nl _)];rfl
 have f8:∀ b,((Dd.drain b).chk q S).isNone=!(S.rs b).isEmpty:=λb=>by
  cases e:S.rs b with
 |nil=>rw[show (Dd.drain b).chk q S=dk .deed from Pa e];rfl
 |cons x r=>rw[show (Dd.drain b).chk q S=IX from Pb (λz=>by rw[e]at z;cases z)];rfl
 unfold jb ib n8;rw[JU,JU,JU];have g1:(ws.map Dd.ask).filter (λx=>(x.chk q S).isNone)=[]:=List.filter_eq_nil_iff.mpr λx hx=>by obtain⟨wt,_,rfl⟩:=Kr.mp hx;rw[f1];decide
 have g2:(ks.flatMap λnm=>ws.map (Dd.answer nm)).filter (λx=>(x.chk q S).isNone)=[]:=List.filter_eq_nil_iff.mpr λx hx=>by
  obtain⟨nm,_,hx⟩:=List.mem_flatMap.mp hx;obtain⟨wt,_,rfl⟩:=Kr.mp hx;rw[f2];decide
 rw[g1,g2];unfold ET drL;simp only[J0,filter_nil,f3,f4,f5,f6,f7,f8,List.take,List.nil_append];cases (S.rs f').isEmpty<;>cases (S.rs l').isEmpty<;>rfl
def Fn (G:Gs K mg a d):FnOk P w K mg base CX0 17 a.law d.law ["script"] (wn K):=by
 have OO:FnOk P w K mg base CX0 1 _ _ _ _:=zF G;have OU:FnOk P w K mg base CX0 1 _ _ _ _:=DW G;have OP:FnOk P w K mg base CX0 1 _ _ _ _:=B8 G;have OQ:FnOk P w K mg base CX0 2 _ _ _ _:=Bj G;have OX:FnOk P w K mg base CX0 11 _ _ _ _:=uO G;have ON:FnOk P w K mg base CX0 1 _ _ _ _:=AB G;have OW:FnOk P w K mg base CX0 11 _ _ _ _:=Aw G 11;have OS:FnOk P w K mg base CX0 11 _ _ _ _:=Cq G;have OT:FnOk P w K mg base CX0 12 _ _ _ _:=yG G;have OR:FnOk P w K mg base CX0 2 _ _ _ _:=BG G;have Ou:FnOk P w K mg base CX0 6 _ _ _ _:=C8 G;have OE:FnOk P w K mg base CX0 4 _ _ _ _:=wH G;have OG:FnOk P w K mg base CX0 1 _ _ _ _:=BP G;have OC:FnOk P w K mg base CX0 1 _ _ _ _:=ms G;have OF:FnOk P w K mg base CX0 1 _ _ _ _:=yI G;have Oq:FnOk P w K mg base CX0 1 _ _ _ _:=(rH G).imp λvs H Q E=>yE
 have Ov:FnOk P w K mg base CX0 12 _ _ _ _:=Gn G;have O9:FnOk P w K mg base (CXv P w) 10 _ _ _ _:=sO G;refine G.GY.ok jd (λvs H Q E h=>?_) (λcdv A' outer s' H vs Q E hr h=>?_)
 . obtain⟨l,ns,rfl,_⟩:=h;rfl
 . obtain⟨l,ns,rfl,hS,hlen,k⟩:=h;have hu:=fA hr;refine⟨_,((@mU _ _ _ _ _ _ (aR OU (hr.mono (by decide)) (by rfl) G.xC G.qy.kp G.xX .nil ay ((aR OO (hr.mono (by decide)) (by rfl) G.ie G.fu.kp G.iU .nil ay ((pv 0)∣(ae∣aa)))∣aa)) (@Dg _ _ _ _ _ _ rfl (@jR _ _ _ _ _ (bU (i:=1) jd.nd rfl (JJ rfl)) (@jR _ _ _ _ _ (bU (i:=2) jd.nd rfl (JJ rfl)) (@jR _ _ _ _ _ (bU (i:=3) jd.nd rfl (JJ rfl)) (@jR _ _ _ _ _ (bU (i:=4) jd.nd rfl (JJ rfl)) Am (by rfl)) (by rfl)) (by rfl)) (by rfl)) (by rfl) (by rfl)) (by rfl) (by rfl) (by rfl))∪((@b9 _ _ 5 _ _ _ _ jd.nd rfl (Or.inr rfl) (kK G.G7 Ou (hr.mono (by decide)) (by rfl) G.FG G.uE .nil ay ((pv 1)∣((pv 2)∣((pv 3)∣((@b8 _ _ _ _ _ aa)∣aa))))) (by rfl) (by first|exact .inl rfl|exact .inr rfl|assumption))∪((@b9 _ _ 6 _ _ _ _ jd.nd rfl (JJ rfl) (@eg _ _ _ _ aa) (by rfl) (by first|exact .inl rfl|exact .inr rfl|assumption))∪((@hZ _ _ _ _ _ _ _ _ JS rfl (@jD _ _ _ _ (aR OP (hr.mono (by decide)) (by rfl) G.uW G.oZ.kp G.uU .nil ay ((nY AR (pv 0) (rO ae) rW)∣(ae∣aa)))) (bU (i:=7) jd.nd rfl (JJ rfl)) ((@b9 _ _ 8 _ _ _ _ jd.nd rfl (JJ rfl) (aR OQ (hr.mono (by decide)) (by rfl) G.xK G.qG.kp G.xz .nil ay ((pv 7)∣((pv 6)∣aa))) (by rfl) (by first|exact .inl rfl|exact .inr rfl|assumption))∪(@ao _ _ _ (@aB _ _ _ _ (aR ON (hr.mono (by decide)) (by rfl) G.vf G.oE.kp G.vE .nil ay ((pv 6)∣((pv 8)∣((aR OX (hr.mono (by decide)) (by rfl) G.pC G.kX.kp G.pA .nil ay ((pv 5)∣((pv 8)∣aa)))∣aa)))) (by rfl)))) (by intro _;rfl))∪((@hZ _ _ _ _ _ _ _ _ JS rfl (t9 (@b8 _ _ _ _ _ (ae∣(ae∣aa)))) (bU (i:=9) jd.nd rfl (JJ rfl)) (@ao _ _ _ (@aS _ _ _ _ _ _ _ _ (ar cG (ax (pv 5) G.aj G.cE OC (hr.mono (by decide)) G.d9 .nil ay ((pv 9)∣aa)) am (az _)) (@ao _ _ _ (@aB _ _ _ _ (ax (pv 5) G.aj G.cI O9 (hr.mono (by decide)) G.dA .nil uk ((@b8 _ _ _ _ _ (am∣((pv 9)∣aa)))∣aa)) (by rfl))) aq)) (by intro _;rfl))∪((@aS _ _ _ _ _ _ _ _ (ww ((mS (ar cG (ax (pv 5) G.aj G.cE OC (hr.mono (by decide)) G.d9 .nil ay (ae∣aa)) am (az _)) (lY (ar cG (ax (pv 5) G.aj G.cE OC (hr.mono (by decide)) G.d9 .nil ay (ae∣aa)) am (az _))))).pt) ((by exact qR (iN:=10) (tc:=xO (tOp (I8 K l') (zB a.aM "waits" (uz w a.aM) [] E0 (zB a.bo "store" (uv w a) [] E0 (qU 1) AT) (sN (qU 0) AT)) (HK AT))) (te:=H0 (sN (tC (.str "drain")) (sN (qU 0) AT))) (caps:=["yard"]) (js:=[5]) jd.nd rfl (JJ rfl) (by rfl) rfl (lT rfl rfl (by decide +kernel) (by decide +kernel) rfl ⟨rfl,trivial⟩ rfl rfl) (by decide +kernel) ⟨⟨⟨_,rfl⟩,rfl,.inl rfl,.inl rfl⟩,trivial⟩ (t9 (@b8 _ _ _ _ _ (ae∣(ae∣aa)))) (λC s₃ H₃ Lz ex E'=>by exact rP (ar (wS hr.units) (ax (b7 (pv 1) G.aj G.rp OF (hr.mono (by decide)) G.uu .nil ay) G.aH G.eU Oq (hr.mono (by decide)) G.fB .nil ay ((pv 0)∣aa)) (@eg _ _ _ _ aa) (az _))) (λC s₃ H₃ Lz ex E'=>by exact(@b8 _ _ _ _ _ (am∣((pv 0)∣aa)))))∪((aR OW (hr.mono (by decide)) (by rfl) G.jW G.gY.kp G.jX .nil ay ((ax (pv 5) G.aj G.kL Ov (hr.mono (by decide)) G.lQ .nil ay ((@eg _ _ _ _ (ae∣(ae∣aa)))∣aa))∣((pv 10)∣aa)))⁻¹)) aq)∪((@hZ _ _ _ _ _ _ _ _ JS rfl (hU (by rfl) G.mM (ae∣aa)) (bU (i:=11) jd.nd rfl (JJ rfl)) (@iR _ _ _ _ _ (@aS _ _ _ _ _ _ _ _ (ar cG (@aU _ _ _ _ _ _ _ _ bV (aR OO (hr.mono (by decide)) (by rfl) G.ie G.fu.kp G.iU .nil ay ((pv 0)∣(ae∣aa))) ae) ae (az _)) (@ao _ _ _ (@aB _ _ _ _ (aR OS (hr.mono (by decide)) (by rfl) G.dg G.ce.kp G.di .nil ay ((pv 5)∣aa)) (by rfl))) aq)
    ((@aB _ _ _ _ (aR OT (hr.mono (by decide)) (by rfl) G.gZ G.eO.kp G.hG .nil ay ((pv 5)∣aa)) (by rfl))∪(@ao _ _ _ (@aS _ _ _ _ _ _ _ _ (ar cG (@aU _ _ _ _ _ _ _ _ bV (aR OO (hr.mono (by decide)) (by rfl) G.ie G.fu.kp G.iU .nil ay ((pv 0)∣(ae∣aa))) ae) ae (az _)) (@ao _ _ _ (@aB _ _ _ _ (aR OS (hr.mono (by decide)) (by rfl) G.dg G.ce.kp G.di .nil ay ((pv 5)∣aa)) (by rfl))) aq)))) (by intro _;rfl))∪((@aB _ _ _ _ (aR OS (hr.mono (by decide)) (by rfl) G.dg G.ce.kp G.di .nil ay ((pv 5)∣aa)) (by rfl))∪((@aB _ _ _ _ (aR OT (hr.mono (by decide)) (by rfl) G.gZ G.eO.kp G.hG .nil ay ((pv 5)∣aa)) (by rfl))∪((@aB _ _ _ _ (aR OS (hr.mono (by decide)) (by rfl) G.dg G.ce.kp G.di .nil ay ((pv 5)∣aa)) (by rfl))∪((@aS _ _ _ _ _ _ _ _ (ww ((yh (eW (ck (aR OW (hr.mono (by decide)) (by rfl) G.jW G.gY.kp G.jX .nil ay ((nY D9 (b7 (pv 5) G.aj G.ix OE (hr.mono (by decide)) G.jj .nil ay) (rO ae) rW)∣((@b8 _ _ _ _ _ ((@b8 _ _ _ _ _ aa)∣((@b8 _ _ _ _ _ aa)∣((@b8 _ _ _ _ _ aa)∣((@b8 _ _ _ _ _ aa)∣(am∣(am∣aa)))))))∣aa))))) (uN (eW (ck (aR OR (hr.mono (by decide)) (by rfl) G.oN G.jC.kp G.oW .nil ay ((b7 (pv 5) G.aj G.rD OG (hr.mono (by decide)) G.tM .nil ay)∣aa))))))).pt) (dZ⁻¹) aq)∪((qF (eo (tf hr.units) (ax (pv 5) G.aj G.cI O9 (hr.mono (by decide)) G.dA .nil uk ((@b8 _ _ _ _ _ (am∣(ae∣aa)))∣aa)) ae (az _)) (tE (aR OW (hr.mono (by decide)) (by rfl) G.jW G.gY.kp G.jX .nil ay ((@aA _ _ _ _ _ _ _ aI (b7 (pv 5) G.aj G.ix OE (hr.mono (by decide)) G.jj .nil ay) ae (λ_ _=>rfl))∣((@b8 _ _ _ _ _ (ae∣aa))∣aa)))))⁻¹)))))))))))),?_⟩
   have hSk:(∀ H',SqL K H' l (ns.map V.int))\/∃ o,H l=dk o/\∀ H',H' l=dk o->SqL K H' l (ns.map V.int):=by
    rcases hS with r|r
    . rcases r with r|⟨o,r⟩
      . exact .inr ⟨_,r,λH' h=>.inl (.inl h)⟩
      . exact .inr ⟨_,r,λH' h=>.inl (.inr ⟨o,h⟩)⟩
    . exact .inl λ_=>.inr r
   refine⟨_,rfl,l,ns,0,rfl,hS,_,rfl,λt0 ft s R n0 fs H1 mk e1 _ ht0 hft=>?_⟩;obtain⟨n,rfl⟩:=Int.eq_ofNat_of_zero_le (show 0 <= n0 by have:=mk.n1;omega);refine⟨t0,_,rfl,SqT.of ht0,rfl,_,_,rfl,_,_,rfl,_,_,rfl,_,_,rfl,rfl,?_⟩;refine⟨_,rfl,_,rfl,_,rfl,p9,λf0 hf0=>?_⟩;have e3:=ah (o:=.tup []) hf0;have w3:upd H1 f0 (.tup []) f0=dk (.tup []):=a8;generalize upd H1 f0 (.tup [])=H2 at e3 w3 |-;intro y dy ny ndy nedy;refine⟨y,dy,f0,s,R,n,[],rfl,a8,by rw[ac (ag w3 ny),ac (ag w3 ndy)];exact w3,λa1 H3 ha fa Y3 kp3=>⟨rfl,?_⟩⟩;have e4:=e3.trans (nN ny ndy kp3);have S3:=(e1.trans e4).seq hS;subst ha;have hyp:HZ s R n []=yp0 s R n:=rfl;rw[hyp]at Y3;have nol:∀ o,H l=dk o->¬ a1.own l:=λo ho z=>by
    have h2:=e3 _ _ (e1 _ _ ho);by_cases zz:l=a1.y
    . rw[zz,ny]at h2;cases h2
    . have:=(up1 (up1 (fa l z zz)).2).2;rw[h2]at this;cases this
   have hl3:∀ o,H l=dk o->H3 l=dk o:=λo ho=>e4 _ _ (e1 _ _ ho)
   clear e1 e3 w3 e4 kp3 fa ny ndy hf0 hft ht0 hyp;refine⟨p9,λtk htk=>?_⟩;have hl4:∀ o,H l=dk o->l≠tk/\upd H3 tk (.lst []) l=dk o:=λo ho=>⟨ag (hl3 o ho) htk,by rw[ac (ag (hl3 o ho) htk)];exact hl3 o ho⟩
   have f1:=ah (o:=.lst []) htk;have W:Y31 w a (upd H3 tk (.lst [])) a1 s R n YS.zero [] 0:=⟨Y3.same f1,YI.zero _,K31.zero (by have:=mk.s1;omega) mk.s8 mk.R2 (by have:=mk.n9;omega)⟩
   have htk4:upd H3 tk (.lst []) tk=dk (.lst (([]:List Int).map V.int)):=a8;have ntk:¬ a1.own tk:=Y3.fresh htk;have S4:=f1.seq S3;generalize upd H3 tk (.lst [])=H4 at W S4 htk4 hl4 |-;clear f1 htk Y3 S3;refine⟨_,rfl,_,rfl,l,_,rfl,S4,λp1 hp1=>?_⟩;have e5:=ah (o:=.lst (uK (ns.map V.int) (dk 1) IX)) hp1;have v5:upd H4 p1 (.lst (uK (ns.map V.int) (dk 1) IX)) p1=dk (.lst ((ns.drop 1).map V.int)):=by rw[a8,show (dk (1:Int))=dk ((1:Nat):Int) from rfl,qI,List.map_drop]
   generalize upd H4 p1 (.lst (uK (ns.map V.int) (dk 1) IX))=H5 at e5 v5 |-;refine⟨p1,ns.drop 1,60,rfl,v5,by rw[length_drop];omega,λp cs H6 e6 np hcs cl cok=>⟨p,rfl,⟨_,SqL.of hcs⟩,?_⟩⟩;have e56:=e5.trans e6;have W6:=W.same e56;have htk6:=e56 _ _ htk4;have S6:=e56.seq S4;have hl6:∀ o,H l=dk o->H6 l=dk o:=λo ho=>e56 _ _ (hl4 o ho).2
   have np1:¬ a1.own p:=(W.same e5).y.fresh np;have np2:p≠tk:=λz=>by rw[z,e5 _ _ htk4]at np;cases np
   clear W e5 e6 e56 v5 hp1 np htk4;have nl:∀ {H':Hp},KO (λc=>a1.own c\/c=tk) H6 H'->SqL K H' l (ns.map V.int):=λ{H'} ko=>by
    rcases hSk with z|⟨o,ho,z⟩
    . exact z H'
    . refine z H' (ko l o (λz=>?_) (hl6 o ho));rcases z with z|z
      . exact nol o ho z
      . exact(hl4 o ho).1 z
   have n1:1 <= n:=by have:=mk.n1;omega
   clear S6 hl4 hl6 hSk nol hl3;refine nS (K:=K) (a:=p) (xs:=cs.map V.int) (λi σ H7=>∃ (S:YS) (es:List Ev) (ts:List Int),(∃ v7 v8,σ=[dk (.ref l),dk (.int s),dk (.int R),dk (.int n),dk (.ref ft),dk (.ref a1.y),dk (.ref tk),v7,v8,IX,IX,IX])/\Y31 w a H7 a1 s R n S es (2 * i)/\H7 tk=dk (.lst (ts.map V.int))/\ts.length <= 2 * i/\H7 p=dk (.lst (cs.map V.int))/\KO (λc=>a1.own c\/c=tk) H6 H7)
    ⟨_,_,_,⟨_,_,rfl⟩,W6,htk6,Jd _,hcs,KO.refl _ _⟩ (λ_ _ _ _ uq21=>by(obtain⟨_,_,_,_,_,_,_,z,_⟩:=uq21;exact SqL.of z)) ?_ ?_
   . clear W6 hcs htk6;rintro i x σ H7 hi ⟨S,es,ts,⟨v7,v8,rfl⟩,Y,htk,tl,hcs,ko⟩;obtain⟨c,hc,rfl⟩:∃ c,c∈cs/\x=.int c:=by
      rw[JX]at hi;cases e:cs[i]? with
     |none=>rw[e]at hi;cases hi
     |some c=>rw[e]at hi;cases hi;exact⟨c,Ju e,rfl⟩
     have hi60:i < 60:=by have:=(Jp.mp hi).1;rw[Jk]at this;omega
     obtain⟨c0,c1⟩:=cok c hc;clear hi hc;refine⟨_,rfl,_,rfl,c,tk,ts,rfl,c0,c1,htk,λx t H8 xo nt ht8 e8=>?_⟩;obtain⟨fs',_,hfs,K9⟩:=Y.k.out x;refine⟨_,rfl,_,rfl,_,rfl,_,rfl,a1,_,S,2 * i,x,t,rfl,(Y.same e8).rdy (by omega),ht8,xo,λv r H9 Y9 i9 dv9 _ hr9 ko9=>?_⟩;have ko79:KO a1.own H7 H9:=kf (KO.of_same e8) ko9;refine⟨tk,t,r,ts,x,_,_,v,rfl,ko79 _ _ ntk htk,Az ko9 (Y.y.same e8).noT _ _ ht8,hr9,dv9,(λh=>Ep h),by omega,λH10 h10 kp10=>?_⟩;have al:=El (ts:=ts) (x:=x) (key:=(x.out (yp0 s R n) S).1) (d:=(x.out (yp0 s R n) S).2.1);have ko10:KO (·∈[tk]) H9 H10:=λc o n e=>kp10 c o n e
     have nt10:∀ c,c∈[tk]->∀ vs,H9 c≠dk (.tup vs):=λc hc vs e=>by rw[IW.mp hc,ko79 _ _ ntk htk]at e;cases e
     refine⟨_,_,_,⟨_,_,rfl⟩,⟨Y9.ko ko10 (λc h1=>by rw[IW.mp h1];exact ntk) nt10,i9,K9⟩,h10,by omega,kp10 _ _ (λz=>np2 (IW.mp z)) (ko79 _ _ np1 hcs),?_⟩;exact λc o n e=>kp10 c o (λz=>n (.inr (IW.mp z))) (ko79 c o (λz=>n (.inl z)) (ko c o n e))
   . clear W6 hcs htk6;rintro σ H7 ⟨S,es,ts,⟨v7,v8,rfl⟩,Y,htk,tl,hcs,ko⟩;have Y2:Y31 w a H7 a1 s R n S es 200:=Y.mono (by rw[Jk];omega);clear hcs tl htk Y;refine⟨l2,λq nq=>⟨q,rfl,⟨_,SqT.of a8⟩,?_⟩⟩;have e8:=ah (o:=.tup [V.int 0,V.int 1]) nq;have v8':upd H7 q (.tup [V.int 0,V.int 1]) q=dk (.tup [V.int 0,V.int 1]):=a8;generalize upd H7 q (.tup [V.int 0,V.int 1])=H8 at e8 v8' |-;have nq8:¬ a1.own q:=λz=>(Y2.y.same e8).noT q z _ v8'
     refine uV (K:=K) (a:=q) (xs:=[V.int 0,V.int 1]) (λi σ H9=>∃ (S:YS) (es:List Ev),(∃ v9,σ=[dk (.ref l),dk (.int s),dk (.int R),dk (.int n),dk (.ref ft),dk (.ref a1.y),dk (.ref tk),v7,v8,v9,IX,IX])/\Y31 w a H9 a1 s R n S es (200+2 * i)/\H9 q=dk (.tup [V.int 0,V.int 1])/\(0 < i->S.bd f'≠.lies)/\(1 < i->S.bd l'≠.lies)/\KO (λc=>a1.own c\/c=tk) H6 H9)
      ⟨S,es,⟨_,rfl⟩,Y2.same e8,v8',λh=>by omega,λh=>by omega,λc o n e=>e8 _ _ (ko c o n e)⟩ (λ_ _ _ _ uq22=>by(obtain⟨_,_,_,_,z,_⟩:=uq22;exact SqT.of z)) ?_ ?_
     . clear Y2 S es;rintro i x σ H9 hi ⟨S,es,⟨v9,rfl⟩,Y,h9,b0,b1,ko9⟩;obtain⟨b,rfl,hb0,hb1,hi2⟩:∃ b:Bool,x=.int (sdI b)/\(b=f'->i=0)/\(b=l'->i=1)/\i < 2:=by
        match i,hi with
       |0,hi=>cases hi;exact⟨f',rfl,λ_=>rfl,(λz=>by cases z),by decide⟩
       |1,hi=>cases hi;exact⟨l',rfl,(λz=>by cases z),λ_=>rfl,by decide⟩
       |_+2,hi=>cases hi
       refine⟨_,rfl,eS Y.y.ob (dO (by decide +kernel)) ⟨_,rfl,a1,_,S,b,rfl,Y.y,rfl,_,rfl,?_⟩⟩;by_cases hb:S.bd b=.lies
       . refine iI (Pd (by rw[hb];rfl)) ?_;refine⟨_,rfl,eS Y.y.ob (dO (by decide +kernel)) ⟨_,rfl,l2,λt ht=>?_⟩⟩;have e10:=ah (o:=.tup [V.str "look",V.int (sdI b)]) ht;have v10:upd H9 t (.tup [V.str "look",V.int (sdI b)]) t=dk (.tup [V.str "look",V.int (sdI b)]):=a8;generalize upd H9 t (.tup [V.str "look",V.int (sdI b)])=H10 at e10 v10 |-;have hc:(Dd.look b).chk (yp0 s R n) S=IX:=Pa hb;obtain⟨_,K11,l1,l2'⟩:=Y.k.look hb;rw[Dd.out_none hc]at K11 l1 l2';dsimp only at K11 l1 l2';refine⟨a1,_,S,200+2 * i,.look b,t,rfl,(Y.same e10).rdy (by omega),v10,trivial,?_⟩;rw[hc];intro v H11 Y11 i11 _ ko11;have ko911:KO a1.own H9 H11:=kf (KO.of_same e10) ko11;refine⟨_,es,⟨_,rfl⟩,⟨Y11,i11,K11⟩,ko911 _ _ nq8 h9,λh=>?_,λh=>?_,λc o n e=>ko911 c o (λz=>n (.inl z)) (ko9 c o n e)⟩
         . cases b with
          |false=>exact l1
          |true =>
            have l3':((Dd.look l').run (yp0 s R n) S).2.bd f'=S.bd f':=l2';rw[l3'];exact b0 (by have:=hb1 rfl;omega)
         . cases b with
          |false=>have:=hb0 rfl;omega
          |true=>exact l1
       . refine cT (by rw[Pc];exact sne (λz=>hb (uH z))) ?_;refine⟨S,es,⟨_,rfl⟩,Y.mono (by omega),h9,λh=>?_,λh=>?_,ko9⟩
         . cases b with
          |false=>exact hb
          |true=>exact b0 (by have:=hb1 rfl;omega)
         . cases b with
          |false=>have:=hb0 rfl;omega
          |true=>exact hb
     . clear Y2 S es;rintro σ H9 ⟨S,es,⟨v9,rfl⟩,Y,_,b0,b1,ko9⟩;have nly:∀ c,S.bd c≠.lies:=λc=>by cases c;exact b0 (by decide);exact b1 (by decide)
       clear b0 b1 nq8 v8' e8 ko nq;refine⟨λb H'=>H'=H9/\b=(decide (V.str (S.bd f').key=V.str "asleep") && decide (V.str (S.bd l').key=V.str "asleep")),?_,?_⟩
       . refine⟨_,rfl,eS Y.y.ob (dO (by decide +kernel)) ⟨a1,_,S,f',rfl,Y.y,rfl,_,rfl,?_⟩⟩;cases hw:decide (V.str (S.bd f').key=V.str "asleep") with
        |false=>exact dY ⟨rfl,rfl⟩
        |true=>exact gJ ⟨_,rfl,eS Y.y.ob (dO (by decide +kernel)) ⟨a1,_,S,l',rfl,Y.y,rfl,_,rfl,rfl,rfl⟩⟩
       rintro b H' ⟨rfl,rfl⟩;have sk:∀ c,decide (V.str (S.bd c).key=V.str "asleep")=decide (S.bd c=.asleep):=λc=>by
        by_cases z:S.bd c=.asleep
        . rw[Pd z,z];exact Pd rfl
        . rw[decide_eq_false z];exact decide_eq_false (sne (λy=>z (uH y)))
       rw[sk,sk];by_cases hsl:S.bd f'=.asleep/\S.bd l'=.asleep
       . refine iI (by rw[Pd hsl.1,Pd hsl.2];rfl) ?_;have als:∀ c,S.bd c=.asleep:=λc=>by cases c;exact hsl.1;exact hsl.2
         have tk9:=Y.k.q.q.tkd.len (by omega);refine⟨l2,λq nq=>⟨q,rfl,⟨_,SqT.of a8⟩,λD hD=>?_⟩⟩;have e10:=ah (o:=.tup [V.int 0,V.int 1]) nq;have v10:upd H' q (.tup [V.int 0,V.int 1]) q=dk (.tup [V.int 0,V.int 1]):=a8;generalize upd H' q (.tup [V.int 0,V.int 1])=H10 at e10 v10 hD |-;have dl:∀ i,(drL S i).length <= 2:=λi=>by
          unfold drL;rw[Jk];refine JT (Lf _ _) ?_;rw[JK];exact Nat.min_le_right _ _
         refine⟨λi mm ys H'=>i <= 2/\mm=2 - i/\Jv (TD H') (drL S i) ys/\H' D=dk (.lst ys)/\∀ c o,c≠D->H10 c=dk o->H' c=dk o,⟨_,Kq _,rfl,.nil,a8,λc o n e=>by rw[ac n];exact e⟩,?_⟩;rintro i mm ys H11 ⟨hi,rfl,td,hD11,k11⟩;have e11:c9 H10 H11:=λc o e=>k11 c o (λy=>by rw[y,hD]at e;cases e) e
         have E11:=e10.trans e11;have yl:=be td;have dli:=dl i;refine⟨hD11,Jf (show _ < 1000 by omega) (by decide),?_⟩;have Y11:=Y.same E11;by_cases hii:i=2
         . refine .inl ⟨⟨_,SqT.of (e11 _ _ v10),by show 2 <= i;omega⟩,?_⟩;subst hii;refine⟨_,rfl,eS Y11.y.ob (dO (by decide +kernel)) ⟨l2,λwl nwl=>?_⟩⟩;have e12:=ah (o:=.lst [V.int 0,V.int 5]) nwl;have v12:upd H11 wl (.lst [V.int 0,V.int 5]) wl=dk (.lst [V.int 0,V.int 5]):=a8;generalize upd H11 wl (.lst [V.int 0,V.int 5])=H12 at e12 v12 |-;refine⟨a1,_,S,wl,[0,5],rfl,(Y11.same e12).y,Y.k.q.q.ok,v12,by decide,(by decide),by omega,λlc ks ts H13 _ _ _ e13 hlc td13=>⟨_,rfl,?_⟩⟩;rw[xc als]at td13;have ly:=FO (drL S 2);exact⟨.ref lc,.ref D,.list ((drL S 2).map Dd.dat),rfl,⟨lc,ts,rfl,hlc,zX td13⟩,⟨D,ys,rfl,e13 _ _ (e12 _ _ hD11),zX (mz (λb vs e=>e13 _ _ (e12 _ _ e)) td)⟩,ly.1,ly.2,λH14 _=>k _⟩
         . obtain⟨b,hb,hdr⟩:∃ b:Bool,[V.int 0,V.int 1][i]?=dk (.int (sdI b))/\drL S (i+1)=drL S i++(if (S.rs b).isEmpty then [] else [.drain b]):=by
            match i,hi,hii with
           |0,_,_=>refine⟨f',rfl,?_⟩;unfold drL;simp only[List.take,J0,filter_nil];cases (S.rs f').isEmpty<;>rfl
           |1,_,_=>refine⟨l',rfl,?_⟩;unfold drL;simp only[List.take,J0,filter_nil];cases (S.rs f').isEmpty<;>cases (S.rs l').isEmpty<;>rfl
           |k+2,h1,h2=>exact absurd (by omega) h2
           refine .inr ⟨⟨_,_,SqT.of (e11 _ _ v10),hb⟩,?_⟩;rintro v H12 ⟨rfl,hv⟩;have hv:=hv _ (SqT.of (e11 _ _ v10));rw[hb]at hv;cases hv;refine⟨_,rfl,eS Y11.y.ob (dO (by decide +kernel)) ⟨a1,_,S,rfl,Y11.y,eS Y11.y.x.st.ob (cq (by decide +kernel) (by decide +kernel)) ⟨_,rfl,a1.sa,S.m,S.rs,b,rfl,Y11.y.x.st,λpw tw hpw dvw=>⟨p9,λq2 nq2=>⟨pw,q2,tw,rfl,rfl,SqL.of (ah nq2 _ _ a8),SqL.of a8,_,rfl,?_⟩⟩⟩⟩⟩;have wl:=mf dvw;rw[Jk]at wl;have e13:=(ah (o:=.lst tw) hpw).trans (ah (o:=.lst []) nq2);generalize upd (upd _ pw (.lst tw)) q2 (.lst [])=H13 at e13 |-;rw[Pa rfl];cases tw with
          |nil =>
            have:S.rs b=[]:=length_eq_zero_iff.mp wl.symm;rw[this]at hdr;rw[show (if (([]:List Wr).isEmpty)=l' then ([]:List Dd) else [.drain b])=[] from rfl,Jw]at hdr;refine dY ⟨_,by omega,by omega,rfl,?_,e13 _ _ hD11,λc o n e=>e13 _ _ (k11 c o n e)⟩;rw[hdr];exact mz (λb vs e=>e13 _ _ e) td
          |cons z zr =>
            have hne:(S.rs b).isEmpty=f':=by
             cases hr:S.rs b with
            |nil=>rw[hr]at wl;cases wl
            |cons _ _=>rfl
            rw[hne,Pb (by decide)]at hdr;refine gJ ⟨_,rfl,l2,λt nt=>?_⟩;have e14:=ah (o:=.tup [V.str "drain",V.int (sdI b)]) nt;have nD:D≠t:=ag (e13 _ _ hD11) nt;have tu:∀ b' vs,H13 b'=dk (.tup vs)->upd (upd H13 t (.tup [V.str "drain",V.int (sdI b)])) D (.lst (ys++[.ref t])) b'=dk (.tup vs):=λb' vs e=>by
             rw[ac (λz=>by rw[z,e13 _ _ hD11]at e;cases e)];exact e14 _ _ e
            refine⟨e14 _ _ (e13 _ _ hD11),_,?_,?_,rfl,?_,a8,λc o n e=>by rw[ac n];exact e14 _ _ (e13 _ _ (k11 c o n e))⟩
            . omega
            . omega
            . rw[hdr];exact fG (mz (λb' vs e=>tu _ _ (e13 _ _ e)) td) (.cons ⟨t,rfl,by rw[ac (λz=>nD z.symm)];exact a8⟩ .nil)
       . refine cT (by rw[Kn,Pc,Pc];exact hsl) ?_;have ex:∃ c,S.bd c=.up:=by
          rcases vT (S.bd f') with z|z|z
          . exact⟨f',z⟩
          . exact absurd z (nly _)
          . rcases vT (S.bd l') with y|y|y
            . exact⟨l',y⟩
            . exact absurd y (nly _)
            . exact absurd ⟨z,y⟩ hsl
         have I0:∀ f,LpI s R n f 0 S es:=λf=>⟨Y.k,nly,ex⟩
         clear hsl sk nly ex;obtain⟨f,hf⟩:∃ f:Bool,f=decide (jF ns 1 % 2=0):=⟨_,rfl⟩
         have c2:f=l'/\jF ns 1 % 2=0\/f=f'/\jF ns 1 % 2=1:=by
          by_cases z:jF ns 1 % 2=0
          . exact .inl ⟨by rw[hf];exact Pd z,z⟩
          . exact .inr ⟨by rw[hf];exact decide_eq_false z,by omega⟩
         clear hf;refine⟨14,rfl,by decide,by decide,?_⟩;refine hX (λj σ H10=>∃ (S:YS) (es:List Ev),(∃ v11,σ=[dk (.ref l),dk (.int s),dk (.int R),dk (.int n),dk (.ref ft),dk (.ref a1.y),dk (.ref tk),v7,v8,v9,IX,v11])/\Y31 w a H10 a1 s R n S es (1000+300 * j)/\LpI s R n f j S es/\KO (λc=>a1.own c\/c=tk) H6 H10)
          ⟨S,es,⟨_,rfl⟩,Y.mono (by decide),I0 f,ko9⟩ ?_ ?_
         . clear Y I0 S es ko9;rintro j σ H10 hj ⟨S,es,⟨v11,rfl⟩,Y,I,ko⟩;have hj14:j < 14:=hj;have nly:=I.nl;refine⟨λσ' H'=>σ'=[dk (.ref l),dk (.int s),dk (.int R),dk (.int n),dk (.ref ft),dk (.ref a1.y),dk (.ref tk),v7,v8,v9,IX,dk (.int (0+(j:Int)))]/\∃ (S1:YS) (es1:List Ev),Y31 w a H' a1 s R n S1 es1 (1100+300 * j)/\(f=l'->HWo s R n S es S1 es1)/\(f=f'->S1=S/\es1=es)/\KO (λc=>a1.own c\/c=tk) H6 H',?_,?_⟩
           . refine⟨_,rfl,l,ns,1,rfl,nl ko,_,_,rfl,rfl,(show (0:Int) < 2 from by decide),rfl,_,rfl,?_⟩;rcases c2 with⟨rfl,c2⟩|⟨rfl,c2⟩
             . refine iI (Pd (by show V.int (jF ns 1 % 2)=V.int 0;rw[c2])) ?_;refine⟨_,rfl,a1,s,R,n,S,es,_,rfl,Y,by omega,nly l',λS1 es1 H' Y1 ko1 h1 h2=>?_⟩;exact⟨rfl,S1,es1,Y1.mono (by omega),λ_=>⟨h1,h2⟩,λz=>(by cases z),λc o n e=>ko1 c o (λz=>n (.inl z)) (ko c o n e)⟩
             . refine cT (by rw[Pc];intro z;have:=iD z;omega) ?_;exact⟨rfl,S,es,Y.mono (by omega),λz=>(by cases z),λ_=>⟨rfl,rfl⟩,ko⟩
           rintro σ' H11 ⟨rfl,S1,es1,Y1,h1,h2,ko1⟩;have nly1:∀ c,S1.bd c≠.lies:=by
            rcases c2 with⟨rfl,_⟩|⟨rfl,_⟩
            . exact(h1 rfl).nl nly
            . rw[(h2 rfl).1];exact nly
           refine⟨_,rfl,a1,s,R,n,S1,es1,_,rfl,Y1,by omega,nly1 f',λS2 es2 H12 Y2 ko2 t1 t2=>?_⟩;have W2:TWo s R n S1 es1 S2 es2:=⟨t1,t2⟩
           have ko12:KO (λc=>a1.own c\/c=tk) H6 H12:=λc o n e=>ko2 c o (λz=>n (.inl z)) (ko1 c o n e)
           refine⟨_,rfl,l,ns,1,rfl,nl ko12,_,_,rfl,rfl,(show (0:Int) < 2 from by decide),rfl,_,rfl,?_⟩;rcases c2 with⟨rfl,c2⟩|⟨rfl,c2⟩
           . refine cT (by rw[Pc];intro z;have:=iD z;omega) ?_;exact⟨S2,es2,⟨_,rfl⟩,Y2.mono (by omega),DB I (h1 rfl) W2,ko12⟩
           . refine iI (Pd (by show V.int (jF ns 1 % 2)=V.int 1;rw[c2])) ?_;obtain⟨rfl,rfl⟩:=h2 rfl;refine⟨_,rfl,a1,s,R,n,S2,es2,_,rfl,Y2,by omega,W2.nl nly l',λS3 es3 H13 Y3 ko3 u1 u2=>?_⟩;exact⟨S3,es3,⟨_,rfl⟩,Y3.mono (by omega),G5 I W2 ⟨u1,u2⟩,λc o n e=>ko3 c o (λz=>n (.inl z)) (ko12 c o n e)⟩
         . clear Y I0 S es ko9;rintro σ H10 ⟨S,es,⟨v11,rfl⟩,Y,I,ko⟩;have nly:=I.nl;have Y:Y31 w a H10 a1 s R n S es 6000:=Y.mono (by show 1000+300 * (14:Int).toNat <= 6000;decide);refine⟨_,rfl,a1,s,R,n,S,es,_,rfl,Y,by omega,nly l',λS1 es1 H11 Y1 ko1 h1 h2=>?_⟩;have W1:HWo s R n S es S1 es1:=⟨h1,h2⟩
           refine⟨_,rfl,a1,s,R,n,S1,es1,_,rfl,Y1,by omega,W1.nl nly f',λS2 es2 H12 Y2 ko2 t1 t2=>?_⟩;have W2:TWo s R n S1 es1 S2 es2:=⟨t1,t2⟩
           refine⟨_,rfl,a1,s,R,n,S2,es2,_,rfl,Y2,by omega,W2.nl (W1.nl nly) l',λS3 es3 H13 Y3 _ u1 u2=>?_⟩;have Gf:=Gk I W1 W2 ⟨u1,u2⟩;clear I W1 W2 h1 h2 t1 t2 u1 u2 Y Y1 Y2 ko ko1 ko2 nly;obtain⟨un0,tk0⟩:=Gf.fin;have hhs:=Gf.k.q.q.q.hs;have el:es3.length < 90000:=by
            have h:=Y3.i.hl;rw[hhs,Jk]at h;omega
           refine⟨λb H'=>b=f'/\c9 H13 H',?_,?_⟩
           . refine⟨_,rfl,eS Y3.y.ob (dO (by decide +kernel)) ⟨a1,_,S3,rfl,Y3.y,by rw[un0];decide,by rw[tk0];decide,λtq us ks vs H14 pu su pk sk _ e14 htq dvq=>?_⟩⟩;rw[un0]at pu;rw[tk0]at pk;have us0:=Ly.eq_nil pu;have ks0:=Ly.eq_nil pk;subst us0 ks0;obtain⟨b0,vs0,eb,hb0,w0,r0,rfl,d0,w1,r1,rfl,d1,w2,r2,rfl,d2,w3,r3,rfl,d3,w4,r4,rfl,d4,w5,r5,rfl,d5,w6,r6,rfl,d6,rfl⟩:=dvq;cases eb;refine⟨_,rfl,tq,_,rfl,SqT.of hb0,(by show ¬ (HT.sIx 7 0 (dk 1)=0/\HT.sIx 7 7 IX=7);decide),λpp npp=>?_⟩;have f1:=ah (o:=.tup (uK [w0,w1,w2,w3,w4,w5,w6] (dk 1) IX)) npp;have g1:upd H14 pp (.tup (uK [w0,w1,w2,w3,w4,w5,w6] (dk 1) IX)) pp=dk (.tup [w1,w2,w3,w4,w5,w6]):=a8;generalize upd H14 pp (.tup (uK [w0,w1,w2,w3,w4,w5,w6] (dk 1) IX))=H15 at f1 g1 |-;refine⟨p9,λq1 n1'=>⟨p9,λq2 n2'=>⟨p9,λq3 n3'=>⟨p9,λq4 n4'=>⟨by show 6 <= Je;decide,λtt ntt=>?_⟩⟩⟩⟩⟩;have k1:=ah (o:=.tup []) n1';have k2:=ah (o:=.tup []) n2';have k3:=ah (o:=.tup []) n3';have k4:=ah (o:=.tup []) n4';have k5:=ah (o:=.tup [V.ref q1,V.ref q2,V.ref q3,V.ref q4,V.str "up",V.str "up"]) ntt;have z1:=k5 _ _ (k4 _ _ (k3 _ _ (k2 _ _ (a8 (H:=H15) (a:=q1) (o:=.tup [])))));have z2:=k5 _ _ (k4 _ _ (k3 _ _ (a8 (a:=q2) (o:=.tup []))));have z3:=k5 _ _ (k4 _ _ (a8 (a:=q3) (o:=.tup [])));have z4:=k5 _ _ (a8 (a:=q4) (o:=.tup []));have z5:=a8 (H:=upd (upd (upd (upd H15 q1 (.tup [])) q2 (.tup [])) q3 (.tup [])) q4 (.tup [])) (a:=tt) (o:=.tup [V.ref q1,V.ref q2,V.ref q3,V.ref q4,V.str "up",V.str "up"]);have kk:=f1.trans (k1.trans (k2.trans (k3.trans (k4.trans k5))));have g1:=k5 _ _ (k4 _ _ (k3 _ _ (k2 _ _ (k1 _ _ g1))));clear k1 k2 k3 k4 k5;generalize upd (upd (upd (upd (upd H15 q1 _) q2 _) q3 _) q4 _) tt _=H16 at z1 z2 z3 z4 z5 kk g1 |-;have tu:∀ b vs,H14 b=dk (.tup vs)->H16 b=dk (.tup vs):=λb vs e=>kk b _ e
             rw[Gf.r f']at d1;rw[Gf.r l']at d2;rw[Gf.up f']at d5;rw[Gf.up l']at d6;have kt:Kt5 (.tuple [Ea [],Ea [],AU [],AU [],.str Bd.up.key,.str Bd.up.key]):=.tup λd hd=>by
              simp only[Jx,JW,or_false]at hd;rcases hd with rfl|rfl|rfl|rfl|rfl|rfl
              . exact Kt.row _
              . exact Kt.row _
              . exact Kt.ints _
              . exact Kt.ints _
              . exact Kt.bed _
              . exact Kt.bed _
             have nil:∀ {q:G'},H16 q=dk (.tup [])->DV H16 (.tuple []) (.ref q):=λh=>⟨_,_,rfl,h,rfl⟩
             refine⟨.ref pp,.ref tt,.tuple [Ea [],Ea [],AU [],AU [],.str Bd.up.key,.str Bd.up.key],rfl,
              ⟨pp,_,rfl,g1,_,_,rfl,DV.keep tu _ _ (Kt.row _).1 d1,_,_,rfl,DV.keep tu _ _ (Kt.row _).1 d2,_,_,rfl,DV.keep tu _ _ (Kt.ints _).1 d3,_,_,rfl,DV.keep tu _ _ (Kt.ints _).1 d4,_,_,rfl,d5,_,_,rfl,d6,rfl⟩,
              ⟨tt,_,rfl,z5,_,_,rfl,nil z1,_,_,rfl,nil z2,_,_,rfl,nil z3,_,_,rfl,nil z4,_,_,rfl,rfl,_,_,rfl,rfl,rfl⟩,kt.lay.1,kt.lay.2,λH17 e17=>⟨_,rfl,dY ?_⟩⟩
             have E17:=e14.trans (kk.trans e17);have Y17:=Y3.same E17;refine⟨_,rfl,eS Y17.y.ob (dO (by decide +kernel)) ⟨a1,_,S3,rfl,Y17.y,λlf tsf hlf dvf=>?_⟩⟩;have e18:=ah (o:=.lst tsf) hlf;have dvf':=DVs.fl (λb vs e=>e18 b _ e) Y17.y.fl dvf;rw[hhs]at dvf';refine⟨lf,tsf,s,R,n,S3,es3,rfl,a8,AK dvf',el,Gf.k.q,un0,λH19 e19=>⟨_,rfl,rfl,E17.trans (e18.trans e19)⟩⟩
           rintro b H14 ⟨rfl,e14⟩;refine dY ?_;have Y4:=Y3.same e14;clear Y3 e14;obtain⟨hc,a1',a2',a3'⟩:=Gf.ask n1 5;refine⟨_,rfl,eS Y4.y.ob (dO (by decide +kernel)) ⟨l2,λt ht=>?_⟩⟩;have e15:=ah (o:=.tup [V.str "ask",V.int 5]) ht;have v15:upd H14 t (.tup [V.str "ask",V.int 5]) t=dk (.tup [V.str "ask",V.int 5]):=a8;generalize upd H14 t (.tup [V.str "ask",V.int 5])=H15 at e15 v15 |-;refine⟨a1,_,S3,_,.ask 5,t,rfl,(Y4.same e15).rdy (by omega),v15,⟨by decide,by decide⟩,?_⟩;rw[hc];intro v H16 Y16 i16 dv16 _;rw[a1']at dv16;cases dv16;refine⟨.int 0,.int 0,rfl,rfl,rc.int _,rc.int _,_,rfl,?_⟩;refine iI (show (if f'=l' then !(IV.int 0).eqv (.int 0) else (IV.int 0).eqv (.int 0))=l' by rw[Pb (by decide),ED (rc.int _)]) ?_;refine⟨_,rfl,eS Y16.ob (dO (by decide +kernel)) ⟨a1,_,_,rfl,Y16,by rw[a2'];decide,by rw[a3'];decide,λtq us ks vs H17 pu su _ _ _ e17 htq dvq=>?_⟩⟩;rw[a2']at pu;have us0:=List.perm_singleton.mp pu;subst us0;obtain⟨b0,vs0,eb,hb0,w0,r0,rfl,d0,w1,r1,rfl,d1,w2,r2,rfl,d2,w3,r3,rfl,d3,w4,r4,rfl,d4,w5,r5,rfl,d5,w6,r6,rfl,d6,rfl⟩:=dvq;cases eb;refine⟨tq,_,_,_,rfl,rfl,SqT.of hb0,rfl,by show 1 <= Je;decide,λtt ntt=>?_⟩;have e18:=ah (o:=.tup [V.int 0]) ntt;have tu:∀ b vs,H17 b=dk (.tup vs)->upd H17 tt (.tup [V.int 0]) b=dk (.tup vs):=λb vs e=>e18 b _ e
           have kt:Kt5 (AU [0]):=⟨(Kt.ints _).1,by have:=(Kt.ints [0]).2;omega⟩
           exact⟨w3,.ref tt,AU [0],rfl,DV.keep tu _ _ (Kt.ints _).1 d3,⟨tt,_,rfl,a8,_,_,rfl,rfl,rfl⟩,kt.lay.1,kt.lay.2,λH19 _=>k _⟩
def FnA (K:Ja) (f:G') (x q:Str) (st:JY):Prop:=∃ fd,Fun K x q st f fd
def NsA (K:Ja) (f:G') (x:Str) (st:JY):Prop:=nsIn K JO x=dk (dk (.ref f))/\FnA K f x x st
def MtA (K:Ja) (C f:G') (x q:Str) (st:JY):Prop:=findIn K (.ref C) x=dk (dk (.ref f))/\isFn K (.ref f)=l'/\FnA K f x q st
def ClA (K:Ja) (C:G') (x:Str):Prop:=nsIn K JO x=dk (dk (.ref C))/\Cls K C/\makesIn K C=l'/\keepIn K (.ref C)=l'
def EU (K:Ja) (C:G'):List Str->Prop
|[]=>True
|f :: r=>bb K C f/\EU K C r
def HV (K:Ja):List Str->Prop
|[]=>True
|f :: r=>nsIn K JO f=dk IX/\HV K r
section
variable {K:Ja}{h:JD}{mg:Str->Option IU}{f C:G'}{x q:Str}{st:JY}
def cQ (X:K.In h) (G:h.Ns JO mg) (l:NsA K f x st):mg x=dk (.ref f)/\∃ fd,Fun K x x st f fd:=⟨mg_of X G l.1,l.2⟩
def aW (l:MtA K C f x q st):Meth K C x f/\∃ fd,Fun K x q st f fd:=by
 obtain⟨a,i,fd,F⟩:=l;exact⟨⟨a,i,F.kp⟩,fd,F⟩
def tH (X:K.In h) (G:h.Ns JO mg) (l:ClA K C x) (m:MtA K C f "__init__" q st):mg x=dk (.ref C)/\Cls K C/\Mk K C f:=⟨mg_of X G l.1,l.2.1,l.2.2.1,m.1,m.2.1,l.2.2.2⟩
end
def bnc {n:Nat}{us:List IU}(h:us.length=n+1):∃ u vs,us=u :: vs/\vs.length=n:=by
 cases us
 . cases h
 . exact⟨_,_,rfl,Nat.succ.inj h⟩
def bn1 {K:Ja}{f:G'}{x q:Str}{st:JY}{fd:Ji}(F:Fun K x q st f fd) (p0:Str) (h:∀ (kV doc pm:IU) (an:Option G') (cdv ct:IU) (u0:IU),bindArgs (fnOf x q (fX st) (eC st) (ai st) .none kV doc pm an cdv ct) ⟨[u0],[]⟩=pure ([p0].zip [u0])):aD K fd [p0] []:=F.binds λa b c d e g us hl=>by (obtain⟨u0,t0,rfl,j0⟩:=bnc hl;obtain rfl:=length_eq_zero_iff.mp j0;exact h a b c d e g u0)
def bn2 {K:Ja}{f:G'}{x q:Str}{st:JY}{fd:Ji}(F:Fun K x q st f fd) (p0 p1:Str) (h:∀ (kV doc pm:IU) (an:Option G') (cdv ct:IU) (u0 u1:IU),bindArgs (fnOf x q (fX st) (eC st) (ai st) .none kV doc pm an cdv ct) ⟨[u0,u1],[]⟩=pure ([p0,p1].zip [u0,u1])):aD K fd [p0,p1] []:=F.binds λa b c d e g us hl=>by (obtain⟨u0,t0,rfl,j0⟩:=bnc hl;obtain⟨u1,t1,rfl,j1⟩:=bnc j0;obtain rfl:=length_eq_zero_iff.mp j1;exact h a b c d e g u0 u1)
def bn3 {K:Ja}{f:G'}{x q:Str}{st:JY}{fd:Ji}(F:Fun K x q st f fd) (p0 p1 p2:Str) (h:∀ (kV doc pm:IU) (an:Option G') (cdv ct:IU) (u0 u1 u2:IU),bindArgs (fnOf x q (fX st) (eC st) (ai st) .none kV doc pm an cdv ct) ⟨[u0,u1,u2],[]⟩=pure ([p0,p1,p2].zip [u0,u1,u2])):aD K fd [p0,p1,p2] []:=F.binds λa b c d e g us hl=>by (obtain⟨u0,t0,rfl,j0⟩:=bnc hl;obtain⟨u1,t1,rfl,j1⟩:=bnc j0;obtain⟨u2,t2,rfl,j2⟩:=bnc j1;obtain rfl:=length_eq_zero_iff.mp j2;exact h a b c d e g u0 u1 u2)
def bn4 {K:Ja}{f:G'}{x q:Str}{st:JY}{fd:Ji}(F:Fun K x q st f fd) (p0 p1 p2 p3:Str) (h:∀ (kV doc pm:IU) (an:Option G') (cdv ct:IU) (u0 u1 u2 u3:IU),bindArgs (fnOf x q (fX st) (eC st) (ai st) .none kV doc pm an cdv ct) ⟨[u0,u1,u2,u3],[]⟩=pure ([p0,p1,p2,p3].zip [u0,u1,u2,u3])):aD K fd [p0,p1,p2,p3] []:=F.binds λa b c d e g us hl=>by (obtain⟨u0,t0,rfl,j0⟩:=bnc hl;obtain⟨u1,t1,rfl,j1⟩:=bnc j0;obtain⟨u2,t2,rfl,j2⟩:=bnc j1;obtain⟨u3,t3,rfl,j3⟩:=bnc j2;obtain rfl:=length_eq_zero_iff.mp j3;exact h a b c d e g u0 u1 u2 u3)
def bn5 {K:Ja}{f:G'}{x q:Str}{st:JY}{fd:Ji}(F:Fun K x q st f fd) (p0 p1 p2 p3 p4:Str) (h:∀ (kV doc pm:IU) (an:Option G') (cdv ct:IU) (u0 u1 u2 u3 u4:IU),bindArgs (fnOf x q (fX st) (eC st) (ai st) .none kV doc pm an cdv ct) ⟨[u0,u1,u2,u3,u4],[]⟩=pure ([p0,p1,p2,p3,p4].zip [u0,u1,u2,u3,u4])):aD K fd [p0,p1,p2,p3,p4] []:=F.binds λa b c d e g us hl=>by (obtain⟨u0,t0,rfl,j0⟩:=bnc hl;obtain⟨u1,t1,rfl,j1⟩:=bnc j0;obtain⟨u2,t2,rfl,j2⟩:=bnc j1;obtain⟨u3,t3,rfl,j3⟩:=bnc j2;obtain⟨u4,t4,rfl,j4⟩:=bnc j3;obtain rfl:=length_eq_zero_iff.mp j4;exact h a b c d e g u0 u1 u2 u3 u4)
def bn6 {K:Ja}{f:G'}{x q:Str}{st:JY}{fd:Ji}(F:Fun K x q st f fd) (p0 p1 p2 p3 p4 p5:Str) (h:∀ (kV doc pm:IU) (an:Option G') (cdv ct:IU) (u0 u1 u2 u3 u4 u5:IU),bindArgs (fnOf x q (fX st) (eC st) (ai st) .none kV doc pm an cdv ct) ⟨[u0,u1,u2,u3,u4,u5],[]⟩=pure ([p0,p1,p2,p3,p4,p5].zip [u0,u1,u2,u3,u4,u5])):aD K fd [p0,p1,p2,p3,p4,p5] []:=F.binds λa b c d e g us hl=>by (obtain⟨u0,t0,rfl,j0⟩:=bnc hl;obtain⟨u1,t1,rfl,j1⟩:=bnc j0;obtain⟨u2,t2,rfl,j2⟩:=bnc j1;obtain⟨u3,t3,rfl,j3⟩:=bnc j2;obtain⟨u4,t4,rfl,j4⟩:=bnc j3;obtain⟨u5,t5,rfl,j5⟩:=bnc j4;obtain rfl:=length_eq_zero_iff.mp j5;exact h a b c d e g u0 u1 u2 u3 u4 u5)
def bn7 {K:Ja}{f:G'}{x q:Str}{st:JY}{fd:Ji}(F:Fun K x q st f fd) (p0 p1 p2 p3 p4 p5 p6:Str) (h:∀ (kV doc pm:IU) (an:Option G') (cdv ct:IU) (u0 u1 u2 u3 u4 u5 u6:IU),bindArgs (fnOf x q (fX st) (eC st) (ai st) .none kV doc pm an cdv ct) ⟨[u0,u1,u2,u3,u4,u5,u6],[]⟩=pure ([p0,p1,p2,p3,p4,p5,p6].zip [u0,u1,u2,u3,u4,u5,u6])):aD K fd [p0,p1,p2,p3,p4,p5,p6] []:=F.binds λa b c d e g us hl=>by (obtain⟨u0,t0,rfl,j0⟩:=bnc hl;obtain⟨u1,t1,rfl,j1⟩:=bnc j0;obtain⟨u2,t2,rfl,j2⟩:=bnc j1;obtain⟨u3,t3,rfl,j3⟩:=bnc j2;obtain⟨u4,t4,rfl,j4⟩:=bnc j3;obtain⟨u5,t5,rfl,j5⟩:=bnc j4;obtain⟨u6,t6,rfl,j6⟩:=bnc j5;obtain rfl:=length_eq_zero_iff.mp j6;exact h a b c d e g u0 u1 u2 u3 u4 u5 u6)
def all_mk {l:PySem.W.OpenLaw}{w:Jj}{K:Ja}{h:JD}{mg:Str->Option IU}{fa:G'}(X:K.In h) (G:h.Ns JO mg) (hfa:mg "law"=dk (.ref fa))
 {f_z0 f_z1 f_z2 f_z3 f_z4 f_z5 f_z6 f_z7 f_z8 f_z9 f_z10 f_z11 f_z12 f_z13 f_z14 f_z15 f_z16 f_z17 f_z18 f_z19 f_z20 f_z21 f_z22 f_z23 f_z24 f_z25 f_z26 f_z27 f_z28 f_z29 f_z30 f_z31 f_z32 f_z33 f_z34 f_z35 f_z36 f_z37 f_z38 f_z39 f_z40 f_z41 f_z42 f_z43 f_z44 f_z45 f_z46 f_z47 f_z48 f_z49 f_z50 f_z51 f_z52 f_z53 f_z54 f_z55 f_z56 f_z57 f_z58 f_z59 f_z60 f_z61 f_z62 f_z63 f_z64 f_z65 f_z66 C_Ring C_Hand C_Heart C_Store C_Yard C_RingError C_Full C_NoName C_NoTask C_NoDeed ki dc aP kY fR fV gc fY fJ ge fT fW:G'}
 {tod_ASKS:Option G'} {tsl_ASKS:Array (Option IU)} {tn_ASKS:Nat} {tt0_ASKS tt1_ASKS tt2_ASKS:Tok}
 {tod_ANSWERS:Option G'} {tsl_ANSWERS:Array (Option IU)} {tn_ANSWERS:Nat} {tt0_ANSWERS tt1_ANSWERS tt2_ANSWERS:Tok}
 {tod_SLEEP_CELLS:Option G'} {tsl_SLEEP_CELLS:Array (Option IU)} {tn_SLEEP_CELLS:Nat} {tt0_SLEEP_CELLS tt1_SLEEP_CELLS:Tok}
 {ti_MOST_WORTH:Tok}
 {tep_FORMS:Nat} {th0_FORMS th1_FORMS th2_FORMS th3_FORMS th4_FORMS th5_FORMS th6_FORMS th7_FORMS:Int} {tk0_FORMS tk1_FORMS tk2_FORMS tk3_FORMS tk4_FORMS tk5_FORMS tk6_FORMS tk7_FORMS:Tok}
 {vod0_FORMS:Option G'} {vsl0_FORMS:Array (Option IU)} {vn0_FORMS:Nat} {vt0_0_FORMS:Tok}
 {vod1_FORMS:Option G'} {vsl1_FORMS:Array (Option IU)} {vn1_FORMS:Nat}
 {vod2_FORMS:Option G'} {vsl2_FORMS:Array (Option IU)} {vn2_FORMS:Nat}
 {vod3_FORMS:Option G'} {vsl3_FORMS:Array (Option IU)} {vn3_FORMS:Nat} {vt3_0_FORMS vt3_1_FORMS:Tok}
 {vod4_FORMS:Option G'} {vsl4_FORMS:Array (Option IU)} {vn4_FORMS:Nat} {vt4_0_FORMS:Tok}
 {vod5_FORMS:Option G'} {vsl5_FORMS:Array (Option IU)} {vn5_FORMS:Nat} {vt5_0_FORMS:Tok}
 {vod6_FORMS:Option G'} {vsl6_FORMS:Array (Option IU)} {vn6_FORMS:Nat} {vt6_0_FORMS:Tok}
 {vod7_FORMS:Option G'} {vsl7_FORMS:Array (Option IU)} {vn7_FORMS:Nat} {vt7_0_FORMS:Tok}
 (aC_Ring:ClA K C_Ring "Ring")
 (aC_Hand:ClA K C_Hand "Hand")
 (aC_Heart:ClA K C_Heart "Heart")
 (aC_Store:ClA K C_Store "Store")
 (aC_Yard:ClA K C_Yard "Yard")
 (l_z0:NsA K f_z0 "next_counter" gP)
 (l_z1:NsA K f_z1 "place_of" m7)
 (l_z2:NsA K f_z2 "ahead_by" mG)
 (l_z3:NsA K f_z3 "rounds_with" iy)
 (l_z4:MtA K C_Ring f_z4 "__init__" "Ring.__init__" jk)
 (l_z5:MtA K C_Ring f_z5 "filled" "Ring.filled" iu)
 (l_z6:MtA K C_Ring f_z6 "is_full" "Ring.is_full" gI)
 (l_z7:MtA K C_Ring f_z7 "place_at" "Ring.place_at" fN)
 (l_z8:MtA K C_Ring f_z8 "write_further" "Ring.write_further" cW)
 (l_z9:MtA K C_Ring f_z9 "lay" "Ring.lay" mC)
 (l_z10:MtA K C_Ring f_z10 "fetch" "Ring.fetch" jn)
 (l_z11:MtA K C_Hand f_z11 "__init__" "Hand.__init__" jO)
 (l_z12:MtA K C_Hand f_z12 "least_free" "Hand.least_free" eJ)
 (l_z13:MtA K C_Hand f_z13 "check_ask" "Hand.check_ask" fi)
 (l_z14:MtA K C_Hand f_z14 "ask" "Hand.ask" mi)
 (l_z15:MtA K C_Hand f_z15 "collect" "Hand.collect" gM)
 (l_z16:MtA K C_Hand f_z16 "under_way" "Hand.under_way" fh)
 (l_z17:MtA K C_Hand f_z17 "something_waits" "Hand.something_waits" cg)
 (l_z18:MtA K C_Heart f_z18 "__init__" "Heart.__init__" iZ)
 (l_z19:MtA K C_Heart f_z19 "take" "Heart.take" jH)
 (l_z20:MtA K C_Heart f_z20 "check_answer" "Heart.check_answer" cX)
 (l_z21:MtA K C_Heart f_z21 "answer" "Heart.answer" gG)
 (l_z22:MtA K C_Heart f_z22 "tasks" "Heart.tasks" iQ)
 (l_z23:MtA K C_Heart f_z23 "something_waits" "Heart.something_waits" bZ)
 (l_z24:MtA K C_Store f_z24 "__init__" "Store.__init__" j8)
 (l_z25:MtA K C_Store f_z25 "write" "Store.write" iS)
 (l_z26:MtA K C_Store f_z26 "drain" "Store.drain" j9)
 (l_z27:MtA K C_Store f_z27 "fence" "Store.fence" iF)
 (l_z28:MtA K C_Store f_z28 "read" "Store.read" jP)
 (l_z29:MtA K C_Store f_z29 "memory" "Store.memory" gL)
 (l_z30:MtA K C_Store f_z30 "waits" "Store.waits" iB)
 (l_z31:MtA K C_Store f_z31 "cells" "Store.cells" iO)
 (l_z32:NsA K f_z32 "is_whole" mo)
 (l_z33:NsA K f_z33 "is_part" pF)
 (l_z34:NsA K f_z34 "is_deed" oH)
 (l_z35:NsA K f_z35 "side_of" pH)
 (l_z36:NsA K f_z36 "text_of" pj)
 (l_z37:MtA K C_Yard f_z37 "__init__" "Yard.__init__" jM)
 (l_z38:MtA K C_Yard f_z38 "deed" "Yard.deed" kI)
 (l_z39:MtA K C_Yard f_z39 "can_be_done" "Yard.can_be_done" dU)
 (l_z40:MtA K C_Yard f_z40 "story" "Yard.story" jv)
 (l_z41:MtA K C_Yard f_z41 "state" "Yard.state" jy)
 (l_z42:MtA K C_Yard f_z42 "sleeper" "Yard.sleeper" gQ)
 (l_z43:MtA K C_Yard f_z43 "store" "Yard.store" jJ)
 (l_z44:MtA K C_Yard f_z44 "check" "Yard.check" jo)
 (l_z45:MtA K C_Yard f_z45 "is_allowed" "Yard.is_allowed" eu)
 (l_z46:MtA K C_Yard f_z46 "thinkable" "Yard.thinkable" fm)
 (l_z47:MtA K C_Yard f_z47 "do_ask" "Yard.do_ask" ip)
 (l_z48:MtA K C_Yard f_z48 "do_answer" "Yard.do_answer" ff)
 (l_z49:MtA K C_Yard f_z49 "tell_fetched" "Yard.tell_fetched" dI)
 (l_z50:MtA K C_Yard f_z50 "do_bell" "Yard.do_bell" gF)
 (l_z51:MtA K C_Yard f_z51 "do_lie" "Yard.do_lie" iP)
 (l_z52:MtA K C_Yard f_z52 "do_look" "Yard.do_look" gH)
 (l_z53:MtA K C_Yard f_z53 "something_waits" "Yard.something_waits" ci)
 (l_z54:NsA K f_z54 "_law_cell_at" io)
 (l_z55:NsA K f_z55 "_law_codes" kM)
 (l_z56:NsA K f_z56 "_law_make" lW)
 (l_z57:NsA K f_z57 "_law_same" mE)
 (l_z58:NsA K f_z58 "_law_worth" kZ)
 (l_z59:NsA K f_z59 "_law_deed" mO)
 (l_z60:NsA K f_z60 "_law_tried" kP)
 (l_z61:NsA K f_z61 "_law_after" kJ)
 (l_z62:NsA K f_z62 "_law_heart_works" eQ)
 (l_z63:NsA K f_z63 "_law_hand_works" fg)
 (l_z64:NsA K f_z64 "_law_places" jt)
 (l_z65:NsA K f_z65 "_law_each_once" gk)
 (l_z66:NsA K f_z66 "law" Dv)
 (na_Ring:EU K C_Ring ["shelf","side","word","laid","fetched","size","rounds","counter_first"])
 (na_Hand:EU K C_Hand ["asks","answers","names","going"])
 (na_Heart:EU K C_Heart ["asks","answers","doing"])
 (na_Store:EU K C_Store ["held","rows"])
 (na_Yard:EU K C_Yard ["size","rounds","faults","shelf","hand","heart","bell_fences","lie_fences","look_sees","sleepers","quiet","happened"])
 (nn:HV K ["all","bool","int","isinstance","len","list","range","reversed","sorted","str","tuple","zip"])
 (aX_RingError:nsIn K JO "RingError"=dk (dk (.ref C_RingError)))
 (aX_Full:nsIn K JO "Full"=dk (dk (.ref C_Full)))
 (aX_NoName:nsIn K JO "NoName"=dk (dk (.ref C_NoName)))
 (aX_NoTask:nsIn K JO "NoTask"=dk (dk (.ref C_NoTask)))
 (aX_NoDeed:nsIn K JO "NoDeed"=dk (dk (.ref C_NoDeed)))
 (aT_ASKS:nsIn K JO "ASKS"=dk (dk (.ref ki)))
 (kT_ASKS:K.lookup ki=dk ⟨.type "tuple",tod_ASKS,.seq #[.str "ask" tt0_ASKS,.str "asked" tt1_ASKS,.str "taken" tt2_ASKS] tn_ASKS,tsl_ASKS⟩)
 (aT_ANSWERS:nsIn K JO "ANSWERS"=dk (dk (.ref dc)))
 (kT_ANSWERS:K.lookup dc=dk ⟨.type "tuple",tod_ANSWERS,.seq #[.str "answer" tt0_ANSWERS,.str "answered" tt1_ANSWERS,.str "handed" tt2_ANSWERS] tn_ANSWERS,tsl_ANSWERS⟩)
 (aT_SLEEP_CELLS:nsIn K JO "SLEEP_CELLS"=dk (dk (.ref aP)))
 (kT_SLEEP_CELLS:K.lookup aP=dk ⟨.type "tuple",tod_SLEEP_CELLS,.seq #[.str "hand sleeps" tt0_SLEEP_CELLS,.str "heart sleeps" tt1_SLEEP_CELLS] tn_SLEEP_CELLS,tsl_SLEEP_CELLS⟩)
 (aI_MOST_WORTH:nsIn K JO "MOST_WORTH"=dk (dk (.int 1000000000 ti_MOST_WORTH)))
 (aT_FORMS:nsIn K JO "FORMS"=dk (dk (.ref kY)))
 (kT_FORMS:K.lookup kY=dk ⟨.type "dict",IX,.dict #[⟨th0_FORMS,.str "ask" tk0_FORMS,.ref fR⟩,⟨th1_FORMS,.str "collect" tk1_FORMS,.ref fV⟩,⟨th2_FORMS,.str "take" tk2_FORMS,.ref gc⟩,⟨th3_FORMS,.str "answer" tk3_FORMS,.ref fY⟩,⟨th4_FORMS,.str "bell" tk4_FORMS,.ref fJ⟩,⟨th5_FORMS,.str "lie" tk5_FORMS,.ref ge⟩,⟨th6_FORMS,.str "look" tk6_FORMS,.ref fT⟩,⟨th7_FORMS,.str "drain" tk7_FORMS,.ref fW⟩] tep_FORMS,#[]⟩)
 (kN_FORMS:(kY == Ku)=f')
 (kV0_FORMS:K.lookup fR=dk ⟨.type "tuple",vod0_FORMS,.seq #[.str "worth" vt0_0_FORMS] vn0_FORMS,vsl0_FORMS⟩)
 (kV1_FORMS:K.lookup fV=dk ⟨.type "tuple",vod1_FORMS,.seq #[] vn1_FORMS,vsl1_FORMS⟩)
 (kV2_FORMS:K.lookup gc=dk ⟨.type "tuple",vod2_FORMS,.seq #[] vn2_FORMS,vsl2_FORMS⟩)
 (kV3_FORMS:K.lookup fY=dk ⟨.type "tuple",vod3_FORMS,.seq #[.str "name" vt3_0_FORMS,.str "worth" vt3_1_FORMS] vn3_FORMS,vsl3_FORMS⟩)
 (kV4_FORMS:K.lookup fJ=dk ⟨.type "tuple",vod4_FORMS,.seq #[.str "side" vt4_0_FORMS] vn4_FORMS,vsl4_FORMS⟩)
 (kV5_FORMS:K.lookup ge=dk ⟨.type "tuple",vod5_FORMS,.seq #[.str "side" vt5_0_FORMS] vn5_FORMS,vsl5_FORMS⟩)
 (kV6_FORMS:K.lookup fT=dk ⟨.type "tuple",vod6_FORMS,.seq #[.str "side" vt6_0_FORMS] vn6_FORMS,vsl6_FORMS⟩)
 (kV7_FORMS:K.lookup fW=dk ⟨.type "tuple",vod7_FORMS,.seq #[.str "side" vt7_0_FORMS] vn7_FORMS,vsl7_FORMS⟩)
 (xc_Full:excIn K C_Full veB "ValueError.__new__"=l')
 (xc_NoName:excIn K C_NoName veB "ValueError.__new__"=l')
 (xc_NoTask:excIn K C_NoTask veB "ValueError.__new__"=l')
 (xc_NoDeed:excIn K C_NoDeed veB "ValueError.__new__"=l')
 (mo_em_f:Ki K (.ref C_Full) (.ref C_RingError)=dk l')
 (mo_em_n:Ki K (.ref C_NoName) (.ref C_RingError)=dk l')
 (mo_em_t:Ki K (.ref C_NoTask) (.ref C_RingError)=dk l')
 (mo_em_d:Ki K (.ref C_NoDeed) (.ref C_RingError)=dk l')
 (mo_em_dd:Ki K (.ref C_NoDeed) (.ref C_NoDeed)=dk l')
 (mo_em_df:Ki K (.ref C_NoDeed) (.ref C_Full)=dk f')
 (mo_em_dn:Ki K (.ref C_NoDeed) (.ref C_NoName)=dk f')
 (mo_em_dt:Ki K (.ref C_NoDeed) (.ref C_NoTask)=dk f')
 (mo_em_fd:Ki K (.ref C_Full) (.ref C_NoDeed)=dk f')
 (mo_em_ff:Ki K (.ref C_Full) (.ref C_Full)=dk l')
 (mo_em_fn:Ki K (.ref C_Full) (.ref C_NoName)=dk f')
 (mo_em_ft:Ki K (.ref C_Full) (.ref C_NoTask)=dk f')
 (mo_em_nd:Ki K (.ref C_NoName) (.ref C_NoDeed)=dk f')
 (mo_em_nf:Ki K (.ref C_NoName) (.ref C_Full)=dk f')
 (mo_em_nn:Ki K (.ref C_NoName) (.ref C_NoName)=dk l')
 (mo_em_nt:Ki K (.ref C_NoName) (.ref C_NoTask)=dk f')
 (mo_em_td:Ki K (.ref C_NoTask) (.ref C_NoDeed)=dk f')
 (mo_em_tf:Ki K (.ref C_NoTask) (.ref C_Full)=dk f')
 (mo_em_tn:Ki K (.ref C_NoTask) (.ref C_NoName)=dk f')
 (mo_em_tt:Ki K (.ref C_NoTask) (.ref C_NoTask)=dk l') :
 ∃ fd:Ji,(∀ (s:IZ) (v:IU),BindsTo s fd ⟨[v],[]⟩ [("script",v)])/\∀ base:JD,K.In base->base.Ns JO mg->FnOk l.prog w K mg base CX0 17 fa fd ["script"] (wn K):=by
 have e:=hfa.symm.trans (mg_of X G l_z66.1);cases e;obtain⟨p_Ring,q_Ring,r_Ring⟩:=tH X G aC_Ring l_z4;obtain⟨p_Hand,q_Hand,r_Hand⟩:=tH X G aC_Hand l_z11;obtain⟨p_Heart,q_Heart,r_Heart⟩:=tH X G aC_Heart l_z18;obtain⟨p_Store,q_Store,r_Store⟩:=tH X G aC_Store l_z24;obtain⟨p_Yard,q_Yard,r_Yard⟩:=tH X G aC_Yard l_z37;obtain⟨m_z0,d_z0,MO⟩:=cQ X G l_z0;have LB:=bn3 MO "counter" "size" "rounds" λ_ _ _ _ _ _ _ _ _=>rfl
 obtain⟨m_z1,d_z1,MP⟩:=cQ X G l_z1;have LC:=bn2 MP "counter" "size" λ_ _ _ _ _ _ _ _=>rfl
 obtain⟨m_z2,d_z2,M3⟩:=cQ X G l_z2;have LO:=bn4 M3 "one" "other" "size" "rounds" λ_ _ _ _ _ _ _ _ _ _=>rfl
 obtain⟨m_z3,d_z3,Ng⟩:=cQ X G l_z3;have L0:=bn2 Ng "rounds" "faults" λ_ _ _ _ _ _ _ _=>rfl
 obtain⟨m_z4,d_z4,Nt⟩:=aW l_z4;have Me:=bn7 Nt "self" "store" "side" "words" "size" "rounds" "faults" λ_ _ _ _ _ _ _ _ _ _ _ _ _=>rfl
 obtain⟨m_z5,d_z5,NF⟩:=aW l_z5;have Mq:=bn1 NF "self" λ_ _ _ _ _ _ _=>rfl
 obtain⟨m_z6,d_z6,NQ⟩:=aW l_z6;have MC:=bn1 NQ "self" λ_ _ _ _ _ _ _=>rfl
 obtain⟨m_z7,d_z7,NY⟩:=aW l_z7;have ML:=bn2 NY "self" "counter" λ_ _ _ _ _ _ _ _=>rfl
 obtain⟨m_z8,d_z8,NZ⟩:=aW l_z8;have MM:=bn3 NZ "self" "cell" "counter" λ_ _ _ _ _ _ _ _ _=>rfl
 obtain⟨m_z9,d_z9,N0⟩:=aW l_z9;have MN:=bn3 N0 "self" "name" "worth" λ_ _ _ _ _ _ _ _ _=>rfl
 obtain⟨m_z10,d_z10,MQ⟩:=aW l_z10;have LD:=bn1 MQ "self" λ_ _ _ _ _ _ _=>rfl
 obtain⟨m_z11,d_z11,MR⟩:=aW l_z11;have LF:=bn6 MR "self" "store" "size" "rounds" "names" "faults" λ_ _ _ _ _ _ _ _ _ _ _ _=>rfl
 obtain⟨m_z12,d_z12,MS⟩:=aW l_z12;have LG:=bn1 MS "self" λ_ _ _ _ _ _ _=>rfl
 obtain⟨m_z13,d_z13,MT⟩:=aW l_z13;have LH:=bn1 MT "self" λ_ _ _ _ _ _ _=>rfl
 obtain⟨m_z14,d_z14,MU⟩:=aW l_z14;have LI:=bn2 MU "self" "worth" λ_ _ _ _ _ _ _ _=>rfl
 obtain⟨m_z15,d_z15,MV⟩:=aW l_z15;have LJ:=bn1 MV "self" λ_ _ _ _ _ _ _=>rfl
 obtain⟨m_z16,d_z16,MW⟩:=aW l_z16;have LK:=bn1 MW "self" λ_ _ _ _ _ _ _=>rfl
 obtain⟨m_z17,d_z17,MY⟩:=aW l_z17;have LL:=bn1 MY "self" λ_ _ _ _ _ _ _=>rfl
 obtain⟨m_z18,d_z18,MZ⟩:=aW l_z18;have LM:=bn5 MZ "self" "store" "size" "rounds" "faults" λ_ _ _ _ _ _ _ _ _ _ _=>rfl
 obtain⟨m_z19,d_z19,M0⟩:=aW l_z19;have LN:=bn1 M0 "self" λ_ _ _ _ _ _ _=>rfl
 obtain⟨m_z20,d_z20,M4⟩:=aW l_z20;have LP:=bn2 M4 "self" "name" λ_ _ _ _ _ _ _ _=>rfl
 obtain⟨m_z21,d_z21,M5⟩:=aW l_z21;have LQ:=bn3 M5 "self" "name" "worth" λ_ _ _ _ _ _ _ _ _=>rfl
 obtain⟨m_z22,d_z22,M6⟩:=aW l_z22;have LR:=bn1 M6 "self" λ_ _ _ _ _ _ _=>rfl
 obtain⟨m_z23,d_z23,M7⟩:=aW l_z23;have LS:=bn1 M7 "self" λ_ _ _ _ _ _ _=>rfl
 obtain⟨m_z24,d_z24,M9⟩:=aW l_z24;have LU:=bn1 M9 "self" λ_ _ _ _ _ _ _=>rfl
 obtain⟨m_z25,d_z25,Na⟩:=aW l_z25;have LV:=bn4 Na "self" "side" "cell" "worth" λ_ _ _ _ _ _ _ _ _ _=>rfl
 obtain⟨m_z26,d_z26,Nb⟩:=aW l_z26;have LW:=bn2 Nb "self" "side" λ_ _ _ _ _ _ _ _=>rfl
 obtain⟨m_z27,d_z27,Nc⟩:=aW l_z27;have LX:=bn2 Nc "self" "side" λ_ _ _ _ _ _ _ _=>rfl
 obtain⟨m_z28,d_z28,Nd⟩:=aW l_z28;have LY:=bn3 Nd "self" "side" "cell" λ_ _ _ _ _ _ _ _ _=>rfl
 obtain⟨m_z29,d_z29,Nf⟩:=aW l_z29;have LZ:=bn2 Nf "self" "cell" λ_ _ _ _ _ _ _ _=>rfl
 obtain⟨m_z30,d_z30,Nh⟩:=aW l_z30;have L4:=bn2 Nh "self" "side" λ_ _ _ _ _ _ _ _=>rfl
 obtain⟨m_z31,d_z31,Ni⟩:=aW l_z31;have L5:=bn1 Ni "self" λ_ _ _ _ _ _ _=>rfl
 obtain⟨m_z32,d_z32,Nj⟩:=cQ X G l_z32;have L6:=bn1 Nj "value" λ_ _ _ _ _ _ _=>rfl
 obtain⟨m_z33,d_z33,Nk⟩:=cQ X G l_z33;have L7:=bn2 Nk "value" "kind" λ_ _ _ _ _ _ _ _=>rfl
 obtain⟨m_z34,d_z34,Nl⟩:=cQ X G l_z34;have L8:=bn1 Nl "some" λ_ _ _ _ _ _ _=>rfl
 obtain⟨m_z35,d_z35,Nm⟩:=cQ X G l_z35;have L9:=bn1 Nm "some" λ_ _ _ _ _ _ _=>rfl
 obtain⟨m_z36,d_z36,Nn⟩:=cQ X G l_z36;have Ma:=bn1 Nn "cell" λ_ _ _ _ _ _ _=>rfl
 obtain⟨m_z37,d_z37,Np⟩:=aW l_z37;have Mb:=bn5 Np "self" "size" "rounds" "names" "faults" λ_ _ _ _ _ _ _ _ _ _ _=>rfl
 obtain⟨m_z38,d_z38,Nq⟩:=aW l_z38;have Mc:=bn2 Nq "self" "some" λ_ _ _ _ _ _ _ _=>rfl
 obtain⟨m_z39,d_z39,Nr⟩:=aW l_z39;have Md:=bn2 Nr "self" "worths" λ_ _ _ _ _ _ _ _=>rfl
 obtain⟨m_z40,d_z40,Nu⟩:=aW l_z40;have Mf:=bn1 Nu "self" λ_ _ _ _ _ _ _=>rfl
 obtain⟨m_z41,d_z41,Nv⟩:=aW l_z41;have Mg:=bn1 Nv "self" λ_ _ _ _ _ _ _=>rfl
 obtain⟨m_z42,d_z42,Nw⟩:=aW l_z42;have Mh:=bn2 Nw "self" "side" λ_ _ _ _ _ _ _ _=>rfl
 obtain⟨m_z43,d_z43,Nx⟩:=aW l_z43;have Mi:=bn1 Nx "self" λ_ _ _ _ _ _ _=>rfl
 obtain⟨m_z44,d_z44,Ny⟩:=aW l_z44;have Mj:=bn2 Ny "self" "some" λ_ _ _ _ _ _ _ _=>rfl
 obtain⟨m_z45,d_z45,Nz⟩:=aW l_z45;have Ml:=bn2 Nz "self" "some" λ_ _ _ _ _ _ _ _=>rfl
 obtain⟨m_z46,d_z46,NA⟩:=aW l_z46;have Mm:=bn2 NA "self" "worths" λ_ _ _ _ _ _ _ _=>rfl
 obtain⟨m_z47,d_z47,NB⟩:=aW l_z47;have Mn:=bn2 NB "self" "worth" λ_ _ _ _ _ _ _ _=>rfl
 obtain⟨m_z48,d_z48,NC⟩:=aW l_z48;have Mo:=bn3 NC "self" "name" "worth" λ_ _ _ _ _ _ _ _ _=>rfl
 obtain⟨m_z49,d_z49,ND⟩:=aW l_z49;have Mp:=bn3 ND "self" "word" "told" λ_ _ _ _ _ _ _ _ _=>rfl
 obtain⟨m_z50,d_z50,NG⟩:=aW l_z50;have Mr:=bn2 NG "self" "side" λ_ _ _ _ _ _ _ _=>rfl
 obtain⟨m_z51,d_z51,NH⟩:=aW l_z51;have Ms:=bn2 NH "self" "side" λ_ _ _ _ _ _ _ _=>rfl
 obtain⟨m_z52,d_z52,NI⟩:=aW l_z52;have Mt:=bn2 NI "self" "side" λ_ _ _ _ _ _ _ _=>rfl
 obtain⟨m_z53,d_z53,NJ⟩:=aW l_z53;have Mu:=bn2 NJ "self" "side" λ_ _ _ _ _ _ _ _=>rfl
 obtain⟨m_z54,d_z54,NK⟩:=cQ X G l_z54;have Mv:=bn2 NK "script" "k" λ_ _ _ _ _ _ _ _=>rfl
 obtain⟨m_z55,d_z55,NL⟩:=cQ X G l_z55;have Mw:=bn2 NL "cells" "most" λ_ _ _ _ _ _ _ _=>rfl
 obtain⟨m_z56,d_z56,NM⟩:=cQ X G l_z56;have Mx:=bn1 NM "cell" λ_ _ _ _ _ _ _=>rfl
 obtain⟨m_z57,d_z57,NN⟩:=cQ X G l_z57;have Mz:=bn2 NN "found" "due" λ_ _ _ _ _ _ _ _=>rfl
 obtain⟨m_z58,d_z58,NO⟩:=cQ X G l_z58;have MA:=bn1 NO "code" λ_ _ _ _ _ _ _=>rfl
 obtain⟨m_z59,d_z59,NP⟩:=cQ X G l_z59;have MB:=bn2 NP "code" "tasks" λ_ _ _ _ _ _ _ _=>rfl
 obtain⟨m_z60,d_z60,NR⟩:=cQ X G l_z60;have ME:=bn2 NR "yard" "deed" λ_ _ _ _ _ _ _ _=>rfl
 obtain⟨m_z61,d_z61,NS⟩:=cQ X G l_z61;have MF:=bn3 NS "tasks" "deed" "told" λ_ _ _ _ _ _ _ _ _=>rfl
 obtain⟨m_z62,d_z62,NT⟩:=cQ X G l_z62;have MG:=bn1 NT "yard" λ_ _ _ _ _ _ _=>rfl
 obtain⟨m_z63,d_z63,NU⟩:=cQ X G l_z63;have MH:=bn1 NU "yard" λ_ _ _ _ _ _ _=>rfl
 obtain⟨m_z64,d_z64,NV⟩:=cQ X G l_z64;have MI:=bn3 NV "story" "word" "name" λ_ _ _ _ _ _ _ _ _=>rfl
 obtain⟨m_z65,d_z65,NW⟩:=cQ X G l_z65;have MJ:=bn1 NW "story" λ_ _ _ _ _ _ _=>rfl
 obtain⟨m_z66,d_z66,NX⟩:=cQ X G l_z66;have MK:=bn1 NX "script" λ_ _ _ _ _ _ _=>rfl
 let ad:Ad:=⟨f_z0,f_z1,f_z2,f_z3,f_z4,f_z5,f_z6,f_z7,f_z8,f_z9,f_z10,f_z11,f_z12,f_z13,f_z14,f_z15,f_z16,f_z17,f_z18,f_z19,f_z20,f_z21,f_z22,f_z23,f_z24,f_z25,f_z26,f_z27,f_z28,f_z29,f_z30,f_z31,f_z32,f_z33,f_z34,f_z35,f_z36,f_z37,f_z38,f_z39,f_z40,f_z41,f_z42,f_z43,f_z44,f_z45,f_z46,f_z47,f_z48,f_z49,f_z50,f_z51,f_z52,f_z53,f_z54,f_z55,f_z56,f_z57,f_z58,f_z59,f_z60,f_z61,f_z62,f_z63,f_z64,f_z65,fa,C_Ring,C_Hand,C_Heart,C_Store,C_Yard,C_RingError,C_Full,C_NoName,C_NoTask,C_NoDeed,ki,dc,aP,kY,fR,fV,gc,fY,fJ,ge,fT,fW⟩
 let dd:Fd:=⟨d_z0,d_z1,d_z2,d_z3,d_z4,d_z5,d_z6,d_z7,d_z8,d_z9,d_z10,d_z11,d_z12,d_z13,d_z14,d_z15,d_z16,d_z17,d_z18,d_z19,d_z20,d_z21,d_z22,d_z23,d_z24,d_z25,d_z26,d_z27,d_z28,d_z29,d_z30,d_z31,d_z32,d_z33,d_z34,d_z35,d_z36,d_z37,d_z38,d_z39,d_z40,d_z41,d_z42,d_z43,d_z44,d_z45,d_z46,d_z47,d_z48,d_z49,d_z50,d_z51,d_z52,d_z53,d_z54,d_z55,d_z56,d_z57,d_z58,d_z59,d_z60,d_z61,d_z62,d_z63,d_z64,d_z65,d_z66⟩
 have GG:Gs K mg ad dd:=⟨MO,LB,m_z0,MP,LC,m_z1,M3,LO,m_z2,Ng,L0,m_z3,Nt,Me,NF,Mq,m_z5,NQ,MC,m_z6,NY,ML,m_z7,NZ,MM,m_z8,N0,MN,m_z9,MQ,LD,m_z10,MR,LF,MS,LG,m_z12,MT,LH,m_z13,MU,LI,m_z14,MV,LJ,m_z15,MW,LK,m_z16,MY,LL,m_z17,MZ,LM,M0,LN,m_z19,M4,LP,m_z20,M5,LQ,m_z21,M6,LR,m_z22,M7,LS,m_z23,M9,LU,Na,LV,m_z25,Nb,LW,m_z26,Nc,LX,m_z27,Nd,LY,m_z28,Nf,LZ,m_z29,Nh,L4,m_z30,Ni,L5,m_z31,Nj,L6,m_z32,Nk,L7,m_z33,Nl,L8,m_z34,Nm,L9,m_z35,Nn,Ma,m_z36,Np,Mb,Nq,Mc,m_z38,Nr,Md,m_z39,Nu,Mf,m_z40,Nv,Mg,m_z41,Nw,Mh,m_z42,Nx,Mi,m_z43,Ny,Mj,m_z44,Nz,Ml,m_z45,NA,Mm,m_z46,NB,Mn,m_z47,NC,Mo,m_z48,ND,Mp,m_z49,NG,Mr,m_z50,NH,Ms,m_z51,NI,Mt,m_z52,NJ,Mu,m_z53,NK,Mv,m_z54,NL,Mw,m_z55,NM,Mx,m_z56,NN,Mz,m_z57,NO,MA,m_z58,NP,MB,m_z59,NR,ME,m_z60,NS,MF,m_z61,NT,MG,m_z62,NU,MH,m_z63,NV,MI,m_z64,NW,MJ,m_z65,NX,MK,m_z66,q_Ring,p_Ring,r_Ring,na_Ring.1,na_Ring.2.1,na_Ring.2.2.1,na_Ring.2.2.2.1,na_Ring.2.2.2.2.1,na_Ring.2.2.2.2.2.1,na_Ring.2.2.2.2.2.2.1,na_Ring.2.2.2.2.2.2.2.1,q_Hand,p_Hand,r_Hand,na_Hand.1,na_Hand.2.1,na_Hand.2.2.1,na_Hand.2.2.2.1,q_Heart,p_Heart,r_Heart,na_Heart.1,na_Heart.2.1,na_Heart.2.2.1,q_Store,p_Store,r_Store,na_Store.1,na_Store.2.1,q_Yard,p_Yard,r_Yard,na_Yard.1,na_Yard.2.1,na_Yard.2.2.1,na_Yard.2.2.2.1,na_Yard.2.2.2.2.1,na_Yard.2.2.2.2.2.1,na_Yard.2.2.2.2.2.2.1,na_Yard.2.2.2.2.2.2.2.1,na_Yard.2.2.2.2.2.2.2.2.1,na_Yard.2.2.2.2.2.2.2.2.2.1,na_Yard.2.2.2.2.2.2.2.2.2.2.1,na_Yard.2.2.2.2.2.2.2.2.2.2.2.1,Lg X G nn.1,Lg X G nn.2.1,Lg X G nn.2.2.1,Lg X G nn.2.2.2.1,Lg X G nn.2.2.2.2.1,Lg X G nn.2.2.2.2.2.1,Lg X G nn.2.2.2.2.2.2.1,Lg X G nn.2.2.2.2.2.2.2.1,Lg X G nn.2.2.2.2.2.2.2.2.1,Lg X G nn.2.2.2.2.2.2.2.2.2.1,Lg X G nn.2.2.2.2.2.2.2.2.2.2.1,Lg X G nn.2.2.2.2.2.2.2.2.2.2.2.1,mg_of X G aX_RingError,mg_of X G aX_Full,mg_of X G aX_NoName,mg_of X G aX_NoTask,mg_of X G aX_NoDeed,mg_of X G aT_ASKS,λ_=>.inr ⟨_,_,_,kT_ASKS,rfl,rfl,by show 3 <= Je;decide,(.cons ⟨_,rfl⟩ (.cons ⟨_,rfl⟩ (.cons ⟨_,rfl⟩ .nil)))⟩,mg_of X G aT_ANSWERS,λ_=>.inr ⟨_,_,_,kT_ANSWERS,rfl,rfl,by show 3 <= Je;decide,(.cons ⟨_,rfl⟩ (.cons ⟨_,rfl⟩ (.cons ⟨_,rfl⟩ .nil)))⟩,mg_of X G aT_SLEEP_CELLS,λ_=>.inr ⟨_,_,_,kT_SLEEP_CELLS,rfl,rfl,by show 2 <= Je;decide,(.cons ⟨_,rfl⟩ (.cons ⟨_,rfl⟩ .nil))⟩,⟨_,mg_of X G aI_MOST_WORTH⟩,mg_of X G aT_FORMS,⟨kN_FORMS,_,_,_,kT_FORMS,⟨rfl,rfl,rfl⟩,rfl,(.cons rfl rfl (.cons rfl rfl (.cons rfl rfl (.cons rfl rfl (.cons rfl rfl (.cons rfl rfl (.cons rfl rfl (.cons rfl rfl .nil))))))))⟩,λ_=>.inr ⟨_,_,_,kV0_FORMS,rfl,rfl,by show 1 <= Je;decide,(.cons ⟨_,rfl⟩ .nil)⟩,λ_=>.inr ⟨_,_,_,kV1_FORMS,rfl,rfl,by show 0 <= Je;decide,.nil⟩,λ_=>.inr ⟨_,_,_,kV2_FORMS,rfl,rfl,by show 0 <= Je;decide,.nil⟩,λ_=>.inr ⟨_,_,_,kV3_FORMS,rfl,rfl,by show 2 <= Je;decide,(.cons ⟨_,rfl⟩ (.cons ⟨_,rfl⟩ .nil))⟩,λ_=>.inr ⟨_,_,_,kV4_FORMS,rfl,rfl,by show 1 <= Je;decide,(.cons ⟨_,rfl⟩ .nil)⟩,λ_=>.inr ⟨_,_,_,kV5_FORMS,rfl,rfl,by show 1 <= Je;decide,(.cons ⟨_,rfl⟩ .nil)⟩,λ_=>.inr ⟨_,_,_,kV6_FORMS,rfl,rfl,by show 1 <= Je;decide,(.cons ⟨_,rfl⟩ .nil)⟩,λ_=>.inr ⟨_,_,_,kV7_FORMS,rfl,rfl,by show 1 <= Je;decide,(.cons ⟨_,rfl⟩ .nil)⟩,xc_Full,xc_NoName,xc_NoTask,xc_NoDeed,mo_em_f,mo_em_n,mo_em_t,mo_em_d,mo_em_dd,mo_em_df,mo_em_dn,mo_em_dt,mo_em_fd,mo_em_ff,mo_em_fn,mo_em_ft,mo_em_nd,mo_em_nf,mo_em_nn,mo_em_nt,mo_em_td,mo_em_tf,mo_em_tn,mo_em_tt⟩
 refine⟨dd.law,?_,λbase _ _=>Fn GG⟩;obtain⟨_,_,_,_,_,_,_,_,_,e,_⟩:=NX.ex;intro s v;show BindsTo s d_z66 _ _;rw[e];exact .of_eq rfl
def walk {l:PySem.W.OpenLaw}{q:Jy}{loose:List Str}{XP:(Str->Option IU)->JD->Prop}{YP:Jj->JD->Prop}{d:DefRec}{K:Params->Ja}(hn:l.most=dk 63) (hdf:d.params.defaults=[])
 (hY:∀ (w:Jj) (h:JD),YP w h->(K w.params).In h)
 (F:∀ (w:Jj) (mg:Str->Option IU) (fa:G') (h:JD),(K w.params).In h->h.Ns JO mg->mg d.name=dk (.ref fa) ->
  ∃ fd:Ji,(∀ (s:IZ) (u:IU),BindsTo s fd ⟨[u],[]⟩ [("script",u)])/\∀ base:JD,(K w.params).In base->base.Ns JO mg->FnOk l.prog w (K w.params) mg base CX0 17 fa fd ["script"] (wn (K w.params))) :
 PySem.W.WalkO q loose XP YP l.row.toRowW d [] (λf vs=>PySem.call f vs) :=
 L2.walk_of (n:=63) (k:=17) (x:="script") (CX:=λ_=>CX0) (sp:=λw=>wn (K w.params)) hn (by decide) hdf ⟨rfl,by decide,by decide⟩ hY F (λ_ _ a ns hl _ hS=>⟨a,ns,rfl,hS,hl,λ_=>rfl⟩) λ_ _ _ _ _ z=>z
end
end My
open PySem PySem.W PyProof.Rows
set_option maxRecDepth 100000 in
set_option maxHeartbeats 0 in
theorem PySem.Challenge.cw_askring_k31_whole_all_is_handed_at_last_holds : PySem.Challenge.rw_askring_k31_whole_all_is_handed_at_last.Holds := by
  w_on; o_law; k_head; (case hw => w_witness2)
  k_fill
  refine My.walk (l := PySem.Challenge.rw_askring_k31_whole_all_is_handed_at_last) rfl rfl (fun w h Y => PySem.W.kIn_of Y) ?F
  case F =>
    intro w mg fa h KX G hmg;refine' My.all_mk KX G hmg ?aC_Ring ?aC_Hand ?aC_Heart ?aC_Store ?aC_Yard ?l_z0 ?l_z1 ?l_z2 ?l_z3 ?l_z4 ?l_z5 ?l_z6 ?l_z7 ?l_z8 ?l_z9 ?l_z10 ?l_z11 ?l_z12 ?l_z13 ?l_z14 ?l_z15 ?l_z16 ?l_z17 ?l_z18 ?l_z19 ?l_z20 ?l_z21 ?l_z22 ?l_z23 ?l_z24 ?l_z25 ?l_z26 ?l_z27 ?l_z28 ?l_z29 ?l_z30 ?l_z31 ?l_z32 ?l_z33 ?l_z34 ?l_z35 ?l_z36 ?l_z37 ?l_z38 ?l_z39 ?l_z40 ?l_z41 ?l_z42 ?l_z43 ?l_z44 ?l_z45 ?l_z46 ?l_z47 ?l_z48 ?l_z49 ?l_z50 ?l_z51 ?l_z52 ?l_z53 ?l_z54 ?l_z55 ?l_z56 ?l_z57 ?l_z58 ?l_z59 ?l_z60 ?l_z61 ?l_z62 ?l_z63 ?l_z64 ?l_z65 ?l_z66 ?na_Ring ?na_Hand ?na_Heart ?na_Store ?na_Yard ?nn ?aX_RingError ?aX_Full ?aX_NoName ?aX_NoTask ?aX_NoDeed ?aT_ASKS ?kT_ASKS ?aT_ANSWERS ?kT_ANSWERS ?aT_SLEEP_CELLS ?kT_SLEEP_CELLS ?aI_MOST_WORTH ?aT_FORMS ?kT_FORMS ?kN_FORMS ?kV0_FORMS ?kV1_FORMS ?kV2_FORMS ?kV3_FORMS ?kV4_FORMS ?kV5_FORMS ?kV6_FORMS ?kV7_FORMS ?xc_Full ?xc_NoName ?xc_NoTask ?xc_NoDeed ?mo_em_f ?mo_em_n ?mo_em_t ?mo_em_d ?mo_em_dd ?mo_em_df ?mo_em_dn ?mo_em_dt ?mo_em_fd ?mo_em_ff ?mo_em_fn ?mo_em_ft ?mo_em_nd ?mo_em_nf ?mo_em_nn ?mo_em_nt ?mo_em_td ?mo_em_tf ?mo_em_tn ?mo_em_tt
    (case aC_Ring | aC_Hand | aC_Heart | aC_Store | aC_Yard => refine' ⟨?ka, ⟨?kb, ?kc, ?kd, ?ke⟩, ?kg, ?kh⟩; (case ka => k_is); (case kb => k_is); (case kc => k_is); (case kd => k_is); (case ke => k_is); (case kg => k_is); (case kh => k_is))
    (case l_z0 | l_z1 | l_z2 | l_z3 => refine' ⟨?ka, _, L2.fun_mk ?kb ?kc ?kd⟩; (case ka => k_is); (case kb => k_is); (case kc => k_is); (case kd => k_is))
    (case l_z4 | l_z5 | l_z6 | l_z7 | l_z8 | l_z9 | l_z10 | l_z11 | l_z12 | l_z13 | l_z14 | l_z15 | l_z16 | l_z17 | l_z18 | l_z19 | l_z20 | l_z21 | l_z22 | l_z23 | l_z24 | l_z25 | l_z26 | l_z27 | l_z28 | l_z29 | l_z30 | l_z31 => refine' ⟨?ka, ?ke, _, L2.fun_mk ?kb ?kc ?kd⟩; (case ka => k_is); (case ke => k_is); (case kb => k_is); (case kc => k_is); (case kd => k_is))
    (case l_z32 | l_z33 | l_z34 | l_z35 | l_z36 => refine' ⟨?ka, _, L2.fun_mk ?kb ?kc ?kd⟩; (case ka => k_is); (case kb => k_is); (case kc => k_is); (case kd => k_is))
    (case l_z37 | l_z38 | l_z39 | l_z40 | l_z41 | l_z42 | l_z43 | l_z44 | l_z45 | l_z46 | l_z47 | l_z48 | l_z49 | l_z50 | l_z51 | l_z52 | l_z53 => refine' ⟨?ka, ?ke, _, L2.fun_mk ?kb ?kc ?kd⟩; (case ka => k_is); (case ke => k_is); (case kb => k_is); (case kc => k_is); (case kd => k_is))
    (case l_z54 | l_z55 | l_z56 | l_z57 | l_z58 | l_z59 | l_z60 | l_z61 | l_z62 | l_z63 | l_z64 | l_z65 | l_z66 => refine' ⟨?ka, _, L2.fun_mk ?kb ?kc ?kd⟩; (case ka => k_is); (case kb => k_is); (case kc => k_is); (case kd => k_is))
    (case na_Ring | na_Hand | na_Heart | na_Store | na_Yard => repeat (first | exact trivial | (refine' And.intro ?ka ?_; (case ka => (show PySem.W.findIn _ _ _ = _); k_is))))
    (case nn => repeat (first | exact trivial | (refine' And.intro ?ka ?_; (case ka => k_is))))
    (case aX_RingError | aX_Full | aX_NoName | aX_NoTask | aX_NoDeed | aT_ASKS | kT_ASKS | aT_ANSWERS | kT_ANSWERS | aT_SLEEP_CELLS | kT_SLEEP_CELLS | aI_MOST_WORTH | aT_FORMS | kT_FORMS => k_is)
    (case kN_FORMS => first | rfl | decide)
    (case kV0_FORMS | kV1_FORMS | kV2_FORMS | kV3_FORMS | kV4_FORMS | kV5_FORMS | kV6_FORMS | kV7_FORMS => k_is)
    (case xc_Full | xc_NoName | xc_NoTask | xc_NoDeed => k_exc)
    (case mo_em_f | mo_em_n | mo_em_t | mo_em_d | mo_em_dd | mo_em_df | mo_em_dn | mo_em_dt | mo_em_fd | mo_em_ff | mo_em_fn | mo_em_ft | mo_em_nd | mo_em_nf | mo_em_nn | mo_em_nt | mo_em_td | mo_em_tf | mo_em_tn | mo_em_tt => kts_exm)
#print axioms PySem.Challenge.cw_askring_k31_whole_all_is_handed_at_last_holds

