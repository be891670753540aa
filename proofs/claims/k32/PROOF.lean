import PyProof.Rows.All
import Wide.All
import OpenK.AllK
import Wide.FinOn
import Lean
import PyProof.EqAt
import PyProof.EqKinds
import PyProof.TupleCall
import PyProof.NeData
import PyProof.DictRoadsH
import Wide.Seal
import PyProof.CompMap
import PyProof.DictIter
import PyProof.DictWalks
import PyProof.CompUse
import PyProof.P3In
import OpenK.KOwn
import KE.KTryMore
import PyProof.RulesAs
import PyProof.ExcArgs
import PyProof.NsDelKeeps
import KE.KIsAll
import OpenK.KDescr
import PyProof.ZipIter
import PyProof.TupleIter
import KE.KRevSl
import PyProof.Rows.SortWalk
import PyProof.MeetsSeq
import KE.KDictSum
import PyProof.EnumMake
import PyProof.EnumFor
import PyProof.EnumStmt
import PyProof.ListRange
import KE.KSortKey
import PyProof.Rows.SortStr
import PyProof.Rows.CallKwBuiltin
import KE.KTab
import PyProof.ConsumeWalk
import PyProof.Comp
import PyProof.ForAny
import PyProof.Rows.StrJoin2
import PyProof.CallStr
import KE.KSortTup
import PyProof.Rows.SetFrom
import PyProof.CollectWalk
import PySem.Challenge.RW_askring_k32_when_a_yard_errs
namespace PySem.W.Fast
def tw10003458360426210487:=True
def tw10013944565798826398:=True
def tw1006317834316746254:=True
def tw10099409681288352327:=True
def tw10101137715908830046:=True
def tw10165805147194586254:=True
def tw10235076885238239440:=True
def tw10242654309881639664:=True
def tw10267359993077745307:=True
def tw10290495563308641813:=True
def tw10328147300380766291:=True
def tw10357078274263250291:=True
def tw10378651005030366606:=True
def tw10398093472631423216:=True
def tw10402238273451351502:=True
def tw104534778687221636:=True
def tw10520128267070974407:=True
def tw10548844490939437794:=True
def tw10564142575084169580:=True
def tw1063594767726110330:=True
def tw10639255600813451622:=True
def tw10643823457800868028:=True
def tw10645501615123944254:=True
def tw10684355589986506483:=True
def tw10695350124365216928:=True
def tw10717478802785239790:=True
def tw10732915452430556250:=True
def tw10775858224014310939:=True
def tw10776229734424452316:=True
def tw10777137648562789658:=True
def tw10796488584205332575:=True
def tw10802994968994152460:=True
def tw10826974233975366268:=True
def tw10851133222944603218:=True
def tw10852583425121879623:=True
def tw10874497450411600624:=True
def tw10954089910414951884:=True
def tw10975925456837008007:=True
def tw10977299804607559914:=True
def tw11058831171394999155:=True
def tw11061799540079222968:=True
def tw11069728407286919929:=True
def tw11082956870020727866:=True
def tw11093841285653933509:=True
def tw11095244377204117794:=True
def tw11146083031497284305:=True
def tw11154228619497397196:=True
def tw11201619527434527839:=True
def tw11212622858755677970:=True
def tw11257525541070555829:=True
def tw11265606017143228567:=True
def tw11279311118885811851:=True
def tw11339312145819687539:=True
def tw11339705911773883502:=True
def tw11342110672054116851:=True
def tw11359006583712313697:=True
def tw11374511397978895011:=True
def tw11379127989491876037:=True
def tw11387877361253946089:=True
def tw11407049265391764202:=True
def tw11435167250599224524:=True
def tw11462924456569681161:=True
def tw11476249159036929296:=True
def tw11506721251910550917:=True
def tw11529347638964515529:=True
def tw11532056038928828214:=True
def tw11600480443005916695:=True
def tw11610646750627258046:=True
def tw1164736427976989486:=True
def tw11697667979748178264:=True
def tw11698901351179866240:=True
def tw11710534442735337347:=True
def tw11745705826101612271:=True
def tw11759091961386000538:=True
def tw11759713261657792998:=True
def tw11814553426757342974:=True
def tw1182764420009373459:=True
def tw11834580506304017322:=True
def tw11907823067159721745:=True
def tw11939639746519589665:=True
def tw11973898703413183296:=True
def tw11996572780084012234:=True
def tw12071177473588584129:=True
def tw12258847384941392702:=True
def tw12331960236071770017:=True
def tw12349868056003547598:=True
def tw12387414920954613898:=True
def tw12425072811741561961:=True
def tw12478969154593563606:=True
def tw12510612461265306104:=True
def tw12545522549957292018:=True
def tw1257642502736431345:=True
def tw12605890887344818008:=True
def tw12629117877296765872:=True
def tw12637670367704260326:=True
def tw12644051791287794460:=True
def tw12720407113224611475:=True
def tw12723936410648428397:=True
def tw12729537570780503650:=True
def tw12862678645254613011:=True
def tw12865224820739037864:=True
def tw12887970359381071992:=True
def tw12919747653662986177:=True
def tw12949044941720924268:=True
def tw12984402471264206841:=True
def tw1299036505390140875:=True
def tw13005980900287454649:=True
def tw13028146412742908845:=True
def tw13096602082081668048:=True
def tw13105819092807328535:=True
def tw13314013647877656446:=True
def tw13342307805990811455:=True
def tw13354425469595227614:=True
def tw13364137764604024579:=True
def tw13377859878808534837:=True
def tw13387076134621438160:=True
def tw13440425862388051809:=True
def tw13464836849496098221:=True
def tw13503916003858522988:=True
def tw13552944898214169583:=True
def tw135662583982102370:=True
def tw13572317533941749059:=True
def tw13661054474798551782:=True
def tw1377060812787586302:=True
def tw13790698696145871143:=True
def tw13791915154440864095:=True
def tw13834684379384741423:=True
def tw13867825390578709581:=True
def tw13889523320660872436:=True
def tw14038190086583348413:=True
def tw14052528864854938794:=True
def tw14076462070977659643:=True
def tw14096736109194654399:=True
def tw14173267846129690324:=True
def tw14210651947702737651:=True
def tw14255398545274596491:=True
def tw1425681067863149366:=True
def tw14273078699842606965:=True
def tw14339010623617951488:=True
def tw14341246165402835432:=True
def tw1438945479769907229:=True
def tw1439679963161814746:=True
def tw14414361632363073515:=True
def tw14442940967312020653:=True
def tw14467583414650200962:=True
def tw14659992388114106685:=True
def tw14671717646377684082:=True
def tw14675958454610151296:=True
def tw14679031607532785506:=True
def tw14709936472827241642:=True
def tw14715657520616583214:=True
def tw14738487076795463994:=True
def tw14739327588200424611:=True
def tw14743966507459999895:=True
def tw14744108944132921689:=True
def tw14776088941165477628:=True
def tw14889254580063891984:=True
def tw14896335979591884164:=True
def tw14931601145478409217:=True
def tw1496229570572718165:=True
def tw1496922568354587247:=True
def tw15025958324846197191:=True
def tw15034398589379852317:=True
def tw15038891808210413025:=True
def tw15055540960242656759:=True
def tw15267191688482177135:=True
def tw15291309002199458809:=True
def tw15295914236908613192:=True
def tw15324498435464746214:=True
def tw15368289893045977749:=True
def tw1545130948274559133:=True
def tw15479951363004583711:=True
def tw15492012855446161486:=True
def tw15582455718107869909:=True
def tw15631590259128112517:=True
def tw1570999732708616334:=True
def tw15774722215362752199:=True
def tw15795191734799494950:=True
def tw15818953654297535384:=True
def tw1582445445863179465:=True
def tw15856410079626720517:=True
def tw15857578561511349346:=True
def tw15866542080771186088:=True
def tw15869391446301881896:=True
def tw15871888189106519338:=True
def tw15905111061077977014:=True
def tw15922580575351941621:=True
def tw16020175407353054663:=True
def tw16023642777111893779:=True
def tw16101294361468443780:=True
def tw16103010070597254149:=True
def tw16107252227244327017:=True
def tw16119367622095127885:=True
def tw16162269425267498769:=True
def tw16182868057343622541:=True
def tw16217811103153614404:=True
def tw16260460370225326995:=True
def tw16288153063387414475:=True
def tw16307730247022285677:=True
def tw16333304359579498754:=True
def tw16348681027320628758:=True
def tw16385417224614346298:=True
def tw163996202830325086:=True
def tw16405477973597211866:=True
def tw16429112645607834971:=True
def tw16472893382503034629:=True
def tw16477734062872994906:=True
def tw16514813832529766558:=True
def tw16527547392171017985:=True
def tw16559656477186297026:=True
def tw16647035330273207678:=True
def tw16648929658105301931:=True
def tw1669934220135149194:=True
def tw16706183458532228905:=True
def tw16804292470834456141:=True
def tw16893396606593519671:=True
def tw16894954625513075852:=True
def tw16899606801782513851:=True
def tw16918927731712998595:=True
def tw16978312328147449570:=True
def tw17032743566771853687:=True
def tw17115707758183305685:=True
def tw17123826129782525776:=True
def tw17144444701592535441:=True
def tw17147878163780250083:=True
def tw17166064519488353932:=True
def tw17175876900880153569:=True
def tw17279599299536349888:=True
def tw17362218047156605149:=True
def tw17383316000373025121:=True
def tw17396843554457854970:=True
def tw17439479545302493937:=True
def tw17441271086976330972:=True
def tw17449490527389692618:=True
def tw17451879874117879711:=True
def tw174577789554180315:=True
def tw17460488025870128955:=True
def tw17491622115272473050:=True
def tw17514674630023470839:=True
def tw17549928990626899769:=True
def tw17550848874375917430:=True
def tw17606350207159050040:=True
def tw17650674628694933792:=True
def tw1765380967082249782:=True
def tw17696579419855638045:=True
def tw17743557133461963646:=True
def tw17744556193150482930:=True
def tw17745250249398296743:=True
def tw17799824798727007570:=True
def tw1783924568827640068:=True
def tw17844332758354437617:=True
def tw17861422457647549765:=True
def tw17903757348965111620:=True
def tw1791705836598714728:=True
def tw17971277773327421354:=True
def tw17983870816887345614:=True
def tw17990141556409085162:=True
def tw18044659576793950553:=True
def tw18072214014876059936:=True
def tw18074182611397303225:=True
def tw18076005661407744586:=True
def tw18095413847466295931:=True
def tw18108128944030002920:=True
def tw18116377782248936664:=True
def tw18240257917150527127:=True
def tw18293540593661472078:=True
def tw18312810862703289580:=True
def tw18322546451477634313:=True
def tw18374030717055615136:=True
def tw18378531308761242021:=True
def tw18392728019634982896:=True
def tw18414234301348159774:=True
def tw18414769502387791922:=True
def tw1864797281958062695:=True
def tw1865327520942764757:=True
def tw1934919635438358187:=True
def tw1948747077560066948:=True
def tw198174433978343093:=True
def tw1991541194706144283:=True
def tw2020361618231559645:=True
def tw2048063822624773101:=True
def tw2076997860190662983:=True
def tw2092551356124640434:=True
def tw2093693429895299474:=True
def tw2117753819337644398:=True
def tw2123987396244623019:=True
def tw2175607647520229013:=True
def tw2181802597669458498:=True
def tw218476791820752971:=True
def tw2186243653594629163:=True
def tw2187556209905043840:=True
def tw2282510910603115762:=True
def tw2284422866631221500:=True
def tw2292138232254039178:=True
def tw2402088207444625453:=True
def tw24346394221691209:=True
def tw2454093719677590216:=True
def tw2457035658169905645:=True
def tw2461518254386163158:=True
def tw2491897348783345413:=True
def tw2537033162165365019:=True
def tw2559738716685320385:=True
def tw2563299668331457979:=True
def tw2578896260510914552:=True
def tw2585381267643724486:=True
def tw2596500710134637022:=True
def tw2599765389012934924:=True
def tw2621518678408308565:=True
def tw2621872326988265432:=True
def tw26296939814358595:=True
def tw263028299576335663:=True
def tw2632231787119915905:=True
def tw2732831639884216815:=True
def tw2793594517240678242:=True
def tw2817791649383736798:=True
def tw2859253932461160169:=True
def tw290802572474103740:=True
def tw2959950664640736881:=True
def tw2980047158344526113:=True
def tw3027001072075188725:=True
def tw3058226738986852965:=True
def tw3058228957299049880:=True
def tw3121099245046591660:=True
def tw3121772337391960601:=True
def tw3181118822678557716:=True
def tw3201033764711948544:=True
def tw3275746761916926645:=True
def tw3289057247339999997:=True
def tw3331773200651214356:=True
def tw3343320029376243732:=True
def tw3498938200372069300:=True
def tw35481201923546135:=True
def tw3595464961944815451:=True
def tw3606581380530057841:=True
def tw3621748416471318270:=True
def tw3639504427663116416:=True
def tw3642854054195186157:=True
def tw3665588924117510660:=True
def tw3671656968654027987:=True
def tw3729885551848422214:=True
def tw3788968817687838734:=True
def tw3806658132873188237:=True
def tw3823952996184094092:=True
def tw3955405551490064277:=True
def tw3975065971985485944:=True
def tw3977851858605743301:=True
def tw4056095557740991987:=True
def tw4066160881835677011:=True
def tw4097390959236957572:=True
def tw4188754579529019499:=True
def tw4192947171118010099:=True
def tw4251905003636874802:=True
def tw4298995049828311730:=True
def tw4319703465962449715:=True
def tw4328302836588356306:=True
def tw4337398679888006040:=True
def tw4376615305214092:=True
def tw4393574605503008561:=True
def tw4482635958752760978:=True
def tw4506130531877655486:=True
def tw4581782106057995230:=True
def tw4679176619123634665:=True
def tw4760309910695753347:=True
def tw4768333397184591098:=True
def tw4774512090515066995:=True
def tw4793658014774007559:=True
def tw4806244817826488555:=True
def tw4836302775177810576:=True
def tw4935010453410755936:=True
def tw4946893774978160989:=True
def tw5013217332023731843:=True
def tw5019098416244907507:=True
def tw5026579231684842296:=True
def tw5030614824864695817:=True
def tw5056167358014852853:=True
def tw505753953046681600:=True
def tw5087859188864868215:=True
def tw5106504914235395865:=True
def tw5120064133728275981:=True
def tw5135051075477858526:=True
def tw5149310892270334462:=True
def tw5172412717919736900:=True
def tw5208937262854822753:=True
def tw5224765433965613901:=True
def tw5353296066354899955:=True
def tw536753292291168116:=True
def tw5402399412939837343:=True
def tw5433294662686540874:=True
def tw5440163075389484707:=True
def tw5449433103125090694:=True
def tw5487259629646034211:=True
def tw5516321031328445727:=True
def tw5580268001508557198:=True
def tw5651316519022953310:=True
def tw5675277375857556819:=True
def tw5722929051424645819:=True
def tw573708785683045884:=True
def tw5746156846855607701:=True
def tw5760033460618355183:=True
def tw5766231114120657619:=True
def tw5859772707309875503:=True
def tw5882049706385316588:=True
def tw590745402113120356:=True
def tw6016245844534383423:=True
def tw6031828561857147177:=True
def tw6088846130215297396:=True
def tw6143419113204438856:=True
def tw6187650059138840767:=True
def tw6199371790602272747:=True
def tw620219990750623953:=True
def tw623346098465841800:=True
def tw6243444127970510299:=True
def tw6249271892357866503:=True
def tw6318117179938725421:=True
def tw6348115523743267885:=True
def tw637458053873491577:=True
def tw6417311528365233534:=True
def tw6418280801502102433:=True
def tw6468053295290703626:=True
def tw6509175532958579067:=True
def tw6570594390538596335:=True
def tw657409110447446236:=True
def tw6598185551756047636:=True
def tw6642229316460296876:=True
def tw6645647127727234096:=True
def tw6678182706898257060:=True
def tw6698554270208907823:=True
def tw6711954280801843113:=True
def tw6722494788574778489:=True
def tw6723543334664011472:=True
def tw6749089855779133007:=True
def tw6760692492912777311:=True
def tw6762612362072244978:=True
def tw6764554929189231333:=True
def tw6791177411564206759:=True
def tw6934142558562458070:=True
def tw6945226259319833218:=True
def tw6977077103214498794:=True
def tw7016913191878068860:=True
def tw7052059307865972779:=True
def tw7052127159018985023:=True
def tw7063640454508402699:=True
def tw7091513988859200279:=True
def tw7256972945539935606:=True
def tw7309158156841356549:=True
def tw734199936220706968:=True
def tw7373480580410009796:=True
def tw7429457186102625540:=True
def tw7474880565623577354:=True
def tw7547083195494821417:=True
def tw7551415898419762192:=True
def tw7630718753429723451:=True
def tw7683976231533760647:=True
def tw7746941517307706518:=True
def tw7769405883845968230:=True
def tw7826182086173461591:=True
def tw7834397065774385276:=True
def tw7844814841399546926:=True
def tw7864973492884801345:=True
def tw789962215554916597:=True
def tw7920180188542648677:=True
def tw79343655257035882:=True
def tw7992840630910655799:=True
def tw7994131984304846803:=True
def tw804831921210087196:=True
def tw8205628401877057582:=True
def tw8235811143547066196:=True
def tw8241133356029300559:=True
def tw8300373427097473091:=True
def tw8326809409133672590:=True
def tw8391010798383951177:=True
def tw8396881033421888983:=True
def tw8425468173005393991:=True
def tw845579406877540047:=True
def tw848407660647632619:=True
def tw8517536778806145726:=True
def tw8536169025116592844:=True
def tw8573196807847973020:=True
def tw8582830389376346342:=True
def tw8597424417299249853:=True
def tw8599642626761629152:=True
def tw8691452385248509614:=True
def tw8782415975941558701:=True
def tw8785542375178040214:=True
def tw8791628152203887260:=True
def tw8844993391124940769:=True
def tw890107244183160173:=True
def tw8901551998222214574:=True
def tw8926976005607039413:=True
def tw8968046677575656965:=True
def tw8997352960806914676:=True
def tw9013886100634691269:=True
def tw9018690618130251334:=True
def tw9029784589104087775:=True
def tw9128765726053416552:=True
def tw9150930694343730428:=True
def tw9214668018334137087:=True
def tw925755923216019579:=True
def tw9369680637844832483:=True
def tw9371706353989260021:=True
def tw939765635659997324:=True
def tw9413900346756882726:=True
def tw9435252375015997706:=True
def tw9439602750410250531:=True
def tw9488678264815580884:=True
def tw9500116332055905903:=True
def tw9505081090544439147:=True
def tw9514464455274352022:=True
def tw9516099920176827755:=True
def tw9521611130851958771:=True
def tw9526900211818629131:=True
def tw9540857543209917497:=True
def tw9543962244886742165:=True
def tw9553016103816104996:=True
def tw9564829149261189916:=True
def tw9639026519348290515:=True
def tw9651152588580443936:=True
def tw9656882800300805429:=True
def tw967006564570552451:=True
def tw9689082597862487549:=True
def tw9710420358109160798:=True
def tw9769776950906993131:=True
def tw9772380087087834811:=True
def tw9794924527051860816:=True
def tw9924752538147530882:=True
def tw9944333649594797994:=True
def tw9958803477371099231:=True
def tw9972151790230471347:=True
def tw9984349094630680705:=True
def tw9988362987011979206:=True
end PySem.W.Fast
open PySem.W (InitBack InstAt Looks any_some bind_fn callWith_K callWith_K0 cellsFrom_some codeIn codeRec_of emptyDict eq_bytes excIn exmOne exm_one findIn findObj_own fnOf funFrames_hide get_value handedIn hasDictIn hideAll hideAll_get hideAll_none hideAll_size instObj isFn isNs_of_in kdl_dict kdu_collect keepIn ki_setAt ki_setBack kia_one kitOne kitx_bool kitx_dict kitx_float kitx_int kitx_list kitx_none kitx_own kitx_str kitx_tuple lookIn looks_clsIn looks_findIn make_core makesIn makes_of methodCall_KW methodObj method_fn mg_none_of mg_of mroIn ne_bytes nsIn nsMap_none_of_in of_hideAll osa_open plainGet plainGet_of plainOver set_plain specialIn tail_of_in takerIn takesIn truthy_bytes typeIn)
open Nat (le_succ lt_succ_of_lt lt_succ_self min_eq_left ne_of_gt ne_of_lt zero_le)
open List (Nodup Pairwise all_cons all_eq_true any_cons any_eq_true append_nil contains_cons contains_eq_mem drop_of_length_le drop_zero filterMap_cons filter_append filter_congr filter_cons find?_cons find?_eq_none forIn_cons forIn_nil getD_eq_getElem?_getD getElem?_eq_getElem getElem?_map getElem_mem length_cons length_drop length_eq_zero_iff length_filter_le length_map length_nil length_replicate length_take map_append map_cons map_map map_nil mem_append mem_append_right mem_cons mem_cons_of_mem mem_cons_self mem_filter mem_filterMap mem_map mem_of_getElem? mem_range mem_singleton nodup_append nodup_cons nodup_nil not_mem_nil of_mem_zip replicate size_toArray take_add_one take_length take_nil take_of_length_le take_succ take_zero)
open Int (emod_lt_of_pos emod_nonneg toNat_natCast)
open Bool (and_eq_true false_eq_true not_eq_true')
open Option (getD_none isSome_map isSome_none isSome_some map_eq_some_iff)
set_option Elab.async false
set_option linter.all false
set_option compiler.extract_closed false
set_option maxRecDepth 100000
open Option renaming some→dk,none→Jd
open PySem renaming wpAny_bind→f',Addr→G',Value→Ja,wpAny_pure→Jb,Shared→Jc,PyData→Jg,sizeLine→Jm,wpAny→Jo,World→Jp,FuncData→Jq,Program→Jz,Heap→JB,Paired→JC,Around→JK,starEach→JL,DictEntry→JM,mainGlobals→JO,wpAny_call_entry→JS,Stmt→JT,wpAny_callSpecial?_slot→JV,bootBuiltins→Kb,wpAny_newObj_type→Kf,wpAny_holding→Kg,placesWithHash→Kj,Obj→Ku,compareOp→Kw,wpAny_dictEpoch→Ky,sysModules→KA,wpAny_rule→KC,wpAny_truthy_bool→KH,wpAny_field→KI,wpAny_seqItems→K8,wpAny_passesOwn→Lb,backTo→Le,cLine→Lf,wpAny_mono→Lh,wpAny_Call_Name_kw→Li
open Bool renaming false→j',true→D',false_ne_true→Jw,false_eq_true→JP,and_eq_true→Kr,eq_iff_iff→KN,not_eq_true'→Lm
open List renaming mem_singleton→Je,length_append→Ji,getElem?_eq_getElem→Jl,length_map→Ju,mem_cons_of_mem→Jv,mem_cons_self→Jx,getElem?_eq_some_iff→Jy,size_toArray→JD,mem_cons→JE,length_cons→JN,mem_of_getElem?→Ka,contains_eq_mem→Kc,append_assoc→Kd,getElem?_map→Ke,not_mem_nil→Kl,map_cons→Kq,mem_append_right→Kz,length_take→KR,getD_eq_getElem?_getD→KS,mem_append→KU,find?_cons→KW,take_of_length_le→K3,append_nil→K4,length_replicate→K6,nodup_cons→K7,filter_cons→Lc,map_append→Ld,mem_map→Lg,length→Lk,range→Ll,length_filter_le→Ln,Perm→Lr,mem_filter→Ls
open PySem.Heap renaming get?_push_of_some→Jf,lt_size→Jr,get?_push_size→Js,get?_update_self→Ks,SameBut→Kv
open PySem.W renaming Frag→Jh,exmOne→Ki,mg_none_of→KZ
open Nat renaming lt_of_lt_of_le→Jj,le_refl→Jk,ne_of_lt→JR,le_trans→JU,zero_le→KG,lt_irrefl→K1
open PySem.PyData renaming eqv→Jt,strOk→Kn,canLayAll0→KD,depthAll→La
open Option.some renaming inj→JF
open Array renaming getElem?_eq_getElem→JG,getElem?_toList→JW,length_toList→JY
open PySem.F renaming plainAttrs_list→JH,slot_list_append→Kh,slot_dict_pop→K'
open PySem.Value renaming ref→JJ,none→Ko
open Or renaming inl→JQ
open PySem.Heap.SameBut renaming update→JX
open PySem.SeqAt renaming EqAt→JZ
open Sum renaming inl→Kk
open PySem.Builtin.SmallTypes renaming nextOf→Km,ownedTupleIsFree→KJ
open False renaming elim→Kx
open PySem.PassesOwn renaming never→KL
open PyProof.Rows renaming callWith_type1→KP
open True renaming intro→KQ
open PySem.Calls renaming spliced_cons→KY,evalArgs_plain→K2,callWith_builtin→K5
open PySem.Str renaming ofString→K0
open Ne renaming symm→K9
open List.Perm renaming append_left→Lj,append_right→Lp
open Int renaming emod_lt_of_pos→Lo,emod_nonneg→Lu
open PySem.Obj renaming mapSeq→Lq
theorem Pg{c:Prop}[h:Decidable c](hc:c){α:Sort _}{t e:α}:ite c t e=t:=if_pos hc
theorem Ph{c:Prop}[h:Decidable c](hc:¬c){α:Sort _}{t e:α}:ite c t e=e:=if_neg hc
theorem Pj{p:Prop}[Decidable p]:(decide p=true)=p:=decide_eq_true_eq
theorem Pl{p:Prop}[h:Decidable p](x:p):decide p=true:=decide_eq_true x
local macro_rules|`(tactic|omega)=>`(tactic|lia)
namespace L2
open PySem PySem.Spec PyProof.Rows
abbrev Key:=Sum Int Str
def mP:Key->Ja->Bool
|.inl k,v=>Ja.isInt k v
|.inr x,v=>Ja.isStrOf x v
def HH (w:Jp):Key->Int
|.inl k=>hashInt k
|.inr x=>hashStr w x
def aV:∀ {k:Key}{v:Ja},mP k v=D'->(∃ i t,k=Kk i/\v=Ja.int i t)\/(∃ x t,k=Sum.inr x/\v=Ja.str x t)
|.inl i,v,h=>by
  obtain⟨t,e⟩:=Ja.isInt_shape (k:=i) (v:=v) h;exact .inl ⟨i,t,rfl,e⟩
|.inr x,v,h=>by
  obtain⟨t,e⟩:=Ja.isStrOf_shape (x:=x) (v:=v) h;exact .inr ⟨x,t,rfl,e⟩
def zS (i:Int) (t:Tok):mP (.inl i) (.int i t)=D':=by simp[mP,Ja.isInt]
def za (x:Str) (t:Tok):mP (.inr x) (.str x t)=D':=by simp[mP,Ja.isStrOf]
def Fp (a b:Int):decide ((Kk a:Key)=Kk b)=(a == b):=by
 by_cases e:a=b
 . subst e;simp
 . have h:¬ (Kk a:Key)=Kk b:=λq=>e (Kk.inj q)
   rw[decide_eq_false h];exact(beq_eq_false_iff_ne.mpr e).symm
def EQ (a b:Str):decide ((Sum.inr a:Key)=Sum.inr b)=decide (a=b):=by
 by_cases e:a=b
 . subst e;simp
 . have h:¬ (Sum.inr a:Key)=Sum.inr b:=λq=>e (Sum.inr.inj q)
   rw[decide_eq_false h,decide_eq_false e]
def Fz (a:Int) (b:Str):decide ((Kk a:Key)=Sum.inr b)=j':=decide_eq_false (λq=>nomatch q)
def Ga (a:Str) (b:Int):decide ((Sum.inr a:Key)=Kk b)=j':=decide_eq_false (λq=>nomatch q)
def b8 (prog:Jz) (w:Jp):PySem.KeyKind prog w Key where
 is:=mP
 hash:=HH w
 inj:=λv a b ha hb=>by
  rcases aV ha with⟨i,t,rfl,rfl⟩|⟨x,t,rfl,rfl⟩
  . rcases aV hb with⟨j,u,rfl,e⟩|⟨y,u,rfl,e⟩
    . injection e with e1 _;rw[e1]
    . exact nomatch e
  . rcases aV hb with⟨j,u,rfl,e⟩|⟨y,u,rfl,e⟩
    . exact nomatch e
    . injection e with e1 _;rw[e1]
 byValue:=λk v h=>by
  rcases aV h with⟨i,t,rfl,rfl⟩|⟨x,t,rfl,rfl⟩<;>rfl
 pyHash:=λhv h=>by
  rcases aV hv with⟨i,t,rfl,rfl⟩|⟨x,t,rfl,rfl⟩
  . exact wpAny_pyHash_int h
  . exact wpAny_pyHash_str h
 eqBool:=λhu hv h=>by
  rcases aV hu with⟨i,t,rfl,rfl⟩|⟨x,t,rfl,rfl⟩
  . rcases aV hv with⟨j,u,rfl,rfl⟩|⟨y,u,rfl,rfl⟩
    . rw[Fp]at h;exact wpAny_eqBool_int h
    . rw[Fz]at h;exact JZ.int_str i t y u _ _ _ _ h
  . rcases aV hv with⟨j,u,rfl,rfl⟩|⟨y,u,rfl,rfl⟩
    . rw[Ga]at h;exact JZ.str_int x t j u _ _ _ _ h
    . rw[EQ]at h;exact wpAny_eqBool_str h
 «strs»:=λk x t v h=>by
  rcases aV h with⟨i,u,rfl,e⟩|⟨y,u,rfl,e⟩
  . exact nomatch e
  . injection e with e1 _
    subst e1;cases v<;>rfl
def uU (prog:Jz) (w:Jp) (i:Int) (t:Tok):(b8 prog w).is (.inl i) (.int i t)=D':=zS i t
def vd (prog:Jz) (w:Jp) (x:Str) (t:Tok):(b8 prog w).is (.inr x) (.str x t)=D':=za x t
inductive V where
|non|bl (b:Bool)|int (i:Int)|str (x:Str)|byt (b:Array UInt8)|flt (b:UInt64)|ref (a:G')|ty (n:String)
 deriving DecidableEq
def bX:V->Ja->Prop
|.non,u=>u=Ko
|.bl b,u=>u=Ja.bool b
|.int i,u=>∃ t,u=Ja.int i t
|.str x,u=>∃ t,u=Ja.str x t
|.byt b,u=>∃ t,u=Ja.bytes b t
|.flt b,u=>∃ t,u=Ja.float b t
|.ref a,u=>u=JJ a
|.ty n,u=>u=Ja.type n
abbrev bE:List V->List Ja->Prop:=JC bX
theorem bE.length {xs:List V}{us:List Ja}(r:bE xs us):xs.length=us.length:=JC.length r
theorem bE.get:∀ {xs:List V}{us:List Ja}{i:Nat}{x:V},bE xs us->xs[i]?=dk x->∃ u,us[i]?=dk u/\bX x u
|_,_,_,_,.nil,e=>by simp at e
|_,_,0,_,.cons r _,e=>by simp at e;subst e;exact⟨_,rfl,r⟩
|_,_,i+1,x,.cons _ t,e=>by
  obtain⟨u,h1,h2⟩:=bE.get (i:=i) (x:=x) t (by simpa using e);exact⟨u,by simpa using h1,h2⟩
theorem bE.set {x:V}{u:Ja}(r:bX x u):∀ {xs:List V}{us:List Ja}(i:Nat),bE xs us->bE (xs.set i x) (us.set i u)
|_,_,_,.nil=>.nil
|_,_,0,.cons _ t=>.cons r t
|_,_,i+1,.cons q t=>.cons q (bE.set r i t)
theorem bE.append:∀ {xs ys:List V}{us ws:List Ja},bE xs us->bE ys ws->bE (xs++ys) (us++ws)
|_,_,_,_,.nil,s=>s
|_,_,_,_,.cons r t,s=>.cons r (bE.append t s)
theorem bE.take:∀ {xs:List V}{us:List Ja}(n:Nat),bE xs us->bE (xs.take n) (us.take n)
|_,_,0,_=>.nil
|_,_,_+1,.nil=>.nil
|_,_,n+1,.cons r t=>.cons r (bE.take n t)
theorem bE.drop:∀ {xs:List V}{us:List Ja}(n:Nat),bE xs us->bE (xs.drop n) (us.drop n)
|_,_,0,r=>r
|_,_,_+1,.nil=>.nil
|_,_,n+1,.cons _ t=>bE.drop n t
def su:Option V->Option Ja->Prop
|some v,dk u=>bX v u
|none,Jd=>True
|_,_=>False
def KV {κ:Type}:List (κ × V)->List (κ × Ja)->Prop:=JC λ(p:κ × V) (q:κ × Ja)=>p.1=q.1/\bX p.2 q.2
def kV:Key->V
|.inl i=>.int i
|.inr x=>.str x
inductive HO where
 /-- a list -/
|lst (xs:List V)
 /-- a tuple (never changes) -/
|tup (xs:List V)
 /-- a dict whose keys are ints and texts;one whose keys are tuples of ints and texts (the empty one is both) -/
|dK (kvs:List (Key × V))|dT (kvs:List (List Key × V))
 /-- a set of ints: its members,its size -/
|set (S:Int->Bool) (n:Nat)
 /-- an instance of the class at C,its dict at dx,its attributes -/
|ins (C dx:G') (fs:List (Str × V))
 /-- the dict of the instance at x -/
|own (x:G')
 /-- the dict of an exception -/
|xd (fs:List (Str × V))
 /-- a bound method,f of x -/
|met (f x:G')
 /-- a range object lo,lo+1,.. below hi -/
|rng (lo hi:Int)
 /-- a thing that is known to the object (the script;a dict while a loop walks it): read,never written while it is so -/
|frz (o:Ku) (u:HO)
 /-- a code object's table -/
|tbl (ps:Array Ja)
 /-- any other thing,by what is D' of its one object (a def of one's own: SetO a S n:=HO.ext λh=>..) -/
|ext (φ:JB->Prop)
abbrev Hp:=G'->Option HO
def upd (H:Hp) (a:G') (o:HO):Hp:=λb=>if b=a then dk o else H b
def a9 {H:Hp}{a:G'}{o:HO}:upd H a o a=dk o:=by unfold upd;rw[Pg rfl]
def aa {H:Hp}{a b:G'}{o:HO}(h:b≠a):upd H a o b=H b:=by unfold upd;rw[Ph h]
def dO {H:Hp}{a:G'}{o u:HO}:upd (upd H a o) a u=upd H a u:=by
 funext b;unfold upd;split<;>rfl
def iB {H:Hp}{a b:G'}{o u:HO}(h:H a=dk o) (h':H b=dk u) (d:o≠u):a≠b:=by
 intro e;subst e;rw[h]at h';exact d (JF h')
def ae {H:Hp}{a b:G'}{o:HO}(h:H a=dk o) (h':H b=Jd):a≠b:=by
 intro e;subst e;rw[h]at h';cases h'
section
variable (P:Jz) (w:Jp)
def dc (H:Hp) (h:JB) (a:G'):HO->Prop
|.lst xs=>xs.length <= Jm/\∃ (its:List Ja) (n:Nat),bE xs its/\h.get? a=dk { cls:=.type "list",data:=.seq its.toArray n }
|.tup xs=>xs.length <= Jm/\∃ its:List Ja,bE xs its/\IsTup h a its.toArray
|.dK kvs=>kvs.length <= Jm/\(a == KA)=j'/\∃ vs,KV kvs vs/\h.DictOf (b8 P w) a vs
|.dT kvs=>kvs.length <= Jm/\(a == KA)=j'/\∃ xs:List (List Key × G' × Ja),
  JC (λ(p:List Key × V) (q:List Key × G' × Ja)=>p.1=q.1/\H q.2.1=dk (.tup (p.1.map kV))/\bX p.2 q.2.2) kvs xs /\
  ∃ o es ep,h.get? a=dk o/\o.ExactDict/\o.data=.dict es ep/\es.toList=xs.map (entryOfKey (tupleKind (b8 P w)))/\(xs.map (·.1)).Nodup
|.set S n=>h.SetOf (intKind P w) a S n
|.ins C dx fs=>H dx=dk (.own a)/\fs.length <= 1000/\dx≠a/\h.get? a=dk (instObj C dx) /\
  ∃ mA,h.Ns1 dx mA/\(∀ f,su (fs.lookup f) (mA f))/\PySem.Within mA (fs.map (·.1))
|.own _=>∃ o,h.get? a=dk o
|.xd fs=>∃ mA,h.Ns1 a mA/\∀ f,su (fs.lookup f) (mA f)
|.rng lo hi=>∃ t u v,h.get? a=dk { cls:=.type "range",data:=.fields #[.int lo t,.int hi u,.int 1 v] }
|.frz o u=>h.get? a=dk o/\dc H h a u
|.tbl ps=>h.get? a=dk { cls:=.none,data:=.fields ps }
|.met f x=>h.get? a=dk (methodObj (.ref f) (.ref x))
|.ext φ=>φ h/\(∃ o,h.get? a=dk o)/\∀ h1 h2:JB,φ h1->(∀ o,h1.get? a=dk o->h2.get? a=dk o)->φ h2
def HOk (H:Hp) (h:JB):Prop:=∀ a o,H a=dk o->dc P w H h a o
end
section
variable {P:Jz}{w:Jp}{H H':Hp}{h h':JB}{a:G'}{o:HO}
theorem dc.lt (x:dc P w H h a o):a < h.objs.size:=by
 cases o with
|lst xs=>obtain⟨_,_,_,_,e⟩:=x;exact Jr e
|tup xs=>obtain⟨_,_,_,p⟩:=x;exact p.lt
|dK kvs=>obtain⟨_,_,_,_,o,_,_,e,_⟩:=x;exact Jr e
|dT kvs=>obtain⟨_,_,_,_,o,_,_,e,_⟩:=x;exact Jr e
|set S n=>obtain⟨o,_,_,_,e,_⟩:=x;exact Jr e
|ins C dx fs=>obtain⟨_,_,_,e,_⟩:=x;exact Jr e
|own y=>obtain⟨_,e⟩:=x;exact Jr e
|xd fs=>obtain⟨_,⟨_,_,_,e,_⟩,_⟩:=x;exact Jr e
|rng lo hi=>obtain⟨_,_,_,e⟩:=x;exact Jr e
|frz ob u=>obtain⟨e,_⟩:=x;exact Jr e
|tbl ps=>exact Jr (show h.get? a=dk _ from x)
|met f y=>exact Jr (show h.get? a=dk _ from x)
|ext φ=>obtain⟨_,⟨_,e⟩,_⟩:=x;exact Jr e
theorem Paired.mapP {α β:Type}{F G:α->β->Prop}:∀ {l₁:List α}{l₂:List β},JC F l₁ l₂->(∀ a b,F a b->G a b)->JC G l₁ l₂
|_,_,.nil,_=>.nil
|_,_,.cons r t,f=>.cons (f _ _ r) (Paired.mapP t f)
def dc.stay (x:dc P w H h a o) (k:∀ b u,(b=a\/H b=dk (.own a))->h.get? b=dk u->h'.get? b=dk u)
 (ho:∀ b,H b=dk (.own a)->H' b=dk (.own a)) (ht:∀ b xs,H b=dk (.tup xs)->H' b=dk (.tup xs)):dc P w H' h' a o:=by
 induction o with
|lst xs=>obtain⟨z,its,n,r,e⟩:=x;exact⟨z,its,n,r,k _ _ (.inl rfl) e⟩
|tup xs=>obtain⟨z,its,r,ob,e,c⟩:=x;exact⟨z,its,r,ob,k _ _ (.inl rfl) e,c⟩
|dK kvs=>obtain⟨z,y,vs,r,ob,es,ep,e,c⟩:=x;exact⟨z,y,vs,r,ob,es,ep,k _ _ (.inl rfl) e,c⟩
|dT kvs =>
  obtain⟨z,y,xs,r,ob,es,ep,e,c⟩:=x;exact⟨z,y,xs,Paired.mapP r λp q z=>⟨z.1,ht _ _ z.2.1,z.2.2⟩,ob,es,ep,k _ _ (.inl rfl) e,c⟩
|set S n=>obtain⟨ob,es,ep,t,e,c⟩:=x;exact⟨ob,es,ep,t,k _ _ (.inl rfl) e,c⟩
|ins C dx fs =>
  obtain⟨d,z,ne,e,mA,⟨od,es,ep,e2,c⟩,r⟩:=x;exact⟨ho _ d,z,ne,k _ _ (.inl rfl) e,mA,⟨od,es,ep,k _ _ (.inr d) e2,c⟩,r⟩
|own y=>obtain⟨ob,e⟩:=x;exact⟨ob,k _ _ (.inl rfl) e⟩
|xd fs=>obtain⟨mA,⟨od,es,ep,e,c⟩,r⟩:=x;exact⟨mA,⟨od,es,ep,k _ _ (.inl rfl) e,c⟩,r⟩
|rng lo hi=>obtain⟨t,u,v,e⟩:=x;exact⟨t,u,v,k _ _ (.inl rfl) e⟩
|frz ob u ih=>obtain⟨e,q⟩:=x;exact⟨k _ _ (.inl rfl) e,ih q⟩
|tbl ps =>
  have e:h.get? a=dk { cls:=.none,data:=.fields ps }:=x;show h'.get? a=dk { cls:=.none,data:=.fields ps };exact k a _ (.inl rfl) e
|met f y =>
  have e:h.get? a=dk (methodObj (.ref f) (.ref y)):=x;show h'.get? a=dk (methodObj (.ref f) (.ref y));exact k a _ (.inl rfl) e
|ext φ=>obtain⟨p,⟨o,e⟩,st⟩:=x;exact⟨st _ _ p λo q=>k _ _ (.inl rfl) q,⟨o,k _ _ (.inl rfl) e⟩,st⟩
theorem HOk.lt (x:HOk P w H h) (e:H a=dk o):a < h.objs.size:=(x a o e).lt
def HOk.fresh (x:HOk P w H h) (e:h.objs.size <= a):H a=Jd:=by
 cases q:H a with
|none=>rfl
|some u=>exact absurd (Jj (x.lt q) e) (K1 _)
def HOk.kept (x:HOk P w H h) (k:∀ b u,h.get? b=dk u->h'.get? b=dk u):HOk P w H h':=λa o e =>
 (x a o e).stay (λb u _ q=>k b u q) (λ_ q=>q) λ_ _ q=>q
def HOk.laid (x:HOk P w H h) (k:∀ b u,h.get? b=dk u->h'.get? b=dk u) (hp:h.objs.size <= a) (new:dc P w (upd H a o) h' a o):HOk P w (upd H a o) h':=λb u e=>by
 have hn:=x.fresh hp;by_cases hb:b=a
 . subst hb;rw[a9]at e;cases e;exact new
 . rw[aa hb]at e;exact(x b u e).stay (λc v _ q=>k c v q) (λc q=>by rw[aa (ae q hn)];exact q) λc xs q=>by rw[aa (ae q hn)];exact q
end
def Rd (H:Hp) (a:G') (u:HO):Prop:=H a=dk u\/∃ o,H a=dk (.frz o u)
def Rd.ok {P:Jz}{w:Jp}{H:Hp}{h:JB}{a:G'}{u:HO}(r:Rd H a u) (x:HOk P w H h):dc P w H h a u:=by
 rcases r with r|⟨o,r⟩
 . exact x a u r
 . obtain⟨_,q⟩:=x a _ r;exact q
def Mut:Option HO->Prop
|some (.lst _)=>True
|some (.dK _)=>True
|some (.dT _)=>True
|some (.set _ _)=>True
|some (.ins _ _ _)=>True
|some (.ext _)=>True
|_=>False
section
variable {P:Jz}{w:Jp}{H:Hp}{h h':JB}{x e:G'}{o':HO}
def HOk.write (ok:HOk P w H h) (mu:Mut (H x)) (he:e=x\/H e=dk (.own x)) (k:∀ b u,b≠e->h.get? b=dk u->h'.get? b=dk u) (heo:∃ u,h'.get? e=dk u)
 (new:dc P w (upd H x o') h' x o'):HOk P w (upd H x o') h':=λb u q=>by
 have nown:∀ c y,H c=dk (.own y)->c≠x:=λc y r z=>by subst z;rw[r]at mu;exact mu
 have ntup:∀ c xs,H c=dk (.tup xs)->c≠x:=λc xs r z=>by subst z;rw[r]at mu;exact mu
 by_cases hb:b=x
 . subst hb;rw[a9]at q;cases q;exact new
 . rw[aa hb]at q;by_cases hbe:b=e
   . have q':H b=dk (.own x):=by
      rcases he with z|z
      . exact absurd (hbe.trans z) hb
      . rw[hbe];exact z
     rw[q]at q';cases q';obtain⟨v,hv⟩:=heo;exact⟨v,by rw[hbe];exact hv⟩
   . refine(ok b u q).stay (λc v hc r=>k c v ?_ r) (λc r=>by rw[aa (nown c b r)];exact r) λc xs r=>by rw[aa (ntup c xs r)];exact r
     rcases hc with rfl|hc
     . exact hbe
     . rintro rfl;rcases he with z|z
       . exact nown c b hc z
       . rw[hc]at z;cases z;exact hb rfl
end
structure Un (fs ex:List G') (H H':Hp) (h h':JB):Prop where
 keep:∀ b o,h.get? b=dk o->H b=Jd->b ∉ fs->b ∉ ex->h'.get? b=dk o
 slot:∀ b o,h.get? b=dk o->H b=Jd->b∈fs->b ∉ ex->∃ sl,h'.get? b=dk { o with slots:=sl }
 free:∀ b o,h.get? b=dk o->H b=Jd->b ∉ ex->H' b=Jd
 there:∀ b o,h.get? b=dk o->b ∉ ex->∃ o',h'.get? b=dk o'
 tups:∀ b xs,H b=dk (.tup xs)->H' b=dk (.tup xs)
 frzs:∀ b o u,H b=dk (.frz o u)->H' b=dk (.frz o u)
 tbls:∀ b ps,H b=dk (.tbl ps)->∃ more,H' b=dk (.tbl (ps++more))
section
variable {fs fs' ex ex':List G'}{H H1 H2:Hp}{h h1 h2 h':JB}{a x e:G'}{o:HO}
def Un.any (u:Un fs ex H H1 h h1) {b:G'}{ob:Ku}(q:h.get? b=dk ob) (n:H b=Jd) (hx:b ∉ ex):∃ sl,h1.get? b=dk { ob with slots:=sl }:=by
 by_cases hb:b∈fs
 . exact u.slot b ob q n hb hx
 . exact⟨ob.slots,u.keep b ob q n hb hx⟩
def Un.kept (k:∀ b u,h.get? b=dk u->h'.get? b=dk u):Un fs ex H H h h' :=
 ⟨λb ob q _ _ _=>k b ob q,λb ob q _ _ _=>⟨ob.slots,k b ob q⟩,λ_ _ _ n _=>n,λb ob q _=>⟨ob,k b ob q⟩,λ_ _ q=>q,λ_ _ _ q=>q,λ_ ps q=>⟨#[],by rw[q];simp⟩⟩
def Un.refl:Un fs ex H H h h:=Un.kept λ_ _ q=>q
def Un.laid (k:∀ b u,h.get? b=dk u->h'.get? b=dk u) (hp:h.objs.size <= a) (hn:H a=Jd):Un fs ex H (upd H a o) h h' where
 keep:=λb u q _ _ _=>k b u q
 slot:=λb u q _ _ _=>⟨u.slots,k b u q⟩
 free:=λb u q n _=>by rw[aa (JR (Jj (Jr q) hp))];exact n
 there:=λb u q _=>⟨u,k b u q⟩
 tups:=λb xs q=>by rw[aa (ae q hn)];exact q
 frzs:=λb u xs q=>by rw[aa (ae q hn)];exact q
 tbls:=λb ps q=>⟨#[],by rw[aa (ae q hn),q];simp⟩
def Un.write (mu:Mut (H x)) (he:e=x\/H e=dk (.own x)) (k:∀ b u,b≠e->h.get? b=dk u->h'.get? b=dk u) (heo:∃ u,h'.get? e=dk u):Un fs ex H (upd H x o) h h':=by
 have hx:∀ b,H b=Jd->b≠x:=λb n z=>by subst z;rw[n]at mu;exact mu
 have hb:∀ b,H b=Jd->b≠e:=λb n z=>by
  subst z;rcases he with r|r
  . exact hx b n r
  . rw[n]at r;cases r
 have hm:∀ b u,H b=dk u->¬ Mut (dk u)->b≠x:=λb u q nm z=>by subst z;rw[q]at mu;exact nm mu
 refine⟨λb u q n _ _=>k b u (hb b n) q,λb u q n _ _=>⟨u.slots,k b u (hb b n) q⟩,λb u q n _=>by rw[aa (hx b n)];exact n,λb u q _=>?_,
  λb xs q=>by rw[aa (hm b _ q λz=>z)];exact q,λb u xs q=>by rw[aa (hm b _ q λz=>z)];exact q,λb ps q=>⟨#[],by rw[aa (hm b _ q λz=>z),q];simp⟩⟩
 by_cases hbe:b=e
 . subst hbe;exact heo
 . exact⟨u,k b u hbe q⟩
end
def trk (h:JB) (H:Hp):List G':=(Ll h.objs.size).filter λa=>(H a).isSome
def Bs (h:JB) (H:Hp):JB:=hideAll h (trk h H)
def A5 (h:JB) (H:Hp):(Bs h H).objs.size=h.objs.size:=hideAll_size _ _
def AC {h:JB}{H:Hp}{b:G'}{o:Ku}(e:h.get? b=dk o) (n:H b=Jd):(Bs h H).get? b=dk o :=
 hideAll_get _ e λhm=>by
  have q:(H b).isSome=D':=(Ls.mp hm).2;rw[n]at q;simp at q
def CN {h:JB}{H:Hp}{b:G'}{o:Ku}(e:(Bs h H).get? b=dk o):h.get? b=dk o/\H b=Jd:=by
 have e':h.get? b=dk o:=of_hideAll (trk h H) e;refine⟨e',?_⟩;cases q:H b with
|none=>rfl
|some x =>
  have hm:b∈trk h H:=Ls.mpr ⟨mem_range.mpr (Jr e'),by simp[q]⟩;have z:(Bs h H).get? b=Jd:=hideAll_none (trk h H) hm;rw[z]at e;cases e
def CL (g h:JB) (L:G'):List (G' × Ku):=(Ll h.objs.size).filterMap λa=>if a=L\/(g.get? a).isSome=D' then Jd else (h.get? a).map λo=>(a,o)
def c8 (g h:JB) (L d:G'):List (G' × Ku):=(CL g h L).filter λp=>decide (p.1≠d)
structure Mod (K:Jh) (mg:Str->Option Ja) (base:JB):Prop where
 kin:K.In base
 glob:base.Ns JO mg
 blt:∃ mb,base.Ns builtinsNs mb/\∀ x:Str,x≠"__name__"->mb x=Kb x
 nolimit:base.NoLimit
structure Cx where
 prog:Jz
 w:Jp
 K:Jh
 mg:Str->Option Ja
 base:JB
 A:JK
 N:List Str
 s₀:Jc
 H₀:Hp
 env:Env
 outer:List Env
 stack:List Env
 ex:List G'
 fn:Str->Bool
 calm:Bool
 pn:List (G' × Ku)
 xe:Ja->Jc->Prop
def frs (l:List Env):List G':=l.filterMap (·.frame)
abbrev Cx.fs (X:Cx):List G':=frs X.outer
def Vis (sc:Scope) (x:Str):Prop:=sc.names.lookup x=dk .local\/sc.names.lookup x=dk .cell\/sc.names.lookup x=dk .free
def Loc (sc:Scope) (x:Str):Prop:=sc.names.lookup x=dk .local\/sc.names.lookup x=dk .cell
def Ib (env:Env) (h:JB) (m:Str->Option Ja) (x:Str) (u:Ja):Prop :=
 (env.kindOf x=dk .local/\m x=dk u)\/((env.kindOf x=dk .cell\/env.kindOf x=dk .free)/\∃ c,env.cells.lookup x=dk c/\h.IsCell c (dk u))
structure Cx.Ok (X:Cx):Prop where
 mod:Mod X.K X.mg X.base
 kind:X.env.scope.kind=.function
 glob:X.env.globals=JO
 blt:X.env.builtins=builtinsNs
 above:X.s₀.heap.objs.size <= X.env.locals
 inj:∀ x y c,X.env.cells.lookup x=dk c->X.env.cells.lookup y=dk c->x=y
 has:∀ x,(X.env.kindOf x=dk .cell\/X.env.kindOf x=dk .free)->∃ c,X.env.cells.lookup x=dk c
 cab:∀ x c,X.fn x=D'->X.env.cells.lookup x=dk c->X.s₀.heap.objs.size <= c
 hd:X.calm=D'->X.A.handled=Jd
 frames:X.A.frames=dk X.stack
 stk:X.stack=X.outer\/(X.stack=X.env :: X.outer/\X.env.frame=dk X.env.locals)
 exf:∀ b∈X.ex,b≠X.env.locals/\∀ x c,X.env.cells.lookup x=dk c->c≠b
 bs:∀ b o,X.base.get? b=dk o->X.s₀.heap.get? b=dk o/\X.H₀ b=Jd
 bsz:X.base.objs.size <= X.s₀.heap.objs.size
 noex:∀ b o,X.base.get? b=dk o->b ∉ X.ex
 exfs:∀ b∈X.ex,b ∉ X.fs
 funs:X.s₀.heap.FunFrames X.base X.outer
 frf:∀ b∈X.fs,X.H₀ b=Jd
structure Inv (X:Cx) (Lv:List (G' × Ku)) (σ:List (Option V)) (H:Hp) (s:Jc):Prop where
 ok:X.Ok
 os:s.os=X.s₀.os
 bare:AllBare s.gens
 base:Un X.fs X.ex X.H₀ H X.s₀.heap s.heap
 loc:∃ m,s.heap.Ns X.env.locals m/\∀ (i:Nat) (x:Str) (v:V),X.N[i]?=dk x->σ[i]?=dk (dk v)->Vis X.env.scope x->∃ u,bX v u/\Ib X.env s.heap m x u
 cell:∀ x c,X.env.cells.lookup x=dk c->∃ v,s.heap.IsCell c v
 free:H X.env.locals=Jd
 freeC:∀ x c,X.env.cells.lookup x=dk c->H c=Jd
 pin:∀ p∈X.pn++Lv,s.heap.get? p.1=dk p.2/\H p.1=Jd/\p.1≠X.env.locals/\p.1 ∉ X.fs/\∀ v,p.2.data≠.cell v
 hok:HOk X.prog X.w H s.heap
 len:σ.length=X.N.length
section
variable {X:Cx}{Lv:List (G' × Ku)}{σ:List (Option V)}{H H':Hp}{s:Jc}{h':JB}
def Cx.Ok.nofr (ok:X.Ok) {b:G'}{o:Ku}(e:X.base.get? b=dk o):b ∉ X.fs:=λhb=>by
 have:=(ok.funs.mem hb).1;rw[e]at this;cases this
theorem Inv.bs (I:Inv X Lv σ H s):∀ b o,X.base.get? b=dk o->s.heap.get? b=dk o/\H b=Jd:=λb o e =>
 ⟨I.base.keep b o (I.ok.bs b o e).1 (I.ok.bs b o e).2 (I.ok.nofr e) (I.ok.noex b o e),I.base.free b o (I.ok.bs b o e).1 (I.ok.bs b o e).2 (I.ok.noex b o e)⟩
def Inv.bk (I:Inv X Lv σ H s):∀ b o,X.base.get? b=dk o->s.heap.get? b=dk o:=λb o e=>(I.bs b o e).1
theorem Inv.mod (I:Inv X Lv σ H s):Mod X.K X.mg X.base:=I.ok.mod
def Inv.kIn (I:Inv X Lv σ H s):X.K.In s.heap:=I.ok.mod.kin.keeps I.bk
theorem Inv.lt (I:Inv X Lv σ H s):X.env.locals < s.heap.objs.size:=let ⟨_,hn,_⟩:=I.loc;hn.lt
def Inv.sz (I:Inv X Lv σ H s):X.s₀.heap.objs.size <= s.heap.objs.size:=JU I.ok.above (Nat.le_of_lt I.lt)
def Inv.nofs (I:Inv X Lv σ H s) {a:G'}(h:s.heap.objs.size <= a):a ∉ X.fs:=λhb=>by
 obtain⟨_,o,ho,_⟩:=I.ok.funs.mem hb;exact absurd (Jj (Jr ho) (JU I.sz h)) (K1 _)
def Inv.cne (I:Inv X Lv σ H s):∀ x c,X.env.cells.lookup x=dk c->c≠X.env.locals:=λx c e z=>by
 obtain⟨v,o,ho,hd⟩:=I.cell x c e;obtain⟨m,⟨o',es,ep,ho',hd',_⟩,_⟩:=I.loc;rw[z,ho']at ho;cases ho;rw[hd']at hd;cases hd
theorem Inv.funs (I:Inv X Lv σ H s):s.heap.FunFrames X.base X.outer:=by
 have all:∀ (l:List Env),(∀ b∈frs l,b∈X.fs)->X.s₀.heap.FunFrames X.base l->s.heap.FunFrames X.base l:=by
  intro l
  induction l with
 |nil=>intro _ _;trivial
 |cons env r ih =>
   intro hs hl;obtain⟨hk,⟨L,o,hf,hn,ho,hd⟩,hr⟩:=hl;have hL:L∈X.fs:=hs L (by unfold frs;rw[filterMap_cons,hf];exact Jx);obtain⟨sl,e⟩:=I.base.slot L o ho (I.ok.frf L hL) hL λz=>I.ok.exfs L z hL
   exact⟨hk,⟨L,_,hf,hn,e,hd⟩,ih (λb hb=>hs b (by unfold frs;rw[filterMap_cons,hf];exact Jv _ hb)) hr⟩
 exact all X.outer (λ_ hb=>hb) I.ok.funs
theorem Inv.stack (I:Inv X Lv σ H s):s.heap.FunFrames X.base X.stack:=by
 rcases I.ok.stk with e|⟨e,hf⟩
 . rw[e];exact I.funs
 . rw[e];obtain⟨m,hn,_⟩:=I.loc;refine .cons (by rw[I.ok.kind];decide) hf hn ?_ I.funs;exact JB.get?_none_of_le (JU I.ok.bsz I.ok.above)
def Inv.stkSub (I:Inv X Lv σ H s):∀ b∈frs X.stack,b∈X.env.locals :: X.fs:=λb hb=>by
 rcases I.ok.stk with e|⟨e,hf⟩
 . rw[e]at hb;exact Jv _ hb
 . rw[e]at hb;unfold frs at hb;rw[filterMap_cons,hf]at hb;exact hb
def Inv.stkFree (I:Inv X Lv σ H s):∀ b∈frs X.stack,H b=Jd:=λb hb=>by
 rcases JE.mp (I.stkSub b hb) with e|hb
 . rw[e];exact I.free
 . obtain⟨_,o,ho,_⟩:=I.ok.funs.mem hb;exact I.base.free b o ho (I.ok.frf b hb) λz=>I.ok.exfs b z hb
def Inv.step {g':Array GenState}{t':Nat}{d':Drawn}{ch:List G'}(I:Inv X Lv σ H s)
 (hch:∀ b∈ch,(b∈X.ex\/X.s₀.heap.objs.size <= b)/\b≠X.env.locals/\(∀ x c,X.env.cells.lookup x=dk c->c≠b)/\∀ p∈X.pn++Lv,p.1≠b)
 (keep:∀ b o,b≠X.env.locals->b ∉ X.fs->b ∉ ch->s.heap.get? b=dk o->H b=Jd->h'.get? b=dk o)
 (slot:∀ b o,b≠X.env.locals->b∈X.fs->b ∉ ch->s.heap.get? b=dk o->H b=Jd->∃ sl,h'.get? b=dk { o with slots:=sl }) (free:∀ b o,b ∉ ch->s.heap.get? b=dk o->H b=Jd->H' b=Jd)
 (there:∀ b o,b ∉ ch->s.heap.get? b=dk o->∃ o',h'.get? b=dk o')
 (tups:∀ b xs,H b=dk (.tup xs)->H' b=dk (.tup xs)) (frzs:∀ b o u,H b=dk (.frz o u)->H' b=dk (.frz o u)) (tbls:∀ b ps,H b=dk (.tbl ps)->∃ more,H' b=dk (.tbl (ps++more)))
 (ns:∀ m,s.heap.Ns X.env.locals m->h'.Ns X.env.locals m) (hok:HOk X.prog X.w H' h') (hg:AllBare g') :
 Inv X Lv σ H' { s with heap:=h',gens:=g',drawn:=d',toks:=t' }:=by
 have neL:∀ b o,X.s₀.heap.get? b=dk o->b≠X.env.locals:=λb o e=>JR (Jj (Jr e) I.ok.above)
 have neC:∀ b o,X.s₀.heap.get? b=dk o->b ∉ X.ex->b ∉ ch:=λb o e hx hb=>by
  rcases(hch b hb).1 with z|z
  . exact hx z
  . exact absurd (Jj (Jr e) z) (K1 _)
 have cellK:∀ x c,X.env.cells.lookup x=dk c->∀ v,s.heap.IsCell c v->h'.IsCell c v:=λx c e v ⟨o,ho,hd⟩=>by
  have nch:c ∉ ch:=λz=>(hch c z).2.2.1 x c e rfl
  by_cases hc:c∈X.fs
  . obtain⟨sl,q⟩:=slot c o (I.cne x c e) hc nch ho (I.freeC x c e);exact⟨_,q,hd⟩
  . exact⟨o,keep c o (I.cne x c e) hc nch ho (I.freeC x c e),hd⟩
 refine⟨I.ok,I.os,hg,⟨λb o e n hb hx=>?_,λb o e n hb hx=>?_,λb o e n hx=>?_,λb o e hx=>?_,λb xs e=>tups b xs (I.base.tups b xs e),λb o xs e=>frzs b o xs (I.base.frzs b o xs e),λb ps e=>?_⟩,?_,λx c e=>?_,?_,λx c e=>?_,λp hp=>?_,hok,I.len⟩
 . exact keep b o (neL b o e) hb (neC b o e hx) (I.base.keep b o e n hb hx) (I.base.free b o e n hx)
 . obtain⟨sl,e1⟩:=I.base.slot b o e n hb hx;obtain⟨sl',e2⟩:=slot b _ (neL b o e) hb (neC b o e hx) e1 (I.base.free b o e n hx);exact⟨sl',e2⟩
 . obtain⟨o',e1⟩:=I.base.there b o e hx;exact free b o' (neC b o e hx) e1 (I.base.free b o e n hx)
 . obtain⟨o',e1⟩:=I.base.there b o e hx;exact there b o' (neC b o e hx) e1
 . obtain⟨m1,e1⟩:=I.base.tbls b ps e;obtain⟨m2,e2⟩:=tbls b _ e1;exact⟨m1++m2,by rw[e2,Array.append_assoc]⟩
 . obtain⟨m,hn,hl⟩:=I.loc;refine⟨m,ns m hn,λi x v e1 e2 e3=>?_⟩;obtain⟨u,r,l⟩:=hl i x v e1 e2 e3;refine⟨u,r,?_⟩;rcases l with l|⟨k,c,e,z⟩
   . exact .inl l
   . exact .inr ⟨k,c,e,cellK x c e _ z⟩
 . obtain⟨v,z⟩:=I.cell x c e;exact⟨v,cellK x c e v z⟩
 . obtain⟨m,⟨o,_,_,ho,_⟩,_⟩:=I.loc;exact free _ o (λz=>(hch _ z).2.1 rfl) ho I.free
 . obtain⟨v,o,ho,hd⟩:=I.cell x c e;exact free c o (λz=>(hch c z).2.2.1 x c e rfl) ho (I.freeC x c e)
 . obtain⟨e,n,ne,nf,d⟩:=I.pin p hp;have nch:p.1 ∉ ch:=λz=>(hch p.1 z).2.2.2 p hp rfl
   exact⟨keep p.1 p.2 ne nf nch e n,free p.1 p.2 nch e n,ne,nf,d⟩
def Inv.un {t':Nat}(I:Inv X Lv σ H s) (u:Un X.fs [] H H' s.heap h') (hok:HOk X.prog X.w H' h'):Inv X Lv σ H' { s with heap:=h',toks:=t' }:=by
 obtain⟨m,⟨o,es,ep,ho,r⟩,_⟩:=id I.loc;obtain⟨sl,hL⟩:=u.any ho I.free (by simp);exact I.step (g':=s.gens) (d':=s.drawn) (ch:=[]) (λ_ z=>nomatch z) (λb o _ hb _ e n=>u.keep b o e n hb (by simp)) (λb o _ hb _ e n=>u.slot b o e n hb (by simp)) (λb o _ e n=>u.free b o e n (by simp)) (λb o _ e=>u.there b o e (by simp)) u.tups u.frzs u.tbls (λm' hm=>by
  obtain⟨o',es',ep',ho',r'⟩:=hm;rw[ho]at ho';cases ho';exact⟨_,es',ep',hL,r'⟩) hok I.bare
def Inv.call {g':Array GenState}{t':Nat}{d':Drawn}{ch:List G'}(I:Inv X Lv σ H s) (u:Un (frs X.stack) ch H H' s.heap h') (hok:HOk X.prog X.w H' h') (hg:AllBare g')
 (hch:∀ b∈ch,(b∈X.ex\/X.s₀.heap.objs.size <= b)/\b≠X.env.locals/\(∀ x c,X.env.cells.lookup x=dk c->c≠b)/\∀ p∈X.pn++Lv,p.1≠b) :
 Inv X Lv σ H' { s with heap:=h',gens:=g',drawn:=d',toks:=t' }:=by
 obtain⟨m,⟨o,es,ep,ho,r⟩,_⟩:=id I.loc;obtain⟨sl,hL⟩:=u.any ho I.free λz=>(hch _ z).2.1 rfl
 exact I.step (ch:=ch) hch (λb o hL hb hc e n=>u.keep b o e n (λz=>(JE.mp (I.stkSub b z)).elim hL hb) hc) (λb o _ _ hc e n=>u.any e n hc) (λb o hc e n=>u.free b o e n hc) (λb o hc e=>u.there b o e hc) u.tups u.frzs u.tbls (λm' hm=>by
  obtain⟨o',es',ep',ho',r'⟩:=hm;rw[ho]at ho';cases ho';exact⟨_,es',ep',hL,r'⟩) hok hg
def Inv.turned {t':Nat}{it:G'}(I:Inv X Lv σ H s) (k:∀ b o,b≠it->s.heap.get? b=dk o->h'.get? b=dk o) (hn:H it=Jd) (hL:it≠X.env.locals)
 (h1:it∈X.ex\/X.s₀.heap.objs.size <= it) (h2:∀ x c,X.env.cells.lookup x=dk c->c≠it) (h3:∀ p∈X.pn++Lv,p.1≠it):Inv X Lv σ H { s with heap:=h',toks:=t' }:=by
 have nit:∀ b u,H b=dk u->b≠it:=λb u e z=>by rw[z,hn]at e;cases e
 refine I.step (g':=s.gens) (d':=s.drawn) (ch:=[it]) (λb hb=>?_) (λb o _ _ hc e _=>k b o (λz=>hc (by simp[z])) e) (λb o _ _ hc e _=>⟨o.slots,k b o (λz=>hc (by simp[z])) e⟩) (λ_ _ _ _ n=>n)
  (λb o hc e=>⟨o,k b o (λz=>hc (by simp[z])) e⟩) (λ_ _ e=>e) (λ_ _ _ e=>e) (λb ps e=>⟨#[],by rw[e];simp⟩) (λm hm=>?_) (λb u e=>?_) I.bare
 . have e:b=it:=by simpa using hb
   subst e;exact⟨h1,hL,h2,h3⟩
 . obtain⟨o,es,ep,ho,r⟩:=hm;exact⟨o,es,ep,k _ o (K9 hL) ho,r⟩
 . refine(I.hok b u e).stay (λc v hc q=>k c v ?_ q) (λ_ q=>q) λ_ _ q=>q
   rcases hc with z|z
   . rw[z];exact nit b u e
   . exact nit c _ z
def Inv.tok (I:Inv X Lv σ H s) (t:Nat):Inv X Lv σ H { s with toks:=t }:=I.un (h':=s.heap) (t':=t) Un.refl I.hok
theorem Inv.kept {t':Nat}(I:Inv X Lv σ H s) (k:∀ b u,s.heap.get? b=dk u->h'.get? b=dk u):Inv X Lv σ H { s with heap:=h',toks:=t' }:=I.un (Un.kept k) (I.hok.kept k)
theorem Inv.laid {a:G'}{o:HO}{t':Nat}(I:Inv X Lv σ H s) (k:∀ b u,s.heap.get? b=dk u->h'.get? b=dk u) (hp:s.heap.objs.size <= a) (new:dc X.prog X.w (upd H a o) h' a o) :
 Inv X Lv σ (upd H a o) { s with heap:=h',toks:=t' }:=I.un (Un.laid k hp (I.hok.fresh hp)) (I.hok.laid k hp new)
theorem Inv.write {x e:G'}{o:HO}{t':Nat}(I:Inv X Lv σ H s) (mu:Mut (H x)) (he:e=x\/H e=dk (.own x)) (k:∀ b u,b≠e->s.heap.get? b=dk u->h'.get? b=dk u) (heo:∃ u,h'.get? e=dk u)
 (new:dc X.prog X.w (upd H x o) h' x o):Inv X Lv σ (upd H x o) { s with heap:=h',toks:=t' }:=I.un (Un.write mu he k heo) (I.hok.write mu he k heo new)
def Inv.pins_of {pins':List (G' × Ku)}(I:Inv X Lv σ H s) (h:∀ p∈pins',s.heap.get? p.1=dk p.2/\H p.1=Jd/\p.1≠X.env.locals/\p.1 ∉ X.fs/\∀ v,p.2.data≠.cell v):Inv X pins' σ H s :=
 ⟨I.ok,I.os,I.bare,I.base,I.loc,I.cell,I.free,I.freeC,λp hp=>(KU.mp hp).elim (λz=>I.pin p (List.mem_append_left _ z)) (h p),I.hok,I.len⟩
def vC {N:List Str}(hN:N.Nodup) {i j:Nat}{x:Str}(a:N[i]?=dk x) (b:N[j]?=dk x):i=j:=by
 obtain⟨h1,e1⟩:=Jy.mp a;obtain⟨h2,e2⟩:=Jy.mp b;exact(List.getElem_inj hN).mp (e1.trans e2.symm)
def sG {M:Model}{A:JK}{E:Ja->Jc->Prop}{i:Nat}{x:Str}{v:V}{u:Ja}{Q:Unit->Jc->Prop}(I:Inv X Lv σ H s) (hN:X.N.Nodup) (hi:X.N[i]?=dk x) (hx:Loc X.env.scope x) (r:bX v u)
 (h:∀ s',Inv X Lv (σ.set i (dk v)) H s'->(∃ a,Kv a s.heap s'.heap/\(a=X.env.locals\/X.env.cells.lookup x=dk a))->Q () s') (hf:X.fn x=D'\/X.env.scope.names.lookup x=dk .local:=by first|exact .inl rfl|exact .inr rfl|assumption):Jo M A (storeName X.env x u) Q E s:=by
 obtain⟨m,hn,hl⟩:=id I.loc;have hcls:(X.env.scope.kind == .class || (X.env.scope.kind == .module && X.env.locals != X.env.globals))=j':=by rw[I.ok.kind];rfl
 have hiσ:i < σ.length:=by rw[I.len];exact(Jy.mp hi).1
 have cne:=I.cne;have tracked:∀ {a:G'} {h':JB},(∃ o,s.heap.get? a=dk o/\H a=Jd)->Kv a s.heap h'->HOk X.prog X.w H h':=λ{a h'} ha hs b ob e=>by
  obtain⟨_,_,hfree⟩:=ha;refine(I.hok b ob e).stay (λc w' hc q=>(hs.2 c ?_).trans q) (λ_ q=>q) λ_ _ q=>q
  rintro rfl;rcases hc with rfl|hc
  . rw[hfree]at e;cases e
  . rw[hfree]at hc;cases hc
 rcases hx with hk|hk
 . refine wpAny_storeName_local hk hn (λh' hn' hs=>?_) hcls;obtain⟨oL,_,_,hoL,_⟩:=id hn;refine h _ ⟨I.ok,I.os,I.bare,⟨λb o e n hb hx=>?_,λb o e n hb hx=>?_,I.base.free,λb o e hx=>?_,I.base.tups,I.base.frzs,I.base.tbls⟩,⟨_,hn',λj y v' e1 e2 e3=>?_⟩,λy c e=>?_,I.free,I.freeC,λp hp=>?_,tracked ⟨oL,hoL,I.free⟩ hs,by simpa using I.len⟩ ⟨_,hs,.inl rfl⟩
   . exact(hs.2 b (JR (Jj (Jr e) I.ok.above))).trans (I.base.keep b o e n hb hx)
   . obtain⟨sl,e1⟩:=I.base.slot b o e n hb hx;exact⟨sl,(hs.2 b (JR (Jj (Jr e) I.ok.above))).trans e1⟩
   . obtain⟨o',e1⟩:=I.base.there b o e hx;exact⟨o',(hs.2 b (JR (Jj (Jr e) I.ok.above))).trans e1⟩
   . by_cases hj:j=i
     . subst hj;rw[hi]at e1;cases e1;rw[List.getElem?_set_self hiσ]at e2;cases e2;exact⟨u,r,.inl ⟨hk,by simp⟩⟩
     . rw[List.getElem?_set_ne (K9 hj)]at e2;obtain⟨u',r',q⟩:=hl j y v' e1 e2 e3;refine⟨u',r',?_⟩;rcases q with⟨k,e⟩|⟨k,c,e,z⟩
       . refine .inl ⟨k,?_⟩;have:y≠x:=λe=>hj (vC hN e1 (e ▸ hi))
         simp[this,e]
       . exact .inr ⟨k,c,e,z.sameBut hs (cne y c e)⟩
   . obtain⟨w',z⟩:=I.cell y c e;exact⟨w',z.sameBut hs (cne y c e)⟩
   . obtain⟨e,n,ne,nf,d⟩:=I.pin p hp;exact⟨(hs.2 p.1 ne).trans e,n,ne,nf,d⟩
 . have hfn:X.fn x=D':=by
    rcases hf with z|z
    . exact z
    . rw[z]at hk;cases hk
   obtain⟨c,hc⟩:=I.ok.has x (.inl hk);obtain⟨w',z⟩:=I.cell x c hc;refine wpAny_storeName_cell I.ok.kind hk hc z (λh' hc' hs=>?_);obtain⟨oc,hoc,hocd⟩:=id z;refine h { s with heap:=h' } ⟨I.ok,I.os,I.bare,⟨λb o e n hb hx=>?_,λb o e n hb hx=>?_,I.base.free,λb o e hx=>?_,I.base.tups,I.base.frzs,I.base.tbls⟩,⟨m,hn.sameBut hs (K9 (cne x c hc)),λj y v' e1 e2 e3=>?_⟩,λy c' e=>?_,I.free,I.freeC,λp hp=>?_,tracked ⟨oc,hoc,I.freeC x c hc⟩ hs,by simpa using I.len⟩ ⟨c,hs,.inr hc⟩
   . exact(hs.2 b (JR (Jj (Jr e) (I.ok.cab x c hfn hc)))).trans (I.base.keep b o e n hb hx)
   . obtain⟨sl,e1⟩:=I.base.slot b o e n hb hx;exact⟨sl,(hs.2 b (JR (Jj (Jr e) (I.ok.cab x c hfn hc)))).trans e1⟩
   . obtain⟨o',e1⟩:=I.base.there b o e hx;exact⟨o',(hs.2 b (JR (Jj (Jr e) (I.ok.cab x c hfn hc)))).trans e1⟩
   . by_cases hj:j=i
     . subst hj;rw[hi]at e1;cases e1;rw[List.getElem?_set_self hiσ]at e2;cases e2;exact⟨u,r,.inr ⟨.inl hk,c,hc,hc'⟩⟩
     . rw[List.getElem?_set_ne (K9 hj)]at e2;obtain⟨u',r',q⟩:=hl j y v' e1 e2 e3;refine⟨u',r',?_⟩;rcases q with q|⟨k,c',e,z'⟩
       . exact .inl q
       . refine .inr ⟨k,c',e,z'.sameBut hs ?_⟩;rintro rfl;exact hj (vC hN e1 (I.ok.inj _ _ _ e hc ▸ hi))
   . by_cases hcc:c'=c
     . subst hcc;exact⟨_,hc'⟩
     . obtain⟨w2,z2⟩:=I.cell y c' e;exact⟨w2,z2.sameBut hs hcc⟩
   . obtain⟨e,n,ne,nf,d⟩:=I.pin p hp;refine⟨(hs.2 p.1 ?_).trans e,n,ne,nf,d⟩;intro q;rw[q,hoc]at e;have q':oc=p.2:=JF e;exact d w' (by rw[<-q'];exact hocd)
def vF {M:Model}{A:JK}{E:Ja->Jc->Prop}{i:Nat}{x:Str}{v:V}{u:Ja}{Q:Unit->Jc->Prop}(I:Inv X Lv σ H s) (hN:X.N.Nodup) (hi:X.N[i]?=dk x) (hx:Loc X.env.scope x) (r:bX v u)
 (h:∀ s',Inv X Lv (σ.set i (dk v)) H s'->Q () s') (hf:X.fn x=D'\/X.env.scope.names.lookup x=dk .local:=by first|exact .inl rfl|exact .inr rfl|assumption):Jo M A (storeName X.env x u) Q E s :=
 sG I hN hi hx r (λs' I' _=>h s' I') hf
def Inv.call' {s':Jc}{ch:List G'}(I:Inv X Lv σ H s) (ho:s'.os=s.os) (u:Un (frs X.stack) ch H H' s.heap s'.heap) (hok:HOk X.prog X.w H' s'.heap) (hg:AllBare s'.gens)
 (hch:∀ b∈ch,(b∈X.ex\/X.s₀.heap.objs.size <= b)/\b≠X.env.locals/\(∀ x c,X.env.cells.lookup x=dk c->c≠b)/\∀ p∈X.pn++Lv,p.1≠b):Inv X Lv σ H' s':=by
 obtain⟨h',g',d',t',o'⟩:=s';have e:o'=s.os:=ho;subst e;exact I.call (g':=g') (t':=t') (d':=d') u hok hg hch
end
abbrev XK:=Ja->Option G'->Hp->Prop
abbrev St:=List (Option V)
abbrev VK:=V->Hp->Prop
abbrev TE:=St->Hp->VK->Prop
abbrev TT:=St->Hp->(Bool->Hp->Prop)->Prop
abbrev TA:=St->Hp->(List V->Hp->Prop)->Prop
structure Ends where
 nx:St->Hp->Prop
 rt:VK
 bk:St->Hp->Prop:=λ_ _=>False
 ct:St->Hp->Prop:=λ_ _=>False
abbrev TS:=Ends->St->Hp->Prop
def EP (X:Cx) (Lv:List (G' × Ku)) (σ:St) (Q:VK) (u:Ja) (s':Jc):Prop:=∃ v H',Inv X Lv σ H' s'/\bX v u/\Q v H'
def TP (X:Cx) (Lv:List (G' × Ku)) (σ:St) (Q:Bool->Hp->Prop) (b:Bool) (s':Jc):Prop:=∃ H',Inv X Lv σ H' s'/\Q b H'
def AP (X:Cx) (Lv:List (G' × Ku)) (σ:St) (Q:List V->Hp->Prop) (us:List Ja) (s':Jc):Prop:=∃ vs H',Inv X Lv σ H' s'/\bE vs us/\Q vs H'
def SP (X:Cx) (Lv:List (G' × Ku)) (D:Ends) (f:Flow) (s':Jc):Prop :=
 match f with
|.next=>∃ σ' H',Inv X Lv σ' H' s'/\D.nx σ' H'
|.brk=>∃ σ' H',Inv X Lv σ' H' s'/\D.bk σ' H'
|.cont=>∃ σ' H',Inv X Lv σ' H' s'/\D.ct σ' H'
|.ret u=>∃ v σ' H',Inv X Lv σ' H' s'/\bX v u/\D.rt v H'
def PE (X:Cx) (e:Expr) (t:TE):Prop :=
 ∀ (Lv:List (G' × Ku)) (s:Jc) (σ:St) (H:Hp) (Q:VK),Inv X Lv σ H s->t σ H Q->Jo (model X.prog X.w) X.A (eval e X.env) (EP X Lv σ Q) X.xe s
def PT (X:Cx) (e:Expr) (t:TT):Prop :=
 ∀ (Lv:List (G' × Ku)) (s:Jc) (σ:St) (H:Hp) (Q:Bool->Hp->Prop),Inv X Lv σ H s->t σ H Q->Jo (model X.prog X.w) X.A (isTrue e X.env (eval e X.env)) (TP X Lv σ Q) X.xe s
def PW (X:Cx) (e:Expr) (t:TT):Prop :=
 ∀ (whole:Sem Ja) (Lv:List (G' × Ku)) (s:Jc) (σ:St) (H:Hp) (Q:Bool->Hp->Prop),Inv X Lv σ H s->t σ H Q->Jo (model X.prog X.w) X.A (isTrue e X.env whole) (TP X Lv σ Q) X.xe s
def PW.pt {X:Cx}{e:Expr}{t:TT}(h:PW X e t):PT X e t:=h _
def PA (X:Cx) (es:List Expr) (t:TA):Prop :=
 ∀ (pos:Pos) (Lv:List (G' × Ku)) (s:Jc) (σ:St) (H:Hp) (Q:List V->Hp->Prop),Inv X Lv σ H s->t σ H Q->Jo (model X.prog X.w) X.A (spliced (Le pos (JL es X.env))) (AP X Lv σ Q) X.xe s
def PS (X:Cx) (st:JT) (t:TS):Prop :=
 ∀ (Lv:List (G' × Ku)) (s:Jc) (σ:St) (H:Hp) (D:Ends),Inv X Lv σ H s->t D σ H->Jo (model X.prog X.w) X.A (exec st X.env) (SP X Lv D) X.xe s
def PSs (X:Cx) (st:List JT) (t:TS):Prop :=
 ∀ (Lv:List (G' × Ku)) (s:Jc) (σ:St) (H:Hp) (D:Ends),Inv X Lv σ H s->t D σ H->Jo (model X.prog X.w) X.A (execs st X.env) (SP X Lv D) X.xe s
def thn {α:Type}{t:Sem α}{Q Q':α->Jc->Prop}{M:Model}{A:JK}{E:Ja->Jc->Prop}{s:Jc}(h:Jo M A t Q E s) (hQ:∀ a s,Q a s->Q' a s):Jo M A t Q' E s:=Lh h hQ λ_ _ x=>x
section
variable {X:Cx}
def ug (i:Nat):TE:=λσ H Q=>∃ v,σ[i]?=dk (dk v)/\Q v H
def tC (v:V):TE:=λ_ H Q=>Q v H
def F6 {i:Nat}{x:Str}{pos:Pos}(hN:X.N[i]?=dk x) (hv:Vis X.env.scope x) (hd:(x == ("__debug__":Str))=j':=by decide) (hcd:(x == ("__classdict__":Str))=j':=by decide):PE X (.Name x pos) (ug i):=by
 intro Lv s σ H Q I h;obtain⟨v,e,h⟩:=h;obtain⟨m,hn,hl⟩:=I.loc;obtain⟨u,r,l⟩:=hl i x v hN e hv;have fin:EP X Lv σ Q u s:=⟨v,H,I,r,h⟩
 rcases l with⟨hk,hm⟩|⟨hk,c,hc,hcell⟩
 . exact wpAny_Name (wpAny_loadName_local I.ok.kind hk hn hm fin) hd
 . rcases hk with hk|hk
   . exact wpAny_Name (wpAny_loadName_cell I.ok.kind hk hc hcell fin) hd
   . exact wpAny_Name (wpAny_loadName_free I.ok.kind hk hc hcell fin hcd) hd
def ag {i j pos}:PE X (.Constant (.int i) j pos) (tC (.int i)):=λ_ _ _ H _ I h=>wpAny_Constant_int ⟨.int i,H,I.tok _,⟨_,rfl⟩,h⟩
def bI {b j pos}:PE X (.Constant (.bool b) j pos) (tC (.bl b)):=λ_ _ _ H _ I h=>Constant_bool ⟨.bl b,H,I,rfl,h⟩
def gM {j pos}:PE X (.Constant .none j pos) (tC .non):=λ_ _ _ H _ I h=>Constant_none ⟨.non,H,I,rfl,h⟩
def ao {x j pos}:PE X (.Constant (.str x) j pos) (tC (.str x)):=λ_ _ _ H _ I h=>Calls.Constant_str ⟨.str x,H,I.tok _,⟨_,rfl⟩,h⟩
def Gl (X:Cx) (x:Str):Prop:=X.env.kindOf x=dk .globalImplicit
def jd {E:Ja->Jc->Prop}{Lv:List (G' × Ku)}{s:Jc}{σ:St}{H:Hp}{x:Str}{u:Ja}{pos:Pos}{Q:Ja->Jc->Prop}(I:Inv X Lv σ H s) (hg:Gl X x) (hm:X.mg x=dk u) (h:Q u s)
 (hd:(x == ("__debug__":Str))=j':=by decide):Jo (model X.prog X.w) X.A (eval (.Name x pos) X.env) Q E s :=
 Calls.Name_function_global I.ok.kind hg (Calls.loadGlobal_global (by rw[I.ok.glob];exact I.mod.glob.keeps I.bk) hm h) hd
def nT {E:Ja->Jc->Prop}{Lv:List (G' × Ku)}{s:Jc}{σ:St}{H:Hp}{x:Str}{u:Ja}{pos:Pos}{Q:Ja->Jc->Prop}(I:Inv X Lv σ H s) (hg:Gl X x) (hm:X.mg x=Jd) (hv:Kb x=dk u) (h:Q u s)
 (hn:x≠"__name__":=by decide) (hd:(x == ("__debug__":Str))=j':=by decide):Jo (model X.prog X.w) X.A (eval (.Name x pos) X.env) Q E s:=by
 obtain⟨mb,h1,h2⟩:=I.mod.blt;exact Calls.Name_function_global I.ok.kind hg (Calls.loadGlobal_builtin (by rw[I.ok.glob];exact I.mod.glob.keeps I.bk) hm (by rw[I.ok.blt];exact h1.keeps I.bk) ((h2 x hn).trans hv) h) hd
def eT {x:Str}{v:V}{u:Ja}{pos:Pos}(hg:Gl X x) (hm:X.mg x=dk u) (r:bX v u) (hd:(x == ("__debug__":Str))=j':=by decide):PE X (.Name x pos) (tC v) :=
 λ_ _ _ H _ I h=>jd I hg hm ⟨v,H,I,r,h⟩ hd
def lO {x:Str}{v:V}{u:Ja}{pos:Pos}(hg:Gl X x) (hm:X.mg x=Jd) (hv:Kb x=dk u) (r:bX v u) (hn:x≠"__name__":=by decide) (hd:(x == ("__debug__":Str))=j':=by decide):PE X (.Name x pos) (tC v) :=
 λ_ _ _ H _ I h=>nT I hg hm hv ⟨v,H,I,r,h⟩ hn hd
variable {a b:Expr}{ta tb:TE}{pos:Pos}
def PC (X:Cx) (op:CmpOp) (a b:Expr) (t:TE):Prop :=
 ∀ (Lv:List (G' × Ku)) (s:Jc) (σ:St) (H:Hp) (Q:VK),Inv X Lv σ H s->t σ H Q ->
  Jo (model X.prog X.w) X.A (eval a X.env) (λv s₁=>Jo (model X.prog X.w) X.A (eval b X.env) (λu s₂=>Jo (model X.prog X.w) X.A (Kw op v u) (EP X Lv σ Q) X.xe s₂) X.xe s₁) X.xe s
def vq (b:Expr) {op:CmpOp}(h:op≠.In) (h2:op≠.NotIn):behindInMarks op b=j':=by
 have e1:(op == CmpOp.In)=j':=by cases op<;>first|rfl|exact absurd rfl h
 have e2:(op == CmpOp.NotIn)=j':=by cases op<;>first|rfl|exact absurd rfl h2
 cases b<;>simp[behindInMarks,e1,e2]
def tB (t:TE):TT:=λσ H Q=>t σ H λx H1=>∃ c,x=.bl c/\Q c H1
def vQ {op:CmpOp}{t:TE}(h:PC X op a b t) (h1:behindInMarks op b=j':=by first|exact vq _ (by decide) (by decide)|rfl):PE X (.Compare a [op] [b] pos) t:=λLv s σ H Q I hw=>wpAny_Compare1 (h Lv s σ H Q I hw) h1
def wN {op:CmpOp}{t:TE}(h:PC X op a b t) (h1:behindInMarks op b=j':=by first|exact vq _ (by decide) (by decide)|rfl):PT X (.Compare a [op] [b] pos) (tB t):=by
 intro Lv s σ H Q I hw;refine wpAny_isTrue_Compare1 (thn (h Lv s σ H _ I hw) λv s1 h1=>thn h1 λu s2 h2=>thn h2 λc s3 ur1=>?_) h1;obtain⟨x,H1,I1,r1,q1⟩:=ur1;obtain⟨d,rfl,q⟩:=q1;cases r1;exact KH ⟨H1,I1,q⟩
def cP {e:Expr}{t:TE}(h:PE X e t) (he:∀ whole,isTrue e X.env whole=(do let v <-whole;standAt e.pos;holding [v] (truthy v)):=by intro _;rfl):PT X e (tB t):=by
 intro Lv s σ H Q I hw;refine isTrue_plain (thn (h Lv s σ H _ I hw) λv s1 ur2=>?_) (he _);obtain⟨x,H1,I1,r1,q1⟩:=ur2;obtain⟨d,rfl,q⟩:=q1;cases r1;exact KH ⟨H1,I1,q⟩
variable {tA tB':TT}{c8:List Expr}
def Ik (t u:TT):TT:=λσ H Q=>t σ H λc H1=>if c=D' then u σ H1 Q else Q j' H1
def tOr (t u:TT):TT:=λσ H Q=>t σ H λc H1=>if c=D' then Q D' H1 else u σ H1 Q
def IT (t:TT):TT:=λσ H Q=>t σ H λc H1=>Q (!c) H1
def yy (ha:PT X a tA):PW X (.BoolOp .And [a] pos) tA:=by
 intro wh Lv s σ H Q I h;refine isTrue_and (thn (ha Lv s σ H Q I h) λc s1 e=>?_);cases c with
|true=>exact isTrue_and_nil e
|false=>exact e
def l8 (ha:PT X a tA):PW X (.BoolOp .Or [a] pos) tA:=by
 intro wh Lv s σ H Q I h;refine isTrue_or (thn (ha Lv s σ H Q I h) λc s1 e=>?_);cases c with
|false=>exact isTrue_or_nil e
|true=>exact e
def yL (ha:PT X a tA) (hb:PW X (.BoolOp .And (b :: c8) pos) tB'):PW X (.BoolOp .And (a :: b :: c8) pos) (Ik tA tB'):=by
 intro wh Lv s σ H Q I h;refine isTrue_and (thn (ha Lv s σ H _ I h) λc s1 ur3=>?_);obtain⟨H1,I1,q1⟩:=ur3;cases c with
|true=>exact hb wh Lv s1 σ H1 Q I1 q1
|false=>exact⟨H1,I1,q1⟩
def o4 (ha:PT X a tA) (hb:PW X (.BoolOp .Or (b :: c8) pos) tB'):PW X (.BoolOp .Or (a :: b :: c8) pos) (tOr tA tB'):=by
 intro wh Lv s σ H Q I h;refine isTrue_or (thn (ha Lv s σ H _ I h) λc s1 ur4=>?_);obtain⟨H1,I1,q1⟩:=ur4;cases c with
|true=>exact⟨H1,I1,q1⟩
|false=>exact hb wh Lv s1 σ H1 Q I1 q1
def gG (ha:PT X a tA):PT X (.UnaryOp .Not a pos) (IT tA):=by
 intro Lv s σ H Q I h;exact isTrue_not (ha Lv s σ H (λc H1=>Q (!c) H1) I h)
def Hz (ta tb:TE):TE:=λσ H Q=>ta σ H λx H1=>∃ c,x=.bl c/\if c=D' then tb σ H1 Q else Q (.bl j') H1
def IZ (ta tb:TE):TE:=λσ H Q=>ta σ H λx H1=>∃ c,x=.bl c/\if c=D' then Q (.bl D') H1 else tb σ H1 Q
def GF (ta:TE):TE:=λσ H Q=>ta σ H λx H1=>∃ c,x=.bl c/\Q (.bl (!c)) H1
def Cm {op}{t:TE}(h:PE X a t):PE X (.BoolOp op [a] pos) t:=λLv s σ H Q I hw=>BoolOp_one (h Lv s σ H Q I hw)
def F4 (ha:PE X a ta) (hb:PE X (.BoolOp .And (b :: c8) pos) tb):PE X (.BoolOp .And (a :: b :: c8) pos) (Hz ta tb):=by
 intro Lv s σ H Q I h;refine BoolOp_and (thn (ha Lv s σ H _ I h) λv s1 ur5=>?_);obtain⟨x,H1,I1,r1,q1⟩:=ur5;obtain⟨c,rfl,q1⟩:=q1;cases r1;refine KH ?_;cases c with
|true=>exact hb Lv s1 σ H1 Q I1 q1
|false=>exact⟨.bl j',H1,I1,rfl,q1⟩
def Gw (ha:PE X a ta) (hb:PE X (.BoolOp .Or (b :: c8) pos) tb):PE X (.BoolOp .Or (a :: b :: c8) pos) (IZ ta tb):=by
 intro Lv s σ H Q I h;refine BoolOp_or (thn (ha Lv s σ H _ I h) λv s1 ur6=>?_);obtain⟨x,H1,I1,r1,q1⟩:=ur6;obtain⟨c,rfl,q1⟩:=q1;cases r1;refine KH ?_;cases c with
|false=>exact hb Lv s1 σ H1 Q I1 q1
|true=>exact⟨.bl D',H1,I1,rfl,q1⟩
def FM (ha:PE X a ta):PE X (.UnaryOp .Not a pos) (GF ta):=by
 intro Lv s σ H Q I h;refine UnaryOp_ (thn (ha Lv s σ H _ I h) λv s1 ur7=>?_);obtain⟨x,H1,I1,r1,q1⟩:=ur7;obtain⟨c,rfl,q1⟩:=q1;cases r1;exact not_of (KH ⟨.bl (!c),H1,I1,rfl,q1⟩)
def tIf (t:TT) (ta tb:TE):TE:=λσ H Q=>t σ H λc H1=>if c=D' then ta σ H1 Q else tb σ H1 Q
def lB {c:Expr}(hc:PT X c tA) (ha:PE X a ta) (hb:PE X b tb):PE X (.IfExp c a b pos) (tIf tA ta tb):=by
 intro Lv s σ H Q I h;refine wpAny_IfExp (thn (hc Lv s σ H _ I h) λd s1 ur8=>?_);obtain⟨H1,I1,q1⟩:=ur8;cases d with
|true=>exact ha Lv s1 σ H1 Q I1 q1
|false=>exact hb Lv s1 σ H1 Q I1 q1
end
def SqL (K:Jh) (H:Hp) (a:G') (xs:List V):Prop :=
 Rd H a (.lst xs) \/
  ∃ (o:Ku) (its:Array Ja) (n:Nat),K.lookup a=dk o/\o.cls=.type "list"/\o.dict=Jd/\o.data=.seq its n/\its.size <= Jm/\bE xs its.toList
def SqT (K:Jh) (H:Hp) (a:G') (xs:List V):Prop :=
 Rd H a (.tup xs) \/
  ∃ (o:Ku) (its:Array Ja) (n:Nat),K.lookup a=dk o/\o.cls=.type "tuple"/\o.data=.seq its n/\its.size <= Jm/\bE xs its.toList
def Iv:Ja->Option V
|.none=>dk .non
|.bool b=>dk (.bl b)
|.int i _=>dk (.int i)
|.str x _=>dk (.str x)
|.bytes b _=>dk (.byt b)
|.float b _=>dk (.flt b)
|.ref a=>dk (.ref a)
|.type n=>dk (.ty n)
|_=>Jd
def bX.abs {x:V}{u:Ja}(r:bX x u):Iv u=dk x:=by
 cases x with
|non=>cases r;rfl
|bl _=>cases r;rfl
|int _=>obtain⟨t,rfl⟩:=r;rfl
|str _=>obtain⟨t,rfl⟩:=r;rfl
|byt _=>obtain⟨t,rfl⟩:=r;rfl
|flt _=>obtain⟨t,rfl⟩:=r;rfl
|ref _=>cases r;rfl
|ty _=>cases r;rfl
theorem bX.inj {x y:V}{u:Ja}(r:bX x u) (q:bX y u):x=y:=JF (r.abs.symm.trans q.abs)
theorem bE.inj:∀ {xs ys:List V}{us:List Ja},bE xs us->bE ys us->xs=ys
|_,_,_,.nil,.nil=>rfl
|_,_,_,.cons r t,.cons r' t'=>by rw[r.inj r',bE.inj t t']
section
variable {X:Cx}{Lv:List (G' × Ku)}{σ:St}{H:Hp}{s:Jc}{a:G'}{xs ys:List V}
def SqL.of {K:Jh}(h:H a=dk (.lst xs)):SqL K H a xs:=.inl (.inl h)
def SqT.of {K:Jh}(h:H a=dk (.tup xs)):SqT K H a xs:=.inl (.inl h)
def Inv.list (I:Inv X Lv σ H s) (h:SqL X.K H a xs):∃ its:List Ja,bE xs its/\PlainL s.heap a its.toArray/\xs.length <= Jm:=by
 rcases h with h|⟨o,its,n,hk,hc,hd,hs,hz,r⟩
 . obtain⟨z,its,n,r,e⟩:=h.ok I.hok;exact⟨its,r,⟨_,n,e,rfl,rfl,rfl⟩,z⟩
 . refine⟨its.toList,r,⟨o,n,I.kIn a o hk,hc,hd,by simpa using hs⟩,?_⟩;have e:=r.length;simp only[JY]at e;omega
def Inv.tuple (I:Inv X Lv σ H s) (h:SqT X.K H a xs):∃ its:List Ja,bE xs its/\IsTup s.heap a its.toArray/\xs.length <= Jm:=by
 rcases h with h|⟨o,its,n,hk,hc,hs,hz,r⟩
 . obtain⟨z,its,r,p⟩:=h.ok I.hok;exact⟨its,r,p,z⟩
 . refine⟨its.toList,r,⟨o,I.kIn a o hk,hc,n,by simpa using hs⟩,?_⟩;have e:=r.length;simp only[JY]at e;omega
def Inv.list_inj (I:Inv X Lv σ H s) (h:SqL X.K H a xs) (h':SqL X.K H a ys):xs=ys:=by
 obtain⟨its,r,⟨o,n,e,_,_,d⟩,_⟩:=I.list h;obtain⟨its',r',⟨o',n',e',_,_,d'⟩,_⟩:=I.list h';rw[e]at e';cases e';rw[d]at d';injection d' with d1 _
 have:its=its':=by simpa using congrArg Array.toList d1
 subst this;exact r.inj r'
def Inv.tuple_inj (I:Inv X Lv σ H s) (h:SqT X.K H a xs) (h':SqT X.K H a ys):xs=ys:=by
 obtain⟨its,r,⟨o,e,_,n,d⟩,_⟩:=I.tuple h;obtain⟨its',r',⟨o',e',_,n',d'⟩,_⟩:=I.tuple h';rw[e]at e';cases e';rw[d]at d';injection d' with d1 _
 have:its=its':=by simpa using congrArg Array.toList d1
 subst this;exact r.inj r'
end
abbrev Cx.wish (X:Cx) (E:Ja->Jc->Prop):Cx:={ X with xe:=E }
abbrev Cx.nox (X:Cx):Cx:=X.wish λ_ _=>False
theorem Cx.Ok.wish {X:Cx}(ok:X.Ok) (E:Ja->Jc->Prop):(X.wish E).Ok :=
 ⟨ok.mod,ok.kind,ok.glob,ok.blt,ok.above,ok.inj,ok.has,ok.cab,ok.hd,ok.frames,ok.stk,ok.exf,ok.bs,ok.bsz,ok.noex,ok.exfs,ok.funs,ok.frf⟩
def Cx.Ok.unwish {X:Cx}{E:Ja->Jc->Prop}(ok:(X.wish E).Ok):X.Ok :=
 ⟨ok.mod,ok.kind,ok.glob,ok.blt,ok.above,ok.inj,ok.has,ok.cab,ok.hd,ok.frames,ok.stk,ok.exf,ok.bs,ok.bsz,ok.noex,ok.exfs,ok.funs,ok.frf⟩
section
variable {X:Cx}{Lv:List (G' × Ku)}{σ:St}{H:Hp}{s:Jc}{E:Ja->Jc->Prop}
theorem Inv.wish (I:Inv X Lv σ H s) (E:Ja->Jc->Prop):Inv (X.wish E) Lv σ H s:=⟨I.ok.wish E,I.os,I.bare,I.base,I.loc,I.cell,I.free,I.freeC,I.pin,I.hok,I.len⟩
theorem Inv.unwish (I:Inv (X.wish E) Lv σ H s):Inv X Lv σ H s:=⟨I.ok.unwish,I.os,I.bare,I.base,I.loc,I.cell,I.free,I.freeC,I.pin,I.hok,I.len⟩
theorem SP.unwish {D:Ends}{f:Flow}{s':Jc}(h:SP (X.wish E) Lv D f s'):SP X Lv D f s':=by
 cases f with
|next=>obtain⟨σ',H',I,q⟩:=h;exact⟨σ',H',I.unwish,q⟩
|brk=>obtain⟨σ',H',I,q⟩:=h;exact⟨σ',H',I.unwish,q⟩
|cont=>obtain⟨σ',H',I,q⟩:=h;exact⟨σ',H',I.unwish,q⟩
|ret u=>obtain⟨v,σ',H',I,r,q⟩:=h;exact⟨v,σ',H',I.unwish,r,q⟩
theorem PSs.nox {st:List JT}{t:TS}(h:PSs X.nox st t):PSs X st t:=λLv s σ H D I hw =>
 Lh (h Lv s σ H D (I.wish _) hw) (λ_ _ q=>q.unwish) λ_ _ z=>Kx z
end
section
variable {X:Cx}{st:JT}{c8:List JT}{t u:TS}{e:Expr}{te:TE}{pos:Pos}
def GY:TS:=λD σ H=>D.nx σ H
def Ih (t u:TS):TS:=λD σ H=>t { D with nx:=u D } σ H
def ap:PSs X [] GY:=λ_ _ σ H _ I h=>wpAny_execs_nil ⟨σ,H,I,h⟩
def AD (h1:PS X st t) (h2:PSs X c8 u):PSs X (st :: c8) (Ih t u):=by
 intro Lv s σ H D I h;refine wpAny_execs_cons (thn (h1 Lv s σ H { D with nx:=u D } I h) λf s1 q=>?_);cases f with
|next =>
  obtain⟨σ',H',I',q⟩:=q;exact h2 Lv s1 σ' H' D I' q
|ret v=>exact q
|brk=>exact q
|cont=>exact q
def al (h1:PS X st t):PSs X [st] t:=by
 intro Lv s σ H D I h;refine wpAny_execs_cons (thn (h1 Lv s σ H D I h) λf s1 q=>?_);cases f with
|next=>exact wpAny_execs_nil q
|ret v=>exact q
|brk=>exact q
|cont=>exact q
def Fl:TS:=λD σ H=>D.bk σ H
def AM:PS X (.Break pos) Fl:=λ_ _ σ H _ I h=>wpAny_Break ⟨σ,H,I,h⟩
def Inv.quiet {Lv:List (G' × Ku)}{σ:St}{H:Hp}{s:Jc}(I:Inv X Lv σ H s):interactive X.env=j':=by simp[interactive,I.ok.kind]
def GD (te:TE):TS:=λD σ H=>te σ H λ_ H1=>D.nx σ H1
def aB (he:PE X e te) (hs:swapsWith e Jd pos.line X.env=pure j':=by rfl):PS X (.Expr e pos) (GD te):=by
 intro Lv s σ H D I h;exact wpAny_Expr_any (thn (he Lv s σ H _ I h) λv s1 uq1=>by(obtain⟨x,H1,I1,r1,q1⟩:=uq1;exact ⟨σ,H1,I1,q1⟩)) I.quiet hs
def IV (te:TE):TS:=λD σ H=>te σ H D.rt
def EH (he:PE X e te):PS X (.Return (dk e) pos) (IV te):=by
 intro Lv s σ H D I h;exact wpAny_Return_some (thn (he Lv s σ H _ I h) λv s1 uq2=>by(obtain⟨x,H1,I1,r1,q1⟩:=uq2;exact ⟨x,σ,H1,I1,r1,q1⟩))
def HC:TS:=λD _ H=>D.rt .non H
def D9:PS X (.Return Jd pos) HC:=λ_ _ σ H _ I h=>wpAny_Return_none ⟨.non,σ,H,I,rfl,h⟩
def Ic (c:TT) (t u:TS):TS:=λD σ H=>c σ H λb H1=>if b=D' then t D σ H1 else u D σ H1
def aK {c:Expr}{a b:List JT}{tc:TT}(hc:PT X c tc) (ha:PSs X a t) (hb:PSs X b u):PS X (.If c a b pos) (Ic tc t u):=by
 intro Lv s σ H D I h;refine wpAny_If (thn (hc Lv s σ H _ I h) λd s1 ur9=>?_);obtain⟨H1,I1,q1⟩:=ur9;cases d with
|true=>exact ha Lv s1 σ H1 D I1 q1
|false=>exact hb Lv s1 σ H1 D I1 q1
def G6:TS:=λ_ _ _=>False
def BE:PS X st G6:=λ_ _ _ _ _ _ h=>h.elim
end
abbrev TG:=V->St->Hp->(St->Hp->Prop)->Prop
abbrev TGs:=List V->St->Hp->(St->Hp->Prop)->Prop
def PG (X:Cx) (target:Expr) (t:TG):Prop :=
 ∀ (Lv:List (G' × Ku)) (s:Jc) (σ:St) (H:Hp) (v:V) (u:Ja) (Q:St->Hp->Prop),Inv X Lv σ H s->bX v u->t v σ H Q ->
  Jo (model X.prog X.w) X.A (assign target X.env u) (λ_ s'=>∃ σ' H',Inv X Lv σ' H' s'/\Q σ' H') X.xe s
def PGs (X:Cx) (ts:List Expr) (t:TGs):Prop :=
 ∀ (Lv:List (G' × Ku)) (s:Jc) (σ:St) (H:Hp) (vs:List V) (us:List Ja) (Q:St->Hp->Prop),Inv X Lv σ H s->bE vs us->t vs σ H Q ->
  Jo (model X.prog X.w) X.A (assignInOrder ((assignEach ts X.env).map (·.2)) us) (λ_ s'=>∃ σ' H',Inv X Lv σ' H' s'/\Q σ' H') X.xe s
abbrev Gp:=V->V->V->Hp->(Hp->Prop)->Prop
def HY (X:Cx) (t:Gp):Prop :=
 ∀ (Lv:List (G' × Ku)) (s:Jc) (σ:St) (H:Hp) (o i v:V) (ov iv u:Ja) (Q:Hp->Prop),Inv X Lv σ H s->bX o ov->bX i iv->bX v u->t o i v H Q ->
  Jo (model X.prog X.w) X.A (setItem ov iv u) (λ_ s'=>∃ H',Inv X Lv σ H' s'/\Q H') X.xe s
section
variable {X:Cx}{pos:Pos}
def mR (i:Nat):TG:=λv σ H Q=>Q (σ.set i (dk v)) H
def bR {i:Nat}{x:Str}(hN:X.N.Nodup) (hi:X.N[i]?=dk x) (hx:Loc X.env.scope x) (hf:X.fn x=D'\/X.env.scope.names.lookup x=dk .local:=by first|exact .inl rfl|exact .inr rfl|assumption):PG X (.Name x pos) (mR i):=by
 intro Lv s σ H v u Q I r h;exact wpAny_assign_Name (vF I hN hi hx r (λs' I'=>⟨_,H,I',h⟩) hf)
def GI:TGs:=λvs σ H Q=>vs=[]/\Q σ H
def zn (t:TG) (u:TGs):TGs:=λvs σ H Q=>∃ v r,vs=v :: r/\t v σ H λσ' H'=>u r σ' H' Q
def nJ:PGs X [] GI:=by
 intro Lv s σ H vs us Q I r h;obtain⟨e,h⟩:=h;subst e;cases r;exact assignInOrder_nil ⟨σ,H,I,h⟩
def dM {e:Expr}{es:List Expr}{t:TG}{u:TGs}(h1:PG X e t) (h2:PGs X es u)
 (hs:(assignEach (e :: es) X.env).map (·.2)=assign e X.env :: (assignEach es X.env).map (·.2):=by rfl):PGs X (e :: es) (zn t u):=by
 intro Lv s σ H vs us Q I r h;obtain⟨v,vr,e1,h⟩:=h;subst e1;cases r with
|cons r rr =>
  rw[hs];refine assignInOrder_cons (thn (h1 Lv s σ H _ _ _ I r h) λ_ s1 ur10=>?_);obtain⟨σ1,H1,I1,q1⟩:=ur10;exact h2 Lv s1 σ1 H1 _ _ Q I1 rr q1
def Hg (K:Jh) (n:Nat) (t:TGs):TG:=λv σ H Q=>∃ a xs,v=.ref a/\SqT K H a xs/\xs.length=n/\t xs σ H Q
def tE {es:List Expr}{k:Nat}{t:TGs}{n:Nat}(hc:X.calm=D') (h:PGs X es t)
 (hn:(assignEach es X.env).length=n:=by rfl) (hst:(assignEach es X.env).findIdx? (·.1)=Jd:=by rfl):PG X (.Tuple es k pos) (Hg X.K n t):=by
 intro Lv s σ H v u Q I r hw;obtain⟨a,xs,e1,hq,hl,hw⟩:=hw;subst e1;cases r;obtain⟨its,rv,ht,hz⟩:=I.tuple hq;refine assign_Tuple_tuple (I.ok.hd hc) ht (by simp[hn,<-hl,rv.length]) hst λh' hx=>?_
 have I1:Inv X Lv σ H { s with heap:=h' }:=I.kept (t':=s.toks) λb o e=>hx b o (JR (Jr e)) e
 exact h Lv _ σ H xs _ Q I1 (by simpa using rv) hw
def IS (to ti:TE) (t:Gp):TG:=λv σ H Q=>to σ H λo H1=>ti σ H1 λi H2=>t o i v H2 λH3=>Q σ H3
def iJ {o i:Expr}{to ti:TE}{t:Gp}(ho:PE X o to) (hi:PE X i ti) (hs:HY X t)
 (ha:∀ v,assign (.Subscript o i pos) X.env v=(do
  let ov <-holding [v] (eval o X.env);let iv <-holding [v,ov] (eval i X.env)
  standAt pos
  holding [v,ov,iv] (setItem ov iv v)
  release [v,ov,iv] []):=by intro _;rfl):PG X (.Subscript o i pos) (IS to ti t):=by
 intro Lv s σ H v u Q I r h;rw[ha];refine f' (Kg (thn (ho Lv s σ H _ I h) λov s1 ur11=>?_));obtain⟨x,H1,I1,r1,q1⟩:=ur11;refine f' (Kg (thn (hi Lv s1 σ H1 _ I1 q1) λiv s2 ⟨y,H2,I2,r2,q2⟩=>?_));refine f' (wpAny_standAt (f' (Kg (thn (hs Lv s2 σ H2 x y v ov iv u _ I2 r1 r2 r q2) λ_ s3 ur12=>?_))));obtain⟨H3,I3,q3⟩:=ur12;exact wpAny_release ⟨σ,H3,I3,q3⟩
def GJ (te:TE) (g:TG):TS:=λD σ H=>te σ H λx H1=>g x σ H1 D.nx
def fZ {tg e:Expr}{te:TE}{g:TG}(he:PE X e te) (hg:PG X tg g) (hs:swapsWithSole [tg] e pos.line X.env=pure j':=by rfl) (hw:swappedStores [tg] e X.env=pure Jd:=by rfl)
 (h1:(assignEach [tg] X.env).map (·.2)=[assign tg X.env]:=by rfl):PS X (.Assign [tg] e pos) (GJ te g):=by
 intro Lv s σ H D I h;refine wpAny_Assign_stores (thn (he Lv s σ H _ I h) λv s1 ur13=>?_) hs hw;obtain⟨x,H1,I1,r1,q1⟩:=ur13;rw[h1];exact thn (hg Lv s1 σ H1 x v _ I1 r1 q1) λ_ s2 q=>q
def aX {i:Nat}{x:Str}{e:Expr}{te:TE}{pos':Pos}(hN:X.N.Nodup) (hi:X.N[i]?=dk x) (hx:Loc X.env.scope x) (he:PE X e te) (hs:swapsWith e (dk (.Name x pos')) pos.line X.env=pure j':=by rfl) (hf:X.fn x=D'\/X.env.scope.names.lookup x=dk .local:=by first|exact .inl rfl|exact .inr rfl|assumption) :
 PS X (.Assign [.Name x pos'] e pos) (GJ te (mR i)):=by
 intro Lv s σ H D I h;refine wpAny_Assign_Name (thn (he Lv s σ H _ I h) λv s1 ur14=>?_) hs;obtain⟨y,H1,I1,r1,q1⟩:=ur14;exact vF I1 hN hi hx r1 (λs2 I2=>⟨_,H1,I2,q1⟩) hf
end
section
variable {X:Cx}{pos:Pos}
def Gd (c:TT) (tb:TS):TS:=λD σ H=>∃ W:Nat->St->Hp->Prop,(∃ m,W m σ H)/\∀ m σ H,W m σ H ->
 c σ H λb H1=>if b=D' then ∃ N:St->Hp->Prop,(∀ σ' H',N σ' H'->∃ m',m' < m/\W m' σ' H')/\tb { D with nx:=N,ct:=N,bk:=D.nx } σ H1 else D.nx σ H1
def C0 {c:Expr}{body:List JT}{tc:TT}{tb:TS}(hp:PassesOwn (model X.prog X.w) X.A X.env X.xe) (hc:PT X c tc) (hb:PSs X body tb):PS X (.While c body [] pos) (Gd tc tb):=by
 intro Lv s σ H D I h;obtain⟨W,⟨m0,w0⟩,turn⟩:=h;refine wpAny_While (codeAny_whileLoop (λn s'=>∃ σ' H',Inv X Lv σ' H' s'/\W n σ' H') ?_ m0 ⟨σ,H,I,w0⟩);rintro n s1 ⟨σ1,H1,I1,w1⟩;refine Lb hp (thn (hc Lv s1 σ1 H1 _ I1 (turn n σ1 H1 w1)) λb s2 ur15=>?_);obtain⟨H2,I2,q2⟩:=ur15;cases b with
|true =>
  obtain⟨N,hN,q2⟩:=q2;rw[Pg rfl];refine Lb hp (thn (hb Lv s2 σ1 H2 _ I2 q2) λf s3 q3=>?_);cases f with
 |next =>
   obtain⟨σ3,H3,I3,n3⟩:=q3;obtain⟨m',hm,w3⟩:=hN σ3 H3 n3;exact⟨m',hm,σ3,H3,I3,w3⟩
 |cont =>
   obtain⟨σ3,H3,I3,n3⟩:=q3;obtain⟨m',hm,w3⟩:=hN σ3 H3 n3;exact⟨m',hm,σ3,H3,I3,w3⟩
 |brk=>exact q3
 |ret v=>exact q3
|false =>
  rw[Ph Jw];exact wpAny_execs_nil ⟨σ1,H2,I2,q2⟩
end
structure It where
 go:Nat->Hp->Prop
 yld:Nat->Hp->V->Hp->Prop
 stop:Nat->Hp->Prop
def vW (X:Cx) (Lv:List (G' × Ku)) (H:Hp) (b:G'):Prop :=
 H b=Jd/\b≠X.env.locals/\b ∉ X.fs/\(b∈X.ex\/X.s₀.heap.objs.size <= b)/\(∀ x c,X.env.cells.lookup x=dk c->c≠b)/\∀ p∈X.pn++Lv,p.1≠b
def Inv.fpOk {X:Cx}{Lv:List (G' × Ku)}{σ:St}{H H':Hp}{s:Jc}{b:G'}(I:Inv X Lv σ H s) (hb:s.heap.objs.size <= b) (hn:H' b=Jd):vW X Lv H' b:=by
 refine⟨hn,ne_of_gt (Jj I.lt hb),I.nofs hb,.inr (JU I.sz hb),λx c e z=>?_,λp hp z=>?_⟩
 . obtain⟨v,q⟩:=I.cell x c e;exact absurd (Jj q.lt (by rw[z];exact hb)) (K1 _)
 . exact absurd (Jj (Jr (I.pin p hp).1) (by rw[z];exact hb)) (K1 _)
structure Turn (P:Jz) (w:Jp) (K:Jh) (tg:Expr) (J:It) (fp:List G') (it:G') (tn:Nat->JB->Prop):Prop where
 mem:it∈fp
 obj:∀ i h,tn i h->∀ b∈fp,∃ o,h.get? b=dk o/\∀ v,o.data≠.cell v
 keep:∀ i h h',tn i h->(∀ b∈fp,∀ o,h.get? b=dk o->h'.get? b=dk o)->tn i h'
 item:∀ (X:Cx),X.prog=P->X.w=w->X.K=K->X.calm=D'->∀ (i:Nat) (Lv:List (G' × Ku)) (s:Jc) (σ:St) (H:Hp) (E:Ja->Jc->Prop),Inv X Lv σ H s->(∀ b∈fp,vW X Lv H b)->tn i s.heap->J.go i H ->
  Jo (model P w) X.A (pyNext (.ref it)) (λr s1=>∃ u,r=dk u /\
   Jo (model P w) X.A (letOwnedTupleGo tg (.ref it) u) (λ_ s2=>∃ x H',Inv X Lv σ H' s2/\bX x u/\J.yld i H x H'/\tn (i+1) s2.heap/\∀ b∈fp,H' b=Jd) E s1) E s
 done:∀ (X:Cx),X.prog=P->X.w=w->X.K=K->X.calm=D'->∀ (i:Nat) (Lv:List (G' × Ku)) (s:Jc) (σ:St) (H:Hp) (E:Ja->Jc->Prop),Inv X Lv σ H s->(∀ b∈fp,vW X Lv H b)->tn i s.heap->J.stop i H ->
  Jo (model P w) X.A (pyNext (.ref it)) (λr s1=>r=Jd/\Inv X Lv σ H s1) E s
 self:∀ (A:JK) (i:Nat) (s:Jc) (Q:Ja->Jc->Prop) (E:Ja->Jc->Prop),tn i s.heap->Q (.ref it) s->Jo (model P w) A (pyIter (.ref it)) Q E s
abbrev TI:=St->Hp->(It->Hp->Prop)->Prop
def PIE (X:Cx) (Lv:List (G' × Ku)) (σ:St) (tg:Expr) (R:It->Hp->Prop) (itv:Ja) (s2:Jc):Prop :=
 ∃ (it:G') (fp:List G') (tn:Nat->JB->Prop) (J:It) (H':Hp),itv=.ref it/\Inv X Lv σ H' s2/\Turn X.prog X.w X.K tg J fp it tn/\tn 0 s2.heap/\(∀ b∈fp,vW X Lv H' b)/\R J H'
def PI (X:Cx) (tg iter:Expr) (wi:TI):Prop :=
 ∀ (Lv:List (G' × Ku)) (s:Jc) (σ:St) (H:Hp) (R:It->Hp->Prop),Inv X Lv σ H s->wi σ H R ->
  Jo (model X.prog X.w) X.A (eval iter X.env) (λv s1=>Jo (model X.prog X.w) X.A (pyIter v) (PIE X Lv σ tg R) X.xe s1) X.xe s
def AE {M:Model}{A:JK}{E:Ja->Jc->Prop}{s:Jc}{tg:Expr}{it:G'}{u:Ja}{o:Ku}{n:String}{vs:Array Ja}{Q:Unit->Jc->Prop}(ho:s.heap.get? it=dk o) (hc:o.cls=.type n) (hd:o.data=.fields vs)
 (hn:["enumerate","zip","dict_itemiterator","dict_reverseitemiterator","odict_iterator","itertools.zip_longest","itertools.pairwise"].contains n=j') (hQ:Q () s):Jo M A (letOwnedTupleGo tg (.ref it) u) Q E s:=by
 unfold letOwnedTupleGo;cases tg<;>first
 |exact Jb hQ
 |(cases u<;>first
  |exact Jb hQ
  |(refine f' (wpAny_load ho ?_)
    rw[hc,hd];show Jo M A (if (["enumerate","zip","dict_itemiterator","dict_reverseitemiterator","odict_iterator","itertools.zip_longest","itertools.pairwise"].contains n && vs[0]? == dk (rawInt _))=D' then _ else _) Q E s;rw[Ph (by intro h;rw[hn,Bool.false_and]at h;cases h)];exact Jb hQ))
def Itl (K:Jh) (a:G'):It :=
 ⟨λi H=>∃ xs x,SqL K H a xs/\xs[i]?=dk x,λi H x H'=>H'=H/\∀ xs,SqL K H a xs->xs[i]?=dk x,λi H=>∃ xs,SqL K H a xs/\xs.length <= i⟩
def Itt (K:Jh) (a:G'):It :=
 ⟨λi H=>∃ xs x,SqT K H a xs/\xs[i]?=dk x,λi H x H'=>H'=H/\∀ xs,SqT K H a xs->xs[i]?=dk x,λi H=>∃ xs,SqT K H a xs/\xs.length <= i⟩
def Itr (lo:Int) (n:Nat):It:=⟨λi _=>i < n,λi H x H'=>H'=H/\x=.int (lo+i),λi _=>n <= i⟩
def yU {P:Jz}{w:Jp}{K:Jh}{tg:Expr}(a it:G'):Turn P w K tg (Itl K a) [it] it (λi h=>h.IsListIter it a i) where
 mem:=by simp
 obj:=λi h st b hb=>by
  have e:b=it:=by simpa using hb
  subst e;obtain⟨o,e,c,d⟩:=st;exact⟨o,e,λv z=>by rw[d]at z;cases z⟩
 keep:=λi h h' st k=>st.at λo e=>k it (by simp) o e
 item:=by
  intro X hP hw hK hc i Lv s σ H E I hf st hg;subst hP hw hK;obtain⟨xs,x,hq,hx⟩:=hg;obtain⟨its,rv,p,hz⟩:=I.list hq;obtain⟨u,hu,ru⟩:=rv.get hx;obtain⟨f0,f1,f2,f3,f4,f5⟩:=hf it (by simp);refine wpAny_pyNext_list_item st p.isList (x:=u) (by simpa using hu) λh' st' sb=>?_
  have I1:Inv X Lv σ H { s with heap:=h' }:=I.turned (t':=s.toks) (λb o hb e=>(sb.2 b hb).trans e) f0 f1 f3 f4 f5;obtain⟨o,e,c,d⟩:=id st';exact⟨u,rfl,AE (s:={ s with heap:=h' }) e c d (by decide) ⟨x,H,I1,ru,⟨rfl,λys hy=>by rw[I.list_inj hy hq];exact hx⟩,st',λb hb=>(hf b hb).1⟩⟩
 done:=by
  intro X hP hw hK hc i Lv s σ H E I hf st hg;subst hP hw hK;obtain⟨xs,hq,hx⟩:=hg;obtain⟨its,rv,p,hz⟩:=I.list hq;obtain⟨f0,f1,f2,f3,f4,f5⟩:=hf it (by simp);have hl:=rv.length;exact wpAny_pyNext_list_end (I.ok.hd hc) st p.isList (by simp;omega) λh' eb=>⟨rfl,I.turned (t':=s.toks) (λb o hb e=>eb b o hb e) f0 f1 f3 f4 f5⟩
 self:=λ_ _ _ _ _ st h=>wpAny_pyIter_listiter st h
def wV {P:Jz}{w:Jp}{K:Jh}{tg:Expr}(a it:G'):Turn P w K tg (Itt K a) [it] it (λi h=>h.IsTupleIter it a i) where
 mem:=by simp
 obj:=λi h st b hb=>by
  have e:b=it:=by simpa using hb
  subst e;obtain⟨o,e,c,d⟩:=st;exact⟨o,e,λv z=>by rw[d]at z;cases z⟩
 keep:=λi h h' st k=>st.at λo e=>k it (by simp) o e
 item:=by
  intro X hP hw hK hc i Lv s σ H E I hf st hg;subst hP hw hK;obtain⟨xs,x,hq,hx⟩:=hg;obtain⟨its,rv,p,hz⟩:=I.tuple hq;obtain⟨u,hu,ru⟩:=rv.get hx;obtain⟨f0,f1,f2,f3,f4,f5⟩:=hf it (by simp);refine wpAny_pyNext_tuple_item st (show s.heap.IsTuple a its.toArray from p) (x:=u) (by simpa using hu) λh' st' sb=>?_
  have I1:Inv X Lv σ H { s with heap:=h' }:=I.turned (t':=s.toks) (λb o hb e=>(sb.2 b hb).trans e) f0 f1 f3 f4 f5;obtain⟨o,e,c,d⟩:=id st';exact⟨u,rfl,AE (s:={ s with heap:=h' }) e c d (by decide) ⟨x,H,I1,ru,⟨rfl,λys hy=>by rw[I.tuple_inj hy hq];exact hx⟩,st',λb hb=>(hf b hb).1⟩⟩
 done:=by
  intro X hP hw hK hc i Lv s σ H E I hf st hg;subst hP hw hK;obtain⟨xs,hq,hx⟩:=hg;obtain⟨its,rv,p,hz⟩:=I.tuple hq;obtain⟨f0,f1,f2,f3,f4,f5⟩:=hf it (by simp);have hl:=rv.length;exact wpAny_pyNext_tuple_end (I.ok.hd hc) st (show s.heap.IsTuple a its.toArray from p) (by simp;omega) λh' eb=>⟨rfl,I.turned (t':=s.toks) (λb o hb e=>eb b o hb e) f0 f1 f3 f4 f5⟩
 self:=λ_ _ _ _ _ st h=>wpAny_pyIter_tupleiter st h
def xr {P:Jz}{w:Jp}{K:Jh}{tg:Expr}(it:G') (lo:Int) (n:Nat):Turn P w K tg (Itr lo n) [it] it (λi h=>IsRangeIter h it (lo+(i:Nat) * 1) ((n:Int) - (i:Nat)) 1) where
 mem:=by simp
 obj:=λi h st b hb=>by
  have e:b=it:=by simpa using hb
  subst e;exact⟨_,st,λv z=>by
   have z':Data.fields _=Data.cell v:=z;cases z'⟩
 keep:=λi h h' st k=>k it (by simp) _ st
 item:=by
  intro X hP hw hK hc i Lv s σ H E I hf st hg;subst hP hw hK;obtain⟨f0,f1,f2,f3,f4,f5⟩:=hf it (by simp);have W:=Walks.range (prog:=X.prog) (w:=X.w) (I.ok.hd hc) it lo 1 n;refine W.item i s _ _ hg st λv h' tk hv st' kk=>?_
  obtain⟨t,rfl⟩:=hv;have I1:Inv X Lv σ H { s with heap:=h',toks:=tk }:=I.turned (λb o hb e=>kk b o (by simpa using hb) e) f0 f1 f3 f4 f5;refine⟨_,rfl,AE (s:={ s with heap:=h',toks:=tk }) (n:="range_iterator") st' rfl rfl (by decide) ⟨.int (lo+i),H,I1,⟨t,?_⟩,⟨rfl,rfl⟩,st',λb hb=>(hf b hb).1⟩⟩;rw[Int.mul_one]
 done:=by
  intro X hP hw hK hc i Lv s σ H E I hf st hg;subst hP hw hK;obtain⟨f0,f1,f2,f3,f4,f5⟩:=hf it (by simp);exact wpAny_pyNext_range_end (I.ok.hd hc) st (by have:n <= i:=hg;omega) λh' eb=>⟨rfl,I.turned (t':=s.toks) (λb o hb e=>eb b o hb e) f0 f1 f3 f4 f5⟩
 self:=λ_ _ _ _ _ st h=>wpAny_pyIter_rangeiter st h
section
variable {X:Cx}{tg:Expr}
def Hw (K:Jh) (tl:TE):TI:=λσ H R=>tl σ H λx H1=>∃ a,x=.ref a/\(∃ xs,SqL K H1 a xs)/\R (Itl K a) H1
def IH (K:Jh) (tl:TE):TI:=λσ H R=>tl σ H λx H1=>∃ a,x=.ref a/\(∃ xs,SqT K H1 a xs)/\R (Itt K a) H1
def ik {l:Expr}{tl:TE}(hl:PE X l tl):PI X tg l (Hw X.K tl):=by
 intro Lv s σ H R I h;refine thn (hl Lv s σ H _ I h) λv s1 ur16=>?_
 obtain⟨x,H1,I1,r1,q1⟩:=ur16;obtain⟨a,e,⟨xs,hq⟩,q⟩:=q1;subst e;cases r1;obtain⟨its,rv,p,hz⟩:=I1.list hq;refine wpAny_pyIter_list p.isList ?_;refine⟨s1.heap.objs.size,[s1.heap.objs.size],_,_,H1,rfl,I1.kept (t':=s1.toks) λb o e=>Jf _ e,yU a _,⟨_,Js _ rfl,rfl,rfl⟩,λb hb=>?_,q⟩;have e:b=s1.heap.objs.size:=by simpa using hb
 subst e;exact I1.fpOk (Jk _) (I1.hok.fresh (Jk _))
def CK {l:Expr}{tl:TE}(hl:PE X l tl):PI X tg l (IH X.K tl):=by
 intro Lv s σ H R I h;refine thn (hl Lv s σ H _ I h) λv s1 ur17=>?_
 obtain⟨x,H1,I1,r1,q1⟩:=ur17;obtain⟨a,e,⟨xs,hq⟩,q⟩:=q1;subst e;cases r1;obtain⟨its,rv,p,hz⟩:=I1.tuple hq;refine wpAny_pyIter_tuple (show s1.heap.IsTuple a its.toArray from p) ?_;refine⟨s1.heap.objs.size,[s1.heap.objs.size],_,_,H1,rfl,I1.kept (t':=s1.toks) λb o e=>Jf _ e,wV a _,⟨_,Js _ rfl,rfl,rfl⟩,λb hb=>?_,q⟩;have e:b=s1.heap.objs.size:=by simpa using hb
 subst e;exact I1.fpOk (Jk _) (I1.hok.fresh (Jk _))
def C5 {Lv:List (G' × Ku)}{σ:St}{H:Hp}{s:Jc}{R:It->Hp->Prop}{E:Ja->Jc->Prop}{lo hi:Int}{t u v:Tok}{tk:Nat}(I:Inv X Lv σ H s) (h1:-(2 ^ 62) <= lo) (h2:lo < 2 ^ 62) (h3:-(2 ^ 62) <= hi) (h4:hi < 2 ^ 62)
 (q:R (Itr lo (hi - lo).toNat) H):Jo (model X.prog X.w) X.A (pyIter (.ref s.heap.objs.size)) (PIE X Lv σ tg R) E { s with heap:=s.heap.push { cls:=.type "range",data:=.fields #[.int lo t,.int hi u,.int 1 v] },toks:=tk }:=by
 refine wpAny_pyIter_range (IsRange.new ..) (small_one h1 h2 h3 h4) ?_;have I1:Inv X Lv σ H { s with heap:=s.heap.push { cls:=.type "range",data:=.fields #[.int lo t,.int hi u,.int 1 v] },toks:=tk }:=I.kept λb o e=>Jf _ e
 refine⟨(s.heap.push { cls:=.type "range",data:=.fields #[.int lo t,.int hi u,.int 1 v] }).objs.size,[(s.heap.push { cls:=.type "range",data:=.fields #[.int lo t,.int hi u,.int 1 v] }).objs.size],_,_,H,rfl,
  I1.kept (t':=tk) λb o e=>Jf _ e,xr _ lo (hi - lo).toNat,?_,λb hb=>?_,q⟩
 . have e1:lo+((0:Nat):Int) * 1=lo:=by simp
   have e2:(((hi - lo).toNat:Nat):Int) - ((0:Nat):Int)=Builtin.Range.rangeSize lo hi 1:=by rw[rangeSize_one];split<;>omega
   show IsRangeIter _ _ (lo+((0:Nat):Int) * 1) ((((hi - lo).toNat:Nat):Int) - ((0:Nat):Int)) 1;rw[e1,e2];exact Js _ rfl
 . have e:b=(s.heap.push { cls:=.type "range",data:=.fields #[.int lo t,.int hi u,.int 1 v] }).objs.size:=by simpa using hb
   subst e;exact I1.fpOk (Jk _) (I1.hok.fresh (Jk _))
def GL (ta:TA):TI:=λσ H R=>ta σ H λvs H1=>∃ j:Int,vs=[.int j]/\-(2 ^ 62) <= j/\j < 2 ^ 62/\R (Itr 0 j.toNat) H1
def nR {a:Expr}{ta:TA}{p pos:Pos}(hg:Gl X "range") (hm:X.mg "range"=Jd) (ha:PA X [a] ta) (hs:JL [a] X.env=[(j',eval a X.env)]:=by rfl):PI X tg (.Call (.Name "range" p) [a] [] pos) (GL ta):=by
 intro Lv s σ H R I h;refine Call_ (nT I hg hm boot_range (KP (thn (ha pos Lv s σ H _ I h) λus s1 ur18=>?_) hs rfl));obtain⟨vs,H1,I1,r1,q1⟩:=ur18;obtain⟨j,e,q1,q2,q⟩:=q1;subst e;cases r1 with
|cons r rr =>
  cases rr;obtain⟨t,rfl⟩:=r;exact call_range_1 (C5 I1 (by omega) (by omega) q1 q2 (by simpa using q))
def ID (wi:TI) (g:TG) (tb:TS):TS:=λD σ H=>wi σ H λJ H1=>∃ W:Nat->Nat->St->Hp->Prop,(∃ m,W 0 m σ H1)/\∀ i m σ H,W i m σ H ->
 (J.stop i H/\D.nx σ H)\/(J.go i H/\∃ N:St->Hp->Prop,(∀ σ' H',N σ' H'->∃ m',m' < m/\W (i+1) m' σ' H')/\∀ x H',J.yld i H x H'->g x σ H' λσ2 H2=>tb { D with nx:=N,ct:=N,bk:=D.nx } σ2 H2)
def tY (fp:List G') (h:JB):List (G' × Ku):=fp.filterMap λb=>(h.get? b).map λo=>(b,o)
def jy {fp:List G'}{h:JB}{b:G'}{o:Ku}(hb:b∈fp) (e:h.get? b=dk o):(b,o)∈tY fp h:=mem_filterMap.mpr ⟨b,hb,by rw[e];rfl⟩
def yH {fp:List G'}{h:JB}{p:G' × Ku}(hp:p∈tY fp h):p.1∈fp/\h.get? p.1=dk p.2:=by
 obtain⟨b,hb,e⟩:=mem_filterMap.mp hp;cases q:h.get? b with
|none=>rw[q]at e;cases e
|some o =>
  rw[q]at e;have e':(b,o)=p:=JF e;subst e';exact⟨hb,q⟩
def Inv.pinned {Lv:List (G' × Ku)}{σ:St}{H:Hp}{s:Jc}{fp:List G'}(I:Inv X Lv σ H s) (hf:∀ b∈fp,vW X Lv H b) (ho:∀ b∈fp,∃ o,s.heap.get? b=dk o/\∀ v,o.data≠.cell v):Inv X (Lv++tY fp s.heap) σ H s :=
 I.pins_of λp hp=>(KU.mp hp).elim (λz=>I.pin p (Kz _ z)) λz=>by
  obtain⟨hb,e⟩:=yH z;obtain⟨f0,f1,f2,_⟩:=hf p.1 hb;obtain⟨o,e',d⟩:=ho p.1 hb;rw[e]at e';cases e';exact⟨e,f0,f1,f2,d⟩
def Inv.unpinned {Lv pl:List (G' × Ku)}{σ:St}{H:Hp}{s:Jc}(I:Inv X (Lv++pl) σ H s):Inv X Lv σ H s:=I.pins_of λp hp=>I.pin p (Kz _ (List.mem_append_left _ hp))
def kP {iter:Expr}{body:List JT}{wi:TI}{g:TG}{tb:TS}{pos:Pos}(hp:PassesOwn (model X.prog X.w) X.A X.env X.xe) (hc:X.calm=D') (hi:PI X tg iter wi) (hg:PG X tg g) (hb:PSs X body tb)
 (hs:∀ x,foldedSetIterable iter X.env x=pure x:=by intro _;rfl):PS X (.For tg iter body [] pos) (ID wi g tb):=by
 intro Lv s σ H D I h;refine wpAny_For (thn (hi Lv s σ H _ I h) λv s1 h1=>thn h1 λitv s2 h2=>?_) hs;obtain⟨it,fp,tn,J,H2,e,I2,T,st2,f2,W,⟨m0,w0⟩,turn⟩:=h2;subst e;have stat:∀ {H':Hp},(∀ b∈fp,H' b=Jd)->∀ b∈fp,vW X Lv H' b:=λhn b hb=>⟨hn b hb,(f2 b hb).2⟩
 refine codeAny_forLoop_any (λn s'=>∃ i σ' H',Inv X Lv σ' H' s'/\tn i s'.heap/\(∀ b∈fp,H' b=Jd)/\W i n σ' H') ?_ m0 ⟨0,σ,H2,I2,st2,λb hb=>(f2 b hb).1,w0⟩;rintro n s3 ⟨i,σ3,H3,I3,st3,fr3,w3⟩;rcases turn i n σ3 H3 w3 with⟨stop,qn⟩|⟨go,N,hN,step⟩
 . refine Lb hp (thn (T.done X rfl rfl rfl hc i Lv s3 σ3 H3 X.xe I3 (stat fr3) st3 stop) λr s4 ur19=>?_);obtain⟨hr,I4⟩:=ur19;subst hr;exact wpAny_execs_nil ⟨σ3,H3,I4,qn⟩
 . refine Lb hp (thn (T.item X rfl rfl rfl hc i Lv s3 σ3 H3 X.xe I3 (stat fr3) st3 go) λr s4 ur20=>?_);obtain⟨u,hr,h4⟩:=ur20;subst hr;refine Lb hp (thn h4 λ_ s5 ur21=>?_);obtain⟨x,H5,I5,r5,y5,st5,fr5⟩:=ur21;have I5':=I5.pinned (stat fr5) (T.obj _ _ st5);refine Lb hp (thn (hg _ s5 σ3 H5 x u _ I5' r5 (step x H5 y5)) λ_ s6 ur22=>?_);obtain⟨σ6,H6,I6,q6⟩:=ur22;refine Lb hp (thn (hb _ s6 σ6 H6 _ I6 q6) λf s7 q7=>?_);have again:∀ {σ7:St} {H7:Hp},Inv X (Lv++tY fp s5.heap) σ7 H7 s7->N σ7 H7->∃ m,m < n/\∃ i σ' H',Inv X Lv σ' H' s7/\tn i s7.heap/\(∀ b∈fp,H' b=Jd)/\W i m σ' H':=λ{σ7 H7} I7 n7=>by
    obtain⟨m',hm,w7⟩:=hN σ7 H7 n7;refine⟨m',hm,i+1,σ7,H7,I7.unpinned,T.keep _ _ _ st5 λb hb o e=>(I7.pin (b,o) (Kz _ (Kz _ (jy hb e)))).1,λb hb=>?_,w7⟩;obtain⟨o,e,d⟩:=T.obj _ _ st5 b hb;exact(I7.pin (b,o) (Kz _ (Kz _ (jy hb e)))).2.1
   cases f with
  |next=>obtain⟨σ7,H7,I7,n7⟩:=q7;exact again I7 n7
  |cont=>obtain⟨σ7,H7,I7,n7⟩:=q7;exact again I7 n7
  |brk=>obtain⟨σ7,H7,I7,q7⟩:=q7;exact⟨σ7,H7,I7.unpinned,q7⟩
  |ret v=>obtain⟨x7,σ7,H7,I7,r7,q7⟩:=q7;exact⟨x7,σ7,H7,I7.unpinned,r7,q7⟩
end
def qX {K:Jh}{a:G'}{xs:List V}{g:TG}{tb:TS}{D:Ends}{σ:St}{H:Hp}(Pv:Nat->St->Hp->Prop) (h0:Pv 0 σ H) (hl:∀ i σ H,i <= xs.length->Pv i σ H->SqL K H a xs)
 (hs:∀ i x σ H,xs[i]?=dk x->Pv i σ H->g x σ H λσ2 H2=>tb { D with nx:=Pv (i+1),ct:=Pv (i+1),bk:=D.nx } σ2 H2) (hd:∀ σ H,Pv xs.length σ H->D.nx σ H) :
 ∃ W:Nat->Nat->St->Hp->Prop,(∃ m,W 0 m σ H)/\∀ i m σ H,W i m σ H ->
  ((Itl K a).stop i H/\D.nx σ H)\/((Itl K a).go i H/\∃ N:St->Hp->Prop,(∀ σ' H',N σ' H'->∃ m',m' < m/\W (i+1) m' σ' H')/\∀ x H',(Itl K a).yld i H x H'->g x σ H' λσ2 H2=>tb { D with nx:=N,ct:=N,bk:=D.nx } σ2 H2):=by
 refine⟨λi m σ H=>m=xs.length - i/\i <= xs.length/\Pv i σ H,⟨xs.length,by simp,KG _,h0⟩,?_⟩;rintro i m σ H ⟨rfl,hi,p⟩;have q:=hl i σ H hi p;by_cases hlt:i < xs.length
 . refine .inr ⟨⟨xs,xs[i],q,by simp[hlt]⟩,Pv (i+1),λσ' H' p'=>⟨xs.length - (i+1),by omega,rfl,hlt,p'⟩,λx H' y=>?_⟩;obtain⟨e,y⟩:=y;subst e;exact hs i x σ _ (y xs q) p
 . have e:i=xs.length:=by omega
   subst e;exact .inl ⟨⟨xs,q,Jk _⟩,hd σ H p⟩
def yJ {K:Jh}{a:G'}{xs:List V}{g:TG}{tb:TS}{D:Ends}{σ:St}{H:Hp}(Pv:Nat->St->Hp->Prop) (h0:Pv 0 σ H) (hl:∀ i σ H,i <= xs.length->Pv i σ H->SqT K H a xs)
 (hs:∀ i x σ H,xs[i]?=dk x->Pv i σ H->g x σ H λσ2 H2=>tb { D with nx:=Pv (i+1),ct:=Pv (i+1),bk:=D.nx } σ2 H2) (hd:∀ σ H,Pv xs.length σ H->D.nx σ H) :
 ∃ W:Nat->Nat->St->Hp->Prop,(∃ m,W 0 m σ H)/\∀ i m σ H,W i m σ H ->
  ((Itt K a).stop i H/\D.nx σ H)\/((Itt K a).go i H/\∃ N:St->Hp->Prop,(∀ σ' H',N σ' H'->∃ m',m' < m/\W (i+1) m' σ' H')/\∀ x H',(Itt K a).yld i H x H'->g x σ H' λσ2 H2=>tb { D with nx:=N,ct:=N,bk:=D.nx } σ2 H2):=by
 refine⟨λi m σ H=>m=xs.length - i/\i <= xs.length/\Pv i σ H,⟨xs.length,by simp,KG _,h0⟩,?_⟩;rintro i m σ H ⟨rfl,hi,p⟩;have q:=hl i σ H hi p;by_cases hlt:i < xs.length
 . refine .inr ⟨⟨xs,xs[i],q,by simp[hlt]⟩,Pv (i+1),λσ' H' p'=>⟨xs.length - (i+1),by omega,rfl,hlt,p'⟩,λx H' y=>?_⟩;obtain⟨e,y⟩:=y;subst e;exact hs i x σ _ (y xs q) p
 . have e:i=xs.length:=by omega
   subst e;exact .inl ⟨⟨xs,q,Jk _⟩,hd σ H p⟩
def sI {lo:Int}{n:Nat}{g:TG}{tb:TS}{D:Ends}{σ:St}{H:Hp}(Pv:Nat->St->Hp->Prop) (h0:Pv 0 σ H)
 (hs:∀ i σ H,i < n->Pv i σ H->g (.int (lo+i)) σ H λσ2 H2=>tb { D with nx:=Pv (i+1),ct:=Pv (i+1),bk:=D.nx } σ2 H2) (hd:∀ σ H,Pv n σ H->D.nx σ H) :
 ∃ W:Nat->Nat->St->Hp->Prop,(∃ m,W 0 m σ H)/\∀ i m σ H,W i m σ H ->
  ((Itr lo n).stop i H/\D.nx σ H)\/((Itr lo n).go i H/\∃ N:St->Hp->Prop,(∀ σ' H',N σ' H'->∃ m',m' < m/\W (i+1) m' σ' H')/\∀ x H',(Itr lo n).yld i H x H'->g x σ H' λσ2 H2=>tb { D with nx:=N,ct:=N,bk:=D.nx } σ2 H2):=by
 refine⟨λi m σ H=>m=n - i/\i <= n/\Pv i σ H,⟨n,by simp,KG _,h0⟩,?_⟩;rintro i m σ H ⟨rfl,hi,p⟩;by_cases hlt:i < n
 . refine .inr ⟨hlt,Pv (i+1),λσ' H' p'=>⟨n - (i+1),by omega,rfl,hlt,p'⟩,λx H' y=>?_⟩;obtain⟨e,y⟩:=y;subst e y;exact hs i σ _ hlt p
 . have e:i=n:=by omega
   subst e;exact .inl ⟨Jk _,hd σ H p⟩
abbrev R2:=V->V->Hp->VK->Prop
def OpR (X:Cx) (f:Ja->Ja->Sem Ja) (r:R2):Prop :=
 ∀ (Lv:List (G' × Ku)) (s:Jc) (σ:St) (H:Hp) (x y:V) (v u:Ja) (Q:VK),Inv X Lv σ H s->bX x v->bX y u->r x y H Q ->
  Jo (model X.prog X.w) X.A (f v u) (EP X Lv σ Q) X.xe s
def UnR (X:Cx) (f:Ja->Sem Ja) (r:V->Hp->VK->Prop):Prop :=
 ∀ (Lv:List (G' × Ku)) (s:Jc) (σ:St) (H:Hp) (x:V) (v:Ja) (Q:VK),Inv X Lv σ H s->bX x v->r x H Q ->
  Jo (model X.prog X.w) X.A (f v) (EP X Lv σ Q) X.xe s
def pe (X:Cx) (f:Ja) (r:List V->Hp->VK->Prop):Prop :=
 ∀ (Lv:List (G' × Ku)) (s:Jc) (σ:St) (H:Hp) (xs:List V) (us:List Ja) (Q:VK),Inv X Lv σ H s->bE xs us->r xs H Q ->
  Jo (model X.prog X.w) X.A (call f us) (EP X Lv σ Q) X.xe s
def Il (X:Cx) (r:V->Hp->(Bool->Hp->Prop)->Prop):Prop :=
 ∀ (Lv:List (G' × Ku)) (s:Jc) (σ:St) (H:Hp) (x:V) (v:Ja) (Q:Bool->Hp->Prop),Inv X Lv σ H s->bX x v->r x H Q ->
  Jo (model X.prog X.w) X.A (truthy v) (TP X Lv σ Q) X.xe s
def tOp (r:R2) (ta tb:TE):TE:=λσ H Q=>ta σ H λx H1=>tb σ H1 λy H2=>r x y H2 Q
def tUn (r:V->Hp->VK->Prop) (ta:TE):TE:=λσ H Q=>ta σ H λx H1=>r x H1 Q
def rI (C:Int->Int->Prop) (g:Int->Int->V):R2:=λx y H Q=>∃ i j,x=.int i/\y=.int j/\C i j/\Q (g i j) H
def rI0 (g:Int->Int->V):R2:=λx y H Q=>∃ i j,x=.int i/\y=.int j/\Q (g i j) H
def rU (g:Int->V):V->Hp->VK->Prop:=λx H Q=>∃ i,x=.int i/\Q (g i) H
section
variable {X:Cx}{a b c:Expr}{ta tb tc:TE}{pos:Pos}
def GC (ha:PE X a ta) (hb:PE X b tb) {Lv:List (G' × Ku)}{s:Jc}{σ:St}{H:Hp}{R:V->V->Hp->Prop}(I:Inv X Lv σ H s)
 (h:ta σ H λx H1=>tb σ H1 λy H2=>R x y H2) {Q:Ja->Jc->Prop} {f:Ja->Ja->Sem Ja}
 (hf:∀ v u s2 x y H2,Inv X Lv σ H2 s2->bX x v->bX y u->R x y H2->Jo (model X.prog X.w) X.A (f v u) Q X.xe s2) :
 Jo (model X.prog X.w) X.A (eval a X.env) (λv s₁=>Jo (model X.prog X.w) X.A (eval b X.env) (λu s₂=>Jo (model X.prog X.w) X.A (f v u) Q X.xe s₂) X.xe s₁) X.xe s:=by
 refine thn (ha Lv s σ H _ I h) λv s1 ur23=>?_
 obtain⟨x,H1,I1,r1,q1⟩:=ur23;refine thn (hb Lv s1 σ H1 _ I1 q1) λu s2 ur24=>?_
 obtain⟨y,H2,I2,r2,q2⟩:=ur24;exact hf v u s2 x y H2 I2 r1 r2 q2
def cO {op:Operator}{r:R2}(ho:OpR X (binaryOp op) r) (ha:PE X a ta) (hb:PE X b tb):PE X (.BinOp a op b pos) (tOp r ta tb):=by
 intro Lv s σ H Q I h;exact wpAny_BinOp (GC ha hb I h λv u s2 x y H2 I2 rx ry q=>ho Lv s2 σ H2 x y v u Q I2 rx ry q)
def Ge {op:UnaryOp}{r:V->Hp->VK->Prop}(ho:UnR X (unaryOp op) r) (ha:PE X a ta):PE X (.UnaryOp op a pos) (tUn r ta):=by
 intro Lv s σ H Q I h;exact UnaryOp_ (thn (ha Lv s σ H _ I h) λv s1 uq3=>by(obtain⟨x,H1,I1,r1,q1⟩:=uq3;exact ho Lv s1 σ H1 x v Q I1 r1 q1))
def opI {f:Ja->Ja->Sem Ja}{C:Int->Int->Prop}{g:Int->Int->Int}
 (rule:∀ (i j:Int) (t u:Tok) (s:Jc) (Q:Ja->Jc->Prop) (E:Ja->Jc->Prop),C i j->Q (.int (g i j) s.toks) { s with toks:=s.toks+1 }->Jo (model X.prog X.w) X.A (f (.int i t) (.int j u)) Q E s) :
 OpR X f (rI C λi j=>.int (g i j)):=by
 intro Lv s σ H x y v u Q I rx ry h;obtain⟨i,j,rfl,rfl,hc,q⟩:=h;obtain⟨t,rfl⟩:=rx;obtain⟨t',rfl⟩:=ry;exact rule i j t t' s _ _ hc ⟨.int (g i j),H,I.tok _,⟨_,rfl⟩,q⟩
def HU {f:Ja->Ja->Sem Ja}{g:Int->Int->Int}
 (rule:∀ (i j:Int) (t u:Tok) (s:Jc) (Q:Ja->Jc->Prop) (E:Ja->Jc->Prop),Q (.int (g i j) s.toks) { s with toks:=s.toks+1 }->Jo (model X.prog X.w) X.A (f (.int i t) (.int j u)) Q E s) :
 OpR X f (rI0 λi j=>.int (g i j)):=by
 intro Lv s σ H x y v u Q I rx ry h;obtain⟨i,j,rfl,rfl,q⟩:=h;obtain⟨t,rfl⟩:=rx;obtain⟨t',rfl⟩:=ry;exact rule i j t t' s _ _ ⟨.int (g i j),H,I.tok _,⟨_,rfl⟩,q⟩
def Gi {f:Ja->Ja->Sem Ja}{g:Int->Int->Bool}
 (rule:∀ (i j:Int) (t u:Tok) (s:Jc) (Q:Ja->Jc->Prop) (E:Ja->Jc->Prop),Q (.bool (g i j)) s->Jo (model X.prog X.w) X.A (f (.int i t) (.int j u)) Q E s) :
 OpR X f (rI0 λi j=>.bl (g i j)):=by
 intro Lv s σ H x y v u Q I rx ry h;obtain⟨i,j,rfl,rfl,q⟩:=h;obtain⟨t,rfl⟩:=rx;obtain⟨t',rfl⟩:=ry;exact rule i j t t' s _ _ ⟨.bl (g i j),H,I,rfl,q⟩
def IP (i j:Int):Prop:=0 <= j/\j <= 1000000/\i.natAbs < 2 ^ 64
def Gh (i j:Int):Prop:=(-(2 ^ 64) < i/\i < 2 ^ 64)\/(-(2 ^ 64) < j/\j < 2 ^ 64)
def Gh.ok {i j:Int}(h:Gh i j):IntMulOk i j:=by
 rcases h with⟨h1,h2⟩|⟨h1,h2⟩
 . exact .of_left (intBits_le_64 h1 h2)
 . exact .of_right (intBits_le_64 h1 h2)
def jM:OpR X (binaryOp .Add) (rI0 λi j=>.int (i+j)):=HU λ_ _ _ _ _ _ _ q=>add_int q
def qw:OpR X (binaryOp .Sub) (rI0 λi j=>.int (i - j)):=HU λ_ _ _ _ _ _ _ q=>sub_int q
def tO:OpR X (binaryOp .Mult) (rI Gh λi j=>.int (i * j)):=opI λ_ _ _ _ _ _ _ hc q=>mul_int q hc.ok
def mF:OpR X (binaryOp .Mod) (rI (λ_ j=>0 < j) λi j=>.int (i % j)):=opI λi j _ _ _ _ _ hc q=>by
 have h1:(0:Int) < j:=hc;exact mod_int' (by omega) (by rw[Int.fmod_eq_emod_of_nonneg i (by omega)];exact q)
def EC:OpR X (binaryOp .Pow) (rI IP λi j=>.int (i ^ j.toNat)):=opI λ_ _ _ _ _ _ _ hc q=>pow_int_small hc.1 hc.2.1 hc.2.2 q
def unI {f:Ja->Sem Ja}{g:Int->Int}
 (rule:∀ (i:Int) (t:Tok) (s:Jc) (Q:Ja->Jc->Prop) (E:Ja->Jc->Prop),Q (.int (g i) s.toks) { s with toks:=s.toks+1 }->Jo (model X.prog X.w) X.A (f (.int i t)) Q E s) :
 UnR X f (rU λi=>.int (g i)):=by
 intro Lv s σ H x v Q I rx h;obtain⟨i,rfl,q⟩:=h;obtain⟨t,rfl⟩:=rx;exact rule i t s _ _ ⟨.int (g i),H,I.tok _,⟨_,rfl⟩,q⟩
def CF:UnR X (unaryOp .USub) (rU λi=>.int (-i)):=unI λ_ _ _ _ _ q=>neg_int q
end
def HX:V->V->Bool
|.non,.non=>D'|.non,.int _=>D'|.int _,.non=>D'|.non,.bl _=>D'|.bl _,.non=>D'|.non,.str _=>D'|.str _,.non=>D'
|.int _,.int _=>D'|.bl _,.bl _=>D'|.str _,.str _=>D'|.byt _,.byt _=>D'
|.int _,.str _=>D'|.str _,.int _=>D'|.bl _,.str _=>D'|.str _,.bl _=>D'
|_,_=>j'
def rEq:R2:=λx y H Q=>HX x y=D'/\Q (.bl (decide (x=y))) H
def rNe:R2:=λx y H Q=>HX x y=D'/\Q (.bl (!decide (x=y))) H
def zv {i j:Int}:decide (V.int i=V.int j)=(i == j):=by
 rw[KN];simp
def Cl {i j:Bool}:decide (V.bl i=V.bl j)=(i == j):=by
 rw[KN];simp
def yC {i j:Str}:decide (V.str i=V.str j)=(i == j):=by
 rw[KN];simp
def yp {i j:Array UInt8}:decide (V.byt i=V.byt j)=(i.toList == j.toList):=by
 rw[KN];cases i;cases j;simp
section
variable {X:Cx}{a b c:Expr}{ta tb tc:TE}{pos:Pos}
def bp {Lv:List (G' × Ku)}{σ:St}{H:Hp}{s:Jc}{Q:VK}{k k':Bool}(I:Inv X Lv σ H s) (q:Q (.bl k) H) (e:k=k'):EP X Lv σ Q (.bool k') s:=by
 subst e;exact⟨.bl k,H,I,rfl,q⟩
def bJ:OpR X (Kw .Eq) rEq:=by
 intro Lv s σ H x y v u Q I rx ry h;obtain⟨hs,q⟩:=h;cases x with
|non =>
  cases rx;cases y with
 |non=>cases ry;exact PySem.EqNone.eq_none_none (bp I q (by simp))
 |bl j=>cases ry;exact PySem.EqNone.eq_none_bool (bp I q (by simp))
 |int j=>obtain⟨t',rfl⟩:=ry;exact PySem.EqNone.eq_none_int (bp I q (by simp))
 |str j=>obtain⟨t',rfl⟩:=ry;exact PySem.EqNone.eq_none_str (bp I q (by simp))
 |_=>exact absurd (show j'=D' from hs) Jw
|bl i =>
  cases rx;cases y with
 |non=>cases ry;exact PySem.EqNone.eq_bool_none (bp I q (by simp))
 |bl j=>cases ry;exact eq_bool (bp I q Cl)
 |str j=>obtain⟨t',rfl⟩:=ry;exact PySem.EqMixed.eq_bool_str (bp I q (by simp))
 |_=>exact absurd (show j'=D' from hs) Jw
|int i =>
  obtain⟨t,rfl⟩:=rx;cases y with
 |non=>cases ry;exact PySem.EqNone.eq_int_none (bp I q (by simp))
 |int j=>obtain⟨t',rfl⟩:=ry;exact eq_int (bp I q zv)
 |str j=>obtain⟨t',rfl⟩:=ry;exact PySem.EqMixed.eq_int_str (bp I q (by simp))
 |_=>exact absurd (show j'=D' from hs) Jw
|str i =>
  obtain⟨t,rfl⟩:=rx;cases y with
 |non=>cases ry;exact PySem.EqNone.eq_str_none (bp I q (by simp))
 |bl j=>cases ry;exact PySem.EqMixed.eq_str_bool (bp I q (by simp))
 |int j=>obtain⟨t',rfl⟩:=ry;exact PySem.EqMixed.eq_str_int (bp I q (by simp))
 |str j=>obtain⟨t',rfl⟩:=ry;exact eq_str (bp I q yC)
 |_=>exact absurd (show j'=D' from hs) Jw
|byt i =>
  obtain⟨t,rfl⟩:=rx;cases y with
 |byt j=>obtain⟨t',rfl⟩:=ry;exact eq_bytes (bp I q yp)
 |_=>exact absurd (show j'=D' from hs) Jw
|_=>cases y<;>exact absurd (show j'=D' from hs) Jw
def pf:OpR X (Kw .NotEq) rNe:=by
 intro Lv s σ H x y v u Q I rx ry h;obtain⟨hs,q⟩:=h;cases x with
|non =>
  cases rx;cases y with
 |non=>cases ry;exact PySem.EqNone.ne_none_none (bp I q (by simp))
 |bl j=>cases ry;exact PySem.EqNone.ne_none_bool (bp I q (by simp))
 |int j=>obtain⟨t',rfl⟩:=ry;exact PySem.EqNone.ne_none_int (bp I q (by simp))
 |str j=>obtain⟨t',rfl⟩:=ry;exact PySem.EqNone.ne_none_str (bp I q (by simp))
 |_=>exact absurd (show j'=D' from hs) Jw
|bl i =>
  cases rx;cases y with
 |non=>cases ry;exact PySem.EqNone.ne_bool_none (bp I q (by simp))
 |bl j=>cases ry;exact ne_bool (bp I q (congrArg not Cl))
 |str j=>obtain⟨t',rfl⟩:=ry;exact PySem.EqMixed.ne_bool_str (bp I q (by simp))
 |_=>exact absurd (show j'=D' from hs) Jw
|int i =>
  obtain⟨t,rfl⟩:=rx;cases y with
 |non=>cases ry;exact PySem.EqNone.ne_int_none (bp I q (by simp))
 |int j=>obtain⟨t',rfl⟩:=ry;exact ne_int (bp I q (congrArg not zv))
 |str j=>obtain⟨t',rfl⟩:=ry;exact PySem.EqMixed.ne_int_str (bp I q (by simp))
 |_=>exact absurd (show j'=D' from hs) Jw
|str i =>
  obtain⟨t,rfl⟩:=rx;cases y with
 |non=>cases ry;exact PySem.EqNone.ne_str_none (bp I q (by simp))
 |bl j=>cases ry;exact PySem.EqMixed.ne_str_bool (bp I q (by simp))
 |int j=>obtain⟨t',rfl⟩:=ry;exact PySem.EqMixed.ne_str_int (bp I q (by simp))
 |str j=>obtain⟨t',rfl⟩:=ry;exact ne_str (bp I q (congrArg not yC))
 |_=>exact absurd (show j'=D' from hs) Jw
|byt i =>
  obtain⟨t,rfl⟩:=rx;cases y with
 |byt j=>obtain⟨t',rfl⟩:=ry;exact ne_bytes (bp I q (congrArg not yp))
 |_=>exact absurd (show j'=D' from hs) Jw
|_=>cases y<;>exact absurd (show j'=D' from hs) Jw
def GE:OpR X (Kw .Lt) (rI0 λi j=>.bl (decide (i < j))):=Gi λ_ _ _ _ _ _ _ q=>lt_int q
def Fj:OpR X (Kw .LtE) (rI0 λi j=>.bl (decide (i <= j))):=Gi λ_ _ _ _ _ _ _ q=>le_int q
def F5:OpR X (Kw .Gt) (rI0 λi j=>.bl (decide (j < i))):=Gi λ_ _ _ _ _ _ _ q=>gt_int q
def Gz:OpR X (Kw .GtE) (rI0 λi j=>.bl (decide (j <= i))):=Gi λ_ _ _ _ _ _ _ q=>ge_int q
def Ct:OpR X (Kw .Is) (λx y H Q=>y=.non/\Q (.bl (decide (x=.non))) H):=by
 intro Lv s σ H x y v u Q I rx ry h;obtain⟨rfl,q⟩:=h;cases ry;refine is_none_gen (bp I q ?_);cases x<;>first
 |(cases rx;rfl)
 |(obtain⟨t,rfl⟩:=rx;rfl)
def nL:OpR X (Kw .IsNot) (λx y H Q=>y=.non/\Q (.bl (!decide (x=.non))) H):=by
 intro Lv s σ H x y v u Q I rx ry h;obtain⟨rfl,q⟩:=h;cases ry;refine isnot_none_gen (bp I q ?_);cases x<;>first
 |(cases rx;rfl)
 |(obtain⟨t,rfl⟩:=rx;rfl)
def av (b:Expr) {op:CmpOp}(h:op≠.In:=by decide) (h2:op≠.NotIn:=by decide):behindInMarks op b=j':=by
 have e1:(op == CmpOp.In)=j':=by cases op<;>first|rfl|exact absurd rfl h
 have e2:(op == CmpOp.NotIn)=j':=by cases op<;>first|rfl|exact absurd rfl h2
 cases b<;>simp[behindInMarks,e1,e2]
def cY {op:CmpOp}{r:R2}(ho:OpR X (Kw op) r) (ha:PE X a ta) (hb:PE X b tb) (hm:behindInMarks op b=j'):PE X (.Compare a [op] [b] pos) (tOp r ta tb):=by
 intro Lv s σ H Q I h;exact wpAny_Compare1 (GC ha hb I h λv u s2 x y H2 I2 rx ry q=>ho Lv s2 σ H2 x y v u Q I2 rx ry q) hm
def AF (t:TE):TT:=λσ H Q=>t σ H λx H'=>∃ k,x=.bl k/\Q k H'
def am {op:CmpOp}{r:R2}(ho:OpR X (Kw op) r) (ha:PE X a ta) (hb:PE X b tb) (hm:behindInMarks op b=j'):PT X (.Compare a [op] [b] pos) (AF (tOp r ta tb)):=by
 intro Lv s σ H Q I h;refine wpAny_isTrue_Compare1 (thn (ha Lv s σ H _ I h) λv s1 ⟨x,H1,I1,r1,q1⟩=>thn (hb Lv s1 σ H1 _ I1 q1) λu s2 ⟨y,H2,I2,r2,q2⟩ =>
  thn (ho Lv s2 σ H2 x y v u _ I2 r1 r2 q2) λc s3 ⟨z,H3,I3,r3,k,e,q3⟩=>?_) hm
 subst e;cases r3;exact KH ⟨H3,I3,q3⟩
def F0 (r r':R2) (ta tb tc:TE):TE:=λσ H Q=>ta σ H λx H1=>tb σ H1 λy H2=>r x y H2 λz H3=>∃ k,z=.bl k /\
 (if k=D' then tc σ H3 λw' H4=>r' y w' H4 Q else Q (.bl j') H3)
def BG {op op':CmpOp}{r r':R2}(ho:OpR X (Kw op) r) (ho':OpR X (Kw op') r') (ha:PE X a ta) (hb:PE X b tb) (hc:PE X c tc)
 (hm:lastMarks [op,op'] [b,c]=j':=by with_unfolding_all rfl):PE X (.Compare a [op,op'] [b,c] pos) (F0 r r' ta tb tc):=by
 intro Lv s σ H Q I h;refine Compare_chain (thn (ha Lv s σ H _ I h) λv s1 ⟨x,H1,I1,r1,q1⟩=>chain_link (thn (hb Lv s1 σ H1 _ I1 q1) λu s2 ⟨y,H2,I2,r2,q2⟩ =>
  thn (ho Lv s2 σ H2 x y v u _ I2 r1 r2 q2) λd s3 ⟨z,H3,I3,r3,k,e,q3⟩=>?_)) hm
 subst e;cases r3;refine KH ?_;cases k with
|false=>exact ite_ff ⟨.bl j',H3,I3,rfl,q3⟩
|true=>exact ite_tt (chain_last (thn (hc Lv s3 σ H3 _ I3 q3) λw' s4 uq4=>by(obtain⟨z',H4,I4,r4,q4⟩:=uq4;exact ho' Lv s4 σ H4 y z' u w' Q I4 r2 r4 q4)))
def I9 (K:Jh) (x:V) (H:Hp) (k:Bool):Prop :=
 match x with
|.non=>k=j'
|.bl b=>k=b
|.int i=>k=(i != 0)
|.str y=>y.length <= Jm/\k=((y.length:Int) != 0)
|.byt y=>y.size <= Jm/\k=((y.size:Int) != 0)
|.ref p=>(∃ xs,SqL K H p xs/\k=!xs.isEmpty)\/(∃ xs,SqT K H p xs/\k=!xs.isEmpty)\/∃ kvs,H p=dk (.dK kvs)/\k=!kvs.isEmpty
|_=>False
def wT {κ:Type}{kvs:List (κ × V)}{vs:List (κ × Ja)}(r:KV kvs vs):(!vs.isEmpty)=!kvs.isEmpty:=by
 cases r<;>rfl
def q5 {xs:List V}{its:List Ja}(r:bE xs its):(!its.toArray.isEmpty)=!xs.isEmpty:=by
 cases r<;>simp
def sB:(Jm:Nat) < 2 ^ 63:=by rw[sizeLine_eq];decide
def Fv:Il X (λx H Q=>∃ k,I9 X.K x H k/\Q k H):=by
 intro Lv s σ H x v Q I rx h;obtain⟨k,e,q⟩:=h;have hl:=sB;have hs:Jm=16777216:=sizeLine_eq;cases x with
|non =>
  cases rx;have e':k=j':=e;subst e';exact truthy_none ⟨H,I,q⟩
|bl b =>
  cases rx;have e':k=b:=e;subst e';exact KH ⟨H,I,q⟩
|int i =>
  obtain⟨t,rfl⟩:=rx;have e':k=(i != 0):=e;subst e';exact PySem.P.truthy_int ⟨H,I,q⟩
|str y =>
  obtain⟨t,rfl⟩:=rx;obtain⟨hy,e'⟩:y.length <= Jm/\k=((y.length:Int) != 0):=e;subst e';exact PySem.P.truthy_str (by omega) ⟨H,I.tok _,q⟩
|byt y =>
  obtain⟨t,rfl⟩:=rx;obtain⟨hy,e'⟩:y.size <= Jm/\k=((y.size:Int) != 0):=e;subst e';exact truthy_bytes (by omega) ⟨H,I.tok _,q⟩
|ref p =>
  cases rx;have e':(∃ xs,SqL X.K H p xs/\k=!xs.isEmpty)\/(∃ xs,SqT X.K H p xs/\k=!xs.isEmpty)\/∃ kvs,H p=dk (.dK kvs)/\k=!kvs.isEmpty:=e;rcases e' with⟨xs,hx,e'⟩|⟨xs,hx,e'⟩|⟨kvs,hx,e'⟩
  . subst e';obtain⟨its,r,pl,hz⟩:=I.list hx;have hlen:=r.length;exact wpAny_truthy_list pl.isList (by simp only[JD];omega) ⟨H,I.tok _,by rw[q5 r];exact q⟩
  . subst e';obtain⟨its,r,pl,hz⟩:=I.tuple hx;have hlen:=r.length;exact truthy_tuple pl (by simp only[JD];omega) ⟨H,I.tok _,by rw[q5 r];exact q⟩
  . subst e';obtain⟨hz,hS,vs,r,m⟩:kvs.length <= Jm/\(p == KA)=j'/\∃ vs,KV kvs vs/\s.heap.DictOf (b8 X.prog X.w) p vs:=I.hok p _ hx;have hlen:kvs.length=vs.length:=JC.length r;exact wpAny_truthy_dict hS m (by omega) ⟨H,I.tok _,by rw[wT r];exact q⟩
|_=>exact(show False from e).elim
def lw (ha:PE X a ta) (he:∀ whole,isTrue a X.env whole=(do let v <-whole;standAt a.pos;holding [v] (truthy v))) :
 PT X a (λσ H Q=>ta σ H λx H'=>∃ k,I9 X.K x H' k/\Q k H'):=by
 intro Lv s σ H Q I h;exact isTrue_plain (thn (ha Lv s σ H _ I h) λv s1 uq5=>by(obtain⟨x,H1,I1,r1,q1⟩:=uq5;exact Fv Lv s1 σ H1 x v Q I1 r1 q1)) (he _)
def sy {x:V}{us:List Ja}(r:bE [x] us):∃ u,us=[u]/\bX x u:=by
 cases r with
|cons r1 r2=>cases r2;exact⟨_,rfl,r1⟩
def FG {x y:V}{us:List Ja}(r:bE [x,y] us):∃ u w',us=[u,w']/\bX x u/\bX y w':=by
 cases r with
|cons r1 r2 =>
  cases r2 with
 |cons r3 r4=>cases r4;exact⟨_,_,rfl,r1,r3⟩
end
structure ObjM (h:JB) (x dx C:G') (mA:Str->Option Ja):Prop where
 obj:h.get? x=dk (instObj C dx)
 ns:h.Ns1 dx mA
 ne:dx≠x
def zZ {h:JB}{dx:G'}{mA:Str->Option Ja}(n:h.Ns1 dx mA):∃ od,h.get? dx=dk od/\∀ name,lookIn name od=dk (mA name):=by
 obtain⟨o,es,ep,ho,hd,hk,_,hm⟩:=n;refine⟨o,ho,λname=>?_⟩;have e:=hm name;unfold nsFind findBy at e;rw[<-Array.find?_toList]at e;unfold lookIn;rw[hd];dsimp only;split
 . rename_i y q;rw[q]at e;exact congrArg dk e
 . rename_i q;rw[q]at e;have a:es.toList.any (·.refKey)=j':=by
    rw[List.any_eq_false];intro y hy;obtain⟨z,t,hkey⟩:=hk y (Array.mem_toList_iff.mp hy);simp[JM.refKey,hkey]
   have a':¬ es.toList.any (·.refKey)=D':=by rw[a];exact Jw
   rw[Ph a'];exact congrArg dk e
def ObjM.look {h:JB}{x dx C:G'}{mA:Str->Option Ja}(I:ObjM h x dx C mA):∃ od,InstAt h x (instObj C dx) C (dk od)/\∀ name,lookIn name od=dk (mA name) :=
 let ⟨od,ho,hl⟩:=zZ I.ns
 ⟨od,⟨I.obj,rfl,rfl,ho⟩,hl⟩
section
variable {prog:Jz}{w:Jp}{A:JK}{E:Ja->Jc->Prop}{s:Jc}{K:Jh}{x dx C f:G'}{mA:Str->Option Ja}{name:Str}{v:Ja}
def D1 {expr:Bool}{Q:Ja->Jc->Prop}(X:K.In s.heap) (I:ObjM s.heap x dx C mA) (hg:plainGet K C name=D') (hh:hasDictIn K C=D')
 (ha:findIn K (.ref C) name=dk Jd) (hv:mA name=dk v) (hv':handedIn v=D') (h:Q v { s with toks:=s.toks+1 }) :
 Jo (model prog w) A (getAttr (.ref x) name expr) Q E s:=by
 obtain⟨od,J,hl⟩:=I.look;exact get_value X J (plainGet_of hg).1 (findObj_own hh ha rfl (by rw[hl,hv])) hv' h
def As {pl:Sem Bool}{Q:Ja × List Ja->Jc->Prop}(X:K.In s.heap) (I:ObjM s.heap x dx C mA) (hg:plainGet K C name=D')
 (hf:findIn K (.ref C) name=dk (dk (.ref f))) (ht:isFn K (.ref f)=D') (hv:mA name=Jd) (h:Q (.ref f,[.ref x]) s) :
 Jo (model prog w) A (getMethod (.ref x) name pl) Q E s:=by
 obtain⟨od,J,hl⟩:=I.look;exact method_fn X J (plainGet_of hg).1 (plainGet_of hg).2 hf (beq_iff_eq.mp ht) (by show (lookIn name od).map (·.isSome)=dk j';rw[hl,hv];rfl) h
def CQ {ns:List Str}{Q:Unit->Jc->Prop}(X:K.In s.heap) (I:ObjM s.heap x dx C mA)
 (hs:findIn K (.ref C) "__setattr__"=dk (dk (.builtin "object.__setattr__"))) (hp:plainOver K C=D') (ht:takerIn K C name=dk Jd) (hh:hasDictIn K C=D')
 (hw:PySem.Within mA ns) (hsz:ns.length <= Jm)
 (h:∀ h',ObjM h' x dx C (λy=>if y=name then dk v else mA y)->Kv dx s.heap h'->Q () { s with heap:=h',toks:=s.toks+2 }) :
 Jo (model prog w) A (setAttr (.ref x) name v) Q E s:=by
 obtain⟨od,J,hl⟩:=I.look;refine set_plain X J hs (osa_open (s:={ s with toks:=s.toks+1 }) (r:=Jd) X J hp ht λb=>?_);obtain⟨cd,hc,hd'⟩:=any_some hh;have hx:s.heap.get? x=dk ⟨.ref C,dk dx,.plain,#[]⟩:=I.obj;refine f' (Jb (f' (f' (wpAny_loadPart hx (f' (Looks.here (s:={ s with toks:=s.toks+1 }) (looks_clsIn X hc) ?_))))));rw[hd'];refine Jb (a:=dk dx) (f' (Jb (f' ?_)));refine wpAny_nsSet1 (s:={ s with toks:=s.toks+1 }) I.ns λh' hn2 hs2=>?_
 obtain⟨oD,esD,epD,hoD,hdD,hcD⟩:=hn2.count (PySem.Within.cons name v hw);refine f' (wpAny_lookBehind hoD (by rw[hdD];exact pastItsLine_dict (JU hcD (by rw[JN];omega))) ?_);exact Jb (h _ ⟨(hs2.2 _ (K9 I.ne)).trans I.obj,hn2,I.ne⟩ hs2)
def BI {R:Result->Jc->Prop}{vs:List Ja}{kw:List (Str × Ja)}(X:K.In s.heap) (hm:makesIn K C=D')
 (hi:findIn K (.ref C) "__init__"=dk (dk (.ref f))) (hf:typeIn K (.ref f)=dk (.type "function"))
 (h:codeAny (model prog w) (A.under (.builtin "type.__call__" ⟨.ref C :: vs,kw⟩)) (.call (.ref f) ⟨.ref (s.heap.objs.size+1) :: vs,kw⟩) (InitBack (s.heap.objs.size+1) R)
  { s with heap:=(s.heap.push emptyDict).push (instObj C s.heap.objs.size) }) :
 codeAny (model prog w) A (.call (.ref C) ⟨vs,kw⟩) R s:=by
 obtain⟨hh,g,d,t,os⟩:=s;exact make_core (makes_of X hm) (looks_findIn X hi) (λself=>bind_fn X self hf) (.inl rfl) h
end
def ba (f:Str) (v:V):List (Str × V)->List (Str × V)
|[]=>[(f,v)]
|(g,x) :: r=>if g=f then (g,v) :: r else (g,x) :: ba f v r
theorem a8 (f g:Str) (v:V):∀ fs:List (Str × V),(ba f v fs).lookup g=if g=f then dk v else fs.lookup g
|[]=>by
  show List.lookup g [(f,v)]=_;by_cases h:g=f
  . have hb:(g == f)=D':=beq_iff_eq.mpr h;simp only[List.lookup,hb,Pg h]
  . have hb:(g == f)=j':=beq_eq_false_iff_ne.mpr h;simp only[List.lookup,hb,Ph h]
|(k,x) :: r=>by
  have ih:=a8 f g v r;rw[show ba f v ((k,x) :: r)=(if k=f then (k,v) :: r else (k,x) :: ba f v r) from rfl];by_cases hk:k=f
  . rw[Pg hk];by_cases h:g=k
    . have hb:(g == k)=D':=beq_iff_eq.mpr h;simp only[List.lookup,hb,Pg (h.trans hk)]
    . have hb:(g == k)=j':=beq_eq_false_iff_ne.mpr h;simp only[List.lookup,hb,Ph (λe:g=f=>h (e.trans hk.symm))]
  . rw[Ph hk];by_cases h:g=k
    . have hb:(g == k)=D':=beq_iff_eq.mpr h;simp only[List.lookup,hb,Ph (λe:g=f=>hk (h.symm.trans e))]
    . have hb:(g == k)=j':=beq_eq_false_iff_ne.mpr h;simp only[List.lookup,hb];exact ih
theorem nY (f:Str) (v:V):∀ fs:List (Str × V),f∈(ba f v fs).map (·.1)/\∀ g,g∈fs.map (·.1)->g∈(ba f v fs).map (·.1)
|[]=>⟨by simp[ba],λg h=>by simp at h⟩
|(k,x) :: r=>by
  obtain⟨i1,i2⟩:=nY f v r;rw[show ba f v ((k,x) :: r)=(if k=f then (k,v) :: r else (k,x) :: ba f v r) from rfl];by_cases hk:k=f
  . rw[Pg hk];subst hk;exact⟨by simp,λg h=>by simpa using h⟩
  . rw[Ph hk];refine⟨?_,λg h=>?_⟩
    . rw[Kq];exact Jv _ i1
    . rw[Kq]at h |-;rcases JE.mp h with e|e
      . exact JE.mpr (.inl e)
      . exact Jv _ (i2 g e)
theorem oz (f:Str) (v:V):∀ fs:List (Str × V),(ba f v fs).length <= fs.length+1
|[]=>by simp[ba]
|(k,x) :: r=>by
  have ih:=oz f v r;rw[show ba f v ((k,x) :: r)=(if k=f then (k,v) :: r else (k,x) :: ba f v r) from rfl];by_cases hk:k=f
  . rw[Pg hk,JN,JN];omega
  . rw[Ph hk,JN,JN];omega
def su.some_of {v:V}{o:Option Ja}(r:su (dk v) o):∃ u,o=dk u/\bX v u:=by
 cases o with
|none=>exact(show False from r).elim
|some u=>exact⟨u,rfl,r⟩
def su.none_of {o:Option Ja}(r:su Jd o):o=Jd:=by
 cases o with
|none=>rfl
|some u=>exact(show False from r).elim
def y0 {v:V}{u:Ja}(r:bX v u):handedIn u=D':=by
 cases v with
|non=>cases (show u=Ko from r);rfl
|bl b=>cases (show u=Ja.bool b from r);rfl
|int i=>obtain⟨t,e⟩:=(show ∃ t,u=Ja.int i t from r);cases e;rfl
|str x=>obtain⟨t,e⟩:=(show ∃ t,u=Ja.str x t from r);cases e;rfl
|byt b=>obtain⟨t,e⟩:=(show ∃ t,u=Ja.bytes b t from r);cases e;rfl
|flt b=>obtain⟨t,e⟩:=(show ∃ t,u=Ja.float b t from r);cases e;rfl
|ref a=>cases (show u=JJ a from r);rfl
|ty n=>cases (show u=Ja.type n from r);rfl
section
variable {P:Jz}{w:Jp}{H H':Hp}{h h':JB}{a C dx:G'}{fs fs':List (Str × V)}
def re (hok:HOk P w H h) (e:H a=dk (.ins C dx fs)):∃ mA,ObjM h a dx C mA/\(∀ f,su (fs.lookup f) (mA f))/\PySem.Within mA (fs.map (·.1))/\fs.length <= 1000/\H dx=dk (.own a):=by
 obtain⟨d,z,ne,ob,mA,n,r,q⟩:=(show dc P w H h a (.ins C dx fs) from hok a _ e)
 exact⟨mA,⟨ob,n,ne⟩,r,q,z,d⟩
end
structure Cls (K:Jh) (C:G'):Prop where
 pg:plainGet K C Str.empty=D'
 hd:hasDictIn K C=D'
 po:plainOver K C=D'
 sa:findIn K (.ref C) "__setattr__"=dk (dk (.builtin "object.__setattr__"))
def Cls.get {K:Jh}{C:G'}(c:Cls K C) (f:Str):plainGet K C f=D':=c.pg
def aQ (K:Jh) (C:G') (f:Str):Prop:=findIn K (.ref C) f=dk Jd
def aQ.taker {K:Jh}{C:G'}{f:Str}(n:aQ K C f):takerIn K C f=dk Jd:=by
 unfold takerIn;rw[show findIn K (.ref C) f=dk Jd from n];rfl
structure Meth (K:Jh) (C:G') (m:Str) (f:G'):Prop where
 at_:findIn K (.ref C) m=dk (dk (.ref f))
 fn:isFn K (.ref f)=D'
 kp:keepIn K (.ref f)=D'
section
variable {X:Cx}{Lv:List (G' × Ku)}{σ:St}{H:Hp}{s:Jc}{a C dx:G'}{fs:List (Str × V)}{f:Str}{v:V}{A:JK}{E:Ja->Jc->Prop}
def xC {b:Bool}{Q:Ja->Jc->Prop}(I:Inv X Lv σ H s) (e:H a=dk (.ins C dx fs)) (c:Cls X.K C) (n:aQ X.K C f) (l:fs.lookup f=dk v)
 (h:∀ u s',Inv X Lv σ H s'->bX v u->Q u s'):Jo (model X.prog X.w) A (getAttr (.ref a) f b) Q E s:=by
 obtain⟨mA,O,r,_,_,_⟩:=re I.hok e;obtain⟨u,hu,ru⟩:=su.some_of (v:=v) (o:=mA f) (by rw[<-l];exact r f);exact D1 I.kIn O (c.get f) c.hd n hu (y0 ru) (h u _ (I.tok _) ru)
def mh {m:Str}{g:G'}{pl:Sem Bool}{Q:Ja × List Ja->Jc->Prop}(I:Inv X Lv σ H s) (e:H a=dk (.ins C dx fs)) (c:Cls X.K C) (k:Meth X.K C m g) (l:fs.lookup m=Jd)
 (h:Q (.ref g,[.ref a]) s):Jo (model X.prog X.w) A (getMethod (.ref a) m pl) Q E s:=by
 obtain⟨mA,O,r,_,_,_⟩:=re I.hok e;have hn:mA m=Jd:=su.none_of (by rw[<-l];exact r m);exact As I.kIn O (c.get m) k.at_ k.fn hn h
def wU {y:V}{u:Ja}{Q:Unit->Jc->Prop}(I:Inv X Lv σ H s) (e:H a=dk (.ins C dx fs)) (c:Cls X.K C) (n:aQ X.K C f) (hl:fs.length < 1000) (ry:bX y u)
 (h:∀ s',Inv X Lv σ (upd H a (.ins C dx (ba f y fs))) s'->Q () s'):Jo (model X.prog X.w) A (setAttr (.ref a) f u) Q E s:=by
 obtain⟨mA,O,r,wi,_,ho⟩:=re I.hok e;have hz:(fs.map (·.1)).length <= Jm:=by rw[Ju,sizeLine_eq];omega
 refine CQ I.kIn O c.sa c.po n.taker c.hd wi hz λh' O' sb=>h _ ?_
 have hd:∃ o,h'.get? dx=dk o:=let ⟨o,_,_,e',_⟩:=O'.ns;⟨o,e'⟩;refine I.write (x:=a) (e:=dx) (by rw[e];exact KQ) (.inr ho) (λb q hb z=>(sb.2 b hb).trans z) hd ?_;refine⟨by rw[aa O.ne];exact ho,?_,O.ne,O'.obj,_,O'.ns,λg=>?_,λg hg=>?_⟩
 . have:=oz f y fs;omega
 . show su ((ba f y fs).lookup g) (if g=f then dk u else mA g);rw[a8];by_cases q:g=f
   . rw[Pg q,Pg q];exact ry
   . rw[Ph q,Ph q];exact r g
 . by_cases q:g=f
   . rw[q];exact(nY f y fs).1
   . refine(nY f y fs).2 g (wi g λz=>hg ?_);show (if g=f then dk u else mA g)=Jd;rw[Ph q];exact z
def Inv.made (I:Inv X Lv σ H s):Inv X Lv σ (upd (upd H s.heap.objs.size (.own (s.heap.objs.size+1))) (s.heap.objs.size+1) (.ins C s.heap.objs.size []))
 { s with heap:=(s.heap.push emptyDict).push (instObj C s.heap.objs.size) }:=by
 have e1:(s.heap.push emptyDict).get? s.heap.objs.size=dk emptyDict:=Js s.heap rfl;have e2:((s.heap.push emptyDict).push (instObj C s.heap.objs.size)).get? (s.heap.objs.size+1)=dk (instObj C s.heap.objs.size):=by
  have:=Js (s.heap.push emptyDict) (o:=instObj C s.heap.objs.size) rfl;rwa [JB.size_push]at this
 have e3:(s.heap.push emptyDict).Ns s.heap.objs.size (λ_=>Jd):=⟨emptyDict,#[],_,e1,rfl,(λe he=>absurd he (by simp)),λ_=>rfl⟩
 have I1:=I.laid (a:=s.heap.objs.size) (o:=.own (s.heap.objs.size+1)) (h':=s.heap.push emptyDict) (t':=s.toks) (λb u q=>Jf _ q) (Jk _) ⟨_,e1⟩;refine I1.laid (a:=s.heap.objs.size+1) (o:=.ins C s.heap.objs.size []) (t':=s.toks) (λb u q=>Jf _ q) (Nat.le_of_eq (JB.size_push _ _)) ?_;have ne:s.heap.objs.size≠s.heap.objs.size+1:=JR (lt_succ_self _);refine⟨by rw[aa ne,a9],KG _,ne,e2,λ_=>Jd,(JB.Ns1.of_empty e3).at λo q=>Jf _ q,λ_=>KQ,λy hy=>absurd rfl hy⟩
def Dm {prog:Jz}{w:Jp}{env:Env}{e:Expr}{f:Str}{pos:Pos}{s:Jc}{Q:Ja->Jc->Prop}(hb:attributeBase e f env (eval e env)=eval e env)
 (h:Jo (model prog w) A (eval e env) (λo s₁=>Jo (model prog w) A (getAttr o f D') Q E s₁) E s):Jo (model prog w) A (eval (.Attribute e f pos) env) Q E s :=
 Attribute_any_ h (by rw[arm_eval_Attribute,hb])
end
def IX (K:Jh) (ta:TE) (f:Str):TE:=λσ H Q=>ta σ H λx H1=>∃ a C dx fs v,x=.ref a/\H1 a=dk (.ins C dx fs)/\Cls K C/\aQ K C f/\fs.lookup f=dk v/\Q v H1
def IG (K:Jh) (ta tv:TE) (f:Str):TS:=λD σ H=>tv σ H λy H1=>ta σ H1 λx H2=>∃ a C dx fs,x=.ref a/\H2 a=dk (.ins C dx fs)/\Cls K C/\aQ K C f/\fs.length < 1000 /\
 D.nx σ (upd H2 a (.ins C dx (ba f y fs)))
section
variable {X:Cx}{o e value:Expr}{f:Str}{pos pos' tpos:Pos}{ta tv:TE}
def aj (he:PE X e ta) (hb:attributeBase e f X.env (eval e X.env)=eval e X.env):PE X (.Attribute e f pos) (IX X.K ta f):=by
 intro Lv s σ H Q I h;refine Dm hb (thn (he Lv s σ H _ I h) λu s1 ur25=>?_);obtain⟨x,H1,I1,rx,a,C,dx,fs,v,ex,ea,c,n,l,q⟩:=ur25;subst ex;obtain rfl:u=JJ a:=rx;exact xC I1 ea c n l λu' s2 I2 ru=>⟨v,H1,I2,ru,q⟩
def bi (ha:PE X o ta) (hv:PE X value tv) (hs:swapsWith value (dk (.Attribute o f pos')) pos.line X.env=pure j'):PS X (.Assign [.Attribute o f pos'] value pos) (IG X.K ta tv f):=by
 intro Lv s σ H D I h;refine plainObj_wpAny_Assign_Attribute (thn (hv Lv s σ H _ I h) λu s1 ⟨y,H1,I1,ry,q⟩=>thn (ha Lv s1 σ H1 _ I1 q) λov s2 ur26=>?_) hs;obtain⟨x,H2,I2,rx,a,C,dx,fs,ex,ea,c,n,l,q2⟩:=ur26;subst ex;obtain rfl:ov=JJ a:=rx;exact wU I2 ea c n l ry λs3 I3=>⟨σ,_,I3,q2⟩
end
section
variable {X:Cx}{Lv:List (G' × Ku)}{σ:St}{H:Hp}{s:Jc}{A:JK}{E:Ja->Jc->Prop}{Q:Ja->Jc->Prop}{c:Ja}{b:Bool}
inductive TyOf (K:Jh) (H:Hp):V->Ja->Prop where
|non:TyOf K H .non (.type "NoneType")
|bl (x:Bool):TyOf K H (.bl x) (.type "bool")
|int (i:Int):TyOf K H (.int i) (.type "int")
|str (x:Str):TyOf K H (.str x) (.type "str")
|flt (x:UInt64):TyOf K H (.flt x) (.type "float")
|lst {a:G'} {xs:List V} (e:H a=dk (.lst xs)):TyOf K H (.ref a) (.type "list")
|frz {a:G'} {o:Ku} {xs:List V} (e:H a=dk (.frz o (.lst xs))):TyOf K H (.ref a) (.type "list")
|tup {a:G'} {xs:List V} (e:H a=dk (.tup xs)):TyOf K H (.ref a) (.type "tuple")
|dK {a:G'} {kvs:List (Key × V)} (e:H a=dk (.dK kvs)):TyOf K H (.ref a) (.type "dict")
|dT {a:G'} {kvs:List (List Key × V)} (e:H a=dk (.dT kvs)):TyOf K H (.ref a) (.type "dict")
|ins {a C dx:G'} {fs:List (Str × V)} (e:H a=dk (.ins C dx fs)) (cl:Cls K C) (ha:findIn K (.ref C) "__class__"=dk (dk (.builtin "object.__class__")))
  (hn:specialIn K (.builtin "object.__class__") "__get__"=dk (dk (.builtin "getset_descriptor.__get__"))) (htk:takesIn K (.builtin "object.__class__")=dk D')
  (hm:mroIn K C (.type "object")=dk D'):TyOf K H (.ref a) (.ref C)
def zQ {x:V}{u t:Ja}(I:Inv X Lv σ H s) (rx:bX x u) (ty:TyOf X.K H x t) (e:kitOne X.K t c=dk b) (h:∀ tk,Q (.bool b) { s with toks:=tk }) :
 Jo (model X.prog X.w) A (call (.builtin "isinstance") [u,c]) Q E s:=by
 cases ty with
|non=>cases (show u=Ko from rx);exact kia_one kitx_none I.kIn KQ e (λz=>nomatch z) h
|bl y=>cases (show u=Ja.bool y from rx);exact kia_one kitx_bool I.kIn KQ e (λz=>nomatch z) h
|int i=>obtain⟨t,q⟩:=(show ∃ t,u=Ja.int i t from rx);cases q;exact kia_one kitx_int I.kIn KQ e (λz=>nomatch z) h
|str y=>obtain⟨t,q⟩:=(show ∃ t,u=Ja.str y t from rx);cases q;exact kia_one kitx_str I.kIn KQ e (λz=>nomatch z) h
|flt y=>obtain⟨t,q⟩:=(show ∃ t,u=Ja.float y t from rx);cases q;exact kia_one kitx_float I.kIn KQ e (λz=>nomatch z) h
|@lst a xs ea =>
  cases (show u=JJ a from rx);obtain⟨_,_,n,_,h1⟩:=(show dc X.prog X.w H s.heap a (.lst xs) from I.hok a _ ea)
  exact kia_one kitx_list I.kIn ⟨_,h1,rfl⟩ e (λz=>nomatch z) h
|@frz a ob xs ea =>
  cases (show u=JJ a from rx);obtain⟨_,_,_,n,_,h1⟩:=(show dc X.prog X.w H s.heap a (.frz ob (.lst xs)) from I.hok a _ ea)
  exact kia_one kitx_list I.kIn ⟨_,h1,rfl⟩ e (λz=>nomatch z) h
|@tup a xs ea =>
  cases (show u=JJ a from rx);obtain⟨_,_,_,p⟩:=(show dc X.prog X.w H s.heap a (.tup xs) from I.hok a _ ea)
  obtain⟨o,h1,h2,_⟩:=p;exact kia_one kitx_tuple I.kIn ⟨o,h1,h2⟩ e (λz=>nomatch z) h
|@dK a kvs ea =>
  cases (show u=JJ a from rx);obtain⟨_,_,vs,_,p⟩:=(show dc X.prog X.w H s.heap a (.dK kvs) from I.hok a _ ea)
  obtain⟨o,es,ep,h1,h2,_⟩:=p;exact kia_one kitx_dict I.kIn ⟨o,h1,h2.1⟩ e (λz=>nomatch z) h
|@dT a kvs ea =>
  cases (show u=JJ a from rx);obtain⟨_,_,xs,_,o,es,ep,h1,h2,_⟩:=(show dc X.prog X.w H s.heap a (.dT kvs) from I.hok a _ ea)
  exact kia_one kitx_dict I.kIn ⟨o,h1,h2.1⟩ e (λz=>nomatch z) h
|@ins a C dx fs ea cl ha hn htk hm =>
  cases (show u=JJ a from rx);obtain⟨mA,O,_⟩:=re I.hok ea;obtain⟨od,J,_⟩:=O.look;exact kia_one (kitx_own (cl.get _) cl.hd ha hn htk hm) I.kIn J e (λz=>nomatch z) h
end
structure Room (k:Nat) (A:JK):Prop where
 hd:A.handled=Jd
 dp:A.depth+3 * k+5 < recursionLimit
 un:A.units+16 * k+200 < Lf
def Room.mono {j k:Nat}{A:JK}(r:Room k A) (h:j <= k):Room j A:=⟨r.hd,by have:=r.dp;omega,by have:=r.un;omega⟩
theorem Room.deeper {k:Nat}{A:JK}(r:Room (k+1) A) (env:Env):Room k (A.deeper env) :=
 ⟨r.hd,by have:=r.dp;show A.depth+1+3 * k+5 < _;omega,by have:=r.un;show A.units+3+16 * k+200 < _;omega⟩
def xt {A:JK}{C:G'}{us:List Ja}{kw:List (Str × Ja)}:(A.under (.builtin "type.__call__" ⟨.ref C :: us,kw⟩)).depth=A.depth+1:=by
 first|rfl|simp[JK.under,Code.weight,Code.isCreation,Code.isGuard,Code.isCaller,Code.frames,Code.isFrame,guardIds]
def xz {A:JK}{C:G'}{us:List Ja}{kw:List (Str × Ja)}:(A.under (.builtin "type.__call__" ⟨.ref C :: us,kw⟩)).units=A.units+1:=by
 first|rfl|simp[JK.under,Code.cUnits,Code.frames,Code.isFrame]
def Room.make {k:Nat}{A:JK}(r:Room (k+1) A) (C:G') (us:List Ja) (kw:List (Str × Ja)):Room k (A.under (.builtin "type.__call__" ⟨.ref C :: us,kw⟩)) :=
 ⟨r.hd,by have:=r.dp;rw[xt];omega,by have:=r.un;rw[xz];omega⟩
theorem Room.depth {k:Nat}{A:JK}(r:Room k A):A.depth < recursionLimit:=by have:=r.dp;omega
theorem Room.units {k:Nat}{A:JK}(r:Room k A):A.units+64 < Lf:=by have:=r.un;omega
def EA:TA:=λ_ H Q=>Q [] H
def ut (ta:TE) (tr:TA):TA:=λσ H Q=>ta σ H λx H1=>tr σ H1 λxs H2=>Q (x :: xs) H2
section
variable {X:Cx}{e:Expr}{es:List Expr}{te:TE}{t:TA}{pos:Pos}
def ac:PA X [] EA:=λ_ _ _ _ H Q I h=>Calls.spliced_nil ⟨[],H,I,.nil,h⟩
def DI (ha:PE X e te) (hr:PA X es t) (hs:JL (e :: es) X.env=(j',eval e X.env) :: JL es X.env:=by rfl):PA X (e :: es) (ut te t):=by
 intro pos Lv s σ H Q I h;rw[hs];show Jo _ _ (spliced ((j',eval e X.env) :: Le pos (JL es X.env))) _ _ s;refine KY (thn (ha Lv s σ H _ I h) λu s1 ur27=>?_);obtain⟨x,H1,I1,r1,q1⟩:=ur27;exact thn (hr pos Lv s1 σ H1 _ I1 q1) λus s2 uq6=>by(obtain⟨xs,H2,I2,r2,q2⟩:=uq6;exact ⟨x :: xs,H2,I2,.cons r1 r2,q2⟩)
def HS (t:TA):TE:=λσ H Q=>t σ H λxs H1=>xs.length <= Jm/\∀ p,H1 p=Jd->Q (.ref p) (upd H1 p (.tup xs))
def Ig (t:TA):TE:=λσ H Q=>t σ H λxs H1=>xs.length <= Jm/\∀ p,H1 p=Jd->Q (.ref p) (upd H1 p (.lst xs))
def bb {x1}(h:PA X es t):PE X (.Tuple es x1 pos) (HS t):=by
 intro Lv s σ H Q I hq;refine wpAny_Tuple_spliced (thn (h pos Lv s σ H _ I hq) λus s1 ⟨xs,H1,I1,r,z,q⟩=>⟨by rw[<-r.length];exact z,?_⟩);have hf:H1 s1.heap.objs.size=Jd:=I1.hok.fresh (Jk _);refine⟨.ref s1.heap.objs.size,upd H1 s1.heap.objs.size (.tup xs),I1.laid (t':=s1.toks) (λb u e=>Jf _ e) (Jk _) ?_,rfl,q _ hf⟩;exact⟨z,us,r,⟨_,Js _ rfl,rfl,_,rfl⟩⟩
def bW (h:PA X es t):PE X (.List es pos) (Ig t):=by
 intro Lv s σ H Q I hq;refine wpAny_List_spliced (thn (h pos Lv s σ H _ I hq) λus s1 ⟨xs,H1,I1,r,z,q⟩=>⟨by rw[<-r.length];exact z,?_⟩);have hf:H1 s1.heap.objs.size=Jd:=I1.hok.fresh (Jk _);refine⟨.ref s1.heap.objs.size,upd H1 s1.heap.objs.size (.lst xs),I1.laid (t':=s1.toks) (λb u e=>Jf _ e) (Jk _) ?_,rfl,q _ hf⟩;exact⟨z,us,0,r,Js _ rfl⟩
end
abbrev Sp:=List V->Hp->VK->XK->Prop
abbrev CXT:=List Env->Hp->Jc->XK->Ja->Jc->Prop
structure Env0 (P:Jz) (w:Jp) (K:Jh) (mg:Str->Option Ja) (base:JB) (A:JK) (outer:List Env) (s:Jc) (H:Hp):Prop where
 frames:A.frames=dk outer
 mod:Mod K mg base
 bs:∀ b o,base.get? b=dk o->s.heap.get? b=dk o/\H b=Jd
 bsz:base.objs.size <= s.heap.objs.size
 funs:s.heap.FunFrames base outer
 frf:∀ b∈frs outer,H b=Jd
 hok:HOk P w H s.heap
 bare:AllBare s.gens
def CE (outer:List Env) (P:Jz) (w:Jp) (H:Hp) (s:Jc) (Q:VK) (u:Ja) (s':Jc):Prop :=
 ∃ v H',s'.os=s.os/\AllBare s'.gens/\Un (frs outer) [] H H' s.heap s'.heap/\HOk P w H' s'.heap/\bX v u/\Q v H'
def CR (CX:CXT) (outer:List Env) (P:Jz) (w:Jp) (H:Hp) (s:Jc) (Q:VK) (E:XK) (r:Result) (s':Jc):Prop :=
 match r with
|.ok (.ret u)=>CE outer P w H s Q u s'
|.ok _=>False
|.error e=>CX outer H s E e s'
structure FnOk (P:Jz) (w:Jp) (K:Jh) (mg:Str->Option Ja) (base:JB) (CX:CXT) (k:Nat) (f:G') (fd:Jq) (ps:List Str) (sp:Sp):Prop where
 len:∀ vs H Q E,sp vs H Q E->vs.length=ps.length
 run:∀ (A:JK) (outer:List Env) (s:Jc) (H:Hp) (args:Args) (us:List Ja) (vs:List V) (Q:VK) (E:XK),Room k A->Env0 P w K mg base A outer s H->BindsTo s fd args (ps.zip us)->bE vs us->sp vs H Q E ->
  codeAny (model P w) A (.call (.ref f) args) (CR CX outer P w H s Q E) s
def FnOk.imp {P:Jz}{w:Jp}{K:Jh}{mg:Str->Option Ja}{base:JB}{CX:CXT}{k:Nat}{f:G'}{fd:Jq}{ps:List Str}{sp sp':Sp}(F:FnOk P w K mg base CX k f fd ps sp)
 (h:∀ vs H Q E,sp' vs H Q E->sp vs H Q E):FnOk P w K mg base CX k f fd ps sp' :=
 ⟨λvs H Q E q=>F.len vs H Q E (h _ _ _ _ q),λA outer s H args us vs Q E hr he hb hv hs=>F.run A outer s H args us vs Q E hr he hb hv (h _ _ _ _ hs)⟩
def Env0.make {P:Jz}{w:Jp}{K:Jh}{mg:Str->Option Ja}{base:JB}{A:JK}{outer:List Env}{s:Jc}{H:Hp}(e:Env0 P w K mg base A outer s H) (C:G') (us:List Ja) (kw:List (Str × Ja)) :
 Env0 P w K mg base (A.under (.builtin "type.__call__" ⟨.ref C :: us,kw⟩)) outer s H:=⟨by first|exact e.frames|(simpa [JK.under,Code.envs,Code.isFrame,pushEnvs] using e.frames),e.mod,e.bs,e.bsz,e.funs,e.frf,e.hok,e.bare⟩
section
variable {X:Cx}{Lv:List (G' × Ku)}{σ:St}{H:Hp}{s s':Jc}
def Inv.env0 (I:Inv X Lv σ H s):Env0 X.prog X.w X.K X.mg X.base X.A X.stack s H :=
 ⟨I.ok.frames,I.ok.mod,I.bs,JU I.ok.bsz I.sz,I.stack,I.stkFree,I.hok,I.bare⟩
def Inv.after {Q:VK}{u:Ja}(I:Inv X Lv σ H s) (h:CE X.stack X.prog X.w H s Q u s'):EP X Lv σ Q u s':=by
 obtain⟨v,H',os,bare,un,hok,r,q⟩:=h;obtain⟨hh,g,d,t,os'⟩:=s';obtain rfl:os'=s.os:=os;exact⟨v,H',I.call (h':=hh) (g':=g) (d':=d) (t':=t) (ch:=[]) un hok bare (λb z=>absurd z (by simp)),r,q⟩
end
def Eh (sp:Sp) (dvs:List V) (E:XK) (t:TA):TE:=λσ H Q=>t σ H λvs H1=>sp (vs++dvs) H1 Q E
def FR (C:G') (m:Str) (sp:Sp) (dvs:List V) (E:XK) (ta:TE) (t:TA):TE:=λσ H Q=>ta σ H λx H1=>∃ a dx fs,x=.ref a/\H1 a=dk (.ins C dx fs)/\fs.lookup m=Jd /\
 t σ H1 λvs H2=>sp (x :: (vs++dvs)) H2 Q E
def FK (C:G') (sp:Sp) (dvs:List V) (E:XK) (t:TA):TE:=λσ H Q=>t σ H λvs H1=>∀ x dx,H1 x=Jd->H1 dx=Jd->dx≠x ->
 sp (.ref x :: (vs++dvs)) (upd (upd H1 dx (.own x)) x (.ins C dx [])) (λv H2=>v=.non/\Q (.ref x) H2) E
def ay (K:Jh) (fd:Jq) (ps:List Str) (ds:List Ja):Prop :=
 ∀ (s:Jc) (us:List Ja),K.In s.heap->(us++ds).length=ps.length->BindsTo s fd ⟨us,[]⟩ (ps.zip (us++ds))
def ay.all {K:Jh}{fd:Jq}{ps:List Str}(h:∀ us:List Ja,us.length=ps.length->bindArgs fd ⟨us,[]⟩=pure (ps.zip us)):ay K fd ps []:=λs us _ hl=>by
 rw[K4]at hl |-;exact .of_eq (h us hl)
def jK (CX:CXT) (X:Cx) (E:XK):Prop:=∀ (Lv:List (G' × Ku)) (σ:St) (H:Hp) (s:Jc) (e:Ja) (s':Jc),Inv X Lv σ H s->CX X.stack H s E e s'->X.xe e s'
section
variable {X:Cx}{CX:CXT}{k:Nat}{f C:G'}{fd:Jq}{ps:List Str}{sp:Sp}{dvs:List V}{ds:List Ja}{E:XK}{x m:Str}{p pos apos:Pos}{e o:Expr}{es:List Expr}{ta:TE}{t:TA}
def zw {Lv:List (G' × Ku)}{σ:St}{H:Hp}{s:Jc}{Q:VK}{us:List Ja}{vs:List V}(F:FnOk X.prog X.w X.K X.mg X.base CX k f fd ps sp) (hr:Room k X.A) (hb:ay X.K fd ps ds) (hd:bE dvs ds) (hx:jK CX X E)
 (I:Inv X Lv σ H s) (r:bE vs us) (h:sp (vs++dvs) H Q E):Jo (model X.prog X.w) X.A (call (.ref f) us) (EP X Lv σ Q) X.xe s:=by
 have r2:bE (vs++dvs) (us++ds):=r.append hd;have hl:(us++ds).length=ps.length:=by rw[<-r2.length];exact F.len _ _ _ _ h
 refine wpAny_call (codeAny_mono (F.run X.A X.stack s H ⟨us,[]⟩ (us++ds) (vs++dvs) Q E hr I.env0 (hb s us I.kIn hl) r2 h) λr s' hq=>?_);cases r with
|error e=>exact hx Lv σ H s e s' I hq
|ok fl =>
  cases fl with
 |ret u=>exact I.after hq
 |next=>exact Kx hq
 |brk=>exact Kx hq
 |cont=>exact Kx hq
def aF (F:FnOk X.prog X.w X.K X.mg X.base CX k f fd ps sp) (hr:Room k X.A) (hg:Gl X x) (hm:X.mg x=dk (.ref f)) (hk:keepIn X.K (.ref f)=D') (hb:ay X.K fd ps ds) (hd:bE dvs ds) (hx:jK CX X E)
 (ha:PA X (e :: es) t) (hdb:(x == ("__debug__":Str))=j':=by decide) (he:JL (e :: es) X.env=(j',eval e X.env) :: JL es X.env:=by rfl) (hpl:(Le pos (JL es X.env)).any (·.1)=j':=by rfl) :
 PE X (.Call (.Name x p) (e :: es) [] pos) (Eh sp dvs E t):=by
 intro Lv s σ H Q I h;refine Li (jd I hg hm ?_ hdb);refine callWith_K (h₀:=X.base) I.ok.mod.kin hk (thn (ha pos Lv s σ H _ I h) λus s1 ⟨vs,H1,I1,r,q⟩=>⟨I1.kIn,?_⟩) he hpl;exact zw F hr hb hd hx I1 r q
def au {pl:Sem Bool}(he:PE X o ta) (c:Cls X.K C) (hm:Meth X.K C m f) (F:FnOk X.prog X.w X.K X.mg X.base CX k f fd ps sp) (hr:Room k X.A) (hb:ay X.K fd ps ds) (hd:bE dvs ds) (hx:jK CX X E) (ha:PA X (e :: es) t)
 (hst:JL (e :: es) X.env=(j',eval e X.env) :: JL es X.env:=by rfl) (hpl:(Le pos (JL es X.env)).any (·.1)=j':=by rfl)
 (ht:eval (.Call (.Attribute o m apos) (e :: es) [] pos) X.env=(do
  let ov <-eval o X.env
  standAt apos.atName
  let (f,first) <-holding [ov] (getMethod ov m pl)
  callWith pos f first (Le pos (JL (e :: es) X.env)) (backToKw pos (keywordEach [] X.env))):=by rfl) :
 PE X (.Call (.Attribute o m apos) (e :: es) [] pos) (FR C m sp dvs E ta t):=by
 intro Lv s σ H Q I h;refine methodCall_KW (pl:=pl) (thn (he Lv s σ H _ I h) λu s1 ur28=>?_) ht;obtain⟨x,H1,I1,rx,a,dx,fs,ex,ea,l,q⟩:=ur28;subst ex;obtain rfl:u=JJ a:=rx;refine mh I1 ea c hm l ?_;refine callWith_K (first:=[.ref a]) (h₀:=X.base) I.ok.mod.kin hm.kp (thn (ha pos Lv s1 σ H1 _ I1 q) λus s2 ⟨vs,H2,I2,r,q2⟩=>⟨I2.kIn,?_⟩) hst hpl;exact zw (us:=.ref a :: us) (vs:=.ref a :: vs) F hr hb hd hx I2 (.cons rfl r) q2
def aI {pl:Sem Bool}(he:PE X o ta) (c:Cls X.K C) (hm:Meth X.K C m f) (F:FnOk X.prog X.w X.K X.mg X.base CX k f fd ps sp) (hr:Room k X.A) (hb:ay X.K fd ps ds) (hd:bE dvs ds) (hx:jK CX X E)
 (ht:eval (.Call (.Attribute o m apos) [] [] pos) X.env=(do
  let ov <-eval o X.env
  standAt apos.atName
  let (f,first) <-holding [ov] (getMethod ov m pl)
  callWith pos f first (Le pos (JL [] X.env)) (backToKw pos (keywordEach [] X.env))):=by rfl) :
 PE X (.Call (.Attribute o m apos) [] [] pos) (FR C m sp dvs E ta EA):=by
 intro Lv s σ H Q I h;refine methodCall_KW (pl:=pl) (thn (he Lv s σ H _ I h) λu s1 ur29=>?_) ht;obtain⟨x,H1,I1,rx,a,dx,fs,ex,ea,l,q⟩:=ur29;subst ex;obtain rfl:u=JJ a:=rx;refine mh I1 ea c hm l ?_;exact callWith_K0 (first:=[.ref a]) I1.kIn hm.kp (zw (us:=[.ref a]) (vs:=[.ref a]) F hr hb hd hx I1 (.cons rfl .nil) q)
structure Mk (K:Jh) (C f:G'):Prop where
 makes:makesIn K C=D'
 init:findIn K (.ref C) "__init__"=dk (dk (.ref f))
 fn:isFn K (.ref f)=D'
 kp:keepIn K (.ref C)=D'
def vX {Lv:List (G' × Ku)}{σ:St}{H:Hp}{s:Jc}{Q:VK}{us:List Ja}{vs:List V}(M:Mk X.K C f) (F:FnOk X.prog X.w X.K X.mg X.base CX k f fd ps sp) (hr:Room (k+1) X.A) (hb:ay X.K fd ps ds) (hd:bE dvs ds)
 (hx:jK CX X E) (I:Inv X Lv σ H s) (r:bE vs us)
 (h:∀ x dx,H x=Jd->H dx=Jd->dx≠x->sp (.ref x :: (vs++dvs)) (upd (upd H dx (.own x)) x (.ins C dx [])) (λv H2=>v=.non/\Q (.ref x) H2) E) :
 Jo (model X.prog X.w) X.A (call (.ref C) us) (EP X Lv σ Q) X.xe s:=by
 have hq:=h (s.heap.objs.size+1) s.heap.objs.size (I.hok.fresh (le_succ _)) (I.hok.fresh (Jk _)) (JR (lt_succ_self _));have I2:=Inv.made (C:=C) I;have r2:bE (V.ref (s.heap.objs.size+1) :: (vs++dvs)) (JJ (s.heap.objs.size+1) :: (us++ds)):=.cons rfl (r.append hd);have hl:(JJ (s.heap.objs.size+1) :: us++ds).length=ps.length:=by
  have e:=r2.length;rw[F.len _ _ _ _ hq]at e;exact e.symm
 refine wpAny_call (BI (f:=f) I.kIn M.makes M.init (beq_iff_eq.mp M.fn) (codeAny_mono (F.run _ X.stack _ _ ⟨JJ (s.heap.objs.size+1) :: us,[]⟩ (JJ (s.heap.objs.size+1) :: (us++ds)) _ _ E (hr.make C us [])
  (I2.env0.make C us []) (hb _ (JJ (s.heap.objs.size+1) :: us) I2.kIn hl) r2 hq) λr s' hq'=>?_))
 cases r with
|error e=>exact hx Lv σ _ _ e s' I2 hq'
|ok fl =>
  cases fl with
 |ret u =>
   obtain⟨v,H',I3,rv,ev,q3⟩:=I2.after hq';subst ev;exact⟨rv,⟨V.ref (s.heap.objs.size+1),H',I3,rfl,q3⟩⟩
 |next=>exact Kx hq'
 |brk=>exact Kx hq'
 |cont=>exact Kx hq'
def kA (M:Mk X.K C f) (F:FnOk X.prog X.w X.K X.mg X.base CX k f fd ps sp) (hr:Room (k+1) X.A) (hg:Gl X x) (hm:X.mg x=dk (.ref C)) (hb:ay X.K fd ps ds) (hd:bE dvs ds) (hx:jK CX X E)
 (ha:PA X (e :: es) t) (hdb:(x == ("__debug__":Str))=j':=by decide) (he:JL (e :: es) X.env=(j',eval e X.env) :: JL es X.env:=by rfl) (hpl:(Le pos (JL es X.env)).any (·.1)=j':=by rfl) :
 PE X (.Call (.Name x p) (e :: es) [] pos) (FK C sp dvs E t):=by
 intro Lv s σ H Q I h;refine Li (jd I hg hm ?_ hdb);refine callWith_K (h₀:=X.base) I.ok.mod.kin M.kp (thn (ha pos Lv s σ H _ I h) λus s1 ⟨vs,H1,I1,r,q⟩=>⟨I1.kIn,?_⟩) he hpl;exact vX M F hr hb hd hx I1 r q
def vB (M:Mk X.K C f) (F:FnOk X.prog X.w X.K X.mg X.base CX k f fd ps sp) (hr:Room (k+1) X.A) (hg:Gl X x) (hm:X.mg x=dk (.ref C)) (hb:ay X.K fd ps ds) (hd:bE dvs ds) (hx:jK CX X E)
 (hdb:(x == ("__debug__":Str))=j':=by decide):PE X (.Call (.Name x p) [] [] pos) (FK C sp dvs E EA):=by
 intro Lv s σ H Q I h;refine Li (jd I hg hm ?_ hdb);exact callWith_K0 I.kIn M.kp (vX (us:=[]) M F hr hb hd hx I .nil h)
end
section
variable {X:Cx}{CX:CXT}{k:Nat}{f C:G'}{fd:Jq}{ps ks:List Str}{sp:Sp}{E:XK}{x m:Str}{p pos apos kpos:Pos}{e o:Expr}{es:List Expr}{kws:List Keyword}{te ta:TE}{t tk:TA}{nm:Option Str}
variable {g:List Ja->List Ja->List Ja}{gV:List V->List V->List V}
end
structure FnScope (N P:List Str) (sc:Scope):Prop where
 kind:sc.kind=.function
 co:sc.isCoroutine=j'
 gen:sc.isGenerator=j'
 nd:N.Nodup
 pre:N.take P.length=P
 par:∀ x∈P,sc.names.lookup x=dk .local\/sc.names.lookup x=dk .cell
 nofree:∀ y∈sc.names,y.2≠.free
theorem sE {kindOf:Str->Option NameKind}{x:Str}:∀ {binds:List (Str × Ja)}{m:Str->Option Ja},(∀ v,(x,v) ∉ binds)->bindL kindOf binds m x=m x
|[],_,_=>rfl
|(n,v) :: r,m,h=>by
  unfold bindL;rw[sE λw hw=>h w (Jv _ hw)];split
  . have:x≠n:=by rintro rfl;exact h v Jx
    simp[this]
  . rfl
theorem u9 {kindOf:Str->Option NameKind}{x:Str}:∀ {binds:List (Str × Ja)}{m:Str->Option Ja},(∀ v,(x,v) ∉ binds)->bindC kindOf binds m x=m x
|[],_,_=>rfl
|(n,v) :: r,m,h=>by
  unfold bindC;rw[u9 λw hw=>h w (Jv _ hw)];split
  . rfl
  . have:x≠n:=by rintro rfl;exact h v Jx
    simp[this]
theorem t7 {kindOf:Str->Option NameKind}{x:Str}{v:Ja}:∀ {P:List Str}{vs:List Ja}{i:Nat}{m:Str->Option Ja},P.Nodup->P[i]?=dk x->vs[i]?=dk v->kindOf x=dk .local ->
 bindL kindOf (P.zip vs) m x=dk v
|[],_,_,_,_,h,_,_=>by simp at h
|_ :: _,[],_,_,_,_,h,_=>by simp at h
|p :: P,w :: vs,0,m,nd,h1,h2,hk=>by
  simp at h1 h2;subst h1;subst h2;show bindL kindOf ((p,w) :: P.zip vs) m p=_;unfold bindL;rw[sE λv hv=>(K7.mp nd).1 (of_mem_zip hv).1,Pg hk];simp
|p :: P,w :: vs,i+1,m,nd,h1,h2,hk=>by
  show bindL kindOf ((p,w) :: P.zip vs) m x=_;unfold bindL;exact t7 (i:=i) (K7.mp nd).2 (by simpa using h1) (by simpa using h2) hk
theorem sL {kindOf:Str->Option NameKind}{x:Str}{v:Ja}:∀ {P:List Str}{vs:List Ja}{i:Nat}{m:Str->Option Ja},P.Nodup->P[i]?=dk x->vs[i]?=dk v->kindOf x≠dk .local ->
 bindC kindOf (P.zip vs) m x=dk v
|[],_,_,_,_,h,_,_=>by simp at h
|_ :: _,[],_,_,_,_,h,_=>by simp at h
|p :: P,w :: vs,0,m,nd,h1,h2,hk=>by
  simp at h1 h2;subst h1;subst h2;show bindC kindOf ((p,w) :: P.zip vs) m p=_;unfold bindC;rw[u9 λv hv=>(K7.mp nd).1 (of_mem_zip hv).1,Ph hk];simp
|p :: P,w :: vs,i+1,m,nd,h1,h2,hk=>by
  show bindC kindOf ((p,w) :: P.zip vs) m x=_;unfold bindC;exact sL (i:=i) (K7.mp nd).2 (by simpa using h1) (by simpa using h2) hk
def rC (N:List Str) (vs:List V):St:=vs.map dk++replicate (N.length - vs.length) Jd
def Cc (CX:CXT) (P:Jz) (w:Jp) (K:Jh) (mg:Str->Option Ja) (base:JB) (N:List Str) (qual:Str) (scope:Scope) (f:G') (cd:Ja) (A:JK) (outer:List Env) (s:Jc) (H:Hp) (E:XK):Cx where
 prog:=P
 w:=w
 K:=K
 mg:=mg
 base:=base
 A:=A.deeper (envOfC qual scope s.heap.objs.size f cd)
 N:=N
 s₀:=s
 H₀:=H
 env:=envOfC qual scope s.heap.objs.size f cd
 outer:=outer
 stack:=envOfC qual scope s.heap.objs.size f cd :: outer
 ex:=[]
 calm:=D'
 fn:=λ_=>D'
 pn:=[]
 xe:=λe s'=>Jo (model P w) (A.deeper (envOfC qual scope s.heap.objs.size f cd)) (leaving (envOfC qual scope s.heap.objs.size f cd) e) (λ_ s''=>CX outer H s E e s'') (λe' s''=>CX outer H s E e' s'') s'
def wM {sc:Scope}{n:Nat}{x:Str}(h:sc.names.lookup x=dk .cell):∃ c,(cellsFrom n sc.names []).lookup x=dk c:=by
 have q:=cellsFrom_some sc.names n [] (.inl h);exact Option.isSome_iff_exists.mp q
def xT {CX:CXT}{P:Jz}{w:Jp}{K:Jh}{mg:Str->Option Ja}{base:JB}{N ps:List Str}{qual:Str}{scope:Scope}{f:G'}{cd:Ja}{A:JK}{outer:List Env}{s s1:Jc}{H:Hp}{E:XK}{us:List Ja}{vs:List V}
 (S:FnScope N ps scope) (hd:A.handled=Jd) (e0:Env0 P w K mg base A outer s H) (hl:vs.length=ps.length) (r:bE vs us)
 (x:InCallC s s.heap.objs.size (bindL (envOfC qual scope s.heap.objs.size f cd).kindOf (ps.zip us) λ_=>Jd) (cellsFrom (s.heap.objs.size+1) scope.names []) (bindC (envOfC qual scope s.heap.objs.size f cd).kindOf (ps.zip us) λ_=>Jd) s1) :
 Inv (Cc CX P w K mg base N qual scope f cd A outer s H E) [] (rC N vs) H s1:=by
 have hpl:ps.length <= N.length:=by have:=congrArg Lk S.pre;rw[KR]at this;omega
 obtain⟨h1,tk,rfl,hk⟩:=x.done;have noA:∀ b:G',b ∉ (Cc CX P w K mg base N qual scope f cd A outer s H E).ex:=λb z=>absurd (show b∈([]:List G') from z) (by simp)
 refine⟨⟨e0.mod,S.kind,rfl,rfl,Jk _,λy z c h1 h2=>?_,λy hy=>?_,λy c _ h=>?_,λ_=>hd,JK.frames_deeper e0.frames,.inr ⟨rfl,rfl⟩,λb z=>absurd z (noA b),e0.bs,e0.bsz,λb _ _=>noA b,λb z=>absurd z (noA b),e0.funs,e0.frf⟩,
  rfl,e0.bare,Un.kept hk,⟨_,x.toInCall.ns,λi y v h1 h2 h3=>?_⟩,λy c h=>⟨_,x.cell y c h⟩,e0.hok.fresh (Jk _),λy c h=>?_,λp hp=>absurd (show p∈([]:List (G' × Ku)) from hp) (by simp),e0.hok.kept hk,?_⟩
 . exact name_of_addr x.apart (PySem.mem_of_lookup h1) (PySem.mem_of_lookup h2)
 . have hy:scope.names.lookup y=dk .cell\/scope.names.lookup y=dk .free:=hy;rcases hy with hy|hy
   . exact wM hy
   . exact absurd rfl (S.nofree _ (PySem.mem_of_lookup hy))
 . exact Nat.le_of_lt (x.above y c (PySem.mem_of_lookup h))
 . have hi:i < vs.length:=by
    unfold rC at h2;by_cases hi:i < vs.length
    . exact hi
    . rw[List.getElem?_append_right (by simpa using hi)]at h2;rw[List.getElem?_replicate]at h2;split at h2<;>cases h2
   have ha:vs[i]?=dk v:=by
    unfold rC at h2;rw[List.getElem?_append_left (by simpa using hi),Ke]at h2;cases e:vs[i]? with
   |none=>rw[e]at h2;cases h2
   |some a=>rw[e]at h2;cases h2;rfl
   obtain⟨u,hu,rv⟩:=r.get ha;have hp:ps[i]?=dk y:=by
    rw[<-S.pre,List.getElem?_take_of_lt (by omega)];exact h1
   have ndP:ps.Nodup:=by rw[<-S.pre];exact S.nd.sublist (List.take_sublist _ _)
   refine⟨u,rv,?_⟩;rcases S.par y (Ka hp) with k|k
   . exact .inl ⟨k,t7 ndP hp hu k⟩
   . obtain⟨c,e⟩:=wM (n:=s.heap.objs.size+1) k;refine .inr ⟨.inl k,c,e,?_⟩;have q:=x.cell y c e;rw[sL ndP hp hu (by show scope.names.lookup y≠_;rw[k];decide)]at q;exact q
 . exact e0.hok.fresh (Nat.le_of_lt (x.above y c (PySem.mem_of_lookup h)))
 . unfold rC;show _=N.length;rw[Ji,Ju,K6];omega
def Fn {CX:CXT}{P:Jz}{w:Jp}{K:Jh}{mg:Str->Option Ja}{base:JB}{k:Nat}{f:G'}{name qual:Str}{params:Arguments}{body:List JT}{scope:Scope}{dV kV doc pm cdv ct oc:Ja}{an od:Option G'}
 {osl:Array (Option Ja)} {N ps:List Str} {sp:Sp} (lk:K.lookup f=dk ⟨oc,od,.func (fnOf name qual params body scope dV kV doc pm an cdv ct),osl⟩) (hcd:codeIn K cdv qual=D') (S:FnScope N ps scope)
 (len:∀ vs H Q E,sp vs H Q E->vs.length=ps.length)
 (hbody:∀ (A:JK) (outer:List Env) (s:Jc) (H:Hp) (vs:List V) (Q:VK) (E:XK),Room k (A.deeper (envOfC qual scope s.heap.objs.size f cdv))->sp vs H Q E ->
  ∃ t,PSs (Cc CX P w K mg base N qual scope f cdv A outer s H E) body t/\t { nx:=λ_ H'=>Q .non H',rt:=Q } (rC N vs) H) :
 FnOk P w K mg base CX (k+1) f (fnOf name qual params body scope dV kV doc pm an cdv ct) ps sp:=by
 refine⟨len,λA outer s H args us vs Q E hr e0 hb r hsp=>?_⟩;have hl:=len _ _ _ _ hsp;have KX:K.In s.heap:=e0.mod.kin.keeps λb o e=>(e0.bs b o e).1
 have lim:s.heap.NoLimit:=e0.mod.nolimit.keeps λb o e=>(e0.bs b o e).1
 have hkind:∀ y∈ps.zip us,scope.names.lookup y.1=dk .local\/(scope.names.lookup y.1=dk .cell/\((cellsFrom (s.heap.objs.size+1) scope.names []).lookup y.1).isSome=D'):=λ⟨n,v⟩ hy=>by
  rcases S.par n (of_mem_zip hy).1 with q|q
  . exact .inl q
  . exact .inr ⟨q,cellsFrom_some _ _ _ (.inl q)⟩
 refine codeAny_call_function hr.depth (KX _ _ lk) rfl S.co S.gen rfl (codeRec_of KX hcd) (hb _ _ _ _ ?_);refine wpAny_newFunctionEnv_cells S.kind hkind λenv he s1 x=>?_
 subst he;refine⟨lim.keeps x.toInCall.keep,codeAny_func ?_⟩;obtain⟨t,ht,hq⟩:=hbody A outer s H vs Q E (hr.deeper _) hsp;have I:Inv (Cc CX P w K mg base N qual scope f cdv A outer s H E) [] (rC N vs) H s1:=xT S hr.hd e0 hl r x;refine Lh (ht [] s1 (rC N vs) H _ I hq) (λfl s' hs=>?_) λe s' hs=>hs
 have fin:∀ {σ':St} {H':Hp} {v:V} {u:Ja},Inv (Cc CX P w K mg base N qual scope f cdv A outer s H E) [] σ' H' s'->bX v u->Q v H'->CE outer P w H s Q u s' :=
  λ{σ' H' v u} J rv q=>⟨v,H',J.os,J.bare,J.base,J.hok,rv,q⟩
 cases fl with
|ret u =>
  obtain⟨v,σ',H',J,rv,q⟩:=hs;exact fin J rv q
|next =>
  obtain⟨σ',H',J,q⟩:=hs;exact fin (v:=V.non) (u:=Ko) J rfl q
|brk =>
  obtain⟨_,_,_,q⟩:=hs;exact Kx q
|cont =>
  obtain⟨_,_,_,q⟩:=hs;exact Kx q
section
variable {X:Cx}{x:Str}{p pos:Pos}{e:Expr}{es:List Expr}{t:TA}{id T:String}{r:List V->Hp->VK->Prop}
def tCB (r:List V->Hp->VK->Prop) (t:TA):TE:=λσ H Q=>t σ H λvs H1=>r vs H1 Q
def bn (hc:pe X (.builtin id) r) (hg:Gl X x) (hm:X.mg x=Jd) (hv:Kb x=dk (.builtin id)) (ha:PA X (e :: es) t) (hn:x≠"__name__":=by decide) (hdb:(x == ("__debug__":Str))=j':=by decide)
 (he:JL (e :: es) X.env=(j',eval e X.env) :: JL es X.env:=by rfl) (hpl:(Le pos (JL es X.env)).any (·.1)=j':=by rfl):PE X (.Call (.Name x p) (e :: es) [] pos) (tCB r t):=by
 intro Lv s σ H Q I h;refine Li (nT I hg hm hv ?_ hn hdb);exact PyProof.Rows.callWith_builtin1 (thn (ha pos Lv s σ H _ I h) λus s1 uq7=>by(obtain⟨vs,H1,I1,r1,q1⟩:=uq7;exact hc Lv s1 σ H1 vs us Q I1 r1 q1)) he hpl
def iY (hc:pe X (.type T) r) (hg:Gl X x) (hm:X.mg x=Jd) (hv:Kb x=dk (.type T)) (ha:PA X (e :: es) t) (hn:x≠"__name__":=by decide) (hdb:(x == ("__debug__":Str))=j':=by decide)
 (he:JL (e :: es) X.env=(j',eval e X.env) :: JL es X.env:=by rfl) (hpl:(Le pos (JL es X.env)).any (·.1)=j':=by rfl):PE X (.Call (.Name x p) (e :: es) [] pos) (tCB r t):=by
 intro Lv s σ H Q I h;refine Li (nT I hg hm hv ?_ hn hdb);exact KP (thn (ha pos Lv s σ H _ I h) λus s1 uq8=>by(obtain⟨vs,H1,I1,r1,q1⟩:=uq8;exact hc Lv s1 σ H1 vs us Q I1 r1 q1)) he hpl
end
end L2
namespace HT
open PySem PyProof.Rows
section
open PySem.SeqAt
open PySem.AutoSeq1 (wpAny_loadPart')
open PySem.MeetsSeq PySem.MeetsSeq2 PySem.MeetsSeq3
end
section
variable {prog:Jz}{w:Jp}{A:JK}{E:Ja->Jc->Prop}{s:Jc}
def sIx (n d:Nat):Option Int->Nat
|none=>d
|some v=>if v < 0 then (v+(n:Int)).toNat else min v.toNat n
def sIx_nat (n d k:Nat):sIx n d (dk (k:Int))=min k n:=by
 show (if (k:Int) < 0 then ((k:Int)+(n:Int)).toNat else min (k:Int).toNat n)=min k n;rw[Ph (by omega),toNat_natCast]
def Fm (n d:Nat) (hd:d <= n) (o:Option Int):sIx n d o <= n:=by
 cases o with
|none=>exact hd
|some v =>
  show (if v < 0 then (v+(n:Int)).toNat else min v.toNat n) <= n;by_cases hv:v < 0
  . rw[Pg hv];omega
  . rw[Ph hv];exact Nat.min_le_right _ _
def yS (v:Int) (n d:Nat):(if v < 0 then max (v+(n:Int)) 0 else min v (n:Int))=((sIx n d (dk v):Nat):Int):=by
 show (if v < 0 then max (v+(n:Int)) 0 else min v (n:Int))=(((if v < 0 then (v+(n:Int)).toNat else min v.toNat n):Nat):Int)
 by_cases hv:v < 0
 . simp only[Pg hv];omega
 . simp only[Ph hv];omega
def xj (lo hi:Option Int) (n:Nat):Builtin.Slice.sliceAdjust lo hi 1 (n:Int)=(((sIx n 0 lo:Nat):Int),((sIx n n hi:Nat):Int)):=by
 have h1:¬ ((1:Int) < 0):=by omega
 unfold Builtin.Slice.sliceAdjust;simp only[h1,if_false];refine Prod.ext ?_ ?_
 . cases lo with
  |none=>rfl
  |some v=>exact yS v n 0
 . cases hi with
  |none=>rfl
  |some v=>exact yS v n n
def xp (i j:Nat):Builtin.Slice.slicePlaces (i:Int) (j:Int) 1=j - i:=by
 unfold Builtin.Slice.slicePlaces;have h1:(1:Int) > 0:=by omega
 simp only[h1,if_true,Int.ediv_one];split<;>omega
def pT {v:Ja}{o:Option Int}{Q:Option Int->Jc->Prop}(p:IsPart v o) (h:Q o s):Jo (model prog w) A (Builtin.Slice.slicePartIndex v) Q E s:=by
 cases p with
|none=>exact slicePart_none h
|int i t=>exact slicePart_int h
def mQ {sl:G'}{vl vu:Ja}{lo hi:Option Int}{n:Nat}{Q:Int × Int × Nat->Jc->Prop}(hs:s.heap.IsSliceOf sl vl vu .none) (pl:IsPart vl lo) (pu:IsPart vu hi)
 (h:Q (((sIx n 0 lo:Nat):Int),1,sIx n n hi - sIx n 0 lo) s):Jo (model prog w) A (Builtin.Slice.sliceApplied (.ref sl) (pure (n:Int))) Q E s:=by
 obtain⟨os,hos,hcs,hds⟩:=id hs;unfold Builtin.Slice.sliceApplied Builtin.Slice.sliceFields;refine f' (f' (KI hos hds (x:=vl) rfl (f' (KI hos hds (x:=vu) rfl (f' (KI hos hds (x:=.none) rfl (Jb ?_)))))));refine f' (slicePart_none ?_);show Jo _ _ (if ((1:Int) == 0)=D' then _ else _) _ _ s;rw[Ph (by decide)];refine f' (pT pl (f' (pT pu (f' (Jb ?_)))));show Jo _ _ (match Builtin.Slice.sliceAdjust lo hi 1 (n:Int) with|(lo,hi)=>pure (lo,(1:Int),Builtin.Slice.slicePlaces lo hi 1)) _ _ s;rw[xj lo hi n];show Jo _ _ (pure (((sIx n 0 lo:Nat):Int),(1:Int),Builtin.Slice.slicePlaces ((sIx n 0 lo:Nat):Int) ((sIx n n hi:Nat):Int) 1)) _ _ s;rw[xp];exact Jb h
def AZ (xs:Array Ja) (i k:Nat):((Ll k).filterMap λ(m:Nat)=>xs[((i:Int)+(m:Int) * 1).toNat]?).toArray=((xs.toList.drop i).take k).toArray:=by
 have e:(λ(m:Nat)=>xs[((i:Int)+(m:Int) * 1).toNat]?)=λm=>xs[i+m]?:=by
  funext m;have:((i:Int)+(m:Int) * 1).toNat=i+m:=by omega
  rw[this]
 rw[e];have:=pick_run xs i k;rw[List.filterMap_map]at this;have e2:((λx=>xs[x]?) ∘ λx=>i+x)=λm=>xs[i+m]?:=rfl
 rw[e2]at this;rw[this]
def getItem_tuple_cut {t sl:G'}{items:Array Ja}{vl vu:Ja}{lo hi:Option Int}{Q:Ja->Jc->Prop}(ht:IsTup s.heap t items) (hs:s.heap.IsSliceOf sl vl vu .none) (pl:IsPart vl lo) (pu:IsPart vu hi)
 (hw:¬ (sIx items.size 0 lo=0/\sIx items.size items.size hi=items.size))
 (h:Q (.ref s.heap.objs.size) { s with heap:=s.heap.push { cls:=.type "tuple",data:=.seq ((items.toList.drop (sIx items.size 0 lo)).take (sIx items.size items.size hi - sIx items.size 0 lo)).toArray } })
 (hsz:items.size <= Jm):Jo (model prog w) A (getItem (.ref t) (.ref sl)) Q E s:=by
 have htake:sizeOk (.seq ((items.toList.drop (sIx items.size 0 lo)).take (sIx items.size items.size hi - sIx items.size 0 lo)).toArray):=by
  show ((items.toList.drop (sIx items.size 0 lo)).take (sIx items.size items.size hi - sIx items.size 0 lo)).toArray.size <= Jm;rw[JD,KR,length_drop,JY];omega
 have hj:sIx items.size items.size hi <= items.size:=Fm _ _ (Jk _) hi;obtain⟨os,hos,hcs,hds⟩:=id hs;have hTs:s.TypeIs (.ref sl) "slice":=⟨os,hos,hcs⟩
 unfold getItem
 try with_reducible refine Kg ?_
 first|refine f' (Jb ?_)|skip
 refine f' (wpAny_sequenceKey ht.typeIs (by decide) ?_);refine f' (JV (name:=K0 "__getitem__") ht.typeIs PyProof.Rows.slot_tuple_getitem
  (JS PyProof.Rows.slot_tuple_getitem ht.typeIs entry_tuple_getitem ?_ (args_tuple_getitem _ _)))
 show Jo _ _ (Builtin.Tuple.tupleItemsOf (.ref t) >>= _) _ _ s;refine f' (tupleItemsOf_ ht ?_);refine f' (wpAny_typeOf hTs ?_);rw[Pg (by decide)];refine f' (mQ hs pl pu ?_);have hno:¬ ((((sIx items.size 0 lo:Nat):Int) == 0 && (1:Int) == 1 && (sIx items.size items.size hi - sIx items.size 0 lo) == items.size)=D'):=by
  intro q;rw[Kr,Kr]at q;have q1:((sIx items.size 0 lo:Nat):Int)=0:=eq_of_beq q.1.1;have q2:sIx items.size items.size hi - sIx items.size 0 lo=items.size:=eq_of_beq q.2;exact hw ⟨by omega,by omega⟩
 show Jo _ _ (if (((sIx items.size 0 lo:Nat):Int) == 0 && (1:Int) == 1 && (sIx items.size items.size hi - sIx items.size 0 lo) == items.size)=D' then _ else _) _ _ s;rw[Ph hno,AZ]
 first
 |exact f' (m:=Builtin.Tuple.tupleExact _) (Kf (Jb ⟨_,rfl,Jb h⟩) htake)
 |exact f' (m:=Builtin.Tuple.tupleExact _) (Kf (f' (Jb (Jb ⟨_,rfl,Jb h⟩))) htake)
 |exact f' (f' (m:=Builtin.Tuple.tupleExact _) (Kf (Jb (Jb ⟨_,rfl,Jb h⟩)) htake))
 |exact f' (f' (m:=Builtin.Tuple.tupleExact _) (Kf (Jb ⟨_,rfl,Jb h⟩) htake))
end
end HT
namespace L2
open PySem PySem.Spec PyProof.Rows
abbrev TO:=St->Hp->(Option Int->Hp->Prop)->Prop
def PO (X:Cx) (e:Option Expr) (t:TO):Prop :=
 ∀ (Lv:List (G' × Ku)) (s:Jc) (σ:St) (H:Hp) (Q:Option Int->Hp->Prop),Inv X Lv σ H s->t σ H Q ->
  Jo (model X.prog X.w) X.A (evalPart e X.env) (λu s'=>∃ o H',Inv X Lv σ H' s'/\IsPart u o/\Q o H') X.xe s
def A3:TO:=λ_ H Q=>Q Jd H
def Fe (t:TE):TO:=λσ H Q=>t σ H λx H1=>∃ i,x=.int i/\Q (dk i) H1
section
variable {X:Cx}{e:Expr}{te:TE}{lo hi:Option Expr}{tl th:TO}{pos p2:Pos}
def kq:PO X Jd A3:=by
 intro Lv s σ H Q I h;rw[evalPart_none];exact Jb ⟨Jd,H,I,.none,h⟩
def hU (h:PE X e te):PO X (dk e) (Fe te):=by
 intro Lv s σ H Q I hw;rw[evalPart_some];refine thn (h Lv s σ H _ I hw) λu s1 ur30=>?_
 obtain⟨x,H1,I1,r1,q1⟩:=ur30;obtain⟨i,rfl,q⟩:=q1;obtain⟨t,rfl⟩:=r1;exact⟨dk i,H1,I1,.int i t,q⟩
def SlR (X:Cx) (r:V->Option Int->Option Int->Hp->VK->Prop):Prop :=
 ∀ (Lv:List (G' × Ku)) (s:Jc) (σ:St) (H:Hp) (x:V) (v vl vu:Ja) (lo hi:Option Int) (sl:G') (Q:VK),Inv X Lv σ H s->bX x v->s.heap.IsSliceOf sl vl vu .none->IsPart vl lo->IsPart vu hi->r x lo hi H Q ->
  ∃ T id,typeLookup (.type T) "__getitem__"=pure (dk (.builtin id))/\s.TypeIs v T/\Jo (model X.prog X.w) X.A (getItem v (.ref sl)) (EP X Lv σ Q) X.xe s
def tSl (r:V->Option Int->Option Int->Hp->VK->Prop) (te:TE) (tl th:TO):TE:=λσ H Q=>te σ H λx H1=>tl σ H1 λl H2=>th σ H2 λu H3=>r x l u H3 Q
def fY {r:V->Option Int->Option Int->Hp->VK->Prop}(hr:SlR X r) (he:PE X e te) (hl:PO X lo tl) (hu:PO X hi th):PE X (.Subscript e (.Slice lo hi Jd p2) pos) (tSl r te tl th):=by
 intro Lv s σ H Q I h;refine Subscript_ (thn (he Lv s σ H _ I h) λv s1 ur31=>?_);obtain⟨x,H1,I1,r1,q1⟩:=ur31;refine wpAny_Slice (thn (hl Lv s1 σ H1 _ I1 q1) λvl s2 ⟨l,H2,I2,pl,q2⟩=>thn (hu Lv s2 σ H2 _ I2 q2) λvu s3 ⟨u,H3,I3,pu,q3⟩=>?_);rw[evalPart_none];refine Jb ?_;have I4:Inv X Lv σ H3 { s3 with heap:=s3.heap.push { cls:=.type "slice",data:=.fields #[vl,vu,.none] } }:=I3.kept (t':=s3.toks) λb ob q=>Jf _ q
 obtain⟨T,id,hT,ht,hg⟩:=hr Lv { s3 with heap:=s3.heap.push { cls:=.type "slice",data:=.fields #[vl,vu,.none] } } σ H3 x v vl vu l u s3.heap.objs.size Q I4 r1 (JB.IsSliceOf.new ..) pl pu q3;show Jo (model X.prog X.w) X.A (subscriptTail e (.Slice lo hi Jd p2) v (.ref s3.heap.objs.size)) (EP X Lv σ Q) X.xe { s3 with heap:=s3.heap.push { cls:=.type "slice",data:=.fields #[vl,vu,.none] } };exact tail_any (ops:=[.ref s3.heap.objs.size,v]) ht hT hg (by with_unfolding_all rfl)
def kY (xs:List V) (lo hi:Option Int):List V:=(xs.drop (HT.sIx xs.length 0 lo)).take (HT.sIx xs.length xs.length hi - HT.sIx xs.length 0 lo)
def o7 (xs:List V) (lo hi:Option Int):(kY xs lo hi).length <= xs.length:=by
 unfold kY;rw[KR,length_drop];omega
def I0 (K:Jh):V->Option Int->Option Int->Hp->VK->Prop:=λx lo hi H Q=>∃ a xs,x=.ref a/\SqT K H a xs /\
 ¬ (HT.sIx xs.length 0 lo=0/\HT.sIx xs.length xs.length hi=xs.length)/\∀ p,H p=Jd->Q (.ref p) (upd H p (.tup (kY xs lo hi)))
def Cq:SlR X (I0 X.K):=by
 intro Lv s σ H x v vl vu lo hi sl Q I rx hs pl pu h;obtain⟨a,xs,rfl,hx,hw,q⟩:=h;cases rx;obtain⟨its,r,ht,hz⟩:=I.tuple hx;have hlen:its.toArray.size=xs.length:=by rw[JD];exact r.length.symm
 refine⟨"tuple",_,PyProof.Rows.slot_tuple_getitem.lookup,ht.typeIs,?_⟩;refine HT.getItem_tuple_cut ht hs pl pu (by rw[hlen];exact hw) ?_ (by rw[hlen];exact hz);rw[hlen];refine⟨.ref s.heap.objs.size,_,I.laid (t':=s.toks) (o:=.tup (kY xs lo hi)) (λb ob q=>Jf _ q) (Jk _) ?_,rfl,q _ (I.hok.fresh (Jk _))⟩;exact⟨JU (o7 xs lo hi) hz,_,(r.drop (HT.sIx xs.length 0 lo)).take (HT.sIx xs.length xs.length hi - HT.sIx xs.length 0 lo),IsTup.new _ _⟩
end
def ixN (n:Nat) (i:Int):Option Nat:=if 0 <= i then (if i < n then dk i.toNat else Jd) else if -(n:Int) <= i then dk (i+n).toNat else Jd
def atI {α:Type}(xs:List α) (i:Int):Option α:=(ixN xs.length i).bind λj=>xs[j]?
def zV {n:Nat}{i:Int}{j:Nat}(h:ixN n i=dk j):seqIndex? i n=dk j/\j < n/\-(n:Int) <= i/\i < n:=by
 unfold ixN at h;by_cases h0:0 <= i
 . rw[Pg h0]at h;by_cases h1:i < n
   . rw[Pg h1]at h;have e:i.toNat=j:=JF h;exact⟨by rw[seqIndex_of h0 h1,e],by omega,by omega,h1⟩
   . rw[Ph h1]at h;cases h
 . rw[Ph h0]at h;by_cases h1:-(n:Int) <= i
   . rw[Pg h1]at h;have e:(i+n).toNat=j:=JF h;exact⟨by rw[seqIndex_neg (by omega) h1,e],by omega,h1,by omega⟩
   . rw[Ph h1]at h;cases h
def zE {α:Type}{xs:List α}{i:Int}{v:α}(h:atI xs i=dk v):∃ j,seqIndex? i xs.length=dk j/\xs[j]?=dk v/\j < xs.length/\-(xs.length:Int) <= i/\i < xs.length:=by
 unfold atI at h;cases e:ixN xs.length i with
|none=>rw[e]at h;cases h
|some j =>
  rw[e]at h;obtain⟨h1,h2,h3,h4⟩:=zV e;exact⟨j,h1,h,h2,h3,h4⟩
def DG (b:Expr):Prop:=∀ o i,subscripted b j' o i=operate [o,i] (getItem o i)
def IxR (X:Cx) (r:R2):Prop :=
 ∀ (value slice:Expr) (Lv:List (G' × Ku)) (s:Jc) (σ:St) (H:Hp) (x y:V) (v u:Ja) (Q:VK),Inv X Lv σ H s->bX x v->bX y u->r x y H Q ->
  subscripted slice j' v u=operate [v,u] (getItem v u)->Jo (model X.prog X.w) X.A (subscriptTail value slice v u) (EP X Lv σ Q) X.xe s
def MtR (X:Cx) (id:String) (r:V->List V->Hp->VK->Prop):Prop :=
 ∀ (Lv:List (G' × Ku)) (s:Jc) (σ:St) (H:Hp) (x:V) (xs:List V) (v:Ja) (us:List Ja) (Q:VK),Inv X Lv σ H s->bX x v->bE xs us->r x xs H Q ->
  Jo (model X.prog X.w) X.A (call (.builtin id) (v :: us)) (EP X Lv σ Q) X.xe s
section
variable {X:Cx}{a b:Expr}{ta tb:TE}{pos:Pos}
def aC {r:R2}(hr:IxR X r) (ha:PE X a ta) (hb:PE X b tb) (hs:DG b):PE X (.Subscript a b pos) (tOp r ta tb):=by
 intro Lv s σ H Q I h;exact Subscript_ (GC ha hb I h λv u s2 x y H2 I2 rx ry q=>hr a b Lv s2 σ H2 x y v u Q I2 rx ry q (hs _ _))
def HQ (K:Jh):R2:=λx y H Q=>∃ p xs i v,x=.ref p/\y=.int i/\SqL K H p xs/\atI xs i=dk v/\Q v H
def Ez (K:Jh):R2:=λx y H Q=>∃ p xs i v,x=.ref p/\y=.int i/\SqT K H p xs/\atI xs i=dk v/\Q v H
def bg:IxR X (HQ X.K):=by
 intro value slice Lv s σ H x y v u Q I rx ry h hs;obtain⟨p,xs,i,z,rfl,rfl,hq,he,q⟩:=h;cases rx;obtain⟨t,rfl⟩:=ry;obtain⟨its,r,pl,hz⟩:=I.list hq;obtain⟨j,h1,h2,h3,h4,h5⟩:=zE he;obtain⟨w,ew,rw'⟩:=r.get h2;have hl:=r.length;have hn:=sB;have fin:EP X Lv σ Q w s:=⟨z,H,I,rw',q⟩
 by_cases h0:0 <= i
 . have hj:i.toNat=j:=by
    rw[seqIndex_of h0 h5]at h1;exact JF h1
   exact item_listR pl.isList h0 (by omega) (by rw[hj];simpa using ew) fin hs
 . have hj:(i+(its.toArray.size:Int)).toNat=j:=by
    rw[seqIndex_neg (by omega) h4]at h1;rw[JD,<-hl];exact JF h1
   exact subscriptTail_builtinR (x:=w) pl.isList.typeIs slot_list_getitem.lookup
    (wpAny_getItem_list_neg (Q:=λr s'=>r=w/\EP X Lv σ Q r s') pl.isList (by omega) (by rw[JD]<;>omega) (by omega) (by rw[hj];simpa using ew) ⟨rfl,fin⟩) hs
def aA:IxR X (Ez X.K):=by
 intro value slice Lv s σ H x y v u Q I rx ry h hs;obtain⟨p,xs,i,z,rfl,rfl,hq,he,q⟩:=h;cases rx;obtain⟨t,rfl⟩:=ry;obtain⟨its,r,pl,hz⟩:=I.tuple hq;obtain⟨j,h1,h2,h3,h4,h5⟩:=zE he;obtain⟨w,ew,rw'⟩:=r.get h2;have hl:=r.length;have hn:=sB;have fin:EP X Lv σ Q w s:=⟨z,H,I,rw',q⟩
 exact subscriptTail_builtinR (x:=w) pl.typeIs slot_tuple_getitem.lookup
  (getItem_tuple (j:=j) (Q:=λr s'=>r=w/\EP X Lv σ Q r s') pl (by omega) (by omega) (by rw[JD,<-hl];exact h1) (by simpa using ew) ⟨rfl,fin⟩) hs
def x5 (its:List Ja) (n j:Nat) (u:Ja):Lq (·.setIfInBounds j u) { cls:=.type "list",data:=.seq its.toArray n }={ cls:=.type "list",data:=.seq (its.set j u).toArray n }:=by
 simp[Lq]
theorem Inv.lst {Lv:List (G' × Ku)}{σ:St}{H:Hp}{s:Jc}{p:G'}{xs:List V}(I:Inv X Lv σ H s) (h:H p=dk (.lst xs)) :
 ∃ (its:List Ja) (n:Nat),bE xs its/\s.heap.get? p=dk { cls:=.type "list",data:=.seq its.toArray n }/\xs.length <= Jm:=by
 obtain⟨z,its,n,r,e⟩:=I.hok p _ h;exact⟨its,n,r,e,z⟩
def Inv.lstUpd {Lv:List (G' × Ku)}{σ:St}{H:Hp}{s:Jc}{p:G'}{xs ys:List V}{its its':List Ja}{n n':Nat}{f:Ku->Ku}(I:Inv X Lv σ H s) (h:H p=dk (.lst xs))
 (ho:s.heap.get? p=dk { cls:=.type "list",data:=.seq its.toArray n }) (hf:f { cls:=.type "list",data:=.seq its.toArray n }={ cls:=.type "list",data:=.seq its'.toArray n' }) (r:bE ys its') (hz:ys.length <= Jm) (t:Nat) :
 Inv X Lv σ (upd H p (.lst ys)) { s with heap:=s.heap.update p f,toks:=t }:=by
 have e:(s.heap.update p f).get? p=dk { cls:=.type "list",data:=.seq its'.toArray n' }:=by
  rw[Ks f ho (by rw[hf]<;>rfl),hf]
 refine I.write (x:=p) (e:=p) (by rw[h];trivial) (.inl rfl) (λb u hb q=>(JB.get?_update_other _ _ (K9 hb)).trans q) ⟨_,e⟩ ?_;exact⟨hz,its',n',r,e⟩
def Hc:V->V->V->Hp->(Hp->Prop)->Prop:=λo i v H Q=>∃ p xs k j,o=.ref p/\i=.int k/\H p=dk (.lst xs)/\ixN xs.length k=dk j/\Q (upd H p (.lst (xs.set j v)))
def cQ:HY X Hc:=by
 intro Lv s σ H o i v ov iv u Q I ro ri rv h;obtain⟨p,xs,k,j,rfl,rfl,hp,hj,q⟩:=h;cases ro;obtain⟨t,rfl⟩:=ri;obtain⟨its,n,r,ho,hz⟩:=I.lst hp;obtain⟨h1,h2,h3,h4⟩:=zV hj;have hl:=r.length;have hn:=sB;have I':Inv X Lv σ (upd H p (.lst (xs.set j v))) { s with heap:=s.heap.update p (Lq (·.setIfInBounds j u)) } :=
  I.lstUpd hp ho (x5 its n j u) (r.set rv j) (by rw[List.length_set];exact hz) s.toks
 by_cases h0:0 <= k
 . have hk:k.toNat=j:=by
    rw[seqIndex_of h0 h4]at h1;exact JF h1
   exact ki_setAt ho h0 (by omega) (by rw[JD,<-hl];exact h4) (by rw[hk];exact⟨_,I',q⟩)
 . have hk:(k+(its.toArray.size:Int)).toNat=j:=by
    rw[seqIndex_neg (by omega) h3]at h1;rw[JD,<-hl];exact JF h1
   exact ki_setBack ho (by omega) (by rw[JD,<-hl];exact h3) (by omega) (by rw[hk];exact⟨_,I',q⟩)
def tR (lo hi:Option Int) (n:Nat):(sliceBounds lo hi Jd n).1=((HT.sIx n 0 lo:Nat):Int)/\(sliceBounds lo hi Jd n).2.1=((HT.sIx n n hi:Nat):Int)/\(sliceBounds lo hi Jd n).2.2=1:=by
 refine⟨?_,?_,rfl⟩
 . cases lo with
  |none=>simp[sliceBounds,HT.sIx]
  |some i =>
    simp only[sliceBounds,HT.sIx,getD_none,show (1:Int) > 0 by decide,if_true];by_cases h:i < 0
    . simp only[h,if_true]<;>omega
    . simp only[h,if_false]<;>omega
 . cases hi with
  |none=>simp[sliceBounds,HT.sIx]
  |some i =>
    simp only[sliceBounds,HT.sIx,getD_none,show (1:Int) > 0 by decide,if_true];by_cases h:i < 0
    . simp only[h,if_true]<;>omega
    . simp only[h,if_false]<;>omega
def rA (its:List Ja) (lo hi:Option Int):slicePick its.toArray lo hi Jd=((its.drop (HT.sIx its.length 0 lo)).take (HT.sIx its.length its.length hi - HT.sIx its.length 0 lo)).toArray:=by
 obtain⟨h1,h2,h3⟩:=tR lo hi its.toArray.size;unfold slicePick;rw[h1,h2,h3];simp only[sliceRange_one,pick_run,JD]<;>rfl
def Ia (K:Jh):V->Option Int->Option Int->Hp->VK->Prop:=λx lo hi H Q=>∃ a xs,x=.ref a/\SqL K H a xs/\∀ p,H p=Jd->Q (.ref p) (upd H p (.lst (kY xs lo hi)))
def ml:SlR X (Ia X.K):=by
 intro Lv s σ H x v vl vu lo hi sl Q I rx hs pl pu h;obtain⟨a,xs,rfl,hx,q⟩:=h;cases rx;obtain⟨its,r,ht,hz⟩:=I.list hx;have hlen:=r.length;refine⟨"list",_,slot_list_getitem.lookup,ht.isList.typeIs,?_⟩;refine wpAny_getItem_list_slice ht.isList hs pl pu .none (by simp) ?_ (by rw[JD]<;>omega);rw[rA,<-hlen];refine⟨.ref s.heap.objs.size,_,I.laid (t':=s.toks) (o:=.lst (kY xs lo hi)) (λb ob q=>Jf _ q) (Jk _) ?_,rfl,q _ (I.hok.fresh (Jk _))⟩;exact⟨JU (o7 xs lo hi) hz,_,0,(r.drop (HT.sIx xs.length 0 lo)).take (HT.sIx xs.length xs.length hi - HT.sIx xs.length 0 lo),Js _ rfl⟩
def rm:V->Bool
|.non=>D'
|.bl _=>D'
|.int _=>D'
|.str _=>D'
|_=>j'
def eqV:V->V->Bool
|.non,.non=>D'
|.bl a,.bl b=>a == b
|.bl a,.int b=>(if a then 1 else 0) == b
|.int a,.bl b=>a == (if b then 1 else 0)
|.int a,.int b=>a == b
|.str a,.str b=>a == b
|_,_=>j'
def EM {A:JK}{s:Jc}{y x:V}{u v:Ja}(ry:bX y u) (rx:bX x v) (fy:rm y=D') (fx:rm x=D'):JZ A s u v (eqV y x):=by
 cases y with
|non =>
  cases ry;cases x with
 |non=>cases rx;exact JZ.same _
 |bl b=>cases rx;exact JZ.none_bool b
 |int b=>obtain⟨t,rfl⟩:=rx;exact JZ.none_int b t
 |str b=>obtain⟨t,rfl⟩:=rx;exact JZ.none_str b t
 |_=>exact absurd (show j'=D' from fx) Jw
|bl a =>
  cases ry;cases x with
 |non=>cases rx;exact JZ.bool_none a
 |bl b=>cases rx;exact JZ.bool_bool a b
 |int b=>obtain⟨t,rfl⟩:=rx;exact JZ.bool_int a b t
 |str b=>obtain⟨t,rfl⟩:=rx;exact JZ.bool_str a b t
 |_=>exact absurd (show j'=D' from fx) Jw
|int a =>
  obtain⟨t',rfl⟩:=ry;cases x with
 |non=>cases rx;exact JZ.int_none a t'
 |bl b=>cases rx;exact JZ.int_bool a t' b
 |int b=>obtain⟨t,rfl⟩:=rx;exact JZ.int_int a t' b t
 |str b=>obtain⟨t,rfl⟩:=rx;exact JZ.int_str a t' b t
 |_=>exact absurd (show j'=D' from fx) Jw
|str a =>
  obtain⟨t',rfl⟩:=ry;cases x with
 |non=>cases rx;exact JZ.str_none a t'
 |bl b=>cases rx;exact JZ.str_bool a t' b
 |int b=>obtain⟨t,rfl⟩:=rx;exact JZ.str_int a t' b t
 |str b=>obtain⟨t,rfl⟩:=rx;exact JZ.str_str a t' b t
 |_=>exact absurd (show j'=D' from fx) Jw
|_=>exact absurd (show j'=D' from fy) Jw
def eqU (x:V) (u:Ja):Bool:=match u with
|.none=>eqV .non x
|.bool b=>eqV (.bl b) x
|.int i _=>eqV (.int i) x
|.str z _=>eqV (.str z) x
|_=>j'
def Cf {x y:V}{u:Ja}(r:bX y u) (f:rm y=D'):eqU x u=eqV y x:=by
 cases y with
|non=>cases r;rfl
|bl b=>cases r;rfl
|int i=>obtain⟨t,rfl⟩:=r;rfl
|str z=>obtain⟨t,rfl⟩:=r;rfl
|_=>exact absurd (show j'=D' from f) Jw
theorem o9 {x:V}:∀ {xs:List V}{us:List Ja},bE xs us->xs.all rm=D'->us.any (eqU x)=xs.any λy=>eqV y x
|_,_,.nil,_=>rfl
|y :: xs,u :: us,.cons r t,f=>by
  rw[all_cons,Kr]at f;rw[any_cons,any_cons,Cf r f.1,o9 t f.2]
theorem kZ {A:JK}{s:Jc}{x:V}{v:Ja}(rx:bX x v) (fx:rm x=D'):∀ {xs:List V}{us:List Ja},bE xs us->xs.all rm=D'->∀ u∈us,JZ A s u v (eqU x u)
|_,_,.nil,_=>λu hu=>by cases hu
|y :: xs,u :: us,.cons r t,f=>λu' hu=>by
  rw[all_cons,Kr]at f;rcases JE.mp hu with rfl|hu
  . rw[Cf r f.1];exact EM r rx f.1 fx
  . exact kZ rx fx t f.2 u' hu
def inV (x:V) (xs:List V):Bool:=xs.any λy=>eqV y x
def rIn (K:Jh) (neg:Bool):R2:=λx y H Q=>∃ p xs,y=.ref p/\(SqL K H p xs\/SqT K H p xs)/\rm x=D'/\xs.all rm=D'/\Q (.bl (if neg then !inV x xs else inV x xs)) H
def gE:OpR X (Kw .In) (rIn X.K j'):=by
 intro Lv s σ H x y v u Q I rx ry h;obtain⟨p,xs,rfl,hq,fx,fs,q⟩:=h;cases ry;rcases hq with hq|hq
 . obtain⟨its,r,pl,hz⟩:=I.list hq;refine SeqAt.in_listAt (eqU x) pl.isList (λw hw=>kZ rx fx r fs w (by simpa using hw)) ⟨.bl _,H,I,rfl,?_⟩;rw[show its.toArray.any (eqU x)=its.any (eqU x) by simp,o9 r fs];exact q
 . obtain⟨its,r,pl,hz⟩:=I.tuple hq;refine SeqAt.in_tupleAt (eqU x) pl (λw hw=>kZ rx fx r fs w (by simpa using hw)) ⟨.bl _,H,I,rfl,?_⟩;rw[show its.toArray.any (eqU x)=its.any (eqU x) by simp,o9 r fs];exact q
def jc:OpR X (Kw .NotIn) (rIn X.K D'):=by
 intro Lv s σ H x y v u Q I rx ry h;obtain⟨p,xs,rfl,hq,fx,fs,q⟩:=h;cases ry;rcases hq with hq|hq
 . obtain⟨its,r,pl,hz⟩:=I.list hq;refine SeqAt.notIn_listAt (eqU x) pl.isList (λw hw=>kZ rx fx r fs w (by simpa using hw)) ⟨.bl _,H,I,rfl,?_⟩;rw[show its.toArray.any (eqU x)=its.any (eqU x) by simp,o9 r fs];exact q
 . obtain⟨its,r,pl,hz⟩:=I.tuple hq;refine SeqAt.notIn_tupleAt (eqU x) pl (λw hw=>kZ rx fx r fs w (by simpa using hw)) ⟨.bl _,H,I,rfl,?_⟩;rw[show its.toArray.any (eqU x)=its.any (eqU x) by simp,o9 r fs];exact q
def bo:pe X (.builtin "len") (λxs H Q=>∃ p ys,xs=[.ref p]/\(SqL X.K H p ys\/SqT X.K H p ys)/\Q (.int ys.length) H):=by
 intro Lv s σ H xs us Q I r h;obtain⟨p,ys,rfl,hq,q⟩:=h;obtain⟨u,rfl,rx⟩:=sy r;cases rx;have hn:=sB;rcases hq with hq|hq
 . obtain⟨its,r',pl,hz⟩:=I.list hq;have hlen:=r'.length;exact Calls.call_len_list pl.isList (by simp only[JD]<;>omega) ⟨.int ys.length,H,I.tok _,⟨s.toks+1,by rw[JD,hlen]⟩,q⟩
 . obtain⟨its,r',pl,hz⟩:=I.tuple hq;have hlen:=r'.length;exact len_tuple pl (by simp only[JD]<;>omega) ⟨.int ys.length,H,I.tok _,⟨s.toks+1,by rw[JD,hlen]⟩,q⟩
def mt:pe X (.type "list") (λxs H Q=>∃ p ys,xs=[.ref p]/\(SqL X.K H p ys\/SqT X.K H p ys)/\∀ l,H l=Jd->Q (.ref l) (upd H l (.lst ys))):=by
 intro Lv s σ H xs us Q I r h;obtain⟨p,ys,rfl,hq,q⟩:=h;obtain⟨u,rfl,rx⟩:=sy r;cases rx;have fin:∀ (its:List Ja),bE ys its->ys.length <= Jm->∀ (h':JB) (c':Nat),(∀ b o',s.heap.get? b=dk o'->h'.get? b=dk o') ->
  h'.get? s.heap.objs.size=dk { cls:=.type "list",dict:=Jd,data:=.seq its.toArray c',slots:=#[] }->EP X Lv σ Q (.ref s.heap.objs.size) { s with heap:=h' }:=λits r' hz h' c' kp e =>
  ⟨.ref s.heap.objs.size,_,I.laid (t':=s.toks) kp (Jk _) (show dc X.prog X.w _ h' _ (.lst ys) from ⟨hz,its,c',r',e⟩),rfl,q _ (I.hok.fresh (Jk _))⟩
 rcases hq with hq|hq
 . obtain⟨its,r',pl,hz⟩:=I.list hq;have hlen:=r'.length;obtain⟨o,ho,hc,n,hd⟩:=pl.isList;exact call_list_seq p (.inl rfl) ho hc hd (λh' c' kp e=>fin its r' hz h' c' kp e) (by simp only[JD]<;>omega)
 . obtain⟨its,r',pl,hz⟩:=I.tuple hq;have hlen:=r'.length;obtain⟨o,ho,hc,n,hd⟩:=pl;exact call_list_seq p (.inr rfl) ho hc hd (λh' c' kp e=>fin its r' hz h' c' kp e) (by simp only[JD]<;>omega)
def lA:pe X (.type "tuple") (λxs H Q=>∃ p ys,xs=[.ref p]/\((SqL X.K H p ys/\∀ l,H l=Jd->Q (.ref l) (upd H l (.tup ys)))\/(SqT X.K H p ys/\Q (.ref p) H))):=by
 intro Lv s σ H xs us Q I r h;obtain⟨p,ys,rfl,h⟩:=h;obtain⟨u,rfl,rx⟩:=sy r;cases rx;rcases h with⟨hq,q⟩|⟨hq,q⟩
 . obtain⟨its,r',pl,hz⟩:=I.list hq;have hlen:=r'.length;refine call_tuple_list pl.isList (λh' kp=>?_) (by simp only[JD]<;>omega);have I1:Inv X Lv σ H { s with heap:=h' }:=I.kept (t':=s.toks) kp;have I2:Inv X Lv σ (upd H h'.objs.size (.tup ys)) { s with heap:=h'.push { cls:=.type "tuple",data:=.seq its.toArray } } :=
    I1.laid (t':=s.toks) (λb o e=>Jf _ e) (Jk _) (show dc X.prog X.w _ _ _ (.tup ys) from ⟨hz,its,r',IsTup.new _ _⟩)
   exact⟨.ref h'.objs.size,_,I2,rfl,q _ (I1.hok.fresh (Jk _))⟩
 . obtain⟨its,r',pl,hz⟩:=I.tuple hq;exact call_tuple_same pl ⟨.ref p,H,I,rfl,q⟩
def tyV (K:Jh) (T:String) (x:V) (H:Hp):Prop:=match x with
|.str _=>T="str"
|.int _=>T="int"
|.ref p=>(T="list"/\∃ xs,SqL K H p xs)\/(T="tuple"/\∃ o,K.lookup p=dk o/\o.cls=.type "tuple"/\o.dict=Jd) \/
  (T="dict"/\((∃ kvs,H p=dk (.dK kvs))\/∃ kvs,H p=dk (.dT kvs)))\/(T="set"/\∃ S n,H p=dk (.set S n))
|_=>False
def Ff {Lv:List (G' × Ku)}{σ:St}{H:Hp}{s:Jc}{T:String}{x:V}{v:Ja}(I:Inv X Lv σ H s) (r:bX x v) (ty:tyV X.K T x H) :
 s.TypeIs v T/\∀ a,v=.ref a->∃ ob,s.heap.get? a=dk ob/\ob.dict=Jd:=by
 cases x with
|str z =>
  obtain⟨t,rfl⟩:=r;cases (show T="str" from ty);exact⟨typeIs_str s z t,λ_ e=>nomatch e⟩
|int i =>
  obtain⟨t,rfl⟩:=r;cases (show T="int" from ty);exact⟨typeIs_int s i t,λ_ e=>nomatch e⟩
|ref p =>
  cases r;rcases ty with⟨rfl,xs,hq⟩|⟨rfl,o,hk,hc,hd⟩|⟨rfl,hk⟩|⟨rfl,S,n,hk⟩
  . obtain⟨its,_,pl,_⟩:=I.list hq;refine⟨pl.isList.typeIs,λa e=>?_⟩;cases e;obtain⟨o,n,e,c,hd,_⟩:=pl;exact⟨o,e,hd⟩
  . refine⟨⟨o,I.kIn p o hk,hc⟩,λa e=>?_⟩;cases e;exact⟨o,I.kIn _ o hk,hd⟩
  . have z:∃ o,s.heap.get? p=dk o/\o.ExactDict:=by
     rcases hk with⟨kvs,hk⟩|⟨kvs,hk⟩
     . obtain⟨_,_,_,_,o,_,_,e,ex,_⟩:=I.hok p _ hk;exact⟨o,e,ex⟩
     . obtain⟨_,_,_,_,o,_,_,e,ex,_⟩:=I.hok p _ hk;exact⟨o,e,ex⟩
    obtain⟨o,e,ex⟩:=z;refine⟨⟨o,e,ex.1⟩,λa e2=>?_⟩;cases e2;exact⟨o,e,ex.2.1⟩
  . obtain⟨o,_,_,_,e,ex,_⟩:=I.hok p _ hk;refine⟨⟨o,e,ex.1⟩,λa e2=>?_⟩;cases e2;exact⟨o,e,ex.2.1⟩
|_=>exact Kx ty
def tBM (K:Jh) (T:String) (r:V->List V->Hp->VK->Prop) (to:TE) (t:TA):TE:=λσ H Q=>to σ H λx H1=>tyV K T x H1/\t σ H1 λxs H2=>r x xs H2 Q
variable {o e:Expr}{es:List Expr}{to:TE}{t:TA}{name:Str}{apos cpos:Pos}{T id:String}{r:V->List V->Hp->VK->Prop}
def lv (pa:PlainAttrs T) (slot:Slot T name id) (hty:typeOf (.builtin id)=pure (.type "method_descriptor")) (hm:MtR X id r) (ho:PE X o to) (ha:PA X (e :: es) t)
 (hbase:attributeBase o name X.env (eval o X.env)=eval o X.env:=by rfl)
 (hfew:((Le cpos (JL (e :: es) X.env)).all (λx=>!x.1) && (backToKw cpos (keywordEach [] X.env)).all (λx=>x.1.isSome)
  && decide ((e :: es).length+([]:List Keyword).length+(if ([]:List Keyword).isEmpty then 0 else 1) < 30))=D':=by rfl)
 (hline:(apos.endLine == cpos.line)=D':=by rfl) (hs:JL (e :: es) X.env=(j',eval e X.env) :: JL es X.env:=by rfl) (hplain:(Le cpos (JL es X.env)).any (·.1)=j':=by rfl) :
 PE X (.Call (.Attribute o name apos) (e :: es) [] cpos) (tBM X.K T r to t):=by
 intro Lv s σ H Q I h;refine wpAny_Call_method_late hbase hfew hline rfl (thn (ho Lv s σ H _ I h) λv s1 ur32=>?_);obtain⟨x,H1,I1,r1,ty,q1⟩:=ur32;obtain⟨h1,h2⟩:=Ff I1 r1 ty;refine⟨T,id,pa,slot,hty,h1,h2,?_⟩;have hA:=ha cpos Lv s1 σ H1 _ I1 q1;rw[hs]at hA |-;refine K5 (by show (j' || (Le cpos (JL es X.env)).any (·.1))=j';rw[hplain]<;>rfl) (K2 ?_);exact thn hA λus s2 uq9=>by(obtain⟨vs,H2,I2,r2,q2⟩:=uq9;exact hm Lv s2 σ H2 x vs v us Q I2 r1 r2 q2)
end
def MtM (X:Cx) (id:String) (r:V->List V->Hp->VK->Prop):Prop :=
 ∀ (Lv:List (G' × Ku)) (s:Jc) (σ:St) (H:Hp) (x:V) (xs:List V) (v:Ja) (us:List Ja) (Q:VK),Inv X Lv σ H s->bX x v->bE xs us->r x xs H Q ->
  Jo (model X.prog X.w) X.A (call (.builtin id) (v :: us)) (EP X Lv σ Q) X.xe s
def bE.one:∀ {x:V}{us:List Ja},bE [x] us->∃ u,us=[u]/\bX x u
|_,_,.cons r .nil=>⟨_,rfl,r⟩
def bE.zero:∀ {us:List Ja},bE [] us->us=[]
|_,.nil=>rfl
theorem bE.eraseIdx:∀ {xs:List V}{us:List Ja}(i:Nat),bE xs us->bE (xs.eraseIdx i) (us.eraseIdx i)
|_,_,_,.nil=>.nil
|_,_,0,.cons _ t=>t
|_,_,i+1,.cons r t=>.cons r (bE.eraseIdx i t)
theorem sC {α:Type}:∀ (l:List α) (i:Nat),(l.eraseIdx i).length <= l.length
|[],_=>Jk _
|_ :: _,0=>le_succ _
|_ :: r,i+1=>Nat.succ_le_succ (sC r i)
section
variable {X:Cx}{Lv:List (G' × Ku)}{σ:St}{H:Hp}{s:Jc}{l b:G'}{xs ys zs:List V}
def Inv.lset {its its':List Ja}{n:Nat}{f:Array Ja->Array Ja}{t':Nat}(I:Inv X Lv σ H s) (hH:H l=dk (.lst xs))
 (e:s.heap.get? l=dk { cls:=.type "list",data:=.seq its.toArray n }) (hf:f its.toArray=its'.toArray) (hv:bE ys its') (hz:ys.length <= Jm) :
 Inv X Lv σ (upd H l (.lst ys)) { s with heap:=s.heap.update l (Lq f),toks:=t' }:=by
 have q:=PySem.IsL.update e f;rw[hf]at q;refine I.write (x:=l) (e:=l) (by rw[hH];exact trivial) (.inl rfl) (λb' u hb hu=>(JB.get?_update_other s.heap (Lq f) (K9 hb)).trans hu) ⟨_,q⟩ ?_;exact⟨hz,its',_,hv,q⟩
def Inv.lnew {its:List Ja}{t':Nat}(I:Inv X Lv σ H s) (hv:bE ys its) (hz:ys.length <= Jm) :
 Inv X Lv σ (upd H s.heap.objs.size (.lst ys)) { s with heap:=s.heap.push { cls:=.type "list",data:=.seq its.toArray },toks:=t' } :=
 I.laid (λ_ _ q=>Jf _ q) (Jk _) ⟨hz,its,0,hv,Js _ rfl⟩
def Inv.lstM (I:Inv X Lv σ H s) (hH:H l=dk (.lst xs)):xs.length <= Jm/\∃ (its:List Ja) (n:Nat),bE xs its/\xs.length=its.length/\s.heap.get? l=dk { cls:=.type "list",data:=.seq its.toArray n }:=by
 obtain⟨z,its,n,r,e⟩:=I.hok l _ hH;exact⟨z,its,n,r,r.length,e⟩
def AQ {n:Nat}(h:n <= Jm):Builtin.List.listTooLong n=j':=by
 unfold Builtin.List.listTooLong;exact decide_eq_false (by omega)
end
section
variable {X:Cx}
def DY:V->List V->Hp->VK->Prop:=λx vs H Q=>∃ l xs y,x=.ref l/\vs=[y]/\H l=dk (.lst xs)/\xs.length < Jm/\Q .non (upd H l (.lst (xs++[y])))
def dC:MtM X "list.append" DY:=by
 intro Lv s σ H x vs v us Q I rx rv h;obtain⟨l,xs,y,rfl,rfl,hH,hz,q⟩:=h;cases rx;obtain⟨u,rfl,ru⟩:=rv.one;obtain⟨z,its,n,r,hl,e⟩:=I.lstM hH;refine call_meets F.slot_list_append ⟨_,e,rfl⟩ F.entry_list_append (F.args_list_append_2 _ _) (PySem.list_append l its.toArray n u (by rw[JD];omega)) ⟨e,?_⟩;refine⟨.non,_,I.lset (its':=its++[u]) hH e (by simp) (r.append (.cons ru .nil)) ?_,rfl,q⟩;rw[Ji,List.length_singleton];omega
def DX:V->List V->Hp->VK->Prop:=λx vs H Q=>∃ l b xs zs,x=.ref l/\vs=[.ref b]/\H l=dk (.lst xs)/\H b=dk (.lst zs)/\xs.length+zs.length <= Jm/\Q .non (upd H l (.lst (xs++zs)))
def oy:MtM X "list.extend" DX:=by
 intro Lv s σ H x vs v us Q I rx rv h;obtain⟨l,b,xs,zs,rfl,rfl,hH,hB,hz,q⟩:=h;cases rx;obtain⟨u,rfl,ru⟩:=rv.one;cases ru;obtain⟨z,its,n,r,hl,e⟩:=I.lstM hH;obtain⟨z2,its2,n2,r2,hl2,e2⟩:=I.lstM hB;have hsz:its.toArray.size+its2.toArray.size <= Jm:=by rw[JD,JD];omega
 have hlong:¬ (!its.toArray.isEmpty && Builtin.List.listTooLong (its.toArray.size+its2.toArray.size))=D':=by
  rw[AQ hsz,Bool.and_false];exact Jw
 refine call_meets F.slot_list_extend ⟨_,e,rfl⟩ F.entry_list_extend (F.args_list_extend_2 _ _)
  (AutoSeq1.list_extend_list_list_0 l its.toArray n b its2.toArray n2 hlong (by rw[JD];omega) (by omega)) ⟨e,e2,?_⟩
 refine⟨.non,_,I.lset (its':=its++its2) hH e (by simp) (r.append r2) ?_,rfl,q⟩;rw[Ji];omega
def Fo:V->List V->Hp->VK->Prop:=λx vs H Q=>∃ l xs i k y,x=.ref l/\vs=[.int i]/\H l=dk (.lst xs)/\-(2 ^ 63) <= i/\i < 2 ^ 63/\seqIndex? i xs.length=dk k/\xs[k]?=dk y/\Q y (upd H l (.lst (xs.eraseIdx k)))
def rN:MtM X "list.pop" Fo:=by
 intro Lv s σ H x vs v us Q I rx rv h;obtain⟨l,xs,i,k,y,rfl,rfl,hH,h1,h2,hk,hy,q⟩:=h;cases rx;obtain⟨u,rfl,ru⟩:=rv.one;obtain⟨t,rfl⟩:=ru;obtain⟨z,its,n,r,hl,e⟩:=I.lstM hH;obtain⟨w,hw,rw'⟩:=r.get hy;refine call_meets F.slot_list_pop ⟨_,e,rfl⟩ F.entry_list_pop (F.args_list_pop_2 _ _)
  (MeetsSeq.list_pop_at l its.toArray n i t k w (fitsIndex_both h1 h2) (by rw[JD,<-hl];exact hk) (by rw[<-JW];exact hw) (by rw[JD];omega)) ⟨e,?_⟩
 refine⟨y,_,I.lset (its':=its.eraseIdx k) hH e ?_ (r.eraseIdx k) ?_,rw',q⟩
 . show its.toArray.eraseIdxIfInBounds k=(its.eraseIdx k).toArray;rw[List.eraseIdxIfInBounds_toArray]
 . have:=sC xs k;omega
end
section
variable {prog:Jz}{w:Jp}{A:JK}{E:Ja->Jc->Prop}{s:Jc}
set_option maxRecDepth 100000 in
end
section
variable {X:Cx}
end
section
variable {κ:Type} [DecidableEq κ]
def lp (kvs:List (κ × V)) (k:κ):Option V:=(kvs.find? λkv=>decide (kv.1=k)).map (·.2)
def kG (kvs:List (κ × V)) (k:κ) (v:V):List (κ × V) :=
 if (kvs.any λkv=>decide (kv.1=k))=D' then kvs.map (λkv=>if kv.1=k then (kv.1,v) else kv) else kvs++[(k,v)]
def jH (kvs:List (κ × V)) (k:κ):List (κ × V):=kvs.filter λkv=>decide (kv.1≠k)
def wK {k:κ}:lp ([]:List (κ × V)) k=Jd:=rfl
def fV {p:κ × V}{r:List (κ × V)}{k:κ}(e:p.1=k):lp (p :: r) k=dk p.2:=by simp[lp,KW,e]
def ib {p:κ × V}{r:List (κ × V)}{k:κ}(e:¬ p.1=k):lp (p :: r) k=lp r k:=by simp[lp,KW,e]
theorem jx (k:κ):∀ kvs:List (κ × V),(kvs.any λkv=>decide (kv.1=k))=(lp kvs k).isSome
|[]=>rfl
|p :: r=>by
  rw[any_cons];by_cases e:p.1=k
  . simp only[fV e,Pl e,Bool.true_or,isSome_some]
  . rw[ib e,decide_eq_false e,Bool.false_or];exact jx k r
def jV (kvs:List (κ × V)) (k:κ) (v:V):(kG kvs k v).length <= kvs.length+1:=by
 unfold kG;split
 . rw[Ju];omega
 . rw[Ji,JN,length_nil];omega
def wC {kvs:List (κ × V)}{k:κ}(v:V) (h:lp kvs k=Jd):kG kvs k v=kvs++[(k,v)]:=by
 unfold kG;rw[jx,h];exact Ph (by decide)
def su.isSome_eq {o:Option V}{u:Option Ja}(r:su o u):o.isSome=u.isSome:=by
 cases o with
|none=>cases u with
 |none=>rfl
 |some _=>exact(show False from r).elim
|some _=>cases u with
 |none=>exact(show False from r).elim
 |some _=>rfl
def KV.val {kvs:List (κ × V)}{vs:List (κ × Ja)}(r:KV kvs vs) (k:κ):su (lp kvs k) (valueAt vs k):=by
 unfold KV at r
 induction r with
|nil=>exact KQ
|@cons p q ps qs h t ih =>
  obtain⟨h1,h2⟩:=h;by_cases e:p.1=k
  . have e':q.1=k:=h1.symm.trans e;have b:valueAt (q :: qs) k=dk q.2:=by simp[valueAt,KW,e']
    rw[fV e,b];exact h2
  . have e':¬ q.1=k:=λz=>e (h1.trans z)
    have b:valueAt (q :: qs) k=valueAt qs k:=by simp[valueAt,KW,e']
    rw[ib e,b];exact ih
theorem KV.any {kvs:List (κ × V)}{vs:List (κ × Ja)}(r:KV kvs vs) (k:κ):(kvs.any λkv=>decide (kv.1=k))=vs.any λkv=>decide (kv.1=k):=by
 unfold KV at r
 induction r with
|nil=>rfl
|cons h t ih=>rw[any_cons,any_cons,ih,h.1]
def KV.repl {kvs:List (κ × V)}{vs:List (κ × Ja)}(r:KV kvs vs) (k:κ) {y:V}{u:Ja}(ry:bX y u) :
 KV (kvs.map λkv=>if kv.1=k then (kv.1,y) else kv) (vs.map λkv=>if kv.1=k then (kv.1,u) else kv):=by
 unfold KV at r |-
 induction r with
|nil=>exact .nil
|@cons p q ps qs h t ih =>
  rw[Kq,Kq];refine .cons ?_ ih;obtain⟨h1,h2⟩:=h;by_cases e:p.1=k
  . rw[Pg e,Pg (h1.symm.trans e)];exact⟨h1,ry⟩
  . rw[Ph e,Ph (λz=>e (h1.trans z))];exact⟨h1,h2⟩
def KV.put {kvs:List (κ × V)}{vs:List (κ × Ja)}(r:KV kvs vs) (k:κ) {y:V}{u:Ja}(ry:bX y u):KV (kG kvs k y) (stored vs k u):=by
 unfold kG stored;rw[r.any k];by_cases e:(vs.any λkv=>decide (kv.1=k))=D'
 . rw[Pg e,Pg e];exact r.repl k ry
 . rw[Ph e,Ph e];exact JC.snoc r ⟨rfl,ry⟩
def KV.drop {kvs:List (κ × V)}{vs:List (κ × Ja)}(r:KV kvs vs) (k:κ):KV (jH kvs k) (without vs k):=by
 unfold KV at r |-;unfold jH without
 induction r with
|nil=>exact .nil
|@cons p q ps qs h t ih =>
  obtain⟨h1,h2⟩:=h;rw[Lc,Lc];by_cases e:p.1=k
  . have a:¬ decide (p.1≠k)=D':=by simp[e]
    have b:¬ decide (q.1≠k)=D':=by simp[h1.symm.trans e]
    rw[Ph a,Ph b];exact ih
  . have e':¬ q.1=k:=λz=>e (h1.trans z)
    have a:decide (p.1≠k)=D':=by simp[e]
    have b:decide (q.1≠k)=D':=by simp[e']
    rw[Pg a,Pg b];exact .cons ⟨h1,h2⟩ ih
def KV.keys {kvs:List (κ × V)}{vs:List (κ × Ja)}(r:KV kvs vs):kvs.map (·.1)=vs.map (·.1):=by
 unfold KV at r
 induction r with
|nil=>rfl
|cons h t ih=>rw[Kq,Kq,ih,h.1]
theorem KV.length {kvs:List (κ × V)}{vs:List (κ × Ja)}(r:KV kvs vs):kvs.length=vs.length:=JC.length r
def B3 (kvs:List (κ × V)) (k:κ):(jH kvs k).length <= kvs.length:=Ln _ _
end
def sS {P:Jz}{w:Jp}{k:Key}{u:Ja}(r:bX (kV k) u):(b8 P w).is k u=D':=by
 cases k with
|inl i=>obtain⟨t,e⟩:=(show ∃ t,u=Ja.int i t from r);subst e;exact uU P w i t
|inr x=>obtain⟨t,e⟩:=(show ∃ t,u=Ja.str x t from r);subst e;exact vd P w x t
theorem sD {P:Jz}{w:Jp}:∀ {ks:List Key}{us:List Ja},bE (ks.map kV) us->ItemsAre (b8 P w) ks us
|[],_,r=>by rw[map_nil]at r;cases r;exact .nil
|k :: ks,_,r=>by
  rw[Kq]at r;cases r with
 |cons h t=>exact .cons (sS h) (sD t)
abbrev KT (H:Hp):List (List Key × V)->List (List Key × G' × Ja)->Prop:=JC λp q=>p.1=q.1/\H q.2.1=dk (.tup (p.1.map kV))/\bX p.2 q.2.2
def KT.val {H:Hp}{kvs:List (List Key × V)}{xs:List (List Key × G' × Ja)}(r:KT H kvs xs) (k:List Key):su (lp kvs k) ((atKey xs k).map (·.2)):=by
 induction r with
|nil=>exact KQ
|@cons p q ps qs h t ih =>
  obtain⟨h1,_,h2⟩:=h;by_cases e:p.1=k
  . have e':q.1=k:=h1.symm.trans e;have b:atKey (q :: qs) k=dk q.2:=by simp[atKey,KW,e']
    rw[fV e,b];exact h2
  . have e':¬ q.1=k:=λz=>e (h1.trans z)
    have b:atKey (q :: qs) k=atKey qs k:=by simp[atKey,KW,e']
    rw[ib e,b];exact ih
def KT.repl {H:Hp}{kvs:List (List Key × V)}{xs:List (List Key × G' × Ja)}(r:KT H kvs xs) (k:List Key) {y:V}{u:Ja}(ry:bX y u) :
 KT H (kvs.map λkv=>if kv.1=k then (kv.1,y) else kv) (xs.map (putAt k u)):=by
 induction r with
|nil=>exact .nil
|@cons p q ps qs h t ih =>
  rw[Kq,Kq];refine .cons ?_ ih;obtain⟨h1,h2,h3⟩:=h;unfold putAt;by_cases e:p.1=k
  . rw[Pg e,Pg (h1.symm.trans e)];exact⟨h1,h2,ry⟩
  . rw[Ph e,Ph (λz=>e (h1.trans z))];exact⟨h1,h2,h3⟩
def KT.put {H:Hp}{kvs:List (List Key × V)}{xs:List (List Key × G' × Ja)}(r:KT H kvs xs) (k:List Key) {b:G'}{y:V}{u:Ja}(hb:H b=dk (.tup (k.map kV))) (ry:bX y u) :
 KT H (kG kvs k y) (storedH xs k b u):=by
 have e:(kvs.any λkv=>decide (kv.1=k))=(atKey xs k).isSome:=by
  rw[jx,(r.val k).isSome_eq,isSome_map]
 unfold kG storedH;rw[e];by_cases q:(atKey xs k).isSome=D'
 . rw[Pg q,Pg q];exact r.repl k ry
 . rw[Ph q,Ph q];exact JC.snoc r ⟨rfl,hb,ry⟩
def KT.keeps {H H':Hp}{kvs:List (List Key × V)}{xs:List (List Key × G' × Ja)}(r:KT H kvs xs) (ht:∀ b ys,H b=dk (.tup ys)->H' b=dk (.tup ys)):KT H' kvs xs :=
 Paired.mapP r λ_ _ z=>⟨z.1,ht _ _ z.2.1,z.2.2⟩
section
variable {P:Jz}{w:Jp}{H:Hp}{h:JB}{a:G'}
def EZ {u:HO}(ok:HOk P w H h) (e:Rd H a u):dc P w H h a u:=e.ok ok
def xk {kvs:List (Key × V)}(ok:HOk P w H h) (e:Rd H a (.dK kvs)):kvs.length <= Jm/\(a == KA)=j'/\∃ vs,KV kvs vs/\h.DictOf (b8 P w) a vs :=
 show dc P w H h a (.dK kvs) from EZ ok e
def xh {kvs:List (Key × V)}(ok:HOk P w H h) (e:H a=dk (.dK kvs)):kvs.length <= Jm/\(a == KA)=j'/\∃ vs,KV kvs vs/\h.DictOf (b8 P w) a vs:=xk ok (.inl e)
def sF {ks:List Key}(ok:HOk P w H h) (e:H a=dk (.tup (ks.map kV))):(tupleKind (b8 P w)).is h ks a:=by
 obtain⟨_,its,r,o,h1,h2,n,h3⟩:=(show dc P w H h a (.tup (ks.map kV)) from ok a _ e)
 exact⟨o,its.toArray,n,h1,h2,h3,by simpa using sD r⟩
def xH {kvs:List (List Key × V)}(ok:HOk P w H h) (e:Rd H a (.dT kvs)):kvs.length <= Jm/\(a == KA)=j' /\
 ∃ xs,KT H kvs xs/\h.DictOfH (tupleKind (b8 P w)) a xs:=by
 obtain⟨z,y,xs,r,o,es,ep,h1,h2,h3,h4,h5⟩:=(show dc P w H h a (.dT kvs) from EZ ok e)
 refine⟨z,y,xs,r,o,es,ep,h1,h2,h3,h4,λx hx=>?_,h5⟩;have all:∀ {l:List (List Key × V)} {m:List (List Key × G' × Ja)},KT H l m->∀ x∈m,(tupleKind (b8 P w)).is h x.1 x.2.1:=by
  intro l m q
  induction q with
 |nil=>intro x hx;exact nomatch hx
 |@cons p q ps qs hq t ih =>
   intro x hx;rcases JE.mp hx with e|hx
   . subst e;exact sF ok (by rw[<-hq.1];exact hq.2.1)
   . exact ih x hx
 exact all r x hx
def Hk {kvs:List (List Key × V)}(ok:HOk P w H h) (e:H a=dk (.dT kvs)):kvs.length <= Jm/\(a == KA)=j' /\
 ∃ xs,KT H kvs xs/\h.DictOfH (tupleKind (b8 P w)) a xs:=xH ok (.inl e)
end
def pI (H:Hp) (a:G') (y:V) (r:Option V):Prop :=
 (∃ kvs k,Rd H a (.dK kvs)/\y=kV k/\r=lp kvs k)\/∃ kvs k b,Rd H a (.dT kvs)/\y=.ref b/\H b=dk (.tup (k.map kV))/\r=lp kvs k
def Ab (H:Hp) (a:G') (y v:V) (H':Hp):Prop :=
 (∃ kvs k,H a=dk (.dK kvs)/\y=kV k/\kvs.length < Jm/\H'=upd H a (.dK (kG kvs k v))) \/
 ∃ kvs k b,H a=dk (.dT kvs)/\y=.ref b/\H b=dk (.tup (k.map kV))/\kvs.length < Jm/\H'=upd H a (.dT (kG kvs k v))
def pI.k {H:Hp}{a:G'}{kvs:List (Key × V)}{k:Key}(e:H a=dk (.dK kvs)):pI H a (kV k) (lp kvs k):=.inl ⟨kvs,k,.inl e,rfl,rfl⟩
def Ab.k {H:Hp}{a:G'}{kvs:List (Key × V)}{k:Key}{v:V}(e:H a=dk (.dK kvs)) (hl:kvs.length < Jm):Ab H a (kV k) v (upd H a (.dK (kG kvs k v))):=.inl ⟨kvs,k,e,rfl,hl,rfl⟩
section
variable {X:Cx}{Lv:List (G' × Ku)}{σ:St}{H:Hp}{s:Jc}{a:G'}{y v:V}{u r:Ja}{o:Option V}{A:JK}{E:Ja->Jc->Prop}
def Inv.big (I:Inv X Lv σ H s):KA < s.heap.objs.size:=by
 have h:JO < s.heap.objs.size:=(I.mod.glob.keeps I.bk).lt;exact Nat.lt_trans (by decide) h
def y8 {Q:Ja->Jc->Prop}(hu:A.units+1 < Lf) (I:Inv X Lv σ H s) (g:pI H a y (dk v)) (ry:bX y u) (h:∀ w' s',Inv X Lv σ H s'->bX v w'->Q w' s') :
 Jo (model X.prog X.w) A (getItem (.ref a) u) Q E s:=by
 rcases g with⟨kvs,k,e,ey,l⟩|⟨kvs,k,b,e,ey,eb,l⟩
 . subst ey;obtain⟨z,hd,vs,rel,dd⟩:=xk I.hok e;obtain⟨w',hw,rw'⟩:=su.some_of (v:=v) (o:=valueAt vs k) (by rw[l];exact rel.val k);exact wpAny_getItem_of (sS ry) dd.mapOf hw (h w' _ (I.tok _) rw')
 . subst ey;cases (show u=JJ b from ry);obtain⟨z,hd,xs,rel,dd⟩:=xH I.hok e;obtain⟨w',hw,rw'⟩:=su.some_of (v:=v) (o:=(atKey xs k).map (·.2)) (by rw[l];exact rel.val k);obtain⟨p,hp,hp2⟩:=map_eq_some_iff.mp hw;refine wpAny_getItem_heap (tupleKind_room_in1 hu) (sF I.hok eb) dd hp ?_;rw[hp2];exact h w' _ (I.tok _) rw'
def IM {Q:Ja->Jc->Prop}(hu:A.units+1 < Lf) (I:Inv X Lv σ H s) (g:pI H a y o) (ry:bX y u) (h:∀ s',Inv X Lv σ H s'->Q (.bool o.isSome) s') :
 Jo (model X.prog X.w) A (Kw .In u (.ref a)) Q E s:=by
 rcases g with⟨kvs,k,e,ey,l⟩|⟨kvs,k,b,e,ey,eb,l⟩
 . subst ey;obtain⟨z,hd,vs,rel,dd⟩:=xk I.hok e;refine wpAny_in_of (sS ry) hd dd.mapOf ?_;rw[<-(rel.val k).isSome_eq,<-l];exact h _ (I.tok _)
 . subst ey;cases (show u=JJ b from ry);obtain⟨z,hd,xs,rel,dd⟩:=xH I.hok e;refine wpAny_in_heap (tupleKind_room_in1 hu) (sF I.hok eb) hd dd ?_;have q:=(rel.val k).isSome_eq;rw[isSome_map]at q;rw[<-q,<-l];exact h _ (I.tok _)
def Eu {Q:Ja->Jc->Prop}(hu:A.units+1 < Lf) (I:Inv X Lv σ H s) (g:pI H a y o) (ry:bX y u) (h:∀ s',Inv X Lv σ H s'->Q (.bool (!o.isSome)) s') :
 Jo (model X.prog X.w) A (Kw .NotIn u (.ref a)) Q E s:=by
 rcases g with⟨kvs,k,e,ey,l⟩|⟨kvs,k,b,e,ey,eb,l⟩
 . subst ey;obtain⟨z,hd,vs,rel,dd⟩:=xk I.hok e;refine wpAny_notIn_of (sS ry) hd dd.mapOf ?_;rw[<-(rel.val k).isSome_eq,<-l];exact h _ (I.tok _)
 . subst ey;cases (show u=JJ b from ry);obtain⟨z,hd,xs,rel,dd⟩:=xH I.hok e;refine wpAny_notIn_heap (tupleKind_room_in1 hu) (sF I.hok eb) hd dd ?_;have q:=(rel.val k).isSome_eq;rw[isSome_map]at q;rw[<-q,<-l];exact h _ (I.tok _)
def om {h':JB}{t':Nat}{ob:HO}(I:Inv X Lv σ H s) (mu:Mut (H a)) (hs:Kv a s.heap h') (he:∃ q,h'.get? a=dk q) (new:dc X.prog X.w (upd H a ob) h' a ob) :
 Inv X Lv σ (upd H a ob) { s with heap:=h',toks:=t' } :=
 I.write (x:=a) (e:=a) mu (.inl rfl) (λb q hb z=>(hs.2 b hb).trans z) he new
def zm {P:Jz}{w:Jp}{H':Hp}{h':JB}{kvs:List (Key × V)}{vs:List (Key × Ja)}(z:kvs.length <= Jm) (hd:(a == KA)=j') (rel:KV kvs vs) (dd:h'.DictOf (b8 P w) a vs) :
 dc P w H' h' a (.dK kvs):=⟨z,hd,vs,rel,dd⟩
def zX {H':Hp}{Q:Unit->Jc->Prop}(hu:A.units+1 < Lf) (I:Inv X Lv σ H s) (g:Ab H a y v H') (ry:bX y u) (rv:bX v r) (h:∀ s',Inv X Lv σ H' s'->Q () s') :
 Jo (model X.prog X.w) A (setItem (.ref a) u r) Q E s:=by
 rcases g with⟨kvs,k,e,ey,l,eH⟩|⟨kvs,k,b,e,ey,eb,l,eH⟩
 . subst ey eH;obtain⟨z,hd,vs,rel,dd⟩:=xh I.hok e;have hz:vs.length <= Jm:=by rw[<-rel.length];exact z
   have hl:(kG kvs k v).length <= Jm:=by have:=jV kvs k v;omega
   refine wpAny_setItem_pairs (hsz:=hz) (sS ry) dd λh' dd' hs=>h _ ?_
   have he:∃ q,h'.get? a=dk q:=let ⟨q,_,_,hq,_⟩:=dd';⟨q,hq⟩;exact om I (by rw[e];exact KQ) hs he (zm hl hd (rel.put k rv) dd')
 . subst ey eH;cases (show u=JJ b from ry);obtain⟨z,hd,xs,rel,dd⟩:=Hk I.hok e;have hz:xs.length <= Jm:=by rw[<-JC.length rel];exact z
   have hl:(kG kvs k v).length <= Jm:=by have:=jV kvs k v;omega
   refine wpAny_setItem_heap (hsz:=hz) (tupleKind_room_in1 hu) (sF I.hok eb) dd λh' dd' hs=>h _ ?_
   obtain⟨q,es,ep,hq,h2,h3,h4,_,h5⟩:=dd';refine om I (by rw[e];exact KQ) hs ⟨q,hq⟩ ⟨hl,hd,_,(rel.put k eb rv).keeps λc ys ec=>?_,q,es,ep,hq,h2,h3,h4,h5⟩;rw[aa (iB ec e (λz=>nomatch z))];exact ec
end
section
variable {X:Cx}{Lv:List (G' × Ku)}{σ:St}{H:Hp}{s:Jc}{a:G'}{kvs:List (Key × V)}{k:Key}{u:Ja}{A:JK}{E:Ja->Jc->Prop}
def EW {v:V}{more:List Ja}{Q:Ja->Jc->Prop}(I:Inv X Lv σ H s) (e:H a=dk (.dK kvs)) (ry:bX (kV k) u) (l:lp kvs k=dk v) (hm:more=[]\/∃ x,more=[x])
 (h:∀ w' s',Inv X Lv σ (upd H a (.dK (jH kvs k))) s'->bX v w'->Q w' s'):Jo (model X.prog X.w) A (call (.builtin "dict.pop") (.ref a :: u :: more)) Q E s:=by
 obtain⟨z,hd,vs,rel,dd⟩:=xh I.hok e;obtain⟨w',hw,rw'⟩:=su.some_of (v:=v) (o:=valueAt vs k) (by rw[<-l];exact rel.val k);have hp:(keyPart u).isSome=D':=by
  cases k with
 |inl i=>obtain⟨t,q⟩:=(show ∃ t,u=Ja.int i t from ry);subst q;rfl
 |inr x=>obtain⟨t,q⟩:=(show ∃ t,u=Ja.str x t from ry);subst q;rfl
 have ha:argsOk "dict.pop" ⟨.ref a :: u :: more,[]⟩:=by
  rcases hm with q|⟨x,q⟩
  . subst q;exact PySem.F.args_dict_pop_2 _ _
  . subst q;exact PySem.F.args_dict_pop_3 _ _ _
 refine call_meetsIn K' dd.typeIs PySem.F.entry_dict_pop ha (meets_dict_pop_there (b8 X.prog X.w) a (sS ry) more hm hp)
  ⟨vs,w',dd,by rw[<-rel.length];exact z,hw,λh' dd' hs=>h w' _ ?_ rw'⟩
 have he:∃ q,h'.get? a=dk q:=let ⟨q,_,_,hq,_⟩:=dd';⟨q,hq⟩;exact om I (by rw[e];exact KQ) hs he (zm (JU (B3 kvs k) z) hd (rel.drop k) dd')
def FJ {r:Ja}{Q:Ja->Jc->Prop}(I:Inv X Lv σ H s) (e:H a=dk (.dK kvs)) (ry:bX (kV k) u) (l:lp kvs k=Jd) (h:∀ s',Inv X Lv σ H s'->Q r s') :
 Jo (model X.prog X.w) A (call (.builtin "dict.pop") [.ref a,u,r]) Q E s:=by
 obtain⟨z,hd,vs,rel,dd⟩:=xh I.hok e;have hn:valueAt vs k=Jd:=su.none_of (by rw[<-l];exact rel.val k);have hp:(keyPart u).isSome=D':=by
  cases k with
 |inl i=>obtain⟨t,q⟩:=(show ∃ t,u=Ja.int i t from ry);subst q;rfl
 |inr x=>obtain⟨t,q⟩:=(show ∃ t,u=Ja.str x t from ry);subst q;rfl
 exact call_meetsIn K' dd.typeIs PySem.F.entry_dict_pop (PySem.F.args_dict_pop_3 _ _ _) (meets_dict_pop_default (b8 X.prog X.w) a (sS ry) hd hp r) ⟨vs,dd,hn,h _ (I.tok _)⟩
end
def HN (i:Expr):Prop:=∀ ov iv,subscripted i j' ov iv=operate [ov,iv] (getItem ov iv)
def Ds {prog:Jz}{w:Jp}{A:JK}{E:Ja->Jc->Prop}{s:Jc}{env:Env}{value slice:Expr}{pos:Pos}{T id:String}{Q:Ja->Jc->Prop}
 (hl:typeLookup (.type T) "__getitem__"=pure (dk (.builtin id))) (hs:HN slice)
 (h:Jo (model prog w) A (eval value env) (λo s₁=>Jo (model prog w) A (eval slice env) (λi s₂=>s₂.TypeIs o T/\Jo (model prog w) A (getItem o i) Q E s₂) E s₁) E s) :
 Jo (model prog w) A (eval (.Subscript value slice pos) env) Q E s:=by
 refine Subscript_ (Lh h (λo s₁ h₁=>Lh h₁ (λi s₂ h₂=>?_) λ_ _ x=>x) λ_ _ x=>x);obtain⟨hT,h₂⟩:=h₂;unfold subscriptTail;refine f' ?_;rw[getitemInPython_of_ne hT.not_modules];refine f' (wpAny_specialOf hT hl ?_);have fin:Jo (model prog w) A (subscripted slice j' o i) (λr s₃=>Jo (model prog w) A (letTemporaryGo value o r >>= λ_=>pure r) Q E s₃) E s₂:=by
  rw[hs o i];exact wpAny_operating (Lh h₂ (λr s₃ h₃=>f' (wpAny_letTemporaryGo (Jb h₃))) λ_ _ x=>x)
 first
 |exact Jb (f' fin)
 |exact f' (Jb (f' fin))
 |exact f' fin
def uz {X:Cx}{Lv:List (G' × Ku)}{σ:St}{H:Hp}{s:Jc}{a:G'}{y:V}{o:Option V}(I:Inv X Lv σ H s) (g:pI H a y o):s.TypeIs (.ref a) "dict":=by
 rcases g with⟨kvs,k,e,_,_⟩|⟨kvs,k,b,e,_,_,_⟩
 . obtain⟨_,_,vs,_,dd⟩:=xk I.hok e;exact dd.typeIs
 . obtain⟨_,_,xs,_,dd⟩:=xH I.hok e;exact dd.typeIs
def Hq (td ty:TE):TE:=λσ H Q=>td σ H λx H1=>ty σ H1 λy H2=>∃ a v,x=.ref a/\pI H2 a y (dk v)/\Q v H2
def Ii (ty td:TE):TE:=λσ H Q=>ty σ H λy H1=>td σ H1 λx H2=>∃ a o,x=.ref a/\pI H2 a y o/\Q (.bl o.isSome) H2
def Db (ty td:TE):TE:=λσ H Q=>ty σ H λy H1=>td σ H1 λx H2=>∃ a o,x=.ref a/\pI H2 a y o/\Q (.bl (!o.isSome)) H2
def GA (td ty tv:TE):TS:=λD σ H=>tv σ H λv H1=>td σ H1 λx H2=>ty σ H2 λy H3=>∃ a H4,x=.ref a/\Ab H3 a y v H4/\D.nx σ H4
section
variable {X:Cx}{o i e value:Expr}{pos pos' tpos:Pos}{td ty tv:TE}
def kB (hu:X.A.units+1 < Lf) (ho:PE X o td) (hi:PE X i ty) (hs:HN i):PE X (.Subscript o i pos) (Hq td ty):=by
 intro Lv s σ H Q I h;refine Ds PySem.F.slot_dict_getitem.lookup hs (thn (ho Lv s σ H _ I h) λu s1 ⟨x,H1,I1,rx,q1⟩=>thn (hi Lv s1 σ H1 _ I1 q1) λiv s2 ur33=>?_);obtain⟨y,H2,I2,ry,a,v,ex,g,q2⟩:=ur33;subst ex;obtain rfl:u=JJ a:=rx;exact⟨uz I2 g,y8 hu I2 g ry λw' s3 I3 rw'=>⟨v,H2,I3,rw',q2⟩⟩
def Ah (hu:X.A.units+1 < Lf) (hi:PE X i ty) (ho:PE X o td):PC X .In i o (Ii ty td):=by
 intro Lv s σ H Q I h;refine thn (hi Lv s σ H _ I h) λiv s1 ⟨y,H1,I1,ry,q1⟩=>thn (ho Lv s1 σ H1 _ I1 q1) λu s2 ur34=>?_
 obtain⟨x,H2,I2,rx,a,ov,ex,g,q2⟩:=ur34;subst ex;obtain rfl:u=JJ a:=rx;exact IM hu I2 g ry λs3 I3=>⟨.bl ov.isSome,H2,I3,rfl,q2⟩
def j7 (hu:X.A.units+1 < Lf) (hi:PE X i ty) (ho:PE X o td):PC X .NotIn i o (Db ty td):=by
 intro Lv s σ H Q I h;refine thn (hi Lv s σ H _ I h) λiv s1 ⟨y,H1,I1,ry,q1⟩=>thn (ho Lv s1 σ H1 _ I1 q1) λu s2 ur35=>?_
 obtain⟨x,H2,I2,rx,a,ov,ex,g,q2⟩:=ur35;subst ex;obtain rfl:u=JJ a:=rx;exact Eu hu I2 g ry λs3 I3=>⟨.bl (!ov.isSome),H2,I3,rfl,q2⟩
def jY (hu:X.A.units+1 < Lf) (ho:PE X o td) (hi:PE X i ty) (hv:PE X value tv) (hs:swapsWith value (dk (.Subscript o i pos')) pos.line X.env=pure j') :
 PS X (.Assign [.Subscript o i pos'] value pos) (GA td ty tv):=by
 intro Lv s σ H D I h;refine wpAny_Assign_Subscript (thn (hv Lv s σ H _ I h) λr s1 ⟨v,H1,I1,rv,q1⟩=>thn (ho Lv s1 σ H1 _ I1 q1) λu s2 ⟨x,H2,I2,rx,q2⟩=>thn (hi Lv s2 σ H2 _ I2 q2) λiv s3 ur36=>?_) hs;obtain⟨y,H3,I3,ry,a,H4,ex,g,q3⟩:=ur36;subst ex;obtain rfl:u=JJ a:=rx;exact zX hu I3 g ry rv λs4 I4=>⟨σ,H4,I4,q3⟩
end
def wu {P:Jz}{w:Jp}{H:Hp}(h:JB) (hb:KA < h.objs.size):dc P w H (h.push { cls:=.type "dict",data:=.dict #[] }) h.objs.size (.dK []) :=
 ⟨KG _,beq_eq_false_iff_ne.mpr (K9 (JR hb)),[],.nil,JB.DictOf.new h⟩
def Fq:TE:=λ_ H Q=>∀ p,H p=Jd->Q (.ref p) (upd H p (.dK []))
section
variable {X:Cx}{pos:Pos}
def jA:PE X (.Dict [] [] pos) Fq:=λLv s σ H Q I h =>
 wpAny_Dict_empty ⟨.ref s.heap.objs.size,_,I.laid (a:=s.heap.objs.size) (o:=.dK []) (t':=s.toks) (λ_ _ q=>Jf _ q) (Jk _) (wu s.heap I.big),rfl,h _ (I.hok.fresh (Jk _))⟩
end
def zo:List (TE × TE)->St->Hp->(List (V × V)->Hp->Prop)->Prop
|[],_,H,Q=>Q [] H
|(tk,tv) :: r,σ,H,Q=>tk σ H λx H1=>tv σ H1 λy H2=>zo r σ H2 λps H3=>Q ((x,y) :: ps) H3
abbrev VV:List (V × V)->List (Ja × Ja)->Prop:=JC λp q=>bX p.1 q.1/\bX p.2 q.2
def PPs (X:Cx) (pos:Pos) (keys:List (Option Expr)) (values:List Expr) (trs:List (TE × TE)):Prop :=
 ∀ (Lv:List (G' × Ku)) (s:Jc) (σ:St) (H:Hp) (Q:List (V × V)->Hp->Prop),Inv X Lv σ H s->zo trs σ H Q ->
  Jo (model X.prog X.w) X.A (evalPairs (pairTrees keys values X.env pos)) (λvs s'=>∃ ps H',Inv X Lv σ H' s'/\VV ps vs/\Q ps H') X.xe s
def yI {X:Cx}{pos:Pos}:PPs X pos [] [] []:=λLv s σ H Q I h=>pairTrees_nil_walk ⟨[],H,I,.nil,h⟩
def mV {X:Cx}{pos:Pos}{k v:Expr}{ks:List (Option Expr)}{vs:List Expr}{tk tv:TE}{trs:List (TE × TE)}(hk:PE X k tk) (hv:PE X v tv) (hr:PPs X pos ks vs trs) :
 PPs X pos (dk k :: ks) (v :: vs) ((tk,tv) :: trs):=λLv s σ H Q I h =>
 pairTrees_cons_walk (thn (hk Lv s σ H _ I h) λu s1 ⟨x,H1,I1,rx,q1⟩=>thn (hv Lv s1 σ H1 _ I1 q1) λw2 s2 ⟨y,H2,I2,ry,q2⟩ =>
  thn (hr Lv s2 σ H2 _ I2 q2) λws s3 uq10=>by(obtain⟨ps,H3,I3,rel,q3⟩:=uq10;exact ⟨(x,y) :: ps,H3,I3,.cons ⟨rx,ry⟩ rel,q3⟩))
def q9 (kvs more:List (Key × V)):List (Key × V):=more.foldl (λacc kv=>kG acc kv.1 kv.2) kvs
def KV.merge:∀ {more:List (Key × V)}{rs:List (Key × Ja)}{kvs:List (Key × V)}{vs:List (Key × Ja)},KV more rs->KV kvs vs->KV (q9 kvs more) (merged vs rs):=by
 intro more rs kvs vs r;unfold KV at r
 induction r generalizing kvs vs with
|nil=>intro q;exact q
|@cons p q ps qs h t ih =>
  intro r0;have e:KV (kG kvs p.1 p.2) (stored vs q.1 q.2):=by
   have:=r0.put p.1 h.2;rw[<-h.1];exact this
  exact ih e
theorem kH:∀ (more kvs:List (Key × V)),(q9 kvs more).length <= kvs.length+more.length
|[],kvs=>by show kvs.length <= kvs.length+0;omega
|p :: r,kvs=>by
  have h1:=kH r (kG kvs p.1 p.2);have h2:=jV kvs p.1 p.2;show (q9 (kG kvs p.1 p.2) r).length <= _;rw[JN];omega
theorem pR {P:Jz}{w:Jp}:∀ {kvs:List (Key × V)}{ws:List (Ja × Ja)},VV (kvs.map λkv=>(kV kv.1,kv.2)) ws->∃ rs,Carries (b8 P w) ws rs/\KV kvs rs
|[],_,r=>by rw[map_nil]at r;cases r;exact⟨[],KQ,.nil⟩
|p :: kvs,_,r=>by
  rw[Kq]at r;cases r with
 |@cons a b as bs h t =>
   obtain⟨rs,c,q⟩:=pR (P:=P) (w:=w) t;obtain⟨b1,b2⟩:=b;exact⟨(p.1,b2) :: rs,⟨sS h.1,rfl,c⟩,.cons ⟨rfl,h.2⟩ q⟩
def Go (trs:List (TE × TE)):TE:=λσ H Q=>∀ p,H p=Jd->zo trs σ (upd H p (.dK [])) λps H2=>H2 p=dk (.dK [])/\∃ kvs:List (Key × V),ps=kvs.map (λkv=>(kV kv.1,kv.2))/\kvs.length <= 15/\Q (.ref p) (upd H2 p (.dK (q9 [] kvs)))
def yX {X:Cx}{pos:Pos}{keys:List (Option Expr)}{values:List Expr}{trs:List (TE × TE)}(h:PPs X pos keys values trs) (hall:keys.all (·.isSome)=D') (hl:keys.length=values.length) (h0:keys≠[])
 (h15:keys.length <= 15):PE X (.Dict keys values pos) (Go trs):=by
 intro Lv s σ H Q I q;have hn:=I.hok.fresh (Jk s.heap.objs.size);have I1:=I.laid (a:=s.heap.objs.size) (o:=.dK []) (h':=s.heap.push { cls:=.type "dict",data:=.dict #[] }) (t':=s.toks) (λ_ _ q=>Jf _ q) (Jk _) (wu s.heap I.big);refine wpAny_Dict_walk (knd:=b8 X.prog X.w) hall hl h0 h15 (thn (h Lv _ σ _ _ I1 (q _ hn)) λws s2 ur37=>?_);obtain⟨ps,H2,I2,rel,e,kvs,ep,lk,q2⟩:=ur37;subst ep;obtain⟨rs,c,rk⟩:=pR (P:=X.prog) (w:=X.w) rel;obtain⟨z,hd,vs0,r0,dd⟩:=xh I2.hok e;cases r0;refine⟨rs,c,dd,λh' dd' hs=>⟨.ref s.heap.objs.size,_,?_,rfl,q2⟩⟩;have hz:(q9 [] kvs).length <= Jm:=by
  have h1:=kH kvs [];rw[length_nil]at h1;rw[sizeLine_eq];omega
 have he:∃ q,h'.get? s.heap.objs.size=dk q:=let ⟨q,_,_,hq,_⟩:=dd';⟨q,hq⟩;exact om I2 (by rw[e];exact KQ) hs he (zm hz hd (rk.merge .nil) dd')
structure M1 (X:Cx) (o:Expr) (m:Str) (apos:Pos) (e:Expr) (cpos:Pos):Prop where
 base:attributeBase o m X.env (eval o X.env)=eval o X.env
 few:((Le cpos (JL [e] X.env)).all (λx=>!x.1) && (backToKw cpos (keywordEach [] X.env)).all (λx=>x.1.isSome)
  && decide (([e]:List Expr).length+([]:List Keyword).length+(if ([]:List Keyword).isEmpty then 0 else 1) < 30))=D'
 line:(apos.endLine == cpos.line)=D'
 trees:Le cpos (JL [e] X.env)=[(j',eval e X.env)]
structure M2 (X:Cx) (o:Expr) (m:Str) (apos:Pos) (e f:Expr) (cpos:Pos):Prop where
 base:attributeBase o m X.env (eval o X.env)=eval o X.env
 few:((Le cpos (JL [e,f] X.env)).all (λx=>!x.1) && (backToKw cpos (keywordEach [] X.env)).all (λx=>x.1.isSome)
  && decide (([e,f]:List Expr).length+([]:List Keyword).length+(if ([]:List Keyword).isEmpty then 0 else 1) < 30))=D'
 line:(apos.endLine == cpos.line)=D'
 trees:Le cpos (JL [e,f] X.env)=[(j',eval e X.env),(j',eval f X.env)]
def IsD (H:Hp) (a:G'):Prop:=(∃ kvs,Rd H a (.dK kvs))\/∃ kvs,Rd H a (.dT kvs)
def Cj {X:Cx}{Lv:List (G' × Ku)}{σ:St}{H:Hp}{s:Jc}{a:G'}(I:Inv X Lv σ H s) (d:IsD H a) :
 s.TypeIs (.ref a) "dict"/\(∀ b,JJ a=.ref b->∃ ob,s.heap.get? b=dk ob/\ob.dict=Jd)/\(a == KA)=j':=by
 rcases d with⟨kvs,e⟩|⟨kvs,e⟩
 . obtain⟨_,hd,vs,_,dd⟩:=xk I.hok e;refine⟨dd.typeIs,λb q=>?_,hd⟩;cases q;obtain⟨ob,_,_,h1,h2,_⟩:=dd;exact⟨ob,h1,h2.2.1⟩
 . obtain⟨_,hd,xs,_,dd⟩:=xH I.hok e;refine⟨dd.typeIs,λb q=>?_,hd⟩;cases q;obtain⟨ob,_,_,h1,h2,_⟩:=dd;exact⟨ob,h1,h2.2.1⟩
section
variable {X:Cx}{Lv:List (G' × Ku)}{σ:St}{H:Hp}{s:Jc}{a:G'}{y d:V}{u r:Ja}{o:Option V}{A:JK}{E:Ja->Jc->Prop}
end
def G0 (td ty:TE):TE:=λσ H Q=>td σ H λx H1=>∃ a,x=.ref a/\IsD H1 a/\ty σ H1 λy H2=>∃ kvs k v,H2 a=dk (.dK kvs)/\y=kV k/\lp kvs k=dk v/\Q v (upd H2 a (.dK (jH kvs k)))
section
variable {X:Cx}{o e f:Expr}{apos cpos:Pos}{td ty tx:TE}
def l6 (ho:PE X o td) (he:PE X e ty) (m:M1 X o "pop" apos e cpos):PE X (.Call (.Attribute o "pop" apos) [e] [] cpos) (G0 td ty):=by
 intro Lv s σ H Q I h;refine wpAny_Call_method m.base m.few m.line PySem.F.plainAttrs_dict K' PySem.F.type_dict_pop (thn (ho Lv s σ H _ I h) λu s1 ur38=>?_);obtain⟨x,H1,I1,rx,a,ex,d,q1⟩:=ur38;subst ex;obtain rfl:u=JJ a:=rx;obtain⟨t1,t2,_⟩:=Cj I1 d;refine⟨t1,t2,?_⟩;rw[m.trees];refine K5 rfl (K2 (KY (thn (he Lv s1 σ H1 _ I1 q1) λiv s2 ⟨y,H2,I2,ry,kvs,k,v,ea,ey,l,q2⟩=>Calls.spliced_nil ?_)));subst ey;exact EW I2 ea ry l (.inl rfl) λw' s3 I3 rw'=>⟨v,_,I3,rw',q2⟩
end
section
variable {X:Cx}{Lv:List (G' × Ku)}{σ:St}{H:Hp}{s:Jc}{a:G'}{kvs:List (Key × V)}{A:JK}{E:Ja->Jc->Prop}
end
section
variable {X:Cx}{Lv:List (G' × Ku)}{σ:St}{H:Hp}{s:Jc}{a:G'}{y:V}{u:Ja}{A:JK}{E:Ja->Jc->Prop}
end
end L2
namespace Att
open PySem PySem.W PySem.Calls PyProof.Rows
def oI {P:Params}{h:JB}:∀ (ns:List Int) (vs:List Ja),WellAll P h vs (ns.map WData.int)->IntsAre vs ns:=by
 intro ns
 induction ns with
|nil =>
  intro vs w;rw[map_nil]at w;cases w;exact .nil
|cons n ns ih =>
  intro vs w;rw[Kq]at w;cases w with
 |cons a b =>
   cases a;exact .cons _ _ (ih _ b)
def zC {l:OpenLaw}{n:Nat}(hn:l.most=dk n) {P:Params}{h:JB}{args:List WData}{vals:List Ja}
 (hpre:l.row.toRowW.claim.pre args=D') (hwl:WellAll P h vals args) :
 ∃ a vs ns,vals=[JJ a]/\args=[WData.list (ns.map WData.int)]/\h.get? a=dk { cls:=.type "list",data:=.seq vs.toArray }/\IntsAre vs ns/\ns.length <= n:=by
 have hsh:WShape.hasAll [] args [.list .int]=D':=(pre_splitW hpre).1;have hc:l.pre.holds [] { args:=args }=D':=(pre_splitW hpre).2;obtain⟨d,r,rfl,h1,h2⟩:=hasAllW_cons hsh;obtain rfl:=hasAllW_nil h2;obtain⟨xs,rfl,h3⟩:=hasW_list h1;obtain⟨ns,rfl⟩:=items_int h3;have hlen:ns.length <= n:=by
  unfold OpenLaw.pre at hc;have h4:(WTm.not (.lt (.lit (.int (n:Int))) (.len (.arg 0)))).holds [] { args:=[.list (ns.map .int)] }=D':=by
   have h4:=(holds_andW hc).1;rw[hn]at h4;exact h4
  have h5:=condW_of h4 (w_not (w_lt w_lit (w_len_list (w_arg rfl))));rw[Ju]at h5;refine Nat.le_of_not_lt λq=>?_
  have q':(n:Int) < ((ns.length:Nat):Int):=by omega
  first
  |(rw[Pl q']at h5;exact absurd h5 (by decide))
  |(simp at h5;omega)
 cases hwl with
|cons w1 w2 =>
  cases w2;cases w1 with
 |list ho hall=>exact⟨_,_,ns,rfl,rfl,ho,oI ns _ hall,hlen⟩
def yg (l:OpenLaw) (args:List WData):l.row.toRowW.claim.post args (.bool D') args=D' :=
 postW_of (r:=l.row.toRowW) (X:=(D' == D'))
  (show WShape.has [] (.bool D') .bool=D' by first|rfl|decide|simp[WShape.has,WShape.arms,WShape.armsAll])
  (show (WTm.eq .res (.lit (.bool D'))).value [] { args:=args,res:=dk (.bool D'),after:=args }=dk (.bool (D' == D')) from w_eq_bool (w_res rfl) w_lit) rfl
def attach_call {l:OpenLaw}{n:Nat}{q:Jz}{loose:List Str}{XP:(Str->Option Ja)->JB->Prop}{YP:Jp->JB->Prop}{d:DefRec}
 (hn:l.most=dk n) (hdf:d.params.defaults=[])
 (call:∀ (w:Jp) (s₀ s₁:Jc) (mg mb:Str->Option Ja) (fa:G') (o:Ku) (pm cd doc:Ja) (a:G') (vs:List Ja) (ns:List Int),
  Ground q loose [] XP w s₀ mg mb s₁.heap->YP w s₁.heap ->
  s₁.heap.get? fa=dk o->o.data=.func (docDef d.name d.params d.body d.scope pm cd doc)->s₁.heap.CodeRec cd d.name->mg d.name=dk (.ref fa) ->
  s₁.heap.get? a=dk { cls:=.type "list",data:=.seq vs.toArray }->IntsAre vs ns->ns.length <= n->s₁.gens=#[] ->
  codeAny (model l.prog w) callerA (.call (.ref fa) ⟨[.ref a],[]⟩) (λr s'=>r=.ok (.ret (.bool D'))/\OldK s₁.heap s'.heap/\s'.os=s₁.os/\AllBare s'.gens) s₁) :
 WalkO q loose XP YP l.row.toRowW d [] (λf vs=>PySem.call f vs):=by
 intro w s₀ s₁ mg mb G Y fa o pm cd doc dV kV ho hd hcd hD hmg hg args vals as hpre hlay hrd hwl hlo;obtain rfl:dV=.none:=Dflts.none hD hdf;obtain rfl:kV=.none:=Dflts.noKw hD;obtain⟨a,vs,ns,rfl,rfl,hobj,hints,hlen⟩:=zC hn hpre hwl;refine enter_call (codeAny_mono (call w s₀ s₁ mg mb fa o pm cd doc a vs ns G Y ho (fd_plain hd) hcd hmg hobj hints hlen hg) λr s' hq=>?_);obtain⟨rfl,h2,h3,h4⟩:=hq;exact⟨.inl ⟨.bool D',.bool D',[],rfl,λ_=>rfl,.bool D',yg l _,λ_=>⟨Pairwise.nil,λ_ hm=>(nomatch hm)⟩⟩,h2,h3,h4⟩
section
variable {prog:Jz}{w:Jp}{A:JK}{E:Ja->Jc->Prop}{s:Jc}{K:Frag}
def HG (h:JB) (L d:G'):List (G' × Ku):=(Ll h.objs.size).filterMap λa=>if a=L\/a=d then Jd else (h.get? a).map λo=>(a,o)
end
end Att
namespace L2
open PySem PySem.Spec PyProof.Rows
theorem sw:∀ {vs:List Ja}{ns:List Int},IntsAre vs ns->bE (ns.map V.int) vs
|_,_,.nil=>.nil
|_,_,.cons n t h=>.cons ⟨t,rfl⟩ (sw h)
def Hs (H:Hp):Prop:=∀ b,H b=Jd\/∃ o xs,H b=dk (.frz o (.lst xs))
def AK {P:Jz}{w:Jp}{K:Jh}{mg mb:Str->Option Ja}{CX:CXT}{k:Nat}{fa a:G'}{fd:Jq}{x:Str}{sp:Sp}{s₁:Jc}{vs:List Ja}{ns:List Int}
 (KX:K.In s₁.heap) (hns:s₁.heap.Ns JO mg) (hb:s₁.heap.Ns builtinsNs mb) (hbb:∀ x:Str,x≠"__name__"->mb x=Kb x) (hlim:s₁.heap.NoLimit) (hg:s₁.gens=#[])
 (ha:s₁.heap.get? a=dk { cls:=.type "list",data:=.seq vs.toArray }) (hi:IntsAre vs ns) (hl:ns.length <= Jm) (hr:Room k callerA)
 (F:∀ base:JB,K.In base->base.Ns JO mg->FnOk P w K mg base CX k fa fd [x] sp) (hbind:∀ (s:Jc) (u:Ja),BindsTo s fd ⟨[u],[]⟩ [(x,u)])
 (hsp:∀ H:Hp,Hs H->SqL K H a (ns.map V.int)->sp [.ref a] H (λv _=>v=.bl D') λ_ _ _=>False)
 (hCX:∀ H e s',CX [] H s₁ (λ_ _ _=>False) e s'->False) :
 codeAny (model P w) callerA (.call (.ref fa) ⟨[.ref a],[]⟩) (λr s'=>r=.ok (.ret (.bool D'))/\OldK s₁.heap s'.heap/\s'.os=s₁.os/\AllBare s'.gens) s₁:=by
 have rv:=sw hi;have lenV:=hi.length;have core:∀ H:Hp,Hs H->SqL K H a (ns.map V.int)->HOk P w H s₁.heap->(∀ b,H b≠Jd->b=a)->(H a≠Jd->K.lookup a=Jd) ->
  codeAny (model P w) callerA (.call (.ref fa) ⟨[.ref a],[]⟩) (λr s'=>r=.ok (.ret (.bool D'))/\OldK s₁.heap s'.heap/\s'.os=s₁.os/\AllBare s'.gens) s₁:=by
  intro H hO hS hok hA hK;have base_of:∀ {b:G'} {o:Ku},s₁.heap.get? b=dk o->H b=Jd->(Bs s₁.heap H).get? b=dk o:=λe n=>AC e n
  have noA:∀ {b:G'} {o:Ku} {es:Array JM} {ep:Nat},s₁.heap.get? b=dk o->o.data=.dict es ep->H b=Jd:=λ{b o es ep} e d=>by
   cases q:H b with
  |none=>rfl
  |some u =>
    have e':b=a:=hA b (by rw[q];simp);subst e';rw[ha]at e;cases e;have d':Data.seq vs.toArray _=Data.dict es ep:=d;cases d'
  have nsK:∀ {b:G'} {m:Str->Option Ja},s₁.heap.Ns b m->(Bs s₁.heap H).Ns b m:=λ{b m} ⟨o,es,ep,e,d,r⟩=>⟨o,es,ep,base_of e (noA e d),d,r⟩
  have hKb:K.In (Bs s₁.heap H):=λb o e=>base_of (KX b o e) (by
   cases q:H b with
  |none=>rfl
  |some u =>
    have e':b=a:=hA b (by rw[q];simp);subst e';rw[hK (by rw[q];simp)]at e;cases e)
  have hM:Mod K mg (Bs s₁.heap H):=⟨hKb,nsK hns,⟨mb,nsK hb,hbb⟩,let ⟨mc,h1,h2⟩:=hlim;⟨mc,nsK h1,h2⟩⟩
  have e0:Env0 P w K mg (Bs s₁.heap H) callerA [] s₁ H:=⟨rfl,hM,λb o e=>CN e,Nat.le_of_eq (A5 _ _),trivial,λb hb=>absurd (show b∈([]:List G') from hb) (by simp),hok,.of_eq hg⟩
  refine codeAny_mono ((F _ hKb (nsK hns)).run callerA [] s₁ H ⟨[.ref a],[]⟩ [.ref a] [.ref a] _ _ hr e0 (hbind s₁ (.ref a)) (.cons rfl .nil) (hsp H hO hS)) λr s' h=>?_
  cases r with
 |error e=>exact(hCX H e s' h).elim
 |ok fl =>
   cases fl with
  |next=>exact Kx h
  |brk=>exact Kx h
  |cont=>exact Kx h
  |ret u =>
    obtain⟨v,H',os,bare,un,hok',r',q⟩:=h;have q':v=.bl D':=q;subst q';obtain rfl:u=Ja.bool D':=r';refine⟨rfl,OldK.of_keep λb o e=>?_,os,bare⟩;cases q:H b with
   |none=>exact un.keep b o e q (by intro z;exact absurd (show b∈([]:List G') from z) (by simp)) (by simp)
   |some u =>
     rcases hO b with z|⟨ob,xs,z⟩
     . rw[q]at z;cases z
     . have z2:=un.frzs b ob _ z;obtain⟨e1,_⟩:=hok b _ z;obtain⟨e2,_⟩:=hok' b _ z2;rw[e]at e1;cases e1;exact e2
 cases hk:K.lookup a with
|some o =>
  have e:=KX a o hk;rw[ha]at e;cases e;refine core (λ_=>Jd) (λ_=>.inl rfl) (.inr ⟨_,vs.toArray,_,hk,rfl,rfl,rfl,by rw[JD,lenV];exact hl,by simpa using rv⟩) (λb u z=>by have z':(Jd:Option HO)=dk u:=z;cases z') (λb z=>absurd rfl z) λz=>absurd rfl z
|none =>
  refine core (λb=>if b=a then dk (.frz { cls:=.type "list",data:=.seq vs.toArray } (.lst (ns.map V.int))) else Jd) (λb=>?_) (.inl (.inr ⟨{ cls:=.type "list",data:=.seq vs.toArray },Pg rfl⟩)) (λb u z=>?_) (λb z=>?_) λ_=>hk
  . by_cases hb:b=a
    . exact .inr ⟨_,_,Pg hb⟩
    . exact .inl (Ph hb)
  . by_cases hb:b=a
    . have z':=(Pg hb).symm.trans z;cases z';subst hb;exact⟨ha,by rw[Ju];exact hl,vs,_,rv,ha⟩
    . have z':=(Ph hb).symm.trans z;cases z'
  . by_cases hb:b=a
    . exact hb
    . exact absurd (Ph hb) z
def walk_of {l:PySem.W.OpenLaw}{n k:Nat}{q:Jz}{loose:List Str}{XP:(Str->Option Ja)->JB->Prop}{YP:Jp->JB->Prop}{d:DefRec}{K:Params->Jh}{CX:Jp->CXT}{sp:Jp->Sp}{x:Str}
 (hn:l.most=dk n) (hn2:n <= Jm) (hdf:d.params.defaults=[]) (hr:Room k callerA)
 (hY:∀ (w:Jp) (h:JB),YP w h->(K w.params).In h)
 (F:∀ (w:Jp) (mg:Str->Option Ja) (fa:G') (h:JB),(K w.params).In h->h.Ns JO mg->mg d.name=dk (.ref fa) ->
  ∃ fd:Jq,(∀ (s:Jc) (u:Ja),BindsTo s fd ⟨[u],[]⟩ [(x,u)]) /\
   ∀ base:JB,(K w.params).In base->base.Ns JO mg->FnOk l.prog w (K w.params) mg base (CX w) k fa fd [x] (sp w))
 (hsp:∀ (w:Jp) (H:Hp) (a:G') (ns:List Int),ns.length <= n->Hs H->SqL (K w.params) H a (ns.map V.int)->sp w [.ref a] H (λv _=>v=.bl D') λ_ _ _=>False)
 (hCX:∀ (w:Jp) (H:Hp) (s:Jc) (e:Ja) (s':Jc),CX w [] H s (λ_ _ _=>False) e s'->False) :
 PySem.W.WalkO q loose XP YP l.row.toRowW d [] (λf vs=>PySem.call f vs):=by
 refine Att.attach_call hn hdf λw s₀ s₁ mg mb fa o pm cd doc a vs ns G Y ho hd hcd hmg hobj hints hlen hg=>?_
 have KX:=hY w _ Y;obtain⟨fd,hb,hF⟩:=F w mg fa _ KX G.T.g hmg;exact AK KX G.T.g G.T.b G.T.builtins G.T.nolimit hg hobj hints (JU hlen hn2) hr hF hb (λH hO hS=>hsp w H a ns hlen hO hS) λH e s'=>hCX w H s₁ e s'
def ax (s:JT) (j:Nat):JT:=match s with
|.ClassDef _ _ _ body _ _ _ _ _ _ _=>body.getD j (.Pass ⟨0,0,0,0⟩)
|_=>.Pass ⟨0,0,0,0⟩
def fH (s:JT):Arguments:=match s with
|.FunctionDef _ a _ _ _ _ _ _ _ _=>a
|_=>{ posonlyargs:=[],args:=[],vararg:=Jd,kwonlyargs:=[],kw_defaults:=[],kwarg:=Jd,defaults:=[] }
def dY (s:JT):List JT:=match s with
|.FunctionDef _ _ b _ _ _ _ _ _ _=>b
|_=>[]
def af (s:JT):Scope:=match s with
|.FunctionDef _ _ _ _ _ _ sc _ _ _=>sc
|_=>{ kind:=.function,names:=[],isGenerator:=j',isCoroutine:=j' }
abbrev CX0:CXT:=λ_ _ _ _ _ _=>False
abbrev E0:XK:=λ_ _ _=>False
def aq {X:Cx}:jK CX0 X E0:=λ_ _ _ _ _ _ _ h=>h.elim
structure Fun (K:Jh) (x qual:Str) (st:JT) (f:G') (fd:Jq):Prop where
 ex:∃ (oc:Ja) (od:Option G') (kV doc pm:Ja) (an:Option G') (cdv ct:Ja) (osl:Array (Option Ja)),
  fd=fnOf x qual (fH st) (dY st) (af st) .none kV doc pm an cdv ct/\K.lookup f=dk ⟨oc,od,.func fd,osl⟩/\codeIn K cdv qual=D'
 kp:keepIn K (.ref f)=D'
section
variable {P:Jz}{w:Jp}{K:Jh}{mg:Str->Option Ja}{base:JB}
def Fun.ok {x qual:Str}{st:JT}{f:G'}{fd:Jq}{N ps:List Str}{k:Nat}{sp:Sp}(F:Fun K x qual st f fd) (S:FnScope N ps (af st)) (len:∀ vs H Q E,sp vs H Q E->vs.length=ps.length)
 (hbody:∀ (cdv:Ja) (A:JK) (outer:List Env) (s:Jc) (H:Hp) (vs:List V) (Q:VK) (E:XK),Room k (A.deeper (envOfC qual (af st) s.heap.objs.size f cdv))->sp vs H Q E ->
  ∃ t,PSs (Cc CX0 P w K mg base N qual (af st) f cdv A outer s H E).nox (dY st) t/\t { nx:=λ_ H'=>Q .non H',rt:=Q } (rC N vs) H):FnOk P w K mg base CX0 (k+1) f fd ps sp:=by
 obtain⟨oc,od,kV,doc,pm,an,cdv,ct,osl,rfl,lk,hcd⟩:=F.ex;refine Fn lk hcd S len λA outer s H vs Q E hr hsp=>?_
 obtain⟨t,h,q⟩:=hbody cdv A outer s H vs Q E hr hsp;exact⟨t,h.nox,q⟩
def Fun.binds {x qual:Str}{st:JT}{f:G'}{fd:Jq}{ps:List Str}(F:Fun K x qual st f fd)
 (h:∀ (kV doc pm:Ja) (an:Option G') (cdv ct:Ja) (us:List Ja),us.length=ps.length->bindArgs (fnOf x qual (fH st) (dY st) (af st) .none kV doc pm an cdv ct) ⟨us,[]⟩=pure (ps.zip us)):ay K fd ps []:=by
 obtain⟨oc,od,kV,doc,pm,an,cdv,ct,osl,rfl,lk,hcd⟩:=F.ex;exact .all (h kV doc pm an cdv ct)
def fun_mk {x qual:Str}{st:JT}{f:G'}{oc:Ja}{od an:Option G'}{osl:Array (Option Ja)}{kV doc pm cdv ct:Ja}(l:K.lookup f=dk ⟨oc,od,.func (fnOf x qual (fH st) (dY st) (af st) .none kV doc pm an cdv ct),osl⟩)
 (c:codeIn K cdv qual=D') (k:keepIn K (.ref f)=D'):Fun K x qual st f (fnOf x qual (fH st) (dY st) (af st) .none kV doc pm an cdv ct):=⟨⟨oc,od,kV,doc,pm,an,cdv,ct,osl,rfl,l,c⟩,k⟩
end
def dF {A:JK}{k:Nat}(hr:Room k A):A.units+1 < Lf:=Nat.lt_of_le_of_lt (Nat.add_le_add_left (by decide:1 <= 64) _) hr.units
section
variable {X:Cx}
def pv (i:Nat) {x:Str}{pos:Pos}(hN:X.N[i]?=dk x:=by rfl) (hv:Vis X.env.scope x:=by first|exact JQ rfl|exact Or.inr (JQ rfl)|exact Or.inr (Or.inr rfl)) (hd:(x == ("__debug__":Str))=j':=by decide)
 (hcd:(x == ("__classdict__":Str))=j':=by decide):PE X (.Name x pos) (ug i):=F6 hN hv hd hcd
end
def iM {A B:Prop}(h:B):if j'=D' then A else B:=by
 rw[Ph Jw];exact h
def iQ {A B:Prop}(h:A):if D'=D' then A else B:=by
 rw[Pg rfl];exact h
def Gm {c A B:Prop} [Decidable c] (h1:c->A) (h2:¬ c->B):if c then A else B:=by
 by_cases h:c
 . rw[Pg h];exact h1 h
 . rw[Ph h];exact h2 h
def bZ (H H':Hp):Prop:=∀ b o,H b=dk o->H' b=dk o
def bZ.refl (H:Hp):bZ H H:=λ_ _ h=>h
def bZ.trans {H H1 H2:Hp}(a:bZ H H1) (b:bZ H1 H2):bZ H H2:=λc o h=>b c o (a c o h)
def bZ.seq {K:Jh}{H H':Hp}{a:G'}{xs:List V}(e:bZ H H') (h:SqL K H a xs):SqL K H' a xs:=by
 rcases h with (h|⟨o,h⟩)|h
 . exact .inl (.inl (e _ _ h))
 . exact .inl (.inr ⟨o,e _ _ h⟩)
 . exact .inr h
section
variable {X:Cx}
end
section
variable {κ:Type} [DecidableEq κ]
end
def FQ:Kb "int"=dk (.type "int"):=by decide +kernel
def yY:Kb "bool"=dk (.type "bool"):=by decide +kernel
def zb:Kb "list"=dk (.type "list"):=by decide +kernel
def no:Kb "tuple"=dk (.type "tuple"):=by decide +kernel
def FZ:Kb "str"=dk (.type "str"):=by decide +kernel
def vf:Kb "reversed"=dk (.type "reversed"):=by decide +kernel
def cA:Kb "isinstance"=dk (.builtin "isinstance"):=by decide +kernel
def jP:Kb "len"=dk (.builtin "len"):=by decide +kernel
section
variable {X:Cx}
def ez:pe X (.builtin "isinstance") (λxs H Q=>∃ x c t b,xs=[x,V.ty c]/\TyOf X.K H x t/\kitOne X.K t (.type c)=dk b/\Q (.bl b) H):=by
 intro Lv s σ H xs us Q I r h;obtain⟨x,c,t,b,rfl,ty,e,q⟩:=h;obtain⟨u,w',rfl,ru,rw⟩:=FG r;cases rw;exact zQ I ru ty e λtk=>⟨.bl b,H,I.tok _,rfl,q⟩
def GZ (_i j:Int):Prop:=0 < j/\j < 2 ^ 40
def vD:OpR X (binaryOp .FloorDiv) (rI GZ λi j=>.int (i / j)):=opI λi j _ _ _ _ _ hc q=>by
 have h1:(0:Int) < j:=hc.1;have h2:j < 2 ^ 40:=hc.2;refine floordiv_int (by omega) (by rw[Int.fdiv_eq_ediv_of_nonneg i (by omega)];exact q) (.inl (PyProof.noPylong_of_log2 ?_));have h3:j.natAbs≠0:=by omega
 have h4:j.natAbs.log2 < 40:=(Nat.log2_lt h3).mpr (by omega);omega
end
def iR {c A B:Prop} [Decidable c] (hc:c) (h:A):if c then A else B:=by
 rw[Pg hc];exact h
def cR {c A B:Prop} [Decidable c] (hc:¬ c) (h:B):if c then A else B:=by
 rw[Ph hc];exact h
def nB {i j:Int}(h0:0 <= i) (h1:i < 4294967296):Gh i j:=.inl ⟨Int.lt_of_lt_of_le (by decide) h0,Int.lt_trans h1 (by decide)⟩
def ai {H:Hp}{p:G'}{o:HO}(h:H p=Jd):bZ H (upd H p o):=λb u e=>by
 rw[aa (ae e h)];exact e
section
variable {X:Cx}
end
end L2
set_option Elab.async false
set_option maxRecDepth 100000
set_option maxHeartbeats 4000000
namespace MX
open PySem PySem.W
mutual
def kd:Jg->Bool
|.int _=>D'
|.str x=>Kn x
|.tuple xs=>kds xs
|.none=>j'
|.bool _=>j'
|.list _=>j'
|.dict _=>j'
def kds:List Jg->Bool
|[]=>D'
|x :: xs=>kd x && kds xs
end
mutual
def hashD (w:Jp):Jg->Int
|.int i=>hashInt i
|.str x=>hashStr w x
|.tuple xs=>reduceHash (Builtin.Tuple.tupleHashOf (tP w xs))
|.none=>0
|.bool _=>0
|.list _=>0
|.dict _=>0
def tP (w:Jp):List Jg->List Int
|[]=>[]
|x :: xs=>hashD w x :: tP w xs
end
mutual
theorem kd_lay:∀ d:Jg,kd d=D'->d.canLay0=D'
|.int _,_=>rfl
|.str _,h=>h
|.tuple xs,h=>xX xs h
|.none,h=>by cases h
|.bool _,h=>by cases h
|.list _,h=>by cases h
|.dict _,h=>by cases h
theorem xX:∀ xs:List Jg,kds xs=D'->KD xs=D'
|[],_=>rfl
|x :: xs,h=>by
  have h':(kd x && kds xs)=D':=h;rw[Kr]at h';show (x.canLay0 && KD xs)=D';rw[kd_lay x h'.1,xX xs h'.2];rfl
end
def CC {p q:Prop}(h1:¬ p) (h2:¬ q):p ↔ q:=⟨λz=>(h1 z).elim,λz=>(h2 z).elim⟩
mutual
theorem eqv_iff:∀ d e:Jg,kd d=D'->kd e=D'->(Jt d e=D' ↔ d=e)
|.int a,.int b,_,_=>by
  show (a == b)=D' ↔ _;rw[beq_iff_eq];exact⟨λz=>by rw[z],λz=>by injection z⟩
|.str a,.str b,_,_=>by
  show (a == b)=D' ↔ _;rw[beq_iff_eq];exact⟨λz=>by rw[z],λz=>by injection z⟩
|.tuple xs,.tuple ys,h1,h2=>by
  have q:=eqvs_iff xs ys h1 h2;show Jg.eqvAll xs ys=D' ↔ _;rw[q];exact⟨λz=>by rw[z],λz=>by injection z⟩
|.int _,.str _,_,_=>CC (λz=>by cases z) (λz=>by cases z)
|.int _,.tuple _,_,_=>CC (λz=>by cases z) (λz=>by cases z)
|.str _,.int _,_,_=>CC (λz=>by cases z) (λz=>by cases z)
|.str _,.tuple _,_,_=>CC (λz=>by cases z) (λz=>by cases z)
|.tuple _,.int _,_,_=>CC (λz=>by cases z) (λz=>by cases z)
|.tuple _,.str _,_,_=>CC (λz=>by cases z) (λz=>by cases z)
theorem eqvs_iff:∀ xs ys:List Jg,kds xs=D'->kds ys=D'->(Jg.eqvAll xs ys=D' ↔ xs=ys)
|[],[],_,_=>⟨λ_=>rfl,λ_=>rfl⟩
|[],_ :: _,_,_=>CC (λz=>by cases z) (λz=>by cases z)
|_ :: _,[],_,_=>CC (λz=>by cases z) (λz=>by cases z)
|x :: xs,y :: ys,h1,h2=>by
  have h1':(kd x && kds xs)=D':=h1;have h2':(kd y && kds ys)=D':=h2;rw[Kr]at h1' h2';show (Jt x y && Jg.eqvAll xs ys)=D' ↔ _;rw[Kr,eqv_iff x y h1'.1 h2'.1,eqvs_iff xs ys h1'.2 h2'.2];exact⟨λz=>by rw[z.1,z.2],λz=>by injection z with a b;exact⟨a,b⟩⟩
end
section
variable {prog:Jz}{w:Jp}{E:Ja->Jc->Prop}
mutual
theorem uV:∀ (k:Jg) (v:Ja) (as:List G') (A:JK) (s:Jc) (Q:Int->Jc->Prop),kd k=D'->Reads s.heap v k as->A.units+k.depth < Lf ->
 (∀ tk,Q (hashD w k) { s with toks:=tk })->Jo (model prog w) A (pyHash v) Q E s
|.int i,_,_,A,s,Q,_,x,_,h=>by cases x;exact wpAny_pyHash_int (h _)
|.str y,_,_,A,s,Q,_,x,_,h=>by cases x;exact wpAny_pyHash_str (h _)
|.tuple xs,_,_,A,s,Q,hk,x,hu,h=>by
  cases x with
 |@tuple a o vs n _ _ hg hc hdt hw =>
   refine pyHash_slot (T:="tuple") ⟨_,hg,hc⟩ F.slot_tuple_hash F.entry_tuple_hash (F.args_tuple_hash_1 _) (beq_builtin_none _) (.inr (Nat.lt_of_le_of_lt (Nat.le_add_right _ _) hu)) ?_;show Jo _ _ (Builtin.Tuple.tupleItemsOf (.ref a) >>= _) _ _ s;refine f' (wpAny_tupleItemsOf hg hdt (f' ?_));rw[<-Array.forIn_toList];refine wB xs _ _ A.in1 s #[] _ hk hw (by simp only[Jg.depth,JK.in1_units]at hu |-;omega) λtk b hb=>?_
   show Jo _ _ (retInt (Builtin.Tuple.tupleHashOf b.toList)) _ _ _;rw[hb];exact f' (wpAny_mkInt (Jb ⟨_,_,rfl,h _⟩))
|.none,_,_,_,_,_,h,_,_,_=>by cases h
|.bool _,_,_,_,_,_,h,_,_,_=>by cases h
|.list _,_,_,_,_,_,h,_,_,_=>by cases h
|.dict _,_,_,_,_,_,h,_,_,_=>by cases h
theorem wB:∀ (xs:List Jg) (vs:List Ja) (as:List G') (A:JK) (s:Jc) (b:Array Int) (Q:Array Int->Jc->Prop),kds xs=D'->ReadsAll s.heap vs xs as->A.units+La xs < Lf ->
 (∀ tk b',b'.toList=b.toList++tP w xs->Q b' { s with toks:=tk }) ->
 Jo (model prog w) A (forIn vs b λx r=>do let h <-pyHash x;pure PUnit.unit;pure (ForInStep.yield (r.push h))) Q E s
|[],_,_,A,s,b,Q,_,x,_,h=>by cases x;exact Jb (h s.toks b (by simp[tP]))
|k :: xs,_,_,A,s,b,Q,hk,x,hu,h=>by
  cases x with
 |cons x1 x2 =>
   have hk':(kd k && kds xs)=D':=hk;rw[Kr]at hk';simp only[La]at hu;rw[forIn_cons];refine f' (f' (uV k _ _ A s _ hk'.1 x1 (by omega) λtk=>f' (Jb (Jb ?_))));exact wB xs _ _ A _ _ Q hk'.2 x2 (by omega) λtk' b' hb=>h tk' b' (by simp[hb,tP])
end
def w6:∀ (n:Nat) (k:Jg) (v:Ja) (as:List G') (A:JK) (s:Jc) (Q:Bool->Jc->Prop),kd k=D'->Reads s.heap v k as->k.depth <= n ->
 Q D' s->Jo (model prog w) A (eqIsQuiet n v) Q E s:=by
 intro n
 induction n with
|zero =>
  intro k v as A s Q hk x hu h;cases x with
 |int i t=>rw[eqIsQuiet_byValue 0 rfl];exact Jb h
 |str i t=>rw[eqIsQuiet_byValue 0 rfl];exact Jb h
 |tuple=>simp only[Jg.depth]at hu;omega
 |none=>cases hk
 |bool=>cases hk
 |list=>cases hk
 |dict=>cases hk
|succ n ih =>
  intro k v as A s Q hk x hu h;cases x with
 |int i t=>rw[eqIsQuiet_byValue _ rfl];exact Jb h
 |str i t=>rw[eqIsQuiet_byValue _ rfl];exact Jb h
 |none=>cases hk
 |bool=>cases hk
 |list=>cases hk
 |dict=>cases hk
 |@tuple a o vs m xs _ hg hc hdt hw =>
   have hT:s.TypeIs (.ref a) "tuple":=⟨_,hg,hc⟩
   unfold eqIsQuiet;refine f' (wpAny_specialOf hT F.slot_tuple_eq.lookup ?_);show Jo _ _ (isInstance (.ref a) (.type "tuple") >>= _) _ _ s;refine f' (wpAny_isInstance hT isSubtype_tuple_tuple ?_);simp only[Bool.not_true,JP,if_false];refine f' (K8 hg hdt (f' ?_));show Jo _ _ (forIn vs _ _) _ _ s;rw[<-Array.forIn_toList];refine wpAny_forIn_list _ (λc8 r s'=>r.1=Jd/\s'=s/\∃ ys bs,ReadsAll s.heap c8 ys bs/\kds ys=D'/\La ys <= n) _ ?_ ?_ _ _
    ⟨rfl,rfl,xs,_,hw,hk,by simp only[Jg.depth]at hu;omega⟩
   . rintro y c8 r s' ⟨hr,rfl,ys,bs,rd,hks,hdp⟩;cases rd with
    |@cons _ _ d ds _ _ r1 r2 =>
      have hks':(kd d && kds ds)=D':=hks;rw[Kr]at hks';simp only[La]at hdp;refine f' (ih d _ _ A _ _ hks'.1 r1 (by omega) ?_);simp only[Bool.not_true,JP,if_false];exact Jb ⟨rfl,rfl,ds,_,r2,hks'.2,by omega⟩
   . rintro⟨r1,r2⟩ s' ⟨hr,rfl,_⟩;simp only at hr;subst hr;exact Jb h
def Ent (w:Jp) (h:JB) (k:Jg) (e:JM):Prop:=kd k=D'/\k.depth <= 8/\(∃ as,Reads h e.key k as)/\e.hash=hashD w k
def Ask (h:JB) (k:Jg) (v:Ja):Prop:=kd k=D'/\k.depth <= 8/\(∃ as,Reads h v k as)/\((∃ x t,v=.str x t)\/∃ a,v=.ref a)
abbrev Ents (w:Jp) (h:JB) (ks:List Jg) (es:List JM):Prop:=JC (Ent w h) ks es
theorem f2_get {α β:Type}{R:α->β->Prop}:∀ {xs:List α}{ys:List β},JC R xs ys->∀ (j:Nat) (y:β),ys[j]?=dk y->∃ x,xs[j]?=dk x/\R x y
|_,_,.nil,j,y,h=>by simp at h
|_,_,.cons r t,0,y,h=>by simp at h;subst h;exact⟨_,rfl,r⟩
|_,_,.cons r t,j+1,y,h=>by
  obtain⟨x,e,q⟩:=f2_get t j y (by simpa using h);exact⟨x,by simpa using e,q⟩
theorem uw {α β:Type}{R:α->β->Prop}:∀ {xs:List α}{ys:List β},JC R xs ys->∀ (j:Nat) (x:α),xs[j]?=dk x->∃ y,ys[j]?=dk y/\R x y
|_,_,.nil,j,y,h=>by simp at h
|_,_,.cons r t,0,y,h=>by simp at h;subst h;exact⟨_,rfl,r⟩
|_,_,.cons r t,j+1,y,h=>by
  obtain⟨x,e,q⟩:=uw t j y (by simpa using h);exact⟨x,by simpa using e,q⟩
def wZ {n:Nat}{f:Nat->Option Int}{h:Int}{j:Nat}(hj:j < n) (e:f j=dk h):j∈Kj n f h:=by
 unfold Kj;exact Ls.mpr ⟨mem_range.mpr hj,by rw[e];simp⟩
def o5 {n:Nat}{f:Nat->Option Int}{h:Int}{j:Nat}(hj:j∈Kj n f h):j < n:=by
 unfold Kj at hj;exact mem_range.mp (Ls.mp hj).1
def sx {n:Nat}{f:Nat->Option Int}{h:Int}:(Kj n f h).Nodup:=by
 unfold Kj;exact Nodup.sublist List.filter_sublist List.nodup_range
def G3 {α:Type}{xs:List α}(hn:xs.Nodup) {i j:Nat}{k:α}(hi:xs[i]?=dk k) (hj:xs[j]?=dk k):i=j :=
 (List.getElem?_inj (Jy.mp hi).1 hn).mp (hi.trans hj.symm)
variable {A:JK}{s:Jc}
def Ca {d:G'}{o:Ku}{es:Array JM}{ep:Nat}{ks:List Jg}{k:Jg}{key:Ja}{Q:Option Nat->Jc->Prop}(hu:A.units+8 < Lf) (hk:Ask s.heap k key)
 (ho:s.heap.get? d=dk o) (hd:o.data=.dict es ep) (hes:Ents w s.heap ks es.toList) (hn:ks.Nodup) (hnone:k ∉ ks->Q Jd s) (hsome:∀ j:Nat,ks[j]?=dk k->Q (dk j) s) :
 Jo (model prog w) A (dictFind d key (hashD w k)) Q E s:=by
 obtain⟨kk,kdp,⟨as,kr⟩,ksh⟩:=hk;have hget:∀ (j:Nat) (e:JM),es[j]?=dk e->∃ k',ks[j]?=dk k'/\Ent w s.heap k' e:=λj e h=>f2_get hes j e (by rw[JW];exact h)
 have hget':∀ (j:Nat) (k':Jg),ks[j]?=dk k'->∃ e,es[j]?=dk e/\Ent w s.heap k' e:=λj k' h=>by
  obtain⟨e,h1,h2⟩:=uw hes j k' h;exact⟨e,by rw[<-JW];exact h1,h2⟩
 have hplace:∀ j:Nat,ks[j]?=dk k->j∈Kj es.size (λi=>es[i]?.map (·.hash)) (hashD w k):=λj h=>by
  obtain⟨e,h1,_,_,_,h2⟩:=hget' j k h;exact wZ (Array.getElem?_eq_some_iff.mp h1).1 (by rw[h1,<-h2];rfl)
 have heq:∀ (k':Jg) (e:JM) (R:Bool->Jc->Prop),Ent w s.heap k' e->(k'=k->R D' s)->(k'≠k->R j' s)->Jo (model prog w) A (eqBool e.key key) R E s:=λk' e R h h1 h2=>by
  obtain⟨ek,ed,⟨bs,er⟩,_⟩:=h;refine SeqAt.eqAt_reads k' k A s _ _ _ _ er kr (kd_lay _ ek) (kd_lay _ kk) (by omega) prog w E R ?_;by_cases z:k'=k
  . rw[(eqv_iff k' k ek kk).mpr z];exact h1 z
  . have:Jt k' k=j':=by
     cases q:Jt k' k with
    |false=>rfl
    |true=>exact absurd ((eqv_iff k' k ek kk).mp q) z
    rw[this];exact h2 z
 have none_of:(∀ j:Nat,ks[j]?=dk k->j∈([]:List Nat))->Q Jd s:=λh=>hnone λm=>by
  obtain⟨j,hj⟩:=List.mem_iff_getElem?.mp m;exact absurd (h j hj) (by simp)
 have plain:Jo (model prog w) A (dictWalkPlain d key (hashD w k) es (Kj es.size (λi=>es[i]?.map (·.hash)) (hashD w k))) Q E s:=by
  refine f' ?_;refine wpAny_forIn_list _ (λc8 b s'=>s'=s/\b=(Jd,())/\(∀ j:Nat,ks[j]?=dk k->j∈c8)/\∀ j∈c8,j < es.size) _ ?_ ?_ _ _ ⟨rfl,rfl,hplace,λj=>o5⟩
  . rintro x c8 b s' ⟨rfl,rfl,hin,hlt⟩;have hx:=hlt x Jx;have hlt':∀ j∈c8,j < es.size:=λj hj=>hlt j (Jv _ hj)
    obtain⟨k',hk',he⟩:=hget x es[x] (JG hx);have next:k'≠k->∀ j:Nat,ks[j]?=dk k->j∈c8:=λz j hj=>by
     rcases JE.mp (hin j hj) with q|q
     . subst q;rw[hk']at hj;exact absurd (JF hj) z
     . exact q
    simp only[JG hx];by_cases hh:(es[x].hash == hashD w k)=D'
    . rw[Pg hh];refine f' (Ky ho hd (f' (heq k' es[x] _ he (λz=>f' (Ky ho hd ?_)) (λz=>f' (Ky ho hd ?_)))))
      . show Jo _ _ (if (ep != ep)=D' then _ else _) _ E _;rw[Ph (by simp)];exact f' (KC (Jb (Jb (hsome x (z ▸ hk')))))
      . show Jo _ _ (if (ep != ep)=D' then _ else _) _ E _;rw[Ph (by simp)];exact f' (KC (Jb ⟨rfl,rfl,next z,hlt'⟩))
    . rw[Ph hh];refine Jb ⟨rfl,rfl,next λz=>hh ?_,hlt'⟩;rw[he.2.2.2,z];simp
  . rintro b s' ⟨rfl,rfl,hin,_⟩;exact Jb (none_of hin)
 have hstored:∀ v∈(Kj es.size (λi=>es[i]?.map (·.hash)) (hashD w k)).filterMap (λi=>es[i]?.map (·.key)),∃ k' bs,kd k'=D'/\k'.depth <= 8/\Reads s.heap v k' bs:=λv hv=>by
  obtain⟨i,_,hi⟩:=mem_filterMap.mp hv;cases q:es[i]? with
 |none=>rw[q]at hi;cases hi
 |some e =>
   rw[q]at hi;have z:e.key=v:=by simpa using hi
   obtain⟨k',_,h1,h2,⟨bs,h3⟩,_⟩:=hget i e q;exact⟨k',bs,h1,h2,z ▸ h3⟩
 have htell:∀ (R:Bool->Jc->Prop),R j' s->Jo (model prog w) A (tableMayTell key ((Kj es.size (λi=>es[i]?.map (·.hash)) (hashD w k)).filterMap (λi=>es[i]?.map (·.key)))) R E s:=λR h=>by
  unfold tableMayTell;split
  . exact Jb h
  . refine f' (w6 8 k key _ A s _ kk kr kdp ?_);simp only[Bool.not_true,JP,if_false];refine f' ?_;refine wpAny_forIn_list _ (λc8 r s'=>s'=s/\r=(Jd,())/\∀ v∈c8,∃ k' bs,kd k'=D'/\k'.depth <= 8/\Reads s.heap v k' bs) _ ?_ ?_ _ _ ⟨rfl,rfl,hstored⟩
    . rintro x c8 r s' ⟨rfl,rfl,hr⟩;obtain⟨k',bs,h1,h2,h3⟩:=hr x Jx;refine f' (w6 8 k' x _ A _ _ h1 h3 h2 ?_);simp only[Bool.not_true,JP,if_false];exact Jb ⟨rfl,rfl,λv hv=>hr v (Jv _ hv)⟩
    . rintro r s' ⟨rfl,rfl,_⟩;exact Jb h
 have hany:∀ a:G',key=.ref a->¬ (es.any λe=>e.key == JJ a && e.hash != hashD w k)=D':=by
  rintro a rfl h;rw[<-Array.any_toList,any_eq_true]at h;obtain⟨e,hin,hc⟩:=h;obtain⟨j,hj⟩:=List.mem_iff_getElem?.mp hin;obtain⟨k',hk',h1,h2,⟨bs,h3⟩,h4⟩:=hget j e (by rw[<-JW];exact hj);rw[Kr]at hc;have z1:e.key=.ref a:=beq_iff_eq.mp hc.1;rw[z1]at h3;have z2:=SeqAt.Reads.unique k' k _ _ _ (kd_lay _ h1) h3 kr;rw[h4,z2]at hc;simp at hc
 unfold dictFind;refine Kg ?_;refine f' (wpAny_dictEntries ho hd ?_);dsimp only;rcases ksh with⟨x,t,rfl⟩|⟨a,rfl⟩
 . dsimp only;by_cases hstr:(es.all λe=>isExactStrKey e.key)=D'
   . rw[Pg hstr];unfold foundByValue;have kx:k=.str x:=by cases kr;rfl
     have hkey:∀ (j:Nat) (e:JM),es[j]?=dk e->∃ k',ks[j]?=dk k'/\Ent w s.heap k' e/\(e.key.isStr x=D' ↔ k'=k):=λj e h=>by
      obtain⟨k',h1,h2⟩:=hget j e h;refine⟨k',h1,h2,?_⟩;have hs:isExactStrKey e.key=D':=by
       have q:=Array.all_eq_true.mp hstr;obtain⟨hl,he⟩:=Array.getElem?_eq_some_iff.mp h;have:=q j hl;rw[he]at this;exact this
      obtain⟨_,_,⟨bs,h3⟩,_⟩:=h2;cases hv:e.key with
     |str y u =>
       rw[hv]at h3;cases h3;show (y == x)=D' ↔ _;rw[kx,beq_iff_eq];exact⟨λz=>by rw[z],λz=>by injection z⟩
     |_=>rw[hv]at hs;cases hs
     cases hf:es.findIdx? (λe=>e.key.isStr x) with
    |none =>
      refine Jb (hnone λm=>?_);obtain⟨j,hj⟩:=List.mem_iff_getElem?.mp m;obtain⟨e,he,_⟩:=hget' j k hj;obtain⟨k',h1,_,h2⟩:=hkey j e he;rw[hj]at h1;have h3:=Array.findIdx?_eq_none_iff.mp hf e (Array.mem_of_getElem? he);rw[h2.mpr (JF h1).symm]at h3;cases h3
    |some i =>
      obtain⟨hlt,hi,_⟩:=Array.findIdx?_eq_some_iff_getElem.mp hf;obtain⟨k',h1,h2,h3⟩:=hkey i es[i] (JG hlt);have z:k'=k:=h3.mp hi;simp only[JG hlt];refine f' (Ky ho hd (f' (heq k' es[i] _ h2 (λ_=>f' (Ky ho hd ?_)) (λq=>absurd z q))));rw[Ph (by simp)];simp only[if_true];exact f' (KC (Jb (hsome i (z ▸ h1))))
   . rw[Ph hstr];by_cases hall:((Ja.str x t :: (Kj es.size (λi=>es[i]?.map (·.hash)) (hashD w k)).filterMap (λi=>es[i]?.map (·.key))).all carriedByValue)=D'
     . rw[Pg hall];exact plain
     . rw[Ph hall];by_cases hone:(((Kj es.size (λi=>es[i]?.map (·.hash)) (hashD w k)).filterMap (λi=>es[i]?.map (·.key))) == [Ja.str x t])=D'
       all_goals
        first
        |(rw[Pg hone];refine f' (Jb ?_))
        |(rw[Ph hone];refine f' (htell _ ?_))
        rw[Ph (by simp)];refine f' (wpAny_forIn_list _ (λc8 b s'=>s'=s/\∃ hit,b=(Jd,hit)/\((hit=Jd/\∀ j:Nat,ks[j]?=dk k->j∈c8)\/∃ j,hit=dk j/\ks[j]?=dk k/\j ∉ c8)/\(∀ j∈c8,j < es.size)/\c8.Nodup) _ ?_ ?_ _ _
         ⟨rfl,Jd,rfl,.inl ⟨rfl,hplace⟩,λj=>o5,sx⟩)
        . rintro x c8 b s' ⟨rfl,hit,rfl,hin,hlt,hnd⟩;have hx:=hlt x Jx;have hlt':∀ j∈c8,j < es.size:=λj hj=>hlt j (Jv _ hj)
          obtain⟨hxr,hnd'⟩:=K7.mp hnd;obtain⟨k',hk',he⟩:=hget x es[x] (JG hx);have next:k'≠k->((hit=Jd/\∀ j:Nat,ks[j]?=dk k->j∈c8)\/∃ j,hit=dk j/\ks[j]?=dk k/\j ∉ c8):=λz=>by
           rcases hin with⟨h0,hin⟩|⟨j,h0,hj,hjr⟩
           . refine .inl ⟨h0,λj hj=>?_⟩;rcases JE.mp (hin j hj) with q|q
             . subst q;rw[hk']at hj;exact absurd (JF hj) z
             . exact q
           . exact .inr ⟨j,h0,hj,λq=>hjr (Jv _ q)⟩
          simp only[JG hx];by_cases hh:(es[x].hash == hashD w k)=D'
          . rw[Pg hh];refine f' (Ky ho hd (f' (heq k' es[x] _ he (λz=>f' (Ky ho hd ?_)) (λz=>f' (Ky ho hd ?_)))))
            . rw[Ph (by simp)];have hkx:ks[x]?=dk k:=z ▸ hk';rcases hin with⟨rfl,hin⟩|⟨j,_,hj,hjr⟩
              . simp only[isSome_none,JP,if_false,if_true];refine f' (KC ?_);split
                . exact Jb (Jb (hsome x hkx))
                . exact Jb ⟨rfl,dk x,rfl,.inr ⟨x,rfl,hkx,hxr⟩,hlt',hnd'⟩
              . exact absurd (G3 hn hj hkx ▸ Jx) hjr
            . rw[Ph (by simp)];simp only[JP,if_false];refine f' (KC ?_)
              try rw[Ph (by simp)]
              exact Jb ⟨rfl,hit,rfl,next z,hlt',hnd'⟩
          . rw[Ph hh];refine Jb ⟨rfl,hit,rfl,next λz=>hh ?_,hlt',hnd'⟩;rw[he.2.2.2,z];simp
        . rintro b s' ⟨rfl,hit,rfl,hin,_⟩;rcases hin with⟨rfl,hin⟩|⟨j,rfl,hj,_⟩
          . exact Jb (none_of hin)
          . exact Jb (hsome j hj)
 . dsimp only;rw[Ph (show ¬ ((JJ a :: (Kj es.size (λi=>es[i]?.map (·.hash)) (hashD w k)).filterMap (λi=>es[i]?.map (·.key))).all carriedByValue)=D' from by simp[carriedByValue]),Ph (hany a rfl)];by_cases hone:(((Kj es.size (λi=>es[i]?.map (·.hash)) (hashD w k)).filterMap (λi=>es[i]?.map (·.key))) == [JJ a])=D'
   all_goals
    first
    |(rw[Pg hone];refine f' (Jb ?_))
    |(rw[Ph hone];refine f' (htell _ ?_))
    rw[Ph (by simp)];refine f' (wpAny_forIn_list _ (λc8 b s'=>s'=s/\∃ hit,b=(Jd,hit)/\((hit=Jd/\∀ j:Nat,ks[j]?=dk k->j∈c8)\/∃ j,hit=dk j/\ks[j]?=dk k/\j ∉ c8)/\(∀ j∈c8,j < es.size)/\c8.Nodup) _ ?_ ?_ _ _
     ⟨rfl,Jd,rfl,.inl ⟨rfl,hplace⟩,λj=>o5,sx⟩)
    . rintro x c8 b s' ⟨rfl,hit,rfl,hin,hlt,hnd⟩;have hx:=hlt x Jx;have hlt':∀ j∈c8,j < es.size:=λj hj=>hlt j (Jv _ hj)
      obtain⟨hxr,hnd'⟩:=K7.mp hnd;obtain⟨k',hk',he⟩:=hget x es[x] (JG hx);have next:k'≠k->((hit=Jd/\∀ j:Nat,ks[j]?=dk k->j∈c8)\/∃ j,hit=dk j/\ks[j]?=dk k/\j ∉ c8):=λz=>by
       rcases hin with⟨h0,hin⟩|⟨j,h0,hj,hjr⟩
       . refine .inl ⟨h0,λj hj=>?_⟩;rcases JE.mp (hin j hj) with q|q
         . subst q;rw[hk']at hj;exact absurd (JF hj) z
         . exact q
       . exact .inr ⟨j,h0,hj,λq=>hjr (Jv _ q)⟩
      simp only[JG hx];by_cases hh:(es[x].hash == hashD w k)=D'
      . rw[Pg hh];refine f' (Ky ho hd (f' (heq k' es[x] _ he (λz=>f' (Ky ho hd ?_)) (λz=>f' (Ky ho hd ?_)))))
        . rw[Ph (by simp)];have hkx:ks[x]?=dk k:=z ▸ hk';rcases hin with⟨rfl,hin⟩|⟨j,_,hj,hjr⟩
          . simp only[isSome_none,JP,if_false,if_true];refine f' (KC ?_);split
            . exact Jb (Jb (hsome x hkx))
            . exact Jb ⟨rfl,dk x,rfl,.inr ⟨x,rfl,hkx,hxr⟩,hlt',hnd'⟩
          . exact absurd (G3 hn hj hkx ▸ Jx) hjr
        . rw[Ph (by simp)];simp only[JP,if_false];refine f' (KC ?_)
          try rw[Ph (by simp)]
          exact Jb ⟨rfl,hit,rfl,next z,hlt',hnd'⟩
      . rw[Ph hh];refine Jb ⟨rfl,hit,rfl,next λz=>hh ?_,hlt',hnd'⟩;rw[he.2.2.2,z];simp
    . rintro b s' ⟨rfl,hit,rfl,hin,_⟩;rcases hin with⟨rfl,hin⟩|⟨j,rfl,hj,_⟩
      . exact Jb (none_of hin)
      . exact Jb (hsome j hj)
def DictE (h:JB) (d:G') (es:List JM) (ep:Nat):Prop:=∃ o,h.get? d=dk o/\o.ExactDict/\o.data=.dict es.toArray ep
def jh (h:JB) (d:G') (es:List JM):Prop:=∃ o ep,h.get? d=dk o/\o.ExactDict/\o.data=.dict es.toArray ep
def jh.ep {h:JB}{d:G'}{es:List JM}(x:jh h d es):∃ ep,DictE h d es ep:=let ⟨o,ep,e⟩:=x;⟨ep,o,e⟩
def DictE.es {h:JB}{d:G'}{es:List JM}{ep:Nat}(x:DictE h d es ep):jh h d es:=let ⟨o,e⟩:=x;⟨o,ep,e⟩
def jh.typeIs {s:Jc}{d:G'}{es:List JM}(x:jh s.heap d es):s.TypeIs (.ref d) "dict":=let ⟨o,_,ho,hc,_⟩:=x;⟨o,ho,hc.1⟩
def GP {d:G'}{es:List JM}{ks:List Jg}{k:Jg}{key:Ja}{Q:Option Ja->Jc->Prop}(hu:A.units+8 < Lf) (hk:Ask s.heap k key)
 (hm:jh s.heap d es) (hes:Ents w s.heap ks es) (hn:ks.Nodup) (hnone:k ∉ ks->∀ tk,Q Jd { s with toks:=tk })
 (hsome:∀ (j:Nat) (e:JM),ks[j]?=dk k->es[j]?=dk e->∀ tk,Q (dk e.val) { s with toks:=tk }):Jo (model prog w) A (dictGet d key) Q E s:=by
 obtain⟨o,ep,ho,hc,hd⟩:=hm;obtain⟨kk,kdp,⟨as,kr⟩,ksh⟩:=id hk;unfold dictGet;refine Kg (f' (uV k key as A s _ kk kr (by omega) λtk=>f' (Ca (s:={ s with toks:=tk }) hu hk ho hd hes hn ?_ ?_)))
 . exact λh=>Jb (hnone h tk)
 . intro j hj;refine f' (wpAny_dictEntries (s:={ s with toks:=tk }) ho hd ?_);obtain⟨e,he,_⟩:=uw hes j k hj;have q:es.toArray[j]?=dk e:=by rw[List.getElem?_toArray];exact he
   rw[q];exact Jb (hsome j e hj he tk)
def Hy {d:G'}{es:List JM}{ks:List Jg}{k:Jg}{key v:Ja}{Q:Unit->Jc->Prop}(hu:A.units+8 < Lf) (hk:Ask s.heap k key)
 (hm:jh s.heap d es) (hes:Ents w s.heap ks es) (hn:ks.Nodup) (hsz:es.length <= Jm)
 (hQ:∀ (h':JB) (tk:Nat) (es':List JM),jh h' d es'->Kv d s.heap h'->((k ∉ ks/\es'=es++[⟨hashD w k,key,v⟩])\/∃ j:Nat,ks[j]?=dk k/\es'=es.modify j λe=>{ e with val:=v }) ->
  Q () { s with heap:=h',toks:=tk }):Jo (model prog w) A (dictSet d key v) Q E s:=by
 obtain⟨o,ep,ho,hc,hd⟩:=hm;obtain⟨kk,kdp,⟨as,kr⟩,ksh⟩:=id hk;unfold dictSet;refine Kg (f' (uV k key as A s _ kk kr (by omega) λtk=>?_));unfold dictSetHashed;refine Kg (f' (Ca (s:={ s with toks:=tk }) hu hk ho hd hes hn ?_ ?_))
 . intro h;refine f' (KC (wpAny_updateDictKeys (hz:=by simpa using hsz) (s:={ s with toks:=tk }) ho hd (hQ _ tk (es++[⟨hashD w k,key,v⟩]) ⟨_,ep+1,Ks _ ho (Ku.isFreed_of_dict (Ku.data_mapDictKeys hd _)),hc.mapDictKeys _,?_⟩ (JX ..) (.inl ⟨h,rfl⟩))));rw[Ku.data_mapDictKeys hd _];simp
 . intro j hj;refine f' (KC (f' (wpAny_updateDict (s:={ s with toks:=tk }) ho hd (wpAny_point (hQ _ tk (es.modify j λe=>{ e with val:=v }) ⟨_,ep,Ks _ ho (Ku.isFreed_of_dict (Ku.data_mapDict hd _)),hc.mapDict _,?_⟩ (JX ..) (.inr ⟨j,hj,rfl⟩))))));rw[Ku.data_mapDict hd _];simp
def meets_D (d:G') (key dflt:Ja) (hd:(d == KA)=j') :
 MeetsIn prog w (Builtin.«dict.get» ⟨[.ref d,key,dflt],[]⟩) (λA R s=>A.in1.units+8 < Lf/\∃ k ks es,Ask s.heap k key/\jh s.heap d es/\Ents w s.heap ks es/\ks.Nodup /\
  (k ∉ ks->∀ tk,R (.ok (.ret dflt)) { s with toks:=tk })/\∀ (j:Nat) (e:JM),ks[j]?=dk k->es[j]?=dk e->∀ tk,R (.ok (.ret e.val)) { s with toks:=tk }) :=
 .of_wp λA R s ⟨hu,k,ks,es,hk,hm,hes,hn,h1,h2⟩=>by
  show Jo _ _ (dictGet d key >>= _) _ _ s;refine f' (GP hu hk hm hes hn (λh tk=>?_) λj e hj he tk=>Jb ⟨_,rfl,h2 j e hj he tk⟩);show Jo _ _ (Builtin.Dict.missed d key >>= _) _ _ _;exact f' (wpAny_missed_other hd (Jb ⟨dflt,rfl,h1 h tk⟩))
def put_D {d:G'}{es:List JM}{ks:List Jg}{k:Jg}{key v:Ja}{Q:Unit->Jc->Prop}(hu:A.in1.units+8 < Lf) (hk:Ask s.heap k key)
 (hm:jh s.heap d es) (hes:Ents w s.heap ks es) (hn:ks.Nodup) (hsz:es.length <= Jm)
 (hQ:∀ (h':JB) (tk:Nat) (es':List JM),jh h' d es'->Kv d s.heap h'->((k ∉ ks/\es'=es++[⟨hashD w k,key,v⟩])\/∃ j:Nat,ks[j]?=dk k/\es'=es.modify j λe=>{ e with val:=v }) ->
  Q () { s with heap:=h',toks:=tk }):Jo (model prog w) A (setItem (.ref d) key v) Q E s:=by
 unfold setItem;refine Kg (f' (wpAny_sequenceKey hm.typeIs (by decide) (f' (JV (name:=K0 "__setitem__") hm.typeIs slot_dict_setitem
  (JS slot_dict_setitem hm.typeIs entry_dict_setitem ?_ (args_dict_setitem _ _ _))))))
 show Jo _ _ (Builtin.Dict.notOrdered "__setitem__" ⟨[.ref d,key,v],[]⟩ >>= _) _ _ s;refine f' (wpAny_notOrdered_dict hm.typeIs ?_);show Jo _ _ (dictSet d key v >>= _) _ _ s;exact f' (Hy hu hk hm hes hn hsz λh' tk es' a b c=>Jb ⟨.none,rfl,Jb (hQ h' tk es' a b c)⟩)
end
end MX
namespace L2
open PySem PySem.Spec PyProof.Rows
mutual
def DV (H:Hp):Jg->V->Prop
|.none,x=>x=.non
|.bool b,x=>x=.bl b
|.int i,x=>x=.int i
|.str t,x=>x=.str t
|.list ds,x=>∃ (a:G') (vs:List V),x=.ref a/\H a=dk (.lst vs)/\DVs H ds vs
|.tuple ds,x=>∃ (a:G') (vs:List V),x=.ref a/\H a=dk (.tup vs)/\DVs H ds vs
|.dict _,_=>False
def DVs (H:Hp):List Jg->List V->Prop
|[],vs=>vs=[]
|d :: ds,vs=>∃ (v:V) (r:List V),vs=v :: r/\DV H d v/\DVs H ds r
end
section
variable {P:Jz}{w:Jp}{H H':Hp}{h:JB}
mutual
theorem DV.reads (ok:HOk P w H h):∀ (d:Jg) (x:V) (u:Ja),DV H d x->bX x u->∃ as,Reads h u d as
|.none,_,_,e,r=>by cases e;cases r;exact⟨_,.none⟩
|.bool b,_,_,e,r=>by cases e;cases r;exact⟨_,.bool b⟩
|.int i,_,_,e,r=>by cases e;obtain⟨t,rfl⟩:=r;exact⟨_,.int i t⟩
|.str y,_,_,e,r=>by cases e;obtain⟨t,rfl⟩:=r;exact⟨_,.str y t⟩
|.list ds,_,_,e,r=>by
  obtain⟨a,vs,rfl,ha,hv⟩:=e;cases r;obtain⟨_,its,n,rv,hg⟩:=ok a _ ha;obtain⟨as,q⟩:=DVs.reads ok ds vs its hv rv;exact⟨_,.list hg rfl rfl (by simpa using q)⟩
|.tuple ds,_,_,e,r=>by
  obtain⟨a,vs,rfl,ha,hv⟩:=e;cases r;obtain⟨_,its,rv,o,hg,hc,n,hd⟩:=ok a _ ha;obtain⟨as,q⟩:=DVs.reads ok ds vs its hv rv;exact⟨_,.tuple hg hc hd (by simpa using q)⟩
|.dict _,_,_,e,_=>Kx e
theorem DVs.reads (ok:HOk P w H h):∀ (ds:List Jg) (vs:List V) (us:List Ja),DVs H ds vs->bE vs us->∃ as,ReadsAll h us ds as
|[],_,_,e,r=>by cases e;cases r;exact⟨_,.nil⟩
|d :: ds,_,_,e,r=>by
  obtain⟨v,vs,rfl,h1,h2⟩:=e;cases r with
 |cons r1 r2 =>
   obtain⟨as,q1⟩:=DV.reads ok d _ _ h1 r1;obtain⟨bs,q2⟩:=DVs.reads ok ds _ _ h2 r2;exact⟨_,.cons q1 q2⟩
end
mutual
theorem DV.mono (hs:∀ b vs,H b=dk (.lst vs)->H' b=dk (.lst vs)) (ht:∀ b vs,H b=dk (.tup vs)->H' b=dk (.tup vs)):∀ (d:Jg) (x:V),DV H d x->DV H' d x
|.none,_,e=>e
|.bool _,_,e=>e
|.int _,_,e=>e
|.str _,_,e=>e
|.list ds,_,⟨a,vs,e,ha,hv⟩=>⟨a,vs,e,hs _ _ ha,DVs.mono hs ht ds vs hv⟩
|.tuple ds,_,⟨a,vs,e,ha,hv⟩=>⟨a,vs,e,ht _ _ ha,DVs.mono hs ht ds vs hv⟩
|.dict _,_,e=>e
theorem DVs.mono (hs:∀ b vs,H b=dk (.lst vs)->H' b=dk (.lst vs)) (ht:∀ b vs,H b=dk (.tup vs)->H' b=dk (.tup vs)):∀ (ds:List Jg) (vs:List V),DVs H ds vs->DVs H' ds vs
|[],_,e=>e
|d :: ds,_,⟨v,r,e,h1,h2⟩=>⟨v,r,e,DV.mono hs ht d v h1,DVs.mono hs ht ds r h2⟩
end
mutual
theorem DV.keep (ht:∀ b vs,H b=dk (.tup vs)->H' b=dk (.tup vs)):∀ (d:Jg) (x:V),MX.kd d=D'->DV H d x->DV H' d x
|.int _,_,_,e=>e
|.str _,_,_,e=>e
|.tuple ds,_,k,⟨a,vs,e,ha,hv⟩=>⟨a,vs,e,ht _ _ ha,DVs.keep ht ds vs k hv⟩
|.none,_,k,_=>by cases k
|.bool _,_,k,_=>by cases k
|.list _,_,k,_=>by cases k
|.dict _,_,k,_=>by cases k
theorem DVs.keep (ht:∀ b vs,H b=dk (.tup vs)->H' b=dk (.tup vs)):∀ (ds:List Jg) (vs:List V),MX.kds ds=D'->DVs H ds vs->DVs H' ds vs
|[],_,_,e=>e
|d :: ds,_,k,⟨v,r,e,h1,h2⟩=>by
  have k':(MX.kd d && MX.kds ds)=D':=k;rw[Kr]at k';exact⟨v,r,e,DV.keep ht d v k'.1 h1,DVs.keep ht ds r k'.2 h2⟩
end
theorem DVs.snoc:∀ {ds:List Jg}{vs:List V}{d:Jg}{v:V},DVs H ds vs->DV H d v->DVs H (ds++[d]) (vs++[v])
|[],_,d,v,e,h=>by cases e;exact⟨v,[],rfl,h,rfl⟩
|c :: ds,_,d,v,⟨v',r,e,h1,h2⟩,h=>by subst e;exact⟨v',r++[v],rfl,h1,DVs.snoc h2 h⟩
end
def uO (d:Jg):Prop:=d.canLay0=D'/\d.depth <= 16
def uO.key {d:Jg}(h:MX.kd d=D') (h2:d.depth <= 8):uO d:=⟨MX.kd_lay d h,by omega⟩
theorem uO.int (i:Int):uO (.int i):=⟨rfl,by show 0 <= 16;decide⟩
def HE (neg:Bool):R2:=λx y H Q=>∃ d e,DV H d x/\DV H e y/\uO d/\uO e/\Q (.bl (if neg then !PyData.eqv d e else Jt d e)) H
section
variable {X:Cx}
def sW (hu:X.A.units+64 < Lf):OpR X (Kw .Eq) (HE j'):=by
 intro Lv s σ H x y v u Q I rx ry h;obtain⟨d,e,h1,h2,l1,l2,q⟩:=h;obtain⟨as,r1⟩:=DV.reads I.hok d x v h1 rx;obtain⟨bs,r2⟩:=DV.reads I.hok e y u h2 ry;exact SeqAt.compareEq_reads r1 r2 l1.1 l2.1 (by have:=l1.2;omega) ⟨.bl _,H,I,rfl,q⟩
def Cp (hu:X.A.units+64 < Lf):OpR X (Kw .NotEq) (HE D'):=by
 intro Lv s σ H x y v u Q I rx ry h;obtain⟨d,e,h1,h2,l1,l2,q⟩:=h;obtain⟨as,r1⟩:=DV.reads I.hok d x v h1 rx;obtain⟨bs,r2⟩:=DV.reads I.hok e y u h2 ry;exact SeqAt.neOverData X.prog X.w X.A X.xe s v u d e as bs _ r1 r2 l1.1 l2.1 (by have:=l1.2;omega) ⟨.bl _,H,I,rfl,q⟩
end
def oK (a:G') (es:List JM) (ep:Nat):HO:=.ext λh=>(a == KA)=j'/\MX.DictE h a es ep
def C3 (w:Jp) (H:Hp) (p:Jg × V) (e:JM):Prop:=MX.kd p.1=D'/\p.1.depth <= 8/\e.hash=MX.hashD w p.1/\(∃ x,bX x e.key/\DV H p.1 x)/\bX p.2 e.val
def MD (w:Jp) (H:Hp) (a:G') (kvs:List (Jg × V)):Prop:=∃ es ep,H a=dk (oK a es ep)/\JC (C3 w H) kvs es/\(kvs.map (·.1)).Nodup/\kvs.length <= Jm
def um (H:Hp) (k:Jg) (y:V):Prop:=MX.kd k=D'/\k.depth <= 8/\DV H k y/\((∃ t,y=.str t)\/∃ b,y=.ref b)
def eW (kvs:List (Jg × V)) (k:Jg):Option V:=(kvs.find? λp=>Jt p.1 k).map (·.2)
def ui (kvs:List (Jg × V)) (k:Jg) (v:V):List (Jg × V) :=
 if (kvs.any λp=>Jt p.1 k)=D' then kvs.map (λp=>if Jt p.1 k=D' then (p.1,v) else p) else kvs++[(k,v)]
def oK.ok {P:Jz}{w:Jp}{H:Hp}{h:JB}{a:G'}{es:List JM}{ep:Nat}(hs:(a == KA)=j') (hm:MX.DictE h a es ep):dc P w H h a (oK a es ep):=by
 refine⟨⟨hs,hm⟩,?_,λh1 h2 uq11 k=>by(obtain⟨z,o,e,r⟩:=uq11;exact ⟨z,o,k o e,r⟩)⟩;obtain⟨o,e,_⟩:=hm;exact⟨o,e⟩
def oK.of {P:Jz}{w:Jp}{H:Hp}{h:JB}{a:G'}{es:List JM}{ep:Nat}(ok:HOk P w H h) (e:H a=dk (oK a es ep)):(a == KA)=j'/\MX.DictE h a es ep:=by
 obtain⟨q,_⟩:=ok a _ e;exact q
theorem Paired.keys {w:Jp}{H:Hp}:∀ {kvs:List (Jg × V)}{es:List JM},JC (C3 w H) kvs es->kvs.length=es.length
|_,_,.nil=>rfl
|_,_,.cons _ t=>by rw[JN,JN,Paired.keys t]
theorem uX {P:Jz}{w:Jp}{H:Hp}{h:JB}(ok:HOk P w H h):∀ {kvs:List (Jg × V)}{es:List JM},JC (C3 w H) kvs es->MX.Ents w h (kvs.map (·.1)) es
|_,_,.nil=>.nil
|_,_,.cons ⟨k1,k2,k3,⟨x,rx,dx⟩,_⟩ t=>.cons ⟨k1,k2,DV.reads ok _ _ _ dx rx,k3⟩ (uX ok t)
def Ck {P:Jz}{w:Jp}{H:Hp}{h:JB}{k:Jg}{y:V}{u:Ja}(ok:HOk P w H h) (hk:um H k y) (r:bX y u):MX.Ask h k u:=by
 obtain⟨k1,k2,k3,k4⟩:=hk;refine⟨k1,k2,DV.reads ok _ _ _ k3 r,?_⟩;rcases k4 with⟨t,rfl⟩|⟨b,rfl⟩
 . obtain⟨tk,rfl⟩:=r;exact .inl ⟨_,_,rfl⟩
 . cases r;exact .inr ⟨_,rfl⟩
section
variable {w:Jp}{H:Hp}
def eR {d e:Jg}(h1:MX.kd d=D') (h2:MX.kd e=D') (n:d≠e):Jt d e=j':=by
 cases q:Jt d e with
|false=>rfl
|true=>exact absurd ((MX.eqv_iff d e h1 h2).mp q) n
def cC {d:Jg}(h1:MX.kd d=D'):Jt d d=D':=(MX.eqv_iff d d h1 h1).mpr rfl
def KK (kvs:List (Jg × V)):Prop:=∀ p∈kvs,MX.kd p.1=D'
def KK.of {kvs:List (Jg × V)}{es:List JM}:JC (C3 w H) kvs es->KK kvs:=by
 intro r
 induction r with
|nil=>intro p h;cases h
|cons a _ ih =>
  intro p h;rcases JE.mp h with rfl|h
  . exact a.1
  . exact ih p h
theorem wD {k:Jg}(hk:MX.kd k=D'):∀ {kvs:List (Jg × V)}{j:Nat},KK kvs->(kvs.map (·.1)).Nodup->(kvs.map (·.1))[j]?=dk k->∃ v,kvs[j]?=dk (k,v)/\eW kvs k=dk v
|[],j,_,_,e=>by simp at e
|(a,v) :: r,0,kk,_,e=>by
  simp at e;subst e;refine⟨v,rfl,?_⟩;unfold eW;rw[KW,cC hk];rfl
|(a,v) :: r,j+1,kk,nd,e=>by
  have nd':(a :: r.map (·.1)).Nodup:=nd;obtain⟨n1,n2⟩:=K7.mp nd';have e':(r.map (·.1))[j]?=dk k:=by simpa using e
  obtain⟨v',h1,h2⟩:=wD hk (λp h=>kk p (Jv _ h)) n2 e';refine⟨v',by simpa using h1,?_⟩;have ne:a≠k:=λz=>n1 (by rw[z];exact Ka e')
  unfold eW at h2 |-;rw[KW,eR (kk _ Jx) hk ne];exact h2
def wO {k:Jg}(hk:MX.kd k=D') {kvs:List (Jg × V)}(kk:KK kvs) (n:k ∉ kvs.map (·.1)):eW kvs k=Jd:=by
 unfold eW;rw[find?_eq_none.mpr λp hp=>?_]
 . rfl
 . rw[eR (kk p hp) hk λz=>n (Lg.mpr ⟨p,hp,z⟩)];decide
def yd {k:Jg}(hk:MX.kd k=D') {kvs:List (Jg × V)}(kk:KK kvs) (n:k ∉ kvs.map (·.1)) (v:V):ui kvs k v=kvs++[(k,v)]:=by
 unfold ui;rw[Ph];intro h;obtain⟨p,hp,e⟩:=any_eq_true.mp h;exact n (Lg.mpr ⟨p,hp,(MX.eqv_iff _ _ (kk p hp) hk).mp e⟩)
def wR {k:Jg}(hk:MX.kd k=D') {kvs:List (Jg × V)}(kk:KK kvs) (n:k ∉ kvs.map (·.1)) (v:V):kvs.map (λp=>if Jt p.1 k=D' then (p.1,v) else p)=kvs:=by
 induction kvs with
|nil=>rfl
|cons p r ih =>
  have hp:p.1≠k:=λz=>n (Lg.mpr ⟨p,Jx,z⟩)
  rw[Kq,eR (kk p Jx) hk hp,ih (λq h=>kk q (Jv _ h)) λh=>n (by rw[Kq];exact Jv _ h)];simp
theorem CB {k:Jg}(hk:MX.kd k=D') {v:V}{u:Ja}(rv:bX v u):∀ {kvs:List (Jg × V)}{es:List JM}{j:Nat},JC (C3 w H) kvs es->(kvs.map (·.1)).Nodup->(kvs.map (·.1))[j]?=dk k ->
 JC (C3 w H) (kvs.map (λp=>if Jt p.1 k=D' then (p.1,v) else p)) (es.modify j λe=>{ e with val:=u })
|_,_,j,.nil,_,e=>by simp at e
|(a,v') :: r,e0 :: es,0,.cons q t,nd,e=>by
  simp at e;subst e;have nd':(a :: r.map (·.1)).Nodup:=nd;rw[Kq,cC hk,wR hk (KK.of t) (K7.mp nd').1];exact .cons ⟨q.1,q.2.1,q.2.2.1,q.2.2.2.1,rv⟩ t
|(a,v') :: r,e0 :: es,j+1,.cons q t,nd,e=>by
  have nd':(a :: r.map (·.1)).Nodup:=nd;obtain⟨n1,n2⟩:=K7.mp nd';have e':(r.map (·.1))[j]?=dk k:=by simpa using e
  have ne:a≠k:=λz=>n1 (by rw[z];exact Ka e')
  rw[Kq,eR q.1 hk ne];exact .cons q (CB hk rv t n2 e')
def FE {k:Jg}(hk:MX.kd k=D') {kvs:List (Jg × V)}{j:Nat}(e:(kvs.map (·.1))[j]?=dk k):(kvs.any λp=>Jt p.1 k)=D':=by
 obtain⟨p,hp,z⟩:=Lg.mp (Ka e);exact any_eq_true.mpr ⟨p,hp,by rw[z];exact cC hk⟩
def yZ {k:Jg}{v:V}{kvs:List (Jg × V)}:(kvs.map (λp=>if Jt p.1 k=D' then (p.1,v) else p)).map (·.1)=kvs.map (·.1):=by
 rw[map_map];congr 1;funext p;show (if Jt p.1 k=D' then (p.1,v) else p).1=p.1;split<;>rfl
def B0 (kvs:List (Jg × V)) (k:Jg) (v:V):(ui kvs k v).length <= kvs.length+1:=by
 unfold ui;split
 . rw[Ju];omega
 . rw[Ji];exact Jk _
end
section
variable {w:Jp}{H H':Hp}{a:G'}{kvs:List (Jg × V)}
theorem C3.keep (ht:∀ b vs,H b=dk (.tup vs)->H' b=dk (.tup vs)) {p:Jg × V}{e:JM}(q:C3 w H p e):C3 w H' p e:=by
 obtain⟨k1,k2,k3,⟨x,rx,dx⟩,k5⟩:=q;exact⟨k1,k2,k3,⟨x,rx,DV.keep ht _ _ k1 dx⟩,k5⟩
theorem MD.keep (m:MD w H a kvs) (ha:H' a=H a) (ht:∀ b vs,H b=dk (.tup vs)->H' b=dk (.tup vs)):MD w H' a kvs:=by
 obtain⟨es,ep,h1,h2,h3⟩:=m;exact⟨es,ep,by rw[ha];exact h1,Paired.mapP h2 λ_ _ q=>q.keep ht,h3⟩
end
section
variable {X:Cx}{Lv:List (G' × Ku)}{σ:St}{H:Hp}{s:Jc}{a:G'}{kvs:List (Jg × V)}{k:Jg}{y v d:V}{u r:Ja}{A:JK}{E:Ja->Jc->Prop}
def HL {A:JK}(hu:A.units+64 < Lf):A.in1.units+8 < Lf:=by
 rw[JK.in1_units];omega
def Ei {Q:Ja->Jc->Prop}(hu:A.units+64 < Lf) (I:Inv X Lv σ H s) (m:MD X.w H a kvs) (hk:um H k y) (ry:bX y u) (rd:bX d r) (h:∀ w' s',Inv X Lv σ H s'->bX ((eW kvs k).getD d) w'->Q w' s') :
 Jo (model X.prog X.w) A (call (.builtin "dict.get") [.ref a,u,r]) Q E s:=by
 obtain⟨es,ep,h1,h2,h3,h4⟩:=m;obtain⟨hs,hme⟩:=oK.of I.hok h1;have hm:=hme.es;refine call_meetsIn PySem.F.slot_dict_get hm.typeIs PySem.F.entry_dict_get (PySem.F.args_dict_get_3 _ _ _) (MX.meets_D a u r hs) ⟨HL hu,k,_,es,Ck I.hok hk ry,hm,uX I.hok h2,h3,λn tk=>h _ _ (I.tok _) ?_,λj e hj he tk=>h _ _ (I.tok _) ?_⟩
 . rw[wO hk.1 (KK.of h2) n];exact rd
 . obtain⟨v',g1,g2⟩:=wD hk.1 (KK.of h2) h3 hj;rw[g2];obtain⟨p,e1,e2⟩:=MX.f2_get h2 j e he;rw[g1]at e1;cases e1;exact e2.2.2.2.2
def EL {Q:Unit->Jc->Prop}(hu:A.units+64 < Lf) (I:Inv X Lv σ H s) (m:MD X.w H a kvs) (hl:kvs.length < Jm) (hk:um H k y) (ry:bX y u) (rv:bX v r)
 (h:∀ H' s',Inv X Lv σ H' s'->(∀ b,b≠a->H' b=H b)->MD X.w H' a (ui kvs k v)->Q () s'):Jo (model X.prog X.w) A (setItem (.ref a) u r) Q E s:=by
 obtain⟨es,ep,h1,h2,h3,h4⟩:=m;obtain⟨hs,hme⟩:=oK.of I.hok h1;have hm:=hme.es;have kk:=KK.of h2;have hz:es.length <= Jm:=by rw[<-Paired.keys h2];omega
 refine MX.put_D (HL hu) (Ck I.hok hk ry) hm (uX I.hok h2) h3 hz λh' tk es' hm' hsb hor=>?_
 obtain⟨ep',hm2⟩:=hm'.ep;have I':Inv X Lv σ (upd H a (oK a es' ep')) { s with heap:=h',toks:=tk }:=om I (by rw[h1];exact KQ) hsb (let ⟨o,e,_⟩:=hm2;⟨o,e⟩) (oK.ok hs hm2);refine h _ _ I' (λb hb=>aa hb) ⟨es',ep',a9,?_⟩;have ht:∀ b vs,H b=dk (.tup vs)->upd H a (oK a es' ep') b=dk (.tup vs):=λb vs e=>by
  rw[aa (iB e h1 (by intro z;cases z))];exact e
 rcases hor with⟨n,rfl⟩|⟨j,hj,rfl⟩
 . rw[yd hk.1 kk n];refine⟨?_,?_,by rw[Ji];show kvs.length+1 <= Jm;omega⟩
   . refine JC.snoc (Paired.mapP h2 λ_ _ q=>q.keep ht) ⟨hk.1,hk.2.1,rfl,⟨y,ry,DV.keep ht _ _ hk.1 hk.2.2.1⟩,rv⟩
   . rw[Ld];exact nd_snocP h3 n
 . have e:ui kvs k v=kvs.map (λp=>if Jt p.1 k=D' then (p.1,v) else p):=by
    unfold ui;rw[Pg (FE hk.1 hj)]
   rw[e];exact⟨Paired.mapP (CB hk.1 rv h2 h3 hj) λ_ _ q=>q.keep ht,by rw[yZ];exact h3,by rw[Ju];exact h4⟩
where
 nd_snocP {l:List Jg} {k:Jg} (hn:l.Nodup) (hk:k ∉ l):(l++[k]).Nodup:=by
  rw[nodup_append];exact⟨hn,by simp,λx hx y hy=>by
   rw[Je.mp hy];exact λz=>hk (z ▸ hx)⟩
end
def Ht:TE:=λ_ H Q=>∀ p,H p=Jd->Q (.ref p) (upd H p (oK p [] 0))
def GS (w:Jp) (td ty tv:TE):TS:=λD σ H=>tv σ H λv H1=>td σ H1 λx H2=>ty σ H2 λy H3=>∃ a kvs k,x=.ref a/\MD w H3 a kvs/\kvs.length < Jm/\um H3 k y /\
 ∀ H4,(∀ b,b≠a->H4 b=H3 b)->MD w H4 a (ui kvs k v)->D.nx σ H4
def FP (w:Jp) (td ty tx:TE):TE:=λσ H Q=>td σ H λx H1=>∃ a,x=.ref a/\(∃ kvs,MD w H1 a kvs)/\ty σ H1 λy H2=>tx σ H2 λz H3=>∃ kvs k,MD w H3 a kvs/\um H3 k y/\Q ((eW kvs k).getD z) H3
section
variable {X:Cx}{o i e f value:Expr}{pos pos' apos cpos:Pos}{td ty tv tx:TE}
def DO:PE X (.Dict [] [] pos) Ht:=λLv s σ H Q I h =>
 wpAny_Dict_empty ⟨.ref s.heap.objs.size,_,I.laid (a:=s.heap.objs.size) (o:=oK s.heap.objs.size [] 0) (t':=s.toks) (λ_ _ q=>Jf _ q) (Jk _)
  (oK.ok (beq_eq_false_iff_ne.mpr (K9 (JR I.big))) ⟨_,Js _ rfl,⟨rfl,rfl,rfl⟩,rfl⟩),rfl,h _ (I.hok.fresh (Jk _))⟩
def Dh (hu:X.A.units+64 < Lf) (ho:PE X o td) (hi:PE X i ty) (hv:PE X value tv) (hs:swapsWith value (dk (.Subscript o i pos')) pos.line X.env=pure j') :
 PS X (.Assign [.Subscript o i pos'] value pos) (GS X.w td ty tv):=by
 intro Lv s σ H D I h;refine wpAny_Assign_Subscript (thn (hv Lv s σ H _ I h) λr s1 ⟨v,H1,I1,rv,q1⟩=>thn (ho Lv s1 σ H1 _ I1 q1) λu s2 ⟨x,H2,I2,rx,q2⟩=>thn (hi Lv s2 σ H2 _ I2 q2) λiv s3 ur39=>?_) hs;obtain⟨y,H3,I3,ry,a,kvs,k,ex,m,hl,hk,q3⟩:=ur39;subst ex;obtain rfl:u=JJ a:=rx;exact EL hu I3 m hl hk ry rv λH4 s4 I4 g1 g2=>⟨σ,H4,I4,q3 H4 g1 g2⟩
def Au (hu:X.A.units+64 < Lf) (ho:PE X o td) (he:PE X e ty) (hf:PE X f tx) (m:M2 X o "get" apos e f cpos):PE X (.Call (.Attribute o "get" apos) [e,f] [] cpos) (FP X.w td ty tx):=by
 intro Lv s σ H Q I h;refine wpAny_Call_method m.base m.few m.line PySem.F.plainAttrs_dict PySem.F.slot_dict_get PySem.F.type_dict_get (thn (ho Lv s σ H _ I h) λu s1 ur40=>?_);obtain⟨x,H1,I1,rx,a,ex,⟨kv0,es,ep,e1,_⟩,q1⟩:=ur40;subst ex;obtain rfl:u=JJ a:=rx;obtain⟨_,ob,g1,g2,g3⟩:=oK.of I1.hok e1;refine⟨⟨ob,g1,g2.1⟩,λb eb=>by injection eb with eb;subst eb;exact⟨ob,g1,g2.2.1⟩,?_⟩;rw[m.trees];refine K5 rfl (K2 (KY (thn (he Lv s1 σ H1 _ I1 q1) λiv s2 ⟨y,H2,I2,ry,q2⟩ =>
  KY (thn (hf Lv s2 σ H2 _ I2 q2) λfv s3 ⟨z,H3,I3,rz,kvs,k,md,hk,q3⟩=>Calls.spliced_nil ?_))))
 exact Ei hu I3 md hk ry rz λw' s4 I4 rw'=>⟨_,H3,I4,rw',q3⟩
end
def Itv (K:Jh) (a:G') (n:Nat):It :=
 ⟨λi H=>i < n/\∃ xs,SqL K H a xs/\xs.length=n,λi H x H'=>H'=H/\∀ xs,SqL K H a xs->xs[n - 1 - i]?=dk x,λi _=>i=n⟩
def Bf {P:Jz}{w:Jp}{K:Jh}{tg:Expr}(a it:G') (n:Nat):Turn P w K tg (Itv K a n) [it] it (λi h=>h.IsRevIter it a ((n:Int) - 1 - i)) where
 mem:=Je.mpr rfl
 obj:=λi h st b hb=>by
  obtain rfl:b=it:=Je.mp hb;obtain⟨o,e,c,d⟩:=st;exact⟨o,e,λv z=>by rw[d]at z;cases z⟩
 keep:=λi h h' st k=>st.at λo e=>k it (Je.mpr rfl) o e
 item:=by
  intro X hP hw hK hc i Lv s σ H E I hf st hg;subst hP hw hK;obtain⟨hi,xs,hq,hn⟩:=hg;obtain⟨its,rv,p,hz⟩:=I.list hq;have hlt:n - 1 - i < xs.length:=by omega
  obtain⟨u,hu,ru⟩:=rv.get (Jl hlt);obtain⟨f0,f1,f2,f3,f4,f5⟩:=hf it (Je.mpr rfl);have ei:(n:Int) - 1 - i=((n - 1 - i:Nat):Int):=by omega
  rw[ei]at st;refine wpAny_pyNext_rev_item st p.isList (x:=u) (by simpa using hu) λh' st' sb=>?_
  have I1:Inv X Lv σ H { s with heap:=h' }:=I.turned (t':=s.toks) (λb o hb e=>(sb.2 b hb).trans e) f0 f1 f3 f4 f5;have ej:((n - 1 - i:Nat):Int) - 1=(n:Int) - 1 - ((i+1:Nat):Int):=by omega
  rw[ej]at st';obtain⟨o,e,c,d⟩:=id st';exact⟨u,rfl,AE (s:={ s with heap:=h' }) e c d (by decide) ⟨_,H,I1,ru,⟨rfl,λys hy=>by rw[I.list_inj hy hq];exact Jl hlt⟩,st',λb hb=>(hf b hb).1⟩⟩
 done:=by
  intro X hP hw hK hc i Lv s σ H E I hf st hg;subst hP hw hK;obtain⟨f0,f1,f2,f3,f4,f5⟩:=hf it (Je.mpr rfl);have hg':i=n:=hg;have ei:(n:Int) - 1 - i=-1:=by omega
  rw[ei]at st;exact wpAny_pyNext_rev_end (I.ok.hd hc) st λh' eb=>⟨rfl,I.turned (t':=s.toks) (λb o hb e=>eb b o hb e) f0 f1 f3 f4 f5⟩
 self:=λ_ _ _ _ _ st h=>wpAny_pyIter_revIter st h
def Ip (K:Jh) (ta:TA):TI:=λσ H R=>ta σ H λvs H1=>∃ a xs,vs=[.ref a]/\SqL K H1 a xs/\R (Itv K a xs.length) H1
section
variable {X:Cx}{tg:Expr}
def EB {l:Expr}{ta:TA}{p pos:Pos}(hg:Gl X "reversed") (hm:X.mg "reversed"=Jd) (ha:PA X [l] ta) (hs:JL [l] X.env=[(j',eval l X.env)]:=by rfl):PI X tg (.Call (.Name "reversed" p) [l] [] pos) (Ip X.K ta):=by
 intro Lv s σ H R I h;refine Call_ (nT I hg hm vf (KP (thn (ha pos Lv s σ H _ I h) λus s1 ur41=>?_) hs rfl));obtain⟨vs,H1,I1,r1,a,xs,ev,hq,q⟩:=ur41;subst ev;obtain⟨u,rfl,ru⟩:=sy r1;cases ru;obtain⟨its,rv,pl,hz⟩:=I1.list hq;have hlen:=rv.length;refine call_reversed_list pl.isList ?_;have sz:((its.toArray.size:Nat):Int) - 1=(xs.length:Int) - 1 - ((0:Nat):Int):=by simp;omega
 rw[sz];have st0:(s1.heap.push (revObj a ((xs.length:Int) - 1 - ((0:Nat):Int)))).IsRevIter s1.heap.objs.size a ((xs.length:Int) - 1 - ((0:Nat):Int)):=⟨_,Js _ rfl,rfl,rfl⟩
 refine wpAny_pyIter_revIter (s:={ s1 with heap:=s1.heap.push (revObj a ((xs.length:Int) - 1 - ((0:Nat):Int))) }) st0 ?_;refine⟨s1.heap.objs.size,[s1.heap.objs.size],_,_,H1,rfl,I1.kept (t':=s1.toks) λb o e=>Jf _ e,Bf a _ xs.length,st0,λb hb=>?_,q⟩;obtain rfl:b=s1.heap.objs.size:=Je.mp hb;exact I1.fpOk (Jk _) (I1.hok.fresh (Jk _))
def DP {K:Jh}{a:G'}{xs:List V}{g:TG}{tb:TS}{D:Ends}{σ:St}{H:Hp}(Pv:Nat->St->Hp->Prop) (h0:Pv 0 σ H) (hl:∀ i σ H,i <= xs.length->Pv i σ H->SqL K H a xs)
 (hs:∀ i x σ H,i < xs.length->xs[xs.length - 1 - i]?=dk x->Pv i σ H->g x σ H λσ2 H2=>tb { D with nx:=Pv (i+1),ct:=Pv (i+1),bk:=D.nx } σ2 H2) (hd:∀ σ H,Pv xs.length σ H->D.nx σ H) :
 ∃ W:Nat->Nat->St->Hp->Prop,(∃ m,W 0 m σ H)/\∀ i m σ H,W i m σ H->((Itv K a xs.length).stop i H/\D.nx σ H)\/((Itv K a xs.length).go i H/\∃ N:St->Hp->Prop,(∀ σ' H',N σ' H'->∃ m',m' < m/\W (i+1) m' σ' H') /\
  ∀ x H',(Itv K a xs.length).yld i H x H'->g x σ H' λσ2 H2=>tb { D with nx:=N,ct:=N,bk:=D.nx } σ2 H2):=by
 refine⟨λi m σ H=>Pv i σ H/\i <= xs.length/\m=xs.length - i,⟨_,h0,KG _,rfl⟩,?_⟩;rintro i m σ H ⟨hp,hi,rfl⟩;by_cases z:i=xs.length
 . subst z;exact .inl ⟨rfl,hd σ H hp⟩
 . have hlt:i < xs.length:=by omega
   refine .inr ⟨⟨hlt,xs,hl i σ H hi hp,rfl⟩,Pv (i+1),λσ' H' q=>⟨xs.length - (i+1),by omega,q,hlt,rfl⟩,?_⟩;rintro x H' ⟨rfl,hx⟩;exact hs i x σ H' hlt (hx xs (hl i σ H' hi hp)) hp
end
def HM (K:Jh) (neg:Bool):R2:=λx y H Q=>∃ a b xs,x=.ref a/\y=.ref b/\SqL K H a xs/\SqL K H b []/\Q (.bl (if neg then !xs.isEmpty else xs.isEmpty)) H
section
variable {X:Cx}
def C9 (hu:X.A.units+64 < Lf):OpR X (Kw .Eq) (HM X.K j'):=by
 intro Lv s σ H x y v u Q I rx ry h;obtain⟨a,b,xs,rfl,rfl,h1,h2,q⟩:=h;cases rx;cases ry;obtain⟨its,r1,p1,_⟩:=I.list h1;obtain⟨it2,r2,p2,_⟩:=I.list h2;have e2:it2=[]:=bE.zero r2;subst e2;have hl:=r1.length;cases xs with
|nil =>
  have e1:its=[]:=bE.zero r1;subst e1;exact SeqAt.RcAt.lists (e:=λ_=>D') p1.isList p2.isList rfl (by omega) (λj h1 _=>absurd h1 (Nat.not_lt_zero _)) X.prog X.w X.xe _ ⟨.bl D',H,I,rfl,q⟩
|cons z zs =>
  have hne:(its.toArray.size != ([]:List Ja).toArray.size)=D':=by
   rw[JN]at hl;rw[bne_iff_ne,JD,JD,length_nil];omega
  exact SeqAt.RcAt.lists_lengths p1.isList p2.isList hne (by omega) X.prog X.w X.xe _ ⟨.bl j',H,I,rfl,q⟩
def vM (hu:X.A.units+64 < Lf):OpR X (Kw .NotEq) (HM X.K D'):=by
 intro Lv s σ H x y v u Q I rx ry h;obtain⟨a,b,xs,rfl,rfl,h1,h2,q⟩:=h;cases rx;cases ry;obtain⟨its,r1,p1,_⟩:=I.list h1;obtain⟨it2,r2,p2,_⟩:=I.list h2;have e2:it2=[]:=bE.zero r2;subst e2;have hl:=r1.length;cases xs with
|nil =>
  have e1:its=[]:=bE.zero r1;subst e1;exact SeqAt.RcNeAt.lists (e:=λ_=>D') p1.isList p2.isList rfl (by omega) (λj h1 _=>absurd h1 (Nat.not_lt_zero _)) X.prog X.w X.xe _ ⟨.bl j',H,I,rfl,q⟩
|cons z zs =>
  have hne:(its.toArray.size != ([]:List Ja).toArray.size)=D':=by
   rw[JN]at hl;rw[bne_iff_ne,JD,JD,length_nil];omega
  exact SeqAt.RcNeAt.lists_lengths p1.isList p2.isList hne (by omega) X.prog X.w X.xe _ ⟨.bl D',H,I,rfl,q⟩
end
def nhr:¬ (("held":Str)="rows"):=by decide +kernel
def stF (hd rl:G'):List (Str × V):=ba "rows" (.ref rl) (ba "held" (.ref hd) [])
def wf {hd rl:G'}:(stF hd rl).lookup ("held":Str)=dk (.ref hd):=by
 unfold stF;rw[a8,Ph nhr,a8,Pg rfl]
def jz {hd rl:G'}:(stF hd rl).lookup ("rows":Str)=dk (.ref rl):=by
 unfold stF;rw[a8,Pg rfl]
def bK {hd rl:G'}{m:Str}(h1:¬ m="rows") (h2:¬ m="held"):(stF hd rl).lookup m=Jd:=by
 unfold stF;rw[a8,Ph h1,a8,Ph h2]
 all_goals rfl
def sdI:Bool->Int
|false=>0
|true=>1
def qz {l:Bool->G'}(b:Bool):atI [V.ref (l j'),V.ref (l D')] (sdI b)=dk (.ref (l b)):=by
 cases b<;>rfl
theorem um.keep {H H':Hp}{k:Jg}{y:V}(h:um H k y) (ht:∀ b vs,H b=dk (.tup vs)->H' b=dk (.tup vs)):um H' k y :=
 ⟨h.1,h.2.1,DV.keep ht _ _ h.1 h.2.2.1,h.2.2.2⟩
def Wt (H:Hp) (p:Jg × V) (tv:V):Prop:=∃ t cv,tv=.ref t/\H t=dk (.tup [cv,p.2])/\um H p.1 cv
theorem Wt.keep {H H':Hp}{p:Jg × V}{tv:V}(h:Wt H p tv) (ht:∀ b vs,H b=dk (.tup vs)->H' b=dk (.tup vs)):Wt H' p tv:=by
 obtain⟨t,cv,e,h1,h2⟩:=h;exact⟨t,cv,e,ht _ _ h1,h2.keep ht⟩
def yf (H:Hp) (l:G') (es:List (Jg × V)):Prop:=∃ ts:List V,H l=dk (.lst ts)/\JC (Wt H) es ts
theorem yf.keep {H H':Hp}{l:G'}{es:List (Jg × V)}(h:yf H l es) (hl:∀ o,H l=dk o->H' l=dk o) (ht:∀ b vs,H b=dk (.tup vs)->H' b=dk (.tup vs)):yf H' l es:=by
 obtain⟨ts,h1,h2⟩:=h;exact⟨ts,hl _ h1,Paired.mapP h2 λ_ _ q=>q.keep ht⟩
theorem aG {α β:Type}{F:α->β->Prop}:∀ {xs:List α}{ys:List β},JC F xs ys->xs.length=ys.length
|_,_,.nil=>rfl
|_,_,.cons _ t=>by rw[JN,JN,aG t]
def bq {α:Type}(r:Bool->α) (b:Bool) (v:α):Bool->α:=λc=>if c=b then v else r c
def b9 {α:Type}{r:Bool->α}{b:Bool}{v:α}:bq r b v b=v:=Pg rfl
def fD {α:Type}{r:Bool->α}{b c:Bool}{v:α}(h:c≠b):bq r b v c=r c:=Ph h
structure Sto (w:Jp) (C:G') (H:Hp) (x hd rl:G') (l:Bool->G') (M:List (Jg × V)) (r:Bool->List (Jg × V)):Prop where
 ob:∃ dx,H x=dk (.ins C dx (stF hd rl))
 me:MD w H hd M
 ro:H rl=dk (.lst [.ref (l j'),.ref (l D')])
 rw:∀ b,yf H (l b) (r b)
 nl:l j'≠l D'
 nr:∀ b,l b≠rl
def Kp (xs:List G') (H H':Hp):Prop:=∀ c o,c ∉ xs->H c=dk o->H' c=dk o
def Kp.refl (xs:List G') (H:Hp):Kp xs H H:=λ_ _ _ e=>e
def Kp.trans {xs:List G'}{H H1 H2:Hp}(a:Kp xs H H1) (b:Kp xs H1 H2):Kp xs H H2:=λc o n e=>b c o n (a c o n e)
def Kp.mono {xs ys:List G'}{H H':Hp}(a:Kp xs H H') (h:∀ c,c∈xs->c∈ys):Kp ys H H':=λc o n e=>a c o (λz=>n (h c z)) e
section
variable {w:Jp}{C:G'}{H H':Hp}{x hd rl:G'}{l:Bool->G'}{M:List (Jg × V)}{r:Bool->List (Jg × V)}
def MD.there (m:MD w H hd M):∃ ee:List JM × Nat,H hd=dk (oK hd ee.1 ee.2):=let ⟨es,ep,h,_⟩:=m;⟨(es,ep),h⟩
def MD.keepS (m:MD w H hd M) (ha:∀ o,H hd=dk o->H' hd=dk o) (ht:∀ b vs,H b=dk (.tup vs)->H' b=dk (.tup vs)):MD w H' hd M:=by
 obtain⟨es,ep,h1,h2⟩:=id m;exact m.keep ((ha _ h1).trans h1.symm) ht
theorem Sto.keep (S:Sto w C H x hd rl l M r) (h:∀ c o,(c=x\/c=hd\/c=rl\/∃ b,c=l b)->H c=dk o->H' c=dk o) (ht:∀ b vs,H b=dk (.tup vs)->H' b=dk (.tup vs)):Sto w C H' x hd rl l M r:=by
 obtain⟨dx,e⟩:=S.ob;exact⟨⟨dx,h _ _ (.inl rfl) e⟩,S.me.keepS (λo=>h _ o (.inr (.inl rfl))) ht,h _ _ (.inr (.inr (.inl rfl))) S.ro,λb=>(S.rw b).keep (λo=>h _ o (.inr (.inr (.inr ⟨b,rfl⟩)))) ht,S.nl,S.nr⟩
def Sto.same (S:Sto w C H x hd rl l M r) (h:bZ H H'):Sto w C H' x hd rl l M r:=S.keep (λc o _ e=>h c o e) λb vs e=>h b _ e
def Sto.own (x hd rl:G') (l:Bool->G') (c:G'):Prop:=c=x\/c=hd\/c=rl\/c=l j'\/c=l D'
theorem Sto.there (S:Sto w C H x hd rl l M r) {c:G'}(h:Sto.own x hd rl l c):∃ o,H c=dk o/\(∀ xs,o≠.tup xs):=by
 rcases h with rfl|rfl|rfl|rfl|rfl
 . obtain⟨dx,e⟩:=S.ob;exact⟨_,e,λ_ z=>by cases z⟩
 . obtain⟨es,e⟩:=S.me.there;exact⟨_,e,λ_ z=>by cases z⟩
 . exact⟨_,S.ro,λ_ z=>by cases z⟩
 . obtain⟨ts,e,_⟩:=S.rw j';exact⟨_,e,λ_ z=>by cases z⟩
 . obtain⟨ts,e,_⟩:=S.rw D';exact⟨_,e,λ_ z=>by cases z⟩
end
def lg (M:List (Jg × V)) (es:List (Jg × V)):List (Jg × V):=es.foldl (λM p=>ui M p.1 p.2) M
def cm (M es:List (Jg × V)) (k:Jg):V:=match es.reverse.find? (λp=>Jt p.1 k) with
|some p=>p.2
|none=>(eW M k).getD (.int 0)
def AN (es:List (Jg × V)) (k:Jg):Option V:=(es.reverse.find? λp=>Jt p.1 k).map (·.2)
def ww (M es:List (Jg × V)) (k:Jg):cm M es k=((AN es k).or (eW M k)).getD (.int 0):=by
 unfold cm AN;cases es.reverse.find? (λp=>Jt p.1 k)<;>rfl
theorem wg {k k':Jg}(h:MX.kd k=D') (h':MX.kd k'=D') (v:V):∀ {M:List (Jg × V)},KK M->eW (M.map λp=>if Jt p.1 k'=D' then (p.1,v) else p) k=(eW M k).map λx=>if Jt k' k=D' then v else x
|[],_=>rfl
|p :: r,kk=>by
  have ih:=wg h h' v (M:=r) λq hq=>kk q (Jv _ hq)
  have kp:=kk p Jx;unfold eW at ih |-;rw[Kq,KW,KW];have e1:(if Jt p.1 k'=D' then (p.1,v) else p).1=p.1:=by split<;>rfl
  rw[e1];cases z:Jt p.1 k with
 |false=>exact ih
 |true =>
   have pk:=(MX.eqv_iff _ _ kp h).mp z;show dk (if Jt p.1 k'=D' then (p.1,v) else p).2=dk (if Jt k' k=D' then v else p.2);by_cases y:k'=k
   . subst y;rw[cC h',z];rfl
   . rw[eR h' h y,pk,eR h h' λq=>y q.symm];rfl
def vH {M:List (Jg × V)}{k k':Jg}(kk:KK M) (h':MX.kd k'=D') (h:MX.kd k=D') (v:V):eW (ui M k' v) k=if Jt k' k=D' then dk v else eW M k:=by
 by_cases n:k'∈M.map (·.1)
 . obtain⟨p,hp,e⟩:=Lg.mp n;have ha:(M.any λp=>Jt p.1 k')=D':=any_eq_true.mpr ⟨p,hp,by rw[e];exact cC h'⟩;unfold ui;rw[Pg ha,wg h h' v kk];by_cases y:k'=k
   . subst y;rw[cC h'];have:(eW M k').isSome=D':=by
      unfold eW;rw[isSome_map,List.find?_isSome];exact⟨p,hp,by rw[e];exact cC h'⟩
     cases z:eW M k' with
    |none=>rw[z]at this;cases this
    |some x=>rfl
   . rw[eR h' h y];cases eW M k<;>rfl
 . rw[yd h' kk n];unfold eW;rw[List.find?_append,KW];by_cases y:k'=k
   . subst y;have z:=wO h' kk n;unfold eW at z;rw[Option.map_eq_none_iff]at z;rw[z,cC h'];rfl
   . rw[eR h' h y];cases M.find? (λp=>Jt p.1 k)<;>rfl
mutual
theorem De {H:Hp}{D:G'}{o:HO}(hD:H D=Jd) (ho:∀ xs,o≠.tup xs):∀ {k:Jg}{y:V},MX.kd k=D'->DV (upd H D o) k y->DV H k y
|.int _,_,_,e=>e
|.str _,_,_,e=>e
|.tuple ds,_,h,⟨a,vs,e,ha,hv⟩=>by
  have ne:a≠D:=λz=>by
   rw[z,a9]at ha;exact ho vs (JF ha)
  exact⟨a,vs,e,by rw[aa ne]at ha;exact ha,wP hD ho h hv⟩
|.none,_,h,_=>by cases h
|.bool _,_,h,_=>by cases h
|.list _,_,h,_=>by cases h
|.dict _,_,h,_=>by cases h
theorem wP {H:Hp}{D:G'}{o:HO}(hD:H D=Jd) (ho:∀ xs,o≠.tup xs):∀ {ds:List Jg}{vs:List V},MX.kds ds=D'->DVs (upd H D o) ds vs->DVs H ds vs
|[],_,_,e=>e
|d :: ds,_,h,⟨v,r,e,h1,h2⟩=>by
  have h':(MX.kd d && MX.kds ds)=D':=h;rw[Kr]at h';exact⟨v,r,e,De hD ho h'.1 h1,wP hD ho h'.2 h2⟩
end
theorem mem_of_lookup {β:Type}{y:Str}{c:β}:∀ {l:List (Str × β)},l.lookup y=dk c->(y,c)∈l
|[],h=>by cases h
|(k,v) :: r,h=>by
  rw[List.lookup_cons]at h;cases e:y == k with
 |true =>
   rw[e]at h;cases h;rw[beq_iff_eq.mp e];exact Jx
 |false =>
   rw[e]at h;exact Jv _ (mem_of_lookup h)
def ck (X:Cx) (scope:Scope) (cl:List (Str × G')) (C:G') (xs N':List Str) (s₃:Jc) (H₃:Hp) (Lv:List (G' × Ku)) (ex:List G') (E':Ja->Jc->Prop):Cx :=
 { X with N:=N',s₀:=s₃,H₀:=H₃,env:=compEnvC scope cl C X.env,outer:=X.stack,stack:=X.stack,ex:=ex,fn:=λy=>xs.contains y,pn:=X.pn++Lv,xe:=E' }
abbrev cxR (X:Cx) (scope:Scope) (cl:List (Str × G')) (xs caps:List Str) (s₃:Jc) (H₃:Hp) (Lv:List (G' × Ku)) (fp:List G') (R:Result->Jc->Prop):Cx:=ck X scope cl s₃.heap.objs.size xs (xs++caps) s₃ H₃ Lv fp (notedBy (model X.prog X.w) X.A (compEnvC scope cl s₃.heap.objs.size X.env) λe s'=>R (.error e) s')
structure CompOk (X:Cx) (scope:Scope) (cl:List (Str × G')) (xs:List Str):Prop where
 kind:scope.kind=.function
 clos:closureFor scope X.env=pure cl
 nocell:∀ y∈scope.names,y.2≠.cell
 names:∀ y∈scope.names,y.2=.local->scope.names.lookup y.1=dk .local
 xloc:∀ x∈xs,scope.names.lookup x=dk .local
 sub:∀ p∈cl,X.env.cells.lookup p.1=dk p.2
 has:∀ p∈scope.names,p.2=.free->∃ c,cl.lookup p.1=dk c
 nox:∀ x∈xs,cl.lookup x=Jd
def Ap (X:Cx) (scope:Scope) (cl:List (Str × G')):List Str->List Nat->Prop
|[],[]=>True
|y :: ys,j :: js=>((∃ c,cl.lookup y=dk c)/\X.N[j]?=dk y/\(X.env.scope.names.lookup y=dk .cell\/X.env.scope.names.lookup y=dk .free)/\((relabel scope X.env).names.lookup y=dk .cell\/(relabel scope X.env).names.lookup y=dk .free))/\Ap X scope cl ys js
|_,_=>False
theorem Ap.len {X:Cx}{scope:Scope}{cl:List (Str × G')}:∀ {caps:List Str}{js:List Nat},Ap X scope cl caps js->caps.length=js.length
|[],[],_=>rfl
|_ :: _,_ :: _,⟨_,h⟩=>by rw[JN,JN,h.len]
theorem Ap.at' {X:Cx}{scope:Scope}{cl:List (Str × G')}{y:Str}:∀ {caps:List Str}{js:List Nat}{i:Nat},Ap X scope cl caps js->caps[i]?=dk y->∃ j,js[i]?=dk j/\(∃ c,cl.lookup y=dk c)/\X.N[j]?=dk y/\(X.env.scope.names.lookup y=dk .cell\/X.env.scope.names.lookup y=dk .free)/\((relabel scope X.env).names.lookup y=dk .cell\/(relabel scope X.env).names.lookup y=dk .free)
|[],[],_,_,e=>by simp at e
|_ :: _,j :: _,0,⟨h,_⟩,e=>by cases e;exact⟨j,rfl,h⟩
|_ :: _,_ :: _,i+1,⟨_,h⟩,e=>h.at' (i:=i) e
def PTs (X:Cx) (ifs:List Expr) (t:TT):Prop :=
 ∀ (Lv:List (G' × Ku)) (s:Jc) (σ:St) (H:Hp) (Q:Bool->Hp->Prop),Inv X Lv σ H s->t σ H Q ->
  Jo (model X.prog X.w) X.A (forIn ifs D' λc r=>if r=D' then do let ok <-isTrue c X.env (eval c X.env);pure (ForInStep.yield ok) else pure (ForInStep.yield r)) (TP X Lv σ Q) X.xe s
def mY {X:Cx}:PTs X [] (λ_ H Q=>Q D' H):=λLv s σ H Q I h=>by
 rw[forIn_nil];exact Jb ⟨H,I,h⟩
def rG {X:Cx}{c:Expr}{t:TT}(h:PT X c t):PTs X [c] t:=λLv s σ H Q I q=>wpAny_tests_one (h Lv s σ H Q I q)
def sH (σ:St) (js:List Nat):St:=js.map λj=>(σ[j]?).getD Jd
def ET (wi:TI) (js:List Nat) (tc:TT) (te:TE):TE:=λσ H Q=>wi σ H λJ H1=>∀ D,H1 D=Jd->∃ W:Nat->Nat->List V->Hp->Prop,(∃ m,W 0 m [] (upd H1 D (.lst []))) /\
 ∀ i m ys H2,W i m ys H2->H2 D=dk (.lst ys)/\ys.length < Jm/\((J.stop i H2/\Q (.ref D) H2)\/(J.go i H2/\∀ x H3,J.yld i H2 x H3 ->
  tc (dk x :: sH σ js) H3 λb H4=>if b=D' then te (dk x :: sH σ js) H4 λy H5=>H5 D=dk (.lst ys)/\∃ m',m' < m/\W (i+1) m' (ys++[y]) (upd H5 D (.lst (ys++[y])))
   else ∃ m',m' < m/\W (i+1) m' ys H4))
def FB (wi:TI) (g:TG) (js:List Nat) (tc:TT) (te:TE):TE:=λσ H Q=>wi σ H λJ H1=>∀ D,H1 D=Jd->∃ W:Nat->Nat->List V->Hp->Prop,(∃ m,W 0 m [] (upd H1 D (.lst []))) /\
 ∀ i m ys H2,W i m ys H2->H2 D=dk (.lst ys)/\ys.length < Jm/\((J.stop i H2/\Q (.ref D) H2)\/(J.go i H2/\∀ x H3,J.yld i H2 x H3->∀ v0 v1:Option V,
  g x (v0 :: v1 :: sH σ js) H3 λσ' H'=>∃ v0' v1',σ'=v0' :: v1' :: sH σ js/\tc σ' H' λb H4=>if b=D' then te σ' H4 λy H5=>H5 D=dk (.lst ys)/\∃ m',m' < m/\W (i+1) m' (ys++[y]) (upd H5 D (.lst (ys++[y])))
   else ∃ m',m' < m/\W (i+1) m' ys H4))
def RN (n:Nat) (g:TG) (js:List Nat) (tc:TT) (te:TE) (σ:St) (Q:VK) (J:It) (H1:Hp):Prop:=∀ D,H1 D=Jd->∃ W:Nat->Nat->List V->Hp->Prop,(∃ m,W 0 m [] (upd H1 D (.lst []))) /\
 ∀ i m ys H2,W i m ys H2->H2 D=dk (.lst ys)/\ys.length < Jm/\((J.stop i H2/\Q (.ref D) H2)\/(J.go i H2/\∀ x H3,J.yld i H2 x H3->∀ vs:St,vs.length=n->∃ Pk:St->Hp->Prop,g x (vs++sH σ js) H3 Pk/\∀ σ' H',Pk σ' H'->∃ vs':St,vs'.length=n/\σ'=vs'++sH σ js /\
  tc σ' H' λb H4=>if b=D' then te σ' H4 λy H5=>H5 D=dk (.lst ys)/\∃ m',m' < m/\W (i+1) m' (ys++[y]) (upd H5 D (.lst (ys++[y])))
   else ∃ m',m' < m/\W (i+1) m' ys H4))
def EX {X:Cx}{x1 x2:Str}{p1 p2 pos:Pos}{k:Nat}(hc:X.calm=D') (hN:X.N.Nodup) (h0:X.N[0]?=dk x1) (h1:X.N[1]?=dk x2) (l1:Loc X.env.scope x1) (l2:Loc X.env.scope x2) (f1:X.fn x1=D') (f2:X.fn x2=D') :
 PG X (.Tuple [.Name x1 p1,.Name x2 p2] k pos) (Hg X.K 2 (zn (mR 0) (zn (mR 1) GI))) :=
 tE hc (dM (bR hN h0 l1 (.inl f1)) (dM (bR hN h1 l2 (.inl f2)) nJ))
abbrev Dk (ifs:List Expr) (env:Env):Sem Bool:=forIn ifs D' λc r=>if r=D' then do
 let ok <-isTrue c env (eval c env)
 pure (ForInStep.yield ok) else pure (ForInStep.yield r)
def BS {P:Jz}{w:Jp}{A:JK}{R:Result->Jc->Prop}{s:Jc}{elt tg iter:Expr}{ifs:List Expr}{sc:Scope}{ps:Pos}{it acc:Ja}{env:Env}(J:Nat->Jc->Prop)
 (turn:∀ k t,J k t->Jo (model P w) A (pyNext it) (λo t1=>match o with
 |none=>R (.ok .next) t1
 |some y=>Jo (model P w) A (letOwnedTupleGo tg it y) (λ_ t2=>Jo (model P w) A (assign tg env y) (λ_ t3=>Jo (model P w) A (Dk ifs env) (λok t4 =>
   if ok=D' then Jo (model P w) A (eval elt env) (λx t5=>Jo (model P w) A (call (.builtin "list.append") [acc,x]) (λ_ t6=>∃ j,j < k/\J j t6) (notedBy (model P w) A env λe t'=>R (.error e) t') t5) (notedBy (model P w) A env λe t'=>R (.error e) t') t4
   else ∃ j,j < k/\J j t4) (notedBy (model P w) A env λe t'=>R (.error e) t') t3) (notedBy (model P w) A env λe t'=>R (.error e) t') t2) (notedBy (model P w) A env λe t'=>R (.error e) t') t1) (notedBy (model P w) A env λe t'=>R (.error e) t') t)
 (k:Nat) (h:J k s):codeAny (model P w) A (.compLoop (.ListComp elt [⟨tg,iter,ifs,0⟩] sc ps) 0 it acc env) R s:=by
 refine codeAny_loop rfl J (λk t hJ=>?_) k h;show Jo _ A (Sem.onRaise (compTurn (.ListComp elt [⟨tg,iter,ifs,0⟩] sc ps) 0 it acc env) (λy=>do noteFrame y env;theTreesLotGoes y)) _ _ t;refine wpAny_noted ?_;rw[compTurn_list];refine f' (wpAny_standAt (f' (thn (turn k t hJ) λo t1 h1=>?_)));cases o with
|none=>exact Jb h1
|some y =>
  refine f' (thn h1 λ_ t2 h2=>f' (thn h2 λ_ t3 h3=>f' (thn h3 λok t4 h4=>?_)));cases ok with
 |false=>exact Jb ⟨rfl,h4⟩
 |true =>
   rw[Pg rfl]at h4;refine f' (f' (thn h4 λx t5 h5=>f' (thn h5 λ_ t6 h6=>?_)));exact Jb (Jb ⟨rfl,h6⟩)
section
variable {X:Cx}{scope:Scope}{cl:List (Str × G')}{xs N':List Str}
def uo {names:List (Str × NameKind)}{env:Env}{y:Str}{k:NameKind}(h:(names.map λ(n,k)=>if (k == NameKind.free && env.scope.kind == .function && env.kindOf n == dk .cell) then (n,NameKind.cell) else (n,k)).lookup y=dk k) (hk:k=.cell\/k=.free) (hn:∀ p∈names,p.2≠.cell):∃ p∈names,p.1=y/\p.2=.free:=by
 obtain⟨⟨n,k0⟩,hp,e⟩:=Lg.mp (mem_of_lookup h);dsimp only at e;split at e
 . rename_i hc;injection e with e1 e2
   refine⟨_,hp,e1,?_⟩;rw[Kr,Kr]at hc;exact beq_iff_eq.mp hc.1.1
 . injection e with e1 e2
   refine⟨_,hp,e1,?_⟩;rcases hk with rfl|rfl
   . exact absurd e2 (hn _ hp)
   . exact e2
def xB {Lv:List (G' × Ku)}{σ:St}{H₃:Hp}{s₃:Jc}{ex:List G'}{E':Ja->Jc->Prop}(O:CompOk X scope cl xs) (I:Inv X Lv σ H₃ s₃) (hf:∀ b∈ex,vW X Lv H₃ b/\b < s₃.heap.objs.size) :
 (ck X scope cl s₃.heap.objs.size xs N' s₃ H₃ Lv ex E').Ok where
 mod:=I.ok.mod
 kind:=O.kind
 glob:=I.ok.glob
 blt:=I.ok.blt
 above:=Jk _
 inj:=λy z c h1 h2=>I.ok.inj y z c (O.sub _ (mem_of_lookup h1)) (O.sub _ (mem_of_lookup h2))
 has:=λy h=>by
  have h':∃ k,(relabel scope X.env).names.lookup y=dk k/\(k=.cell\/k=.free):=by
   rcases h with h|h
   . exact⟨_,h,.inl rfl⟩
   . exact⟨_,h,.inr rfl⟩
  obtain⟨k,e,hk⟩:=h';obtain⟨p,hp,rfl,e2⟩:=uo e hk O.nocell;exact O.has p hp e2
 cab:=λy c h1 h2=>by
  have h2':cl.lookup y=dk c:=h2;rw[O.nox y (List.contains_iff_mem.mp h1)]at h2';cases h2'
 hd:=I.ok.hd
 frames:=I.ok.frames
 stk:=.inl rfl
 exf:=λb hb=>⟨JR (hf b hb).2,λy c e=>(hf b hb).1.2.2.2.2.1 y c (O.sub _ (mem_of_lookup e))⟩
 bs:=I.bs
 bsz:=JU I.ok.bsz I.sz
 noex:=λb o e hb=>by
  obtain⟨_,_,_,h4,_⟩:=(hf b hb).1;rcases h4 with z|z
  . exact I.ok.noex b o e z
  . have g1:b < X.base.objs.size:=Jr e;exact absurd (Jj g1 (JU I.ok.bsz z)) (K1 _)
 exfs:=λb hb z=>by
  obtain⟨_,h2,h3,_⟩:=(hf b hb).1;rcases JE.mp (I.stkSub b z) with q|q
  . exact h2 q
  . exact h3 q
 funs:=I.stack
 frf:=I.stkFree
def Inv.block {Lv:List (G' × Ku)}{σ σ':St}{H₃ H':Hp}{s₃ s':Jc}{ex:List G'}{E':Ja->Jc->Prop}{h':JB}(I:Inv X Lv σ H₃ s₃) (hf:∀ b∈ex,vW X Lv H₃ b)
 (I':Inv (ck X scope cl s₃.heap.objs.size xs N' s₃ H₃ Lv ex E') [] σ' H' s') (hs:Kv s₃.heap.objs.size s'.heap h'):Inv X Lv σ H' { s' with heap:=h' }:=by
 have ne:∀ b o,s₃.heap.get? b=dk o->b≠s₃.heap.objs.size:=λb o e=>JR (Jr e)
 have fr:H' s₃.heap.objs.size=Jd:=I'.free;have hok:HOk X.prog X.w H' h':=λa o e=>by
  refine(I'.hok a o e).stay (λb u hb q=>(hs.2 b ?_).trans q) (λ_ q=>q) λ_ _ q=>q
  rintro rfl;rcases hb with z|z
  . rw[<-z,fr]at e;cases e
  . rw[fr]at z;cases z
 have u:Un (frs X.stack) ex H₃ H' s₃.heap h':=by
  obtain⟨k1,k2,k3,k4,k5,k6,k7⟩:=I'.base;refine⟨λb o q n hb hx=>(hs.2 b (ne b o q)).trans (k1 b o q n hb hx),λb o q n hb hx=>?_,k3,λb o q hx=>?_,k5,k6,k7⟩
  . obtain⟨sl,e⟩:=k2 b o q n hb hx;exact⟨sl,(hs.2 b (ne b o q)).trans e⟩
  . obtain⟨o',e⟩:=k4 b o q hx;exact⟨o',(hs.2 b (ne b o q)).trans e⟩
 exact I.call' (s':={ s' with heap:=h' }) I'.os u hok I'.bare λb hb=>⟨(hf b hb).2.2.2.1,(hf b hb).2.1,(hf b hb).2.2.2.2.1,(hf b hb).2.2.2.2.2⟩
def Inv.enter {Lv:List (G' × Ku)}{σ:St}{H₃:Hp}{s₃:Jc}{ex:List G'}{E':Ja->Jc->Prop}{caps:List Str}{js:List Nat}{h₁:JB}{tk:Nat}(O:CompOk X scope cl xs) (I:Inv X Lv σ H₃ s₃)
 (hf:∀ b∈ex,vW X Lv H₃ b/\b < s₃.heap.objs.size) (hcp:Ap X scope cl caps js)
 (hn:h₁.Ns s₃.heap.objs.size λ_=>Jd) (hk:∀ b o,s₃.heap.get? b=dk o->h₁.get? b=dk o) :
 Inv (ck X scope cl s₃.heap.objs.size xs (xs++caps) s₃ H₃ Lv ex E') [] (replicate xs.length Jd++sH σ js) H₃ { s₃ with heap:=h₁,toks:=tk }:=by
 have hlen:=hcp.len;obtain⟨m0,hm0,hl0⟩:=I.loc;refine⟨xB O I hf,rfl,I.bare,Un.kept hk,⟨_,hn,λi y v e1 e2 e3=>?_⟩,λy c e=>?_,I.hok.fresh (Jk _),λy c e=>I.freeC y c (O.sub _ (mem_of_lookup e)),λp hp=>?_,I.hok.kept hk,?_⟩
 . have e1':(xs++caps)[i]?=dk y:=e1;have e2':(replicate xs.length (Jd:Option V)++sH σ js)[i]?=dk (dk v):=e2;by_cases hi:i < xs.length
   . rw[List.getElem?_append_left (by rw[K6];exact hi),List.getElem?_replicate,Pg hi]at e2';cases e2'
   . rw[List.getElem?_append_right (by omega)]at e1';rw[List.getElem?_append_right (by rw[K6];omega),K6]at e2';obtain⟨j,ej,⟨c,hc⟩,hN,hk1,hk2⟩:=hcp.at' e1';unfold sH at e2';rw[Ke,ej]at e2';have e3':(σ[j]?).getD Jd=dk v:=by simpa using e2'
     have e4:σ[j]?=dk (dk v):=by
      cases q:σ[j]? with
     |none=>rw[q]at e3';cases e3'
     |some z=>rw[q]at e3';rw[show z=dk v from e3']
     obtain⟨u,r,l⟩:=hl0 j y v hN e4 (by rcases hk1 with z|z;exact .inr (.inl z);exact .inr (.inr z));refine⟨u,r,.inr ⟨hk2,c,hc,?_⟩⟩;rcases l with⟨z,_⟩|⟨_,c',z1,o,z2,z3⟩
     . have z':X.env.scope.names.lookup y=dk .local:=z;rcases hk1 with q|q<;>(rw[q]at z';cases z')
     . rw[O.sub _ (mem_of_lookup hc)]at z1;cases z1;exact⟨o,hk _ _ z2,z3⟩
 . obtain⟨v,o,z2,z3⟩:=I.cell y c (O.sub _ (mem_of_lookup e));exact⟨v,o,hk _ _ z2,z3⟩
 . have hp':p∈X.pn++Lv:=by simpa [ck] using hp
   obtain⟨g1,g2,g3,g4,g5⟩:=I.pin p hp';refine⟨hk _ _ g1,g2,JR (Jr g1),λz=>?_,g5⟩;rcases JE.mp (I.stkSub p.1 z) with q|q
   . exact g3 q
   . exact g4 q
 . show (replicate xs.length Jd++sH σ js).length=(xs++caps).length;unfold sH;rw[Ji,Ji,K6,Ju,hlen]
def nP {tg:Expr}{g:TG}{pos np:Pos}{iter elt:Expr}{ifs:List Expr}{caps:List Str}{js:List Nat}{wi:TI}{tc:TT}{te:TE}{use:Option (Ja->Sem Unit)}{QQ:Ja->Jc->Prop}{Q:VK}{Rd:It->Hp->Prop}{Lv:List (G' × Ku)}{s:Jc}{σ:St}{H:Hp}
 (hc:X.calm=D') (O:CompOk X scope cl xs) (hg:∀ C s₃ H₃ Lv ex E',PG (ck X scope cl C xs (xs++caps) s₃ H₃ Lv ex E') tg g)
 (hcp:Ap X scope cl caps js)
 (hi:PI X tg iter wi) (ht:∀ C s₃ H₃ Lv ex E',PTs (ck X scope cl C xs (xs++caps) s₃ H₃ Lv ex E') ifs tc) (he:∀ C s₃ H₃ Lv ex E',PE (ck X scope cl C xs (xs++caps) s₃ H₃ Lv ex E') elt te)
 (hs:∀ x,foldedSetIterable iter X.env x=pure x) (I:Inv X Lv σ H s) (h:wi σ H Rd) (hR:∀ J H1,Rd J H1->RN xs.length g js tc te σ Q J H1)
 (fl:∀ (s₃:Jc) (H₃ H':Hp) (s':Jc) (D:G') (f:Flow) (mm:Str->Option Ja),Inv X Lv σ H₃ s₃->s'.heap.Ns s₃.heap.objs.size mm->H' s₃.heap.objs.size=Jd->(∀ h',Kv s₃.heap.objs.size s'.heap h'->Inv X Lv σ H' { s' with heap:=h' })->Q (.ref D) H'->compPost (model X.prog X.w) X.A X.xe use QQ (.ref D) s₃.heap.objs.size (.ok f) s') :
 Jo (model X.prog X.w) X.A (comprehension (.ListComp elt [⟨tg,iter,ifs,0⟩] scope pos) scope X.env np (newList []) j' (eval iter X.env) use) QQ X.xe s:=by
 refine wpAny_comprehension_free rfl hs O.clos O.kind O.names (thn (hi Lv s σ H _ I h) λv s1 h1=>thn h1 λitv s2 ur42=>?_);obtain⟨it,fp,tn,J,H1,e,I2,T,t0,hf,q0⟩:=ur42;subst e;have q:=hR _ _ q0;refine Kf (wpAny_newFunctionEnv O.nocell (by intro y hy;cases hy) (λh₁ hns₁ hsb₁=>?_) O.kind);obtain⟨W,⟨m0,w0⟩,step⟩:=q s2.heap.objs.size (I2.hok.fresh (Jk _));have I3:Inv X Lv σ (upd H1 s2.heap.objs.size (.lst [])) { s2 with heap:=s2.heap.push { cls:=.type "list",data:=.seq ([]:List Ja).toArray } }:=I2.lnew (t':=s2.toks) (its:=[]) .nil (KG _);have fpl:∀ b∈fp,b < s2.heap.objs.size:=λb hb=>by
  obtain⟨o,e,_⟩:=T.obj _ _ t0 b hb;exact Jr e
 have hf3:∀ b∈fp,vW X Lv (upd H1 s2.heap.objs.size (.lst [])) b:=λb hb=>by
  obtain⟨f0,f⟩:=hf b hb;exact⟨by rw[aa (JR (fpl b hb))];exact f0,f⟩
 generalize hs3:({ s2 with heap:=s2.heap.push { cls:=.type "list",data:=.seq ([]:List Ja).toArray } }:Jc)=s₃ at *;generalize hH3:upd H1 s2.heap.objs.size (.lst [])=H₃ at *;have hsz:s2.heap.objs.size < s₃.heap.objs.size:=by rw[<-hs3];show _ < (s2.heap.push _).objs.size;rw[JB.size_push];exact lt_succ_self _
 have hk2:∀ b o,s2.heap.get? b=dk o->s₃.heap.get? b=dk o:=λb o e=>by rw[<-hs3];exact Jf _ e
 have hk3:∀ b o,s₃.heap.get? b=dk o->h₁.get? b=dk o:=λb o e=>hsb₁.extBut b o (JR (Jr e)) (Jf _ e)
 have t3:tn 0 h₁:=T.keep _ _ _ t0 λb _ o e=>hk3 b o (hk2 b o e)
 have loop:∀ (R:Result->Jc->Prop),(∀ f s',(∃ σ' H',Inv (cxR X scope cl xs caps s₃ H₃ Lv fp R) [] σ' H' s'/\Q (.ref s2.heap.objs.size) H')->R (.ok f) s') ->
  ∀ tk,codeAny (model X.prog X.w) X.A (.compLoop (.ListComp elt [⟨tg,iter,ifs,0⟩] scope pos) 0 (.ref it) (.ref s2.heap.objs.size) (compEnvC scope cl s₃.heap.objs.size X.env)) R { s₃ with heap:=h₁,toks:=tk }:=by
  intro R hR tk;have I4:=Inv.enter (E':=notedBy (model X.prog X.w) X.A (compEnvC scope cl s₃.heap.objs.size X.env) λe s'=>R (.error e) s') (tk:=tk) O I3 (λb hb=>⟨hf3 b hb,Nat.lt_trans (fpl b hb) hsz⟩) hcp (by simpa using hns₁) hk3;have stat:∀ {H':Hp},(∀ b∈fp,H' b=Jd)->∀ b∈fp,vW (cxR X scope cl xs caps s₃ H₃ Lv fp R) [] H' b:=λhn b hb=>by
   obtain⟨f0,f1,f2,f3,f4,f5⟩:=hf3 b hb;refine⟨hn b hb,JR (Nat.lt_trans (fpl b hb) hsz),λz=>?_,.inl hb,λy c e=>f4 y c (O.sub _ (mem_of_lookup e)),λp hp=>f5 p (by simpa [cxR,ck] using hp)⟩;rcases JE.mp (I3.stkSub b z) with q|q
   . exact f1 q
   . exact f2 q
  refine BS (λn s'=>∃ (i:Nat) (vs:St) (ys:List V) (H':Hp),vs.length=xs.length/\Inv (cxR X scope cl xs caps s₃ H₃ Lv fp R) [] (vs++sH σ js) H' s'/\tn i s'.heap/\(∀ b∈fp,H' b=Jd)/\W i n ys H') ?_ m0
   ⟨0,_,[],H₃,K6,I4,t3,λb hb=>(hf3 b hb).1,w0⟩
  rintro n s4 ⟨i,vs,ys,H4,vl,J4,t4,fr4,w4⟩;obtain⟨hD,hlen,hor⟩:=step i n ys H4 w4;rcases hor with⟨stop,qn⟩|⟨go,hy⟩
  . refine thn (T.done (cxR X scope cl xs caps s₃ H₃ Lv fp R) rfl rfl rfl hc i [] s4 _ H4 _ J4 (stat fr4) t4 stop) λr s5 ur43=>?_
    obtain⟨hr,J5⟩:=ur43;subst hr;exact hR _ _ ⟨_,H4,J5,qn⟩
  . refine thn (T.item (cxR X scope cl xs caps s₃ H₃ Lv fp R) rfl rfl rfl hc i [] s4 _ H4 _ J4 (stat fr4) t4 go) λr s5 ur44=>?_
    obtain⟨u,hr,h5⟩:=ur44;subst hr;refine thn h5 λ_ s6 ur45=>?_
    obtain⟨y,H6,J6,ry,yl,t6,fr6⟩:=ur45;have J6':=J6.pinned (stat fr6) (T.obj _ _ t6);obtain⟨Pk,hy6,hPk⟩:=hy y H6 yl vs vl;refine thn (hg _ _ _ _ _ _ _ s6 _ H6 y u _ J6' ry hy6) λ_ s7 ur46=>?_
    obtain⟨σ7,H7,J7,q7⟩:=ur46;obtain⟨vs',vl',e7,hy7⟩:=hPk _ _ q7;subst e7;refine thn (ht _ _ _ _ _ _ _ s7 _ H7 _ J7 hy7) λok s8 ur47=>?_
    obtain⟨H8,J8,q8⟩:=ur47;have back:∀ {σ9:St} {H9:Hp} {s9:Jc},Inv (cxR X scope cl xs caps s₃ H₃ Lv fp R) ([]++tY fp s6.heap) σ9 H9 s9->tn (i+1) s9.heap/\∀ b∈fp,H9 b=Jd:=λJ9=>by
     refine⟨T.keep _ _ _ t6 λb hb o e=>(J9.pin (b,o) (Kz _ (Kz _ (jy hb e)))).1,λb hb=>?_⟩;obtain⟨o,e,d⟩:=T.obj _ _ t6 b hb;exact(J9.pin (b,o) (Kz _ (Kz _ (jy hb e)))).2.1
    cases ok with
   |false =>
     rw[Ph (by decide)];rw[Ph (by decide)]at q8;obtain⟨m',hm,w8⟩:=q8;obtain⟨b1,b2⟩:=back J8;exact⟨m',hm,i+1,vs',ys,H8,vl',J8.unpinned,b1,b2,w8⟩
   |true =>
     rw[Pg rfl];rw[Pg rfl]at q8;refine thn (he _ _ _ _ _ _ _ s8 _ H8 _ J8 q8) λz s9 ur48=>?_
     obtain⟨vz,H9,J9,rz,hD9,m',hm,w9⟩:=ur48;refine thn (dC (X:=(cxR X scope cl xs caps s₃ H₃ Lv fp R)) _ s9 _ H9 (.ref s2.heap.objs.size) [vz] (.ref s2.heap.objs.size) [z] (λ_ H10=>H10=upd H9 s2.heap.objs.size (.lst (ys++[vz]))) J9 rfl (.cons rz .nil) ⟨_,ys,vz,rfl,rfl,hD9,hlen,rfl⟩) λ_ s10 ur49=>?_
     obtain⟨v10,H10,J10,r10,e10⟩:=ur49;subst e10;obtain⟨b1,b2⟩:=back J10;exact⟨m',hm,i+1,vs',ys++[vz],_,vl',J10.unpinned,b1,b2,w9⟩
 have fin:∀ tk,codeAny (model X.prog X.w) X.A (.compLoop (.ListComp elt [⟨tg,iter,ifs,0⟩] scope pos) 0 (.ref it) (.ref s2.heap.objs.size) (compEnvC scope cl s₃.heap.objs.size X.env)) (compPost (model X.prog X.w) X.A X.xe use QQ (.ref s2.heap.objs.size) s₃.heap.objs.size) { s₃ with heap:=h₁,toks:=tk }:=λtk=>by
  refine loop _ (λf s' ur50=>?_) tk;obtain⟨σ',H',J',qn⟩:=ur50;obtain⟨mm,hmm,_⟩:=J'.loc;exact fl s₃ H₃ H' s' _ f mm I3 hmm J'.free (λh' hs'=>Inv.block I3 hf3 J' hs') qn
 exact codeAny_compStart_list (fin _) (T.self _ _ _ _ _ t3 (fin _))
end
section
variable {X:Cx}{scope:Scope}{cl:List (Str × G')}{x x2 x3:Str}{js:List Nat}{tc:TT}{te:TE}{σ:St}{Q:VK}{J:It}{H1:Hp}{g:TG}{caps:List Str}{pos:Pos}{tg iter elt:Expr}{ifs:List Expr}{wi:TI}
def HR (h:∀ D,H1 D=Jd->∃ W:Nat->Nat->List V->Hp->Prop,(∃ m,W 0 m [] (upd H1 D (.lst []))) /\
 ∀ i m ys H2,W i m ys H2->H2 D=dk (.lst ys)/\ys.length < Jm/\((J.stop i H2/\Q (.ref D) H2)\/(J.go i H2/\∀ x H3,J.yld i H2 x H3 ->
  tc (dk x :: sH σ js) H3 λb H4=>if b=D' then te (dk x :: sH σ js) H4 λy H5=>H5 D=dk (.lst ys)/\∃ m',m' < m/\W (i+1) m' (ys++[y]) (upd H5 D (.lst (ys++[y])))
   else ∃ m',m' < m/\W (i+1) m' ys H4))):RN 1 (mR 0) js tc te σ Q J H1:=λD hD=>by
 obtain⟨W,w0,step⟩:=h D hD;refine⟨W,w0,λi m ys H2 hw=>?_⟩;obtain⟨a,b,c⟩:=step i m ys H2 hw;refine⟨a,b,c.imp_right λ⟨g1,g2⟩=>⟨g1,λx H3 yl vs hl=>?_⟩⟩
 match vs,hl with
|[v0],_=>exact⟨λσ' H'=>σ'=dk x :: sH σ js/\H'=H3,⟨rfl,rfl⟩,λσ' H' uq12=>by(obtain⟨e1,e2⟩:=uq12;exact ⟨[dk x],rfl,e1,by rw[e1,e2];exact g2 x H3 yl⟩)⟩
def IL (h:∀ D,H1 D=Jd->∃ W:Nat->Nat->List V->Hp->Prop,(∃ m,W 0 m [] (upd H1 D (.lst []))) /\
 ∀ i m ys H2,W i m ys H2->H2 D=dk (.lst ys)/\ys.length < Jm/\((J.stop i H2/\Q (.ref D) H2)\/(J.go i H2/\∀ x H3,J.yld i H2 x H3->∀ v0 v1:Option V,
  g x (v0 :: v1 :: sH σ js) H3 λσ' H'=>∃ v0' v1',σ'=v0' :: v1' :: sH σ js/\tc σ' H' λb H4=>if b=D' then te σ' H4 λy H5=>H5 D=dk (.lst ys)/\∃ m',m' < m/\W (i+1) m' (ys++[y]) (upd H5 D (.lst (ys++[y])))
   else ∃ m',m' < m/\W (i+1) m' ys H4))):RN 2 g js tc te σ Q J H1:=λD hD=>by
 obtain⟨W,w0,step⟩:=h D hD;refine⟨W,w0,λi m ys H2 hw=>?_⟩;obtain⟨a,b,c⟩:=step i m ys H2 hw;refine⟨a,b,c.imp_right λ⟨g1,g2⟩=>⟨g1,λx H3 yl vs hl=>?_⟩⟩
 match vs,hl with
|[v0,v1],_=>exact⟨_,g2 x H3 yl v0 v1,λσ' H' uq13=>by(obtain⟨a1,a2,e1,e2⟩:=uq13;exact ⟨[a1,a2],rfl,e1,e2⟩)⟩
def HF {px:Pos}{C:G'}{s₃:Jc}{H₃:Hp}{Lv:List (G' × Ku)}{ex:List G'}{E':Ja->Jc->Prop}(O:CompOk X scope cl [x]) (hnd:(x :: caps).Nodup):PG (ck X scope cl C [x] ([x]++caps) s₃ H₃ Lv ex E') (.Name x px) (mR 0) :=
 bR (i:=0) hnd rfl (.inl (lookup_relabel_local (O.xloc x Jx))) (.inl (show [x].contains x=D' from List.contains_iff_mem.mpr Jx))
def z0 {Lv:List (G' × Ku)}(s₃:Jc) (H₃ H':Hp) (s':Jc) (D:G') (f:Flow) (mm:Str->Option Ja) (_:Inv X Lv σ H₃ s₃) (hm:s'.heap.Ns s₃.heap.objs.size mm) (_:H' s₃.heap.objs.size=Jd) (hb:∀ h',Kv s₃.heap.objs.size s'.heap h'->Inv X Lv σ H' { s' with heap:=h' }) (qn:Q (.ref D) H'):compPost (model X.prog X.w) X.A X.xe Jd (EP X Lv σ Q) (.ref D) s₃.heap.objs.size (.ok f) s' :=
 ⟨mm,hm,λh' hs'=>⟨.ref D,H',hb h' hs',rfl,qn⟩⟩
def nQ {px:Pos}(hc:X.calm=D') (O:CompOk X scope cl [x]) (hnd:(x :: caps).Nodup)
 (hcp:Ap X scope cl caps js)
 (hi:PI X (.Name x px) iter wi) (ht:∀ C s₃ H₃ Lv ex E',PTs (ck X scope cl C [x] (x :: caps) s₃ H₃ Lv ex E') ifs tc) (he:∀ C s₃ H₃ Lv ex E',PE (ck X scope cl C [x] (x :: caps) s₃ H₃ Lv ex E') elt te)
 (hs:∀ x,foldedSetIterable iter X.env x=pure x:=by intro _;rfl):PE X (.ListComp elt [⟨.Name x px,iter,ifs,0⟩] scope pos) (ET wi js tc te):=by
 intro Lv s σ H Q I h;rw[eval_ListComp];exact nP hc O (λ_ _ _ _ _ _=>HF O hnd) hcp hi ht he hs I h (λ_ _=>HR) z0
def C1 (hc:X.calm=D') (O:CompOk X scope cl [x,x2]) (hg:∀ C s₃ H₃ Lv ex E',PG (ck X scope cl C [x,x2] (x :: x2 :: caps) s₃ H₃ Lv ex E') tg g)
 (hcp:Ap X scope cl caps js)
 (hi:PI X tg iter wi) (ht:∀ C s₃ H₃ Lv ex E',PTs (ck X scope cl C [x,x2] (x :: x2 :: caps) s₃ H₃ Lv ex E') ifs tc) (he:∀ C s₃ H₃ Lv ex E',PE (ck X scope cl C [x,x2] (x :: x2 :: caps) s₃ H₃ Lv ex E') elt te)
 (hs:∀ x,foldedSetIterable iter X.env x=pure x:=by intro _;rfl):PE X (.ListComp elt [⟨tg,iter,ifs,0⟩] scope pos) (FB wi g js tc te):=by
 intro Lv s σ H Q I h;rw[eval_ListComp];exact nP hc O hg hcp hi ht he hs I h (λ_ _=>IL) z0
def EY {Lv:List (G' × Ku)}{D:Ends}{yT:Str}{iN:Nat}{py:Pos}(hN:X.N.Nodup) (hiN:X.N[iN]?=dk yT) (hyL:Loc X.env.scope yT) (hfN:X.fn yT=D'\/X.env.scope.names.lookup yT=dk .local) (s₃:Jc) (H₃ H':Hp) (s':Jc) (Da:G') (f:Flow) (mm:Str->Option Ja) (I3:Inv X Lv σ H₃ s₃) (hmm:s'.heap.Ns s₃.heap.objs.size mm) (fr:H' s₃.heap.objs.size=Jd) (hb:∀ h',Kv s₃.heap.objs.size s'.heap h'->Inv X Lv σ H' { s' with heap:=h' }) (qn:mR iN (.ref Da) σ H' D.nx) :
 compPost (model X.prog X.w) X.A X.xe (dk (assign (.Name yT py) X.env)) (λ_ s'=>SP X Lv D .next s') (.ref Da) s₃.heap.objs.size (.ok f) s':=by
 have I5:Inv X Lv σ H' s':=hb _ (Kv.refl _ _);show Jo _ _ (assign (.Name yT py) X.env _) _ _ _;refine wpAny_assign_Name (sG I5 hN hiN hyL (v:=.ref Da) rfl (λs6 I6 ur51=>?_) hfN);obtain⟨a6,hs6,ha6⟩:=ur51;have neL:s₃.heap.objs.size≠X.env.locals:=(JR I3.lt).symm;have neCl:∀ y c,X.env.cells.lookup y=dk c->c≠s₃.heap.objs.size:=λy c z=>by
  obtain⟨v,q⟩:=I3.cell _ _ z;exact JR q.lt
 have neC:s₃.heap.objs.size≠a6:=by
  rcases ha6 with z|z
  . rw[z];exact neL
  . exact(neCl _ _ z).symm
 refine⟨mm,JB.Ns.sameBut hmm hs6 neC,λh' hs'=>⟨_,H',I6.turned (t':=s6.toks) (it:=s₃.heap.objs.size) (λb o hb e=>(hs'.2 b hb).trans e) fr neL (.inr I3.sz) neCl (λp hp=>JR (Jr (I3.pin p hp).1)),qn⟩⟩
def BL {Lv:List (G' × Ku)}{s:Jc}{H:Hp}{D:Ends}{yT:Str}{py spos:Pos}(hsw:swapsWith (.ListComp elt [⟨tg,iter,ifs,0⟩] scope pos) (dk (.Name yT py)) spos.line X.env=pure D')
 (h:∀ (np:Pos) (s:Jc),Inv X Lv σ H s->Jo (model X.prog X.w) X.A (comprehension (.ListComp elt [⟨tg,iter,ifs,0⟩] scope pos) scope X.env np (newList []) j' (eval iter X.env) (dk (assign (.Name yT py) X.env))) (λ_ s'=>SP X Lv D .next s') X.xe s) (I:Inv X Lv σ H s) :
 Jo (model X.prog X.w) X.A (exec (.Assign [.Name yT py] (.ListComp elt [⟨tg,iter,ifs,0⟩] scope pos) spos) X.env) (SP X Lv D) X.xe s:=by
 rw[exec_Assign_Name_used _ _ _ _ hsw];refine f' (wpAny_standAt (f' ?_));exact f' (Lh (h _ _ (by first|exact I|exact I.stood _)) (λ_ s' hq=>Jb (Jb hq)) λ_ _ e=>e)
def qk {px py spos:Pos}{yT:Str}{iN:Nat}(hN:X.N.Nodup) (hiN:X.N[iN]?=dk yT) (hyL:Loc X.env.scope yT) (hsw:swapsWith (.ListComp elt [⟨.Name x px,iter,ifs,0⟩] scope pos) (dk (.Name yT py)) spos.line X.env=pure D') (hc:X.calm=D') (O:CompOk X scope cl [x]) (hnd:(x :: caps).Nodup)
 (hcp:Ap X scope cl caps js)
 (hi:PI X (.Name x px) iter wi) (ht:∀ C s₃ H₃ Lv ex E',PTs (ck X scope cl C [x] (x :: caps) s₃ H₃ Lv ex E') ifs tc) (he:∀ C s₃ H₃ Lv ex E',PE (ck X scope cl C [x] (x :: caps) s₃ H₃ Lv ex E') elt te)
 (hs:∀ x,foldedSetIterable iter X.env x=pure x:=by intro _;rfl) (hfN:X.fn yT=D'\/X.env.scope.names.lookup yT=dk .local:=by first|exact .inl rfl|exact .inr rfl|assumption) :
 PS X (.Assign [.Name yT py] (.ListComp elt [⟨.Name x px,iter,ifs,0⟩] scope pos) spos) (GJ (ET wi js tc te) (mR iN)):=λ_ _ σ _ D I h =>
 BL hsw (λ_ _ I=>nP (Q:=λv H1=>mR iN v σ H1 D.nx) hc O (λ_ _ _ _ _ _=>HF O hnd) hcp hi ht he hs I h (λ_ _=>HR (Q:=λv H1=>mR iN v σ H1 D.nx)) (EY hN hiN hyL hfN)) I
end
def yE (env:Env):List (Str × G')->Prop
|[]=>True
|p :: r=>env.cells.lookup p.1=dk p.2/\yE env r
theorem yE.all {env:Env}:∀ {cl:List (Str × G')},yE env cl->∀ p∈cl,env.cells.lookup p.1=dk p.2
|[],_,p,h=>by cases h
|q :: r,⟨a,b⟩,p,h=>by
  rcases JE.mp h with rfl|h
  . exact a
  . exact yE.all b p h
theorem vh {α β:Type}{f:α->β}{b:β}:∀ {xs:List α},xs.map f=xs.map (λ_=>b)->∀ x∈xs,f x=b
|[],_,_,h=>by cases h
|y :: ys,e,x,h=>by
  rw[Kq,Kq]at e;injection e with e1 e2
  rcases JE.mp h with z|z
  . rw[z];exact e1
  . exact vh e2 x z
def mr {X:Cx}{scope:Scope}{cl:List (Str × G')}{xs:List Str}(kind:scope.kind=.function) (clos:closureFor scope X.env=pure cl) (nocell:∀ y∈scope.names,y.2≠.cell) (names:∀ y∈scope.names,y.2=.local->scope.names.lookup y.1=dk .local)
 (xloc:xs.map (λx=>scope.names.lookup x)=xs.map λ_=>dk .local) (sub:yE X.env cl) (has:(scope.names.all λp=>p.2 != .free || (cl.lookup p.1).isSome)=D') (nox:xs.map (λx=>cl.lookup x)=xs.map λ_=>Jd):CompOk X scope cl xs :=
 ⟨kind,clos,nocell,names,vh xloc,sub.all,λp hp hf=>by
  have h:=all_eq_true.mp has p hp;rw[hf]at h;have h':(cl.lookup p.1).isSome=D':=by simpa using h
  exact Option.isSome_iff_exists.mp h',vh nox⟩
section
variable {X:Cx}
end
def IF (t u:TS):TS:=λD σ H=>∃ B:St->Hp->Prop,t { D with nx:=B } σ H/\∀ σ' H',B σ' H'->u D σ' H'
def lM {X:Cx}{st:JT}{c8:List JT}{t u:TS}(h1:PS X st t) (h2:PSs X c8 u):PSs X (st :: c8) (IF t u):=by
 intro Lv s σ H D I h;obtain⟨B,h,k⟩:=h;refine wpAny_execs_cons (thn (h1 Lv s σ H { D with nx:=B } I h) λf s1 q=>?_);cases f with
|next =>
  obtain⟨σ',H',I',q⟩:=q;exact h2 Lv s1 σ' H' D I' (k σ' H' q)
|ret v=>exact q
|brk=>exact q
|cont=>exact q
def GK (t:TT):TT:=λσ H Q=>∃ B:Bool->Hp->Prop,t σ H B/\∀ b H',B b H'->Q b H'
def qp {X:Cx}{e:Expr}{t:TT}(h:PT X e t):PT X e (GK t):=by
 intro Lv s σ H Q I q;obtain⟨B,q,k⟩:=q;exact thn (h Lv s σ H B I q) λb s1 uq14=>by(obtain⟨H1,I1,z⟩:=uq14;exact ⟨H1,I1,k b H1 z⟩)
mutual
theorem Bx:∀ d:Jg,d.canLay0=D'->Jt d d=D'
|.none,_=>rfl
|.bool b,_=>by simp[Jt]
|.int i,_=>by simp[Jt]
|.str t,_=>by simp[Jt]
|.list xs,h=>by
  have h':KD xs=D':=by simpa [Jg.canLay0] using h
  simpa [Jt] using kF xs h'
|.tuple xs,h=>by
  have h':KD xs=D':=by simpa [Jg.canLay0] using h
  simpa [Jt] using kF xs h'
|.dict _,h=>by simp[Jg.canLay0]at h
theorem kF:∀ xs:List Jg,KD xs=D'->Jg.eqvAll xs xs=D'
|[],_=>rfl
|x :: xs,h=>by
  have h':x.canLay0=D'/\KD xs=D':=by simpa [KD] using h
  simp[Jg.eqvAll,Bx x h'.1,kF xs h'.2]
end
section
variable {X:Cx}{pos:Pos}
end
def dc.here {P:Jz}{w:Jp}{H:Hp}{h:JB}{a:G'}{o:HO}(x:dc P w H h a o):∃ ob,h.get? a=dk ob:=by
 cases o with
|lst xs=>obtain⟨_,_,_,_,e⟩:=x;exact⟨_,e⟩
|tup xs=>obtain⟨_,_,_,_,e,_⟩:=x;exact⟨_,e⟩
|dK kvs=>obtain⟨_,_,_,_,o,_,_,e,_⟩:=x;exact⟨_,e⟩
|dT kvs=>obtain⟨_,_,_,_,o,_,_,e,_⟩:=x;exact⟨_,e⟩
|set S n=>obtain⟨o,_,_,_,e,_⟩:=x;exact⟨_,e⟩
|ins C dx fs=>obtain⟨_,_,_,e,_⟩:=x;exact⟨_,e⟩
|own y=>exact x
|xd fs=>obtain⟨_,⟨_,_,_,e,_⟩,_⟩:=x;exact⟨_,e⟩
|rng lo hi=>obtain⟨_,_,_,e⟩:=x;exact⟨_,e⟩
|frz ob u=>exact⟨_,x.1⟩
|tbl ps=>exact⟨_,show h.get? a=dk _ from x⟩
|met f y=>exact⟨_,show h.get? a=dk _ from x⟩
|ext φ=>exact x.2.1
def HOk.nothing {P:Jz}{w:Jp}{H:Hp}{h:JB}{a:G'}(ok:HOk P w H h) (e:h.get? a=Jd):H a=Jd:=by
 cases q:H a with
|none=>rfl
|some o =>
  obtain⟨ob,e'⟩:=(ok a o q).here;rw[e']at e;cases e
def Trc (h:JB) (e T:G') (cls fl:Ja):Prop :=
 ∃ oe vs oT ts a0,h.get? e=dk oe/\(oe.cls=cls/\vs[0]?=dk a0)/\oe.data=.fields vs/\vs[1]?=dk (.ref T)/\T≠e/\h.get? T=dk oT/\oT.data=.fields ts/\ts[3]?=dk fl
def Trc.on {h B:JB}{e T:G'}{cls fl:Ja}(x:Trc h e T cls fl) (hB:B.get? T=Jd):∃ a0,h.TracedAtW B e cls a0 fl:=by
 obtain⟨oe,vs,oT,ts,a0,h1,h2,h3,h4,h5,h6,h7,h8⟩:=x;exact⟨a0,oe,vs,T,oT,ts,h1,h2,h3,h4,hB,h5,h6,h7,h8⟩
def Apt (X:Cx) (Lv:List (G' × Ku)) (H:Hp) (b:G'):Prop :=
 X.s₀.heap.get? b=Jd/\H b=Jd/\b≠X.env.locals/\(∀ x c,X.env.cells.lookup x=dk c->c≠b)/\∀ p∈X.pn++Lv,p.1≠b
section
variable {X:Cx}{Lv:List (G' × Ku)}{σ:St}{H H':Hp}{s:Jc}{h':JB}
def Inv.apt (I:Inv X Lv σ H s) (hx:X.ex=[]) {b:G'}(e:s.heap.get? b=Jd) (n:H' b=Jd):Apt X Lv H' b:=by
 refine⟨?_,n,?_,λx c hc z=>?_,λp hp z=>?_⟩
 . cases q:X.s₀.heap.get? b with
  |none=>rfl
  |some o =>
    obtain⟨o',e'⟩:=I.base.there b o q (by rw[hx];simp);rw[e]at e';cases e'
 . rintro rfl;obtain⟨m,⟨o,_,_,ho,_⟩,_⟩:=I.loc;rw[e]at ho;cases ho
 . obtain⟨v,o,ho,_⟩:=I.cell x c hc;rw[z,e]at ho;cases ho
 . have ho:=(I.pin p hp).1;rw[z,e]at ho;cases ho
def Inv.fsIn (I:Inv X Lv σ H s):∀ b∈X.fs,b∈frs X.stack:=λb hb=>by
 rcases I.ok.stk with e|⟨e,f⟩
 . rw[e];exact hb
 . rw[e];show b∈List.filterMap (·.frame) (X.env :: X.outer);rw[filterMap_cons,f];exact Jv _ hb
def Inv.moved (I:Inv X Lv σ H s) (ch:List G') (hch:∀ b∈ch,Apt X Lv H b) (keep:∀ b o,b ∉ ch->b ∉ frs X.stack->s.heap.get? b=dk o->h'.get? b=dk o)
 (slot:∀ b o,b∈frs X.stack->s.heap.get? b=dk o->∃ sl,h'.get? b=dk { o with slots:=sl }):Inv X Lv σ H { s with heap:=h' }:=by
 have up:∀ b o,b ∉ ch->s.heap.get? b=dk o->∃ sl,h'.get? b=dk { o with slots:=sl }:=λb o n e=>by
  by_cases z:b∈frs X.stack
  . exact slot b o z e
  . exact⟨o.slots,keep b o n z e⟩
 have neL:∀ b o,X.s₀.heap.get? b=dk o->b≠X.env.locals:=λb o e=>JR (Jj (Jr e) I.ok.above)
 have neC:∀ b o,X.s₀.heap.get? b=dk o->b ∉ ch:=λb o e z=>by
  rw[(hch b z).1]at e;cases e
 have nst:∀ b,b≠X.env.locals->b ∉ X.fs->b ∉ frs X.stack:=λb n1 n2 z=>(JE.mp (I.stkSub b z)).elim n1 n2
 have cellU:∀ x c,X.env.cells.lookup x=dk c->∀ v,s.heap.IsCell c v->h'.IsCell c v:=λx c hc v ⟨o,ho,hd⟩=>by
  obtain⟨sl,q⟩:=up c o (λz=>(hch c z).2.2.2.1 x c hc rfl) ho;exact⟨_,q,hd⟩
 refine⟨I.ok,I.os,I.bare,⟨λb o e n hb hx=>?_,λb o e n hb hx=>?_,I.base.free,λb o e hx=>?_,I.base.tups,I.base.frzs,I.base.tbls⟩,?_,λx c e=>?_,I.free,I.freeC,λp hp=>?_,λa o e=>?_,I.len⟩
 . exact keep b o (neC b o e) (nst b (neL b o e) hb) (I.base.keep b o e n hb hx)
 . obtain⟨sl,e1⟩:=I.base.slot b o e n hb hx;obtain⟨sl',e2⟩:=slot b _ (I.fsIn b hb) e1;exact⟨sl',e2⟩
 . obtain⟨o',e1⟩:=I.base.there b o e hx;obtain⟨sl,e2⟩:=up b o' (neC b o e) e1;exact⟨_,e2⟩
 . obtain⟨m,⟨o,es,ep,ho,r⟩,hl⟩:=I.loc;obtain⟨sl,q⟩:=up _ o (λz=>(hch _ z).2.2.1 rfl) ho;refine⟨m,⟨_,es,ep,q,r⟩,λi x v e1 e2 e3=>?_⟩;obtain⟨u,r',l⟩:=hl i x v e1 e2 e3;refine⟨u,r',?_⟩;rcases l with l|⟨k,c,e,z⟩
   . exact .inl l
   . exact .inr ⟨k,c,e,cellU x c e _ z⟩
 . obtain⟨v,z⟩:=I.cell x c e;exact⟨v,cellU x c e v z⟩
 . obtain⟨e,n,ne,nf,d⟩:=I.pin p hp;exact⟨keep p.1 p.2 (λz=>(hch p.1 z).2.2.2.2 p hp rfl) (nst p.1 ne nf) e,n,ne,nf,d⟩
 . refine(I.hok a o e).stay (λb u hb q=>keep b u (λz=>?_) (λz=>?_) q) (λ_ q=>q) λ_ _ q=>q
   . have n:=(hch b z).2.1;rcases hb with rfl|hb
     . rw[n]at e;cases e
     . rw[n]at hb;cases hb
   . have n:=I.stkFree b z;rcases hb with rfl|hb
     . rw[n]at e;cases e
     . rw[n]at hb;cases hb
abbrev hid (X:Cx) (h:JB) (e T:G'):JB:=hideAll h (e :: T :: frs X.stack)
def kM {h:JB}{e T:G'}:(hid X h e T).StaysIn h:=λ_ _ q=>of_hideAll _ q
def jC {h:JB}{e T:G'}(F:h.FunFrames X.base X.stack):h.FunFrames (hid X h e T) X.stack :=
 funFrames_hide F λenv he a ha=>Jv _ (Jv _ (mem_filterMap.mpr ⟨env,he,ha⟩))
def DJ {h:JB}{e T:G'}:(hid X h e T).get? e=Jd:=hideAll_none _ Jx
def DZ {h:JB}{e T:G'}:(hid X h e T).get? T=Jd:=hideAll_none _ (Jv _ Jx)
def Inv.flown (hx:X.ex=[]) (I:Inv X Lv σ H s) {e T:G'}{cls a0 fl:Ja}(aE:Apt X Lv H e) (aT:Apt X Lv H T) (k1:(hid X s.heap e T).StaysIn h') (k2:h'.FunFrames (hid X s.heap e T) X.stack)
 (k3:h'.TracedAtW (hid X s.heap e T) e cls a0 fl) (k4:s.heap.UpToSlots h'):Inv X Lv σ H { s with heap:=h' }/\∃ T',Trc h' e T' cls fl/\Apt X Lv H T':=by
 refine⟨I.moved [e,T] (λb hb=>?_) (λb o n1 n2 q=>?_) (λb o hb q=>?_),?_⟩
 . rcases JE.mp hb with rfl|hb
   . exact aE
   . rw[Je.mp hb];exact aT
 . refine k1 b o (hideAll_get _ q λz=>?_);rcases JE.mp z with z|z
   . exact n1 (by rw[z];exact Jx)
   . rcases JE.mp z with z|z
     . exact n1 (by rw[z];simp)
     . exact n2 z
 . obtain⟨_,o',e',hd⟩:=I.stack.mem hb;rw[q]at e';cases e';exact k4 b o q hd
 . obtain⟨oe,vs,T',oT,ts,h1,h2,h3,h4,h5,h6,h7,h8,h9⟩:=k3;refine⟨T',⟨oe,vs,oT,ts,a0,h1,h2,h3,h4,h6,h7,h8,h9⟩,?_⟩;by_cases z:T'=T
   . rw[z];exact aT
   . have nf:T' ∉ frs X.stack:=λy=>by
      obtain⟨_,o',e',hd⟩:=k2.mem y;rw[h7]at e';cases e';exact hd _ h8
     have hn:s.heap.get? T'=Jd:=by
      cases q:s.heap.get? T' with
     |none=>rfl
     |some o =>
       have:=hideAll_get (e :: T :: frs X.stack) q λy=>by
        rcases JE.mp y with y|y
        . exact h6 y
        . rcases JE.mp y with y|y
          . exact z y
          . exact nf y
       rw[h5]at this;cases this
     exact I.apt hx hn (I.hok.nothing hn)
end
def CXv (P:Jz) (w:Jp):CXT:=λouter H s E e s'=>∃ (ex T:G') (cls:Ja) (H':Hp),e=.ref ex/\s'.os=s.os/\AllBare s'.gens/\Un (frs outer) [] H H' s.heap s'.heap/\HOk P w H' s'.heap/\Trc s'.heap ex T cls .none /\
 s.heap.get? ex=Jd/\s.heap.get? T=Jd/\H' ex=Jd/\H' T=Jd/\E cls Jd H'
structure Raisy (X:Cx) (E:XK):Prop where
 ex:X.ex=[]
 stk:X.stack=X.env :: X.outer
 frm:X.env.frame=dk X.env.locals
 xe:X.xe=λe s'=>Jo (model X.prog X.w) X.A («leaving» X.env e) (λ_ s''=>CXv X.prog X.w X.outer X.H₀ X.s₀ E e s'') (λe' s''=>CXv X.prog X.w X.outer X.H₀ X.s₀ E e' s'') s'
section
variable {X:Cx}{Lv:List (G' × Ku)}{σ:St}{H H':Hp}{s:Jc}{E:XK}
def Inv.out (hx:X.ex=[]) (I:Inv X Lv σ H s) {e T:G'}{cls:Ja}(t:Trc s.heap e T cls .none) (aE:Apt X Lv H e) (aT:Apt X Lv H T) (q:E cls Jd H):CXv X.prog X.w X.outer X.H₀ X.s₀ E (.ref e) s:=by
 refine⟨e,T,cls,H,rfl,I.os,I.bare,?_,I.hok,t,aE.1,aT.1,aE.2.1,aT.2.1,q⟩;have u:=I.base;rw[hx]at u;exact u
def xy (R:Raisy X E) (I:Inv X Lv σ H s) {e:G'}{cls:Ja}{args:List Ja}{h2:JB}(M:JB.MadeExcOf s.heap h2 e cls args) (q:E cls Jd H):X.xe (.ref e) { s with heap:=h2 }:=by
 rw[R.xe];have aE:Apt X Lv H e:=I.apt R.ex M.new (I.hok.nothing M.new);have I2:Inv X Lv σ H { s with heap:=h2 }:=I.kept (t':=s.toks) M.keeps;obtain⟨t,he,_,_⟩:=M.there;have hA:X.A.frames=dk (X.env :: X.outer):=by rw[<-R.stk];exact I.ok.frames
 have FF:=jC (e:=e) (T:=e) I2.stack;rw[R.stk]at FF;refine wpAny_leaving_firstW (base:=hid X h2 e e) (a0:=.ref t) hA FF R.frm he kM DJ rfl rfl rfl λh' hL=>?_
 obtain⟨k1,k2,k3,k4⟩:=hL;rw[<-R.stk]at k2;obtain⟨I3,T',t3,aT⟩:=I2.flown R.ex aE aE k1 k2 k3 k4;exact I3.out R.ex t3 aE aT q
def Raisy.passes (R:Raisy X E):jK (CXv X.prog X.w) X E:=by
 intro Lv σ H s e s' I h;obtain⟨ex,T,cls,H',rfl,os,bare,un,hok,t,n1,n2,n3,n4,q⟩:=h;have I2:Inv X Lv σ H' s':=I.call' (ch:=[]) os un hok bare (λb z=>absurd z (by simp));have aE:Apt X Lv H' ex:=I.apt R.ex n1 n3;have aT:Apt X Lv H' T:=I.apt R.ex n2 n4;rw[R.xe];have hA:X.A.frames=dk (X.env :: X.outer):=by rw[<-R.stk];exact I.ok.frames
 have FF:=jC (e:=ex) (T:=T) I2.stack;rw[R.stk]at FF;obtain⟨a0,tw⟩:=t.on (DZ (X:=X) (h:=s'.heap) (e:=ex) (T:=T));refine wpAny_leaving_nextW (base:=hid X s'.heap ex T) (a0:=a0) hA FF R.frm tw kM DJ λh' hL=>?_
 obtain⟨k1,k2,k3,k4⟩:=hL;rw[<-R.stk]at k2;obtain⟨I3,T',t3,aT'⟩:=I2.flown R.ex aE aT k1 k2 k3 k4;exact I3.out R.ex t3 aE aT' q
end
def veB:List Ja:=[.type "ValueError",.type "Exception",.type "BaseException",.type "object"]
def Di {K:Jh}{h:JB}{C:G'}(X:K.In h) (q:excIn K C veB "ValueError.__new__"=D') :
 ∃ bm N nm qn bs hd sn sub ab col dd k0 k1 k2 k3 k5 mN,h.get? C=dk (excClassObj nm qn C N bs bm hd sn sub ab col dd k0 k1 k2 k3 k5 "ValueError.__new__")/\h.Ns N mN/\mN "__init__"=Jd/\OwnTail h veB bm:=by
 unfold excIn at q;split at q
 . rename_i dd cd sl ho;split at q
   . rename_i C' bm k0 k1 k2 k3 n k5 hm hs;obtain⟨nm,bs,mro,ns,qn,hd,sn,sub,ab,col,del⟩:=cd;simp only[Kr,beq_iff_eq,Lm]at q hm;have q1:=q.1.1.1.1.1;have q2:=q.1.1.1.1.2;have q3:=q.1.1.1.2;have es:sl=#[k0,k1,k2,k3,dk (.builtin n),k5]:=Array.ext' hs;rw[hm,q3,es,q1,q2]at ho;have hok:=q.1.2;refine⟨bm,ns,nm,qn,bs,hd,sn,sub,ab,col,dd,k0,k1,k2,k3,k5,h.nsMap ns,X _ _ ho,?_,nsMap_none_of_in X hok q.2,tail_of_in X q.1.1.2⟩;exact JB.Ns.of_isNs (isNs_of_in X hok)
   . cases q
 . cases q
def Fk (E:XK) (C:G') (t:TA):TS:=λ_ σ H=>t σ H λvs H1=>vs.length <= Jm/\E (.ref C) Jd H1
def gU {X:Cx}{E:XK}{x:Str}{C:G'}{e:Expr}{es:List Expr}{t:TA}{np cpos pos:Pos}(R:Raisy X E) (hh:X.A.handled=Jd) (hg:Gl X x) (hm:X.mg x=dk (.ref C)) (hc:excIn X.K C veB "ValueError.__new__"=D')
 (ha:PA X (e :: es) t) (hdb:(x == ("__debug__":Str))=j':=by decide) (he:JL (e :: es) X.env=(j',eval e X.env) :: JL es X.env:=by rfl) (hpl:(Le cpos (JL (e :: es) X.env)).any (·.1)=j':=by rfl) :
 PS X (.Raise (dk (.Call (.Name x np) (e :: es) [] cpos)) Jd pos) (Fk E C t):=by
 intro Lv s σ H D I h;obtain⟨bm,N,nm,qn,bs,hd,sn,sub,ab,col,dd,k0,k1,k2,k3,k5,mN,hC,hN,hni,TL⟩:=Di I.ok.mod.kin hc;refine wpAny_Raise_call_subT (C:=C) (nm:=nm) (q:=qn) (N:=N) (bs:=bs) (bm:=bm) (hdct:=hd) (sn:=sn) (sub:=sub) (ab:=ab) (col:=col) (dd:=dd) (k0:=k0) (k1:=k1) (k2:=k2) (k3:=k3) (k5:=k5) PySem.F.excBase_ValueError (mN:=mN)
  (TL.hasType PySem.F.excBase_ValueError.hasBase) hh hpl hni (jd I hg hm ⟨rfl,?_⟩ hdb)
 have hq:=ha cpos Lv s σ H _ I h;have e2:Le cpos (JL (e :: es) X.env)=Le cpos ((j',eval e X.env) :: JL es X.env):=by rw[he]
 rw[e2]at hq |-;refine K2 (thn hq λus s2 ur52=>?_);obtain⟨vs,H2,I2,r,z,q⟩:=ur52;exact⟨rfl,by rw[<-r.length];exact z,I2.bk _ _ hC,hN.keeps I2.bk,TL.keeps I2.bk,λh' ex M=>xy R I2 M q⟩
def Fun.okX {P:Jz}{w:Jp}{K:Jh}{mg:Str->Option Ja}{base:JB}{x qual:Str}{st:JT}{f:G'}{fd:Jq}{N ps:List Str}{k:Nat}{sp:Sp}(F:Fun K x qual st f fd) (S:FnScope N ps (af st)) (len:∀ vs H Q E,sp vs H Q E->vs.length=ps.length)
 (hbody:∀ (cdv:Ja) (A:JK) (outer:List Env) (s:Jc) (H:Hp) (vs:List V) (Q:VK) (E:XK),Room k (A.deeper (envOfC qual (af st) s.heap.objs.size f cdv))->Raisy (Cc (CXv P w) P w K mg base N qual (af st) f cdv A outer s H E) E->sp vs H Q E ->
  ∃ t,PSs (Cc (CXv P w) P w K mg base N qual (af st) f cdv A outer s H E) (dY st) t/\t { nx:=λ_ H'=>Q .non H',rt:=Q } (rC N vs) H):FnOk P w K mg base (CXv P w) (k+1) f fd ps sp:=by
 obtain⟨oc,od,kV,doc,pm,an,cdv,ct,osl,rfl,lk,hcd⟩:=F.ex;exact Fn lk hcd S len λA outer s H vs Q E hr hsp=>hbody cdv A outer s H vs Q E hr ⟨rfl,rfl,rfl,rfl⟩ hsp
abbrev Cx.tryX (X:Cx) (Lv:List (G' × Ku)) (R:St->Ja->Hp->Prop):Cx :=
 { X with pn:=X.pn++Lv,xe:=λe s'=>∃ (ex T:G') (cls:Ja) (σ':St) (H':Hp),e=.ref ex/\Inv X Lv σ' H' s'/\Trc s'.heap ex T cls .none/\Apt X Lv H' ex/\Apt X Lv H' T/\R σ' cls H' }
abbrev Cx.inH (X:Cx) (e:Ja):Cx:={ X with A:=X.A.mark (dk e),calm:=j',xe:=λ_ _=>False }
section
variable {X:Cx}{Lv pins':List (G' × Ku)}{σ:St}{H H':Hp}{s:Jc}{R:St->Ja->Hp->Prop}{e:Ja}
def Cx.Ok.try_ (ok:X.Ok):(X.tryX Lv R).Ok:=⟨ok.mod,ok.kind,ok.glob,ok.blt,ok.above,ok.inj,ok.has,ok.cab,ok.hd,ok.frames,ok.stk,ok.exf,ok.bs,ok.bsz,ok.noex,ok.exfs,ok.funs,ok.frf⟩
def Cx.Ok.untry (ok:(X.tryX Lv R).Ok):X.Ok:=⟨ok.mod,ok.kind,ok.glob,ok.blt,ok.above,ok.inj,ok.has,ok.cab,ok.hd,ok.frames,ok.stk,ok.exf,ok.bs,ok.bsz,ok.noex,ok.exfs,ok.funs,ok.frf⟩
theorem Inv.try_ (I:Inv X Lv σ H s):Inv (X.tryX Lv R) [] σ H s:=⟨I.ok.try_,I.os,I.bare,I.base,I.loc,I.cell,I.free,I.freeC,λp hp=>I.pin p (by simpa [Cx.tryX] using hp),I.hok,I.len⟩
theorem Inv.untry (I:Inv (X.tryX Lv R) pins' σ H s):Inv X Lv σ H s:=⟨I.ok.untry,I.os,I.bare,I.base,I.loc,I.cell,I.free,I.freeC,λp hp=>I.pin p (List.mem_append_left _ hp),I.hok,I.len⟩
theorem Cx.Ok.inH (ok:X.Ok):(X.inH e).Ok:=⟨ok.mod,ok.kind,ok.glob,ok.blt,ok.above,ok.inj,ok.has,ok.cab,λz=>(by cases z),ok.frames,ok.stk,ok.exf,ok.bs,ok.bsz,ok.noex,ok.exfs,ok.funs,ok.frf⟩
theorem Inv.inH (I:Inv X Lv σ H s):Inv (X.inH e) Lv σ H s:=⟨I.ok.inH,I.os,I.bare,I.base,I.loc,I.cell,I.free,I.freeC,I.pin,I.hok,I.len⟩
def Inv.outH (ok:X.Ok) (I:Inv (X.inH e) Lv σ H s):Inv X Lv σ H s:=⟨ok,I.os,I.bare,I.base,I.loc,I.cell,I.free,I.freeC,I.pin,I.hok,I.len⟩
theorem SP.outH {D:Ends}{f:Flow}{s':Jc}(ok:X.Ok) (h:SP (X.inH e) Lv D f s'):SP X Lv D f s':=by
 cases f with
|next=>obtain⟨σ',H',I,q⟩:=h;exact⟨σ',H',I.outH ok,q⟩
|brk=>obtain⟨σ',H',I,q⟩:=h;exact⟨σ',H',I.outH ok,q⟩
|cont=>obtain⟨σ',H',I,q⟩:=h;exact⟨σ',H',I.outH ok,q⟩
|ret u=>obtain⟨v,σ',H',I,r,q⟩:=h;exact⟨v,σ',H',I.outH ok,r,q⟩
theorem SP.untry {D:Ends}{f:Flow}{s':Jc}(h:SP (X.tryX Lv R) pins' D f s'):SP X Lv D f s':=by
 cases f with
|next=>obtain⟨σ',H',I,q⟩:=h;exact⟨σ',H',I.untry,q⟩
|brk=>obtain⟨σ',H',I,q⟩:=h;exact⟨σ',H',I.untry,q⟩
|cont=>obtain⟨σ',H',I,q⟩:=h;exact⟨σ',H',I.untry,q⟩
|ret u=>obtain⟨v,σ',H',I,r,q⟩:=h;exact⟨v,σ',H',I.untry,r,q⟩
end
structure Framed (X:Cx):Prop where
 ex:X.ex=[]
 stk:X.stack=X.env :: X.outer
 frm:X.env.frame=dk X.env.locals
abbrev TH:=Ends->St->Ja->Hp->Prop
def PH (X:Cx) (hs:List ExceptHandler) (t:TH):Prop :=
 ∀ (Lv:List (G' × Ku)) (s:Jc) (σ:St) (H:Hp) (D:Ends) (ex T:G') (cls:Ja),Inv X Lv σ H s->Trc s.heap ex T cls .none->Apt X Lv H ex->Apt X Lv H T->t D σ cls H ->
  Jo (model X.prog X.w) X.A (handleBy (.ref ex) X.env hs) (SP X Lv D) X.xe s
def Hh:TH:=λ_ _ _ _=>False
def EN {X:Cx}:PH X [] Hh:=λ_ _ _ _ _ _ _ _ _ _ _ _ h=>h.elim
def FA (K:Jh) (C:Ja) (tb:TS) (tr:TH):TH:=λD σ cls H=>∃ b,Ki K cls C=dk b/\if b=D' then tb D σ H else tr D σ cls H
section
variable {X:Cx}
def Trc.ty {M:Model}{h:JB}{e T:G'}{cls fl:Ja}(t:Trc h e T cls fl):Looks M h (typeOf (.ref e)) cls:=by
 obtain⟨oe,vs,oT,ts,a0,h1,⟨rfl,_⟩,_⟩:=t;exact(Looks.ld h1).andThen .now
def HI {Lv:List (G' × Ku)}{σ:St}{H:Hp}{s:Jc}{ex T:G'}{cls fl:Ja}{A:JK}{Q:Unit->Jc->Prop}{E:Ja->Jc->Prop}(hx:X.ex=[]) (I:Inv X Lv σ H s) (t:Trc s.heap ex T cls fl) (aE:Apt X Lv H ex) (aT:Apt X Lv H T)
 (h:∀ s' T',Inv X Lv σ H s'->Trc s'.heap ex T' cls .none->Apt X Lv H T'->Q () s'):Jo (model X.prog X.w) A (setFlight (.ref ex) Jd) Q E s:=by
 obtain⟨a0,tw⟩:=t.on (DZ (X:=X) (h:=s.heap) (e:=ex) (T:=T));refine wpAny_setFlight_noneW (base:=hid X s.heap ex T) (l:=X.stack) kM (jC I.stack) tw λh' k1 k2 k3 k4=>?_
 obtain⟨I3,T',t3,aT'⟩:=I.flown hx aE aT k1 k2 k3.at λb o q n=>⟨o.slots,k4 b o q n⟩
 exact h _ T' I3 t3 aT'
def Ee {x:Str}{C:G'}{b₀:JT}{suite:List JT}{np pos:Pos}{c8:List ExceptHandler}{tb:TS}{tr:TH}(F:Framed X) (hg:Gl X x) (hm:X.mg x=dk (.ref C)) (hb:∀ e,PSs (X.inH e) (b₀ :: suite) tb) (hr:PH X c8 tr)
 (hdb:(x == ("__debug__":Str))=j':=by decide):PH X (.ExceptHandler (dk (.Name x np)) Jd (b₀ :: suite) pos :: c8) (FA X.K (.ref C) tb tr):=by
 intro Lv s σ H D ex T cls I t aE aT h;obtain⟨b,hx,h⟩:=h;refine wpAny_handleBy_cons (codeAny_handlers_test (jd (X:=X.inH (.ref ex)) I.inH hg hm ?_ hdb)) (by intro q;cases q);refine(exm_one (M:=model X.prog X.w) I.kIn t.ty hx).at ?_;cases b with
|false=>exact hr Lv s σ H D ex T cls I t aE aT h
|true =>
  refine codeAny_handlers_suite (HI F.ex I t aE aT λs' T' I' t' aT'=>?_);exact Lh (hb (.ref ex) Lv s' σ H D I'.inH h) (λf s2 q=>q.outH I.ok) λ_ _ z=>Kx z
def Ir (tb:(St->Ja->Hp->Prop)->TS) (th:TH):TS:=λD σ H=>∃ R:St->Ja->Hp->Prop,tb R D σ H/\∀ σ' cls H',R σ' cls H'->th D σ' cls H'
def EI {body:List JT}{h₀:ExceptHandler}{hs:List ExceptHandler}{pos:Pos}{tb:(St->Ja->Hp->Prop)->TS}{th:TH}(F:Framed X) (hb:∀ Lv R,PSs (X.tryX Lv R) body (tb R)) (hh:PH X (h₀ :: hs) th):PS X (.Try body (h₀ :: hs) [] [] pos) (Ir tb th):=by
 intro Lv s σ H D I h;obtain⟨R,h,k⟩:=h;refine wpAny_Try_except (Lh (hb Lv R [] s σ H D I.try_ h) (λf s1 q=>?_) λe s1 q=>?_)
 . have q':=q.untry;cases f with
  |next=>exact wpAny_execs_nil q'
  |brk=>exact q'
  |cont=>exact q'
  |ret u=>exact q'
 . obtain⟨ex,T,cls,σ',H',rfl,I1,t,aE,aT,r⟩:=q;have hA:X.A.frames=dk (X.env :: X.outer):=by rw[<-F.stk];exact I.ok.frames
   have FF:=jC (e:=ex) (T:=T) I1.stack;rw[F.stk]at FF;obtain⟨a0,tw⟩:=t.on (DZ (X:=X) (h:=s1.heap) (e:=ex) (T:=T));refine wpAny_noteFrame_onW (base:=hid X s1.heap ex T) (a0:=a0) hA FF F.frm tw kM DJ λh' hL=>?_
   obtain⟨k1,k2,k3,k4⟩:=hL;rw[<-F.stk]at k2;obtain⟨I2,T2,t2,aT2⟩:=I1.flown F.ex aE aT k1 k2 k3 k4;exact HI F.ex I2 t2 aE aT2 λs3 T3 I3 t3 aT3=>hh Lv s3 σ' H' D ex T3 cls I3 t3 aE aT3 (k σ' cls H' r)
end
def Fr (C:G') (m:Str) (sp:Sp) (dvs:List V) (R:St->Ja->Hp->Prop) (ta:TE) (t:TA):TE:=λσ H Q=>ta σ H λx H1=>∃ a dx fs,x=.ref a/\H1 a=dk (.ins C dx fs)/\fs.lookup m=Jd /\
 t σ H1 λvs H2=>sp (x :: (vs++dvs)) H2 Q λcls _ H'=>R σ cls H'
section
variable {X:Cx}{k:Nat}{f C:G'}{fd:Jq}{ps:List Str}{sp:Sp}{dvs:List V}{ds:List Ja}{x m:Str}{p pos apos:Pos}{e o:Expr}{es:List Expr}{ta:TE}{t:TA}{Lv:List (G' × Ku)}{R:St->Ja->Hp->Prop}
def DU {pins':List (G' × Ku)}{σ:St}{H:Hp}{s:Jc}{Q:VK}{us:List Ja}{vs:List V}(hx:X.ex=[]) (F:FnOk X.prog X.w X.K X.mg X.base (CXv X.prog X.w) k f fd ps sp) (hr:Room k X.A) (hb:ay X.K fd ps ds) (hd:bE dvs ds)
 (I:Inv (X.tryX Lv R) pins' σ H s) (r:bE vs us) (h:sp (vs++dvs) H Q λcls _ H'=>R σ cls H'):Jo (model X.prog X.w) X.A (call (.ref f) us) (EP (X.tryX Lv R) pins' σ Q) (X.tryX Lv R).xe s:=by
 have r2:bE (vs++dvs) (us++ds):=r.append hd;have hl:(us++ds).length=ps.length:=r2.length.symm.trans (F.len _ _ _ _ h);refine wpAny_call (codeAny_mono (F.run X.A X.stack s H ⟨us,[]⟩ _ _ Q _ hr I.env0 (hb s us I.kIn hl) r2 h) λr s' hq=>?_);cases r with
|error e =>
  obtain⟨ex,T,cls,H',rfl,os,bare,un,hok,t,n1,n2,n3,n4,q⟩:=hq;exact⟨ex,T,cls,σ,H',rfl,(I.call' (ch:=[]) os un hok bare (λb z=>absurd z (by simp))).untry,t,I.untry.apt hx n1 n3,I.untry.apt hx n2 n4,q⟩
|ok fl =>
  cases fl with
 |ret u=>exact I.after hq
 |next=>exact Kx hq
 |brk=>exact Kx hq
 |cont=>exact Kx hq
def B1 {pl:Sem Bool}(hx:X.ex=[]) (he:PE (X.tryX Lv R) o ta) (c:Cls X.K C) (hm:Meth X.K C m f) (F:FnOk X.prog X.w X.K X.mg X.base (CXv X.prog X.w) k f fd ps sp) (hr:Room k X.A) (hb:ay X.K fd ps ds) (hd:bE dvs ds) (ha:PA (X.tryX Lv R) (e :: es) t)
 (hst:JL (e :: es) X.env=(j',eval e X.env) :: JL es X.env:=by rfl) (hpl:(Le pos (JL es X.env)).any (·.1)=j':=by rfl)
 (ht:eval (.Call (.Attribute o m apos) (e :: es) [] pos) X.env=(do
  let ov <-eval o X.env
  standAt apos.atName
  let (f,first) <-holding [ov] (getMethod ov m pl)
  callWith pos f first (Le pos (JL (e :: es) X.env)) (backToKw pos (keywordEach [] X.env))):=by rfl) :
 PE (X.tryX Lv R) (.Call (.Attribute o m apos) (e :: es) [] pos) (Fr C m sp dvs R ta t):=by
 intro pins' s σ H Q I h;refine methodCall_KW (pl:=pl) (thn (he pins' s σ H _ I h) λu s1 z=>?_) ht;obtain⟨x,H1,I1,rx,a,dx,fs,ex,ea,l,q⟩:=z;subst ex;cases (show u=JJ a from rx);refine mh I1 ea c hm l (callWith_K (first:=[.ref a]) (h₀:=X.base) I.ok.mod.kin hm.kp (thn (ha pos pins' s1 σ H1 _ I1 q) λus s2 z=>?_) hst hpl);obtain⟨vs,H2,I2,r,q2⟩:=z;exact⟨I2.kIn,DU (us:=.ref a :: us) (vs:=.ref a :: vs) hx F hr hb hd I2 (.cons rfl r) q2⟩
end
end L2
namespace PySem.W
open PySem PySem.Calls PyProof.Rows Builtin Builtin.ObjectAttr Builtin.Getset_descriptor
section
variable {prog:Jz}{w:Jp}{A:JK}{E:Ja->Jc->Prop}{h:JB}{g:Array GenState}{d:Drawn}{t:Nat}{os:OsState}{K:Frag}{x C:G'}{ox:Ku}
end
end PySem.W
namespace L2
open PySem PySem.Spec PyProof.Rows
section
variable {X:Cx}{Lv:List (G' × Ku)}{σ:St}{H:Hp}{s:Jc}
def Inv.seen {x:G'}{o:HO}(I:Inv X Lv σ H s) (a:Apt X Lv H x) (new:dc X.prog X.w (upd H x o) s.heap x o):Inv X Lv σ (upd H x o) s:=by
 obtain⟨a1,a2,a3,a4,a5⟩:=a;have ne:∀ b u,H b=dk u->b≠x:=λb u e z=>by rw[z,a2]at e;cases e
 refine⟨I.ok,I.os,I.bare,⟨I.base.keep,I.base.slot,λb u e n hx=>?_,I.base.there,λb xs e=>?_,λb u v e=>?_,λb ps e=>?_⟩,I.loc,I.cell,?_,λy c e=>?_,λp hp=>?_,λb u e=>?_,I.len⟩
 . rw[aa (λz=>by rw[z,a1]at e;cases e)];exact I.base.free b u e n hx
 . have q:=I.base.tups b xs e;rw[aa (ne _ _ q)];exact q
 . have q:=I.base.frzs b u v e;rw[aa (ne _ _ q)];exact q
 . obtain⟨more,q⟩:=I.base.tbls b ps e;exact⟨more,by rw[aa (ne _ _ q)];exact q⟩
 . rw[aa (K9 a3)];exact I.free
 . rw[aa (a4 y c e)];exact I.freeC y c e
 . obtain⟨e,n,r⟩:=I.pin p hp;exact⟨e,by rw[aa (a5 p hp)];exact n,r⟩
 . by_cases hb:b=x
   . subst hb;rw[a9]at e;cases e;exact new
   . rw[aa hb]at e;refine(I.hok b u e).stay (λ_ _ _ q=>q) (λc q=>?_) λc xs q=>?_
     . rw[aa (ne _ _ q)];exact q
     . rw[aa (ne _ _ q)];exact q
end
end L2
namespace PySem
open Sem (wp)
def SqI (b:Bool) (h:JB) (i l:G') (k:Nat):Prop:=match b with
|false=>h.IsListIter i l k
|true=>h.IsTupleIter i l k
def SqA (b:Bool) (h:JB) (l:G') (xs:Array Ja):Prop:=match b with
|false=>h.IsList l xs
|true=>h.IsTuple l xs
def SqI.at {b:Bool}{h h':JB}{i l:G'}{k:Nat}(x:SqI b h i l k) (e:∀ o,h.get? i=dk o->h'.get? i=dk o):SqI b h' i l k:=by
 cases b<;>(obtain⟨o,h1,r⟩:=x;exact⟨o,e o h1,r⟩)
def SqA.at {b:Bool}{h h':JB}{l:G'}{xs:Array Ja}(x:SqA b h l xs) (e:∀ o,h.get? l=dk o->h'.get? l=dk o):SqA b h' l xs:=by
 cases b<;>(obtain⟨o,h1,r⟩:=x;exact⟨o,e o h1,r⟩)
def SqI.obj {b:Bool}{h:JB}{i l:G'}{k:Nat}(x:SqI b h i l k):∃ o,h.get? i=dk o/\∀ v,o.data≠.cell v:=by
 cases b<;>(obtain⟨o,h1,_,h3⟩:=x;exact⟨o,h1,λv z=>by rw[h3]at z;cases z⟩)
def SqA.lt {b:Bool}{h:JB}{l:G'}{xs:Array Ja}(x:SqA b h l xs):l < h.objs.size:=by
 cases b<;>(obtain⟨o,h1,_⟩:=x;exact Jr h1)
section
variable {prog:Jz}{w:Jp}{A:JK}{E:Ja->Jc->Prop}{s:Jc}
def Al {b:Bool}{it l:G'}{i:Nat}{items:Array Ja}{x:Ja}{Q:Ja->Jc->Prop}(hit:SqI b s.heap it l i) (hl:SqA b s.heap l items) (hx:items[i]?=dk x)
 (hQ:∀ h',SqI b h' it l (i+1)->Kv it s.heap h'->Q x { s with heap:=h' }):Jo (model prog w) A (Km (.ref it)) Q E s:=by
 cases b with
|false=>exact wpAny_nextOf_list_item hit hl hx hQ
|true =>
  have hty:s.TypeIs (.ref it) "tuple_iterator":=JB.IsTupleIter.typeIs hit;obtain⟨o,ho,hc,hd⟩:=id hit;obtain⟨ol,hol,_,nl,hdl⟩:=hl;unfold Km;refine f' (JV (name:=K0 "__next__") hty F.slot_tuple_iterator_next (JS F.slot_tuple_iterator_next hty F.entry_tuple_iterator_next ?_ (F.args_tuple_iterator_next_1 _)));show Jo _ _ (field (.ref it) 0 >>= _) _ _ s;refine f' (KI ho hd (x:=.ref l) rfl ?_);show Jo _ _ (if (JJ l == Ko)=D' then _ else _) _ _ s;rw[Ph (show ¬ ((JJ l == Ko)=D') from Jw)];show Jo _ _ (field (.ref it) 1 >>= _) _ _ s;refine f' (KI ho hd (x:=.int i 0) rfl ?_);show Jo _ _ (seqItems? (.ref l) >>= _) _ _ s;refine f' (K8 hol hdl ?_);simp only[toNat_natCast,hx];refine f' (wpAny_setField ho hd (by simp) (Jb ⟨x,rfl,Jb (hQ _ ?_ (JX ..))⟩));exact⟨_,Ks _ ho (Ku.isFreed_of_fields (Ku.data_mapFields hd _)),(Ku.cls_mapFields ..).trans hc,by rw[Ku.data_mapFields hd];simp[rawInt]⟩
def uF {b:Bool}{it l:G'}{i:Nat}{items:Array Ja}{Q:Ja->Jc->Prop}(hh:A.handled=Jd) (hit:SqI b s.heap it l i) (hl:SqA b s.heap l items) (hx:items[i]?=Jd)
 (hE:∀ h' e,JB.ExtBut it s.heap h'->(∃ o,h'.get? e=dk o/\o.cls=.type "StopIteration")->E (.ref e) { s with heap:=h' }):Jo (model prog w) A (Km (.ref it)) Q E s:=by
 cases b with
|false=>exact wpAny_nextOf_list_end hh hit hl hx hE
|true =>
  have hty:s.TypeIs (.ref it) "tuple_iterator":=JB.IsTupleIter.typeIs hit;obtain⟨o,ho,hc,hd⟩:=id hit;obtain⟨ol,hol,_,nl,hdl⟩:=hl;unfold Km;refine f' (JV (name:=K0 "__next__") hty F.slot_tuple_iterator_next (JS F.slot_tuple_iterator_next hty F.entry_tuple_iterator_next ?_ (F.args_tuple_iterator_next_1 _)));show Jo _ _ (field (.ref it) 0 >>= _) _ _ s;refine f' (KI ho hd (x:=.ref l) rfl ?_);show Jo _ _ (if (JJ l == Ko)=D' then _ else _) _ _ s;rw[Ph (show ¬ ((JJ l == Ko)=D') from Jw)];show Jo _ _ (field (.ref it) 1 >>= _) _ _ s;refine f' (KI ho hd (x:=.int i 0) rfl ?_);show Jo _ _ (seqItems? (.ref l) >>= _) _ _ s;refine f' (K8 hol hdl ?_);simp only[toNat_natCast,hx];refine f' (KC (f' (wpAny_setField ho hd (by simp) ?_)));show Jo _ _ (newExc (.type "StopIteration") [] >>= _) _ _ _;refine f' ?_;simp only[newExc,newTuple];refine f' (Kf ?_ (by size_fits));refine f' (m:=firstArgMember _ _) (wpAny_of_eq (a:=Ko) (by first|rfl|(simp only[firstArgMember];rfl)) ?_);refine Kf ?_ (by size_fits);simp only[raiseNew];refine f' (wpAny_handled ?_)
  first|rw[show A.in1.handled=Jd from hh]|rw[hh]
  refine f' (Jb (wpAny_throw ?_));exact hE _ _ (((JX ..).extBut.push _).push _) ⟨_,Js _ rfl,rfl⟩
def uG {b:Bool}{z TI TO i1 i2 l1 l2:G'}{k1 k2:Nat}{xs ys:Array Ja}{x y a c:Ja}{Q:Option Ja->Jc->Prop}(D:ZipApart z TI TO i1 i2 l1 l2)
 (hz:IsZip s.heap z TI TO .none) (hTI:IsPair s.heap TI (.ref i1) (.ref i2)) (hTO:IsPair s.heap TO a c)
 (h1:SqI b s.heap i1 l1 k1) (h2:SqI b s.heap i2 l2 k2) (hl1:SqA b s.heap l1 xs) (hl2:SqA b s.heap l2 ys) (hx:xs[k1]?=dk x) (hy:ys[k2]?=dk y)
 (hQ:∀ h',IsZip h' z TI TO (rawInt s.heap.objs.size)->IsPair h' TO x y->SqI b h' i1 l1 (k1+1)->SqI b h' i2 l2 (k2+1)->IsPair h' s.heap.objs.size x y ->
  (∀ c o,c≠z->c≠TO->c≠i1->c≠i2->s.heap.get? c=dk o->h'.get? c=dk o)->Q (dk (.ref s.heap.objs.size)) { s with heap:=h' }):Jo (model prog w) A (pyNext (.ref z)) Q E s:=by
 have hT:s.TypeIs (.ref z) "zip":=⟨_,hz,rfl⟩
 unfold pyNext;refine f' (wpAny_attempt (JV (name:=K0 "__next__") hT F.slot_zip_next (JS F.slot_zip_next hT F.entry_zip_next ?_ (F.args_zip_next_1 _))));show Jo _ _ (field (.ref z) 2 >>= _) _ _ _;refine f' (KI hz rfl (x:=.bool j') rfl ?_);show Jo _ _ (field (.ref z) 3 >>= _) _ _ _;refine f' (KI hz rfl (x:=.ref TI) rfl (f' (K8 hTI rfl ?_)));show Jo _ _ (KJ (.ref z) >>= _) _ _ _;refine f' ?_;unfold KJ;refine f' (KI hz rfl (x:=.none) rfl (Jb ?_));simp only[if_true];refine f' (KC (f' (KI hz rfl (x:=.ref TO) rfl (f' (wpAny_setField_rec hz (by simp) λg1 z1 e1=>?_)))))
 replace z1:IsZip g1 z TI TO .ellipsis:=z1
 refine f' ?_;simp only[List.zipIdx_cons,List.zipIdx_nil,forIn_cons,forIn_nil];refine f' (f' (wpAny_onRaise ?_));show Jo _ _ (Km (.ref i1) >>= _) _ _ _;refine f' (Al (h1.at λo e=>e1.extBut _ _ D.i1z e) (hl1.at λo e=>e1.extBut _ _ D.l1z e) hx λg2 h1' e2=>Jb ?_);have t2:IsPair g2 TO a c:=e2.extBut _ _ D.TOi1 (e1.extBut _ _ D.TOz hTO);refine f' (K8 t2 rfl (f' (wpAny_updateSeq_pair t2 λg3 t3 e3=>?_)))
 replace t3:IsPair g3 TO x c:=t3
 refine f' (wpAny_letGo (Jb ?_));refine f' (f' (wpAny_onRaise ?_));show Jo _ _ (Km (.ref i2) >>= _) _ _ _;refine f' (Al (h2.at λo e=>e3.extBut _ _ D.TOi2.symm (e2.extBut _ _ D.i12.symm (e1.extBut _ _ D.i2z e))) (hl2.at λo e=>e3.extBut _ _ D.l2TO (e2.extBut _ _ D.l2i1 (e1.extBut _ _ D.l2z e))) hy λg4 h2' e4=>Jb ?_);have t4:IsPair g4 TO x c:=e4.extBut _ _ D.TOi2 t3;refine f' (K8 t4 rfl (f' (wpAny_updateSeq_pair t4 λg5 t5 e5=>?_)))
 replace t5:IsPair g5 TO x y:=t5
 refine f' (wpAny_letGo (Jb (Jb ?_)));refine f' (K8 t5 rfl (f' (wpAny_newTuple ?_)));have hsz:g5.objs.size=s.heap.objs.size:=by rw[e5.1,e4.1,e3.1,e2.1,e1.1]
 have z5:IsZip g5 z TI TO .ellipsis:=e5.extBut _ _ D.TOz.symm (e4.extBut _ _ D.i2z.symm (e3.extBut _ _ D.TOz.symm (e2.extBut _ _ D.i1z.symm z1)));have k5:∀ c o,c≠z->c≠TO->c≠i1->c≠i2->s.heap.get? c=dk o->g5.get? c=dk o:=λc o c1 c2 c3 c4 e =>
  e5.extBut _ _ c2 (e4.extBut _ _ c4 (e3.extBut _ _ c2 (e2.extBut _ _ c3 (e1.extBut _ _ c1 e))))
 have w1:SqI b g5 i1 l1 (k1+1):=h1'.at λo e=>e5.extBut _ _ D.TOi1.symm (e4.extBut _ _ D.i12 (e3.extBut _ _ D.TOi1.symm e))
 have w2:SqI b g5 i2 l2 (k2+1):=h2'.at λo e=>e5.extBut _ _ D.TOi2.symm e
 have zlt:z < g5.objs.size:=Jr z5;show Jo _ _ (Builtin.SmallTypes.ownedTupleHandOut (.ref z) (.ref g5.objs.size) >>= _) _ _ _;refine f' ?_;unfold Builtin.SmallTypes.ownedTupleHandOut;have z6:IsZip (g5.push { cls:=.type "tuple",data:=.seq #[x,y] }) z TI TO .ellipsis:=Jf _ z5;refine f' (wpAny_setField_rec z6 (by simp) λg7 z7 e7=>?_)
 replace z7:IsZip g7 z TI TO (rawInt g5.objs.size):=z7
 refine wpAny_setField_rec z7 (by simp) λg8 z8 e8=>?_
 replace z8:IsZip g8 z TI TO (rawInt g5.objs.size):=z8
 have up:∀ c o,c≠z->g5.get? c=dk o->g8.get? c=dk o:=λc o c1 e=>e8.extBut _ _ c1 (e7.extBut _ _ c1 (Jf _ e))
 have t8:IsPair g8 g5.objs.size x y:=e8.extBut _ _ (ne_of_gt zlt) (e7.extBut _ _ (ne_of_gt zlt) (Js _ rfl));rw[hsz]at z8 t8;refine Jb ⟨_,rfl,Jb ?_⟩;show Q (dk (.ref g5.objs.size)) _;rw[hsz];exact hQ g8 z8 (up _ _ D.TOz t5) (w1.at λo e=>up _ o D.i1z e) (w2.at λo e=>up _ o D.i2z e) t8 λc o c1 c2 c3 c4 e=>up c o c1 (k5 c o c1 c2 c3 c4 e)
def xO {b:Bool}{z TI TO i1 i2 l1 l2:G'}{k1:Nat}{xs:Array Ja}{Q:Option Ja->Jc->Prop}(hh:A.handled=Jd) (D:ZipApart z TI TO i1 i2 l1 l2)
 (hz:IsZip s.heap z TI TO .none) (hTI:IsPair s.heap TI (.ref i1) (.ref i2)) (h1:SqI b s.heap i1 l1 k1) (hl1:SqA b s.heap l1 xs) (hx:xs[k1]?=Jd)
 (hQ:∀ h',(∀ c o,c≠z->c≠i1->s.heap.get? c=dk o->h'.get? c=dk o)->Q Jd { s with heap:=h' }):Jo (model prog w) A (pyNext (.ref z)) Q E s:=by
 have hT:s.TypeIs (.ref z) "zip":=⟨_,hz,rfl⟩
 unfold pyNext;refine f' (wpAny_attempt (JV (name:=K0 "__next__") hT F.slot_zip_next (JS F.slot_zip_next hT F.entry_zip_next ?_ (F.args_zip_next_1 _))));show Jo _ _ (field (.ref z) 2 >>= _) _ _ _;refine f' (KI hz rfl (x:=.bool j') rfl ?_);show Jo _ _ (field (.ref z) 3 >>= _) _ _ _;refine f' (KI hz rfl (x:=.ref TI) rfl (f' (K8 hTI rfl ?_)));show Jo _ _ (KJ (.ref z) >>= _) _ _ _;refine f' ?_;unfold KJ;refine f' (KI hz rfl (x:=.none) rfl (Jb ?_));simp only[if_true];refine f' (KC (f' (KI hz rfl (x:=.ref TO) rfl (f' (wpAny_setField_rec hz (by simp) λg1 z1 e1=>?_)))))
 replace z1:IsZip g1 z TI TO .ellipsis:=z1
 refine f' ?_;simp only[List.zipIdx_cons,List.zipIdx_nil,forIn_cons,forIn_nil];refine f' (f' (wpAny_onRaise ?_));show Jo _ _ (Km (.ref i1) >>= _) _ _ _;refine f' (uF hh (h1.at λo e=>e1.extBut _ _ D.i1z e) (hl1.at λo e=>e1.extBut _ _ D.l1z e) hx λg2 e e2 he=>?_);obtain⟨oe,hoe,hce⟩:=he;have z2:IsZip g2 z TI TO .ellipsis:=e2 _ _ D.i1z.symm z1;have hez:e≠z:=λq=>by subst q;rw[z2]at hoe;cases hoe;simp at hce
 refine wpAny_setField_rec z2 (by simp) λg3 _ e3=>?_
 refine f' (wpAny_isInstance (T:="StopIteration") (b:=D') ⟨oe,e3.extBut _ _ hez hoe,hce⟩ isSubtype_stop ?_);exact Jb (hQ g3 λc o c1 c2 q=>e3.extBut _ _ c1 (e2 _ _ c2 (e1.extBut _ _ c1 q)))
abbrev Bt (h:JB) (l1:G'):JB:=h.push { cls:=.type "tuple_iterator",data:=.fields #[.ref l1,.int 0 0] }
abbrev Br (h:JB) (l1 l2:G'):JB:=(Bt h l1).push { cls:=.type "tuple_iterator",data:=.fields #[.ref l2,.int 0 0] }
abbrev BJ (h:JB) (l1 l2:G'):JB:=(Br h l1 l2).push { cls:=.type "tuple",data:=.seq #[.ref h.objs.size,.ref (Bt h l1).objs.size] }
abbrev AS (h:JB) (l1 l2:G'):JB:=(BJ h l1 l2).push { cls:=.type "tuple",data:=.seq #[.none,.none] }
abbrev xN (h:JB) (l1 l2:G'):JB:=(AS h l1 l2).push { cls:=.type "zip",data:=.fields #[.none,.bool j',.bool j',.ref (Br h l1 l2).objs.size,.ref (BJ h l1 l2).objs.size] }
def x6 (l1 l2:G') (xs ys:Array Ja) :
 Meets (Builtin.«zip.__new__» ⟨[.type "zip",.ref l1,.ref l2],[]⟩) (λ_ R s=>s.heap.IsTuple l1 xs/\s.heap.IsTuple l2 ys/\R (.ok (.ret (.ref (AS s.heap l1 l2).objs.size))) { s with heap:=xN s.heap l1 l2 }) :=
 .of_wp λprog w A R s h=>by
  obtain⟨hp,g,d,tk,os⟩:=s;obtain⟨hl1,hl2,h⟩:=h;have hsub:=sub_zip;have hL1:JB.IsTuple (Jc.heap ⟨hp,g,d,tk,os⟩) l1 xs:=hl1;have hL2:JB.IsTuple (Jc.heap ⟨hp.push { cls:=.type "tuple_iterator",data:=.fields #[.ref l1,.int 0 0] },g,d,tk,os⟩) l2 ys:=JB.IsTuple.push hl2 _
  wp_walk using wpAny_pyIter_tuple hL1,wpAny_pyIter_tuple hL2
  exact⟨_,rfl,h⟩
def uR {b:Bool}{l1 l2:G'}{xs ys:Array Ja}{Q:Ja->Jc->Prop}(hl1:SqA b s.heap l1 xs) (hl2:SqA b s.heap l2 ys)
 (h:∀ h',IsZip h' (s.heap.objs.size+4) (s.heap.objs.size+2) (s.heap.objs.size+3) .none->IsPair h' (s.heap.objs.size+2) (.ref s.heap.objs.size) (.ref (s.heap.objs.size+1)) ->
  IsPair h' (s.heap.objs.size+3) .none .none->SqI b h' s.heap.objs.size l1 0->SqI b h' (s.heap.objs.size+1) l2 0->(∀ c o,s.heap.get? c=dk o->h'.get? c=dk o)->Q (.ref (s.heap.objs.size+4)) { s with heap:=h' }) :
 Jo (model prog w) A (call (.type "zip") [.ref l1,.ref l2]) Q E s:=by
 cases b with
|false=>exact call_zip_2 hl1 hl2 λh' a1 a2 a3 a4 a5 _ a7=>h h' a1 a2 a3 a4 a5 a7
|true =>
  refine callType_new F.called_zip (by decide) (F.typeCall_zip_2 _ _) (F.newCall_zip_2 _ _) (λobj=>F.args_object_init_3 obj _ _) F.entry_zip_new (x6 l1 l2 xs ys) ⟨hl1,hl2,?_⟩;have z1:(Bt s.heap l1).objs.size=s.heap.objs.size+1:=JB.size_push ..;have z2:(Br s.heap l1 l2).objs.size=s.heap.objs.size+2:=by rw[JB.size_push,z1]
  have z3:(BJ s.heap l1 l2).objs.size=s.heap.objs.size+3:=by rw[JB.size_push,z2]
  have z4:(AS s.heap l1 l2).objs.size=s.heap.objs.size+4:=by rw[JB.size_push,z3]
  have g5:(xN s.heap l1 l2).get? (AS s.heap l1 l2).objs.size=dk _:=Js _ rfl;have g4:(xN s.heap l1 l2).get? (BJ s.heap l1 l2).objs.size=dk _:=Jf _ (Js _ rfl);have g3:(xN s.heap l1 l2).get? (Br s.heap l1 l2).objs.size=dk _:=Jf _ (Jf _ (Js _ rfl));have g2:(xN s.heap l1 l2).get? (Bt s.heap l1).objs.size=dk _:=Jf _ (Jf _ (Jf _ (Js _ rfl)));have g1:(xN s.heap l1 l2).get? s.heap.objs.size=dk _:=Jf _ (Jf _ (Jf _ (Jf _ (Js _ rfl))));show _/\_;rw[z2,z3,z4]at g5;rw[z1,z2]at g3;rw[z3]at g4;rw[z1]at g2;rw[z4];exact⟨⟨_,g5,rfl⟩,h _ g5 g3 g4 ⟨_,g1,rfl,rfl⟩ ⟨_,g2,rfl,rfl⟩ λc o x=>Jf _ (Jf _ (Jf _ (Jf _ (Jf _ x))))⟩
end
end PySem
namespace L2
open PySem PySem.Spec PyProof.Rows
def Sq (b:Bool) (K:Jh) (H:Hp) (a:G') (xs:List V):Prop:=match b with
|false=>SqL K H a xs
|true=>SqT K H a xs
section
variable {X:Cx}
def Inv.sq {Lv:List (G' × Ku)}{σ:St}{H:Hp}{s:Jc}{b:Bool}{a:G'}{xs:List V}(I:Inv X Lv σ H s) (h:Sq b X.K H a xs):∃ its:List Ja,bE xs its/\SqA b s.heap a its.toArray:=by
 cases b with
|false=>obtain⟨its,r,p,_⟩:=I.list h;exact⟨its,r,p.isList⟩
|true=>obtain⟨its,r,p,_⟩:=I.tuple h;exact⟨its,r,p⟩
def Inv.sq_inj {Lv:List (G' × Ku)}{σ:St}{H:Hp}{s:Jc}{b:Bool}{a:G'}{xs ys:List V}(I:Inv X Lv σ H s) (h:Sq b X.K H a xs) (h':Sq b X.K H a ys):xs=ys:=by
 cases b
 . exact I.list_inj h h'
 . exact I.tuple_inj h h'
def Inv.turnedL {Lv:List (G' × Ku)}{σ:St}{H:Hp}{s:Jc}{h':JB}{t':Nat}{ch:List G'}(I:Inv X Lv σ H s) (hf:∀ b∈ch,vW X Lv H b) (k:∀ b o,b ∉ ch->s.heap.get? b=dk o->h'.get? b=dk o):Inv X Lv σ H { s with heap:=h',toks:=t' }:=by
 refine I.step (g':=s.gens) (d':=s.drawn) (ch:=ch) (λb hb=>?_) (λb o _ _ n e _=>k b o n e) (λb o _ _ n e _=>⟨o.slots,k b o n e⟩) (λ_ _ _ _ n=>n) (λb o n e=>⟨o,k b o n e⟩) (λ_ _ q=>q) (λ_ _ _ q=>q) (λ_ ps q=>⟨#[],by rw[Array.append_empty];exact q⟩) (λm hm=>?_) (λa o e=>?_) I.bare
 . obtain⟨_,f1,_,f3,f4,f5⟩:=hf b hb;exact⟨f3,f1,f4,f5⟩
 . obtain⟨o,es,ep,ho,r⟩:=hm;exact⟨o,es,ep,k _ o (λz=>(hf _ z).2.1 rfl) ho,r⟩
 . refine(I.hok a o e).stay (λb u hb q=>k b u (λz=>?_) q) (λ_ q=>q) λ_ _ q=>q
   have n:=(hf b z).1;rcases hb with rfl|hb
   . rw[n]at e;cases e
   . rw[n]at hb;cases hb
def Inv.aptSz {Lv:List (G' × Ku)}{σ:St}{H:Hp}{s:Jc}{b:G'}(I:Inv X Lv σ H s) (hb:s.heap.objs.size <= b) (hn:H b=Jd):Apt X Lv H b:=by
 obtain⟨_,f1,_,_,f4,f5⟩:=I.fpOk hb hn;refine⟨?_,hn,f1,f4,f5⟩;cases q:X.s₀.heap.get? b with
|none=>rfl
|some o=>exact absurd (Jj (Jr q) (JU I.sz hb)) (K1 _)
def Itz (b:Bool) (K:Jh) (a1 a2:G'):It :=
 ⟨λi H=>∃ xs ys x y,Sq b K H a1 xs/\Sq b K H a2 ys/\xs[i]?=dk x/\ys[i]?=dk y,
  λi H v H'=>∃ T x y,H T=Jd/\v=.ref T/\H'=upd H T (.tup [x,y])/\(∀ xs,Sq b K H a1 xs->xs[i]?=dk x)/\∀ ys,Sq b K H a2 ys->ys[i]?=dk y,
  λi H=>∃ xs,Sq b K H a1 xs/\xs.length <= i⟩
def BU {P:Jz}{w:Jp}{K:Jh}{elts:List Expr}{kt:Nat}{pt:Pos}{b:Bool}{z TI TO i1 i2 a1 a2:G'}(D:ZipApart z TI TO i1 i2 a1 a2) :
 Turn P w K (.Tuple elts kt pt) (Itz b K a1 a2) [z,TI,TO,i1,i2] z (λi h=>IsZip h z TI TO .none/\IsPair h TI (.ref i1) (.ref i2)/\(∃ a c,IsPair h TO a c)/\SqI b h i1 a1 i/\SqI b h i2 a2 i) where
 mem:=Jx
 obj:=λi h st c hc=>by
  obtain⟨s1,s2,⟨_,_,s3⟩,s4,s5⟩:=st;simp only[JE,Kl,or_false]at hc;rcases hc with rfl|rfl|rfl|rfl|rfl
  . exact⟨_,s1,λv q=>by cases q⟩
  . exact⟨_,s2,λv q=>by cases q⟩
  . exact⟨_,s3,λv q=>by cases q⟩
  . exact s4.obj
  . exact s5.obj
 keep:=λi h h' st k=>by
  obtain⟨s1,s2,⟨u,v,s3⟩,s4,s5⟩:=st;exact⟨k z (by simp) _ s1,k TI (by simp) _ s2,⟨u,v,k TO (by simp) _ s3⟩,s4.at λo e=>k i1 (by simp) o e,s5.at λo e=>k i2 (by simp) o e⟩
 item:=by
  intro X hP hw hK hc i Lv s σ H E I hf st hg;subst hP hw hK;obtain⟨s1,s2,⟨u,v,s3⟩,s4,s5⟩:=st;obtain⟨xs,ys,x,y,q1,q2,hx,hy⟩:=hg;obtain⟨us,r1,p1⟩:=I.sq q1;obtain⟨ws,r2,p2⟩:=I.sq q2;obtain⟨ux,hux,rx⟩:=r1.get hx;obtain⟨uy,huy,ry⟩:=r2.get hy;refine uG D s1 s2 s3 s4 s5 p1 p2 (x:=ux) (y:=uy) (by simpa using hux) (by simpa using huy) λh' t1 t2 t3 t4 t5 kk=>?_
  have hfresh:H s.heap.objs.size=Jd:=I.hok.fresh (Jk _);have lt:∀ {c o},s.heap.get? c=dk o->c≠s.heap.objs.size:=λe=>JR (Jr e)
  refine⟨_,rfl,wpAny_letOwnedTupleGo_zip t1 λh'' u1 e2=>?_⟩;have ch:∀ c o,c ∉ [z,TO,i1,i2]->s.heap.get? c=dk o->h''.get? c=dk o:=λc o n e=>by
   have n1:c≠z:=λq=>n (by simp[q])
   exact e2.extBut _ _ n1 (kk c o n1 (λq=>n (by simp[q])) (λq=>n (by simp[q])) (λq=>n (by simp[q])) e)
  have sub:∀ c∈[z,TO,i1,i2],c∈[z,TI,TO,i1,i2]:=λc hc=>by
   simp only[JE,Kl,or_false]at hc |-;rcases hc with h|h|h|h<;>simp[h]
  have I1:Inv X Lv σ H { s with heap:=h'' }:=I.turnedL (t':=s.toks) (λb hb=>hf b (sub b hb)) ch;have T5:IsPair h'' s.heap.objs.size ux uy:=e2.extBut _ _ (lt s1).symm t5;have apt:=I.aptSz (Jk s.heap.objs.size) hfresh;have I2:=I1.seen (o:=.tup [x,y]) apt ⟨by show 2 <= Jm;decide,[ux,uy],.cons rx (.cons ry .nil),⟨_,T5,rfl,_,rfl⟩⟩;refine⟨.ref s.heap.objs.size,_,I2,rfl,⟨_,x,y,hfresh,rfl,rfl,λzs hz=>by rw[I.sq_inj hz q1];exact hx,λzs hz=>by rw[I.sq_inj hz q2];exact hy⟩,⟨u1,e2.extBut _ _ D.TIz (kk _ _ D.TIz D.TITO D.TIi1 D.TIi2 s2),⟨_,_,e2.extBut _ _ D.TOz t2⟩,t3.at λo e=>e2.extBut _ _ D.i1z e,t4.at λo e=>e2.extBut _ _ D.i2z e⟩,λb hb=>?_⟩;obtain⟨o,ho,_⟩:∃ o,s.heap.get? b=dk o/\True:=by
   simp only[JE,Kl,or_false]at hb;rcases hb with rfl|rfl|rfl|rfl|rfl
   . exact⟨_,s1,trivial⟩
   . exact⟨_,s2,trivial⟩
   . exact⟨_,s3,trivial⟩
   . obtain⟨o,e,_⟩:=s4.obj;exact⟨o,e,trivial⟩
   . obtain⟨o,e,_⟩:=s5.obj;exact⟨o,e,trivial⟩
  rw[aa (lt ho)];exact(hf b hb).1
 done:=by
  intro X hP hw hK hc i Lv s σ H E I hf st hg;subst hP hw hK;obtain⟨s1,s2,_,s4,s5⟩:=st;obtain⟨xs,q1,hx⟩:=hg;obtain⟨us,r1,p1⟩:=I.sq q1;have hl:=r1.length;exact xO (I.ok.hd hc) D s1 s2 s4 p1 (by simp;omega) λh' kk=>⟨rfl,I.turnedL (t':=s.toks) (ch:=[z,i1]) (λb hb=>hf b (by
   simp only[JE,Kl,or_false]at hb |-;rcases hb with q|q<;>simp[q])) λb o n e=>kk b o (λq=>n (by simp[q])) (λq=>n (by simp[q])) e⟩
 self:=λA i s Q E st hQ=>wpAny_pyIter_zip st.1 hQ
def GX (K:Jh) (ta:TA):TI:=λσ H R=>ta σ H λvs H1=>∃ b a1 a2 xs ys,vs=[.ref a1,.ref a2]/\Sq b K H1 a1 xs/\Sq b K H1 a2 ys/\R (Itz b K a1 a2) H1
def C4:Kb "zip"=dk (.type "zip"):=by decide +kernel
def Ao {n l1 l2:Nat}(h1:l1 < n) (h2:l2 < n):ZipApart (n+4) (n+2) (n+3) n (n+1) l1 l2:=by
 constructor<;>(show (_:Nat)≠_;omega)
def Fa {a c:Expr}{ta:TA}{p pos pt:Pos}{elts:List Expr}{kt:Nat}(hg:Gl X "zip") (hm:X.mg "zip"=Jd) (ha:PA X [a,c] ta) (hs:JL [a,c] X.env=[(j',eval a X.env),(j',eval c X.env)]:=by rfl) (hs2:JL [c] X.env=[(j',eval c X.env)]:=by rfl) :
 PI X (.Tuple elts kt pt) (.Call (.Name "zip" p) [a,c] [] pos) (GX X.K ta):=by
 intro Lv s σ H R I h;refine Call_ (nT I hg hm C4 (KP (thn (ha pos Lv s σ H _ I h) λus s1 ur53=>?_) (by rw[hs,hs2]) (by rw[hs2];rfl)));obtain⟨vs,H1,I1,r1,q1⟩:=ur53;obtain⟨b,a1,a2,xs,ys,e,h1,h2,q⟩:=q1;subst e;obtain⟨u,w',rfl,ru,rw⟩:=FG r1;cases ru;cases rw;obtain⟨us,_,p1⟩:=I1.sq h1;obtain⟨ws,_,p2⟩:=I1.sq h2;refine uR p1 p2 λh' z1 z2 z3 z4 z5 kk=>wpAny_pyIter_zip z1 ?_
 have fr:∀ b,s1.heap.objs.size <= b->vW X Lv H1 b:=λb hb=>I1.fpOk hb (I1.hok.fresh hb)
 refine⟨_,[s1.heap.objs.size+4,s1.heap.objs.size+2,s1.heap.objs.size+3,s1.heap.objs.size,s1.heap.objs.size+1],_,_,H1,rfl,I1.kept (t':=s1.toks) kk,BU (Ao p1.lt p2.lt),⟨z1,z2,⟨_,_,z3⟩,z4,z5⟩,λb hb=>fr b ?_,q⟩;simp only[JE,Kl,or_false]at hb;rcases hb with rfl|rfl|rfl|rfl|rfl<;>omega
end
section
variable {X:Cx}
theorem A1:∀ {us:List Ja}{ns:List Int},IntsAre us ns->bE (ns.map V.int) us
|_,_,.nil=>.nil
|_,_,.cons n t r=>.cons ⟨t,rfl⟩ (A1 r)
def sQ:Kb "sorted"=dk (.builtin "sorted"):=by decide +kernel
end
section
variable {X:Cx}
theorem pS {P:Jz}{w:Jp}:∀ {vs:List (Key × Ja)}{ns:List Int}{us:List Ja},vs.map (·.1)=ns.map Kk->us.length=vs.length ->
 (∀ (j:Nat) (u:Ja),us[j]?=dk u->∃ k x,vs[j]?=dk (k,x)/\(b8 P w).is k u=D')->IntsAre us ns
|[],[],[],_,_,_=>.nil
|[],[],_ :: _,_,h,_=>by cases h
|[],_ :: _,_,h,_,_=>by cases h
|_ :: _,[],_,h,_,_=>by cases h
|_ :: _,_ :: _,[],_,h,_=>by cases h
|(k,x) :: vs,n :: ns,u :: us,e,h,g=>by
  have e1:k=Kk n:=by simpa using (List.cons.inj e).1
  subst e1;have r:=pS (P:=P) (w:=w) (us:=us) (List.cons.inj e).2 (by simpa using h) λj u' hu=>by
   obtain⟨k',x',q,q2⟩:=g (j+1) u' (by simpa using hu);exact⟨k',x',by simpa using q,q2⟩
  obtain⟨k',x',q,q2⟩:=g 0 u rfl;cases q;rcases aV (show mP (Kk n) u=D' from q2) with⟨i,t,e1,e2⟩|⟨y,t,e1,e2⟩
  . cases e1;subst e2;exact .cons _ t r
  . cases e1
def sJ (hc:X.calm=D'):pe X (.builtin "sorted") (λxs H Q=>∃ (p:G') (kvs:List (Key × V)) (ns:List Int),xs=[.ref p]/\H p=dk (.dK kvs)/\kvs.map (·.1)=ns.map Kk/\ns.length < 64 /\
 ∀ (l:G') (ns':List Int),H l=Jd->ns'.Perm ns->ns'.Pairwise (· <= ·)->Q (.ref l) (upd H l (.lst (ns'.map V.int)))):=by
 intro Lv s σ H xs us Q I r h;obtain⟨p,kvs,ns,rfl,hH,hk,h64,q⟩:=h;obtain⟨u,rfl,rx⟩:=sy r;cases rx;obtain⟨z,hd,vs,rel,dd⟩:=xh I.hok hH;have hl:=rel.length;have hkv:vs.map (·.1)=ns.map Kk:=by rw[<-hk];exact rel.keys.symm
 have hln:ns.length=vs.length:=by
  have:=congrArg Lk hkv;simpa using this.symm
 obtain⟨ep,hat⟩:=dd.dictAt;refine Calls.call_function_entry kind_sorted plain_sorted entry_sorted (args_sorted1 _) ?_;unfold Builtin.«sorted»;refine f' (m:=checkCount "sorted" 1 1 _) (Jb ?_);refine f' (kdu_collect (A:=X.A.in1) (kdl_dict (knd:=b8 X.prog X.w) (kvs:=vs) (ep:=ep) hd) (I.ok.hd hc) hat (by omega) λh' tk acc hkp hacc=>?_);have I1:Inv X Lv σ H { s with heap:=h',toks:=tk }:=I.kept (t':=tk) hkp;have hal:acc.toList.length=vs.length:=by rw[JY];exact hacc.1
 have hI:IntsAre acc.toList ns:=pS (P:=X.prog) (w:=X.w) hkv hal λj u hu=>by
  obtain⟨k,x,e,g⟩:=hacc.2 j u (by rw[<-JW];exact hu);exact⟨k,x,e,g⟩
 refine f' (wpAny_newList ?_ (by rw[hal];omega));have hoL:(h'.push (seqObj "list" acc.toList.toArray 0)).get? h'.objs.size=dk (seqObj "list" acc.toList.toArray 0):=Js _ rfl;show Jo _ _ _ _ _ { s with heap:=h'.push (seqObj "list" acc.toList.toArray 0),toks:=tk };refine f' (Kg (JS slot_list_sort ⟨_,hoL,rfl⟩ entry_list_sort (list_sort_tree hoL hI (by omega) λout ns' a1 a2 a3=>⟨_,rfl,?_⟩) (args_list_sort _)));obtain⟨e,he⟩:=sortedHeap_at (out:=out) hoL;refine Jb ⟨_,rfl,.ref h'.objs.size,_,I1.laid (t':=tk) (o:=.lst (ns'.map V.int)) (λb o' q=>?_) (Jk _) ?_,rfl,q _ _ (I1.hok.fresh (Jk _)) a2 a3⟩
 . rw[sortedHeap_old (JR (Jr q)) (by rw[size_push'];exact lt_succ_of_lt (Jr q))];exact Jf _ q
 . exact⟨by rw[Ju,a2.length_eq];omega,out.toList,e,A1 a1,he⟩
end
def uP {prog:Jz}{w:Jp}{A:JK}{E:Ja->Jc->Prop}{s:Jc}{Q:Int->Jc->Prop}(h:Q 4238894112 { s with toks:=s.toks+1 }):Jo (model prog w) A (pyHash .none) Q E s:=by
 have hT:s.TypeIs Ko "NoneType":=rfl;unfold pyHash;have hv:[Ko].any Ja.onHeap=j':=rfl;refine f' ?_;rw[cRoomFor,Ph (by rw[hv];exact Jw)];refine Jb ?_;refine f' (wpAny_specialOf hT PySem.F.slot_NoneType_hash.lookup ?_);show Jo _ _ (if (dk (Ja.builtin "NoneType.__hash__") == dk Ko)=D' then _ else _) Q E s;rw[Ph (by rw[beq_builtin_none];exact Jw)];refine f' (wpAny_specialOf hT PySem.F.slot_NoneType_hash.lookup ?_);show Jo _ _ (callSpecialIfBoundUnlessNone? Ko "__hash__" _ >>= _) Q E s;refine f' (wpAny_callSpecialIfBoundUnlessNone?_slot hT PySem.F.slot_NoneType_hash
  (JS PySem.F.slot_NoneType_hash hT PySem.F.entry_NoneType_hash
   (show Jo _ _ (do ret (<-mkInt 4238894112)) _ _ s from wpAny_ret_mkInt ?_) (PySem.F.args_NoneType_hash_1 _)))
 show Jo _ _ (if (decide (-(2:Int) ^ 63 <= 4238894112) && decide ((4238894112:Int) < 2 ^ 63))=D' then _ else _) Q E _;rw[Pg (by decide)];exact Jb h
def EF:Option Key->Ja->Bool
|none,.none=>D'
|none,_=>j'
|some k,v=>mP k v
def el {v:Ja}(h:EF Jd v=D'):v=.none:=by
 cases v<;>first|rfl|cases h
def uS (prog:Jz) (w:Jp):PySem.KeyKind prog w (Option Key) where
 is:=EF
 hash:=λk=>match k with
 |none=>4238894112
 |some k=>HH w k
 inj:=λv a b ha hb=>by
  cases a with
 |none =>
   cases el ha;cases b with
  |none=>rfl
  |some k=>rcases aV (show mP k Ko=D' from hb) with⟨i,t,_,e⟩|⟨x,t,_,e⟩<;>cases e
 |some k =>
   cases b with
  |none =>
    cases el hb;rcases aV (show mP k Ko=D' from ha) with⟨i,t,_,e⟩|⟨x,t,_,e⟩<;>cases e
  |some k'=>rw[(b8 prog w).inj v k k' ha hb]
 byValue:=λk v h=>by
  cases k with
 |none=>cases el h;rfl
 |some k=>exact(b8 prog w).byValue k v h
 pyHash:=λ{A E s k v Q} hv h=>by
  cases k with
 |none=>cases el hv;exact uP h
 |some k=>exact(b8 prog w).pyHash (k:=k) hv h
 eqBool:=λ{A E s a b u v Q} hu hv h=>by
  cases a with
 |none =>
   cases el hu;cases b with
  |none=>cases el hv;exact JZ.same Ko _ _ _ _ h
  |some k =>
    rcases aV (show mP k v=D' from hv) with⟨i,t,rfl,rfl⟩|⟨x,t,rfl,rfl⟩
    . exact JZ.none_int i t _ _ _ _ h
    . exact JZ.none_str x t _ _ _ _ h
 |some k =>
   cases b with
  |none =>
    cases el hv;rcases aV (show mP k u=D' from hu) with⟨i,t,rfl,rfl⟩|⟨x,t,rfl,rfl⟩
    . exact JZ.int_none i t _ _ _ _ h
    . exact JZ.str_none x t _ _ _ _ h
  |some k' =>
    refine(b8 prog w).eqBool (a:=k) (b:=k') hu hv ?_;have e:decide (dk k=dk k')=decide (k=k'):=by
     rw[decide_eq_decide];exact⟨λz=>JF z,λz=>by rw[z]⟩
    rw[<-e];exact h
 «strs»:=λk x t v h=>by
  cases k with
 |none=>cases h
 |some k=>exact(b8 prog w).strs k x t v h
theorem ue {P:Jz}{w:Jp}:∀ {es:List JM}{vs:List (Key × Ja)},Pairs (b8 P w) es vs->Pairs (uS P w) es (vs.map λq=>(dk q.1,q.2))
|_,_,.nil=>.nil
|_,_,.cons a b t=>.cons a b (ue t)
def B7 {P:Jz}{w:Jp}{h:JB}{a:G'}{vs:List (Key × Ja)}(d:h.DictOf (b8 P w) a vs):h.DictOf (uS P w) a (vs.map λq=>(dk q.1,q.2)):=by
 obtain⟨o,es,ep,h1,h2,h3,h4,h5,h6⟩:=d;refine⟨o,es,ep,h1,h2,h3,λe he=>?_,ue h5,?_⟩
 . obtain⟨k,a,b⟩:=h4 e he;exact⟨dk k,a,b⟩
 . rw[map_map];have:((λq:Option Key × Ja=>q.1) ∘ λq:Key × Ja=>(dk q.1,q.2))=dk ∘ (λq:Key × Ja=>q.1):=rfl;rw[this,<-map_map];exact Pairwise.map _ (λa b n z=>n (JF z)) h6
theorem Co:∀ (vs:List (Key × Ja)),valueAt (vs.map λq=>(dk q.1,q.2)) (Jd:Option Key)=Jd
|[]=>rfl
|q :: vs=>by
  have:=Co vs;unfold valueAt at this |-;rw[Kq,KW];have e:decide (((dk q.1,q.2):Option Key × Ja).1=Jd)=j':=rfl;rw[e];exact this
def Ej (td ty tx:TE):TE:=λσ H Q=>td σ H λx H1=>∃ a,x=.ref a/\IsD H1 a/\ty σ H1 λy H2=>tx σ H2 λz H3=>∃ kvs,H3 a=dk (.dK kvs) /\
 ((∃ k,y=kV k/\(∀ v,lp kvs k=dk v->Q v (upd H3 a (.dK (jH kvs k))))/\(lp kvs k=Jd->Q z H3))\/(y=.non/\Q z H3))
def yQ {X:Cx}{o e f:Expr}{apos cpos:Pos}{td ty tx:TE}(ho:PE X o td) (he:PE X e ty) (hf:PE X f tx) (m:M2 X o "pop" apos e f cpos):PE X (.Call (.Attribute o "pop" apos) [e,f] [] cpos) (Ej td ty tx):=by
 intro Lv s σ H Q I h;refine wpAny_Call_method m.base m.few m.line PySem.F.plainAttrs_dict K' PySem.F.type_dict_pop (thn (ho Lv s σ H _ I h) λu s1 ur54=>?_);obtain⟨x,H1,I1,rx,a,ex,d,q1⟩:=ur54;subst ex;obtain rfl:u=JJ a:=rx;obtain⟨t1,t2,_⟩:=Cj I1 d;refine⟨t1,t2,?_⟩;rw[m.trees];refine K5 rfl (K2 (KY (thn (he Lv s1 σ H1 _ I1 q1) λiv s2 ⟨y,H2,I2,ry,q2⟩ =>
  KY (thn (hf Lv s2 σ H2 _ I2 q2) λfv s3 ⟨z,H3,I3,rz,kvs,ea,q3⟩=>Calls.spliced_nil ?_))))
 rcases q3 with⟨k,ey,q3,q4⟩|⟨ey,q4⟩
 . subst ey;cases l:lp kvs k with
  |some v=>exact EW I3 ea ry l (.inr ⟨fv,rfl⟩) λw' s4 I4 rw'=>⟨v,_,I4,rw',q3 v l⟩
  |none=>exact FJ I3 ea ry l λs4 I4=>⟨z,H3,I4,rz,q4 l⟩
 . subst ey;cases ry;obtain⟨zz,hd,vs,rel,dd⟩:=xh I3.hok ea;exact call_meetsIn K' dd.typeIs PySem.F.entry_dict_pop (PySem.F.args_dict_pop_3 _ _ _) (meets_dict_pop_default (uS X.prog X.w) a (k:=Jd) (key:=Ko) rfl hd rfl fv) ⟨_,B7 dd,Co vs,⟨z,H3,I3.tok _,rz,q4⟩⟩
def yM {x hd rl:G'}{l:Bool->G'}{c:G'}(hc:c=x\/c=hd\/c=rl\/∃ b,c=l b):Sto.own x hd rl l c:=by
 rcases hc with h|h|h|⟨b',h⟩
 . exact .inl h
 . exact .inr (.inl h)
 . exact .inr (.inr (.inl h))
 . cases b'
   . exact .inr (.inr (.inr (.inl h)))
   . exact .inr (.inr (.inr (.inr h)))
def Dp {x hd rl:G'}{l:Bool->G'}(b:Bool):Sto.own x hd rl l (l b):=yM (.inr (.inr (.inr ⟨b,rfl⟩)))
def EG {x hd rl:G'}{l:Bool->G'}:Sto.own x hd rl l hd:=.inr (.inl rfl)
def Sto.kp {w:Jp}{C:G'}{H H':Hp}{x hd rl:G'}{l:Bool->G'}{M:List (Jg × V)}{r:Bool->List (Jg × V)}{xs:List G'}(S:Sto w C H x hd rl l M r) (k:Kp xs H H') (h:∀ c∈xs,¬ Sto.own x hd rl l c) (ht:∀ c∈xs,∀ vs,H c≠dk (.tup vs)):Sto w C H' x hd rl l M r :=
 S.keep (λc o hc e=>k c o (λz=>h c z (yM hc)) e) λc vs e=>k c _ (λz=>ht c z vs e) e
def Kp.one {H:Hp}{c:G'}{o:HO}:Kp [c] H (upd H c o):=λb u n e=>by rw[aa λz=>n (Je.mpr z)];exact e
def fld {K:Jh}{H:Hp}{a C dx:G'}{fs:List (Str × V)}{v:V}{f:Str}{Q:V->Prop}(hx:H a=dk (.ins C dx fs)) (c:Cls K C) (na:aQ K C f) (l:fs.lookup f=dk v) (q:Q v) :
 ∃ a' C' dx' fs' v',V.ref a=.ref a'/\H a'=dk (.ins C' dx' fs')/\Cls K C'/\aQ K C' f/\fs'.lookup f=dk v'/\Q v':=⟨a,C,dx,fs,v,rfl,hx,c,na,l,q⟩
structure RP where
 s:Int
 R:Int
 e:Bool
structure RP.Ok (p:RP):Prop where
 s0:0 < p.s
 s8:p.s <= 8
 sR:0 < p.s * p.R
structure SA where
 x:G'
 hd:G'
 rl:G'
 l:Bool->G'
abbrev SA.At (w:Jp) (C:G') (H:Hp) (z:SA) (M:List (Jg × V)) (r:Bool->List (Jg × V)):Prop:=Sto w C H z.x z.hd z.rl z.l M r
def SA.own (z:SA) (c:G'):Prop:=Sto.own z.x z.hd z.rl z.l c
def rF (st:G') (b:Bool) (w0 w1 w2:Str) (p:RP):List (Str × V) :=
 ba "counter_first" (.bl p.e) (ba "rounds" (.int p.R) (ba "size" (.int p.s) (ba "fetched" (.str w2) (ba "laid" (.str w1) (ba "word" (.str w0) (ba "side" (.int (sdI b)) (ba "shelf" (.ref st) [])))))))
section
variable {st:G'}{b:Bool}{w0 w1 w2:Str}{p:RP}
def fR:(rF st b w0 w1 w2 p).lookup ("shelf":Str)=dk (.ref st):=by unfold rF;repeat (first|rw[a8,Pg rfl]|rw[a8,Ph (by decide +kernel)]);try rfl
def iZ:(rF st b w0 w1 w2 p).lookup ("side":Str)=dk (.int (sdI b)):=by unfold rF;repeat (first|rw[a8,Pg rfl]|rw[a8,Ph (by decide +kernel)]);try rfl
def Eb:(rF st b w0 w1 w2 p).lookup ("word":Str)=dk (.str w0):=by unfold rF;repeat (first|rw[a8,Pg rfl]|rw[a8,Ph (by decide +kernel)]);try rfl
def qF:(rF st b w0 w1 w2 p).lookup ("laid":Str)=dk (.str w1):=by unfold rF;repeat (first|rw[a8,Pg rfl]|rw[a8,Ph (by decide +kernel)]);try rfl
def lZ:(rF st b w0 w1 w2 p).lookup ("fetched":Str)=dk (.str w2):=by unfold rF;repeat (first|rw[a8,Pg rfl]|rw[a8,Ph (by decide +kernel)]);try rfl
def rZ:(rF st b w0 w1 w2 p).lookup ("size":Str)=dk (.int p.s):=by unfold rF;repeat (first|rw[a8,Pg rfl]|rw[a8,Ph (by decide +kernel)]);try rfl
def tT:(rF st b w0 w1 w2 p).lookup ("rounds":Str)=dk (.int p.R):=by unfold rF;repeat (first|rw[a8,Pg rfl]|rw[a8,Ph (by decide +kernel)]);try rfl
def sh:(rF st b w0 w1 w2 p).lookup ("counter_first":Str)=dk (.bl p.e):=by unfold rF;repeat (first|rw[a8,Pg rfl]|rw[a8,Ph (by decide +kernel)]);try rfl
def lr:(rF st b w0 w1 w2 p).lookup ("filled":Str)=Jd:=by unfold rF;repeat (first|rw[a8,Pg rfl]|rw[a8,Ph (by decide +kernel)]);try rfl
def yz:(rF st b w0 w1 w2 p).lookup ("is_full":Str)=Jd:=by unfold rF;repeat (first|rw[a8,Pg rfl]|rw[a8,Ph (by decide +kernel)]);try rfl
def r8:(rF st b w0 w1 w2 p).lookup ("place_at":Str)=Jd:=by unfold rF;repeat (first|rw[a8,Pg rfl]|rw[a8,Ph (by decide +kernel)]);try rfl
def m7:(rF st b w0 w1 w2 p).lookup ("write_further":Str)=Jd:=by unfold rF;repeat (first|rw[a8,Pg rfl]|rw[a8,Ph (by decide +kernel)]);try rfl
def Cu:(rF st b w0 w1 w2 p).lookup ("lay":Str)=Jd:=by unfold rF;repeat (first|rw[a8,Pg rfl]|rw[a8,Ph (by decide +kernel)]);try rfl
def vA:(rF st b w0 w1 w2 p).lookup ("fetch":Str)=Jd:=by unfold rF;repeat (first|rw[a8,Pg rfl]|rw[a8,Ph (by decide +kernel)]);try rfl
end
def Rn (CR:G') (H:Hp) (q st:G') (b:Bool) (w0 w1 w2:Str) (p:RP):Prop:=∃ dx,H q=dk (.ins CR dx (rF st b w0 w1 w2 p))
def gK (ns:List Int):List (Key × V):=ns.map λi=>(.inl i,.bl D')
theorem fu (i:Int):∀ ns:List Int,lp (gK ns) (.inl i)=if ns.contains i then dk (.bl D') else Jd
|[]=>rfl
|n :: ns=>by
  by_cases h:n=i
  . subst h;show lp ((Kk n,V.bl D') :: gK ns) _=_;rw[fV rfl,contains_cons];simp
  . show lp ((Kk n,V.bl D') :: gK ns) _=_;rw[ib (λz=>h (Kk.inj z)),fu i ns,contains_cons];have:(i == n)=j':=by simpa using λz=>h z.symm
    rw[this];rfl
def qi (i:Int) (ns:List Int) (h:ns.contains i=j'):kG (gK ns) (.inl i) (.bl D')=gK (ns++[i]):=by
 unfold kG;rw[jx,fu,h];simp[gK]
def Et (i:Int) (ns:List Int) (h:ns.contains i=D'):kG (gK ns) (.inl i) (.bl D')=gK ns:=by
 unfold kG;rw[jx,fu,h];simp only[if_true,isSome_some];unfold gK;rw[map_map];refine List.map_congr_left λx _=>?_
 show (if Kk x=Kk i then _ else _)=_;split<;>rfl
theorem kD (i:Int):∀ ns:List Int,jH (gK ns) (.inl i)=gK (ns.filter (λn=>decide (n≠i)))
|[]=>rfl
|n :: ns=>by
  have ih:=kD i ns;unfold jH gK at ih |-;rw[Kq,Lc,Lc,ih];have e:decide (((Kk n,V.bl D'):Key × V).1≠Kk i)=decide (n≠i):=by
   by_cases h:n=i
   . subst h;simp
   . have:(Kk n:Key)≠Kk i:=λz=>h (Kk.inj z)
     simp[h,this]
  rw[e];split<;>rfl
def qm (ns:List Int):(gK ns).length=ns.length:=by unfold gK;rw[Ju]
def tG (ns:List Int) (i:Int):List Int:=if ns.contains i then ns else ns++[i]
def D6 (i:Int) (ns:List Int):kG (gK ns) (.inl i) (.bl D')=gK (tG ns i):=by
 unfold tG;cases h:ns.contains i with
|true=>rw[Et i ns h];rfl
|false=>rw[qi i ns h];rfl
structure HA where
 h:G'
 ra:G'
 rb:G'
 gd:G'
def hF (z:HA) (n:Int):List (Str × V):=ba "going" (.ref z.gd) (ba "names" (.int n) (ba "answers" (.ref z.rb) (ba "asks" (.ref z.ra) [])))
section
variable {z:HA}{n:Int}
def yV:(hF z n).lookup ("asks":Str)=dk (.ref z.ra):=by unfold hF;repeat (first|rw[a8,Pg rfl]|rw[a8,Ph (by decide +kernel)]);try rfl
def pM:(hF z n).lookup ("answers":Str)=dk (.ref z.rb):=by unfold hF;repeat (first|rw[a8,Pg rfl]|rw[a8,Ph (by decide +kernel)]);try rfl
def Bl:(hF z n).lookup ("names":Str)=dk (.int n):=by unfold hF;repeat (first|rw[a8,Pg rfl]|rw[a8,Ph (by decide +kernel)]);try rfl
def n8:(hF z n).lookup ("going":Str)=dk (.ref z.gd):=by unfold hF;repeat (first|rw[a8,Pg rfl]|rw[a8,Ph (by decide +kernel)]);try rfl
def wH:(hF z n).lookup ("least_free":Str)=Jd:=by unfold hF;repeat (first|rw[a8,Pg rfl]|rw[a8,Ph (by decide +kernel)]);try rfl
def wQ:(hF z n).lookup ("check_ask":Str)=Jd:=by unfold hF;repeat (first|rw[a8,Pg rfl]|rw[a8,Ph (by decide +kernel)]);try rfl
def EU:(hF z n).lookup ("ask":Str)=Jd:=by unfold hF;repeat (first|rw[a8,Pg rfl]|rw[a8,Ph (by decide +kernel)]);try rfl
def xn:(hF z n).lookup ("collect":Str)=Jd:=by unfold hF;repeat (first|rw[a8,Pg rfl]|rw[a8,Ph (by decide +kernel)]);try rfl
def BT:(hF z n).lookup ("something_waits":Str)=Jd:=by unfold hF;repeat (first|rw[a8,Pg rfl]|rw[a8,Ph (by decide +kernel)]);try rfl
end
structure Hn (CH CR:G') (H:Hp) (z:HA) (st:G') (p:RP) (n:Int) (aw:List Int):Prop where
 ob:∃ dx,H z.h=dk (.ins CH dx (hF z n))
 ra:Rn CR H z.ra st j' "ask" "asked" "taken" p
 rb:Rn CR H z.rb st j' "answer" "answered" "handed" p
 go:H z.gd=dk (.dK (gK aw))
def HA.own (z:HA) (c:G'):Prop:=c=z.h\/c=z.ra\/c=z.rb\/c=z.gd
structure TA' where
 h:G'
 ra:G'
 rb:G'
 gd:G'
def tF (z:TA'):List (Str × V):=ba "doing" (.ref z.gd) (ba "answers" (.ref z.rb) (ba "asks" (.ref z.ra) []))
section
variable {z:TA'}
def Am:(tF z).lookup ("asks":Str)=dk (.ref z.ra):=by unfold tF;repeat (first|rw[a8,Pg rfl]|rw[a8,Ph (by decide +kernel)]);try rfl
def qx:(tF z).lookup ("answers":Str)=dk (.ref z.rb):=by unfold tF;repeat (first|rw[a8,Pg rfl]|rw[a8,Ph (by decide +kernel)]);try rfl
def mX:(tF z).lookup ("doing":Str)=dk (.ref z.gd):=by unfold tF;repeat (first|rw[a8,Pg rfl]|rw[a8,Ph (by decide +kernel)]);try rfl
def DK:(tF z).lookup ("take":Str)=Jd:=by unfold tF;repeat (first|rw[a8,Pg rfl]|rw[a8,Ph (by decide +kernel)]);try rfl
def vx:(tF z).lookup ("check_answer":Str)=Jd:=by unfold tF;repeat (first|rw[a8,Pg rfl]|rw[a8,Ph (by decide +kernel)]);try rfl
def y4:(tF z).lookup ("answer":Str)=Jd:=by unfold tF;repeat (first|rw[a8,Pg rfl]|rw[a8,Ph (by decide +kernel)]);try rfl
def AU:(tF z).lookup ("tasks":Str)=Jd:=by unfold tF;repeat (first|rw[a8,Pg rfl]|rw[a8,Ph (by decide +kernel)]);try rfl
def Bu:(tF z).lookup ("something_waits":Str)=Jd:=by unfold tF;repeat (first|rw[a8,Pg rfl]|rw[a8,Ph (by decide +kernel)]);try rfl
end
structure Tn (CT CR:G') (H:Hp) (z:TA') (st:G') (p:RP) (ts:List Int):Prop where
 ob:∃ dx,H z.h=dk (.ins CT dx (tF z))
 ra:Rn CR H z.ra st D' "ask" "asked" "taken" p
 rb:Rn CR H z.rb st D' "answer" "answered" "handed" p
 go:H z.gd=dk (.dK (gK ts))
def TA'.own (z:TA') (c:G'):Prop:=c=z.h\/c=z.ra\/c=z.rb\/c=z.gd
section
variable {CH CT CR:G'}{H H':Hp}{st:G'}{p:RP}{n:Int}{aw:List Int}
def Rn.keep {q:G'}{b:Bool}{w0 w1 w2:Str}(r:Rn CR H q st b w0 w1 w2 p) (k:∀ o,H q=dk o->H' q=dk o):Rn CR H' q st b w0 w1 w2 p:=by
 obtain⟨dx,hx⟩:=r;exact⟨dx,k _ hx⟩
theorem Hn.keep {z:HA}(B:Hn CH CR H z st p n aw) (k:∀ c o,z.own c->H c=dk o->H' c=dk o):Hn CH CR H' z st p n aw:=by
 obtain⟨dx,hx⟩:=B.ob;exact⟨⟨dx,k _ _ (.inl rfl) hx⟩,B.ra.keep λo=>k _ o (.inr (.inl rfl)),B.rb.keep λo=>k _ o (.inr (.inr (.inl rfl))),k _ _ (.inr (.inr (.inr rfl))) B.go⟩
def Hn.same {z:HA}(B:Hn CH CR H z st p n aw) (q:bZ H H'):Hn CH CR H' z st p n aw:=B.keep λc o _=>q c o
def Hn.there {z:HA}(B:Hn CH CR H z st p n aw) {c:G'}(hc:z.own c):∃ o,H c=dk o/\((∃ C dx fs,o=.ins C dx fs)\/∃ kvs,o=.dK kvs):=by
 rcases hc with rfl|rfl|rfl|rfl
 . obtain⟨dx,hx⟩:=B.ob;exact⟨_,hx,.inl ⟨_,_,_,rfl⟩⟩
 . obtain⟨dx,hx⟩:=B.ra;exact⟨_,hx,.inl ⟨_,_,_,rfl⟩⟩
 . obtain⟨dx,hx⟩:=B.rb;exact⟨_,hx,.inl ⟨_,_,_,rfl⟩⟩
 . exact⟨_,B.go,.inr ⟨_,rfl⟩⟩
def Hn.lists {z:HA}{xs:List G'}(B:Hn CH CR H z st p n aw) (k:Kp xs H H') (hx:∀ c∈xs,(∃ ys,H c=dk (.lst ys))\/∃ ee:List JM × Nat,H c=dk (oK c ee.1 ee.2)):Hn CH CR H' z st p n aw :=
 B.keep λc o hc q=>k c o (λm=>by
  obtain⟨o',e,s⟩:=B.there hc;rcases hx c m with⟨ys,e'⟩|⟨ee,e'⟩
  . rw[e]at e';cases e';rcases s with⟨_,_,_,s⟩|⟨_,s⟩<;>cases s
  . rw[e]at e';cases e';rcases s with⟨_,_,_,s⟩|⟨_,s⟩<;>cases s) q
theorem Tn.keep {z:TA'}(B:Tn CT CR H z st p aw) (k:∀ c o,z.own c->H c=dk o->H' c=dk o):Tn CT CR H' z st p aw:=by
 obtain⟨dx,hx⟩:=B.ob;exact⟨⟨dx,k _ _ (.inl rfl) hx⟩,B.ra.keep λo=>k _ o (.inr (.inl rfl)),B.rb.keep λo=>k _ o (.inr (.inr (.inl rfl))),k _ _ (.inr (.inr (.inr rfl))) B.go⟩
def Tn.there {z:TA'}(B:Tn CT CR H z st p aw) {c:G'}(hc:z.own c):∃ o,H c=dk o/\((∃ C dx fs,o=.ins C dx fs)\/∃ kvs,o=.dK kvs):=by
 rcases hc with rfl|rfl|rfl|rfl
 . obtain⟨dx,hx⟩:=B.ob;exact⟨_,hx,.inl ⟨_,_,_,rfl⟩⟩
 . obtain⟨dx,hx⟩:=B.ra;exact⟨_,hx,.inl ⟨_,_,_,rfl⟩⟩
 . obtain⟨dx,hx⟩:=B.rb;exact⟨_,hx,.inl ⟨_,_,_,rfl⟩⟩
 . exact⟨_,B.go,.inr ⟨_,rfl⟩⟩
def Tn.lists {z:TA'}{xs:List G'}(B:Tn CT CR H z st p aw) (k:Kp xs H H') (hx:∀ c∈xs,(∃ ys,H c=dk (.lst ys))\/∃ ee:List JM × Nat,H c=dk (oK c ee.1 ee.2)):Tn CT CR H' z st p aw :=
 B.keep λc o hc q=>k c o (λm=>by
  obtain⟨o',e,s⟩:=B.there hc;rcases hx c m with⟨ys,e'⟩|⟨ee,e'⟩
  . rw[e]at e';cases e';rcases s with⟨_,_,_,s⟩|⟨_,s⟩<;>cases s
  . rw[e]at e';cases e';rcases s with⟨_,_,_,s⟩|⟨_,s⟩<;>cases s) q
end
def cF (n:Nat) (aw:List Int):Option Int:=(Ll n).map (λ(k:Nat)=>(k:Int)) |>.find? λk=>!aw.contains k
def xQ {n i:Nat}{aw:List Int}(hi:i < n) (h:aw.contains (i:Int)=j') (hno:∀ j < i,aw.contains (j:Int)=D'):cF n aw=dk (i:Int):=by
 unfold cF;rw[List.find?_eq_some_iff_getElem];refine⟨by rw[h];rfl,i,by simpa using hi,by simp,λj hj=>?_⟩;simp only[List.getElem_map,List.getElem_range];rw[hno j hj];rfl
def wS {n:Nat}{aw:List Int}(hno:∀ j < n,aw.contains (j:Int)=D'):cF n aw=Jd:=by
 unfold cF;rw[find?_eq_none];intro x hx;obtain⟨j,hj,rfl⟩:=Lg.mp hx;rw[hno j (mem_range.mp hj)];decide
def qh {n:Nat}{aw:List Int}{k:Int}(h:cF n aw=dk k):aw.contains k=j':=by
 unfold cF at h;have:=List.find?_some h;simpa using this
def vY {n:Nat}{aw:List Int}{k:Int}(h:cF n aw=dk k):0 <= k/\k < n:=by
 unfold cF at h;have:=List.mem_of_find?_eq_some h;obtain⟨j,hj,rfl⟩:=Lg.mp this;have:=mem_range.mp hj;omega
theorem nS (i:Str):∀ ns:List Str,inV (.str i) (ns.map V.str)=ns.contains i
|[]=>rfl
|n :: ns=>by
  have ih:=nS i ns;unfold inV at ih |-;rw[Kq,any_cons,ih,contains_cons];congr 1;show eqV (.str n) (.str i)=(i == n)
  simp only[eqV];rw[KN,beq_iff_eq,beq_iff_eq];exact eq_comm
theorem fF:∀ ns:List Str,(ns.map V.str).all rm=D'
|[]=>rfl
|n :: ns=>by rw[Kq,all_cons,fF ns];rfl
def pL {α:Type}{r:Bool->α}{b:Bool}{u v:α}:bq (bq r b u) b v=bq r b v:=by
 funext c;unfold bq;split<;>rfl
def kS {H:Hp}{t:Str}(h:Kn t=D'):um H (.str t) (.str t):=⟨h,by show 0 <= 8;decide,rfl,.inl ⟨_,rfl⟩⟩
def kT {H:Hp}{a:G'}{t:Str}{i:Int}(h:Kn t=D') (ha:H a=dk (.tup [.str t,.int i])):um H (.tuple [.str t,.int i]) (.ref a):=⟨by
 show (Kn _ && (D' && D'))=D';rw[h];rfl,by show 1 <= 8;decide,⟨a,_,rfl,ha,⟨_,_,rfl,rfl,_,_,rfl,rfl,rfl⟩⟩,.inr ⟨_,rfl⟩⟩
def up1 {H:Hp}{a b:G'}{o:HO}(h:upd H a o b=Jd):b≠a/\H b=Jd:=by
 have n:b≠a:=λz=>by rw[z,a9]at h;cases h
 exact⟨n,by rw[aa n]at h;exact h⟩
def cw {H H':Hp}{c:G'}(e:bZ H H') (h:H' c=Jd):H c=Jd:=by
 cases z:H c with
|none=>rfl
|some o=>rw[e c o z]at h;cases h
def fA {H H':Hp}{xs:List G'}{c:G'}(e:Kp xs H H') (h:H' c=Jd) (n:∀ x∈xs,H' x≠Jd):H c=Jd:=by
 cases z:H c with
|none=>rfl
|some o=>rw[e c o (λm=>n c m h) z]at h;cases h
def oB (p:RP) (w0 w1:Str) (A:Int) (t:V):List (Jg × V) :=
 if p.e then [(.str w1,.int ((A+1) % (p.s * p.R))),(.tuple [.str w0,.int (A % p.s)],t)] else [(.tuple [.str w0,.int (A % p.s)],t),(.str w1,.int ((A+1) % (p.s * p.R)))]
def Sto.noT {w:Jp}{C:G'}{H:Hp}{x hd rl:G'}{l:Bool->G'}{M:List (Jg × V)}{r:Bool->List (Jg × V)}(S:Sto w C H x hd rl l M r) {b:Bool}{c:G'}{vs:List V}(h:H c=dk (.tup vs)):c ∉ [l b]:=λz=>by
 obtain⟨ts,e,_⟩:=S.rw b;rw[Je.mp z,e]at h;cases h
def Sto.noI {w:Jp}{C:G'}{H:Hp}{x hd rl:G'}{l:Bool->G'}{M:List (Jg × V)}{r:Bool->List (Jg × V)}(S:Sto w C H x hd rl l M r) {b:Bool}{c C' dx:G'}{fs:List (Str × V)}(h:H c=dk (.ins C' dx fs)):c ∉ [l b]:=λz=>by
 obtain⟨ts,e,_⟩:=S.rw b;rw[Je.mp z,e]at h;cases h
def Sto.noD {w:Jp}{C:G'}{H:Hp}{x hd rl:G'}{l:Bool->G'}{M:List (Jg × V)}{r:Bool->List (Jg × V)}(S:Sto w C H x hd rl l M r) {c:G'}{kvs:List (Key × V)}(h:H c=dk (.dK kvs)):¬ Sto.own x hd rl l c:=λz=>by
 rcases z with rfl|rfl|rfl|rfl|rfl
 . obtain⟨dx,e⟩:=S.ob;rw[e]at h;cases h
 . obtain⟨es,e⟩:=S.me.there;rw[e]at h;cases h
 . rw[S.ro]at h;cases h
 . obtain⟨ts,e,_⟩:=S.rw j';rw[e]at h;cases h
 . obtain⟨ts,e,_⟩:=S.rw D';rw[e]at h;cases h
def DM {X:Cx}:jK (CXv X.prog X.w) X E0:=λ_ _ _ _ _ _ _ h=>by
 obtain⟨_,_,_,_,_,_,_,_,_,_,_,_,_,_,q⟩:=h;exact q.elim
def gI {K:Jh}{H:Hp}{a C:G'}{fs:List (Str × V)}{v:V}{f:Str}{Q:V->Prop}(hx:∃ dx,H a=dk (.ins C dx fs)) (c:Cls K C) (na:aQ K C f) (l:fs.lookup f=dk v) (q:Q v) :
 ∃ a' C' dx' fs' v',V.ref a=.ref a'/\H a'=dk (.ins C' dx' fs')/\Cls K C'/\aQ K C' f/\fs'.lookup f=dk v'/\Q v':=let ⟨dx,hx⟩:=hx;⟨a,C,dx,fs,v,rfl,hx,c,na,l,q⟩
def dQ {H:Hp}{a C:G'}{fs:List (Str × V)}{m:Str}{q:Prop}(hx:∃ dx,H a=dk (.ins C dx fs)) (l:fs.lookup m=Jd) (h:q) :
 ∃ a' dx' fs',V.ref a=.ref a'/\H a'=dk (.ins C dx' fs')/\fs'.lookup m=Jd/\q:=let ⟨dx,hx⟩:=hx;⟨a,dx,fs,rfl,hx,l,h⟩
section
variable {w:Jp}{CH CR CS:G'}{H H':Hp}{z:HA}{sa:SA}{p:RP}{n:Int}{aw:List Int}{M:List (Jg × V)}{r:Bool->List (Jg × V)}
end
section
variable {w:Jp}{CT CR CS:G'}{H H':Hp}{z:TA'}{sa:SA}{p:RP}{aw:List Int}{M:List (Jg × V)}{r:Bool->List (Jg × V)}
end
def RD (H:Hp) (p:Jg × V) (d:Jg):Prop:=∃ x,d=.tuple [p.1,x]/\DV H x p.2
theorem vy {H:Hp}:∀ {es:List (Jg × V)}{ts:List V}{ds:List Jg},JC (Wt H) es ts->JC (RD H) es ds->DVs H ds ts
|_,_,_,.nil,.nil=>rfl
|_,_,_,.cons ⟨t,cv,e,ht,hk⟩ r,.cons ⟨x,e',dx⟩ r'=>by
  subst e e';exact⟨_,_,rfl,⟨t,_,rfl,ht,_,_,rfl,hk.2.2.1,_,_,rfl,dx,rfl⟩,vy r r'⟩
theorem pW:∀ {ds:List Jg},(∀ d∈ds,MX.kd d=D'/\d.depth <= 9)->KD ds=D'/\La ds <= 9
|[],_=>⟨rfl,KG _⟩
|d :: ds,h=>by
  obtain⟨a,b⟩:=pW λu hu=>h u (Jv _ hu)
  have hd:=h d Jx;refine⟨?_,?_⟩
  . show (Jg.canLay0 d && KD ds)=D';rw[MX.kd_lay _ hd.1,a];rfl
  . show max d.depth (La ds) <= 9;have:=hd.2;omega
def l5 {H H':Hp}{h dh:G'}{C:G'}(nh:H h=Jd) (ndh:H dh=Jd) (kp:Kp [h] (upd (upd H dh (.own h)) h (.ins C dh [])) H'):bZ H H':=λc o e=>by
 have y1:=ae e ndh;have y2:=ae e nh;exact kp c o (λz=>y2 (Je.mp z)) (by rw[aa y2,aa y1];exact e)
def xa {x:V}:[x].length <= Jm:=by show 1 <= Jm;decide
def rT:([]:List V).length <= Jm:=by show 0 <= Jm;decide
def EO {K:Jh}:kitOne K (.type "tuple") (.type "tuple")=dk D':=by rfl
def Hm {K:Jh}:kitOne K (.type "int") (.type "tuple")=dk j':=by rfl
inductive Cn where
|asked|taken|answered|handed|hs|ts
instance:DecidableEq Cn:=λa b=>by
 cases a<;>cases b<;>first|exact isTrue rfl|exact isFalse (λh=>by cases h)
def Cn.key:Cn->Str
|.asked=>"asked"
|.taken=>"taken"
|.answered=>"answered"
|.handed=>"handed"
|.hs=>"hand sleeps"
|.ts=>"heart sleeps"
def uM:Bool->Str
|false=>"ask"
|true=>"answer"
def pk (g:Bool) (i:Int):Jg:=.tuple [.str (uM g),.int i]
inductive Wr where
|c (k:Cn) (i:Int)
|p (g:Bool) (i nm wt:Int)
def Wr.key:Wr->Jg
|.c k _=>.str k.key
|.p g i _ _=>pk g i
def Wr.dat:Wr->Jg
|.c _ i=>.int i
|.p _ _ nm wt=>.tuple [.int nm,.int wt]
def Wr.Ok:Wr->Prop
|.c _ _=>True
|.p _ i nm _=>(0 <= i/\i < 8)/\0 <= nm/\nm < 9
def Wr.cnt (k:Cn):Wr->Option Int
|.c k' i=>if k'=k then dk i else Jd
|.p _ _ _ _=>Jd
def Wr.plc (g:Bool) (i:Int):Wr->Option (Int × Int)
|.c _ _=>Jd
|.p g' i' nm wt=>if g'=g/\i'=i then dk (nm,wt) else Jd
structure Mem where
 c:Cn->Int
 p:Bool->Int->Option (Int × Int)
def Mem.zero:Mem:=⟨λ_=>0,λ_ _=>Jd⟩
def Mem.put (m:Mem) (x:Wr):Mem:=⟨λk=>(x.cnt k).getD (m.c k),λg i=>(x.plc g i).or (m.p g i)⟩
def rdC (m:Mem) (row:List Wr) (k:Cn):Int:=(row.reverse.findSome? (Wr.cnt k)).getD (m.c k)
def rdP (m:Mem) (row:List Wr) (g:Bool) (i:Int):Option (Int × Int):=(row.reverse.findSome? (Wr.plc g i)).or (m.p g i)
def x4 (k:Cn):Kn k.key=D':=by cases k<;>decide +kernel
def HB (g:Bool):Kn (uM g)=D':=by cases g<;>decide +kernel
def FW {k k':Cn}(h:k.key=k'.key):k=k':=by
 cases k<;>cases k'<;>first|rfl|exact absurd h (by decide +kernel)
def FX {g g':Bool}(h:uM g=uM g'):g=g':=by
 cases g<;>cases g'<;>first|rfl|exact absurd h (by decide +kernel)
def ur (g:Bool) (i:Int):MX.kd (pk g i)=D':=by
 show (Kn (uM g) && (D' && D'))=D';rw[HB];rfl
def uH (k:Cn):MX.kd (.str k.key)=D':=x4 k
def Wr.key_kd (x:Wr):MX.kd x.key=D':=by
 cases x with
|c k i=>exact uH k
|p g i nm wt=>exact ur g i
def Wr.dat_kd (x:Wr):MX.kd x.dat=D':=by cases x<;>rfl
def G7 {g g':Bool}{i i':Int}(h:pk g i=pk g' i'):g=g'/\i=i':=by
 injection h with h
 injection h with h1 h2
 injection h1 with h1
 injection h2 with h2 _
 injection h2 with h2
 exact⟨FX h1,h2⟩
def qV {x:Wr}{d:Jg}(hd:MX.kd d=D'):Jt x.key d=D' ↔ x.key=d:=MX.eqv_iff _ _ x.key_kd hd
def Wr.cnt_some {x:Wr}{k:Cn}{i:Int}(h:x.cnt k=dk i):x=.c k i:=by
 cases x with
|c k' j =>
  unfold Wr.cnt at h;dsimp only at h;split at h
  . rename_i e;cases e;cases h;rfl
  . cases h
|p=>cases h
def Wr.plc_some {x:Wr}{g:Bool}{i nm wt:Int}(h:x.plc g i=dk (nm,wt)):x=.p g i nm wt:=by
 cases x with
|c=>cases h
|p g' j a b =>
  unfold Wr.plc at h;dsimp only at h;split at h
  . rename_i e;obtain⟨e1,e2⟩:=e;cases e1;cases e2;cases h;rfl
  . cases h
def Wr.cnt_none {x:Wr}{k:Cn}(h:x.cnt k=Jd):x.key≠.str k.key:=by
 intro e;cases x with
|c k' j =>
  have:=FW (Jg.str.inj e);unfold Wr.cnt at h;dsimp only at h;rw[Pg this]at h;cases h
|p=>cases e
def Wr.plc_none {x:Wr}{g:Bool}{i:Int}(h:x.plc g i=Jd):x.key≠pk g i:=by
 intro e;cases x with
|c=>cases e
|p g' j a b =>
  have:=G7 e;unfold Wr.plc at h;dsimp only at h;rw[Pg this]at h;cases h
def WrR (H:Hp) (x:Wr) (q:Jg × V):Prop:=x.Ok/\q.1=x.key/\DV H x.dat q.2
theorem WrR.keep {H H':Hp}{x:Wr}{q:Jg × V}(h:WrR H x q) (ht:∀ b vs,H b=dk (.tup vs)->H' b=dk (.tup vs)):WrR H' x q:=⟨h.1,h.2.1,DV.keep ht _ _ x.dat_kd h.2.2⟩
def kn:List Jg:=[.str (Cn.key .asked),.str (Cn.key .taken),.str (Cn.key .answered),.str (Cn.key .handed),.str (Cn.key .hs),.str (Cn.key .ts),
 pk j' 0,pk j' 1,pk j' 2,pk j' 3,pk j' 4,pk j' 5,pk j' 6,pk j' 7,pk D' 0,pk D' 1,pk D' 2,pk D' 3,pk D' 4,pk D' 5,pk D' 6,pk D' 7]
def Wr.key_all {x:Wr}(h:x.Ok):x.key∈kn:=by
 cases x with
|c k i=>cases k<;>first|exact Ka (i:=0) rfl|exact Ka (i:=1) rfl|exact Ka (i:=2) rfl|exact Ka (i:=3) rfl|exact Ka (i:=4) rfl|exact Ka (i:=5) rfl
|p g i a b =>
  obtain⟨m,rfl⟩:=Int.eq_ofNat_of_zero_le h.1.1;have h':m < 8:=Int.ofNat_lt.mp h.1.2;have e:∀ m:Nat,m < 8->kn[6+m]?=dk (pk j' m)/\kn[14+m]?=dk (pk D' m):=by intro m hm;match m,hm with|0,_|1,_|2,_|3,_|4,_|5,_|6,_|7,_=>exact⟨rfl,rfl⟩
  cases g
  . exact Ka (e m h').1
  . exact Ka (e m h').2
theorem mW {α:Type} [DecidableEq α]:∀ {l ks:List α},l.Nodup->(∀ a∈l,a∈ks)->l.length <= ks.length
|[],_,_,_=>KG _
|a :: l,ks,h,hs=>by
  have ha:=hs a Jx;have hn:=K7.mp h;have:=mW (l:=l) (ks:=ks.erase a) hn.2 λb hb=>(List.mem_erase_of_ne (λe=>hn.1 (by rw[<-e];exact hb))).mpr (hs b (Jv _ hb))
  rw[List.length_erase_of_mem ha]at this;have h0:0 < ks.length:=List.length_pos_of_mem ha;rw[JN];omega
structure MemR (H:Hp) (M:List (Jg × V)) (m:Mem):Prop where
 c:∀ k:Cn,(eW M (.str k.key)).getD (.int 0)=.int (m.c k)
 p:∀ g i,(m.p g i=Jd/\eW M (pk g i)=Jd)\/∃ nm wt v,m.p g i=dk (nm,wt)/\eW M (pk g i)=dk v/\DV H (.tuple [.int nm,.int wt]) v
 ks:∀ q∈M,q.1∈kn
 ok:∀ g i nm wt,m.p g i=dk (nm,wt)->0 <= nm/\nm < 9
def xb:∀ d∈kn,MX.kd d=D':=by
 intro d hd;simp only[kn,JE,Kl,or_false]at hd;rcases hd with rfl|rfl|rfl|rfl|rfl|rfl|rfl|rfl|rfl|rfl|rfl|rfl|rfl|rfl|rfl|rfl|rfl|rfl|rfl|rfl|rfl|rfl<;>first|exact uH _|exact ur _ _
def MemR.kk {H:Hp}{M:List (Jg × V)}{m:Mem}(h:MemR H M m):KK M:=λq hq=>xb _ (h.ks q hq)
theorem MemR.zero {H:Hp}:MemR H [] Mem.zero:=⟨λ_=>rfl,λ_ _=>.inl ⟨rfl,rfl⟩,λ_ h=>(by cases h),λ_ _ _ _ h=>(by cases h)⟩
theorem MemR.keep {H H':Hp}{M:List (Jg × V)}{m:Mem}(h:MemR H M m) (ht:∀ b vs,H b=dk (.tup vs)->H' b=dk (.tup vs)):MemR H' M m :=
 ⟨h.c,λg i=>(h.p g i).imp id λuq15=>by(obtain⟨nm,wt,v,a,b,c⟩:=uq15;exact ⟨nm,wt,v,a,b,DV.keep ht _ _ rfl c⟩),h.ks,h.ok⟩
def EV {M:List (Jg × V)}{k:Jg}{v:V}{K:List Jg}(h:∀ q∈M,q.1∈K) (hk:k∈K):∀ q∈ui M k v,q.1∈K:=by
 intro q hq;unfold ui at hq;split at hq
 . obtain⟨p,hp,e⟩:=Lg.mp hq;have:=h p hp;rw[<-e];split<;>exact this
 . rcases KU.mp hq with z|z
   . exact h q z
   . rw[Je.mp z];exact hk
theorem MemR.put {H:Hp}{M:List (Jg × V)}{m:Mem}{x:Wr}{q:Jg × V}(h:MemR H M m) (hx:WrR H x q):MemR H (ui M q.1 q.2) (m.put x):=by
 obtain⟨ho,hk,hd⟩:=hx;refine⟨λk=>?_,λg i=>?_,EV h.ks (by rw[hk];exact Wr.key_all ho),λg i nm wt e=>?_⟩
 . rw[hk,vH h.kk x.key_kd (uH k)];unfold Mem.put;dsimp only;cases e:x.cnt k with
  |some i =>
    have ex:=Wr.cnt_some e;subst ex;rw[Pg (show Jt (Wr.key (.c k i)) (.str k.key)=D' from cC (uH k))];exact hd
  |none =>
    rw[Ph λz=>Wr.cnt_none e ((qV (uH k)).mp z)];exact h.c k
 . rw[hk,vH h.kk x.key_kd (ur g i)];unfold Mem.put;dsimp only;cases e:x.plc g i with
  |some nw =>
    have ex:=Wr.plc_some (nm:=nw.1) (wt:=nw.2) e;subst ex;rw[Pg (show Jt (Wr.key (.p g i nw.1 nw.2)) (pk g i)=D' from cC (ur g i))];exact .inr ⟨nw.1,nw.2,q.2,rfl,rfl,hd⟩
  |none =>
    rw[Ph λz=>Wr.plc_none e ((qV (ur g i)).mp z)];exact h.p g i
 . have e':(x.plc g i).or (m.p g i)=dk (nm,wt):=e;cases q:x.plc g i with
  |none=>rw[q]at e';exact h.ok g i nm wt e'
  |some nw =>
    rw[q]at e';cases e';have ex:=Wr.plc_some q;subst ex;exact ho.2
theorem Paired.rev {α β:Type}{F:α->β->Prop}:∀ {xs:List α}{ys:List β},JC F xs ys->JC F xs.reverse ys.reverse
|_,_,.nil=>.nil
|_,_,.cons r t=>by
  rw[List.reverse_cons,List.reverse_cons];exact JC.snoc (Paired.rev t) r
theorem Ci {H:Hp}{k:Cn}:∀ {row:List Wr}{es:List (Jg × V)},JC (WrR H) row es ->
 (es.find? λp=>Jt p.1 (.str k.key)).map (·.2)=(row.findSome? (Wr.cnt k)).map V.int
|_,_,.nil=>rfl
|x :: row,q :: es,.cons ⟨_,hk,hd⟩ t=>by
  rw[KW,List.findSome?_cons];cases e:x.cnt k with
 |some i =>
   have ex:=Wr.cnt_some e;subst ex;have:Jt q.1 (.str k.key)=D':=by rw[hk];exact cC (uH k)
   rw[this];show dk q.2=dk (V.int i);exact congrArg dk hd
 |none =>
   have:Jt q.1 (.str k.key)=j':=by
    rw[hk];cases z:Jt x.key (.str k.key) with
   |false=>rfl
   |true=>exact absurd ((qV (uH k)).mp z) (Wr.cnt_none e)
   rw[this];exact Ci t
theorem Ch {H:Hp}{g:Bool}{i:Int}:∀ {row:List Wr}{es:List (Jg × V)},JC (WrR H) row es ->
 (row.findSome? (Wr.plc g i)=Jd/\(es.find? λp=>Jt p.1 (pk g i))=Jd)\/∃ nm wt q,row.findSome? (Wr.plc g i)=dk (nm,wt)/\(es.find? λp=>Jt p.1 (pk g i))=dk q/\DV H (.tuple [.int nm,.int wt]) q.2
|_,_,.nil=>.inl ⟨rfl,rfl⟩
|x :: row,q :: es,.cons ⟨_,hk,hd⟩ t=>by
  rw[KW,List.findSome?_cons];cases e:x.plc g i with
 |some nw =>
   have ex:=Wr.plc_some (nm:=nw.1) (wt:=nw.2) e;subst ex;have:Jt q.1 (pk g i)=D':=by rw[hk];exact cC (ur g i)
   rw[this];exact .inr ⟨nw.1,nw.2,q,rfl,rfl,hd⟩
 |none =>
   have:Jt q.1 (pk g i)=j':=by
    rw[hk];cases z:Jt x.key (pk g i) with
   |false=>rfl
   |true=>exact absurd ((qV (ur g i)).mp z) (Wr.plc_none e)
   rw[this];exact Ch t
def cc {H:Hp}{M es:List (Jg × V)}{m:Mem}{row:List Wr}(h:MemR H M m) (r:JC (WrR H) row es) (k:Cn):cm M es (.str k.key)=.int (rdC m row k):=by
 rw[ww];unfold AN rdC;rw[Ci (Paired.rev r)];cases row.reverse.findSome? (Wr.cnt k) with
|some i=>rfl
|none=>exact h.c k
def zM {H:Hp}{M es:List (Jg × V)}{m:Mem}{row:List Wr}(h:MemR H M m) (r:JC (WrR H) row es) (g:Bool) (i:Int) :
 (rdP m row g i=Jd/\cm M es (pk g i)=.int 0)\/∃ nm wt c,rdP m row g i=dk (nm,wt)/\cm M es (pk g i)=.ref c/\H c=dk (.tup [.int nm,.int wt]):=by
 rw[ww];unfold AN rdP;have tup:∀ {nm wt:Int} {v:V},DV H (.tuple [.int nm,.int wt]) v->∃ c,v=.ref c/\H c=dk (.tup [.int nm,.int wt]):=λ{nm wt v} h=>by
  obtain⟨c,vs,e,hc,v1,r1,e1,d1,v2,r2,e2,d2,e3⟩:=h;cases d1;cases d2;cases e3;subst e2 e1;exact⟨c,e,hc⟩
 rcases Ch (g:=g) (i:=i) (Paired.rev r) with⟨e1,e2⟩|⟨nm,wt,q,e1,e2,d⟩
 . rw[e1,e2];rcases h.p g i with⟨a,b⟩|⟨nm,wt,v,a,b,c⟩
   . rw[a,b];exact .inl ⟨rfl,rfl⟩
   . rw[a,b];obtain⟨c',rfl,hc⟩:=tup c;exact .inr ⟨nm,wt,c',rfl,rfl,hc⟩
 . rw[e1,e2];obtain⟨c',e,hc⟩:=tup d;exact .inr ⟨nm,wt,c',rfl,by show q.2=_;exact e,hc⟩
theorem zx {H:Hp}{g:Bool}{i nm wt:Int}:∀ {row:List Wr}{es:List (Jg × V)},JC (WrR H) row es->row.findSome? (Wr.plc g i)=dk (nm,wt)->0 <= nm/\nm < 9
|_,_,.nil,h=>by cases h
|x :: row,_,.cons hx t,h=>by
  rw[List.findSome?_cons]at h;cases q:x.plc g i with
 |none=>rw[q]at h;exact zx t h
 |some nw =>
   rw[q]at h;cases h;have ex:=Wr.plc_some q;subst ex;exact hx.1.2
def EE {H:Hp}{M es:List (Jg × V)}{m:Mem}{row:List Wr}(h:MemR H M m) (r:JC (WrR H) row es) {g:Bool}{i nm wt:Int}(e:rdP m row g i=dk (nm,wt)):0 <= nm/\nm < 9:=by
 unfold rdP at e;cases q:row.reverse.findSome? (Wr.plc g i) with
|none=>rw[q]at e;exact h.ok g i nm wt e
|some nw =>
  rw[q]at e;cases e;exact zx (Paired.rev r) q
def StT (w:Jp) (C:G') (H:Hp) (sa:SA) (m:Mem) (rs:Bool->List Wr):Prop:=∃ M r,sa.At w C H M r/\MemR H M m/\∀ b,JC (WrR H) (rs b) (r b)
section
variable {w:Jp}{C:G'}{H H':Hp}{sa:SA}{m:Mem}{rs:Bool->List Wr}
theorem StT.keep (S:StT w C H sa m rs) (h:∀ c o,sa.own c->H c=dk o->H' c=dk o) (ht:∀ b vs,H b=dk (.tup vs)->H' b=dk (.tup vs)):StT w C H' sa m rs:=by
 obtain⟨M,r,S,R,P⟩:=S;exact⟨M,r,S.keep (λc o hc=>h c o (yM hc)) ht,R.keep ht,λb=>Paired.mapP (P b) λ_ _ q=>q.keep ht⟩
def StT.same (S:StT w C H sa m rs) (h:bZ H H'):StT w C H' sa m rs:=S.keep (λc o _=>h c o) λb vs=>h b _
theorem StT.there (S:StT w C H sa m rs) {c:G'}(h:sa.own c):∃ o,H c=dk o/\(∀ xs,o≠.tup xs):=by
 obtain⟨M,r,S,_⟩:=S;exact S.there h
theorem StT.ob (S:StT w C H sa m rs):∃ dx,H sa.x=dk (.ins C dx (stF sa.hd sa.rl)):=by
 obtain⟨M,r,S,_⟩:=S;exact S.ob
def StT.names (S:StT w C H sa m rs) {b g:Bool}{i nm wt:Int}(e:rdP m (rs b) g i=dk (nm,wt)):0 <= nm/\nm < 9:=by
 obtain⟨M,r,S,R,P⟩:=S;exact EE R (P b) e
def StT.small {M:List (Jg × V)}{r:Bool->List (Jg × V)}(S:sa.At w C H M r) (R:MemR H M m):M.length <= 22:=by
 obtain⟨es,ep,_,_,nd,_⟩:=S.me;have:=@mW Jg (λa b=>Classical.propDecidable (a=b)) _ kn nd λd hd=>by
  obtain⟨q,hq,rfl⟩:=Lg.mp hd;exact R.ks q hq
 rw[Ju]at this;exact this
end
theorem gz {α β:Type}{F:α->β->Prop}:∀ {xs:List α}{ys:List β}{xs':List α}{ys':List β},JC F xs ys->JC F xs' ys'->JC F (xs++xs') (ys++ys')
|_,_,_,_,.nil,t=>t
|_,_,_,_,.cons r t,t'=>.cons r (gz t t')
def StT.grow {w:Jp}{C:G'}{H H':Hp}{sa:SA}{m:Mem}{rs:Bool->List Wr}{M:List (Jg × V)}{r:Bool->List (Jg × V)}{b:Bool}{ws:List Wr}{es:List (Jg × V)}(R:MemR H M m) (P:∀ b,JC (WrR H) (rs b) (r b)) (S2:sa.At w C H' M (bq r b (r b++es))) (ht:∀ c vs,H c=dk (.tup vs)->H' c=dk (.tup vs)) (hn:JC (WrR H') ws es):StT w C H' sa m (bq rs b (rs b++ws)):=by
 refine⟨M,_,S2,R.keep ht,λc=>?_⟩;by_cases e:c=b
 . subst e;rw[b9,b9];exact gz (Paired.mapP (P c) λ_ _ q=>q.keep ht) hn
 . rw[fD e,fD e];exact Paired.mapP (P c) λ_ _ q=>q.keep ht
def aZ (p:RP) (m:Mem) (row:List Wr) (a b:Cn):Int:=(rdC m row a - rdC m row b) % (p.s * p.R)
def lT (p:RP) (m:Mem) (row:List Wr) (a:Cn):Wr:=.c a ((rdC m row a+1) % (p.s * p.R))
def AI (p:RP) (m:Mem) (row:List Wr) (g:Bool) (a:Cn) (nm wt:Int):List Wr :=
 if p.e then [lT p m row a,.p g (rdC m row a % p.s) nm wt] else [.p g (rdC m row a % p.s) nm wt,lT p m row a]
def wy {H:Hp}{p:RP}{m:Mem}{row:List Wr}{g:Bool}{a:Cn}{nm wt:Int}{t:G'}(hp:p.Ok) (hn:0 <= nm/\nm < 9) (ht:H t=dk (.tup [.int nm,.int wt])):JC (WrR H) (AI p m row g a nm wt) (oB p (uM g) a.key (rdC m row a) (.ref t)):=by
 have h1:WrR H (.p g (rdC m row a % p.s) nm wt) (.tuple [.str (uM g),.int (rdC m row a % p.s)],.ref t):=by
  have a1:=Lu (rdC m row a) (show p.s≠0 by have:=hp.s0;omega);have a2:=Lo (rdC m row a) hp.s0;have:=hp.s8;exact⟨⟨⟨a1,by omega⟩,hn⟩,rfl,⟨t,_,rfl,ht,_,_,rfl,rfl,_,_,rfl,rfl,rfl⟩⟩
 have h2:WrR H (lT p m row a) (.str a.key,.int ((rdC m row a+1) % (p.s * p.R))):=⟨trivial,rfl,rfl⟩
 unfold AI oB;cases p.e with
|true=>exact .cons h2 (.cons h1 .nil)
|false=>exact .cons h1 (.cons h2 .nil)
structure LA where
 sd:G'
 md:G'
 rw:G'
 l:Bool->G'
 ud:G'
 tk:G'
def lR {a b:Str}(h:a≠b):(Sum.inr a:Key)≠Sum.inr b:=λz=>h (Sum.inr.inj z)
section
variable {H:Hp}{la:LA}{p:RP}{n:Int}
end
section
variable {w:Jp}{H H':Hp}{la:LA}{p:RP}{n:Int}{m:Mem}{rs:Bool->List Wr}{un tk:List Int}
end
theorem Ae (i:Int):∀ ns:List Int,inV (.int i) (ns.map V.int)=ns.contains i
|[]=>rfl
|n :: ns=>by
  have ih:=Ae i ns;unfold inV at ih |-;rw[Kq,any_cons,ih,contains_cons];congr 1;show eqV (.int n) (.int i)=(i == n)
  simp only[eqV];rw[KN,beq_iff_eq,beq_iff_eq];exact eq_comm
def bF {α:Type}{x:α}{xs:List α}:atI (x :: xs) 0=dk x:=by
 unfold atI ixN;simp
theorem nZ {α β:Type}{F:α->β->Prop}:∀ {xs:List α}{ys:List β}{j:Nat}{y:β},JC F xs ys->ys[j]?=dk y->∃ x,xs[j]?=dk x/\F x y
|_,_,_,_,.nil,e=>by simp at e
|_,_,0,_,.cons r _,e=>by simp at e;subst e;exact⟨_,rfl,r⟩
|_,_,j+1,_,.cons _ t,e=>by
  obtain⟨x,a,b⟩:=nZ (j:=j) t (by simpa using e);exact⟨x,by simpa using a,b⟩
def KO (own:G'->Prop) (H H':Hp):Prop:=∀ c o,¬ own c->H c=dk o->H' c=dk o
def KO.refl (own:G'->Prop) (H:Hp):KO own H H:=λ_ _ _ e=>e
def KO.of_kp {own:G'->Prop}{xs:List G'}{H H':Hp}(k:Kp xs H H') (h:∀ c∈xs,own c):KO own H H':=λc o n e=>k c o (λm=>n (h c m)) e
def KO.of_same {own:G'->Prop}{H H':Hp}(s:bZ H H'):KO own H H':=λc o _ e=>s c o e
def KO.trans {own own':G'->Prop}{H H1 H2:Hp}(a:KO own H H1) (b:KO own' H1 H2) (h:∀ c,own' c->own c\/H c=Jd):KO own H H2:=λc o n e=>b c o (λz=>by
 rcases h c z with y|y
 . exact n y
 . rw[y]at e;cases e) (a c o n e)
section
variable {w:Jp}{CH CT CR CS:G'}{H H':Hp}{z:HA}{zt:TA'}{sa:SA}{la:LA}{p:RP}{n:Int}{m:Mem}{rs:Bool->List Wr}{un tk aw:List Int}{nn:Int}{st:G'}
end
def scD:Jg->Bool
|.none=>D'
|.bool _=>D'
|.int _=>D'
|.str _=>D'
|_=>j'
def flD:Jg->Bool
|.tuple ds=>ds.all scD
|d=>scD d
def DV.sc {H H':Hp}:∀ {d:Jg}{v:V},scD d=D'->DV H d v->DV H' d v
|.none,_,_,h=>h
|.bool _,_,_,h=>h
|.int _,_,_,h=>h
|.str _,_,_,h=>h
|.list _,_,h,_=>by cases h
|.tuple _,_,h,_=>by cases h
|.dict _,_,h,_=>by cases h
theorem DVs.sc {H H':Hp}:∀ {ds:List Jg}{vs:List V},ds.all scD=D'->DVs H ds vs->DVs H' ds vs
|[],_,_,h=>h
|d :: ds,_,h,⟨v,r,e,h1,h2⟩=>by
  rw[all_cons,Kr]at h;exact⟨v,r,e,DV.sc h.1 h1,DVs.sc h.2 h2⟩
def DV.fl {H H':Hp}(ht:∀ b vs,H b=dk (.tup vs)->H' b=dk (.tup vs)):∀ {d:Jg}{v:V},flD d=D'->DV H d v->DV H' d v
|.none,_,_,h=>h
|.bool _,_,_,h=>h
|.int _,_,_,h=>h
|.str _,_,_,h=>h
|.list _,_,h,_=>by cases h
|.tuple ds,_,h,⟨a,vs,e,ha,hv⟩=>⟨a,vs,e,ht _ _ ha,DVs.sc h hv⟩
|.dict _,_,h,_=>by cases h
def Nms (k:Int) (ns:List Int):Prop:=ns.Nodup/\∀ x∈ns,0 <= x/\x < k
def Nms.nil (k:Int):Nms k []:=⟨nodup_nil,λ_ h=>by cases h⟩
def Nms.len {k:Int}{ns:List Int}(h:Nms k ns) (hk:k <= 9):ns.length <= 9:=by
 have:=mW (l:=ns) (ks:=[0,1,2,3,4,5,6,7,8]) h.1 λx hx=>by
  have:=h.2 x hx;have:x=0\/x=1\/x=2\/x=3\/x=4\/x=5\/x=6\/x=7\/x=8:=by omega
  simp only[JE,Kl,or_false];exact this
 exact this
def Nms.snoc {k x:Int}{ns:List Int}(h:Nms k ns) (hx:ns.contains x=j') (hb:0 <= x/\x < k):Nms k (ns++[x]):=by
 refine⟨?_,λy hy=>?_⟩
 . rw[nodup_append];refine⟨h.1,K7.mpr ⟨by simp,nodup_nil⟩,λa ha b hb' e=>?_⟩;rw[Je.mp hb']at e;rw[Kc,decide_eq_false_iff_not]at hx;exact hx (e ▸ ha)
 . rcases KU.mp hy with z|z
   . exact h.2 y z
   . rw[Je.mp z];exact hb
theorem Nms.filter {k x:Int}{ns:List Int}(h:Nms k ns):Nms k (ns.filter λy=>decide (y≠x)) :=
 ⟨Pairwise.filter _ h.1,λy hy=>h.2 y (Ls.mp hy).1⟩
def Nms.next {k x:Int}{ns:List Int}(h:Nms k ns) (hb:0 <= x/\x < k):Nms k (tG ns x):=by
 unfold tG;cases e:ns.contains x with
|true=>exact h
|false=>exact h.snoc e hb
section
variable {g:Bool}{a f:Cn}{s N:Int}{W:List Wr}{A:List (Int × Int)}{na nf:Nat}
end
section
variable {g:Bool}{a f:Cn}{s N:Int}{W:List Wr}{A:List (Int × Int)}{na nf:Nat}
end
section
variable {s R:Int}{m:Mem}{rs:Bool->List Wr}{A B:List (Int × Int)}{T Hd:Nat}{Wf Wt:List Wr}{df dt:Nat}{A' B':List (Int × Int)}{a' h' b' t':Nat}
end
section
variable {s R:Int}{n:Nat}{m:Mem}{rs:Bool->List Wr}{un tk:List Int}{A B:List (Int × Int)}{T Hd:Nat}
end
section
variable {X:Cx}
def Ite (K:Jh) (a:G'):It :=
 ⟨λi H=>∃ xs x,SqL K H a xs/\xs[i]?=dk x,
  λi H v H'=>∃ T x,H T=Jd/\v=.ref T/\H'=upd H T (.tup [.int (i:Int),x])/\∀ xs,SqL K H a xs->xs[i]?=dk x,
  λi H=>∃ xs,SqL K H a xs/\xs.length <= i⟩
def zO {P:Jz}{w:Jp}{K:Jh}{elts:List Expr}{kt:Nat}{pt:Pos}{e it a:G'}(hne:e≠it) :
 Turn P w K (.Tuple elts kt pt) (Ite K a) [e,it] e (λi h=>(∃ old,IsEnum h e it (i:Int) old)/\h.IsListIter it a i) where
 mem:=Jx
 obj:=λi h st c hc=>by
  obtain⟨⟨_,s1⟩,o,s2,_,s3⟩:=st;simp only[JE,Kl,or_false]at hc;rcases hc with rfl|rfl
  . exact⟨_,s1,λv q=>by cases q⟩
  . exact⟨o,s2,λv q=>by rw[s3]at q;cases q⟩
 keep:=λi h h' st k=>by
  obtain⟨⟨u,s1⟩,o,s2,s3⟩:=st;exact⟨⟨u,k e (by simp) _ s1⟩,o,k it (by simp) _ s2,s3⟩
 item:=by
  intro X hP hw hK hc i Lv s σ H E I hf st hg;subst hP hw hK;obtain⟨⟨u,s1⟩,s2⟩:=st;obtain⟨xs,x,q1,hx⟩:=hg;obtain⟨us,r1,p1,_⟩:=I.list q1;obtain⟨ux,hux,rx⟩:=r1.get hx;refine wpAny_pyNext_enum_item s1 s2 p1.isList (x:=ux) (by simpa using hux) hne λh' t1 t2 t3 t4 kk=>?_
  have hfresh:H s.heap.objs.size=Jd:=I.hok.fresh (Jk _);have lt:∀ {c o},s.heap.get? c=dk o->c≠s.heap.objs.size:=λe=>JR (Jr e)
  refine⟨_,rfl,wpAny_letOwnedTupleGo_enum t1 λh'' u1 e2=>?_⟩;have ch:∀ c o,c ∉ [e,it]->s.heap.get? c=dk o->h''.get? c=dk o:=λc o n ee=>by
   have n1:c≠e:=λq=>n (by simp[q])
   exact e2.extBut _ _ n1 (kk c o n1 (λq=>n (by simp[q])) ee)
  have I1:Inv X Lv σ H { s with heap:=h'',toks:=s.toks+1 }:=I.turnedL (t':=s.toks+1) (λb hb=>hf b hb) ch;have T5:h''.get? s.heap.objs.size=dk { cls:=.type "tuple",data:=.seq #[.int (i:Int) s.toks,ux] }:=e2.extBut _ _ (lt s1).symm t3;have apt:=I.aptSz (Jk s.heap.objs.size) hfresh;have I2:=I1.seen (o:=.tup [.int (i:Int),x]) apt ⟨by show 2 <= Jm;decide,[.int (i:Int) s.toks,ux],.cons ⟨_,rfl⟩ (.cons rx .nil),⟨_,T5,rfl,_,rfl⟩⟩;refine⟨.ref s.heap.objs.size,_,I2,rfl,⟨_,x,hfresh,rfl,rfl,λzs hz=>by rw[I.list_inj hz q1];exact hx⟩,⟨⟨_,u1⟩,?_⟩,λb hb=>?_⟩
  . obtain⟨o,a1,a2⟩:=t2;exact⟨o,e2.extBut _ _ hne.symm a1,a2⟩
  . obtain⟨o,ho,_⟩:∃ o,s.heap.get? b=dk o/\True:=by
     simp only[JE,Kl,or_false]at hb;rcases hb with rfl|rfl
     . exact⟨_,s1,trivial⟩
     . obtain⟨o,a1,_⟩:=s2;exact⟨o,a1,trivial⟩
    rw[aa (lt ho)];exact(hf b hb).1
 done:=by
  intro X hP hw hK hc i Lv s σ H E I hf st hg;subst hP hw hK;obtain⟨⟨u,s1⟩,s2⟩:=st;obtain⟨xs,q1,hx⟩:=hg;obtain⟨us,r1,p1,_⟩:=I.list q1;have hl:=r1.length;exact wpAny_pyNext_enum_end (I.ok.hd hc) s1 s2 p1.isList (by simp;omega) λh' kk=>⟨rfl,I.turnedL (t':=s.toks) (ch:=[it]) (λb hb=>hf b (by
   rw[Je.mp hb];simp)) λb o n ee=>kk b o (λq=>n (by simp[q])) ee⟩
 self:=λA i s Q E st hQ=>by
  obtain⟨⟨u,s1⟩,_⟩:=st;exact wpAny_pyIter_enum s1 hQ
def GU (K:Jh) (ta:TA):TI:=λσ H R=>ta σ H λvs H1=>∃ a xs,vs=[.ref a]/\SqL K H1 a xs/\R (Ite K a) H1
def Ac:Kb "enumerate"=dk (.type "enumerate"):=by decide +kernel
def DN {a:Expr}{ta:TA}{p pos pt:Pos}{elts:List Expr}{kt:Nat}(hg:Gl X "enumerate") (hm:X.mg "enumerate"=Jd) (ha:PA X [a] ta) (hs:JL [a] X.env=[(j',eval a X.env)]:=by rfl) :
 PI X (.Tuple elts kt pt) (.Call (.Name "enumerate" p) [a] [] pos) (GU X.K ta):=by
 intro Lv s σ H R I h;refine Call_ (nT I hg hm Ac (KP (thn (ha pos Lv s σ H _ I h) λus s1 ⟨vs,H1,I1,r1,q1⟩=>?_) (by rw[hs];rfl) (by first|rfl|(rw[hs];rfl))));obtain⟨a1,xs,e,h1,q⟩:=q1;subst e;obtain⟨u,rfl,ru⟩:=r1.one;cases ru;obtain⟨us,_,p1,_⟩:=I1.list h1;refine call_enumerate_list p1.isList λh' z1 z2 z3 kk=>wpAny_pyIter_enum z1 ?_
 have fr:∀ b,s1.heap.objs.size <= b->vW X Lv H1 b:=λb hb=>I1.fpOk hb (I1.hok.fresh hb)
 refine⟨_,[s1.heap.objs.size+1,s1.heap.objs.size],_,_,H1,rfl,I1.kept (t':=s1.toks) kk,zO (by show (_:Nat)≠_;omega),⟨⟨_,z1⟩,z2⟩,λb hb=>fr b ?_,q⟩;simp only[JE,Kl,or_false]at hb;rcases hb with rfl|rfl<;>omega
def AW {K:Jh}{a:G'}{xs:List V}{g:TG}{tb:TS}{D:Ends}{σ:St}{H:Hp}(Pv:Nat->St->Hp->Prop) (h0:Pv 0 σ H) (hl:∀ i σ H,i <= xs.length->Pv i σ H->SqL K H a xs)
 (hs:∀ i x T σ H,xs[i]?=dk x->H T=Jd->Pv i σ H->g (.ref T) σ (upd H T (.tup [.int (i:Int),x])) λσ2 H2=>tb { D with nx:=Pv (i+1),ct:=Pv (i+1),bk:=D.nx } σ2 H2) (hd:∀ σ H,Pv xs.length σ H->D.nx σ H) :
 ∃ W:Nat->Nat->St->Hp->Prop,(∃ m,W 0 m σ H)/\∀ i m σ H,W i m σ H ->
  ((Ite K a).stop i H/\D.nx σ H)\/((Ite K a).go i H/\∃ N:St->Hp->Prop,(∀ σ' H',N σ' H'->∃ m',m' < m/\W (i+1) m' σ' H')/\∀ x H',(Ite K a).yld i H x H'->g x σ H' λσ2 H2=>tb { D with nx:=N,ct:=N,bk:=D.nx } σ2 H2):=by
 refine⟨λi m σ H=>m=xs.length - i/\i <= xs.length/\Pv i σ H,⟨xs.length,by simp,KG _,h0⟩,?_⟩;rintro i m σ H ⟨rfl,hi,p⟩;have q1:=hl i σ H hi p;by_cases hlt:i < xs.length
 . refine .inr ⟨⟨xs,xs[i],q1,Jl hlt⟩,Pv (i+1),λσ' H' z=>⟨xs.length - (i+1),by omega,rfl,hlt,z⟩,?_⟩;rintro v H' ⟨T,x,hT,rfl,rfl,hx⟩;exact hs i x T σ H (hx _ q1) hT p
 . refine .inl ⟨⟨xs,q1,by omega⟩,hd σ H ?_⟩;have e:i=xs.length:=by omega
   rw[<-e];exact p
end
section
variable {X:Cx}
end
section
variable {X:Cx}
end
def ltS (a b:Str):Prop:=a.cps.toList < b.cps.toList
def Paired.at' {α β:Type}{R:α->β->Prop}{as:List α}{bs:List β}(h:JC R as bs):∀ {i:Nat}{a:α},as[i]?=dk a->∃ b,bs[i]?=dk b/\R a b:=by
 induction h with
|nil=>intro i a e;cases e
|cons r _ ih =>
  intro i a e;cases i with
 |zero=>cases e;exact⟨_,rfl,r⟩
 |succ i=>exact ih (i:=i) e
section
variable {X:Cx}{Lv:List (G' × Ku)}{σ:St}{H:Hp}{s:Jc}
end
def HK (K:Jh) (a:G') (D:List (Str × G')):Prop:=(a == KA)=j'/\∃ o es ep,K.lookup a=dk o/\o.ExactDict/\o.data=.dict es ep/\KTD.Rows (λ(b:G') (v:Ja)=>v=.ref b) es.toList D
section
variable {X:Cx}{Lv:List (G' × Ku)}{σ:St}{H:Hp}{s:Jc}
def uL {A:JK}{E:Ja->Jc->Prop}{a:G'}{D:List (Str × G')}{k:Str}{tk:Tok}{o:Ku}{es:Array JM}{ep:Nat}{prog:Jz}{w:Jp}{s:Jc}{Q:Option Ja->Jc->Prop}(ho:s.heap.get? a=dk o) (hd:o.data=.dict es ep) (hr:KTD.Rows (λ(b:G') (v:Ja)=>v=.ref b) es.toList D)
 (h1:Q ((KTD.datumAt k D).map JJ) { s with toks:=s.toks+1 }):Jo (model prog w) A (dictGet a (.str k tk)) Q E s:=by
 unfold dictGet
 try with_reducible refine Kg ?_
 refine f' (wpAny_pyHash_str (f' (KTD.kt_dictFind_strs (s:={ s with toks:=s.toks+1 }) ho hd (by obtain⟨l⟩:=es;simpa using hr.exact) ?_)));have hq:Q (findBy (λk v=>v.isStr k) es k) { s with toks:=s.toks+1 }:=by
  have hf:findBy (λk v=>v.isStr k) es k=(es.toList.find? λe=>e.key.isStr k).map (·.val):=by
   obtain⟨l⟩:=es;simp[findBy]
  rw[hf];cases hat:KTD.datumAt k D with
 |some d =>
   obtain⟨v,hv,hfl⟩:=hr.find_some hat;rw[hv,hfl];rw[hat]at h1;exact h1
 |none =>
   rw[hr.find_none hat];rw[hat]at h1;exact h1
 rw[findBy_of_findIdx?]at hq;cases hi:es.findIdx? λe=>e.key.isStr k with
|none=>rw[hi]at hq;exact Jb hq
|some i=>rw[hi]at hq;exact f' (wpAny_dictEntries (s:={ s with toks:=s.toks+1 }) ho hd (Jb hq))
def Im:Option G'->V
|some b=>.ref b
|none=>.non
def DL (D:List (Str × G')) (ty:TE):TE:=λσ H Q=>ty σ H λy H1=>∃ k,y=.str k/\Q (Im (KTD.datumAt k D)) H1
def Aa {T:Str}{a:G'}{D:List (Str × G')}{e:Expr}{ty:TE}{p apos cpos:Pos}(hg:Gl X T) (hm:X.mg T=dk (.ref a)) (ht:HK X.K a D) (he:PE X e ty) (m:M1 X (.Name T p) "get" apos e cpos) (hdb:(T == ("__debug__":Str))=j':=by decide):PE X (.Call (.Attribute (.Name T p) "get" apos) [e] [] cpos) (DL D ty):=by
 intro Lv s σ H Q I h;obtain⟨hs,o,es,ep,hl,hx,hd,hr⟩:=ht;have ho:∀ {s':Jc} {H':Hp},Inv X Lv σ H' s'->s'.heap.get? a=dk o:=λI'=>I'.kIn a o hl
 refine wpAny_Call_method m.base m.few m.line PySem.F.plainAttrs_dict PySem.F.slot_dict_get PySem.F.type_dict_get (jd I hg hm ?_ hdb);refine⟨⟨o,ho I,hx.1⟩,?_,?_⟩
 . intro b q;cases q;exact⟨o,ho I,hx.2.1⟩
 . rw[m.trees];refine K5 rfl (K2 (KY (thn (he Lv s σ H _ I h) λiv s2 ⟨y,H2,I2,ry,k,ey,q2⟩=>Calls.spliced_nil ?_)));subst ey;obtain⟨t,rfl⟩:=ry;refine JS PySem.F.slot_dict_get ⟨o,ho I2,hx.1⟩ PySem.F.entry_dict_get ?_ (PySem.F.args_dict_get_2 _ _);show Jo _ _ (dictGet a (.str k t) >>= _) _ _ s2;refine f' (uL (ho I2) hd hr ?_);cases hat:KTD.datumAt k D with
  |some b =>
    rw[hat]at q2;exact Jb ⟨_,rfl,.ref b,H2,I2.tok _,rfl,q2⟩
  |none =>
    rw[hat]at q2;show Jo _ _ (Builtin.Dict.missed a (.str k t) >>= _) _ _ _;exact f' (wpAny_missed_other hs (Jb ⟨.none,rfl,.non,H2,I2.tok _,rfl,q2⟩))
end
section
variable {X:Cx}
def xw {prog:Jz}{w:Jp}{A:JK}{I l:G'}{items:Array Ja}(hh:A.handled=Jd) (hIl:I≠l) :
 Walks prog w A I [I,l] [I] items.size (λi v=>items[i]?=dk v) (λi h=>h.IsListIter I l i/\h.IsList l items) where
 sub b hb:=by rw[Je.mp hb];exact Jx
 frame i h h' st k:=by
  obtain⟨⟨o,ho,r⟩,⟨ol,hol,rl⟩⟩:=st;exact⟨⟨o,k I Jx _ ho,r⟩,⟨ol,k l (Jv _ Jx) _ hol,rl⟩⟩
 item i s Q E hi st k:=by
  refine wpAny_pyNext_list_item st.1 st.2 (JG hi) λh' it' sb=>k _ h' s.toks (JG hi) ⟨it',?_⟩ λb o hb e=>(sb.2 b (λy=>hb (by rw[y];exact Je.mpr rfl))).trans e
  obtain⟨ol,hol,rl⟩:=st.2;exact⟨ol,(sb.2 l (K9 hIl)).trans hol,rl⟩
 done s Q E st k:=by
  refine wpAny_pyNext_list_end hh st.1 st.2 (by rw[Array.getElem?_eq_none_iff];exact Jk _) λh' eb=>k h' s.toks λb o hb e=>?_
  exact eb b o (λy=>hb (by rw[y];exact Je.mpr rfl)) e
 self i s Q E st k:=wpAny_pyIter_listiter st.1 k
theorem tV:∀ {bs:List Bool}{us:List Ja},bE (bs.map V.bl) us->us=bs.map Ja.bool
|[],_,.nil=>rfl
|b :: bs,_,.cons r t=>by
  have r':_=Ja.bool b:=r;rw[r',tV t];rfl
def FV:Kb "all"=dk (.builtin "all"):=by decide +kernel
def C7 (hc:X.calm=D'):pe X (.builtin "all") (λxs H Q=>∃ (p:G') (bs:List Bool),xs=[.ref p]/\SqL X.K H p (bs.map V.bl)/\Q (.bl (bs.all id)) H):=by
 intro Lv s σ H xs us Q I r h;obtain⟨p,bs,rfl,hq,q⟩:=h;obtain⟨u,rfl,rx⟩:=sy r;cases rx;obtain⟨its,r',pl,hz⟩:=I.list hq;have hb:=tV r';have il:=pl.isList;refine call_all_walk (wpAny_pyIter_list il ⟨s.heap.objs.size,_,_,_,_,_,λi=>bs.getD i D',rfl,xw (I:=s.heap.objs.size) (l:=p) (items:=its.toArray) (I.ok.hd hc) ?_,⟨⟨_,Js _ rfl,rfl,rfl⟩,?_⟩,?_,?_⟩)
 . obtain⟨o,ho,_⟩:=il;exact K9 (JR (Jr ho))
 . obtain⟨o,ho,rr⟩:=il;exact⟨o,Jf _ ho,rr⟩
 . intro i v s' Q' E' hv hq';have hv':its[i]?=dk v:=by rw[<-hv];simp
   rw[hb,Ke]at hv';obtain⟨b,hbi,rfl⟩:=map_eq_some_iff.mp hv';have:bs.getD i D'=b:=by rw[KS,hbi];rfl
   have hq2:Q' (bs.getD i D') s':=hq';rw[this]at hq2;exact KH hq2
 . intro h' tk k;have e:((Ll its.toArray.size).all λi=>bs.getD i D')=bs.all id:=by
    have hl:its.toArray.size=bs.length:=by rw[JD,hb,Ju]
    rw[hl,KN,all_eq_true,all_eq_true];constructor
    . intro h x hx;obtain⟨i,hi,rfl⟩:=List.getElem_of_mem hx;have:=h i (mem_range.mpr hi);rw[KS,Jl hi]at this;exact this
    . intro h i hi;have hi':=mem_range.mp hi;rw[KS,Jl hi'];exact h _ (getElem_mem hi')
   rw[e];refine⟨.bl (bs.all id),H,I.kept λb o hb=>k b o (λy=>?_) (Jf _ hb),rfl,q⟩;rw[Je]at y;have:=Jr hb;rw[y]at this;exact K1 _ this
end
section
variable {X:Cx}
end
def wI {X:Cx}{x:Str}{i:Int}{p:Pos}(hg:Gl X x) (hm:∃ t,X.mg x=dk (.int i t)) (hdb:(x == ("__debug__":Str))=j':=by decide):PE X (.Name x p) (tC (.int i)):=by
 obtain⟨t,hm⟩:=hm;intro Lv s σ H Q I h;exact jd I hg hm ⟨.int i,H,I,⟨t,rfl⟩,h⟩ hdb
def xA (z:HA) (zt:TA') (sa:SA) (c:G'):Prop:=z.own c\/zt.own c\/sa.own c
structure X5 (w:Jp) (CH CT CR CS:G') (H:Hp) (z:HA) (zt:TA') (sa:SA) (p:RP) (n:Nat) (m:Mem) (rs:Bool->List Wr) (un tk:List Int):Prop where
 hn:Hn CH CR H z sa.x p n un
 tn:Tn CT CR H zt sa.x p tk
 st:StT w CS H sa m rs
 dz:∀ c,z.own c->¬ zt.own c
section
variable {w:Jp}{CH CT CR CS:G'}{H H':Hp}{z:HA}{zt:TA'}{sa:SA}{p:RP}{n:Nat}{m m':Mem}{rs rs':Bool->List Wr}{un tk un' tk':List Int}
theorem X5.keep (W:X5 w CH CT CR CS H z zt sa p n m rs un tk) (k:∀ c o,xA z zt sa c->H c=dk o->H' c=dk o) (ht:∀ b vs,H b=dk (.tup vs)->H' b=dk (.tup vs)):X5 w CH CT CR CS H' z zt sa p n m rs un tk :=
 ⟨W.hn.keep λc o h=>k c o (.inl h),W.tn.keep λc o h=>k c o (.inr (.inl h)),W.st.keep (λc o h=>k c o (.inr (.inr h))) ht,W.dz⟩
theorem X5.there (W:X5 w CH CT CR CS H z zt sa p n m rs un tk) {c:G'}(h:xA z zt sa c):∃ o,H c=dk o/\∀ vs,o≠.tup vs:=by
 rcases h with h|h|h
 . obtain⟨o,e,⟨_,_,_,s⟩|⟨_,s⟩⟩:=W.hn.there h
   . exact⟨o,e,λvs y=>by rw[y]at s;cases s⟩
   . exact⟨o,e,λvs y=>by rw[y]at s;cases s⟩
 . obtain⟨o,e,⟨_,_,_,s⟩|⟨_,s⟩⟩:=W.tn.there h
   . exact⟨o,e,λvs y=>by rw[y]at s;cases s⟩
   . exact⟨o,e,λvs y=>by rw[y]at s;cases s⟩
 . exact W.st.there h
def Gv {p:RP}{st:G'}{nn:Int}{aw:List Int}(B:Hn CH CR H z st p nn aw) (S:StT w CS H sa m rs) (b:Bool):¬ z.own (sa.l b):=λhc=>by
 obtain⟨o1,q1,s1⟩:=B.there hc;obtain⟨M,r,S',_⟩:=S;obtain⟨ts,e,_⟩:=S'.rw b;rw[e]at q1;cases q1;rcases s1 with⟨_,_,_,s⟩|⟨_,s⟩<;>cases s
def GO {p:RP}{st:G'}{aw:List Int}(B:Tn CT CR H zt st p aw) (S:StT w CS H sa m rs) (b:Bool):¬ zt.own (sa.l b):=λhc=>by
 obtain⟨o1,q1,s1⟩:=B.there hc;obtain⟨M,r,S',_⟩:=S;obtain⟨ts,e,_⟩:=S'.rw b;rw[e]at q1;cases q1;rcases s1 with⟨_,_,_,s⟩|⟨_,s⟩<;>cases s
def qf:∀ c∈[z.gd,sa.l j'],xA z zt sa c:=λc hc=>by
 rcases JE.mp hc with y|y
 . rw[y];exact .inl (.inr (.inr (.inr rfl)))
 . rw[Je.mp y];exact .inr (.inr (Dp j'))
def qv:∀ c∈[zt.gd,sa.l D'],xA z zt sa c:=λc hc=>by
 rcases JE.mp hc with y|y
 . rw[y];exact .inr (.inl (.inr (.inr (.inr rfl))))
 . rw[Je.mp y];exact .inr (.inr (Dp D'))
def sX {b:Bool}:∀ c∈[sa.l b,sa.hd],xA z zt sa c:=λc hc=>by
 rcases JE.mp hc with y|y
 . rw[y];exact .inr (.inr (Dp b))
 . rw[Je.mp y];exact .inr (.inr EG)
def X5.hand (W:X5 w CH CT CR CS H z zt sa p n m rs un tk) (hn':Hn CH CR H' z sa.x p n un') (st':StT w CS H' sa m' rs') (kp:Kp [z.gd,sa.l j'] H H'):X5 w CH CT CR CS H' z zt sa p n m' rs' un' tk:=by
 refine⟨hn',W.tn.keep λc o hc e=>kp c o (λmm=>?_) e,st',W.dz⟩;rcases JE.mp mm with y|y
 . exact W.dz c (by rw[y];exact .inr (.inr (.inr rfl))) hc
 . exact GO W.tn W.st j' (by rw[<-Je.mp y];exact hc)
def X5.heart (W:X5 w CH CT CR CS H z zt sa p n m rs un tk) (tn':Tn CT CR H' zt sa.x p tk') (st':StT w CS H' sa m' rs') (kp:Kp [zt.gd,sa.l D'] H H'):X5 w CH CT CR CS H' z zt sa p n m' rs' un tk':=by
 refine⟨W.hn.keep λc o hc e=>kp c o (λmm=>?_) e,tn',st',W.dz⟩;rcases JE.mp mm with y|y
 . exact W.dz c hc (by rw[y];exact .inr (.inr (.inr rfl)))
 . exact Gv W.hn W.st D' (by rw[<-Je.mp y];exact hc)
def X5.store (W:X5 w CH CT CR CS H z zt sa p n m rs un tk) {b:Bool}(st':StT w CS H' sa m' rs') (kp:Kp [sa.l b,sa.hd] H H'):X5 w CH CT CR CS H' z zt sa p n m' rs' un tk:=by
 have hx:∀ c∈[sa.l b,sa.hd],(∃ ys,H c=dk (.lst ys))\/∃ ee:List JM × Nat,H c=dk (oK c ee.1 ee.2):=λc hc=>by
  obtain⟨M,r,S,_⟩:=W.st;rcases JE.mp hc with y|y
  . obtain⟨ts,e,_⟩:=S.rw b;exact .inl ⟨ts,by rw[y];exact e⟩
  . obtain⟨ee,e⟩:=S.me.there;exact .inr ⟨ee,by rw[Je.mp y];exact e⟩
 exact⟨W.hn.lists kp hx,W.tn.lists kp hx,st',W.dz⟩
end
def DV2 {H:Hp}{c:G'}{x y:Int}(h:H c=dk (.tup [.int x,.int y])):DV H (.tuple [.int x,.int y]) (.ref c):=⟨c,_,rfl,h,_,_,rfl,rfl,_,_,rfl,rfl,rfl⟩
theorem io {H:Hp}:∀ {ds:List Jg}{ts:List V},DVs H ds ts->ts.length=ds.length
|[],_,h=>by cases h;rfl
|d :: ds,_,⟨v,r,h,h1,h2⟩=>by subst h;rw[JN,JN,io h2]
def zB {xs:List V}{j:Nat}{v:V}(h:xs[j]?=dk v):atI xs (j:Int)=dk v:=by
 unfold atI ixN;have hl:=(Jy.mp h).1;rw[Pg (by omega),Pg (by omega)];exact h
inductive Bd where
|up|lies|asleep
instance:DecidableEq Bd:=λa b=>by
 cases a<;>cases b<;>first|exact isTrue rfl|exact isFalse (λh=>by cases h)
def Bd.key:Bd->Str
|.up=>"up"
|.lies=>"lies"
|.asleep=>"asleep"
def Fw {a b:Bd}(h:a.key=b.key):a=b:=by
 cases a<;>cases b<;>first|rfl|exact absurd h (by decide +kernel)
structure YP where
 p:RP
 n:Nat
 fb:Bool
 fl:Bool
 fk:Bool
structure YP.Ok (q:YP):Prop where
 ok:q.p.Ok
 n9:q.n <= 9
structure YA where
 y:G'
 ft:G'
 sa:SA
 z:HA
 zt:TA'
 sl:G'
 qu:G'
 hp:G'
structure YS where
 m:Mem
 rs:Bool->List Wr
 un:List Int
 tk:List Int
 bd:Bool->Bd
 qt:Bool->Bool
 hs:List Jg
def YS.zero:YS:=⟨Mem.zero,λ_=>[],[],[],λ_=>.up,λ_=>D',[]⟩
def yF (a:YA) (q:YP):List (Str × V):=ba "happened" (.ref a.hp) (ba "quiet" (.ref a.qu) (ba "sleepers" (.ref a.sl) (ba "look_sees" (.bl q.fk) (ba "lie_fences" (.bl q.fl) (ba "bell_fences" (.bl q.fb) (ba "heart" (.ref a.zt.h) (ba "hand" (.ref a.z.h) (ba "shelf" (.ref a.sa.x) (ba "faults" (.ref a.ft) (ba "rounds" (.int q.p.R) (ba "size" (.int q.p.s) [])))))))))))
section
variable {a:YA}{q:YP}
def CW:(yF a q).lookup ("size":Str)=dk (.int q.p.s):=by unfold yF;repeat (first|rw[a8,Pg rfl]|rw[a8,Ph (by decide +kernel)]);try rfl
def y6:(yF a q).lookup ("rounds":Str)=dk (.int q.p.R):=by unfold yF;repeat (first|rw[a8,Pg rfl]|rw[a8,Ph (by decide +kernel)]);try rfl
def fc:(yF a q).lookup ("shelf":Str)=dk (.ref a.sa.x):=by unfold yF;repeat (first|rw[a8,Pg rfl]|rw[a8,Ph (by decide +kernel)]);try rfl
def se:(yF a q).lookup ("hand":Str)=dk (.ref a.z.h):=by unfold yF;repeat (first|rw[a8,Pg rfl]|rw[a8,Ph (by decide +kernel)]);try rfl
def kN:(yF a q).lookup ("heart":Str)=dk (.ref a.zt.h):=by unfold yF;repeat (first|rw[a8,Pg rfl]|rw[a8,Ph (by decide +kernel)]);try rfl
def Dl:(yF a q).lookup ("bell_fences":Str)=dk (.bl q.fb):=by unfold yF;repeat (first|rw[a8,Pg rfl]|rw[a8,Ph (by decide +kernel)]);try rfl
def FO:(yF a q).lookup ("lie_fences":Str)=dk (.bl q.fl):=by unfold yF;repeat (first|rw[a8,Pg rfl]|rw[a8,Ph (by decide +kernel)]);try rfl
def Ek:(yF a q).lookup ("look_sees":Str)=dk (.bl q.fk):=by unfold yF;repeat (first|rw[a8,Pg rfl]|rw[a8,Ph (by decide +kernel)]);try rfl
def cj:(yF a q).lookup ("sleepers":Str)=dk (.ref a.sl):=by unfold yF;repeat (first|rw[a8,Pg rfl]|rw[a8,Ph (by decide +kernel)]);try rfl
def mZ:(yF a q).lookup ("quiet":Str)=dk (.ref a.qu):=by unfold yF;repeat (first|rw[a8,Pg rfl]|rw[a8,Ph (by decide +kernel)]);try rfl
def iE:(yF a q).lookup ("happened":Str)=dk (.ref a.hp):=by unfold yF;repeat (first|rw[a8,Pg rfl]|rw[a8,Ph (by decide +kernel)]);try rfl
def dP {f:Str}(h:f ∉ (["size","rounds","faults","shelf","hand","heart","bell_fences","lie_fences","look_sees","sleepers","quiet","happened"]:List Str)):(yF a q).lookup f=Jd:=by
 simp only[JE,Kl,or_false,not_or]at h;obtain⟨h1,h2,h3,h4,h5,h6,h7,h8,h9,h10,h11,h12⟩:=h;unfold yF;rw[a8,Ph h12,a8,Ph h11,a8,Ph h10,a8,Ph h9,a8,Ph h8,a8,Ph h7,a8,Ph h6,a8,Ph h5,a8,Ph h4,a8,Ph h3,a8,Ph h2,a8,Ph h1];rfl
end
def YA.lists (a:YA) (c:G'):Prop:=c=a.sl\/c=a.qu\/c=a.hp
def YA.own (a:YA) (c:G'):Prop:=c=a.y\/xA a.z a.zt a.sa c\/a.lists c
structure Yn (w:Jp) (CY CH CT CR CS:G') (H:Hp) (a:YA) (q:YP) (S:YS):Prop where
 ob:∃ dx,H a.y=dk (.ins CY dx (yF a q))
 x:X5 w CH CT CR CS H a.z a.zt a.sa q.p q.n S.m S.rs S.un S.tk
 sl:H a.sl=dk (.lst [.str (S.bd j').key,.str (S.bd D').key])
 qu:H a.qu=dk (.lst [.bl (S.qt j'),.bl (S.qt D')])
 hp:∃ ts,H a.hp=dk (.lst ts)/\DVs H S.hs ts
 fl:∀ d∈S.hs,flD d=D'
 d1:∀ c,a.lists c->¬ xA a.z a.zt a.sa c
 d2:a.sl≠a.qu/\a.sl≠a.hp/\a.qu≠a.hp
 d3:¬ xA a.z a.zt a.sa a.y
theorem DVs.fl {H H':Hp}(ht:∀ b vs,H b=dk (.tup vs)->H' b=dk (.tup vs)):∀ {ds:List Jg}{vs:List V},(∀ d∈ds,flD d=D')->DVs H ds vs->DVs H' ds vs
|[],_,_,h=>h
|d :: ds,_,hf,⟨v,r,e,h1,h2⟩=>⟨v,r,e,DV.fl ht (hf d Jx) h1,DVs.fl ht (λx hx=>hf x (Jv _ hx)) h2⟩
section
variable {w:Jp}{CY CH CT CR CS:G'}{H H':Hp}{a:YA}{q:YP}{S:YS}
theorem Yn.keep (Y:Yn w CY CH CT CR CS H a q S) (k:∀ c o,a.own c->H c=dk o->H' c=dk o) (ht:∀ b vs,H b=dk (.tup vs)->H' b=dk (.tup vs)):Yn w CY CH CT CR CS H' a q S:=by
 obtain⟨dx,hx⟩:=Y.ob;obtain⟨ts,h1,h2⟩:=Y.hp;exact⟨⟨dx,k _ _ (.inl rfl) hx⟩,Y.x.keep (λc o h=>k c o (.inr (.inl h))) ht,k _ _ (.inr (.inr (.inl rfl))) Y.sl,k _ _ (.inr (.inr (.inr (.inl rfl)))) Y.qu,⟨ts,k _ _ (.inr (.inr (.inr (.inr rfl)))) h1,DVs.fl ht Y.fl h2⟩,Y.fl,Y.d1,Y.d2,Y.d3⟩
def Yn.same (Y:Yn w CY CH CT CR CS H a q S) (s:bZ H H'):Yn w CY CH CT CR CS H' a q S:=Y.keep (λc o _=>s c o) λb vs=>s b _
def Yn.list (Y:Yn w CY CH CT CR CS H a q S) {c:G'}(h:a.lists c):∃ ys,H c=dk (.lst ys):=by
 rcases h with rfl|rfl|rfl
 . exact⟨_,Y.sl⟩
 . exact⟨_,Y.qu⟩
 . obtain⟨ts,e,_⟩:=Y.hp;exact⟨_,e⟩
theorem Yn.there (Y:Yn w CY CH CT CR CS H a q S) {c:G'}(h:a.own c):∃ o,H c=dk o/\∀ vs,o≠.tup vs:=by
 rcases h with rfl|h|h
 . obtain⟨dx,e⟩:=Y.ob;exact⟨_,e,λ_ z=>by cases z⟩
 . exact Y.x.there h
 . obtain⟨ys,e⟩:=Y.list h;exact⟨_,e,λ_ z=>by cases z⟩
def Yn.tups (Y:Yn w CY CH CT CR CS H a q S) {xs:List G'}(kp:Kp xs H H') (h:∀ c∈xs,a.own c):∀ b vs,H b=dk (.tup vs)->H' b=dk (.tup vs):=λb vs e=>kp b _ (λmm=>by
 obtain⟨o,e',nn⟩:=Y.there (h b mm);rw[e']at e;exact nn vs (JF e)) e
def Yn.parts (Y:Yn w CY CH CT CR CS H a q S) {xs:List G'}{m:Mem}{rs:Bool->List Wr}{un tk:List Int}(X':X5 w CH CT CR CS H' a.z a.zt a.sa q.p q.n m rs un tk) (kp:Kp xs H H') (h:∀ c∈xs,xA a.z a.zt a.sa c):Yn w CY CH CT CR CS H' a q { S with m:=m,rs:=rs,un:=un,tk:=tk }:=by
 have ht:=Y.tups kp λc hc=>.inr (.inl (h c hc))
 obtain⟨dx,hx⟩:=Y.ob;obtain⟨ts,h1,h2⟩:=Y.hp;have ls:∀ c o,a.lists c->H c=dk o->H' c=dk o:=λc o hc e=>kp c o (λmm=>Y.d1 c hc (h c mm)) e
 exact⟨⟨dx,kp _ _ (λmm=>Y.d3 (h _ mm)) hx⟩,X',ls _ _ (.inl rfl) Y.sl,ls _ _ (.inr (.inl rfl)) Y.qu,⟨ts,ls _ _ (.inr (.inr rfl)) h1,DVs.fl ht Y.fl h2⟩,Y.fl,Y.d1,Y.d2,Y.d3⟩
def Yn.lst_tups (Y:Yn w CY CH CT CR CS H a q S) {c:G'}(hc:a.lists c) (o:HO):∀ b vs,H b=dk (.tup vs)->upd H c o b=dk (.tup vs):=λb vs e=>by
 obtain⟨ys,e'⟩:=Y.list hc;rw[aa (λy=>by rw[y,e']at e;cases e)];exact e
def Yn.lst_own (Y:Yn w CY CH CT CR CS H a q S) {c:G'}(hc:a.lists c) (o:HO):∀ b u,xA a.z a.zt a.sa b->H b=dk u->upd H c o b=dk u:=λb u hb e=>by
 rw[aa (λy=>Y.d1 c hc (by rw[<-y];exact hb))];exact e
def Yn.lst_y (Y:Yn w CY CH CT CR CS H a q S) {c:G'}(hc:a.lists c) (o:HO):∃ dx,upd H c o a.y=dk (.ins CY dx (yF a q)):=by
 obtain⟨dx,hx⟩:=Y.ob;obtain⟨ys,e'⟩:=Y.list hc;exact⟨dx,by rw[aa (λy=>by rw[y,e']at hx;cases hx)];exact hx⟩
def Yn.setSl (Y:Yn w CY CH CT CR CS H a q S) (b:Bool) (x:Bd) {ys:List V}(h:ys=[.str (bq S.bd b x j').key,.str (bq S.bd b x D').key]):Yn w CY CH CT CR CS (upd H a.sl (.lst ys)) a q { S with bd:=bq S.bd b x }:=by
 have hc:a.lists a.sl:=.inl rfl;obtain⟨ts,h1,h2⟩:=Y.hp;have ht:=Y.lst_tups hc (.lst ys);exact⟨Y.lst_y hc _,Y.x.keep (Y.lst_own hc _) ht,by rw[a9,h],by rw[aa (K9 Y.d2.1)];exact Y.qu,⟨ts,by rw[aa (K9 Y.d2.2.1)];exact h1,DVs.fl ht Y.fl h2⟩,Y.fl,Y.d1,Y.d2,Y.d3⟩
def Yn.setQu (Y:Yn w CY CH CT CR CS H a q S) (b x:Bool) {ys:List V}(h:ys=[.bl (bq S.qt b x j'),.bl (bq S.qt b x D')]):Yn w CY CH CT CR CS (upd H a.qu (.lst ys)) a q { S with qt:=bq S.qt b x }:=by
 have hc:a.lists a.qu:=.inr (.inl rfl);obtain⟨ts,h1,h2⟩:=Y.hp;have ht:=Y.lst_tups hc (.lst ys);exact⟨Y.lst_y hc _,Y.x.keep (Y.lst_own hc _) ht,by rw[aa Y.d2.1];exact Y.sl,by rw[a9,h],⟨ts,by rw[aa (K9 Y.d2.2.2)];exact h1,DVs.fl ht Y.fl h2⟩,Y.fl,Y.d1,Y.d2,Y.d3⟩
def Yn.setHp (Y:Yn w CY CH CT CR CS H a q S) {x:Jg}{v:V}{ts:List V}(hts:H a.hp=dk (.lst ts)) (hv:DV H x v) (hx:flD x=D'):Yn w CY CH CT CR CS (upd H a.hp (.lst (ts++[v]))) a q { S with hs:=S.hs++[x] }:=by
 have hc:a.lists a.hp:=.inr (.inr rfl);obtain⟨ts',h1,h2⟩:=Y.hp;rw[hts]at h1;cases h1;have ht:=Y.lst_tups hc (.lst (ts++[v]));have hf:∀ d∈S.hs++[x],flD d=D':=λd hd=>by
  rcases KU.mp hd with h|h
  . exact Y.fl d h
  . rw[Je.mp h];exact hx
 exact⟨Y.lst_y hc _,Y.x.keep (Y.lst_own hc _) ht,by rw[aa Y.d2.2.1];exact Y.sl,by rw[aa Y.d2.2.2];exact Y.qu,⟨_,a9,DVs.fl ht hf (DVs.snoc h2 hv)⟩,hf,Y.d1,Y.d2,Y.d3⟩
end
inductive Dd where
|ask (wt:Int)|collect|take|answer (nm wt:Int)|bell (b:Bool)|lie (b:Bool)|look (b:Bool)|drain (b:Bool)
def Dd.vs:Dd->List V
|.ask wt=>[.str "ask",.int wt]
|.collect=>[.str "collect"]
|.take=>[.str "take"]
|.answer nm wt=>[.str "answer",.int nm,.int wt]
|.bell b=>[.str "bell",.int (sdI b)]
|.lie b=>[.str "lie",.int (sdI b)]
|.look b=>[.str "look",.int (sdI b)]
|.drain b=>[.str "drain",.int (sdI b)]
def Dd.Ok:Dd->Prop
|.ask wt=>-1000000000 <= wt/\wt <= 1000000000
|.answer _ wt=>-1000000000 <= wt/\wt <= 1000000000
|_=>True
inductive Rf where
|deed|full|name|task
def Dd.chk (q:YP) (S:YS):Dd->Option Rf
|.drain b=>if S.rs b=[] then dk .deed else Jd
|.look b=>if S.bd b=.lies then Jd else dk .deed
|.bell b=>if S.bd b=.up then Jd else dk .deed
|.lie b=>if S.bd b=.up then Jd else dk .deed
|.collect=>if S.bd j'=.up then Jd else dk .deed
|.take=>if S.bd D'=.up then Jd else dk .deed
|.ask _=>if S.bd j'=.up then (if aZ q.p S.m (S.rs j') .asked .taken=q.p.s then dk .full else match cF q.n S.un with|none=>dk .name|some _=>Jd) else dk .deed
|.answer nm _=>if S.bd D'=.up then (if S.tk.contains nm=j' then dk .task else if aZ q.p S.m (S.rs D') .answered .handed=q.p.s then dk .full else Jd) else dk .deed
section
variable {K:Jh}
def Gu:kitOne K (.type "int") (.type "int")=dk D':=by rfl
def GQ:kitOne K (.type "int") (.type "bool")=dk j':=by rfl
def Gn:kitOne K (.type "str") (.type "str")=dk D':=by rfl
end
def gc (x:Int) (k:Str):Bool:=if k="worth" then decide (-1000000000 <= x) && decide (x <= 1000000000) else if k="side" then decide (x=0) || decide (x=1) else D'
def Dd.word:Dd->Str
|.ask _=>"ask"
|.collect=>"collect"
|.take=>"take"
|.answer _ _=>"answer"
|.bell _=>"bell"
|.lie _=>"lie"
|.look _=>"look"
|.drain _=>"drain"
def Dd.args:Dd->List Int
|.ask wt=>[wt]
|.collect=>[]
|.take=>[]
|.answer nm wt=>[nm,wt]
|.bell b=>[sdI b]
|.lie b=>[sdI b]
|.look b=>[sdI b]
|.drain b=>[sdI b]
def Dd.ks:Dd->List Str
|.ask _=>["worth"]
|.collect=>[]
|.take=>[]
|.answer _ _=>["name","worth"]
|_=>["side"]
def Dd.side:Dd->Bool
|.ask _=>j'
|.collect=>j'
|.take=>D'
|.answer _ _=>D'
|.bell b=>b
|.lie b=>b
|.look b=>b
|.drain b=>b
def Dd.vs_eq (x:Dd):x.vs=.str x.word :: x.args.map V.int:=by cases x<;>rfl
def Dd.len (x:Dd):x.args.length=x.ks.length/\x.args.length <= 2:=by cases x<;>exact⟨rfl,by simp[Dd.args]⟩
def nk (b:Bool):gc (sdI b) "side"=D':=by cases b<;>decide +kernel
def Dd.part {x:Dd}(h:x.Ok):∀ (i:Nat) (y:Int) (k:Str),x.args[i]?=dk y->x.ks[i]?=dk k->gc y k=D':=by
 intro i y k hy hk;have wk:∀ {wt:Int},(-1000000000 <= wt/\wt <= 1000000000)->gc wt "worth"=D':=λ{wt} h=>by
  unfold gc;rw[Pg rfl,Pl h.1,Pl h.2];rfl
 have nmk:∀ {nm:Int},gc nm "name"=D':=λ{nm}=>by
  unfold gc;rw[Ph (by decide +kernel),Ph (by decide +kernel)]
 cases x with
|ask wt =>
  match i,hy,hk with
 |0,hy,hk=>cases hy;cases hk;exact wk h
 |_+1,hy,_=>cases hy
|collect=>cases hy
|take=>cases hy
|answer nm wt =>
  match i,hy,hk with
 |0,hy,hk=>cases hy;cases hk;exact nmk
 |1,hy,hk=>cases hy;cases hk;exact wk h
 |_+2,hy,_=>cases hy
|bell b =>
  match i,hy,hk with
 |0,hy,hk=>cases hy;cases hk;exact nk b
 |_+1,hy,_=>cases hy
|lie b =>
  match i,hy,hk with
 |0,hy,hk=>cases hy;cases hk;exact nk b
 |_+1,hy,_=>cases hy
|look b =>
  match i,hy,hk with
 |0,hy,hk=>cases hy;cases hk;exact nk b
 |_+1,hy,_=>cases hy
|drain b =>
  match i,hy,hk with
 |0,hy,hk=>cases hy;cases hk;exact nk b
 |_+1,hy,_=>cases hy
def qg (xs:List V) (k:Nat):kY xs (dk (k:Int)) Jd=xs.drop k:=by
 unfold kY;rw[HT.sIx_nat,show HT.sIx xs.length xs.length Jd=xs.length from rfl];by_cases h:k <= xs.length
 . rw[min_eq_left h,K3 (by rw[length_drop];exact Jk _)]
 . rw[Nat.min_eq_right (by omega),drop_of_length_le (Jk _),drop_of_length_le (by omega),take_nil]
end L2
namespace L2
def Dd.grp (x:Dd):((x.word="ask"\/x.word="collect")/\x.side=j')\/((x.word="take"\/x.word="answer")/\x.side=D')\/((x.word="bell"\/x.word="lie"\/x.word="look"\/x.word="drain")/\x.args=[sdI x.side]):=by
 cases x
 . exact .inl ⟨.inl rfl,rfl⟩
 . exact .inl ⟨.inr rfl,rfl⟩
 . exact .inr (.inl ⟨.inl rfl,rfl⟩)
 . exact .inr (.inl ⟨.inr rfl,rfl⟩)
 . exact .inr (.inr ⟨.inl rfl,rfl⟩)
 . exact .inr (.inr ⟨.inr (.inl rfl),rfl⟩)
 . exact .inr (.inr ⟨.inr (.inr (.inl rfl)),rfl⟩)
 . exact .inr (.inr ⟨.inr (.inr (.inr rfl)),rfl⟩)
end L2
namespace L2
open PySem
def Dd.need:Dd->Bd
|.look _=>.lies
|_=>.up
def Dd.chk_bed {q:YP}{S:YS}{x:Dd}(hd:∀ b,x≠.drain b) (h:S.bd x.side≠x.need):x.chk q S=dk .deed:=by
 cases x
 . exact Ph h
 . exact Ph h
 . exact Ph h
 . exact Ph h
 . exact Ph h
 . exact Ph h
 . exact Ph h
 . exact absurd rfl (hd _)
def Dd.word_drain (x:Dd):x.word="drain" ↔ ∃ b,x=.drain b:=by
 constructor
 . intro h;cases x with
  |drain b=>exact⟨b,rfl⟩
  |ask wt=>exact absurd (show ("ask":Str)="drain" from h) (by decide +kernel)
  |collect=>exact absurd (show ("collect":Str)="drain" from h) (by decide +kernel)
  |take=>exact absurd (show ("take":Str)="drain" from h) (by decide +kernel)
  |answer nm wt=>exact absurd (show ("answer":Str)="drain" from h) (by decide +kernel)
  |bell b=>exact absurd (show ("bell":Str)="drain" from h) (by decide +kernel)
  |lie b=>exact absurd (show ("lie":Str)="drain" from h) (by decide +kernel)
  |look b=>exact absurd (show ("look":Str)="drain" from h) (by decide +kernel)
 . rintro⟨b,rfl⟩;rfl
def Dd.word_look (x:Dd):(x.word="look"/\x.need=.lies/\∃ b,x=.look b)\/(x.word≠"look"/\x.need=.up):=by
 cases x with
|look b=>exact .inl ⟨rfl,rfl,b,rfl⟩
|ask wt=>exact .inr ⟨show ¬ ("ask":Str)="look" by decide +kernel,rfl⟩
|collect=>exact .inr ⟨show ¬ ("collect":Str)="look" by decide +kernel,rfl⟩
|take=>exact .inr ⟨show ¬ ("take":Str)="look" by decide +kernel,rfl⟩
|answer nm wt=>exact .inr ⟨show ¬ ("answer":Str)="look" by decide +kernel,rfl⟩
|bell b=>exact .inr ⟨show ¬ ("bell":Str)="look" by decide +kernel,rfl⟩
|lie b=>exact .inr ⟨show ¬ ("lie":Str)="look" by decide +kernel,rfl⟩
|drain b=>exact .inr ⟨show ¬ ("drain":Str)="look" by decide +kernel,rfl⟩
def Dd.word_aa (x:Dd):(∃ wt,x=.ask wt)\/(∃ nm wt,x=.answer nm wt)\/(x.word≠"ask"/\x.word≠"answer"/\∀ (q:YP) (S:YS),(∀ b,x≠.drain b)->S.bd x.side=x.need->x.chk q S=Jd):=by
 cases x with
|ask wt=>exact .inl ⟨_,rfl⟩
|answer nm wt=>exact .inr (.inl ⟨_,_,rfl⟩)
|collect=>exact .inr (.inr ⟨show ¬ ("collect":Str)="ask" by decide +kernel,show ¬ ("collect":Str)="answer" by decide +kernel,λq S _ h=>Pg h⟩)
|take=>exact .inr (.inr ⟨show ¬ ("take":Str)="ask" by decide +kernel,show ¬ ("take":Str)="answer" by decide +kernel,λq S _ h=>Pg h⟩)
|bell b=>exact .inr (.inr ⟨show ¬ ("bell":Str)="ask" by decide +kernel,show ¬ ("bell":Str)="answer" by decide +kernel,λq S _ h=>Pg h⟩)
|lie b=>exact .inr (.inr ⟨show ¬ ("lie":Str)="ask" by decide +kernel,show ¬ ("lie":Str)="answer" by decide +kernel,λq S _ h=>Pg h⟩)
|look b=>exact .inr (.inr ⟨show ¬ ("look":Str)="ask" by decide +kernel,show ¬ ("look":Str)="answer" by decide +kernel,λq S _ h=>Pg h⟩)
|drain b=>exact .inr (.inr ⟨show ¬ ("drain":Str)="ask" by decide +kernel,show ¬ ("drain":Str)="answer" by decide +kernel,λq S h _=>absurd rfl (h b)⟩)
def Aq {a b:Bd}(h:a≠b):V.str a.key≠V.str b.key:=λy=>h (Fw (by injection y))
end L2
namespace L2
open PySem PySem.Spec PyProof.Rows
instance (a b:Str):Decidable (ltS a b):=inferInstanceAs (Decidable (a.cps.toList < b.cps.toList))
def jR:Bool->Cn
|false=>.hs
|true=>.ts
def Mem.putAllY (m:Mem) (row:List Wr):Mem:=row.foldl Mem.put m
def YS.fence (S:YS) (b:Bool):YS:={ S with m:=S.m.putAllY (S.rs b),rs:=bq S.rs b [] }
def YS.wr (S:YS) (b:Bool) (x:Wr):YS:={ S with rs:=bq S.rs b (S.rs b++[x]) }
def pV (wd:Str) (x y:Jg):Jg:=.tuple [.str wd,x,y]
def swT (q:YP) (S:YS):Bool->Bool
|false=>decide (aZ q.p S.m (S.rs j') .answered .handed≠0)
|true=>decide (aZ q.p S.m (S.rs D') .asked .taken≠0)
def Dd.run (q:YP) (S:YS):Dd->Jg × YS
|.ask wt=>match cF q.n S.un with
 |some nm=>(.int nm,{ S with rs:=bq S.rs j' (S.rs j'++AI q.p S.m (S.rs j') j' .asked nm wt),un:=S.un++[nm],qt:=bq S.qt j' j',hs:=S.hs++[pV "asked" (.int nm) (.int wt)] })
 |none=>(.none,S)
|.collect=>if aZ q.p S.m (S.rs j') .answered .handed=0 then (.none,S) else match rdP S.m (S.rs j') D' (rdC S.m (S.rs j') .handed % q.p.s) with
 |some nw=>(.tuple [.int nw.1,.int nw.2],{ S with rs:=bq S.rs j' (S.rs j'++[lT q.p S.m (S.rs j') .handed]),un:=S.un.filter (λk=>decide (k≠nw.1)),hs:=S.hs++[pV "handed" (.int nw.1) (.int nw.2)] })
 |none=>(.tuple [.none,.none],{ S with rs:=bq S.rs j' (S.rs j'++[lT q.p S.m (S.rs j') .handed]),hs:=S.hs++[pV "handed" .none .none] })
|.take=>if aZ q.p S.m (S.rs D') .asked .taken=0 then (.none,S) else match rdP S.m (S.rs D') j' (rdC S.m (S.rs D') .taken % q.p.s) with
 |some nw=>(.tuple [.int nw.1,.int nw.2],{ S with rs:=bq S.rs D' (S.rs D'++[lT q.p S.m (S.rs D') .taken]),tk:=tG S.tk nw.1,hs:=S.hs++[pV "taken" (.int nw.1) (.int nw.2)] })
 |none=>(.tuple [.none,.none],{ S with rs:=bq S.rs D' (S.rs D'++[lT q.p S.m (S.rs D') .taken]),hs:=S.hs++[pV "taken" .none .none] })
|.answer nm wt=>(.none,{ S with rs:=bq S.rs D' (S.rs D'++AI q.p S.m (S.rs D') D' .answered nm wt),tk:=S.tk.filter (λk=>decide (k≠nm)),qt:=bq S.qt D' j',hs:=S.hs++[pV "answered" (.int nm) (.int wt)] })
|.bell b =>
  let S1:=if q.fb then S.fence b else S
  let S2:={ S1 with qt:=bq S1.qt b D' }
  if rdC S2.m (S2.rs b) (jR (!b))≠1 then (.bool j',S2) else if S2.bd (!b)=.asleep then (.bool D',({ S2 with bd:=bq S2.bd (!b) .up }:YS).wr (!b) (.c (jR (!b)) 0)) else (.bool D',S2)
|.lie b =>
  let S1:=S.wr b (.c (jR b) 1);let S2:=if q.fl then S1.fence b else S1
  (.none,{ S2 with bd:=bq S2.bd b .lies })
|.look b=>if q.fk=D'/\swT q S b=D' then (.bool D',{ (S.wr b (.c (jR b) 0)) with bd:=bq S.bd b .up }) else (.bool j',{ S with bd:=bq S.bd b .asleep })
|.drain b=>match S.rs b with
 |x :: c8=>(.none,{ S with m:=S.m.put x,rs:=bq S.rs b c8 })
 |[]=>(.none,S)
structure YI (q:YP) (S:YS) (L:Nat):Prop where
 und:Nms q.n S.un
 tkd:Nms 9 S.tk
 len:∀ b,(S.rs b).length <= L
 hl:S.hs.length <= L
theorem YI.zero (q:YP):YI q YS.zero 0:=⟨Nms.nil _,Nms.nil _,λ_=>Jk _,Jk _⟩
def YI.mono {q:YP}{S:YS}{L L':Nat}(h:YI q S L) (hl:L <= L'):YI q S L':=⟨h.und,h.tkd,λb=>JU (h.len b) hl,JU h.hl hl⟩
def Rf.key:Rf->Str
|.deed=>"deed"
|.full=>"full"
|.name=>"name"
|.task=>"task"
def Rf.key_ne (r:Rf):r.key≠"none":=by cases r<;>decide +kernel
def Dd.out (q:YP) (S:YS) (x:Dd):Str × Jg × YS:=match x.chk q S with
|none=>("none",(x.run q S).1,(x.run q S).2)
|some r=>(r.key,.none,S)
def Dd.out_none {q:YP}{S:YS}{x:Dd}(h:x.chk q S=Jd):x.out q S=(("none":Str),(x.run q S).1,(x.run q S).2):=by unfold Dd.out;rw[h]
def Dd.out_some {q:YP}{S:YS}{x:Dd}{r:Rf}(h:x.chk q S=dk r):x.out q S=(r.key,.none,S):=by unfold Dd.out;rw[h]
def Fch (d:Jg):Prop:=d=.none\/d=.tuple [.none,.none]\/∃ a b:Int,d=.tuple [.int a,.int b]
def Bb (q:YP) (S:YS):Fch (Dd.take.run q S).1:=by
 unfold Dd.run;by_cases h:aZ q.p S.m (S.rs D') .asked .taken=0
 . rw[Pg h];exact .inl rfl
 . rw[Ph h];cases rdP S.m (S.rs D') j' (rdC S.m (S.rs D') .taken % q.p.s) with
  |none=>exact .inr (.inl rfl)
  |some nw=>exact .inr (.inr ⟨_,_,rfl⟩)
def uN (q:YP) (S:YS):Fch (Dd.collect.run q S).1:=by
 unfold Dd.run;by_cases h:aZ q.p S.m (S.rs j') .answered .handed=0
 . rw[Pg h];exact .inl rfl
 . rw[Ph h];cases rdP S.m (S.rs j') D' (rdC S.m (S.rs j') .handed % q.p.s) with
  |none=>exact .inr (.inl rfl)
  |some nw=>exact .inr (.inr ⟨_,_,rfl⟩)
def Dd.aft (ts:List Int) (x:Dd) (key:Str) (d:Jg):List Int:=if key="none" then (match x,d with
|.take,.tuple [.int a,.int _]=>tG ts a
|.answer nm _,_=>ts.erase nm
|_,_=>ts) else ts
def GV:Jg->Jg
|.tuple (a :: _)=>a
|d=>d
def GB:Jg->Jg
|.tuple (_ :: b :: _)=>b
|d=>d
def Dd.hap (x:Dd) (key:Str) (d:Jg):List Jg:=if key="none" then (match x with
|.ask wt=>[pV "asked" d (.int wt)]
|.answer nm wt=>[pV "answered" (.int nm) (.int wt)]
|.take=>(match d with|.none=>[]|_=>[pV "taken" (GV d) (GB d)])
|.collect=>(match d with|.none=>[]|_=>[pV "handed" (GV d) (GB d)])
|_=>[]) else []
def FS {q:YP}{S:YS}(x:Dd):(x.out q S).2.2.hs=S.hs++x.hap (x.out q S).1 (x.out q S).2.1:=by
 cases hc:x.chk q S with
|some r =>
  rw[Dd.out_some hc];show S.hs=S.hs++(if r.key="none" then _ else []);rw[Ph r.key_ne,K4]
|none =>
  rw[Dd.out_none hc];show (x.run q S).2.hs=S.hs++(if ("none":Str)="none" then _ else []);rw[Pg rfl];cases x with
 |ask wt =>
   show (match cF q.n S.un with|some nm=>_|none=>_:Jg × YS).2.hs=S.hs++[pV "asked" (match cF q.n S.un with|some nm=>_|none=>_:Jg × YS).1 (.int wt)];cases hl:cF q.n S.un with
  |some nm=>rfl
  |none =>
    have h':(if S.bd j'=.up then (if aZ q.p S.m (S.rs j') .asked .taken=q.p.s then dk Rf.full else match cF q.n S.un with|none=>dk Rf.name|some _=>Jd) else dk Rf.deed)=Jd:=hc;rw[hl]at h';split at h'
    . split at h'<;>cases h'
    . cases h'
 |answer nm wt=>rfl
 |take =>
   unfold Dd.run;by_cases h:aZ q.p S.m (S.rs D') .asked .taken=0
   . rw[Pg h];exact(K4 _).symm
   . rw[Ph h];cases rdP S.m (S.rs D') j' (rdC S.m (S.rs D') .taken % q.p.s) with
    |none=>rfl
    |some nw=>rfl
 |collect =>
   unfold Dd.run;by_cases h:aZ q.p S.m (S.rs j') .answered .handed=0
   . rw[Pg h];exact(K4 _).symm
   . rw[Ph h];cases rdP S.m (S.rs j') D' (rdC S.m (S.rs j') .handed % q.p.s) with
    |none=>rfl
    |some nw=>rfl
 |bell b =>
   have f1:(if q.fb then S.fence b else S).hs=S.hs:=by cases q.fb<;>rfl
   have aux:∀ S2:YS,(if rdC S2.m (S2.rs b) (jR (!b))≠1 then (Jg.bool j',S2) else if S2.bd (!b)=.asleep then (.bool D',({ S2 with bd:=bq S2.bd (!b) .up }:YS).wr (!b) (.c (jR (!b)) 0)) else (.bool D',S2)).2.hs=S2.hs:=λS2=>by
    split
    . rfl
    . split<;>rfl
   show _=S.hs++[];rw[K4];exact(aux { (if q.fb then S.fence b else S) with qt:=bq (if q.fb then S.fence b else S).qt b D' }).trans f1
 |lie b =>
   have f1:(if q.fl then (S.wr b (.c (jR b) 1)).fence b else S.wr b (.c (jR b) 1)).hs=S.hs:=by cases q.fl<;>rfl
   show _=S.hs++[];rw[K4];exact f1
 |look b =>
   show (if _ then _ else _:Jg × YS).2.hs=S.hs++[];rw[K4];split<;>rfl
 |drain b =>
   show (match S.rs b with|x :: c8=>_|[]=>_:Jg × YS).2.hs=S.hs++[];rw[K4];cases S.rs b<;>rfl
def ye {own:G'->Prop}{H H':Hp}(ko:KO own H H') (h:∀ c,own c->∀ vs,H c≠dk (.tup vs)):∀ b vs,H b=dk (.tup vs)->H' b=dk (.tup vs):=λb vs e=>ko b _ (λz=>h b z vs e) e
section
variable {w:Jp}{CY CH CT CR CS:G'}{H H':Hp}{a:YA}{q:YP}{S:YS}
def Yn.noT (Y:Yn w CY CH CT CR CS H a q S):∀ c,a.own c->∀ vs,H c≠dk (.tup vs):=λc hc vs e=>by
 obtain⟨o,e',n⟩:=Y.there hc;rw[e']at e;exact n vs (JF e)
def Yn.ko (Y:Yn w CY CH CT CR CS H a q S) {own:G'->Prop}(ko:KO own H H') (hd:∀ c,own c->¬ a.own c) (hn:∀ c,own c->∀ vs,H c≠dk (.tup vs)):Yn w CY CH CT CR CS H' a q S :=
 Y.keep (λc o hc e=>ko c o (λz=>hd c z hc) e) (ye ko hn)
def Yn.fresh (Y:Yn w CY CH CT CR CS H a q S) {c:G'}(h:H c=Jd):¬ a.own c:=λhc=>by
 obtain⟨o,e,_⟩:=Y.there hc;rw[e]at h;cases h
end
def FnOk.or {P:Jz}{w:Jp}{K:Jh}{mg:Str->Option Ja}{base:JB}{CX:CXT}{k:Nat}{f:G'}{fd:Jq}{ps:List Str}{sp1 sp2:Sp}(F1:FnOk P w K mg base CX k f fd ps sp1) (F2:FnOk P w K mg base CX k f fd ps sp2):FnOk P w K mg base CX k f fd ps (λvs H Q E=>sp1 vs H Q E\/sp2 vs H Q E) :=
 ⟨λvs H Q E h=>h.elim (F1.len vs H Q E) (F2.len vs H Q E),λA outer s H args us vs Q E hr he hb hv hs=>hs.elim (F1.run A outer s H args us vs Q E hr he hb hv) (F2.run A outer s H args us vs Q E hr he hb hv)⟩
def inC (N:Int) (k:Cn) (i:Int):Prop:=k=.hs\/k=.ts\/(0 <= i/\i < N)
def Wr.In (N:Int):Wr->Prop
|.c k i=>inC N k i
|.p _ _ _ _=>True
section
variable {N:Int}{m:Mem}{rs:Bool->List Wr}{b:Bool}{x:Wr}{c8:List Wr}
end
def lkA:Bool->Cn
|false=>.answered
|true=>.asked
def lkB:Bool->Cn
|false=>.handed
|true=>.taken
section
variable {rs:Bool->List Wr}{b:Bool}
end
structure Ord where
 lt:Nat->Nat->Bool
 n:Nat
 tr:∀ a b c,lt a b=D'->lt b c=D'->lt a c=D'
 tot:∀ a b,a < n->b < n->a≠b->lt a b=j'->lt b a=D'
section
variable {O:Ord}
end
section
variable {prog:Jz}{w:Jp}{A:JK}{E:Ja->Jc->Prop}{s:Jc}
end
section
variable {X:Cx}
end
section
variable {K:Jh}
end
section
variable {s R:Int}{n:Nat}{S:YS}{A B:List (Int × Int)}{T Hd:Nat}
end
abbrev Ev:=Cn × Int × Int
def th (k:Cn) (es:List Ev):List (Int × Int):=(es.filter λe=>decide (e.1=k)).map (·.2)
section
variable {s R:Int}{n:Nat}{S:YS}{es:List Ev}
end
section
variable {s R:Int}{n:Nat}{S:YS}{es:List Ev}
end
inductive Wd where
|asked|taken|answered|handed
instance:DecidableEq Wd:=λa b=>by
 cases a<;>cases b<;>first|exact isTrue rfl|exact isFalse (λh=>by cases h)
def Wd.key:Wd->Str
|.asked=>"asked"
|.taken=>"taken"
|.answered=>"answered"
|.handed=>"handed"
structure Hap where
 w:Wd
 n:Int
 o:Int
def thH (w:Wd) (hs:List Hap):List (Int × Int):=(hs.filter λh=>decide (h.w=w)).map λh=>(h.n,h.o)
def qQ (w:Wd) (hs:List Hap) (h:Hap):thH w (hs++[h])=if h.w=w then thH w hs++[(h.n,h.o)] else thH w hs:=by
 unfold thH;rw[filter_append,Ld];by_cases e:h.w=w
 . rw[Pg e,Lc,Pg (Pl e)];rfl
 . rw[Ph e,Lc,Ph (by rw[decide_eq_false e];decide)];simp
def cnt (w:Wd) (x:Int) (hs:List Hap):Nat:=((thH w hs).filter λp=>decide (p.1=x)).length
def Bi (w:Wd) (x:Int) (hs:List Hap) (h:Hap):cnt w x (hs++[h])=cnt w x hs+if h.w=w/\h.n=x then 1 else 0:=by
 unfold cnt;rw[qQ];by_cases e:h.w=w
 . rw[Pg e,filter_append,Ji];by_cases q:h.n=x
   . rw[Pg ⟨e,q⟩,Lc,Pg (Pl q)];rfl
   . rw[Ph (λz=>q z.2),Lc,Ph (by rw[decide_eq_false q];decide)];rfl
 . rw[Ph e,Ph (λz=>e z.1)];rfl
def bU {w' w:Wd}{hs:List Hap}{n o:Int}:thH w (hs++[⟨w',n,o⟩])=if w'=w then thH w hs++[(n,o)] else thH w hs:=qQ w hs _
def FL {w' w:Wd}{hs:List Hap}{n o x:Int}:cnt w x (hs++[⟨w',n,o⟩])=cnt w x hs+if w'=w/\n=x then 1 else 0:=Bi w x hs _
def iF {w' w:Wd}{hs:List Hap}{n o x:Int}(h:w'≠w):cnt w x (hs++[⟨w',n,o⟩])=cnt w x hs:=by rw[FL,Ph λz=>h z.1];rfl
def sr {w:Wd}{hs:List Hap}{n o x:Int}:cnt w x (hs++[⟨w,n,o⟩])=cnt w x hs+if n=x then 1 else 0:=by rw[FL];simp
def gq (ah:List Hap) (h:Hap):Bool:=match h.w with
|.asked=>decide (cnt .asked h.n ah=cnt .handed h.n ah)
|.answered=>decide (cnt .answered h.n ah < cnt .taken h.n ah)
|.taken=>decide (((thH .asked ah).drop (thH .taken ah).length).take 1=[(h.n,h.o)])
|.handed=>decide (((thH .answered ah).drop (thH .handed ah).length).take 1=[(h.n,h.o)])
def pX:List Hap->List Hap->Option Nat
|_,[]=>Jd
|ah,h :: t=>if gq ah h=D' then pX (ah++[h]) t else dk ah.length
def CD (hs:List Hap):Option Nat:=pX [] hs
structure JI (ah:List Hap) (un uh:List (Int × Int)) (go do':List Int):Prop where
 eu:un=(thH .asked ah).drop (thH .taken ah).length
 eh:uh=(thH .answered ah).drop (thH .handed ah).length
 lt:(thH .taken ah).length <= (thH .asked ah).length
 lh:(thH .handed ah).length <= (thH .answered ah).length
 pm:go.Perm (un.map (·.1)++(do'++uh.map (·.1)))
 nd:go.Nodup
 ca:∀ x,cnt .asked x ah=cnt .handed x ah+if x∈go then 1 else 0
 ct:∀ x,cnt .taken x ah=cnt .answered x ah+if x∈do' then 1 else 0
def JI.zero:JI [] [] [] [] []:=⟨rfl,rfl,Jk _,Jk _,Lr.refl _,nodup_nil,λ_=>rfl,λ_=>rfl⟩
def DR (un uh:List (Int × Int)) (go do':List Int) (h:Hap):Bool:=match h.w with
|.asked=>!go.contains h.n
|.answered=>do'.contains h.n
|.taken=>decide (un.take 1=[(h.n,h.o)])
|.handed=>decide (uh.take 1=[(h.n,h.o)])
section
variable {ah:List Hap}{un uh:List (Int × Int)}{go do':List Int}
def JI.fits (J:JI ah un uh go do') (h:Hap):DR un uh go do' h=gq ah h:=by
 unfold DR gq;cases h.w with
|asked =>
  show (!go.contains h.n)=decide _;rw[Kc,J.ca h.n];by_cases e:h.n∈go<;>simp[e]
|taken=>show decide _=decide _;rw[J.eu]
|answered =>
  show do'.contains h.n=decide _;rw[Kc,J.ct h.n];by_cases e:h.n∈do'<;>simp[e]
|handed=>show decide _=decide _;rw[J.eh]
def B5 {α:Type}{xs:List α}{x:α}(h:xs.take 1=[x]):xs=x :: xs.drop 1:=by
 cases xs with
|nil=>cases h
|cons y ys=>have:[y]=[x]:=h;cases this;rfl
theorem JI.asked (J:JI ah un uh go do') {n o:Int}(h:n ∉ go):JI (ah++[⟨.asked,n,o⟩]) (un++[(n,o)]) uh (go++[n]) do':=by
 refine⟨?_,?_,?_,?_,?_,?_,λx=>?_,λx=>?_⟩
 . rw[bU,bU,Pg rfl,Ph (by decide),List.drop_append_of_le_length J.lt,<-J.eu]
 . rw[bU,bU,Ph (by decide),Ph (by decide)];exact J.eh
 . rw[bU,bU,Pg rfl,Ph (by decide),Ji];have:=J.lt;omega
 . rw[bU,bU,Ph (by decide),Ph (by decide)];exact J.lh
 . refine(Lp [n] J.pm).trans ?_;rw[Ld,Kd (un.map (·.1)),Kd (un.map (·.1))];exact Lj _ List.perm_append_comm
 . exact nodup_append.mpr ⟨J.nd,by simp,λa ha b hb e=>h (by rw[Je.mp hb]at e;exact e ▸ ha)⟩
 . rw[sr,iF (by decide),J.ca x];by_cases e:n=x
   . subst e;simp[h]
   . have e':¬ x=n:=λz=>e z.symm
     simp[e,e']
 . rw[iF (by decide),iF (by decide),J.ct x]
theorem JI.taken (J:JI ah un uh go do') {n o:Int}(h:un.take 1=[(n,o)]):JI (ah++[⟨.taken,n,o⟩]) (un.drop 1) uh go (do'++[n])/\n ∉ do':=by
 have e1:=B5 h;have pm:=J.pm;rw[e1,Kq,List.cons_append]at pm;have hn:n ∉ do':=λy=>(K7.mp (pm.nodup_iff.mp J.nd)).1 (KU.mpr (.inr (KU.mpr (.inl y))))
 have lt:(thH .taken ah).length < (thH .asked ah).length:=by
  have:=congrArg Lk (J.eu.symm.trans e1);rw[length_drop,JN]at this;omega
 refine⟨⟨?_,?_,?_,?_,?_,J.nd,λx=>?_,λx=>?_⟩,hn⟩
 . rw[bU,bU,Pg rfl,Ph (by decide),Ji,J.eu,List.drop_drop];rfl
 . rw[bU,bU,Ph (by decide),Ph (by decide)];exact J.eh
 . rw[bU,bU,Pg rfl,Ph (by decide),Ji];exact lt
 . rw[bU,bU,Ph (by decide),Ph (by decide)];exact J.lh
 . refine pm.trans ?_;rw[Kd do'];show (n :: (List.map (·.1) (un.drop 1)++(do'++uh.map (·.1)))).Perm _;refine Lr.trans ?_ (Lj _ (List.perm_append_comm_assoc do' [n] _).symm);exact(List.perm_middle (a:=n)).symm
 . rw[iF (by decide),iF (by decide),J.ca x]
 . rw[sr,iF (by decide),J.ct x];by_cases e:n=x
   . subst e;simp[hn]
   . have e':¬ x=n:=λz=>e z.symm
     simp[e,e']
theorem JI.answered (J:JI ah un uh go do') {n o:Int}(h:n∈do'):JI (ah++[⟨.answered,n,o⟩]) un (uh++[(n,o)]) go (do'.erase n):=by
 have ndo:do'.Nodup:=(nodup_append.mp (nodup_append.mp (J.pm.nodup_iff.mp J.nd)).2.1).1;refine⟨?_,?_,?_,?_,?_,J.nd,λx=>?_,λx=>?_⟩
 . rw[bU,bU,Ph (by decide),Ph (by decide)];exact J.eu
 . rw[bU,bU,Pg rfl,Ph (by decide),List.drop_append_of_le_length J.lh,<-J.eh]
 . rw[bU,bU,Ph (by decide),Ph (by decide)];exact J.lt
 . rw[bU,bU,Pg rfl,Ph (by decide),Ji];have:=J.lh;omega
 . refine J.pm.trans (Lj _ ?_);rw[Ld];refine(Lp _ (List.perm_cons_erase h)).trans ?_;rw[List.cons_append,<-Kd];exact(List.perm_append_singleton n _).symm
 . rw[iF (by decide),iF (by decide),J.ca x]
 . rw[iF (by decide),sr,J.ct x];by_cases e:n=x
   . subst e;simp[h,Nodup.mem_erase_iff ndo]
   . have e':¬ x=n:=λz=>e z.symm
     simp[e,e',Nodup.mem_erase_iff ndo]
theorem JI.handed (J:JI ah un uh go do') {n o:Int}(h:uh.take 1=[(n,o)]):JI (ah++[⟨.handed,n,o⟩]) un (uh.drop 1) (go.erase n) do'/\n∈go:=by
 have e1:=B5 h;have pm:=J.pm;rw[e1,Kq]at pm;have hn:n∈go:=pm.mem_iff.mpr (KU.mpr (.inr (KU.mpr (.inr Jx))));have lt:(thH .handed ah).length < (thH .answered ah).length:=by
  have:=congrArg Lk (J.eh.symm.trans e1);rw[length_drop,JN]at this;omega
 refine⟨⟨?_,?_,?_,?_,?_,J.nd.erase n,λx=>?_,λx=>?_⟩,hn⟩
 . rw[bU,bU,Ph (by decide),Ph (by decide)];exact J.eu
 . rw[bU,bU,Pg rfl,Ph (by decide),Ji,J.eh,List.drop_drop];rfl
 . rw[bU,bU,Ph (by decide),Ph (by decide)];exact J.lt
 . rw[bU,bU,Pg rfl,Ph (by decide),Ji];exact lt
 . have p2:go.Perm (n :: (un.map (·.1)++(do'++(uh.drop 1).map (·.1)))):=by
    refine pm.trans ?_;rw[<-Kd,<-Kd];exact List.perm_middle
   have p3:=p2.erase n;rw[List.erase_cons_head]at p3;exact p3
 . rw[iF (by decide),sr,J.ca x];by_cases e:n=x
   . subst e;simp[hn,Nodup.mem_erase_iff J.nd]
   . have e':¬ x=n:=λz=>e z.symm
     simp[e,e',Nodup.mem_erase_iff J.nd]
 . rw[iF (by decide),iF (by decide),J.ct x]
def JI.ndo (J:JI ah un uh go do'):do'.Nodup:=(nodup_append.mp (nodup_append.mp (J.pm.nodup_iff.mp J.nd)).2.1).1
def JI.lens (J:JI ah un uh go do'):un.length <= ah.length/\uh.length <= ah.length/\go.length <= un.length+(do'.length+uh.length)/\do'.length <= ah.length:=by
 have l1:∀ w,(thH w ah).length <= ah.length:=λw=>by unfold thH;rw[Ju];exact Ln _ _
 have h1:=l1 .asked;have h2:=l1 .answered;have q1:=congrArg Lk J.eu;have q2:=congrArg Lk J.eh;rw[length_drop]at q1 q2;have q3:=J.pm.length_eq;rw[Ji,Ji,Ju,Ju]at q3;have q4:do'.length <= (thH .taken ah).length:=by
  have hsub:∀ x∈do',x∈(thH .taken ah).map (·.1):=λx hx=>by
   have:=J.ct x;rw[Pg hx]at this;have h0:0 < cnt .taken x ah:=by omega
   unfold cnt at h0;obtain⟨p,hp⟩:=List.exists_mem_of_length_pos h0;obtain⟨hp1,hp2⟩:=Ls.mp hp;exact Lg.mpr ⟨p,hp1,of_decide_eq_true hp2⟩
  have:=mW J.ndo hsub;rw[Ju]at this;exact this
 have h3:=l1 .taken;omega
end
def HV (H:Hp):Hap->V->Prop:=λh v=>∃ c,v=.ref c/\H c=dk (.tup [.str h.w.key,.int h.n,.int h.o])
def PV (H:Hp):Int × Int->V->Prop:=λp v=>∃ c,v=.ref c/\H c=dk (.tup [.int p.1,.int p.2])
def Kt (H H':Hp):Prop:=∀ b vs,H b=dk (.tup vs)->H' b=dk (.tup vs)
def HV.keep {H H':Hp}(ht:Kt H H') {h:Hap}{v:V}(q:HV H h v):HV H' h v:=by
 obtain⟨c,e,x⟩:=q;exact⟨c,e,ht _ _ x⟩
def PV.keep {H H':Hp}(ht:Kt H H') {p:Int × Int}{v:V}(q:PV H p v):PV H' p v:=by
 obtain⟨c,e,x⟩:=q;exact⟨c,e,ht _ _ x⟩
def bZ.kt {H H':Hp}(s:bZ H H'):Kt H H':=λb _=>s b _
def SV (H:Hp) (l:G') (hs:List Hap):Prop:=∃ ts,H l=dk (.lst ts)/\JC (HV H) hs ts
def TL (H:Hp) (l:G') (ps:List (Int × Int)):Prop:=∃ ts,H l=dk (.lst ts)/\JC (PV H) ps ts
theorem SV.keep {H H':Hp}{l:G'}{hs:List Hap}(h:SV H l hs) (k:∀ o,H l=dk o->H' l=dk o) (ht:Kt H H'):SV H' l hs:=by
 obtain⟨ts,e,p⟩:=h;exact⟨ts,k _ e,Paired.mapP p λ_ _ q=>q.keep ht⟩
theorem TL.keep {H H':Hp}{l:G'}{ps:List (Int × Int)}(h:TL H l ps) (k:∀ o,H l=dk o->H' l=dk o) (ht:Kt H H'):TL H' l ps:=by
 obtain⟨ts,e,p⟩:=h;exact⟨ts,k _ e,Paired.mapP p λ_ _ q=>q.keep ht⟩
def SV.same {H H':Hp}{l:G'}{hs:List Hap}(h:SV H l hs) (s:bZ H H'):SV H' l hs:=h.keep (λo=>s l o) s.kt
def TL.same {H H':Hp}{l:G'}{ps:List (Int × Int)}(h:TL H l ps) (s:bZ H H'):TL H' l ps:=h.keep (λo=>s l o) s.kt
structure JA where
 j:G'
 u:G'
 h:G'
 g:G'
 d:G'
def jF (z:JA):List (Str × V):=ba "doing" (.ref z.d) (ba "going" (.ref z.g) (ba "unhanded" (.ref z.h) (ba "untaken" (.ref z.u) [])))
section
variable {z:JA}
def Gf:(jF z).lookup ("untaken":Str)=dk (.ref z.u):=by unfold jF;repeat (first|rw[a8,Pg rfl]|rw[a8,Ph (by decide +kernel)]);try rfl
def Gg:(jF z).lookup ("unhanded":Str)=dk (.ref z.h):=by unfold jF;repeat (first|rw[a8,Pg rfl]|rw[a8,Ph (by decide +kernel)]);try rfl
def HD:(jF z).lookup ("going":Str)=dk (.ref z.g):=by unfold jF;repeat (first|rw[a8,Pg rfl]|rw[a8,Ph (by decide +kernel)]);try rfl
def Gy:(jF z).lookup ("doing":Str)=dk (.ref z.d):=by unfold jF;repeat (first|rw[a8,Pg rfl]|rw[a8,Ph (by decide +kernel)]);try rfl
def yb:(jF z).lookup ("fits":Str)=Jd:=by unfold jF;repeat (first|rw[a8,Pg rfl]|rw[a8,Ph (by decide +kernel)]);try rfl
def Ho:(jF z).lookup ("go_on":Str)=Jd:=by unfold jF;repeat (first|rw[a8,Pg rfl]|rw[a8,Ph (by decide +kernel)]);try rfl
end
structure Jn (CJ:G') (H:Hp) (z:JA) (un uh:List (Int × Int)) (go do':List Int):Prop where
 ob:∃ dx,H z.j=dk (.ins CJ dx (jF z))
 u:TL H z.u un
 h:TL H z.h uh
 g:H z.g=dk (.dK (gK go))
 d:H z.d=dk (.dK (gK do'))
 nu:z.u≠z.h
 ng:z.g≠z.d
def JA.own (z:JA) (c:G'):Prop:=c=z.j\/c=z.u\/c=z.h\/c=z.g\/c=z.d
section
variable {CJ:G'}{H H':Hp}{z:JA}{un uh:List (Int × Int)}{go do':List Int}
theorem Jn.keep (J:Jn CJ H z un uh go do') (k:∀ c o,z.own c->H c=dk o->H' c=dk o) (ht:Kt H H'):Jn CJ H' z un uh go do':=by
 obtain⟨dx,hx⟩:=J.ob;exact⟨⟨dx,k _ _ (.inl rfl) hx⟩,J.u.keep (λo=>k _ o (.inr (.inl rfl))) ht,J.h.keep (λo=>k _ o (.inr (.inr (.inl rfl)))) ht,k _ _ (.inr (.inr (.inr (.inl rfl)))) J.g,k _ _ (.inr (.inr (.inr (.inr rfl)))) J.d,J.nu,J.ng⟩
def Jn.same (J:Jn CJ H z un uh go do') (s:bZ H H'):Jn CJ H' z un uh go do':=J.keep (λc o _=>s c o) s.kt
def hV {c x:G'}{o o':HO}(hx:H x=dk o') (h:H c=dk o) (hn:o≠o'):∀ q,upd H x q c=dk o:=λq=>by
 rw[aa λe=>by rw[e,hx]at h;exact hn (JF h).symm];exact h
def fP {x:G'}{o':HO}(hx:H x=dk o') (hn:∀ vs,o'≠.tup vs) (q:HO):Kt H (upd H x q):=λb vs e=>hV hx e (λz=>hn vs z.symm) q
def TL.up {l x:G'}{ps:List (Int × Int)}{o':HO}(h:TL H l ps) (hx:H x=dk o') (hn:∀ vs,o'≠.tup vs) (nl:l≠x) (q:HO):TL (upd H x q) l ps :=
 h.keep (λo e=>by rw[aa nl];exact e) (fP hx hn q)
def Jn.setU (J:Jn CJ H z un uh go do') {un':List (Int × Int)}{ts:List V}(h:JC (PV H) un' ts):Jn CJ (upd H z.u (.lst ts)) z un' uh go do':=by
 obtain⟨t0,e0,_⟩:=J.u;obtain⟨dx,hx⟩:=J.ob;have ht:=fP e0 (λ_ z=>by cases z) (.lst ts);exact⟨⟨dx,hV e0 hx (by intro z;cases z) _⟩,⟨ts,a9,Paired.mapP h λ_ _ q=>q.keep ht⟩,J.h.up e0 (λ_ z=>by cases z) J.nu.symm _,hV e0 J.g (by intro z;cases z) _,hV e0 J.d (by intro z;cases z) _,J.nu,J.ng⟩
def Jn.setH (J:Jn CJ H z un uh go do') {uh':List (Int × Int)}{ts:List V}(h:JC (PV H) uh' ts):Jn CJ (upd H z.h (.lst ts)) z un uh' go do':=by
 obtain⟨t0,e0,_⟩:=J.h;obtain⟨dx,hx⟩:=J.ob;have ht:=fP e0 (λ_ z=>by cases z) (.lst ts);exact⟨⟨dx,hV e0 hx (by intro z;cases z) _⟩,J.u.up e0 (λ_ z=>by cases z) J.nu _,⟨ts,a9,Paired.mapP h λ_ _ q=>q.keep ht⟩,hV e0 J.g (by intro z;cases z) _,hV e0 J.d (by intro z;cases z) _,J.nu,J.ng⟩
def Jn.setG (J:Jn CJ H z un uh go do') {kv:List (Key × V)}{go2:List Int}(h:kv=gK go2):Jn CJ (upd H z.g (.dK kv)) z un uh go2 do':=by
 obtain⟨dx,hx⟩:=J.ob;have nl:∀ {l ps},TL H l ps->l≠z.g:=λ{l ps} ⟨ts,e,_⟩ y=>by rw[y,J.g]at e;cases e
 exact⟨⟨dx,hV J.g hx (by intro z;cases z) _⟩,J.u.up J.g (λ_ z=>by cases z) (nl J.u) _,J.h.up J.g (λ_ z=>by cases z) (nl J.h) _,by rw[a9,h],by rw[aa J.ng.symm];exact J.d,J.nu,J.ng⟩
def Jn.setD (J:Jn CJ H z un uh go do') {kv:List (Key × V)}{do2:List Int}(h:kv=gK do2):Jn CJ (upd H z.d (.dK kv)) z un uh go do2:=by
 obtain⟨dx,hx⟩:=J.ob;have nl:∀ {l ps},TL H l ps->l≠z.d:=λ{l ps} ⟨ts,e,_⟩ y=>by rw[y,J.d]at e;cases e
 exact⟨⟨dx,hV J.d hx (by intro z;cases z) _⟩,J.u.up J.d (λ_ z=>by cases z) (nl J.u) _,J.h.up J.d (λ_ z=>by cases z) (nl J.h) _,by rw[aa J.ng];exact J.g,by rw[a9,h],J.nu,J.ng⟩
end
def qZ {H:Hp}{j x C dx:G'}{fs:List (Str × V)}{o:HO}{f:Str}(hj:H j=dk (.ins C dx fs)) (hx:H x=Jd) :
 upd (upd H x o) j (.ins C dx (ba f (.ref x) fs)) j=dk (.ins C dx (ba f (.ref x) fs))/\upd (upd H x o) j (.ins C dx (ba f (.ref x) fs)) x=dk o/\upd H x o j=dk (.ins C dx fs)/\(∀ c u,c≠j->H c=dk u->upd (upd H x o) j (.ins C dx (ba f (.ref x) fs)) c=dk u):=by
 have n1:x≠j:=λz=>by rw[z,hj]at hx;cases hx
 refine⟨a9,by rw[aa n1];exact a9,by rw[aa n1.symm];exact hj,λc u nc e=>?_⟩;rw[aa nc,aa (ae e hx)];exact e
def vO:Option Nat->V
|none=>.non
|some k=>.int (k:Int)
def pvD (p:Int × Int):Jg:=.tuple [.int p.1,.int p.2]
theorem nE {H:Hp}:∀ {ps:List (Int × Int)}{ts:List V},JC (PV H) ps ts->DVs H (ps.map pvD) ts
|_,_,.nil=>rfl
|_,_,.cons ⟨c,e,q⟩ t=>⟨_,_,rfl,⟨c,_,e,q,_,_,rfl,rfl,_,_,rfl,rfl,rfl⟩,nE t⟩
def xc (p:Int × Int):MX.kd (pvD p)=D':=rfl
def FN (p q:Int × Int):Jt (pvD p) (pvD q)=decide (p=q):=by
 by_cases e:p=q
 . subst e;rw[cC (xc p)];simp
 . rw[decide_eq_false e];cases z:Jt (pvD p) (pvD q) with
  |false=>rfl
  |true =>
    have:=(MX.eqv_iff _ _ (xc p) (xc q)).mp z;injection this with this
    injection this with h1 h2
    injection h2 with h2 _
    injection h1 with h1
    injection h2 with h2
    exact absurd (Prod.ext h1 h2) e
def BF (ds:List Jg) (h:∀ d∈ds,MX.kd d=D'/\d.depth <= 9):uO (.list ds):=by
 obtain⟨h1,h2⟩:=pW h;exact⟨h1,by show La _+1 <= 16;omega⟩
def pZ (ps:List (Int × Int)):uO (.list (ps.map pvD)):=BF _ λd hd=>by
 obtain⟨p,_,rfl⟩:=Lg.mp hd;exact⟨rfl,by show 1 <= 9;decide⟩
theorem uB {α:Type}(f:α->Jg) (h:∀ a,MX.kd (f a)=D'):∀ xs:List α,MX.kds (xs.map f)=D'
|[]=>rfl
|x :: xs=>by
  show (MX.kd (f x) && MX.kds (xs.map f))=D';rw[h x,uB f h xs];rfl
def CP {p q:Int × Int}(h:pvD p=pvD q):p=q:=by
 injection h with this
 injection this with h1 h2
 injection h2 with h2 _
 injection h1 with h1
 injection h2 with h2
 exact Prod.ext h1 h2
def yr (ps qs:List (Int × Int)):Jt (.list (ps.map pvD)) (.list (qs.map pvD))=decide (ps=qs):=by
 have e:=MX.eqvs_iff (ps.map pvD) (qs.map pvD) (uB pvD xc ps) (uB pvD xc qs);show Jg.eqvAll _ _=_;by_cases h:ps=qs
 . rw[Pl h];exact e.mpr (by rw[h])
 . rw[decide_eq_false h];cases z:Jg.eqvAll (ps.map pvD) (qs.map pvD) with
  |false=>rfl
  |true=>exact absurd ((List.map_inj_right λ_ _ y=>CP y).mp (e.mp z)) h
def qN (xs:List V) (k:Nat):kY xs Jd (dk (k:Int))=xs.take k:=by
 unfold kY;rw[HT.sIx_nat,show HT.sIx xs.length 0 Jd=0 from rfl,drop_zero,Nat.sub_zero];by_cases h:k <= xs.length
 . rw[min_eq_left h]
 . rw[Nat.min_eq_right (by omega),K3 (Jk _),K3 (by omega)]
def BZ (xs:List V) (j k:Nat):kY xs (dk (j:Int)) (dk (k:Int))=(xs.drop j).take (k - j):=by
 unfold kY;rw[HT.sIx_nat,HT.sIx_nat];by_cases h:j <= xs.length
 . rw[min_eq_left h];by_cases h2:k <= xs.length
   . rw[min_eq_left h2]
   . rw[Nat.min_eq_right (by omega),K3 (by rw[length_drop];exact Jk _),K3 (by rw[length_drop];omega)]
 . have e1:min j xs.length=xs.length:=by omega
   rw[e1,drop_of_length_le (Jk _),drop_of_length_le (show xs.length <= j by omega),take_nil,take_nil]
theorem fj {α β:Type}{F:α->β->Prop}:∀ {xs:List α}{ys:List β}(k:Nat),JC F xs ys->JC F (xs.take k) (ys.take k)
|_,_,0,_=>by rw[take_zero,take_zero];exact .nil
|_,_,_+1,.nil=>.nil
|_,_,k+1,.cons r t=>.cons r (fj k t)
theorem ii {α β:Type}{F:α->β->Prop}:∀ {xs:List α}{ys:List β}(k:Nat),JC F xs ys->JC F (xs.drop k) (ys.drop k)
|_,_,0,h=>by rw[drop_zero,drop_zero];exact h
|_,_,_+1,.nil=>.nil
|_,_,k+1,.cons _ t=>ii k t
def CI {α:Type}(xs:List α):xs.eraseIdx 0=xs.drop 1:=by cases xs<;>rfl
inductive L5 where
|st|la|ta|to|aw
instance:DecidableEq L5:=λa b=>by
 cases a<;>cases b<;>first|exact isTrue rfl|exact isFalse (λh=>by cases h)
section
variable {H H':Hp}{q:L5->G'}{hs:List Hap}{un uh:List (Int × Int)}{go do':List Int}
end
inductive Hx where
|h (x:Hap)
|n (b:Bool)
def Hx.w:Hx->Wd
|.h x=>x.w
|.n j'=>.handed
|.n D'=>.taken
def Hx.d1:Hx->Jg
|.h x=>.int x.n
|.n _=>.none
def Hx.d2:Hx->Jg
|.h x=>.int x.o
|.n _=>.none
def Hx.v1:Hx->V
|.h x=>.int x.n
|.n _=>.non
def Hx.v2:Hx->V
|.h x=>.int x.o
|.n _=>.non
def Hx.d (x:Hx):Jg:=pV x.w.key x.d1 x.d2
def XV (H:Hp):Hx->V->Prop:=λh v=>∃ c,v=.ref c/\H c=dk (.tup [.str h.w.key,h.v1,h.v2])
def SX (H:Hp) (l:G') (hs:List Hx):Prop:=∃ ts,H l=dk (.lst ts)/\JC (XV H) hs ts
def XV.keep {H H':Hp}(ht:Kt H H') {h:Hx}{v:V}(q:XV H h v):XV H' h v:=by
 obtain⟨c,e,x⟩:=q;exact⟨c,e,ht _ _ x⟩
def SX.same {H H':Hp}{l:G'}{hs:List Hx}(h:SX H l hs) (s:bZ H H'):SX H' l hs:=by
 obtain⟨ts,e,p⟩:=h;exact⟨ts,s _ _ e,Paired.mapP p λ_ _ q=>q.keep s.kt⟩
theorem Dr {H:Hp}:∀ {hs:List Hx}{ts:List V},DVs H (hs.map Hx.d) ts->JC (XV H) hs ts
|[],ts,h=>by
  have:ts=[]:=h;rw[this];exact .nil
|x :: hs,ts,h=>by
  obtain⟨v,r,rfl,h1,h2⟩:=h;obtain⟨t,vs,rfl,ht,v1,r1,rfl,d1,v2,r2,rfl,d2,v3,r3,rfl,d3,e3⟩:=h1;have e3':r3=[]:=e3;subst e3';have z1:v1=.str x.w.key:=d1;have z2:v2=x.v1:=by cases x<;>exact d2
  have z3:v3=x.v2:=by cases x<;>exact d3
  subst z1 z2 z3;exact .cons ⟨t,rfl,ht⟩ (Dr h2)
theorem Ec {H:Hp}:∀ {A:List Hx}{ts:List V}{k:Nat}{y:V},JC (XV H) A ts->ts[k]?=dk y->∃ h c,A[k]?=dk h/\y=.ref c/\H c=dk (.tup [.str h.w.key,h.v1,h.v2])
|_,_,_,_,.nil,h=>by cases h
|h :: _,_ :: _,0,_,.cons ⟨c,e,q⟩ _,hk=>by cases hk;exact⟨h,c,rfl,e,q⟩
|_ :: _,_ :: _,k+1,_,.cons _ t,hk=>Ec (k:=k) t hk
theorem Dx {H:Hp}:∀ {hs:List Hap}{ts:List V},JC (XV H) (hs.map Hx.h) ts->JC (HV H) hs ts
|[],_,.nil=>.nil
|_ :: _,_,.cons ⟨c,e,q⟩ t=>.cons ⟨c,e,q⟩ (Dx t)
def bM:List Hap->List Hx->Option Nat
|_,[]=>Jd
|ah,.h x :: t=>if gq ah x=D' then bM (ah++[x]) t else dk ah.length
|ah,.n _ :: _=>dk ah.length
def rls:List Hx->List Hap
|[]=>[]
|.h x :: t=>x :: rls t
|.n _ :: t=>rls t
theorem jb:∀ {hs:List Hx}{ah:List Hap},bM ah hs=Jd->hs=(rls hs).map .h
|[],_,_=>rfl
|.h x :: t,ah,h=>by
  have h':(if gq ah x=D' then bM (ah++[x]) t else dk ah.length)=Jd:=h;split at h'
  . show Hx.h x :: t=.h x :: (rls t).map .h;rw[<-jb h']
  . cases h'
|.n _ :: _,_,h=>by cases h
theorem wA:∀ (hs ah:List Hap),bM ah (hs.map .h)=pX ah hs
|[],_=>rfl
|x :: t,ah=>by
  show (if gq ah x=D' then bM (ah++[x]) (t.map .h) else dk ah.length)=if gq ah x=D' then pX (ah++[x]) t else dk ah.length
  rw[wA t]
def nF {hs:List Hx}{ah:List Hap}{i:Nat}{x:Hap}(hi:hs[i]?=dk (.h x)):bM ah (hs.drop i)=if gq ah x=D' then bM (ah++[x]) (hs.drop (i+1)) else dk ah.length:=by
 have hlt:i < hs.length:=(Jy.mp hi).1;rw[List.drop_eq_getElem_cons hlt,(Jy.mp hi).2];rfl
def qc {hs:List Hx}{ah:List Hap}{i:Nat}{b:Bool}(hi:hs[i]?=dk (.n b)):bM ah (hs.drop i)=dk ah.length:=by
 have hlt:i < hs.length:=(Jy.mp hi).1;rw[List.drop_eq_getElem_cons hlt,(Jy.mp hi).2];rfl
def FD {hs:List Hx}{ah:List Hap}{i:Nat}{x:Hap}(hi:hs[i]?=dk (.h x)) (h:hs.take i=ah.map .h):hs.take (i+1)=(ah++[x]).map .h:=by
 rw[take_succ,hi,h,Ld];rfl
def HP {hs:List Hx}{ah:List Hap}{i:Nat}(hi:i <= hs.length) (h:hs.take i=ah.map .h):ah.length=i:=by
 have:=congrArg Lk h;rw[KR,Ju]at this;omega
theorem jo:∀ (hs ah:List Hap) (un uh:List (Int × Int)) (go do':List Int),JI ah un uh go do'->pX ah hs=Jd->∃ un' uh' go' do2,JI (ah++hs) un' uh' go' do2
|[],ah,un,uh,go,do',J,_=>by rw[K4];exact⟨_,_,_,_,J⟩
|x :: t,ah,un,uh,go,do',J,h=>by
  have h':(if gq ah x=D' then pX (ah++[x]) t else dk ah.length)=Jd:=h;by_cases q:gq ah x=D'
  . rw[Pg q]at h';have e:ah++x :: t=(ah++[x])++t:=by rw[Kd];rfl
    rw[e];rw[<-J.fits]at q;obtain⟨w,n,o⟩:=x;cases w with
   |asked =>
     have q':(!go.contains n)=D':=q;have hn:n ∉ go:=by simpa using q'
     exact jo t _ _ _ _ _ (J.asked hn) h'
   |taken=>exact jo t _ _ _ _ _ (J.taken (of_decide_eq_true q)).1 h'
   |answered =>
     have q':do'.contains n=D':=q;have hn:n∈do':=by simpa using q'
     exact jo t _ _ _ _ _ (J.answered hn) h'
   |handed=>exact jo t _ _ _ _ _ (J.handed (of_decide_eq_true q)).1 h'
  . rw[Ph q]at h';cases h'
def lkW:Bool->Wd
|false=>.answered
|true=>.asked
def lkX:Bool->Wd
|false=>.handed
|true=>.taken
def Ba {hs:List Hap}(h:CD hs=Jd) (b:Bool):(thH (lkX b) hs).length <= (thH (lkW b) hs).length:=by
 obtain⟨un,uh,go,do',J⟩:=jo hs [] _ _ _ _ JI.zero h;cases b
 . exact J.lh
 . exact J.lt
structure RA where
 ld:G'
 sn:G'
 l:Bool->G'
 ud:G'
 tk:G'
def RA.own (z:RA) (c:G'):Prop:=c=z.ld\/c=z.sn\/c=z.l D'\/c=z.l j'\/c=z.ud\/c=z.tk
def ldK (l:Bool->G'):List (Key × V):=[(.inr "taken",.ref (l D')),(.inr "handed",.ref (l j'))]
def snK (f:Bool->Nat):List (Key × V):=[(.inr "taken",.int (f D')),(.inr "handed",.int (f j'))]
def zR (l:Bool->G') (b:Bool):lp (ldK l) (.inr (lkX b).key)=dk (.ref (l b)):=by
 unfold ldK;cases b
 . exact(ib (lR (by decide +kernel))).trans (fV rfl)
 . exact fV rfl
def zc (f:Bool->Nat) (b:Bool):lp (snK f) (.inr (lkX b).key)=dk (.int (f b)):=by
 unfold snK;cases b
 . exact(ib (lR (by decide +kernel))).trans (fV rfl)
 . exact fV rfl
def Df (f g:Bool->Nat) (b:Bool) (h:g b=f b+1) (h2:g (!b)=f (!b)):kG (snK f) (.inr (lkX b).key) (.int ((f b:Int)+1))=snK g:=by
 unfold kG;rw[jx,zc];simp only[isSome_some,if_true];unfold snK;simp only[Kq,map_nil];cases b
 . rw[show lkX j'=.handed from rfl,Ph (lR (by decide +kernel)),Pg (show (Sum.inr "handed":Key)=.inr (Wd.key .handed) from rfl),h,show g D'=f D' from h2];rfl
 . rw[show lkX D'=.taken from rfl,Pg (show (Sum.inr "taken":Key)=.inr (Wd.key .taken) from rfl),Ph (lR (by decide +kernel)),h,show g j'=f j' from h2];rfl
def CG {k1 k2:Key}{v1 v2:V}(h:k1≠k2):q9 [] [(k1,v1),(k2,v2)]=[(k1,v1),(k2,v2)]:=by
 show kG (kG [] k1 v1) k2 v2=_;rw[wC _ wK,List.nil_append,wC _ ((ib h).trans wK)];rfl
structure RS (H:Hp) (z:RA) (ah:List Hap) (go do':List Int):Prop where
 ld:H z.ld=dk (.dK (ldK z.l))
 sn:H z.sn=dk (.dK (snK λb=>(thH (lkX b) ah).length))
 l:∀ b,TL H (z.l b) (thH (lkW b) ah)
 ud:H z.ud=dk (.dK (gK go))
 tk:H z.tk=dk (.dK (gK do'))
 nl:z.l D'≠z.l j'
 n1:z.ld≠z.sn
 n2:z.ld≠z.ud
 n3:z.ld≠z.tk
 n4:z.sn≠z.ud
 n5:z.sn≠z.tk
 n6:z.ud≠z.tk
section
variable {H H':Hp}{z:RA}{ah ah':List Hap}{go do' go2 do2:List Int}
theorem RS.same (R:RS H z ah go do') (s:bZ H H'):RS H' z ah go do':=⟨s _ _ R.ld,s _ _ R.sn,λb=>(R.l b).same s,s _ _ R.ud,s _ _ R.tk,R.nl,R.n1,R.n2,R.n3,R.n4,R.n5,R.n6⟩
def RS.ne (R:RS H z ah go do') (b:Bool) {c:G'}{kv:List (Key × V)}(h:H c=dk (.dK kv)):z.l b≠c:=λy=>by
 obtain⟨ts,e,_⟩:=R.l b;rw[y,h]at e;cases e
def RS.setUd (R:RS H z ah go do') {kv:List (Key × V)}(h:kv=gK go2):RS (upd H z.ud (.dK kv)) z ah go2 do' :=
 ⟨by rw[aa R.n2];exact R.ld,by rw[aa R.n4];exact R.sn,λb=>(R.l b).up R.ud (λ_ z=>by cases z) (R.ne b R.ud) _,by rw[a9,h],by rw[aa R.n6.symm];exact R.tk,R.nl,R.n1,R.n2,R.n3,R.n4,R.n5,R.n6⟩
def RS.setTk (R:RS H z ah go do') {kv:List (Key × V)}(h:kv=gK do2):RS (upd H z.tk (.dK kv)) z ah go do2 :=
 ⟨by rw[aa R.n3];exact R.ld,by rw[aa R.n5];exact R.sn,λb=>(R.l b).up R.tk (λ_ z=>by cases z) (R.ne b R.tk) _,by rw[aa R.n6];exact R.ud,by rw[a9,h],R.nl,R.n1,R.n2,R.n3,R.n4,R.n5,R.n6⟩
def RS.lay (R:RS H z ah go do') {b:Bool}{n o:Int}{ts:List V}(h:JC (PV H) (thH (lkW b) ah++[(n,o)]) ts):RS (upd H (z.l b) (.lst ts)) z (ah++[⟨lkW b,n,o⟩]) go do':=by
 obtain⟨t0,e0,_⟩:=R.l b;have ht:=fP e0 (λ_ z=>by cases z) (.lst ts);have nb:z.l (!b)≠z.l b:=by cases b;exact R.nl;exact R.nl.symm
 have nn:∀ {c kv},H c=dk (.dK kv)->upd H (z.l b) (.lst ts) c=dk (.dK kv):=λe=>by rw[aa (R.ne b e).symm];exact e
 refine⟨nn R.ld,?_,λc=>?_,nn R.ud,nn R.tk,R.nl,R.n1,R.n2,R.n3,R.n4,R.n5,R.n6⟩
 . rw[nn R.sn];congr 4;funext c;rw[bU,Ph (by cases b<;>cases c<;>decide)]
 . by_cases hc:c=b
   . subst hc;rw[bU,Pg rfl];exact⟨ts,a9,Paired.mapP h λ_ _ q=>q.keep ht⟩
   . have hc':c=!b:=by cases b<;>cases c<;>first|rfl|exact absurd rfl hc
     subst hc';rw[bU,Ph (by cases b<;>decide)];exact(R.l (!b)).up e0 (λ_ z=>by cases z) nb _
def RS.fetch (R:RS H z ah go do') {b:Bool}{n o:Int}{kv:List (Key × V)}(h:kv=snK λc=>(thH (lkX c) (ah++[⟨lkX b,n,o⟩])).length):RS (upd H z.sn (.dK kv)) z (ah++[⟨lkX b,n,o⟩]) go do':=by
 refine⟨by rw[aa R.n1];exact R.ld,by rw[a9,h],λc=>?_,by rw[aa R.n4.symm];exact R.ud,by rw[aa R.n5.symm];exact R.tk,R.nl,R.n1,R.n2,R.n3,R.n4,R.n5,R.n6⟩;rw[bU,Ph (by cases b<;>cases c<;>decide)];exact(R.l c).up R.sn (λ_ z=>by cases z) (R.ne c R.sn) _
end
def Hv (b:Bool):(Hx.n b).w=lkX b:=by cases b<;>rfl
def GW (b:Bool):(lkX b).key≠"asked":=by cases b<;>decide +kernel
def H0 (b:Bool):(lkX b).key≠"answered":=by cases b<;>decide +kernel
def G2 (ah:List Hap):Hx->Bool
|.h x=>gq ah x
|.n _=>j'
def uc (ah:List Hap) (b:Bool) (n o:Int):gq ah ⟨lkX b,n,o⟩=decide (((thH (lkW b) ah).drop (thH (lkX b) ah).length).take 1=[(n,o)]):=by cases b<;>rfl
def Bc {ah:List Hap}{x:Hx}{b:Bool}(hx:x.w=lkX b) (h:(thH (lkW b) ah).length <= (thH (lkX b) ah).length):G2 ah x=j':=by
 cases x with
|n _=>rfl
|h y =>
  obtain⟨w,n,o⟩:=y;have hw:w=lkX b:=hx;subst hw;show gq ah _=j';rw[uc,drop_of_length_le h];exact decide_eq_false λz=>by cases z
def BA {A:List (Int × Int)}{T:Nat}(h:T < A.length):(A.drop T).take 1=[A[T]]:=by rw[List.drop_eq_getElem_cons h];rfl
def pvX (x:Hx):Jg:=.tuple [x.d1,x.d2]
def Em {ah:List Hap}{x:Hx}{b:Bool}(hx:x.w=lkX b) (h:(thH (lkX b) ah).length < (thH (lkW b) ah).length):Jt (pvD (thH (lkW b) ah)[(thH (lkX b) ah).length]) (pvX x)=G2 ah x:=by
 cases x with
|n _ =>
  show Jt (.tuple [.int _,.int _]) (.tuple [.none,.none])=j';simp[Jt,Jg.eqvAll]
|h y =>
  obtain⟨w,n,o⟩:=y;have hw:w=lkX b:=hx;subst hw;show Jt (pvD _) (pvD (n,o))=gq ah _;rw[FN,uc,BA h];by_cases z:(thH (lkW b) ah)[(thH (lkX b) ah).length]=(n,o)
  . rw[Pl z,Pl (by rw[z])]
  . rw[decide_eq_false z,decide_eq_false λy=>z (by injection y)]
def DQ (x:Hx):uO (pvX x):=by cases x<;>exact⟨rfl,by show 1 <= 16;decide⟩
def zY (q:YP) (S:YS) (b:Bool):Int:=(S.m.c (lkA b) - S.m.c (lkB b)) % (q.p.s * q.p.R)
def tm (q:YP) (S:YS) (hs:List Hap) (b:Bool):Bool:=decide (zY q S b≠(((thH (lkW b) hs).length - (thH (lkX b) hs).length:Nat):Int))
def ovB (q:YP) (S:YS) (b:Bool):Bool:=decide (S.bd b=.asleep) && (S.qt (!b) && decide (zY q S b≠0))
def B9 (q:YP) (S:YS) (hs:List Hx):Bool:=if bM [] hs=Jd then (if S.rs j'=[]/\S.rs D'=[] then (tm q S (rls hs) D' || (tm q S (rls hs) j' || (ovB q S j' || ovB q S D'))) else j') else D'
section
variable {q:YP}{S:YS}{hs:List Hx}
def Aj (h:bM [] hs≠Jd):B9 q S hs=D':=Ph h
def zj (h:bM [] hs=Jd) (h2:¬ (S.rs j'=[]/\S.rs D'=[])):B9 q S hs=j':=(Pg h).trans (Ph h2)
def wJ (h:bM [] hs=Jd) (h2:S.rs j'=[]/\S.rs D'=[]):B9 q S hs=(tm q S (rls hs) D' || (tm q S (rls hs) j' || (ovB q S j' || ovB q S D'))):=(Pg h).trans (Pg h2)
def zJ (h:bM [] hs=Jd) (h2:S.rs j'=[]/\S.rs D'=[]) (b:Bool) (h3:tm q S (rls hs) b=D'\/ovB q S b=D'):B9 q S hs=D':=by
 rw[wJ h h2];cases b<;>rcases h3 with h|h<;>rw[h]<;>simp
def FU (h:bM [] hs=Jd) (h2:S.rs j'=[]/\S.rs D'=[]) (h3:∀ b,tm q S (rls hs) b=j'/\ovB q S b=j'):B9 q S hs=j':=by
 rw[wJ h h2,(h3 D').1,(h3 j').1,(h3 D').2,(h3 j').2];rfl
def Ey (h:bM [] hs=Jd) (b:Bool):tm q S (rls hs) b=decide (zY q S b≠((thH (lkW b) (rls hs)).length:Int) - (thH (lkX b) (rls hs)).length):=by
 have e:=jb h;have h':CD (rls hs)=Jd:=by rw[e,wA]at h;exact h
 have l:=Ba h' b;unfold tm;rw[show (((thH (lkW b) (rls hs)).length - (thH (lkX b) (rls hs)).length:Nat):Int)=((thH (lkW b) (rls hs)).length:Int) - (thH (lkX b) (rls hs)).length by omega]
def Dt (ok:q.Ok) (b:Bool):0 <= zY q S b:=Lu _ (by have:=ok.ok.sR;omega)
end
def Dd.trn (x:Dd) (f:Bool->Bool):Bool->Bool:=match x with
|.ask _=>bq f j' j'
|.answer _ _=>bq f D' j'
|.bell b=>bq f b D'
|_=>f
def tz {q:YP}{S:YS}{wt:Int}(h:(Dd.ask wt).chk q S=Jd):∃ nm,cF q.n S.un=dk nm:=by
 have h':(if S.bd j'=.up then (if aZ q.p S.m (S.rs j') .asked .taken=q.p.s then dk Rf.full else match cF q.n S.un with|none=>dk Rf.name|some _=>Jd) else dk Rf.deed)=Jd:=h;split at h'
 . split at h'
   . cases h'
   . cases e:cF q.n S.un with
    |none=>rw[e]at h';cases h'
    |some nm=>exact⟨nm,rfl⟩
 . cases h'
def Dn {q:YP}{S:YS}{x:Dd}(h:x.chk q S=Jd):(x.run q S).2.qt=x.trn S.qt:=by
 cases x with
|ask wt =>
  obtain⟨nm,e⟩:=tz h;show (match cF q.n S.un with|some nm=>_|none=>_:Jg × YS).2.qt=_;rw[e];rfl
|answer nm wt=>rfl
|take =>
  unfold Dd.run;by_cases h0:aZ q.p S.m (S.rs D') .asked .taken=0
  . rw[Pg h0];rfl
  . rw[Ph h0];cases rdP S.m (S.rs D') j' (rdC S.m (S.rs D') .taken % q.p.s)<;>rfl
|collect =>
  unfold Dd.run;by_cases h0:aZ q.p S.m (S.rs j') .answered .handed=0
  . rw[Pg h0];rfl
  . rw[Ph h0];cases rdP S.m (S.rs j') D' (rdC S.m (S.rs j') .handed % q.p.s)<;>rfl
|bell b =>
  have aux:∀ S2:YS,(if rdC S2.m (S2.rs b) (jR (!b))≠1 then (Jg.bool j',S2) else if S2.bd (!b)=.asleep then (.bool D',({ S2 with bd:=bq S2.bd (!b) .up }:YS).wr (!b) (.c (jR (!b)) 0)) else (.bool D',S2)).2.qt=S2.qt:=λS2=>by
   split
   . rfl
   . split<;>rfl
  refine(aux { (if q.fb then S.fence b else S) with qt:=bq (if q.fb then S.fence b else S).qt b D' }).trans ?_;show bq (if q.fb then S.fence b else S).qt b D'=bq S.qt b D';cases q.fb<;>rfl
|lie b =>
  show (if q.fl then (S.wr b (.c (jR b) 1)).fence b else S.wr b (.c (jR b) 1)).qt=S.qt;cases q.fl<;>rfl
|look b =>
  show (if _ then _ else _:Jg × YS).2.qt=S.qt;split<;>rfl
|drain b =>
  show (match S.rs b with|x :: c8=>_|[]=>_:Jg × YS).2.qt=S.qt;cases S.rs b<;>rfl
def ED {q:YP}{S:YS}{x:Dd}(h:x.chk q S=Jd):∃ fs:List Hx,fs.length <= 1/\(x.run q S).2.hs=S.hs++fs.map Hx.d:=by
 have hh:=FS (q:=q) (S:=S) x;rw[Dd.out_none h]at hh
 suffices hs:∃ fs:List Hx,fs.length <= 1/\x.hap "none" (x.run q S).1=fs.map Hx.d by
  obtain⟨fs,h1,h2⟩:=hs;exact⟨fs,h1,by rw[<-h2];exact hh⟩
 clear hh;have g:∀ (wd:Wd) (b:Bool),(wd=match b with|false=>.handed|true=>.taken)->∀ d,Fch d->∃ fs:List Hx,fs.length <= 1/\(match d with|.none=>[]|_=>[pV wd.key (GV d) (GB d)])=fs.map Hx.d:=λwd b hb d hd=>by
  rcases hd with rfl|rfl|⟨i,j,rfl⟩
  . exact⟨[],by decide,rfl⟩
  . exact⟨[.n b],Jk _,by subst hb;cases b<;>rfl⟩
  . exact⟨[.h ⟨wd,i,j⟩],Jk _,rfl⟩
 cases x with
|ask wt =>
  obtain⟨nm,e⟩:=tz h;refine⟨[.h ⟨.asked,nm,wt⟩],Jk _,?_⟩;show [pV "asked" (match cF q.n S.un with|some nm=>_|none=>_:Jg × YS).1 (.int wt)]=_;rw[e];rfl
|answer nm wt=>exact⟨[.h ⟨.answered,nm,wt⟩],Jk _,rfl⟩
|take=>exact g .taken D' rfl _ (Bb q S)
|collect=>exact g .handed j' rfl _ (uN q S)
|bell b=>exact⟨[],KG _,rfl⟩
|lie b=>exact⟨[],KG _,rfl⟩
|look b=>exact⟨[],KG _,rfl⟩
|drain b=>exact⟨[],KG _,rfl⟩
def Fu (t:SetTable) (n:Nat):(t.orStandIn n).led=t.led:=by
 unfold SetTable.orStandIn;split<;>rfl
def DA (t:SetTable) (es:Array (Int × Ja)) (h:Int) (x:Ja):(layNew t es h x).2.1.led=t.led:=by
 unfold layNew;split
 . exact Fu _ _
 . rfl
def xl {t t':SetTable}{hs:Array Int}{n:Nat}{r:Array Nat}(e:t.relaid hs n=dk (t',r)):t'.led=t.led/\t'.plain=t.plain:=by
 unfold SetTable.relaid SetTable.laid at e;simp only[Option.bind_eq_bind,Option.bind_eq_some_iff]at e;obtain⟨_,_,e⟩:=e;cases e;exact⟨rfl,rfl⟩
def ym (t:SetTable) (es:Array (Int × Ja)) (n:Nat):(relayAll t es n).2.1.led=t.led/\(t.plain=j'->(relayAll t es n).2.1.plain=j'):=by
 unfold relayAll;split
 . rename_i t' r e;obtain⟨h1,h2⟩:=xl e;dsimp only;split
   . exact⟨h1,λh=>h2.trans h⟩
   . exact⟨rfl,λ_=>rfl⟩
 . exact⟨rfl,λ_=>rfl⟩
def sg (w:Jp) (h:JB) (a:G') (ks:List Str) (led:Bool):Prop :=
 ∃ o es ep t,h.get? a=dk o/\o.ExactSet/\o.data=.set es ep t/\(∀ e∈es.toList,∃ k tk,e=(hashStr w k,.str k tk))/\(es.toList.map λe=>strOf e.2).Perm ks/\ks.Nodup/\es.size < scanBound/\t.fits es.size=D'/\t.led=led/\(0 < es.size->t.plain=j')
section
variable {prog:Jz}{w:Jp}{A:JK}{E:Ja->Jc->Prop}{s:Jc}{a:G'}{ks:List Str}{led:Bool}
def Gb {es:List (Int × Ja)}(h:∀ e∈es,∃ k tk,e=(hashStr w k,.str k tk)):ElemsOf (PySem.strKind prog w) es:=λe he=>by
 obtain⟨k,tk,rfl⟩:=h e he;exact⟨⟨k,strKind_is _ _ _ _,rfl⟩,rfl⟩
def sg.new (led:Bool) {h:JB}:sg w (h.push { cls:=.type "set",dict:=Jd,data:=.set #[] 0 (.fresh 0 0 led) }) h.objs.size [] led :=
 ⟨_,#[],0,_,Js _ rfl,⟨rfl,rfl,rfl⟩,rfl,(λe he=>by simp at he),Lr.refl _,nodup_nil,by decide,by rfl,rfl,(λh=>by simp at h)⟩
def zP (ks:List Str) (y:Str):List Str:=if y∈ks then ks else ks++[y]
def sg.store {h:JB}{o:Ku}{es:Array (Int × Ja)}{ep:Nat}{t:SetTable}(ho:h.get? a=dk o) (hex:o.ExactSet) (hd:o.data=.set es ep t) {es':Array (Int × Ja)}{t':SetTable}(hel:∀ e∈es'.toList,∃ k tk,e=(hashStr w k,.str k tk)) (hpm:(es'.toList.map λe=>strOf e.2).Perm ks) (hnd:ks.Nodup) (hb:es'.size < scanBound) (hf:t'.fits es'.size=D') (hl:t'.led=led) (hp:t'.plain=j') :
 (h.update a (Ku.putSet es' t')).get? a=dk { o with data:=.set es' (ep+1) t' }/\sg w (h.update a (Ku.putSet es' t')) a ks led:=by
 have hg:(h.update a (Ku.putSet es' t')).get? a=dk { o with data:=.set es' (ep+1) t' }:=by
  have:=Ks (Ku.putSet es' t') ho (by rw[putSet_of es' t' hd];rfl);rw[putSet_of es' t' hd]at this;exact this
 exact⟨hg,_,es',ep+1,t',hg,hex,rfl,hel,hpm,hnd,hb,hf,hl,λ_=>hp⟩
def vm {g:Bool->Sem Unit}(hg:∀ (b:Bool) (s₁:Jc) (Q':Unit->Jc->Prop),Q' () s₁->Jo (model prog w) A (g b) Q' E s₁)
 {o:Ku} {es:Array (Int × Ja)} {ep:Nat} {t:SetTable} (ho:s.heap.get? a=dk o) (hex:o.ExactSet) (hd:o.data=.set es ep t)
 {e1:Array (Int × Ja)} {t2:SetTable} (hel:∀ e∈e1.toList,∃ k tk,e=(hashStr w k,.str k tk)) (hpm:(e1.toList.map λe=>strOf e.2).Perm ks) (hnd:ks.Nodup) (hb:e1.size < scanBound) (hf:t2.fits e1.size=D') (hl:t2.led=led) (hp:t2.plain=j') {dm:Bool} {R:Option Bool->Jc->Prop}
 (h:∀ h',Kv a s.heap h'->sg w h' a ks led->R (dk D') { s with heap:=h' }) :
 Jo (model prog w) A (do
  storeSet a e1 t2
  if (!dm && t2.tooFull)=D' then do
   g (relayAll t2 e1 (SetTable.grown e1.size)).2.2
   storeSet a (relayAll t2 e1 (SetTable.grown e1.size)).1 (relayAll t2 e1 (SetTable.grown e1.size)).2.1
   pure (dk D')
   else pure (dk D')) R E s:=by
 refine f' (wpAny_storeSet_of ho hd ?_ (fits_of_scanBound hb));obtain⟨ho1,S1⟩:=sg.store (w:=w) (led:=led) ho hex hd hel hpm hnd hb hf hl hp;have sb:=JX s.heap a (Ku.putSet e1 t2);split
 . have rp:=relayAll_perm t2 e1 (SetTable.grown e1.size);have rf:=relayAll_fits t2 e1 (SetTable.grown e1.size);have rl:=ym t2 e1 (SetTable.grown e1.size);generalize relayAll t2 e1 (SetTable.grown e1.size)=Rl at rp rf rl |-;obtain⟨e2,t3,gv⟩:=Rl;dsimp only at rp rf rl |-;have hsz:e2.size=e1.size:=by rw[<-JY,rp.length_eq,JY]
   refine f' (hg _ _ _ (f' (wpAny_storeSet_of ho1 rfl ?_ (fits_of_scanBound (by rw[hsz];exact hb)))));obtain⟨_,S2⟩:=sg.store (w:=w) (led:=led) ho1 hex rfl (λe he=>hel e (rp.mem_iff.mp he)) ((rp.map _).trans hpm) hnd (by rw[hsz];exact hb) rf (rl.1.trans hl) (rl.2 hp);exact Jb (h _ (sb.trans (JX _ a _)) S2)
 . exact Jb (h _ sb S1)
def Ex {y:Str}{tk:Tok}{Q:Bool->Jc->Prop}(S:sg w s.heap a ks led) (hroom:ks.length+1 < scanBound)
 (h:∀ h' b,Kv a s.heap h'->sg w h' a (zP ks y) led->Q b { s with heap:=h' }) :
 Jo (model prog w) A (setAddHashed a (.str y tk) (hashStr w y)) Q E s:=by
 obtain⟨o,es,ep,t,ho,hex,hd,hel,hpm,hnd,hb,hf,hled,hpl⟩:=S;have hsz:es.size=ks.length:=by
  have:=hpm.length_eq;rw[Ju,JY]at this;exact this
 have helK:ElemsOf (PySem.strKind prog w) es.toList:=Gb hel;have hkey:(PySem.strKind prog w).is y (.str y tk)=D':=strKind_is _ _ _ _;unfold setAddHashed setAddHashedIn;refine Kg (f' (wpAny_setState_of ho hd hf ?_));dsimp only;rw[byScan_of (knd:=PySem.strKind prog w) rfl hb helK];simp only[↓reduceIte];unfold setAddByScan;refine f' (f' (KC (f' (wpAny_setScan_of (knd:=PySem.strKind prog w) hkey ho hd hf helK ?_))));have hmem:(∃ e∈es.toList,(PySem.strKind prog w).is y e.2=D') ↔ y∈ks:=by
  rw[<-hpm.mem_iff,Lg];constructor
  . rintro⟨e,he,hq⟩;obtain⟨k,tk',rfl⟩:=hel e he;have hq':Ja.isStrOf y (.str k tk')=D':=hq;obtain⟨u,hu⟩:=Ja.isStrOf_shape hq';cases hu;exact⟨_,he,rfl⟩
  . rintro⟨e,he,hq⟩;obtain⟨k,tk',rfl⟩:=hel e he;have hk:k=y:=hq;subst hk;exact⟨_,he,strKind_is _ _ _ _⟩
 cases hr:List.findIdx? (λe=>(PySem.strKind prog w).is y e.2) es.toList with
|some j =>
  dsimp only;obtain⟨hj,hpj,_⟩:=List.findIdx?_eq_some_iff_getElem.mp hr;have hy:y∈ks:=hmem.mp ⟨_,getElem_mem hj,hpj⟩;refine Jb (Jb ?_);have hk:zP ks y=ks:=Pg hy;exact h s.heap _ (Kv.refl a s.heap) (by rw[hk];exact⟨o,es,ep,t,ho,hex,hd,hel,hpm,hnd,hb,hf,hled,hpl⟩)
|none =>
  dsimp only;have hy:y ∉ ks:=λz=>by
   obtain⟨e,he,hp⟩:=hmem.mpr z;have:=List.findIdx?_eq_none_iff.mp hr e he;rw[hp]at this;exact Bool.noConfusion this
  have hk:zP ks y=ks++[y]:=Ph hy;rw[hk]at h;have hgw:∀ (b:Bool) {s₁:Jc} {Q':Unit->Jc->Prop},Q' () s₁->Jo (model prog w) A (match b with|true=>rule "set.scan.the-table-gave-way"|false=>pure ()) Q' E s₁ :=
   λb s₁ Q' hq=>by cases b<;>first|exact Jb hq|exact KC hq
  have hperm:=layNew_perm t es (hashStr w y) (.str y tk);have hfits:=layNew_fits t es (hashStr w y) (.str y tk);have hll:=DA t es (hashStr w y) (.str y tk);show Jo _ _ (let (es,t,wasDummy,gave):=layNew t es (hashStr w y) (.str y tk);_) _ _ _;generalize hL:layNew t es (hashStr w y) (.str y tk)=L at hperm hfits hll |-;obtain⟨es1,t1,wasDummy,gave⟩:=L;dsimp only at hperm hfits hll |-;have hpm1:(es1.toList.map λe=>strOf e.2).Perm (ks++[y]):=by
   refine(hperm.map _).trans ?_;rw[Array.toList_push,Ld];exact Lp _ hpm
  have hnd1:(ks++[y]).Nodup:=nodup_append.mpr ⟨hnd,by simp,λa ha b hb e=>hy (by rw[Je.mp hb]at e;exact e ▸ ha)⟩;have hel1:∀ e∈es1.toList,∃ k tk,e=(hashStr w k,.str k tk):=λe he=>by
   have:=hperm.mem_iff.mp he;rw[Array.toList_push]at this;rcases KU.mp this with z|z
   . exact hel e z
   . exact⟨y,tk,Je.mp z⟩
  have hb1:es1.size < scanBound:=by
   have:=hpm1.length_eq;rw[Ju,JY,Ji]at this;rw[this];exact hroom
  refine f' (hgw _ ?_);split
  . refine f' ?_;rw[hashByValue_scannable 8 (x:=.str y tk) rfl];refine Jb ?_;rw[show plainKind (.str y tk)=j' from rfl];simp only[JP,↓reduceIte];refine vm ?_ ho hex hd hel1 hpm1 hnd1 hb1 (SetTable.fits_plain_off hfits) (hll.trans hled) rfl ?_
    . intro b s₁ Q' hq;cases b<;>first|exact Jb hq|exact KC hq
    . intro h' hsb S';dsimp only;exact Jb (h h' _ hsb S')
  . rename_i hp;refine f' (Jb ?_);simp only[↓reduceIte];have hp':t1.plain=j':=by cases e:t1.plain with|false=>rfl|true=>exact absurd e hp
    refine vm ?_ ho hex hd hel1 hpm1 hnd1 hb1 hfits (hll.trans hled) hp' ?_
    . intro b s₁ Q' hq;cases b<;>first|exact Jb hq|exact KC hq
    . intro h' hsb S';dsimp only;exact Jb (h h' _ hsb S')
end
def xR (val:Nat->Str) (i:Nat):List Str:=(Ll i).foldl (λks j=>zP ks (val j)) []
def oH (val:Nat->Str) (i:Nat):xR val (i+1)=zP (xR val i) (val i):=by
 unfold xR;rw[List.range_succ,List.foldl_append];rfl
def Bw (ks:List Str) (y:Str):(zP ks y).length <= ks.length+1:=by
 unfold zP;split
 . exact le_succ _
 . rw[Ji];exact Jk _
theorem sf (val:Nat->Str):∀ i,(xR val i).length <= i
|0=>Jk _
|i+1=>by
  rw[oH];have:=Bw (xR val i) (val i);have:=sf val i;omega
def ni (w:Jp):Bool:=w.params.followText "set-order"
def sg.at' {w:Jp}{h h':JB}{a:G'}{ks:List Str}{led:Bool}(S:sg w h a ks led) (e:∀ o,h.get? a=dk o->h'.get? a=dk o):sg w h' a ks led:=by
 obtain⟨o,es,ep,t,ho,r⟩:=S;exact⟨o,es,ep,t,e _ ho,r⟩
section
variable {prog:Jz}{w:Jp}{A:JK}{E:Ja->Jc->Prop}{s:Jc}
def uK (a:Ja) {Q₁:Ja->Jc->Prop}(h:Q₁ (.ref s.heap.objs.size) { s with heap:=s.heap.push { cls:=.type "set",dict:=Jd,data:=.set #[] 0 (.fresh 0 0 (!ni w)) } }) :
 codeAny (model prog w) A (.call (.builtin "set.__new__") ⟨[.type "set",a],[]⟩) (wants Q₁ E) s:=by
 refine codeAny_of_tree ?_;show Jo _ A.in1 (do checkBuiltinCall "set.__new__" ⟨[.type "set",a],[]⟩;again (.builtin "set.__new__" ⟨[.type "set",a],[]⟩)) _ _ s;refine f' (wpAny_of_eq (F.newCall_set_1 a) (Jb ⟨plainId_quiet F.plain_set_new _,codeAny_builtin F.entry_set_new ?_⟩));rw[JK.under_plainId F.plain_set_new _];unfold Builtin.«set.__new__» Builtin.Frozenset.newClass;have hsub:=PySem.sub_set_self;obtain⟨hp,g,d,tk,os⟩:=s;dsimp only
 wp_walk
 refine wpAny_askSetting (Jb ?_);dsimp only;simp only[newObj];refine f' (wpAny_alloc (Jb (Jb ?_)));exact h
variable {R:Result->Jc->Prop}{I:G'}{fp wr:List G'}{G:Array GenState->Array GenState->Prop}{n:Nat}{P:Nat->Ja->Prop}{St:Nat->Jc->Prop}
def AY (W:WalksS prog w A.in1 I fp wr G n P St) (S:G') (hSf:S ∉ fp) {led:Bool}(val:Nat->Str) (hval:∀ i v,P i v->∃ t,v=.str (val i) t) (hb:n+1 < scanBound) :
 ∀ (k i:Nat) (s:Jc),n - i=k->i <= n->St i s->sg w s.heap S (xR val i) led ->
  (∀ s',Moved (S :: wr) G s s'->sg w s'.heap S (xR val n) led->R (.ok (.ret .none)) s') ->
  codeAny (model prog w) A (.builtin "set.update.loop" ⟨[.ref S,.ref I],[]⟩) R s:=by
 have hSw:S ∉ wr:=λh=>hSf (W.sub _ h)
 have hsub:∀ b∈wr,b∈S :: wr:=λb hb=>Jv _ hb
 intro k
 induction k with
|zero =>
  intro i s hk hi hst hS hR;obtain rfl:i=n:=by omega
  refine codeAny_builtin F.entry_set_update_loop ?_;rw[JK.under_plainId F.plain_set_update_loop _];show Jo _ A.in1 (pyNext (.ref I) >>= _) _ _ s;refine f' (W.done s _ _ hst λs' hm=>?_);exact Jb (hR s' (hm.mono hsub) (hS.at' λo e=>hm.heap S _ hSw e))
|succ k ih =>
  intro i s hk hi hst hS hR;have hlt:i < n:=by omega
  refine codeAny_builtin F.entry_set_update_loop ?_;rw[JK.under_plainId F.plain_set_update_loop _];show Jo _ A.in1 (pyNext (.ref I) >>= _) _ _ s;refine f' (W.item i s _ _ hlt hst λv s' hP hst' hm=>?_);obtain⟨t,rfl⟩:=hval i v hP;have hS':=hS.at' (h':=s'.heap) λo e=>hm.heap S _ hSw e
  show Jo _ A.in1 (holding [Ja.str (val i) t] (setAdd S (.str (val i) t)) >>= _) _ _ s';refine f' (Kg ?_);unfold setAdd;refine Kg (f' (wpAny_pyHash_str ?_));have hroom:(xR val i).length+1 < scanBound:=by have:=sf val i;omega
  refine Ex (s:={ s' with toks:=s'.toks+1 }) hS' hroom λh' b sb S2=>?_
  rw[<-oH]at S2;refine Jb ⟨plainId_quiet F.plain_set_update_loop _,ih (i+1) _ (by omega) hlt (W.frame _ s' _ _ hst' (le_succ _) λb hb o e=>?_) S2 λs'' hm'' hS''=>?_⟩
  . rw[sb.2 b (λz=>hSf (by rw[<-z];exact hb))];exact e
  . refine hR s'' (Moved.trans W.gtrans ((hm.mono hsub).then_heap (le_succ _) λb o hb e=>?_) hm'') hS'';rw[sb.2 b (λz=>hb (by rw[z];exact Jx))];exact e
theorem yK:∀ {vs:List Ja}{ss:List Str},StrsAre vs ss->∀ (i:Nat) (v:Ja),vs[i]?=dk v->∃ t,v=.str (ss.getD i "") t
|_,_,.nil,i,v,h=>by simp at h
|_,_,.cons n t hr,0,v,h=>by simp at h;exact⟨t,by rw[<-h];rfl⟩
|_,_,.cons n t hr,i+1,v,h=>by
  simp only[List.getElem?_cons_succ]at h;obtain⟨t',e⟩:=yK hr i v h;exact⟨t',by rw[e];rfl⟩
set_option maxHeartbeats 8000000 in
def BW {l:G'}{items:Array Ja}{ss:List Str}{Q:Ja->Jc->Prop}(hh:A.handled=Jd) (hl:s.heap.IsList l items) (hi:StrsAre items.toList ss) (hb:items.size+1 < scanBound)
 (h:∀ (h':JB) (tk:Nat),sg w h' s.heap.objs.size (xR (λi=>ss.getD i "") items.size) (!ni w)->(∀ b o,b < s.heap.objs.size->s.heap.get? b=dk o->h'.get? b=dk o)->Q (.ref s.heap.objs.size) { s with heap:=h',toks:=tk }) :
 Jo (model prog w) A (call (.type "set") [.ref l]) Q E s:=by
 obtain⟨c,tl,hmro⟩:=F.called_set.mro;have hmade:=F.called_set.made;have hsub:=F.called_set.sub;refine wpAny_call (codeAny_of_tree ?_);show Jo _ _ (callAny (.type "set") _) _ _ _;refine Jb ⟨Code.quiet_builtin _ (by decide +kernel),codeAny_builtin F.entry_type_call ?_⟩;rw[JK.under_plain (weight_type_call_type "set" [.ref l] []) rfl];have h1:=F.called_set.notType;have h2:=F.called_set.canCreate;have hct:=F.typeCall_set_1 (.ref l)
 repeat (any_goals (first|assumption|wp_step))
 refine codeAny_mono (uK (.ref l) (E:=E) (Q₁:=λobj s₁=>obj=.ref s.heap.objs.size/\s₁={ s with heap:=s.heap.push ({ cls:=.type "set",dict:=Jd,data:=.set #[] 0 (.fresh 0 0 (!ni w)) }:Ku) }) ⟨rfl,rfl⟩) λr s₁ hr=>?_
 cases r with
|error e=>exact hr
|ok fl =>
  cases fl with
 |ret obj =>
   obtain⟨rfl,rfl⟩:=hr;have hS:(s.heap.push ({ cls:=.type "set",dict:=Jd,data:=.set #[] 0 (.fresh 0 0 (!ni w)) }:Ku)).get? s.heap.objs.size=dk ({ cls:=.type "set",dict:=Jd,data:=.set #[] 0 (.fresh 0 0 (!ni w)) }:Ku):=Js _ rfl;have hT:Jc.TypeIs { s with heap:=s.heap.push ({ cls:=.type "set",dict:=Jd,data:=.set #[] 0 (.fresh 0 0 (!ni w)) }:Ku) } (.ref s.heap.objs.size) "set":=⟨_,hS,rfl⟩
   have hli:=F.called_set.init.lookup;have hbi:=F.called_set.init.bind (.ref s.heap.objs.size)
   repeat (any_goals (first|assumption|wp_step))
   refine codeAny_mono (codeAny_call_builtin (R:=wants (λr s₂=>r=.none/\∃ h' tk,s₂={ s with heap:=h',toks:=tk }/\sg w h' s.heap.objs.size (xR (λi=>ss.getD i "") items.size) (!ni w) /\
    (∀ b o,b < s.heap.objs.size->s.heap.get? b=dk o->h'.get? b=dk o)) E) F.called_set.init.plain F.entry_set_init (check_set_init_1 hT ?_)) λr₂ s₂ hr₂=>?_
   . obtain⟨ol,hol,hcl,nl,hdl⟩:=hl;obtain⟨ocls,odict,odata,oslots⟩:=ol;simp only at hcl hdl;subst hcl;subst hdl;have hol':(s.heap.push ({ cls:=.type "set",dict:=Jd,data:=.set #[] 0 (.fresh 0 0 (!ni w)) }:Ku)).get? l=dk { cls:=.type "list",dict:=odict,data:=.seq items nl,slots:=oslots }:=Jf _ hol;have hsls:=F.sub_list_set;have hslf:=F.sub_list_frozenset;have hne:(Ja.type "list" == Ja.type "dict")=j':=by decide
     have hl1:(s.heap.push ({ cls:=.type "set",dict:=Jd,data:=.set #[] 0 (.fresh 0 0 (!ni w)) }:Ku)).IsList l items:=⟨_,hol',rfl,nl,rfl⟩
     unfold Builtin.«set.__init__» noKeywords Builtin.Frozenset.updateFrom;generalize hPI:pyIter=PI
     wp_walk
     subst hPI;refine wpAny_pyIter_list hl1 ?_;refine f' (wpAny_runValue ?_);have hlS:l < s.heap.objs.size:=Jr hol;have hh3:A.in1.in1.in1.handled=Jd:=by simp[hh]
     have hneI:l≠(s.heap.push ({ cls:=.type "set",dict:=Jd,data:=.set #[] 0 (.fresh 0 0 (!ni w)) }:Ku)).objs.size:=by rw[JB.size_push];exact JR (lt_succ_of_lt hlS)
     have hSf:s.heap.objs.size ∉ [(s.heap.push ({ cls:=.type "set",dict:=Jd,data:=.set #[] 0 (.fresh 0 0 (!ni w)) }:Ku)).objs.size,l]:=by
      rw[JB.size_push];simp only[JE,Kl,or_false,not_or];exact⟨JR (lt_succ_self _),ne_of_gt hlS⟩
     have hval:∀ (i:Nat) (v:Ja),items[i]?=dk v->∃ t,v=.str ((λi=>ss.getD i "") i) t:=λi v hv=>yK hi i v (by rw[JW];exact hv)
     have S0:sg w (s.heap.push ({ cls:=.type "set",dict:=Jd,data:=.set #[] 0 (.fresh 0 0 (!ni w)) }:Ku)) s.heap.objs.size [] (!ni w):=sg.new _;refine AY ((Walks.list hh3 _ l hneI items).toS) s.heap.objs.size hSf (λi=>ss.getD i "") hval hb (items.size - 0) 0 _ (by omega) (KG _)
      ⟨⟨_,Js _ rfl,rfl,rfl⟩,(hl1.push _)⟩ (S0.at' λo e=>Jf _ e) ?_
     intro s' hm hS';obtain⟨h',g',d',tk',os'⟩:=s';have eg:g'=s.gens:=hm.gens;have ed:d'=s.drawn:=hm.drawn;have eo:os'=s.os:=hm.os;subst eg;subst ed;subst eo;show Jo _ _ _ _ _ _;refine Jb ?_;show Jo _ _ (ret Ko) _ _ _;refine Jb ⟨rfl,h',tk',rfl,hS',λb o hb e=>?_⟩;have hb1:b≠s.heap.objs.size:=JR hb;have hb2:b≠(s.heap.push ({ cls:=.type "set",dict:=Jd,data:=.set #[] 0 (.fresh 0 0 (!ni w)) }:Ku)).objs.size:=by rw[JB.size_push];exact JR (lt_succ_of_lt hb)
     exact hm.heap b o (by simp only[JE,Kl,or_false,not_or];exact⟨hb1,hb2⟩) (Jf _ (Jf _ e))
   . cases r₂ with
    |error e=>exact hr₂
    |ok fl₂ =>
      cases fl₂ with
     |ret r =>
       obtain⟨rfl,h',tk,rfl,hS',hk'⟩:=hr₂
       repeat (any_goals (first|assumption|wp_step))
       exact h _ _ hS' hk'
     |_=>exact hr₂.elim
 |_=>exact hr.elim
end
def zg:entryFor table "set.__iter__"=dk Builtin.«frozenset.__iter__»:=entryFor_alias (id':="frozenset.__iter__") (by kernel_rfl) rfl (by decide +kernel) (by kernel_rfl)
def yw:Manifest.owners.lookup (String.ofList ['r','o','t','a','r','e','t','i','_','t','e','s'].reverse)=dk Manifest.sig_set_iterator:=by kernel_rfl
def eN:Slot "set_iterator" "__next__" "set_iterator.__next__":=.of (owner:="set_iterator") (n:="__next__") (by rw[typeLookup_type,builtinLookup_eq_fast];kernel_rfl) (by decide +kernel) (by decide +kernel) (by decide +kernel) (by first|exact .inl (by decide +kernel)|exact .inr (by decide +kernel)) (by rw[isSubtype_type];kernel_rfl)
def qU:entryFor table "set_iterator.__next__"=dk Builtin.«set_iterator.__next__»:=entryFor_of_tree (by kernel_rfl)
def mU (a:Ja):argsOk "set_iterator.__next__" ⟨[a],[]⟩:=by
 unfold argsOk;rw[signature?_of (id:="set_iterator.__next__") (n:=['_','_','t','x','e','n','_','_']) (o:=['r','o','t','a','r','e','t','i','_','t','e','s']) (by kernel_rfl) yw]
 kernel_rfl
def wm:Slot "set_iterator" "__iter__" "set_iterator.__iter__":=.of (owner:="set_iterator") (n:="__iter__") (by rw[typeLookup_type,builtinLookup_eq_fast];kernel_rfl) (by decide +kernel) (by decide +kernel) (by decide +kernel) (by first|exact .inl (by decide +kernel)|exact .inr (by decide +kernel)) (by rw[isSubtype_type];kernel_rfl)
def DH:entryFor table "set_iterator.__iter__"=dk Builtin.«dict_keyiterator.__iter__»:=entryFor_alias (id':="dict_keyiterator.__iter__") (by kernel_rfl) rfl (by decide +kernel) (by kernel_rfl)
def AV (a:Ja):argsOk "set_iterator.__iter__" ⟨[a],[]⟩:=by
 unfold argsOk;rw[signature?_of (id:="set_iterator.__iter__") (n:=['_','_','r','e','t','i','_','_']) (o:=['r','o','t','a','r','e','t','i','_','t','e','s']) (by kernel_rfl) yw]
 kernel_rfl
def vg (h:JB) (a:G') (es:Array (Int × Ja)) (ep:Nat) (t:SetTable):Prop:=∃ o,h.get? a=dk o/\o.ExactSet/\o.data=.set es ep t/\t.fits es.size=D'
def DD (h:JB) (T:G') (pl:Array Ja):Prop:=∃ o n,h.get? T=dk o/\o.data=.seq pl n
def lm (h:JB) (I a:G') (first:Ja) (i n ep:Nat):Prop:=∃ o,h.get? I=dk o/\o.cls=.type "set_iterator"/\o.data=.fields #[first,.int i 0,.ref a,.int n 0,.int ep 0]
section
variable {prog:Jz}{w:Jp}{A:JK}{E:Ja->Jc->Prop}{s:Jc}{I a:G'}{first:Ja}{i ep:Nat}{es:Array (Int × Ja)}{t:SetTable}
def vg.at' {h h':JB}(S:vg h a es ep t) (e:∀ o,h.get? a=dk o->h'.get? a=dk o):vg h' a es ep t:=by
 obtain⟨o,ho,r⟩:=S;exact⟨o,e _ ho,r⟩
def lm.at' {n:Nat}{h h':JB}(S:lm h I a first i n ep) (e:∀ o,h.get? I=dk o->h'.get? I=dk o):lm h' I a first i n ep:=by
 obtain⟨o,ho,r⟩:=S;exact⟨o,e _ ho,r⟩
def rq {n:Nat}{Q:Ja->Jc->Prop}(hit:lm s.heap I a first i n ep) (h:Q (.ref I) s):Jo (model prog w) A (pyIter (.ref I)) Q E s:=by
 obtain⟨o,ho,hc,hd⟩:=hit;have hT:s.TypeIs (.ref I) "set_iterator":=⟨o,ho,hc⟩
 refine wpAny_pyIter_slot hT wm (JS wm hT DH ?_ (AV _));show Jo _ _ (ret (.ref I)) _ _ s;exact Jb ⟨_,rfl,"set_iterator",_,hT,eN.lookup,h⟩
def wz {s0:Jc}{h1:JB}{Q:Option Ja->Jc->Prop}(hh:A.handled=Jd) (hx:JB.ExtBut I s0.heap h1) (hQ:∀ h',JB.ExtBut I s0.heap h'->Q Jd { s0 with heap:=h' }) :
 Jo (model prog w) A.in1 (do let x <-newExc (.type "StopIteration") [];raiseNew (α:=Fin) x) (λfin s'=>∃ v,fin=Fin.done (Flow.ret v)/\Jo (model prog w) A (pure (dk v)) Q E s')
  (λe s'=>Jo (model prog w) A (do let b <-isInstance e (Ja.type "StopIteration");if b=D' then pure Jd else throw e) Q E s') { s0 with heap:=h1 }:=by
 refine f' ?_;simp only[newExc,newTuple];refine f' (Kf ?_ (by size_fits));refine f' (m:=firstArgMember _ _) (wpAny_of_eq (a:=Ko) (by first|rfl|(simp only[firstArgMember];rfl)) ?_);refine Kf ?_ (by size_fits);simp only[raiseNew];refine f' (wpAny_handled ?_);rw[show A.in1.handled=Jd from hh];refine f' (Jb (wpAny_throw ?_));refine f' (wpAny_isInstance (T:="StopIteration") (b:=D') ⟨_,Js _ rfl,rfl⟩ isSubtype_stop ?_);exact Jb (hQ _ ((hx.push _).push _))
def rQ {vs:Array Ja}{o:Ku}{h:JB}{k:Nat}{v:Ja}(ho:h.get? I=dk o) (hc:o.cls=.type "set_iterator") (hd:o.data=.fields vs) :
 (h.update I (Ku.mapFields (·.setIfInBounds k v))).get? I=dk (Ku.mapFields (·.setIfInBounds k v) o)/\(Ku.mapFields (·.setIfInBounds k v) o).cls=.type "set_iterator"/\(Ku.mapFields (·.setIfInBounds k v) o).data=.fields (vs.setIfInBounds k v) :=
 ⟨Ks _ ho (Ku.isFreed_of_fields (Ku.data_mapFields hd _)),(Ku.cls_mapFields ..).trans hc,Ku.data_mapFields hd _⟩
def wF {slot nx:Nat}{x:Ja}{Q:Option Ja->Jc->Prop}(hit:lm s.heap I a (.int slot 0) i es.size ep) (hX:vg s.heap a es ep t)
 (hn:∀ (A':JK) (Q':Option (Ja × Nat)->Jc->Prop) (E':Ja->Jc->Prop),Q' (dk (x,nx)) s->Jo (model prog w) A' (setNext a slot i ep) Q' E' s)
 (hQ:∀ h',lm h' I a (.int nx 0) (i+1) es.size ep->JB.ExtBut I s.heap h'->Q (dk x) { s with heap:=h' }):Jo (model prog w) A (pyNext (.ref I)) Q E s:=by
 obtain⟨o,ho,hc,hd⟩:=hit;obtain⟨os,hos,hex,hds,hf⟩:=hX;have hT:s.TypeIs (.ref I) "set_iterator":=⟨o,ho,hc⟩
 unfold pyNext;refine f' (wpAny_attempt (JV (name:=K0 "__next__") hT eN (JS eN hT qU ?_ (mU _))));unfold Builtin.«set_iterator.__next__» slotArgs;simp only[List.isEmpty_nil,Bool.not_true,JP,↓reduceIte,bind_assoc,length_nil,bne_self_eq_false];refine f' (Jb (f' (wpAny_fieldsOf ho hd ?_)));dsimp only;refine f' (wpAny_setEntries_of hos hds hf ?_);rw[Ph (by simp)];refine f' (hn _ _ _ ?_);dsimp only;obtain⟨p1,p2,p3⟩:=rQ (k:=0) (v:=rawInt nx) ho hc hd;refine f' (wpAny_setField ho hd (by simp) ?_);obtain⟨q1,q2,q3⟩:=rQ (k:=1) (v:=rawInt ((i:Int)+1)) p1 p2 p3;refine f' (wpAny_setField p1 p3 (by simp) ?_);refine Jb ⟨_,rfl,Jb (hQ _ ⟨_,q1,q2,by rw[q3];simp[rawInt]⟩ ?_)⟩;exact λb o hb e=>(JX ..).extBut b o hb ((JX ..).extBut b o hb e)
def vG {slot:Nat}{Q:Option Ja->Jc->Prop}(hh:A.handled=Jd) (hit:lm s.heap I a (.int slot 0) i es.size ep) (hX:vg s.heap a es ep t)
 (hn:∀ (A':JK) (Q':Option (Ja × Nat)->Jc->Prop) (E':Ja->Jc->Prop),Q' Jd s->Jo (model prog w) A' (setNext a slot i ep) Q' E' s)
 (hQ:∀ h',JB.ExtBut I s.heap h'->Q Jd { s with heap:=h' }):Jo (model prog w) A (pyNext (.ref I)) Q E s:=by
 obtain⟨o,ho,hc,hd⟩:=hit;obtain⟨os,hos,hex,hds,hf⟩:=hX;have hT:s.TypeIs (.ref I) "set_iterator":=⟨o,ho,hc⟩
 unfold pyNext;refine f' (wpAny_attempt (JV (name:=K0 "__next__") hT eN (JS eN hT qU ?_ (mU _))));unfold Builtin.«set_iterator.__next__» slotArgs;simp only[List.isEmpty_nil,Bool.not_true,JP,↓reduceIte,bind_assoc,length_nil,bne_self_eq_false];refine f' (Jb (f' (wpAny_fieldsOf ho hd ?_)));dsimp only;refine f' (wpAny_setEntries_of hos hds hf ?_);rw[Ph (by simp)];refine f' (hn _ _ _ ?_);dsimp only;refine f' (wpAny_setField ho hd (by simp) ?_);exact wz hh (JX ..).extBut hQ
def By {T:G'}{pl:Array Ja}{k:Nat}{hv:Int}{x:Ja}{Q:Option Ja->Jc->Prop}(hit:lm s.heap I a (.ref T) i es.size ep) (hX:vg s.heap a es ep t) (hT':DD s.heap T pl) (hp:pl[i]?=dk (.int k 0)) (hx:es[k]?=dk (hv,x))
 (hQ:∀ h',lm h' I a (.ref T) (i+1) es.size ep->JB.ExtBut I s.heap h'->Q (dk x) { s with heap:=h' }):Jo (model prog w) A (pyNext (.ref I)) Q E s:=by
 obtain⟨o,ho,hc,hd⟩:=hit;obtain⟨os,hos,hex,hds,hf⟩:=hX;have hT:s.TypeIs (.ref I) "set_iterator":=⟨o,ho,hc⟩
 unfold pyNext;refine f' (wpAny_attempt (JV (name:=K0 "__next__") hT eN (JS eN hT qU ?_ (mU _))));unfold Builtin.«set_iterator.__next__» slotArgs;simp only[List.isEmpty_nil,Bool.not_true,JP,↓reduceIte,bind_assoc,length_nil,bne_self_eq_false];refine f' (Jb (f' (wpAny_fieldsOf ho hd ?_)));dsimp only;refine f' (wpAny_setEntries_of hos hds hf ?_);rw[Ph (by simp)];obtain⟨ot,nt,hot,hdt⟩:=hT';unfold seqItems?;refine f' (f' (wpAny_load hot ?_));rw[hdt];refine Jb ?_;dsimp only;rw[show ((i:Int)).toNat=i from toNat_natCast i,hp];dsimp only;unfold setNextDrawn;refine f' (f' (wpAny_setState_of hos hds hf ?_));dsimp only;rw[show ((ep:Int)).toNat=ep from toNat_natCast ep,Ph (by simp),show ((k:Int)).toNat=k from toNat_natCast k,hx];refine Jb ?_;obtain⟨p1,p2,p3⟩:=rQ (k:=1) (v:=rawInt ((i:Int)+1)) ho hc hd;refine f' (wpAny_setField ho hd (by simp) ?_);exact Jb ⟨_,rfl,Jb (hQ _ ⟨_,p1,p2,by rw[p3];simp[rawInt]⟩ (JX ..).extBut)⟩
def BN {T:G'}{pl:Array Ja}{Q:Option Ja->Jc->Prop}(hh:A.handled=Jd) (hit:lm s.heap I a (.ref T) i es.size ep) (hX:vg s.heap a es ep t) (hT':DD s.heap T pl) (hp:pl[i]?=Jd)
 (hQ:∀ h',JB.ExtBut I s.heap h'->Q Jd { s with heap:=h' }):Jo (model prog w) A (pyNext (.ref I)) Q E s:=by
 obtain⟨o,ho,hc,hd⟩:=hit;obtain⟨os,hos,hex,hds,hf⟩:=hX;have hT:s.TypeIs (.ref I) "set_iterator":=⟨o,ho,hc⟩
 unfold pyNext;refine f' (wpAny_attempt (JV (name:=K0 "__next__") hT eN (JS eN hT qU ?_ (mU _))));unfold Builtin.«set_iterator.__next__» slotArgs;simp only[List.isEmpty_nil,Bool.not_true,JP,↓reduceIte,bind_assoc,length_nil,bne_self_eq_false];refine f' (Jb (f' (wpAny_fieldsOf ho hd ?_)));dsimp only;refine f' (wpAny_setEntries_of hos hds hf ?_);rw[Ph (by simp)];obtain⟨ot,nt,hot,hdt⟩:=hT';unfold seqItems?;refine f' (f' (wpAny_load hot ?_));rw[hdt];refine Jb ?_;dsimp only;rw[show ((i:Int)).toNat=i from toNat_natCast i,hp];dsimp only;obtain⟨p1,p2,p3⟩:=rQ (k:=0) (v:=rawInt 0) ho hc hd;refine f' (wpAny_setField ho hd (by simp) ?_);refine f' (wpAny_setField p1 p3 (by simp) ?_);refine wz (s0:=s) hh (λb o hb e=>?_) hQ;exact(JX ..).extBut b o hb ((JX ..).extBut b o hb e)
def qP {Q:Bool->Jc->Prop}(h:Q (ni w) s):Jo (model prog w) A setsByText Q E s:=by
 unfold setsByText;exact f' (wpAny_askSetting (Jb h))
def sK {slot:Nat}{Q:Option (Ja × Nat)->Jc->Prop}(hb:ni w=D') (hX:vg s.heap a es ep t) (h:Q (((pickOrder (w.params.setOrder a ep) es)[i]?).map λe=>(e.2,slot)) s):Jo (model prog w) A (setNext a slot i ep) Q E s:=by
 obtain⟨os,hos,hex,hds,hf⟩:=hX;unfold setNext;refine f' (wpAny_setState_of hos hds hf (f' (qP ?_)));dsimp only;rw[hb,Pg rfl,Ph (by simp)];unfold setWalk;refine f' (f' (wpAny_setState_of hos hds hf (f' (qP ?_))));rw[hb,Pg rfl];exact f' (wpAny_askSetting (Jb (Jb h)))
def vR {slot:Nat}{Q:Option (Ja × Nat)->Jc->Prop}(hb:ni w=j') (hl:t.led=D') (h1:es.size <= 1) (hX:vg s.heap a es ep t)
 (h:Q (match es[SetTable.below t.place slot]?,t.place[SetTable.below t.place slot]? with|some (_,x),dk j=>dk (x,j+1)|_,_=>Jd) s):Jo (model prog w) A (setNext a slot i ep) Q E s:=by
 obtain⟨os,hos,hex,hds,hf⟩:=hX;unfold setNext;refine f' (wpAny_setState_of hos hds hf (f' (qP ?_)));dsimp only;rw[hb,Ph (by decide)];have hd:¬ ((!t.plain && decide (es.size > 1))=D'):=by
  rw[decide_eq_false (by omega)];simp
 refine wpAny_ite_split (λhc=>absurd hc hd) λ_=>?_
 refine f' ?_;show Jo _ _ (if (!t.led && !es.isEmpty)=D' then _ else _) _ _ _;rw[hl,Ph (by simp)];exact Jb (Jb h)
theorem Ep {α:Type}:∀ (xs:List α) (k:Nat) (h:k < xs.length),(xs[k] :: xs.eraseIdx k).Perm xs
|x :: xs,0,_=>Lr.refl _
|x :: xs,k+1,h=>by
  have hk:k < xs.length:=Nat.lt_of_succ_lt_succ h;show (xs[k] :: x :: xs.eraseIdx k).Perm (x :: xs);exact(Lr.swap x xs[k] _).trans ((Ep xs k hk).cons x)
def xG {M:Model}{src:Source}{n:Nat}{Q:Nat->Jc->Prop}(hn:n≠0) (h:∀ i dr,i < n->Q i { s with drawn:=dr }):Jo M A (choose src n) Q E s:=λΓ p hΓ=>by
 show Sem.wp M Γ (.choose src n .pure) _ _ p s;rw[Sem.wp_choose];refine⟨hn,?_⟩;simp only[Sem.wp_pure];exact h _ _ (Nat.mod_lt _ (Nat.pos_of_ne_zero hn))
theorem sT {α:Type}(next:Nat->Nat):∀ (fuel k:Nat) (left:List α) (out:Array α),left.length=fuel->(pickOrder.go next fuel k left out).toList.Perm (out.toList++left)
|0,k,left,out,h=>by
  obtain rfl:=length_eq_zero_iff.mp h;rw[K4];exact Lr.refl _
|fuel+1,k,left,out,h=>by
  have hlt:next k % left.length < left.length:=Nat.mod_lt _ (by omega);show (match left[next k % left.length]? with|some x=>pickOrder.go next fuel (k+1) (left.eraseIdx (next k % left.length)) (out.push x)|none=>out).toList.Perm _;rw[Jl hlt];refine(sT next fuel (k+1) _ _ (by rw[List.length_eraseIdx,Pg hlt];omega)).trans ?_;rw[Array.toList_push,Kd];refine Lj _ ?_;exact Ep left _ hlt
theorem qa {α:Type}{Q:List α->Jc->Prop}:∀ (n:Nat) (xs:List α) (s:Jc),xs.length=n->(∀ ys dr,ys.Perm xs->Q ys { s with drawn:=dr })->Jo (model prog w) A (drawOrder n xs) Q E s
|0,xs,s,h,q=>by
  obtain rfl:=length_eq_zero_iff.mp h;exact Jb (q [] s.drawn (Lr.refl _))
|n+1,[],s,h,q=>by cases h
|n+1,x :: xs,s,h,q=>by
  unfold drawOrder;refine f' (xG (by intro z;cases z) λi dr hi=>?_);rw[Jl hi];dsimp only;refine f' (qa n _ { s with drawn:=dr } (by rw[List.length_eraseIdx,Pg hi,h];rfl) λys dr' hp=>Jb ?_);exact q _ dr' ((hp.cons _).trans (Ep (x :: xs) i hi))
end
section
variable {prog:Jz}{w:Jp}{A:JK}{E:Ja->Jc->Prop}{s:Jc}{I a:G'}{ep:Nat}{es:Array (Int × Ja)}{t:SetTable}
def zU (w:Jp) (a:G') (ep:Nat) (es:Array (Int × Ja)):List Ja:=(pickOrder (w.params.setOrder a ep) es).toList.map (·.2)
def nV:(zU w a ep es).Perm (es.toList.map (·.2)):=(sT _ es.size 0 es.toList #[] (by simp)).map _
def A6 (hb:ni w=D') (hh:A.handled=Jd) (hne:a≠I):Walks prog w A I [I,a] [I] es.size (λi v=>(zU w a ep es)[i]?=dk v) (λi h=>lm h I a (.int (0:Nat) 0) i es.size ep/\vg h a es ep t) where
 sub:=λb hb=>by simp at hb;simp[hb]
 frame:=λ_ _ _ st hk=>⟨st.1.at' λo e=>hk I (by simp) o e,st.2.at' λo e=>hk a (by simp) o e⟩
 item:=λi s Q E hi st hQ=>by
  have hl:(zU w a ep es).length=es.size:=by have:=(nV (w:=w) (a:=a) (ep:=ep) (es:=es)).length_eq;simpa using this
  have hx:(zU w a ep es)[i]?=dk (zU w a ep es)[i]:=Jl (by omega);refine wF (nx:=0) (x:=(zU w a ep es)[i]) st.1 st.2 (λA' Q' E' q=>sK hb st.2 ?_) λh' si eb=>hQ _ h' s.toks hx ⟨si,st.2.at' λo e=>eb _ _ hne e⟩ λb o hb e=>eb b o (λz=>hb (by simp[z])) e
  have hm:((pickOrder (w.params.setOrder a ep) es)[i]?).map (·.2)=dk (zU w a ep es)[i]:=by
   rw[<-hx];unfold zU;rw[Ke,JW]
  cases hp:(pickOrder (w.params.setOrder a ep) es)[i]? with
 |none=>rw[hp]at hm;cases hm
 |some p =>
   rw[hp]at hm;have hm':p.2=(zU w a ep es)[i]:=JF hm;show Q' (dk (p.2,0)) s;rw[hm'];exact q
 done:=λs Q E st hQ=>by
  have hl:(zU w a ep es).length=es.size:=by have:=(nV (w:=w) (a:=a) (ep:=ep) (es:=es)).length_eq;simpa using this
  refine vG hh st.1 st.2 (λA' Q' E' q=>sK hb st.2 ?_) λh' eb=>hQ h' s.toks λb o hb e=>eb b o (λz=>hb (by simp[z])) e
  have:(pickOrder (w.params.setOrder a ep) es)[es.size]?=Jd:=by
   rw[<-JW];refine List.getElem?_eq_none ?_;unfold zU at hl;rw[Ju]at hl;omega
  rw[this];exact q
 self:=λ_ _ _ _ st hQ=>rq st.1 hQ
def A7 {T:G'}{pl:Array Ja}(hh:A.handled=Jd) (hne:a≠I) (hnT:T≠I) (hpl:pl.size=es.size) {ord:List Ja}(hord:∀ i,i < es.size->∃ k hv v,pl[i]?=dk (.int (k:Nat) 0)/\es[k]?=dk (hv,v)/\ord[i]?=dk v) :
 Walks prog w A I [I,a,T] [I] es.size (λi v=>ord[i]?=dk v) (λi h=>lm h I a (.ref T) i es.size ep/\vg h a es ep t/\DD h T pl) where
 sub:=λb hb=>by simp at hb;simp[hb]
 frame:=λ_ _ _ st hk=>⟨st.1.at' λo e=>hk I (by simp) o e,st.2.1.at' λo e=>hk a (by simp) o e,by obtain⟨o,n,h1,h2⟩:=st.2.2;exact⟨o,n,hk T (by simp) _ h1,h2⟩⟩
 item:=λi s Q E hi st hQ=>by
  obtain⟨k,hv,v,h1,h2,h3⟩:=hord i hi;refine By st.1 st.2.1 st.2.2 h1 h2 λh' si eb=>hQ _ h' s.toks h3 ⟨si,st.2.1.at' λo e=>eb _ _ hne e,?_⟩ λb o hb e=>eb b o (λz=>hb (by simp[z])) e
  obtain⟨o,n,g1,g2⟩:=st.2.2;exact⟨o,n,eb _ _ hnT g1,g2⟩
 done:=λs Q E st hQ=>BN hh st.1 st.2.1 st.2.2 (by rw[<-hpl];simp) λh' eb=>hQ h' s.toks λb o hb e=>eb b o (λz=>hb (by simp[z])) e
 self:=λ_ _ _ _ st hQ=>rq st.1 hQ
def slO (t:SetTable):Nat->Nat
|0=>0
|_+1=>t.place.getD 0 0+1
def Cd {p:Array Nat}(h:p.size=1):SetTable.below p 0=0/\SetTable.below p (p.getD 0 0+1)=1:=by
 obtain⟨x,rfl⟩:∃ x,p=#[x]:=by
  rcases p with⟨l⟩
  match l,h with
 |[x],_=>exact⟨x,rfl⟩
 constructor
 . simp[SetTable.below,SetTable.below.go]
 . simp[SetTable.below,SetTable.below.go]
def Av (hb:ni w=j') (hl:t.led=D') (hf:t.place.size=es.size) (h1:es.size <= 1) (hh:A.handled=Jd) (hne:a≠I):Walks prog w A I [I,a] [I] es.size (λi v=>(es.toList.map (·.2))[i]?=dk v) (λi h=>lm h I a (.int (slO t i:Nat) 0) i es.size ep/\vg h a es ep t) where
 sub:=λb hb=>by simp at hb;simp[hb]
 frame:=λ_ _ _ st hk=>⟨st.1.at' λo e=>hk I (by simp) o e,st.2.at' λo e=>hk a (by simp) o e⟩
 item:=λi s Q E hi st hQ=>by
  have hs:es.size=1:=by omega
  obtain rfl:i=0:=by omega
  obtain⟨b0,_⟩:=Cd (hf.trans hs);have he:es[0]?=dk es[0]:=JG (by omega);have hp:t.place[0]?=dk (t.place.getD 0 0):=by
   have h0:0 < t.place.size:=by omega
   rw[JG h0];simp[Array.getD,h0]
  refine wF (nx:=t.place.getD 0 0+1) (x:=es[0].2) st.1 st.2 (λA' Q' E' q=>vR hb hl h1 st.2 ?_) λh' si eb=>hQ _ h' s.toks ?_ ⟨si,st.2.at' λo e=>eb _ _ hne e⟩ λb o hb e=>eb b o (λz=>hb (by simp[z])) e
  . show Q' (match es[SetTable.below t.place 0]?,t.place[SetTable.below t.place 0]? with|some (_,x),dk j=>dk (x,j+1)|_,_=>Jd) s;rw[b0,he,hp];exact q
  . rw[Ke,JW,he];rfl
 done:=λs Q E st hQ=>by
  refine vG hh st.1 st.2 (λA' Q' E' q=>vR hb hl h1 st.2 ?_) λh' eb=>hQ h' s.toks λb o hb e=>eb b o (λz=>hb (by simp[z])) e
  have:es[SetTable.below t.place (slO t es.size)]?=Jd:=by
   refine Array.getElem?_eq_none ?_;rcases Nat.lt_or_ge 0 es.size with z|z
   . have hs:es.size=1:=by omega
     obtain⟨_,b1⟩:=Cd (hf.trans hs);rw[hs];show 1 <= SetTable.below t.place (t.place.getD 0 0+1);rw[b1];exact Jk _
   . omega
  rw[this];exact q
 self:=λ_ _ _ _ st hQ=>rq st.1 hQ
def BR {Q:Ja->Jc->Prop}(hX:vg s.heap a es ep t) (hl:t.led=!ni w) (hp:0 < es.size->t.plain=j') (hz:es.size <= Jm)
 (hQ:∀ (I:G') (fp:List G') (ord:List Ja) (h':JB) (dr:Drawn) (St:Nat->JB->Prop),(∀ A':JK,A'.handled=Jd->Walks prog w A' I fp [I] es.size (λi v=>ord[i]?=dk v) St)->St 0 h'->ord.Perm (es.toList.map (·.2))->(∀ b o,s.heap.get? b=dk o->h'.get? b=dk o)->(∀ b∈fp,b=a\/s.heap.objs.size <= b)->s.heap.objs.size <= I->Q (.ref I) { s with heap:=h',drawn:=dr }) :
 Jo (model prog w) A (pyIter (.ref a)) Q E s:=by
 obtain⟨os,hos,hex,hds,hf⟩:=id hX;have hT:s.TypeIs (.ref a) "set":=⟨os,hos,hex.1⟩
 have hlt:a < s.heap.objs.size:=Jr hos;refine wpAny_pyIter_slot hT F.slot_set_iter (JS F.slot_set_iter hT zg ?_ (F.args_set_iter_1 _));unfold Builtin.«frozenset.__iter__» Builtin.Frozenset.slot0 slotArgs;simp only[List.isEmpty_nil,Bool.not_true,JP,↓reduceIte,bind_assoc,length_nil,bne_self_eq_false];unfold Builtin.Frozenset.addrOf Builtin.Frozenset.sizeOf;refine f' (Jb ?_)
 try dsimp only
 refine f' (Jb ?_);refine f' (f' (wpAny_setEntries_of hos hds hf (Jb ?_)));unfold setDrawn;refine f' (f' (wpAny_setState_of hos hds hf (f' (qP (Jb ?_)))));have fin:∀ (first:Ja) (h1:JB) (dr:Drawn),(∀ b o,s.heap.get? b=dk o->h1.get? b=dk o)->s.heap.objs.size <= h1.objs.size ->
  (∀ I h',h'=h1.push { cls:=.type "set_iterator",data:=.fields #[first,rawInt 0,.ref a,rawInt es.size,rawInt ep] }->I=h1.objs.size->Q (.ref I) { s with heap:=h',drawn:=dr }) ->
  Jo (model prog w) A.in1 (do let e <-setEpoch a;let r <-newFields "set_iterator" [first,rawInt 0,JJ a,rawInt es.size,rawInt e];ret r)
   (λfin s'=>∃ v,fin=Fin.done (Flow.ret v)/\∃ T' r,s'.TypeIs v T'/\typeLookup (Ja.type T') (K0 "__next__")=pure (dk r)/\Q v s') E { s with heap:=h1,drawn:=dr }:=λfirst h1 dr hk hs hq=>by
  refine f' (wpAny_setEpoch_of (hk _ _ hos) hds hf (f' (Kf ?_ (by size_fits))));exact Jb ⟨_,rfl,"set_iterator",_,⟨_,Js _ rfl,rfl⟩,eN.lookup,hq _ _ rfl rfl⟩
 have sit:∀ (first:Ja) (h1:JB),lm (h1.push { cls:=.type "set_iterator",data:=.fields #[first,rawInt 0,.ref a,rawInt es.size,rawInt ep] }) h1.objs.size a first 0 es.size ep:=λfirst h1=>⟨_,Js _ rfl,rfl,rfl⟩
 have hpp:∀ (h1:JB) (ob:Ku),(∀ b o,s.heap.get? b=dk o->h1.get? b=dk o)->∀ b o,s.heap.get? b=dk o->(h1.push ob).get? b=dk o:=λh1 ob hk b o e=>Jf _ (hk b o e)
 refine wpAny_ite_split (λhc=>?_) λhc=>?_
 . refine f' (qa es.size (Ll es.size) s (by simp) λys dr hpm=>f' ?_);have hyl:ys.length=es.size:=by have:=hpm.length_eq;simpa using this
   simp only[newTuple];refine Kf ?_ (by show ((ys.map λ(i:Nat)=>rawInt i).toArray).size <= Jm;rw[JD,Ju,hyl];exact hz);refine fin _ _ dr (λb o e=>Jf _ e) (by rw[JB.size_push];exact le_succ _) λI h' hh' hI=>?_
   subst hh' hI;have hsz:(s.heap.push { cls:=.type "tuple",data:=.seq (ys.map λ(i:Nat)=>rawInt i).toArray }).objs.size=s.heap.objs.size+1:=JB.size_push s.heap { cls:=.type "tuple",data:=.seq (ys.map λ(i:Nat)=>rawInt i).toArray };refine hQ _ [_,a,s.heap.objs.size] (ys.map λk=>(es.getD k default).2) _ dr _ (λA' hA=>A7 (T:=s.heap.objs.size) (pl:=(ys.map λ(i:Nat)=>rawInt i).toArray) (t:=t) (ep:=ep) hA (JR (Nat.lt_of_lt_of_eq (lt_succ_of_lt hlt) hsz.symm)) (JR (Nat.lt_of_lt_of_eq (lt_succ_self _) hsz.symm)) (by simp[hyl]) λi hi=>?_) ⟨sit _ _,hX.at' λo e=>hpp _ _ (λb o e=>Jf _ e) _ _ e,_,_,Jf _ (Js _ rfl),rfl⟩ ?_ (hpp _ _ λb o e=>Jf _ e) (λb hb=>?_) (Nat.le_of_lt (Nat.lt_of_lt_of_eq (lt_succ_self _) hsz.symm))
   . have hi':i < ys.length:=by omega
     have hy:ys[i] < es.size:=by
      have:=hpm.mem_iff.mp (getElem_mem hi');exact mem_range.mp this
     refine⟨ys[i],es[ys[i]].1,es[ys[i]].2,?_,?_,?_⟩
     . rw[<-JW,Ke,Jl hi'];rfl
     . rw[JG hy]
     . rw[Ke,Jl hi'];simp[Array.getD,hy]
   . refine(hpm.map _).trans ?_;have:(Ll es.size).map (λk=>(es.getD k default).2)=es.toList.map (·.2):=by
      refine List.ext_getElem (by simp) λi h1 h2=>?_
      have hi:i < es.size:=by simpa using h1
      simp[Array.getD,hi]
     rw[this]
   . simp only[JE,Kl,or_false]at hb;rcases hb with z|z|z
     . right;rw[z];exact Nat.le_of_lt (Nat.lt_of_lt_of_eq (lt_succ_self _) hsz.symm)
     . exact .inl z
     . right;rw[z];exact Jk _
 . refine f' (Jb ?_);show Jo _ _ _ _ _ { s with heap:=s.heap,drawn:=s.drawn };refine fin _ _ _ (λb o e=>e) (Jk _) λI h' hh' hI=>?_
   subst hh' hI;cases hb:ni w with
  |true =>
    exact hQ _ [_,a] _ _ _ _ (λA' hA=>A6 (t:=t) (ep:=ep) hb hA (JR hlt)) ⟨sit _ _,hX.at' λo e=>Jf _ e⟩ nV (λb o e=>Jf _ e) (λb hb=>by
     simp only[JE,Kl,or_false]at hb;rcases hb with z|z
     . right;rw[z];exact Jk _
     . exact .inl z) (Jk _)
  |false =>
    rw[hb]at hl hc;have h1:es.size <= 1:=by
     rcases Nat.lt_or_ge 1 es.size with z|z
     . refine absurd (show (!false && (!t.plain && decide (es.size > 1)))=D' from ?_) hc;rw[hp (by omega),Pl z];rfl
     . exact z
    have hpl:t.place.size=es.size:=by
     unfold SetTable.fits at hf;simp only[Kr,beq_iff_eq]at hf;exact hf.1
    exact hQ _ [_,a] _ _ _ _ (λA' hA=>Av (ep:=ep) hb hl hpl h1 hA (JR hlt)) ⟨sit _ _,hX.at' λo e=>Jf _ e⟩ (Lr.refl _) (λb o e=>Jf _ e) (λb hb=>by
     simp only[JE,Kl,or_false]at hb;rcases hb with z|z
     . right;rw[z];exact Jk _
     . exact .inl z) (Jk _)
end
section
variable {prog:Jz}{w:Jp}{A:JK}{E:Ja->Jc->Prop}{s:Jc}{a:G'}{ep:Nat}{es:Array (Int × Ja)}{t:SetTable}
def BC {Q:Bool->Jc->Prop}(hT:s.TypeIs (.ref a) "set") (h:Q j' s):Jo (model prog w) A (Builtin.List.listLengthHint (.ref a)) Q E s:=by
 unfold Builtin.List.listLengthHint;refine f' (wpAny_specialOf hT PySem.F.slot_set_len.lookup ?_);generalize hid:("set.__len__":String)=id0
 wp_delta
 rw[show splitId id0=dk ("set","__len__") from by subst hid;decide +kernel];subst hid;refine f' (wpAny_isInstance (T:="set") (b:=D') hT (by rw[isSubtype_type];kernel_rfl) ?_);refine wpAny_ite_split (λhab=>absurd hab (by decide)) (λ_=>?_);refine wpAny_ite_split (λ_=>?_) (λhab=>absurd (by decide +kernel) hab);exact f' (wpAny_typeOf hT (Jb h))
def wY {R:Result->Jc->Prop}(hX:vg s.heap a es ep t) (hl:t.led=!ni w) (hp:0 < es.size->t.plain=j') (hn:es.size <= Jm) (hh:A.handled=Jd) (S:G') (hSa:S≠a) (res:Ja) (c₀:Nat) (hS:s.heap.get? S=dk { cls:=.type "list",data:=.seq #[] c₀ })
 (hR:∀ h' tk dr (acc:Array Ja) c',(∀ b o,b≠S->s.heap.get? b=dk o->h'.get? b=dk o)->h'.get? S=dk { cls:=.type "list",dict:=Jd,data:=.seq acc c',slots:=#[] }->acc.toList.Perm (es.toList.map (·.2))->R (.ok (.ret res)) { s with heap:=h',toks:=tk,drawn:=dr }) :
 Jo (model prog w) A.in1 (Builtin.List.listExtendWith (.ref S) (.ref a) res)
  (λfin s'=>match fin with|.done f=>R (.ok f) s'|.again c'=>c'.quiet=D'/\codeAny (model prog w) A c' R s') (λe s'=>R (.error e) s') s:=by
 obtain⟨os,hos,hex,hds,hf⟩:=id hX;have hT:s.TypeIs (.ref a) "set":=⟨os,hos,hex.1⟩
 have hlt:S < s.heap.objs.size:=Jr hS;unfold Builtin.List.listExtendWith;refine f' (wpAny_typeOf (T:="set") hT ?_);have h1:Builtin.List.listSameRef (.ref S) (.ref a)=j':=by simp[Builtin.List.listSameRef,hSa]
 simp only[h1,show (Ja.type "set" == Ja.type "list")=j' by decide,show (Ja.type "set" == Ja.type "tuple")=j' by decide,Bool.or_false,JP,if_false];refine f' (BR hX hl hp hn λI fp ord h1 dr St W st hord hk hfp hI=>?_);have hSI:S≠I:=JR (Jj hlt hI);have hSf:S ∉ fp:=λz=>by
  rcases hfp S z with y|y
  . exact hSa y
  . exact absurd (Jj hlt y) (K1 _)
 have key:∀ (h:JB) (c₁ tk:Nat),St 0 h->(∀ b o,b≠S->s.heap.get? b=dk o->h.get? b=dk o)->h.get? S=dk { cls:=.type "list",data:=.seq #[] c₁ } ->
  codeAny (model prog w) A (.builtin "list.extend.loop" ⟨[.ref S,.ref I,res],[]⟩) R { s with heap:=h,toks:=tk,drawn:=dr }:=by
  intro h c₁ tk hst hk' hS₁;refine codeAny_extend_loopS (W A.in1 hh).toS hn S hSf res es.size 0 _ #[] c₁ rfl (KG _) hst hS₁ (ItemsOf.nil _) λs' acc' c' hm hS' hacc=>?_
  rw[Moved.eq_with hm];refine hR s'.heap s'.toks dr acc' c' (λb o hb e=>hm.heap b o (λhmem=>?_) (hk' b o hb e)) hS' ?_
  . rcases JE.mp hmem with z|z
    . exact hb z
    . have:=Jr e;rw[Je.mp z]at this;exact absurd (Jj this hI) (K1 _)
  . have hol:=hord.length_eq;rw[Ju,JY]at hol;have hol:ord.length=es.size:=hol;have:acc'.toList=ord:=by
     refine List.ext_getElem (by rw[JY];exact hacc.1.trans hol.symm) λi g1 g2=>?_
     have:ord[i]?=dk acc'.toList[i]:=hacc.2 i acc'.toList[i] (by rw[<-JW];exact Jl g1);rw[Jl g2]at this;exact(JF this).symm
    rw[this];exact hord
 have hS₁:=hk _ _ hS;refine f' (Kg (BC (s:={ s with heap:=h1,drawn:=dr }) ⟨os,hk _ _ hos,hex.1⟩ ?_));refine wpAny_ite_split (λ_=>?_) (λ_=>Jb ⟨plainId_quiet PySem.F.plain_extend_loop _,key _ c₀ _ st (λb o _ e=>hk b o e) hS₁⟩);refine f' (KC (f' ?_));show Jo _ _ (updateSeq S (·.push .none) >>= λ_=>updateSeq S (·.pop)) _ _ _;refine f' (wpAny_updateSeq hS₁ rfl ?_);have hS₂:=Ks (Lq (·.push Ko)) hS₁ rfl;refine wpAny_updateSeq (hz:=by seq_fits) hS₂ rfl ?_;have hS₃:=Ks (Lq (·.pop)) hS₂ rfl;refine Jb ⟨plainId_quiet PySem.F.plain_extend_loop _,key _ _ _ ?_ (λb o hb e=>?_) hS₃⟩
 . refine(W A hh).frame 0 _ _ st λb hb o e=>?_
   have hbS:b≠S:=λz=>hSf (z ▸ hb)
   exact(JB.get?_update_other _ _ (K9 hbS)).trans ((JB.get?_update_other _ _ (K9 hbS)).trans e)
 . exact(JB.get?_update_other _ _ (K9 hb)).trans ((JB.get?_update_other _ _ (K9 hb)).trans (hk b o e))
def uu {R:List Ja->Jc->Prop}(hX:vg s.heap a es ep t) (hl:t.led=!ni w) (hp:0 < es.size->t.plain=j') (hn:es.size <= Jm) (hh:A.handled=Jd)
 (h:∀ (h':JB) (tk:Nat) (dr:Drawn) (acc:Array Ja),(∀ b o,s.heap.get? b=dk o->h'.get? b=dk o)->acc.toList.Perm (es.toList.map (·.2))->R acc.toList { s with heap:=h',toks:=tk,drawn:=dr }) :
 Jo (model prog w) A (collect (.ref a)) R E s:=by
 obtain⟨os,hos,hex,hds,hf⟩:=id hX;have hlt:a < s.heap.objs.size:=Jr hos;unfold collect;refine f' (wpAny_runValue (codeAny_builtin entry_proto_collect' ?_));rw[JK.under_plainId PySem.F.plain_proto_collect _];show Jo _ A.in1 (newList [] >>= λl=>again (.builtin "list.__iadd__" ⟨[l,.ref a],[]⟩)) _ _ s;refine f' (Kf (Jb ⟨plainId_quiet PySem.F.plain_list_iadd _,codeAny_builtin entry_list_iadd' ?_⟩));rw[JK.under_plainId PySem.F.plain_list_iadd _];have hS₁:(s.heap.push { cls:=.type "list",data:=.seq ([]:List Ja).toArray }).get? s.heap.objs.size=dk { cls:=.type "list",data:=.seq #[] }:=Js _ rfl;show Jo _ A.in1 (Builtin.List.listExtendWith (.ref s.heap.objs.size) (.ref a) (.ref s.heap.objs.size)) _ _ _;have key:=wY (prog:=prog) (A:=A) (s:={ s with heap:=s.heap.push { cls:=.type "list",data:=.seq ([]:List Ja).toArray } })
  (R:=λ(q:Result) (s':Jc)=>∃ (h':JB) (tk:Nat) (dr:Drawn) (acc:Array Ja) (c':Nat),q=.ok (.ret (.ref s.heap.objs.size))/\s'={ s with heap:=h',toks:=tk,drawn:=dr } /\
   (∀ b o,s.heap.get? b=dk o->h'.get? b=dk o)/\h'.get? s.heap.objs.size=dk { cls:=.type "list",dict:=Jd,data:=.seq acc c',slots:=#[] }/\acc.toList.Perm (es.toList.map (·.2)))
  (hX.at' λo e=>Jf _ e) hl hp hn hh s.heap.objs.size (ne_of_gt hlt) (.ref s.heap.objs.size) 0 hS₁
  (λh' tk dr acc c' hk hS' hacc=>⟨h',tk,dr,acc,c',rfl,rfl,λb o e=>hk b o (JR (Jr e)) (Jf _ e),hS',hacc⟩)
 refine Lh key (λfin s' x=>?_) λe s' x=>?_
 . cases fin with
  |done f =>
    obtain⟨h',tk,dr,acc,c',e,rfl,hk,hS',hacc⟩:=x;cases e;show Jo _ A (load s.heap.objs.size >>= _) _ _ _;exact f' (wpAny_load hS' (Jb (h h' tk dr acc hk hacc)))
  |again c₁ =>
    refine⟨x.1,codeAny_mono x.2 λq s₂ y=>?_⟩;obtain⟨h',tk,dr,acc,c',rfl,rfl,hk,hS',hacc⟩:=y;show Jo _ A (load s.heap.objs.size >>= _) _ _ _;exact f' (wpAny_load hS' (Jb (h h' tk dr acc hk hacc)))
 . obtain⟨_,_,_,_,_,e',_⟩:=x;cases e'
end
def Gk (w:Jp) (p:G') (ks:List Str):HO:=.ext λh=>sg w h p ks (!ni w)
def G8 (ss:List Str):List Str:=ss.foldl zP []
def yG (ss:List Str):xR (λi=>ss.getD i "") ss.length=G8 ss:=by
 have key:∀ (n:Nat),n <= ss.length->xR (λi=>ss.getD i "") n=(ss.take n).foldl zP []:=λn=>by
  induction n with
 |zero=>intro _;rfl
 |succ n ih =>
   intro h;rw[oH,ih (by omega),take_succ,Jl (by omega),List.foldl_append];show zP _ _=zP _ _;rw[KS,Jl (by omega)];rfl
 rw[key _ (Jk _),take_length];rfl
def Ew (ss:List Str):(G8 ss).length <= ss.length:=by rw[<-yG];exact sf _ _
def ES:Kb "set"=dk (.type "set"):=by decide +kernel
theorem xV:∀ {ss:List Str}{us:List Ja},bE (ss.map V.str) us->StrsAre us ss
|[],_,h=>by cases h;exact .nil
|x :: ss,_,h=>by
  cases h with
 |cons r t =>
   obtain⟨tk,rfl⟩:=r;exact .cons _ tk (xV t)
theorem yu:∀ {us:List Ja}{ss:List Str},StrsAre us ss->bE (ss.map V.str) us
|_,_,.nil=>.nil
|_,_,.cons _ t h=>.cons ⟨t,rfl⟩ (yu h)
section
variable {X:Cx}
def Inv.dr {Lv:List (G' × Ku)}{σ:St}{H:Hp}{s:Jc}(I:Inv X Lv σ H s) (dr:Drawn):Inv X Lv σ H { s with drawn:=dr }:=⟨I.ok,I.os,I.bare,I.base,I.loc,I.cell,I.free,I.freeC,I.pin,I.hok,I.len⟩
def z9 (hc:X.calm=D'):pe X (.type "set") (λxs H Q=>∃ (p:G') (ss:List Str),xs=[.ref p]/\SqL X.K H p (ss.map V.str)/\ss.length < 1000/\∀ q,H q=Jd->Q (.ref q) (upd H q (Gk X.w q (G8 ss)))):=by
 intro Lv s σ H xs us Q I r h;obtain⟨p,ss,rfl,hq,h60,q⟩:=h;obtain⟨u,rfl,rx⟩:=sy r;cases rx;obtain⟨its,r',⟨o,n,ho,hcl,hdi,hda⟩,hz⟩:=I.list hq;have hS:StrsAre its ss:=xV r';have hil:its.length=ss.length:=by have:=r'.length;rw[Ju]at this;exact this.symm
 refine BW (items:=its.toArray) (ss:=ss) (I.ok.hd hc) ⟨o,ho,hcl,n,hda⟩ hS (by rw[JD,hil];show _ < 4096;omega) λh' tk S' hk=>?_
 rw[show its.toArray.size=ss.length from (JD ..).trans hil,yG]at S';refine⟨.ref s.heap.objs.size,_,I.laid (t':=tk) (o:=Gk X.w s.heap.objs.size (G8 ss)) (λb o e=>hk b o (Jr e) e) (Jk _) ?_,rfl,q _ (I.hok.fresh (Jk _))⟩;refine⟨S',?_,λh1 h2 z e=>z.at' e⟩;obtain⟨o,_,_,_,ho,_⟩:=S';exact⟨o,ho⟩
def tU (hc:X.calm=D'):pe X (.builtin "sorted") (λxs H Q=>∃ (p:G') (ks:List Str),xs=[.ref p]/\H p=dk (Gk X.w p ks)/\ks.length < 64 /\
 ∀ (l:G') (ss:List Str),H l=Jd->ss.Perm ks->sortedS ss=D'->Q (.ref l) (upd H l (.lst (ss.map V.str)))):=by
 intro Lv s σ H xs us Q I r h;obtain⟨p,ks,rfl,hH,h64,q⟩:=h;obtain⟨u,rfl,rx⟩:=sy r;cases rx;obtain⟨S,_,_⟩:=I.hok _ _ hH;obtain⟨o,es,ep,t,ho,hex,hd,hel,hpm,hnd,hb,hf,hled,hpl⟩:=S;have hsz:es.size=ks.length:=by
  have:=hpm.length_eq;rw[Ju,JY]at this;exact this
 refine Calls.call_function_entry kind_sorted plain_sorted entry_sorted (args_sorted1 _) ?_;unfold Builtin.«sorted»;refine f' (m:=checkCount "sorted" 1 1 _) (Jb ?_);refine f' (uu (A:=X.A.in1) (es:=es) ⟨o,ho,hex,hd,hf⟩ hled hpl (fits_of_scanBound hb) (I.ok.hd hc) λh' tk dr acc hkp hacc=>?_);have I1:Inv X Lv σ H { s with heap:=h',toks:=tk,drawn:=dr }:=(I.kept (t':=tk) hkp).dr dr;have hall:∀ v∈acc.toList,∃ x tk,v=.str x tk:=λv hv=>by
  obtain⟨e,he,rfl⟩:=Lg.mp (hacc.mem_iff.mp hv);obtain⟨k,tk,rfl⟩:=hel e he;exact⟨k,tk,rfl⟩
 have hA:=strsAre_map acc.toList hall;have hpk:(acc.toList.map strOf).Perm ks:=by
  refine(hacc.map strOf).trans ?_;rw[map_map];exact hpm
 have hal:acc.toList.length < 64:=by
  have:=hacc.length_eq;rw[Ju,JY (xs:=es)]at this;omega
 refine f' (wpAny_newList ?_ (JU (Nat.le_of_lt hal) (by decide)));have hoL:(h'.push (seqObj "list" acc.toList.toArray 0)).get? h'.objs.size=dk (seqObj "list" acc.toList.toArray 0):=Js _ rfl;show Jo _ _ _ _ _ { s with heap:=h'.push (seqObj "list" acc.toList.toArray 0),toks:=tk,drawn:=dr };refine f' (Kg (JS slot_list_sort ⟨_,hoL,rfl⟩ entry_list_sort (list_sort_treeK strKind_oneLt hoL hA.keysOf (λv₁ v₂ c8 e=>keyKind_strs (by rw[<-e];exact hA)) hal λst' a1 a2=>⟨_,rfl,?_⟩) (args_list_sort _)));obtain⟨ss,b1,b2,b3⟩:=sorted_out_str hA a1 a2;generalize (arrOf st').map (·.2)=out at b1;obtain⟨e,he⟩:=sortedHeap_at (out:=out) hoL;refine Jb ⟨_,rfl,.ref h'.objs.size,_,I1.laid (t':=tk) (o:=.lst (ss.map V.str)) (λb o' q=>?_) (Jk _) ?_,rfl,q _ _ (I1.hok.fresh (Jk _)) (b2.trans hpk) b3⟩
 . rw[sortedHeap_old (JR (Jr q)) (by rw[size_push'];exact lt_succ_of_lt (Jr q))];exact Jf _ q
 . have hl':=(b2.trans hpk).length_eq;exact⟨by rw[Ju];exact JU (show ss.length <= 64 by omega) (by decide),out.toList,e,yu b1,he⟩
end
end L2
set_option maxHeartbeats 4000000
namespace My
open PySem L2
local macro_rules
 |`($x∣$y)=>`(@DI _ _ _ _ _ $x $y (by rfl))
 |`($x∪$y)=>`(@AD _ _ _ _ _ $x $y)
 |`($x∩$y)=>`(@aC _ _ _ _ _ _ _ aA $x $y (fun _ _ => rfl))
 |`($x⊆$y)=>`(@aC _ _ _ _ _ _ _ bg $x $y (fun _ _ => rfl))
 |`($x⁻¹)=>`(@al _ _ _ (@EH _ _ _ _ $x))
def top (i:Nat):JT:=PySem.Challenge.pw_askring_k32_when_a_yard_errs.main.body.getD i (.Pass ⟨0,0,0,0⟩)
abbrev gt:JT:=top 2
abbrev lN:JT:=top 3
abbrev mn:JT:=top 4
abbrev gR:JT:=top 8
abbrev j8:JT:=ax (top 9) 0
abbrev i8:JT:=ax (top 9) 1
abbrev gw:JT:=ax (top 9) 2
abbrev ff:JT:=ax (top 9) 3
abbrev cI:JT:=ax (top 9) 4
abbrev ma:JT:=ax (top 9) 5
abbrev jq:JT:=ax (top 9) 6
abbrev ip:JT:=ax (top 11) 0
abbrev jv:JT:=ax (top 11) 1
abbrev iz:JT:=ax (top 11) 2
abbrev i5:JT:=top 12
abbrev im:JT:=top 13
abbrev iS:JT:=ax (top 21) 0
abbrev eD:JT:=ax (top 21) 2
abbrev eX:JT:=ax (top 21) 3
abbrev m8:JT:=ax (top 21) 4
abbrev gg:JT:=ax (top 21) 5
abbrev c6:JT:=ax (top 21) 7
abbrev gW:JT:=ax (top 23) 0
abbrev iU:JT:=ax (top 23) 2
abbrev cG:JT:=ax (top 23) 3
abbrev gm:JT:=ax (top 23) 4
abbrev gQ:JT:=ax (top 23) 5
abbrev bN:JT:=ax (top 23) 6
abbrev iA:JT:=ax (top 25) 0
abbrev hW:JT:=ax (top 25) 2
abbrev gS:JT:=ax (top 25) 3
abbrev i0:JT:=ax (top 25) 4
abbrev ji:JT:=ax (top 25) 5
abbrev gk:JT:=ax (top 25) 6
abbrev hG:JT:=ax (top 25) 7
abbrev mj:JT:=top 30
abbrev nW:JT:=top 31
abbrev nz:JT:=top 32
abbrev oE:JT:=top 33
abbrev jw:JT:=ax (top 34) 0
abbrev k9:JT:=ax (top 34) 1
abbrev dI:JT:=ax (top 34) 2
abbrev iX:JT:=ax (top 34) 3
abbrev gu:JT:=ax (top 34) 5
abbrev fG:JT:=ax (top 34) 6
abbrev kj:JT:=ax (top 34) 7
abbrev jm:JT:=ax (top 34) 8
abbrev jr:JT:=ax (top 34) 11
abbrev dR:JT:=ax (top 34) 12
abbrev eY:JT:=ax (top 34) 13
abbrev ic:JT:=ax (top 34) 14
abbrev eV:JT:=ax (top 34) 15
abbrev d6:JT:=ax (top 34) 16
abbrev gp:JT:=ax (top 34) 17
abbrev ia:JT:=ax (top 34) 18
abbrev gn:JT:=ax (top 34) 19
abbrev c7:JT:=ax (top 34) 20
abbrev zI:JT:=top 36
abbrev dD:JT:=top 37
abbrev ku:JT:=top 38
abbrev iV:JT:=top 39
abbrev iw:JT:=top 41
abbrev nC:JT:=top 42
abbrev lX:JT:=top 43
abbrev ig:JT:=top 44
abbrev en:JT:=top 45
abbrev km:JT:=top 46
abbrev mi:JT:=top 47
abbrev dL:JT:=top 48
abbrev je:JT:=top 49
abbrev Dy:JT:=top 50
def aJ {N P:List Str}{sc:Scope}(a:sc.kind=.function) (b:sc.isCoroutine=j') (c:sc.isGenerator=j') (h:N.Nodup/\N.take P.length=P/\(∀ x∈P,sc.names.lookup x=dk .local\/sc.names.lookup x=dk .cell)/\∀ y∈sc.names,y.2≠.free):FnScope N P sc:=⟨a,b,c,h.1,h.2.1,h.2.2.1,h.2.2.2⟩
def nN:FnScope ["counter","size","rounds"] ["counter","size","rounds"] (af gt):=aJ rfl rfl rfl (by decide +kernel)
def va:FnScope ["counter","size"] ["counter","size"] (af lN):=aJ rfl rfl rfl (by decide +kernel)
def ve:FnScope ["one","other","size","rounds"] ["one","other","size","rounds"] (af mn):=aJ rfl rfl rfl (by decide +kernel)
def oZ:FnScope ["rounds","faults"] ["rounds","faults"] (af gR):=aJ rfl rfl rfl (by decide +kernel)
def qT:FnScope ["self","store","side","words","size","rounds","faults"] ["self","store","side","words","size","rounds","faults"] (af j8):=aJ rfl rfl rfl (by decide +kernel)
def gi:FnScope ["self","laid","fetched"] ["self"] (af i8):=aJ rfl rfl rfl (by decide +kernel)
def nK:FnScope ["self"] ["self"] (af gw):=aJ rfl rfl rfl (by decide +kernel)
def mT:FnScope ["self","counter"] ["self","counter"] (af ff):=aJ rfl rfl rfl (by decide +kernel)
def j9:FnScope ["self","cell","counter"] ["self","cell","counter"] (af cI):=aJ rfl rfl rfl (by decide +kernel)
def o8:FnScope ["self","name","worth","counter"] ["self","name","worth"] (af ma):=aJ rfl rfl rfl (by decide +kernel)
def gP:FnScope ["self","counter","found"] ["self"] (af jq):=aJ rfl rfl rfl (by decide +kernel)
def oO:FnScope ["self"] ["self"] (af ip):=aJ rfl rfl rfl (by decide +kernel)
def lJ:FnScope ["self","word","name","worth"] ["self","word","name","worth"] (af jv):=aJ rfl rfl rfl (by decide +kernel)
def oV:FnScope ["self","word","name","worth"] ["self","word","name","worth"] (af iz):=aJ rfl rfl rfl (by decide +kernel)
def eK:FnScope ["story","judge","number","happening"] ["story"] (af i5):=aJ rfl rfl rfl (by decide +kernel)
def gr:FnScope ["story","laid","fetched","pairs","gone"] ["story","laid","fetched"] (af im):=aJ rfl rfl rfl (by decide +kernel)
def rY:FnScope ["self","store","size","rounds","names","faults"] ["self","store","size","rounds","names","faults"] (af iS):=aJ rfl rfl rfl (by decide +kernel)
def ge:FnScope ["self","name"] ["self"] (af eD):=aJ rfl rfl rfl (by decide +kernel)
def mf:FnScope ["self"] ["self"] (af eX):=aJ rfl rfl rfl (by decide +kernel)
def nG:FnScope ["self","worth","name"] ["self","worth"] (af m8):=aJ rfl rfl rfl (by decide +kernel)
def ju:FnScope ["self","told"] ["self"] (af gg):=aJ rfl rfl rfl (by decide +kernel)
def hZ:FnScope ["self"] ["self"] (af c6):=aJ rfl rfl rfl (by decide +kernel)
def pF:FnScope ["self","store","size","rounds","faults"] ["self","store","size","rounds","faults"] (af gW):=aJ rfl rfl rfl (by decide +kernel)
def lI:FnScope ["self","told"] ["self"] (af iU):=aJ rfl rfl rfl (by decide +kernel)
def jf:FnScope ["self","name"] ["self","name"] (af cG):=aJ rfl rfl rfl (by decide +kernel)
def nO:FnScope ["self","name","worth"] ["self","name","worth"] (af gm):=aJ rfl rfl rfl (by decide +kernel)
def pq:FnScope ["self"] ["self"] (af gQ):=aJ rfl rfl rfl (by decide +kernel)
def gC:FnScope ["self"] ["self"] (af bN):=aJ rfl rfl rfl (by decide +kernel)
def pw:FnScope ["self"] ["self"] (af iA):=aJ rfl rfl rfl (by decide +kernel)
def oR:FnScope ["self","side","cell","worth"] ["self","side","cell","worth"] (af hW):=aJ rfl rfl rfl (by decide +kernel)
def jQ:FnScope ["self","side","first"] ["self","side"] (af gS):=aJ rfl rfl rfl (by decide +kernel)
def pC:FnScope ["self","side"] ["self","side"] (af i0):=aJ rfl rfl rfl (by decide +kernel)
def kR:FnScope ["self","side","cell","waiting"] ["self","side","cell"] (af ji):=aJ rfl rfl rfl (by decide +kernel)
def nv:FnScope ["self","cell"] ["self","cell"] (af gk):=aJ rfl rfl rfl (by decide +kernel)
def p8:FnScope ["self","side"] ["self","side"] (af hG):=aJ rfl rfl rfl (by decide +kernel)
def uY:FnScope ["value"] ["value"] (af mj):=aJ rfl rfl rfl (by decide +kernel)
def xm:FnScope ["value","kind"] ["value","kind"] (af nW):=aJ rfl rfl rfl (by decide +kernel)
def pQ:FnScope ["some","kinds"] ["some"] (af nz):=aJ rfl rfl rfl (by decide +kernel)
def xI:FnScope ["some"] ["some"] (af oE):=aJ rfl rfl rfl (by decide +kernel)
def rS:FnScope ["self","size","rounds","names","faults"] ["self","size","rounds","names","faults"] (af jw):=aJ rfl rfl rfl (by decide +kernel)
def ms:FnScope ["self","some","word"] ["self","some"] (af k9):=aJ rfl rfl rfl (by decide +kernel)
def kf:FnScope ["self","worths"] ["self","worths"] (af dI):=aJ rfl rfl rfl (by decide +kernel)
def qG:FnScope ["self"] ["self"] (af iX):=aJ rfl rfl rfl (by decide +kernel)
def oo:FnScope ["self","side"] ["self","side"] (af gu):=aJ rfl rfl rfl (by decide +kernel)
def mO:FnScope ["self","side"] ["self","side"] (af fG):=aJ rfl rfl rfl (by decide +kernel)
def tS:FnScope ["self"] ["self"] (af kj):=aJ rfl rfl rfl (by decide +kernel)
def rc:FnScope ["self"] ["self"] (af jm):=aJ rfl rfl rfl (by decide +kernel)
def qY:FnScope ["self","some"] ["self","some"] (af jr):=aJ rfl rfl rfl (by decide +kernel)
def kK:FnScope ["self","some"] ["self","some"] (af dR):=aJ rfl rfl rfl (by decide +kernel)
def cy:FnScope ["self","worths","deeds","name","word"] ["self","worths"] (af eY):=aJ rfl rfl rfl (by decide +kernel)
def jU:FnScope ["self","worth","name"] ["self","worth"] (af ic):=aJ rfl rfl rfl (by decide +kernel)
def lL:FnScope ["self","name","worth"] ["self","name","worth"] (af eV):=aJ rfl rfl rfl (by decide +kernel)
def jD:FnScope ["self","word","told"] ["self","word","told"] (af d6):=aJ rfl rfl rfl (by decide +kernel)
def iT:FnScope ["self","side","other"] ["self","side"] (af gp):=aJ rfl rfl rfl (by decide +kernel)
def oX:FnScope ["self","side"] ["self","side"] (af ia):=aJ rfl rfl rfl (by decide +kernel)
def oa:FnScope ["self","side"] ["self","side"] (af gn):=aJ rfl rfl rfl (by decide +kernel)
def ie:FnScope ["self","side"] ["self","side"] (af c7):=aJ rfl rfl rfl (by decide +kernel)
def zF:FnScope ["yard","story"] ["yard"] (af zI):=aJ rfl rfl rfl (by decide +kernel)
def bQ:FnScope ["yard","words","made","laid","fetched"] ["yard","words"] (af dD):=aJ rfl rfl rfl (by decide +kernel)
def t9:FnScope ["yard","story","words"] ["yard","story","words"] (af ku):=aJ rfl rfl rfl (by decide +kernel)
def rh:FnScope ["yard","side"] ["yard","side"] (af iV):=aJ rfl rfl rfl (by decide +kernel)
def pE:FnScope ["script","k"] ["script","k"] (af iw):=aJ rfl rfl rfl (by decide +kernel)
def xq:FnScope ["cell"] ["cell"] (af nC):=aJ rfl rfl rfl (by decide +kernel)
def oJ:FnScope ["row","many","told"] ["row","many"] (af lX):=aJ rfl rfl rfl (by decide +kernel)
def p9:FnScope ["story","word"] ["story","word"] (af ig):=aJ rfl rfl rfl (by decide +kernel)
def aP:FnScope ["story","laid","seen","under","tasks","word","name","worth"] ["story"] (af en):=aJ rfl rfl rfl (by decide +kernel)
def iW:FnScope ["yard","side","size","rounds","one","other"] ["yard","side","size","rounds"] (af km):=aJ rfl rfl rfl (by decide +kernel)
def dX:FnScope ["yard","size","rounds","quiet","story","side","one","other","apart"] ["yard","size","rounds","quiet"] (af mi):=aJ rfl rfl rfl (by decide +kernel)
def kz:FnScope ["quiet","some"] ["quiet","some"] (af dL):=aJ rfl rfl rfl (by decide +kernel)
def l9:FnScope ["row","some"] ["row"] (af je):=aJ rfl rfl rfl (by decide +kernel)
def fE:FnScope ["script","row","size","rounds","names","faults","yard","quiet","cell","k","some","deed","told"] ["script"] (af Dy):=aJ rfl rfl rfl (by decide +kernel)
set_option genInjectivity false
set_option genSizeOfSpec false
structure Ad where
 cn:G'
 gO:G'
 i9:G'
 di:G'
 dU:G'
 cS:G'
 cf:G'
 bS:G'
 aW:G'
 iy:G'
 dS:G'
 d8:G'
 cB:G'
 d7:G'
 cX:G'
 dg:G'
 eF:G'
 bt:G'
 bD:G'
 iq:G'
 cr:G'
 aO:G'
 d0:G'
 eC:G'
 aU:G'
 ce:G'
 dl:G'
 aL:G'
 d9:G'
 cV:G'
 de:G'
 d5:G'
 eB:G'
 cp:G'
 cW:G'
 gZ:G'
 kE:G'
 kC:G'
 jZ:G'
 eA:G'
 fg:G'
 bh:G'
 dZ:G'
 cu:G'
 bO:G'
 fJ:G'
 dW:G'
 eG:G'
 br:G'
 bB:G'
 cT:G'
 bC:G'
 b7:G'
 cx:G'
 cZ:G'
 cb:G'
 aN:G'
 Dj:G'
 be:G'
 fI:G'
 eI:G'
 cU:G'
 k8:G'
 ix:G'
 dj:G'
 bu:G'
 fB:G'
 gX:G'
 bf:G'
 eE:G'
 law:G'
 bT:G'
 fN:G'
 dn:G'
 aY:G'
 aD:G'
 b5:G'
 gJ:G'
 uk:G'
 fU:G'
 fQ:G'
 gH:G'
 fO:G'
 bz:G'
 aH:G'
 jX:G'
 fh:G'
 fo:G'
 fM:G'
 fi:G'
 fw:G'
 fL:G'
 fK:G'
 fq:G'
structure Fd where
 cn:Jq
 gO:Jq
 i9:Jq
 di:Jq
 dU:Jq
 cS:Jq
 cf:Jq
 bS:Jq
 aW:Jq
 iy:Jq
 dS:Jq
 d8:Jq
 cB:Jq
 d7:Jq
 cX:Jq
 dg:Jq
 eF:Jq
 bt:Jq
 bD:Jq
 iq:Jq
 cr:Jq
 aO:Jq
 d0:Jq
 eC:Jq
 aU:Jq
 ce:Jq
 dl:Jq
 aL:Jq
 d9:Jq
 cV:Jq
 de:Jq
 d5:Jq
 eB:Jq
 cp:Jq
 cW:Jq
 gZ:Jq
 kE:Jq
 kC:Jq
 jZ:Jq
 eA:Jq
 fg:Jq
 bh:Jq
 dZ:Jq
 cu:Jq
 bO:Jq
 fJ:Jq
 dW:Jq
 eG:Jq
 br:Jq
 bB:Jq
 cT:Jq
 bC:Jq
 b7:Jq
 cx:Jq
 cZ:Jq
 cb:Jq
 aN:Jq
 Dj:Jq
 be:Jq
 fI:Jq
 eI:Jq
 cU:Jq
 k8:Jq
 ix:Jq
 dj:Jq
 bu:Jq
 fB:Jq
 gX:Jq
 bf:Jq
 eE:Jq
 law:Jq
structure Gs (K:Jh) (mg:Str->Option Ja) (a:Ad) (d:Fd):Prop where
 jS:Fun K "next_counter" "next_counter" gt a.cn d.cn
 oS:ay K d.cn ["counter","size","rounds"] []
 pj:mg "next_counter"=dk (.ref a.cn)
 pO:Fun K "place_of" "place_of" lN a.gO d.gO
 xP:ay K d.gO ["counter","size"] []
 xK:mg "place_of"=dk (.ref a.gO)
 lU:Fun K "ahead_by" "ahead_by" mn a.i9 d.i9
 qr:ay K d.i9 ["one","other","size","rounds"] []
 pY:mg "ahead_by"=dk (.ref a.i9)
 gY:Fun K "rounds_with" "rounds_with" gR a.di d.di
 lH:ay K d.di ["rounds","faults"] []
 lx:mg "rounds_with"=dk (.ref a.di)
 sN:Fun K "__init__" "Ring.__init__" j8 a.dU d.dU
 fX:ay K d.dU ["self","store","side","words","size","rounds","faults"] []
 rR:Fun K "filled" "Ring.filled" i8 a.cS d.cS
 f7:ay K d.cS ["self"] []
 eJ:Meth K a.bT "filled" a.cS
 pc:Fun K "is_full" "Ring.is_full" gw a.cf d.cf
 jT:ay K d.cf ["self"] []
 jg:Meth K a.bT "is_full" a.cf
 nA:Fun K "place_at" "Ring.place_at" ff a.bS d.bS
 jn:ay K d.bS ["self","counter"] []
 iG:Meth K a.bT "place_at" a.bS
 jE:Fun K "write_further" "Ring.write_further" cI a.aW d.aW
 cJ:ay K d.aW ["self","cell","counter"] []
 ci:Meth K a.bT "write_further" a.aW
 xu:Fun K "lay" "Ring.lay" ma a.iy d.iy
 qA:ay K d.iy ["self","name","worth"] []
 oC:Meth K a.bT "lay" a.iy
 sV:Fun K "fetch" "Ring.fetch" jq a.dS d.dS
 mG:ay K d.dS ["self"] []
 kX:Meth K a.bT "fetch" a.dS
 rE:Fun K "__init__" "Judge.__init__" ip a.d8 d.d8
 sj:ay K d.d8 ["self"] []
 mD:Fun K "fits" "Judge.fits" jv a.cB d.cB
 tH:ay K d.cB ["self","word","name","worth"] []
 rg:Meth K a.fN "fits" a.cB
 r9:Fun K "go_on" "Judge.go_on" iz a.d7 d.d7
 rL:ay K d.d7 ["self","word","name","worth"] []
 pi:Meth K a.fN "go_on" a.d7
 lj:Fun K "first_wrong" "first_wrong" i5 a.cX d.cX
 rM:ay K d.cX ["story"] []
 rW:mg "first_wrong"=dk (.ref a.cX)
 ly:Fun K "not_fetched" "not_fetched" im a.dg d.dg
 rP:ay K d.dg ["story","laid","fetched"] []
 qC:mg "not_fetched"=dk (.ref a.dg)
 u8:Fun K "__init__" "Hand.__init__" iS a.eF d.eF
 tL:ay K d.eF ["self","store","size","rounds","names","faults"] []
 lY:Fun K "least_free" "Hand.least_free" eD a.bt d.bt
 gD:ay K d.bt ["self"] []
 fT:Meth K a.dn "least_free" a.bt
 mJ:Fun K "check_ask" "Hand.check_ask" eX a.bD d.bD
 iH:ay K d.bD ["self"] []
 gL:Meth K a.dn "check_ask" a.bD
 xg:Fun K "ask" "Hand.ask" m8 a.iq d.iq
 xx:ay K d.iq ["self","worth"] []
 vb:Meth K a.dn "ask" a.iq
 pJ:Fun K "collect" "Hand.collect" gg a.cr d.cr
 oM:ay K d.cr ["self"] []
 nI:Meth K a.dn "collect" a.cr
 iK:Fun K "something_waits" "Hand.something_waits" c6 a.aO d.aO
 iP:ay K d.aO ["self"] []
 iu:Meth K a.dn "something_waits" a.aO
 qS:Fun K "__init__" "Heart.__init__" gW a.d0 d.d0
 qO:ay K d.d0 ["self","store","size","rounds","faults"] []
 sZ:Fun K "take" "Heart.take" iU a.eC d.eC
 tj:ay K d.eC ["self"] []
 r6:Meth K a.aY "take" a.eC
 jG:Fun K "check_answer" "Heart.check_answer" cG a.aU d.aU
 f6:ay K d.aU ["self","name"] []
 eQ:Meth K a.aY "check_answer" a.aU
 p7:Fun K "answer" "Heart.answer" gm a.ce d.ce
 oN:ay K d.ce ["self","name","worth"] []
 o6:Meth K a.aY "answer" a.ce
 qB:Fun K "tasks" "Heart.tasks" gQ a.dl d.dl
 rB:ay K d.dl ["self"] []
 pA:Meth K a.aY "tasks" a.dl
 iD:Fun K "something_waits" "Heart.something_waits" bN a.aL d.aL
 ij:ay K d.aL ["self"] []
 gx:Meth K a.aY "something_waits" a.aL
 rK:Fun K "__init__" "Store.__init__" iA a.d9 d.d9
 rH:ay K d.d9 ["self"] []
 qW:Fun K "write" "Store.write" hW a.cV d.cV
 dN:ay K d.cV ["self","side","cell","worth"] []
 cL:Meth K a.aD "write" a.cV
 rJ:Fun K "drain" "Store.drain" gS a.de d.de
 lE:ay K d.de ["self","side"] []
 jO:Meth K a.aD "drain" a.de
 rX:Fun K "fence" "Store.fence" i0 a.d5 d.d5
 lK:ay K d.d5 ["self","side"] []
 jL:Meth K a.aD "fence" a.d5
 tJ:Fun K "read" "Store.read" ji a.eB d.eB
 dq:ay K d.eB ["self","side","cell"] []
 cz:Meth K a.aD "read" a.eB
 pH:Fun K "memory" "Store.memory" gk a.cp d.cp
 cM:ay K d.cp ["self","cell"] []
 cg:Meth K a.aD "memory" a.cp
 rn:Fun K "waits" "Store.waits" hG a.cW d.cW
 dG:ay K d.cW ["self","side"] []
 cN:Meth K a.aD "waits" a.cW
 ql:Fun K "is_whole" "is_whole" mj a.gZ d.gZ
 xL:ay K d.gZ ["value"] []
 x8:mg "is_whole"=dk (.ref a.gZ)
 uf:Fun K "is_part" "is_part" nW a.kE d.kE
 Af:ay K d.kE ["value","kind"] []
 zH:mg "is_part"=dk (.ref a.kE)
 ub:Fun K "is_deed" "is_deed" nz a.kC d.kC
 zl:ay K d.kC ["some"] []
 y9:mg "is_deed"=dk (.ref a.kC)
 tZ:Fun K "side_of" "side_of" oE a.jZ d.jZ
 xS:ay K d.jZ ["some"] []
 zd:mg "side_of"=dk (.ref a.jZ)
 tD:Fun K "__init__" "Yard.__init__" jw a.eA d.eA
 tp:ay K d.eA ["self","size","rounds","names","faults"] []
 uI:Fun K "deed" "Yard.deed" k9 a.fg d.fg
 uv:ay K d.fg ["self","some"] []
 tM:Meth K a.b5 "deed" a.fg
 ln:Fun K "can_be_done" "Yard.can_be_done" dI a.bh d.bh
 lz:ay K d.bh ["self","worths"] []
 ki:Meth K a.b5 "can_be_done" a.bh
 sP:Fun K "story" "Yard.story" iX a.dZ d.dZ
 mz:ay K d.dZ ["self"] []
 lb:Meth K a.b5 "story" a.dZ
 ph:Fun K "sleeper" "Yard.sleeper" gu a.cu d.cu
 jI:ay K d.cu ["self","side"] []
 jp:Meth K a.b5 "sleeper" a.cu
 oj:Fun K "is_quiet" "Yard.is_quiet" fG a.bO d.bO
 o3:ay K d.bO ["self","side"] []
 mI:Meth K a.b5 "is_quiet" a.bO
 uW:Fun K "made" "Yard.made" kj a.fJ d.fJ
 uT:ay K d.fJ ["self"] []
 sO:Meth K a.b5 "made" a.fJ
 tN:Fun K "store" "Yard.store" jm a.dW d.dW
 bL:ay K d.dW ["self"] []
 bx:Meth K a.b5 "store" a.dW
 sM:Fun K "check" "Yard.check" jr a.eG d.eG
 mq:ay K d.eG ["self","some"] []
 lG:Meth K a.b5 "check" a.eG
 mo:Fun K "is_allowed" "Yard.is_allowed" dR a.br d.br
 lV:ay K d.br ["self","some"] []
 kI:Meth K a.b5 "is_allowed" a.br
 mS:Fun K "thinkable" "Yard.thinkable" eY a.bB d.bB
 mL:ay K d.bB ["self","worths"] []
 m9:Meth K a.b5 "thinkable" a.bB
 qL:Fun K "do_ask" "Yard.do_ask" ic a.cT d.cT
 qJ:ay K d.cT ["self","worth"] []
 pD:Meth K a.b5 "do_ask" a.cT
 mK:Fun K "do_answer" "Yard.do_answer" eV a.bC d.bC
 mM:ay K d.bC ["self","name","worth"] []
 lQ:Meth K a.b5 "do_answer" a.bC
 ky:Fun K "tell_fetched" "Yard.tell_fetched" d6 a.b7 d.b7
 fm:ay K d.b7 ["self","word","told"] []
 eZ:Meth K a.b5 "tell_fetched" a.b7
 oY:Fun K "do_bell" "Yard.do_bell" gp a.cx d.cx
 oU:ay K d.cx ["self","side"] []
 oA:Meth K a.b5 "do_bell" a.cx
 rV:Fun K "do_lie" "Yard.do_lie" ia a.cZ d.cZ
 qH:ay K d.cZ ["self","side"] []
 pd:Meth K a.b5 "do_lie" a.cZ
 oW:Fun K "do_look" "Yard.do_look" gn a.cb d.cb
 pG:ay K d.cb ["self","side"] []
 nU:Meth K a.b5 "do_look" a.cb
 iL:Fun K "something_waits" "Yard.something_waits" c7 a.aN d.aN
 iO:ay K d.aN ["self","side"] []
 i7:Meth K a.b5 "something_waits" a.aN
 vv:Fun K "errs" "errs" zI a.Dj d.Dj
 zT:ay K d.Dj ["yard"] []
 yO:mg "errs"=dk (.ref a.Dj)
 dE:Fun K "filled_in_memory" "filled_in_memory" dD a.be d.be
 fW:ay K d.be ["yard","words"] []
 ga:mg "filled_in_memory"=dk (.ref a.be)
 jW:Fun K "miscounts" "miscounts" ku a.fI d.fI
 nX:ay K d.fI ["yard","story","words"] []
 oG:mg "miscounts"=dk (.ref a.fI)
 ja:Fun K "oversleeps" "oversleeps" iV a.eI d.eI
 mv:ay K d.eI ["yard","side"] []
 my:mg "oversleeps"=dk (.ref a.eI)
 lC:Fun K "_law_cell_at" "_law_cell_at" iw a.cU d.cU
 sk:ay K d.cU ["script","k"] []
 rD:mg "_law_cell_at"=dk (.ref a.cU)
 oF:Fun K "_law_row" "_law_row" nC a.k8 d.k8
 tf:ay K d.k8 ["cell"] []
 ua:mg "_law_row"=dk (.ref a.k8)
 cD:Fun K "_law_take" "_law_take" lX a.ix d.ix
 dw:ay K d.ix ["row","many"] []
 dA:mg "_law_take"=dk (.ref a.ix)
 i6:Fun K "_law_rows_of" "_law_rows_of" ig a.dj d.dj
 lF:ay K d.dj ["story","word"] []
 l7:mg "_law_rows_of"=dk (.ref a.dj)
 gF:Fun K "_law_story_right" "_law_story_right" en a.bu d.bu
 lP:ay K d.bu ["story"] []
 lS:mg "_law_story_right"=dk (.ref a.bu)
 oi:Fun K "_law_apart" "_law_apart" km a.fB d.fB
 uD:ay K d.fB ["yard","side","size","rounds"] []
 uZ:mg "_law_apart"=dk (.ref a.fB)
 lW:Fun K "_law_errs" "_law_errs" mi a.gX d.gX
 pK:ay K d.gX ["yard","size","rounds","quiet"] []
 pU:mg "_law_errs"=dk (.ref a.gX)
 gb:Fun K "_law_turned_quiet" "_law_turned_quiet" dL a.bf d.bf
 lf:ay K d.bf ["quiet","some"] []
 kQ:mg "_law_turned_quiet"=dk (.ref a.bf)
 mB:Fun K "_law_faults" "_law_faults" je a.eE d.eE
 tX:ay K d.eE ["row"] []
 sU:mg "_law_faults"=dk (.ref a.eE)
 Gq:Fun K "law" "law" Dy a.law d.law
 IQ:ay K d.law ["script"] []
 Iw:mg "law"=dk (.ref a.law)
 ar:Cls K a.bT
 vU:mg "Ring"=dk (.ref a.bT)
 wj:Mk K a.bT a.dU
 bj:aQ K a.bT "shelf"
 bw:aQ K a.bT "side"
 mH:aQ K a.bT "word"
 eS:aQ K a.bT "laid"
 dB:aQ K a.bT "fetched"
 eP:aQ K a.bT "size"
 gh:aQ K a.bT "rounds"
 bA:aQ K a.bT "counter_first"
 bc:Cls K a.fN
 DE:mg "Judge"=dk (.ref a.fN)
 DS:Mk K a.fN a.d8
 bV:aQ K a.fN "untaken"
 bG:aQ K a.fN "unhanded"
 eM:aQ K a.fN "going"
 eL:aQ K a.fN "doing"
 bH:Cls K a.dn
 Fs:mg "Hand"=dk (.ref a.dn)
 Gc:Mk K a.dn a.eF
 jk:aQ K a.dn "asks"
 fC:aQ K a.dn "answers"
 kL:aQ K a.dn "names"
 dJ:aQ K a.dn "going"
 bv:Cls K a.aY
 DT:mg "Heart"=dk (.ref a.aY)
 DC:Mk K a.aY a.d0
 gT:aQ K a.aY "asks"
 eU:aQ K a.aY "answers"
 cK:aQ K a.aY "doing"
 az:Cls K a.aD
 Dq:mg "Store"=dk (.ref a.aD)
 DW:Mk K a.aD a.d9
 iC:aQ K a.aD "held"
 bP:aQ K a.aD "rows"
 ak:Cls K a.b5
 FC:mg "Yard"=dk (.ref a.b5)
 G9:Mk K a.b5 a.eA
 mE:aQ K a.b5 "size"
 jJ:aQ K a.b5 "rounds"
 pB:aQ K a.b5 "faults"
 aR:aQ K a.b5 "shelf"
 eO:aQ K a.b5 "hand"
 cE:aQ K a.b5 "heart"
 fe:aQ K a.b5 "bell_fences"
 gf:aQ K a.b5 "lie_fences"
 gy:aQ K a.b5 "look_sees"
 aS:aQ K a.b5 "sleepers"
 dH:aQ K a.b5 "quiet"
 bY:aQ K a.b5 "happened"
 Hr:mg "all"=Jd
 Cr:mg "bool"=Jd
 uq:mg "enumerate"=Jd
 GT:mg "int"=Jd
 du:mg "isinstance"=Jd
 oQ:mg "len"=Jd
 Cv:mg "list"=Jd
 uE:mg "range"=Jd
 xF:mg "reversed"=Jd
 Hl:mg "set"=Jd
 vi:mg "sorted"=Jd
 GR:mg "str"=Jd
 qK:mg "tuple"=Jd
 Hu:mg "zip"=Jd
 uA:mg "RingError"=dk (.ref a.gJ)
 CA:mg "Full"=dk (.ref a.uk)
 Ay:mg "NoName"=dk (.ref a.fU)
 AO:mg "NoTask"=dk (.ref a.fQ)
 qI:mg "NoDeed"=dk (.ref a.gH)
 wE:mg "ASKS"=dk (.ref a.fO)
 vJ:∀ H,SqT K H a.fO [.str "ask",.str "asked",.str "taken"]
 kO:mg "ANSWERS"=dk (.ref a.bz)
 li:∀ H,SqT K H a.bz [.str "answer",.str "answered",.str "handed"]
 f8:mg "SLEEP_CELLS"=dk (.ref a.aH)
 f9:∀ H,SqT K H a.aH [.str "hand sleeps",.str "heart sleeps"]
 mw:∃ t,mg "MOST_WORTH"=dk (.int 1000000000 t)
 DF:mg "FORMS"=dk (.ref a.jX)
 D7:HK K a.jX [("ask",a.fh),("collect",a.fo),("take",a.fM),("answer",a.fi),("bell",a.fw),("lie",a.fL),("look",a.fK),("drain",a.fq)]
 y3:∀ H,SqT K H a.fh [.str "worth"]
 zh:∀ H,SqT K H a.fo []
 yA:∀ H,SqT K H a.fM []
 yN:∀ H,SqT K H a.fi [.str "name",.str "worth"]
 zk:∀ H,SqT K H a.fw [.str "side"]
 A2:∀ H,SqT K H a.fL [.str "side"]
 zD:∀ H,SqT K H a.fK [.str "side"]
 A8:∀ H,SqT K H a.fq [.str "side"]
 xc_Full:excIn K a.uk veB "ValueError.__new__"=D'
 xc_NoName:excIn K a.fU veB "ValueError.__new__"=D'
 xc_NoTask:excIn K a.fQ veB "ValueError.__new__"=D'
 xc_NoDeed:excIn K a.gH veB "ValueError.__new__"=D'
 IK:Ki K (.ref a.uk) (.ref a.gJ)=dk D'
 Iz:Ki K (.ref a.fU) (.ref a.gJ)=dk D'
 Ix:Ki K (.ref a.fQ) (.ref a.gJ)=dk D'
 IY:Ki K (.ref a.gH) (.ref a.gJ)=dk D'
 II:Ki K (.ref a.gH) (.ref a.gH)=dk D'
 IE:Ki K (.ref a.gH) (.ref a.uk)=dk j'
 IR:Ki K (.ref a.gH) (.ref a.fU)=dk j'
 IC:Ki K (.ref a.gH) (.ref a.fQ)=dk j'
 IW:Ki K (.ref a.uk) (.ref a.gH)=dk j'
 Ij:Ki K (.ref a.uk) (.ref a.uk)=dk D'
 IU:Ki K (.ref a.uk) (.ref a.fU)=dk j'
 IB:Ki K (.ref a.uk) (.ref a.fQ)=dk j'
 Iy:Ki K (.ref a.fU) (.ref a.gH)=dk j'
 IN:Ki K (.ref a.fU) (.ref a.uk)=dk j'
 Io:Ki K (.ref a.fU) (.ref a.fU)=dk D'
 Iq:Ki K (.ref a.fU) (.ref a.fQ)=dk j'
 Iu:Ki K (.ref a.fQ) (.ref a.gH)=dk j'
 Ie:Ki K (.ref a.fQ) (.ref a.uk)=dk j'
 IJ:Ki K (.ref a.fQ) (.ref a.fU)=dk j'
 IA:Ki K (.ref a.fQ) (.ref a.fQ)=dk D'
set_option genInjectivity true
set_option genSizeOfSpec true
def cH {c A B:Prop} [Decidable c] (hc:¬ c) (h:B):if decide c=D' then A else B:=by
 rw[decide_eq_false hc];exact iM h
def jt {c A B:Prop} [Decidable c] (hc:c) (h:A):if decide c=D' then A else B:=by
 rw[Pl hc];exact iQ h
def jB {i j:Int}(h:V.int i=V.int j):i=j:=by injection h
def sne {a b:Str}(h:a≠b):¬ V.str a=V.str b:=λy=>h (by injection y)
def l3 {x y z:V}:[x,y,z].length <= Jm:=by show 3 <= Jm;decide
def HJ {n:Nat}(h:0 < n):seqIndex? 0 n=dk 0:=by
 unfold seqIndex?;simp[h]
def An (w:Jp) (C:G'):Sp:=λvs H Q _=>∃ x dx,vs=[.ref x]/\H x=dk (.ins C dx []) /\
 ∀ (hd rl:G') (l:Bool->G') (H':Hp),H hd=Jd->H rl=Jd->(∀ b,H (l b)=Jd)->Sto w C H' x hd rl l [] (λ_=>[])->Kp [x] H H'->Q .non H'
def wq (w:Jp) (C:G'):Sp:=λvs H Q _=>∃ (x hd rl:G') (l:Bool->G') (M:List (Jg × V)) (r:Bool->List (Jg × V)) (b:Bool) (cv wv:V) (k:Jg),vs=[.ref x,.int (sdI b),cv,wv]/\Sto w C H x hd rl l M r/\(r b).length < 100000/\um H k cv /\
 ∀ H',Sto w C H' x hd rl l M (bq r b (r b++[(k,wv)]))->Kp [l b] H H'->Q .non H'
def wL (w:Jp) (C:G'):Sp:=λvs H Q _=>∃ (x hd rl:G') (l:Bool->G') (M:List (Jg × V)) (r:Bool->List (Jg × V)) (b:Bool) (k:Jg) (v:V) (c8:List (Jg × V)),vs=[.ref x,.int (sdI b)]/\Sto w C H x hd rl l M r/\r b=(k,v) :: c8/\M.length < 100000 /\
 ∀ H',Sto w C H' x hd rl l (ui M k v) (bq r b c8)->Kp [l b,hd] H H'->Q .non H'
def vo (w:Jp) (C:G'):Sp:=λvs H Q _=>∃ (x hd rl:G') (l:Bool->G') (M:List (Jg × V)) (r:Bool->List (Jg × V)) (b:Bool),vs=[.ref x,.int (sdI b)]/\Sto w C H x hd rl l M r/\M.length+(r b).length < 100000 /\
 ∀ H',Sto w C H' x hd rl l (lg M (r b)) (bq r b [])->Kp [l b,hd] H H'->Q .non H'
def yn (w:Jp) (C:G'):Sp:=λvs H Q _=>∃ (x hd rl:G') (l:Bool->G') (M:List (Jg × V)) (r:Bool->List (Jg × V)) (b:Bool) (cv:V) (k:Jg),vs=[.ref x,.int (sdI b),cv]/\Sto w C H x hd rl l M r/\um H k cv/\Q (cm M (r b) k) H
def sY (w:Jp) (C:G'):Sp:=λvs H Q _=>∃ (x hd rl:G') (l:Bool->G') (M:List (Jg × V)) (r:Bool->List (Jg × V)) (cv:V) (k:Jg),vs=[.ref x,cv]/\Sto w C H x hd rl l M r/\um H k cv/\Q ((eW M k).getD (.int 0)) H
def wc (w:Jp) (C:G'):Sp:=λvs H Q _=>∃ (x hd rl:G') (l:Bool->G') (M:List (Jg × V)) (r:Bool->List (Jg × V)) (b:Bool),vs=[.ref x,.int (sdI b)]/\Sto w C H x hd rl l M r /\
 ∀ (p:G') (ts:List V),H p=Jd->JC (Wt H) (r b) ts->Q (.ref p) (upd H p (.lst ts))
def HW:100000 <= Jm:=by decide
def l2 {x y:V}:[x,y].length <= Jm:=by show 2 <= Jm;decide
section
variable {P:Jz}{w:Jp}{K:Jh}{mg:Str->Option Ja}{base:JB}{a:Ad}{d:Fd}
def D3 (G:Gs K mg a d):FnOk P w K mg base CX0 1 a.d9 d.d9 ["self"] (An w a.aD):=by
 refine G.rK.ok pw (λvs H Q E h=>?_) (λcdv A outer s H vs Q E hr h=>?_)
 . obtain⟨x,dx,rfl,_⟩:=h;rfl
 . obtain⟨x,dx,rfl,hx,k⟩:=h;refine⟨_,((bi (pv 0) DO rfl)∪(@al _ _ _ (bi (pv 0) (@bW _ _ _ _ ((@bW _ _ _ _ ac)∣((@bW _ _ _ _ ac)∣ac))) rfl))),?_⟩;intro hd hhd;have n0:x≠hd:=ae hx hhd;refine⟨_,rfl,x,a.aD,dx,[],rfl,(by rw[aa n0];exact hx),G.az,G.iC,(by show 0 < 1000;decide),?_⟩;refine⟨by show 0 <= Jm;decide,λl0 h0=>⟨by show 0 <= Jm;decide,λl1 h1=>⟨l2,λrl hrl=>⟨_,rfl,x,a.aD,dx,ba "held" (.ref hd) [],rfl,?_,G.az,G.bP,by show 1 < 1000;decide,?_⟩⟩⟩⟩
   all_goals
    have m0:x≠l0:=ae a9 h0;have m1:x≠l1:=ae (o:=.ins a.aD dx (ba "held" (.ref hd) [])) (by rw[aa m0];exact a9) h1;have m2:x≠rl:=ae (o:=.ins a.aD dx (ba "held" (.ref hd) [])) (by rw[aa m1,aa m0];exact a9) hrl
   . rw[aa m2,aa m1,aa m0];exact a9
   . have q0:hd≠l0:=ae (o:=oK hd [] 0) (by rw[aa n0.symm];exact a9) h0;have q1:hd≠l1:=ae (o:=oK hd [] 0) (by rw[aa q0,aa n0.symm];exact a9) h1;have q2:hd≠rl:=ae (o:=oK hd [] 0) (by rw[aa q1,aa q0,aa n0.symm];exact a9) hrl;have r1:l0≠l1:=ae a9 h1;have r2:l0≠rl:=ae (o:=.lst []) (by rw[aa r1];exact a9) hrl;have r3:l1≠rl:=ae a9 hrl;have e0:∀ c o,H c=dk o->c≠hd:=λc o e=>ae e hhd
     have f0:H l0=Jd:=by
      cases z:H l0 with
     |none=>rfl
     |some o=>rw[aa m0.symm,aa q0.symm,z]at h0;cases h0
     have f1:H l1=Jd:=by
      cases z:H l1 with
     |none=>rfl
     |some o=>rw[aa r1.symm,aa m1.symm,aa q1.symm,z]at h1;cases h1
     have f2:H rl=Jd:=by
      cases z:H rl with
     |none=>rfl
     |some o=>rw[aa r3.symm,aa r2.symm,aa m2.symm,aa q2.symm,z]at hrl;cases hrl
     refine k hd rl (λb=>if b then l1 else l0) _ hhd f2 (λb=>by cases b;exact f0;exact f1) ⟨⟨dx,a9⟩,⟨[],0,by rw[aa n0.symm,aa q2,aa q1,aa q0,aa n0.symm,a9],.nil,nodup_nil,KG _⟩,by rw[aa m2.symm,a9];rfl,λb=>⟨[],?_,.nil⟩,r1,λb=>by cases b;exact r2;exact r3⟩ λc o n e=>?_
     . cases b
       . show upd _ x _ l0=_;rw[aa m0.symm,aa r2,aa r1,a9]
       . show upd _ x _ l1=_;rw[aa m1.symm,aa r3,a9]
     . have c0:c≠x:=λz=>n (Je.mpr z)
       rw[aa c0,aa (ae e f2),aa (ae e f1),aa (ae e f0),aa c0,aa (e0 c o e)];exact e
def kW (G:Gs K mg a d):FnOk P w K mg base CX0 1 a.cV d.cV ["self","side","cell","worth"] (wq w a.aD):=by
 refine G.qW.ok oR (λvs H Q E h=>?_) (λcdv A outer s H vs Q E hr h=>?_)
 . obtain⟨x,hd,rl,l,M,r,b,cv,wv,k,rfl,_⟩:=h;rfl
 . obtain⟨x,hd,rl,l,M,r,b,cv,wv,k,rfl,S,hlen,hk,q⟩:=h;refine⟨_,(@al _ _ _ (@aB _ _ _ _ (@lv _ _ _ _ _ _ _ _ _ _ _ _ JH Kh PySem.F.type_list_append dC (@aC _ _ _ _ _ _ _ bg (aj (pv 0) rfl) (pv 1) (λ_ _=>rfl)) ((@bb _ _ _ _ _ ((pv 2)∣((pv 3)∣ac)))∣ac) (by rfl) (by rfl) (by rfl) (by rfl) (by rfl)) (by rfl))),?_⟩;obtain⟨dx,hx⟩:=S.ob;obtain⟨ts,hl,hp⟩:=S.rw b;have hn:=aG hp;refine⟨_,rfl,x,a.aD,dx,_,_,rfl,hx,G.az,G.bP,jz,_,rfl,rl,_,_,_,rfl,rfl,SqL.of S.ro,qz b,.inl ⟨rfl,_,SqL.of hl⟩,_,rfl,_,rfl,l2,λt ht=>⟨l b,ts,.ref t,rfl,rfl,by rw[aa (ae hl ht)];exact hl,Jj (by omega) HW,?_⟩⟩;have tne:∀ c o,H c=dk o->c≠t:=λc o e=>ae e ht
   have tl:t≠l b:=(tne _ _ hl).symm;have kp:Kp [l b] H (upd (upd H t (.tup [cv,wv])) (l b) (.lst (ts++[.ref t]))):=λc o n e=>by
    rw[aa λz=>n (Je.mpr z),aa (tne c o e)];exact e
   have kt:∀ c vs,H c=dk (.tup vs)->upd (upd H t (.tup [cv,wv])) (l b) (.lst (ts++[.ref t])) c=dk (.tup vs):=λc vs e=>kp c _ (λz=>by
    rw[Je.mp z,hl]at e;cases e) e
   refine q _ ⟨⟨dx,kp _ _ (λz=>by rw[Je.mp z,hl]at hx;cases hx) hx⟩,S.me.keepS (λo e=>kp _ _ (λz=>by
    obtain⟨es,e'⟩:=S.me.there;rw[Je.mp z,hl]at e';cases e') e) kt,kp _ _ (λz=>S.nr b (Je.mp z).symm) S.ro,λc=>?_,S.nl,S.nr⟩ kp
   by_cases z:c=b
   . subst z;rw[b9];exact⟨_,a9,JC.snoc (Paired.mapP hp λ_ _ q=>q.keep kt) ⟨t,cv,rfl,by rw[aa tl];exact a9,hk.keep kt⟩⟩
   . rw[fD z];exact(S.rw c).keep (λo e=>kp _ _ (λy=>by
      have y':=Je.mp y;cases c<;>cases b
      . exact z rfl
      . exact S.nl y'
      . exact S.nl y'.symm
      . exact z rfl) e) kt
def vI (G:Gs K mg a d):FnOk P w K mg base CX0 1 a.de d.de ["self","side"] (wL w a.aD):=by
 refine G.rJ.ok jQ (λvs H Q E h=>?_) (λcdv A outer s H vs Q E hr h=>?_)
 . obtain⟨x,hd,rl,l,M,r,b,k,v,c8,rfl,_⟩:=h;rfl
 . obtain⟨x,hd,rl,l,M,r,b,k,v,c8,rfl,S,hrow,hlen,q⟩:=h;refine⟨_,((aK (gG (lw (@aC _ _ _ _ _ _ _ bg (aj (pv 0) rfl) (pv 1) (λ_ _=>rfl)) (λ_=>rfl))) (@al _ _ _ BE) ap)∪((@aX _ _ 2 _ _ _ _ jQ.nd rfl (JQ rfl) (@lv _ _ _ _ _ _ _ _ _ _ _ _ JH PySem.F.slot_list_pop PySem.F.type_list_pop rN (@aC _ _ _ _ _ _ _ bg (aj (pv 0) rfl) (pv 1) (λ_ _=>rfl)) (ag∣ac) (by rfl) (by rfl) (by rfl) (by rfl) (by rfl)) (by rfl) (by first|exact .inl rfl|exact .inr rfl|assumption))∪(@al _ _ _ (Dh hr.units (aj (pv 0) rfl) (@aC _ _ _ _ _ _ _ aA (pv 2) ag (λ_ _=>rfl)) (@aC _ _ _ _ _ _ _ aA (pv 2) ag (λ_ _=>rfl)) rfl)))),?_⟩;obtain⟨dx,hx⟩:=S.ob;obtain⟨ts0,hl,hp0⟩:=S.rw b;rw[hrow]at hp0;cases hp0 with
  |@cons _ tv _ ts hw hp =>
    obtain⟨t,cv,rfl,ht,hk⟩:=hw;refine⟨_,rfl,x,a.aD,dx,_,_,rfl,hx,G.az,G.bP,jz,_,rfl,rl,_,_,_,rfl,rfl,SqL.of S.ro,qz b,D',.inl ⟨_,SqL.of hl,rfl⟩,iM ?_⟩;refine⟨_,rfl,x,a.aD,dx,_,_,rfl,hx,G.az,G.bP,jz,_,rfl,rl,_,_,_,rfl,rfl,SqL.of S.ro,qz b,.inl ⟨rfl,_,SqL.of hl⟩,l b,_,0,0,.ref t,rfl,rfl,hl,by decide,by decide,by simp[seqIndex?],rfl,?_⟩;have tl:t≠l b:=iB ht hl (by intro z;cases z);have kp:Kp [l b] H (upd H (l b) (.lst (List.eraseIdx (.ref t :: ts) 0))):=λc o n e=>by
     rw[aa λz=>n (Je.mpr z)];exact e
    have kt:∀ c vs,H c=dk (.tup vs)->upd H (l b) (.lst (List.eraseIdx (.ref t :: ts) 0)) c=dk (.tup vs):=λc vs e=>kp c _ (λz=>by
     rw[Je.mp z,hl]at e;cases e) e
    have hx':=kp x _ (λz=>by rw[Je.mp z,hl]at hx;cases hx) hx;have me':=S.me.keepS (λo e=>kp _ _ (λz=>by
     obtain⟨es,e'⟩:=S.me.there;rw[Je.mp z,hl]at e';cases e') e) kt
    have ro':=kp rl _ (λz=>S.nr b (Je.mp z).symm) S.ro;have ht':=kt t _ ht;have rw':∀ c,yf (upd H (l b) (.lst (List.eraseIdx (.ref t :: ts) 0))) (l c) (bq r b c8 c):=λc=>by
     by_cases z:c=b
     . subst z;rw[b9];exact⟨ts,a9,Paired.mapP hp λ_ _ q=>q.keep kt⟩
     . rw[fD z];exact(S.rw c).keep (λo e=>kp _ _ (λy=>by
        have y':=Je.mp y;cases c<;>cases b
        . exact z rfl
        . exact S.nl y'
        . exact S.nl y'.symm
        . exact z rfl) e) kt
    have hk':=hk.keep kt;refine⟨_,rfl,t,_,_,_,rfl,rfl,SqT.of ht',rfl,_,rfl,x,a.aD,dx,_,_,rfl,hx',G.az,G.iC,wf,_,rfl,t,_,_,_,rfl,rfl,SqT.of ht',rfl,hd,M,k,rfl,me',Jj hlen HW,hk',λH4 g1 g2=>?_⟩;generalize upd H (l b) (.lst (List.eraseIdx (.ref t :: ts) 0))=H1 at kp kt hx' me' ro' ht' rw' hk' g1 |-;have hdn:∀ c o,H1 c=dk o->(∀ ee:List JM × Nat,o≠oK hd ee.1 ee.2)->c≠hd:=λc o e n z=>by
     obtain⟨es,e'⟩:=me'.there;rw[z,e']at e;exact n es (JF e).symm
    have k4:∀ c o,c≠hd->H1 c=dk o->H4 c=dk o:=λc o n e=>by rw[g1 c n];exact e
    have kt4:∀ c vs,H1 c=dk (.tup vs)->H4 c=dk (.tup vs):=λc vs e=>k4 c _ (hdn c _ e λes z=>by cases z) e
    refine q H4 ⟨⟨dx,k4 _ _ (hdn _ _ hx' λes z=>by cases z) hx'⟩,g2,k4 _ _ (hdn _ _ ro' λes z=>by cases z) ro',λc=>(rw' c).keep (λo e=>k4 _ _ (by
     obtain⟨ts',e',_⟩:=rw' c;exact hdn _ _ e' λes z=>by cases z) e) kt4,S.nl,S.nr⟩ λc o n e=>?_
    exact k4 c o (λz=>n (by rw[z];simp)) (kp c o (λz=>n (by rw[Je.mp z];simp)) e)
def nM (G:Gs K mg a d):FnOk P w K mg base CX0 1 a.cp d.cp ["self","cell"] (sY w a.aD):=by
 refine G.pH.ok nv (λvs H Q E h=>?_) (λcdv A outer s H vs Q E hr h=>?_)
 . obtain⟨x,hd,rl,l,M,r,cv,k,rfl,_⟩:=h;rfl
 . obtain⟨x,hd,rl,l,M,r,cv,k,rfl,S,hk,q⟩:=h;refine⟨_,((Au hr.units (aj (pv 0) rfl) (pv 1) ag ⟨rfl,rfl,rfl,rfl⟩)⁻¹),?_⟩;obtain⟨dx,hx⟩:=S.ob;exact⟨_,rfl,x,a.aD,dx,_,_,rfl,hx,G.az,G.iC,wf,hd,rfl,⟨_,S.me⟩,_,rfl,M,k,S.me,hk,q⟩
def qM (G:Gs K mg a d):FnOk P w K mg base CX0 1 a.cW d.cW ["self","side"] (wc w a.aD):=by
 refine G.rn.ok p8 (λvs H Q E h=>?_) (λcdv A outer s H vs Q E hr h=>?_)
 . obtain⟨x,hd,rl,l,M,r,b,rfl,_⟩:=h;rfl
 . obtain⟨x,hd,rl,l,M,r,b,rfl,S,q⟩:=h;refine⟨_,((iY mt (by rfl) G.Cv zb ((@aC _ _ _ _ _ _ _ bg (aj (pv 0) rfl) (pv 1) (λ_ _=>rfl))∣ac))⁻¹),?_⟩;obtain⟨dx,hx⟩:=S.ob;obtain⟨ts,hl,hp⟩:=S.rw b;exact⟨_,rfl,x,a.aD,dx,_,_,rfl,hx,G.az,G.bP,jz,_,rfl,rl,_,_,_,rfl,rfl,SqL.of S.ro,qz b,l b,ts,rfl,.inl (SqL.of hl),λp hp'=>q p ts hp' hp⟩
def wG (G:Gs K mg a d):FnOk P w K mg base CX0 2 a.d5 d.d5 ["self","side"] (vo w a.aD):=by
 have Oo:FnOk P w K mg base CX0 1 _ _ _ _:=vI G;refine G.rX.ok pC (λvs H Q E h=>?_) (λcdv A outer s H vs Q E hr h=>?_)
 . obtain⟨x,hd,rl,l,M,r,b,rfl,_⟩:=h;rfl
 . obtain⟨x,hd,rl,l,M,r,b,rfl,S,hlen,q⟩:=h;refine⟨_,(@al _ _ _ (C0 KL (lw (@aC _ _ _ _ _ _ _ bg (aj (pv 0) rfl) (pv 1) (λ_ _=>rfl)) (λ_=>rfl)) (@al _ _ _ (@aB _ _ _ _ (au (pv 0) G.az G.jO Oo (hr.mono (by decide)) G.lE .nil aq ((pv 1)∣ac)) (by rfl))))),?_⟩;refine⟨λm σ H'=>σ=[dk (.ref x),dk (.int (sdI b))]/\∃ (M' es:List (Jg × V)),Sto w a.aD H' x hd rl l M' (bq r b es)/\m=es.length/\lg M' es=lg M (r b)/\M'.length+es.length < 100000/\Kp [l b,hd] H H',
    ⟨_,rfl,M,r b,by rw[show bq r b (r b)=r from funext λc=>by unfold bq;split;(rename_i z;rw[z]);rfl];exact S,rfl,rfl,hlen,Kp.refl _ _⟩,?_⟩
   rintro m σ H' ⟨rfl,M',es,S',rfl,hd',hl',kp⟩;obtain⟨dx,hx⟩:=S'.ob;obtain⟨ts,hl,hp⟩:=S'.rw b;rw[b9]at hp;have hn:=aG hp;refine⟨_,rfl,x,a.aD,dx,_,_,rfl,hx,G.az,G.bP,jz,_,rfl,rl,_,_,_,rfl,rfl,SqL.of S'.ro,qz b,!ts.isEmpty,.inl ⟨_,SqL.of hl,rfl⟩,?_⟩;refine Gm (λht=>?_) (λht=>?_)
   . cases es with
    |nil =>
      cases hp;cases ht
    |cons p es =>
      refine⟨_,λσ' H2 z=>z,?_⟩;refine⟨_,rfl,x,dx,_,rfl,hx,bK (by decide +kernel) (by decide +kernel),_,rfl,x,hd,rl,l,M',_,b,p.1,p.2,es,rfl,S',b9,by rw[JN]at hl';omega,λH2 S2 kp2=>?_⟩;refine⟨es.length,by rw[JN];omega,rfl,ui M' p.1 p.2,es,?_,rfl,hd',by have:=B0 M' p.1 p.2;rw[JN]at hl';omega,kp.trans kp2⟩;rw[show bq (bq r b (p :: es)) b es=bq r b es from funext λc=>by unfold bq;split<;>rfl]at S2;exact S2
   . cases es with
    |nil =>
      have e:lg M' []=M':=rfl;rw[e]at hd';rw[hd']at S';exact q H' S' kp
    |cons p es =>
      cases hp with
     |cons _ _=>exact absurd rfl ht
def qE (G:Gs K mg a d):FnOk P w K mg base CX0 2 a.eB d.eB ["self","side","cell"] (yn w a.aD):=by
 have Ot:FnOk P w K mg base CX0 1 _ _ _ _:=nM G;refine G.tJ.ok kR (λvs H Q E h=>?_) (λcdv A outer s H vs Q E hr h=>?_)
 . obtain⟨x,hd,rl,l,M,r,b,cv,k,rfl,_⟩:=h;rfl
 . obtain⟨x,hd,rl,l,M,r,b,cv,k,rfl,S,hk,q⟩:=h;refine⟨_,((kP KL rfl (EB (by rfl) G.xF ((@aC _ _ _ _ _ _ _ bg (aj (pv 0) rfl) (pv 1) (λ_ _=>rfl))∣ac)) (bR (i:=3) kR.nd rfl (JQ rfl)) (@al _ _ _ (aK (am (sW hr.units) (@aC _ _ _ _ _ _ _ aA (pv 3) ag (λ_ _=>rfl)) (pv 2) (av _)) ((@aC _ _ _ _ _ _ _ aA (pv 3) ag (λ_ _=>rfl))⁻¹) ap)))∪((au (pv 0) G.az G.cg Ot (hr.mono (by decide)) G.cM .nil aq ((pv 2)∣ac))⁻¹)),?_⟩;obtain⟨dx,hx⟩:=S.ob;obtain⟨ts,hl,hp⟩:=S.rw b;have hn:=aG hp;refine⟨_,rfl,x,a.aD,dx,_,_,rfl,hx,G.az,G.bP,jz,_,rfl,rl,_,_,_,rfl,rfl,SqL.of S.ro,qz b,l b,ts,rfl,SqL.of hl,?_⟩;refine DP (K:=K) (a:=l b) (xs:=ts) (λi σ H'=>(∃ v,σ=[dk (.ref x),dk (.int (sdI b)),dk cv,v])/\H'=H/\∀ p∈((r b).reverse.take i),Jt p.1 k=j')
    ⟨⟨_,rfl⟩,rfl,λp hp=>by cases hp⟩ (λ_ _ _ _ z=>by rw[z.2.1];exact SqL.of hl) ?_ ?_
   . rintro i y σ H' hi hy ⟨⟨v,rfl⟩,rfl,hno⟩;obtain⟨p,e1,t,tc,rfl,ht,hc⟩:=MX.f2_get hp _ _ hy;have hrev:(r b).reverse[i]?=dk p:=by
      rw[List.getElem?_reverse (by omega)];rw[hn];exact e1
     refine⟨_,rfl,t,_,_,_,rfl,rfl,SqT.of ht,rfl,_,rfl,p.1,k,hc.2.2.1,hk.2.2.1,uO.key hc.1 hc.2.1,uO.key hk.1 hk.2.1,_,rfl,?_⟩;simp only[JP,if_false];refine Gm (λhe=>?_) (λhe=>?_)
     . refine⟨_,rfl,t,_,_,_,rfl,rfl,SqT.of ht,rfl,?_⟩;have e:cm M (r b) k=p.2:=by
        unfold cm;have hfind:(r b).reverse.find? (λp=>Jt p.1 k)=dk p:=by
         rw[List.find?_eq_some_iff_getElem];refine⟨he,i,(Jy.mp hrev).1,(Jy.mp hrev).2,λj hj=>?_⟩;rw[hno _ (Ka (by rw[List.getElem?_take,Pg hj];exact Jl _))];rfl
        rw[hfind]
       rw[e]at q;exact q
     . refine⟨⟨_,rfl⟩,rfl,λp' hp'=>?_⟩;rw[take_succ,hrev]at hp';rcases KU.mp hp' with z|z
       . exact hno p' z
       . rw[show p'=p by simpa using z];cases w':Jt p.1 k with
        |false=>rfl
        |true=>exact absurd w' he
   . rintro σ H' ⟨⟨v,rfl⟩,rfl,hno⟩;refine⟨_,rfl,x,dx,_,rfl,hx,bK (by decide +kernel) (by decide +kernel),_,rfl,x,hd,rl,l,M,r,cv,k,rfl,S,hk,?_⟩;have e:cm M (r b) k=(eW M k).getD (.int 0):=by
      unfold cm;have hfind:(r b).reverse.find? (λp=>Jt p.1 k)=Jd:=by
       rw[find?_eq_none];intro p hp';rw[hno p (by rw[K3 (by rw[List.length_reverse];omega)];exact hp')];decide
      rw[hfind]
     rw[e]at q;exact q
def Dw:Sp:=λvs H Q _=>∃ c s r:Int,vs=[.int c,.int s,.int r]/\0 < s/\s <= 8/\0 < s * r/\Q (.int ((c+1) % (s * r))) H
def BX:Sp:=λvs H Q _=>∃ c s:Int,vs=[.int c,.int s]/\0 < s/\Q (.int (c % s)) H
def AL:Sp:=λvs H Q _=>∃ o b s r:Int,vs=[.int o,.int b,.int s,.int r]/\0 < s/\s <= 8/\0 < s * r/\Q (.int ((o - b) % (s * r))) H
def Ea (G:Gs K mg a d):FnOk P w K mg base CX0 1 a.cn d.cn ["counter","size","rounds"] Dw:=by
 refine G.jS.ok nN (λvs H Q E h=>?_) (λcdv A outer st H vs Q E hr h=>?_)
 . obtain⟨c,s,r,rfl,_⟩:=h;rfl
 . obtain⟨c,s,r,rfl,h0,h1,h2,k⟩:=h;refine⟨_,((@cO _ _ _ _ _ _ _ _ mF (@cO _ _ _ _ _ _ _ _ jM (pv 0) ag) (@cO _ _ _ _ _ _ _ _ tO (pv 1) (pv 2)))⁻¹),?_⟩;exact⟨_,rfl,_,_,rfl,rfl,_,rfl,_,rfl,_,_,rfl,rfl,nB (by omega) (by omega),_,_,rfl,rfl,h2,k⟩
def AT (G:Gs K mg a d):FnOk P w K mg base CX0 1 a.gO d.gO ["counter","size"] BX:=by
 refine G.pO.ok va (λvs H Q E h=>?_) (λcdv A outer st H vs Q E hr h=>?_)
 . obtain⟨c,s,rfl,_⟩:=h;rfl
 . obtain⟨c,s,rfl,h0,k⟩:=h;refine⟨_,((@cO _ _ _ _ _ _ _ _ mF (pv 0) (pv 1))⁻¹),?_⟩;exact⟨_,rfl,_,rfl,_,_,rfl,rfl,h0,k⟩
def vN (G:Gs K mg a d):FnOk P w K mg base CX0 1 a.i9 d.i9 ["one","other","size","rounds"] AL:=by
 refine G.lU.ok ve (λvs H Q E h=>?_) (λcdv A outer st H vs Q E hr h=>?_)
 . obtain⟨o,b,s,r,rfl,_⟩:=h;rfl
 . obtain⟨o,b,s,r,rfl,h0,h1,h2,k⟩:=h;refine⟨_,((@cO _ _ _ _ _ _ _ _ mF (@cO _ _ _ _ _ _ _ _ qw (pv 0) (pv 1)) (@cO _ _ _ _ _ _ _ _ tO (pv 2) (pv 3)))⁻¹),?_⟩;exact⟨_,rfl,_,rfl,_,_,rfl,rfl,_,rfl,_,rfl,_,_,rfl,rfl,nB (by omega) (by omega),_,_,rfl,rfl,h2,k⟩
def C2:Sp:=λvs H Q _=>∃ (R:Int) (ft:G') (fs:List Str),vs=[.int R,.ref ft]/\H ft=dk (.tup (fs.map V.str))/\Q (.int (if fs.contains "round" then 1 else R)) H
def Bm (K:Jh) (CR:G'):Sp:=λvs H Q _=>∃ (q dx st wa ft:G') (b:Bool) (w0 w1 w2:Str) (s R:Int) (fs:List Str),vs=[.ref q,.ref st,.int (sdI b),.ref wa,.int s,.int R,.ref ft]/\H q=dk (.ins CR dx [])/\(∀ H,SqT K H wa [.str w0,.str w1,.str w2])/\H ft=dk (.tup (fs.map V.str)) /\
 ∀ H',Rn CR H' q st b w0 w1 w2 ⟨s,if fs.contains "round" then 1 else R,fs.contains "counter"⟩->Kp [q] H H'->Q .non H'
def yc (w:Jp) (CR CS:G'):Sp:=λvs H Q _=>∃ (q:G') (z:SA) (b:Bool) (w0 w1 w2:Str) (p:RP) (M:List (Jg × V)) (r:Bool->List (Jg × V)) (A T:Int),vs=[.ref q]/\Rn CR H q z.x b w0 w1 w2 p/\z.At w CS H M r/\p.Ok/\Kn w1=D'/\Kn w2=D' /\
 cm M (r b) (.str w1)=.int A/\cm M (r b) (.str w2)=.int T/\Q (.int ((A - T) % (p.s * p.R))) H
def CO (w:Jp) (CR CS:G'):Sp:=λvs H Q _=>∃ (q:G') (z:SA) (b:Bool) (w0 w1 w2:Str) (p:RP) (M:List (Jg × V)) (r:Bool->List (Jg × V)) (A T:Int),vs=[.ref q]/\Rn CR H q z.x b w0 w1 w2 p/\z.At w CS H M r/\p.Ok/\Kn w1=D'/\Kn w2=D' /\
 cm M (r b) (.str w1)=.int A/\cm M (r b) (.str w2)=.int T/\Q (.bl (decide ((A - T) % (p.s * p.R)=p.s))) H
def wW (CR:G'):Sp:=λvs H Q _=>∃ (q st:G') (b:Bool) (w0 w1 w2:Str) (p:RP) (A:Int),vs=[.ref q,.int A]/\Rn CR H q st b w0 w1 w2 p/\p.Ok/\∀ t,H t=Jd->Q (.ref t) (upd H t (.tup [.str w0,.int (A % p.s)]))
def xD (w:Jp) (CR CS:G'):Sp:=λvs H Q _=>∃ (q:G') (z:SA) (b:Bool) (w0 w1 w2:Str) (p:RP) (M:List (Jg × V)) (r:Bool->List (Jg × V)) (A:Int) (cv:V) (k:Jg),vs=[.ref q,cv,.int A]/\Rn CR H q z.x b w0 w1 w2 p/\z.At w CS H M r/\p.Ok/\(r b).length < 100000/\um H k cv /\
 ∀ H',z.At w CS H' M (bq r b (r b++[(k,.int ((A+1) % (p.s * p.R)))]))->Kp [z.l b] H H'->Q .non H'
def G1 (w:Jp) (CR CS:G'):Sp:=λvs H Q _=>∃ (q:G') (z:SA) (b:Bool) (w0 w1 w2:Str) (p:RP) (M:List (Jg × V)) (r:Bool->List (Jg × V)) (A:Int) (nm wv:V),vs=[.ref q,nm,wv]/\Rn CR H q z.x b w0 w1 w2 p/\z.At w CS H M r/\p.Ok/\Kn w0=D'/\Kn w1=D'/\(r b).length < 99999 /\
 cm M (r b) (.str w1)=.int A/\∀ t H',H t=Jd->H' t=dk (.tup [nm,wv])->z.At w CS H' M (bq r b (r b++oB p w0 w1 A (.ref t)))->Kp [z.l b] H H'->Q .non H'
def Bj (w:Jp) (CR CS:G'):Sp:=λvs H Q _=>∃ (q:G') (z:SA) (b:Bool) (w0 w1 w2:Str) (p:RP) (M:List (Jg × V)) (r:Bool->List (Jg × V)) (A T:Int),vs=[.ref q]/\Rn CR H q z.x b w0 w1 w2 p/\z.At w CS H M r/\p.Ok/\Kn w0=D'/\Kn w1=D'/\Kn w2=D'/\(r b).length < 100000 /\
 cm M (r b) (.str w1)=.int A/\cm M (r b) (.str w2)=.int T/\(if (A - T) % (p.s * p.R)=0 then Q .non H else
  (∃ c vs,cm M (r b) (.tuple [.str w0,.int (T % p.s)])=.ref c/\H c=dk (.tup vs)/\∀ H',z.At w CS H' M (bq r b (r b++[(.str w2,.int ((T+1) % (p.s * p.R)))]))->Kp [z.l b] H H'->Q (.ref c) H') \/
  ∃ i,cm M (r b) (.tuple [.str w0,.int (T % p.s)])=.int i/\∀ t H',H t=Jd->H' t=dk (.tup [.non,.non])->z.At w CS H' M (bq r b (r b++[(.str w2,.int ((T+1) % (p.s * p.R)))]))->Kp [z.l b] H H'->Q (.ref t) H')
def vZ (G:Gs K mg a d):FnOk P w K mg base CX0 1 a.di d.di ["rounds","faults"] C2:=by
 refine G.gY.ok oZ (λvs H Q E h=>?_) (λcdv A outer s H vs Q E hr h=>?_)
 . obtain⟨R,ft,fs,rfl,_⟩:=h;rfl
 . obtain⟨R,ft,fs,rfl,hf,k⟩:=h;refine⟨_,((lB (am gE ao (pv 1) (by with_unfolding_all rfl)) ag (pv 0))⁻¹),?_⟩;refine⟨_,rfl,ft,_,rfl,.inr (SqT.of hf),rfl,fF fs,_,rfl,?_⟩;simp only[JP,if_false];rw[nS];by_cases hb:fs.contains "round"=D'
   . rw[Pg hb]at k |-;exact k
   . rw[Ph hb]at k |-;exact⟨_,rfl,k⟩
def vV (G:Gs K mg a d):FnOk P w K mg base CX0 2 a.dU d.dU ["self","store","side","words","size","rounds","faults"] (Bm K a.bT):=by
 have O8:FnOk P w K mg base CX0 1 _ _ _ _:=vZ G;refine G.sN.ok qT (λvs H Q E h=>?_) (λcdv A outer s H vs Q E hr h=>?_)
 . obtain⟨q,dx,st,wa,ft,b,w0,w1,w2,s,R,fs,rfl,_⟩:=h;rfl
 . obtain⟨q,dx,st,wa,ft,b,w0,w1,w2,s,R,fs,rfl,hx,hw,hf,k⟩:=h;refine⟨_,((bi (pv 0) (pv 1) rfl)∪((bi (pv 0) (pv 2) rfl)∪((bi (pv 0) (@aC _ _ _ _ _ _ _ aA (pv 3) ag (λ_ _=>rfl)) rfl)∪((bi (pv 0) (@aC _ _ _ _ _ _ _ aA (pv 3) ag (λ_ _=>rfl)) rfl)∪((bi (pv 0) (@aC _ _ _ _ _ _ _ aA (pv 3) ag (λ_ _=>rfl)) rfl)∪((bi (pv 0) (pv 4) rfl)∪((bi (pv 0) (aF O8 (hr.mono (by decide)) (by rfl) G.lx G.gY.kp G.lH .nil aq ((pv 5)∣((pv 6)∣ac))) rfl)∪(@al _ _ _ (bi (pv 0) (cY gE ao (pv 6) (by with_unfolding_all rfl)) rfl))))))))),?_⟩;have nf:ft≠q:=iB hf hx (by intro z;cases z);have ft':∀ o,upd H q o ft=dk (.tup (fs.map V.str)):=λo=>by rw[aa nf];exact hf
   refine⟨_,rfl,_,rfl,q,a.bT,dx,[],rfl,hx,G.ar,G.bj,by decide,?_⟩;refine⟨_,rfl,_,rfl,q,a.bT,dx,_,rfl,a9,G.ar,G.bw,by show 1 < 1000;decide,?_⟩;rw[dO];refine⟨_,rfl,wa,_,_,_,rfl,rfl,hw _,rfl,_,rfl,q,a.bT,dx,_,rfl,a9,G.ar,G.mH,by show 2 < 1000;decide,?_⟩;rw[dO];refine⟨_,rfl,wa,_,_,_,rfl,rfl,hw _,rfl,_,rfl,q,a.bT,dx,_,rfl,a9,G.ar,G.eS,by show 3 < 1000;decide,?_⟩;rw[dO];refine⟨_,rfl,wa,_,_,_,rfl,rfl,hw _,rfl,_,rfl,q,a.bT,dx,_,rfl,a9,G.ar,G.dB,by show 4 < 1000;decide,?_⟩;rw[dO];refine⟨_,rfl,_,rfl,q,a.bT,dx,_,rfl,a9,G.ar,G.eP,by show 5 < 1000;decide,?_⟩;rw[dO];refine⟨_,rfl,_,rfl,R,ft,fs,rfl,ft' _,_,rfl,q,a.bT,dx,_,rfl,a9,G.ar,G.gh,by show 6 < 1000;decide,?_⟩;rw[dO];refine⟨_,rfl,ft,_,rfl,.inr (SqT.of (ft' _)),rfl,fF fs,_,rfl,q,a.bT,dx,_,rfl,a9,G.ar,G.bA,by show 7 < 1000;decide,?_⟩;rw[dO];simp only[JP,if_false];rw[nS];refine k _ ⟨dx,a9⟩ λc o nc ec=>?_
   rw[aa λz=>nc (Je.mpr z)];exact ec
def kU (G:Gs K mg a d):FnOk P w K mg base CX0 3 a.cS d.cS ["self"] (yc w a.bT a.aD):=by
 have Ou:FnOk P w K mg base CX0 2 _ _ _ _:=qE G;have ON:FnOk P w K mg base CX0 1 _ _ _ _:=vN G;refine G.rR.ok gi (λvs H Q E h=>?_) (λcdv A' outer s H vs Q E hr h=>?_)
 . obtain⟨q,z,b,w0,w1,w2,p,M,r,A,T,rfl,_⟩:=h;rfl
 . obtain⟨q,z,b,w0,w1,w2,p,M,r,A,T,rfl,⟨dx,hx⟩,S,hp,o1,o2,hA,hT,k⟩:=h;refine⟨_,((@aX _ _ 1 _ _ _ _ gi.nd rfl (JQ rfl) (au (aj (pv 0) rfl) G.az G.cz Ou (hr.mono (by decide)) G.dq .nil aq ((aj (pv 0) rfl)∣((aj (pv 0) rfl)∣ac))) (by rfl) (by first|exact .inl rfl|exact .inr rfl|assumption))∪((@aX _ _ 2 _ _ _ _ gi.nd rfl (JQ rfl) (au (aj (pv 0) rfl) G.az G.cz Ou (hr.mono (by decide)) G.dq .nil aq ((aj (pv 0) rfl)∣((aj (pv 0) rfl)∣ac))) (by rfl) (by first|exact .inl rfl|exact .inr rfl|assumption))∪((aF ON (hr.mono (by decide)) (by rfl) G.pY G.lU.kp G.qr .nil aq ((pv 1)∣((pv 2)∣((aj (pv 0) rfl)∣((aj (pv 0) rfl)∣ac)))))⁻¹))),?_⟩;obtain⟨dxs,hxs⟩:=S.ob;refine⟨_,rfl,fld hx G.ar G.bj fR ⟨z.x,dxs,_,rfl,hxs,bK (by decide +kernel) (by decide +kernel),_,rfl,fld hx G.ar G.bw iZ ⟨_,rfl,fld hx G.ar G.eS qF ⟨z.x,z.hd,z.rl,z.l,M,r,b,.str w1,.str w1,rfl,S,kS o1,?_⟩⟩⟩⟩;rw[hA];refine⟨_,rfl,fld hx G.ar G.bj fR ⟨z.x,dxs,_,rfl,hxs,bK (by decide +kernel) (by decide +kernel),_,rfl,fld hx G.ar G.bw iZ ⟨_,rfl,fld hx G.ar G.dB lZ ⟨z.x,z.hd,z.rl,z.l,M,r,b,.str w2,.str w2,rfl,S,kS o2,?_⟩⟩⟩⟩;rw[hT];exact⟨_,rfl,_,rfl,_,rfl,fld hx G.ar G.eP rZ ⟨_,rfl,fld hx G.ar G.gh tT ⟨A,T,p.s,p.R,rfl,hp.s0,hp.s8,hp.sR,k⟩⟩⟩
def zA (G:Gs K mg a d):FnOk P w K mg base CX0 4 a.cf d.cf ["self"] (CO w a.bT a.aD):=by
 have Og:FnOk P w K mg base CX0 3 _ _ _ _:=kU G;refine G.pc.ok nK (λvs H Q E h=>?_) (λcdv A' outer s H vs Q E hr h=>?_)
 . obtain⟨q,z,b,w0,w1,w2,p,M,r,A,T,rfl,_⟩:=h;rfl
 . obtain⟨q,z,b,w0,w1,w2,p,M,r,A,T,rfl,⟨dx,hx⟩,S,hp,o1,o2,hA,hT,k⟩:=h;refine⟨_,((cY bJ (aI (pv 0) G.ar G.eJ Og (hr.mono (by decide)) G.f7 .nil aq) (aj (pv 0) rfl) (av _))⁻¹),?_⟩;refine⟨_,rfl,q,dx,_,rfl,hx,lr,q,z,b,w0,w1,w2,p,M,r,A,T,rfl,⟨dx,hx⟩,S,hp,o1,o2,hA,hT,_,rfl,fld hx G.ar G.eP rZ ⟨rfl,?_⟩⟩;have e:decide (V.int ((A - T) % (p.s * p.R))=V.int p.s)=decide ((A - T) % (p.s * p.R)=p.s):=by
    rw[decide_eq_decide];exact⟨jB,λz=>by rw[z]⟩
   rw[e];exact k
def qj (G:Gs K mg a d):FnOk P w K mg base CX0 2 a.bS d.bS ["self","counter"] (wW a.bT):=by
 have O7:FnOk P w K mg base CX0 1 _ _ _ _:=AT G;refine G.nA.ok mT (λvs H Q E h=>?_) (λcdv A' outer s H vs Q E hr h=>?_)
 . obtain⟨q,st,b,w0,w1,w2,p,A,rfl,_⟩:=h;rfl
 . obtain⟨q,st,b,w0,w1,w2,p,A,rfl,⟨dx,hx⟩,hp,k⟩:=h;refine⟨_,((@bb _ _ _ _ _ ((aj (pv 0) rfl)∣((aF O7 (hr.mono (by decide)) (by rfl) G.xK G.pO.kp G.xP .nil aq ((pv 1)∣((aj (pv 0) rfl)∣ac)))∣ac)))⁻¹),?_⟩;exact⟨_,rfl,fld hx G.ar G.mH Eb ⟨_,rfl,_,rfl,fld hx G.ar G.eP rZ ⟨A,p.s,rfl,hp.s0,l2,λt ht=>k t ht⟩⟩⟩
def qe (G:Gs K mg a d):FnOk P w K mg base CX0 2 a.aW d.aW ["self","cell","counter"] (xD w a.bT a.aD):=by
 have Ow:FnOk P w K mg base CX0 1 _ _ _ _:=kW G;have O4:FnOk P w K mg base CX0 1 _ _ _ _:=Ea G;refine G.jE.ok j9 (λvs H Q E h=>?_) (λcdv A' outer s H vs Q E hr h=>?_)
 . obtain⟨q,z,b,w0,w1,w2,p,M,r,A,cv,ke,rfl,_⟩:=h;rfl
 . obtain⟨q,z,b,w0,w1,w2,p,M,r,A,cv,ke,rfl,⟨dx,hx⟩,S,hp,hl,hk,k⟩:=h;refine⟨_,(@al _ _ _ (@aB _ _ _ _ (au (aj (pv 0) rfl) G.az G.cL Ow (hr.mono (by decide)) G.dN .nil aq ((aj (pv 0) rfl)∣((pv 1)∣((aF O4 (hr.mono (by decide)) (by rfl) G.pj G.jS.kp G.oS .nil aq ((pv 2)∣((aj (pv 0) rfl)∣((aj (pv 0) rfl)∣ac))))∣ac)))) (by rfl))),?_⟩;obtain⟨dxs,hxs⟩:=S.ob;exact⟨_,rfl,fld hx G.ar G.bj fR ⟨z.x,dxs,_,rfl,hxs,bK (by decide +kernel) (by decide +kernel),_,rfl,fld hx G.ar G.bw iZ ⟨_,rfl,_,rfl,_,rfl,fld hx G.ar G.eP rZ ⟨_,rfl,fld hx G.ar G.gh tT
    ⟨A,p.s,p.R,rfl,hp.s0,hp.s8,hp.sR,z.x,z.hd,z.rl,z.l,M,r,b,cv,_,ke,rfl,S,hl,hk,λH' S' kp'=>k H' S' kp'⟩⟩⟩⟩⟩
def Ce (G:Gs K mg a d):FnOk P w K mg base CX0 4 a.iy d.iy ["self","name","worth"] (G1 w a.bT a.aD):=by
 have Ou:FnOk P w K mg base CX0 2 _ _ _ _:=qE G;have Ow:FnOk P w K mg base CX0 1 _ _ _ _:=kW G;have Ol:FnOk P w K mg base CX0 2 _ _ _ _:=qe G;have Oj:FnOk P w K mg base CX0 2 _ _ _ _:=qj G;refine G.xu.ok o8 (λvs H Q E h=>?_) (λcdv A' outer s H vs Q E hr h=>?_)
 . obtain⟨q,z,b,w0,w1,w2,p,M,r,A,nm,wv,rfl,_⟩:=h;rfl
 . obtain⟨q,z,b,w0,w1,w2,p,M,r,A,nm,wv,rfl,⟨dx,hx⟩,S,hp,o0,o1,hl,hA,k⟩:=h;refine⟨_,((@aX _ _ 3 _ _ _ _ o8.nd rfl (JQ rfl) (au (aj (pv 0) rfl) G.az G.cz Ou (hr.mono (by decide)) G.dq .nil aq ((aj (pv 0) rfl)∣((aj (pv 0) rfl)∣ac))) (by rfl) (by first|exact .inl rfl|exact .inr rfl|assumption))∪((aK (cP (aj (pv 0) rfl)) (@al _ _ _ (@aB _ _ _ _ (au (pv 0) G.ar G.ci Ol (hr.mono (by decide)) G.cJ .nil aq ((aj (pv 0) rfl)∣((pv 3)∣ac))) (by rfl))) ap)∪((@aB _ _ _ _ (au (aj (pv 0) rfl) G.az G.cL Ow (hr.mono (by decide)) G.dN .nil aq ((aj (pv 0) rfl)∣((au (pv 0) G.ar G.iG Oj (hr.mono (by decide)) G.jn .nil aq ((pv 3)∣ac))∣((@bb _ _ _ _ _ ((pv 1)∣((pv 2)∣ac)))∣ac)))) (by rfl))∪(@al _ _ _ (aK (gG (cP (aj (pv 0) rfl))) (@al _ _ _ (@aB _ _ _ _ (au (pv 0) G.ar G.ci Ol (hr.mono (by decide)) G.cJ .nil aq ((aj (pv 0) rfl)∣((pv 3)∣ac))) (by rfl))) ap))))),?_⟩;obtain⟨dxs,hxs⟩:=S.ob;refine⟨_,rfl,fld hx G.ar G.bj fR ⟨z.x,dxs,_,rfl,hxs,bK (by decide +kernel) (by decide +kernel),_,rfl,fld hx G.ar G.bw iZ ⟨_,rfl,fld hx G.ar G.eS qF ⟨z.x,z.hd,z.rl,z.l,M,r,b,.str w1,.str w1,rfl,S,kS o1,?_⟩⟩⟩⟩;rw[hA];refine⟨_,rfl,fld hx G.ar G.bA sh ⟨_,rfl,?_⟩⟩;cases he:p.e with
  |true =>
    refine iQ ?_;refine⟨_,rfl,q,dx,_,rfl,hx,m7,_,rfl,fld hx G.ar G.eS qF ⟨_,rfl,q,z,b,w0,w1,w2,p,M,r,A,.str w1,.str w1,rfl,⟨dx,hx⟩,S,hp,by omega,kS o1,λH1 S1 kp1=>?_⟩⟩;have hx1:=kp1 _ _ (S.noI hx) hx;obtain⟨dx1,hs1⟩:=S1.ob;refine⟨_,rfl,fld hx1 G.ar G.bj fR ⟨z.x,dx1,_,rfl,hs1,bK (by decide +kernel) (by decide +kernel),_,rfl,fld hx1 G.ar G.bw iZ ⟨_,rfl,q,dx,_,rfl,hx1,r8,_,rfl,q,z.x,b,w0,w1,w2,p,A,rfl,⟨dx,hx1⟩,hp,λt1 ht1=>⟨_,rfl,_,rfl,l2,λt2 ht2=>?_⟩⟩⟩⟩;have e1:=ai (o:=.tup [V.str w0,V.int (A % p.s)]) ht1;have e2:=ai (o:=.tup [nm,wv]) ht2;have e12:=e1.trans e2;have S2:=S1.same e12;have v1:=e2 _ _ (a9 (H:=H1) (a:=t1) (o:=.tup [V.str w0,V.int (A % p.s)]));have v2:=a9 (H:=upd H1 t1 (.tup [V.str w0,V.int (A % p.s)])) (a:=t2) (o:=.tup [nm,wv]);have n2:H t2=Jd:=fA kp1 (cw e1 ht2) λx hx=>by
     obtain⟨ts,e,_⟩:=S1.rw b;rw[Je.mp hx,e];intro z;cases z
    have hx2:=e12 _ _ hx1;generalize upd (upd H1 t1 (.tup [V.str w0,V.int (A % p.s)])) t2 (.tup [nm,wv])=H2 at e2 e12 S2 v1 v2 hx2 |-;refine⟨z.x,z.hd,z.rl,z.l,M,_,b,.ref t1,.ref t2,.tuple [.str w0,.int (A % p.s)],rfl,S2,by rw[b9,Ji];show _+1 < _;omega,kT o0 v1,λH3 S3 kp3=>?_⟩;have hx3:=kp3 _ _ (S2.noI hx2) hx2;refine⟨_,rfl,fld hx3 G.ar G.bA sh ⟨_,rfl,?_⟩⟩;rw[he];refine iM ?_;refine k t2 H3 n2 (kp3 _ _ (S2.noT v2) v2) ?_ λc o n e=>kp3 c o n (e12 _ _ (kp1 c o n e))
    rw[b9,pL,Kd]at S3;unfold oB;rw[he];exact S3
  |false =>
    refine iM ?_;refine⟨_,rfl,fld hx G.ar G.bj fR ⟨z.x,dxs,_,rfl,hxs,bK (by decide +kernel) (by decide +kernel),_,rfl,fld hx G.ar G.bw iZ ⟨_,rfl,q,dx,_,rfl,hx,r8,_,rfl,q,z.x,b,w0,w1,w2,p,A,rfl,⟨dx,hx⟩,hp,λt1 ht1=>⟨_,rfl,_,rfl,l2,λt2 ht2=>?_⟩⟩⟩⟩;have e1:=ai (o:=.tup [V.str w0,V.int (A % p.s)]) ht1;have e2:=ai (o:=.tup [nm,wv]) ht2;have e12:=e1.trans e2;have S2:=S.same e12;have v1:=e2 _ _ (a9 (H:=H) (a:=t1) (o:=.tup [V.str w0,V.int (A % p.s)]));have v2:=a9 (H:=upd H t1 (.tup [V.str w0,V.int (A % p.s)])) (a:=t2) (o:=.tup [nm,wv]);have n2:H t2=Jd:=cw e1 ht2;have hx2:=e12 _ _ hx;generalize upd (upd H t1 (.tup [V.str w0,V.int (A % p.s)])) t2 (.tup [nm,wv])=H2 at e2 e12 S2 v1 v2 hx2 |-;refine⟨z.x,z.hd,z.rl,z.l,M,r,b,.ref t1,.ref t2,.tuple [.str w0,.int (A % p.s)],rfl,S2,by omega,kT o0 v1,λH3 S3 kp3=>?_⟩;have hx3:=kp3 _ _ (S2.noI hx2) hx2;refine⟨_,rfl,fld hx3 G.ar G.bA sh ⟨_,rfl,?_⟩⟩;rw[he];refine iQ ?_;refine⟨_,rfl,q,dx,_,rfl,hx3,m7,_,rfl,fld hx3 G.ar G.eS qF ⟨_,rfl,q,z,b,w0,w1,w2,p,M,_,A,.str w1,.str w1,rfl,⟨dx,hx3⟩,S3,hp,by rw[b9,Ji];show _+1 < _;omega,kS o1,λH4 S4 kp4=>?_⟩⟩;have v3:=kp3 _ _ (S2.noT v2) v2;refine k t2 H4 n2 (kp4 _ _ (S3.noT v3) v3) ?_ λc o n e=>kp4 c o n (kp3 c o n (e12 _ _ e))
    rw[b9,pL,Kd]at S4;unfold oB;rw[he];exact S4
def vn (G:Gs K mg a d):FnOk P w K mg base CX0 5 a.dS d.dS ["self"] (Bj w a.bT a.aD):=by
 have Ou:FnOk P w K mg base CX0 2 _ _ _ _:=qE G;have Og:FnOk P w K mg base CX0 3 _ _ _ _:=kU G;have Ol:FnOk P w K mg base CX0 2 _ _ _ _:=qe G;have Oj:FnOk P w K mg base CX0 2 _ _ _ _:=qj G;refine G.sV.ok gP (λvs H Q E h=>?_) (λcdv A' outer s H vs Q E hr h=>?_)
 . obtain⟨q,z,b,w0,w1,w2,p,M,r,A,T,rfl,_⟩:=h;rfl
 . obtain⟨q,z,b,w0,w1,w2,p,M,r,A,T,rfl,⟨dx,hx⟩,S,hp,o0,o1,o2,hl,hA,hT,k⟩:=h;refine⟨_,((aK (am bJ (aI (pv 0) G.ar G.eJ Og (hr.mono (by decide)) G.f7 .nil aq) ag (av _)) (gM⁻¹) ap)∪((@aX _ _ 1 _ _ _ _ gP.nd rfl (JQ rfl) (au (aj (pv 0) rfl) G.az G.cz Ou (hr.mono (by decide)) G.dq .nil aq ((aj (pv 0) rfl)∣((aj (pv 0) rfl)∣ac))) (by rfl) (by first|exact .inl rfl|exact .inr rfl|assumption))∪((@aX _ _ 2 _ _ _ _ gP.nd rfl (JQ rfl) (au (aj (pv 0) rfl) G.az G.cz Ou (hr.mono (by decide)) G.dq .nil aq ((aj (pv 0) rfl)∣((au (pv 0) G.ar G.iG Oj (hr.mono (by decide)) G.jn .nil aq ((pv 1)∣ac))∣ac))) (by rfl) (by first|exact .inl rfl|exact .inr rfl|assumption))∪((@aB _ _ _ _ (au (pv 0) G.ar G.ci Ol (hr.mono (by decide)) G.cJ .nil aq ((aj (pv 0) rfl)∣((pv 1)∣ac))) (by rfl))∪((lB (cP (bn ez (by rfl) G.du cA ((pv 2)∣((lO (v:=.ty "tuple") (by rfl) G.qK no rfl)∣ac)))) (pv 2) (@bb _ _ _ _ _ (gM∣(gM∣ac))))⁻¹))))),?_⟩;obtain⟨dxs,hxs⟩:=S.ob;refine⟨_,rfl,q,dx,_,rfl,hx,lr,q,z,b,w0,w1,w2,p,M,r,A,T,rfl,⟨dx,hx⟩,S,hp,o1,o2,hA,hT,rfl,_,rfl,?_⟩;by_cases h0:(A - T) % (p.s * p.R)=0
   . rw[Pg h0]at k;rw[h0];exact jt rfl k
   rw[Ph h0]at k;refine cH (λz=>h0 (jB z)) ?_;refine⟨_,rfl,fld hx G.ar G.bj fR ⟨z.x,dxs,_,rfl,hxs,bK (by decide +kernel) (by decide +kernel),_,rfl,fld hx G.ar G.bw iZ ⟨_,rfl,fld hx G.ar G.dB lZ ⟨z.x,z.hd,z.rl,z.l,M,r,b,.str w2,.str w2,rfl,S,kS o2,?_⟩⟩⟩⟩;rw[hT];refine⟨_,rfl,fld hx G.ar G.bj fR ⟨z.x,dxs,_,rfl,hxs,bK (by decide +kernel) (by decide +kernel),_,rfl,fld hx G.ar G.bw iZ ⟨_,rfl,q,dx,_,rfl,hx,r8,_,rfl,q,z.x,b,w0,w1,w2,p,T,rfl,⟨dx,hx⟩,hp,λt1 ht1=>?_⟩⟩⟩;have e1:=ai (o:=.tup [V.str w0,V.int (T % p.s)]) ht1;have S1:=S.same e1;have v1:=a9 (H:=H) (a:=t1) (o:=.tup [V.str w0,V.int (T % p.s)]);have hx1:=e1 _ _ hx;generalize upd H t1 (.tup [V.str w0,V.int (T % p.s)])=H1 at e1 S1 v1 hx1 |-;refine⟨z.x,z.hd,z.rl,z.l,M,r,b,.ref t1,.tuple [.str w0,.int (T % p.s)],rfl,S1,kT o0 v1,?_⟩;refine⟨_,rfl,q,dx,_,rfl,hx1,m7,_,rfl,fld hx1 G.ar G.dB lZ ⟨_,rfl,q,z,b,w0,w1,w2,p,M,r,T,.str w2,.str w2,rfl,⟨dx,hx1⟩,S1,hp,hl,kS o2,λH2 S2 kp2=>?_⟩⟩;rcases k with⟨c,vs,e,hc,k⟩|⟨i,e,k⟩
   . rw[e];have hc2:=kp2 _ _ (S1.noT (e1 _ _ hc)) (e1 _ _ hc);exact⟨_,rfl,_,_,_,D',rfl,TyOf.tup hc2,EO,_,rfl,iQ ⟨_,rfl,k H2 S2 λc o n q=>kp2 c o n (e1 _ _ q)⟩⟩
   . rw[e];refine⟨_,rfl,_,_,_,j',rfl,TyOf.int i,Hm,_,rfl,iM ⟨l2,λt ht=>?_⟩⟩;have e3:=ai (o:=.tup [V.non,V.non]) ht;have n3:H t=Jd:=cw e1 (fA kp2 ht λx hx=>by
      obtain⟨ts,e,_⟩:=S2.rw b;rw[Je.mp hx,e];intro z;cases z)
     exact k t _ n3 a9 (S2.same e3) λc o n q=>e3 _ _ (kp2 c o n (e1 _ _ q))
def BV (CH CR:G'):Sp:=λvs H Q _=>∃ (h dx st ft:G') (s R n:Int) (fs:List Str),vs=[.ref h,.ref st,.int s,.int R,.int n,.ref ft]/\H h=dk (.ins CH dx [])/\H ft=dk (.tup (fs.map V.str)) /\
 ∀ (z:HA) (H':Hp),z.h=h->H z.ra=Jd->H z.rb=Jd->H z.gd=Jd->Hn CH CR H' z st ⟨s,if fs.contains "round" then 1 else R,fs.contains "counter"⟩ n []->Kp [h] H H'->Q .non H'
def BO (CH CR:G'):Sp:=λvs H Q _=>∃ (z:HA) (st:G') (p:RP) (n:Nat) (aw:List Int),vs=[.ref z.h]/\Hn CH CR H z st p n aw/\n <= 9/\Q (match cF n aw with|some k=>.int k|none=>.non) H
def vE (w:Jp) (CH CR CS F N:G'):Sp:=λvs H Q E=>∃ (z:HA) (sa:SA) (p:RP) (n:Nat) (aw:List Int) (M:List (Jg × V)) (r:Bool->List (Jg × V)) (A T:Int),vs=[.ref z.h]/\Hn CH CR H z sa.x p n aw/\sa.At w CS H M r/\p.Ok/\n <= 9 /\
 cm M (r j') (.str "asked")=.int A/\cm M (r j') (.str "taken")=.int T/\if (A - T) % (p.s * p.R)=p.s then E (.ref F) Jd H else match cF n aw with|none=>E (.ref N) Jd H|some _=>Q .non H
def Cz (w:Jp) (CH CR CS F N:G'):Sp:=λvs H Q E=>∃ (z:HA) (sa:SA) (p:RP) (n:Nat) (aw:List Int) (M:List (Jg × V)) (r:Bool->List (Jg × V)) (wv:V) (A T:Int),vs=[.ref z.h,wv]/\Hn CH CR H z sa.x p n aw/\sa.At w CS H M r/\p.Ok/\n <= 9/\aw.length < 1000/\(r j').length < 99999 /\
 cm M (r j') (.str "asked")=.int A/\cm M (r j') (.str "taken")=.int T/\if (A - T) % (p.s * p.R)=p.s then E (.ref F) Jd H else match cF n aw with
 |none=>E (.ref N) Jd H
 |some nm=>∀ t H',H t=Jd->H' t=dk (.tup [.int nm,wv])->Hn CH CR H' z sa.x p n (aw++[nm])->sa.At w CS H' M (bq r j' (r j'++oB p "ask" "asked" A (.ref t)))->Kp [z.gd,sa.l j'] H H'->Q (.int nm) H'
def qb (w:Jp) (CH CR CS:G'):Sp:=λvs H Q _=>∃ (z:HA) (sa:SA) (p:RP) (n:Int) (aw:List Int) (M:List (Jg × V)) (r:Bool->List (Jg × V)) (A T:Int),vs=[.ref z.h]/\Hn CH CR H z sa.x p n aw/\sa.At w CS H M r/\p.Ok/\(r j').length < 100000 /\
 cm M (r j') (.str "answered")=.int A/\cm M (r j') (.str "handed")=.int T/\(if (A - T) % (p.s * p.R)=0 then Q .non H else
  (∃ c nm wv,cm M (r j') (.tuple [.str "answer",.int (T % p.s)])=.ref c/\H c=dk (.tup [.int nm,wv])/\∀ H',Hn CH CR H' z sa.x p n (aw.filter λk=>decide (k≠nm))->sa.At w CS H' M (bq r j' (r j'++[(.str "handed",.int ((T+1) % (p.s * p.R)))]))->Kp [z.gd,sa.l j'] H H'->Q (.ref c) H') \/
  ∃ i,cm M (r j') (.tuple [.str "answer",.int (T % p.s)])=.int i/\∀ t H',H t=Jd->H' t=dk (.tup [.non,.non])->Hn CH CR H' z sa.x p n aw->sa.At w CS H' M (bq r j' (r j'++[(.str "handed",.int ((T+1) % (p.s * p.R)))]))->Kp [sa.l j'] H H'->Q (.ref t) H')
def AB (G:Gs K mg a d):FnOk P w K mg base CX0 4 a.eF d.eF ["self","store","size","rounds","names","faults"] (BV a.dn a.bT):=by
 have Oe:FnOk P w K mg base CX0 2 _ _ _ _:=vV G;refine G.u8.ok rY (λvs H Q E h=>?_) (λcdv A outer s H vs Q E hr h=>?_)
 . obtain⟨h,dx,st,ft,s,R,n,fs,rfl,_⟩:=h;rfl
 . obtain⟨h,dx,st,ft,s,R,n,fs,rfl,hx,hf,k⟩:=h;refine⟨_,((bi (pv 0) (kA G.wj Oe (hr.mono (by decide)) (by rfl) G.vU G.fX .nil aq ((pv 1)∣(ag∣((eT (v:=.ref a.fO) (by rfl) G.wE rfl)∣((pv 2)∣((pv 3)∣((pv 5)∣ac))))))) rfl)∪((bi (pv 0) (kA G.wj Oe (hr.mono (by decide)) (by rfl) G.vU G.fX .nil aq ((pv 1)∣(ag∣((eT (v:=.ref a.bz) (by rfl) G.kO rfl)∣((pv 2)∣((pv 3)∣((pv 5)∣ac))))))) rfl)∪((bi (pv 0) (pv 4) rfl)∪(@al _ _ _ (bi (pv 0) jA rfl))))),?_⟩;refine⟨_,rfl,_,rfl,_,rfl,_,rfl,λra da na nda nea=>?_⟩;refine⟨ra,da,st,a.fO,ft,j',"ask","asked","taken",s,R,fs,rfl,a9,G.vJ,?_,λH1 r1 kp1=>?_⟩
   . rw[aa (ae hf na),aa (ae hf nda)];exact hf
   have e1:bZ H H1:=λc o e=>kp1 c o (λz=>ae e na (Je.mp z)) (by rw[aa (ae e na),aa (ae e nda)];exact e)
   clear kp1;refine⟨rfl,_,rfl,h,a.dn,dx,[],rfl,e1 _ _ hx,G.bH,G.jk,by decide,?_⟩;have n1:ra≠h:=λz=>by rw[z,hx]at na;cases na
   have hx1:=e1 _ _ hx;have kp2:Kp [h] H (upd H1 h (.ins a.dn dx (ba "asks" (.ref ra) []))):=λc o n e=>by rw[aa λz=>n (Je.mpr z)];exact e1 _ _ e
   have hx2:upd H1 h (.ins a.dn dx (ba "asks" (.ref ra) [])) h=dk (.ins a.dn dx (ba "asks" (.ref ra) [])):=a9;have r2:=r1.keep (H':=upd H1 h (.ins a.dn dx (ba "asks" (.ref ra) []))) λo e=>by rw[aa n1];exact e
   have hf2:upd H1 h (.ins a.dn dx (ba "asks" (.ref ra) [])) ft=dk (.tup (fs.map V.str)):=by
    rw[aa (iB (e1 _ _ hf) hx1 (by intro z;cases z))];exact e1 _ _ hf
   generalize upd H1 h (.ins a.dn dx (ba "asks" (.ref ra) []))=H2 at kp2 hx2 r2 hf2 |-;refine⟨_,rfl,_,rfl,_,rfl,_,rfl,λrb db nb ndb neb=>?_⟩;refine⟨rb,db,st,a.bz,ft,j',"answer","answered","handed",s,R,fs,rfl,a9,G.li,?_,λH3 r3 kp3=>?_⟩
   . rw[aa (ae hf2 nb),aa (ae hf2 ndb)];exact hf2
   have e3:bZ H2 H3:=λc o e=>kp3 c o (λz=>ae e nb (Je.mp z)) (by rw[aa (ae e nb),aa (ae e ndb)];exact e)
   clear kp3;have nbH:H rb=Jd:=fA kp2 nb λx m=>by rw[Je.mp m,hx2];intro z;cases z
   have n3:rb≠h:=λz=>by rw[z,hx2]at nb;cases nb
   refine⟨rfl,_,rfl,h,a.dn,dx,_,rfl,e3 _ _ hx2,G.bH,G.fC,by show 1 < 1000;decide,?_⟩;refine⟨_,rfl,_,rfl,h,a.dn,dx,_,rfl,a9,G.bH,G.kL,by show 2 < 1000;decide,?_⟩;rw[dO];refine λgd hg=>⟨_,rfl,h,a.dn,dx,_,rfl,(by rw[aa (ae a9 hg)];exact a9),G.bH,G.dJ,by show 3 < 1000;decide,?_⟩
   obtain⟨ng,hg3⟩:=up1 hg;have gdH:H gd=Jd:=fA kp2 (cw e3 hg3) λx m=>by rw[Je.mp m,hx2];intro z;cases z
   refine k ⟨h,ra,rb,gd⟩ _ rfl na nbH gdH ⟨⟨dx,a9⟩,(r2.keep λo e=>e3 _ _ e).keep λo e=>?_,r3.keep λo e=>?_,?_⟩ λc o nc ec=>?_
   . rw[aa n1,aa (ae e hg3),aa n1];exact e
   . rw[aa n3,aa (ae e hg3),aa n3];exact e
   . rw[aa ng,a9];rfl
   . have c1:c≠h:=λz=>nc (Je.mpr z)
     have e4:=e3 _ _ (kp2 c o nc ec);rw[aa c1,aa (ae e4 hg3),aa c1];exact e4
def vP (G:Gs K mg a d):FnOk P w K mg base CX0 1 a.bt d.bt ["self"] (BO a.dn a.bT):=by
 refine G.lY.ok ge (λvs H Q E h=>?_) (λcdv A outer s H vs Q E hr h=>?_)
 . obtain⟨z,st,p,n,aw,rfl,_⟩:=h;rfl
 . obtain⟨z,st,p,n,aw,rfl,hn,hn9,k⟩:=h;have hu:=dF hr;refine⟨_,((kP KL rfl (nR (by rfl) G.uE ((aj (pv 0) rfl)∣ac)) (bR (i:=1) ge.nd rfl (JQ rfl)) (@al _ _ _ (aK (wN (j7 hu (pv 1) (aj (pv 0) rfl))) ((pv 1)⁻¹) ap)))∪(gM⁻¹)),?_⟩;obtain⟨dx,hx⟩:=hn.ob;refine⟨_,rfl,fld hx G.bH G.kL Bl ⟨n,rfl,by omega,by omega,?_⟩⟩;refine sI (n:=((n:Nat):Int).toNat) (λi σ H'=>(∃ v,σ=[dk (.ref z.h),v])/\H'=H/\∀ j < i,aw.contains (j:Int)=D') ⟨⟨_,rfl⟩,rfl,λj hj=>absurd hj (by omega)⟩ ?_ ?_
   . rintro i σ H' hi ⟨⟨v,rfl⟩,rfl,hno⟩;rw[Int.zero_add];refine⟨_,rfl,_,rfl,fld hx G.bH G.dJ n8 ⟨z.gd,_,rfl,pI.k (k:=.inl (i:Int)) hn.go,_,rfl,?_⟩⟩;rw[fu];cases hc:aw.contains (i:Int) with
    |false =>
      rw[xQ (by omega) hc hno]at k;exact iQ ⟨_,rfl,k⟩
    |true =>
      refine iM ⟨⟨_,rfl⟩,rfl,λj hj=>?_⟩;by_cases hji:j < i
      . exact hno j hji
      . have e:j=i:=by omega
        rw[e];exact hc
   . rintro σ H' ⟨⟨v,rfl⟩,rfl,hno⟩;rw[wS λj hj=>hno j (by omega)]at k;exact k
def wb (G:Gs K mg a d):FnOk P w K mg base (CXv P w) 6 a.bD d.bD ["self"] (vE w a.dn a.bT a.aD a.uk a.fU):=by
 have Oh:FnOk P w K mg base CX0 4 _ _ _ _:=zA G;have N5:FnOk P w K mg base CX0 1 _ _ _ _:=vP G;refine G.mJ.okX (k:=5) mf (λvs H Q E h=>?_) (λcdv A' outer s' H vs Q E hr hR h=>?_)
 . obtain⟨z,sa,p,n,aw,M,r,A,T,rfl,_⟩:=h;rfl
 . obtain⟨z,sa,p,n,aw,M,r,A,T,rfl,hn,S,hp,n9,hA,hT,k⟩:=h;refine⟨_,((aK (cP (aI (aj (pv 0) rfl) G.ar G.jg Oh (hr.mono (by decide)) G.jT .nil aq)) (@al _ _ _ (gU hR hr.hd (by rfl) G.CA G.xc_Full (ao∣ac))) ap)∪(@al _ _ _ (aK (am Ct (aI (pv 0) G.bH G.fT N5 (hr.mono (by decide)) G.gD .nil aq) gM (av _)) (@al _ _ _ (gU hR hr.hd (by rfl) G.Ay G.xc_NoName (ao∣ac))) ap))),?_⟩;obtain⟨dx,hx⟩:=hn.ob;obtain⟨dr,hra⟩:=hn.ra;refine⟨_,rfl,fld hx G.bH G.jk yV ⟨z.ra,dr,_,rfl,hra,yz,z.ra,sa,j',"ask","asked","taken",p,M,r,A,T,rfl,⟨dr,hra⟩,S,hp,by decide +kernel,by decide +kernel,hA,hT,_,rfl,?_⟩⟩;by_cases hc:(A - T) % (p.s * p.R)=p.s
   . rw[Pg hc]at k;exact jt hc ⟨by show 1 <= Jm;decide,k⟩
   rw[Ph hc]at k;refine cH hc ?_;refine⟨_,rfl,z.h,dx,_,rfl,hx,wH,z,sa.x,p,n,aw,rfl,hn,n9,rfl,_,rfl,?_⟩;cases hle:cF n aw with
  |none =>
    rw[hle]at k;exact jt rfl ⟨by show 1 <= Jm;decide,k⟩
  |some nm =>
    rw[hle]at k;exact cH (by intro z;cases z) k
def EJ (G:Gs K mg a d):FnOk P w K mg base (CXv P w) 8 a.iq d.iq ["self","worth"] (Cz w a.dn a.bT a.aD a.uk a.fU):=by
 have Pb:FnOk P w K mg base (CXv P w) 6 _ _ _ _:=wb G;have N5:FnOk P w K mg base CX0 1 _ _ _ _:=vP G;have Oi:FnOk P w K mg base CX0 4 _ _ _ _:=Ce G;refine G.xg.okX (k:=7) nG (λvs H Q E h=>?_) (λcdv A' outer s' H vs Q E hr hR h=>?_)
 . obtain⟨z,sa,p,n,aw,M,r,wv,A,T,rfl,_⟩:=h;rfl
 . obtain⟨z,sa,p,n,aw,M,r,wv,A,T,rfl,hn,S,hp,n9,hal,hrl,hA,hT,k⟩:=h;have hu:=dF hr;refine⟨_,((@aB _ _ _ _ (aI (pv 0) G.bH G.gL Pb (hr.mono (by decide)) G.iH .nil hR.passes) (by rfl))∪((@aX _ _ 2 _ _ _ _ nG.nd rfl (JQ rfl) (aI (pv 0) G.bH G.fT N5 (hr.mono (by decide)) G.gD .nil aq) (by rfl) (by first|exact .inl rfl|exact .inr rfl|assumption))∪((jY hu (aj (pv 0) rfl) (pv 2) bI rfl)∪((@aB _ _ _ _ (au (aj (pv 0) rfl) G.ar G.oC Oi (hr.mono (by decide)) G.qA .nil aq ((pv 2)∣((pv 1)∣ac))) (by rfl))∪((pv 2)⁻¹))))),?_⟩;obtain⟨dx,hx⟩:=hn.ob;refine⟨_,rfl,z.h,dx,_,rfl,hx,wQ,z,sa,p,n,aw,M,r,A,T,rfl,hn,S,hp,n9,hA,hT,?_⟩;by_cases hc:(A - T) % (p.s * p.R)=p.s
   . rw[Pg hc]at k |-;exact k
   rw[Ph hc]at k |-;cases hle:cF n aw with
  |none=>rw[hle]at k;exact k
  |some nm =>
    rw[hle]at k;refine⟨_,rfl,z.h,dx,_,rfl,hx,wH,z,sa.x,p,n,aw,rfl,hn,n9,?_⟩;rw[hle];refine⟨_,rfl,fld hx G.bH G.dJ n8 ⟨_,rfl,z.gd,_,rfl,Ab.k (k:=.inl nm) hn.go (Jj (by rw[qm];exact hal) (by decide)),?_⟩⟩;rw[qi nm aw (qh hle)];have n1:z.h≠z.gd:=iB hx hn.go (by intro z;cases z);have kp1:Kp [z.gd] H (upd H z.gd (.dK (gK (aw++[nm])))):=Kp.one;have S1:=Sto.kp S kp1 (λc hc=>by rw[Je.mp hc];exact S.noD hn.go) (λc hc vs e=>by rw[Je.mp hc,hn.go]at e;cases e);have hn1:Hn a.dn a.bT (upd H z.gd (.dK (gK (aw++[nm])))) z sa.x p n (aw++[nm]):=by
     obtain⟨d1,x1⟩:=hn.ra;obtain⟨d2,x2⟩:=hn.rb;exact⟨⟨dx,by rw[aa n1];exact hx⟩,⟨d1,by rw[aa (iB x1 hn.go (by intro z;cases z))];exact x1⟩,⟨d2,by rw[aa (iB x2 hn.go (by intro z;cases z))];exact x2⟩,a9⟩
    generalize upd H z.gd (.dK (gK (aw++[nm])))=H1 at kp1 S1 hn1 |-;obtain⟨dx1,hx1⟩:=hn1.ob;obtain⟨dr,hra⟩:=hn1.ra;refine⟨_,rfl,fld hx1 G.bH G.jk yV ⟨z.ra,dr,_,rfl,hra,Cu,_,rfl,_,rfl,z.ra,sa,j',"ask","asked","taken",p,M,r,A,.int nm,wv,rfl,⟨dr,hra⟩,S1,hp,by decide +kernel,by decide +kernel,hrl,hA,λt H2 n2 v2 S2 kp2=>⟨_,rfl,?_⟩⟩⟩;refine k t H2 (fA kp1 n2 λx m=>by rw[Je.mp m,hn1.go];intro z;cases z) v2 (hn1.lists kp2 λc m=>.inl ?_) S2 λc o nc e=>?_
    . obtain⟨ts,e,_⟩:=S1.rw j';exact⟨ts,by rw[Je.mp m];exact e⟩
    . exact kp2 c o (λm=>nc (Jv _ m)) (kp1 c o (λm=>nc (by rw[Je.mp m];exact Jx)) e)
def x9 (G:Gs K mg a d):FnOk P w K mg base CX0 7 a.cr d.cr ["self"] (qb w a.dn a.bT a.aD):=by
 have Of:FnOk P w K mg base CX0 5 _ _ _ _:=vn G;refine G.pJ.ok ju (λvs H Q E h=>?_) (λcdv A' outer s' H vs Q E hr h=>?_)
 . obtain⟨z,sa,p,n,aw,M,r,A,T,rfl,_⟩:=h;rfl
 . obtain⟨z,sa,p,n,aw,M,r,A,T,rfl,hn,S,hp,hrl,hA,hT,k⟩:=h;refine⟨_,((@aX _ _ 1 _ _ _ _ ju.nd rfl (JQ rfl) (aI (aj (pv 0) rfl) G.ar G.kX Of (hr.mono (by decide)) G.mG .nil aq) (by rfl) (by first|exact .inl rfl|exact .inr rfl|assumption))∪((aK (am nL (pv 1) gM (av _)) (@al _ _ _ (@aB _ _ _ _ (yQ (aj (pv 0) rfl) (@aC _ _ _ _ _ _ _ aA (pv 1) ag (λ_ _=>rfl)) gM ⟨rfl,rfl,rfl,rfl⟩) (by rfl))) ap)∪((pv 1)⁻¹))),?_⟩;obtain⟨dx,hx⟩:=hn.ob;obtain⟨dr,hrb⟩:=hn.rb;refine⟨_,rfl,fld hx G.bH G.fC pM ⟨z.rb,dr,_,rfl,hrb,vA,z.rb,sa,j',"answer","answered","handed",p,M,r,A,T,rfl,⟨dr,hrb⟩,S,hp,by decide +kernel,by decide +kernel,by decide +kernel,hrl,hA,hT,?_⟩⟩;by_cases h0:(A - T) % (p.s * p.R)=0
   . rw[Pg h0]at k |-;exact⟨_,rfl,rfl,_,rfl,iM ⟨_,rfl,k⟩⟩
   rw[Ph h0]at k |-;rcases k with⟨c,nm,wv,hrd,hc,k⟩|⟨i,hrd,k⟩
   rotate_left
   . refine .inr ⟨i,hrd,λt H1 n1 v1 S1 kp1=>?_⟩;have hn1:=hn.lists kp1 λc m=>.inl (by
      obtain⟨ts,e,_⟩:=S.rw j';exact⟨ts,by rw[Je.mp m];exact e⟩)
     obtain⟨dx1,hx1⟩:=hn1.ob;exact⟨_,rfl,rfl,_,rfl,iQ ⟨_,rfl,fld hx1 G.bH G.dJ n8 ⟨z.gd,rfl,.inl ⟨_,.inl hn1.go⟩,_,rfl,t,_,_,_,rfl,rfl,SqT.of v1,rfl,_,hn1.go,.inr ⟨rfl,_,rfl,k t H1 n1 v1 hn1 S1 kp1⟩⟩⟩⟩
   refine .inl ⟨c,_,hrd,hc,λH1 S1 kp1=>?_⟩;have hn1:=hn.lists kp1 λc m=>.inl (by
    obtain⟨ts,e,_⟩:=S.rw j';exact⟨ts,by rw[Je.mp m];exact e⟩)
   have hc1:=kp1 _ _ (S.noT hc) hc;obtain⟨dx1,hx1⟩:=hn1.ob;refine⟨_,rfl,rfl,_,rfl,iQ ?_⟩;refine⟨_,rfl,fld hx1 G.bH G.dJ n8 ⟨z.gd,rfl,.inl ⟨_,.inl hn1.go⟩,_,rfl,c,_,_,_,rfl,rfl,SqT.of hc1,rfl,_,hn1.go,.inl ⟨.inl nm,rfl,λv hv=>⟨_,rfl,?_⟩,λhv=>⟨_,rfl,?_⟩⟩⟩⟩
   . rw[kD];refine k _ ?_ (S1.kp Kp.one (λc hc=>by rw[Je.mp hc];exact S1.noD hn1.go) λc hc vs e=>by rw[Je.mp hc,hn1.go]at e;cases e) λc o nc e=>?_
     . obtain⟨d1,x1⟩:=hn1.ra;obtain⟨d2,x2⟩:=hn1.rb;exact⟨⟨dx1,by rw[aa (iB hx1 hn1.go (by intro z;cases z))];exact hx1⟩,⟨d1,by rw[aa (iB x1 hn1.go (by intro z;cases z))];exact x1⟩,⟨d2,by rw[aa (iB x2 hn1.go (by intro z;cases z))];exact x2⟩,a9⟩
     . rw[aa λz=>nc (by rw[z];exact Jx)];exact kp1 c o (λm=>nc (Jv _ m)) e
   . rw[fu]at hv;have hno:aw.contains nm=j':=by
      cases z:aw.contains nm with
     |false=>rfl
     |true=>rw[z]at hv;cases hv
     have ef:aw.filter (λk=>decide (k≠nm))=aw:=by
      rw[List.filter_eq_self];intro x hx;refine Pl λz=>?_
      rw[z]at hx;rw[Kc,decide_eq_false_iff_not]at hno;exact hno hx
     rw[ef]at k;exact k H1 hn1 S1 λc o nc e=>kp1 c o (λm=>nc (Jv _ m)) e
def Be (CT CR:G'):Sp:=λvs H Q _=>∃ (h dx st ft:G') (s R:Int) (fs:List Str),vs=[.ref h,.ref st,.int s,.int R,.ref ft]/\H h=dk (.ins CT dx [])/\H ft=dk (.tup (fs.map V.str)) /\
 ∀ (z:TA') (H':Hp),z.h=h->H z.ra=Jd->H z.rb=Jd->H z.gd=Jd->Tn CT CR H' z st ⟨s,if fs.contains "round" then 1 else R,fs.contains "counter"⟩ []->Kp [h] H H'->Q .non H'
def wn (w:Jp) (CT CR CS:G'):Sp:=λvs H Q _=>∃ (z:TA') (sa:SA) (p:RP) (ts:List Int) (M:List (Jg × V)) (r:Bool->List (Jg × V)) (A T:Int),vs=[.ref z.h]/\Tn CT CR H z sa.x p ts/\sa.At w CS H M r/\p.Ok/\ts.length < 1000/\(r D').length < 100000 /\
 cm M (r D') (.str "asked")=.int A/\cm M (r D') (.str "taken")=.int T/\(if (A - T) % (p.s * p.R)=0 then Q .non H else
  (∃ c nm wv,cm M (r D') (.tuple [.str "ask",.int (T % p.s)])=.ref c/\H c=dk (.tup [.int nm,wv])/\∀ H',Tn CT CR H' z sa.x p (tG ts nm)->sa.At w CS H' M (bq r D' (r D'++[(.str "taken",.int ((T+1) % (p.s * p.R)))]))->Kp [z.gd,sa.l D'] H H'->Q (.ref c) H') \/
  ∃ i,cm M (r D') (.tuple [.str "ask",.int (T % p.s)])=.int i/\∀ t H',H t=Jd->H' t=dk (.tup [.non,.non])->Tn CT CR H' z sa.x p ts->sa.At w CS H' M (bq r D' (r D'++[(.str "taken",.int ((T+1) % (p.s * p.R)))]))->Kp [sa.l D'] H H'->Q (.ref t) H')
def tQ (w:Jp) (CT CR CS F N:G'):Sp:=λvs H Q E=>∃ (z:TA') (sa:SA) (p:RP) (ts:List Int) (M:List (Jg × V)) (r:Bool->List (Jg × V)) (A T nm:Int),vs=[.ref z.h,.int nm]/\Tn CT CR H z sa.x p ts/\sa.At w CS H M r/\p.Ok /\
 cm M (r D') (.str "answered")=.int A/\cm M (r D') (.str "handed")=.int T/\if ts.contains nm=j' then E (.ref N) Jd H else if (A - T) % (p.s * p.R)=p.s then E (.ref F) Jd H else Q .non H
def tI (w:Jp) (CT CR CS F N:G'):Sp:=λvs H Q E=>∃ (z:TA') (sa:SA) (p:RP) (ts:List Int) (M:List (Jg × V)) (r:Bool->List (Jg × V)) (A T nm:Int) (wv:V),vs=[.ref z.h,.int nm,wv]/\Tn CT CR H z sa.x p ts/\sa.At w CS H M r/\p.Ok/\(r D').length < 99999 /\
 cm M (r D') (.str "answered")=.int A/\cm M (r D') (.str "handed")=.int T/\if ts.contains nm=j' then E (.ref N) Jd H else if (A - T) % (p.s * p.R)=p.s then E (.ref F) Jd H else
  ∀ t H',H t=Jd->H' t=dk (.tup [.int nm,wv])->Tn CT CR H' z sa.x p (ts.filter λk=>decide (k≠nm))->sa.At w CS H' M (bq r D' (r D'++oB p "answer" "answered" A (.ref t)))->Kp [z.gd,sa.l D'] H H'->Q .non H'
def C6 (CT CR:G'):Sp:=λvs H Q _=>∃ (z:TA') (st:G') (p:RP) (ts:List Int),vs=[.ref z.h]/\Tn CT CR H z st p ts/\ts.length < 64/\∀ (l:G') (ns:List Int),H l=Jd->ns.Perm ts->ns.Pairwise (· <= ·)->Q (.ref l) (upd H l (.lst (ns.map V.int)))
def BD (G:Gs K mg a d):FnOk P w K mg base CX0 4 a.d0 d.d0 ["self","store","size","rounds","faults"] (Be a.aY a.bT):=by
 have Oe:FnOk P w K mg base CX0 2 _ _ _ _:=vV G;refine G.qS.ok pF (λvs H Q E h=>?_) (λcdv A outer s H vs Q E hr h=>?_)
 . obtain⟨h,dx,st,ft,s,R,fs,rfl,_⟩:=h;rfl
 . obtain⟨h,dx,st,ft,s,R,fs,rfl,hx,hf,k⟩:=h;refine⟨_,((bi (pv 0) (kA G.wj Oe (hr.mono (by decide)) (by rfl) G.vU G.fX .nil aq ((pv 1)∣(ag∣((eT (v:=.ref a.fO) (by rfl) G.wE rfl)∣((pv 2)∣((pv 3)∣((pv 4)∣ac))))))) rfl)∪((bi (pv 0) (kA G.wj Oe (hr.mono (by decide)) (by rfl) G.vU G.fX .nil aq ((pv 1)∣(ag∣((eT (v:=.ref a.bz) (by rfl) G.kO rfl)∣((pv 2)∣((pv 3)∣((pv 4)∣ac))))))) rfl)∪(@al _ _ _ (bi (pv 0) jA rfl)))),?_⟩;refine⟨_,rfl,_,rfl,_,rfl,_,rfl,λra da na nda nea=>?_⟩;refine⟨ra,da,st,a.fO,ft,D',"ask","asked","taken",s,R,fs,rfl,a9,G.vJ,?_,λH1 r1 kp1=>?_⟩
   . rw[aa (ae hf na),aa (ae hf nda)];exact hf
   have e1:bZ H H1:=λc o e=>kp1 c o (λz=>ae e na (Je.mp z)) (by rw[aa (ae e na),aa (ae e nda)];exact e)
   clear kp1;refine⟨rfl,_,rfl,h,a.aY,dx,[],rfl,e1 _ _ hx,G.bv,G.gT,by decide,?_⟩;have n1:ra≠h:=λz=>by rw[z,hx]at na;cases na
   have hx1:=e1 _ _ hx;have kp2:Kp [h] H (upd H1 h (.ins a.aY dx (ba "asks" (.ref ra) []))):=λc o n e=>by rw[aa λz=>n (Je.mpr z)];exact e1 _ _ e
   have hx2:upd H1 h (.ins a.aY dx (ba "asks" (.ref ra) [])) h=dk (.ins a.aY dx (ba "asks" (.ref ra) [])):=a9;have r2:=r1.keep (H':=upd H1 h (.ins a.aY dx (ba "asks" (.ref ra) []))) λo e=>by rw[aa n1];exact e
   have hf2:upd H1 h (.ins a.aY dx (ba "asks" (.ref ra) [])) ft=dk (.tup (fs.map V.str)):=by
    rw[aa (iB (e1 _ _ hf) hx1 (by intro z;cases z))];exact e1 _ _ hf
   generalize upd H1 h (.ins a.aY dx (ba "asks" (.ref ra) []))=H2 at kp2 hx2 r2 hf2 |-;refine⟨_,rfl,_,rfl,_,rfl,_,rfl,λrb db nb ndb neb=>?_⟩;refine⟨rb,db,st,a.bz,ft,D',"answer","answered","handed",s,R,fs,rfl,a9,G.li,?_,λH3 r3 kp3=>?_⟩
   . rw[aa (ae hf2 nb),aa (ae hf2 ndb)];exact hf2
   have e3:bZ H2 H3:=λc o e=>kp3 c o (λz=>ae e nb (Je.mp z)) (by rw[aa (ae e nb),aa (ae e ndb)];exact e)
   clear kp3;have nbH:H rb=Jd:=fA kp2 nb λx m=>by rw[Je.mp m,hx2];intro z;cases z
   have n3:rb≠h:=λz=>by rw[z,hx2]at nb;cases nb
   refine⟨rfl,_,rfl,h,a.aY,dx,_,rfl,e3 _ _ hx2,G.bv,G.eU,by show 1 < 1000;decide,?_⟩;refine λgd hg=>⟨_,rfl,h,a.aY,dx,_,rfl,(by rw[aa (ae a9 hg)];exact a9),G.bv,G.cK,by show 2 < 1000;decide,?_⟩
   obtain⟨ng,hg3⟩:=up1 hg;have gdH:H gd=Jd:=fA kp2 (cw e3 hg3) λx m=>by rw[Je.mp m,hx2];intro z;cases z
   refine k ⟨h,ra,rb,gd⟩ _ rfl na nbH gdH ⟨⟨dx,a9⟩,(r2.keep λo e=>e3 _ _ e).keep λo e=>?_,r3.keep λo e=>?_,?_⟩ λc o nc ec=>?_
   . rw[aa n1,aa (ae e hg3),aa n1];exact e
   . rw[aa n3,aa (ae e hg3),aa n3];exact e
   . rw[aa ng,a9];rfl
   . have c1:c≠h:=λz=>nc (Je.mpr z)
     have e4:=e3 _ _ (kp2 c o nc ec);rw[aa c1,aa (ae e4 hg3),aa c1];exact e4
def BB (G:Gs K mg a d):FnOk P w K mg base CX0 7 a.eC d.eC ["self"] (wn w a.aY a.bT a.aD):=by
 have Of:FnOk P w K mg base CX0 5 _ _ _ _:=vn G;refine G.sZ.ok lI (λvs H Q E h=>?_) (λcdv A' outer s' H vs Q E hr h=>?_)
 . obtain⟨z,sa,p,ts,M,r,A,T,rfl,_⟩:=h;rfl
 . obtain⟨z,sa,p,ts,M,r,A,T,rfl,hn,S,hp,htl,hrl,hA,hT,k⟩:=h;have hu:=dF hr;refine⟨_,((@aX _ _ 1 _ _ _ _ lI.nd rfl (JQ rfl) (aI (aj (pv 0) rfl) G.ar G.kX Of (hr.mono (by decide)) G.mG .nil aq) (by rfl) (by first|exact .inl rfl|exact .inr rfl|assumption))∪((aK ((yL (am nL (pv 1) gM (av _)) (yy (am nL (@aC _ _ _ _ _ _ _ aA (pv 1) ag (λ_ _=>rfl)) gM (av _))))).pt (@al _ _ _ (jY hu (aj (pv 0) rfl) (@aC _ _ _ _ _ _ _ aA (pv 1) ag (λ_ _=>rfl)) bI rfl)) ap)∪((pv 1)⁻¹))),?_⟩;obtain⟨dx,hx⟩:=hn.ob;obtain⟨dr,hra⟩:=hn.ra;refine⟨_,rfl,fld hx G.bv G.gT Am ⟨z.ra,dr,_,rfl,hra,vA,z.ra,sa,D',"ask","asked","taken",p,M,r,A,T,rfl,⟨dr,hra⟩,S,hp,by decide +kernel,by decide +kernel,by decide +kernel,hrl,hA,hT,?_⟩⟩;by_cases h0:(A - T) % (p.s * p.R)=0
   . rw[Pg h0]at k |-;exact⟨_,rfl,rfl,_,rfl,iM ⟨_,rfl,k⟩⟩
   rw[Ph h0]at k |-;rcases k with⟨c,nm,wv,hrd,hc,k⟩|⟨i,hrd,k⟩
   . refine .inl ⟨c,_,hrd,hc,λH1 S1 kp1=>?_⟩;have hn1:=hn.lists kp1 λc m=>.inl (by
      obtain⟨ts,e,_⟩:=S.rw D';exact⟨ts,by rw[Je.mp m];exact e⟩)
     have hc1:=kp1 _ _ (S.noT hc) hc;obtain⟨dx1,hx1⟩:=hn1.ob;refine⟨_,rfl,rfl,_,rfl,iQ ⟨_,rfl,c,_,_,_,rfl,rfl,SqT.of hc1,rfl,rfl,_,rfl,iQ ?_⟩⟩;refine⟨_,rfl,fld hx1 G.bv G.cK mX ⟨_,rfl,c,_,_,_,rfl,rfl,SqT.of hc1,rfl,z.gd,_,rfl,Ab.k (k:=.inl nm) hn1.go (Jj (by rw[qm];exact htl) (by decide)),_,rfl,?_⟩⟩;rw[D6];refine k _ ?_ (S1.kp Kp.one (λc hc=>by rw[Je.mp hc];exact S1.noD hn1.go) λc hc vs e=>by rw[Je.mp hc,hn1.go]at e;cases e) λc o nc e=>?_
     . obtain⟨d1,x1⟩:=hn1.ra;obtain⟨d2,x2⟩:=hn1.rb;exact⟨⟨dx1,by rw[aa (iB hx1 hn1.go (by intro z;cases z))];exact hx1⟩,⟨d1,by rw[aa (iB x1 hn1.go (by intro z;cases z))];exact x1⟩,⟨d2,by rw[aa (iB x2 hn1.go (by intro z;cases z))];exact x2⟩,a9⟩
     . rw[aa λz=>nc (by rw[z];exact Jx)];exact kp1 c o (λm=>nc (Jv _ m)) e
   . refine .inr ⟨i,hrd,λt H1 n1 v1 S1 kp1=>?_⟩;have hn1:=hn.lists kp1 λc m=>.inl (by
      obtain⟨ts,e,_⟩:=S.rw D';exact⟨ts,by rw[Je.mp m];exact e⟩)
     exact⟨_,rfl,rfl,_,rfl,iQ ⟨_,rfl,t,_,_,_,rfl,rfl,SqT.of v1,rfl,rfl,_,rfl,iM ⟨_,rfl,k t H1 n1 v1 hn1 S1 kp1⟩⟩⟩
def tK (G:Gs K mg a d):FnOk P w K mg base (CXv P w) 6 a.aU d.aU ["self","name"] (tQ w a.aY a.bT a.aD a.uk a.fQ):=by
 have Oh:FnOk P w K mg base CX0 4 _ _ _ _:=zA G;refine G.jG.okX (k:=5) jf (λvs H Q E h=>?_) (λcdv A' outer s' H vs Q E hr hR h=>?_)
 . obtain⟨z,sa,p,ts,M,r,A,T,nm,rfl,_⟩:=h;rfl
 . obtain⟨z,sa,p,ts,M,r,A,T,nm,rfl,hn,S,hp,hA,hT,k⟩:=h;have hu:=dF hr;refine⟨_,((aK (wN (j7 hu (pv 1) (aj (pv 0) rfl))) (@al _ _ _ (gU hR hr.hd (by rfl) G.AO G.xc_NoTask (ao∣ac))) ap)∪(@al _ _ _ (aK (cP (aI (aj (pv 0) rfl) G.ar G.jg Oh (hr.mono (by decide)) G.jT .nil aq)) (@al _ _ _ (gU hR hr.hd (by rfl) G.CA G.xc_Full (ao∣ac))) ap))),?_⟩;obtain⟨dx,hx⟩:=hn.ob;obtain⟨dr,hrb⟩:=hn.rb;refine⟨_,rfl,_,rfl,fld hx G.bv G.cK mX ⟨z.gd,_,rfl,pI.k (k:=.inl nm) hn.go,_,rfl,?_⟩⟩;rw[fu];cases hc:ts.contains nm with
  |false =>
    rw[Pg hc]at k;exact iQ ⟨by show 1 <= Jm;decide,k⟩
  |true =>
    rw[Ph (by rw[hc];decide)]at k;refine iM ?_;refine⟨_,rfl,fld hx G.bv G.eU qx ⟨z.rb,dr,_,rfl,hrb,yz,z.rb,sa,D',"answer","answered","handed",p,M,r,A,T,rfl,⟨dr,hrb⟩,S,hp,by decide +kernel,by decide +kernel,hA,hT,_,rfl,?_⟩⟩;by_cases hf:(A - T) % (p.s * p.R)=p.s
    . rw[Pg hf]at k;exact jt hf ⟨by show 1 <= Jm;decide,k⟩
    . rw[Ph hf]at k;exact cH hf k
def zq (G:Gs K mg a d):FnOk P w K mg base (CXv P w) 8 a.ce d.ce ["self","name","worth"] (tI w a.aY a.bT a.aD a.uk a.fQ):=by
 have Pd:FnOk P w K mg base (CXv P w) 6 _ _ _ _:=tK G;have Oi:FnOk P w K mg base CX0 4 _ _ _ _:=Ce G;refine G.p7.okX (k:=7) nO (λvs H Q E h=>?_) (λcdv A' outer s' H vs Q E hr hR h=>?_)
 . obtain⟨z,sa,p,ts,M,r,A,T,nm,wv,rfl,_⟩:=h;rfl
 . obtain⟨z,sa,p,ts,M,r,A,T,nm,wv,rfl,hn,S,hp,hrl,hA,hT,k⟩:=h;refine⟨_,((@aB _ _ _ _ (au (pv 0) G.bv G.eQ Pd (hr.mono (by decide)) G.f6 .nil hR.passes ((pv 1)∣ac)) (by rfl))∪((@aB _ _ _ _ (au (aj (pv 0) rfl) G.ar G.oC Oi (hr.mono (by decide)) G.qA .nil aq ((pv 1)∣((pv 2)∣ac))) (by rfl))∪(@al _ _ _ (@aB _ _ _ _ (l6 (aj (pv 0) rfl) (pv 1) ⟨rfl,rfl,rfl,rfl⟩) (by rfl))))),?_⟩;obtain⟨dx,hx⟩:=hn.ob;obtain⟨dr,hrb⟩:=hn.rb;refine⟨_,rfl,z.h,dx,_,rfl,hx,vx,_,rfl,z,sa,p,ts,M,r,A,T,nm,rfl,hn,S,hp,hA,hT,?_⟩;by_cases hc:ts.contains nm=j'
   . rw[Pg hc]at k |-;exact k
   rw[Ph hc]at k |-;by_cases hf:(A - T) % (p.s * p.R)=p.s
   . rw[Pg hf]at k |-;exact k
   rw[Ph hf]at k |-;refine⟨_,rfl,fld hx G.bv G.eU qx ⟨z.rb,dr,_,rfl,hrb,Cu,_,rfl,_,rfl,z.rb,sa,D',"answer","answered","handed",p,M,r,A,.int nm,wv,rfl,⟨dr,hrb⟩,S,hp,by decide +kernel,by decide +kernel,hrl,hA,λt H1 n1 v1 S1 kp1=>?_⟩⟩;have hn1:=hn.lists kp1 λc m=>.inl (by
    obtain⟨ts,e,_⟩:=S.rw D';exact⟨ts,by rw[Je.mp m];exact e⟩)
   obtain⟨dx1,hx1⟩:=hn1.ob;have hv:lp (gK ts) (.inl nm)=dk (.bl D'):=by
    rw[fu];cases y:ts.contains nm with
   |true=>rfl
   |false=>exact absurd y hc
   refine⟨_,rfl,fld hx1 G.bv G.cK mX ⟨z.gd,rfl,.inl ⟨_,.inl hn1.go⟩,_,rfl,_,.inl nm,_,hn1.go,rfl,hv,?_⟩⟩;rw[kD];refine k t _ n1 ?_ ?_ (S1.kp Kp.one (λc hc=>by rw[Je.mp hc];exact S1.noD hn1.go) λc hc vs e=>by rw[Je.mp hc,hn1.go]at e;cases e) λc o nc e=>?_
   . rw[aa (iB v1 hn1.go (by intro z;cases z))];exact v1
   . obtain⟨d1,x1⟩:=hn1.ra;obtain⟨d2,x2⟩:=hn1.rb;exact⟨⟨dx1,by rw[aa (iB hx1 hn1.go (by intro z;cases z))];exact hx1⟩,⟨d1,by rw[aa (iB x1 hn1.go (by intro z;cases z))];exact x1⟩,⟨d2,by rw[aa (iB x2 hn1.go (by intro z;cases z))];exact x2⟩,a9⟩
   . rw[aa λz=>nc (by rw[z];exact Jx)];exact kp1 c o (λm=>nc (Jv _ m)) e
def B8 (G:Gs K mg a d):FnOk P w K mg base CX0 1 a.dl d.dl ["self"] (C6 a.aY a.bT):=by
 refine G.qB.ok pq (λvs H Q E h=>?_) (λcdv A outer s H vs Q E hr h=>?_)
 . obtain⟨z,st,p,ts,rfl,_⟩:=h;rfl
 . obtain⟨z,st,p,ts,rfl,hn,hl,k⟩:=h;refine⟨_,((bn (sJ rfl) (by rfl) G.vi sQ ((aj (pv 0) rfl)∣ac))⁻¹),?_⟩;obtain⟨dx,hx⟩:=hn.ob;exact⟨_,rfl,fld hx G.bv G.cK mX ⟨z.gd,_,ts,rfl,hn.go,by unfold gK;rw[map_map];rfl,hl,λp ns hp h1 h2=>k p ns hp h1 h2⟩⟩
def BP (w:Jp) (C:G'):Sp:=λvs H Q _=>∃ x dx,vs=[.ref x]/\H x=dk (.ins C dx []) /\
 ∀ (sa:SA) (H':Hp),sa.x=x->(∀ c,sa.own c->c≠x->H c=Jd)->StT w C H' sa Mem.zero (λ_=>[])->Kp [x] H H'->Q .non H'
def zp (w:Jp) (C:G'):Sp:=λvs H Q _=>∃ (sa:SA) (m:Mem) (rs:Bool->List Wr) (b:Bool) (cv wv:V) (x:Wr),vs=[.ref sa.x,.int (sdI b),cv,wv]/\StT w C H sa m rs/\(rs b).length < 99990/\um H x.key cv/\DV H x.dat wv/\x.Ok /\
 ∀ H',StT w C H' sa m (bq rs b (rs b++[x]))->Kp [sa.l b] H H'->Q .non H'
def zr (w:Jp) (C:G'):Sp:=λvs H Q _=>∃ (sa:SA) (m:Mem) (rs:Bool->List Wr) (b:Bool) (x:Wr) (c8:List Wr),vs=[.ref sa.x,.int (sdI b)]/\StT w C H sa m rs/\rs b=x :: c8 /\
 ∀ H',StT w C H' sa (m.put x) (bq rs b c8)->Kp [sa.l b,sa.hd] H H'->Q .non H'
def wrD (x:Wr):Jg:=.tuple [x.key,x.dat]
def Ai (w:Jp) (C:G'):Sp:=λvs H Q _=>∃ (sa:SA) (m:Mem) (rs:Bool->List Wr) (b:Bool),vs=[.ref sa.x,.int (sdI b)]/\StT w C H sa m rs /\
 ∀ (p:G') (ts:List V),H p=Jd->DVs H ((rs b).map wrD) ts->Q (.ref p) (upd H p (.lst ts))
theorem wx {H:Hp}:∀ {row:List Wr}{es:List (Jg × V)},JC (WrR H) row es->JC (RD H) es (row.map wrD)
|_,_,.nil=>.nil
|x :: _,_,.cons ⟨_,hk,hd⟩ t=>.cons ⟨x.dat,by rw[hk];rfl,hd⟩ (wx t)
def Hb {w:Jp}{C:G'}{vs:List V}{H:Hp}{Q:VK}{E:XK}(h:BP w C vs H Q E):An w C vs H Q E:=by
 obtain⟨x,dx,rfl,hx,k⟩:=h;refine⟨x,dx,rfl,hx,λhd rl l H' f1 f2 f3 S kp=>k ⟨x,hd,rl,l⟩ H' rfl (λc hc n=>?_) ⟨[],_,S,MemR.zero,λ_=>.nil⟩ kp⟩;rcases hc with y|y|y|y|y
 . exact absurd y n
 . rw[y];exact f1
 . rw[y];exact f2
 . rw[y];exact f3 _
 . rw[y];exact f3 _
def xW {w:Jp}{C:G'}{vs:List V}{H:Hp}{Q:VK}{E:XK}(h:zp w C vs H Q E):wq w C vs H Q E:=by
 obtain⟨sa,m,rs,b,cv,wv,x,rfl,⟨M,r,S,R,P⟩,hl,hk,hd,ho,k⟩:=h;have hl':=aG (P b);refine⟨sa.x,sa.hd,sa.rl,sa.l,M,r,b,cv,wv,x.key,rfl,S,by omega,hk,λH' S' kp=>k H' ?_ kp⟩;have ht:∀ c vs,H c=dk (.tup vs)->H' c=dk (.tup vs):=λc vs e=>kp c _ (S.noT e) e
 exact StT.grow R P S' ht (.cons ⟨ho,rfl,DV.keep ht _ _ x.dat_kd hd⟩ .nil)
def G4 {w:Jp}{C:G'}{vs:List V}{H:Hp}{Q:VK}{E:XK}(h:zr w C vs H Q E):wL w C vs H Q E:=by
 obtain⟨sa,m,rs,b,x,c8,rfl,⟨M,r,S,R,P⟩,hb,k⟩:=h;have pb:=P b;rw[hb]at pb;cases hr:r b with
|nil=>rw[hr]at pb;cases pb
|cons q es =>
  rw[hr]at pb;cases pb with
 |cons hx pt =>
   refine⟨sa.x,sa.hd,sa.rl,sa.l,M,r,b,q.1,q.2,es,rfl,S,hr,Nat.lt_of_le_of_lt (StT.small S R) (by decide),λH' S' kp=>k H' ⟨_,_,S',?_,λc=>?_⟩ kp⟩
   all_goals
    have ht:∀ c vs,H c=dk (.tup vs)->H' c=dk (.tup vs):=λc vs e=>kp c _ (λmm=>by
     rcases JE.mp mm with y|y
     . exact S.noT (b:=b) e (Je.mpr y)
     . obtain⟨ee,e'⟩:=S.me.there;rw[Je.mp y,e']at e;cases e) e
   . exact(R.put hx).keep ht
   . by_cases e:c=b
     . subst e;rw[b9,b9];exact Paired.mapP pt λ_ _ q=>q.keep ht
     . rw[fD e,fD e];exact Paired.mapP (P c) λ_ _ q=>q.keep ht
def xZ {w:Jp}{C:G'}{vs:List V}{H:Hp}{Q:VK}{E:XK}(h:Ai w C vs H Q E):wc w C vs H Q E:=by
 obtain⟨sa,m,rs,b,rfl,⟨M,r,S,R,P⟩,k⟩:=h;exact⟨sa.x,sa.hd,sa.rl,sa.l,M,r,b,rfl,S,λp ts hp pr=>k p ts hp (vy pr (wx (P b)))⟩
def E7 (w:Jp) (CH CR CS F N:G'):Sp:=λvs H Q E=>∃ (z:HA) (sa:SA) (p:RP) (n:Nat) (aw:List Int) (m:Mem) (rs:Bool->List Wr) (wt:Int),vs=[.ref z.h,.int wt]/\Hn CH CR H z sa.x p n aw/\StT w CS H sa m rs/\p.Ok/\n <= 9/\aw.length < 1000/\(rs j').length < 99990 /\
 if aZ p m (rs j') .asked .taken=p.s then E (.ref F) Jd H else match cF n aw with
 |none=>E (.ref N) Jd H
 |some nm=>∀ H',Hn CH CR H' z sa.x p n (aw++[nm])->StT w CS H' sa m (bq rs j' (rs j'++AI p m (rs j') j' .asked nm wt))->Kp [z.gd,sa.l j'] H H'->Q (.int nm) H'
def uQ (w:Jp) (CH CR CS:G'):Sp:=λvs H Q _=>∃ (z:HA) (sa:SA) (p:RP) (n:Int) (aw:List Int) (m:Mem) (rs:Bool->List Wr),vs=[.ref z.h]/\Hn CH CR H z sa.x p n aw/\StT w CS H sa m rs/\p.Ok/\(rs j').length < 99990 /\
 (if aZ p m (rs j') .answered .handed=0 then Q .non H else match rdP m (rs j') D' (rdC m (rs j') .handed % p.s) with
 |some nw=>∀ c H',H' c=dk (.tup [.int nw.1,.int nw.2])->Hn CH CR H' z sa.x p n (aw.filter λk=>decide (k≠nw.1))->StT w CS H' sa m (bq rs j' (rs j'++[lT p m (rs j') .handed]))->Kp [z.gd,sa.l j'] H H'->Q (.ref c) H'
 |none=>∀ c H',H' c=dk (.tup [.non,.non])->Hn CH CR H' z sa.x p n aw->StT w CS H' sa m (bq rs j' (rs j'++[lT p m (rs j') .handed]))->Kp [z.gd,sa.l j'] H H'->Q (.ref c) H')
def J0 {w:Jp}{CH CR CS F N:G'}{vs:List V}{H:Hp}{Q:VK}{E:XK}(h:E7 w CH CR CS F N vs H Q E):Cz w CH CR CS F N vs H Q E:=by
 obtain⟨z,sa,p,n,aw,m,rs,wt,rfl,hn,⟨M,r,S,R,P⟩,hp,n9,hal,hrl,k⟩:=h;have hl:=aG (P j');refine⟨z,sa,p,n,aw,M,r,.int wt,rdC m (rs j') .asked,rdC m (rs j') .taken,rfl,hn,S,hp,n9,hal,by omega,cc R (P j') .asked,cc R (P j') .taken,?_⟩;unfold aZ at k;by_cases hc:(rdC m (rs j') .asked - rdC m (rs j') .taken) % (p.s * p.R)=p.s
 . rw[Pg hc]at k |-;exact k
 . rw[Ph hc]at k |-;cases hle:cF n aw with
  |none=>rw[hle]at k;exact k
  |some nm =>
    rw[hle]at k;intro t H' n2 v2 hn2 S2 kp2;have ht:∀ c vs,H c=dk (.tup vs)->H' c=dk (.tup vs):=λc vs e=>kp2 c _ (λmm=>by
     rcases JE.mp mm with y|y
     . rw[y,hn.go]at e;cases e
     . exact S.noT e y) e
    exact k H' hn2 (StT.grow R P S2 ht (wy hp (by have:=vY hle;omega) v2)) kp2
def AJ {w:Jp}{CH CR CS:G'}{vs:List V}{H:Hp}{Q:VK}{E:XK}(h:uQ w CH CR CS vs H Q E):qb w CH CR CS vs H Q E:=by
 obtain⟨z,sa,p,n,aw,m,rs,rfl,hn,⟨M,r,S,R,P⟩,hp,hrl,k⟩:=h;have hl:=aG (P j');refine⟨z,sa,p,n,aw,M,r,rdC m (rs j') .answered,rdC m (rs j') .handed,rfl,hn,S,hp,by omega,cc R (P j') .answered,cc R (P j') .handed,?_⟩;unfold aZ at k;by_cases hc:(rdC m (rs j') .answered - rdC m (rs j') .handed) % (p.s * p.R)=0
 . rw[Pg hc]at k |-;exact k
 . rw[Ph hc]at k |-;have ht:∀ {H':Hp} {xs:List G'},(∀ x∈xs,x=z.gd\/x=sa.l j')->Kp xs H H'->∀ c vs,H c=dk (.tup vs)->H' c=dk (.tup vs):=λhx kp c vs e=>kp c _ (λmm=>by
    rcases hx c mm with y|y
    . rw[y,hn.go]at e;cases e
    . exact S.noT (b:=j') e (Je.mpr y)) e
   rcases zM R (P j') D' (rdC m (rs j') .handed % p.s) with⟨e1,e2⟩|⟨nm,wt,c,e1,e2,hc'⟩
   . rw[e1]at k;refine .inr ⟨0,e2,λt H' n1 v1 hn1 S1 kp1=>k t H' v1 hn1 (StT.grow R P S1 (ht (λx mx=>.inr (Je.mp mx)) kp1) (.cons ⟨trivial,rfl,rfl⟩ .nil)) (kp1.mono λc mc=>Jv _ mc)⟩
   . rw[e1]at k;refine .inl ⟨c,nm,.int wt,e2,hc',λH' hn1 S1 kp1=>?_⟩;have ht':=ht (λx mx=>by
      rcases JE.mp mx with y|y
      . exact .inl y
      . exact .inr (Je.mp y)) kp1
     exact k c H' (ht' _ _ hc') hn1 (StT.grow R P S1 ht' (.cons ⟨trivial,rfl,rfl⟩ .nil)) kp1
def Bp (w:Jp) (CT CR CS:G'):Sp:=λvs H Q _=>∃ (z:TA') (sa:SA) (p:RP) (ts:List Int) (m:Mem) (rs:Bool->List Wr),vs=[.ref z.h]/\Tn CT CR H z sa.x p ts/\StT w CS H sa m rs/\p.Ok/\ts.length < 1000/\(rs D').length < 99990 /\
 (if aZ p m (rs D') .asked .taken=0 then Q .non H else match rdP m (rs D') j' (rdC m (rs D') .taken % p.s) with
 |some nw=>∀ c H',H' c=dk (.tup [.int nw.1,.int nw.2])->Tn CT CR H' z sa.x p (tG ts nw.1)->StT w CS H' sa m (bq rs D' (rs D'++[lT p m (rs D') .taken]))->Kp [z.gd,sa.l D'] H H'->Q (.ref c) H'
 |none=>∀ c H',H' c=dk (.tup [.non,.non])->Tn CT CR H' z sa.x p ts->StT w CS H' sa m (bq rs D' (rs D'++[lT p m (rs D') .taken]))->Kp [z.gd,sa.l D'] H H'->Q (.ref c) H')
def xf (w:Jp) (CT CR CS F N:G'):Sp:=λvs H Q E=>∃ (z:TA') (sa:SA) (p:RP) (ts:List Int) (m:Mem) (rs:Bool->List Wr) (nm wt:Int),vs=[.ref z.h,.int nm,.int wt]/\Tn CT CR H z sa.x p ts/\StT w CS H sa m rs/\p.Ok/\(rs D').length < 99990/\(∀ x∈ts,0 <= x/\x < 9) /\
 if ts.contains nm=j' then E (.ref N) Jd H else if aZ p m (rs D') .answered .handed=p.s then E (.ref F) Jd H else
  ∀ H',Tn CT CR H' z sa.x p (ts.filter λk=>decide (k≠nm))->StT w CS H' sa m (bq rs D' (rs D'++AI p m (rs D') D' .answered nm wt))->Kp [z.gd,sa.l D'] H H'->Q .non H'
def GM {w:Jp}{CT CR CS:G'}{vs:List V}{H:Hp}{Q:VK}{E:XK}(h:Bp w CT CR CS vs H Q E):wn w CT CR CS vs H Q E:=by
 obtain⟨z,sa,p,ts,m,rs,rfl,hn,⟨M,r,S,R,P⟩,hp,htl,hrl,k⟩:=h;have hl:=aG (P D');refine⟨z,sa,p,ts,M,r,rdC m (rs D') .asked,rdC m (rs D') .taken,rfl,hn,S,hp,htl,by omega,cc R (P D') .asked,cc R (P D') .taken,?_⟩;unfold aZ at k;by_cases hc:(rdC m (rs D') .asked - rdC m (rs D') .taken) % (p.s * p.R)=0
 . rw[Pg hc]at k |-;exact k
 . rw[Ph hc]at k |-;have ht:∀ {H':Hp} {xs:List G'},(∀ x∈xs,x=z.gd\/x=sa.l D')->Kp xs H H'->∀ c vs,H c=dk (.tup vs)->H' c=dk (.tup vs):=λhx kp c vs e=>kp c _ (λmm=>by
    rcases hx c mm with y|y
    . rw[y,hn.go]at e;cases e
    . exact S.noT (b:=D') e (Je.mpr y)) e
   rcases zM R (P D') j' (rdC m (rs D') .taken % p.s) with⟨e1,e2⟩|⟨nm,wt,c,e1,e2,hc'⟩
   . rw[e1]at k;refine .inr ⟨0,e2,λt H' n1 v1 hn1 S1 kp1=>k t H' v1 hn1 (StT.grow R P S1 (ht (λx mx=>.inr (Je.mp mx)) kp1) (.cons ⟨trivial,rfl,rfl⟩ .nil)) (kp1.mono λc mc=>Jv _ mc)⟩
   . rw[e1]at k;refine .inl ⟨c,nm,.int wt,e2,hc',λH' hn1 S1 kp1=>?_⟩;have ht':=ht (λx mx=>by
      rcases JE.mp mx with y|y
      . exact .inl y
      . exact .inr (Je.mp y)) kp1
     exact k c H' (ht' _ _ hc') hn1 (StT.grow R P S1 ht' (.cons ⟨trivial,rfl,rfl⟩ .nil)) kp1
def Dv {w:Jp}{CT CR CS F N:G'}{vs:List V}{H:Hp}{Q:VK}{E:XK}(h:xf w CT CR CS F N vs H Q E):tI w CT CR CS F N vs H Q E:=by
 obtain⟨z,sa,p,ts,m,rs,nm,wt,rfl,hn,⟨M,r,S,R,P⟩,hp,hrl,hts,k⟩:=h;have hl:=aG (P D');refine⟨z,sa,p,ts,M,r,rdC m (rs D') .answered,rdC m (rs D') .handed,nm,.int wt,rfl,hn,S,hp,by omega,cc R (P D') .answered,cc R (P D') .handed,?_⟩;unfold aZ at k;by_cases h0:ts.contains nm=j'
 . rw[Pg h0]at k |-;exact k
 rw[Ph h0]at k |-;by_cases hc:(rdC m (rs D') .answered - rdC m (rs D') .handed) % (p.s * p.R)=p.s
 . rw[Pg hc]at k |-;exact k
 . rw[Ph hc]at k |-;intro t H' n2 v2 hn2 S2 kp2;have ht:∀ c vs,H c=dk (.tup vs)->H' c=dk (.tup vs):=λc vs e=>kp2 c _ (λmm=>by
    rcases JE.mp mm with y|y
    . rw[y,hn.go]at e;cases e
    . exact S.noT e y) e
   exact k H' hn2 (StT.grow R P S2 ht (wy hp (hts nm (by
    cases y:ts.contains nm with
   |false=>exact absurd y h0
   |true=>rw[Kc]at y;exact of_decide_eq_true y)) v2)) kp2
def B6:Sp:=λvs H Q _=>∃ i:Int,vs=[.int i]/\Q (.bl D') H
def xY:Sp:=λvs H Q _=>∃ (i:Int) (k:Str),vs=[.int i,.str k]/\∀ H',bZ H H'->Q (.bl (gc i k)) H'
def yk:Sp:=λvs H Q _=>∃ (t:G') (x:Dd),vs=[.ref t]/\H t=dk (.tup x.vs)/\x.Ok/\∀ H',bZ H H'->Q (.bl D') H'
def Er:Sp:=λvs H Q _=>∃ (t:G') (x:Dd),vs=[.ref t]/\H t=dk (.tup x.vs)/\∀ H',bZ H H'->Q (.int (sdI x.side)) H'
def Aw (G:Gs K mg a d):FnOk P w K mg base CX0 1 a.gZ d.gZ ["value"] B6:=by
 refine G.ql.ok uY (λvs H Q E h=>?_) (λcdv A' outer s' H vs Q E hr h=>?_)
 . obtain⟨i,rfl,_⟩:=h;rfl
 . obtain⟨i,rfl,k⟩:=h;refine⟨_,((F4 (bn ez (by rfl) G.du cA ((pv 0)∣((lO (v:=.ty "int") (by rfl) G.GT FQ rfl)∣ac))) (Cm (FM (bn ez (by rfl) G.du cA ((pv 0)∣((lO (v:=.ty "bool") (by rfl) G.Cr yY rfl)∣ac))))))⁻¹),?_⟩;exact⟨_,rfl,_,_,.type "int",D',rfl,.int i,Gu,_,rfl,iQ ⟨_,rfl,_,_,.type "int",j',rfl,.int i,GQ,_,rfl,k⟩⟩
def Eo (G:Gs K mg a d):FnOk P w K mg base CX0 2 a.kE d.kE ["value","kind"] xY:=by
 have OT:FnOk P w K mg base CX0 1 _ _ _ _:=Aw G;refine G.uf.ok xm (λvs H Q E h=>?_) (λcdv A' outer s' H vs Q E hr h=>?_)
 . obtain⟨i,k,rfl,_⟩:=h;rfl
 . obtain⟨i,kd,rfl,k⟩:=h;refine⟨_,((aK (gG (cP (aF OT (hr.mono (by decide)) (by rfl) G.x8 G.ql.kp G.xL .nil aq ((pv 0)∣ac)))) (bI⁻¹) ap)∪((aK (am bJ (pv 1) ao (av _)) ((BG Fj Fj (Ge CF (wI (by rfl) G.mw)) (pv 0) (wI (by rfl) G.mw))⁻¹) ap)∪((aK (am bJ (pv 1) ao (av _)) ((cY gE (pv 0) (@bb _ _ _ _ _ (ag∣(ag∣ac))) (by with_unfolding_all rfl))⁻¹) ap)∪(bI⁻¹)))),?_⟩;refine⟨_,rfl,i,rfl,_,rfl,iM ?_⟩;refine⟨_,rfl,rfl,_,rfl,?_⟩;by_cases h1:kd="worth"
   . refine iR (Pl (by rw[h1])) ?_;have e:gc i kd=(decide (-1000000000 <= i) && decide (i <= 1000000000)):=by unfold gc;rw[Pg h1]
     refine⟨_,rfl,_,rfl,_,_,rfl,rfl,_,rfl,?_⟩;by_cases hb:-1000000000 <= i
     . refine iR (Pl hb) ⟨_,_,rfl,rfl,?_⟩;rw[Pl hb,Bool.true_and]at e;show Q (.bl (decide (i <= 1000000000))) H;rw[<-e];exact k _ λ_ _ z=>z
     . refine cR (by rw[Pj];exact hb) ?_;rw[decide_eq_false hb,Bool.false_and]at e;show Q (.bl j') H;rw[<-e];exact k _ λ_ _ z=>z
   . refine cR (by rw[Pj];exact sne h1) ?_;refine⟨_,rfl,rfl,_,rfl,?_⟩;by_cases h2:kd="side"
     . refine iR (Pl (by rw[h2])) ?_;have e:gc i kd=(decide (i=0) || decide (i=1)):=by unfold gc;rw[Ph h1,Pg h2]
       refine⟨_,rfl,l2,λt ht=>⟨t,_,rfl,.inr (SqT.of a9),rfl,rfl,?_⟩⟩;simp only[JP,if_false];have e2:inV (.int i) [V.int 0,V.int 1]=gc i kd:=by
        have:=Ae i [0,1];show inV (.int i) (([0,1]:List Int).map V.int)=_;rw[this,e,Kc,KN,Pj,Bool.or_eq_true,Pj,Pj];simp
       rw[e2];exact k _ (ai ht)
     . refine cR (by rw[Pj];exact sne h2) ?_;have e:gc i kd=D':=by unfold gc;rw[Ph h1,Ph h2]
       show Q (.bl D') H;rw[<-e];exact k _ λ_ _ z=>z
def Bn (x:Dd):∃ b,PyProof.Rows.KTD.datumAt x.word [("ask",a.fh),("collect",a.fo),("take",a.fM),("answer",a.fi),("bell",a.fw),("lie",a.fL),("look",a.fK),("drain",a.fq)]=dk b/\(∀ (G:Gs K mg a d) (H:Hp),SqT K H b (x.ks.map V.str)):=by
 cases x
 . exact⟨_,rfl,λG=>G.y3⟩
 . exact⟨_,rfl,λG=>G.zh⟩
 . exact⟨_,rfl,λG=>G.yA⟩
 . exact⟨_,rfl,λG=>G.yN⟩
 . exact⟨_,rfl,λG=>G.zk⟩
 . exact⟨_,rfl,λG=>G.A2⟩
 . exact⟨_,rfl,λG=>G.zD⟩
 . exact⟨_,rfl,λG=>G.A8⟩
def yj (G:Gs K mg a d):FnOk P w K mg base CX0 3 a.kC d.kC ["some"] yk:=by
 have OS:FnOk P w K mg base CX0 2 _ _ _ _:=Eo G;refine G.ub.ok pQ (λvs H Q E h=>?_) (λcdv A' outer s' H vs Q E hr h=>?_)
 . obtain⟨t,x,rfl,_⟩:=h;rfl
 . obtain⟨t,x,rfl,ht,hx,k⟩:=h;have hu:=dF hr;refine⟨_,((aK ((o4 (gG (cP (bn ez (by rfl) G.du cA ((pv 0)∣((lO (v:=.ty "tuple") (by rfl) G.qK no rfl)∣ac))))) (o4 (am bJ (bn bo (by rfl) G.oQ jP ((pv 0)∣ac)) ag (av _)) (l8 (gG (cP (bn ez (by rfl) G.du cA ((@aC _ _ _ _ _ _ _ aA (pv 0) ag (λ_ _=>rfl))∣((lO (v:=.ty "str") (by rfl) G.GR FZ rfl)∣ac))))))))).pt (bI⁻¹) ap)∪((@aX _ _ 1 _ _ _ _ pQ.nd rfl (JQ rfl) (Aa (by rfl) G.DF G.D7 (@aC _ _ _ _ _ _ _ aA (pv 0) ag (λ_ _=>rfl)) ⟨rfl,rfl,rfl,rfl⟩) (by rfl) (by first|exact .inl rfl|exact .inr rfl|assumption))∪((aK ((o4 (am Ct (pv 1) gM (av _)) (l8 (am pf (bn bo (by rfl) G.oQ jP ((pv 0)∣ac)) (@cO _ _ _ _ _ _ _ _ jM (bn bo (by rfl) G.oQ jP ((pv 1)∣ac)) ag) (av _))))).pt (bI⁻¹) ap)∪((bn (C7 rfl) (by rfl) G.Hr FV ((by exact C1 (x:="value") (x2:="kind") (g:=Hg K 2 (zn (mR 0) (zn (mR 1) GI))) (tc:=λ_ H Q=>Q D' H) (te:=Eh xY [] E0 (ut (ug 0) (ut (ug 1) EA))) (caps:=[]) (js:=[]) rfl (mr rfl rfl (by decide +kernel) (by decide +kernel) rfl trivial rfl rfl) (λC s₃ H₃ Lv ex E'=>by exact EX rfl (show (["value","kind"]:List Str).Nodup from by decide +kernel) rfl rfl (.inl (lookup_relabel_local rfl)) (.inl (lookup_relabel_local rfl)) rfl rfl) trivial (Fa (by rfl) G.Hu ((fY Cq (pv 0) (hU ag) kq)∣((pv 1)∣ac))) (λC s₃ H₃ Lv ex E'=>by exact mY) (λC s₃ H₃ Lv ex E'=>by exact(aF OS (hr.mono (by decide)) (by rfl) G.zH G.uf.kp G.Af .nil aq ((pv 0)∣((pv 1)∣ac)))))∣ac))⁻¹)))),?_⟩;obtain⟨b,hb,hs⟩:=Bn (K:=K) (mg:=mg) (d:=d) (a:=a) x;have hs:=hs G;obtain⟨l1,l2'⟩:=x.len;have ht':H t=dk (.tup (.str x.word :: x.args.map V.int)):=by rw[<-x.vs_eq];exact ht
   refine⟨_,rfl,_,_,.type "tuple",D',rfl,.tup ht',EO,_,rfl,iM ?_⟩;refine⟨_,rfl,t,_,rfl,.inr (SqT.of ht'),rfl,_,rfl,cR (by rw[Pj];exact λy=>by have:=jB y;rw[JN]at this;omega) ?_⟩;refine⟨_,rfl,t,_,_,_,rfl,rfl,SqT.of ht',bF,_,_,.type "str",D',rfl,.str _,Gn,_,rfl,iM ?_⟩;refine⟨_,rfl,t,_,_,_,rfl,rfl,SqT.of ht',bF,x.word,rfl,?_⟩;rw[hb];refine⟨_,rfl,rfl,_,rfl,iM ?_⟩;refine⟨_,rfl,t,_,rfl,.inr (SqT.of ht'),_,rfl,b,_,rfl,.inr (hs H),_,_,rfl,rfl,rfl,_,rfl,cR ?_ ?_⟩
   . rw[Lm,decide_eq_false_iff_not,Decidable.not_not];refine congrArg V.int ?_;rw[JN,Ju,Ju,l1];rfl
   refine⟨_,rfl,_,rfl,t,_,rfl,SqT.of ht',?_,λp1 hp1=>⟨_,rfl,D',p1,b,_,_,rfl,SqT.of a9,hs _,?_⟩⟩
   . rintro⟨y,_⟩;rw[show (dk (1:Int))=dk ((1:Nat):Int) from rfl,HT.sIx_nat,JN]at y;omega
   have e1:=ai (o:=.tup (kY (V.str x.word :: x.args.map V.int) (dk 1) Jd)) hp1;rw[show (dk (1:Int))=dk ((1:Nat):Int) from rfl,qg,show List.drop 1 (V.str x.word :: x.args.map V.int)=x.args.map V.int from rfl]at e1 |-;have v1:upd H p1 (.tup (x.args.map V.int)) p1=dk (.tup (x.args.map V.int)):=a9;intro D hD;generalize upd H p1 (.tup (x.args.map V.int))=H1 at e1 v1 hD |-;refine⟨λi mm ys H'=>i <= x.args.length/\mm=x.args.length - i/\ys=(replicate i D').map V.bl/\H' D=dk (.lst ys)/\∀ c o,c≠D->H1 c=dk o->H' c=dk o,⟨_,KG _,rfl,rfl,a9,λc o n e=>by rw[aa n];exact e⟩,?_⟩;rintro i mm ys H2 ⟨hi,rfl,rfl,hD2,k2⟩;have e2:bZ H1 H2:=λc o e=>k2 c o (λy=>by rw[y,hD]at e;cases e) e
   refine⟨hD2,Jj (show _ < 1000 by rw[Ju,K6];omega) (by decide),?_⟩;by_cases hii:i=x.args.length
   . refine .inl ⟨⟨_,SqT.of (e2 _ _ v1),by rw[Ju];omega⟩,D,replicate i D',rfl,SqL.of hD2,?_⟩;have:(replicate i D').all id=D':=by
      rw[all_eq_true];intro y hy;rw[(List.mem_replicate.mp hy).2];rfl
     rw[this];exact k _ (e1.trans e2)
   . have hlt:i < x.args.length:=by omega
     have hlt2:i < x.ks.length:=by omega
     refine .inr ⟨⟨_,_,_,_,SqT.of (e2 _ _ v1),hs _,by rw[Ke,Jl hlt];rfl,by rw[Ke,Jl hlt2];rfl⟩,?_⟩;rintro v H3 ⟨T,xv,yv,hT,rfl,rfl,hxv,hyv⟩ v0 v1';have hxv:=hxv _ (SqT.of (e2 _ _ v1));have hyv:=hyv _ (hs _);rw[Ke,Jl hlt]at hxv;rw[Ke,Jl hlt2]at hyv;cases hxv;cases hyv;refine⟨T,_,rfl,SqT.of a9,rfl,_,_,rfl,_,_,rfl,rfl,_,_,rfl,?_⟩;refine iQ ⟨_,rfl,_,rfl,_,_,rfl,λH4 e4=>?_⟩;have hp:=Dd.part hx i _ _ (Jl hlt) (Jl hlt2);rw[hp];have nD:D≠T:=λy=>by rw[<-y,hD2]at hT;cases hT
     refine⟨e4 _ _ (by rw[aa nD];exact hD2),x.args.length - (i+1),by omega,by omega,rfl,by rw[List.replicate_succ',Ld];rfl,a9,λc o n e=>?_⟩;rw[aa n];exact e4 _ _ (ai hT _ _ (k2 c o n e))
def Dz (G:Gs K mg a d):FnOk P w K mg base CX0 1 a.jZ d.jZ ["some"] Er:=by
 refine G.tZ.ok xI (λvs H Q E h=>?_) (λcdv A' outer s' H vs Q E hr h=>?_)
 . obtain⟨t,x,rfl,_⟩:=h;rfl
 . obtain⟨t,x,rfl,ht,k⟩:=h;have hu:=dF hr;refine⟨_,((aK (am gE (@aC _ _ _ _ _ _ _ aA (pv 0) ag (λ_ _=>rfl)) (@bb _ _ _ _ _ (ao∣(ao∣ac))) (by with_unfolding_all rfl)) (ag⁻¹) ap)∪((aK (am gE (@aC _ _ _ _ _ _ _ aA (pv 0) ag (λ_ _=>rfl)) (@bb _ _ _ _ _ (ao∣(ao∣ac))) (by with_unfolding_all rfl)) (ag⁻¹) ap)∪((@aC _ _ _ _ _ _ _ aA (pv 0) ag (λ_ _=>rfl))⁻¹))),?_⟩;have ht':H t=dk (.tup (.str x.word :: x.args.map V.int)):=by rw[<-x.vs_eq];exact ht
   refine⟨_,rfl,t,_,_,_,rfl,rfl,SqT.of ht',bF,l2,λt1 h1=>⟨t1,_,rfl,.inr (SqT.of a9),rfl,rfl,_,rfl,?_⟩⟩;have e1:=ai (o:=.tup [V.str "ask",V.str "collect"]) h1;generalize upd H t1 (.tup [V.str "ask",V.str "collect"])=H1 at e1 |-;rcases x.grp with⟨c1,hsd⟩|⟨c1,hsd⟩|⟨c1,hsd⟩
   . refine iR ?_ ?_
     . rcases c1 with y|y<;>(rw[y];decide +kernel)
     . rw[hsd]at k;exact k H1 e1
   . refine cR ?_ ?_
     . rcases c1 with y|y<;>(rw[y];decide +kernel)
     refine⟨_,rfl,t,_,_,_,rfl,rfl,SqT.of (e1 _ _ ht'),bF,l2,λt2 h2=>⟨t2,_,rfl,.inr (SqT.of a9),rfl,rfl,_,rfl,iR ?_ ?_⟩⟩
     . rcases c1 with y|y<;>(rw[y];decide +kernel)
     . rw[hsd]at k;exact k _ (e1.trans (ai h2))
   . refine cR ?_ ?_
     . rcases c1 with y|y|y|y<;>(rw[y];decide +kernel)
     refine⟨_,rfl,t,_,_,_,rfl,rfl,SqT.of (e1 _ _ ht'),bF,l2,λt2 h2=>⟨t2,_,rfl,.inr (SqT.of a9),rfl,rfl,_,rfl,cR ?_ ?_⟩⟩
     . rcases c1 with y|y|y|y<;>(rw[y];decide +kernel)
     rw[hsd]at ht';exact⟨_,rfl,t,_,_,_,rfl,rfl,SqT.of ((e1.trans (ai h2)) _ _ ht'),rfl,k _ (e1.trans (ai h2))⟩
def xi (w:Jp) (CH CR CS F N:G'):Sp:=λvs H Q E=>∃ (z:HA) (sa:SA) (p:RP) (n:Nat) (aw:List Int) (m:Mem) (rs:Bool->List Wr),vs=[.ref z.h]/\Hn CH CR H z sa.x p n aw/\StT w CS H sa m rs/\p.Ok/\n <= 9 /\
 if aZ p m (rs j') .asked .taken=p.s then E (.ref F) Jd H else match cF n aw with|none=>E (.ref N) Jd H|some _=>Q .non H
def xM (w:Jp) (CT CR CS F N:G'):Sp:=λvs H Q E=>∃ (z:TA') (sa:SA) (p:RP) (ts:List Int) (m:Mem) (rs:Bool->List Wr) (nm:Int),vs=[.ref z.h,.int nm]/\Tn CT CR H z sa.x p ts/\StT w CS H sa m rs/\p.Ok /\
 if ts.contains nm=j' then E (.ref N) Jd H else if aZ p m (rs D') .answered .handed=p.s then E (.ref F) Jd H else Q .non H
def Du {w:Jp}{CH CR CS F N:G'}{vs:List V}{H:Hp}{Q:VK}{E:XK}(h:xi w CH CR CS F N vs H Q E):vE w CH CR CS F N vs H Q E:=by
 obtain⟨z,sa,p,n,aw,m,rs,rfl,hn,⟨M,r,S,R,P⟩,hp,n9,k⟩:=h;exact⟨z,sa,p,n,aw,M,r,rdC m (rs j') .asked,rdC m (rs j') .taken,rfl,hn,S,hp,n9,cc R (P j') .asked,cc R (P j') .taken,k⟩
def El {w:Jp}{CT CR CS F N:G'}{vs:List V}{H:Hp}{Q:VK}{E:XK}(h:xM w CT CR CS F N vs H Q E):tQ w CT CR CS F N vs H Q E:=by
 obtain⟨z,sa,p,ts,m,rs,nm,rfl,hn,⟨M,r,S,R,P⟩,hp,k⟩:=h;exact⟨z,sa,p,ts,M,r,rdC m (rs D') .answered,rdC m (rs D') .handed,nm,rfl,hn,S,hp,cc R (P D') .answered,cc R (P D') .handed,k⟩
def rfC (a:Ad):Rf->G'
|.deed=>a.gH
|.full=>a.uk
|.name=>a.fU
|.task=>a.fQ
def yP (w:Jp) (ad:Ad):Sp:=λvs H Q E=>∃ (a:YA) (q:YP) (S:YS) (x:Dd) (t:G'),vs=[.ref a.y,.ref t]/\Yn w ad.b5 ad.dn ad.aY ad.bT ad.aD H a q S/\q.Ok/\H t=dk (.tup x.vs)/\x.Ok /\
 ∀ H',bZ H H'->match x.chk q S with|none=>Q .non H'|some r=>E (.ref (rfC ad r)) Jd H'
def zf (w:Jp) (ad:Ad):Sp:=λvs H Q _=>∃ (a:YA) (q:YP) (S:YS) (x:Dd) (t:G'),vs=[.ref a.y,.ref t]/\Yn w ad.b5 ad.dn ad.aY ad.bT ad.aD H a q S/\q.Ok/\H t=dk (.tup x.vs)/\x.Ok /\
 ∀ H',bZ H H'->Q (.bl (x.chk q S).isNone) H'
def En {f:Bool->Bd}(b:Bool):atI [V.str (f j').key,V.str (f D').key] (sdI b)=dk (.str (f b).key):=by cases b<;>rfl
def ER {f:Bool->Bool}(b:Bool):atI [V.bl (f j'),V.bl (f D')] (sdI b)=dk (.bl (f b)):=by cases b<;>rfl
def tW (G:Gs K mg a d):FnOk P w K mg base (CXv P w) 8 a.eG d.eG ["self","some"] (yP w a):=by
 have OR:FnOk P w K mg base CX0 3 _ _ _ _:=yj G;have O9:FnOk P w K mg base CX0 1 _ _ _ _:=Dz G;have Ov:FnOk P w K mg base CX0 1 _ _ _ _:=(qM G).imp λvs H Q E=>xZ
 have Pb:FnOk P w K mg base (CXv P w) 6 _ _ _ _:=(wb G).imp λvs H Q E=>Du
 have Pd:FnOk P w K mg base (CXv P w) 6 _ _ _ _:=(tK G).imp λvs H Q E=>El
 refine G.sM.okX (k:=7) qY (λvs H Q E h=>?_) (λcdv A' outer s' H vs Q E hr hR h=>?_)
 . obtain⟨y,q,S,x,t,rfl,_⟩:=h;rfl
 . obtain⟨y,q,S,x,t,rfl,Y,qo,ht,hx,k⟩:=h;have hu:=dF hr;refine⟨_,((aK (gG (cP (aF OR (hr.mono (by decide)) (by rfl) G.y9 G.ub.kp G.zl .nil aq ((pv 1)∣ac)))) (@al _ _ _ (gU hR hr.hd (by rfl) G.qI G.xc_NoDeed (ao∣ac))) ap)∪((aK (am bJ (@aC _ _ _ _ _ _ _ aA (pv 1) ag (λ_ _=>rfl)) ao (av _)) ((aK (gG (lw (au (aj (pv 0) rfl) G.az G.cN Ov (hr.mono (by decide)) G.dG .nil aq ((@aC _ _ _ _ _ _ _ aA (pv 1) ag (λ_ _=>rfl))∣ac)) (λ_=>rfl))) (@al _ _ _ (gU hR hr.hd (by rfl) G.qI G.xc_NoDeed (ao∣ac))) ap)∪(@al _ _ _ D9)) ap)∪((aK (am pf (@aC _ _ _ _ _ _ _ bg (aj (pv 0) rfl) (aF O9 (hr.mono (by decide)) (by rfl) G.zd G.tZ.kp G.xS .nil aq ((pv 1)∣ac)) (λ_ _=>rfl)) (lB (am bJ (@aC _ _ _ _ _ _ _ aA (pv 1) ag (λ_ _=>rfl)) ao (av _)) ao ao) (av _)) (@al _ _ _ (gU hR hr.hd (by rfl) G.qI G.xc_NoDeed (ao∣ac))) ap)∪((aK (am bJ (@aC _ _ _ _ _ _ _ aA (pv 1) ag (λ_ _=>rfl)) ao (av _)) (@al _ _ _ (@aB _ _ _ _ (aI (aj (pv 0) rfl) G.bH G.gL Pb (hr.mono (by decide)) G.iH .nil hR.passes) (by rfl))) ap)∪(@al _ _ _ (aK (am bJ (@aC _ _ _ _ _ _ _ aA (pv 1) ag (λ_ _=>rfl)) ao (av _)) (@al _ _ _ (@aB _ _ _ _ (au (aj (pv 0) rfl) G.bv G.eQ Pd (hr.mono (by decide)) G.f6 .nil hR.passes ((@aC _ _ _ _ _ _ _ aA (pv 1) ag (λ_ _=>rfl))∣ac)) (by rfl))) ap)))))),?_⟩;have ht':H t=dk (.tup (.str x.word :: x.args.map V.int)):=by rw[<-x.vs_eq];exact ht
   refine⟨_,rfl,t,x,rfl,ht,hx,λH1 e1=>⟨_,rfl,iM ?_⟩⟩;have Y1:=Y.same e1;have ht1:=e1 _ _ ht';refine⟨_,rfl,t,_,_,_,rfl,rfl,SqT.of ht1,bF,rfl,_,rfl,?_⟩;by_cases hd:∃ b,x=.drain b
   . obtain⟨b,rfl⟩:=hd;refine iR (Pl rfl) ?_;refine⟨_,rfl,gI Y1.ob G.ak G.aR fc (dQ Y1.x.st.ob (bK (by decide +kernel) (by decide +kernel)) ?_)⟩;refine⟨_,rfl,t,_,_,_,rfl,rfl,SqT.of ht1,rfl,y.sa,S.m,S.rs,b,rfl,Y1.x.st,λp2 ts hp2 dv=>?_⟩;have e2:=ai (o:=.lst ts) hp2;have hl:=io dv;rw[Ju]at hl;refine⟨!ts.isEmpty,.inl ⟨_,SqL.of a9,rfl⟩,?_⟩;have k2:=k _ (e1.trans e2);cases hrs:S.rs b with
    |nil =>
      rw[hrs]at hl;have:ts=[]:=length_eq_zero_iff.mp hl;subst this;rw[show (Dd.drain b).chk q S=dk .deed from Pg hrs]at k2;exact iQ ⟨by show 1 <= Jm;decide,k2⟩
    |cons r c8 =>
      rw[hrs]at hl;have:ts.isEmpty=j':=by cases ts with|nil=>cases hl|cons=>rfl
      rw[this];rw[show (Dd.drain b).chk q S=Jd from Ph (by rw[hrs];exact λy=>by cases y)]at k2;exact iM k2
   . have hnd:∀ b,x≠.drain b:=λb e=>hd ⟨b,e⟩
     refine cR (by rw[Pj];exact sne λy=>hd ((x.word_drain).mp y)) ?_;refine⟨_,rfl,gI Y1.ob G.ak G.aS cj ?_⟩;refine⟨_,rfl,t,x,rfl,e1 _ _ ht,λH2 e2=>?_⟩;have Y2:=Y1.same e2;have ht2:=e2 _ _ ht1;refine⟨y.sl,_,_,_,rfl,rfl,SqL.of Y2.sl,En x.side,?_⟩;refine⟨_,rfl,t,_,_,_,rfl,rfl,SqT.of ht2,bF,rfl,_,rfl,?_⟩;have e3:=e1.trans e2;have bad:∀ {X:Prop},S.bd x.side≠x.need->E (.ref a.gH) Jd H2:=λ{X} hb=>by
      have k2:=k H2 e3;rw[Dd.chk_bed hnd hb]at k2;exact k2
     rcases x.word_look with⟨hw,hn,b,rfl⟩|⟨hw,hn⟩
     . refine iR (Pl (by rw[hw])) ⟨rfl,_,rfl,?_⟩;by_cases hb:S.bd (Dd.look b).side=(Dd.look b).need
       . refine cR (by rw[hb,hn];decide +kernel) ?_;refine⟨_,rfl,t,_,_,_,rfl,rfl,SqT.of ht2,bF,rfl,_,rfl,cR (by rw[Pj];exact sne (show ¬ (("look":Str)="ask") by decide +kernel)) ?_⟩;refine⟨_,rfl,t,_,_,_,rfl,rfl,SqT.of ht2,bF,rfl,_,rfl,cR (by rw[Pj];exact sne (show ¬ (("look":Str)="answer") by decide +kernel)) ?_⟩;have k2:=k H2 e3;rw[show (Dd.look b).chk q S=Jd from Pg hb]at k2;exact k2
       . refine iR ?_ ⟨by show 1 <= Jm;decide,bad (X:=True) hb⟩;have:=Aq hb;rw[hn]at this;rw[Lm,decide_eq_false_iff_not];exact this
     . refine cR (by rw[Pj];exact sne hw) ⟨rfl,_,rfl,?_⟩;by_cases hb:S.bd x.side=x.need
       . refine cR (by rw[hb,hn];decide +kernel) ?_;rcases x.word_aa with⟨wt,rfl⟩|⟨nm,wt,rfl⟩|⟨h1,h2,h3⟩
         . refine⟨_,rfl,t,_,_,_,rfl,rfl,SqT.of ht2,bF,rfl,_,rfl,iR (Pl rfl) ?_⟩;refine⟨_,rfl,gI Y2.ob G.ak G.eO se (dQ Y2.x.hn.ob wQ ⟨y.z,y.sa,q.p,q.n,S.un,S.m,S.rs,rfl,Y2.x.hn,Y2.x.st,qo.ok,qo.n9,?_⟩)⟩;have k2:=k H2 e3;rw[show (Dd.ask wt).chk q S=_ from Pg hb]at k2;by_cases hc:aZ q.p S.m (S.rs j') .asked .taken=q.p.s
           . rw[Pg hc]at k2 |-;exact k2
           . rw[Ph hc]at k2 |-;cases hl:cF q.n S.un with
            |none=>rw[hl]at k2;exact k2
            |some nm =>
              rw[hl]at k2;exact⟨_,rfl,t,_,_,_,rfl,rfl,SqT.of ht2,bF,rfl,_,rfl,cR (by rw[Pj];exact sne (show ¬ (("ask":Str)="answer") by decide +kernel)) k2⟩
         . refine⟨_,rfl,t,_,_,_,rfl,rfl,SqT.of ht2,bF,rfl,_,rfl,cR (by rw[Pj];exact sne (show ¬ (("answer":Str)="ask") by decide +kernel)) ?_⟩;refine⟨_,rfl,t,_,_,_,rfl,rfl,SqT.of ht2,bF,rfl,_,rfl,iR (Pl rfl) ?_⟩;refine⟨_,rfl,gI Y2.ob G.ak G.cE kN (dQ Y2.x.tn.ob vx ⟨_,rfl,t,_,_,_,rfl,rfl,SqT.of ht2,rfl,y.zt,y.sa,q.p,S.tk,S.m,S.rs,nm,rfl,Y2.x.tn,Y2.x.st,qo.ok,?_⟩)⟩;have k2:=k H2 e3;rw[show (Dd.answer nm wt).chk q S=_ from Pg hb]at k2;by_cases h0:S.tk.contains nm=j'
           . rw[Pg h0]at k2 |-;exact k2
           . rw[Ph h0]at k2 |-;by_cases hc:aZ q.p S.m (S.rs D') .answered .handed=q.p.s
             . rw[Pg hc]at k2 |-;exact k2
             . rw[Ph hc]at k2 |-;exact k2
         . refine⟨_,rfl,t,_,_,_,rfl,rfl,SqT.of ht2,bF,rfl,_,rfl,cR (by rw[Pj];exact sne h1) ?_⟩;refine⟨_,rfl,t,_,_,_,rfl,rfl,SqT.of ht2,bF,rfl,_,rfl,cR (by rw[Pj];exact sne h2) ?_⟩;have k2:=k H2 e3;rw[h3 q S hnd hb]at k2;exact k2
       . refine iR ?_ ⟨by show 1 <= Jm;decide,bad (X:=True) hb⟩;have:=Aq hb;rw[hn]at this;rw[Lm,decide_eq_false_iff_not];exact this
def zy (G:Gs K mg a d):FnOk P w K mg base CX0 10 a.br d.br ["self","some"] (zf w a):=by
 have Pe:FnOk P w K mg base (CXv P w) 8 _ _ _ _:=tW G;refine G.mo.ok kK (λvs H Q E h=>?_) (λcdv A' outer s' H vs Q E hr h=>?_)
 . obtain⟨y,q,S,x,t,rfl,_⟩:=h;rfl
 . obtain⟨y,q,S,x,t,rfl,Y,qo,ht,hx,k⟩:=h;have hu:=dF hr;refine⟨_,((EI ⟨rfl,rfl,rfl⟩ (λLv R=>by exact(@al _ _ _ (@aB _ _ _ _ (B1 rfl (pv 0) G.ak G.lG Pe (hr.mono (by decide)) G.mq .nil ((pv 1)∣ac)) (by rfl)))) (Ee ⟨rfl,rfl,rfl⟩ (by rfl) G.uA (λe=>by exact(bI⁻¹)) EN))∪(bI⁻¹)),?_⟩;refine⟨λσ' cls H'=>bZ H H'/\x.chk q S≠Jd/\Ki K cls (.ref a.gJ)=dk D',?_,?_⟩
   . refine⟨_,rfl,dQ Y.ob (dP (by decide +kernel)) ⟨_,rfl,y,q,S,x,t,rfl,Y,qo,ht,hx,λH1 e1=>?_⟩⟩;cases hc:x.chk q S with
    |none =>
      have k1:=k H1 e1;rw[hc]at k1;exact k1
    |some r =>
      refine⟨e1,(λy=>by cases y),?_⟩;cases r
      . exact G.IY
      . exact G.IK
      . exact G.Iz
      . exact G.Ix
   . rintro σ' cls H' ⟨e1,hc,em⟩;have k1:=k H' e1;cases hc':x.chk q S with
    |none=>exact absurd hc' hc
    |some r =>
      rw[hc']at k1;exact⟨D',em,k1⟩
def FT (s R:Int) (n:Nat) (fs:List Str):YP:=⟨⟨s,if fs.contains "round" then 1 else R,fs.contains "counter"⟩,n,!fs.contains "bell",!fs.contains "lie",!fs.contains "look"⟩
def Az (w:Jp) (ad:Ad):Sp:=λvs H Q _=>∃ (y dx ft:G') (s R:Int) (n:Nat) (fs:List Str),vs=[.ref y,.int s,.int R,.int n,.ref ft]/\H y=dk (.ins ad.b5 dx [])/\H ft=dk (.tup (fs.map V.str)) /\
 ∀ (a:YA) (H':Hp),a.y=y->(∀ c,a.own c->c≠y->H c=Jd)->Yn w ad.b5 ad.dn ad.aY ad.bT ad.aD H' a (FT s R n fs) YS.zero->Kp [y] H H'->Q .non H'
def DB (w:Jp) (ad:Ad):Sp:=λvs H Q _=>∃ (a:YA) (q:YP) (S:YS),vs=[.ref a.y]/\Yn w ad.b5 ad.dn ad.aY ad.bT ad.aD H a q S/\∀ t,H t=Jd->Q (.ref t) (upd H t (.tup [.int q.p.s,.int q.p.R]))
def Bq (w:Jp) (ad:Ad):Sp:=λvs H Q _=>∃ (a:YA) (q:YP) (S:YS),vs=[.ref a.y]/\Yn w ad.b5 ad.dn ad.aY ad.bT ad.aD H a q S/\∀ l ts,H l=Jd->DVs H S.hs ts->Q (.ref l) (upd H l (.lst ts))
def xJ (w:Jp) (ad:Ad):Sp:=λvs H Q _=>∃ (a:YA) (q:YP) (S:YS) (b:Bool),vs=[.ref a.y,.int (sdI b)]/\Yn w ad.b5 ad.dn ad.aY ad.bT ad.aD H a q S/\Q (.str (S.bd b).key) H
def xE (w:Jp) (ad:Ad):Sp:=λvs H Q _=>∃ (a:YA) (q:YP) (S:YS) (b:Bool),vs=[.ref a.y,.int (sdI b)]/\Yn w ad.b5 ad.dn ad.aY ad.bT ad.aD H a q S/\Q (.bl (S.qt b)) H
def y7 (w:Jp) (ad:Ad):Sp:=λvs H Q _=>∃ (a:YA) (q:YP) (S:YS),vs=[.ref a.y]/\Yn w ad.b5 ad.dn ad.aY ad.bT ad.aD H a q S/\Q (.ref a.sa.x) H
def D8 (G:Gs K mg a d):FnOk P w K mg base CX0 1 a.fJ d.fJ ["self"] (DB w a):=by
 refine G.uW.ok tS (λvs H Q E h=>?_) (λcdv A' outer s' H vs Q E hr h=>?_)
 . obtain⟨y,q,S,rfl,_⟩:=h;rfl
 . obtain⟨y,q,S,rfl,Y,k⟩:=h;refine⟨_,((@bb _ _ _ _ _ ((aj (pv 0) rfl)∣((aj (pv 0) rfl)∣ac)))⁻¹),?_⟩;exact⟨_,rfl,gI Y.ob G.ak G.mE CW ⟨_,rfl,gI Y.ob G.ak G.jJ y6 ⟨l2,λt ht=>k t ht⟩⟩⟩
def vK (G:Gs K mg a d):FnOk P w K mg base CX0 1 a.dZ d.dZ ["self"] (Bq w a):=by
 refine G.sP.ok qG (λvs H Q E h=>?_) (λcdv A' outer s' H vs Q E hr h=>?_)
 . obtain⟨y,q,S,rfl,_⟩:=h;rfl
 . obtain⟨y,q,S,rfl,Y,k⟩:=h;refine⟨_,((iY mt (by rfl) G.Cv zb ((aj (pv 0) rfl)∣ac))⁻¹),?_⟩;obtain⟨ts,h1,h2⟩:=Y.hp;exact⟨_,rfl,gI Y.ob G.ak G.bY iE ⟨y.hp,ts,rfl,.inl (SqL.of h1),λl hl=>k l ts hl h2⟩⟩
def qq (G:Gs K mg a d):FnOk P w K mg base CX0 1 a.cu d.cu ["self","side"] (xJ w a):=by
 refine G.ph.ok oo (λvs H Q E h=>?_) (λcdv A' outer s' H vs Q E hr h=>?_)
 . obtain⟨y,q,S,b,rfl,_⟩:=h;rfl
 . obtain⟨y,q,S,b,rfl,Y,k⟩:=h;refine⟨_,((@aC _ _ _ _ _ _ _ bg (aj (pv 0) rfl) (pv 1) (λ_ _=>rfl))⁻¹),?_⟩;exact⟨_,rfl,gI Y.ob G.ak G.aS cj ⟨_,rfl,y.sl,_,_,_,rfl,rfl,SqL.of Y.sl,En b,k⟩⟩
def wX (G:Gs K mg a d):FnOk P w K mg base CX0 1 a.bO d.bO ["self","side"] (xE w a):=by
 refine G.oj.ok mO (λvs H Q E h=>?_) (λcdv A' outer s' H vs Q E hr h=>?_)
 . obtain⟨y,q,S,b,rfl,_⟩:=h;rfl
 . obtain⟨y,q,S,b,rfl,Y,k⟩:=h;refine⟨_,((@aC _ _ _ _ _ _ _ bg (aj (pv 0) rfl) (pv 1) (λ_ _=>rfl))⁻¹),?_⟩;exact⟨_,rfl,gI Y.ob G.ak G.dH mZ ⟨_,rfl,y.qu,_,_,_,rfl,rfl,SqL.of Y.qu,ER b,k⟩⟩
def lD (G:Gs K mg a d):FnOk P w K mg base CX0 1 a.dW d.dW ["self"] (y7 w a):=by
 refine G.tN.ok rc (λvs H Q E h=>?_) (λcdv A' outer s' H vs Q E hr h=>?_)
 . obtain⟨y,q,S,rfl,_⟩:=h;rfl
 . obtain⟨y,q,S,rfl,Y,k⟩:=h;refine⟨_,((aj (pv 0) rfl)⁻¹),?_⟩;exact⟨_,rfl,gI Y.ob G.ak G.aR fc k⟩
def Bv (G:Gs K mg a d):FnOk P w K mg base CX0 6 a.eA d.eA ["self","size","rounds","names","faults"] (Az w a):=by
 have O8:FnOk P w K mg base CX0 1 _ _ _ _:=vZ G;have Om:FnOk P w K mg base CX0 1 _ _ _ _:=(D3 G).imp λvs H Q E=>Hb
 have N3:FnOk P w K mg base CX0 4 _ _ _ _:=AB G;have N7:FnOk P w K mg base CX0 4 _ _ _ _:=BD G;refine G.tD.ok rS (λvs H Q E h=>?_) (λcdv A' outer s' H vs Q E hr h=>?_)
 . obtain⟨y,dx,ft,s,R,n,fs,rfl,_⟩:=h;rfl
 . obtain⟨y,dx,ft,s,R,n,fs,rfl,hx,hf,k⟩:=h;have hu:=dF hr;refine⟨_,((bi (pv 0) (pv 1) rfl)∪((bi (pv 0) (aF O8 (hr.mono (by decide)) (by rfl) G.lx G.gY.kp G.lH .nil aq ((pv 2)∣((pv 4)∣ac))) rfl)∪((bi (pv 0) (iY lA (by rfl) G.qK no ((pv 4)∣ac)) rfl)∪((bi (pv 0) (vB G.DW Om (hr.mono (by decide)) (by rfl) G.Dq G.rH .nil aq) rfl)∪((bi (pv 0) (kA G.Gc N3 (hr.mono (by decide)) (by rfl) G.Fs G.tL .nil aq ((aj (pv 0) rfl)∣((pv 1)∣((pv 2)∣((pv 3)∣((pv 4)∣ac)))))) rfl)∪((bi (pv 0) (kA G.DC N7 (hr.mono (by decide)) (by rfl) G.DT G.qO .nil aq ((aj (pv 0) rfl)∣((pv 1)∣((pv 2)∣((pv 4)∣ac))))) rfl)∪((bi (pv 0) (cY jc ao (pv 4) (by with_unfolding_all rfl)) rfl)∪((bi (pv 0) (cY jc ao (pv 4) (by with_unfolding_all rfl)) rfl)∪((bi (pv 0) (cY jc ao (pv 4) (by with_unfolding_all rfl)) rfl)∪((bi (pv 0) (@bW _ _ _ _ (ao∣(ao∣ac))) rfl)∪((bi (pv 0) (@bW _ _ _ _ (bI∣(bI∣ac))) rfl)∪(@al _ _ _ (bi (pv 0) (@bW _ _ _ _ ac) rfl))))))))))))),?_⟩;refine⟨_,rfl,_,rfl,y,a.b5,dx,[],rfl,hx,G.ak,G.mE,by decide,?_⟩;have fy:ft≠y:=λz=>by rw[z,hx]at hf;cases hf
   refine⟨_,rfl,_,rfl,R,ft,fs,rfl,by rw[aa fy];exact hf,_,rfl,y,a.b5,dx,_,rfl,a9,G.ak,G.jJ,by show 1 < 1000;decide,?_⟩;rw[dO];refine⟨_,rfl,ft,_,rfl,.inr ⟨SqT.of (by rw[aa fy];exact hf),?_⟩⟩;refine⟨_,rfl,y,a.b5,dx,_,rfl,a9,G.ak,G.pB,by show 2 < 1000;decide,?_⟩;rw[dO];generalize hF3:ba "faults" (.ref ft) (ba "rounds" (.int (if fs.contains "round" then 1 else R)) (ba "size" (.int s) []))=F3;have hl3:F3.length=3:=by rw[<-hF3];rfl
   have kp3:Kp [y] H (upd H y (.ins a.b5 dx F3)):=Kp.one;have hx3:upd H y (.ins a.b5 dx F3) y=dk (.ins a.b5 dx F3):=a9;have hf3:upd H y (.ins a.b5 dx F3) ft=dk (.tup (fs.map V.str)):=by rw[aa fy];exact hf
   generalize upd H y (.ins a.b5 dx F3)=H3 at kp3 hx3 hf3 |-;have up:∀ {Hi:Hp} {F:List (Str × V)} {c:G'} {o:HO},c≠y->Hi c=dk o->upd Hi y (.ins a.b5 dx F) c=dk o:=λn e=>by rw[aa n];exact e
   have nn:∀ {Hi:Hp} {F:List (Str × V)} {c:G'},Hi y=dk (.ins a.b5 dx F)->Hi c=Jd->c≠y:=λe h z=>by rw[z,e]at h;cases h
   intro x dxs nx ndx nex;refine⟨x,dxs,rfl,a9,λsa H4 hsx fsa S4 kp4=>⟨rfl,?_⟩⟩;have e4:=l5 nx ndx kp4;have fs4:∀ c,sa.own c->H3 c=Jd:=λc hc=>by
    by_cases z:c=x
    . rw[z];exact nx
    . exact(up1 (up1 (fsa c hc z)).2).2
   subst hsx;refine⟨_,rfl,y,a.b5,dx,F3,rfl,e4 _ _ hx3,G.ak,G.aR,by rw[hl3];decide,?_⟩;clear kp4 nx ndx nex fsa;have S5:StT w a.aD (upd H4 y (.ins a.b5 dx (ba "shelf" (.ref sa.x) F3))) sa Mem.zero λ_=>[]:=S4.keep (λc o hc e=>up (nn hx3 (fs4 c hc)) e) λb vs e=>up (λz=>by rw[z,e4 _ _ hx3]at e;cases e) e
   have kp5:Kp [y] H3 (upd H4 y (.ins a.b5 dx (ba "shelf" (.ref sa.x) F3))):=λc o n e=>up (λz=>n (Je.mpr z)) (e4 _ _ e)
   have hx5:upd H4 y (.ins a.b5 dx (ba "shelf" (.ref sa.x) F3)) y=dk (.ins a.b5 dx (ba "shelf" (.ref sa.x) F3)):=a9;have hf5:upd H4 y (.ins a.b5 dx (ba "shelf" (.ref sa.x) F3)) ft=dk (.tup (fs.map V.str)):=up fy (e4 _ _ hf3);generalize upd H4 y (.ins a.b5 dx (ba "shelf" (.ref sa.x) F3))=H5 at S5 kp5 hx5 hf5 |-;clear S4 e4;refine⟨_,rfl,gI ⟨dx,hx5⟩ G.ak G.aR (v:=.ref sa.x) (by rw[a8,Pg rfl]) ⟨_,rfl,_,rfl,_,rfl,_,rfl,?_⟩⟩;intro h dh nh ndh neh;refine⟨h,dh,sa.x,ft,s,R,n,fs,rfl,a9,?_,λz H6 hz g1 g2 g3 hn6 kp6=>⟨rfl,?_⟩⟩
   . rw[aa (ae hf5 nh),aa (ae hf5 ndh)];exact hf5
   have e6:=l5 nh ndh kp6;have fz:∀ c,z.own c->H5 c=Jd:=λc h2=>by
    rcases h2 with y|y|y|y
    . rw[y,hz];exact nh
    . rw[y];exact(up1 (up1 g1).2).2
    . rw[y];exact(up1 (up1 g2).2).2
    . rw[y];exact(up1 (up1 g3).2).2
   subst hz;refine⟨_,rfl,y,a.b5,dx,_,rfl,e6 _ _ hx5,G.ak,G.eO,?_,?_⟩
   . rw[<-hF3];show 4 < 1000;decide
   generalize hF7:ba "hand" (.ref z.h) (ba "shelf" (.ref sa.x) F3)=F7;have S7:StT w a.aD (upd H6 y (.ins a.b5 dx F7)) sa Mem.zero λ_=>[]:=(S5.same e6).keep (λc o hc e=>up (nn hx3 (fs4 c hc)) e) λb vs e=>up (λz=>by rw[z,e6 _ _ hx5]at e;cases e) e
   have hn7:Hn a.dn a.bT (upd H6 y (.ins a.b5 dx F7)) z sa.x ⟨s,if fs.contains "round" then 1 else R,fs.contains "counter"⟩ n []:=hn6.keep λc o hc e=>up (nn hx5 (fz c hc)) e
   have kp7:Kp [y] H5 (upd H6 y (.ins a.b5 dx F7)):=λc o n e=>up (λz=>n (Je.mpr z)) (e6 _ _ e)
   have hx7:upd H6 y (.ins a.b5 dx F7) y=dk (.ins a.b5 dx F7):=a9;have hf7:upd H6 y (.ins a.b5 dx F7) ft=dk (.tup (fs.map V.str)):=up fy (e6 _ _ hf5);generalize upd H6 y (.ins a.b5 dx F7)=H7 at S7 hn7 kp7 hx7 hf7 |-;clear kp6 nh ndh neh g1 g2 g3 S5 hn6 e6;refine⟨_,rfl,gI ⟨dx,hx7⟩ G.ak G.aR (v:=.ref sa.x) (by rw[<-hF7,a8,Ph (by decide +kernel),a8,Pg rfl]) ⟨_,rfl,_,rfl,_,rfl,?_⟩⟩;intro h dh nh ndh neh;refine⟨h,dh,sa.x,ft,s,R,fs,rfl,a9,?_,λzt H8 hz g1 g2 g3 tn8 kp8=>⟨rfl,?_⟩⟩
   . rw[aa (ae hf7 nh),aa (ae hf7 ndh)];exact hf7
   have e8:=l5 nh ndh kp8;have fzt:∀ c,zt.own c->H7 c=Jd:=λc h2=>by
    rcases h2 with y|y|y|y
    . rw[y,hz];exact nh
    . rw[y];exact(up1 (up1 g1).2).2
    . rw[y];exact(up1 (up1 g2).2).2
    . rw[y];exact(up1 (up1 g3).2).2
   subst hz;have dz:∀ c,z.own c->¬ zt.own c:=λc h1 h2=>by
    obtain⟨o,e,_⟩:=hn7.there h1;rw[fzt c h2]at e;cases e
   refine⟨_,rfl,y,a.b5,dx,_,rfl,e8 _ _ hx7,G.ak,G.cE,?_,?_⟩
   . rw[<-hF7,<-hF3];show 5 < 1000;decide
   have hf9:∀ F,upd H8 y (.ins a.b5 dx F) ft=dk (.tup (fs.map V.str)):=λF=>up fy (e8 _ _ hf7)
   refine⟨_,rfl,ft,_,rfl,.inr (SqT.of (hf9 _)),rfl,fF fs,?_⟩;refine⟨_,rfl,y,a.b5,dx,_,rfl,a9,G.ak,G.fe,?_,?_⟩
   . rw[<-hF7,<-hF3];show 6 < 1000;decide
   rw[dO];refine⟨_,rfl,ft,_,rfl,.inr (SqT.of (hf9 _)),rfl,fF fs,?_⟩;refine⟨_,rfl,y,a.b5,dx,_,rfl,a9,G.ak,G.gf,?_,?_⟩
   . rw[<-hF7,<-hF3];show 7 < 1000;decide
   rw[dO];refine⟨_,rfl,ft,_,rfl,.inr (SqT.of (hf9 _)),rfl,fF fs,?_⟩;refine⟨_,rfl,y,a.b5,dx,_,rfl,a9,G.ak,G.gy,?_,?_⟩
   . rw[<-hF7,<-hF3];show 8 < 1000;decide
   rw[dO];simp only[if_true,nS];generalize hF9:ba "look_sees" (V.bl (!fs.contains "look")) (ba "lie_fences" (V.bl (!fs.contains "lie")) (ba "bell_fences" (V.bl (!fs.contains "bell")) (ba "heart" (V.ref zt.h) F7)))=F9;have hl9:F9.length=9:=by rw[<-hF9,<-hF7,<-hF3];rfl
   have S9:StT w a.aD (upd H8 y (.ins a.b5 dx F9)) sa Mem.zero λ_=>[]:=(S7.same e8).keep (λc o hc e=>up (nn hx3 (fs4 c hc)) e) λb vs e=>up (λz=>by rw[z,e8 _ _ hx7]at e;cases e) e
   have hn9:=(hn7.same e8).keep (H':=upd H8 y (.ins a.b5 dx F9)) λc o hc e=>up (nn hx5 (fz c hc)) e
   have tn9:=Tn.keep (H':=upd H8 y (.ins a.b5 dx F9)) tn8 λc o hc e=>up (nn hx7 (fzt c hc)) e
   have kp9:Kp [y] H7 (upd H8 y (.ins a.b5 dx F9)):=λc o n e=>up (λz=>n (Je.mpr z)) (e8 _ _ e)
   have hx9:upd H8 y (.ins a.b5 dx F9) y=dk (.ins a.b5 dx F9):=a9;generalize upd H8 y (.ins a.b5 dx F9)=H9 at S9 hn9 tn9 kp9 hx9 |-;clear kp8 nh ndh neh g1 g2 g3 S7 hn7 e8 tn8 hf9;have X9:X5 w a.dn a.aY a.bT a.aD H9 z zt sa ⟨s,if fs.contains "round" then 1 else R,fs.contains "counter"⟩ n Mem.zero (λ_=>[]) [] []:=⟨hn9,tn9,S9,dz⟩
   clear S9 hn9 tn9;have kpA:Kp [y] H H9:=kp3.trans (kp5.trans (kp7.trans kp9));have ow:∀ c,xA z zt sa c->H3 c=Jd:=λc hc=>by
    rcases hc with hc|hc|hc
    . exact fA kp5 (fz c hc) λx mx=>by rw[Je.mp mx,hx5];exact λz=>by cases z
    . exact fA (kp5.trans kp7) (fzt c hc) λx mx=>by rw[Je.mp mx,hx7];exact λz=>by cases z
    . exact fs4 c hc
   have owH:∀ c,xA z zt sa c->H c=Jd:=λc hc=>fA kp3 (ow c hc) λx mx=>by rw[Je.mp mx,hx3];exact λz=>by cases z
   have owy:¬ xA z zt sa y:=λhc=>by have:=ow y hc;rw[hx3]at this;cases this
   clear kp3 kp5 kp7 kp9 fs4 fz fzt;have stp:∀ {Hi:Hp} {Fi F':List (Str × V)} {l:G'} {o:HO},Hi y=dk (.ins a.b5 dx Fi)->Hi l=Jd->(∀ c u,c≠y->Hi c=dk u->upd (upd Hi l o) y (.ins a.b5 dx F') c=dk u)/\upd (upd Hi l o) y (.ins a.b5 dx F') l=dk o/\upd (upd Hi l o) y (.ins a.b5 dx F') y=dk (.ins a.b5 dx F'):=λ{Hi Fi F' l o} hy hl =>
    ⟨λc u n e=>up n (by rw[aa (ae e hl)];exact e),up (nn hy hl) a9,a9⟩
   have kx:∀ {Hi Hj:Hp},(∀ c u,c≠y->Hi c=dk u->Hj c=dk u)->(∃ F,Hi y=dk (.ins a.b5 dx F))->X5 w a.dn a.aY a.bT a.aD Hi z zt sa ⟨s,if fs.contains "round" then 1 else R,fs.contains "counter"⟩ n Mem.zero (λ_=>[]) [] []->X5 w a.dn a.aY a.bT a.aD Hj z zt sa ⟨s,if fs.contains "round" then 1 else R,fs.contains "counter"⟩ n Mem.zero (λ_=>[]) [] []:=λ{Hi Hj} kk ⟨F,hy⟩ X=>X.keep (λc o hc e=>kk c o (λy'=>owy (by rw[<-y'];exact hc)) e) λb vs e=>kk b _ (λy'=>by rw[y',hy]at e;cases e) e
   refine⟨l2,λsl hsl=>⟨_,rfl,y,a.b5,dx,F9,rfl,(by rw[aa (ae hx9 hsl)];exact hx9),G.ak,G.aS,by rw[hl9];decide,?_⟩⟩;obtain⟨a1,a2,a3⟩:=stp (F':=ba "sleepers" (.ref sl) F9) (o:=.lst [V.str "up",V.str "up"]) hx9 hsl;generalize upd (upd H9 sl (.lst [V.str "up",V.str "up"])) y (.ins a.b5 dx (ba "sleepers" (.ref sl) F9))=H10 at a1 a2 a3 |-;have X10:=kx a1 ⟨_,hx9⟩ X9;refine⟨l2,λqu hqu=>⟨_,rfl,y,a.b5,dx,_,rfl,(by rw[aa (ae a3 hqu)];exact a3),G.ak,G.dH,?_,?_⟩⟩
   . rw[<-hF9,<-hF7,<-hF3];show 10 < 1000;decide
   obtain⟨b1,b2,b3⟩:=stp (F':=ba "quiet" (.ref qu) (ba "sleepers" (.ref sl) F9)) (o:=.lst [V.bl D',V.bl D']) a3 hqu;generalize upd (upd H10 qu (.lst [V.bl D',V.bl D'])) y (.ins a.b5 dx (ba "quiet" (.ref qu) (ba "sleepers" (.ref sl) F9)))=H11 at b1 b2 b3 |-;have X11:=kx b1 ⟨_,a3⟩ X10;have b4:=b1 _ _ (nn hx9 hsl) a2;refine⟨rT,λhp hhp=>⟨_,rfl,y,a.b5,dx,_,rfl,(by rw[aa (ae b3 hhp)];exact b3),G.ak,G.bY,?_,?_⟩⟩
   . rw[<-hF9,<-hF7,<-hF3];show 11 < 1000;decide
   obtain⟨c1,c2,c3⟩:=stp (F':=ba "happened" (.ref hp) (ba "quiet" (.ref qu) (ba "sleepers" (.ref sl) F9))) (o:=.lst []) b3 hhp;generalize upd (upd H11 hp (.lst [])) y (.ins a.b5 dx (ba "happened" (.ref hp) (ba "quiet" (.ref qu) (ba "sleepers" (.ref sl) F9))))=H12 at c1 c2 c3 |-;have X12:=kx c1 ⟨_,b3⟩ X11;have c4:=c1 _ _ (nn hx9 hsl) b4;have c5:=c1 _ _ (nn a3 hqu) b2;have n1:sl≠qu:=ae a2 hqu;have n2:sl≠hp:=ae b4 hhp;have n3:qu≠hp:=ae b2 hhp;have kpB:Kp [y] H H12:=λc o n e=>c1 c o (λz=>n (Je.mpr z)) (b1 c o (λz=>n (Je.mpr z)) (a1 c o (λz=>n (Je.mpr z)) (kpA c o n e)))
   have nH:∀ {Hi:Hp} {c:G'},Kp [y] H Hi->(∃ F,Hi y=dk (.ins a.b5 dx F))->Hi c=Jd->H c=Jd:=λkk ⟨F,e⟩ h=>fA kk h λx mx=>by rw[Je.mp mx,e];exact λz=>by cases z
   have kp10:Kp [y] H H10:=λc o n e=>a1 c o (λz=>n (Je.mpr z)) (kpA c o n e)
   have kp11:Kp [y] H H11:=λc o n e=>b1 c o (λz=>n (Je.mpr z)) (kp10 c o n e)
   refine k ⟨y,ft,sa,z,zt,sl,qu,hp⟩ H12 rfl (λc hc ny=>?_) ⟨⟨dx,?_⟩,X12,c4,c5,⟨[],c2,rfl⟩,λ_ h=>(by cases h),λc hc h5=>?_,⟨n1,n2,n3⟩,owy⟩ kpB
   . rcases hc with y'|hc|y'|y'|y'
     . exact absurd y' ny
     . exact owH c hc
     . rw[y'];exact nH kpA ⟨_,hx9⟩ hsl
     . rw[y'];exact nH kp10 ⟨_,a3⟩ hqu
     . rw[y'];exact nH kp11 ⟨_,b3⟩ hhp
   . rw[c3,<-hF9,<-hF7,<-hF3];rfl
   . rcases hc with y'|y'|y'
     . obtain⟨o,e,_⟩:=X9.there h5;rw[y',hsl]at e;cases e
     . obtain⟨o,e,_⟩:=X10.there h5;rw[y',hqu]at e;cases e
     . obtain⟨o,e,_⟩:=X11.there h5;rw[y',hhp]at e;cases e
def TD (H:Hp) (x:Dd) (v:V):Prop:=∃ t,v=.ref t/\H t=dk (.tup x.vs)
def TD.keep {H H':Hp}(ht:∀ b vs,H b=dk (.tup vs)->H' b=dk (.tup vs)) {x:Dd}{v:V}(h:TD H x v):TD H' x v:=by
 obtain⟨t,e,h⟩:=h;exact⟨t,e,ht _ _ h⟩
def qD {H H':Hp}(ht:∀ b vs,H b=dk (.tup vs)->H' b=dk (.tup vs)) {xs:List Dd}{vs:List V}(h:JC (TD H) xs vs):JC (TD H') xs vs:=Paired.mapP h λ_ _ q=>q.keep ht
def mC (ws:List Int):List Dd:=ws.map Dd.ask++[.collect,.take]
def gN (ws ks:List Int):List Dd:=mC ws++ks.flatMap λnm=>ws.map (Dd.answer nm)
def Fx:List Dd:=[.bell j',.bell D',.lie j',.lie D',.look j',.look D',.drain j',.drain D']
def iI (ws ks:List Int):List Dd:=gN ws ks++Fx
def BQ (w:Jp) (ad:Ad) (K:Jh):Sp:=λvs H Q _=>∃ (a:YA) (q:YP) (S:YS) (wl:G') (ws:List Int),vs=[.ref a.y,.ref wl]/\Yn w ad.b5 ad.dn ad.aY ad.bT ad.aD H a q S/\H wl=dk (.lst (ws.map V.int))/\ws.length <= 60/\S.tk.length < 64 /\
 ∀ (l:G') (ks:List Int) (ts:List V) (H':Hp),ks.Perm S.tk->ks.Pairwise (· <= ·)->H l=Jd->bZ H H'->H' l=dk (.lst ts)->JC (TD H') (iI ws ks) ts->Q (.ref l) H'
theorem gz {α β:Type}{R:α->β->Prop}:∀ {a:List α}{b:List β}{c:List α}{d:List β},JC R a b->JC R c d->JC R (a++c) (b++d)
|_,_,_,_,.nil,h=>h
|_,_,_,_,.cons r t,h=>.cons r (gz t h)
theorem kJ (ws:List Int):∀ ks:List Int,(ks.flatMap λnm=>ws.map (Dd.answer nm)).length=ks.length * ws.length
|[]=>by simp
|k :: ks=>by
  rw[List.flatMap_cons,Ji,kJ ws ks,Ju,JN,Nat.succ_mul];omega
def Cg:List V:=[.str "bell",.str "lie",.str "look",.str "drain"]
def Fc {j:Nat}{v:V}(h:Cg[j]?=dk v):∃ x0 x1 wd,v=.str wd/\x0.vs=[.str wd,.int 0]/\x1.vs=[.str wd,.int 1]/\Fx.take (2 * (j+1))=Fx.take (2 * j)++[x0,x1]:=by
 match j,h with
|0,h=>cases h;exact⟨.bell j',.bell D',_,rfl,rfl,rfl,rfl⟩
|1,h=>cases h;exact⟨.lie j',.lie D',_,rfl,rfl,rfl,rfl⟩
|2,h=>cases h;exact⟨.look j',.look D',_,rfl,rfl,rfl,rfl⟩
|3,h=>cases h;exact⟨.drain j',.drain D',_,rfl,rfl,rfl,rfl⟩
|_+4,h=>cases h
structure Gr (H H':Hp) (D:G') (xs:List Dd) (ts:List V):Prop where
 kp:∀ c o,c≠D->H c=dk o->H' c=dk o
 at_:H' D=dk (.lst ts)
 td:JC (TD H') xs ts
 new:H D=Jd
section
variable {H H' H'':Hp}{D:G'}{xs es:List Dd}{ts zs:List V}
def Gr.same (g:Gr H H' D xs ts) (s:bZ H' H''):Gr H H'' D xs ts:=⟨λc o n e=>s _ _ (g.kp c o n e),s _ _ g.at_,qD (λb vs=>s b _) g.td,g.new⟩
def Gr.sm (g:Gr H H' D xs ts):bZ H H':=λc o e=>g.kp c o (λy=>by rw[y,g.new]at e;cases e) e
def Gr.len (g:Gr H H' D xs ts):ts.length=xs.length:=(aG g.td).symm
def Gr.ext (g:Gr H H' D xs ts) (h:JC (TD H') es zs):Gr H (upd H' D (.lst (ts++zs))) D (xs++es) (ts++zs):=by
 have tu:∀ b vs,H' b=dk (.tup vs)->upd H' D (.lst (ts++zs)) b=dk (.tup vs):=λb vs e=>by
  rw[aa (λz=>by rw[z,g.at_]at e;cases e)];exact e
 exact⟨λc o n e=>by rw[aa n];exact g.kp c o n e,a9,gz (qD tu g.td) (qD tu h),g.new⟩
end
def Bo (G:Gs K mg a d):FnOk P w K mg base CX0 2 a.bB d.bB ["self","worths"] (BQ w a K):=by
 have Oa:FnOk P w K mg base CX0 1 _ _ _ _:=B8 G;refine G.mS.ok cy (λvs H Q E h=>?_) (λcdv A' outer s' H vs Q E hr h=>?_)
 . obtain⟨y,q,S,wl,ws,rfl,_⟩:=h;rfl
 . obtain⟨y,q,S,wl,ws,rfl,Y,hw,wlen,tlen,k⟩:=h;have hu:=dF hr;refine⟨_,((by exact qk (iN:=2) (caps:=[]) (js:=[]) cy.nd rfl (JQ rfl) (by rfl) rfl (mr rfl rfl (by decide +kernel) (by decide +kernel) rfl trivial rfl rfl) (by decide +kernel) trivial (ik (pv 1)) (λC s₃ H₃ Lv ex E'=>by exact mY) (λC s₃ H₃ Lv ex E'=>by exact(@bb _ _ _ _ _ (ao∣((pv 0)∣ac)))))∪((@aB _ _ _ _ (@lv _ _ _ _ _ _ _ _ _ _ _ _ JH PySem.F.slot_list_extend PySem.F.type_list_extend oy (pv 2) ((@bW _ _ _ _ ((@bb _ _ _ _ _ (ao∣ac))∣((@bb _ _ _ _ _ (ao∣ac))∣ac)))∣ac) (by rfl) (by rfl) (by rfl) (by rfl) (by rfl)) (by rfl))∪((kP KL rfl (ik (aI (aj (pv 0) rfl) G.bv G.pA Oa (hr.mono (by decide)) G.rB .nil aq)) (bR (i:=3) cy.nd rfl (Or.inr rfl)) (@al _ _ _ (@aB _ _ _ _ (@lv _ _ _ _ _ _ _ _ _ _ _ _ JH PySem.F.slot_list_extend PySem.F.type_list_extend oy (pv 2) ((by exact nQ (caps:=["name"]) (js:=[3]) rfl (mr rfl rfl (by decide +kernel) (by decide +kernel) rfl ⟨rfl,trivial⟩ rfl rfl) (by decide +kernel) ⟨⟨⟨_,rfl⟩,rfl,.inl rfl,.inl rfl⟩,trivial⟩ (ik (pv 1)) (λC s₃ H₃ Lv ex E'=>by exact mY) (λC s₃ H₃ Lv ex E'=>by exact(@bb _ _ _ _ _ (ao∣((pv 1)∣((pv 0)∣ac))))))∣ac) (by rfl) (by rfl) (by rfl) (by rfl) (by rfl)) (by rfl))))∪((kP KL rfl (CK (@bb _ _ _ _ _ (ao∣(ao∣(ao∣(ao∣ac)))))) (bR (i:=4) cy.nd rfl (JQ rfl)) (@al _ _ _ (@aB _ _ _ _ (@lv _ _ _ _ _ _ _ _ _ _ _ _ JH PySem.F.slot_list_extend PySem.F.type_list_extend oy (pv 2) ((@bW _ _ _ _ ((@bb _ _ _ _ _ ((pv 4)∣(ag∣ac)))∣((@bb _ _ _ _ _ ((pv 4)∣(ag∣ac)))∣ac)))∣ac) (by rfl) (by rfl) (by rfl) (by rfl) (by rfl)) (by rfl))))∪((pv 2)⁻¹))))),?_⟩;refine⟨_,rfl,wl,rfl,⟨_,SqL.of hw⟩,λD hD=>?_⟩;refine⟨λi mm ys H'=>i <= ws.length/\mm=ws.length - i/\Gr H H' D ((ws.take i).map Dd.ask) ys,⟨_,KG _,rfl,λc o n e=>(by rw[aa n];exact e),a9,.nil,hD⟩,?_⟩;rintro i mm ys H1 ⟨hi,rfl,g1⟩;have hyl:=g1.len;rw[Ju,KR]at hyl;refine⟨g1.at_,Jj (show _ < 1000 by omega) (by decide),?_⟩;by_cases hii:i=ws.length;rotate_left
   . have hlt:i < ws.length:=by omega
     refine .inr ⟨⟨_,_,SqL.of (g1.sm _ _ hw),by rw[Ke,Jl hlt];rfl⟩,?_⟩;rintro v H2 ⟨rfl,hv⟩;have hv:=hv _ (SqL.of (g1.sm _ _ hw));rw[Ke,Jl hlt]at hv;cases hv;refine iQ ⟨_,rfl,l2,λt ht=>?_⟩;have g2:=g1.same (ai (o:=.tup [V.str "ask",V.int ws[i]]) ht);refine⟨g2.at_,ws.length - (i+1),by omega,by omega,rfl,?_⟩;rw[take_add_one,Jl hlt,Ld];exact g2.ext (.cons ⟨t,rfl,a9⟩ .nil)
   refine .inl ⟨⟨_,SqL.of (g1.sm _ _ hw),by rw[Ju];omega⟩,?_⟩;rw[hii,take_length]at g1;rw[hii,Nat.min_self]at hyl;refine⟨_,rfl,.inl ⟨rfl,_,SqL.of g1.at_⟩,xa,λt1 h1=>⟨xa,λt2 h2=>⟨l2,λlq h3=>?_⟩⟩⟩;have s1:=ai (o:=.tup [V.str "collect"]) h1;have s2:=ai (o:=.tup [V.str "take"]) h2;have s3:=ai (o:=.lst [V.ref t1,V.ref t2]) h3;have g3:=((g1.same s1).same s2).same s3;have p3:JC (TD (upd (upd (upd H1 t1 (.tup [V.str "collect"])) t2 (.tup [V.str "take"])) lq (.lst [V.ref t1,V.ref t2]))) [Dd.collect,Dd.take] [V.ref t1,V.ref t2]:=.cons ⟨t1,rfl,s3 _ _ (s2 _ _ a9)⟩ (.cons ⟨t2,rfl,s3 _ _ a9⟩ .nil);refine⟨D,lq,ys,_,rfl,rfl,g3.at_,a9,JU (show _ <= 1000 by show _+2 <= 1000;omega) (by decide),?_⟩;have g4:=g3.ext p3;have gA:Gr H (upd (upd (upd (upd H1 t1 (.tup [V.str "collect"])) t2 (.tup [V.str "take"])) lq (.lst [V.ref t1,V.ref t2])) D (.lst (ys++[V.ref t1,V.ref t2]))) D (mC ws) (ys++[V.ref t1,V.ref t2]):=g4;clear g3 g4 p3 s1 s2 s3 g1 hii;generalize upd (upd (upd (upd H1 t1 (.tup [V.str "collect"])) t2 (.tup [V.str "take"])) lq (.lst [V.ref t1,V.ref t2])) D (.lst (ys++[V.ref t1,V.ref t2]))=H4 at gA |-;have Y4:=Y.same gA.sm;refine⟨_,rfl,gI Y4.ob G.ak G.cE kN (dQ Y4.x.tn.ob AU ⟨y.zt,y.sa.x,q.p,S.tk,rfl,Y4.x.tn,tlen,λlk ks hk pmk pwk=>⟨lk,rfl,⟨_,SqL.of a9⟩,?_⟩⟩)⟩;have gB:=gA.same (ai (o:=.lst (ks.map V.int)) hk);have vk:upd H4 lk (.lst (ks.map V.int)) lk=dk (.lst (ks.map V.int)):=a9;have nkD:lk≠D:=λz=>by rw[z,gA.at_]at hk;cases hk
   generalize upd H4 lk (.lst (ks.map V.int))=H5 at gB vk |-;clear gA Y4 hk;have hks:ks.length < 64:=by rw[pmk.length_eq];exact tlen
   refine qX (K:=K) (a:=lk) (xs:=ks.map V.int) (λj σ H'=>∃ ts,(∃ v3 v4,σ=[dk (.ref y.y),dk (.ref wl),dk (.ref D),v3,v4])/\Gr H H' D (gN ws (ks.take j)) ts/\H' lk=dk (.lst (ks.map V.int)))
    ⟨_,⟨_,_,rfl⟩,by rw[take_zero];show Gr H H5 D (mC ws++[]) _;rw[K4];exact gB,vk⟩ (λ_ _ _ _ uq16=>by(obtain⟨_,_,_,y⟩:=uq16;exact SqL.of y)) ?_ ?_
   . clear gB vk;rintro j v σ H6 hj ⟨ts,⟨v3,v4,rfl⟩,g6,vk⟩;rw[Ke]at hj;obtain⟨nm,hnm,rfl⟩:=map_eq_some_iff.mp hj;have hjl:=(Jy.mp hnm).1;refine⟨_,rfl,.inl ⟨rfl,_,SqL.of g6.at_⟩,?_⟩;refine⟨_,rfl,wl,rfl,⟨_,SqL.of (g6.sm _ _ hw)⟩,λD2 hD2=>?_⟩;refine⟨λi mm ys H'=>i <= ws.length/\mm=ws.length - i/\Gr H6 H' D2 ((ws.take i).map (Dd.answer nm)) ys,⟨_,KG _,rfl,λc o n e=>(by rw[aa n];exact e),a9,.nil,hD2⟩,?_⟩;rintro i mm ys2 H7 ⟨hi,rfl,g7⟩;have hyl:=g7.len;rw[Ju,KR]at hyl;refine⟨g7.at_,Jj (show _ < 1000 by omega) (by decide),?_⟩;by_cases hii:i=ws.length;rotate_left
     . have hlt:i < ws.length:=by omega
       refine .inr ⟨⟨_,_,SqL.of (g7.sm _ _ (g6.sm _ _ hw)),by rw[Ke,Jl hlt];rfl⟩,?_⟩;rintro v H8 ⟨rfl,hv⟩;have hv:=hv _ (SqL.of (g7.sm _ _ (g6.sm _ _ hw)));rw[Ke,Jl hlt]at hv;cases hv;refine iQ ⟨_,rfl,_,rfl,l3,λt ht=>?_⟩;have g8:=g7.same (ai (o:=.tup [V.str "answer",V.int nm,V.int ws[i]]) ht);refine⟨g8.at_,ws.length - (i+1),by omega,by omega,rfl,?_⟩;rw[take_add_one,Jl hlt,Ld];exact g8.ext (.cons ⟨t,rfl,a9⟩ .nil)
     refine .inl ⟨⟨_,SqL.of (g7.sm _ _ (g6.sm _ _ hw)),by rw[Ju];omega⟩,?_⟩;rw[hii,take_length]at g7;have g8:=g6.same g7.sm;have hl8:=g6.len;have hlb:(gN ws (ks.take j)).length <= 10000:=by
      unfold gN mC;rw[Ji,Ji,Ju,kJ,KR];have h2:min j ks.length * ws.length <= 64 * 60:=Nat.mul_le_mul (by omega) wlen;show ws.length+2+_ <= _;omega
     refine⟨D,D2,ts,ys2,rfl,rfl,g8.at_,g7.at_,JU (show _ <= 20000 by omega) (by decide),?_⟩;have g9:=g8.ext g7.td;refine⟨ts++ys2,⟨_,_,rfl⟩,?_,by rw[aa nkD];exact g7.sm _ _ vk⟩;have:gN ws (ks.take (j+1))=gN ws (ks.take j)++ws.map (Dd.answer nm):=by
      unfold gN;rw[take_add_one,hnm,Option.toList_some,List.flatMap_append,<-Kd];congr 1;simp
     rw[this];exact g9
   . clear gB vk;rintro σ H6 ⟨ts,⟨v3,v4,rfl⟩,g6,vk⟩;rw[Ju,take_length]at g6;have hlb:(gN ws ks).length <= 10000:=by
      unfold gN mC;rw[Ji,Ji,Ju,kJ];have h2:ks.length * ws.length <= 64 * 60:=Nat.mul_le_mul (by omega) wlen;show ws.length+2+_ <= _;omega
     refine⟨by show 4 <= Jm;decide,λtw htw=>⟨tw,rfl,⟨_,SqT.of a9⟩,?_⟩⟩;have g7:=g6.same (ai (o:=.tup Cg) htw);have vw:upd H6 tw (.tup Cg) tw=dk (.tup Cg):=a9;change ∃ W:Nat->Nat->St->Hp->Prop,(∃ m,W 0 m [dk (V.ref y.y),dk (V.ref wl),dk (V.ref D),v3,v4] (upd H6 tw (.tup Cg)))/\_;generalize upd H6 tw (.tup Cg)=H7 at g7 vw |-;refine yJ (K:=K) (a:=tw) (xs:=Cg) (λj σ H'=>∃ ts,(∃ v3 v4,σ=[dk (.ref y.y),dk (.ref wl),dk (.ref D),v3,v4])/\Gr H H' D (gN ws ks++Fx.take (2 * j)) ts/\H' tw=dk (.tup Cg))
      ⟨_,⟨_,_,rfl⟩,by rw[Nat.mul_zero,take_zero,K4];exact g7,vw⟩ (λ_ _ _ _ uq17=>by(obtain⟨_,_,_,y⟩:=uq17;exact SqT.of y)) ?_ ?_
     . clear g7 vw g6;rintro j v σ H8 hj ⟨ts,⟨v3,v4,rfl⟩,g8,vw⟩;obtain⟨x0,x1,wd,rfl,h0,h1,ht⟩:=Fc hj;have hj4:j < 4:=(Jy.mp hj).1;refine⟨_,rfl,.inl ⟨rfl,_,SqL.of g8.at_⟩,_,rfl,l2,λt1 h1'=>⟨_,rfl,l2,λt2 h2=>⟨l2,λlq h3=>?_⟩⟩⟩;have s1:=ai (o:=.tup [V.str wd,V.int 0]) h1';have s2:=ai (o:=.tup [V.str wd,V.int 1]) h2;have s3:=ai (o:=.lst [V.ref t1,V.ref t2]) h3;have g9:=((g8.same s1).same s2).same s3;have p3:JC (TD (upd (upd (upd H8 t1 (.tup [V.str wd,V.int 0])) t2 (.tup [V.str wd,V.int 1])) lq (.lst [V.ref t1,V.ref t2]))) [x0,x1] [V.ref t1,V.ref t2]:=.cons ⟨t1,rfl,by rw[h0];exact s3 _ _ (s2 _ _ a9)⟩ (.cons ⟨t2,rfl,by rw[h1];exact s3 _ _ a9⟩ .nil);have hl8:=g8.len;rw[Ji,KR]at hl8;refine⟨D,lq,ts,_,rfl,rfl,g9.at_,a9,JU (show _ <= 20000 by show _+2 <= _;omega) (by decide),?_⟩;have nwD:tw≠D:=λz=>by rw[z,g8.at_]at vw;cases vw
       refine⟨ts++[V.ref t1,V.ref t2],⟨_,_,rfl⟩,?_,by rw[aa nwD];exact s3 _ _ (s2 _ _ (s1 _ _ vw))⟩;rw[ht,<-Kd];exact g9.ext p3
     . rintro σ H8 ⟨ts,⟨v3,v4,rfl⟩,g8,vw⟩;exact⟨_,rfl,k D ks ts H8 pmk pwk g8.new g8.sm g8.at_ g8.td⟩
def Fg (w:Jp) (ad:Ad) (K:Jh):Sp:=λvs H Q _=>∃ (a:YA) (q:YP) (S:YS) (wl:G') (ws:List Int),vs=[.ref a.y,.ref wl]/\Yn w ad.b5 ad.dn ad.aY ad.bT ad.aD H a q S/\q.Ok/\H wl=dk (.lst (ws.map V.int))/\ws.length <= 60/\(∀ x∈ws,-1000000000 <= x/\x <= 1000000000)/\S.tk.length < 64 /\
 ∀ (l:G') (ks:List Int) (ts:List V) (H':Hp),ks.Perm S.tk->ks.Pairwise (· <= ·)->H l=Jd->bZ H H'->H' l=dk (.lst ts)->JC (TD H') ((iI ws ks).filter λx=>(x.chk q S).isNone) ts->Q (.ref l) H'
def we {ws ks:List Int}(h:∀ x∈ws,-1000000000 <= x/\x <= 1000000000):∀ x∈iI ws ks,x.Ok:=by
 intro x hx;unfold iI gN mC at hx;rcases KU.mp hx with hx|hx
 . rcases KU.mp hx with hx|hx
   . rcases KU.mp hx with hx|hx
     . obtain⟨wt,hw,rfl⟩:=Lg.mp hx;exact h wt hw
     . simp only[JE,Kl,or_false]at hx;rcases hx with rfl|rfl<;>exact trivial
   . obtain⟨nm,_,hx⟩:=List.mem_flatMap.mp hx;obtain⟨wt,hw,rfl⟩:=Lg.mp hx;exact h wt hw
 . simp only[Fx,JE,Kl,or_false]at hx;rcases hx with rfl|rfl|rfl|rfl|rfl|rfl|rfl|rfl<;>exact trivial
def Fb (G:Gs K mg a d):FnOk P w K mg base CX0 12 a.bh d.bh ["self","worths"] (Fg w a K):=by
 have OM:FnOk P w K mg base CX0 2 _ _ _ _:=Bo G;have OE:FnOk P w K mg base CX0 10 _ _ _ _:=zy G;refine G.ln.ok kf (λvs H Q E h=>?_) (λcdv A' outer s' H vs Q E hr h=>?_)
 . obtain⟨y,q,S,wl,ws,rfl,_⟩:=h;rfl
 . obtain⟨y,q,S,wl,ws,rfl,Y,qo,hw,wlen,wok,tlen,k⟩:=h;have hu:=dF hr;refine⟨_,((by exact nQ (caps:=["self"]) (js:=[0]) rfl (mr rfl rfl (by decide +kernel) (by decide +kernel) rfl ⟨rfl,trivial⟩ rfl rfl) (by decide +kernel) ⟨⟨⟨_,rfl⟩,rfl,.inl rfl,.inl rfl⟩,trivial⟩ (ik (au (pv 0) G.ak G.m9 OM (hr.mono (by decide)) G.mL .nil aq ((pv 1)∣ac))) (λC s₃ H₃ Lv ex E'=>by exact rG (cP (au (pv 1) G.ak G.kI OE (hr.mono (by decide)) G.lV .nil aq ((pv 0)∣ac)))) (λC s₃ H₃ Lv ex E'=>by exact(pv 0)))⁻¹),?_⟩;refine⟨_,rfl,dQ Y.ob (dP (by decide +kernel)) ⟨_,rfl,y,q,S,wl,ws,rfl,Y,hw,wlen,tlen,λl ks ts H1 pmk pwk hl e1 h1 td=>⟨l,rfl,⟨_,SqL.of h1⟩,λD hD=>?_⟩⟩⟩;have Y1:=Y.same e1;have tl:=aG td;have okx:=we (ks:=ks) wok;have tlen2:(iI ws ks).length <= 20000:=by
    unfold iI gN mC;rw[Ji,Ji,Ji,Ju,kJ];have hk:=pmk.length_eq;have h2:ks.length * ws.length <= 64 * 60:=Nat.mul_le_mul (by omega) wlen;show ws.length+2+_+8 <= _;omega
   refine⟨λi mm ys H'=>i <= ts.length/\mm=ts.length - i/\Gr H1 H' D (((iI ws ks).take i).filter λx=>(x.chk q S).isNone) ys,⟨_,KG _,rfl,λc o n e=>(by rw[aa n];exact e),a9,.nil,hD⟩,?_⟩;rintro i mm ys H2 ⟨hi,rfl,g2⟩;have hyl:=g2.len;have hfl:=Ln (λx:Dd=>(x.chk q S).isNone) ((iI ws ks).take i);rw[KR]at hfl;refine⟨g2.at_,Jj (show _ < 100000 by omega) (by decide),?_⟩;by_cases hii:i=ts.length;rotate_left
   . have hlt:i < ts.length:=by omega
     refine .inr ⟨⟨_,_,SqL.of (g2.sm _ _ h1),Jl hlt⟩,?_⟩;rintro v H3 ⟨rfl,hv⟩;have hv:=hv _ (SqL.of (g2.sm _ _ h1));obtain⟨x,hx,t,rfl,ht⟩:=nZ td hv;refine⟨_,rfl,dQ (Y1.same g2.sm).ob (dP (by decide +kernel)) ⟨_,rfl,y,q,S,x,t,rfl,Y1.same g2.sm,qo,g2.sm _ _ ht,okx x (Ka hx),λH4 e4=>⟨_,rfl,?_⟩⟩⟩;have g4:=g2.same e4;have et:(iI ws ks).take (i+1)=(iI ws ks).take i++[x]:=by rw[take_add_one,hx];rfl
     cases hc:(x.chk q S).isNone with
    |true =>
      refine iQ ⟨_,rfl,g4.at_,ts.length - (i+1),by omega,by omega,rfl,?_⟩;rw[et,filter_append,Lc,hc];exact g4.ext (.cons ⟨t,rfl,e4 _ _ (g2.sm _ _ ht)⟩ .nil)
    |false =>
      refine iM ⟨ts.length - (i+1),by omega,by omega,rfl,?_⟩;rw[et,filter_append,Lc,hc];simp only[JP,if_false,List.filter_nil,K4];exact g4
   refine .inl ⟨⟨_,SqL.of (g2.sm _ _ h1),by omega⟩,?_⟩;rw[hii,K3 (by omega)]at g2;exact k D ks ys H2 pmk pwk (cw e1 hD) (e1.trans g2.sm) g2.at_ g2.td
def zK (w:Jp) (CH CR CS:G'):Sp:=λvs H Q _=>∃ (z:HA) (sa:SA) (p:RP) (n:Int) (aw:List Int) (m:Mem) (rs:Bool->List Wr),vs=[.ref z.h]/\Hn CH CR H z sa.x p n aw/\StT w CS H sa m rs/\p.Ok/\Q (.bl (decide (aZ p m (rs j') .answered .handed≠0))) H
def zG (w:Jp) (CT CR CS:G'):Sp:=λvs H Q _=>∃ (z:TA') (sa:SA) (p:RP) (ts:List Int) (m:Mem) (rs:Bool->List Wr),vs=[.ref z.h]/\Tn CT CR H z sa.x p ts/\StT w CS H sa m rs/\p.Ok/\Q (.bl (decide (aZ p m (rs D') .asked .taken≠0))) H
def ya (w:Jp) (ad:Ad):Sp:=λvs H Q _=>∃ (a:YA) (q:YP) (S:YS) (b:Bool),vs=[.ref a.y,.int (sdI b)]/\Yn w ad.b5 ad.dn ad.aY ad.bT ad.aD H a q S/\q.Ok/\Q (.bl (swT q S b)) H
def Bh (w:Jp) (ad:Ad) (a:YA) (q:YP) (S':YS) (L:Nat) (dd:Jg) (H:Hp) (Q:VK):Prop:=∀ (v:V) (H':Hp),Yn w ad.b5 ad.dn ad.aY ad.bT ad.aD H' a q S'->YI q S' (L+2)->DV H' dd v->KO a.own H H'->Q v H'
structure Rdy (w:Jp) (ad:Ad) (H:Hp) (a:YA) (q:YP) (S:YS) (L:Nat):Prop where
 y:Yn w ad.b5 ad.dn ad.aY ad.bT ad.aD H a q S
 ok:q.Ok
 i:YI q S L
 l:L < 90000
def AH (w:Jp) (ad:Ad):Sp:=λvs H Q _=>∃ (a:YA) (q:YP) (S:YS) (L:Nat) (wt:Int),vs=[.ref a.y,.int wt]/\Rdy w ad H a q S L/\aZ q.p S.m (S.rs j') .asked .taken≠q.p.s/\cF q.n S.un≠Jd/\Bh w ad a q ((Dd.ask wt).run q S).2 L ((Dd.ask wt).run q S).1 H Q
def Bg (w:Jp) (ad:Ad):Sp:=λvs H Q _=>∃ (a:YA) (q:YP) (S:YS) (L:Nat) (nm wt:Int),vs=[.ref a.y,.int nm,.int wt]/\Rdy w ad H a q S L/\S.tk.contains nm≠j'/\aZ q.p S.m (S.rs D') .answered .handed≠q.p.s/\Bh w ad a q ((Dd.answer nm wt).run q S).2 L ((Dd.answer nm wt).run q S).1 H Q
def sv {own:G'->Prop}{H1 H2 H3:Hp}(h1:KO own H1 H2) (h2:KO own H2 H3):KO own H1 H3:=h1.trans h2 λ_ hc=>.inl hc
def oP {own:G'->Prop}{H:Hp}{c:G'}{o:HO}(h:own c):KO own H (upd H c o):=KO.of_kp Kp.one λx hx=>by rw[Je.mp hx];exact h
def w5 {p:RP}{m:Mem}{row:List Wr}{g:Bool}{a:Cn}{nm wt:Int}:(AI p m row g a nm wt).length=2:=by
 unfold AI;cases p.e<;>rfl
def jl {rs:Bool->List Wr}{L n:Nat}(h:∀ b,(rs b).length <= L) (b:Bool) {row:List Wr}(hr:row.length <= L+n):∀ c,(bq rs b row c).length <= L+n:=λc=>by
 by_cases e:c=b
 . subst e;rw[b9];exact hr
 . rw[fD e];have:=h c;omega
def yo (G:Gs K mg a d):FnOk P w K mg base CX0 6 a.aO d.aO ["self"] (zK w a.dn a.bT a.aD):=by
 have Og:FnOk P w K mg base CX0 3 _ _ _ _:=kU G;refine G.iK.ok hZ (λvs H Q E h=>?_) (λcdv A' outer s' H vs Q E hr h=>?_)
 . obtain⟨z,sa,p,n,aw,m,rs,rfl,_⟩:=h;rfl
 . obtain⟨z,sa,p,n,aw,m,rs,rfl,hn,⟨M,r,S,R,Pr⟩,hp,k⟩:=h;refine⟨_,((cY pf (aI (aj (pv 0) rfl) G.ar G.eJ Og (hr.mono (by decide)) G.f7 .nil aq) ag (av _))⁻¹),?_⟩;obtain⟨dx,hx⟩:=hn.ob;obtain⟨dr,hrb⟩:=hn.rb;refine⟨_,rfl,fld hx G.bH G.fC pM ⟨z.rb,dr,_,rfl,hrb,lr,z.rb,sa,j',"answer","answered","handed",p,M,r,rdC m (rs j') .answered,rdC m (rs j') .handed,rfl,⟨dr,hrb⟩,S,hp,by decide +kernel,by decide +kernel,cc R (Pr j') .answered,cc R (Pr j') .handed,rfl,?_⟩⟩;have e:(!decide (V.int ((rdC m (rs j') .answered - rdC m (rs j') .handed) % (p.s * p.R))=V.int 0))=decide (aZ p m (rs j') .answered .handed≠0):=by
    rw[KN,Lm,decide_eq_false_iff_not,Pj];exact not_congr ⟨λh=>by injection h,λh=>congrArg V.int h⟩
   rw[e];exact k
def yR (G:Gs K mg a d):FnOk P w K mg base CX0 6 a.aL d.aL ["self"] (zG w a.aY a.bT a.aD):=by
 have Og:FnOk P w K mg base CX0 3 _ _ _ _:=kU G;refine G.iD.ok gC (λvs H Q E h=>?_) (λcdv A' outer s' H vs Q E hr h=>?_)
 . obtain⟨z,sa,p,ts,m,rs,rfl,_⟩:=h;rfl
 . obtain⟨z,sa,p,ts,m,rs,rfl,hn,⟨M,r,S,R,Pr⟩,hp,k⟩:=h;refine⟨_,((cY pf (aI (aj (pv 0) rfl) G.ar G.eJ Og (hr.mono (by decide)) G.f7 .nil aq) ag (av _))⁻¹),?_⟩;obtain⟨dx,hx⟩:=hn.ob;obtain⟨dr,hra⟩:=hn.ra;refine⟨_,rfl,fld hx G.bv G.gT Am ⟨z.ra,dr,_,rfl,hra,lr,z.ra,sa,D',"ask","asked","taken",p,M,r,rdC m (rs D') .asked,rdC m (rs D') .taken,rfl,⟨dr,hra⟩,S,hp,by decide +kernel,by decide +kernel,cc R (Pr D') .asked,cc R (Pr D') .taken,rfl,?_⟩⟩;have e:(!decide (V.int ((rdC m (rs D') .asked - rdC m (rs D') .taken) % (p.s * p.R))=V.int 0))=decide (aZ p m (rs D') .asked .taken≠0):=by
    rw[KN,Lm,decide_eq_false_iff_not,Pj];exact not_congr ⟨λh=>by injection h,λh=>congrArg V.int h⟩
   rw[e];exact k
def yt (G:Gs K mg a d):FnOk P w K mg base CX0 7 a.aN d.aN ["self","side"] (ya w a):=by
 have N6:FnOk P w K mg base CX0 6 _ _ _ _:=yo G;have N8:FnOk P w K mg base CX0 6 _ _ _ _:=yR G;refine G.iL.ok ie (λvs H Q E h=>?_) (λcdv A' outer s' H vs Q E hr h=>?_)
 . obtain⟨y,q,S,b,rfl,_⟩:=h;rfl
 . obtain⟨y,q,S,b,rfl,Y,qo,k⟩:=h;refine⟨_,((lB (am bJ (pv 1) ag (av _)) (aI (aj (pv 0) rfl) G.bH G.iu N6 (hr.mono (by decide)) G.iP .nil aq) (aI (aj (pv 0) rfl) G.bv G.gx N8 (hr.mono (by decide)) G.ij .nil aq))⁻¹),?_⟩;refine⟨_,rfl,rfl,_,rfl,?_⟩;cases b with
  |false =>
    refine iR (by decide +kernel) ?_;exact⟨_,rfl,gI Y.ob G.ak G.eO se (dQ Y.x.hn.ob BT ⟨y.z,y.sa,q.p,_,S.un,S.m,S.rs,rfl,Y.x.hn,Y.x.st,qo.ok,k⟩)⟩
  |true =>
    refine cR (by decide +kernel) ?_;exact⟨_,rfl,gI Y.ob G.ak G.cE kN (dQ Y.x.tn.ob Bu ⟨y.zt,y.sa,q.p,S.tk,S.m,S.rs,rfl,Y.x.tn,Y.x.st,qo.ok,k⟩)⟩
def BY (G:Gs K mg a d):FnOk P w K mg base CX0 9 a.cT d.cT ["self","worth"] (AH w a):=by
 have Pa:FnOk P w K mg base (CXv P w) 8 _ _ _ _:=(EJ G).imp λvs H Q E=>J0
 refine G.qL.ok jU (λvs H Q E h=>?_) (λcdv A' outer s' H vs Q E hr h=>?_)
 . obtain⟨y,q,S,L,wt,rfl,_⟩:=h;rfl
 . obtain⟨y,q,S,L,wt,rfl,Rd,hc,hl,k⟩:=h;have Y:=Rd.y;have ll:=Rd.l;have ul:=Rd.i.und.len (by have:=Rd.ok.n9;omega);have rl:=Rd.i.len;have hsl:=Rd.i.hl;refine⟨_,((@aX _ _ 2 _ _ _ _ jU.nd rfl (JQ rfl) (au (aj (pv 0) rfl) G.bH G.vb Pa (hr.mono (by decide)) G.xx .nil DM ((pv 1)∣ac)) (by rfl) (by first|exact .inl rfl|exact .inr rfl|assumption))∪((@aB _ _ _ _ (@lv _ _ _ _ _ _ _ _ _ _ _ _ JH Kh PySem.F.type_list_append dC (aj (pv 0) rfl) ((@bb _ _ _ _ _ (ao∣((pv 2)∣((pv 1)∣ac))))∣ac) (by rfl) (by rfl) (by rfl) (by rfl) (by rfl)) (by rfl))∪((@fZ _ _ _ _ _ _ bI (iJ (aj (pv 0) rfl) ag cQ) (by rfl) (by rfl) (by rfl))∪((pv 2)⁻¹)))),?_⟩;cases hle:cF q.n S.un with
  |none=>exact absurd hle hl
  |some nm =>
    refine⟨_,rfl,gI Y.ob G.ak G.eO se (dQ Y.x.hn.ob EU ⟨_,rfl,y.z,y.sa,q.p,q.n,S.un,S.m,S.rs,wt,rfl,Y.x.hn,Y.x.st,Rd.ok.ok,Rd.ok.n9,by omega,by have:=rl j';omega,?_⟩)⟩;rw[Ph hc,hle];intro H1 hn1 st1 kp1;have Y1:=Y.parts (Y.x.hand hn1 st1 kp1) kp1 qf;obtain⟨ts,h1,h2⟩:=Y1.hp;have tl:=io h2;refine⟨_,rfl,gI Y1.ob G.ak G.bY iE ⟨.inl ⟨rfl,_,SqL.of h1⟩,_,rfl,_,rfl,l3,λt ht=>?_⟩⟩;have e2:=ai (o:=.tup [V.str "asked",V.int nm,V.int wt]) ht;have v2:upd H1 t (.tup [V.str "asked",V.int nm,V.int wt]) t=dk (.tup [V.str "asked",V.int nm,V.int wt]):=a9;generalize upd H1 t (.tup [V.str "asked",V.int nm,V.int wt])=H2 at e2 v2 |-;have Y2:=Y1.same e2;refine⟨y.hp,ts,_,rfl,rfl,e2 _ _ h1,Jj (show _ < 100000 by rw[tl];show S.hs.length < _;omega) (by decide),?_⟩;have Y3:=Y2.setHp (e2 _ _ h1) (x:=pV "asked" (.int nm) (.int wt)) (v:=.ref t) ⟨t,_,rfl,v2,_,_,rfl,rfl,_,_,rfl,rfl,_,_,rfl,rfl,rfl⟩ rfl;refine⟨_,rfl,gI Y3.ob G.ak G.dH mZ ⟨y.qu,_,_,_,rfl,rfl,Y3.qu,rfl,?_⟩⟩;have Y4:=Y3.setQu j' j' (ys:=[.bl j',.bl (S.qt D')]) rfl;have hrun:(Dd.ask wt).run q S=(.int nm,{ S with rs:=bq S.rs j' (S.rs j'++AI q.p S.m (S.rs j') j' .asked nm wt),un:=S.un++[nm],qt:=bq S.qt j' j',hs:=S.hs++[pV "asked" (.int nm) (.int wt)] }):=by
     show (match cF q.n S.un with|some nm=>_|none=>_)=_;rw[hle]
    rw[hrun]at k;refine⟨_,rfl,k (.int nm) _ Y4 ⟨Rd.i.und.snoc (qh hle) (vY hle),Rd.i.tkd,jl rl j' (by rw[Ji,w5];have:=rl j';omega),by show (S.hs++[_]).length <= _;rw[Ji];show _+1 <= _;omega⟩ rfl ?_⟩;exact sv (KO.of_kp kp1 λc hc=>.inr (.inl (qf c hc))) (sv (KO.of_same e2) (sv (oP (.inr (.inr (.inr (.inr rfl))))) (oP (.inr (.inr (.inr (.inl rfl)))))))
def B4 (G:Gs K mg a d):FnOk P w K mg base CX0 9 a.bC d.bC ["self","name","worth"] (Bg w a):=by
 have Pc:FnOk P w K mg base (CXv P w) 8 _ _ _ _:=(zq G).imp λvs H Q E=>Dv
 refine G.mK.ok lL (λvs H Q E h=>?_) (λcdv A' outer s' H vs Q E hr h=>?_)
 . obtain⟨y,q,S,L,nm,wt,rfl,_⟩:=h;rfl
 . obtain⟨y,q,S,L,nm,wt,rfl,Rd,h0,hc,k⟩:=h;have Y:=Rd.y;have ll:=Rd.l;have rl:=Rd.i.len;have hsl:=Rd.i.hl;refine⟨_,((@aB _ _ _ _ (au (aj (pv 0) rfl) G.bv G.o6 Pc (hr.mono (by decide)) G.oN .nil DM ((pv 1)∣((pv 2)∣ac))) (by rfl))∪((@aB _ _ _ _ (@lv _ _ _ _ _ _ _ _ _ _ _ _ JH Kh PySem.F.type_list_append dC (aj (pv 0) rfl) ((@bb _ _ _ _ _ (ao∣((pv 1)∣((pv 2)∣ac))))∣ac) (by rfl) (by rfl) (by rfl) (by rfl) (by rfl)) (by rfl))∪(@al _ _ _ (@fZ _ _ _ _ _ _ bI (iJ (aj (pv 0) rfl) ag cQ) (by rfl) (by rfl) (by rfl))))),?_⟩;refine⟨_,rfl,gI Y.ob G.ak G.cE kN (dQ Y.x.tn.ob y4 ⟨_,rfl,_,rfl,y.zt,y.sa,q.p,S.tk,S.m,S.rs,nm,wt,rfl,Y.x.tn,Y.x.st,Rd.ok.ok,by have:=rl D';omega,λx hx=>Rd.i.tkd.2 x hx,?_⟩)⟩;rw[Ph h0,Ph hc];intro H1 tn1 st1 kp1;have Y1:=Y.parts (Y.x.heart tn1 st1 kp1) kp1 qv;obtain⟨ts,h1,h2⟩:=Y1.hp;have tl:=io h2;refine⟨_,rfl,gI Y1.ob G.ak G.bY iE ⟨.inl ⟨rfl,_,SqL.of h1⟩,_,rfl,_,rfl,l3,λt ht=>?_⟩⟩;have e2:=ai (o:=.tup [V.str "answered",V.int nm,V.int wt]) ht;have v2:upd H1 t (.tup [V.str "answered",V.int nm,V.int wt]) t=dk (.tup [V.str "answered",V.int nm,V.int wt]):=a9;generalize upd H1 t (.tup [V.str "answered",V.int nm,V.int wt])=H2 at e2 v2 |-;have Y2:=Y1.same e2;refine⟨y.hp,ts,_,rfl,rfl,e2 _ _ h1,Jj (show _ < 100000 by rw[tl];show S.hs.length < _;omega) (by decide),?_⟩;have Y3:=Y2.setHp (e2 _ _ h1) (x:=pV "answered" (.int nm) (.int wt)) (v:=.ref t) ⟨t,_,rfl,v2,_,_,rfl,rfl,_,_,rfl,rfl,_,_,rfl,rfl,rfl⟩ rfl;refine⟨_,rfl,gI Y3.ob G.ak G.dH mZ ⟨y.qu,_,_,_,rfl,rfl,Y3.qu,rfl,?_⟩⟩;have Y4:=Y3.setQu D' j' (ys:=[.bl (S.qt j'),.bl j']) rfl;refine k .non _ Y4 ⟨Rd.i.und,Rd.i.tkd.filter,jl rl D' (by rw[Ji,w5];have:=rl D';omega),by show (S.hs++[_]).length <= _;rw[Ji];show _+1 <= _;omega⟩ rfl ?_;exact sv (KO.of_kp kp1 λc hc=>.inr (.inl (qv c hc))) (sv (KO.of_same e2) (sv (oP (.inr (.inr (.inr (.inr rfl))))) (oP (.inr (.inr (.inr (.inl rfl)))))))
def Es (w:Jp) (ad:Ad):Sp:=λvs H Q _=>∃ (a:YA) (q:YP) (S:YS) (wd:Str) (tv:V),vs=[.ref a.y,.str wd,tv]/\Yn w ad.b5 ad.dn ad.aY ad.bT ad.aD H a q S/\S.hs.length < 99000 /\
 ((tv=.non/\Q .non H)\/∃ (t:G') (v1 v2:V) (d1 d2:Jg),tv=.ref t/\H t=dk (.tup [v1,v2])/\DV H d1 v1/\DV H d2 v2/\scD d1=D'/\scD d2=D'/\∀ H',Yn w ad.b5 ad.dn ad.aY ad.bT ad.aD H' a q { S with hs:=S.hs++[pV wd d1 d2] }->KO a.own H H'->H' t=dk (.tup [v1,v2])->Q (.ref t) H')
def CU (G:Gs K mg a d):FnOk P w K mg base CX0 1 a.b7 d.b7 ["self","word","told"] (Es w a):=by
 refine G.ky.ok jD (λvs H Q E h=>?_) (λcdv A' outer s' H vs Q E hr h=>?_)
 . obtain⟨y,q,S,wd,tv,rfl,_⟩:=h;rfl
 . obtain⟨y,q,S,wd,tv,rfl,Y,hsl,k⟩:=h;refine⟨_,(@lM _ _ _ _ _ (aK (am nL (pv 2) gM (av _)) (@al _ _ _ (@aB _ _ _ _ (@lv _ _ _ _ _ _ _ _ _ _ _ _ JH Kh PySem.F.type_list_append dC (aj (pv 0) rfl) ((@bb _ _ _ _ _ ((pv 1)∣((@aC _ _ _ _ _ _ _ aA (pv 2) ag (λ_ _=>rfl))∣((@aC _ _ _ _ _ _ _ aA (pv 2) ag (λ_ _=>rfl))∣ac))))∣ac) (by rfl) (by rfl) (by rfl) (by rfl) (by rfl)) (by rfl))) ap)
    ((pv 2)⁻¹)),?_⟩
   rcases k with⟨rfl,k⟩|⟨t,v1,v2,d1,d2,rfl,ht,dv1,dv2,s1,s2,k⟩
   . refine⟨λσ' H'=>H'=H/\σ'=[dk (.ref y.y),dk (.str wd),dk .non],?_,?_⟩
     . exact⟨_,rfl,rfl,_,rfl,iM ⟨rfl,rfl⟩⟩
     . rintro σ' H' ⟨rfl,rfl⟩;exact⟨_,rfl,k⟩
   . refine⟨λσ' H'=>σ'=[dk (.ref y.y),dk (.str wd),dk (.ref t)]/\Yn w a.b5 a.dn a.aY a.bT a.aD H' y q { S with hs:=S.hs++[pV wd d1 d2] }/\KO y.own H H'/\H' t=dk (.tup [v1,v2]),?_,?_⟩
     . refine⟨_,rfl,rfl,_,rfl,iQ ?_⟩;obtain⟨ts,h1,h2⟩:=Y.hp;have tl:=io h2;refine⟨_,rfl,gI Y.ob G.ak G.bY iE ⟨.inl ⟨rfl,_,SqL.of h1⟩,_,rfl,_,rfl,t,_,_,_,rfl,rfl,SqT.of ht,rfl,_,rfl,t,_,_,_,rfl,rfl,SqT.of ht,rfl,l3,λt2 ht2=>?_⟩⟩;have e2:=ai (o:=.tup [V.str wd,v1,v2]) ht2;have w2:upd H t2 (.tup [V.str wd,v1,v2]) t2=dk (.tup [V.str wd,v1,v2]):=a9;generalize upd H t2 (.tup [V.str wd,v1,v2])=H2 at e2 w2 |-;have Y2:=Y.same e2;refine⟨y.hp,ts,_,rfl,rfl,e2 _ _ h1,Jj (show _ < 100000 by rw[tl];omega) (by decide),rfl,?_,?_,?_⟩
       . exact Y2.setHp (e2 _ _ h1) (x:=pV wd d1 d2) (v:=.ref t2) ⟨t2,_,rfl,w2,_,_,rfl,rfl,_,_,rfl,DV.sc s1 dv1,_,_,rfl,DV.sc s2 dv2,rfl⟩ (by show (D' && (scD d1 && (scD d2 && D')))=D';rw[s1,s2];rfl)
       . exact sv (KO.of_same e2) (oP (.inr (.inr (.inr (.inr rfl)))))
       . rw[aa (λz=>by rw[z,h1]at ht;cases ht)];exact e2 _ _ ht
     . rintro σ' H' ⟨rfl,Y',ko,ht'⟩;exact⟨_,rfl,k H' Y' ko ht'⟩
theorem MemR.putAllY {H:Hp}:∀ {row:List Wr}{es M:List (Jg × V)}{m:Mem},MemR H M m->JC (WrR H) row es->MemR H (lg M es) (m.putAllY row)
|_,_,_,_,R,.nil=>R
|_,_,_,_,R,.cons hx t=>by
  have h:=MemR.putAllY (R.put hx) t;exact h
def zW (w:Jp) (C:G'):Sp:=λvs H Q _=>∃ (sa:SA) (m:Mem) (rs:Bool->List Wr) (b:Bool),vs=[.ref sa.x,.int (sdI b)]/\StT w C H sa m rs/\(rs b).length < 99000 /\
 ∀ H',StT w C H' sa (m.putAllY (rs b)) (bq rs b [])->Kp [sa.l b,sa.hd] H H'->Q .non H'
def Cy {w:Jp}{C:G'}{vs:List V}{H:Hp}{Q:VK}{E:XK}(h:zW w C vs H Q E):vo w C vs H Q E:=by
 obtain⟨sa,m,rs,b,rfl,⟨M,r,S,R,P⟩,hl,k⟩:=h;have hl':=aG (P b);have hM:=StT.small S R;refine⟨sa.x,sa.hd,sa.rl,sa.l,M,r,b,rfl,S,by omega,λH' S' kp=>k H' ?_ kp⟩;have ht:∀ c vs,H c=dk (.tup vs)->H' c=dk (.tup vs):=λc vs e=>kp c _ (λmm=>by
  rcases JE.mp mm with y|y
  . exact S.noT (b:=b) e (Je.mpr y)
  . obtain⟨ee,e'⟩:=S.me.there;rw[Je.mp y,e']at e;cases e) e
 refine⟨_,_,S',(MemR.putAllY R (P b)).keep ht,λc=>?_⟩;by_cases e:c=b
 . subst e;rw[b9,b9];exact .nil
 . rw[fD e,fD e];exact Paired.mapP (P c) λ_ _ q=>q.keep ht
def BH (w:Jp) (C:G'):Sp:=λvs H Q _=>∃ (sa:SA) (m:Mem) (rs:Bool->List Wr) (b:Bool) (k:Cn),vs=[.ref sa.x,.int (sdI b),.str k.key]/\StT w C H sa m rs/\Q (.int (rdC m (rs b) k)) H
def Ha {w:Jp}{C:G'}{vs:List V}{H:Hp}{Q:VK}{E:XK}(h:BH w C vs H Q E):yn w C vs H Q E:=by
 obtain⟨sa,m,rs,b,k,rfl,⟨M,r,S,R,P⟩,q⟩:=h;refine⟨sa.x,sa.hd,sa.rl,sa.l,M,r,b,.str k.key,.str k.key,rfl,S,kS (x4 k),?_⟩;rw[cc R (P b) k];exact q
def jN (b:Bool):Nat:=if b then 1 else 0
def uJ {b:Bool}:ixN 2 (sdI b)=dk (jN b):=by cases b<;>rfl
def u7 {f:Bool->Bd}{b:Bool}{x:Bd}:[V.str (f j').key,V.str (f D').key].set (jN b) (.str x.key)=[V.str (bq f b x j').key,V.str (bq f b x D').key]:=by cases b<;>rfl
def Cs {f:Bool->Bool}{b x:Bool}:[V.bl (f j'),V.bl (f D')].set (jN b) (.bl x)=[V.bl (bq f b x j'),V.bl (bq f b x D')]:=by cases b<;>rfl
def vj {b:Bool}:atI [V.str "hand sleeps",V.str "heart sleeps"] (sdI b)=dk (.str (jR b).key):=by cases b<;>rfl
def rj (b:Bool):(1:Int) - sdI b=sdI (!b):=by cases b<;>rfl
def yh (w:Jp) (ad:Ad):Sp:=λvs H Q _=>∃ (a:YA) (q:YP) (S:YS) (L:Nat) (b:Bool),vs=[.ref a.y,.int (sdI b)]/\Rdy w ad H a q S L/\Bh w ad a q ((Dd.bell b).run q S).2 L ((Dd.bell b).run q S).1 H Q
def AG (w:Jp) (ad:Ad):Sp:=λvs H Q _=>∃ (a:YA) (q:YP) (S:YS) (L:Nat) (b:Bool),vs=[.ref a.y,.int (sdI b)]/\Rdy w ad H a q S L/\Bh w ad a q ((Dd.lie b).run q S).2 L ((Dd.lie b).run q S).1 H Q
def yx (w:Jp) (ad:Ad):Sp:=λvs H Q _=>∃ (a:YA) (q:YP) (S:YS) (L:Nat) (b:Bool),vs=[.ref a.y,.int (sdI b)]/\Rdy w ad H a q S L/\Bh w ad a q ((Dd.look b).run q S).2 L ((Dd.look b).run q S).1 H Q
def Cb {ad:Ad}{H H':Hp}{y:YA}{q:YP}{S:YS}{b:Bool}(Y:Yn w ad.b5 ad.dn ad.aY ad.bT ad.aD H y q S) (st:StT w ad.aD H' y.sa (S.m.putAllY (S.rs b)) (bq S.rs b [])) (kp:Kp [y.sa.l b,y.sa.hd] H H'):Yn w ad.b5 ad.dn ad.aY ad.bT ad.aD H' y q (S.fence b):=Y.parts (Y.x.store st kp) kp sX
def ze {ad:Ad}{H H':Hp}{y:YA}{q:YP}{S:YS}{b:Bool}{x:Wr}(Y:Yn w ad.b5 ad.dn ad.aY ad.bT ad.aD H y q S) (st:StT w ad.aD H' y.sa S.m (bq S.rs b (S.rs b++[x]))) (kp:Kp [y.sa.l b] H H'):Yn w ad.b5 ad.dn ad.aY ad.bT ad.aD H' y q (S.wr b x):=Y.parts (Y.x.store (b:=b) st (kp.mono λc hc=>by rw[Je.mp hc];exact Jx)) kp λc hc=>sX (b:=b) c (by rw[Je.mp hc];exact Jx)
def Hf {y:YA}{H H':Hp}{b:Bool}(kp:Kp [y.sa.l b,y.sa.hd] H H'):KO y.own H H':=KO.of_kp kp λc hc=>.inr (.inl (sX c hc))
def Gj {y:YA}{H H':Hp}{b:Bool}(kp:Kp [y.sa.l b] H H'):KO y.own H H':=KO.of_kp kp λc hc=>.inr (.inl (sX (b:=b) c (by rw[Je.mp hc];exact Jx)))
def zN (G:Gs K mg a d):FnOk P w K mg base CX0 8 a.cb d.cb ["self","side"] (yx w a):=by
 have OI:FnOk P w K mg base CX0 7 _ _ _ _:=yt G;have Ow:FnOk P w K mg base CX0 1 _ _ _ _:=(kW G).imp λvs H Q E=>xW
 refine G.oW.ok oa (λvs H Q E h=>?_) (λcdv A' outer s' H vs Q E hr h=>?_)
 . obtain⟨y,q,S,L,b,rfl,_⟩:=h;rfl
 . obtain⟨y,q,S,L,b,rfl,Rd,k⟩:=h;have Y:=Rd.y;have ll:=Rd.l;have rl:=Rd.i.len;have hu:=dF hr;refine⟨_,((aK ((o4 (gG (cP (aj (pv 0) rfl))) (l8 (gG (cP (au (pv 0) G.ak G.i7 OI (hr.mono (by decide)) G.iO .nil aq ((pv 1)∣ac))))))).pt ((@fZ _ _ _ _ _ _ ao (iJ (aj (pv 0) rfl) (pv 1) cQ) (by rfl) (by rfl) (by rfl))∪(bI⁻¹)) ap)∪((@aB _ _ _ _ (au (aj (pv 0) rfl) G.az G.cL Ow (hr.mono (by decide)) G.dN .nil aq ((pv 1)∣((@aC _ _ _ _ _ _ _ aA (eT (v:=.ref a.aH) (by rfl) G.f8 rfl) (pv 1) (λ_ _=>rfl))∣(ag∣ac)))) (by rfl))∪((@fZ _ _ _ _ _ _ ao (iJ (aj (pv 0) rfl) (pv 1) cQ) (by rfl) (by rfl) (by rfl))∪(bI⁻¹)))),?_⟩;have bad:¬ (q.fk=D'/\swT q S b=D')->Q (.bl j') (upd H y.sl (.lst [.str (bq S.bd b .asleep j').key,.str (bq S.bd b .asleep D').key])):=λhn=>by
    have k2:=k;rw[show (Dd.look b).run q S=_ from Ph hn]at k2;exact k2 (.bl j') _ (Y.setSl b .asleep rfl) ⟨Rd.i.und,Rd.i.tkd,λc=>by have:=rl c;show (S.rs c).length <= _;omega,by have:=Rd.i.hl;show S.hs.length <= _;omega⟩ rfl (oP (.inr (.inr (.inl rfl))))
   refine⟨_,rfl,gI Y.ob G.ak G.gy Ek ⟨_,rfl,?_⟩⟩;cases hfk:q.fk with
  |false =>
    refine iQ ?_;exact⟨_,rfl,gI Y.ob G.ak G.aS cj ⟨_,rfl,y.sl,_,_,_,rfl,rfl,Y.sl,uJ,by rw[show (V.str "asleep":V)=.str (Bd.key .asleep) from rfl,u7];exact bad (by rw[hfk];exact λz=>by cases z.1)⟩⟩
  |true =>
    refine iM ?_;refine⟨_,rfl,dQ Y.ob (dP (by decide +kernel)) ⟨_,rfl,y,q,S,b,rfl,Y,Rd.ok,_,rfl,?_⟩⟩;cases hw:swT q S b with
   |false =>
     refine iQ ?_;exact⟨_,rfl,gI Y.ob G.ak G.aS cj ⟨_,rfl,y.sl,_,_,_,rfl,rfl,Y.sl,uJ,by rw[show (V.str "asleep":V)=.str (Bd.key .asleep) from rfl,u7];exact bad (by rw[hw];exact λz=>by cases z.2)⟩⟩
   |true =>
     refine iM ?_;refine⟨_,rfl,gI Y.ob G.ak G.aR fc (dQ Y.x.st.ob (bK (by decide +kernel) (by decide +kernel)) ⟨_,rfl,_,rfl,a.aH,_,sdI b,.str (jR b).key,rfl,rfl,G.f9 _,vj,y.sa,S.m,S.rs,b,.str (jR b).key,.int 0,.c (jR b) 0,rfl,Y.x.st,by have:=rl b;omega,kS (x4 _),rfl,trivial,λH1 st1 kp1=>?_⟩)⟩;have Y1:=ze Y st1 kp1;refine⟨_,rfl,gI Y1.ob G.ak G.aS cj ⟨_,rfl,y.sl,_,_,_,rfl,rfl,Y1.sl,uJ,?_⟩⟩;rw[show (V.str "up":V)=.str (Bd.key .up) from rfl,u7];have Y2:=Y1.setSl b .up rfl;have k2:=k;rw[show (Dd.look b).run q S=_ from Pg ⟨hfk,hw⟩]at k2;exact k2 (.bl D') _ Y2 ⟨Rd.i.und,Rd.i.tkd,jl rl b (by rw[Ji];have:=rl b;show _+1 <= _;omega),by have:=Rd.i.hl;show S.hs.length <= _;omega⟩ rfl (sv (Gj kp1) (oP (.inr (.inr (.inl rfl)))))
def BK (G:Gs K mg a d):FnOk P w K mg base CX0 8 a.cZ d.cZ ["self","side"] (AG w a):=by
 have Ow:FnOk P w K mg base CX0 1 _ _ _ _:=(kW G).imp λvs H Q E=>xW
 have Oq:FnOk P w K mg base CX0 2 _ _ _ _:=(wG G).imp λvs H Q E=>Cy
 refine G.rV.ok oX (λvs H Q E h=>?_) (λcdv A' outer s' H vs Q E hr h=>?_)
 . obtain⟨y,q,S,L,b,rfl,_⟩:=h;rfl
 . obtain⟨y,q,S,L,b,rfl,Rd,k⟩:=h;have Y:=Rd.y;have ll:=Rd.l;have rl:=Rd.i.len;have hu:=dF hr;refine⟨_,((@aB _ _ _ _ (au (aj (pv 0) rfl) G.az G.cL Ow (hr.mono (by decide)) G.dN .nil aq ((pv 1)∣((@aC _ _ _ _ _ _ _ aA (eT (v:=.ref a.aH) (by rfl) G.f8 rfl) (pv 1) (λ_ _=>rfl))∣(ag∣ac)))) (by rfl))∪(@lM _ _ _ _ _ (aK (cP (aj (pv 0) rfl)) (@al _ _ _ (@aB _ _ _ _ (au (aj (pv 0) rfl) G.az G.jL Oq (hr.mono (by decide)) G.lK .nil aq ((pv 1)∣ac)) (by rfl))) ap)
    (@al _ _ _ (@fZ _ _ _ _ _ _ ao (iJ (aj (pv 0) rfl) (pv 1) cQ) (by rfl) (by rfl) (by rfl))))),?_⟩
   refine⟨_,rfl,gI Y.ob G.ak G.aR fc (dQ Y.x.st.ob (bK (by decide +kernel) (by decide +kernel)) ⟨_,rfl,_,rfl,a.aH,_,sdI b,.str (jR b).key,rfl,rfl,G.f9 _,vj,y.sa,S.m,S.rs,b,.str (jR b).key,.int 1,.c (jR b) 1,rfl,Y.x.st,by have:=rl b;omega,kS (x4 _),rfl,trivial,λH1 st1 kp1=>?_⟩)⟩;have Y1:=ze Y st1 kp1;have rl1:∀ c,((S.wr b (.c (jR b) 1)).rs c).length <= L+2:=jl rl b (by rw[Ji];have:=rl b;show _+1 <= _;omega);refine⟨λσ' H'=>σ'=[dk (.ref y.y),dk (.int (sdI b))]/\KO y.own H H'/\∃ S2:YS,S2=(if q.fl then (S.wr b (.c (jR b) 1)).fence b else S.wr b (.c (jR b) 1))/\Yn w a.b5 a.dn a.aY a.bT a.aD H' y q S2,?_,?_⟩
   . refine⟨_,rfl,gI Y1.ob G.ak G.gf FO ⟨_,rfl,?_⟩⟩;cases hfl:q.fl with
    |true =>
      refine iQ ?_;refine⟨_,rfl,gI Y1.ob G.ak G.aR fc (dQ Y1.x.st.ob (bK (by decide +kernel) (by decide +kernel)) ⟨_,rfl,y.sa,_,_,b,rfl,Y1.x.st,by have:=rl1 b;omega,λH2 st2 kp2=>⟨rfl,sv (Gj kp1) (Hf kp2),_,rfl,Cb Y1 st2 kp2⟩⟩)⟩
    |false=>exact iM ⟨rfl,Gj kp1,_,rfl,Y1⟩
   . rintro σ' H2 ⟨rfl,ko,S2,hS2,Y2⟩;refine⟨_,rfl,gI Y2.ob G.ak G.aS cj ⟨_,rfl,y.sl,_,_,_,rfl,rfl,Y2.sl,uJ,?_⟩⟩;rw[show (V.str "lies":V)=.str (Bd.key .lies) from rfl,u7];have Y3:=Y2.setSl b .lies rfl;have k2:Bh w a y q { S2 with bd:=bq S2.bd b .lies } L .none H Q:=by rw[hS2];exact k
     have hun:S2.un=S.un/\S2.tk=S.tk/\S2.hs=S.hs/\∀ c,(S2.rs c).length <= L+2:=by
      rw[hS2];cases q.fl with
     |true =>
       refine⟨rfl,rfl,rfl,λc=>?_⟩;show (bq _ b [] c).length <= _;by_cases e:c=b
       . subst e;rw[b9];exact KG _
       . rw[fD e];exact rl1 c
     |false=>exact⟨rfl,rfl,rfl,rl1⟩
     exact k2 .non _ Y3 ⟨by show Nms _ S2.un;rw[hun.1];exact Rd.i.und,by show Nms _ S2.tk;rw[hun.2.1];exact Rd.i.tkd,hun.2.2.2,by have:=Rd.i.hl;show S2.hs.length <= _;rw[hun.2.2.1];omega⟩ rfl (sv ko (oP (.inr (.inr (.inl rfl)))))
def yW (G:Gs K mg a d):FnOk P w K mg base CX0 8 a.cx d.cx ["self","side"] (yh w a):=by
 have Ow:FnOk P w K mg base CX0 1 _ _ _ _:=(kW G).imp λvs H Q E=>xW
 have Oq:FnOk P w K mg base CX0 2 _ _ _ _:=(wG G).imp λvs H Q E=>Cy
 have Ou:FnOk P w K mg base CX0 2 _ _ _ _:=(qE G).imp λvs H Q E=>Ha
 refine G.oY.ok iT (λvs H Q E h=>?_) (λcdv A' outer s' H vs Q E hr h=>?_)
 . obtain⟨y,q,S,L,b,rfl,_⟩:=h;rfl
 . obtain⟨y,q,S,L,b,rfl,Rd,k⟩:=h;have Y:=Rd.y;have ll:=Rd.l;have rl:=Rd.i.len;have hu:=dF hr;refine⟨_,((@aX _ _ 2 _ _ _ _ iT.nd rfl (JQ rfl) (@cO _ _ _ _ _ _ _ _ qw ag (pv 1)) (by rfl) (by first|exact .inl rfl|exact .inr rfl|assumption))∪(@lM _ _ _ _ _ (aK (cP (aj (pv 0) rfl)) (@al _ _ _ (@aB _ _ _ _ (au (aj (pv 0) rfl) G.az G.jL Oq (hr.mono (by decide)) G.lK .nil aq ((pv 1)∣ac)) (by rfl))) ap)
    ((@fZ _ _ _ _ _ _ bI (iJ (aj (pv 0) rfl) (pv 1) cQ) (by rfl) (by rfl) (by rfl))∪((aK (am (Cp hr.units) (au (aj (pv 0) rfl) G.az G.cz Ou (hr.mono (by decide)) G.dq .nil aq ((pv 1)∣((@aC _ _ _ _ _ _ _ aA (eT (v:=.ref a.aH) (by rfl) G.f8 rfl) (pv 2) (λ_ _=>rfl))∣ac))) ag (av _)) (bI⁻¹) ap)∪(@lM _ _ _ _ _ (aK (am bJ (@aC _ _ _ _ _ _ _ bg (aj (pv 0) rfl) (pv 2) (λ_ _=>rfl)) ao (av _)) ((@fZ _ _ _ _ _ _ ao (iJ (aj (pv 0) rfl) (pv 2) cQ) (by rfl) (by rfl) (by rfl))∪(@al _ _ _ (@aB _ _ _ _ (au (aj (pv 0) rfl) G.az G.cL Ow (hr.mono (by decide)) G.dN .nil aq ((pv 2)∣((@aC _ _ _ _ _ _ _ aA (eT (v:=.ref a.aH) (by rfl) G.f8 rfl) (pv 2) (λ_ _=>rfl))∣(ag∣ac)))) (by rfl)))) ap)
    (bI⁻¹)))))),?_⟩
   refine⟨_,rfl,_,_,rfl,rfl,?_⟩;refine⟨λσ' H'=>σ'=[dk (.ref y.y),dk (.int (sdI b)),dk (.int (sdI (!b)))]/\KO y.own H H'/\∃ S1:YS,S1=(if q.fb then S.fence b else S)/\Yn w a.b5 a.dn a.aY a.bT a.aD H' y q S1,?_,?_⟩
   . refine⟨_,rfl,gI Y.ob G.ak G.fe Dl ⟨_,rfl,?_⟩⟩;cases hfb:q.fb with
    |true =>
      refine iQ ?_;refine⟨_,rfl,gI Y.ob G.ak G.aR fc (dQ Y.x.st.ob (bK (by decide +kernel) (by decide +kernel)) ⟨_,rfl,y.sa,_,_,b,rfl,Y.x.st,by have:=rl b;omega,λH2 st2 kp2=>⟨by rw[<-rj];rfl,Hf kp2,_,rfl,Cb Y st2 kp2⟩⟩)⟩
    |false=>exact iM ⟨by rw[<-rj];rfl,KO.refl _ _,_,rfl,Y⟩
   . rintro σ' H1 ⟨rfl,ko1,S1,hS1,Y1⟩;refine⟨_,rfl,gI Y1.ob G.ak G.dH mZ ⟨_,rfl,y.qu,_,_,jN b,rfl,rfl,Y1.qu,uJ,?_⟩⟩;rw[Cs];have Y2:=Y1.setQu b D' rfl;have ko2:KO y.own H (upd H1 y.qu (.lst [V.bl (bq S1.qt b D' j'),V.bl (bq S1.qt b D' D')])):=sv ko1 (oP (.inr (.inr (.inr (.inl rfl)))));generalize upd H1 y.qu (.lst [V.bl (bq S1.qt b D' j'),V.bl (bq S1.qt b D' D')])=H2 at Y2 ko2 |-;obtain⟨S2,hS2⟩:∃ S2:YS,S2={ S1 with qt:=bq S1.qt b D' }:=⟨_,rfl⟩
     rw[<-hS2]at Y2;have fS:S2.un=S.un/\S2.tk=S.tk/\S2.hs=S.hs/\(∀ c,(S2.rs c).length <= L):=by
      rw[hS2,hS1];cases q.fb with
     |true =>
       refine⟨rfl,rfl,rfl,λc=>?_⟩;show (bq S.rs b [] c).length <= _;by_cases e:c=b
       . subst e;rw[b9];exact KG _
       . rw[fD e];exact rl c
     |false=>exact⟨rfl,rfl,rfl,rl⟩
     have yi:YI q S2 (L+2):=⟨by rw[fS.1];exact Rd.i.und,by rw[fS.2.1];exact Rd.i.tkd,λc=>by have:=fS.2.2.2 c;omega,by rw[fS.2.2.1];have:=Rd.i.hl;omega⟩
     have hrun:(Dd.bell b).run q S=(if rdC S2.m (S2.rs b) (jR (!b))≠1 then (.bool j',S2) else if S2.bd (!b)=.asleep then (.bool D',({ S2 with bd:=bq S2.bd (!b) .up }:YS).wr (!b) (.c (jR (!b)) 0)) else (.bool D',S2)):=by rw[hS2,hS1];rfl
     rw[hrun]at k;clear hrun hS2 hS1 Y1 ko1;refine⟨_,rfl,gI Y2.ob G.ak G.aR fc (dQ Y2.x.st.ob (bK (by decide +kernel) (by decide +kernel)) ⟨_,rfl,_,rfl,a.aH,_,sdI (!b),.str (jR (!b)).key,rfl,rfl,G.f9 _,vj,y.sa,_,_,b,jR (!b),rfl,Y2.x.st,?_⟩)⟩;refine⟨.int (rdC S2.m (S2.rs b) (jR (!b))),.int 1,rfl,rfl,uO.int _,uO.int _,_,rfl,?_⟩;simp only[if_true];by_cases h1:rdC S2.m (S2.rs b) (jR (!b))=1
     . rw[Ph (by rw[h1];exact λz=>z rfl)]at k;refine cR ?_ ?_
       . rw[h1];decide +kernel
       refine⟨λσ' H'=>σ'=[dk (.ref y.y),dk (.int (sdI b)),dk (.int (sdI (!b)))]/\Q (.bl D') H',?_,?_⟩
       . refine⟨_,rfl,gI Y2.ob G.ak G.aS cj ⟨_,rfl,y.sl,_,_,_,rfl,rfl,SqL.of Y2.sl,En (!b),rfl,_,rfl,?_⟩⟩;by_cases h2:S2.bd (!b)=.asleep
         . rw[Pg h2]at k;refine iR (Pl (by rw[h2];rfl)) ?_;refine⟨_,rfl,gI Y2.ob G.ak G.aS cj ⟨_,rfl,y.sl,_,_,jN (!b),rfl,rfl,Y2.sl,uJ,?_⟩⟩;rw[show (V.str "up":V)=.str (Bd.key .up) from rfl,u7];have Y3:=Y2.setSl (!b) .up rfl;have ko3:KO y.own H (upd H2 y.sl (.lst [V.str (bq S2.bd (!b) .up j').key,V.str (bq S2.bd (!b) .up D').key])):=sv ko2 (oP (.inr (.inr (.inl rfl))));generalize upd H2 y.sl (.lst [V.str (bq S2.bd (!b) .up j').key,V.str (bq S2.bd (!b) .up D').key])=H3 at Y3 ko3 |-;refine⟨_,rfl,gI Y3.ob G.ak G.aR fc (dQ Y3.x.st.ob (bK (by decide +kernel) (by decide +kernel)) ⟨_,rfl,_,rfl,a.aH,_,sdI (!b),.str (jR (!b)).key,rfl,rfl,G.f9 _,vj,y.sa,_,_,!b,.str (jR (!b)).key,.int 0,.c (jR (!b)) 0,rfl,Y3.x.st,by have:=fS.2.2.2 (!b);show (S2.rs (!b)).length < _;omega,kS (x4 _),rfl,trivial,λH4 st4 kp4=>⟨rfl,?_⟩⟩)⟩;have Y4:=ze Y3 st4 kp4;exact k (.bl D') H4 Y4 ⟨yi.und,yi.tkd,jl fS.2.2.2 (!b) (by show (S2.rs (!b)++[_]).length <= _;rw[Ji];have:=fS.2.2.2 (!b);show _+1 <= _;omega),yi.hl⟩ rfl (sv ko3 (Gj kp4))
         . rw[Ph h2]at k;refine cR (by rw[Pj];exact Aq h2) ⟨rfl,?_⟩;exact k (.bl D') H2 Y2 yi rfl ko2
       . rintro σ' H' ⟨rfl,k'⟩;exact k'
     . rw[Pg h1]at k;refine iR ?_ (k (.bl j') H2 Y2 yi rfl ko2);rw[Lm];cases z:Jt (.int (rdC S2.m (S2.rs b) (jR (!b)))) (.int 1) with
      |false=>rfl
      |true=>exact absurd (by have:=(MX.eqv_iff _ _ rfl rfl).mp z;injection this) h1
def E9 {q:YP}{S:YS}{wt:Int}(h:(Dd.ask wt).chk q S=Jd):aZ q.p S.m (S.rs j') .asked .taken≠q.p.s/\cF q.n S.un≠Jd:=by
 have h':(if S.bd j'=.up then (if aZ q.p S.m (S.rs j') .asked .taken=q.p.s then dk Rf.full else match cF q.n S.un with|none=>dk Rf.name|some _=>Jd) else dk Rf.deed)=Jd:=h;split at h'
 . split at h'
   . cases h'
   . rename_i z;refine⟨z,λy=>?_⟩;rw[y]at h';cases h'
 . cases h'
def E1 {q:YP}{S:YS}{nm wt:Int}(h:(Dd.answer nm wt).chk q S=Jd):S.tk.contains nm≠j'/\aZ q.p S.m (S.rs D') .answered .handed≠q.p.s:=by
 have h':(if S.bd D'=.up then (if S.tk.contains nm=j' then dk Rf.task else if aZ q.p S.m (S.rs D') .answered .handed=q.p.s then dk Rf.full else Jd) else dk Rf.deed)=Jd:=h;split at h'
 . split at h'
   . cases h'
   . split at h'
     . cases h'
     . rename_i z1 z2;exact⟨z1,z2⟩
 . cases h'
def zL {q:YP}{S:YS}{b:Bool}(h:(Dd.drain b).chk q S=Jd):∃ x c8,S.rs b=x :: c8:=by
 cases e:S.rs b with
|cons x c8=>exact⟨x,c8,rfl⟩
|nil =>
  have h':(if S.rs b=[] then dk Rf.deed else Jd)=Jd:=h;rw[e]at h';cases h'
def CZ (w:Jp) (ad:Ad):Sp:=λvs H Q E=>∃ (a:YA) (q:YP) (S:YS) (L:Nat) (x:Dd) (t:G'),vs=[.ref a.y,.ref t]/\Rdy w ad H a q S L/\H t=dk (.tup x.vs)/\x.Ok /\
 match x.chk q S with
|none=>Bh w ad a q (x.run q S).2 L (x.run q S).1 H Q
|some r=>∀ H',bZ H H'->E (.ref (rfC ad r)) Jd H'
def Do (G:Gs K mg a d):FnOk P w K mg base (CXv P w) 10 a.fg d.fg ["self","some"] (CZ w a):=by
 have Pe:FnOk P w K mg base (CXv P w) 8 _ _ _ _:=tW G;have OA:FnOk P w K mg base CX0 9 _ _ _ _:=BY G;have Oz:FnOk P w K mg base CX0 9 _ _ _ _:=B4 G;have OB:FnOk P w K mg base CX0 8 _ _ _ _:=yW G;have OC:FnOk P w K mg base CX0 8 _ _ _ _:=BK G;have OD:FnOk P w K mg base CX0 8 _ _ _ _:=zN G;have OL:FnOk P w K mg base CX0 1 _ _ _ _:=CU G;have N4:FnOk P w K mg base CX0 7 _ _ _ _:=(x9 G).imp λvs H Q E=>AJ
 have N9:FnOk P w K mg base CX0 7 _ _ _ _:=(BB G).imp λvs H Q E=>GM
 have Oo:FnOk P w K mg base CX0 1 _ _ _ _:=(vI G).imp λvs H Q E=>G4
 refine G.uI.okX (k:=9) ms (λvs H Q E h=>?_) (λcdv A' outer s' H vs Q E hr hR h=>?_)
 . obtain⟨y,q,S,L,x,t,rfl,_⟩:=h;rfl
 . obtain⟨y,q,S,L,x,t,rfl,Rd,ht,hx,k⟩:=h;have hu:=dF hr;refine⟨_,((@aB _ _ _ _ (au (pv 0) G.ak G.lG Pe (hr.mono (by decide)) G.mq .nil hR.passes ((pv 1)∣ac)) (by rfl))∪((@aX _ _ 2 _ _ _ _ ms.nd rfl (JQ rfl) (@aC _ _ _ _ _ _ _ aA (pv 1) ag (λ_ _=>rfl)) (by rfl) (by first|exact .inl rfl|exact .inr rfl|assumption))∪((aK (am bJ (pv 2) ao (av _)) ((au (pv 0) G.ak G.pD OA (hr.mono (by decide)) G.qJ .nil aq ((@aC _ _ _ _ _ _ _ aA (pv 1) ag (λ_ _=>rfl))∣ac))⁻¹) ap)∪((aK (am bJ (pv 2) ao (av _)) ((au (pv 0) G.ak G.eZ OL (hr.mono (by decide)) G.fm .nil aq (ao∣((aI (aj (pv 0) rfl) G.bH G.nI N4 (hr.mono (by decide)) G.oM .nil aq)∣ac)))⁻¹) ap)∪((aK (am bJ (pv 2) ao (av _)) ((au (pv 0) G.ak G.eZ OL (hr.mono (by decide)) G.fm .nil aq (ao∣((aI (aj (pv 0) rfl) G.bv G.r6 N9 (hr.mono (by decide)) G.tj .nil aq)∣ac)))⁻¹) ap)∪((aK (am bJ (pv 2) ao (av _)) ((au (pv 0) G.ak G.lQ Oz (hr.mono (by decide)) G.mM .nil aq ((@aC _ _ _ _ _ _ _ aA (pv 1) ag (λ_ _=>rfl))∣((@aC _ _ _ _ _ _ _ aA (pv 1) ag (λ_ _=>rfl))∣ac)))⁻¹) ap)∪((aK (am bJ (pv 2) ao (av _)) ((au (pv 0) G.ak G.oA OB (hr.mono (by decide)) G.oU .nil aq ((@aC _ _ _ _ _ _ _ aA (pv 1) ag (λ_ _=>rfl))∣ac))⁻¹) ap)∪((aK (am bJ (pv 2) ao (av _)) ((au (pv 0) G.ak G.pd OC (hr.mono (by decide)) G.qH .nil aq ((@aC _ _ _ _ _ _ _ aA (pv 1) ag (λ_ _=>rfl))∣ac))⁻¹) ap)∪((aK (am bJ (pv 2) ao (av _)) ((au (pv 0) G.ak G.nU OD (hr.mono (by decide)) G.pG .nil aq ((@aC _ _ _ _ _ _ _ aA (pv 1) ag (λ_ _=>rfl))∣ac))⁻¹) ap)∪((au (aj (pv 0) rfl) G.az G.jO Oo (hr.mono (by decide)) G.lE .nil aq ((@aC _ _ _ _ _ _ _ aA (pv 1) ag (λ_ _=>rfl))∣ac))⁻¹)))))))))),?_⟩;refine⟨_,rfl,dQ Rd.y.ob (dP (by decide +kernel)) ⟨_,rfl,y,q,S,x,t,rfl,Rd.y,Rd.ok,ht,hx,λH1 e1=>?_⟩⟩;cases hc:x.chk q S with
  |some r =>
    rw[hc]at k;exact k H1 e1
  |none =>
    rw[hc]at k;have Rd1:Rdy w a H1 y q S L:=⟨Rd.y.same e1,Rd.ok,Rd.i,Rd.l⟩
    have k1:Bh w a y q (x.run q S).2 L (x.run q S).1 H1 Q:=λv H' Y' i' dv ko=>k v H' Y' i' dv (sv (KO.of_same e1) ko)
    have ht1:=e1 _ _ ht;clear k ht Rd e1;refine⟨_,rfl,t,_,_,_,rfl,rfl,SqT.of ht1,by rw[x.vs_eq];exact bF,?_⟩;cases x with
   |ask wt =>
     refine⟨_,rfl,rfl,_,rfl,iR (Pl rfl) ?_⟩;obtain⟨c1,c2⟩:=E9 hc;exact⟨_,rfl,dQ Rd1.y.ob (dP (by decide +kernel)) ⟨_,rfl,t,_,_,_,rfl,rfl,SqT.of ht1,rfl,y,q,S,L,wt,rfl,Rd1,c1,c2,k1⟩⟩
   |collect =>
     refine⟨_,rfl,rfl,_,rfl,cR (by rw[Pj];exact sne (show ¬ (("collect":Str)="ask") by decide +kernel)) ?_⟩;refine⟨_,rfl,rfl,_,rfl,iR (Pl rfl) ?_⟩;refine⟨_,rfl,dQ Rd1.y.ob (dP (by decide +kernel)) ⟨_,rfl,gI Rd1.y.ob G.ak G.eO se (dQ Rd1.y.x.hn.ob xn ⟨y.z,y.sa,q.p,_,S.un,S.m,S.rs,rfl,Rd1.y.x.hn,Rd1.y.x.st,Rd1.ok.ok,by have:=Rd1.i.len j';have:=Rd1.l;omega,?_⟩)⟩⟩;have rl:=Rd1.i.len;have hsl:=Rd1.i.hl;have ll:=Rd1.l;unfold Dd.run at k1;by_cases h0:aZ q.p S.m (S.rs j') .answered .handed=0
     . rw[Pg h0]at k1 |-;exact⟨y,q,S,"handed",.non,rfl,Rd1.y,by omega,.inl ⟨rfl,k1 .non H1 Rd1.y (Rd1.i.mono (by omega)) rfl (KO.refl _ _)⟩⟩
     . rw[Ph h0]at k1 |-;have rl2:∀ c,(bq S.rs j' (S.rs j'++[lT q.p S.m (S.rs j') .handed]) c).length <= L+2:=jl rl j' (by rw[Ji];have:=rl j';show _+1 <= _;omega);cases hrd:rdP S.m (S.rs j') D' (rdC S.m (S.rs j') .handed % q.p.s) with
      |none =>
        rw[hrd]at k1;intro c H2 hc2 hn2 st2 kp2;have Y2:=Rd1.y.parts (Rd1.y.x.hand hn2 st2 kp2) kp2 qf;refine⟨y,q,_,"handed",.ref c,rfl,Y2,by show S.hs.length < _;omega,.inr ⟨c,.non,.non,.none,.none,rfl,hc2,rfl,rfl,rfl,rfl,λH3 Y3 ko3 hc3=>k1 (.ref c) H3 Y3 ⟨Rd1.i.und,Rd1.i.tkd,rl2,?_⟩ ⟨c,_,rfl,hc3,_,_,rfl,rfl,_,_,rfl,rfl,rfl⟩ (sv (KO.of_kp kp2 λc hc=>.inr (.inl (qf c hc))) ko3)⟩⟩;show (S.hs++[_]).length <= _;rw[Ji];show _+1 <= _;omega
      |some nw =>
        rw[hrd]at k1;intro c H2 hc2 hn2 st2 kp2;have Y2:=Rd1.y.parts (Rd1.y.x.hand hn2 st2 kp2) kp2 qf;refine⟨y,q,_,"handed",.ref c,rfl,Y2,by show S.hs.length < _;omega,.inr ⟨c,.int nw.1,.int nw.2,.int nw.1,.int nw.2,rfl,hc2,rfl,rfl,rfl,rfl,λH3 Y3 ko3 hc3=>k1 (.ref c) H3 Y3 ⟨Rd1.i.und.filter,Rd1.i.tkd,rl2,?_⟩ (DV2 hc3) (sv (KO.of_kp kp2 λc hc=>.inr (.inl (qf c hc))) ko3)⟩⟩;show (S.hs++[_]).length <= _;rw[Ji];show _+1 <= _;omega
   |take =>
     refine⟨_,rfl,rfl,_,rfl,cR (by rw[Pj];exact sne (show ¬ (("take":Str)="ask") by decide +kernel)) ?_⟩;refine⟨_,rfl,rfl,_,rfl,cR (by rw[Pj];exact sne (show ¬ (("take":Str)="collect") by decide +kernel)) ?_⟩;refine⟨_,rfl,rfl,_,rfl,iR (Pl rfl) ?_⟩;refine⟨_,rfl,dQ Rd1.y.ob (dP (by decide +kernel)) ⟨_,rfl,gI Rd1.y.ob G.ak G.cE kN (dQ Rd1.y.x.tn.ob DK ⟨y.zt,y.sa,q.p,S.tk,S.m,S.rs,rfl,Rd1.y.x.tn,Rd1.y.x.st,Rd1.ok.ok,by have:=Rd1.i.tkd.len (by omega);omega,by have:=Rd1.i.len D';have:=Rd1.l;omega,?_⟩)⟩⟩;have rl:=Rd1.i.len;have hsl:=Rd1.i.hl;have ll:=Rd1.l;unfold Dd.run at k1;by_cases h0:aZ q.p S.m (S.rs D') .asked .taken=0
     . rw[Pg h0]at k1 |-;exact⟨y,q,S,"taken",.non,rfl,Rd1.y,by omega,.inl ⟨rfl,k1 .non H1 Rd1.y (Rd1.i.mono (by omega)) rfl (KO.refl _ _)⟩⟩
     . rw[Ph h0]at k1 |-;have rl2:∀ c,(bq S.rs D' (S.rs D'++[lT q.p S.m (S.rs D') .taken]) c).length <= L+2:=jl rl D' (by rw[Ji];have:=rl D';show _+1 <= _;omega);cases hrd:rdP S.m (S.rs D') j' (rdC S.m (S.rs D') .taken % q.p.s) with
      |none =>
        rw[hrd]at k1;intro c H2 hc2 tn2 st2 kp2;have Y2:=Rd1.y.parts (Rd1.y.x.heart tn2 st2 kp2) kp2 qv;refine⟨y,q,_,"taken",.ref c,rfl,Y2,by show S.hs.length < _;omega,.inr ⟨c,.non,.non,.none,.none,rfl,hc2,rfl,rfl,rfl,rfl,λH3 Y3 ko3 hc3=>k1 (.ref c) H3 Y3 ⟨Rd1.i.und,Rd1.i.tkd,rl2,?_⟩ ⟨c,_,rfl,hc3,_,_,rfl,rfl,_,_,rfl,rfl,rfl⟩ (sv (KO.of_kp kp2 λc hc=>.inr (.inl (qv c hc))) ko3)⟩⟩;show (S.hs++[_]).length <= _;rw[Ji];show _+1 <= _;omega
      |some nw =>
        rw[hrd]at k1;intro c H2 hc2 tn2 st2 kp2;have Y2:=Rd1.y.parts (Rd1.y.x.heart tn2 st2 kp2) kp2 qv;have nok:0 <= nw.1/\nw.1 < 9:=Rd1.y.x.st.names hrd;refine⟨y,q,_,"taken",.ref c,rfl,Y2,by show S.hs.length < _;omega,.inr ⟨c,.int nw.1,.int nw.2,.int nw.1,.int nw.2,rfl,hc2,rfl,rfl,rfl,rfl,λH3 Y3 ko3 hc3=>k1 (.ref c) H3 Y3 ⟨Rd1.i.und,Rd1.i.tkd.next nok,rl2,?_⟩ (DV2 hc3) (sv (KO.of_kp kp2 λc hc=>.inr (.inl (qv c hc))) ko3)⟩⟩;show (S.hs++[_]).length <= _;rw[Ji];show _+1 <= _;omega
   |answer nm wt =>
     refine⟨_,rfl,rfl,_,rfl,cR (by rw[Pj];exact sne (show ¬ (("answer":Str)="ask") by decide +kernel)) ?_⟩;refine⟨_,rfl,rfl,_,rfl,cR (by rw[Pj];exact sne (show ¬ (("answer":Str)="collect") by decide +kernel)) ?_⟩;refine⟨_,rfl,rfl,_,rfl,cR (by rw[Pj];exact sne (show ¬ (("answer":Str)="take") by decide +kernel)) ?_⟩;refine⟨_,rfl,rfl,_,rfl,iR (Pl rfl) ?_⟩;obtain⟨c1,c2⟩:=E1 hc;exact⟨_,rfl,dQ Rd1.y.ob (dP (by decide +kernel)) ⟨_,rfl,t,_,_,_,rfl,rfl,SqT.of ht1,rfl,_,rfl,t,_,_,_,rfl,rfl,SqT.of ht1,rfl,y,q,S,L,nm,wt,rfl,Rd1,c1,c2,k1⟩⟩
   |bell b =>
     refine⟨_,rfl,rfl,_,rfl,cR (by rw[Pj];exact sne (show ¬ (("bell":Str)="ask") by decide +kernel)) ?_⟩;refine⟨_,rfl,rfl,_,rfl,cR (by rw[Pj];exact sne (show ¬ (("bell":Str)="collect") by decide +kernel)) ?_⟩;refine⟨_,rfl,rfl,_,rfl,cR (by rw[Pj];exact sne (show ¬ (("bell":Str)="take") by decide +kernel)) ?_⟩;refine⟨_,rfl,rfl,_,rfl,cR (by rw[Pj];exact sne (show ¬ (("bell":Str)="answer") by decide +kernel)) ?_⟩;refine⟨_,rfl,rfl,_,rfl,iR (Pl rfl) ?_⟩;exact⟨_,rfl,dQ Rd1.y.ob (dP (by decide +kernel)) ⟨_,rfl,t,_,_,_,rfl,rfl,SqT.of ht1,rfl,y,q,S,L,b,rfl,Rd1,k1⟩⟩
   |lie b =>
     refine⟨_,rfl,rfl,_,rfl,cR (by rw[Pj];exact sne (show ¬ (("lie":Str)="ask") by decide +kernel)) ?_⟩;refine⟨_,rfl,rfl,_,rfl,cR (by rw[Pj];exact sne (show ¬ (("lie":Str)="collect") by decide +kernel)) ?_⟩;refine⟨_,rfl,rfl,_,rfl,cR (by rw[Pj];exact sne (show ¬ (("lie":Str)="take") by decide +kernel)) ?_⟩;refine⟨_,rfl,rfl,_,rfl,cR (by rw[Pj];exact sne (show ¬ (("lie":Str)="answer") by decide +kernel)) ?_⟩;refine⟨_,rfl,rfl,_,rfl,cR (by rw[Pj];exact sne (show ¬ (("lie":Str)="bell") by decide +kernel)) ?_⟩;refine⟨_,rfl,rfl,_,rfl,iR (Pl rfl) ?_⟩;exact⟨_,rfl,dQ Rd1.y.ob (dP (by decide +kernel)) ⟨_,rfl,t,_,_,_,rfl,rfl,SqT.of ht1,rfl,y,q,S,L,b,rfl,Rd1,k1⟩⟩
   |look b =>
     refine⟨_,rfl,rfl,_,rfl,cR (by rw[Pj];exact sne (show ¬ (("look":Str)="ask") by decide +kernel)) ?_⟩;refine⟨_,rfl,rfl,_,rfl,cR (by rw[Pj];exact sne (show ¬ (("look":Str)="collect") by decide +kernel)) ?_⟩;refine⟨_,rfl,rfl,_,rfl,cR (by rw[Pj];exact sne (show ¬ (("look":Str)="take") by decide +kernel)) ?_⟩;refine⟨_,rfl,rfl,_,rfl,cR (by rw[Pj];exact sne (show ¬ (("look":Str)="answer") by decide +kernel)) ?_⟩;refine⟨_,rfl,rfl,_,rfl,cR (by rw[Pj];exact sne (show ¬ (("look":Str)="bell") by decide +kernel)) ?_⟩;refine⟨_,rfl,rfl,_,rfl,cR (by rw[Pj];exact sne (show ¬ (("look":Str)="lie") by decide +kernel)) ?_⟩;refine⟨_,rfl,rfl,_,rfl,iR (Pl rfl) ?_⟩;exact⟨_,rfl,dQ Rd1.y.ob (dP (by decide +kernel)) ⟨_,rfl,t,_,_,_,rfl,rfl,SqT.of ht1,rfl,y,q,S,L,b,rfl,Rd1,k1⟩⟩
   |drain b =>
     refine⟨_,rfl,rfl,_,rfl,cR (by rw[Pj];exact sne (show ¬ (("drain":Str)="ask") by decide +kernel)) ?_⟩;refine⟨_,rfl,rfl,_,rfl,cR (by rw[Pj];exact sne (show ¬ (("drain":Str)="collect") by decide +kernel)) ?_⟩;refine⟨_,rfl,rfl,_,rfl,cR (by rw[Pj];exact sne (show ¬ (("drain":Str)="take") by decide +kernel)) ?_⟩;refine⟨_,rfl,rfl,_,rfl,cR (by rw[Pj];exact sne (show ¬ (("drain":Str)="answer") by decide +kernel)) ?_⟩;refine⟨_,rfl,rfl,_,rfl,cR (by rw[Pj];exact sne (show ¬ (("drain":Str)="bell") by decide +kernel)) ?_⟩;refine⟨_,rfl,rfl,_,rfl,cR (by rw[Pj];exact sne (show ¬ (("drain":Str)="lie") by decide +kernel)) ?_⟩;refine⟨_,rfl,rfl,_,rfl,cR (by rw[Pj];exact sne (show ¬ (("drain":Str)="look") by decide +kernel)) ?_⟩;obtain⟨x,c8,hb⟩:=zL hc;have rl:=Rd1.i.len;have k2:Bh w a y q { S with m:=S.m.put x,rs:=bq S.rs b c8 } L .none H1 Q:=by
      have e:(Dd.drain b).run q S=(.none,{ S with m:=S.m.put x,rs:=bq S.rs b c8 }):=by
       show (match S.rs b with|x :: c8=>_|[]=>_)=_;rw[hb]
      rw[e]at k1;exact k1
     refine⟨_,rfl,gI Rd1.y.ob G.ak G.aR fc (dQ Rd1.y.x.st.ob (bK (by decide +kernel) (by decide +kernel)) ⟨_,rfl,t,_,_,_,rfl,rfl,SqT.of ht1,rfl,y.sa,S.m,S.rs,b,x,c8,rfl,Rd1.y.x.st,hb,λH2 st2 kp2=>?_⟩)⟩;refine k2 .non H2 (Rd1.y.parts (Rd1.y.x.store st2 kp2) kp2 sX) ⟨Rd1.i.und,Rd1.i.tkd,jl rl b (by have:=rl b;rw[hb,JN]at this;omega),by have:=Rd1.i.hl;show S.hs.length <= _;omega⟩ rfl (Hf kp2)
def AR (CJ:G'):Sp:=λvs H Q _=>∃ (j dx:G'),vs=[.ref j]/\H j=dk (.ins CJ dx []) /\
 ∀ (z:JA) (H':Hp),z.j=j->H z.u=Jd->H z.h=Jd->H z.g=Jd->H z.d=Jd->Jn CJ H' z [] [] [] []->Kp [j] H H'->Q .non H'
def CM (CJ:G'):Sp:=λvs H Q _=>∃ (z:JA) (un uh:List (Int × Int)) (go do':List Int) (h:Hap),vs=[.ref z.j,.str h.w.key,.int h.n,.int h.o]/\Jn CJ H z un uh go do'/\un.length < 1000/\uh.length < 1000/\∀ H',bZ H H'->Q (.bl (DR un uh go do' h)) H'
def Dg (CJ:G'):Sp:=λvs H Q _=>∃ (z:JA) (ah:List Hap) (un uh:List (Int × Int)) (go do':List Int) (h:Hap),vs=[.ref z.j,.str h.w.key,.int h.n,.int h.o]/\Jn CJ H z un uh go do'/\JI ah un uh go do'/\gq ah h=D'/\ah.length < 1000 /\
 ∀ H' un' uh' go' do2,Jn CJ H' z un' uh' go' do2->JI (ah++[h]) un' uh' go' do2->KO z.own H H'->Kt H H'->Q .non H'
def AX (G:Gs K mg a d):FnOk P w K mg base CX0 1 a.d8 d.d8 ["self"] (AR a.fN):=by
 refine G.rE.ok oO (λvs H Q E h=>?_) (λcdv A outer s H vs Q E hr h=>?_)
 . obtain⟨j,dx,rfl,_⟩:=h;rfl
 . obtain⟨j,dx,rfl,hj,k⟩:=h;refine⟨_,((bi (pv 0) (@bW _ _ _ _ ac) rfl)∪((bi (pv 0) (@bW _ _ _ _ ac) rfl)∪((bi (pv 0) jA rfl)∪(@al _ _ _ (bi (pv 0) jA rfl))))),?_⟩;refine⟨rT,λu hu=>?_⟩;obtain⟨a1,a2,a3,a4⟩:=qZ (o:=.lst []) (f:="untaken") hj hu;refine⟨_,rfl,j,a.fN,dx,[],rfl,a3,G.bc,G.bV,by decide,?_⟩;generalize upd (upd H u (.lst [])) j (.ins a.fN dx (ba "untaken" (.ref u) []))=H1 at a1 a2 a4 |-;refine⟨rT,λh hh=>?_⟩;obtain⟨b1,b2,b3,b4⟩:=qZ (o:=.lst []) (f:="unhanded") a1 hh;refine⟨_,rfl,j,a.fN,dx,_,rfl,b3,G.bc,G.bG,by show 1 < 1000;decide,?_⟩;generalize upd (upd H1 h (.lst [])) j (.ins a.fN dx (ba "unhanded" (.ref h) (ba "untaken" (.ref u) [])))=H2 at b1 b2 b4 |-;intro g hg;obtain⟨c1,c2,c3,c4⟩:=qZ (o:=.dK []) (f:="going") b1 hg;refine⟨_,rfl,j,a.fN,dx,_,rfl,c3,G.bc,G.eM,by show 2 < 1000;decide,?_⟩;generalize upd (upd H2 g (.dK [])) j (.ins a.fN dx (ba "going" (.ref g) (ba "unhanded" (.ref h) (ba "untaken" (.ref u) []))))=H3 at c1 c2 c4 |-;intro d' hd;obtain⟨d1,d2,d3,d4⟩:=qZ (o:=.dK []) (f:="doing") c1 hd;refine⟨_,rfl,j,a.fN,dx,_,rfl,d3,G.bc,G.eL,by show 3 < 1000;decide,?_⟩;generalize upd (upd H3 d' (.dK [])) j (.ins a.fN dx (ba "doing" (.ref d') (ba "going" (.ref g) (ba "unhanded" (.ref h) (ba "untaken" (.ref u) [])))))=H4 at d1 d2 d4 |-;have nb:∀ {H' H'':Hp} {c:G'} {C fs},H' j=dk (.ins C dx fs)->(∀ c u,c≠j->H' c=dk u->H'' c=dk u)->H'' c=Jd->H'' j≠Jd->H' c=Jd:=λ{H' H'' c C fs} q1 q2 q3 q4=>by
    cases y:H' c with
   |none=>rfl
   |some o =>
     by_cases e:c=j
     . rw[e]at q3;exact absurd q3 q4
     . rw[q2 c o e y]at q3;cases q3
   have nn:∀ {H':Hp} {o:HO},H' j=dk o->H' j≠Jd:=λe z=>by rw[e]at z;cases z
   have uj:u≠j:=λy=>by rw[y,hj]at hu;cases hu
   have hj':h≠j:=λy=>by rw[y,a1]at hh;cases hh
   have gj:g≠j:=λy=>by rw[y,b1]at hg;cases hg
   have u2:=b4 _ _ uj a2;have u4:=d4 _ _ uj (c4 _ _ uj u2);have h4:=d4 _ _ hj' (c4 _ _ hj' b2);have g4:=d4 _ _ gj c2;have hhH:=nb hj a4 hh (nn a1);have hgH:=nb hj a4 (nb a1 b4 hg (nn b1)) (nn a1);have hdH:=nb hj a4 (nb a1 b4 (nb b1 c4 hd (nn c1)) (nn b1)) (nn a1);refine k ⟨j,u,h,g,d'⟩ H4 rfl hu hhH hgH hdH ⟨⟨dx,d1⟩,⟨[],u4,.nil⟩,⟨[],h4,.nil⟩,g4,d2,ae a2 hh,ae c2 hd⟩ λc o nc e=>?_
   have nc':c≠j:=λy=>nc (Je.mpr y)
   exact d4 _ _ nc' (c4 _ _ nc' (b4 _ _ nc' (a4 _ _ nc' e)))
def CV (G:Gs K mg a d):FnOk P w K mg base CX0 1 a.cB d.cB ["self","word","name","worth"] (CM a.fN):=by
 refine G.mD.ok lJ (λvs H Q E h=>?_) (λcdv A outer s H vs Q E hr h=>?_)
 . obtain⟨z,un,uh,go,do',h,rfl,_⟩:=h;rfl
 . obtain⟨z,un,uh,go,do',⟨wd,n,o⟩,rfl,J,lu,lh,k⟩:=h;have hu:=dF hr;refine⟨_,((aK (am bJ (pv 1) ao (av _)) ((vQ (j7 hu (pv 2) (aj (pv 0) rfl)))⁻¹) ap)∪((aK (am bJ (pv 1) ao (av _)) ((cY (sW hr.units) (fY ml (aj (pv 0) rfl) kq (hU ag)) (@bW _ _ _ _ ((@bb _ _ _ _ _ ((pv 2)∣((pv 3)∣ac)))∣ac)) (av _))⁻¹) ap)∪((aK (am bJ (pv 1) ao (av _)) ((vQ (Ah hu (pv 2) (aj (pv 0) rfl)))⁻¹) ap)∪((cY (sW hr.units) (fY ml (aj (pv 0) rfl) kq (hU ag)) (@bW _ _ _ _ ((@bb _ _ _ _ _ ((pv 2)∣((pv 3)∣ac)))∣ac)) (av _))⁻¹)))),?_⟩;obtain⟨dx,hx⟩:=J.ob;cases wd with
  |asked =>
    refine⟨_,rfl,rfl,_,rfl,jt rfl ?_⟩;refine⟨_,rfl,_,rfl,fld hx G.bc G.eM HD ⟨z.g,_,rfl,pI.k (k:=.inl n) J.g,?_⟩⟩;have q:=k H (bZ.refl _);rw[fu];show Q (.bl (!(if go.contains n=D' then dk (V.bl D') else Jd).isSome)) H;have e:(if go.contains n=D' then dk (V.bl D') else Jd).isSome=go.contains n:=by cases go.contains n<;>rfl
    rw[e];exact q
  |taken =>
    refine⟨_,rfl,rfl,_,rfl,cH (sne (show Wd.key .taken≠"asked" by decide +kernel)) ⟨_,rfl,rfl,_,rfl,jt rfl ?_⟩⟩;obtain⟨ts,e0,pr⟩:=J.u;refine⟨_,rfl,fld hx G.bc G.bV Gf ⟨_,rfl,z.u,ts,rfl,SqL.of e0,λq hq=>⟨_,rfl,_,rfl,l2,λt ht=>⟨xa,λc hc=>?_⟩⟩⟩⟩;have s1:=ai (o:=.lst (kY ts Jd (dk 1))) hq;have s2:=ai (o:=.tup [V.int n,V.int o]) ht;have s3:=ai (o:=.lst [V.ref t]) hc;have cq:kY ts Jd (dk 1)=ts.take 1:=qN ts 1;have pr1:JC (PV H) (un.take 1) (kY ts Jd (dk 1)):=by rw[cq];exact fj 1 pr
    refine⟨.list ((un.take 1).map pvD),.list ([(n,o)].map pvD),⟨q,_,rfl,s3 _ _ (s2 _ _ a9),?_⟩,⟨c,_,rfl,a9,nE (.cons ⟨t,rfl,s3 _ _ a9⟩ .nil)⟩,pZ _,pZ _,?_⟩
    . exact nE (Paired.mapP pr1 λ_ _ h=>h.keep (s1.trans (s2.trans s3)).kt)
    . rw[yr];exact k _ (s1.trans (s2.trans s3))
  |answered =>
    refine⟨_,rfl,rfl,_,rfl,cH (sne (show Wd.key .answered≠"asked" by decide +kernel)) ⟨_,rfl,rfl,_,rfl,cH (sne (show Wd.key .answered≠"taken" by decide +kernel)) ⟨_,rfl,rfl,_,rfl,jt rfl ?_⟩⟩⟩;refine⟨_,rfl,_,rfl,fld hx G.bc G.eL Gy ⟨z.d,_,rfl,pI.k (k:=.inl n) J.d,?_⟩⟩;have q:=k H (bZ.refl _);rw[fu];show Q (.bl ((if do'.contains n=D' then dk (V.bl D') else Jd).isSome)) H;have e:(if do'.contains n=D' then dk (V.bl D') else Jd).isSome=do'.contains n:=by cases do'.contains n<;>rfl
    rw[e];exact q
  |handed =>
    refine⟨_,rfl,rfl,_,rfl,cH (sne (show Wd.key .handed≠"asked" by decide +kernel)) ⟨_,rfl,rfl,_,rfl,cH (sne (show Wd.key .handed≠"taken" by decide +kernel)) ⟨_,rfl,rfl,_,rfl,cH (sne (show Wd.key .handed≠"answered" by decide +kernel)) ?_⟩⟩⟩;obtain⟨ts,e0,pr⟩:=J.h;refine⟨_,rfl,fld hx G.bc G.bG Gg ⟨_,rfl,z.h,ts,rfl,SqL.of e0,λq hq=>⟨_,rfl,_,rfl,l2,λt ht=>⟨xa,λc hc=>?_⟩⟩⟩⟩;have s1:=ai (o:=.lst (kY ts Jd (dk 1))) hq;have s2:=ai (o:=.tup [V.int n,V.int o]) ht;have s3:=ai (o:=.lst [V.ref t]) hc;have cq:kY ts Jd (dk 1)=ts.take 1:=qN ts 1;have pr1:JC (PV H) (uh.take 1) (kY ts Jd (dk 1)):=by rw[cq];exact fj 1 pr
    refine⟨.list ((uh.take 1).map pvD),.list ([(n,o)].map pvD),⟨q,_,rfl,s3 _ _ (s2 _ _ a9),?_⟩,⟨c,_,rfl,a9,nE (.cons ⟨t,rfl,s3 _ _ a9⟩ .nil)⟩,pZ _,pZ _,?_⟩
    . exact nE (Paired.mapP pr1 λ_ _ h=>h.keep (s1.trans (s2.trans s3)).kt)
    . rw[yr];exact k _ (s1.trans (s2.trans s3))
def D0 (G:Gs K mg a d):FnOk P w K mg base CX0 1 a.d7 d.d7 ["self","word","name","worth"] (Dg a.fN):=by
 refine G.r9.ok oV (λvs H Q E h=>?_) (λcdv A outer s H vs Q E hr h=>?_)
 . obtain⟨z,ah,un,uh,go,do',h,rfl,_⟩:=h;rfl
 . obtain⟨z,ah,un,uh,go,do',⟨wd,n,o⟩,rfl,J,I,hf,hl,k⟩:=h;have hu:=dF hr;refine⟨_,(@al _ _ _ (aK (am bJ (pv 1) ao (av _)) ((jY hu (aj (pv 0) rfl) (pv 2) bI rfl)∪(@al _ _ _ (@aB _ _ _ _ (@lv _ _ _ _ _ _ _ _ _ _ _ _ JH Kh PySem.F.type_list_append dC (aj (pv 0) rfl) ((@bb _ _ _ _ _ ((pv 2)∣((pv 3)∣ac)))∣ac) (by rfl) (by rfl) (by rfl) (by rfl) (by rfl)) (by rfl)))) (@al _ _ _ (aK (am bJ (pv 1) ao (av _)) ((@aB _ _ _ _ (@lv _ _ _ _ _ _ _ _ _ _ _ _ JH PySem.F.slot_list_pop PySem.F.type_list_pop rN (aj (pv 0) rfl) (ag∣ac) (by rfl) (by rfl) (by rfl) (by rfl) (by rfl)) (by rfl))∪(@al _ _ _ (jY hu (aj (pv 0) rfl) (pv 2) bI rfl))) (@al _ _ _ (aK (am bJ (pv 1) ao (av _)) ((@aB _ _ _ _ (l6 (aj (pv 0) rfl) (pv 2) ⟨rfl,rfl,rfl,rfl⟩) (by rfl))∪(@al _ _ _ (@aB _ _ _ _ (@lv _ _ _ _ _ _ _ _ _ _ _ _ JH Kh PySem.F.type_list_append dC (aj (pv 0) rfl) ((@bb _ _ _ _ _ ((pv 2)∣((pv 3)∣ac)))∣ac) (by rfl) (by rfl) (by rfl) (by rfl) (by rfl)) (by rfl)))) ((@aB _ _ _ _ (@lv _ _ _ _ _ _ _ _ _ _ _ _ JH PySem.F.slot_list_pop PySem.F.type_list_pop rN (aj (pv 0) rfl) (ag∣ac) (by rfl) (by rfl) (by rfl) (by rfl) (by rfl)) (by rfl))∪(@al _ _ _ (@aB _ _ _ _ (l6 (aj (pv 0) rfl) (pv 2) ⟨rfl,rfl,rfl,rfl⟩) (by rfl)))))))))),?_⟩;obtain⟨dx,hx⟩:=J.ob;rw[<-I.fits]at hf;obtain⟨l1,l2',l3,l4⟩:=I.lens;have ko1:∀ {H:Hp} {x:G'} {o:HO},z.own x->KO z.own H (upd H x o):=λhx=>KO.of_kp Kp.one λc hc=>by rw[Je.mp hc];exact hx
   have ou:z.own z.u:=.inr (.inl rfl);have oh:z.own z.h:=.inr (.inr (.inl rfl));have og:z.own z.g:=.inr (.inr (.inr (.inl rfl)));have od:z.own z.d:=.inr (.inr (.inr (.inr rfl)));have kot:∀ {H1 H2 H3:Hp},KO z.own H1 H2->KO z.own H2 H3->KO z.own H1 H3:=λh1 h2=>h1.trans h2 λ_ hc=>.inl hc
   cases wd with
  |asked =>
    have hn:go.contains n=j':=by
     have:(!go.contains n)=D':=hf;simpa using this
    have hn':n ∉ go:=by rw[Kc]at hn;exact of_decide_eq_false hn
    refine⟨_,rfl,rfl,_,rfl,jt rfl ?_⟩;refine⟨_,rfl,fld hx G.bc G.eM HD ⟨_,rfl,z.g,_,rfl,Ab.k (k:=.inl n) J.g (by rw[qm];exact Jj (show _ < 10000 by omega) (by decide)),?_⟩⟩;have J1:=J.setG (qi n go hn);generalize hH1:upd H z.g (.dK (kG (gK go) (Kk n) (.bl D')))=H1 at J1;have k1:KO z.own H H1:=by rw[<-hH1];exact ko1 og
    have t1:Kt H H1:=by rw[<-hH1];exact fP J.g (λ_ z=>by cases z) _
    obtain⟨ts,e0,pr⟩:=J1.u;obtain⟨dx1,hx1⟩:=J1.ob;have lt:=aG pr;refine⟨_,rfl,fld hx1 G.bc G.bV Gf ⟨.inl ⟨rfl,_,SqL.of e0⟩,_,rfl,_,rfl,l2,λt ht=>⟨z.u,ts,_,rfl,rfl,ai ht _ _ e0,Jj (show _ < 10000 by omega) (by decide),?_⟩⟩⟩;have s2:=ai (o:=.tup [V.int n,V.int o]) ht;have J2:=(J1.same s2).setU (un':=un++[(n,o)]) (ts:=ts++[.ref t]) (JC.snoc (Paired.mapP pr λ_ _ h=>h.keep s2.kt) ⟨t,rfl,a9⟩);exact k _ _ _ _ _ J2 (I.asked hn') (kot k1 (kot (KO.of_same s2) (ko1 ou))) λb vs e=>fP (s2 _ _ e0) (λ_ z=>by cases z) _ _ _ (s2 _ _ (t1 _ _ e))
  |taken =>
    have hn:un.take 1=[(n,o)]:=of_decide_eq_true hf;obtain⟨I2,hnd⟩:=I.taken hn;have e1:=B5 hn;refine⟨_,rfl,rfl,_,rfl,cH (sne (show Wd.key .taken≠"asked" by decide +kernel)) ⟨_,rfl,rfl,_,rfl,jt rfl ?_⟩⟩;obtain⟨ts,e0,pr⟩:=J.u;have lt:=aG pr;have hl0:0 < ts.length:=by rw[<-lt,e1];exact Nat.succ_pos _
    refine⟨_,rfl,fld hx G.bc G.bV Gf ⟨.inl ⟨rfl,_,SqL.of e0⟩,z.u,ts,0,0,ts[0],rfl,rfl,e0,by decide,by decide,HJ hl0,Jl hl0,?_⟩⟩;rw[CI];have J1:=J.setU (ii 1 pr);have k1:KO z.own H (upd H z.u (.lst (ts.drop 1))):=ko1 ou;have t1:Kt H (upd H z.u (.lst (ts.drop 1))):=fP e0 (λ_ z=>by cases z) _;generalize upd H z.u (.lst (ts.drop 1))=H1 at J1 k1 t1 |-;obtain⟨dx1,hx1⟩:=J1.ob;refine⟨_,rfl,fld hx1 G.bc G.eL Gy ⟨_,rfl,z.d,_,rfl,Ab.k (k:=.inl n) J1.d (by rw[qm];exact Jj (show _ < 10000 by omega) (by decide)),?_⟩⟩;exact k _ _ _ _ _ (J1.setD (qi n do' (by rw[Kc];exact decide_eq_false hnd))) I2 (kot k1 (ko1 od)) λb vs e=>fP J1.d (λ_ z=>by cases z) _ _ _ (t1 _ _ e)
  |answered =>
    have hn:do'.contains n=D':=hf;have hn':n∈do':=by rw[Kc]at hn;exact of_decide_eq_true hn
    refine⟨_,rfl,rfl,_,rfl,cH (sne (show Wd.key .answered≠"asked" by decide +kernel)) ⟨_,rfl,rfl,_,rfl,cH (sne (show Wd.key .answered≠"taken" by decide +kernel)) ⟨_,rfl,rfl,_,rfl,jt rfl ?_⟩⟩⟩;have hv:lp (gK do') (.inl n)=dk (.bl D'):=by rw[fu,hn];rfl
    refine⟨_,rfl,fld hx G.bc G.eL Gy ⟨z.d,rfl,.inl ⟨_,.inl J.d⟩,_,rfl,_,.inl n,_,J.d,rfl,hv,?_⟩⟩;have I2:=I.answered (o:=o) hn';have ee:jH (gK do') (Kk n)=gK (do'.erase n):=by
     rw[kD,I.ndo.erase_eq_filter];congr 1;refine filter_congr λy _=>?_
     by_cases e:y=n
     . subst e;simp
     . simp[e]
    have J1:=J.setD ee;have k1:KO z.own H (upd H z.d (.dK (jH (gK do') (Kk n)))):=ko1 od;have t1:Kt H (upd H z.d (.dK (jH (gK do') (Kk n)))):=fP J.d (λ_ z=>by cases z) _;generalize upd H z.d (.dK (jH (gK do') (Kk n)))=H1 at J1 k1 t1 |-;obtain⟨ts,e0,pr⟩:=J1.h;obtain⟨dx1,hx1⟩:=J1.ob;have lt:=aG pr;refine⟨_,rfl,fld hx1 G.bc G.bG Gg ⟨.inl ⟨rfl,_,SqL.of e0⟩,_,rfl,_,rfl,l2,λt ht=>⟨z.h,ts,_,rfl,rfl,ai ht _ _ e0,Jj (show _ < 10000 by omega) (by decide),?_⟩⟩⟩;have s2:=ai (o:=.tup [V.int n,V.int o]) ht;have J2:=(J1.same s2).setH (uh':=uh++[(n,o)]) (ts:=ts++[.ref t]) (JC.snoc (Paired.mapP pr λ_ _ h=>h.keep s2.kt) ⟨t,rfl,a9⟩);exact k _ _ _ _ _ J2 I2 (kot k1 (kot (KO.of_same s2) (ko1 oh))) λb vs e=>fP (s2 _ _ e0) (λ_ z=>by cases z) _ _ _ (s2 _ _ (t1 _ _ e))
  |handed =>
    have hn:uh.take 1=[(n,o)]:=of_decide_eq_true hf;obtain⟨I2,hng⟩:=I.handed hn;have e1:=B5 hn;refine⟨_,rfl,rfl,_,rfl,cH (sne (show Wd.key .handed≠"asked" by decide +kernel)) ⟨_,rfl,rfl,_,rfl,cH (sne (show Wd.key .handed≠"taken" by decide +kernel)) ⟨_,rfl,rfl,_,rfl,cH (sne (show Wd.key .handed≠"answered" by decide +kernel)) ?_⟩⟩⟩;obtain⟨ts,e0,pr⟩:=J.h;have lt:=aG pr;have hl0:0 < ts.length:=by rw[<-lt,e1];exact Nat.succ_pos _
    refine⟨_,rfl,fld hx G.bc G.bG Gg ⟨.inl ⟨rfl,_,SqL.of e0⟩,z.h,ts,0,0,ts[0],rfl,rfl,e0,by decide,by decide,HJ hl0,Jl hl0,?_⟩⟩;rw[CI];have J1:=J.setH (ii 1 pr);have k1:KO z.own H (upd H z.h (.lst (ts.drop 1))):=ko1 oh;have t1:Kt H (upd H z.h (.lst (ts.drop 1))):=fP e0 (λ_ z=>by cases z) _;generalize upd H z.h (.lst (ts.drop 1))=H1 at J1 k1 t1 |-;obtain⟨dx1,hx1⟩:=J1.ob;have hv:lp (gK go) (.inl n)=dk (.bl D'):=by rw[fu,Kc,Pl hng];rfl
    have ee:jH (gK go) (Kk n)=gK (go.erase n):=by
     rw[kD,I.nd.erase_eq_filter];congr 1;refine filter_congr λy _=>?_
     by_cases e:y=n
     . subst e;simp
     . simp[e]
    refine⟨_,rfl,fld hx1 G.bc G.eM HD ⟨z.g,rfl,.inl ⟨_,.inl J1.g⟩,_,rfl,_,.inl n,_,J1.g,rfl,hv,?_⟩⟩;exact k _ _ _ _ _ (J1.setG ee) I2 (kot k1 (ko1 og)) λb vs e=>fP J1.g (λ_ z=>by cases z) _ _ _ (t1 _ _ e)
def sA (ns:List Int) (k:Nat):Int:=ns.getD k 0
def yD (K:Jh):Sp:=λvs H Q _=>∃ (b:G') (ns:List Int) (k:Nat),vs=[.ref b,.int k]/\SqL K H b (ns.map V.int)/\Q (.int (sA ns k)) H
def FY (xs:List V):Prop:=∃ c l:Int,xs=[.int c,.int l]/\0 <= l/\l < 2147483587
def Ft:Sp:=λvs H Q _=>∃ c:Int,vs=[.int c]/\∀ (p:G') (rw:List V),H p=Jd->FY rw->Q (.ref p) (upd H p (.lst rw))
def Rw (H:Hp) (r:G'):Prop:=∃ rw,H r=dk (.lst rw)/\FY rw
structure Stp (r:G') (H H':Hp):Prop where
 row:Rw H' r
 keep:∀ b o,b≠r->H b=dk o->H' b=dk o
def Stp.trans {r:G'}{H H1 H2:Hp}(a:Stp r H H1) (b:Stp r H1 H2):Stp r H H2:=⟨b.row,λc o n e=>b.keep c o n (a.keep c o n e)⟩
def Rw.new {r p:G'}{H:Hp}{o:HO}(h:Rw H r) (hp:H p=Jd):Rw (upd H p o) r:=by
 obtain⟨rw,e,q⟩:=h;exact⟨rw,by rw[aa (ae e hp)];exact e,q⟩
theorem Stp.new {r p:G'}{H H1:Hp}{o:HO}(a:Stp r H H1) (hp:H1 p=Jd):Stp r H (upd H1 p o) :=
 ⟨a.row.new hp,λc u n e=>by rw[aa (ae (a.keep c u n e) hp)];exact a.keep c u n e⟩
def Rw.ne {r p:G'}{H:Hp}(h:Rw H r) (hp:H p=Jd):p≠r:=by
 obtain⟨rw,e,_⟩:=h;exact λz=>by rw[z,e]at hp;cases hp
def xU:Sp:=λvs H Q _=>∃ (r:G') (m:Int),vs=[.ref r,.int m]/\Rw H r/\0 < m/\m < 2 ^ 40 /\
 ∀ (g:Int) (H':Hp),0 <= g->g < m->Stp r H H'->Q (.int g) H'
def pP:(0:Int) < 2147483587:=by decide
def yq (G:Gs K mg a d):FnOk P w K mg base CX0 1 a.cU d.cU ["script","k"] (yD K):=by
 refine G.lC.ok pE (λvs H Q E h=>?_) (λcdv A' outer s' H vs Q E hr h=>?_)
 . obtain⟨b,ns,k,rfl,_⟩:=h;rfl
 . obtain⟨b,ns,k,rfl,hS,q⟩:=h;refine⟨_,((aK (am GE (pv 1) (bn bo (by rfl) G.oQ jP ((pv 0)∣ac)) (av _)) ((@aC _ _ _ _ _ _ _ bg (pv 0) (pv 1) (λ_ _=>rfl))⁻¹) ap)∪(ag⁻¹)),?_⟩;refine⟨_,rfl,_,rfl,b,_,rfl,.inl hS,_,_,rfl,rfl,_,rfl,?_⟩;by_cases h:k < ns.length
   . refine iR (Pl (by rw[Ju];omega)) ?_;refine⟨_,rfl,_,rfl,b,_,_,_,rfl,rfl,hS,zB (j:=k) (v:=.int (sA ns k)) ?_,q⟩;unfold sA;rw[Ke,Jl h,KS,Jl h];rfl
   . refine cR (by rw[Pj,Ju];omega) ?_;have:sA ns k=0:=by unfold sA;rw[KS,List.getElem?_eq_none (by omega)];rfl
     rw[this]at q;exact q
def Fy (G:Gs K mg a d):FnOk P w K mg base CX0 1 a.k8 d.k8 ["cell"] Ft:=by
 refine G.oF.ok xq (λvs H Q E h=>?_) (λcdv A outer s H vs Q E hr h=>?_)
 . obtain⟨c,rfl,_⟩:=h;rfl
 . obtain⟨c,rfl,k⟩:=h;refine⟨_,((@bW _ _ _ _ ((pv 0)∣((@cO _ _ _ _ _ _ _ _ mF (pv 0) ag)∣ac)))⁻¹),?_⟩;refine⟨_,rfl,_,rfl,_,_,rfl,rfl,pP,?_⟩;refine⟨by show 2 <= Jm;decide,λp hp=>k p _ hp ⟨_,_,rfl,Lu _ (by decide),Lo _ pP⟩⟩
def zi (G:Gs K mg a d):FnOk P w K mg base CX0 1 a.ix d.ix ["row","many"] xU:=by
 refine G.cD.ok oJ (λvs H Q E h=>?_) (λcdv A outer s H vs Q E hr h=>?_)
 . obtain⟨r,m,rfl,_⟩:=h;rfl
 . obtain⟨r,m,rfl,⟨rw,hl,c,l,rfl,hl0,hl1⟩,hm0,hm1,k⟩:=h;have stp:∀ (c' l':Int),0 <= l'->l' < 2147483587->Stp r H (upd H r (.lst [.int c',.int l'])):=λc' l' g0 g1 =>
    ⟨⟨_,a9,c',l',rfl,g0,g1⟩,λx o n e=>by rw[aa n];exact e⟩
   refine⟨_,((aK (am F5 (@aC _ _ _ _ _ _ _ bg (pv 0) ag (λ_ _=>rfl)) (@cO _ _ _ _ _ _ _ _ EC ag ag) (av _)) ((@aX _ _ 2 _ _ _ _ oJ.nd rfl (JQ rfl) (@cO _ _ _ _ _ _ _ _ mF (@aC _ _ _ _ _ _ _ bg (pv 0) ag (λ_ _=>rfl)) (pv 1)) (by rfl) (by first|exact .inl rfl|exact .inr rfl|assumption))∪((@fZ _ _ _ _ _ _ (@cO _ _ _ _ _ _ _ _ vD (@aC _ _ _ _ _ _ _ bg (pv 0) ag (λ_ _=>rfl)) (pv 1)) (iJ (pv 0) ag cQ) (by rfl) (by rfl) (by rfl))∪((pv 2)⁻¹))) ap)∪((@fZ _ _ _ _ _ _ (@cO _ _ _ _ _ _ _ _ mF (@cO _ _ _ _ _ _ _ _ jM (@cO _ _ _ _ _ _ _ _ jM (@cO _ _ _ _ _ _ _ _ tO (@aC _ _ _ _ _ _ _ bg (pv 0) ag (λ_ _=>rfl)) (@aC _ _ _ _ _ _ _ bg (pv 0) ag (λ_ _=>rfl))) (@cO _ _ _ _ _ _ _ _ tO ag (@aC _ _ _ _ _ _ _ bg (pv 0) ag (λ_ _=>rfl)))) ag) ag) (iJ (pv 0) ag cQ) (by rfl) (by rfl) (by rfl))∪((@cO _ _ _ _ _ _ _ _ mF (@cO _ _ _ _ _ _ _ _ vD (@aC _ _ _ _ _ _ _ bg (pv 0) ag (λ_ _=>rfl)) ag) (pv 1))⁻¹))),?_⟩;refine⟨_,rfl,r,_,_,_,rfl,rfl,SqL.of hl,rfl,?_⟩;refine⟨_,_,rfl,rfl,⟨by decide,by decide,by decide⟩,_,_,rfl,rfl,_,rfl,?_⟩;refine Gm (λ_=>?_) (λ_=>?_)
   . refine⟨_,rfl,r,_,_,_,rfl,rfl,SqL.of hl,rfl,_,rfl,_,_,rfl,rfl,hm0,?_⟩;refine⟨_,rfl,r,_,_,_,rfl,rfl,SqL.of hl,rfl,_,rfl,_,_,rfl,rfl,⟨hm0,hm1⟩,_,rfl,r,_,_,_,rfl,rfl,hl,rfl,?_⟩;refine⟨_,rfl,?_⟩;exact k _ _ (Lu _ (by omega)) (Lo _ hm0) (stp _ _ hl0 hl1)
   . refine⟨_,rfl,r,_,_,_,rfl,rfl,SqL.of hl,rfl,_,rfl,r,_,_,_,rfl,rfl,SqL.of hl,rfl,_,_,rfl,rfl,nB hl0 (by omega),?_⟩;refine⟨_,rfl,r,_,_,_,rfl,rfl,SqL.of hl,rfl,_,_,rfl,rfl,nB (by decide) (by decide),_,_,rfl,rfl,_,_,rfl,rfl,_,_,rfl,rfl,pP,?_⟩;have g0:=Lu (l * l+69621 * l+12345) (show (2147483587:Int)≠0 by decide);have g1:=Lo (l * l+69621 * l+12345) pP;refine⟨_,rfl,r,_,_,_,rfl,rfl,hl,rfl,?_⟩;refine⟨_,rfl,r,_,_,_,rfl,rfl,SqL.of a9,rfl,_,_,rfl,rfl,⟨by decide,by decide⟩,_,rfl,_,_,rfl,rfl,hm0,?_⟩;exact k _ _ (Lu _ (by omega)) (Lo _ hm0) (stp _ _ g0 g1)
def C8:Jg:=.tuple [.none,.none]
def vS (ps:List (Int × Int)):Jt (.list (ps.map pvD)) (.list [C8])=j':=by
 cases ps with
|nil=>rfl
|cons p ps =>
  show (Jg.eqvAll [.int p.1,.int p.2] [.none,.none] && Jg.eqvAll (ps.map pvD) [])=j';have:Jg.eqvAll [.int p.1,.int p.2] [.none,.none]=j':=by simp[Jg.eqvAll,Jt]
  rw[this];rfl
def vL:uO (.list [C8]):=⟨rfl,by show 2 <= 16;decide⟩
def Ar (CJ:G'):Sp:=λvs H Q _=>∃ (z:JA) (un uh:List (Int × Int)) (go do':List Int) (b:Bool),vs=[.ref z.j,.str (Hx.n b).w.key,.non,.non]/\Jn CJ H z un uh go do'/\un.length < 1000/\uh.length < 1000/\∀ H',bZ H H'->Q (.bl j') H'
def FH:Sp:=λvs H Q _=>∃ (l:G') (hs:List Hx),vs=[.ref l]/\SX H l hs/\hs.length < 900/\∀ H',bZ H H'->Q (vO (bM [] hs)) H'
def Ax (G:Gs K mg a d):FnOk P w K mg base CX0 1 a.cB d.cB ["self","word","name","worth"] (Ar a.fN):=by
 refine G.mD.ok lJ (λvs H Q E h=>?_) (λcdv A outer s H vs Q E hr h=>?_)
 . obtain⟨z,un,uh,go,do',h,rfl,_⟩:=h;rfl
 . obtain⟨z,un,uh,go,do',b,rfl,J,lu,lh,k⟩:=h;have hu:=dF hr;refine⟨_,((aK (am bJ (pv 1) ao (av _)) ((vQ (j7 hu (pv 2) (aj (pv 0) rfl)))⁻¹) ap)∪((aK (am bJ (pv 1) ao (av _)) ((cY (sW hr.units) (fY ml (aj (pv 0) rfl) kq (hU ag)) (@bW _ _ _ _ ((@bb _ _ _ _ _ ((pv 2)∣((pv 3)∣ac)))∣ac)) (av _))⁻¹) ap)∪((aK (am bJ (pv 1) ao (av _)) ((vQ (Ah hu (pv 2) (aj (pv 0) rfl)))⁻¹) ap)∪((cY (sW hr.units) (fY ml (aj (pv 0) rfl) kq (hU ag)) (@bW _ _ _ _ ((@bb _ _ _ _ _ ((pv 2)∣((pv 3)∣ac)))∣ac)) (av _))⁻¹)))),?_⟩;obtain⟨dx,hx⟩:=J.ob;cases b with
  |true =>
    refine⟨_,rfl,rfl,_,rfl,cH (sne (show Wd.key .taken≠"asked" by decide +kernel)) ⟨_,rfl,rfl,_,rfl,jt rfl ?_⟩⟩;obtain⟨ts,e0,pr⟩:=J.u;refine⟨_,rfl,fld hx G.bc G.bV Gf ⟨_,rfl,z.u,ts,rfl,SqL.of e0,λq hq=>⟨_,rfl,_,rfl,l2,λt ht=>⟨xa,λc hc=>?_⟩⟩⟩⟩;have s1:=ai (o:=.lst (kY ts Jd (dk 1))) hq;have s2:=ai (o:=.tup [V.non,V.non]) ht;have s3:=ai (o:=.lst [V.ref t]) hc;have cq:kY ts Jd (dk 1)=ts.take 1:=qN ts 1;have pr1:JC (PV H) (un.take 1) (kY ts Jd (dk 1)):=by rw[cq];exact fj 1 pr
    refine⟨.list ((un.take 1).map pvD),.list [C8],⟨q,_,rfl,s3 _ _ (s2 _ _ a9),?_⟩,⟨c,_,rfl,a9,_,_,rfl,⟨t,_,rfl,s3 _ _ a9,_,_,rfl,rfl,_,_,rfl,rfl,rfl⟩,rfl⟩,pZ _,vL,?_⟩
    . exact nE (Paired.mapP pr1 λ_ _ h=>h.keep (s1.trans (s2.trans s3)).kt)
    . rw[vS];exact k _ (s1.trans (s2.trans s3))
  |false =>
    refine⟨_,rfl,rfl,_,rfl,cH (sne (show Wd.key .handed≠"asked" by decide +kernel)) ⟨_,rfl,rfl,_,rfl,cH (sne (show Wd.key .handed≠"taken" by decide +kernel)) ⟨_,rfl,rfl,_,rfl,cH (sne (show Wd.key .handed≠"answered" by decide +kernel)) ?_⟩⟩⟩;obtain⟨ts,e0,pr⟩:=J.h;refine⟨_,rfl,fld hx G.bc G.bG Gg ⟨_,rfl,z.h,ts,rfl,SqL.of e0,λq hq=>⟨_,rfl,_,rfl,l2,λt ht=>⟨xa,λc hc=>?_⟩⟩⟩⟩;have s1:=ai (o:=.lst (kY ts Jd (dk 1))) hq;have s2:=ai (o:=.tup [V.non,V.non]) ht;have s3:=ai (o:=.lst [V.ref t]) hc;have cq:kY ts Jd (dk 1)=ts.take 1:=qN ts 1;have pr1:JC (PV H) (uh.take 1) (kY ts Jd (dk 1)):=by rw[cq];exact fj 1 pr
    refine⟨.list ((uh.take 1).map pvD),.list [C8],⟨q,_,rfl,s3 _ _ (s2 _ _ a9),?_⟩,⟨c,_,rfl,a9,_,_,rfl,⟨t,_,rfl,s3 _ _ a9,_,_,rfl,rfl,_,_,rfl,rfl,rfl⟩,rfl⟩,pZ _,vL,?_⟩
    . exact nE (Paired.mapP pr1 λ_ _ h=>h.keep (s1.trans (s2.trans s3)).kt)
    . rw[vS];exact k _ (s1.trans (s2.trans s3))
def Fh (G:Gs K mg a d):FnOk P w K mg base CX0 3 a.cX d.cX ["story"] FH:=by
 have Ob:FnOk P w K mg base CX0 1 _ _ _ _:=AX G;have Oc:FnOk P w K mg base CX0 1 _ _ _ _:=(CV G).or (Ax G);have Od:FnOk P w K mg base CX0 1 _ _ _ _:=D0 G;refine G.lj.ok eK (λvs H Q E h=>?_) (λcdv A outer s H vs Q E hr h=>?_)
 . obtain⟨l,hs,rfl,_⟩:=h;rfl
 . obtain⟨l,hs,rfl,S,hl,k⟩:=h;have hu:=dF hr;refine⟨_,((@aX _ _ 1 _ _ _ _ eK.nd rfl (JQ rfl) (vB G.DS Ob (hr.mono (by decide)) (by rfl) G.DE G.sj .nil aq) (by rfl) (by first|exact .inl rfl|exact .inr rfl|assumption))∪((kP KL rfl (DN (by rfl) G.uq ((pv 0)∣ac)) (tE rfl (dM (bR (i:=2) eK.nd rfl (JQ rfl)) (dM (bR (i:=3) eK.nd rfl (JQ rfl)) nJ))) ((aK (gG (cP (au (pv 1) G.bc G.rg Oc (hr.mono (by decide)) G.tH .nil aq ((@aC _ _ _ _ _ _ _ aA (pv 3) ag (λ_ _=>rfl))∣((@aC _ _ _ _ _ _ _ aA (pv 3) ag (λ_ _=>rfl))∣((@aC _ _ _ _ _ _ _ aA (pv 3) ag (λ_ _=>rfl))∣ac)))))) ((pv 2)⁻¹) ap)∪(@al _ _ _ (@aB _ _ _ _ (au (pv 1) G.bc G.pi Od (hr.mono (by decide)) G.rL .nil aq ((@aC _ _ _ _ _ _ _ aA (pv 3) ag (λ_ _=>rfl))∣((@aC _ _ _ _ _ _ _ aA (pv 3) ag (λ_ _=>rfl))∣((@aC _ _ _ _ _ _ _ aA (pv 3) ag (λ_ _=>rfl))∣ac)))) (by rfl)))))∪(gM⁻¹))),?_⟩;intro j dx nj ndx nex;refine⟨j,dx,rfl,a9,λz H1 hz g1 g2 g3 g4 J1 kp1=>⟨rfl,?_⟩⟩;have e1:bZ H H1:=l5 nj ndx kp1;have fz:∀ c,z.own c->H c=Jd:=λc hc=>by
    rcases hc with y|y|y|y|y
    . rw[y,hz];exact nj
    . rw[y];exact(up1 (up1 g1).2).2
    . rw[y];exact(up1 (up1 g2).2).2
    . rw[y];exact(up1 (up1 g3).2).2
    . rw[y];exact(up1 (up1 g4).2).2
   subst hz;clear kp1 g1 g2 g3 g4 nj ndx nex;obtain⟨ts,e0,pr⟩:=S;have lt:=aG pr;refine⟨_,rfl,l,ts,rfl,SqL.of (e1 _ _ e0),?_⟩;refine AW (K:=K) (a:=l) (xs:=ts) (λi σ H'=>∃ ah un uh go do',(∃ v2 v3,σ=[dk (.ref l),dk (.ref z.j),v2,v3])/\Jn a.fN H' z un uh go do'/\hs.take i=ah.map Hx.h/\JI ah un uh go do'/\bZ H H'/\bM ah (hs.drop i)=bM [] hs)
    ⟨[],[],[],[],[],⟨_,_,rfl⟩,J1,rfl,JI.zero,e1,rfl⟩ (λ_ _ _ _ uq18=>by(obtain⟨_,_,_,_,_,_,_,_,_,y,_⟩:=uq18;exact SqL.of (y _ _ e0))) ?_ ?_
   . rintro i y T σ H2 hi hT ⟨ah,un,uh,go,do',⟨v2,v3,rfl⟩,J,hta,I,e2,hf⟩;obtain⟨h,c,hh,rfl,vc⟩:=Ec pr hi;have hil:i < hs.length:=(Jy.mp hh).1;have hal:=HP (Nat.le_of_lt hil) hta;have e3:=ai (o:=.tup [V.int (i:Int),V.ref c]) hT;have vT:upd H2 T (.tup [V.int (i:Int),V.ref c]) T=dk (.tup [V.int (i:Int),V.ref c]):=a9;have J3:=J.same e3;have E3:=e2.trans e3;generalize upd H2 T (.tup [V.int (i:Int),V.ref c])=H3 at J3 E3 vT |-;have v3:=E3 _ _ vc;refine⟨T,_,rfl,SqT.of vT,rfl,_,_,rfl,_,_,rfl,rfl,?_⟩;obtain⟨l1,l2',l3',l4⟩:=I.lens;cases h with
    |n b =>
      rw[qc hh]at hf;refine⟨_,rfl,dQ J3.ob yb ⟨_,rfl,c,_,_,_,rfl,rfl,SqT.of v3,rfl,_,rfl,c,_,_,_,rfl,rfl,SqT.of v3,rfl,_,rfl,c,_,_,_,rfl,rfl,SqT.of v3,rfl,.inr ⟨z,un,uh,go,do',b,rfl,J3,by omega,by omega,λH4 e4=>⟨_,rfl,?_⟩⟩⟩⟩;have q:=k H4 (E3.trans e4);rw[<-hf,hal]at q;exact iQ ⟨_,rfl,q⟩
    |h h =>
      refine⟨_,rfl,dQ J3.ob yb ⟨_,rfl,c,_,_,_,rfl,rfl,SqT.of v3,rfl,_,rfl,c,_,_,_,rfl,rfl,SqT.of v3,rfl,_,rfl,c,_,_,_,rfl,rfl,SqT.of v3,rfl,.inl ⟨z,un,uh,go,do',h,rfl,J3,by omega,by omega,λH4 e4=>⟨_,rfl,?_⟩⟩⟩⟩;rw[I.fits];rw[nF hh]at hf;have J4:=J3.same e4;have E4:=E3.trans e4;have v4:=e4 _ _ v3;cases hb:gq ah h with
     |false =>
       rw[hb]at hf;have q:=k H4 E4;rw[<-hf,Ph (by decide),hal]at q;exact iQ ⟨_,rfl,q⟩
     |true =>
       rw[hb,Pg rfl]at hf;refine iM ⟨_,rfl,dQ J4.ob Ho ⟨_,rfl,c,_,_,_,rfl,rfl,SqT.of v4,rfl,_,rfl,c,_,_,_,rfl,rfl,SqT.of v4,rfl,_,rfl,c,_,_,_,rfl,rfl,SqT.of v4,rfl,z,ah,un,uh,go,do',h,rfl,J4,I,hb,by omega,λH5 un5 uh5 go5 do5 J5 I5 ko5 t5=>?_⟩⟩;refine⟨_,un5,uh5,go5,do5,⟨_,_,rfl⟩,J5,FD hh hta,I5,λb o e=>?_,hf⟩;exact ko5 b o (λy=>by rw[fz b y]at e;cases e) (E4 b o e)
   . rintro σ H2 ⟨ah,un,uh,go,do',⟨v2,v3,rfl⟩,J,hta,I,e2,hf⟩;rw[drop_of_length_le (by omega)]at hf;have q:=k H2 e2;rw[<-hf]at q;exact q
def D5 (w:Jp) (C:G'):Sp:=λvs H Q _=>∃ (sa:SA) (m:Mem) (rs:Bool->List Wr) (k:Cn),vs=[.ref sa.x,.str k.key]/\StT w C H sa m rs/\Q (.int (m.c k)) H
def HZ {w:Jp}{C:G'}{vs:List V}{H:Hp}{Q:VK}{E:XK}(h:D5 w C vs H Q E):sY w C vs H Q E:=by
 obtain⟨sa,m,rs,k,rfl,⟨M,r,S,R,P⟩,q⟩:=h;refine⟨sa.x,sa.hd,sa.rl,sa.l,M,r,.str k.key,.str k.key,rfl,S,kS (x4 k),?_⟩;rw[R.c k];exact q
def F8 (w:Jp) (ad:Ad) (K:Jh):Sp:=λvs H Q _=>∃ (a:YA) (q:YP) (S:YS) (wt:G') (w0:Str) (b:Bool),vs=[.ref a.y,.ref wt]/\Yn w ad.b5 ad.dn ad.aY ad.bT ad.aD H a q S/\q.Ok /\
 (∀ H,SqT K H wt [.str w0,.str (lkA b).key,.str (lkB b).key])/\∀ H',bZ H H'->Q (.int (zY q S b)) H'
def Ed (w:Jp) (ad:Ad):Sp:=λvs H Q _=>∃ (a:YA) (q:YP) (S:YS) (b:Bool),vs=[.ref a.y,.int (sdI b)]/\Yn w ad.b5 ad.dn ad.aY ad.bT ad.aD H a q S/\q.Ok /\
 ∀ H',bZ H H'->Q (.bl (ovB q S b)) H'
def Cw (G:Gs K mg a d):FnOk P w K mg base CX0 2 a.be d.be ["yard","words"] (F8 w a K):=by
 have OG:FnOk P w K mg base CX0 1 _ _ _ _:=D8 G;have OJ:FnOk P w K mg base CX0 1 _ _ _ _:=lD G;have ON:FnOk P w K mg base CX0 1 _ _ _ _:=vN G;have Ot:FnOk P w K mg base CX0 1 _ _ _ _:=(nM G).imp λvs H Q E=>HZ
 refine G.dE.ok bQ (λvs H Q E h=>?_) (λcdv A' outer s' H vs Q E hr h=>?_)
 . obtain⟨y,q,S,wt,w0,b,rfl,_⟩:=h;rfl
 . obtain⟨y,q,S,wt,w0,b,rfl,Y,ok,ht,k⟩:=h;have hu:=dF hr;refine⟨_,((@aX _ _ 2 _ _ _ _ bQ.nd rfl (JQ rfl) (aI (pv 0) G.ak G.sO OG (hr.mono (by decide)) G.uT .nil aq) (by rfl) (by first|exact .inl rfl|exact .inr rfl|assumption))∪((@aX _ _ 3 _ _ _ _ bQ.nd rfl (JQ rfl) (au (aI (pv 0) G.ak G.bx OJ (hr.mono (by decide)) G.bL .nil aq) G.az G.cg Ot (hr.mono (by decide)) G.cM .nil aq ((@aC _ _ _ _ _ _ _ aA (pv 1) ag (λ_ _=>rfl))∣ac)) (by rfl) (by first|exact .inl rfl|exact .inr rfl|assumption))∪((@aX _ _ 4 _ _ _ _ bQ.nd rfl (JQ rfl) (au (aI (pv 0) G.ak G.bx OJ (hr.mono (by decide)) G.bL .nil aq) G.az G.cg Ot (hr.mono (by decide)) G.cM .nil aq ((@aC _ _ _ _ _ _ _ aA (pv 1) ag (λ_ _=>rfl))∣ac)) (by rfl) (by first|exact .inl rfl|exact .inr rfl|assumption))∪((aF ON (hr.mono (by decide)) (by rfl) G.pY G.lU.kp G.qr .nil aq ((pv 3)∣((pv 4)∣((@aC _ _ _ _ _ _ _ aA (pv 2) ag (λ_ _=>rfl))∣((@aC _ _ _ _ _ _ _ aA (pv 2) ag (λ_ _=>rfl))∣ac)))))⁻¹)))),?_⟩;refine⟨_,rfl,dQ Y.ob (dP (by decide +kernel)) ⟨y,_,S,rfl,Y,λt nt=>?_⟩⟩;have e1:=ai (o:=.tup [V.int q.p.s,V.int q.p.R]) nt;have g1:=a9 (H:=H) (a:=t) (o:=.tup [V.int q.p.s,V.int q.p.R]);generalize upd H t _=H1 at e1 g1 |-;have Y1:=Y.same e1;refine⟨_,rfl,dQ Y1.ob (dP (by decide +kernel)) ⟨y,_,S,rfl,Y1,?_⟩⟩;refine dQ Y1.x.st.ob (bK (by decide +kernel) (by decide +kernel)) ⟨_,rfl,wt,_,_,_,rfl,rfl,ht _,rfl,⟨_,_,_,_,rfl,Y1.x.st,?_⟩⟩;refine⟨_,rfl,dQ Y1.ob (dP (by decide +kernel)) ⟨y,_,S,rfl,Y1,?_⟩⟩;refine dQ Y1.x.st.ob (bK (by decide +kernel) (by decide +kernel)) ⟨_,rfl,wt,_,_,_,rfl,rfl,ht _,rfl,⟨_,_,_,_,rfl,Y1.x.st,?_⟩⟩;refine⟨_,rfl,_,rfl,_,rfl,t,_,_,_,rfl,rfl,SqT.of g1,rfl,_,rfl,t,_,_,_,rfl,rfl,SqT.of g1,rfl,?_⟩;exact⟨_,_,_,_,rfl,ok.ok.s0,ok.ok.s8,ok.ok.sR,k _ e1⟩
def Dc (G:Gs K mg a d):FnOk P w K mg base CX0 3 a.eI d.eI ["yard","side"] (Ed w a):=by
 have OH:FnOk P w K mg base CX0 1 _ _ _ _:=qq G;have OF:FnOk P w K mg base CX0 1 _ _ _ _:=wX G;have OP:FnOk P w K mg base CX0 2 _ _ _ _:=Cw G;refine G.ja.ok rh (λvs H Q E h=>?_) (λcdv A' outer s' H vs Q E hr h=>?_)
 . obtain⟨y,q,S,b,rfl,_⟩:=h;rfl
 . obtain⟨y,q,S,b,rfl,Y,ok,k⟩:=h;have hu:=dF hr;refine⟨_,((aK ((o4 (am pf (au (pv 0) G.ak G.jp OH (hr.mono (by decide)) G.jI .nil aq ((pv 1)∣ac)) ao (av _)) (l8 (gG (cP (au (pv 0) G.ak G.mI OF (hr.mono (by decide)) G.o3 .nil aq ((@cO _ _ _ _ _ _ _ _ qw ag (pv 1))∣ac))))))).pt (bI⁻¹) ap)∪((cY pf (aF OP (hr.mono (by decide)) (by rfl) G.ga G.dE.kp G.fW .nil aq ((pv 0)∣((lB (am bJ (pv 1) ag (av _)) (eT (v:=.ref a.bz) (by rfl) G.kO rfl) (eT (v:=.ref a.fO) (by rfl) G.wE rfl))∣ac))) ag (av _))⁻¹)),?_⟩;refine⟨_,rfl,dQ Y.ob (dP (by decide +kernel)) ⟨_,rfl,y,_,S,b,rfl,Y,?_⟩⟩;refine⟨rfl,_,rfl,?_⟩;unfold ovB at k;by_cases ha:S.bd b=.asleep
   . have e1:¬ (!decide (V.str (S.bd b).key=V.str "asleep"))=D':=by rw[ha];decide +kernel
     rw[Pl ha,Bool.true_and]at k;refine cR e1 ?_;refine⟨_,rfl,dQ Y.ob (dP (by decide +kernel)) ⟨_,rfl,_,_,rfl,rfl,⟨y,_,S,!b,by cases b<;>rfl,Y,_,rfl,?_⟩⟩⟩;cases hq:S.qt (!b) with
    |false =>
      rw[hq]at k;exact iR rfl (k H (bZ.refl _))
    |true =>
      rw[hq,Bool.true_and]at k;refine cR (λz=>by cases z) ?_;have fin:∀ H',bZ H H'->Q (.bl (!decide (V.int (zY q S b)=V.int 0))) H':=λH' e=>by
       have:=k H' e;by_cases z:zY q S b=0
       . rw[z]at this |-;exact this
       . rw[Pl z]at this;rw[decide_eq_false λy=>z (jB y)];exact this
      cases b with
     |false =>
       exact⟨_,rfl,_,rfl,rfl,_,rfl,iR rfl ⟨y,_,S,a.bz,"answer",j',rfl,Y,ok,G.li,λH' e=>⟨rfl,fin H' e⟩⟩⟩
     |true =>
       exact⟨_,rfl,_,rfl,rfl,_,rfl,cR (by decide) ⟨y,_,S,a.fO,"ask",D',rfl,Y,ok,G.vJ,λH' e=>⟨rfl,fin H' e⟩⟩⟩
   . have e1:(!decide (V.str (S.bd b).key=V.str "asleep"))=D':=by cases hb:S.bd b<;>first|(rw[hb]at ha;exact absurd rfl ha)|decide +kernel
     rw[decide_eq_false ha,Bool.false_and]at k;refine iR e1 (iR rfl (k H (bZ.refl _)))
def oq (k:Wd) (es:List Hap):(thH k es).length <= es.length:=by unfold thH;rw[Ju];exact Ln ..
def rO {k:Wd}{es:List Hap}{i:Nat}(h:i < es.length):thH k (es.take (i+1))=if es[i].w=k then thH k (es.take i)++[(es[i].n,es[i].o)] else thH k (es.take i):=by
 rw[take_add_one,Jl h];exact qQ k _ _
def uC {a b:Wd}(h:V.str a.key=V.str b.key):a=b:=by
 cases a<;>cases b<;>first|rfl|exact absurd h (by decide +kernel)
def Gx:Sp:=λvs H Q _=>∃ (st:G') (es:List Hap) (k j:Wd),vs=[.ref st,.str k.key,.str j.key]/\SV H st es/\es.length < 1000 /\
 ∀ (p:G') (H':Hp),bZ H H'->TL H' p ((thH k es).drop (thH j es).length)->Q (.ref p) H'
def EK (w:Jp) (ad:Ad) (K:Jh):Sp:=λvs H Q _=>∃ (a:YA) (q:YP) (S:YS) (st wt:G') (w0:Str) (b:Bool) (es:List Hap),vs=[.ref a.y,.ref st,.ref wt]/\Yn w ad.b5 ad.dn ad.aY ad.bT ad.aD H a q S/\q.Ok /\
 (∀ H,SqT K H wt [.str w0,.str (lkA b).key,.str (lkB b).key])/\SV H st es/\es.length < 1000/\∀ H',bZ H H'->Q (.bl (tm q S es b)) H'
def He (b:Bool):(lkA b).key=(lkW b).key:=by cases b<;>rfl
def GN (b:Bool):(lkB b).key=(lkX b).key:=by cases b<;>rfl
def GH (G:Gs K mg a d):FnOk P w K mg base CX0 1 a.dg d.dg ["story","laid","fetched"] Gx:=by
 refine G.ly.ok gr (λvs H Q E h=>?_) (λcdv A' outer s' H vs Q E hr h=>?_)
 . obtain⟨st,es,k,j,rfl,_⟩:=h;rfl
 . obtain⟨st,es,k,j,rfl,⟨zs,hst,pr⟩,hl,kk⟩:=h;have hu:=dF hr;refine⟨_,((by exact qk (iN:=3) (tc:=AF (tOp rEq (tOp (Ez K) (ug 0) (tC (.int 0))) (ug 1))) (te:=HS (ut (tOp (Ez K) (ug 0) (tC (.int 1))) (ut (tOp (Ez K) (ug 0) (tC (.int 2))) EA))) (caps:=["laid"]) (js:=[1]) gr.nd rfl (JQ rfl) (by rfl) rfl (mr rfl rfl (by decide +kernel) (by decide +kernel) rfl ⟨rfl,trivial⟩ rfl rfl) (by decide +kernel) ⟨⟨⟨_,rfl⟩,rfl,.inl rfl,.inl rfl⟩,trivial⟩ (ik (pv 0)) (λC s₃ H₃ Lv ex E'=>by exact rG (am bJ (@aC _ _ _ _ _ _ _ aA (pv 0) ag (λ_ _=>rfl)) (pv 1) (av _))) (λC s₃ H₃ Lv ex E'=>by exact(@bb _ _ _ _ _ ((@aC _ _ _ _ _ _ _ aA (pv 0) ag (λ_ _=>rfl))∣((@aC _ _ _ _ _ _ _ aA (pv 0) ag (λ_ _=>rfl))∣ac)))))∪((@aX _ _ 4 _ _ _ _ gr.nd rfl (JQ rfl) (bn bo (by rfl) G.oQ jP ((by exact nQ (tc:=AF (tOp rEq (tOp (Ez K) (ug 0) (tC (.int 0))) (ug 1))) (te:=ug 0) (caps:=["fetched"]) (js:=[2]) rfl (mr rfl rfl (by decide +kernel) (by decide +kernel) rfl ⟨rfl,trivial⟩ rfl rfl) (by decide +kernel) ⟨⟨⟨_,rfl⟩,rfl,.inl rfl,.inl rfl⟩,trivial⟩ (ik (pv 0)) (λC s₃ H₃ Lv ex E'=>by exact rG (am bJ (@aC _ _ _ _ _ _ _ aA (pv 0) ag (λ_ _=>rfl)) (pv 1) (av _))) (λC s₃ H₃ Lv ex E'=>by exact(pv 0)))∣ac)) (by rfl) (by first|exact .inl rfl|exact .inr rfl|assumption))∪((fY ml (pv 3) (hU (pv 4)) kq)⁻¹))),?_⟩;refine⟨_,rfl,st,rfl,⟨_,SqL.of hst⟩,λD hD=>?_⟩;have pl:=aG pr;refine⟨λi mm ys H'=>i <= es.length/\mm=es.length - i/\JC (PV H') (thH k (es.take i)) ys/\H' D=dk (.lst ys)/\∀ c o,c≠D->H c=dk o->H' c=dk o,⟨_,KG _,rfl,.nil,a9,λc o n e=>by rw[aa n];exact e⟩,?_⟩;rintro i mm ys H2 ⟨hi,rfl,py,hD2,k2⟩;have e2:bZ H H2:=λc o e=>k2 c o (λy=>by rw[y,hD]at e;cases e) e
   have yl:ys.length <= i:=by
    have h2:=oq k (es.take i);rw[KR]at h2;have h3:=aG py;omega
   refine⟨hD2,Jj (show _ < 1000 by omega) (by decide),?_⟩;by_cases hii:i=es.length
   . refine .inl ⟨⟨_,SqL.of (e2 _ _ hst),by omega⟩,?_⟩;rw[hii,take_length]at py;clear hii yl k2 hi;refine⟨_,rfl,st,rfl,⟨_,SqL.of (e2 _ _ hst)⟩,λD2 hD3=>?_⟩;refine⟨λi mm zs' H'=>i <= es.length/\mm=es.length - i/\zs'.length=(thH j (es.take i)).length/\H' D2=dk (.lst zs')/\∀ c o,c≠D2->H2 c=dk o->H' c=dk o,⟨_,KG _,rfl,rfl,a9,λc o n e=>by rw[aa n];exact e⟩,?_⟩;rintro i mm zs' H3 ⟨hi,rfl,pz,hD4,k3⟩;have e3:bZ H2 H3:=λc o e=>k3 c o (λy=>by rw[y,hD3]at e;cases e) e
     have yl:zs'.length <= i:=by
      have h2:=oq j (es.take i);rw[KR]at h2;omega
     refine⟨hD4,Jj (show _ < 1000 by omega) (by decide),?_⟩;by_cases hii:i=es.length
     . refine .inl ⟨⟨_,SqL.of (e3 _ _ (e2 _ _ hst)),by omega⟩,?_⟩;rw[hii,take_length]at pz;refine⟨D2,_,rfl,.inl (SqL.of hD4),?_⟩;refine⟨_,rfl,_,rfl,_,rfl,D,ys,rfl,SqL.of (e3 _ _ hD2),λp hp=>?_⟩;rw[qg];have e4:=e3.trans (ai (o:=.lst (ys.drop zs'.length)) hp);refine kk p _ (e2.trans e4) ⟨_,a9,?_⟩;rw[<-pz];exact ii _ (Paired.mapP py λ_ _ h=>h.keep e4.kt)
     . have hlt:i < es.length:=by omega
       obtain⟨z,hz,t,rfl,ht⟩:=Paired.at' pr (Jl hlt);refine .inr ⟨⟨_,_,SqL.of (e3 _ _ (e2 _ _ hst)),hz⟩,?_⟩;rintro v H4 ⟨rfl,hv⟩;have hv:=hv _ (SqL.of (e3 _ _ (e2 _ _ hst)));rw[hz]at hv;cases hv;refine⟨_,rfl,t,_,_,_,rfl,rfl,SqT.of (e3 _ _ (e2 _ _ ht)),rfl,_,rfl,rfl,_,rfl,?_⟩;have hth:=rO (k:=j) hlt;by_cases hk:es[i].w=j
       . refine iR (Pl (by rw[hk])) ?_;rw[Pg hk]at hth;refine⟨_,rfl,hD4,_,?_,?_,rfl,?_,a9,λc o n e=>?_⟩
         . omega
         . omega
         . rw[hth,Ji,Ji,pz];rfl
         . rw[aa n];exact k3 c o n e
       . refine cR (by rw[Pj];exact λz=>hk (uC z)) ?_;rw[Ph hk]at hth;exact⟨_,by omega,by omega,rfl,by rw[hth];exact pz,hD4,k3⟩
   . have hlt:i < es.length:=by omega
     obtain⟨z,hz,t,rfl,ht⟩:=Paired.at' pr (Jl hlt);refine .inr ⟨⟨_,_,SqL.of (e2 _ _ hst),hz⟩,?_⟩;rintro v H3 ⟨e3',hv⟩;have hv:=hv _ (SqL.of (e2 _ _ hst));subst H3;rw[hz]at hv;cases hv;refine⟨_,rfl,t,_,_,_,rfl,rfl,SqT.of (e2 _ _ ht),rfl,_,rfl,rfl,_,rfl,?_⟩;have hth:=rO (k:=k) hlt;by_cases hk:es[i].w=k
     . refine iR (Pl (by rw[hk])) ?_;rw[Pg hk]at hth;refine⟨_,rfl,t,_,_,_,rfl,rfl,SqT.of (e2 _ _ ht),rfl,_,rfl,t,_,_,_,rfl,rfl,SqT.of (e2 _ _ ht),rfl,l2,λt2 ht2=>?_⟩;have e3:=ai (o:=.tup [V.int es[i].n,V.int es[i].o]) ht2;have kt:Kt H2 (upd (upd H2 t2 (.tup [V.int es[i].n,V.int es[i].o])) D (.lst (ys++[.ref t2]))):=λb vs e=>fP (e3 _ _ hD2) (λ_ z=>by cases z) _ _ _ (e3 _ _ e)
       refine⟨e3 _ _ hD2,_,?_,?_,rfl,?_,a9,λc o n e=>?_⟩
       . omega
       . omega
       . rw[hth];exact JC.snoc (Paired.mapP py λ_ _ h=>h.keep kt) ⟨t2,rfl,fP (e3 _ _ hD2) (λ_ z=>by cases z) _ _ _ a9⟩
       . rw[aa n];exact e3 _ _ (k2 c o n e)
     . refine cR (by rw[Pj];exact λz=>hk (uC z)) ?_;rw[Ph hk]at hth;exact⟨_,by omega,by omega,rfl,by rw[hth];exact py,hD2,k2⟩
def FI (G:Gs K mg a d):FnOk P w K mg base CX0 3 a.fI d.fI ["yard","story","words"] (EK w a K):=by
 have OP:FnOk P w K mg base CX0 2 _ _ _ _:=Cw G;have O5:FnOk P w K mg base CX0 1 _ _ _ _:=GH G;refine G.jW.ok t9 (λvs H Q E h=>?_) (λcdv A' outer s' H vs Q E hr h=>?_)
 . obtain⟨y,q,S,st,wt,w0,b,es,rfl,_⟩:=h;rfl
 . obtain⟨y,q,S,st,wt,w0,b,es,rfl,Y,ok,ht,hst,hl,k⟩:=h;have hu:=dF hr;refine⟨_,((cY pf (aF OP (hr.mono (by decide)) (by rfl) G.ga G.dE.kp G.fW .nil aq ((pv 0)∣((pv 2)∣ac))) (bn bo (by rfl) G.oQ jP ((aF O5 (hr.mono (by decide)) (by rfl) G.qC G.ly.kp G.rP .nil aq ((pv 1)∣((@aC _ _ _ _ _ _ _ aA (pv 2) ag (λ_ _=>rfl))∣((@aC _ _ _ _ _ _ _ aA (pv 2) ag (λ_ _=>rfl))∣ac))))∣ac)) (av _))⁻¹),?_⟩;refine⟨_,rfl,_,rfl,y,_,S,wt,w0,b,rfl,Y,ok,ht,λH1 e1=>?_⟩;refine⟨_,rfl,_,rfl,wt,_,_,_,rfl,rfl,ht _,rfl,_,rfl,wt,_,_,_,rfl,rfl,ht _,rfl,st,es,lkW b,lkX b,by rw[<-He,<-GN];rfl,hst.same e1,hl,λp H2 e2 hp=>?_⟩;obtain⟨ys,hp,pr⟩:=hp;refine⟨p,ys,rfl,.inl (SqL.of hp),rfl,?_⟩;have z:=k H2 (e1.trans e2);have le:=aG pr;rw[length_drop]at le;unfold tm at z;by_cases y:zY q S b=(((thH (lkW b) es).length - (thH (lkX b) es).length:Nat):Int)
   . rw[decide_eq_false λw=>w y]at z;rw[Pl (by rw[y,<-le])];exact z
   . rw[Pl y]at z;rw[decide_eq_false λw=>y (by rw[le];exact jB w)];exact z
def Eg (w:Jp) (ad:Ad):Sp:=λvs H Q _=>∃ (a:YA) (q:YP) (S:YS) (hs:List Hx),vs=[.ref a.y]/\Yn w ad.b5 ad.dn ad.aY ad.bT ad.aD H a q S/\q.Ok/\S.hs=hs.map Hx.d/\hs.length < 900/\∀ H',bZ H H'->Q (.bl (B9 q S hs)) H'
def Ef (G:Gs K mg a d):FnOk P w K mg base CX0 4 a.Dj d.Dj ["yard"] (Eg w a):=by
 have OK:FnOk P w K mg base CX0 1 _ _ _ _:=vK G;have OJ:FnOk P w K mg base CX0 1 _ _ _ _:=lD G;have Ov:FnOk P w K mg base CX0 1 _ _ _ _:=(qM G).imp λvs H Q E=>xZ
 have OQ:FnOk P w K mg base CX0 3 _ _ _ _:=Fh G;have O3:FnOk P w K mg base CX0 3 _ _ _ _:=FI G;have O6:FnOk P w K mg base CX0 3 _ _ _ _:=Dc G;refine G.vv.ok zF (λvs H Q E h=>?_) (λcdv A' outer s' H vs Q E hr h=>?_)
 . obtain⟨y,q,S,hs,rfl,_⟩:=h;rfl
 . obtain⟨y,q,S,hs,rfl,Y,ok,hh,hl,k⟩:=h;have hu:=dF hr;refine⟨_,((@aX _ _ 1 _ _ _ _ zF.nd rfl (JQ rfl) (aI (pv 0) G.ak G.lb OK (hr.mono (by decide)) G.mz .nil aq) (by rfl) (by first|exact .inl rfl|exact .inr rfl|assumption))∪((aK (am nL (aF OQ (hr.mono (by decide)) (by rfl) G.rW G.lj.kp G.rM .nil aq ((pv 1)∣ac)) gM (av _)) (bI⁻¹) ap)∪((aK (qp ((o4 (lw (au (aI (pv 0) G.ak G.bx OJ (hr.mono (by decide)) G.bL .nil aq) G.az G.cN Ov (hr.mono (by decide)) G.dG .nil aq (ag∣ac)) (λ_=>rfl)) (l8 (lw (au (aI (pv 0) G.ak G.bx OJ (hr.mono (by decide)) G.bL .nil aq) G.az G.cN Ov (hr.mono (by decide)) G.dG .nil aq (ag∣ac)) (λ_=>rfl))))).pt) (bI⁻¹) ap)∪((aK (qp ((o4 (cP (aF O3 (hr.mono (by decide)) (by rfl) G.oG G.jW.kp G.nX .nil aq ((pv 0)∣((pv 1)∣((eT (v:=.ref a.fO) (by rfl) G.wE rfl)∣ac))))) (l8 (cP (aF O3 (hr.mono (by decide)) (by rfl) G.oG G.jW.kp G.nX .nil aq ((pv 0)∣((pv 1)∣((eT (v:=.ref a.bz) (by rfl) G.kO rfl)∣ac)))))))).pt) (bI⁻¹) ap)∪((Gw (aF O6 (hr.mono (by decide)) (by rfl) G.my G.ja.kp G.mv .nil aq ((pv 0)∣(ag∣ac))) (Cm (aF O6 (hr.mono (by decide)) (by rfl) G.my G.ja.kp G.mv .nil aq ((pv 0)∣(ag∣ac)))))⁻¹))))),?_⟩;refine⟨_,rfl,dQ Y.ob (dP (by decide +kernel)) ⟨y,_,S,rfl,Y,λl ts nl dv=>?_⟩⟩;have e1:=ai (o:=.lst ts) nl;have dv':=DVs.fl (λb vs e=>e1 b _ e) Y.fl dv;have hl1:upd H l (.lst ts) l=dk (.lst ts):=a9;generalize upd H l (.lst ts)=H1 at e1 dv' hl1 |-;have Y1:=Y.same e1;rw[hh]at dv';have SX1:SX H1 l hs:=⟨ts,hl1,Dr dv'⟩
   clear dv dv' nl;refine⟨_,rfl,l,hs,rfl,SX1,hl,λH2 e2=>?_⟩;have Y2:=Y1.same e2;have SX2:=SX1.same e2;have E2:=e1.trans e2;clear SX1 Y1 e1 e2 hl1;unfold B9 at k;cases hf:bM [] hs with
  |some n =>
    rw[hf,Ph (by intro z;cases z)]at k;exact⟨rfl,_,rfl,iQ (k _ E2)⟩
  |none =>
    rw[hf,Pg rfl]at k;refine⟨rfl,_,rfl,iM ?_⟩;have hr:=jb hf;generalize rls hs=rs at k hr;subst hr;rw[Ju]at hl;have S2:SV H2 l rs:=by
     obtain⟨ts,h1,h2⟩:=SX2;exact⟨ts,h1,Dx h2⟩
    clear SX2;refine⟨λb H'=>(b=D' ↔ ¬ (S.rs j'=[]/\S.rs D'=[]))/\bZ H2 H',?_,?_⟩
    . refine⟨_,rfl,dQ Y2.ob (dP (by decide +kernel)) ⟨y,_,S,rfl,Y2,dQ Y2.x.st.ob (bK (by decide +kernel) (by decide +kernel)) ⟨y.sa,S.m,S.rs,j',rfl,Y2.x.st,λp1 t1 hp1 dv1=>⟨_,.inl ⟨_,SqL.of a9,rfl⟩,?_⟩⟩⟩⟩;have l1:=io dv1;rw[Ju]at l1;have e3:=ai (o:=.lst t1) hp1;generalize upd H2 p1 (.lst t1)=H3 at e3 |-;cases hr1:S.rs j' with
     |cons z zs =>
       rw[hr1]at l1;cases t1 with
      |nil=>cases l1
      |cons u us=>exact iQ ⟨⟨λ_ w=>(by cases w.1),λ_=>rfl⟩,e3⟩
     |nil =>
       rw[hr1]at l1;cases t1 with
      |cons u us=>cases l1
      |nil =>
        refine iM ?_;have Y3:=Y2.same e3;refine⟨_,rfl,dQ Y3.ob (dP (by decide +kernel)) ⟨y,_,S,rfl,Y3,dQ Y3.x.st.ob (bK (by decide +kernel) (by decide +kernel)) ⟨y.sa,S.m,S.rs,D',rfl,Y3.x.st,λp2 t2 hp2 dv2=>⟨_,.inl ⟨_,SqL.of a9,rfl⟩,?_,e3.trans (ai hp2)⟩⟩⟩⟩;have l2':=io dv2;rw[Ju]at l2';cases hr2:S.rs D' with
       |cons z zs =>
         rw[hr2]at l2';cases t2 with
        |nil=>cases l2'
        |cons u us=>exact⟨λ_ w=>(by cases w.2),λ_=>rfl⟩
       |nil =>
         rw[hr2]at l2';cases t2 with
        |cons u us=>cases l2'
        |nil=>exact⟨λz=>(by cases z),λz=>absurd ⟨rfl,rfl⟩ z⟩
    rintro b H3 ⟨hb,e3⟩;by_cases hz:S.rs j'=[]/\S.rs D'=[]
    rotate_left
    . rw[Ph hz]at k;rw[hb.mpr hz];exact iQ (k _ (E2.trans e3))
    . rw[Pg hz]at k;have hbf:b=j':=by
       cases b with
      |false=>rfl
      |true=>exact absurd hz (hb.mp rfl)
      subst hbf;refine iM ?_;have Y3:=Y2.same e3;have S3:=S2.same e3;have E3:=E2.trans e3;clear Y2 S2 E2 e3 hb;refine⟨λb H'=>b=(tm q S rs D' || tm q S rs j')/\bZ H H',?_,?_⟩
      . refine⟨_,rfl,_,rfl,y,q,S,l,a.fO,"ask",D',rs,rfl,Y3,ok,G.vJ,S3,by omega,λH4 e4=>⟨_,rfl,?_⟩⟩;cases tm q S rs D' with
       |true=>exact iQ ⟨rfl,E3.trans e4⟩
       |false =>
         refine iM ⟨_,rfl,_,rfl,y,q,S,l,a.bz,"answer",j',rs,rfl,Y3.same e4,ok,G.li,S3.same e4,by omega,λH5 e5=>⟨_,rfl,?_⟩⟩;exact⟨rfl,E3.trans (e4.trans e5)⟩
      rintro b H4 ⟨rfl,E4⟩;rw[<-Bool.or_assoc]at k;cases hm:(tm q S rs D' || tm q S rs j') with
     |true =>
       rw[hm]at k;exact iQ (k _ E4)
     |false =>
       rw[hm,Bool.false_or]at k;refine iM ?_;refine⟨_,rfl,y,q,S,j',rfl,Y.same E4,ok,λH5 e5=>⟨_,rfl,?_⟩⟩;cases ho:ovB q S j' with
      |true =>
        rw[ho]at k;exact iQ (k _ (E4.trans e5))
      |false =>
        rw[ho,Bool.false_or]at k;exact iM ⟨_,rfl,y,q,S,D',rfl,Y.same (E4.trans e5),ok,λH6 e6=>k _ (E4.trans (e5.trans e6))⟩
def B2:Sp:=λvs H Q _=>∃ (st:G') (es:List Hap) (k:Wd),vs=[.ref st,.str k.key]/\SV H st es/\es.length < 1000 /\
 ∀ (p:G') (ys:List V) (H':Hp),bZ H H'->H' p=dk (.lst ys)->ys.length=(thH k es).length->Q (.ref p) H'
def AA (w:Jp) (ad:Ad):Sp:=λvs H Q _=>∃ (a:YA) (q:YP) (S:YS) (b:Bool),vs=[.ref a.y,.int (sdI b),.int q.p.s,.int q.p.R]/\Yn w ad.b5 ad.dn ad.aY ad.bT ad.aD H a q S/\q.Ok/\∀ H',bZ H H'->Q (.int (zY q S b)) H'
def Bk (G:Gs K mg a d):FnOk P w K mg base CX0 1 a.dj d.dj ["story","word"] B2:=by
 refine G.i6.ok p9 (λvs H Q E h=>?_) (λcdv A' outer s' H vs Q E hr h=>?_)
 . obtain⟨st,es,k,rfl,_⟩:=h;rfl
 . obtain⟨st,es,k,rfl,⟨zs,hst,pr⟩,hl,kk⟩:=h;have hu:=dF hr;refine⟨_,((by exact nQ (tc:=AF (tOp rEq (tOp (Ez K) (ug 0) (tC (.int 0))) (ug 1))) (te:=tSl (I0 K) (ug 0) (Fe (tC (.int 1))) A3) (caps:=["word"]) (js:=[1]) rfl (mr rfl rfl (by decide +kernel) (by decide +kernel) rfl ⟨rfl,trivial⟩ rfl rfl) (by decide +kernel) ⟨⟨⟨_,rfl⟩,rfl,.inl rfl,.inl rfl⟩,trivial⟩ (ik (pv 0)) (λC s₃ H₃ Lv ex E'=>by exact rG (am bJ (@aC _ _ _ _ _ _ _ aA (pv 0) ag (λ_ _=>rfl)) (pv 1) (av _))) (λC s₃ H₃ Lv ex E'=>by exact(fY Cq (pv 0) (hU ag) kq)))⁻¹),?_⟩;refine⟨_,rfl,st,rfl,⟨_,SqL.of hst⟩,λD hD=>?_⟩;have pl:=aG pr;refine⟨λi mm zs' H'=>i <= es.length/\mm=es.length - i/\zs'.length=(thH k (es.take i)).length/\H' D=dk (.lst zs')/\∀ c o,c≠D->H c=dk o->H' c=dk o,⟨_,KG _,rfl,rfl,a9,λc o n e=>by rw[aa n];exact e⟩,?_⟩;rintro i mm zs' H3 ⟨hi,rfl,pz,hD4,k3⟩;have e3:bZ H H3:=λc o e=>k3 c o (λy=>by rw[y,hD]at e;cases e) e
   have yl:zs'.length <= i:=by
    have h2:=oq k (es.take i);rw[KR]at h2;omega
   refine⟨hD4,Jj (show _ < 1000 by omega) (by decide),?_⟩;by_cases hii:i=es.length
   . refine .inl ⟨⟨_,SqL.of (e3 _ _ hst),by omega⟩,?_⟩;rw[hii,take_length]at pz;exact kk D _ _ e3 hD4 pz
   . have hlt:i < es.length:=by omega
     obtain⟨z,hz,t,rfl,ht⟩:=Paired.at' pr (Jl hlt);refine .inr ⟨⟨_,_,SqL.of (e3 _ _ hst),hz⟩,?_⟩;rintro v H4 ⟨e4',hv⟩;have hv:=hv _ (SqL.of (e3 _ _ hst));subst H4;rw[hz]at hv;cases hv;refine⟨_,rfl,t,_,_,_,rfl,rfl,SqT.of (e3 _ _ ht),rfl,_,rfl,rfl,_,rfl,?_⟩;have hth:=rO (k:=k) hlt;by_cases hk:es[i].w=k
     . refine iR (Pl (by rw[hk])) ?_;rw[Pg hk]at hth;refine⟨_,rfl,_,rfl,t,_,rfl,SqT.of (e3 _ _ ht),(by show ¬ (HT.sIx 3 0 (dk 1)=0/\HT.sIx 3 3 Jd=3);decide),λpp npp=>?_⟩;have e4:=ai (o:=.tup (kY [V.str es[i].w.key,V.int es[i].n,V.int es[i].o] (dk 1) Jd)) npp;refine⟨e4 _ _ hD4,_,?_,?_,rfl,?_,a9,λc o n e=>?_⟩
       . omega
       . omega
       . rw[hth,Ji,Ji,pz];rfl
       . rw[aa n];exact e4 _ _ (k3 c o n e)
     . refine cR (by rw[Pj];exact λz=>hk (uC z)) ?_;rw[Ph hk]at hth;exact⟨_,by omega,by omega,rfl,by rw[hth];exact pz,hD4,k3⟩
def A9 (G:Gs K mg a d):FnOk P w K mg base CX0 2 a.fB d.fB ["yard","side","size","rounds"] (AA w a):=by
 have OJ:FnOk P w K mg base CX0 1 _ _ _ _:=lD G;have Ot:FnOk P w K mg base CX0 1 _ _ _ _:=(nM G).imp λvs H Q E=>HZ
 refine G.oi.ok iW (λvs H Q E h=>?_) (λcdv A' outer s' H vs Q E hr h=>?_)
 . obtain⟨y,q,S,b,rfl,_⟩:=h;rfl
 . obtain⟨y,q,S,b,rfl,Y,ok,k⟩:=h;have hu:=dF hr;refine⟨_,((@fZ _ _ _ _ _ _ (@aC _ _ _ _ _ _ _ bg (@bW _ _ _ _ ((@bb _ _ _ _ _ (ao∣(ao∣ac)))∣((@bb _ _ _ _ _ (ao∣(ao∣ac)))∣ac))) (pv 1) (λ_ _=>rfl)) (tE rfl (dM (bR (i:=4) iW.nd rfl (JQ rfl)) (dM (bR (i:=5) iW.nd rfl (JQ rfl)) nJ))) (by rfl) (by rfl) (by rfl))∪((@cO _ _ _ _ _ _ _ _ mF (@cO _ _ _ _ _ _ _ _ qw (au (aI (pv 0) G.ak G.bx OJ (hr.mono (by decide)) G.bL .nil aq) G.az G.cg Ot (hr.mono (by decide)) G.cM .nil aq ((pv 4)∣ac)) (au (aI (pv 0) G.ak G.bx OJ (hr.mono (by decide)) G.bL .nil aq) G.az G.cg Ot (hr.mono (by decide)) G.cM .nil aq ((pv 5)∣ac))) (@cO _ _ _ _ _ _ _ _ tO (pv 2) (pv 3)))⁻¹)),?_⟩;refine⟨l2,λt1 n1=>⟨l2,λt2 n2=>⟨l2,λp np=>?_⟩⟩⟩;have e1:=ai (o:=.tup [V.str "answered",V.str "handed"]) n1;have v1:=a9 (H:=H) (a:=t1) (o:=.tup [V.str "answered",V.str "handed"]);generalize upd H t1 (.tup [V.str "answered",V.str "handed"])=H1 at e1 v1 n2 np |-;have e2:=ai (o:=.tup [V.str "asked",V.str "taken"]) n2;have v2:=a9 (H:=H1) (a:=t2) (o:=.tup [V.str "asked",V.str "taken"]);generalize upd H1 t2 (.tup [V.str "asked",V.str "taken"])=H2 at e2 v2 np |-;have e3:=ai (o:=.lst [V.ref t1,V.ref t2]) np;have v3:=a9 (H:=H2) (a:=p) (o:=.lst [V.ref t1,V.ref t2]);generalize upd H2 p (.lst [V.ref t1,V.ref t2])=H3 at e3 v3 |-;have Y3:=Y.same (e1.trans (e2.trans e3));have tt:∃ t,atI [V.ref t1,V.ref t2] (sdI b)=dk (.ref t)/\H3 t=dk (.tup [V.str (lkA b).key,V.str (lkB b).key]):=by
    cases b
    . exact⟨t1,rfl,e3 _ _ (e2 _ _ v1)⟩
    . exact⟨t2,rfl,e3 _ _ v2⟩
   obtain⟨t,ht,vt⟩:=tt;refine⟨_,rfl,p,_,_,_,rfl,rfl,SqL.of v3,ht,?_⟩;refine⟨t,_,rfl,SqT.of vt,rfl,_,_,rfl,_,_,rfl,rfl,?_⟩;refine⟨_,rfl,dQ Y3.ob (dP (by decide +kernel)) ⟨y,_,S,rfl,Y3,dQ Y3.x.st.ob (bK (by decide +kernel) (by decide +kernel)) ⟨_,rfl,y.sa,S.m,S.rs,lkA b,rfl,Y3.x.st,?_⟩⟩⟩;refine⟨_,rfl,dQ Y3.ob (dP (by decide +kernel)) ⟨y,_,S,rfl,Y3,dQ Y3.x.st.ob (bK (by decide +kernel) (by decide +kernel)) ⟨_,rfl,y.sa,S.m,S.rs,lkB b,rfl,Y3.x.st,?_⟩⟩⟩;have s0:=ok.ok.s0;have s8:=ok.ok.s8;exact⟨_,_,rfl,rfl,_,rfl,_,rfl,_,_,rfl,rfl,nB (by omega) (by omega),_,_,rfl,rfl,ok.ok.sR,k _ (e1.trans (e2.trans e3))⟩
def zu:Sp:=λvs H Q _=>∃ (l:G') (hs:List Hx),vs=[.ref l]/\SX H l hs/\hs.length < 900/\∀ H',bZ H H'->Q (.bl (decide (bM [] hs=Jd))) H'
def yB (G:Gs K mg a d):FnOk P w K mg base CX0 1 a.bu d.bu ["story"] zu:=by
 refine G.gF.ok aP (λvs H Q E h=>?_) (λcdv A outer s H vs Q E hr h=>?_)
 . obtain⟨l,hs,rfl,_⟩:=h;rfl
 . obtain⟨l,hs,rfl,S,hl,k⟩:=h;have hu:=dF hr;refine⟨_,((@aX _ _ 1 _ _ _ _ aP.nd rfl (JQ rfl) (@yX _ _ _ _ _ (@mV _ _ _ _ _ _ _ _ _ ao (@bW _ _ _ _ ac) (@mV _ _ _ _ _ _ _ _ _ ao (@bW _ _ _ _ ac) yI)) rfl rfl (by simp) (by decide)) (by rfl) (by first|exact .inl rfl|exact .inr rfl|assumption))∪((@aX _ _ 2 _ _ _ _ aP.nd rfl (JQ rfl) (@yX _ _ _ _ _ (@mV _ _ _ _ _ _ _ _ _ ao ag (@mV _ _ _ _ _ _ _ _ _ ao ag yI)) rfl rfl (by simp) (by decide)) (by rfl) (by first|exact .inl rfl|exact .inr rfl|assumption))∪((@aX _ _ 3 _ _ _ _ aP.nd rfl (JQ rfl) jA (by rfl) (by first|exact .inl rfl|exact .inr rfl|assumption))∪((@aX _ _ 4 _ _ _ _ aP.nd rfl (JQ rfl) jA (by rfl) (by first|exact .inl rfl|exact .inr rfl|assumption))∪((@kP _ _ _ _ _ _ _ _ KL rfl (@ik _ _ _ _ (pv 0)) (@tE _ _ _ _ _ _ rfl (@dM _ _ _ _ _ (bR (i:=5) aP.nd rfl (JQ rfl)) (@dM _ _ _ _ _ (bR (i:=6) aP.nd rfl (JQ rfl)) (@dM _ _ _ _ _ (bR (i:=7) aP.nd rfl (JQ rfl)) nJ (by rfl)) (by rfl)) (by rfl)) (by rfl) (by rfl)) (@al _ _ _ (@aK _ _ _ _ _ _ _ _ (am bJ (pv 5) ao (av _)) ((@aK _ _ _ _ _ _ _ _ (wN (Ah hu (pv 6) (pv 3))) (bI⁻¹) ap)∪((@jY _ _ _ _ _ _ _ _ _ hu (pv 3) (pv 6) bI rfl)∪(@al _ _ _ (@aB _ _ _ _ (@lv _ _ _ _ _ _ _ _ _ _ _ _ JH Kh PySem.F.type_list_append dC (kB hu (pv 1) ao (λ_ _=>rfl)) ((@bb _ _ _ _ _ ((pv 6)∣((pv 7)∣ac)))∣ac) (by rfl) (by rfl) (by rfl) (by rfl) (by rfl)) (by rfl))))) (@al _ _ _ (@aK _ _ _ _ _ _ _ _ (am bJ (pv 5) ao (av _)) ((@aK _ _ _ _ _ _ _ _ (wN (j7 hu (pv 6) (pv 4))) (bI⁻¹) ap)∪((@aB _ _ _ _ (l6 (pv 4) (pv 6) ⟨rfl,rfl,rfl,rfl⟩) (by rfl))∪(@al _ _ _ (@aB _ _ _ _ (@lv _ _ _ _ _ _ _ _ _ _ _ _ JH Kh PySem.F.type_list_append dC (kB hu (pv 1) ao (λ_ _=>rfl)) ((@bb _ _ _ _ _ ((pv 6)∣((pv 7)∣ac)))∣ac) (by rfl) (by rfl) (by rfl) (by rfl) (by rfl)) (by rfl))))) ((@aK _ _ _ _ _ _ _ _ (qp ((o4 (am Gz (kB hu (pv 2) (pv 5) (λ_ _=>rfl)) (bn bo (by rfl) G.oQ jP ((kB hu (pv 1) (pv 5) (λ_ _=>rfl))∣ac)) (av _)) (l8 (am (Cp hr.units) (@aC _ _ _ _ _ _ _ bg (kB hu (pv 1) (pv 5) (λ_ _=>rfl)) (kB hu (pv 2) (pv 5) (λ_ _=>rfl)) (λ_ _=>rfl)) (@bb _ _ _ _ _ ((pv 6)∣((pv 7)∣ac))) (av _))))).pt) (bI⁻¹) ap)∪((@jY _ _ _ _ _ _ _ _ _ hu (pv 2) (pv 5) (@cO _ _ _ _ _ _ _ _ jM (kB hu (pv 2) (pv 5) (λ_ _=>rfl)) ag) rfl)∪(@al _ _ _ (@aK _ _ _ _ _ _ _ _ (am bJ (pv 5) ao (av _)) (@al _ _ _ (@jY _ _ _ _ _ _ _ _ _ hu (pv 4) (pv 6) bI rfl)) (@al _ _ _ (@aB _ _ _ _ (l6 (pv 3) (pv 6) ⟨rfl,rfl,rfl,rfl⟩) (by rfl))))))))))) (by intro _;rfl))∪(bI⁻¹)))))),?_⟩;intro ld nld;refine⟨rT,λq1 nl1=>⟨rT,λq2 nl2=>?_⟩⟩;have a0:=ai (o:=.dK []) nld;have a1:=ai (o:=.lst []) nl1;have a2:=ai (o:=.lst []) nl2;have b0:=a2 _ _ (a1 _ _ (a9 (H:=H) (a:=ld) (o:=.dK [])));have b1:=a2 _ _ (a9 (a:=q1) (o:=.lst []));have b2:=a9 (H:=upd (upd H ld (.dK [])) q1 (.lst [])) (a:=q2) (o:=.lst []);have n12:q1≠q2:=ae (a9 (H:=upd H ld (.dK []))) nl2;have f1:=cw a0 nl1;have f2:=cw (a0.trans a1) nl2;have a3:=a0.trans (a1.trans a2);clear a0 a1 a2;generalize upd (upd (upd H ld (.dK [])) q1 (.lst [])) q2 (.lst [])=H1 at b0 b1 b2 a3 |-;refine⟨b0,[(.inr "taken",.ref q1),(.inr "handed",.ref q2)],rfl,by show 2 <= 15;decide,?_⟩;rw[CG (lR (by decide +kernel))];have c1:upd H1 ld (.dK [(.inr "taken",.ref q1),(.inr "handed",.ref q2)]) q1=dk (.lst []):=by rw[aa (λy=>by rw[y,b0]at b1;cases b1)];exact b1
   have c2:upd H1 ld (.dK [(.inr "taken",.ref q1),(.inr "handed",.ref q2)]) q2=dk (.lst []):=by rw[aa (λy=>by rw[y,b0]at b2;cases b2)];exact b2
   have c0:=a9 (H:=H1) (a:=ld) (o:=.dK [(.inr "taken",.ref q1),(.inr "handed",.ref q2)]);have a4:bZ H (upd H1 ld (.dK [(.inr "taken",.ref q1),(.inr "handed",.ref q2)])):=λc o e=>by rw[aa (ae e nld)];exact a3 c o e
   generalize upd H1 ld (.dK [(.inr "taken",.ref q1),(.inr "handed",.ref q2)])=H2 at c0 c1 c2 a4 |-;clear b0 b1 b2 a3 nl1 nl2;intro sn nsn;refine⟨a9,[(.inr "taken",.int 0),(.inr "handed",.int 0)],rfl,by show 2 <= 15;decide,?_⟩;rw[CG (lR (by decide +kernel)),dO];intro ud nud tk ntk;have s1:=ai (o:=.dK [(.inr "taken",.int 0),(.inr "handed",.int 0)]) nsn;have s2:=ai (o:=.dK []) nud;have s3:=ai (o:=.dK []) ntk;have v1:=s3 _ _ (s2 _ _ (a9 (H:=H2) (a:=sn) (o:=.dK [(.inr "taken",.int 0),(.inr "handed",.int 0)])));have v2:=s3 _ _ (a9 (a:=ud) (o:=.dK []));have v3:=a9 (H:=upd (upd H2 sn (.dK [(.inr "taken",.int 0),(.inr "handed",.int 0)])) ud (.dK [])) (a:=tk) (o:=.dK []);have m1:ld≠sn:=ae c0 nsn;have m2:ld≠ud:=ae (s1 _ _ c0) nud;have m3:ld≠tk:=ae (s2 _ _ (s1 _ _ c0)) ntk;have m4:sn≠ud:=ae a9 nud;have m5:sn≠tk:=ae (s2 _ _ a9) ntk;have m6:ud≠tk:=ae a9 ntk;have fsn:=cw a4 nsn;have fud:=cw (a4.trans s1) nud;have ftk:=cw (a4.trans (s1.trans s2)) ntk;have s4:=s1.trans (s2.trans s3);clear s1 s2 s3 nsn nud ntk;generalize upd (upd (upd H2 sn (.dK [(.inr "taken",.int 0),(.inr "handed",.int 0)])) ud (.dK [])) tk (.dK [])=H3 at v1 v2 v3 s4 |-;obtain⟨z,hz⟩:∃ z:RA,z=⟨ld,sn,λb=>if b then q1 else q2,ud,tk⟩:=⟨_,rfl⟩
   have R3:RS H3 z [] [] []:=by
    rw[hz];exact⟨s4 _ _ c0,v1,λb=>⟨[],by cases b;exact s4 _ _ c2;exact s4 _ _ c1,by cases b<;>exact .nil⟩,v2,v3,n12,m1,m2,m3,m4,m5,m6⟩
   have fz:∀ c,z.own c->H c=Jd:=λc hc=>by
    rw[hz]at hc;rcases hc with y|y|y|y|y|y<;>(rw[y];first|exact nld|exact fsn|exact f1|exact f2|exact fud|exact ftk)
   have E3:=a4.trans s4;rw[show ld=z.ld by rw[hz],show sn=z.sn by rw[hz],show ud=z.ud by rw[hz],show tk=z.tk by rw[hz]];clear hz c0 c1 c2 a4 s4 v1 v2 v3 m1 m2 m3 m4 m5 m6 n12 fsn fud ftk nld f1 f2;have up:∀ {H':Hp} {c:G'} {o:HO},z.own c->bZ H H'->bZ H (upd H' c o):=λ{H' c o} hc E b u e=>by
    rw[aa (ae e (fz c hc))];exact E b u e
   obtain⟨ts,e0,pr⟩:=S;have lt:=aG pr;refine⟨_,rfl,l,rfl,⟨_,SqL.of (E3 _ _ e0)⟩,?_⟩;refine qX (K:=K) (a:=l) (xs:=ts) (λi σ H'=>∃ ah un uh go do',(∃ v5 v6 v7,σ=[dk (.ref l),dk (.ref z.ld),dk (.ref z.sn),dk (.ref z.ud),dk (.ref z.tk),v5,v6,v7])/\RS H' z ah go do'/\hs.take i=ah.map Hx.h/\JI ah un uh go do'/\bZ H H'/\bM ah (hs.drop i)=bM [] hs)
    ⟨[],[],[],[],[],⟨_,_,_,rfl⟩,R3,rfl,JI.zero,E3,rfl⟩ (λ_ _ _ _ uq19=>by(obtain⟨_,_,_,_,_,_,_,_,_,y,_⟩:=uq19;exact SqL.of (y _ _ e0))) ?_ ?_
   . clear R3 E3;rintro i y σ H4 hi ⟨ah,un,uh,go,do',⟨v5,v6,v7,rfl⟩,R,hta,I,E4,hf⟩;obtain⟨h,c,hh,rfl,vc⟩:=Ec pr hi;have hil:i < hs.length:=(Jy.mp hh).1;have hal:=HP (Nat.le_of_lt hil) hta;obtain⟨i1,i2,i3,i4⟩:=I.lens;have v4:=E4 _ _ vc;refine⟨c,_,rfl,SqT.of v4,rfl,_,_,rfl,_,_,rfl,_,_,rfl,rfl,?_⟩;have bad:∀ {H':Hp},G2 ah h=j'->bZ H H'->Q (.bl j') H':=λ{H'} hfx E=>by
      have q:=k H' E;have:bM [] hs=dk ah.length:=by
       rw[<-hf];cases h with
      |n b=>exact qc hh
      |h x =>
        have hfx':gq ah x=j':=hfx;rw[nF hh,hfx'];rfl
      rw[this]at q;exact q
     have good:∀ x,h=.h x->gq ah x=D'->hs.take (i+1)=(ah++[x]).map Hx.h/\bM (ah++[x]) (hs.drop (i+1))=bM [] hs:=λx hx hb=>by
      subst hx;rw[nF hh,Pg hb]at hf;exact⟨FD hh hta,hf⟩
     obtain⟨b,hb⟩|⟨b,n,o,rfl⟩:(∃ b,h.w=lkX b)\/∃ b n o,h=.h ⟨lkW b,n,o⟩:=by
      cases h with
     |n b=>exact .inl ⟨b,Hv b⟩
     |h x =>
       obtain⟨w,n,o⟩:=x;cases w with
      |asked=>exact .inr ⟨D',n,o,rfl⟩
      |taken=>exact .inl ⟨D',rfl⟩
      |answered=>exact .inr ⟨j',n,o,rfl⟩
      |handed=>exact .inl ⟨j',rfl⟩
     . -- fetched
       rw[hb]at v4 |-;refine⟨_,rfl,rfl,_,rfl,cH (sne (GW b)) ⟨_,rfl,rfl,_,rfl,cH (sne (H0 b)) ?_⟩⟩;have gs:∀ {H':Hp},RS H' z ah go do'->pI H' z.sn (.str (lkX b).key) (dk (.int ((thH (lkX b) ah).length:Nat))):=λR=>by
        have:=zc (λc=>(thH (lkX c) ah).length) b;rw[<-this];exact pI.k (k:=.inr (lkX b).key) R.sn
       have gl:∀ {H':Hp},RS H' z ah go do'->pI H' z.ld (.str (lkX b).key) (dk (.ref (z.l b))):=λR=>by
        rw[<-zR z.l b];exact pI.k (k:=.inr (lkX b).key) R.ld
       obtain⟨tl,hl4,pl⟩:=R.l b;have ll:=aG pl;refine⟨λc H'=>c=(!G2 ah h)/\bZ H4 H',?_,?_⟩
       . refine⟨_,rfl,_,rfl,z.sn,_,rfl,gs R,_,rfl,_,rfl,z.ld,_,rfl,gl R,z.l b,tl,rfl,.inl (SqL.of hl4),_,_,rfl,rfl,_,rfl,?_⟩;by_cases hlt:(thH (lkX b) ah).length < (thH (lkW b) ah).length
         . refine cR (by rw[Pj];omega) ?_;obtain⟨v,hv,t,rfl,ht⟩:=Paired.at' pl (Jl hlt);refine⟨_,rfl,_,rfl,z.ld,_,rfl,gl R,_,rfl,_,rfl,z.sn,_,rfl,gs R,z.l b,tl,_,_,rfl,rfl,SqL.of hl4,zB hv,_,rfl,_,rfl,l2,λt2 nt2=>?_⟩;have s1:=ai (o:=.tup [h.v1,h.v2]) nt2;refine⟨pvD (thH (lkW b) ah)[(thH (lkX b) ah).length],pvX h,⟨t,_,rfl,s1 _ _ ht,_,_,rfl,rfl,_,_,rfl,rfl,rfl⟩,⟨t2,_,rfl,a9,_,_,rfl,by cases h<;>rfl,_,_,rfl,by cases h<;>rfl,rfl⟩,uO.key (xc _) (by show 1 <= 8;decide),DQ h,_,rfl,?_,s1⟩;rw[Pg rfl,Em hb hlt]
         . refine iR (Pl (by omega)) ⟨?_,bZ.refl _⟩;rw[Bc hb (by omega)];rfl
       rintro c' H5 ⟨rfl,e5⟩;have E5:=E4.trans e5;have R5:=R.same e5;cases hfx:G2 ah h with
      |false=>exact iQ (bad hfx E5)
      |true =>
        refine iM ?_;cases h with
       |n b=>cases hfx
       |h x =>
         obtain⟨w,n,o⟩:=x;have hw:w=lkX b:=hb;subst hw;obtain⟨g1,g2⟩:=good _ rfl hfx;have hfj:gq ah ⟨lkX b,n,o⟩=D':=hfx;rw[<-I.fits]at hfj;refine⟨_,rfl,_,rfl,z.sn,_,rfl,gs R5,_,_,rfl,rfl,_,rfl,_,rfl,z.sn,_,rfl,Ab.k (k:=.inr (lkX b).key) R5.sn (by show 2 < Jm;decide),?_⟩;have R6:=R5.fetch (b:=b) (n:=n) (o:=o) (kv:=kG (snK λc=>(thH (lkX c) ah).length) (.inr (lkX b).key) (.int (((thH (lkX b) ah).length:Nat)+1))) (Df _ _ b (by rw[bU,Pg rfl,Ji];rfl) (by rw[bU,Ph (by cases b<;>decide)]));have E6:=up (o:=.dK (kG (snK λc=>(thH (lkX c) ah).length) (.inr (lkX b).key) (.int (((thH (lkX b) ah).length:Nat)+1)))) (.inr (.inl rfl)) E5;generalize upd H5 z.sn _=H6 at R6 E6 |-;cases b with
        |true =>
          obtain⟨I2,hnd⟩:=I.taken (of_decide_eq_true hfj);refine⟨_,rfl,rfl,_,rfl,jt rfl ?_⟩;refine⟨_,rfl,_,rfl,z.tk,_,rfl,Ab.k (k:=.inl n) R6.tk (by rw[qm];exact Jj (show _ < 10000 by omega) (by decide)),?_⟩;exact⟨_,_,_,_,_,⟨_,_,_,rfl⟩,R6.setTk (qi n do' (by rw[Kc];exact decide_eq_false hnd)),g1,I2,up (.inr (.inr (.inr (.inr (.inr rfl))))) E6,g2⟩
        |false =>
          obtain⟨I2,hng⟩:=I.handed (of_decide_eq_true hfj);refine⟨_,rfl,rfl,_,rfl,cH (sne (show Wd.key .handed≠"taken" by decide +kernel)) ?_⟩;have hv:lp (gK go) (.inl n)=dk (.bl D'):=by rw[fu,Kc,Pl hng];rfl
          have ee:jH (gK go) (Kk n)=gK (go.erase n):=by
           rw[kD,I.nd.erase_eq_filter];congr 1;refine filter_congr λy _=>?_
           by_cases e:y=n
           . subst e;simp
           . simp[e]
          refine⟨_,rfl,z.ud,rfl,.inl ⟨_,.inl R6.ud⟩,_,rfl,_,.inl n,_,R6.ud,rfl,hv,?_⟩;exact⟨_,_,_,_,_,⟨_,_,_,rfl⟩,R6.setUd ee,g1,I2,up (.inr (.inr (.inr (.inr (.inl rfl))))) E6,g2⟩
     . -- laid
       have gl:∀ {H':Hp} {go do'},RS H' z ah go do'->pI H' z.ld (.str (lkX b).key) (dk (.ref (z.l b))):=λR=>by
        rw[<-zR z.l b];exact pI.k (k:=.inr (lkX b).key) R.ld
       cases b with
      |true =>
        have hj:gq ah ⟨lkW D',n,o⟩=!go.contains n:=(I.fits _).symm;refine⟨_,rfl,rfl,_,rfl,jt rfl ?_⟩;refine⟨_,rfl,_,rfl,z.ud,_,rfl,pI.k (k:=.inl n) R.ud,_,rfl,?_⟩;rw[fu];cases hc:go.contains n with
       |true =>
         rw[hc]at hj;exact iR rfl (bad hj E4)
       |false =>
         rw[hc]at hj;obtain⟨g1,g2⟩:=good _ rfl hj;have hn':n ∉ go:=by rw[Kc]at hc;exact of_decide_eq_false hc
         refine cR (by decide) ?_;refine⟨_,rfl,_,rfl,z.ud,_,rfl,Ab.k (k:=.inl n) R.ud (by rw[qm];exact Jj (show _ < 10000 by omega) (by decide)),?_⟩;have R5:=R.setUd (qi n go hc);have E5:=up (o:=.dK (kG (gK go) (Kk n) (.bl D'))) (.inr (.inr (.inr (.inr (.inl rfl))))) E4;generalize upd H4 z.ud _=H5 at R5 E5 |-;obtain⟨tl,hl5,pl⟩:=R5.l D';have ll:=aG pl;have tl':=oq (lkW D') ah;refine⟨_,rfl,z.ld,_,rfl,gl R5,.inl ⟨rfl,_,SqL.of hl5⟩,_,rfl,_,rfl,l2,λt nt=>⟨z.l D',tl,_,rfl,rfl,ai nt _ _ hl5,Jj (show _ < 10000 by omega) (by decide),?_⟩⟩;have s2:=ai (o:=.tup [V.int n,V.int o]) nt;have R6:=(R5.same s2).lay (b:=D') (n:=n) (o:=o) (ts:=tl++[.ref t]) (JC.snoc (Paired.mapP pl λ_ _ h=>h.keep s2.kt) ⟨t,rfl,a9⟩);exact⟨_,_,_,_,_,⟨_,_,_,rfl⟩,R6,g1,I.asked hn',up (.inr (.inr (.inl rfl))) (E5.trans s2),g2⟩
      |false =>
        have hj:gq ah ⟨lkW j',n,o⟩=do'.contains n:=(I.fits _).symm;refine⟨_,rfl,rfl,_,rfl,cH (sne (show Wd.key .answered≠"asked" by decide +kernel)) ⟨_,rfl,rfl,_,rfl,jt rfl ?_⟩⟩;refine⟨_,rfl,_,rfl,z.tk,_,rfl,pI.k (k:=.inl n) R.tk,_,rfl,?_⟩;rw[fu];cases hc:do'.contains n with
       |false =>
         rw[hc]at hj;exact iR rfl (bad hj E4)
       |true =>
         rw[hc]at hj;obtain⟨g1,g2⟩:=good _ rfl hj;have hn':n∈do':=by rw[Kc]at hc;exact of_decide_eq_true hc
         refine cR (by decide) ?_;have hv:lp (gK do') (.inl n)=dk (.bl D'):=by rw[fu,hc];rfl
         have ee:jH (gK do') (Kk n)=gK (do'.erase n):=by
          rw[kD,I.ndo.erase_eq_filter];congr 1;refine filter_congr λy _=>?_
          by_cases e:y=n
          . subst e;simp
          . simp[e]
         refine⟨_,rfl,z.tk,rfl,.inl ⟨_,.inl R.tk⟩,_,rfl,_,.inl n,_,R.tk,rfl,hv,?_⟩;have R5:=R.setTk ee;have E5:=up (o:=.dK (jH (gK do') (Kk n))) (.inr (.inr (.inr (.inr (.inr rfl))))) E4;generalize upd H4 z.tk _=H5 at R5 E5 |-;obtain⟨tl,hl5,pl⟩:=R5.l j';have ll:=aG pl;have tl':=oq (lkW j') ah;refine⟨_,rfl,z.ld,_,rfl,gl R5,.inl ⟨rfl,_,SqL.of hl5⟩,_,rfl,_,rfl,l2,λt nt=>⟨z.l j',tl,_,rfl,rfl,ai nt _ _ hl5,Jj (show _ < 10000 by omega) (by decide),?_⟩⟩;have s2:=ai (o:=.tup [V.int n,V.int o]) nt;have R6:=(R5.same s2).lay (b:=j') (n:=n) (o:=o) (ts:=tl++[.ref t]) (JC.snoc (Paired.mapP pl λ_ _ h=>h.keep s2.kt) ⟨t,rfl,a9⟩);exact⟨_,_,_,_,_,⟨_,_,_,rfl⟩,R6,g1,I.answered hn',up (.inr (.inr (.inr (.inl rfl)))) (E5.trans s2),g2⟩
   . rintro σ H4 ⟨ah,un,uh,go,do',⟨v5,v6,v7,rfl⟩,R,hta,I,E4,hf⟩;rw[drop_of_length_le (by omega)]at hf;have q:=k H4 E4;rw[<-hf]at q;exact q
def BM (w:Jp) (ad:Ad):Sp:=λvs H Q _=>∃ (a:YA) (q:YP) (S:YS) (hs:List Hx) (qd:G'),vs=[.ref a.y,.int q.p.s,.int q.p.R,.ref qd]/\Yn w ad.b5 ad.dn ad.aY ad.bT ad.aD H a q S/\q.Ok/\S.hs=hs.map Hx.d/\hs.length < 900/\H qd=dk (.lst [.bl (S.qt j'),.bl (S.qt D')])/\∀ H',bZ H H'->Q (.bl (B9 q S hs)) H'
def Ak:Sp:=λvs H Q _=>∃ (qd t:G') (f:Bool->Bool) (x:Dd),vs=[.ref qd,.ref t]/\H qd=dk (.lst [.bl (f j'),.bl (f D')])/\H t=dk (.tup x.vs)/\Q .non (upd H qd (.lst [.bl (x.trn f j'),.bl (x.trn f D')]))
def Bz (G:Gs K mg a d):FnOk P w K mg base CX0 3 a.gX d.gX ["yard","size","rounds","quiet"] (BM w a):=by
 have OK:FnOk P w K mg base CX0 1 _ _ _ _:=vK G;have OJ:FnOk P w K mg base CX0 1 _ _ _ _:=lD G;have OH:FnOk P w K mg base CX0 1 _ _ _ _:=qq G;have Ov:FnOk P w K mg base CX0 1 _ _ _ _:=(qM G).imp λvs H Q E=>xZ
 have O0:FnOk P w K mg base CX0 1 _ _ _ _:=yB G;have OU:FnOk P w K mg base CX0 2 _ _ _ _:=A9 G;have OZ:FnOk P w K mg base CX0 1 _ _ _ _:=Bk G;refine G.lW.ok dX (λvs H Q E h=>?_) (λcdv A' outer s' H vs Q E hr h=>?_)
 . obtain⟨y,q,S,hs,qd,rfl,_⟩:=h;rfl
 . obtain⟨y,q,S,hs,qd,rfl,Y,ok,hh,hl,hqd,k⟩:=h;have hu:=dF hr;refine⟨_,((@aX _ _ 4 _ _ _ _ dX.nd rfl (JQ rfl) (aI (pv 0) G.ak G.lb OK (hr.mono (by decide)) G.mz .nil aq) (by rfl) (by first|exact .inl rfl|exact .inr rfl|assumption))∪((@aK _ _ _ _ _ _ _ _ (gG (cP (aF O0 (hr.mono (by decide)) (by rfl) G.lS G.gF.kp G.lP .nil aq ((pv 4)∣ac)))) (bI⁻¹) ap)∪((@aK _ _ _ _ _ _ _ _ (qp ((o4 (am (vM hr.units) (au (aI (pv 0) G.ak G.bx OJ (hr.mono (by decide)) G.bL .nil aq) G.az G.cN Ov (hr.mono (by decide)) G.dG .nil aq (ag∣ac)) (@bW _ _ _ _ ac) (av _)) (l8 (am (vM hr.units) (au (aI (pv 0) G.ak G.bx OJ (hr.mono (by decide)) G.bL .nil aq) G.az G.cN Ov (hr.mono (by decide)) G.dG .nil aq (ag∣ac)) (@bW _ _ _ _ ac) (av _))))).pt) (bI⁻¹) ap)∪((@kP _ _ _ _ _ _ _ _ KL rfl (CK (@bb _ _ _ _ _ (ag∣(ag∣ac)))) (bR (i:=5) dX.nd rfl (JQ rfl)) ((@fZ _ _ _ _ _ _ (@aC _ _ _ _ _ _ _ bg (@bW _ _ _ _ ((@bb _ _ _ _ _ (ao∣(ao∣ac)))∣((@bb _ _ _ _ _ (ao∣(ao∣ac)))∣ac))) (pv 5) (λ_ _=>rfl)) (@tE _ _ _ _ _ _ rfl (@dM _ _ _ _ _ (bR (i:=6) dX.nd rfl (JQ rfl)) (@dM _ _ _ _ _ (bR (i:=7) dX.nd rfl (JQ rfl)) nJ (by rfl)) (by rfl)) (by rfl) (by rfl)) (by rfl) (by rfl) (by rfl))∪((@aX _ _ 8 _ _ _ _ dX.nd rfl (JQ rfl) (aF OU (hr.mono (by decide)) (by rfl) G.uZ G.oi.kp G.uD .nil aq ((pv 0)∣((pv 5)∣((pv 1)∣((pv 2)∣ac))))) (by rfl) (by first|exact .inl rfl|exact .inr rfl|assumption))∪((@aK _ _ _ _ _ _ _ _ (am pf (pv 8) (@cO _ _ _ _ _ _ _ _ qw (bn bo (by rfl) G.oQ jP ((aF OZ (hr.mono (by decide)) (by rfl) G.l7 G.i6.kp G.lF .nil aq ((pv 4)∣((pv 6)∣ac)))∣ac)) (bn bo (by rfl) G.oQ jP ((aF OZ (hr.mono (by decide)) (by rfl) G.l7 G.i6.kp G.lF .nil aq ((pv 4)∣((pv 7)∣ac)))∣ac))) (av _)) (bI⁻¹) ap)∪(@al _ _ _ (@aK _ _ _ _ _ _ _ _ (qp ((yL (am bJ (au (pv 0) G.ak G.jp OH (hr.mono (by decide)) G.jI .nil aq ((pv 5)∣ac)) ao (av _)) (yL (am F5 (pv 8) ag (av _)) (yy (cP (@aC _ _ _ _ _ _ _ bg (pv 3) (@cO _ _ _ _ _ _ _ _ qw ag (pv 5)) (λ_ _=>rfl))))))).pt) (bI⁻¹) ap))))) (by intro _;rfl))∪(bI⁻¹))))),?_⟩;refine⟨_,rfl,dQ Y.ob (dP (by decide +kernel)) ⟨y,_,S,rfl,Y,λl ts nl dv=>?_⟩⟩;have e1:=ai (o:=.lst ts) nl;have dv':=DVs.fl (λb vs e=>e1 b _ e) Y.fl dv;have hl1:upd H l (.lst ts) l=dk (.lst ts):=a9;generalize upd H l (.lst ts)=H1 at e1 dv' hl1 |-;have Y1:=Y.same e1;rw[hh]at dv';have SX1:SX H1 l hs:=⟨ts,hl1,Dr dv'⟩
   clear dv dv' nl;refine⟨_,rfl,l,hs,rfl,SX1,hl,λH2 e2=>⟨_,rfl,?_⟩⟩;have Y2:=Y1.same e2;have SX2:=SX1.same e2;have E2:=e1.trans e2;clear SX1 Y1 e1 e2 hl1;by_cases hf:bM [] hs=Jd;rotate_left
   . rw[Aj hf]at k;rw[decide_eq_false hf];exact iQ (k _ E2)
   . rw[Pl hf];refine iM ?_;refine⟨λb H'=>(b=D' ↔ ¬ (S.rs j'=[]/\S.rs D'=[]))/\bZ H2 H',?_,?_⟩
     . refine⟨_,rfl,dQ Y2.ob (dP (by decide +kernel)) ⟨y,_,S,rfl,Y2,dQ Y2.x.st.ob (bK (by decide +kernel) (by decide +kernel)) ⟨y.sa,S.m,S.rs,j',rfl,Y2.x.st,λp1 t1 hp1 dv1=>⟨rT,λq2 nq2=>⟨p1,q2,t1,rfl,rfl,SqL.of (ai nq2 _ _ a9),SqL.of a9,_,rfl,?_⟩⟩⟩⟩⟩;have l1:=io dv1;rw[Ju]at l1;have e3:=(ai (o:=.lst t1) hp1).trans (ai (o:=.lst []) nq2);generalize upd (upd H2 p1 (.lst t1)) q2 (.lst [])=H3 at e3 |-;rw[Pg rfl];cases hr1:S.rs j' with
      |cons z zs =>
        rw[hr1]at l1;cases t1 with
       |nil=>cases l1
       |cons u us=>exact iQ ⟨⟨λ_ w=>(by cases w.1),λ_=>rfl⟩,e3⟩
      |nil =>
        rw[hr1]at l1;cases t1 with
       |cons u us=>cases l1
       |nil =>
         refine iM ?_;have Y3:=Y2.same e3;refine⟨_,rfl,dQ Y3.ob (dP (by decide +kernel)) ⟨y,_,S,rfl,Y3,dQ Y3.x.st.ob (bK (by decide +kernel) (by decide +kernel)) ⟨y.sa,S.m,S.rs,D',rfl,Y3.x.st,λp2 t2 hp2 dv2=>⟨rT,λq3 nq3=>⟨p2,q3,t2,rfl,rfl,SqL.of (ai nq3 _ _ a9),SqL.of a9,_,rfl,?_,e3.trans ((ai hp2).trans (ai nq3))⟩⟩⟩⟩⟩;have l2':=io dv2;rw[Ju]at l2';rw[Pg rfl];cases hr2:S.rs D' with
        |cons z zs =>
          rw[hr2]at l2';cases t2 with
         |nil=>cases l2'
         |cons u us=>exact⟨λ_ w=>(by cases w.2),λ_=>rfl⟩
        |nil =>
          rw[hr2]at l2';cases t2 with
         |cons u us=>cases l2'
         |nil=>exact⟨λz=>(by cases z),λz=>absurd ⟨rfl,rfl⟩ z⟩
     rintro b H3 ⟨hb,e3⟩;by_cases hz:S.rs j'=[]/\S.rs D'=[]
     rotate_left
     . rw[zj hf hz]at k;rw[hb.mpr hz];exact iQ (k _ (E2.trans e3))
     . have hbf:b=j':=by
        cases b with
       |false=>rfl
       |true=>exact absurd hz (hb.mp rfl)
       subst hbf;refine iM ?_;have E3:=E2.trans e3;have S3:SV H3 l (rls hs):=by
        obtain⟨ts,h1,h2⟩:=SX2.same e3;rw[jb hf]at h2;exact⟨ts,h1,Dx h2⟩
       have hl':(rls hs).length < 900:=by
        have:=congrArg Lk (jb hf);rw[Ju]at this;omega
       clear Y2 SX2 E2 e3 hb;refine⟨l2,λtq nq=>⟨tq,rfl,⟨_,SqT.of a9⟩,?_⟩⟩;have e4:=ai (o:=.tup [V.int 0,V.int 1]) nq;have v4:=a9 (H:=H3) (a:=tq) (o:=.tup [V.int 0,V.int 1]);have E4:=E3.trans e4;have S4:=S3.same e4;generalize upd H3 tq (.tup [V.int 0,V.int 1])=H4 at e4 v4 E4 S4 |-;refine yJ (K:=K) (a:=tq) (xs:=[V.int 0,V.int 1]) (λi σ H'=>(∃ v5 v6 v7 v8,σ=[dk (.ref y.y),dk (.int q.p.s),dk (.int q.p.R),dk (.ref qd),dk (.ref l),v5,v6,v7,v8])/\bZ H4 H'/\(0 < i->tm q S (rls hs) j'=j'/\ovB q S j'=j')/\(1 < i->tm q S (rls hs) D'=j'/\ovB q S D'=j'))
        ⟨⟨_,_,_,_,rfl⟩,bZ.refl _,λh=>by omega,λh=>by omega⟩ (λ_ _ _ _ uq20=>by(obtain⟨_,z,_⟩:=uq20;exact SqT.of (z _ _ v4))) ?_ ?_
       . rintro i x σ H5 hi ⟨⟨v5,v6,v7,v8,rfl⟩,e5,g0,g1⟩;obtain⟨b,rfl,hb0,hb1⟩:∃ b:Bool,x=.int (sdI b)/\(b=j'->i=0)/\(b=D'->i=1):=by
          match i,hi with
         |0,hi=>cases hi;exact⟨j',rfl,λ_=>rfl,(λz=>by cases z)⟩
         |1,hi=>cases hi;exact⟨D',rfl,(λz=>by cases z),λ_=>rfl⟩
         |_+2,hi=>cases hi
         refine⟨l2,λt1 n1=>⟨l2,λt2 n2=>⟨l2,λp np=>?_⟩⟩⟩;have f1:=ai (o:=.tup [V.str "answered",V.str "handed"]) n1;have w1:=a9 (H:=H5) (a:=t1) (o:=.tup [V.str "answered",V.str "handed"]);generalize upd H5 t1 (.tup [V.str "answered",V.str "handed"])=H6 at f1 w1 n2 np |-;have f2:=ai (o:=.tup [V.str "asked",V.str "taken"]) n2;have w2:=a9 (H:=H6) (a:=t2) (o:=.tup [V.str "asked",V.str "taken"]);generalize upd H6 t2 (.tup [V.str "asked",V.str "taken"])=H7 at f2 w2 np |-;have f3:=ai (o:=.lst [V.ref t1,V.ref t2]) np;have w3:=a9 (H:=H7) (a:=p) (o:=.lst [V.ref t1,V.ref t2]);generalize upd H7 p (.lst [V.ref t1,V.ref t2])=H8 at f3 w3 |-;have tt:∃ t,atI [V.ref t1,V.ref t2] (sdI b)=dk (.ref t)/\H8 t=dk (.tup [V.str (lkW b).key,V.str (lkX b).key]):=by
          cases b
          . exact⟨t1,rfl,f3 _ _ (f2 _ _ w1)⟩
          . exact⟨t2,rfl,f3 _ _ w2⟩
         obtain⟨t,ht,vt⟩:=tt;have e8:=e5.trans (f1.trans (f2.trans f3));refine⟨_,rfl,p,_,_,_,rfl,rfl,SqL.of w3,ht,t,_,rfl,SqT.of vt,rfl,_,_,rfl,_,_,rfl,rfl,?_⟩;clear f1 f2 f3 w1 w2 w3 n1 n2 np e5 vt ht;have E8:=E4.trans e8;refine⟨_,rfl,_,rfl,_,rfl,_,rfl,y,q,S,b,rfl,Y.same E8,ok,λH9 e9=>?_⟩;have e49:=e8.trans e9;refine⟨_,rfl,_,rfl,_,rfl,l,rls hs,lkW b,rfl,S4.same e49,by omega,λp1 y1 H10 e10 hp1 hy1=>⟨p1,y1,rfl,.inl (SqL.of hp1),?_⟩⟩;refine⟨_,rfl,_,rfl,l,rls hs,lkX b,rfl,S4.same (e49.trans e10),by omega,λp2 y2 H11 e11 hp2 hy2=>⟨p2,y2,rfl,.inl (SqL.of hp2),?_⟩⟩;refine⟨_,_,rfl,rfl,rfl,_,rfl,?_⟩;rw[hy1,hy2];have e411:=e49.trans (e10.trans e11);have E11:=E4.trans e411;clear e8 e9 e10 e11 e49 E8 hp1 hp2;have hm:=Ey (q:=q) (S:=S) hf b;by_cases hmm:zY q S b=((thH (lkW b) (rls hs)).length:Int) - (thH (lkX b) (rls hs)).length;rotate_left
         . rw[Pl hmm]at hm;rw[zJ hf hz b (.inl hm)]at k;exact iR (by rw[decide_eq_false λz=>hmm (jB z)];rfl) (k _ E11)
         . rw[decide_eq_false λz=>z hmm]at hm;refine cR (by rw[Pl (by rw[hmm])];decide) ?_;have Y11:=Y.same E11;refine⟨λc H'=>c=ovB q S b/\H'=H11,?_,?_⟩
           . unfold ovB;refine⟨_,rfl,dQ Y11.ob (dP (by decide +kernel)) ⟨_,rfl,y,_,S,b,rfl,Y11,rfl,_,rfl,?_⟩⟩;by_cases ha:S.bd b=.asleep
             . rw[Pl ha,Bool.true_and];refine iR (Pl (by rw[ha];rfl)) ?_;refine⟨_,rfl,_,_,rfl,rfl,_,rfl,?_⟩;have nn:=Dt (S:=S) ok b;by_cases h0:zY q S b=0
               . rw[h0];refine cR (by decide) ⟨?_,rfl⟩;cases S.qt (!b)<;>rfl
               . refine iR (Pl (by omega)) ?_;rw[Pl h0,Bool.and_true];exact⟨_,rfl,_,rfl,_,_,rfl,rfl,qd,_,_,_,rfl,rfl,SqL.of (E11 _ _ hqd),by rw[rj];exact ER (!b),_,rfl,rfl,rfl⟩
             . rw[decide_eq_false ha,Bool.false_and];refine cR ?_ ⟨rfl,rfl⟩;rw[Pj];exact Aq ha
           rintro c H12 ⟨rfl,rfl⟩;cases ho:ovB q S b with
          |true =>
            rw[zJ hf hz b (.inr ho)]at k;exact iQ (k _ E11)
          |false =>
            refine iM ⟨⟨_,_,_,_,rfl⟩,e411,λh=>?_,λh=>?_⟩
            . cases b with
             |false=>exact⟨hm,ho⟩
             |true=>exact g0 (by have:=hb1 rfl;omega)
            . cases b with
             |false=>have:=hb0 rfl;omega
             |true=>exact⟨hm,ho⟩
       . rintro σ H5 ⟨⟨v5,v6,v7,v8,rfl⟩,e5,g0,g1⟩;have:=k H5 (E4.trans e5);rw[FU hf hz λb=>by cases b;exact g0 (by decide);exact g1 (by decide)]at this;exact this
def A4 (G:Gs K mg a d):FnOk P w K mg base CX0 1 a.bf d.bf ["quiet","some"] Ak:=by
 refine G.gb.ok kz (λvs H Q E h=>?_) (λcdv A' outer s' H vs Q E hr h=>?_)
 . obtain⟨qd,t,f,x,rfl,_⟩:=h;rfl
 . obtain⟨qd,t,f,x,rfl,hqd,ht,k⟩:=h;refine⟨_,((aK (am bJ (@aC _ _ _ _ _ _ _ aA (pv 1) ag (λ_ _=>rfl)) ao (av _)) (@al _ _ _ (@fZ _ _ _ _ _ _ bI (iJ (pv 0) ag cQ) (by rfl) (by rfl) (by rfl))) ap)∪((aK (am bJ (@aC _ _ _ _ _ _ _ aA (pv 1) ag (λ_ _=>rfl)) ao (av _)) (@al _ _ _ (@fZ _ _ _ _ _ _ bI (iJ (pv 0) ag cQ) (by rfl) (by rfl) (by rfl))) ap)∪(@al _ _ _ (aK (am bJ (@aC _ _ _ _ _ _ _ aA (pv 1) ag (λ_ _=>rfl)) ao (av _)) (@al _ _ _ (@fZ _ _ _ _ _ _ bI (iJ (pv 0) (@aC _ _ _ _ _ _ _ aA (pv 1) ag (λ_ _=>rfl)) cQ) (by rfl) (by rfl) (by rfl))) ap)))),?_⟩;have tq:∀ o,upd H qd o t=dk (.tup x.vs):=λo=>by rw[aa λz=>by rw[z,hqd]at ht;cases ht];exact ht
   have id1:∀ g:Bool->Bool,g=f->upd H qd (.lst [.bl (g j'),.bl (g D')])=H:=λg hg=>by
    rw[hg];funext c;by_cases z:c=qd
    . rw[z,a9,hqd]
    . rw[aa z]
   cases x with
  |ask wt =>
    refine⟨_,rfl,t,_,_,_,rfl,rfl,SqT.of ht,rfl,rfl,_,rfl,jt rfl ?_⟩;refine⟨_,rfl,qd,_,_,_,rfl,rfl,hqd,rfl,?_⟩;refine⟨_,rfl,t,_,_,_,rfl,rfl,SqT.of (tq _),rfl,rfl,_,rfl,cH (sne (by decide +kernel)) ?_⟩;exact⟨_,rfl,t,_,_,_,rfl,rfl,SqT.of (tq _),rfl,rfl,_,rfl,cH (sne (by decide +kernel)) k⟩
  |answer nm wt =>
    refine⟨_,rfl,t,_,_,_,rfl,rfl,SqT.of ht,rfl,rfl,_,rfl,cH (sne (by decide +kernel)) ?_⟩;refine⟨_,rfl,t,_,_,_,rfl,rfl,SqT.of ht,rfl,rfl,_,rfl,jt rfl ?_⟩;refine⟨_,rfl,qd,_,_,_,rfl,rfl,hqd,rfl,?_⟩;exact⟨_,rfl,t,_,_,_,rfl,rfl,SqT.of (tq _),rfl,rfl,_,rfl,cH (sne (by decide +kernel)) k⟩
  |bell b =>
    refine⟨_,rfl,t,_,_,_,rfl,rfl,SqT.of ht,rfl,rfl,_,rfl,cH (sne (by decide +kernel)) ?_⟩;refine⟨_,rfl,t,_,_,_,rfl,rfl,SqT.of ht,rfl,rfl,_,rfl,cH (sne (by decide +kernel)) ?_⟩;refine⟨_,rfl,t,_,_,_,rfl,rfl,SqT.of ht,rfl,rfl,_,rfl,jt rfl ?_⟩;refine⟨_,rfl,_,rfl,t,_,_,_,rfl,rfl,SqT.of ht,rfl,qd,_,_,jN b,rfl,rfl,hqd,uJ,?_⟩;rw[Cs];exact k
  |_ =>
    have k:Q .non (upd H qd (.lst [.bl (f j'),.bl (f D')])):=k;rw[id1 f rfl]at k;refine⟨_,rfl,t,_,_,_,rfl,rfl,SqT.of ht,rfl,rfl,_,rfl,cH (sne (by decide +kernel)) ?_⟩;refine⟨_,rfl,t,_,_,_,rfl,rfl,SqT.of ht,rfl,rfl,_,rfl,cH (sne (by decide +kernel)) ?_⟩;exact⟨_,rfl,t,_,_,_,rfl,rfl,SqT.of ht,rfl,rfl,_,rfl,cH (sne (by decide +kernel)) k⟩
def Ag:Sp:=λvs H Q _=>∃ r:G',vs=[.ref r]/\Rw H r/\∀ (ft:G') (fs:List Str) (H':Hp),H' ft=dk (.tup (fs.map V.str))->ft≠r->Stp r H H'->Q (.ref ft) H'
def A0 (G:Gs K mg a d):FnOk P w K mg base CX0 2 a.eE d.eE ["row"] Ag:=by
 have O1:FnOk P w K mg base CX0 1 _ _ _ _:=zi G;refine G.mB.ok l9 (λvs H Q E h=>?_) (λcdv A' outer s' H vs Q E hr h=>?_)
 . obtain⟨r,rfl,_⟩:=h;rfl
 . obtain⟨r,rfl,hrw,k⟩:=h;refine⟨_,((@aX _ _ 1 _ _ _ _ l9.nd rfl (Or.inr rfl) (@bW _ _ _ _ (ao∣(ao∣(ao∣(ao∣(ao∣ac)))))) (by rfl) (by first|exact .inl rfl|exact .inr rfl|assumption))∪((aK (am bJ (aF O1 (hr.mono (by decide)) (by rfl) G.dA G.cD.kp G.dw .nil aq ((pv 0)∣(ag∣ac))) ag (av _)) ((@bb _ _ _ _ _ ac)⁻¹) ap)∪((iY lA (by rfl) G.qK no ((bn (tU rfl) (by rfl) G.vi sQ ((iY (z9 rfl) (by rfl) G.Hl ES ((by exact nQ (tc:=λ_ H Q=>Q D' H) (te:=tOp (HQ K) (ug 2) (Eh xU [] E0 (ut (ug 1) (ut (tC (.int 5)) EA)))) (caps:=["row","some"]) (js:=[0,1]) rfl (mr rfl rfl (by decide +kernel) (by decide +kernel) rfl ⟨rfl,⟨rfl,trivial⟩⟩ rfl rfl) (by decide +kernel) ⟨⟨⟨_,rfl⟩,rfl,.inl rfl,.inl rfl⟩,⟨⟨⟨_,rfl⟩,rfl,.inl rfl,.inl rfl⟩,trivial⟩⟩ (nR (by rfl) G.uE ((@cO _ _ _ _ _ _ _ _ jM ag (aF O1 (hr.mono (by decide)) (by rfl) G.dA G.cD.kp G.dw .nil aq ((pv 0)∣(ag∣ac))))∣ac)) (λC s₃ H₃ Lv ex E'=>by exact mY) (λC s₃ H₃ Lv ex E'=>by exact(@aC _ _ _ _ _ _ _ bg (pv 2) (aF O1 (hr.mono (by decide)) (by rfl) G.dA G.cD.kp G.dw .nil aq ((pv 1)∣(ag∣ac))) (λ_ _=>rfl))))∣ac))∣ac))∣ac))⁻¹))),?_⟩;refine⟨by show 5 <= Jm;decide,λp np=>?_⟩;have e1:=ai (o:=.lst [V.str "bell",V.str "counter",V.str "lie",V.str "look",V.str "round"]) np;have v1:=a9 (H:=H) (a:=p) (o:=.lst [V.str "bell",V.str "counter",V.str "lie",V.str "look",V.str "round"]);have R1:Rw (upd H p (.lst [V.str "bell",V.str "counter",V.str "lie",V.str "look",V.str "round"])) r:=hrw.new np;have npr:p≠r:=hrw.ne np;generalize upd H p (.lst [V.str "bell",V.str "counter",V.str "lie",V.str "look",V.str "round"])=H1 at e1 v1 R1 |-;refine⟨_,rfl,r,3,rfl,R1,by decide,by decide,λg1 H2 a1 b1 st2=>?_⟩;have S2:Stp r H H2:=⟨st2.row,λb o n e=>st2.keep b o n (e1 b o e)⟩
   refine⟨rfl,_,rfl,Gm (λ_=>?_) (λ_=>?_)⟩
   . refine⟨rT,λft nft=>k ft [] _ a9 (S2.row.ne nft) (S2.new nft)⟩
   have v2:=st2.keep _ _ npr v1;clear v1 R1 e1 st2;refine⟨_,rfl,r,2,rfl,S2.row,by decide,by decide,λg2 H3 a2 b2 st3=>⟨_,_,rfl,rfl,1+g2,rfl,by omega,by omega,λD hD=>?_⟩⟩;have S3:=S2.trans st3;have v3:=st3.keep _ _ npr v2;have nDr:D≠r:=S3.row.ne hD;have nDp:p≠D:=ae v3 hD;clear st3 v2 S2;have hn:(1+g2).toNat <= 2:=by omega
   generalize (1+g2).toNat=n2 at hn |-;refine⟨λi mm ys H'=>i <= n2/\mm=n2 - i/\(∃ ss:List Str,ys=ss.map V.str/\ss.length=i)/\H' D=dk (.lst ys)/\Rw H' r/\∀ c o,c≠D->c≠r->H3 c=dk o->H' c=dk o,
    ⟨_,KG _,rfl,⟨[],rfl,rfl⟩,a9,S3.row.new hD,λc o n _ e=>by rw[aa n];exact e⟩,?_⟩
   rintro i mm ys H4 ⟨hi,rfl,⟨ss,rfl,hl⟩,hD4,R4,k4⟩;refine⟨hD4,Jj (show _ < 10 by rw[Ju];omega) (by decide),?_⟩;by_cases hii:i=n2
   . refine .inl ⟨by show n2 <= i;omega,?_⟩;have S4:Stp r H H4:=⟨R4,λb o n e=>k4 b o (λz=>by have h3:=S3.keep b o n e;rw[z,hD]at h3;cases h3) n (S3.keep b o n e)⟩
     refine⟨D,ss,rfl,SqL.of hD4,by omega,λq nq=>⟨q,_,rfl,a9,by have:=Ew ss;omega,λl1 fs nl1 _ _=>⟨l1,_,rfl,.inl ⟨SqL.of a9,λft nft=>?_⟩⟩⟩⟩;have S5:=S4.new (o:=Gk w q (G8 ss)) nq;have S6:=S5.new (o:=.lst (fs.map V.str)) nl1;exact k ft fs _ a9 (S6.row.ne nft) (S6.new nft)
   . have hlt:i < n2:=by omega
     refine .inr ⟨hlt,?_⟩;rintro v H5 ⟨rfl,rfl⟩;refine iQ ?_;have vp:=k4 _ _ nDp npr v3;refine⟨_,rfl,_,rfl,r,5,rfl,R4,by decide,by decide,λg3 H6 a3 b3 st6=>?_⟩;obtain⟨x,hx⟩:∃ x:Str,atI [V.str "bell",V.str "counter",V.str "lie",V.str "look",V.str "round"] g3=dk (.str x):=by
      have h:g3=0\/g3=1\/g3=2\/g3=3\/g3=4:=by omega
      rcases h with rfl|rfl|rfl|rfl|rfl<;>exact⟨_,rfl⟩
     refine⟨p,_,_,_,rfl,rfl,SqL.of (st6.keep _ _ npr vp),hx,st6.keep _ _ nDr hD4,n2 - (i+1),by omega,by omega,rfl,⟨ss++[x],by rw[Ld];rfl,by rw[Ji,hl];rfl⟩,a9,?_,λc o n n' e=>by rw[aa n];exact st6.keep c o n' (k4 c o n n' e)⟩;obtain⟨rw,h,ir⟩:=st6.row;exact⟨rw,by rw[aa nDr.symm];exact h,ir⟩
structure Y32 (w:Jp) (ad:Ad) (H:Hp) (a:YA) (q:YP) (S:YS) (hs:List Hx) (L:Nat) (qd:G'):Prop where
 y:Yn w ad.b5 ad.dn ad.aY ad.bT ad.aD H a q S
 i:YI q S L
 h:S.hs=hs.map Hx.d
 q:H qd=dk (.lst [.bl (S.qt j'),.bl (S.qt D')])
section
variable {w:Jp}{ad:Ad}{H H':Hp}{a:YA}{q:YP}{S:YS}{hs:List Hx}{L L':Nat}{qd:G'}
theorem Y32.same (Y:Y32 w ad H a q S hs L qd) (e:bZ H H'):Y32 w ad H' a q S hs L qd:=⟨Y.y.same e,Y.i,Y.h,e _ _ Y.q⟩
theorem Y32.mono (Y:Y32 w ad H a q S hs L qd) (h:L <= L'):Y32 w ad H a q S hs L' qd:=⟨Y.y,Y.i.mono h,Y.h,Y.q⟩
def Y32.stp (Y:Y32 w ad H a q S hs L qd) {r:G'}(st:Stp r H H') (n1:¬ a.own r) (n2:qd≠r) (hr:Rw H r):Y32 w ad H' a q S hs L qd:=by
 have ko:KO (·=r) H H':=λc o n e=>st.keep c o n e
 refine⟨Y.y.ko ko (λc z=>by rw[z];exact n1) (λc z vs e=>?_),Y.i,Y.h,st.keep _ _ n2 Y.q⟩;obtain⟨rw,h,_⟩:=hr;rw[z,h]at e;cases e
def Y32.len (Y:Y32 w ad H a q S hs L qd):hs.length <= L:=by
 have h:=Y.i.hl;rw[Y.h,Ju]at h;exact h
end
def wo (K:Jh):Sp:=λvs H Q _=>∃ (b:G') (ns:List Int),vs=[.ref b]/\SqL K H b (ns.map V.int)/\ns.length <= 63/\∀ H',Q (.bl D') H'
def G5 (G:Gs K mg a d):FnOk P w K mg base CX0 17 a.law d.law ["script"] (wo K):=by
 have OV:FnOk P w K mg base CX0 1 _ _ _ _:=yq G;have OY:FnOk P w K mg base CX0 1 _ _ _ _:=Fy G;have O1:FnOk P w K mg base CX0 1 _ _ _ _:=zi G;have OX:FnOk P w K mg base CX0 2 _ _ _ _:=A0 G;have Ox:FnOk P w K mg base CX0 6 _ _ _ _:=Bv G;have Oy:FnOk P w K mg base CX0 12 _ _ _ _:=Fb G;have Pf:FnOk P w K mg base (CXv P w) 10 _ _ _ _:=Do G;have O2:FnOk P w K mg base CX0 1 _ _ _ _:=A4 G;have OO:FnOk P w K mg base CX0 4 _ _ _ _:=Ef G;have OW:FnOk P w K mg base CX0 3 _ _ _ _:=Bz G;refine G.Gq.ok fE (λvs H Q E h=>?_) (λcdv A' outer s' H vs Q E hr h=>?_)
 . obtain⟨l,ns,rfl,_⟩:=h;rfl
 . obtain⟨l,ns,rfl,hS,hlen,k⟩:=h;have hu:=dF hr;refine⟨_,((@aX _ _ 1 _ _ _ _ fE.nd rfl (JQ rfl) (aF OY (hr.mono (by decide)) (by rfl) G.ua G.oF.kp G.tf .nil aq ((aF OV (hr.mono (by decide)) (by rfl) G.rD G.lC.kp G.sk .nil aq ((pv 0)∣(ag∣ac)))∣ac)) (by rfl) (by first|exact .inl rfl|exact .inr rfl|assumption))∪((@aX _ _ 2 _ _ _ _ fE.nd rfl (JQ rfl) (@cO _ _ _ _ _ _ _ _ jM ag (aF O1 (hr.mono (by decide)) (by rfl) G.dA G.cD.kp G.dw .nil aq ((pv 1)∣(ag∣ac)))) (by rfl) (by first|exact .inl rfl|exact .inr rfl|assumption))∪((@aX _ _ 3 _ _ _ _ fE.nd rfl (JQ rfl) (@cO _ _ _ _ _ _ _ _ jM ag (aF O1 (hr.mono (by decide)) (by rfl) G.dA G.cD.kp G.dw .nil aq ((pv 1)∣(ag∣ac)))) (by rfl) (by first|exact .inl rfl|exact .inr rfl|assumption))∪((@aX _ _ 4 _ _ _ _ fE.nd rfl (JQ rfl) (@cO _ _ _ _ _ _ _ _ jM ag (aF O1 (hr.mono (by decide)) (by rfl) G.dA G.cD.kp G.dw .nil aq ((pv 1)∣(ag∣ac)))) (by rfl) (by first|exact .inl rfl|exact .inr rfl|assumption))∪((@aX _ _ 5 _ _ _ _ fE.nd rfl (JQ rfl) (aF OX (hr.mono (by decide)) (by rfl) G.sU G.mB.kp G.tX .nil aq ((pv 1)∣ac)) (by rfl) (by first|exact .inl rfl|exact .inr rfl|assumption))∪((@aX _ _ 6 _ _ _ _ fE.nd rfl (JQ rfl) (kA G.G9 Ox (hr.mono (by decide)) (by rfl) G.FC G.tp .nil aq ((pv 2)∣((pv 3)∣((pv 4)∣((pv 5)∣ac))))) (by rfl) (by first|exact .inl rfl|exact .inr rfl|assumption))∪(@lM _ _ _ _ _ (@aK _ _ _ _ _ _ _ _ (am gE ao (pv 5) (by with_unfolding_all rfl)) (@al _ _ _ (@aX _ _ 3 _ _ _ _ fE.nd rfl (JQ rfl) ag (by rfl) (by first|exact .inl rfl|exact .inr rfl|assumption))) ap)
    ((@aX _ _ 7 _ _ _ _ fE.nd rfl (JQ rfl) (@bW _ _ _ _ (bI∣(bI∣ac))) (by rfl) (by first|exact .inl rfl|exact .inr rfl|assumption))∪(@lM _ _ _ _ _ (@kP _ _ _ _ _ _ _ _ KL rfl (@ik _ _ _ _ (fY ml (pv 0) (hU ag) (hU ag))) (bR (i:=8) fE.nd rfl (JQ rfl)) ((@aX _ _ 1 _ _ _ _ fE.nd rfl (JQ rfl) (aF OY (hr.mono (by decide)) (by rfl) G.ua G.oF.kp G.tf .nil aq ((pv 8)∣ac)) (by rfl) (by first|exact .inl rfl|exact .inr rfl|assumption))∪(@al _ _ _ (@kP _ _ _ _ _ _ _ _ KL rfl (nR (by rfl) G.uE ((@cO _ _ _ _ _ _ _ _ jM ag (aF O1 (hr.mono (by decide)) (by rfl) G.dA G.cD.kp G.dw .nil aq ((pv 1)∣(ag∣ac))))∣ac)) (bR (i:=9) fE.nd rfl (JQ rfl)) ((@aX _ _ 10 _ _ _ _ fE.nd rfl (JQ rfl) (au (pv 6) G.ak G.ki Oy (hr.mono (by decide)) G.lz .nil aq ((@bW _ _ _ _ (ag∣((Ge CF ag)∣ac)))∣ac)) (by rfl) (by first|exact .inl rfl|exact .inr rfl|assumption))∪((@aK _ _ _ _ _ _ _ _ (am (C9 hr.units) (pv 10) (@bW _ _ _ _ ac) (av _)) (@al _ _ _ AM) ap)∪((@aX _ _ 11 _ _ _ _ fE.nd rfl (JQ rfl) (@aC _ _ _ _ _ _ _ bg (pv 10) (aF O1 (hr.mono (by decide)) (by rfl) G.dA G.cD.kp G.dw .nil aq ((pv 1)∣((bn bo (by rfl) G.oQ jP ((pv 10)∣ac))∣ac))) (λ_ _=>rfl)) (by rfl) (by first|exact .inl rfl|exact .inr rfl|assumption))∪((@aB _ _ _ _ (au (pv 6) G.ak G.tM Pf (hr.mono (by decide)) G.uv .nil DM ((pv 11)∣ac)) (by rfl))∪((@aB _ _ _ _ (aF O2 (hr.mono (by decide)) (by rfl) G.kQ G.gb.kp G.lf .nil aq ((pv 7)∣((pv 11)∣ac))) (by rfl))∪((@aX _ _ 12 _ _ _ _ fE.nd rfl (JQ rfl) (aF OO (hr.mono (by decide)) (by rfl) G.yO G.vv.kp G.zT .nil aq ((pv 6)∣ac)) (by rfl) (by first|exact .inl rfl|exact .inr rfl|assumption))∪(@al _ _ _ (@aK _ _ _ _ _ _ _ _ (qp ((o4 (gG (cP (bn ez (by rfl) G.du cA ((pv 12)∣((lO (v:=.ty "bool") (by rfl) G.Cr yY rfl)∣ac))))) (o4 (am pf (pv 12) (aF OW (hr.mono (by decide)) (by rfl) G.pU G.lW.kp G.pK .nil aq ((pv 6)∣((pv 2)∣((pv 3)∣((pv 7)∣ac))))) (av _)) (l8 (am pf (aF OO (hr.mono (by decide)) (by rfl) G.yO G.vv.kp G.zT .nil aq ((pv 6)∣ac)) (pv 12) (av _)))))).pt) (bI⁻¹) ap)))))))) (by intro _;rfl)))) (by intro _;rfl))
    ((cY bJ (aF OO (hr.mono (by decide)) (by rfl) G.yO G.vv.kp G.zT .nil aq ((pv 6)∣ac)) (aF OW (hr.mono (by decide)) (by rfl) G.pU G.lW.kp G.pK .nil aq ((pv 6)∣((pv 2)∣((pv 3)∣((pv 7)∣ac))))) (av _))⁻¹)))))))))),?_⟩
   refine⟨_,rfl,l,ns,0,rfl,hS,_,rfl,λr rw hr0 ir=>?_⟩;have e1:=ai (o:=.lst rw) hr0;have R1:Rw (upd H r (.lst rw)) r:=⟨rw,a9,ir⟩
   generalize upd H r (.lst rw)=H1 at e1 R1 |-;refine⟨_,rfl,r,3,rfl,R1,by decide,by decide,λg1 H2 a1 b1 st2=>⟨_,_,rfl,rfl,?_⟩⟩;refine⟨_,rfl,r,3,rfl,st2.row,by decide,by decide,λg2 H3 a2 b2 st3=>⟨_,_,rfl,rfl,?_⟩⟩;refine⟨_,rfl,r,4,rfl,st3.row,by decide,by decide,λg3 H4 a3 b3 st4=>⟨_,_,rfl,rfl,?_⟩⟩;refine⟨_,rfl,r,rfl,st4.row,λft fs H5 hft nft st5=>?_⟩;have st15:=((st2.trans st3).trans st4).trans st5;have E5:bZ H H5:=λc o e=>st15.keep c o (ae e hr0) (e1 c o e)
   have S5:=E5.seq hS;clear e1 R1 st2 st3 st4 st5 st15 E5 ir hr0 hS;refine⟨_,rfl,_,rfl,_,rfl,_,rfl,?_⟩;intro y dy ny ndy nedy;obtain⟨n,hn⟩:∃ n:Nat,1+g3=(n:Int):=⟨(1+g3).toNat,by omega⟩
   refine⟨y,dy,ft,1+g1,2+g2,n,fs,(by show [V.ref y,V.int (1+g1),V.int (2+g2),V.int (1+g3),V.ref ft]=_;rw[hn]),a9,by rw[aa (ae hft ny),aa (ae hft ndy)];exact hft,λa1 H6 ha fa Y6 kp6=>⟨rfl,?_⟩⟩;have e6:=l5 ny ndy kp6;have S6:=e6.seq S5;have hft6:=e6 _ _ hft;subst ha;clear fa kp6 ny ndy nedy S5 e6 hft;have q3:(FT (1+g1) (2+g2) n fs).p.s=1+g1:=rfl;have qR:(FT (1+g1) (2+g2) n fs).p.R=if fs.contains "round" then 1 else 2+g2:=rfl
   have qok:(FT (1+g1) (2+g2) n fs).Ok:=by
    refine⟨⟨by show 0 < 1+g1;omega,by show 1+g1 <= 8;omega,?_⟩,by show n <= 9;omega⟩;show 0 < (1+g1) * (if fs.contains "round" then 1 else 2+g2);refine Int.mul_pos (by omega) ?_;split<;>omega
   obtain⟨qy,hqy⟩:∃ q:YP,q=FT (1+g1) (2+g2) n fs:=⟨_,rfl⟩
   rw[<-hqy]at Y6 q3 qR qok;refine⟨λσ H'=>H'=H6/\σ=[dk (.ref l),dk (.ref r),dk (.int qy.p.s),dk (.int qy.p.R),dk (.int (1+g3)),dk (.ref ft),dk (.ref a1.y),Jd,Jd,Jd,Jd,Jd,Jd],?_,?_⟩
   . refine⟨_,rfl,ft,_,rfl,.inr (SqT.of hft6),rfl,fF fs,_,rfl,?_⟩;simp only[JP,if_false];rw[nS,q3,qR];by_cases hb:fs.contains "round"=D'
     . rw[Pg hb,Pg hb];exact⟨rfl,rfl⟩
     . rw[Ph hb,Ph hb];exact⟨rfl,rfl⟩
   rintro σ H' ⟨rfl,rfl⟩;clear hqy q3 qR hft6 nft;refine⟨l2,λqd nqd=>?_⟩;have e7:=ai (o:=.lst [V.bl D',V.bl D']) nqd;have W:Y32 w a (upd H' qd (.lst [V.bl D',V.bl D'])) a1 qy YS.zero [] 0 qd:=⟨Y6.same e7,YI.zero _,rfl,a9⟩
   have nq_:¬ a1.own qd:=Y6.fresh nqd;have S7:=e7.seq S6;generalize upd H' qd (.lst [V.bl D',V.bl D'])=H7 at W S7 |-;clear Y6 e7 nqd S6;refine⟨λσ H'=>∃ S hs,(∃ v1 v8 v9 v10 v11 v12,σ=[dk (.ref l),v1,dk (.int qy.p.s),dk (.int qy.p.R),dk (.int (1+g3)),dk (.ref ft),dk (.ref a1.y),dk (.ref qd),v8,v9,v10,v11,v12])/\Y32 w a H' a1 qy S hs 496 qd,?_,?_⟩
   . refine⟨_,rfl,_,rfl,_,rfl,l,_,rfl,S7,λp hp=>⟨p,rfl,⟨_,SqL.of a9⟩,?_⟩⟩;have e8:=ai (o:=.lst (kY (ns.map V.int) (dk 1) (dk 63))) hp;have v8:upd H7 p (.lst (kY (ns.map V.int) (dk 1) (dk 63))) p=dk (.lst (((ns.drop 1).take 62).map V.int)):=by
      rw[a9,show (dk (1:Int))=dk ((1:Nat):Int) from rfl,show (dk (63:Int))=dk ((63:Nat):Int) from rfl,BZ,List.map_take,List.map_drop]
     have W8:=W.same e8;have np:¬ a1.own p:=W.y.fresh hp;have npq:p≠qd:=λz=>by rw[z,W.q]at hp;cases hp
     generalize upd H7 p (.lst (kY (ns.map V.int) (dk 1) (dk 63)))=H8 at v8 W8 |-;have cl:((ns.drop 1).take 62).length <= 62:=by rw[KR];omega
     generalize (ns.drop 1).take 62=cs at v8 cl |-;clear W S7 e8 hp;refine qX (K:=K) (a:=p) (xs:=cs.map V.int) (λi σ H'=>∃ S hs,(∃ v1 v8 v9 v10 v11 v12,σ=[dk (.ref l),v1,dk (.int qy.p.s),dk (.int qy.p.R),dk (.int (1+g3)),dk (.ref ft),dk (.ref a1.y),dk (.ref qd),v8,v9,v10,v11,v12])/\Y32 w a H' a1 qy S hs (8 * i) qd/\H' p=dk (.lst (cs.map V.int)))
      ⟨_,_,⟨_,_,_,_,_,_,rfl⟩,W8,v8⟩ (λ_ _ _ _ uq21=>by(obtain⟨_,_,_,_,z⟩:=uq21;exact SqL.of z)) ?_ ?_
     . clear W8 v8;rintro i x σ H9 hi ⟨S,hs,⟨v1,v8,v9,v10,v11,v12,rfl⟩,Y,hp9⟩;obtain⟨c,rfl⟩:∃ c,x=.int c:=by
        rw[Ke]at hi;cases e:cs[i]? with
       |none=>rw[e]at hi;cases hi
       |some c=>rw[e]at hi;cases hi;exact⟨c,rfl⟩
       have hi62:i < 62:=by have:=(Jy.mp hi).1;rw[Ju]at this;omega
       clear hi;refine⟨_,rfl,c,rfl,λr rw hr ir=>?_⟩;have e10:=ai (o:=.lst rw) hr;have R10:Rw (upd H9 r (.lst rw)) r:=⟨rw,a9,ir⟩
       have Y10:=Y.same e10;have hp10:=e10 _ _ hp9;have nr:¬ a1.own r:=Y.y.fresh hr;have nrq:qd≠r:=ae Y.q hr;have nrp:p≠r:=ae hp9 hr;generalize upd H9 r (.lst rw)=H10 at R10 Y10 hp10 |-;clear Y e10 hp9 hr ir;refine⟨_,rfl,r,4,rfl,R10,by decide,by decide,λg6 H15 a6 b6 st15=>⟨_,_,rfl,rfl,1+g6,rfl,by omega,by omega,?_⟩⟩;have Y15:=Y10.stp st15 nr nrq R10;have hp15:=st15.keep _ _ nrp hp10;have R15:=st15.row;clear st15 Y10 hp10 R10;have hn6:(1+g6).toNat <= 4:=by omega
       generalize (1+g6).toNat=n6 at hn6 |-;refine sI (λj σ H'=>∃ S hs,(∃ v9 v10 v11 v12,σ=[dk (.ref l),dk (.ref r),dk (.int qy.p.s),dk (.int qy.p.R),dk (.int (1+g3)),dk (.ref ft),dk (.ref a1.y),dk (.ref qd),dk (.int c),v9,v10,v11,v12])/\Y32 w a H' a1 qy S hs (8 * i+2 * j) qd/\H' p=dk (.lst (cs.map V.int))/\Rw H' r)
        ⟨S,hs,⟨_,_,_,_,rfl⟩,Y15,hp15,R15⟩ ?_ ?_
       . clear Y15 hp15 R15;clear S hs;rintro j σ H16 hj ⟨S,hs,⟨v9,v10,v11,v12,rfl⟩,Y,hpY,hrY⟩;have tkl:=Y.i.tkd.len (by decide);refine⟨_,rfl,dQ Y.y.ob (dP (by decide +kernel)) ⟨_,rfl,l2,λwl nwl=>?_⟩⟩;have e17:=ai (o:=.lst [V.int 5,V.int (-7)]) nwl;have w17:upd H16 wl (.lst [V.int 5,V.int (-7)]) wl=dk (.lst ([(5:Int),-7].map V.int)):=a9;have Y17:=Y.same e17;have hp17:=e17 _ _ hpY;have R17:Rw (upd H16 wl (.lst [V.int 5,V.int (-7)])) r:=hrY.new nwl;generalize upd H16 wl (.lst [V.int 5,V.int (-7)])=H17 at w17 Y17 hp17 R17 |-;have wok:∀ x∈[(5:Int),-7],-1000000000 <= x/\x <= 1000000000:=by decide
         clear e17 nwl Y hpY hrY;refine⟨a1,_,S,wl,[5,-7],rfl,Y17.y,qok,w17,by decide,wok,by omega,λlc ks ts H18 pk _ nlc e18 hlc td=>?_⟩;have Y18:=Y17.same e18;have hp18:=e18 _ _ hp17;have R18:Rw H18 r:=by obtain⟨rw,h,ir⟩:=R17;exact⟨rw,e18 _ _ h,ir⟩
         have nlr:lc≠r:=λz=>by obtain⟨rw,h,ir⟩:=R17;rw[<-z,nlc]at h;cases h
         have kl:=pk.length_eq;have xlen:((iI [5,-7] ks).filter λx=>(x.chk qy S).isNone).length <= 20000:=by
          refine JU (Ln ..) ?_;unfold iI gN mC;rw[Ji,Ji,Ji,Ju,kJ];show 2+2+ks.length * 2+8 <= _;omega
         have tl:=aG td;clear e18 Y17 hp17 R17 w17;refine⟨_,rfl,rT,λq nq=>⟨lc,q,ts,rfl,rfl,SqL.of (ai nq _ _ hlc),SqL.of a9,_,rfl,?_⟩⟩;have e19:=ai (o:=.lst []) nq;have Y19:=Y18.same e19;have hp19:=e19 _ _ hp18;have R19:Rw (upd H18 q (.lst [])) r:=R18.new nq;have hl19:=e19 _ _ hlc;have td19:=qD (λb vs e=>e19 b _ e) td;generalize upd H18 q (.lst [])=H19 at Y19 hp19 R19 hl19 td19 |-;clear e19 Y18 hp18 R18 hlc td nq;rw[Ph (by decide)];by_cases hts:ts=[]
         . rw[hts];exact iR rfl ⟨S,hs,⟨_,_,_,_,_,_,rfl⟩,Y19.mono (by omega),hp19⟩
         refine cR (λz=>hts (List.isEmpty_iff.mp z)) ?_;have hp0:=List.length_pos_iff.mpr hts;refine⟨_,rfl,_,rfl,_,rfl,lc,ts,rfl,.inl (SqL.of hl19),r,_,rfl,R19,by omega,by omega,λg H20 g0 g1' st=>?_⟩;obtain⟨jj,rfl⟩:=Int.eq_ofNat_of_zero_le g0;have hjl:jj < ts.length:=by omega
         obtain⟨x,hx,t,hvt,ht19⟩:=nZ td19 (Jl hjl);have hxm:=Ka hx;have ntr:t≠r:=λz=>by obtain⟨rw,h,ir⟩:=R19;rw[z,h]at ht19;cases ht19
         refine⟨lc,ts,_,_,rfl,rfl,SqL.of (st.keep _ _ nlr hl19),zB (Jl hjl),?_⟩;rw[hvt];have ht:=st.keep _ _ ntr ht19;have Y20:=Y19.stp st nr nrq R19;have hp20:=st.keep _ _ nrp hp19;have R20:=st.row;clear st Y19 hp19 R19 hl19 td19 ht19 hvt;obtain⟨hx1,hx2⟩:=Ls.mp hxm;have hc:x.chk qy S=Jd:=by
          cases h:x.chk qy S with
         |none=>rfl
         |some r=>rw[h]at hx2;cases hx2
         have xo:=we (ks:=ks) wok x hx1;obtain⟨fs',hf1,hf2⟩:=ED hc;refine⟨_,rfl,dQ Y20.y.ob (dP (by decide +kernel)) ⟨_,rfl,a1,_,S,8 * i+2 * j,x,t,rfl,⟨Y20.y,qok,Y20.i,by omega⟩,ht,xo,?_⟩⟩;rw[hc];intro v H21 Y21 i21 _ ko21;have ht21:=ye ko21 Y20.y.noT _ _ ht;have hq21:=ko21 _ _ nq_ Y20.q;refine⟨_,rfl,_,rfl,qd,t,S.qt,x,rfl,hq21,ht21,?_⟩;have eqt:(x.run qy S).2.qt=x.trn S.qt:=Dn hc;have ko22:KO (·=qd) H21 (upd H21 qd (.lst [V.bl (x.trn S.qt j'),V.bl (x.trn S.qt D')])):=λc o n e=>by rw[aa n];exact e
         have nt22:∀ c,c=qd->∀ vs,H21 c≠dk (.tup vs):=λc z vs e=>by rw[z,hq21]at e;cases e
         have Y22:Y32 w a (upd H21 qd (.lst [V.bl (x.trn S.qt j'),V.bl (x.trn S.qt D')])) a1 qy (x.run qy S).2 (hs++fs') (8 * i+2 * j+2) qd:=⟨Y21.ko ko22 (λc z=>by rw[z];exact nq_) nt22,i21,by rw[hf2,Y20.h,Ld],by rw[eqt];exact a9⟩
         have hp22:=ko22 _ _ npq (ko21 _ _ np hp20);have R22:Rw (upd H21 qd (.lst [V.bl (x.trn S.qt j'),V.bl (x.trn S.qt D')])) r:=by
          obtain⟨rw,h,ir⟩:=R20;exact⟨rw,ko22 _ _ nrq.symm (ko21 _ _ nr h),ir⟩
         generalize upd H21 qd (.lst [V.bl (x.trn S.qt j'),V.bl (x.trn S.qt D')])=H22 at Y22 hp22 R22 |-;clear Y21 i21 ko21 ht21 hq21 ko22 nt22 Y20 hp20 R20 ht hf2;have hl22:=Y22.len;generalize (x.run qy S).2=S2 at Y22;generalize hs++fs'=hs2 at Y22 hl22;refine⟨_,rfl,a1,qy,S2,hs2,rfl,Y22.y,qok,Y22.h,by omega,λH23 e23=>?_⟩;refine⟨λb H'=>b=j'/\bZ H22 H',?_,?_⟩
         . refine⟨_,rfl,.bl (B9 qy S2 hs2),"bool",.type "bool",D',rfl,.bl _,(by unfold kitOne;rw[Pg (by decide)]),_,rfl,iM ?_⟩;refine⟨_,rfl,_,rfl,_,rfl,_,rfl,_,rfl,a1,qy,S2,hs2,qd,rfl,Y22.y.same e23,qok,Y22.h,by omega,e23 _ _ Y22.q,λH24 e24=>⟨rfl,_,rfl,?_⟩⟩;rw[Pl rfl];refine iM ?_;refine⟨_,rfl,a1,qy,S2,hs2,rfl,Y22.y.same (e23.trans e24),qok,Y22.h,by omega,λH25 e25=>⟨_,rfl,rfl,_,rfl,?_,e23.trans (e24.trans e25)⟩⟩;rw[Pl rfl];rfl
         rintro b H26 ⟨rfl,e26⟩;refine iM ⟨S2,hs2,⟨_,_,_,_,rfl⟩,(Y22.same e26).mono (by omega),e26 _ _ hp22,?_⟩;obtain⟨rw,h,ir⟩:=R22;exact⟨rw,e26 _ _ h,ir⟩
       . rintro σ H16 ⟨S,hs,⟨v9,v10,v11,v12,rfl⟩,Y,hpY,hrY⟩;exact⟨S,hs,⟨_,_,_,_,_,_,rfl⟩,Y.mono (by omega),hpY⟩
     . rintro σ H9 ⟨S,hs,⟨v1,v8,v9,v10,v11,v12,rfl⟩,Y,hp9⟩;exact⟨S,hs,⟨_,_,_,_,_,_,rfl⟩,Y.mono (by rw[Ju];omega)⟩
   . rintro σ H8 ⟨S,hs,⟨v1,v8,v9,v10,v11,v12,rfl⟩,Y⟩;have hl9:=Y.len;refine⟨_,rfl,a1,qy,S,hs,rfl,Y.y,qok,Y.h,by omega,λH9 e9=>?_⟩;refine⟨_,rfl,_,rfl,_,rfl,_,rfl,a1,qy,S,hs,qd,rfl,Y.y.same e9,qok,Y.h,by omega,e9 _ _ Y.q,λH10 e10=>?_⟩;refine⟨rfl,?_⟩;rw[Pl rfl];exact k _
def FnA (K:Jh) (f:G') (x q:Str) (st:JT):Prop:=∃ fd,Fun K x q st f fd
def NsA (K:Jh) (f:G') (x:Str) (st:JT):Prop:=nsIn K JO x=dk (dk (.ref f))/\FnA K f x x st
def MtA (K:Jh) (C f:G') (x q:Str) (st:JT):Prop:=findIn K (.ref C) x=dk (dk (.ref f))/\isFn K (.ref f)=D'/\FnA K f x q st
def ClA (K:Jh) (C:G') (x:Str):Prop:=nsIn K JO x=dk (dk (.ref C))/\Cls K C/\makesIn K C=D'/\keepIn K (.ref C)=D'
def D4 (K:Jh) (C:G'):List Str->Prop
|[]=>True
|f :: r=>aQ K C f/\D4 K C r
def I8 (K:Jh):List Str->Prop
|[]=>True
|f :: r=>nsIn K JO f=dk Jd/\I8 K r
section
variable {K:Jh}{h:JB}{mg:Str->Option Ja}{f C:G'}{x q:Str}{st:JT}
def c9 (X:K.In h) (G:h.Ns JO mg) (l:NsA K f x st):mg x=dk (.ref f)/\∃ fd,Fun K x x st f fd:=⟨mg_of X G l.1,l.2⟩
def aM (l:MtA K C f x q st):Meth K C x f/\∃ fd,Fun K x q st f fd:=by
 obtain⟨a,i,fd,F⟩:=l;exact⟨⟨a,i,F.kp⟩,fd,F⟩
def pN (X:K.In h) (G:h.Ns JO mg) (l:ClA K C x) (m:MtA K C f "__init__" q st):mg x=dk (.ref C)/\Cls K C/\Mk K C f:=⟨mg_of X G l.1,l.2.1,l.2.2.1,m.1,m.2.1,l.2.2.2⟩
end
def bnc {n:Nat}{us:List Ja}(h:us.length=n+1):∃ u vs,us=u :: vs/\vs.length=n:=by
 cases us
 . cases h
 . exact⟨_,_,rfl,Nat.succ.inj h⟩
def bn1 {K:Jh}{f:G'}{x q:Str}{st:JT}{fd:Jq}(F:Fun K x q st f fd) (p0:Str) (h:∀ (kV doc pm:Ja) (an:Option G') (cdv ct:Ja) (u0:Ja),bindArgs (fnOf x q (fH st) (dY st) (af st) .none kV doc pm an cdv ct) ⟨[u0],[]⟩=pure ([p0].zip [u0])):ay K fd [p0] []:=F.binds λa b c d e g us hl=>by (obtain⟨u0,t0,rfl,j0⟩:=bnc hl;obtain rfl:=length_eq_zero_iff.mp j0;exact h a b c d e g u0)
def bn2 {K:Jh}{f:G'}{x q:Str}{st:JT}{fd:Jq}(F:Fun K x q st f fd) (p0 p1:Str) (h:∀ (kV doc pm:Ja) (an:Option G') (cdv ct:Ja) (u0 u1:Ja),bindArgs (fnOf x q (fH st) (dY st) (af st) .none kV doc pm an cdv ct) ⟨[u0,u1],[]⟩=pure ([p0,p1].zip [u0,u1])):ay K fd [p0,p1] []:=F.binds λa b c d e g us hl=>by (obtain⟨u0,t0,rfl,j0⟩:=bnc hl;obtain⟨u1,t1,rfl,j1⟩:=bnc j0;obtain rfl:=length_eq_zero_iff.mp j1;exact h a b c d e g u0 u1)
def bn3 {K:Jh}{f:G'}{x q:Str}{st:JT}{fd:Jq}(F:Fun K x q st f fd) (p0 p1 p2:Str) (h:∀ (kV doc pm:Ja) (an:Option G') (cdv ct:Ja) (u0 u1 u2:Ja),bindArgs (fnOf x q (fH st) (dY st) (af st) .none kV doc pm an cdv ct) ⟨[u0,u1,u2],[]⟩=pure ([p0,p1,p2].zip [u0,u1,u2])):ay K fd [p0,p1,p2] []:=F.binds λa b c d e g us hl=>by (obtain⟨u0,t0,rfl,j0⟩:=bnc hl;obtain⟨u1,t1,rfl,j1⟩:=bnc j0;obtain⟨u2,t2,rfl,j2⟩:=bnc j1;obtain rfl:=length_eq_zero_iff.mp j2;exact h a b c d e g u0 u1 u2)
def bn4 {K:Jh}{f:G'}{x q:Str}{st:JT}{fd:Jq}(F:Fun K x q st f fd) (p0 p1 p2 p3:Str) (h:∀ (kV doc pm:Ja) (an:Option G') (cdv ct:Ja) (u0 u1 u2 u3:Ja),bindArgs (fnOf x q (fH st) (dY st) (af st) .none kV doc pm an cdv ct) ⟨[u0,u1,u2,u3],[]⟩=pure ([p0,p1,p2,p3].zip [u0,u1,u2,u3])):ay K fd [p0,p1,p2,p3] []:=F.binds λa b c d e g us hl=>by (obtain⟨u0,t0,rfl,j0⟩:=bnc hl;obtain⟨u1,t1,rfl,j1⟩:=bnc j0;obtain⟨u2,t2,rfl,j2⟩:=bnc j1;obtain⟨u3,t3,rfl,j3⟩:=bnc j2;obtain rfl:=length_eq_zero_iff.mp j3;exact h a b c d e g u0 u1 u2 u3)
def bn5 {K:Jh}{f:G'}{x q:Str}{st:JT}{fd:Jq}(F:Fun K x q st f fd) (p0 p1 p2 p3 p4:Str) (h:∀ (kV doc pm:Ja) (an:Option G') (cdv ct:Ja) (u0 u1 u2 u3 u4:Ja),bindArgs (fnOf x q (fH st) (dY st) (af st) .none kV doc pm an cdv ct) ⟨[u0,u1,u2,u3,u4],[]⟩=pure ([p0,p1,p2,p3,p4].zip [u0,u1,u2,u3,u4])):ay K fd [p0,p1,p2,p3,p4] []:=F.binds λa b c d e g us hl=>by (obtain⟨u0,t0,rfl,j0⟩:=bnc hl;obtain⟨u1,t1,rfl,j1⟩:=bnc j0;obtain⟨u2,t2,rfl,j2⟩:=bnc j1;obtain⟨u3,t3,rfl,j3⟩:=bnc j2;obtain⟨u4,t4,rfl,j4⟩:=bnc j3;obtain rfl:=length_eq_zero_iff.mp j4;exact h a b c d e g u0 u1 u2 u3 u4)
def bn6 {K:Jh}{f:G'}{x q:Str}{st:JT}{fd:Jq}(F:Fun K x q st f fd) (p0 p1 p2 p3 p4 p5:Str) (h:∀ (kV doc pm:Ja) (an:Option G') (cdv ct:Ja) (u0 u1 u2 u3 u4 u5:Ja),bindArgs (fnOf x q (fH st) (dY st) (af st) .none kV doc pm an cdv ct) ⟨[u0,u1,u2,u3,u4,u5],[]⟩=pure ([p0,p1,p2,p3,p4,p5].zip [u0,u1,u2,u3,u4,u5])):ay K fd [p0,p1,p2,p3,p4,p5] []:=F.binds λa b c d e g us hl=>by (obtain⟨u0,t0,rfl,j0⟩:=bnc hl;obtain⟨u1,t1,rfl,j1⟩:=bnc j0;obtain⟨u2,t2,rfl,j2⟩:=bnc j1;obtain⟨u3,t3,rfl,j3⟩:=bnc j2;obtain⟨u4,t4,rfl,j4⟩:=bnc j3;obtain⟨u5,t5,rfl,j5⟩:=bnc j4;obtain rfl:=length_eq_zero_iff.mp j5;exact h a b c d e g u0 u1 u2 u3 u4 u5)
def bn7 {K:Jh}{f:G'}{x q:Str}{st:JT}{fd:Jq}(F:Fun K x q st f fd) (p0 p1 p2 p3 p4 p5 p6:Str) (h:∀ (kV doc pm:Ja) (an:Option G') (cdv ct:Ja) (u0 u1 u2 u3 u4 u5 u6:Ja),bindArgs (fnOf x q (fH st) (dY st) (af st) .none kV doc pm an cdv ct) ⟨[u0,u1,u2,u3,u4,u5,u6],[]⟩=pure ([p0,p1,p2,p3,p4,p5,p6].zip [u0,u1,u2,u3,u4,u5,u6])):ay K fd [p0,p1,p2,p3,p4,p5,p6] []:=F.binds λa b c d e g us hl=>by (obtain⟨u0,t0,rfl,j0⟩:=bnc hl;obtain⟨u1,t1,rfl,j1⟩:=bnc j0;obtain⟨u2,t2,rfl,j2⟩:=bnc j1;obtain⟨u3,t3,rfl,j3⟩:=bnc j2;obtain⟨u4,t4,rfl,j4⟩:=bnc j3;obtain⟨u5,t5,rfl,j5⟩:=bnc j4;obtain⟨u6,t6,rfl,j6⟩:=bnc j5;obtain rfl:=length_eq_zero_iff.mp j6;exact h a b c d e g u0 u1 u2 u3 u4 u5 u6)
def all_mk {l:PySem.W.OpenLaw}{w:Jp}{K:Jh}{h:JB}{mg:Str->Option Ja}{fa:G'}(X:K.In h) (G:h.Ns JO mg) (hfa:mg "law"=dk (.ref fa))
 {f_z0 f_z1 f_z2 f_z3 f_z4 f_z5 f_z6 f_z7 f_z8 f_z9 f_z10 f_z11 f_z12 f_z13 f_z14 f_z15 f_z16 f_z17 f_z18 f_z19 f_z20 f_z21 f_z22 f_z23 f_z24 f_z25 f_z26 f_z27 f_z28 f_z29 f_z30 f_z31 f_z32 f_z33 f_z34 f_z35 f_z36 f_z37 f_z38 f_z39 f_z40 f_z41 f_z42 f_z43 f_z44 f_z45 f_z46 f_z47 f_z48 f_z49 f_z50 f_z51 f_z52 f_z53 f_z54 f_z55 f_z56 f_z57 f_z58 f_z59 f_z60 f_z61 f_z62 f_z63 f_z64 f_z65 f_z66 f_z67 f_z68 f_z69 f_z70 C_Ring C_Judge C_Hand C_Heart C_Store C_Yard C_RingError C_Full C_NoName C_NoTask C_NoDeed fO bz aH jX fh fo fM fi fw fL fK fq:G'}
 {tod_ASKS:Option G'} {tsl_ASKS:Array (Option Ja)} {tn_ASKS:Nat} {tt0_ASKS tt1_ASKS tt2_ASKS:Tok}
 {tod_ANSWERS:Option G'} {tsl_ANSWERS:Array (Option Ja)} {tn_ANSWERS:Nat} {tt0_ANSWERS tt1_ANSWERS tt2_ANSWERS:Tok}
 {tod_SLEEP_CELLS:Option G'} {tsl_SLEEP_CELLS:Array (Option Ja)} {tn_SLEEP_CELLS:Nat} {tt0_SLEEP_CELLS tt1_SLEEP_CELLS:Tok}
 {ti_MOST_WORTH:Tok}
 {tep_FORMS:Nat} {th0_FORMS th1_FORMS th2_FORMS th3_FORMS th4_FORMS th5_FORMS th6_FORMS th7_FORMS:Int} {tk0_FORMS tk1_FORMS tk2_FORMS tk3_FORMS tk4_FORMS tk5_FORMS tk6_FORMS tk7_FORMS:Tok}
 {vod0_FORMS:Option G'} {vsl0_FORMS:Array (Option Ja)} {vn0_FORMS:Nat} {vt0_0_FORMS:Tok}
 {vod1_FORMS:Option G'} {vsl1_FORMS:Array (Option Ja)} {vn1_FORMS:Nat}
 {vod2_FORMS:Option G'} {vsl2_FORMS:Array (Option Ja)} {vn2_FORMS:Nat}
 {vod3_FORMS:Option G'} {vsl3_FORMS:Array (Option Ja)} {vn3_FORMS:Nat} {vt3_0_FORMS vt3_1_FORMS:Tok}
 {vod4_FORMS:Option G'} {vsl4_FORMS:Array (Option Ja)} {vn4_FORMS:Nat} {vt4_0_FORMS:Tok}
 {vod5_FORMS:Option G'} {vsl5_FORMS:Array (Option Ja)} {vn5_FORMS:Nat} {vt5_0_FORMS:Tok}
 {vod6_FORMS:Option G'} {vsl6_FORMS:Array (Option Ja)} {vn6_FORMS:Nat} {vt6_0_FORMS:Tok}
 {vod7_FORMS:Option G'} {vsl7_FORMS:Array (Option Ja)} {vn7_FORMS:Nat} {vt7_0_FORMS:Tok}
 (aC_Ring:ClA K C_Ring "Ring")
 (aC_Judge:ClA K C_Judge "Judge")
 (aC_Hand:ClA K C_Hand "Hand")
 (aC_Heart:ClA K C_Heart "Heart")
 (aC_Store:ClA K C_Store "Store")
 (aC_Yard:ClA K C_Yard "Yard")
 (l_z0:NsA K f_z0 "next_counter" gt)
 (l_z1:NsA K f_z1 "place_of" lN)
 (l_z2:NsA K f_z2 "ahead_by" mn)
 (l_z3:NsA K f_z3 "rounds_with" gR)
 (l_z4:MtA K C_Ring f_z4 "__init__" "Ring.__init__" j8)
 (l_z5:MtA K C_Ring f_z5 "filled" "Ring.filled" i8)
 (l_z6:MtA K C_Ring f_z6 "is_full" "Ring.is_full" gw)
 (l_z7:MtA K C_Ring f_z7 "place_at" "Ring.place_at" ff)
 (l_z8:MtA K C_Ring f_z8 "write_further" "Ring.write_further" cI)
 (l_z9:MtA K C_Ring f_z9 "lay" "Ring.lay" ma)
 (l_z10:MtA K C_Ring f_z10 "fetch" "Ring.fetch" jq)
 (l_z11:MtA K C_Judge f_z11 "__init__" "Judge.__init__" ip)
 (l_z12:MtA K C_Judge f_z12 "fits" "Judge.fits" jv)
 (l_z13:MtA K C_Judge f_z13 "go_on" "Judge.go_on" iz)
 (l_z14:NsA K f_z14 "first_wrong" i5)
 (l_z15:NsA K f_z15 "not_fetched" im)
 (l_z16:MtA K C_Hand f_z16 "__init__" "Hand.__init__" iS)
 (l_z17:MtA K C_Hand f_z17 "least_free" "Hand.least_free" eD)
 (l_z18:MtA K C_Hand f_z18 "check_ask" "Hand.check_ask" eX)
 (l_z19:MtA K C_Hand f_z19 "ask" "Hand.ask" m8)
 (l_z20:MtA K C_Hand f_z20 "collect" "Hand.collect" gg)
 (l_z21:MtA K C_Hand f_z21 "something_waits" "Hand.something_waits" c6)
 (l_z22:MtA K C_Heart f_z22 "__init__" "Heart.__init__" gW)
 (l_z23:MtA K C_Heart f_z23 "take" "Heart.take" iU)
 (l_z24:MtA K C_Heart f_z24 "check_answer" "Heart.check_answer" cG)
 (l_z25:MtA K C_Heart f_z25 "answer" "Heart.answer" gm)
 (l_z26:MtA K C_Heart f_z26 "tasks" "Heart.tasks" gQ)
 (l_z27:MtA K C_Heart f_z27 "something_waits" "Heart.something_waits" bN)
 (l_z28:MtA K C_Store f_z28 "__init__" "Store.__init__" iA)
 (l_z29:MtA K C_Store f_z29 "write" "Store.write" hW)
 (l_z30:MtA K C_Store f_z30 "drain" "Store.drain" gS)
 (l_z31:MtA K C_Store f_z31 "fence" "Store.fence" i0)
 (l_z32:MtA K C_Store f_z32 "read" "Store.read" ji)
 (l_z33:MtA K C_Store f_z33 "memory" "Store.memory" gk)
 (l_z34:MtA K C_Store f_z34 "waits" "Store.waits" hG)
 (l_z35:NsA K f_z35 "is_whole" mj)
 (l_z36:NsA K f_z36 "is_part" nW)
 (l_z37:NsA K f_z37 "is_deed" nz)
 (l_z38:NsA K f_z38 "side_of" oE)
 (l_z39:MtA K C_Yard f_z39 "__init__" "Yard.__init__" jw)
 (l_z40:MtA K C_Yard f_z40 "deed" "Yard.deed" k9)
 (l_z41:MtA K C_Yard f_z41 "can_be_done" "Yard.can_be_done" dI)
 (l_z42:MtA K C_Yard f_z42 "story" "Yard.story" iX)
 (l_z43:MtA K C_Yard f_z43 "sleeper" "Yard.sleeper" gu)
 (l_z44:MtA K C_Yard f_z44 "is_quiet" "Yard.is_quiet" fG)
 (l_z45:MtA K C_Yard f_z45 "made" "Yard.made" kj)
 (l_z46:MtA K C_Yard f_z46 "store" "Yard.store" jm)
 (l_z47:MtA K C_Yard f_z47 "check" "Yard.check" jr)
 (l_z48:MtA K C_Yard f_z48 "is_allowed" "Yard.is_allowed" dR)
 (l_z49:MtA K C_Yard f_z49 "thinkable" "Yard.thinkable" eY)
 (l_z50:MtA K C_Yard f_z50 "do_ask" "Yard.do_ask" ic)
 (l_z51:MtA K C_Yard f_z51 "do_answer" "Yard.do_answer" eV)
 (l_z52:MtA K C_Yard f_z52 "tell_fetched" "Yard.tell_fetched" d6)
 (l_z53:MtA K C_Yard f_z53 "do_bell" "Yard.do_bell" gp)
 (l_z54:MtA K C_Yard f_z54 "do_lie" "Yard.do_lie" ia)
 (l_z55:MtA K C_Yard f_z55 "do_look" "Yard.do_look" gn)
 (l_z56:MtA K C_Yard f_z56 "something_waits" "Yard.something_waits" c7)
 (l_z57:NsA K f_z57 "errs" zI)
 (l_z58:NsA K f_z58 "filled_in_memory" dD)
 (l_z59:NsA K f_z59 "miscounts" ku)
 (l_z60:NsA K f_z60 "oversleeps" iV)
 (l_z61:NsA K f_z61 "_law_cell_at" iw)
 (l_z62:NsA K f_z62 "_law_row" nC)
 (l_z63:NsA K f_z63 "_law_take" lX)
 (l_z64:NsA K f_z64 "_law_rows_of" ig)
 (l_z65:NsA K f_z65 "_law_story_right" en)
 (l_z66:NsA K f_z66 "_law_apart" km)
 (l_z67:NsA K f_z67 "_law_errs" mi)
 (l_z68:NsA K f_z68 "_law_turned_quiet" dL)
 (l_z69:NsA K f_z69 "_law_faults" je)
 (l_z70:NsA K f_z70 "law" Dy)
 (na_Ring:D4 K C_Ring ["shelf","side","word","laid","fetched","size","rounds","counter_first"])
 (na_Judge:D4 K C_Judge ["untaken","unhanded","going","doing"])
 (na_Hand:D4 K C_Hand ["asks","answers","names","going"])
 (na_Heart:D4 K C_Heart ["asks","answers","doing"])
 (na_Store:D4 K C_Store ["held","rows"])
 (na_Yard:D4 K C_Yard ["size","rounds","faults","shelf","hand","heart","bell_fences","lie_fences","look_sees","sleepers","quiet","happened"])
 (nn:I8 K ["all","bool","enumerate","int","isinstance","len","list","range","reversed","set","sorted","str","tuple","zip"])
 (aX_RingError:nsIn K JO "RingError"=dk (dk (.ref C_RingError)))
 (aX_Full:nsIn K JO "Full"=dk (dk (.ref C_Full)))
 (aX_NoName:nsIn K JO "NoName"=dk (dk (.ref C_NoName)))
 (aX_NoTask:nsIn K JO "NoTask"=dk (dk (.ref C_NoTask)))
 (aX_NoDeed:nsIn K JO "NoDeed"=dk (dk (.ref C_NoDeed)))
 (aT_ASKS:nsIn K JO "ASKS"=dk (dk (.ref fO)))
 (kT_ASKS:K.lookup fO=dk ⟨.type "tuple",tod_ASKS,.seq #[.str "ask" tt0_ASKS,.str "asked" tt1_ASKS,.str "taken" tt2_ASKS] tn_ASKS,tsl_ASKS⟩)
 (aT_ANSWERS:nsIn K JO "ANSWERS"=dk (dk (.ref bz)))
 (kT_ANSWERS:K.lookup bz=dk ⟨.type "tuple",tod_ANSWERS,.seq #[.str "answer" tt0_ANSWERS,.str "answered" tt1_ANSWERS,.str "handed" tt2_ANSWERS] tn_ANSWERS,tsl_ANSWERS⟩)
 (aT_SLEEP_CELLS:nsIn K JO "SLEEP_CELLS"=dk (dk (.ref aH)))
 (kT_SLEEP_CELLS:K.lookup aH=dk ⟨.type "tuple",tod_SLEEP_CELLS,.seq #[.str "hand sleeps" tt0_SLEEP_CELLS,.str "heart sleeps" tt1_SLEEP_CELLS] tn_SLEEP_CELLS,tsl_SLEEP_CELLS⟩)
 (aI_MOST_WORTH:nsIn K JO "MOST_WORTH"=dk (dk (.int 1000000000 ti_MOST_WORTH)))
 (aT_FORMS:nsIn K JO "FORMS"=dk (dk (.ref jX)))
 (kT_FORMS:K.lookup jX=dk ⟨.type "dict",Jd,.dict #[⟨th0_FORMS,.str "ask" tk0_FORMS,.ref fh⟩,⟨th1_FORMS,.str "collect" tk1_FORMS,.ref fo⟩,⟨th2_FORMS,.str "take" tk2_FORMS,.ref fM⟩,⟨th3_FORMS,.str "answer" tk3_FORMS,.ref fi⟩,⟨th4_FORMS,.str "bell" tk4_FORMS,.ref fw⟩,⟨th5_FORMS,.str "lie" tk5_FORMS,.ref fL⟩,⟨th6_FORMS,.str "look" tk6_FORMS,.ref fK⟩,⟨th7_FORMS,.str "drain" tk7_FORMS,.ref fq⟩] tep_FORMS,#[]⟩)
 (kN_FORMS:(jX == KA)=j')
 (kV0_FORMS:K.lookup fh=dk ⟨.type "tuple",vod0_FORMS,.seq #[.str "worth" vt0_0_FORMS] vn0_FORMS,vsl0_FORMS⟩)
 (kV1_FORMS:K.lookup fo=dk ⟨.type "tuple",vod1_FORMS,.seq #[] vn1_FORMS,vsl1_FORMS⟩)
 (kV2_FORMS:K.lookup fM=dk ⟨.type "tuple",vod2_FORMS,.seq #[] vn2_FORMS,vsl2_FORMS⟩)
 (kV3_FORMS:K.lookup fi=dk ⟨.type "tuple",vod3_FORMS,.seq #[.str "name" vt3_0_FORMS,.str "worth" vt3_1_FORMS] vn3_FORMS,vsl3_FORMS⟩)
 (kV4_FORMS:K.lookup fw=dk ⟨.type "tuple",vod4_FORMS,.seq #[.str "side" vt4_0_FORMS] vn4_FORMS,vsl4_FORMS⟩)
 (kV5_FORMS:K.lookup fL=dk ⟨.type "tuple",vod5_FORMS,.seq #[.str "side" vt5_0_FORMS] vn5_FORMS,vsl5_FORMS⟩)
 (kV6_FORMS:K.lookup fK=dk ⟨.type "tuple",vod6_FORMS,.seq #[.str "side" vt6_0_FORMS] vn6_FORMS,vsl6_FORMS⟩)
 (kV7_FORMS:K.lookup fq=dk ⟨.type "tuple",vod7_FORMS,.seq #[.str "side" vt7_0_FORMS] vn7_FORMS,vsl7_FORMS⟩)
 (xc_Full:excIn K C_Full veB "ValueError.__new__"=D')
 (xc_NoName:excIn K C_NoName veB "ValueError.__new__"=D')
 (xc_NoTask:excIn K C_NoTask veB "ValueError.__new__"=D')
 (xc_NoDeed:excIn K C_NoDeed veB "ValueError.__new__"=D')
 (mo_em_f:Ki K (.ref C_Full) (.ref C_RingError)=dk D')
 (mo_em_n:Ki K (.ref C_NoName) (.ref C_RingError)=dk D')
 (mo_em_t:Ki K (.ref C_NoTask) (.ref C_RingError)=dk D')
 (mo_em_d:Ki K (.ref C_NoDeed) (.ref C_RingError)=dk D')
 (mo_em_dd:Ki K (.ref C_NoDeed) (.ref C_NoDeed)=dk D')
 (mo_em_df:Ki K (.ref C_NoDeed) (.ref C_Full)=dk j')
 (mo_em_dn:Ki K (.ref C_NoDeed) (.ref C_NoName)=dk j')
 (mo_em_dt:Ki K (.ref C_NoDeed) (.ref C_NoTask)=dk j')
 (mo_em_fd:Ki K (.ref C_Full) (.ref C_NoDeed)=dk j')
 (mo_em_ff:Ki K (.ref C_Full) (.ref C_Full)=dk D')
 (mo_em_fn:Ki K (.ref C_Full) (.ref C_NoName)=dk j')
 (mo_em_ft:Ki K (.ref C_Full) (.ref C_NoTask)=dk j')
 (mo_em_nd:Ki K (.ref C_NoName) (.ref C_NoDeed)=dk j')
 (mo_em_nf:Ki K (.ref C_NoName) (.ref C_Full)=dk j')
 (mo_em_nn:Ki K (.ref C_NoName) (.ref C_NoName)=dk D')
 (mo_em_nt:Ki K (.ref C_NoName) (.ref C_NoTask)=dk j')
 (mo_em_td:Ki K (.ref C_NoTask) (.ref C_NoDeed)=dk j')
 (mo_em_tf:Ki K (.ref C_NoTask) (.ref C_Full)=dk j')
 (mo_em_tn:Ki K (.ref C_NoTask) (.ref C_NoName)=dk j')
 (mo_em_tt:Ki K (.ref C_NoTask) (.ref C_NoTask)=dk D') :
 ∃ fd:Jq,(∀ (s:Jc) (v:Ja),BindsTo s fd ⟨[v],[]⟩ [("script",v)])/\∀ base:JB,K.In base->base.Ns JO mg->FnOk l.prog w K mg base CX0 17 fa fd ["script"] (wo K):=by
 have e:=hfa.symm.trans (mg_of X G l_z70.1);cases e;obtain⟨p_Ring,q_Ring,r_Ring⟩:=pN X G aC_Ring l_z4;obtain⟨p_Judge,q_Judge,r_Judge⟩:=pN X G aC_Judge l_z11;obtain⟨p_Hand,q_Hand,r_Hand⟩:=pN X G aC_Hand l_z16;obtain⟨p_Heart,q_Heart,r_Heart⟩:=pN X G aC_Heart l_z22;obtain⟨p_Store,q_Store,r_Store⟩:=pN X G aC_Store l_z28;obtain⟨p_Yard,q_Yard,r_Yard⟩:=pN X G aC_Yard l_z39;obtain⟨m_z0,d_z0,MN⟩:=c9 X G l_z0;have Lw:=bn3 MN "counter" "size" "rounds" λ_ _ _ _ _ _ _ _ _=>rfl
 obtain⟨m_z1,d_z1,MO⟩:=c9 X G l_z1;have Lx:=bn2 MO "counter" "size" λ_ _ _ _ _ _ _ _=>rfl
 obtain⟨m_z2,d_z2,M0⟩:=c9 X G l_z2;have LK:=bn4 M0 "one" "other" "size" "rounds" λ_ _ _ _ _ _ _ _ _ _=>rfl
 obtain⟨m_z3,d_z3,Nd⟩:=c9 X G l_z3;have LW:=bn2 Nd "rounds" "faults" λ_ _ _ _ _ _ _ _=>rfl
 obtain⟨m_z4,d_z4,Nq⟩:=aM l_z4;have L9:=bn7 Nq "self" "store" "side" "words" "size" "rounds" "faults" λ_ _ _ _ _ _ _ _ _ _ _ _ _=>rfl
 obtain⟨m_z5,d_z5,NC⟩:=aM l_z5;have Ml:=bn1 NC "self" λ_ _ _ _ _ _ _=>rfl
 obtain⟨m_z6,d_z6,NO⟩:=aM l_z6;have Mw:=bn1 NO "self" λ_ _ _ _ _ _ _=>rfl
 obtain⟨m_z7,d_z7,NZ⟩:=aM l_z7;have MJ:=bn2 NZ "self" "counter" λ_ _ _ _ _ _ _ _=>rfl
 obtain⟨m_z8,d_z8,N1⟩:=aM l_z8;have ML:=bn3 N1 "self" "cell" "counter" λ_ _ _ _ _ _ _ _ _=>rfl
 obtain⟨m_z9,d_z9,N2⟩:=aM l_z9;have MM:=bn3 N2 "self" "name" "worth" λ_ _ _ _ _ _ _ _ _=>rfl
 obtain⟨m_z10,d_z10,MP⟩:=aM l_z10;have Ly:=bn1 MP "self" λ_ _ _ _ _ _ _=>rfl
 obtain⟨m_z11,d_z11,MQ⟩:=aM l_z11;have Lz:=bn1 MQ "self" λ_ _ _ _ _ _ _=>rfl
 obtain⟨m_z12,d_z12,MR⟩:=aM l_z12;have LB:=bn4 MR "self" "word" "name" "worth" λ_ _ _ _ _ _ _ _ _ _=>rfl
 obtain⟨m_z13,d_z13,MS⟩:=aM l_z13;have LC:=bn4 MS "self" "word" "name" "worth" λ_ _ _ _ _ _ _ _ _ _=>rfl
 obtain⟨m_z14,d_z14,MT⟩:=c9 X G l_z14;have LD:=bn1 MT "story" λ_ _ _ _ _ _ _=>rfl
 obtain⟨m_z15,d_z15,MU⟩:=c9 X G l_z15;have LF:=bn3 MU "story" "laid" "fetched" λ_ _ _ _ _ _ _ _ _=>rfl
 obtain⟨m_z16,d_z16,MV⟩:=aM l_z16;have LG:=bn6 MV "self" "store" "size" "rounds" "names" "faults" λ_ _ _ _ _ _ _ _ _ _ _ _=>rfl
 obtain⟨m_z17,d_z17,MW⟩:=aM l_z17;have LH:=bn1 MW "self" λ_ _ _ _ _ _ _=>rfl
 obtain⟨m_z18,d_z18,MY⟩:=aM l_z18;have LI:=bn1 MY "self" λ_ _ _ _ _ _ _=>rfl
 obtain⟨m_z19,d_z19,MZ⟩:=aM l_z19;have LJ:=bn2 MZ "self" "worth" λ_ _ _ _ _ _ _ _=>rfl
 obtain⟨m_z20,d_z20,M3⟩:=aM l_z20;have LL:=bn1 M3 "self" λ_ _ _ _ _ _ _=>rfl
 obtain⟨m_z21,d_z21,M4⟩:=aM l_z21;have LM:=bn1 M4 "self" λ_ _ _ _ _ _ _=>rfl
 obtain⟨m_z22,d_z22,M5⟩:=aM l_z22;have LN:=bn5 M5 "self" "store" "size" "rounds" "faults" λ_ _ _ _ _ _ _ _ _ _ _=>rfl
 obtain⟨m_z23,d_z23,M6⟩:=aM l_z23;have LO:=bn1 M6 "self" λ_ _ _ _ _ _ _=>rfl
 obtain⟨m_z24,d_z24,M7⟩:=aM l_z24;have LP:=bn2 M7 "self" "name" λ_ _ _ _ _ _ _ _=>rfl
 obtain⟨m_z25,d_z25,M8⟩:=aM l_z25;have LQ:=bn3 M8 "self" "name" "worth" λ_ _ _ _ _ _ _ _ _=>rfl
 obtain⟨m_z26,d_z26,M9⟩:=aM l_z26;have LR:=bn1 M9 "self" λ_ _ _ _ _ _ _=>rfl
 obtain⟨m_z27,d_z27,Na⟩:=aM l_z27;have LS:=bn1 Na "self" λ_ _ _ _ _ _ _=>rfl
 obtain⟨m_z28,d_z28,Nb⟩:=aM l_z28;have LU:=bn1 Nb "self" λ_ _ _ _ _ _ _=>rfl
 obtain⟨m_z29,d_z29,Nc⟩:=aM l_z29;have LV:=bn4 Nc "self" "side" "cell" "worth" λ_ _ _ _ _ _ _ _ _ _=>rfl
 obtain⟨m_z30,d_z30,Nf⟩:=aM l_z30;have LX:=bn2 Nf "self" "side" λ_ _ _ _ _ _ _ _=>rfl
 obtain⟨m_z31,d_z31,Ng⟩:=aM l_z31;have LY:=bn2 Ng "self" "side" λ_ _ _ _ _ _ _ _=>rfl
 obtain⟨m_z32,d_z32,Nh⟩:=aM l_z32;have LZ:=bn3 Nh "self" "side" "cell" λ_ _ _ _ _ _ _ _ _=>rfl
 obtain⟨m_z33,d_z33,Ni⟩:=aM l_z33;have L0:=bn2 Ni "self" "cell" λ_ _ _ _ _ _ _ _=>rfl
 obtain⟨m_z34,d_z34,Nj⟩:=aM l_z34;have L1:=bn2 Nj "self" "side" λ_ _ _ _ _ _ _ _=>rfl
 obtain⟨m_z35,d_z35,Nk⟩:=c9 X G l_z35;have L3:=bn1 Nk "value" λ_ _ _ _ _ _ _=>rfl
 obtain⟨m_z36,d_z36,Nl⟩:=c9 X G l_z36;have L4:=bn2 Nl "value" "kind" λ_ _ _ _ _ _ _ _=>rfl
 obtain⟨m_z37,d_z37,Nm⟩:=c9 X G l_z37;have L6:=bn1 Nm "some" λ_ _ _ _ _ _ _=>rfl
 obtain⟨m_z38,d_z38,Nn⟩:=c9 X G l_z38;have L7:=bn1 Nn "some" λ_ _ _ _ _ _ _=>rfl
 obtain⟨m_z39,d_z39,Np⟩:=aM l_z39;have L8:=bn5 Np "self" "size" "rounds" "names" "faults" λ_ _ _ _ _ _ _ _ _ _ _=>rfl
 obtain⟨m_z40,d_z40,Nr⟩:=aM l_z40;have Ma:=bn2 Nr "self" "some" λ_ _ _ _ _ _ _ _=>rfl
 obtain⟨m_z41,d_z41,Nt⟩:=aM l_z41;have Mb:=bn2 Nt "self" "worths" λ_ _ _ _ _ _ _ _=>rfl
 obtain⟨m_z42,d_z42,Nu⟩:=aM l_z42;have Mc:=bn1 Nu "self" λ_ _ _ _ _ _ _=>rfl
 obtain⟨m_z43,d_z43,Nv⟩:=aM l_z43;have Md:=bn2 Nv "self" "side" λ_ _ _ _ _ _ _ _=>rfl
 obtain⟨m_z44,d_z44,Nw⟩:=aM l_z44;have Me:=bn2 Nw "self" "side" λ_ _ _ _ _ _ _ _=>rfl
 obtain⟨m_z45,d_z45,Nx⟩:=aM l_z45;have Mf:=bn1 Nx "self" λ_ _ _ _ _ _ _=>rfl
 obtain⟨m_z46,d_z46,Ny⟩:=aM l_z46;have Mg:=bn1 Ny "self" λ_ _ _ _ _ _ _=>rfl
 obtain⟨m_z47,d_z47,Nz⟩:=aM l_z47;have Mh:=bn2 Nz "self" "some" λ_ _ _ _ _ _ _ _=>rfl
 obtain⟨m_z48,d_z48,NA⟩:=aM l_z48;have Mi:=bn2 NA "self" "some" λ_ _ _ _ _ _ _ _=>rfl
 obtain⟨m_z49,d_z49,NB⟩:=aM l_z49;have Mj:=bn2 NB "self" "worths" λ_ _ _ _ _ _ _ _=>rfl
 obtain⟨m_z50,d_z50,ND⟩:=aM l_z50;have Mm:=bn2 ND "self" "worth" λ_ _ _ _ _ _ _ _=>rfl
 obtain⟨m_z51,d_z51,NF⟩:=aM l_z51;have Mn:=bn3 NF "self" "name" "worth" λ_ _ _ _ _ _ _ _ _=>rfl
 obtain⟨m_z52,d_z52,NG⟩:=aM l_z52;have Mo:=bn3 NG "self" "word" "told" λ_ _ _ _ _ _ _ _ _=>rfl
 obtain⟨m_z53,d_z53,NH⟩:=aM l_z53;have Mp:=bn2 NH "self" "side" λ_ _ _ _ _ _ _ _=>rfl
 obtain⟨m_z54,d_z54,NI⟩:=aM l_z54;have Mq:=bn2 NI "self" "side" λ_ _ _ _ _ _ _ _=>rfl
 obtain⟨m_z55,d_z55,NJ⟩:=aM l_z55;have Mr:=bn2 NJ "self" "side" λ_ _ _ _ _ _ _ _=>rfl
 obtain⟨m_z56,d_z56,NK⟩:=aM l_z56;have Ms:=bn2 NK "self" "side" λ_ _ _ _ _ _ _ _=>rfl
 obtain⟨m_z57,d_z57,NL⟩:=c9 X G l_z57;have Mt:=bn1 NL "yard" λ_ _ _ _ _ _ _=>rfl
 obtain⟨m_z58,d_z58,NM⟩:=c9 X G l_z58;have Mu:=bn2 NM "yard" "words" λ_ _ _ _ _ _ _ _=>rfl
 obtain⟨m_z59,d_z59,NN⟩:=c9 X G l_z59;have Mv:=bn3 NN "yard" "story" "words" λ_ _ _ _ _ _ _ _ _=>rfl
 obtain⟨m_z60,d_z60,NP⟩:=c9 X G l_z60;have Mx:=bn2 NP "yard" "side" λ_ _ _ _ _ _ _ _=>rfl
 obtain⟨m_z61,d_z61,NQ⟩:=c9 X G l_z61;have Mz:=bn2 NQ "script" "k" λ_ _ _ _ _ _ _ _=>rfl
 obtain⟨m_z62,d_z62,NR⟩:=c9 X G l_z62;have MA:=bn1 NR "cell" λ_ _ _ _ _ _ _=>rfl
 obtain⟨m_z63,d_z63,NS⟩:=c9 X G l_z63;have MB:=bn2 NS "row" "many" λ_ _ _ _ _ _ _ _=>rfl
 obtain⟨m_z64,d_z64,NT⟩:=c9 X G l_z64;have MC:=bn2 NT "story" "word" λ_ _ _ _ _ _ _ _=>rfl
 obtain⟨m_z65,d_z65,NU⟩:=c9 X G l_z65;have ME:=bn1 NU "story" λ_ _ _ _ _ _ _=>rfl
 obtain⟨m_z66,d_z66,NV⟩:=c9 X G l_z66;have MF:=bn4 NV "yard" "side" "size" "rounds" λ_ _ _ _ _ _ _ _ _ _=>rfl
 obtain⟨m_z67,d_z67,NW⟩:=c9 X G l_z67;have MG:=bn4 NW "yard" "size" "rounds" "quiet" λ_ _ _ _ _ _ _ _ _ _=>rfl
 obtain⟨m_z68,d_z68,NX⟩:=c9 X G l_z68;have MH:=bn2 NX "quiet" "some" λ_ _ _ _ _ _ _ _=>rfl
 obtain⟨m_z69,d_z69,NY⟩:=c9 X G l_z69;have MI:=bn1 NY "row" λ_ _ _ _ _ _ _=>rfl
 obtain⟨m_z70,d_z70,N0⟩:=c9 X G l_z70;have MK:=bn1 N0 "script" λ_ _ _ _ _ _ _=>rfl
 let ad:Ad:=⟨f_z0,f_z1,f_z2,f_z3,f_z4,f_z5,f_z6,f_z7,f_z8,f_z9,f_z10,f_z11,f_z12,f_z13,f_z14,f_z15,f_z16,f_z17,f_z18,f_z19,f_z20,f_z21,f_z22,f_z23,f_z24,f_z25,f_z26,f_z27,f_z28,f_z29,f_z30,f_z31,f_z32,f_z33,f_z34,f_z35,f_z36,f_z37,f_z38,f_z39,f_z40,f_z41,f_z42,f_z43,f_z44,f_z45,f_z46,f_z47,f_z48,f_z49,f_z50,f_z51,f_z52,f_z53,f_z54,f_z55,f_z56,f_z57,f_z58,f_z59,f_z60,f_z61,f_z62,f_z63,f_z64,f_z65,f_z66,f_z67,f_z68,f_z69,fa,C_Ring,C_Judge,C_Hand,C_Heart,C_Store,C_Yard,C_RingError,C_Full,C_NoName,C_NoTask,C_NoDeed,fO,bz,aH,jX,fh,fo,fM,fi,fw,fL,fK,fq⟩
 let dd:Fd:=⟨d_z0,d_z1,d_z2,d_z3,d_z4,d_z5,d_z6,d_z7,d_z8,d_z9,d_z10,d_z11,d_z12,d_z13,d_z14,d_z15,d_z16,d_z17,d_z18,d_z19,d_z20,d_z21,d_z22,d_z23,d_z24,d_z25,d_z26,d_z27,d_z28,d_z29,d_z30,d_z31,d_z32,d_z33,d_z34,d_z35,d_z36,d_z37,d_z38,d_z39,d_z40,d_z41,d_z42,d_z43,d_z44,d_z45,d_z46,d_z47,d_z48,d_z49,d_z50,d_z51,d_z52,d_z53,d_z54,d_z55,d_z56,d_z57,d_z58,d_z59,d_z60,d_z61,d_z62,d_z63,d_z64,d_z65,d_z66,d_z67,d_z68,d_z69,d_z70⟩
 have GG:Gs K mg ad dd:=⟨MN,Lw,m_z0,MO,Lx,m_z1,M0,LK,m_z2,Nd,LW,m_z3,Nq,L9,NC,Ml,m_z5,NO,Mw,m_z6,NZ,MJ,m_z7,N1,ML,m_z8,N2,MM,m_z9,MP,Ly,m_z10,MQ,Lz,MR,LB,m_z12,MS,LC,m_z13,MT,LD,m_z14,MU,LF,m_z15,MV,LG,MW,LH,m_z17,MY,LI,m_z18,MZ,LJ,m_z19,M3,LL,m_z20,M4,LM,m_z21,M5,LN,M6,LO,m_z23,M7,LP,m_z24,M8,LQ,m_z25,M9,LR,m_z26,Na,LS,m_z27,Nb,LU,Nc,LV,m_z29,Nf,LX,m_z30,Ng,LY,m_z31,Nh,LZ,m_z32,Ni,L0,m_z33,Nj,L1,m_z34,Nk,L3,m_z35,Nl,L4,m_z36,Nm,L6,m_z37,Nn,L7,m_z38,Np,L8,Nr,Ma,m_z40,Nt,Mb,m_z41,Nu,Mc,m_z42,Nv,Md,m_z43,Nw,Me,m_z44,Nx,Mf,m_z45,Ny,Mg,m_z46,Nz,Mh,m_z47,NA,Mi,m_z48,NB,Mj,m_z49,ND,Mm,m_z50,NF,Mn,m_z51,NG,Mo,m_z52,NH,Mp,m_z53,NI,Mq,m_z54,NJ,Mr,m_z55,NK,Ms,m_z56,NL,Mt,m_z57,NM,Mu,m_z58,NN,Mv,m_z59,NP,Mx,m_z60,NQ,Mz,m_z61,NR,MA,m_z62,NS,MB,m_z63,NT,MC,m_z64,NU,ME,m_z65,NV,MF,m_z66,NW,MG,m_z67,NX,MH,m_z68,NY,MI,m_z69,N0,MK,m_z70,q_Ring,p_Ring,r_Ring,na_Ring.1,na_Ring.2.1,na_Ring.2.2.1,na_Ring.2.2.2.1,na_Ring.2.2.2.2.1,na_Ring.2.2.2.2.2.1,na_Ring.2.2.2.2.2.2.1,na_Ring.2.2.2.2.2.2.2.1,q_Judge,p_Judge,r_Judge,na_Judge.1,na_Judge.2.1,na_Judge.2.2.1,na_Judge.2.2.2.1,q_Hand,p_Hand,r_Hand,na_Hand.1,na_Hand.2.1,na_Hand.2.2.1,na_Hand.2.2.2.1,q_Heart,p_Heart,r_Heart,na_Heart.1,na_Heart.2.1,na_Heart.2.2.1,q_Store,p_Store,r_Store,na_Store.1,na_Store.2.1,q_Yard,p_Yard,r_Yard,na_Yard.1,na_Yard.2.1,na_Yard.2.2.1,na_Yard.2.2.2.1,na_Yard.2.2.2.2.1,na_Yard.2.2.2.2.2.1,na_Yard.2.2.2.2.2.2.1,na_Yard.2.2.2.2.2.2.2.1,na_Yard.2.2.2.2.2.2.2.2.1,na_Yard.2.2.2.2.2.2.2.2.2.1,na_Yard.2.2.2.2.2.2.2.2.2.2.1,na_Yard.2.2.2.2.2.2.2.2.2.2.2.1,KZ X G nn.1,KZ X G nn.2.1,KZ X G nn.2.2.1,KZ X G nn.2.2.2.1,KZ X G nn.2.2.2.2.1,KZ X G nn.2.2.2.2.2.1,KZ X G nn.2.2.2.2.2.2.1,KZ X G nn.2.2.2.2.2.2.2.1,KZ X G nn.2.2.2.2.2.2.2.2.1,KZ X G nn.2.2.2.2.2.2.2.2.2.1,KZ X G nn.2.2.2.2.2.2.2.2.2.2.1,KZ X G nn.2.2.2.2.2.2.2.2.2.2.2.1,KZ X G nn.2.2.2.2.2.2.2.2.2.2.2.2.1,KZ X G nn.2.2.2.2.2.2.2.2.2.2.2.2.2.1,mg_of X G aX_RingError,mg_of X G aX_Full,mg_of X G aX_NoName,mg_of X G aX_NoTask,mg_of X G aX_NoDeed,mg_of X G aT_ASKS,λ_=>.inr ⟨_,_,_,kT_ASKS,rfl,rfl,by show 3 <= Jm;decide,(.cons ⟨_,rfl⟩ (.cons ⟨_,rfl⟩ (.cons ⟨_,rfl⟩ .nil)))⟩,mg_of X G aT_ANSWERS,λ_=>.inr ⟨_,_,_,kT_ANSWERS,rfl,rfl,by show 3 <= Jm;decide,(.cons ⟨_,rfl⟩ (.cons ⟨_,rfl⟩ (.cons ⟨_,rfl⟩ .nil)))⟩,mg_of X G aT_SLEEP_CELLS,λ_=>.inr ⟨_,_,_,kT_SLEEP_CELLS,rfl,rfl,by show 2 <= Jm;decide,(.cons ⟨_,rfl⟩ (.cons ⟨_,rfl⟩ .nil))⟩,⟨_,mg_of X G aI_MOST_WORTH⟩,mg_of X G aT_FORMS,⟨kN_FORMS,_,_,_,kT_FORMS,⟨rfl,rfl,rfl⟩,rfl,(.cons rfl rfl (.cons rfl rfl (.cons rfl rfl (.cons rfl rfl (.cons rfl rfl (.cons rfl rfl (.cons rfl rfl (.cons rfl rfl .nil))))))))⟩,λ_=>.inr ⟨_,_,_,kV0_FORMS,rfl,rfl,by show 1 <= Jm;decide,(.cons ⟨_,rfl⟩ .nil)⟩,λ_=>.inr ⟨_,_,_,kV1_FORMS,rfl,rfl,by show 0 <= Jm;decide,.nil⟩,λ_=>.inr ⟨_,_,_,kV2_FORMS,rfl,rfl,by show 0 <= Jm;decide,.nil⟩,λ_=>.inr ⟨_,_,_,kV3_FORMS,rfl,rfl,by show 2 <= Jm;decide,(.cons ⟨_,rfl⟩ (.cons ⟨_,rfl⟩ .nil))⟩,λ_=>.inr ⟨_,_,_,kV4_FORMS,rfl,rfl,by show 1 <= Jm;decide,(.cons ⟨_,rfl⟩ .nil)⟩,λ_=>.inr ⟨_,_,_,kV5_FORMS,rfl,rfl,by show 1 <= Jm;decide,(.cons ⟨_,rfl⟩ .nil)⟩,λ_=>.inr ⟨_,_,_,kV6_FORMS,rfl,rfl,by show 1 <= Jm;decide,(.cons ⟨_,rfl⟩ .nil)⟩,λ_=>.inr ⟨_,_,_,kV7_FORMS,rfl,rfl,by show 1 <= Jm;decide,(.cons ⟨_,rfl⟩ .nil)⟩,xc_Full,xc_NoName,xc_NoTask,xc_NoDeed,mo_em_f,mo_em_n,mo_em_t,mo_em_d,mo_em_dd,mo_em_df,mo_em_dn,mo_em_dt,mo_em_fd,mo_em_ff,mo_em_fn,mo_em_ft,mo_em_nd,mo_em_nf,mo_em_nn,mo_em_nt,mo_em_td,mo_em_tf,mo_em_tn,mo_em_tt⟩
 refine⟨dd.law,?_,λbase _ _=>G5 GG⟩;obtain⟨_,_,_,_,_,_,_,_,_,e,_⟩:=N0.ex;intro s v;show BindsTo s d_z70 _ _;rw[e];exact .of_eq rfl
def walk {l:PySem.W.OpenLaw}{q:Jz}{loose:List Str}{XP:(Str->Option Ja)->JB->Prop}{YP:Jp->JB->Prop}{d:DefRec}{K:Params->Jh}(hn:l.most=dk 63) (hdf:d.params.defaults=[])
 (hY:∀ (w:Jp) (h:JB),YP w h->(K w.params).In h)
 (F:∀ (w:Jp) (mg:Str->Option Ja) (fa:G') (h:JB),(K w.params).In h->h.Ns JO mg->mg d.name=dk (.ref fa) ->
  ∃ fd:Jq,(∀ (s:Jc) (u:Ja),BindsTo s fd ⟨[u],[]⟩ [("script",u)])/\∀ base:JB,(K w.params).In base->base.Ns JO mg->FnOk l.prog w (K w.params) mg base CX0 17 fa fd ["script"] (wo (K w.params))) :
 PySem.W.WalkO q loose XP YP l.row.toRowW d [] (λf vs=>PySem.call f vs) :=
 L2.walk_of (n:=63) (k:=17) (x:="script") (CX:=λ_=>CX0) (sp:=λw=>wo (K w.params)) hn (by decide) hdf ⟨rfl,by decide,by decide⟩ hY F (λ_ _ a ns hl _ hS=>⟨a,ns,rfl,hS,hl,λ_=>rfl⟩) λ_ _ _ _ _ z=>z
end
end My
open PySem PySem.W PyProof.Rows
set_option maxRecDepth 100000 in
set_option maxHeartbeats 0 in
theorem PySem.Challenge.cw_askring_k32_when_a_yard_errs_holds : PySem.Challenge.rw_askring_k32_when_a_yard_errs.Holds := by
  w_on; o_law; k_head; (case hw => w_witness2)
  k_fill
  refine My.walk (l := PySem.Challenge.rw_askring_k32_when_a_yard_errs) rfl rfl (fun w h Y => PySem.W.kIn_of Y) ?F
  case F =>
    intro w mg fa h KX G hmg;refine' My.all_mk KX G hmg ?aC_Ring ?aC_Judge ?aC_Hand ?aC_Heart ?aC_Store ?aC_Yard ?l_z0 ?l_z1 ?l_z2 ?l_z3 ?l_z4 ?l_z5 ?l_z6 ?l_z7 ?l_z8 ?l_z9 ?l_z10 ?l_z11 ?l_z12 ?l_z13 ?l_z14 ?l_z15 ?l_z16 ?l_z17 ?l_z18 ?l_z19 ?l_z20 ?l_z21 ?l_z22 ?l_z23 ?l_z24 ?l_z25 ?l_z26 ?l_z27 ?l_z28 ?l_z29 ?l_z30 ?l_z31 ?l_z32 ?l_z33 ?l_z34 ?l_z35 ?l_z36 ?l_z37 ?l_z38 ?l_z39 ?l_z40 ?l_z41 ?l_z42 ?l_z43 ?l_z44 ?l_z45 ?l_z46 ?l_z47 ?l_z48 ?l_z49 ?l_z50 ?l_z51 ?l_z52 ?l_z53 ?l_z54 ?l_z55 ?l_z56 ?l_z57 ?l_z58 ?l_z59 ?l_z60 ?l_z61 ?l_z62 ?l_z63 ?l_z64 ?l_z65 ?l_z66 ?l_z67 ?l_z68 ?l_z69 ?l_z70 ?na_Ring ?na_Judge ?na_Hand ?na_Heart ?na_Store ?na_Yard ?nn ?aX_RingError ?aX_Full ?aX_NoName ?aX_NoTask ?aX_NoDeed ?aT_ASKS ?kT_ASKS ?aT_ANSWERS ?kT_ANSWERS ?aT_SLEEP_CELLS ?kT_SLEEP_CELLS ?aI_MOST_WORTH ?aT_FORMS ?kT_FORMS ?kN_FORMS ?kV0_FORMS ?kV1_FORMS ?kV2_FORMS ?kV3_FORMS ?kV4_FORMS ?kV5_FORMS ?kV6_FORMS ?kV7_FORMS ?xc_Full ?xc_NoName ?xc_NoTask ?xc_NoDeed ?mo_em_f ?mo_em_n ?mo_em_t ?mo_em_d ?mo_em_dd ?mo_em_df ?mo_em_dn ?mo_em_dt ?mo_em_fd ?mo_em_ff ?mo_em_fn ?mo_em_ft ?mo_em_nd ?mo_em_nf ?mo_em_nn ?mo_em_nt ?mo_em_td ?mo_em_tf ?mo_em_tn ?mo_em_tt
    (case aC_Ring | aC_Judge | aC_Hand | aC_Heart | aC_Store | aC_Yard => refine' ⟨?ka, ⟨?kb, ?kc, ?kd, ?ke⟩, ?kg, ?kh⟩; (case ka => k_is); (case kb => k_is); (case kc => k_is); (case kd => k_is); (case ke => k_is); (case kg => k_is); (case kh => k_is))
    (case l_z0 | l_z1 | l_z2 | l_z3 => refine' ⟨?ka, _, L2.fun_mk ?kb ?kc ?kd⟩; (case ka => k_is); (case kb => k_is); (case kc => k_is); (case kd => k_is))
    (case l_z4 | l_z5 | l_z6 | l_z7 | l_z8 | l_z9 | l_z10 | l_z11 | l_z12 | l_z13 => refine' ⟨?ka, ?ke, _, L2.fun_mk ?kb ?kc ?kd⟩; (case ka => k_is); (case ke => k_is); (case kb => k_is); (case kc => k_is); (case kd => k_is))
    (case l_z14 | l_z15 => refine' ⟨?ka, _, L2.fun_mk ?kb ?kc ?kd⟩; (case ka => k_is); (case kb => k_is); (case kc => k_is); (case kd => k_is))
    (case l_z16 | l_z17 | l_z18 | l_z19 | l_z20 | l_z21 | l_z22 | l_z23 | l_z24 | l_z25 | l_z26 | l_z27 | l_z28 | l_z29 | l_z30 | l_z31 | l_z32 | l_z33 | l_z34 => refine' ⟨?ka, ?ke, _, L2.fun_mk ?kb ?kc ?kd⟩; (case ka => k_is); (case ke => k_is); (case kb => k_is); (case kc => k_is); (case kd => k_is))
    (case l_z35 | l_z36 | l_z37 | l_z38 => refine' ⟨?ka, _, L2.fun_mk ?kb ?kc ?kd⟩; (case ka => k_is); (case kb => k_is); (case kc => k_is); (case kd => k_is))
    (case l_z39 | l_z40 | l_z41 | l_z42 | l_z43 | l_z44 | l_z45 | l_z46 | l_z47 | l_z48 | l_z49 | l_z50 | l_z51 | l_z52 | l_z53 | l_z54 | l_z55 | l_z56 => refine' ⟨?ka, ?ke, _, L2.fun_mk ?kb ?kc ?kd⟩; (case ka => k_is); (case ke => k_is); (case kb => k_is); (case kc => k_is); (case kd => k_is))
    (case l_z57 | l_z58 | l_z59 | l_z60 | l_z61 | l_z62 | l_z63 | l_z64 | l_z65 | l_z66 | l_z67 | l_z68 | l_z69 | l_z70 => refine' ⟨?ka, _, L2.fun_mk ?kb ?kc ?kd⟩; (case ka => k_is); (case kb => k_is); (case kc => k_is); (case kd => k_is))
    (case na_Ring | na_Judge | na_Hand | na_Heart | na_Store | na_Yard => repeat (first | exact trivial | (refine' And.intro ?ka ?_; (case ka => (show PySem.W.findIn _ _ _ = _); k_is))))
    (case nn => repeat (first | exact trivial | (refine' And.intro ?ka ?_; (case ka => k_is))))
    (case aX_RingError | aX_Full | aX_NoName | aX_NoTask | aX_NoDeed | aT_ASKS | kT_ASKS | aT_ANSWERS | kT_ANSWERS | aT_SLEEP_CELLS | kT_SLEEP_CELLS | aI_MOST_WORTH | aT_FORMS | kT_FORMS => k_is)
    (case kN_FORMS => first | rfl | decide)
    (case kV0_FORMS | kV1_FORMS | kV2_FORMS | kV3_FORMS | kV4_FORMS | kV5_FORMS | kV6_FORMS | kV7_FORMS => k_is)
    (case xc_Full | xc_NoName | xc_NoTask | xc_NoDeed => k_exc)
    (case mo_em_f | mo_em_n | mo_em_t | mo_em_d | mo_em_dd | mo_em_df | mo_em_dn | mo_em_dt | mo_em_fd | mo_em_ff | mo_em_fn | mo_em_ft | mo_em_nd | mo_em_nf | mo_em_nn | mo_em_nt | mo_em_td | mo_em_tf | mo_em_tn | mo_em_tt => kts_exm)
#print axioms PySem.Challenge.cw_askring_k32_when_a_yard_errs_holds

